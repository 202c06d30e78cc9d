/-
  Part of the proof: SeDf, SeDg, SeDh, SeMa.
-/
import Derived.Test.YtigdchbjmnbjlaaGreatDoorSeZG

/-! SeDf -/
section
open Go Go.Ev
namespace Go.Proofs.YtigdchbjmnbjlaaGreatDoor
noncomputable section
set_option maxRecDepth 100000
set_option maxHeartbeats 20000000
def x73 (C N O : List DT) (s n o p c k : Nat) (mg ms : Int) (_j : JN) : St := startK Tryz.f122 [] [.e (.agg (tQ C s N n mg ms O o)), (iN p), (iN c), (iN k)]
def x171 (O : List DT) (o : Nat) (x : Int) (_j : JN) : St := startK Tryz.f186 [] [(dQ O o), iI x]
def x181 (O : List DT) (o : Nat) (x : Int) (_j : JN) : St := startK Tryz.f199 [] [(dQ O o), iI x]
def x128 (R : List DT) (m : Nat) (_j : JN) : St := startK Tryz.f172 [] [(dQ R m)]
def y181 (O : List DT) (o i : Nat) (x : Int) (j : JN) : St := ⟨[], [(.code (aF [1, 0, 1, 0, 0] Tryz.f199)), (.inLoop (aF [1, 0, 1, 0, 0] Tryz.f199)), (.inBlock 0), (.code (aF [1, 1] Tryz.f199))], mkT j [(0, (dQ O o)), (1, (iI x)), (7, (iN o)), (8, (iN i))] 19 0⟩
def p73z_end (j : JN) : St := ⟨[], [(.code .ret), (.code (aF [1, 1] Tryz.f122))], mkT j [(8, (iI 0))] 39 0⟩
theorem p73z (hE : EnvOk E) (C N O : List DT) (s n o p c k : Nat) (mg ms : Int) (h0 : (Int.ofNat k == (0 : Int) : Bool) = true) {Φ : Res → Prop} (ho : ∀ j, OutK E 0 0 (p73z_end j) Φ) (j : JN) : OutK E 0 0 (x73 C N O s n o p c k mg ms j) Φ :=
 oS hE [.run 5, (.cond true), .run 2] [8] (s' := fun j => ⟨[(bK (tQ C s N n mg ms O o) 5 78)], [(.code .ret), (.code (aF [1, 1] Tryz.f122))], mkT j [(8, (iI 0))] 39 0⟩) (aP h0 <| aZ)
  fun j => gZ [] (ho j)
def p73_end (h : Int) (j : JN) : St := ⟨[], [(.code .ret)], mkT j [(8, (iI h))] 39 0⟩
theorem p73 (hE : EnvOk E) (C N O R : List DT) (s n o m p c k : Nat) (mg ms x z a b d e f g h : Int) (h0 : (Int.ofNat k == (0 : Int) : Bool) = false) (h1 : BinOk E.P BinOp.shl (3 : Nat) (Operand.const (Value.int IntKind.i64 (1 : Int))) (Operand.tmp (15 : Nat)) (AC.v (Value.int IntKind.i64 (1 : Int))) (AC.v (Value.int IntKind.i64 (Int.ofNat k))) (AC.v (Value.int IntKind.i64 a))) (h2 : ((iI (wrapF IntKind.i64 (a - (1 : Int)))) : AV) = (iI b)) (h3 : ((iI (wrapF IntKind.i64 (mg * b))) : AV) = (iI d)) (h4 : (0 : Int) ≤ Int.ofNat p ∧ Int.ofNat p < (↑n : Int)) (h5 : ((Int.ofNat p).toNat * nat_lit 1 : Nat) = p) (h6 : (getL N p : Option DT) = (.some (.s R m 1))) (h7 : (0 : Int) ≤ Int.ofNat c ∧ Int.ofNat c < (↑m : Int)) (h8 : ((Int.ofNat c).toNat * 1 : Nat) = c) (h9 : (getL R c : Option DT) = (.some (.v (.int .i64 x)))) (h10 : ((iI (wrapF IntKind.i64 (d * x))) : AV) = (iI e)) (h11 : (0 : Int) ≤ Int.ofNat c ∧ Int.ofNat c < (↑s : Int)) (h12 : ((Int.ofNat c).toNat * nat_lit 1 : Nat) = c) (h13 : (getL C c : Option DT) = (.some (.v (.int .i64 z)))) (h15 : ((iI (wrapF IntKind.i64 (e + z))) : AV) = (iI f)) (h16 : ((iI (wrapF IntKind.i64 (f - (1 : Int)))) : AV) = (iI g)) (h17 : (z : Int) ≠ (0 : Int)) (h18 : (wrapF IntKind.i64 (g.tdiv z) : Int) = h) {Φ : Res → Prop} (ho : ∀ j, OutK E 0 0 (p73_end h j) Φ) (j : JN) : OutK E 0 0 (x73 C N O s n o p c k mg ms j) Φ :=
 oS hE [.run 5, (.cond false), .run 2, (.ops [(3, (.fb (.v (.int .i64 a)))), (4, (.rn (iI b))), (5, (.rn (iI d))), (10, (.d (.ld (.s R m 1)))), (13, (.d (.ld (.v (.int .i64 x))))), (14, (.rn (iI e))), (19, (.d (.ld (.v (.int .i64 z))))), (9, (.d (.ix p))), (12, (.d (.ix c))), (18, (.d (.ix c)))] []), .run 1, (.ops [(2, (.rn (iI f))), (3, (.rn (iI g))), (5, (.quo h))] [])] [8] (s' := fun j => ⟨[(bK (tQ C s N n mg ms O o) 5 78)], [(.code .ret)], mkT j [(8, (iI h))] 39 0⟩) (aQ h0 h1 h2 h3 <| aQ h4 h5 h6 h7 <| aQ h8 h9 h10 h11 <| aP h12 <| aP h13 <| aV <| aQ h15 h16 h17 h18 <| aZ)
  fun j => gZ [] (ho j)
def p171_end (e : Int) (j : JN) : St := ⟨[], [(.code .ret)], mkT j [(4, (iB (decide (e ≥ (0 : Int)))))] 9 0⟩
theorem p171 (hE : EnvOk E) (O : List DT) (o : Nat) (x e : Int) (h0 : COut E 0 [] 199 [(dQ O o), (iI x)] (iI e) []) {Φ : Res → Prop} (ho : ∀ j, OutK E 0 0 (p171_end e j) Φ) (j : JN) : OutK E 0 0 (x171 O o x j) Φ :=
 oS hE [.run 3, (.ops [(2, (.c0 (iI e)))] [])] [4] (aP h0 <| aN <| aZ)
  ho
def p181a_end (O : List DT) (o : Nat) (x : Int) (j : JN) : St := ⟨[], [(.code (aF [1, 0, 1, 0, 0] Tryz.f199)), (.inLoop (aF [1, 0, 1, 0, 0] Tryz.f199)), (.inBlock 0), (.code (aF [1, 1] Tryz.f199))], mkT j [(0, (dQ O o)), (1, (iI x)), (7, (iN o)), (8, (iI 0))] 19 0⟩
theorem p181a (hE : EnvOk E) (O : List DT) (o : Nat) (x : Int) {Φ : Res → Prop} (ho : ∀ j, OutK E 0 0 (p181a_end O o x j) Φ) (j : JN) : OutK E 0 0 (x181 O o x j) Φ :=
 oS hE [.run 4, (.ops [(1, (.d .len))] []), .run 2] [0, 1, 7, 8] (ps := []) trivial
  ho
def p128_end (a : Int) (j : JN) : St := ⟨[], [(.code .ret)], mkT j [(2, (iI a))] 6 0⟩
theorem p128 (hE : EnvOk E) (R : List DT) (m : Nat) (a : Int) (h0 : ((iI (wrapF IntKind.i64 ((↑m : Int) - (1 : Int)))) : AV) = (iI a)) {Φ : Res → Prop} (ho : ∀ j, OutK E 0 0 (p128_end a j) Φ) (j : JN) : OutK E 0 0 (x128 R m j) Φ :=
 oS hE [.run 3, (.ops [(2, (.rn (iI a))), (1, (.d .len))] [])] [2] (aP h0 <| aZ)
  ho
def p181s_end (O : List DT) (o i : Nat) (x : Int) (j : JN) : St := ⟨[], [(.code (aF [1, 0, 1, 0, 0] Tryz.f199)), (.inLoop (aF [1, 0, 1, 0, 0] Tryz.f199)), (.inBlock 0), (.code (aF [1, 1] Tryz.f199))], mkT j [(0, (dQ O o)), (1, (iI x)), (7, (iN o)), (8, (iN (i + 1)))] 19 0⟩
theorem p181s (hE : EnvOk E) (O : List DT) (o i : Nat) (x z : Int) (h0 : (decide (Int.ofNat i < Int.ofNat o) : Bool) = true) (h1 : (0 : Int) ≤ Int.ofNat i ∧ Int.ofNat i < (↑o : Int)) (h2 : ((Int.ofNat i).toNat * nat_lit 1 : Nat) = i) (h3 : (getL O i : Option DT) = (.some (.v (.int .i64 z)))) (h4 : (x == z : Bool) = false) (h5 : ((iI (wrapF IntKind.i64 (Int.ofNat i + (1 : Int)))) : AV) = (iN (i + 1))) {Φ : Res → Prop} (ho : ∀ j, OutK E 0 0 (p181s_end O o i x j) Φ) (j : JN) : OutK E 0 0 (y181 O o i x j) Φ :=
 oS hE [.run 3, (.cond true), .run 6, (.ops [(4, (.d (.ld (.v (.int .i64 z))))), (3, (.d (.ix i)))] []), (.cond false), .run 2, (.ops [(0, (.rn (iN (i + 1))))] []), .run 1] [0, 1, 7, 8] (aQ h0 h1 h2 h3 <| aP h4 <| aP h5 <| aZ)
  ho
def p181f_end (i : Nat) (j : JN) : St := ⟨[], [(.code .ret), (.inBlock 1), (.code (aF [1, 0, 1, 0, 0, 1, 1, 1] Tryz.f199)), (.inLoop (aF [1, 0, 1, 0, 0] Tryz.f199)), (.inBlock 0), (.code (aF [1, 1] Tryz.f199))], mkT j [(4, (iN i))] 19 0⟩
theorem p181f (hE : EnvOk E) (O : List DT) (o i : Nat) (x z : Int) (h0 : (decide (Int.ofNat i < Int.ofNat o) : Bool) = true) (h1 : (0 : Int) ≤ Int.ofNat i ∧ Int.ofNat i < (↑o : Int)) (h2 : ((Int.ofNat i).toNat * nat_lit 1 : Nat) = i) (h3 : (getL O i : Option DT) = (.some (.v (.int .i64 z)))) (h4 : (x == z : Bool) = true) {Φ : Res → Prop} (ho : ∀ j, OutK E 0 0 (p181f_end i j) Φ) (j : JN) : OutK E 0 0 (y181 O o i x j) Φ :=
 oS hE [.run 3, (.cond true), .run 6, (.ops [(4, (.d (.ld (.v (.int .i64 z))))), (3, (.d (.ix i)))] []), (.cond true), .run 2] [4] (aQ h0 h1 h2 h3 <| aP h4 <| aZ)
  ho
def p181x_end (j : JN) : St := ⟨[], [(.code .ret)], mkT j [(4, (iI (-1)))] 19 0⟩
theorem p181x (hE : EnvOk E) (O : List DT) (o i : Nat) (x : Int) (h0 : (decide (Int.ofNat i < Int.ofNat o) : Bool) = false) {Φ : Res → Prop} (ho : ∀ j, OutK E 0 0 (p181x_end j) Φ) (j : JN) : OutK E 0 0 (y181 O o i x j) Φ :=
 oS hE [.run 3, (.cond false), .run 3] [4] (aP h0 <| aZ)
  ho
theorem mulB {a b A B : Int} (h1 : 0 ≤ a) (h2 : a ≤ A) (h3 : 0 ≤ b) (h4 : b ≤ B) : 0 ≤ a * b ∧ a * b ≤ A * B := ⟨Int.mul_nonneg h1 h3, Int.mul_le_mul h2 h4 h3 (by omega)⟩
theorem two_bd (k : Nat) (hk : k ≤ 6) : (1 : Int) ≤ Int.ofNat (2 ^ k) ∧ Int.ofNat (2 ^ k) ≤ 64 := by
 have h1 : 0 < 2 ^ k := Nat.pos_of_ne_zero (by simp)
 have h2 : 2 ^ k ≤ 2 ^ 6 := Nat.pow_le_pow_right (by omega) hk
 simp only [Int.ofNat_eq_natCast]; omega
theorem pw_bd {mg x P : Int} (hm : 1 ≤ mg ∧ mg ≤ 100) (hx : 1 ≤ x ∧ x ≤ 1000000) (hP : 1 ≤ P ∧ P ≤ 64) : (0 ≤ mg * (P - 1) ∧ mg * (P - 1) ≤ 6300) ∧ 0 ≤ mg * (P - 1) * x ∧ mg * (P - 1) * x ≤ 6300000000 := by
 have a := mulB (a := mg) (b := P - 1) (A := 100) (B := 63) (by omega) (by omega) (by omega) (by omega)
 have b := mulB (a := mg * (P - 1)) (b := x) (A := 6300) (B := 1000000) a.1 (by omega) (by omega) (by omega)
 exact ⟨⟨a.1, by omega⟩, b.1, by omega⟩
theorem quo_bd {g z : Int} (h : 0 ≤ g) (hz : 1 ≤ z) : 0 ≤ g.tdiv z ∧ g.tdiv z ≤ g := by
 rw [Int.tdiv_eq_ediv_of_nonneg h]
 exact ⟨Int.ediv_nonneg h (by omega), Int.ediv_le_self _ h⟩
def pwV (mg x z : Int) (k : Nat) : Int := if k = 0 then 0 else ((((mg * (Int.ofNat (2 ^ k) - 1)) * x) + z - 1).tdiv z)
def cellOk (sg : List Int) (ns : List (List Int)) (mg : Int) (p c : Nat) (r : List Int) (x z : Int) : Prop := ns[p]? = some r ∧ r[c]? = some x ∧ sg[c]? = some z ∧ (1 ≤ mg ∧ mg ≤ 100) ∧ (1 ≤ x ∧ x ≤ 1000000) ∧ 0 ≤ z ∧ z ≤ 1000000000
theorem ixl {α : Type} {l : List α} {i : Nat} {x : α} (h : l[i]? = some x) : i < l.length := (List.getElem?_eq_some_iff.1 h).1
theorem K73 (hE : EnvOk E) (sg : List Int) (ns : List (List Int)) (mg ms : Int) (nt : List Int) {p c : Nat} {r : List Int} {x z : Int} (hk0 : cellOk sg ns mg p c r x z) (k : Nat) (hk : k ≤ 6) (hz1 : 1 ≤ z) : COut E 0 [] 122 [aT sg ns mg ms nt, iI (Int.ofNat p), iI (Int.ofNat c), iI (Int.ofNat k)] (iI (pwV mg x z k)) [] := by
 obtain ⟨hp, hc, hs, hm, hx, hz, hz'⟩ := hk0
 have l1 := ixl hp
 have l2 := ixl hc
 have l3 := ixl hs
 by_cases h : k = 0
 ·subst h
  exact cOut_clear (cOut_start Tryz.func122 rfl (p73z hE (iD sg) (rD ns) (iD nt) sg.length ns.length nt.length p c 0 mg ms rfl (fun j => outK_ret (ends_ret (by kernel_rfl))) fun _ => undef)) rfl
 ·rw [show pwV mg x z k = ((((mg * (Int.ofNat (2 ^ k) - 1)) * x) + z - 1).tdiv z) from if_neg h]
  have b1 := two_bd k hk
  have b2 := pw_bd hm hx b1
  have b3 := quo_bd (g := ((mg * (Int.ofNat (2 ^ k) - 1)) * x) + z - 1) (z := z) (by omega) hz1
  exact cOut_clear (cOut_start Tryz.func122 rfl (p73 hE (iD sg) (rD ns) (iD nt) (iD r) sg.length ns.length nt.length r.length p c k mg ms x z (Int.ofNat (2 ^ k)) ((Int.ofNat (2 ^ k) - 1)) ((mg * (Int.ofNat (2 ^ k) - 1))) (((mg * (Int.ofNat (2 ^ k) - 1)) * x)) ((((mg * (Int.ofNat (2 ^ k) - 1)) * x) + z)) ((((mg * (Int.ofNat (2 ^ k) - 1)) * x) + z - 1)) (((((mg * (Int.ofNat (2 ^ k) - 1)) * x) + z - 1).tdiv z)) (beq_eq_false_iff_ne.2 (by simp only [Int.ofNat_eq_natCast]; omega)) (shl_ok k (by omega)) (iIe (wrap_id (by omega) (by omega))) (iIe (wrap_id (by omega) (by omega))) bP (Nat.mul_one _) (gR hp) bP (Nat.mul_one _) (gI hc) (iIe (wrap_id (by omega) (by omega))) bP (Nat.mul_one _) (gI hs) (iIe (wrap_id (by omega) (by omega))) (iIe (wrap_id (by omega) (by omega))) (by omega) (wrap_id (by omega) (by omega)) (fun j => outK_ret (ends_ret (by kernel_rfl))) fun _ => undef)) rfl
def bstF (mg x z ms : Int) : Nat → Nat
 | 0 => 0
 | k + 1 => if z ≠ 0 ∧ pwV mg x z (k + 1) ≤ ms then k + 1 else bstF mg x z ms k
def carV (mg x z ms : Int) (nt : List Int) (c : Nat) : Nat := if (Int.ofNat c) ∈ nt then 0 else bstF mg x z ms 6
def ixF (x : Int) : Nat → List Int → Int
 | _, [] => -1
 | i, z :: r => if x = z then Int.ofNat i else ixF x (i + 1) r
theorem ixF_mem (x : Int) : ∀ (l : List Int) (i : Nat), decide (ixF x i l ≥ 0) = decide (x ∈ l)
 | [], i => by simp [ixF]
 | z :: r, i => by
  unfold ixF
  by_cases h : x = z
  ·rw [if_pos h, decide_eq_true (show x ∈ z :: r by rw [h]; exact List.mem_cons_self ..)]
   exact decide_eq_true (by simp only [Int.ofNat_eq_natCast]; omega)
  ·rw [if_neg h, ixF_mem x r (i + 1)]
   exact decide_eq_decide.2 ⟨List.mem_cons_of_mem _, fun a => (List.mem_cons.1 a).elim (fun e => absurd e h) id⟩
theorem l181 (hE : EnvOk E) (xs : List Int) (x : Int) (hm : xs.length ≤ 100000) : ∀ k i, k + i = xs.length → ∀ j, OutK E 0 0 (y181 (iD xs) xs.length i x j) (Go.Ev.Ends E Tryz.f199 (iI (ixF x i (xs.drop i))) [])
 | 0, i, hi, j => by
  obtain rfl : i = xs.length := by omega
  rw [List.drop_length]
  exact p181x hE (iD xs) xs.length xs.length x dF (fun j => outK_ret (ends_ret (by kernel_rfl))) j
 | k + 1, i, hi, j => by
  have hl : i < xs.length := by omega
  have hx : xs[i]? = some xs[i] := List.getElem?_eq_getElem hl
  have ih := l181 hE xs x hm k (i + 1) (by omega)
  rw [List.drop_eq_getElem_cons hl]
  generalize xs[i] = z at hx
  by_cases h : x = z
  ·rw [show ixF x i (z :: xs.drop (i + 1)) = Int.ofNat i from if_pos h]
   exact p181f hE (iD xs) xs.length i x z dT bP (Nat.mul_one _) (gI hx) (beq_iff_eq.2 h) (fun j => outK_ret (ends_ret (by kernel_rfl))) j
  ·rw [show ixF x i (z :: xs.drop (i + 1)) = ixF x (i + 1) (xs.drop (i + 1)) from if_neg h]
   exact p181s hE (iD xs) xs.length i x z dT bP (Nat.mul_one _) (gI hx) (beq_eq_false_iff_ne.2 h) (iIe (by (try simp only [Int.ofNat_eq_natCast]); rw [wrap_id (by omega) (by omega)]; try omega)) ih j
theorem K171 (hE : EnvOk E) (xs : List Int) (x : Int) (hm : xs.length ≤ 100000) : COut E 0 [] 186 [dI xs, iI x] (iB (decide (x ∈ xs))) [] := by
 rw [← ixF_mem x xs 0]
 have k181 : COut E 0 [] 199 [dI xs, iI x] (iI (ixF x 0 xs)) [] := cOut_start Tryz.func199 rfl (p181a hE (iD xs) xs.length x (l181 hE xs x hm xs.length 0 rfl) fun _ => undef)
 exact cOut_start Tryz.func186 rfl (p171 hE (iD xs) xs.length x (ixF x 0 xs) k181 (fun j => outK_ret (ends_ret (by kernel_rfl))) fun _ => undef)
theorem K128 (hE : EnvOk E) (r : List Int) (hm : r.length ≤ 100000) : COut E 0 [] 172 [dI r] (iI ((r.length : Int) - 1)) [] :=
 cOut_start Tryz.func172 rfl (p128 hE (iD r) r.length (((r.length : Int) - 1)) (iIe (wrap_id (by omega) (by omega))) (fun j => outK_ret (ends_ret (by kernel_rfl))) fun _ => undef)
end
end Go.Proofs.YtigdchbjmnbjlaaGreatDoor
end

/-! SeDg -/
section
open Go Go.Ev
namespace Go.Proofs.YtigdchbjmnbjlaaGreatDoor
noncomputable section
set_option maxRecDepth 100000
set_option maxHeartbeats 20000000
def x152 (C N O : List DT) (s n o p c : Nat) (mg ms : Int) (_j : JN) : St := startK Tryz.f163 [] [.e (.agg (tQ C s N n mg ms O o)), (iN p), (iN c)]
def x122 (C N O : List DT) (s n o p : Nat) (mg ms : Int) (_j : JN) : St := startK Tryz.f105 [] [.e (.agg (tQ C s N n mg ms O o)), (iN p)]
def x127 (T : List DT) (t : Nat) (_j : JN) : St := startK Tryz.f171 [] [(dQ T t), .e (.one (.v (.func (.func 172) #[] #[])))]
def x74 (C N O : List DT) (s n o p : Nat) (mg ms : Int) (_j : JN) : St := startK Tryz.f114 [] [.e (.agg (tQ C s N n mg ms O o)), (iN p)]
def y152f (C N O : List DT) (s n o p c : Nat) (mg ms : Int) (j : JN) : St := ⟨[(bK (tQ C s N n mg ms O o) 5 78), (bK [(.v (.int .i64 0))] 1 3)], [(.code (aF [1, 1, 1, 0, 1, 0, 0] Tryz.f163)), (.inLoop (aF [1, 1, 1, 0, 1, 0, 0] Tryz.f163)), (.inBlock 0), (.code (aF [1, 1, 1, 1] Tryz.f163))], mkT j [(1, (iN p)), (2, (iN c)), (3, (.e (.one (.ptr 0 0)))), (7, (.e (.one (.slc 1 0 1 1 1 true)))), (8, (iI 1))] 42 0⟩
def y122n (C N O : List DT) (s n o i p : Nat) (mg ms : Int) (j : JN) : St := ⟨[(bK (tQ C s N n mg ms O o) 5 78)], [(.code (aF [1, 1, 0, 1, 0, 0] Tryz.f105)), (.inLoop (aF [1, 1, 0, 1, 0, 0] Tryz.f105)), (.inBlock 0), (.code (aF [1, 1, 1] Tryz.f105))], mkT j [(1, (iN p)), (2, (.e (.one (.ptr 0 0)))), (5, (.e (.one (.v (.slice none 0 0))))), (9, (iN s)), (10, (iN i))] 22 0⟩
def y127 (T : List DT) (t i : Nat) (Y : List AC) (j : JN) : St := ⟨[(bK Y t 3)], [(.code (aF [1, 1, 0, 1, 0, 0] Tryz.f171)), (.inLoop (aF [1, 1, 0, 1, 0, 0] Tryz.f171)), (.inBlock 0), (.code (aF [1, 1, 1] Tryz.f171))], mkT j [(1, (.e (.one (.v (.func (.func 172) #[] #[]))))), (5, (.e (.one (.slc 0 0 t 1 t true)))), (11, (dQ T t)), (12, (iN t)), (13, (iN i))] 26 0⟩
def y152g (C N O : List DT) (s n o p c k : Nat) (mg ms : Int) (Y : List AC) (j : JN) : St := ⟨[bK (tQ C s N n mg ms O o) 5 78, some ⟨Y, k, 3, false, .cells⟩], [(.code (aF [1, 1, 1, 0, 1, 0, 0] Tryz.f163)), (.inLoop (aF [1, 1, 1, 0, 1, 0, 0] Tryz.f163)), (.inBlock 0), (.code (aF [1, 1, 1, 1] Tryz.f163))], mkT j [(1, (iN p)), (2, (iN c)), (3, (.e (.one (.ptr 0 0)))), (7, (.e (.one (.slc 1 0 k 1 k false)))), (8, (iN k))] 42 0⟩
def y122 (C N O : List DT) (s n o i p q : Nat) (mg ms : Int) (Y : List AC) (j : JN) : St := ⟨[bK (tQ C s N n mg ms O o) 5 78, some ⟨Y, q, 30, false, .cells⟩], [(.code (aF [1, 1, 0, 1, 0, 0] Tryz.f105)), (.inLoop (aF [1, 1, 0, 1, 0, 0] Tryz.f105)), (.inBlock 0), (.code (aF [1, 1, 1] Tryz.f105))], mkT j [(1, (iN p)), (2, (.e (.one (.ptr 0 0)))), (5, (.e (.one (.slc 1 0 q 1 q false)))), (9, (iN s)), (10, (iN i))] 22 0⟩
def p152z_end (j : JN) : St := ⟨[(bK [(.v (.int .i64 0))] 1 3)], [(.code .ret), (.code (aF [1, 1, 1] Tryz.f163))], mkT j [(6, (.e (.one (.slc 0 0 1 1 1 true))))] 42 0⟩
theorem p152z (hE : EnvOk E) (C N O : List DT) (s n o p c : Nat) (mg ms z : Int) (hb : Bool) (h0 : (0 : Int) ≤ Int.ofNat c ∧ Int.ofNat c < (↑s : Int)) (h1 : ((Int.ofNat c).toNat * nat_lit 1 : Nat) = c) (h2 : (getL C c : Option DT) = (.some (.v (.int .i64 z)))) (h3 : ((z == (0 : Int)) == false : Bool) = false) (h4 : ((z == (0 : Int)) == false : Bool) = false) (h5 : ((z == (0 : Int)) == false : Bool) = false) (h6 : ((z == (0 : Int)) == false : Bool) = false) (h7 : (z == (0 : Int) : Bool) = true) {Φ : Res → Prop} (ho : ∀ j, OutK E 0 0 (p152z_end j) Φ) (j : JN) : OutK E 0 0 (x152 C N O s n o p c mg ms j) Φ :=
 oS hE [.run 6, (.ops [(4, (.d (.ld (.v (.int .i64 z))))), (10, (.c0 (iB hb))), (3, (.d (.ix c))), (11, (.pk true))] [(7, false), (8, false), (9, false), (10, false)]), .run 3] [6] (s' := fun j => ⟨[(bK (tQ C s N n mg ms O o) 5 78), (bK [(.v (.int .i64 0))] 1 3)], [(.code .ret), (.code (aF [1, 1, 1] Tryz.f163))], mkT j [(6, (.e (.one (.slc 1 0 1 1 1 true))))] 42 0⟩) (aQ h0 h1 h2 h3 <| aQ h4 h5 h6 h7 <| aZ)
  fun j => gZ [1] (ho j)
def p152h_end (j : JN) : St := ⟨[(bK [(.v (.int .i64 0))] 1 3)], [(.code .ret), (.code (aF [1, 1, 1] Tryz.f163))], mkT j [(6, (.e (.one (.slc 0 0 1 1 1 true))))] 42 0⟩
theorem p152h (hE : EnvOk E) (C N O : List DT) (s n o p c : Nat) (mg ms z : Int) (hb : Bool) (h0 : (0 : Int) ≤ Int.ofNat c ∧ Int.ofNat c < (↑s : Int)) (h1 : ((Int.ofNat c).toNat * nat_lit 1 : Nat) = c) (h2 : (getL C c : Option DT) = (.some (.v (.int .i64 z)))) (h3 : ((z == (0 : Int)) == false : Bool) = true) (h4 : ((z == (0 : Int)) == false : Bool) = true) (h5 : ((z == (0 : Int)) == false : Bool) = true) (h6 : ((z == (0 : Int)) == false : Bool) = true) (h7 : COut E 0 [] 186 [(dQ O o), (iN c)] (iB hb) []) (h9 : (z == (0 : Int) : Bool) = false) (h10 : (hb : Bool) = true) {Φ : Res → Prop} (ho : ∀ j, OutK E 0 0 (p152h_end j) Φ) (j : JN) : OutK E 0 0 (x152 C N O s n o p c mg ms j) Φ :=
 oS hE [.run 6, (.ops [(4, (.d (.ld (.v (.int .i64 z))))), (10, (.c0 (iB hb))), (3, (.d (.ix c))), (11, (.pk false))] [(7, true), (8, true), (9, true), (10, true)]), (.cond true), .run 2] [6] (s' := fun j => ⟨[(bK (tQ C s N n mg ms O o) 5 78), (bK [(.v (.int .i64 0))] 1 3)], [(.code .ret), (.code (aF [1, 1, 1] Tryz.f163))], mkT j [(6, (.e (.one (.slc 1 0 1 1 1 true))))] 42 0⟩) (aQ h0 h1 h2 h3 <| aQ h4 h5 h6 h7 <| aN <| aP h9 <| aP h10 <| aZ)
  fun j => gZ [1] (ho j)
def p152a_end (C N O : List DT) (s n o p c : Nat) (mg ms : Int) (j : JN) : St := ⟨[(bK (tQ C s N n mg ms O o) 5 78), (bK [(.v (.int .i64 0))] 1 3)], [(.code (aF [1, 1, 1, 0, 1, 0, 0] Tryz.f163)), (.inLoop (aF [1, 1, 1, 0, 1, 0, 0] Tryz.f163)), (.inBlock 0), (.code (aF [1, 1, 1, 1] Tryz.f163))], mkT j [(1, (iN p)), (2, (iN c)), (3, (.e (.one (.ptr 0 0)))), (7, (.e (.one (.slc 1 0 1 1 1 true)))), (8, (iI 1))] 42 0⟩
theorem p152a (hE : EnvOk E) (C N O : List DT) (s n o p c : Nat) (mg ms z : Int) (hb : Bool) (h0 : (0 : Int) ≤ Int.ofNat c ∧ Int.ofNat c < (↑s : Int)) (h1 : ((Int.ofNat c).toNat * nat_lit 1 : Nat) = c) (h2 : (getL C c : Option DT) = (.some (.v (.int .i64 z)))) (h3 : ((z == (0 : Int)) == false : Bool) = true) (h4 : ((z == (0 : Int)) == false : Bool) = true) (h5 : ((z == (0 : Int)) == false : Bool) = true) (h6 : ((z == (0 : Int)) == false : Bool) = true) (h7 : COut E 0 [] 186 [(dQ O o), (iN c)] (iB hb) []) (h9 : (z == (0 : Int) : Bool) = false) (h10 : (hb : Bool) = false) {Φ : Res → Prop} (ho : ∀ j, OutK E 0 0 (p152a_end C N O s n o p c mg ms j) Φ) (j : JN) : OutK E 0 0 (x152 C N O s n o p c mg ms j) Φ :=
 oS hE [.run 6, (.ops [(4, (.d (.ld (.v (.int .i64 z))))), (10, (.c0 (iB hb))), (3, (.d (.ix c))), (11, (.pk false))] [(7, true), (8, true), (9, true), (10, true)]), (.cond false), .run 6] [1, 2, 3, 7, 8] (aQ h0 h1 h2 h3 <| aQ h4 h5 h6 h7 <| aN <| aP h9 <| aP h10 <| aZ)
  ho
def p122a_end (C N O : List DT) (s n o p : Nat) (mg ms : Int) (j : JN) : St := ⟨[(bK (tQ C s N n mg ms O o) 5 78)], [(.code (aF [1, 1, 0, 1, 0, 0] Tryz.f105)), (.inLoop (aF [1, 1, 0, 1, 0, 0] Tryz.f105)), (.inBlock 0), (.code (aF [1, 1, 1] Tryz.f105))], mkT j [(1, (iN p)), (2, (.e (.one (.ptr 0 0)))), (5, (.e (.one (.v (.slice none 0 0))))), (9, (iN s)), (10, (iI 0))] 22 0⟩
theorem p122a (hE : EnvOk E) (C N O : List DT) (s n o p : Nat) (mg ms : Int) {Φ : Res → Prop} (ho : ∀ j, OutK E 0 0 (p122a_end C N O s n o p mg ms j) Φ) (j : JN) : OutK E 0 0 (x122 C N O s n o p mg ms j) Φ :=
 oS hE [.run 6, (.ops [(2, (.d .len))] []), .run 2] [1, 2, 5, 9, 10] (ps := []) trivial
  ho
def p127a_end (T : List DT) (t : Nat) (Y : List AC) (j : JN) : St := ⟨[(bK Y t 3)], [(.code (aF [1, 1, 0, 1, 0, 0] Tryz.f171)), (.inLoop (aF [1, 1, 0, 1, 0, 0] Tryz.f171)), (.inBlock 0), (.code (aF [1, 1, 1] Tryz.f171))], mkT j [(1, (.e (.one (.v (.func (.func 172) #[] #[]))))), (5, (.e (.one (.slc 0 0 t 1 t true)))), (11, (dQ T t)), (12, (iN t)), (13, (iI 0))] 26 0⟩
theorem p127a (hE : EnvOk E) (T : List DT) (t : Nat) (_z : Int) (Y : List AC) (h0 : (0 : Int) ≤ (↑t : Int) ∧ (↑t : Int) ≤ (↑t : Int)) (h1 : (small (↑t : Int).toNat (1 : Nat) (8 : Nat) : Bool) = true) (h2 : ((↑t : Int).toNat : Nat) = t) (h4 : (t * 1 : Nat) = t) (h5 : (repeatC ((fun z => List.map AC.v z.cells.toList) (Value.int IntKind.i64 (0 : Int))) t : List AC) = Y) {Φ : Res → Prop} (ho : ∀ j, OutK E 0 0 (p127a_end T t Y j) Φ) (j : JN) : OutK E 0 0 (x127 T t j) Φ :=
 oS hE [.run 3, (.ops [(2, (.mk t t t Y)), (1, (.d .len))] []), .run 2, (.ops [(1, (.d .len))] []), .run 2] [1, 5, 11, 12, 13] (aQ h0 h1 h2 h2 <| aP h4 <| aP h5 <| aZ)
  ho
def p74_end (t : Nat) (Y : List AC) (j : JN) : St := ⟨[(bK Y t 3)], [(.code .ret)], mkT j [(4, (.e (.one (.slc 0 0 t 1 t true))))] 9 0⟩
theorem p74 (hE : EnvOk E) (C N O T : List DT) (s n o t p : Nat) (mg ms : Int) (Y : List AC) (h0 : COut E 0 [] 105 [(tA C s N n mg ms O o), (iN p)] (dQ T t) []) (h2 : COut E 0 [] 171 [(dQ T t), (.e (.one (.v (.func (.func 172) #[] #[]))))] (.e (.one (.slc 0 0 t 1 t true))) [(bK Y t 3)]) (h5 : True) (h7 : FlatB (some { cells := Y, n := t, elem := (3 : TypeId), full := true, ext := AX.cells : AB }) ∧ True) (g0 : FlatC Y) {Φ : Res → Prop} (ho : ∀ j, OutK E 0 0 (p74_end t Y j) Φ) (j : JN) : OutK E 0 0 (x74 C N O s n o p mg ms j) Φ :=
 oS hE [.run 3, (.ops [(2, (.c0 (dQ T t))), (3, (.cl [] [] [(dQ T t), (.e (.one (.v (.func (.func 172) #[] #[]))))] [] (.e (.one (.slc 0 0 t 1 t true))) [(bK Y t 3)] (.e (.one (.slc 1 0 t 1 t true))) [true] [(bK Y t 3)]))] [])] [4] (s' := fun j => ⟨[(bK (tQ C s N n mg ms O o) 5 78), (bK Y t 3)], [(.code .ret)], mkT j [(4, (.e (.one (.slc 1 0 t 1 t true))))] 9 0⟩) (aP h0 <| aN <| aP h2 <| aP (rfl : ([(dQ T t), (.e (.one (.v (.func (.func 172) #[] #[]))))] : List AV) = [(dQ T t), (.e (.one (.v (.func (.func 172) #[] #[]))))]) <| aP (rfl : ([] : List (Option (Option AB))) = []) <| aP h5 <| aP (rfl : ([(.some (bK Y t 3))] : List (Option (Option AB))) = [(.some (bK Y t 3))]) <| aP h7 <| aP (rfl : ((.e (.one (.slc 1 0 t 1 t true))) : AV) = (.e (.one (.slc 1 0 t 1 t true)))) <| aZ)
  fun j => outK_gcF [1] [true] (h' := [(bK Y t 3)]) (by decide) (by kernel_rfl) (by kernel_rfl) ⟨g0, trivial⟩ (by kernel_rfl) (ho j)
def p152f_end (C N O : List DT) (s n o p c k : Nat) (mg ms a : Int) (j : JN) : St := ⟨[(bK (tQ C s N n mg ms O o) 5 78), (.some ⟨[(.v (.int .i64 0)), (.v (.int .i64 a))], 2, 3, false, .cells⟩)], [(.code (aF [1, 1, 1, 0, 1, 0, 0] Tryz.f163)), (.inLoop (aF [1, 1, 1, 0, 1, 0, 0] Tryz.f163)), (.inBlock 0), (.code (aF [1, 1, 1, 1] Tryz.f163))], mkT j [(1, (iN p)), (2, (iN c)), (3, (.e (.one (.ptr 0 0)))), (7, (.e (.one (.slc 1 0 2 1 2 false)))), (8, (iN (k + 1)))] 42 0⟩
theorem p152f (hE : EnvOk E) (C N O : List DT) (s n o p c k : Nat) (mg ms a : Int) (h0 : COut E 0 [] 122 [(tA C s N n mg ms O o), (iN p), (iN c), (iI 1)] (iI a) []) (h2 : (decide (a > ms) : Bool) = false) (h3 : ((iI 2) : AV) = (iN (k + 1))) {Φ : Res → Prop} (ho : ∀ j, OutK E 0 0 (p152f_end C N O s n o p c k mg ms a j) Φ) (j : JN) : OutK E 0 0 (y152f C N O s n o p c mg ms j) Φ :=
 oS hE [.run 8, (.ops [(4, (.c0 (iI a)))] []), .run 3, (.cond false), .run 3, (.ops [(1, (.rn (iN (k + 1))))] []), .run 1] [1, 2, 3, 7, 8] (s' := fun j => ⟨[(bK (tQ C s N n mg ms O o) 5 78), (bK [(.v (.int .i64 0))] 1 3), (bK [(.v (.int .i64 a))] 1 3), (.some ⟨[(.v (.int .i64 0)), (.v (.int .i64 a))], 2, 3, false, .cells⟩)], [(.code (aF [1, 1, 1, 0, 1, 0, 0] Tryz.f163)), (.inLoop (aF [1, 1, 1, 0, 1, 0, 0] Tryz.f163)), (.inBlock 0), (.code (aF [1, 1, 1, 1] Tryz.f163))], mkT j [(1, (iN p)), (2, (iN c)), (3, (.e (.one (.ptr 0 0)))), (7, (.e (.one (.slc 3 0 2 1 2 false)))), (8, (iN (k + 1)))] 42 0⟩) (aP h0 <| aN <| aP h2 <| aP h3 <| aZ)
  fun j => gZ [0, 3] (ho j)
def p152fb_end (j : JN) : St := ⟨[(bK [(.v (.int .i64 0))] 1 3)], [(.code .ret)], mkT j [(6, (.e (.one (.slc 0 0 1 1 1 true))))] 42 0⟩
theorem p152fb (hE : EnvOk E) (C N O : List DT) (s n o p c : Nat) (mg ms a : Int) (h0 : COut E 0 [] 122 [(tA C s N n mg ms O o), (iN p), (iN c), (iI 1)] (iI a) []) (h2 : (decide (a > ms) : Bool) = true) {Φ : Res → Prop} (ho : ∀ j, OutK E 0 0 (p152fb_end j) Φ) (j : JN) : OutK E 0 0 (y152f C N O s n o p c mg ms j) Φ :=
 oS hE [.run 8, (.ops [(4, (.c0 (iI a)))] []), .run 3, (.cond true), .run 3] [6] (s' := fun j => ⟨[(bK (tQ C s N n mg ms O o) 5 78), (bK [(.v (.int .i64 0))] 1 3)], [(.code .ret)], mkT j [(6, (.e (.one (.slc 1 0 1 1 1 true))))] 42 0⟩) (aP h0 <| aN <| aP h2 <| aZ)
  fun j => gZ [1] (ho j)
def p122n_end (C N O R : List DT) (s n o m i p : Nat) (mg ms : Int) (j : JN) : St := ⟨[(bK (tQ C s N n mg ms O o) 5 78), (.some ⟨[(.dp (.s R m 1))], 1, 30, false, .cells⟩)], [(.code (aF [1, 1, 0, 1, 0, 0] Tryz.f105)), (.inLoop (aF [1, 1, 0, 1, 0, 0] Tryz.f105)), (.inBlock 0), (.code (aF [1, 1, 1] Tryz.f105))], mkT j [(1, (iN p)), (2, (.e (.one (.ptr 0 0)))), (5, (.e (.one (.slc 1 0 1 1 1 false)))), (9, (iN s)), (10, (iN (i + 1)))] 22 0⟩
theorem p122n (hE : EnvOk E) (C N O R : List DT) (s n o m i p : Nat) (mg ms : Int) (h0 : (decide (Int.ofNat i < Int.ofNat s) : Bool) = true) (h1 : COut E 0 [] 163 [(tA C s N n mg ms O o), (iN p), (iN i)] (dQ R m) []) (h3 : ((iI (wrapF IntKind.i64 (Int.ofNat i + (1 : Int)))) : AV) = (iN (i + 1))) {Φ : Res → Prop} (ho : ∀ j, OutK E 0 0 (p122n_end C N O R s n o m i p mg ms j) Φ) (j : JN) : OutK E 0 0 (y122n C N O s n o i p mg ms j) Φ :=
 oS hE [.run 3, (.cond true), .run 5, (.ops [(4, (.c0 (dQ R m)))] []), .run 1, (.ops [(0, (.rn (iN (i + 1))))] []), .run 1] [1, 2, 5, 9, 10] (s' := fun j => ⟨[(bK (tQ C s N n mg ms O o) 5 78), (bK [(.dp (.s R m 1))] 1 30), (.some ⟨[(.dp (.s R m 1))], 1, 30, false, .cells⟩)], [(.code (aF [1, 1, 0, 1, 0, 0] Tryz.f105)), (.inLoop (aF [1, 1, 0, 1, 0, 0] Tryz.f105)), (.inBlock 0), (.code (aF [1, 1, 1] Tryz.f105))], mkT j [(1, (iN p)), (2, (.e (.one (.ptr 0 0)))), (5, (.e (.one (.slc 2 0 1 1 1 false)))), (9, (iN s)), (10, (iN (i + 1)))] 22 0⟩) (aP h0 <| aP h1 <| aN <| aP h3 <| aZ)
  fun j => gZ [0, 2] (ho j)
def p127s_end (T : List DT) (t i : Nat) (Z : List AC) (j : JN) : St := ⟨[(bK Z t 3)], [(.code (aF [1, 1, 0, 1, 0, 0] Tryz.f171)), (.inLoop (aF [1, 1, 0, 1, 0, 0] Tryz.f171)), (.inBlock 0), (.code (aF [1, 1, 1] Tryz.f171))], mkT j [(1, (.e (.one (.v (.func (.func 172) #[] #[]))))), (5, (.e (.one (.slc 0 0 t 1 t true)))), (11, (dQ T t)), (12, (iN t)), (13, (iN (i + 1)))] 26 0⟩
theorem p127s (hE : EnvOk E) (R T : List DT) (m t i : Nat) (a : Int) (Y Z : List AC) (h0 : (decide (Int.ofNat i < Int.ofNat t) : Bool) = true) (h1 : (0 : Int) ≤ Int.ofNat i ∧ Int.ofNat i < (↑t : Int)) (h2 : ((Int.ofNat i).toNat * nat_lit 1 : Nat) = i) (h3 : (getL T i : Option DT) = (.some (.s R m 1))) (h4 : COut E 0 [] 172 [(dQ R m)] (iI a) []) (h7 : (nat_lit 0 + (Int.ofNat i).toNat * nat_lit 1 : Nat) = i) (h8 : i + 1 ≤ t) (h9 : (overL [AC.v (Value.int IntKind.i64 a)] Y i : List AC) = Z) (h10 : ((iI (wrapF IntKind.i64 (Int.ofNat i + (1 : Int)))) : AV) = (iN (i + 1))) {Φ : Res → Prop} (ho : ∀ j, OutK E 0 0 (p127s_end T t i Z j) Φ) (j : JN) : OutK E 0 0 (y127 T t i Y j) Φ :=
 oS hE [.run 3, (.cond true), .run 4, (.ops [(2, (.d (.ld (.s R m 1)))), (1, (.d (.ix i)))] []), (.ops [(4, (.c0 (iI a))), (5, (.ix i)), (6, (.st Z))] []), .run 1, (.ops [(0, (.rn (iN (i + 1))))] []), .run 1] [1, 5, 11, 12, 13] (aQ h0 h1 h2 h3 <| aP h4 <| aN <| aQ h1 h7 h8 h9 <| aP h10 <| aZ)
  ho
def p127x_end (t : Nat) (Y : List AC) (j : JN) : St := ⟨[(bK Y t 3)], [(.code .ret)], mkT j [(4, (.e (.one (.slc 0 0 t 1 t true))))] 26 0⟩
theorem p127x (hE : EnvOk E) (T : List DT) (t i : Nat) (Y : List AC) (h0 : (decide (Int.ofNat i < Int.ofNat t) : Bool) = false) {Φ : Res → Prop} (ho : ∀ j, OutK E 0 0 (p127x_end t Y j) Φ) (j : JN) : OutK E 0 0 (y127 T t i Y j) Φ :=
 oS hE [.run 3, (.cond false), .run 3] [4] (aP h0 <| aZ)
  ho
def p152s_end (C N O : List DT) (s n o p c k : Nat) (mg ms : Int) (Z : List AC) (j : JN) : St := ⟨[(bK (tQ C s N n mg ms O o) 5 78), (.some ⟨(Z), (k + 1), 3, false, .cells⟩)], [(.code (aF [1, 1, 1, 0, 1, 0, 0] Tryz.f163)), (.inLoop (aF [1, 1, 1, 0, 1, 0, 0] Tryz.f163)), (.inBlock 0), (.code (aF [1, 1, 1, 1] Tryz.f163))], mkT j [(1, (iN p)), (2, (iN c)), (3, (.e (.one (.ptr 0 0)))), (7, (.e (.one (.slc 1 0 (k + 1) 1 (k + 1) false)))), (8, (iN (k + 1)))] 42 0⟩
theorem p152s (hE : EnvOk E) (C N O : List DT) (s n o p c k : Nat) (mg ms _x a : Int) (Y Z : List AC) (h0 : (decide (Int.ofNat k ≤ (6 : Int)) : Bool) = true) (h1 : COut E 0 [] 122 [(tA C s N n mg ms O o), (iN p), (iN c), (iN k)] (iI a) []) (h3 : (decide (a > ms) : Bool) = false) (h4 : ¬k + 1 ≤ k) (h5 : (small (k + 1) (1 : Nat) (8 : Nat) : Bool) = true) (h6 : (k : Nat) = k * nat_lit 1) (h7 : (appL Y ((fun x => AC.v (Value.int IntKind.i64 a) :: x) []) : List AC) = Z) (h9 : ((k + 1) * nat_lit 1 : Nat) = k + 1) (h10 : ((iI (wrapF IntKind.i64 (Int.ofNat k + (1 : Int)))) : AV) = (iN (k + 1))) (g0 : FlatC Z) {Φ : Res → Prop} (ho : ∀ j, OutK E 0 0 (p152s_end C N O s n o p c k mg ms Z j) Φ) (j : JN) : OutK E 0 0 (y152g C N O s n o p c k mg ms Y j) Φ :=
 oS hE [.run 3, (.cond true), .run 4, (.ops [(4, (.c0 (iI a)))] []), .run 3, (.cond false), .run 1, (.ops [(3, (.app (k + 1) (k + 1) Z))] []), .run 1, (.ops [(1, (.rn (iN (k + 1))))] []), .run 1] [1, 2, 3, 7, 8] (s' := fun j => ⟨[(bK (tQ C s N n mg ms O o) 5 78), none, (bK [(.v (.int .i64 a))] 1 3), (.some ⟨(Z), (k + 1), 3, false, .cells⟩)], [(.code (aF [1, 1, 1, 0, 1, 0, 0] Tryz.f163)), (.inLoop (aF [1, 1, 1, 0, 1, 0, 0] Tryz.f163)), (.inBlock 0), (.code (aF [1, 1, 1, 1] Tryz.f163))], mkT j [(1, (iN p)), (2, (iN c)), (3, (.e (.one (.ptr 0 0)))), (7, (.e (.one (.slc 3 0 (k + 1) 1 (k + 1) false)))), (8, (iN (k + 1)))] 42 0⟩) (aP h0 <| aP h1 <| aN <| aQ h3 h4 h5 h6 <| aP h7 <| aP (rfl : (k + 1 : Nat) = k + 1) <| aP h9 <| aP h10 <| aZ)
  fun j => outK_gcF [0, 3] [false, true] (h' := [(bK (tQ C s N n mg ms O o) 5 78), (.some ⟨(Z), (k + 1), 3, false, .cells⟩)]) (by decide) (by kernel_rfl) (by kernel_rfl) ⟨g0, trivial⟩ (by kernel_rfl) (ho j)
def p152b_end (k : Nat) (Y : List AC) (j : JN) : St := ⟨[(.some ⟨(Y), k, 3, false, .cells⟩)], [(.code .ret)], mkT j [(6, (.e (.one (.slc 0 0 k 1 k false))))] 42 0⟩
theorem p152b (hE : EnvOk E) (C N O : List DT) (s n o p c k : Nat) (mg ms a : Int) (Y : List AC) (h0 : (decide (Int.ofNat k ≤ (6 : Int)) : Bool) = true) (h1 : COut E 0 [] 122 [(tA C s N n mg ms O o), (iN p), (iN c), (iN k)] (iI a) []) (h3 : (decide (a > ms) : Bool) = true) (g0 : FlatC Y) {Φ : Res → Prop} (ho : ∀ j, OutK E 0 0 (p152b_end k Y j) Φ) (j : JN) : OutK E 0 0 (y152g C N O s n o p c k mg ms Y j) Φ :=
 oS hE [.run 3, (.cond true), .run 4, (.ops [(4, (.c0 (iI a)))] []), .run 3, (.cond true), .run 3] [6] (s' := fun j => ⟨[(bK (tQ C s N n mg ms O o) 5 78), (.some ⟨(Y), k, 3, false, .cells⟩)], [(.code .ret)], mkT j [(6, (.e (.one (.slc 1 0 k 1 k false))))] 42 0⟩) (aP h0 <| aP h1 <| aN <| aP h3 <| aZ)
  fun j => outK_gcF [1] [true] (h' := [(.some ⟨(Y), k, 3, false, .cells⟩)]) (by decide) (by kernel_rfl) (by kernel_rfl) ⟨g0, trivial⟩ (by kernel_rfl) (ho j)
def p152x_end (k : Nat) (Y : List AC) (j : JN) : St := ⟨[(.some ⟨(Y), k, 3, false, .cells⟩)], [(.code .ret)], mkT j [(6, (.e (.one (.slc 0 0 k 1 k false))))] 42 0⟩
theorem p152x (hE : EnvOk E) (C N O : List DT) (s n o p c k : Nat) (mg ms : Int) (Y : List AC) (h0 : (decide (Int.ofNat k ≤ (6 : Int)) : Bool) = false) (g0 : FlatC Y) {Φ : Res → Prop} (ho : ∀ j, OutK E 0 0 (p152x_end k Y j) Φ) (j : JN) : OutK E 0 0 (y152g C N O s n o p c k mg ms Y j) Φ :=
 oS hE [.run 3, (.cond false), .run 3] [6] (s' := fun j => ⟨[(bK (tQ C s N n mg ms O o) 5 78), (.some ⟨(Y), k, 3, false, .cells⟩)], [(.code .ret)], mkT j [(6, (.e (.one (.slc 1 0 k 1 k false))))] 42 0⟩) (aP h0 <| aZ)
  fun j => outK_gcF [1] [true] (h' := [(.some ⟨(Y), k, 3, false, .cells⟩)]) (by decide) (by kernel_rfl) (by kernel_rfl) ⟨g0, trivial⟩ (by kernel_rfl) (ho j)
def p122s_end (C N O : List DT) (s n o i p q : Nat) (mg ms : Int) (Z : List AC) (j : JN) : St := ⟨[(bK (tQ C s N n mg ms O o) 5 78), (.some ⟨(Z), (q + 1), 30, false, .cells⟩)], [(.code (aF [1, 1, 0, 1, 0, 0] Tryz.f105)), (.inLoop (aF [1, 1, 0, 1, 0, 0] Tryz.f105)), (.inBlock 0), (.code (aF [1, 1, 1] Tryz.f105))], mkT j [(1, (iN p)), (2, (.e (.one (.ptr 0 0)))), (5, (.e (.one (.slc 1 0 (q + 1) 1 (q + 1) false)))), (9, (iN s)), (10, (iN (i + 1)))] 22 0⟩
theorem p122s (hE : EnvOk E) (C N O R : List DT) (s n o m i p q : Nat) (mg ms _x : Int) (Y Z : List AC) (h0 : (decide (Int.ofNat i < Int.ofNat s) : Bool) = true) (h1 : COut E 0 [] 163 [(tA C s N n mg ms O o), (iN p), (iN i)] (dQ R m) []) (h3 : ¬q + 1 ≤ q) (h4 : (small (q + 1) (1 : Nat) (24 : Nat) : Bool) = true) (h5 : (q : Nat) = q * nat_lit 1) (h6 : (appL Y ((fun x => AC.dp (DV.s R m (1 : Nat)) :: x) []) : List AC) = Z) (h8 : ((q + 1) * nat_lit 1 : Nat) = q + 1) (h9 : ((iI (wrapF IntKind.i64 (Int.ofNat i + (1 : Int)))) : AV) = (iN (i + 1))) (g0 : FlatC Z) {Φ : Res → Prop} (ho : ∀ j, OutK E 0 0 (p122s_end C N O s n o i p q mg ms Z j) Φ) (j : JN) : OutK E 0 0 (y122 C N O s n o i p q mg ms Y j) Φ :=
 oS hE [.run 3, (.cond true), .run 5, (.ops [(4, (.c0 (dQ R m))), (6, (.app (q + 1) (q + 1) Z))] []), .run 1, (.ops [(0, (.rn (iN (i + 1))))] []), .run 1] [1, 2, 5, 9, 10] (s' := fun j => ⟨[(bK (tQ C s N n mg ms O o) 5 78), none, (bK [(.dp (.s R m 1))] 1 30), (.some ⟨(Z), (q + 1), 30, false, .cells⟩)], [(.code (aF [1, 1, 0, 1, 0, 0] Tryz.f105)), (.inLoop (aF [1, 1, 0, 1, 0, 0] Tryz.f105)), (.inBlock 0), (.code (aF [1, 1, 1] Tryz.f105))], mkT j [(1, (iN p)), (2, (.e (.one (.ptr 0 0)))), (5, (.e (.one (.slc 3 0 (q + 1) 1 (q + 1) false)))), (9, (iN s)), (10, (iN (i + 1)))] 22 0⟩) (aP h0 <| aP h1 <| aN <| aQ h3 h4 h5 h6 <| aP (rfl : (q + 1 : Nat) = q + 1) <| aP h8 <| aP h9 <| aZ)
  fun j => outK_gcF [0, 3] [false, true] (h' := [(bK (tQ C s N n mg ms O o) 5 78), (.some ⟨(Z), (q + 1), 30, false, .cells⟩)]) (by decide) (by kernel_rfl) (by kernel_rfl) ⟨g0, trivial⟩ (by kernel_rfl) (ho j)
def p122x_end (q : Nat) (Y : List AC) (j : JN) : St := ⟨[(.some ⟨(Y), q, 30, false, .cells⟩)], [(.code .ret)], mkT j [(4, (.e (.one (.slc 0 0 q 1 q false))))] 22 0⟩
theorem p122x (hE : EnvOk E) (C N O : List DT) (s n o i p q : Nat) (mg ms : Int) (Y : List AC) (h0 : (decide (Int.ofNat i < Int.ofNat s) : Bool) = false) (g0 : FlatC Y) {Φ : Res → Prop} (ho : ∀ j, OutK E 0 0 (p122x_end q Y j) Φ) (j : JN) : OutK E 0 0 (y122 C N O s n o i p q mg ms Y j) Φ :=
 oS hE [.run 3, (.cond false), .run 3] [4] (s' := fun j => ⟨[(bK (tQ C s N n mg ms O o) 5 78), (.some ⟨(Y), q, 30, false, .cells⟩)], [(.code .ret)], mkT j [(4, (.e (.one (.slc 1 0 q 1 q false))))] 22 0⟩) (aP h0 <| aZ)
  fun j => outK_gcF [1] [true] (h' := [(.some ⟨(Y), q, 30, false, .cells⟩)]) (by decide) (by kernel_rfl) (by kernel_rfl) ⟨g0, trivial⟩ (by kernel_rfl) (ho j)
def tab {α : Type} (f : Nat → α) : Nat → List α
 | 0 => []
 | n + 1 => tab f n ++ [f n]
theorem tab_len {α : Type} (f : Nat → α) : ∀ n, (tab f n).length = n
 | 0 => rfl
 | n + 1 => by rw [show tab f (n + 1) = tab f n ++ [f n] from rfl, List.length_append, tab_len f n]; rfl
theorem tab_map {α β : Type} (f : Nat → α) (g : α → β) : ∀ n, (tab f n).map g = tab (fun i => g (f i)) n
 | 0 => rfl
 | n + 1 => by rw [show tab f (n + 1) = tab f n ++ [f n] from rfl, List.map_append, tab_map f g n]; rfl
theorem tab_mem {α : Type} (f : Nat → α) (P : α → Prop) (h : ∀ i, P (f i)) : ∀ n, ∀ x ∈ tab f n, P x
 | 0, x, hx => by simp [tab] at hx
 | n + 1, x, hx => by
  rcases List.mem_append.1 hx with hx | hx
  ·exact tab_mem f P h n x hx
  ·rw [List.mem_singleton.1 hx]; exact h n
theorem tab_congr {α : Type} {f g : Nat → α} : ∀ n, (∀ i, i < n → f i = g i) → tab f n = tab g n
 | 0, _ => rfl
 | n + 1, h => by
  show tab f n ++ [f n] = tab g n ++ [g n]
  rw [tab_congr n fun i hi => h i (by omega), h n (by omega)]
def pwR (mg x z ms : Int) : Nat → Nat → List Int → List Int
 | 0, _, l => l
 | m + 1, k, l => if pwV mg x z k ≤ ms then pwR mg x z ms m (k + 1) (l ++ [pwV mg x z k]) else l
def powL (mg x z ms : Int) (nt : List Int) (c : Nat) : List Int := if z = 0 ∨ (Int.ofNat c) ∈ nt then [0] else pwR mg x z ms 6 1 [0]
theorem pwR_len (mg x z ms : Int) : ∀ m k l, (pwR mg x z ms m k l).length ≤ l.length + m
 | 0, k, l => Nat.le_refl _
 | m + 1, k, l => by
  unfold pwR
  split
  ·have := pwR_len mg x z ms m (k + 1) (l ++ [pwV mg x z k])
   rw [List.length_append, List.length_singleton] at this
   omega
  ·omega
theorem powL_len (mg x z ms : Int) (nt : List Int) (c : Nat) : (powL mg x z ms nt c).length ≤ 7 := by
 unfold powL
 split
 ·decide
 ·have := pwR_len mg x z ms 6 1 [0]
  simpa using this
theorem l152 (hE : EnvOk E) (sg : List Int) (ns : List (List Int)) (mg ms : Int) (nt : List Int) {p c : Nat} {r : List Int} {x z : Int} (hk0 : cellOk sg ns mg p c r x z) (hz1 : 1 ≤ z) (V : List Int) : ∀ m k l, m + k = 7 → l.length = k → V = pwR mg x z ms m k l → ∀ j, OutK E 0 0 (y152g (iD sg) (rD ns) (iD nt) sg.length ns.length nt.length p c k mg ms (iC l) j) (Go.Ev.Ends E Tryz.f163 (.e (.one (.slc 0 0 V.length 1 V.length false))) [some ⟨iC V, V.length, 3, false, .cells⟩])
 | 0, k, l, hk, hl, hV, j => by
  obtain rfl : V = l := hV
  subst hl
  exact p152x hE (iD sg) (rD ns) (iD nt) sg.length ns.length nt.length p c V.length mg ms (iC V) dF (by first | exact flat_iC _ | exact flat_rows _) (fun j => outK_ret (ends_ret (by kernel_rfl))) j
 | m + 1, k, l, hk, hl, hV, j => by
  have k73 := K73 hE sg ns mg ms nt hk0 k (by omega) hz1
  by_cases h : pwV mg x z k ≤ ms
  ·have ih := l152 hE sg ns mg ms nt hk0 hz1 V m (k + 1) (l ++ [pwV mg x z k]) (by omega) (by simp [hl]) (by rw [hV]; exact if_pos h)
   exact p152s hE (iD sg) (rD ns) (iD nt) sg.length ns.length nt.length p c k mg ms 0 (pwV mg x z k) (iC l) (iC (l ++ [pwV mg x z k])) dT k73 (decide_eq_false (by omega)) (by omega) (by simp [small]; omega) oB (iC_app l [pwV mg x z k]) oB (iIe (by (try simp only [Int.ofNat_eq_natCast]); rw [wrap_id (by omega) (by omega)]; try omega)) (by first | exact flat_iC _ | exact flat_rows _) ih j
  ·obtain rfl : V = l := by rw [hV]; exact if_neg h
   subst hl
   exact p152b hE (iD sg) (rD ns) (iD nt) sg.length ns.length nt.length p c V.length mg ms (pwV mg x z V.length) (iC V) dT k73 (decide_eq_true (by omega)) (by first | exact flat_iC _ | exact flat_rows _) (fun j => outK_ret (ends_ret (by kernel_rfl))) j
theorem K152 (hE : EnvOk E) (sg : List Int) (ns : List (List Int)) (mg ms : Int) (nt : List Int) (hn : nt.length ≤ 100000) {p c : Nat} {r : List Int} {x z : Int} (hk0 : cellOk sg ns mg p c r x z) : COut E 0 [] 163 [aT sg ns mg ms nt, iI (Int.ofNat p), iI (Int.ofNat c)] (dI (powL mg x z ms nt c)) [] := by
 have hs := hk0.2.2.1
 have l3 := ixl hs
 have one : COut E 0 [] 163 [aT sg ns mg ms nt, iI (Int.ofNat p), iI (Int.ofNat c)] (.e (.one (.slc 0 0 1 1 1 true))) [bK (iC [0]) 1 3] → COut E 0 [] 163 [aT sg ns mg ms nt, iI (Int.ofNat p), iI (Int.ofNat c)] (dI [0]) [] := fun hc => cOut_clear (cOut_freeze 0 hc rfl (Nat.zero_le _) (ds := iD [0]) (frzAll (iD [0]) 1 1 1 true (by simp))) rfl
 by_cases h : z = 0
 ·have hz : (z == (0 : Int)) = true := beq_iff_eq.2 h
  rw [show powL mg x z ms nt c = [0] from if_pos (.inl h)]
  exact one (cOut_start Tryz.func163 rfl (p152z hE (iD sg) (rD ns) (iD nt) sg.length ns.length nt.length p c mg ms z false bP (Nat.mul_one _) (gI hs) (by rw [hz]; rfl) (by rw [hz]; rfl) (by rw [hz]; rfl) (by rw [hz]; rfl) hz (fun j => outK_ret (ends_ret (by kernel_rfl))) fun _ => undef))
 ·have hz : (z == (0 : Int)) = false := beq_eq_false_iff_ne.2 h
  have hz1 : 1 ≤ z := by have := hk0.2.2.2.2.2; omega
  by_cases hb : (Int.ofNat c) ∈ nt
  ·rw [show powL mg x z ms nt c = [0] from if_pos (.inr hb)]
   exact one (cOut_start Tryz.func163 rfl (p152h hE (iD sg) (rD ns) (iD nt) sg.length ns.length nt.length p c mg ms z true bP (Nat.mul_one _) (gI hs) (by rw [hz]; rfl) (by rw [hz]; rfl) (by rw [hz]; rfl) (by rw [hz]; rfl) (decide_eq_true hb ▸ K171 hE nt (Int.ofNat c) hn) hz oB (fun j => outK_ret (ends_ret (by kernel_rfl))) fun _ => undef))
  ·rw [show powL mg x z ms nt c = pwR mg x z ms 6 1 [0] from if_neg (fun a => a.elim h hb)]
   have k73 : COut E 0 [] 122 [aT sg ns mg ms nt, iI (Int.ofNat p), iI (Int.ofNat c), iI 1] (iI (pwV mg x z 1)) [] := K73 hE sg ns mg ms nt hk0 1 (by omega) hz1
   by_cases g : pwV mg x z 1 ≤ ms
   ·have ih := l152 hE sg ns mg ms nt hk0 hz1 (pwR mg x z ms 6 1 [0]) 5 2 [0, pwV mg x z 1] rfl rfl (if_pos g)
    generalize pwR mg x z ms 6 1 [0] = V at ih
    have hc : COut E 0 [] 163 [aT sg ns mg ms nt, iI (Int.ofNat p), iI (Int.ofNat c)] (.e (.one (.slc 0 0 V.length 1 V.length false))) [some ⟨iC V, V.length, 3, false, .cells⟩] :=
     cOut_start Tryz.func163 rfl (p152a hE (iD sg) (rD ns) (iD nt) sg.length ns.length nt.length p c mg ms z false bP (Nat.mul_one _) (gI hs) (by rw [hz]; rfl) (by rw [hz]; rfl) (by rw [hz]; rfl) (by rw [hz]; rfl) (decide_eq_false hb ▸ K171 hE nt (Int.ofNat c) hn) hz oB (p152f hE (iD sg) (rD ns) (iD nt) sg.length ns.length nt.length p c 1 mg ms (pwV mg x z 1) k73 (decide_eq_false (by omega)) oB ih) fun _ => undef)
    exact cOut_clear (cOut_freeze 0 hc rfl (Nat.zero_le _) (ds := iD V) (frzAll (iD V) V.length 1 V.length false (by simp))) rfl
   ·rw [show pwR mg x z ms 6 1 [0] = [0] from if_neg g]
    exact one (cOut_start Tryz.func163 rfl (p152a hE (iD sg) (rD ns) (iD nt) sg.length ns.length nt.length p c mg ms z false bP (Nat.mul_one _) (gI hs) (by rw [hz]; rfl) (by rw [hz]; rfl) (by rw [hz]; rfl) (by rw [hz]; rfl) (decide_eq_false hb ▸ K171 hE nt (Int.ofNat c) hn) hz oB (p152fb hE (iD sg) (rD ns) (iD nt) sg.length ns.length nt.length p c mg ms (pwV mg x z 1) k73 (decide_eq_true (by omega)) (fun j => outK_ret (ends_ret (by kernel_rfl)))) fun _ => undef))
structure PartOk (sg : List Int) (ns : List (List Int)) (mg : Int) (p : Nat) (r : List Int) : Prop where
 row : ns[p]? = some r
 len : r.length = sg.length
 mgb : 1 ≤ mg ∧ mg ≤ 100
 rb : ∀ x ∈ r, 1 ≤ x ∧ x ≤ 1000000
 sb : ∀ z ∈ sg, 0 ≤ z ∧ z ≤ 1000000000
 many : 0 < sg.length ∧ sg.length ≤ 8
theorem el_get {l : List Int} {i : Nat} (h : i < l.length) : l[i]? = some (el l i) := by
 unfold el; rw [List.getElem?_eq_getElem h]; rfl
theorem el_mem {l : List Int} {i : Nat} (h : i < l.length) : el l i ∈ l := List.mem_of_getElem? (el_get h)
theorem cell_of {sg : List Int} {ns : List (List Int)} {mg : Int} {p : Nat} {r : List Int} (h : PartOk sg ns mg p r) {c : Nat} (hc : c < sg.length) : cellOk sg ns mg p c r (el r c) (el sg c) :=
 ⟨h.row, el_get (by rw [h.len]; exact hc), el_get hc, h.mgb, h.rb _ (el_mem (by rw [h.len]; exact hc)), h.sb _ (el_mem hc)⟩
abbrev rowV (sg r : List Int) (mg ms : Int) (nt : List Int) : Nat → List Int := fun c => powL mg (el r c) (el sg c) ms nt c
abbrev carW (sg r : List Int) (mg ms : Int) (nt : List Int) : Nat → Int := fun c => Int.ofNat (carV mg (el r c) (el sg c) ms nt c)
theorem l122 (hE : EnvOk E) (sg : List Int) (ns : List (List Int)) (mg ms : Int) (nt : List Int) (hn : nt.length ≤ 100000) {p : Nat} {r : List Int} (h : PartOk sg ns mg p r) : ∀ m i, m + i = sg.length → ∀ j, OutK E 0 0 (y122 (iD sg) (rD ns) (iD nt) sg.length ns.length nt.length i p i mg ms (rC (tab (rowV sg r mg ms nt) i)) j) (Go.Ev.Ends E Tryz.f105 (.e (.one (.slc 0 0 sg.length 1 sg.length false))) [some ⟨rC (tab (rowV sg r mg ms nt) sg.length), sg.length, 30, false, .cells⟩])
 | 0, i, hi, j => by
  obtain rfl : i = sg.length := by omega
  exact p122x hE (iD sg) (rD ns) (iD nt) sg.length ns.length nt.length sg.length p sg.length mg ms (rC (tab (rowV sg r mg ms nt) sg.length)) dF (by first | exact flat_iC _ | exact flat_rows _) (fun j => outK_ret (ends_ret (by kernel_rfl))) j
 | m + 1, i, hi, j => by
  have hl : i < sg.length := by omega
  have hL := h.many.2
  exact p122s hE (iD sg) (rD ns) (iD nt) (iD (rowV sg r mg ms nt i)) sg.length ns.length nt.length ((rowV sg r mg ms nt i).length) i p i mg ms 0 (rC (tab (rowV sg r mg ms nt) i)) (rC (tab (rowV sg r mg ms nt) (i + 1))) dT (K152 hE sg ns mg ms nt hn (cell_of h hl)) (by omega) (by simp [small]; omega) oB (rC_app _ _) oB (iIe (by (try simp only [Int.ofNat_eq_natCast]); rw [wrap_id (by omega) (by omega)]; try omega)) (by first | exact flat_iC _ | exact flat_rows _) (l122 hE sg ns mg ms nt hn h m (i + 1) (by omega)) j
theorem K122 (hE : EnvOk E) (sg : List Int) (ns : List (List Int)) (mg ms : Int) (nt : List Int) (hn : nt.length ≤ 100000) {p : Nat} {r : List Int} (h : PartOk sg ns mg p r) : COut E 0 [] 105 [aT sg ns mg ms nt, iI (Int.ofNat p)] (.e (.one (.dp (.s (rD (tab (rowV sg r mg ms nt) sg.length)) sg.length 1)))) [] := by
 have hl := h.many.1
 have hL := h.many.2
 have hc : COut E 0 [] 105 [aT sg ns mg ms nt, iI (Int.ofNat p)] (.e (.one (.slc 0 0 sg.length 1 sg.length false))) [some ⟨rC (tab (rowV sg r mg ms nt) sg.length), sg.length, 30, false, .cells⟩] :=
  cOut_start Tryz.func105 rfl (p122a hE (iD sg) (rD ns) (iD nt) sg.length ns.length nt.length p mg ms (p122n hE (iD sg) (rD ns) (iD nt) (iD (rowV sg r mg ms nt 0)) sg.length ns.length nt.length ((rowV sg r mg ms nt 0).length) 0 p mg ms dT (K152 hE sg ns mg ms nt hn (cell_of h hl)) (iIe (by (try simp only [Int.ofNat_eq_natCast]); rw [wrap_id (by omega) (by omega)]; try omega)) (l122 hE sg ns mg ms nt hn h (sg.length - 1) 1 (by omega))) fun _ => undef)
 exact cOut_clear (cOut_freeze 0 hc rfl (Nat.zero_le _) (ds := rD (tab (rowV sg r mg ms nt) sg.length)) (frzAll _ sg.length 1 sg.length false (by rw [List.length_map, tab_len, Nat.mul_one]))) rfl
abbrev lenF (r : List Int) : Int := (r.length : Int) - 1
theorem l127 (hE : EnvOk E) (L : List (List Int)) (hL : L.length ≤ 100000) (hr : ∀ r ∈ L, r.length ≤ 100000) : ∀ m i, m + i = L.length → ∀ (A : List Int), A.length = i → A = (L.take i).map lenF → ∀ j, OutK E 0 0 (y127 (rD L) L.length i (iC (A ++ List.replicate m 0)) j) (Go.Ev.Ends E Tryz.f171 (.e (.one (.slc 0 0 L.length 1 L.length true))) [bK (iC (L.map lenF)) L.length 3])
 | 0, i, hi, A, hA, hV, j => by
  obtain rfl : i = L.length := by omega
  rw [List.take_length] at hV
  subst hV
  rw [List.replicate_zero, List.append_nil]
  exact p127x hE (rD L) L.length L.length (iC (L.map lenF)) dF (fun j => outK_ret (ends_ret (by kernel_rfl))) j
 | m + 1, i, hi, A, hA, hV, j => by
  have hl : i < L.length := by omega
  have hx : L[i]? = some L[i] := List.getElem?_eq_getElem hl
  have hm := hr L[i] (List.getElem_mem hl)
  have ih := l127 hE L hL hr m (i + 1) (by omega) (A ++ [lenF L[i]]) (by simp [hA]) (by rw [hV, ← List.take_append_getElem hl, List.map_append]; rfl)
  generalize L[i] = r at hx hm ih
  exact p127s hE (iD r) (rD L) r.length L.length i (lenF r) (iC (A ++ List.replicate (m + 1) 0)) (iC ((A ++ [lenF r]) ++ List.replicate m 0)) dT bP (Nat.mul_one _) (gR hx) (K128 hE r hm) (by simp) (by omega) (by rw [st_iC, ← hA, rep_set]) (iIe (by (try simp only [Int.ofNat_eq_natCast]); rw [wrap_id (by omega) (by omega)]; try omega)) ih j
theorem K127 (hE : EnvOk E) (L : List (List Int)) (hL : L.length ≤ 100000) (hr : ∀ r ∈ L, r.length ≤ 100000) : COut E 0 [] 171 [dR L, .e (.one (.v (.func (.func 172) #[] #[])))] (.e (.one (.slc 0 0 L.length 1 L.length true))) [bK (iC (L.map lenF)) L.length 3] :=
 cOut_start Tryz.func171 rfl (p127a hE (rD L) L.length 0 (iC (List.replicate L.length 0)) ⟨by omega, by omega⟩ (by simp [small]; omega) rfl oB (rep0 _) (l127 hE L hL hr L.length 0 rfl [] rfl rfl) fun _ => undef)
theorem K127n (hE : EnvOk E) (L : List (List Int)) (n : Nat) (hn : L.length = n) (hL : L.length ≤ 100000) (hr : ∀ r ∈ L, r.length ≤ 100000) : COut E 0 [] 171 [.e (.one (.dp (.s (rD L) n 1))), .e (.one (.v (.func (.func 172) #[] #[])))] (.e (.one (.slc 0 0 n 1 n true))) [bK (iC (L.map lenF)) n 3] := by
 subst hn; exact K127 hE L hL hr
theorem K74o (hE : EnvOk E) (sg : List Int) (ns : List (List Int)) (mg ms : Int) (nt : List Int) (hn : nt.length ≤ 100000) {p : Nat} {r : List Int} (h : PartOk sg ns mg p r) : COut E 0 [] 114 [aT sg ns mg ms nt, iI (Int.ofNat p)] (.e (.one (.slc 0 0 sg.length 1 sg.length true))) [bK (iC (tab (fun c => lenF (rowV sg r mg ms nt c)) sg.length)) sg.length 3] := by
 have k122 := K122 hE sg ns mg ms nt hn h
 have hL := h.many.2
 have k127 := K127n hE (tab (rowV sg r mg ms nt) sg.length) sg.length (tab_len ..) (by rw [tab_len]; omega) (tab_mem (rowV sg r mg ms nt) (fun r : List Int => r.length ≤ 100000) (fun i => Nat.le_trans (powL_len mg _ _ ms nt i) (by decide)) _)
 rw [tab_map] at k127
 exact (cOut_start Tryz.func114 rfl (p74 hE (iD sg) (rD ns) (iD nt) (rD (tab (rowV sg r mg ms nt) sg.length)) sg.length ns.length nt.length sg.length p mg ms (iC (tab (fun c => lenF (rowV sg r mg ms nt c)) sg.length)) k122 k127 oB ⟨(by first | exact flat_iC _ | exact flat_rows _), trivial⟩ (by first | exact flat_iC _ | exact flat_rows _) (fun j => outK_ret (ends_ret (by kernel_rfl))) fun _ => undef))
end
end Go.Proofs.YtigdchbjmnbjlaaGreatDoor
end

/-! SeDh -/
section
open Go Go.Ev
namespace Go.Proofs.YtigdchbjmnbjlaaGreatDoor
noncomputable section
set_option maxRecDepth 100000
set_option maxHeartbeats 20000000
def x14 (C N O : List DT) (s n o : Nat) (mg ms : Int) (_j : JN) : St := startK Tryz.f52 [] [.e (.agg (tQ C s N n mg ms O o))]
def y14 (C N O : List DT) (s n o i : Nat) (mg ms : Int) (Y : List AC) (j : JN) : St := ⟨[(bK (tQ C s N n mg ms O o) 5 78), (bK Y s 3)], [(.code (aF [1, 1, 1, 0, 1, 0, 0] Tryz.f52)), (.inLoop (aF [1, 1, 1, 0, 1, 0, 0] Tryz.f52)), (.inBlock 0), (.code (aF [1, 1, 1, 1] Tryz.f52))], mkT j [(1, (.e (.one (.ptr 0 0)))), (5, (.e (.one (.slc 1 0 s 1 s true)))), (18, (iN n)), (19, (iN i))] 43 0⟩
def y14i (C N O R : List DT) (s n o m i k : Nat) (mg ms : Int) (Y : List AC) (j : JN) : St := ⟨[(bK (tQ C s N n mg ms O o) 5 78), (bK Y s 3)], [(.code (aF [1, 1, 1, 0, 1, 0, 0, 1, 1, 0, 0, 1, 1, 0, 0] Tryz.f52)), (.inLoop (aF [1, 1, 1, 0, 1, 0, 0, 1, 1, 0, 0, 1, 1, 0, 0] Tryz.f52)), (.inBlock 2), (.inBlock 1), (.code (aF [1, 1, 1, 0, 1, 0, 0, 1, 1, 1] Tryz.f52)), (.inLoop (aF [1, 1, 1, 0, 1, 0, 0] Tryz.f52)), (.inBlock 0), (.code (aF [1, 1, 1, 1] Tryz.f52))], mkT j [(1, (.e (.one (.ptr 0 0)))), (5, (.e (.one (.slc 1 0 s 1 s true)))), (18, (iN n)), (19, (iN i)), (24, (dQ R m)), (25, (iN m)), (26, (iN k))] 43 0⟩
def p14a_end (C N O : List DT) (s n o : Nat) (mg ms : Int) (Y : List AC) (j : JN) : St := ⟨[(bK (tQ C s N n mg ms O o) 5 78), (bK Y s 3)], [(.code (aF [1, 1, 1, 0, 1, 0, 0] Tryz.f52)), (.inLoop (aF [1, 1, 1, 0, 1, 0, 0] Tryz.f52)), (.inBlock 0), (.code (aF [1, 1, 1, 1] Tryz.f52))], mkT j [(1, (.e (.one (.ptr 0 0)))), (5, (.e (.one (.slc 1 0 s 1 s true)))), (18, (iN n)), (19, (iI 0))] 43 0⟩
theorem p14a (hE : EnvOk E) (C N O : List DT) (s n o : Nat) (mg ms e : Int) (Y : List AC) (h0 : COut E 0 [] 113 [(tA C s N n mg ms O o)] (iI e) []) (h2 : (e != (0 : Int) : Bool) = false) (h3 : COut E 0 [] 114 [(tA C s N n mg ms O o), (iI 0)] (.e (.one (.slc 0 0 s 1 s true))) [(bK Y s 3)]) (h6 : True) (h8 : FlatB (some { cells := Y, n := s, elem := (3 : TypeId), full := true, ext := AX.cells : AB }) ∧ True) {Φ : Res → Prop} (ho : ∀ j, OutK E 0 0 (p14a_end C N O s n o mg ms Y j) Φ) (j : JN) : OutK E 0 0 (x14 C N O s n o mg ms j) Φ :=
 oS hE [.run 4, (.ops [(1, (.c0 (iI e)))] []), .run 2, (.cond false), .run 2, (.ops [(1, (.cl [] [] [(tA C s N n mg ms O o), (iI 0)] [] (.e (.one (.slc 0 0 s 1 s true))) [(bK Y s 3)] (.e (.one (.slc 1 0 s 1 s true))) [true] [(bK Y s 3)]))] []), .run 2, (.ops [(2, (.d .len))] []), .run 2] [1, 5, 18, 19] (aP h0 <| aN <| aP h2 <| aP h3 <| aP (rfl : ([(tA C s N n mg ms O o), (iI 0)] : List AV) = [(tA C s N n mg ms O o), (iI 0)]) <| aP (rfl : ([] : List (Option (Option AB))) = []) <| aP h6 <| aP (rfl : ([(.some (bK Y s 3))] : List (Option (Option AB))) = [(.some (bK Y s 3))]) <| aP h8 <| aP (rfl : ((.e (.one (.slc 1 0 s 1 s true))) : AV) = (.e (.one (.slc 1 0 s 1 s true)))) <| aZ)
  ho
def p14s_end (C N O R : List DT) (s n o m i : Nat) (mg ms : Int) (Y : List AC) (j : JN) : St := ⟨[(bK (tQ C s N n mg ms O o) 5 78), (bK Y s 3)], [(.code (aF [1, 1, 1, 0, 1, 0, 0, 1, 1, 0, 0, 1, 1, 0, 0] Tryz.f52)), (.inLoop (aF [1, 1, 1, 0, 1, 0, 0, 1, 1, 0, 0, 1, 1, 0, 0] Tryz.f52)), (.inBlock 2), (.inBlock 1), (.code (aF [1, 1, 1, 0, 1, 0, 0, 1, 1, 1] Tryz.f52)), (.inLoop (aF [1, 1, 1, 0, 1, 0, 0] Tryz.f52)), (.inBlock 0), (.code (aF [1, 1, 1, 1] Tryz.f52))], mkT j [(1, (.e (.one (.ptr 0 0)))), (5, (.e (.one (.slc 1 0 s 1 s true)))), (18, (iN n)), (19, (iN i)), (24, (dQ R m)), (25, (iN m)), (26, (iI 0))] 43 0⟩
theorem p14s (hE : EnvOk E) (C N O R : List DT) (s n o m i : Nat) (mg ms : Int) (Y : List AC) (h0 : (decide (Int.ofNat i < Int.ofNat n) : Bool) = true) (h1 : COut E 0 [] 114 [(tA C s N n mg ms O o), (iN i)] (dQ R m) []) {Φ : Res → Prop} (ho : ∀ j, OutK E 0 0 (p14s_end C N O R s n o m i mg ms Y j) Φ) (j : JN) : OutK E 0 0 (y14 C N O s n o i mg ms Y j) Φ :=
 oS hE [.run 3, (.cond true), .run 6, (.ops [(2, (.c0 (dQ R m))), (3, (.d .len))] []), .run 2] [1, 5, 18, 19, 24, 25, 26] (aP h0 <| aP h1 <| aN <| aZ)
  ho
def p14x_end (s : Nat) (Y : List AC) (j : JN) : St := ⟨[(bK Y s 3)], [(.code .ret)], mkT j [(2, (.e (.one (.slc 0 0 s 1 s true)))), (3, (iI 0))] 43 0⟩
theorem p14x (hE : EnvOk E) (C N O : List DT) (s n o i : Nat) (mg ms : Int) (Y : List AC) (h0 : (decide (Int.ofNat i < Int.ofNat n) : Bool) = false) (g0 : FlatC Y) {Φ : Res → Prop} (ho : ∀ j, OutK E 0 0 (p14x_end s Y j) Φ) (j : JN) : OutK E 0 0 (y14 C N O s n o i mg ms Y j) Φ :=
 oS hE [.run 3, (.cond false), .run 3] [2, 3] (s' := fun j => ⟨[(bK (tQ C s N n mg ms O o) 5 78), (bK Y s 3)], [(.code .ret)], mkT j [(2, (.e (.one (.slc 1 0 s 1 s true)))), (3, (iI 0))] 43 0⟩) (aP h0 <| aZ)
  fun j => outK_gcF [1] [true] (h' := [(bK Y s 3)]) (by decide) (by kernel_rfl) (by kernel_rfl) ⟨g0, trivial⟩ (by kernel_rfl) (ho j)
def p14t_end (C N O R : List DT) (s n o m i k : Nat) (mg ms : Int) (Z : List AC) (j : JN) : St := ⟨[(bK (tQ C s N n mg ms O o) 5 78), (bK Z s 3)], [(.code (aF [1, 1, 1, 0, 1, 0, 0, 1, 1, 0, 0, 1, 1, 0, 0] Tryz.f52)), (.inLoop (aF [1, 1, 1, 0, 1, 0, 0, 1, 1, 0, 0, 1, 1, 0, 0] Tryz.f52)), (.inBlock 2), (.inBlock 1), (.code (aF [1, 1, 1, 0, 1, 0, 0, 1, 1, 1] Tryz.f52)), (.inLoop (aF [1, 1, 1, 0, 1, 0, 0] Tryz.f52)), (.inBlock 0), (.code (aF [1, 1, 1, 1] Tryz.f52))], mkT j [(1, (.e (.one (.ptr 0 0)))), (5, (.e (.one (.slc 1 0 s 1 s true)))), (18, (iN n)), (19, (iN i)), (24, (dQ R m)), (25, (iN m)), (26, (iN (k + 1)))] 43 0⟩
theorem p14t (hE : EnvOk E) (C N O R : List DT) (s n o m i k : Nat) (mg ms x z e : Int) (Y Z : List AC) (h0 : (decide (Int.ofNat k < Int.ofNat m) : Bool) = true) (h1 : (0 : Int) ≤ Int.ofNat k ∧ Int.ofNat k < (↑m : Int)) (h2 : ((Int.ofNat k).toNat * nat_lit 1 : Nat) = k) (h3 : (getL R k : Option DT) = (.some (.v (.int .i64 z)))) (h4 : (0 : Int) ≤ Int.ofNat k ∧ Int.ofNat k < (↑s : Int)) (h5 : (nat_lit 0 + (Int.ofNat k).toNat * nat_lit 1 : Nat) = k) (h6 : (getL Y k : Option AC) = (.some (.v (.int .i64 x)))) (h7 : ((iI (if z < x then z else x)) : AV) = (iI e)) (h10 : k + 1 ≤ s) (h11 : (overL [AC.v (Value.int IntKind.i64 e)] Y k : List AC) = Z) (h12 : ((iI (wrapF IntKind.i64 (Int.ofNat k + (1 : Int)))) : AV) = (iN (k + 1))) {Φ : Res → Prop} (ho : ∀ j, OutK E 0 0 (p14t_end C N O R s n o m i k mg ms Z j) Φ) (j : JN) : OutK E 0 0 (y14i C N O R s n o m i k mg ms Y j) Φ :=
 oS hE [.run 3, (.cond true), .run 4, (.ops [(2, (.d (.ld (.v (.int .i64 z))))), (1, (.d (.ix k)))] []), (.ops [(4, (.ix k)), (5, (.ld (.v (.int .i64 x)))), (7, (.rn (iI e))), (8, (.ix k)), (9, (.st Z))] []), .run 1, (.ops [(0, (.rn (iN (k + 1))))] []), .run 1] [1, 5, 18, 19, 24, 25, 26] (aQ h0 h1 h2 h3 <| aQ h4 h5 h6 h7 <| aQ h4 h5 h10 h11 <| aP h12 <| aZ)
  ho
def p14y_end (C N O : List DT) (s n o i : Nat) (mg ms : Int) (Y : List AC) (j : JN) : St := ⟨[(bK (tQ C s N n mg ms O o) 5 78), (bK Y s 3)], [(.code (aF [1, 1, 1, 0, 1, 0, 0] Tryz.f52)), (.inLoop (aF [1, 1, 1, 0, 1, 0, 0] Tryz.f52)), (.inBlock 0), (.code (aF [1, 1, 1, 1] Tryz.f52))], mkT j [(1, (.e (.one (.ptr 0 0)))), (5, (.e (.one (.slc 1 0 s 1 s true)))), (18, (iN n)), (19, (iN (i + 1)))] 43 0⟩
theorem p14y (hE : EnvOk E) (C N O R : List DT) (s n o m i k : Nat) (mg ms : Int) (Y : List AC) (h0 : (decide (Int.ofNat k < Int.ofNat m) : Bool) = false) (h1 : ((iI (wrapF IntKind.i64 (Int.ofNat i + (1 : Int)))) : AV) = (iN (i + 1))) {Φ : Res → Prop} (ho : ∀ j, OutK E 0 0 (p14y_end C N O s n o i mg ms Y j) Φ) (j : JN) : OutK E 0 0 (y14i C N O R s n o m i k mg ms Y j) Φ :=
 oS hE [.run 3, (.cond false), .run 2, (.ops [(0, (.rn (iN (i + 1))))] []), .run 1] [1, 5, 18, 19] (aP h0 <| aP h1 <| aZ)
  ho
theorem tab_get {α : Type} (f : Nat → α) : ∀ {n k : Nat}, k < n → (tab f n)[k]? = some (f k)
 | n + 1, k, h => by
  show (tab f n ++ [f n])[k]? = _
  by_cases e : k < n
  ·rw [List.getElem?_append_left (by rw [tab_len]; exact e)]; exact tab_get f e
  ·obtain rfl : k = n := by omega
   rw [List.getElem?_append_right (by rw [tab_len]; exact Nat.le_refl _), tab_len, Nat.sub_self]; rfl
theorem tab_set {α : Type} (f : Nat → α) (v : α) : ∀ {n k : Nat}, k < n → (tab f n).set k v = tab (fun i => if i = k then v else f i) n
 | n + 1, k, h => by
  show (tab f n ++ [f n]).set k v = tab _ n ++ [if n = k then v else f n]
  by_cases e : k < n
  ·rw [List.set_append_left _ _ (by rw [tab_len]; exact e), tab_set f v e, if_neg (by omega)]
  ·obtain rfl : k = n := by omega
   rw [List.set_append_right _ _ (by rw [tab_len]; exact Nat.le_refl _), tab_len, Nat.sub_self, if_pos rfl, tab_congr (f := f) (g := fun i => if i = k then v else f i) k fun i hi => (if_neg (by omega)).symm]
   rfl
theorem gC {l : List Int} {i : Nat} {x : Int} (h : l[i]? = some x) : getL (iC l) i = some (.v (.int .i64 x)) := by rw [getL_eq, List.getElem?_map, List.getElem?_map, h]; rfl
theorem pw_mono {mg x z : Int} (hm : 1 ≤ mg) (hx : 1 ≤ x) (hz : 1 ≤ z) {k l : Nat} (h1 : 1 ≤ k) (h : k ≤ l) : pwV mg x z k ≤ pwV mg x z l := by
 unfold pwV
 rw [if_neg (by omega), if_neg (by omega)]
 have a : 2 ^ k ≤ 2 ^ l := Nat.pow_le_pow_right (by omega) h
 have a1 : 0 < 2 ^ k := Nat.pos_of_ne_zero (by simp)
 have b : Int.ofNat (2 ^ k) - 1 ≤ Int.ofNat (2 ^ l) - 1 := by simp only [Int.ofNat_eq_natCast]; omega
 have b0 : 0 ≤ Int.ofNat (2 ^ k) - 1 := by simp only [Int.ofNat_eq_natCast]; omega
 have c := Int.mul_le_mul_of_nonneg_left b (show 0 ≤ mg by omega)
 have c0 := Int.mul_nonneg (show 0 ≤ mg by omega) b0
 have d := Int.mul_le_mul_of_nonneg_right c (show 0 ≤ x by omega)
 have d0 := Int.mul_nonneg c0 (show 0 ≤ x by omega)
 rw [Int.tdiv_eq_ediv_of_nonneg (by omega), Int.tdiv_eq_ediv_of_nonneg (by omega)]
 exact Int.ediv_le_ediv (by omega) (by omega)
theorem bst_z {mg x z ms : Int} (hz : z = 0) : ∀ k, bstF mg x z ms k = 0
 | 0 => rfl
 | k + 1 => by unfold bstF; rw [if_neg (fun a => a.1 hz)]; exact bst_z hz k
theorem bst_lo {mg x z ms : Int} {k : Nat} (h1 : 1 ≤ k) : ∀ t, (∀ i, k ≤ i → i ≤ t → ¬ pwV mg x z i ≤ ms) → k ≤ t + 1 → bstF mg x z ms t = bstF mg x z ms (k - 1)
  | 0, _, h => by obtain rfl : k = 1 := by omega
                  rfl
  | t + 1, hh, h => by
    by_cases e : k = t + 2
    · subst e; rfl
    · rw [show bstF mg x z ms (t + 1) = bstF mg x z ms t from if_neg (fun a => hh (t + 1) (by omega) (by omega) a.2)]
      exact bst_lo h1 t (fun i a b => hh i a (by omega)) (by omega)
theorem pwR_car {mg x z ms : Int} (hm : 1 ≤ mg) (hx : 1 ≤ x) (hz : 1 ≤ z) : ∀ m k l, m + k = 7 → 1 ≤ k → l.length = k → bstF mg x z ms (k - 1) = k - 1 → (pwR mg x z ms m k l).length = bstF mg x z ms 6 + 1
 | 0, k, l, hk, h1, hl, hb => by
  obtain rfl : k = 7 := by omega
  show l.length = _
  rw [hl, show bstF mg x z ms 6 = 6 from hb]
 | m + 1, k, l, hk, h1, hl, hb => by
  unfold pwR
  by_cases h : pwV mg x z k ≤ ms
  ·rw [if_pos h]
   refine pwR_car hm hx hz m (k + 1) _ (by omega) (by omega) (by simp [hl]) ?_
   obtain ⟨t, rfl⟩ : ∃ t, k = t + 1 := ⟨k - 1, by omega⟩
   show bstF mg x z ms (t + 1) = t + 1
   exact if_pos ⟨by omega, h⟩
  ·rw [if_neg h, hl, bst_lo h1 6 (fun i a b c => h (Int.le_trans (pw_mono hm hx hz h1 a) c)) (by omega), hb]
   omega
theorem len_car {mg x z ms : Int} (hm : 1 ≤ mg) (hx : 1 ≤ x) (hz : 0 ≤ z) (nt : List Int) (c : Nat) : lenF (powL mg x z ms nt c) = Int.ofNat (carV mg x z ms nt c) := by
 unfold powL carV lenF
 by_cases h : (Int.ofNat c) ∈ nt
 ·rw [if_pos (.inr h), if_pos h]; rfl
 ·rw [if_neg h]
  by_cases g : z = 0
  ·rw [if_pos (.inl g), bst_z g]; rfl
  ·rw [if_neg (fun a => a.elim g h), pwR_car hm hx (by omega) 6 1 [0] rfl (by omega) rfl rfl]
   simp only [Int.ofNat_eq_natCast]; omega
abbrev carL (sg r : List Int) (mg ms : Int) (nt : List Int) : List Int := tab (carW sg r mg ms nt) sg.length
theorem car_eq {sg : List Int} {ns : List (List Int)} {mg : Int} (ms : Int) (nt : List Int) {p : Nat} {r : List Int} (h : PartOk sg ns mg p r) : tab (fun c => lenF (rowV sg r mg ms nt c)) sg.length = carL sg r mg ms nt := by
 refine tab_congr _ fun c hc => ?_
 obtain ⟨_, _, _, hm, hx, hz⟩ := cell_of h hc
 exact len_car hm.1 hx.1 hz.1 nt c
abbrev dN (l : List Int) (n : Nat) : AV := .e (.one (.dp (.s (iD l) n 1)))
theorem K74p (hE : EnvOk E) (sg : List Int) (ns : List (List Int)) (mg ms : Int) (nt : List Int) (hn : nt.length ≤ 100000) {p : Nat} {r : List Int} (h : PartOk sg ns mg p r) : COut E 0 [] 114 [aT sg ns mg ms nt, iI (Int.ofNat p)] (.e (.one (.slc 0 0 sg.length 1 sg.length true))) [bK (iC (carL sg r mg ms nt)) sg.length 3] := by
 have := K74o hE sg ns mg ms nt hn h
 rw [car_eq ms nt h] at this
 exact this
theorem K74 (hE : EnvOk E) (sg : List Int) (ns : List (List Int)) (mg ms : Int) (nt : List Int) (hn : nt.length ≤ 100000) {p : Nat} {r : List Int} (h : PartOk sg ns mg p r) : COut E 0 [] 114 [aT sg ns mg ms nt, iI (Int.ofNat p)] (dN (carL sg r mg ms nt) sg.length) [] :=
 cOut_clear (cOut_freeze 0 (K74p hE sg ns mg ms nt hn h) rfl (Nat.zero_le _) (ds := iD (carL sg r mg ms nt)) (frzAll _ sg.length 1 sg.length true (by rw [List.length_map, tab_len, Nat.mul_one]))) rfl
def mn (x z : Int) : Int := if z < x then z else x
def rob (W : Nat → Nat → Int) : Nat → Nat → Int
 | 0, c => W 0 c
 | k + 1, c => mn (rob W k c) (W k c)
abbrev rowW (sg : List Int) (ns : List (List Int)) (mg ms : Int) (nt : List Int) : Nat → Nat → Int := fun p => carW sg ((ns[p]?).getD []) mg ms nt
theorem l14i {Φ : Res → Prop} (hE : EnvOk E) (sg : List Int) (ns : List (List Int)) (mg ms : Int) (nt : List Int) (hL : sg.length ≤ 8) (hn : ns.length ≤ 5000) (f g : Nat → Int) (i : Nat) (hi : i < ns.length) (cont : ∀ j, OutK E 0 0 (y14 (iD sg) (rD ns) (iD nt) sg.length ns.length nt.length ((i + 1)) mg ms (iC (tab (fun c => mn (f c) (g c)) sg.length)) j) Φ) : ∀ m k, m + k = sg.length → ∀ j, OutK E 0 0 (y14i (iD sg) (rD ns) (iD nt) (iD (tab g sg.length)) sg.length ns.length nt.length sg.length i k mg ms (iC (tab (fun c => if c < k then mn (f c) (g c) else f c) sg.length)) j) Φ
 | 0, k, hk, j => by
  obtain rfl : k = sg.length := by omega
  rw [tab_congr (g := fun c => mn (f c) (g c)) sg.length fun c hc => if_pos hc]
  exact p14y hE (iD sg) (rD ns) (iD nt) (iD (tab g sg.length)) sg.length ns.length nt.length sg.length i sg.length mg ms (iC (tab (fun c => mn (f c) (g c)) sg.length)) dF (iIe (by (try simp only [Int.ofNat_eq_natCast]); rw [wrap_id (by omega) (by omega)]; try omega)) cont j
 | m + 1, k, hk, j => by
  have hl : k < sg.length := by omega
  have ih := l14i hE sg ns mg ms nt hL hn f g i hi cont m (k + 1) (by omega)
  have e : tab (fun c => if c < k + 1 then mn (f c) (g c) else f c) sg.length = (tab (fun c => if c < k then mn (f c) (g c) else f c) sg.length).set k (mn (f k) (g k)) := by
   rw [tab_set _ _ hl]
   refine tab_congr _ fun c _ => ?_
   by_cases a : c = k
   ·subst a; rw [if_pos (by omega), if_pos rfl]
   ·rw [if_neg a]
    by_cases b : c < k
    ·rw [if_pos b, if_pos (by omega)]
    ·rw [if_neg b, if_neg (by omega)]
  rw [e] at ih
  have hx : (tab (fun c => if c < k then mn (f c) (g c) else f c) sg.length)[k]? = some (f k) := by rw [tab_get _ hl, if_neg (by omega)]
  exact p14t hE (iD sg) (rD ns) (iD nt) (iD (tab g sg.length)) sg.length ns.length nt.length sg.length i k mg ms (f k) (g k) (mn (f k) (g k)) (iC (tab (fun c => if c < k then mn (f c) (g c) else f c) sg.length)) (iC ((tab (fun c => if c < k then mn (f c) (g c) else f c) sg.length).set k (mn (f k) (g k)))) dT bP (Nat.mul_one _) (gI (tab_get g hl)) bP (by simp) (gC hx) rfl (by omega) (st_iC _ _ _) (iIe (by (try simp only [Int.ofNat_eq_natCast]); rw [wrap_id (by omega) (by omega)]; try omega)) ih j
structure TonesOk (sg : List Int) (ns : List (List Int)) (mg ms : Int) (nt : List Int) : Prop where
 parts : ∀ p r, ns[p]? = some r → PartOk sg ns mg p r
 some : 0 < ns.length ∧ ns.length ≤ 8
abbrev robL (sg : List Int) (ns : List (List Int)) (mg ms : Int) (nt : List Int) : List Int := tab (rob (rowW sg ns mg ms nt) ns.length) sg.length
theorem part_at {sg : List Int} {ns : List (List Int)} {mg ms : Int} {nt : List Int} (h : TonesOk sg ns mg ms nt) {p : Nat} (hp : p < ns.length) : PartOk sg ns mg p ((ns[p]?).getD []) := by
 have e : ns[p]? = some ((ns[p]?).getD []) := by rw [List.getElem?_eq_getElem hp]; rfl
 exact h.parts p _ e
theorem l14 (hE : EnvOk E) (sg : List Int) (ns : List (List Int)) (mg ms : Int) (nt : List Int) (hn : nt.length ≤ 100000) (h : TonesOk sg ns mg ms nt) (hL : sg.length ≤ 8) : ∀ m i, m + i = ns.length → ∀ j, OutK E 0 0 (y14 (iD sg) (rD ns) (iD nt) sg.length ns.length nt.length i mg ms (iC (tab (rob (rowW sg ns mg ms nt) i) sg.length)) j) (Go.Ev.Ends E Tryz.f52 (.tup [.one (.slc 0 0 sg.length 1 sg.length true), .one (.v (.int .i64 0))]) [bK (iC (robL sg ns mg ms nt)) sg.length 3])
 | 0, i, hi, j => by
  obtain rfl : i = ns.length := by omega
  exact p14x hE (iD sg) (rD ns) (iD nt) sg.length ns.length nt.length ns.length mg ms (iC (robL sg ns mg ms nt)) dF (by first | exact flat_iC _ | exact flat_rows _) (fun j => outK_ret (ends_ret (by kernel_rfl))) j
 | m + 1, i, hi, j => by
  have hl : i < ns.length := by omega
  have h8 := h.some.2
  have k74 := K74 hE sg ns mg ms nt hn (part_at h hl)
  have ih := l14 hE sg ns mg ms nt hn h hL m (i + 1) (by omega)
  have lp := l14i (Φ := Go.Ev.Ends E Tryz.f52 (.tup [.one (.slc 0 0 sg.length 1 sg.length true), .one (.v (.int .i64 0))]) [bK (iC (robL sg ns mg ms nt)) sg.length 3]) hE sg ns mg ms nt hL (by omega) (rob (rowW sg ns mg ms nt) i) (rowW sg ns mg ms nt i) i hl ih sg.length 0 rfl
  exact p14s hE (iD sg) (rD ns) (iD nt) (iD (tab (rowW sg ns mg ms nt i) sg.length)) sg.length ns.length nt.length sg.length i mg ms (iC (tab (rob (rowW sg ns mg ms nt) i) sg.length)) dT k74 lp j
theorem K14v (hE : EnvOk E) (sg : List Int) (ns : List (List Int)) (mg ms : Int) (nt : List Int) (h1 : sg.length ≤ 100000) (h2 : ns.length ≤ 5000) (h3 : ∀ r ∈ ns, r.length ≤ 100000) (h4 : nt.length ≤ 100000) (h : TonesOk sg ns mg ms nt) (hL : sg.length ≤ 8) (he : tonE sg ns mg ms nt = 0) : COut E 0 [] 52 [aT sg ns mg ms nt] (.tup [.one (.dp (.s (iD (robL sg ns mg ms nt)) sg.length 1)), .one (.v (.int .i64 0))]) [] := by
 have k22 := K22 hE sg ns mg ms nt h1 h2 h3 h4
 rw [he] at k22
 have k74 := K74p hE sg ns mg ms nt h4 (part_at h h.some.1)
 have hc : COut E 0 [] 52 [aT sg ns mg ms nt] (.tup [.one (.slc 0 0 sg.length 1 sg.length true), .one (.v (.int .i64 0))]) [bK (iC (robL sg ns mg ms nt)) sg.length 3] :=
  cOut_start Tryz.func52 rfl (p14a hE (iD sg) (rD ns) (iD nt) sg.length ns.length nt.length mg ms 0 (iC (tab (rob (rowW sg ns mg ms nt) 0) sg.length)) k22 oB k74 oB ⟨(by first | exact flat_iC _ | exact flat_rows _), trivial⟩ (l14 hE sg ns mg ms nt h4 h hL ns.length 0 rfl) fun _ => undef)
 exact cOut_clear (cOut_freeze 0 hc rfl (Nat.zero_le _) (ds := iD (robL sg ns mg ms nt)) (v' := .tup [.one (.dp (.s (iD (robL sg ns mg ms nt)) sg.length 1)), .one (.v (.int .i64 0))]) ⟨frzAll (b := 0) (iD (robL sg ns mg ms nt)) sg.length 1 sg.length true (by rw [List.length_map, tab_len, Nat.mul_one]), .inl rfl, trivial⟩) rfl
end
end Go.Proofs.YtigdchbjmnbjlaaGreatDoor
end

/-! SeMa -/
section
open Go Go.Ev
namespace Go.Proofs.YtigdchbjmnbjlaaGreatDoor
noncomputable section
set_option maxRecDepth 100000
set_option maxHeartbeats 20000000
def w45 (C N O : List DT) (s n o : Nat) (mg ms : Int) (_j : JN) : St := startK Tryz.f45 [] [.e (.agg (tQ C s N n mg ms O o))]
def w35 (C N O G : List DT) (s n o g : Nat) (mg ms x : Int) (_j : JN) : St := startK Tryz.f35 [] [.e (.agg (tQ C s N n mg ms O o)), iI x, (dQ G g)]
def w107 (R : List DT) (m : Nat) (x : Int) (_j : JN) : St := startK Tryz.f107 [] [iI x, (dQ R m)]
def w38 (C N O : List DT) (s n o : Nat) (mg ms x y z : Int) (_j : JN) : St := startK Tryz.f38 [] [.e (.agg (tQ C s N n mg ms O o)), iI x, iI y, iI z]
def v35 (T G : List DT) (t g i : Nat) (a : Int) (j : JN) : St := ⟨[], [(.code (aF [1, 1, 1, 1, 0, 1, 0, 0] Tryz.f35)), (.inLoop (aF [1, 1, 1, 1, 0, 1, 0, 0] Tryz.f35)), (.inBlock 0), (.code (aF [1, 1, 1, 1, 1] Tryz.f35))], mkT j [(2, (dQ G g)), (9, (iI a)), (33, (dQ T t)), (34, (iN t)), (35, (iN i))] 56 0⟩
def v107 (R : List DT) (m i : Nat) (x a : Int) (j : JN) : St := ⟨[], [(.code (aF [1, 1, 0, 1, 0, 0] Tryz.f107)), (.inLoop (aF [1, 1, 0, 1, 0, 0] Tryz.f107)), (.inBlock 0), (.code (aF [1, 1, 1] Tryz.f107))], mkT j [(0, (iI x)), (5, (iI a)), (8, (dQ R m)), (9, (iN m)), (10, (iN i))] 25 0⟩
def v38 (T : List DT) (t i : Nat) (z h : Int) (j : JN) : St := ⟨[], [(.code (aF [1, 1, 1, 1, 0, 1, 0, 0] Tryz.f38)), (.inLoop (aF [1, 1, 1, 1, 0, 1, 0, 0] Tryz.f38)), (.inBlock 0), (.code (aF [1, 1, 1, 1, 1] Tryz.f38))], mkT j [(3, (iI z)), (11, (iI h)), (31, (dQ T t)), (32, (iN t)), (33, (iN i))] 44 0⟩
def m45_end (s : Nat) (j : JN) : St := ⟨[], [(.code .ret)], mkT j [(2, (iB (decide ((↑s : Int) ≤ (4 : Int)))))] 7 0⟩
theorem m45 (hE : EnvOk E) (C N O : List DT) (s n o : Nat) (mg ms : Int) {Φ : Res → Prop} (ho : ∀ j, OutK E 0 0 (m45_end s j) Φ) (j : JN) : OutK E 0 0 (w45 C N O s n o mg ms j) Φ :=
 oS hE [.run 3, (.ops [(2, (.d .len))] [])] [2] (s' := fun j => ⟨[(bK (tQ C s N n mg ms O o) 5 71)], [(.code .ret)], mkT j [(2, (iB (decide ((↑s : Int) ≤ (4 : Int)))))] 7 0⟩) (ps := []) trivial
  fun j => gZ [] (ho j)
def m35e_end (e : Int) (j : JN) : St := ⟨[], [(.code .ret), (.code (aF [1, 1, 1] Tryz.f35))], mkT j [(6, (iI 0)), (7, (iI e))] 56 0⟩
theorem m35e (hE : EnvOk E) (C N O G : List DT) (s n o g : Nat) (mg ms x a b d e : Int) (h0 : COut E 0 [] 101 [(tA C s N n mg ms O o), (iI x)] (iI a) []) (h2 : COut E 0 [] 102 [(iB ((↑g : Int) != (↑s : Int))), (iI 2)] (iI b) []) (h5 : COut E 2 [(bK [(.v (.int .i64 0))] 1 3), (bK [(.v (.int .i64 6))] 1 3)] 103 [(dQ G g), (.e (.one (.clo 162 [] [(.one (.ptr 0 0)), (.one (.ptr 1 0))])))] (iI d) [(bK [(.v (.int .i64 0))] 1 3), (bK [(.v (.int .i64 6))] 1 3)]) (h8 : True) (h12 : COut E 4 [(bK (tQ C s N n mg ms O o) 5 78), (bK [(.v (.int .i64 0))] 1 3), (bK [(.v (.int .i64 6))] 1 3), (bK [(.v (.int .i64 a)), (.v (.int .i64 b)), (.v (.int .i64 d))] 3 31)] 76 [(.e (.one (.slc 3 0 3 1 3 true)))] (iI e) [(bK (tQ C s N n mg ms O o) 5 78), (bK [(.v (.int .i64 0))] 1 3), (bK [(.v (.int .i64 6))] 1 3), (bK [(.v (.int .i64 a)), (.v (.int .i64 b)), (.v (.int .i64 d))] 3 31)]) (h14 : (e != (0 : Int) : Bool) = true) {Φ : Res → Prop} (ho : ∀ j, OutK E 0 0 (m35e_end e j) Φ) (j : JN) : OutK E 0 0 (w35 C N O G s n o g mg ms x j) Φ :=
 outK_seg hE (R4_ok hE) [.run 3, (.ops [(2, (.c0 (iI a))), (9, (.c0 (iI b))), (12, (.cl [1, 2] [false, false] [(dQ G g), (.e (.one (.clo 162 [] [(.one (.ptr 0 0)), (.one (.ptr 1 0))])))] [(bK [(.v (.int .i64 0))] 1 3), (bK [(.v (.int .i64 6))] 1 3)] (iI d) [(bK [(.v (.int .i64 0))] 1 3), (bK [(.v (.int .i64 6))] 1 3)] (iI d) [] [])), (14, (.d (.c1 (iI e)))), (4, (.d .len)), (7, (.d .len))] []), .run 3, (.cond true), .run 2] [6, 7] (s' := fun j => ⟨[(bK (tQ C s N n mg ms O o) 5 78), (bK [(.v (.int .i64 0))] 1 3), (bK [(.v (.int .i64 6))] 1 3), (bK [(.v (.int .i64 a)), (.v (.int .i64 b)), (.v (.int .i64 d))] 3 31)], [(.code .ret), (.code (aF [1, 1, 1] Tryz.f35))], mkT j [(6, (iI 0)), (7, (iI e))] 56 0⟩) (fun j => by kernel_rfl) (aP h0 <| aN <| aP h2 <| aN <| aV <| aP h5 <| aP (rfl : ([(dQ G g), (.e (.one (.clo 162 [] [(.one (.ptr 1 0)), (.one (.ptr 2 0))])))] : List AV) = [(dQ G g), (.e (.one (.clo 162 [] [(.one (.ptr 1 0)), (.one (.ptr 2 0))])))]) <| aP (rfl : ([(.some (bK [(.v (.int .i64 0))] 1 3)), (.some (bK [(.v (.int .i64 6))] 1 3))] : List (Option (Option AB))) = [(.some (bK [(.v (.int .i64 0))] 1 3)), (.some (bK [(.v (.int .i64 6))] 1 3))]) <| aP h8 <| aP (rfl : ([] : List (Option (Option AB))) = []) <| aP h8 <| aP (rfl : ((iI d) : AV) = (iI d)) <| aP h12 <| aN <| aP h14 <| aZ)
  fun j => gZ [] (ho j)
def m35a_end (T G : List DT) (t g : Nat) (j : JN) : St := ⟨[], [(.code (aF [1, 1, 1, 1, 0, 1, 0, 0] Tryz.f35)), (.inLoop (aF [1, 1, 1, 1, 0, 1, 0, 0] Tryz.f35)), (.inBlock 0), (.code (aF [1, 1, 1, 1, 1] Tryz.f35))], mkT j [(2, (dQ G g)), (9, (iI 0)), (33, (dQ T t)), (34, (iN t)), (35, (iI 0))] 56 0⟩
theorem m35a (hE : EnvOk E) (C N O T G : List DT) (s n o t g : Nat) (mg ms x a b d e : Int) (h0 : COut E 0 [] 101 [(tA C s N n mg ms O o), (iI x)] (iI a) []) (h2 : COut E 0 [] 102 [(iB ((↑g : Int) != (↑s : Int))), (iI 2)] (iI b) []) (h5 : COut E 2 [(bK [(.v (.int .i64 0))] 1 3), (bK [(.v (.int .i64 6))] 1 3)] 103 [(dQ G g), (.e (.one (.clo 162 [] [(.one (.ptr 0 0)), (.one (.ptr 1 0))])))] (iI d) [(bK [(.v (.int .i64 0))] 1 3), (bK [(.v (.int .i64 6))] 1 3)]) (h8 : True) (h12 : COut E 4 [(bK (tQ C s N n mg ms O o) 5 78), (bK [(.v (.int .i64 0))] 1 3), (bK [(.v (.int .i64 6))] 1 3), (bK [(.v (.int .i64 a)), (.v (.int .i64 b)), (.v (.int .i64 d))] 3 31)] 76 [(.e (.one (.slc 3 0 3 1 3 true)))] (iI e) [(bK (tQ C s N n mg ms O o) 5 78), (bK [(.v (.int .i64 0))] 1 3), (bK [(.v (.int .i64 6))] 1 3), (bK [(.v (.int .i64 a)), (.v (.int .i64 b)), (.v (.int .i64 d))] 3 31)]) (h14 : (e != (0 : Int) : Bool) = false) (h15 : COut E 0 [] 105 [(tA C s N n mg ms O o), (iI x)] (dQ T t) []) {Φ : Res → Prop} (ho : ∀ j, OutK E 0 0 (m35a_end T G t g j) Φ) (j : JN) : OutK E 0 0 (w35 C N O G s n o g mg ms x j) Φ :=
 outK_seg hE (R4_ok hE) [.run 3, (.ops [(2, (.c0 (iI a))), (9, (.c0 (iI b))), (12, (.cl [1, 2] [false, false] [(dQ G g), (.e (.one (.clo 162 [] [(.one (.ptr 0 0)), (.one (.ptr 1 0))])))] [(bK [(.v (.int .i64 0))] 1 3), (bK [(.v (.int .i64 6))] 1 3)] (iI d) [(bK [(.v (.int .i64 0))] 1 3), (bK [(.v (.int .i64 6))] 1 3)] (iI d) [] [])), (14, (.d (.c1 (iI e)))), (4, (.d .len)), (7, (.d .len))] []), .run 3, (.cond false), .run 5, (.ops [(2, (.c0 (dQ T t))), (3, (.d .len))] []), .run 2] [2, 9, 33, 34, 35] (s' := fun j => ⟨[(bK (tQ C s N n mg ms O o) 5 78), (bK [(.v (.int .i64 0))] 1 3), (bK [(.v (.int .i64 6))] 1 3), (bK [(.v (.int .i64 a)), (.v (.int .i64 b)), (.v (.int .i64 d))] 3 31)], [(.code (aF [1, 1, 1, 1, 0, 1, 0, 0] Tryz.f35)), (.inLoop (aF [1, 1, 1, 1, 0, 1, 0, 0] Tryz.f35)), (.inBlock 0), (.code (aF [1, 1, 1, 1, 1] Tryz.f35))], mkT j [(2, (dQ G g)), (9, (iI 0)), (33, (dQ T t)), (34, (iN t)), (35, (iI 0))] 56 0⟩) (fun j => by kernel_rfl) (aP h0 <| aN <| aP h2 <| aN <| aV <| aP h5 <| aP (rfl : ([(dQ G g), (.e (.one (.clo 162 [] [(.one (.ptr 1 0)), (.one (.ptr 2 0))])))] : List AV) = [(dQ G g), (.e (.one (.clo 162 [] [(.one (.ptr 1 0)), (.one (.ptr 2 0))])))]) <| aP (rfl : ([(.some (bK [(.v (.int .i64 0))] 1 3)), (.some (bK [(.v (.int .i64 6))] 1 3))] : List (Option (Option AB))) = [(.some (bK [(.v (.int .i64 0))] 1 3)), (.some (bK [(.v (.int .i64 6))] 1 3))]) <| aP h8 <| aP (rfl : ([] : List (Option (Option AB))) = []) <| aP h8 <| aP (rfl : ((iI d) : AV) = (iI d)) <| aP h12 <| aN <| aP h14 <| aP h15 <| aN <| aZ)
  fun j => gZ [] (ho j)
def m107a_end (R : List DT) (m : Nat) (x : Int) (j : JN) : St := ⟨[], [(.code (aF [1, 1, 0, 1, 0, 0] Tryz.f107)), (.inLoop (aF [1, 1, 0, 1, 0, 0] Tryz.f107)), (.inBlock 0), (.code (aF [1, 1, 1] Tryz.f107))], mkT j [(0, (iI x)), (5, (iI 0)), (8, (dQ R m)), (9, (iN m)), (10, (iI 0))] 25 0⟩
theorem m107a (hE : EnvOk E) (R : List DT) (m : Nat) (x : Int) {Φ : Res → Prop} (ho : ∀ j, OutK E 0 0 (m107a_end R m x j) Φ) (j : JN) : OutK E 0 0 (w107 R m x j) Φ :=
 oS hE [.run 6, (.ops [(1, (.d .len))] []), .run 2] [0, 5, 8, 9, 10] (ps := []) trivial
  ho
def m38a_end (T : List DT) (t : Nat) (z h : Int) (j : JN) : St := ⟨[], [(.code (aF [1, 1, 1, 1, 0, 1, 0, 0] Tryz.f38)), (.inLoop (aF [1, 1, 1, 1, 0, 1, 0, 0] Tryz.f38)), (.inBlock 0), (.code (aF [1, 1, 1, 1, 1] Tryz.f38))], mkT j [(3, (iI z)), (11, (iI h)), (31, (dQ T t)), (32, (iN t)), (33, (iI 0))] 44 0⟩
theorem m38a (hE : EnvOk E) (C N O T : List DT) (s n o t : Nat) (mg ms x y z a b d e h : Int) (h0 : COut E 0 [] 101 [(tA C s N n mg ms O o), (iI x)] (iI a) []) (h2 : COut E 0 [] 77 [(iI y), (iI 0), (iI 10000000)] (iI b) []) (h4 : COut E 0 [] 77 [(iI z), (iI 0), (iI 100000)] (iI d) []) (h6 : COut E 2 [(bK (tQ C s N n mg ms O o) 5 78), (bK [(.v (.int .i64 a)), (.v (.int .i64 b)), (.v (.int .i64 d))] 3 31)] 76 [(.e (.one (.slc 1 0 3 1 3 true)))] (iI e) [(bK (tQ C s N n mg ms O o) 5 78), (bK [(.v (.int .i64 a)), (.v (.int .i64 b)), (.v (.int .i64 d))] 3 31)]) (h8 : (e != (0 : Int) : Bool) = false) (h9 : ((iI (wrapF IntKind.i64 (z * y))) : AV) = (iI h)) (h10 : COut E 0 [] 105 [(tA C s N n mg ms O o), (iI x)] (dQ T t) []) {Φ : Res → Prop} (ho : ∀ j, OutK E 0 0 (m38a_end T t z h j) Φ) (j : JN) : OutK E 0 0 (w38 C N O s n o mg ms x y z j) Φ :=
 oS hE [.run 3, (.ops [(2, (.c0 (iI a))), (4, (.c0 (iI b))), (6, (.c0 (iI d))), (8, (.d (.c1 (iI e))))] []), .run 3, (.cond false), .run 2, (.ops [(2, (.rn (iI h)))] []), .run 2, (.ops [(2, (.c0 (dQ T t))), (3, (.d .len))] []), .run 2] [3, 11, 31, 32, 33] (s' := fun j => ⟨[(bK (tQ C s N n mg ms O o) 5 78), (bK [(.v (.int .i64 a)), (.v (.int .i64 b)), (.v (.int .i64 d))] 3 31)], [(.code (aF [1, 1, 1, 1, 0, 1, 0, 0] Tryz.f38)), (.inLoop (aF [1, 1, 1, 1, 0, 1, 0, 0] Tryz.f38)), (.inBlock 0), (.code (aF [1, 1, 1, 1, 1] Tryz.f38))], mkT j [(3, (iI z)), (11, (iI h)), (31, (dQ T t)), (32, (iN t)), (33, (iI 0))] 44 0⟩) (aP h0 <| aN <| aP h2 <| aN <| aP h4 <| aN <| aP h6 <| aN <| aP h8 <| aP h9 <| aP h10 <| aN <| aZ)
  fun j => gZ [] (ho j)
def m35s_end (T G : List DT) (t g i : Nat) (f : Int) (j : JN) : St := ⟨[], [(.code (aF [1, 1, 1, 1, 0, 1, 0, 0] Tryz.f35)), (.inLoop (aF [1, 1, 1, 1, 0, 1, 0, 0] Tryz.f35)), (.inBlock 0), (.code (aF [1, 1, 1, 1, 1] Tryz.f35))], mkT j [(2, (dQ G g)), (9, (iI f)), (33, (dQ T t)), (34, (iN t)), (35, (iN (i + 1)))] 56 0⟩
theorem m35s (hE : EnvOk E) (R T G : List DT) (m t g i k : Nat) (x a f : Int) (h0 : (decide (Int.ofNat i < Int.ofNat t) : Bool) = true) (h1 : (0 : Int) ≤ Int.ofNat i ∧ Int.ofNat i < (↑t : Int)) (h2 : ((Int.ofNat i).toNat * nat_lit 1 : Nat) = i) (h3 : (getL T i : Option DT) = (.some (.s R m 1))) (h4 : (0 : Int) ≤ Int.ofNat i ∧ Int.ofNat i < (↑g : Int)) (h6 : (getL G i : Option DT) = (.some (.v (.int .i64 (Int.ofNat k))))) (h7 : (decide (Int.ofNat k ≥ (↑m : Int)) : Bool) = false) (h8 : (0 : Int) ≤ Int.ofNat k ∧ Int.ofNat k < (↑m : Int)) (h9 : ((Int.ofNat k).toNat * nat_lit 1 : Nat) = k) (h10 : (getL R k : Option DT) = (.some (.v (.int .i64 x)))) (h11 : ((iI (wrapF IntKind.i64 (a + x))) : AV) = (iI f)) (h12 : ((iI (wrapF IntKind.i64 (Int.ofNat i + (1 : Int)))) : AV) = (iN (i + 1))) {Φ : Res → Prop} (ho : ∀ j, OutK E 0 0 (m35s_end T G t g i f j) Φ) (j : JN) : OutK E 0 0 (v35 T G t g i a j) Φ :=
 oS hE [.run 3, (.cond true), .run 4, (.ops [(2, (.d (.ld (.s R m 1)))), (1, (.d (.ix i)))] []), .run 1, (.ops [(3, (.d (.ld (.v (.int .i64 (Int.ofNat k)))))), (2, (.d (.ix i)))] []), .run 2, (.ops [(2, (.d .len))] []), (.cond false), .run 1, (.ops [(4, (.d (.ld (.v (.int .i64 x))))), (5, (.rn (iI f))), (3, (.d (.ix k)))] []), .run 1, (.ops [(0, (.rn (iN (i + 1))))] []), .run 1] [2, 9, 33, 34, 35] (aQ h0 h1 h2 h3 <| aQ h4 h2 h6 h7 <| aQ h8 h9 h10 h11 <| aP h12 <| aZ)
  ho
def m35l_end (j : JN) : St := ⟨[], [(.code .ret), (.code (aF [1, 1, 1, 1, 0, 1, 0, 0, 1, 1, 0, 0, 1, 1, 1] Tryz.f35)), (.inBlock 1), (.code (aF [1, 1, 1, 1, 0, 1, 0, 0, 1, 1, 1] Tryz.f35)), (.inLoop (aF [1, 1, 1, 1, 0, 1, 0, 0] Tryz.f35)), (.inBlock 0), (.code (aF [1, 1, 1, 1, 1] Tryz.f35))], mkT j [(6, (iI 0)), (7, (iI 20))] 56 0⟩
theorem m35l (hE : EnvOk E) (R T G : List DT) (m t g i k : Nat) (a : Int) (h0 : (decide (Int.ofNat i < Int.ofNat t) : Bool) = true) (h1 : (0 : Int) ≤ Int.ofNat i ∧ Int.ofNat i < (↑t : Int)) (h2 : ((Int.ofNat i).toNat * nat_lit 1 : Nat) = i) (h3 : (getL T i : Option DT) = (.some (.s R m 1))) (h4 : (0 : Int) ≤ Int.ofNat i ∧ Int.ofNat i < (↑g : Int)) (h6 : (getL G i : Option DT) = (.some (.v (.int .i64 (Int.ofNat k))))) (h7 : (decide (Int.ofNat k ≥ (↑m : Int)) : Bool) = true) {Φ : Res → Prop} (ho : ∀ j, OutK E 0 0 (m35l_end j) Φ) (j : JN) : OutK E 0 0 (v35 T G t g i a j) Φ :=
 oS hE [.run 3, (.cond true), .run 4, (.ops [(2, (.d (.ld (.s R m 1)))), (1, (.d (.ix i)))] []), .run 1, (.ops [(3, (.d (.ld (.v (.int .i64 (Int.ofNat k)))))), (2, (.d (.ix i)))] []), .run 2, (.ops [(2, (.d .len))] []), (.cond true), .run 2] [6, 7] (aQ h0 h1 h2 h3 <| aQ h4 h2 h6 h7 <| aZ)
  ho
def m35x_end (a : Int) (j : JN) : St := ⟨[], [(.code .ret)], mkT j [(6, (iI a)), (7, (iI 0))] 56 0⟩
theorem m35x (hE : EnvOk E) (T G : List DT) (t g i : Nat) (a : Int) (h0 : (decide (Int.ofNat i < Int.ofNat t) : Bool) = false) {Φ : Res → Prop} (ho : ∀ j, OutK E 0 0 (m35x_end a j) Φ) (j : JN) : OutK E 0 0 (v35 T G t g i a j) Φ :=
 oS hE [.run 3, (.cond false), .run 3] [6, 7] (aP h0 <| aZ)
  ho
def m107s_end (R : List DT) (m i : Nat) (x f : Int) (j : JN) : St := ⟨[], [(.code (aF [1, 1, 0, 1, 0, 0] Tryz.f107)), (.inLoop (aF [1, 1, 0, 1, 0, 0] Tryz.f107)), (.inBlock 0), (.code (aF [1, 1, 1] Tryz.f107))], mkT j [(0, (iI x)), (5, (iI f)), (8, (dQ R m)), (9, (iN m)), (10, (iN (i + 1)))] 25 0⟩
theorem m107s (hE : EnvOk E) (R : List DT) (m i : Nat) (x z a b d e f : Int) (h0 : (decide (Int.ofNat i < Int.ofNat m) : Bool) = true) (h1 : (0 : Int) ≤ Int.ofNat i ∧ Int.ofNat i < (↑m : Int)) (h2 : ((Int.ofNat i).toNat * nat_lit 1 : Nat) = i) (h3 : (getL R i : Option DT) = (.some (.v (.int .i64 z)))) (h4 : ((iI (wrapF IntKind.i64 ((1000 : Int) * Int.ofNat i))) : AV) = (iI b)) (h5 : ((iI (wrapF IntKind.i64 (x * z))) : AV) = (iI d)) (h6 : ((iI (wrapF IntKind.i64 (b - d))) : AV) = (iI e)) (h7 : ((iI (if e > a then e else a)) : AV) = (iI f)) (h8 : ((iI (wrapF IntKind.i64 (Int.ofNat i + (1 : Int)))) : AV) = (iN (i + 1))) {Φ : Res → Prop} (ho : ∀ j, OutK E 0 0 (m107s_end R m i x f j) Φ) (j : JN) : OutK E 0 0 (v107 R m i x a j) Φ :=
 oS hE [.run 3, (.cond true), .run 4, (.ops [(2, (.d (.ld (.v (.int .i64 z))))), (1, (.d (.ix i)))] []), (.ops [(2, (.rn (iI b))), (5, (.rn (iI d))), (6, (.rn (iI e))), (7, (.rn (iI f)))] []), .run 1, (.ops [(0, (.rn (iN (i + 1))))] []), .run 1] [0, 5, 8, 9, 10] (aQ h0 h1 h2 h3 <| aQ h4 h5 h6 h7 <| aP h8 <| aZ)
  ho
def m107x_end (a : Int) (j : JN) : St := ⟨[], [(.code .ret)], mkT j [(4, (iI a))] 25 0⟩
theorem m107x (hE : EnvOk E) (R : List DT) (m i : Nat) (x a : Int) (h0 : (decide (Int.ofNat i < Int.ofNat m) : Bool) = false) {Φ : Res → Prop} (ho : ∀ j, OutK E 0 0 (m107x_end a j) Φ) (j : JN) : OutK E 0 0 (v107 R m i x a j) Φ :=
 oS hE [.run 3, (.cond false), .run 3] [4] (aP h0 <| aZ)
  ho
def m38s_end (T : List DT) (t i : Nat) (z w : Int) (j : JN) : St := ⟨[], [(.code (aF [1, 1, 1, 1, 0, 1, 0, 0] Tryz.f38)), (.inLoop (aF [1, 1, 1, 1, 0, 1, 0, 0] Tryz.f38)), (.inBlock 0), (.code (aF [1, 1, 1, 1, 1] Tryz.f38))], mkT j [(3, (iI z)), (11, (iI w)), (31, (dQ T t)), (32, (iN t)), (33, (iN (i + 1)))] 44 0⟩
theorem m38s (hE : EnvOk E) (R T : List DT) (m t i : Nat) (z h v w : Int) (h0 : (decide (Int.ofNat i < Int.ofNat t) : Bool) = true) (h1 : (0 : Int) ≤ Int.ofNat i ∧ Int.ofNat i < (↑t : Int)) (h2 : ((Int.ofNat i).toNat * nat_lit 1 : Nat) = i) (h3 : (getL T i : Option DT) = (.some (.s R m 1))) (h4 : COut E 0 [] 107 [(iI z), (dQ R m)] (iI v) []) (h6 : ((iI (wrapF IntKind.i64 (h + v))) : AV) = (iI w)) (h7 : ((iI (wrapF IntKind.i64 (Int.ofNat i + (1 : Int)))) : AV) = (iN (i + 1))) {Φ : Res → Prop} (ho : ∀ j, OutK E 0 0 (m38s_end T t i z w j) Φ) (j : JN) : OutK E 0 0 (v38 T t i z h j) Φ :=
 oS hE [.run 3, (.cond true), .run 4, (.ops [(1, (.d (.ld (.s R m 1)))), (0, (.d (.ix i)))] []), (.ops [(3, (.c0 (iI v))), (4, (.rn (iI w)))] []), .run 1, (.ops [(0, (.rn (iN (i + 1))))] []), .run 1] [3, 11, 31, 32, 33] (aQ h0 h1 h2 h3 <| aP h4 <| aN <| aP h6 <| aP h7 <| aZ)
  ho
def m38x_end (h : Int) (j : JN) : St := ⟨[], [(.code .ret)], mkT j [(8, (iI h)), (9, (iI 0))] 44 0⟩
theorem m38x (hE : EnvOk E) (T : List DT) (t i : Nat) (z h : Int) (h0 : (decide (Int.ofNat i < Int.ofNat t) : Bool) = false) {Φ : Res → Prop} (ho : ∀ j, OutK E 0 0 (m38x_end h j) Φ) (j : JN) : OutK E 0 0 (v38 T t i z h j) Φ :=
 oS hE [.run 3, (.cond false), .run 3] [8, 9] (aP h0 <| aZ)
  ho
theorem pwR_get {mg x z ms : Int} : ∀ m k l, l.length = k → (∀ b, b < k → l[b]? = some (pwV mg x z b)) → ∀ b, b < (pwR mg x z ms m k l).length → (pwR mg x z ms m k l)[b]? = some (pwV mg x z b)
 | 0, k, l, hl, h, b, hb => h b (by rw [← hl]; exact hb)
 | m + 1, k, l, hl, h, b, hb => by
  unfold pwR at hb ⊢
  by_cases c : pwV mg x z k ≤ ms
  ·rw [if_pos c] at hb ⊢
   refine pwR_get m (k + 1) _ (by simp [hl]) (fun i hi => ?_) b hb
   by_cases e : i < k
   ·rw [List.getElem?_append_left (by omega)]; exact h i e
   ·obtain rfl : i = k := by omega
    rw [List.getElem?_append_right (by omega), hl, Nat.sub_self]; rfl
  ·rw [if_neg c] at hb ⊢
   exact h b (by rw [← hl]; exact hb)
theorem powL_get {mg x z ms : Int} {nt : List Int} {c b : Nat} (hb : b < (powL mg x z ms nt c).length) : (powL mg x z ms nt c)[b]? = some (pwV mg x z b) := by
  unfold powL at hb ⊢
  split at hb
  · rename_i h
    rw [if_pos h]
    obtain rfl : b = 0 := by simpa using hb
    rfl
  · rename_i h
    rw [if_neg h]
    exact pwR_get 6 1 [0] rfl (fun i hi => by obtain rfl : i = 0 := by omega
                                              rfl) b hb
theorem powL_car {mg x z ms : Int} (hm : 1 ≤ mg) (hx : 1 ≤ x) (hz : 0 ≤ z) (nt : List Int) (c : Nat) : (powL mg x z ms nt c).length = carV mg x z ms nt c + 1 := by
 have h := len_car (ms := ms) hm hx hz nt c
 unfold lenF at h
 simp only [Int.ofNat_eq_natCast] at h
 omega
theorem powL_z {mg x z ms : Int} {nt : List Int} {c b : Nat} (hb : b < (powL mg x z ms nt c).length) (hz : z = 0) : b = 0 := by
 unfold powL at hb
 rw [if_pos (.inl hz)] at hb
 simpa using hb
theorem pw_in {mg x z : Int} (hm : 1 ≤ mg ∧ mg ≤ 100) (hx : 1 ≤ x ∧ x ≤ 1000000) (hz : 0 ≤ z ∧ z ≤ 1000000000) {k : Nat} (hk : k ≤ 6) (h0 : z = 0 → k = 0) : 0 ≤ pwV mg x z k ∧ pwV mg x z k ≤ 7300000000 := by
 unfold pwV
 by_cases h : k = 0
 ·rw [if_pos h]; omega
 ·rw [if_neg h]
  have b2 := pw_bd hm hx (two_bd k hk)
  have hz1 : 1 ≤ z := by by_cases a : z = 0; exact absurd (h0 a) h; omega
  have b3 := quo_bd (g := mg * (Int.ofNat (2 ^ k) - 1) * x + z - 1) (z := z) (by omega) hz1
  omega
def cmF (f : Nat → List Int) : Nat → List Int → Int → Int × Int
 | _, [], a => (a, 0)
 | i, b :: r, a => if (f i).length ≤ b.toNat then (0, 20) else cmF f (i + 1) r (a + ((f i)[b.toNat]?).getD 0)
abbrev tupC (r : Int × Int) : AV := .tup [.one (.v (.int .i64 r.1)), .one (.v (.int .i64 r.2))]
def bitsE (n : Nat) (us : List Int) : Int := if us.length = n then eachE 0 6 us else 2
theorem row_at {f : Nat → List Int} {n i : Nat} (h : i < n) : (tab f n)[i]? = some (f i) := tab_get f h
def cmE (sg : List Int) (ns : List (List Int)) (mg ms : Int) (nt : List Int) (x : Int) (us : List Int) : Int := firstI [topE sg ns mg ms nt x, fI ((us.length : Int) != (sg.length : Int)) 2, eachE 0 6 us]
theorem K35e (hE : EnvOk E) (sg : List Int) (ns : List (List Int)) (mg ms : Int) (nt : List Int) (h1 : sg.length ≤ 100000) (h2 : ns.length ≤ 5000) (h3 : ∀ r ∈ ns, r.length ≤ 100000) (h4 : nt.length ≤ 100000) (x : Int) (us : List Int) (hm : us.length ≤ 100000) (h : cmE sg ns mg ms nt x us ≠ 0) : COut E 0 [] 35 [aT sg ns mg ms nt, iI x, dI us] (tupC (0, cmE sg ns mg ms nt x us)) [] :=
 cOut_clear (cOut_start Tryz.func35 rfl (m35e hE (iD sg) (rD ns) (iD nt) (iD us) sg.length ns.length nt.length us.length mg ms x (topE sg ns mg ms nt x) (fI ((us.length : Int) != (sg.length : Int)) 2) (eachE 0 6 us) (cmE sg ns mg ms nt x us) (K70 hE sg ns mg ms nt h1 h2 h3 h4 x) (K85 hE _ _) (Kz82 hE 0 6 us hm) oB (lend2 _ hE 76 _ _ 31 true (K69 hE [topE sg ns mg ms nt x, fI ((us.length : Int) != (sg.length : Int)) 2, eachE 0 6 us] (by simp)) _ 3 rfl) (bne_iff_ne.2 h) (fun j => outK_ret (ends_ret (by kernel_rfl))) fun _ => undef)) rfl
theorem l35 (hE : EnvOk E) (sg : List Int) (ns : List (List Int)) (mg ms : Int) (nt : List Int) {p : Nat} {r : List Int} (h : PartOk sg ns mg p r) (us : List Int) (hu : us.length = sg.length) (hb : ∀ x ∈ us, 0 ≤ x ∧ x ≤ 6) (_x : Int) : ∀ k i a, k + i = us.length → 0 ≤ a → a ≤ (i : Int) * 7300000000 → ∀ j, OutK E 0 0 (v35 (rD (tab (rowV sg r mg ms nt) sg.length)) (iD us) sg.length us.length i a j) (Go.Ev.Ends E Tryz.f35 (tupC (cmF (rowV sg r mg ms nt) i (us.drop i) a)) []) := by
 intro k
 induction k with
 | zero =>
  intro i a hi ha ha2 j
  obtain rfl : i = us.length := by omega
  rw [List.drop_length]
  exact m35x hE (rD (tab (rowV sg r mg ms nt) sg.length)) (iD us) sg.length us.length us.length a dF (fun j => outK_ret (ends_ret (by kernel_rfl))) j
 | succ k ih =>
  intro i a hi ha ha2 j
  have hl : i < us.length := by omega
  have h8 := h.many.2
  have hx : us[i]? = some us[i] := List.getElem?_eq_getElem hl
  have hq := hb us[i] (List.getElem_mem hl)
  rw [List.drop_eq_getElem_cons hl]
  generalize us[i] = y at hx hq
  obtain ⟨q, rfl⟩ := Int.eq_ofNat_of_zero_le hq.1
  have ck := cell_of h (c := i) (by omega)
  obtain ⟨_, _, _, c1, c2, c3⟩ := ck
  have hT : (tab (rowV sg r mg ms nt) sg.length)[i]? = some (rowV sg r mg ms nt i) := row_at (by omega)
  by_cases g : (rowV sg r mg ms nt i).length ≤ q
  ·rw [show cmF (rowV sg r mg ms nt) i ((q : Int) :: us.drop (i + 1)) a = (0, 20) from if_pos g]
   exact m35l hE (iD (rowV sg r mg ms nt i)) (rD (tab (rowV sg r mg ms nt) sg.length)) (iD us) ((rowV sg r mg ms nt i).length) sg.length us.length i q a dT bP (Nat.mul_one _) (gR hT) bP (gI hx) dT (fun j => outK_ret (ends_ret (by kernel_rfl))) j
  ·have g' : q < (rowV sg r mg ms nt i).length := by omega
   have bd := pw_in c1 c2 c3 (k := q) (by omega) (fun a => powL_z g' a)
   rw [show cmF (rowV sg r mg ms nt) i ((q : Int) :: us.drop (i + 1)) a = cmF (rowV sg r mg ms nt) (i + 1) (us.drop (i + 1)) (a + pwV mg (el r i) (el sg i) q) by
    show (if (rowV sg r mg ms nt i).length ≤ q then _ else cmF _ _ _ (a + ((rowV sg r mg ms nt i)[q]?).getD 0)) = _
    rw [if_neg g, powL_get g']; rfl]
   exact m35s hE (iD (rowV sg r mg ms nt i)) (rD (tab (rowV sg r mg ms nt) sg.length)) (iD us) ((rowV sg r mg ms nt i).length) sg.length us.length i q ((pwV mg (el r i) (el sg i) q)) a ((a + pwV mg (el r i) (el sg i) q)) dT bP (Nat.mul_one _) (gR hT) bP (gI hx) dF bP (Nat.mul_one _) (gI (powL_get g')) (iIe (wrap_id (by omega) (by omega))) (iIe (by (try simp only [Int.ofNat_eq_natCast]); rw [wrap_id (by omega) (by omega)]; try omega)) (ih (i + 1) _ (by omega) (by omega) (by omega)) j
theorem K35v (hE : EnvOk E) (sg : List Int) (ns : List (List Int)) (mg ms : Int) (nt : List Int) (h1 : sg.length ≤ 100000) (h2 : ns.length ≤ 5000) (h3 : ∀ r ∈ ns, r.length ≤ 100000) (h4 : nt.length ≤ 100000) {p : Nat} {r : List Int} (h : PartOk sg ns mg p r) (us : List Int) (hu : us.length = sg.length) (hb : ∀ x ∈ us, 0 ≤ x ∧ x ≤ 6) (he : cmE sg ns mg ms nt (Int.ofNat p) us = 0) : COut E 0 [] 35 [aT sg ns mg ms nt, iI (Int.ofNat p), dI us] (tupC (cmF (rowV sg r mg ms nt) 0 us 0)) [] := by
 have hm : us.length ≤ 100000 := by omega
 have k76 := lend2 4 hE 76 _ _ 31 true (K69 hE [topE sg ns mg ms nt (Int.ofNat p), fI ((us.length : Int) != (sg.length : Int)) 2, eachE 0 6 us] (by simp)) [bK (tnC sg ns mg ms nt) 5 78, bK [.v (.int .i64 0)] 1 3, bK [.v (.int .i64 6)] 1 3, bK [.v (.int .i64 (topE sg ns mg ms nt (Int.ofNat p))), .v (.int .i64 (fI ((us.length : Int) != (sg.length : Int)) 2)), .v (.int .i64 (eachE 0 6 us))] 3 31] 3 rfl
 rw [show firstI [topE sg ns mg ms nt (Int.ofNat p), fI ((us.length : Int) != (sg.length : Int)) 2, eachE 0 6 us] = 0 from he] at k76
 exact cOut_clear (cOut_start Tryz.func35 rfl (m35a hE (iD sg) (rD ns) (iD nt) (rD (tab (rowV sg r mg ms nt) sg.length)) (iD us) sg.length ns.length nt.length sg.length us.length mg ms ((Int.ofNat p)) (topE sg ns mg ms nt (Int.ofNat p)) (fI ((us.length : Int) != (sg.length : Int)) 2) (eachE 0 6 us) 0 (K70 hE sg ns mg ms nt h1 h2 h3 h4 _) (K85 hE _ _) (Kz82 hE 0 6 us hm) oB k76 rfl (K122 hE sg ns mg ms nt h4 h) (l35 hE sg ns mg ms nt h us hu hb (Int.ofNat p) us.length 0 0 rfl (by omega) (by omega)) fun _ => undef)) rfl
def mx (a e : Int) : Int := if e > a then e else a
def worF (pr : Int) : Nat → List Int → Int → Int
 | _, [], a => a
 | b, q :: r, a => worF pr (b + 1) r (mx a (1000 * Int.ofNat b - pr * q))
theorem wor_bd {pr : Int} (hp : 0 ≤ pr) : ∀ (L : List Int) (b : Nat) (a : Int), (∀ q ∈ L, 0 ≤ q) → b + L.length ≤ 7 → 0 ≤ a → a ≤ 7000 → 0 ≤ worF pr b L a ∧ worF pr b L a ≤ 7000
 | [], _, a, _, _, h0, h1 => ⟨h0, h1⟩
 | q :: r, b, a, hq, hl, h0, h1 => by
  have e := Int.mul_nonneg hp (hq q (List.mem_cons_self ..))
  have hl' : b + (r.length + 1) ≤ 7 := hl
  have hm : 0 ≤ mx a (1000 * Int.ofNat b - pr * q) ∧ mx a (1000 * Int.ofNat b - pr * q) ≤ 7000 := by
   unfold mx; simp only [Int.ofNat_eq_natCast]; split <;> omega
  exact wor_bd hp r (b + 1) _ (fun x hx => hq x (List.mem_cons_of_mem _ hx)) (by omega) hm.1 hm.2
theorem K107 (hE : EnvOk E) (pr : Int) (hp : 0 ≤ pr ∧ pr ≤ 100000) (L : List Int) (hL : L.length ≤ 7) (hq : ∀ q ∈ L, 0 ≤ q ∧ q ≤ 7300000000) : COut E 0 [] 107 [iI pr, dI L] (iI (worF pr 0 L 0)) [] := by
 have lp : ∀ k i a, k + i = L.length → ∀ j, OutK E 0 0 (v107 (iD L) L.length i pr a j) (Go.Ev.Ends E Tryz.f107 (iI (worF pr i (L.drop i) a)) []) := by
  intro k
  induction k with
  | zero =>
   intro i a hi j
   obtain rfl : i = L.length := by omega
   rw [List.drop_length]
   exact m107x hE (iD L) L.length L.length pr a dF (fun j => outK_ret (ends_ret (by kernel_rfl))) j
  | succ k ih =>
   intro i a hi j
   have hl : i < L.length := by omega
   have hx : L[i]? = some L[i] := List.getElem?_eq_getElem hl
   have hb := hq L[i] (List.getElem_mem hl)
   have ih' := fun a => ih (i + 1) a (by omega)
   rw [List.drop_eq_getElem_cons hl]
   generalize L[i] = q at hx hb
   have e := mulB hp.1 hp.2 hb.1 hb.2
   exact m107s hE (iD L) L.length i pr q a ((1000 * Int.ofNat i)) ((pr * q)) ((1000 * Int.ofNat i - pr * q)) ((mx a (1000 * Int.ofNat i - pr * q))) dT bP (Nat.mul_one _) (gI hx) (iIe (wrap_id (by simp only [Int.ofNat_eq_natCast]; omega) (by simp only [Int.ofNat_eq_natCast]; omega))) (iIe (wrap_id (by omega) (by omega))) (iIe (wrap_id (by simp only [Int.ofNat_eq_natCast]; omega) (by simp only [Int.ofNat_eq_natCast]; omega))) rfl (iIe (by (try simp only [Int.ofNat_eq_natCast]); rw [wrap_id (by omega) (by omega)]; try omega)) (ih' _) j
 exact cOut_start Tryz.func107 rfl (m107a hE (iD L) L.length pr (lp L.length 0 0 rfl) fun _ => undef)
def bndF (pr : Int) (f : Nat → List Int) : Nat → Nat → Int → Int
 | _, 0, a => a
 | i, m + 1, a => bndF pr f (i + 1) m (a + worF pr 0 (f i) 0)
theorem row_in {sg : List Int} {ns : List (List Int)} {mg : Int} (ms : Int) (nt : List Int) {p : Nat} {r : List Int} (h : PartOk sg ns mg p r) {i : Nat} (hi : i < sg.length) : ∀ q ∈ rowV sg r mg ms nt i, 0 ≤ q ∧ q ≤ 7300000000 := by
  obtain ⟨_, _, _, c1, c2, c3⟩ := cell_of h hi
  intro q hq
  obtain ⟨b, hb, rfl⟩ := List.getElem_of_mem hq
  have hl := powL_len mg (el r i) (el sg i) ms nt i
  have e := powL_get hb
  rw [List.getElem?_eq_getElem hb] at e
  rw [Option.some.inj e]
  exact pw_in c1 c2 c3 (by have : b < (powL mg (el r i) (el sg i) ms nt i).length := hb
                           omega) (fun a => powL_z hb a)
theorem row_0 {sg : List Int} {ns : List (List Int)} {mg : Int} (ms : Int) (nt : List Int) {p : Nat} {r : List Int} (h : PartOk sg ns mg p r) {i : Nat} (hi : i < sg.length) : rowV sg r mg ms nt i = 0 :: (rowV sg r mg ms nt i).drop 1 := by
  obtain ⟨_, _, _, c1, c2, c3⟩ := cell_of h hi
  have ec : (rowV sg r mg ms nt i).length = carV mg (el r i) (el sg i) ms nt i + 1 := powL_car (ms := ms) c1.1 c2.1 c3.1 nt i
  have e : (rowV sg r mg ms nt i)[0]? = some 0 := powL_get (show 0 < (rowV sg r mg ms nt i).length by omega)
  cases hr : rowV sg r mg ms nt i with
  | nil => rw [hr] at ec; simp at ec
  | cons a l => rw [hr] at e; obtain rfl : a = 0 := by simpa using e
                rfl
theorem K38v (hE : EnvOk E) (sg : List Int) (ns : List (List Int)) (mg ms : Int) (nt : List Int) (h1 : sg.length ≤ 100000) (h2 : ns.length ≤ 5000) (h3 : ∀ r ∈ ns, r.length ≤ 100000) (h4 : nt.length ≤ 100000) {p : Nat} {r : List Int} (h : PartOk sg ns mg p r) (bud pr : Int) (hbud : 0 ≤ bud ∧ bud ≤ 10000000) (hpr : 0 ≤ pr ∧ pr ≤ 100000) (ht : topE sg ns mg ms nt (Int.ofNat p) = 0) : COut E 0 [] 38 [aT sg ns mg ms nt, iI (Int.ofNat p), iI bud, iI pr] (tupC (bndF pr (rowV sg r mg ms nt) 0 sg.length (pr * bud), 0)) [] := by
 have h8 := h.many.2
 have hpb := mulB hpr.1 hpr.2 hbud.1 hbud.2
 have lp : ∀ k i a, k + i = sg.length → 0 ≤ a → a ≤ 1000000000000 + (i : Int) * 7000 → ∀ j, OutK E 0 0 (v38 (rD (tab (rowV sg r mg ms nt) sg.length)) sg.length i pr a j) (Go.Ev.Ends E Tryz.f38 (tupC (bndF pr (rowV sg r mg ms nt) i k a, 0)) []) := by
  intro k
  induction k with
  | zero =>
   intro i a hi ha ha2 j
   exact m38x hE (rD (tab (rowV sg r mg ms nt) sg.length)) sg.length i pr a dF (fun j => outK_ret (ends_ret (by kernel_rfl))) j
  | succ k ih =>
   intro i a hi ha ha2 j
   have hl : i < sg.length := by omega
   have hT : (tab (rowV sg r mg ms nt) sg.length)[i]? = some (rowV sg r mg ms nt i) := row_at hl
   have hin := row_in ms nt h hl
   have k107 := K107 hE pr hpr (rowV sg r mg ms nt i) (powL_len ..) hin
   have wb := wor_bd hpr.1 (rowV sg r mg ms nt i) 0 0 (fun q hq => (hin q hq).1) (by have := powL_len mg (el r i) (el sg i) ms nt i; show 0 + (powL mg (el r i) (el sg i) ms nt i).length ≤ 7; omega) (by omega) (by omega)
   exact m38s hE (iD (rowV sg r mg ms nt i)) (rD (tab (rowV sg r mg ms nt) sg.length)) ((rowV sg r mg ms nt i).length) sg.length i pr a ((worF pr 0 (rowV sg r mg ms nt i) 0)) ((a + worF pr 0 (rowV sg r mg ms nt i) 0)) dT bP (Nat.mul_one _) (gR hT) k107 (iIe (wrap_id (by omega) (by omega))) (iIe (by (try simp only [Int.ofNat_eq_natCast]); rw [wrap_id (by omega) (by omega)]; try omega)) (ih (i + 1) _ (by omega) (by omega) (by omega)) j
 have k70 := K70 hE sg ns mg ms nt h1 h2 h3 h4 (Int.ofNat p)
 rw [ht] at k70
 have hb0 : rg bud 0 10000000 = 0 := if_neg (by omega)
 have hp0 : rg pr 0 100000 = 0 := if_neg (by omega)
 have kb := K72 hE bud 0 10000000
 have kp := K72 hE pr 0 100000
 rw [hb0] at kb
 rw [hp0] at kp
 exact cOut_clear (cOut_start Tryz.func38 rfl (m38a hE (iD sg) (rD ns) (iD nt) (rD (tab (rowV sg r mg ms nt) sg.length)) sg.length ns.length nt.length sg.length mg ms ((Int.ofNat p)) bud pr 0 0 0 0 ((pr * bud)) k70 kb kp (lend2 _ hE 76 _ _ 31 true (K69 hE [0, 0, 0] (by simp)) _ 1 rfl) rfl (iIe (wrap_id (by omega) (by omega))) (K122 hE sg ns mg ms nt h4 h) (lp sg.length 0 _ rfl hpb.1 (by omega)) fun _ => undef)) rfl
end
end Go.Proofs.YtigdchbjmnbjlaaGreatDoor
end
