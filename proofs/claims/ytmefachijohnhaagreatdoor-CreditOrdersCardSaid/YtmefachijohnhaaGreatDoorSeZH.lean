/-
  Part of the proof: SeWd, SeOd.
-/
import Derived.Test.YtmefachijohnhaaGreatDoorSeZG

/-! SeWd -/
section
open Go Go.Ev
namespace Go.Proofs.YtmefachijohnhaaGreatDoor
noncomputable section
set_option maxRecDepth 100000
set_option maxHeartbeats 20000000
def s76 (C : List DT) (n _i : Nat) (_e _z : Int) (_j : Nat → Value) : St := startK Tryz.f76 [] [(.e (.one (.dp (.s C n 1))))]
def s82 (C : List DT) (n _i : Nat) (_e _z : Int) (_j : Nat → Value) : St := startK Tryz.f82 [] [(.e (.one (.dp (.s C n 1))))]
def s16 (C : List DT) (n _i : Nat) (_e _z : Int) (_j : Nat → Value) : St := startK Tryz.f16 [] [(.e (.one (.dp (.s C n 1))))]
def q76 (C : List DT) (n i : Nat) (_e _z : Int) (j : Nat → Value) : St := ⟨[], [(.code (atC [1, 0, 1, 0, 0] (bodyOf Tryz.f76))), (.inLoop (atC [1, 0, 1, 0, 0] (bodyOf Tryz.f76))), (.inBlock 0), (.code (atC [1, 1] (bodyOf Tryz.f76)))], mkT j [(5, (.e (.one (.dp (.s (C) (n) 1))))), (6, (iI (Int.ofNat n))), (7, (iI (Int.ofNat i)))] 15 0⟩
def q82 (C : List DT) (n i : Nat) (_e _z : Int) (j : Nat → Value) : St := ⟨[], [(.code (atC [1, 0, 1, 0, 0] (bodyOf Tryz.f82))), (.inLoop (atC [1, 0, 1, 0, 0] (bodyOf Tryz.f82))), (.inBlock 0), (.code (atC [1, 1] (bodyOf Tryz.f82)))], mkT j [(0, (.e (.one (.dp (.s (C) (n) 1))))), (3, (iI (Int.ofNat i)))] 19 0⟩
def p76a_end (C : List DT) (n _i : Nat) (_e _z : Int) (j : Nat → Value) : St := ⟨[], [(.code (atC [1, 0, 1, 0, 0] (bodyOf Tryz.f76))), (.inLoop (atC [1, 0, 1, 0, 0] (bodyOf Tryz.f76))), (.inBlock 0), (.code (atC [1, 1] (bodyOf Tryz.f76)))], mkT j [(5, (.e (.one (.dp (.s (C) (n) 1))))), (6, (iI (Int.ofNat n))), (7, (iI 0))] 15 0⟩
theorem p76a (hE : EnvOk E) (C : List DT) (n i : Nat) (e z : Int)  {Φ : Res → Prop} (ho : ∀ j, OutK E 0 0 (p76a_end C n i e z j) Φ) (j : Nat → Value) : OutK E 0 0 (s76 C n i e z j) Φ :=
 outK_seg hE (R0_ok hE) [.run 4, (.ops [(1, (.d .len))] []), .run 2] [5, 6, 7] (ps := []) (fun j => by kernel_rfl) trivial
  ho
def p82a_end (C : List DT) (n _i : Nat) (_e _z : Int) (j : Nat → Value) : St := ⟨[], [(.code (atC [1, 0, 1, 0, 0] (bodyOf Tryz.f82))), (.inLoop (atC [1, 0, 1, 0, 0] (bodyOf Tryz.f82))), (.inBlock 0), (.code (atC [1, 1] (bodyOf Tryz.f82)))], mkT j [(0, (.e (.one (.dp (.s (C) (n) 1))))), (3, (iI 0))] 19 0⟩
theorem p82a (hE : EnvOk E) (C : List DT) (n i : Nat) (e z : Int)  {Φ : Res → Prop} (ho : ∀ j, OutK E 0 0 (p82a_end C n i e z j) Φ) (j : Nat → Value) : OutK E 0 0 (s82 C n i e z j) Φ :=
 outK_seg hE (R0_ok hE) [.run 7] [0, 3] (ps := []) (fun j => by kernel_rfl) trivial
  ho
def p16_end (_C : List DT) (_n _i : Nat) (e _z : Int) (j : Nat → Value) : St := ⟨[], [(.code .ret)], mkT j [(2, (iI (e)))] 5 0⟩
theorem p16 (hE : EnvOk E) (C : List DT) (n i : Nat) (e z : Int) (h0 : COut E 0 [] 82 [(.e (.one (.dp (.s (C) (n) 1))))] (iI (e)) []) {Φ : Res → Prop} (ho : ∀ j, OutK E 0 0 (p16_end C n i e z j) Φ) (j : Nat → Value) : OutK E 0 0 (s16 C n i e z j) Φ :=
 outK_seg hE (R0_ok hE) [.run 3, (.ops [(1, (.c0 (iI (e))))] [])] [2] (fun j => by kernel_rfl) (aP h0 <| aN <| aZ)
  ho
def p76s_end (C : List DT) (n i : Nat) (_e _z : Int) (j : Nat → Value) : St := ⟨[], [(.code (atC [1, 0, 1, 0, 0] (bodyOf Tryz.f76))), (.inLoop (atC [1, 0, 1, 0, 0] (bodyOf Tryz.f76))), (.inBlock 0), (.code (atC [1, 1] (bodyOf Tryz.f76)))], mkT j [(5, (.e (.one (.dp (.s (C) (n) 1))))), (6, (iI (Int.ofNat n))), (7, (iI (Int.ofNat (i + 1))))] 15 0⟩
theorem p76s (hE : EnvOk E) (C : List DT) (n i : Nat) (e z : Int) (h0 : (decide (Int.ofNat i < Int.ofNat n) : Bool) = true) (h1 : (0 : Int) ≤ Int.ofNat i ∧ Int.ofNat i < (↑n : Int)) (h2 : ((Int.ofNat i).toNat * nat_lit 1 : Nat) = i) (h3 : (getL C i : Option DT) = (.some (.v (.int .i64 (z))))) (h4 : (z != (0 : Int) : Bool) = false) (h5 : ((iI (wrapF IntKind.i64 (Int.ofNat i + (1 : Int)))) : AV) = (iI (Int.ofNat (i + 1)))) {Φ : Res → Prop} (ho : ∀ j, OutK E 0 0 (p76s_end C n i e z j) Φ) (j : Nat → Value) : OutK E 0 0 (q76 C n i e z j) Φ :=
 outK_seg hE (R0_ok hE) [.run 3, (.cond true), .run 4, (.ops [(1, (.d (.ld (.v (.int .i64 (z)))))), (0, (.d (.ix (i))))] []), .run 2, (.cond false), .run 2, (.ops [(0, (.rn (iI (Int.ofNat (i + 1)))))] []), .run 1] [5, 6, 7] (fun j => by kernel_rfl) (aP h0 <| aP h1 <| aP h2 <| aP h3 <| aP h4 <| aP h5 <| aZ)
  ho
def p76e_end (_C : List DT) (_n _i : Nat) (_e z : Int) (j : Nat → Value) : St := ⟨[], [(.code .ret), (.inBlock 1), (.code (atC [1, 0, 1, 0, 0, 1, 1, 1] (bodyOf Tryz.f76))), (.inLoop (atC [1, 0, 1, 0, 0] (bodyOf Tryz.f76))), (.inBlock 0), (.code (atC [1, 1] (bodyOf Tryz.f76)))], mkT j [(2, (iI (z)))] 15 0⟩
theorem p76e (hE : EnvOk E) (C : List DT) (n i : Nat) (e z : Int) (h0 : (decide (Int.ofNat i < Int.ofNat n) : Bool) = true) (h1 : (0 : Int) ≤ Int.ofNat i ∧ Int.ofNat i < (↑n : Int)) (h2 : ((Int.ofNat i).toNat * nat_lit 1 : Nat) = i) (h3 : (getL C i : Option DT) = (.some (.v (.int .i64 (z))))) (h4 : (z != (0 : Int) : Bool) = true) {Φ : Res → Prop} (ho : ∀ j, OutK E 0 0 (p76e_end C n i e z j) Φ) (j : Nat → Value) : OutK E 0 0 (q76 C n i e z j) Φ :=
 outK_seg hE (R0_ok hE) [.run 3, (.cond true), .run 4, (.ops [(1, (.d (.ld (.v (.int .i64 (z)))))), (0, (.d (.ix (i))))] []), .run 2, (.cond true), .run 2] [2] (fun j => by kernel_rfl) (aP h0 <| aP h1 <| aP h2 <| aP h3 <| aP h4 <| aZ)
  ho
def p76x_end (_C : List DT) (_n _i : Nat) (_e _z : Int) (j : Nat → Value) : St := ⟨[], [(.code .ret)], mkT j [(2, (iI 0))] 15 0⟩
theorem p76x (hE : EnvOk E) (C : List DT) (n i : Nat) (e z : Int) (h0 : (decide (Int.ofNat i < Int.ofNat n) : Bool) = false) {Φ : Res → Prop} (ho : ∀ j, OutK E 0 0 (p76x_end C n i e z j) Φ) (j : Nat → Value) : OutK E 0 0 (q76 C n i e z j) Φ :=
 outK_seg hE (R0_ok hE) [.run 3, (.cond false), .run 3] [2] (fun j => by kernel_rfl) (aP h0 <| aZ)
  ho
def p82s_end (C : List DT) (n i : Nat) (_e _z : Int) (j : Nat → Value) : St := ⟨[], [(.code (atC [1, 0, 1, 0, 0] (bodyOf Tryz.f82))), (.inLoop (atC [1, 0, 1, 0, 0] (bodyOf Tryz.f82))), (.inBlock 0), (.code (atC [1, 1] (bodyOf Tryz.f82)))], mkT j [(0, (.e (.one (.dp (.s (C) (n) 1))))), (3, (iI (Int.ofNat (i + 1))))] 19 0⟩
theorem p82s (hE : EnvOk E) (C : List DT) (n i : Nat) (e z : Int) (h0 : (decide (Int.ofNat i < (↑n : Int)) : Bool) = true) (h1 : (0 : Int) ≤ Int.ofNat i ∧ Int.ofNat i < (↑n : Int)) (h2 : ((Int.ofNat i).toNat * nat_lit 1 : Nat) = i) (h3 : (getL C i : Option DT) = (.some (.v (.int .i64 (z))))) (h4 : (z != (0 : Int) : Bool) = false) (h5 : ((iI (wrapF IntKind.i64 (Int.ofNat i + (1 : Int)))) : AV) = (iI (Int.ofNat (i + 1)))) {Φ : Res → Prop} (ho : ∀ j, OutK E 0 0 (p82s_end C n i e z j) Φ) (j : Nat → Value) : OutK E 0 0 (q82 C n i e z j) Φ :=
 outK_seg hE (R0_ok hE) [.run 2, (.ops [(2, (.d .len))] []), (.cond true), .run 4, (.ops [(3, (.d (.ld (.v (.int .i64 (z)))))), (2, (.d (.ix (i))))] []), (.cond false), .run 2, (.ops [(1, (.rn (iI (Int.ofNat (i + 1)))))] []), .run 1] [0, 3] (fun j => by kernel_rfl) (aP h0 <| aP h1 <| aP h2 <| aP h3 <| aP h4 <| aP h5 <| aZ)
  ho
def p82e_end (_C : List DT) (_n _i : Nat) (_e z : Int) (j : Nat → Value) : St := ⟨[], [(.code .ret), (.inBlock 1), (.code (atC [1, 0, 1, 0, 0, 1, 1] (bodyOf Tryz.f82))), (.inLoop (atC [1, 0, 1, 0, 0] (bodyOf Tryz.f82))), (.inBlock 0), (.code (atC [1, 1] (bodyOf Tryz.f82)))], mkT j [(2, (iI (z)))] 19 0⟩
theorem p82e (hE : EnvOk E) (C : List DT) (n i : Nat) (e z : Int) (h0 : (decide (Int.ofNat i < (↑n : Int)) : Bool) = true) (h1 : (0 : Int) ≤ Int.ofNat i ∧ Int.ofNat i < (↑n : Int)) (h2 : ((Int.ofNat i).toNat * nat_lit 1 : Nat) = i) (h3 : (getL C i : Option DT) = (.some (.v (.int .i64 (z))))) (h4 : (z != (0 : Int) : Bool) = true) (h5 : (0 : Int) ≤ Int.ofNat i ∧ Int.ofNat i < (↑n : Int)) (h6 : ((Int.ofNat i).toNat * nat_lit 1 : Nat) = i) (h7 : (getL C i : Option DT) = (.some (.v (.int .i64 (z))))) {Φ : Res → Prop} (ho : ∀ j, OutK E 0 0 (p82e_end C n i e z j) Φ) (j : Nat → Value) : OutK E 0 0 (q82 C n i e z j) Φ :=
 outK_seg hE (R0_ok hE) [.run 2, (.ops [(2, (.d .len))] []), (.cond true), .run 4, (.ops [(3, (.d (.ld (.v (.int .i64 (z)))))), (2, (.d (.ix (i))))] []), (.cond true), .run 1, (.ops [(3, (.d (.ld (.v (.int .i64 (z)))))), (2, (.d (.ix (i))))] [])] [2] (fun j => by kernel_rfl) (aP h0 <| aP h1 <| aP h2 <| aP h3 <| aP h4 <| aP h5 <| aP h6 <| aP h7 <| aZ)
  ho
def p82x_end (_C : List DT) (_n _i : Nat) (_e _z : Int) (j : Nat → Value) : St := ⟨[], [(.code .ret)], mkT j [(2, (iI 0))] 19 0⟩
theorem p82x (hE : EnvOk E) (C : List DT) (n i : Nat) (e z : Int) (h0 : (decide (Int.ofNat i < (↑n : Int)) : Bool) = false) {Φ : Res → Prop} (ho : ∀ j, OutK E 0 0 (p82x_end C n i e z j) Φ) (j : Nat → Value) : OutK E 0 0 (q82 C n i e z j) Φ :=
 outK_seg hE (R0_ok hE) [.run 2, (.ops [(2, (.d .len))] []), (.cond false), .run 3] [2] (fun j => by kernel_rfl) (aP h0 <| aZ)
  ho
def firstI : List Int → Int
 | [] => 0
 | x :: r => if x = 0 then firstI r else x
theorem l76 (hE : EnvOk E) (xs : List Int) (n : Nat) (hn : xs.length = n) (hm : n ≤ 4000000) : ∀ m i, m + i = n → ∀ j, OutK E 0 0 (q76 (iD xs) (n) (i) 0 0 j) (Go.Ev.Ends E Tryz.f76 (iI (firstI (xs.drop i))) [])
 | 0, i, hk, j => by
  rw [List.drop_eq_nil_of_le (by omega)]
  exact p76x hE (iD xs) (n) (i) 0 0 (decide_eq_false (by (try simp only [Int.ofNat_eq_natCast]); omega)) (fun j => outK_ret (ends_ret (by kernel_rfl))) j
 | m + 1, i, hk, j => by
  have hl : i < xs.length := by omega
  have hx : xs[i]? = some xs[i] := List.getElem?_eq_getElem hl
  rw [List.drop_eq_getElem_cons hl]
  generalize xs[i] = z at hx
  have hu : firstI (z :: xs.drop (i + 1)) = if z = 0 then firstI (xs.drop (i + 1)) else z := rfl
  rw [hu]
  by_cases h : z = 0
  ·rw [if_pos h]
   exact p76s hE (iD xs) (n) (i) 0 (z) (decide_eq_true (by (try simp only [Int.ofNat_eq_natCast]); omega)) ⟨by (try simp only [Int.ofNat_eq_natCast]); omega, by (try simp only [Int.ofNat_eq_natCast]); omega⟩ (Nat.mul_one _) (getI hx) (by rw [h]; rfl) (iIe (by (try simp only [Int.ofNat_eq_natCast]); rw [wrap_id (by omega) (by omega)]; try omega)) (l76 hE xs n hn hm m (i + 1) (by omega)) j
  ·rw [if_neg h]
   exact p76e hE (iD xs) (n) (i) 0 (z) (decide_eq_true (by (try simp only [Int.ofNat_eq_natCast]); omega)) ⟨by (try simp only [Int.ofNat_eq_natCast]); omega, by (try simp only [Int.ofNat_eq_natCast]); omega⟩ (Nat.mul_one _) (getI hx) (bne_iff_ne.2 h) (fun j => outK_ret (ends_ret (by kernel_rfl))) j
theorem K76 (hE : EnvOk E) (xs : List Int) (hm : xs.length ≤ 4000000) : COut E 0 [] 76 [dI xs] (iI (firstI xs)) [] :=
 cOut_start Tryz.func76 rfl (p76a hE (iD xs) (xs.length) 0 0 0 (l76 hE xs xs.length rfl hm xs.length 0 rfl) fun _ => undef)
theorem l82 (hE : EnvOk E) (xs : List Int) (n : Nat) (hn : xs.length = n) (hm : n ≤ 4000000) : ∀ m i, m + i = n → ∀ j, OutK E 0 0 (q82 (iD xs) (n) (i) 0 0 j) (Go.Ev.Ends E Tryz.f82 (iI (firstI (xs.drop i))) [])
 | 0, i, hk, j => by
  rw [List.drop_eq_nil_of_le (by omega)]
  exact p82x hE (iD xs) (n) (i) 0 0 (decide_eq_false (by (try simp only [Int.ofNat_eq_natCast]); omega)) (fun j => outK_ret (ends_ret (by kernel_rfl))) j
 | m + 1, i, hk, j => by
  have hl : i < xs.length := by omega
  have hx : xs[i]? = some xs[i] := List.getElem?_eq_getElem hl
  rw [List.drop_eq_getElem_cons hl]
  generalize xs[i] = z at hx
  have hu : firstI (z :: xs.drop (i + 1)) = if z = 0 then firstI (xs.drop (i + 1)) else z := rfl
  rw [hu]
  by_cases h : z = 0
  ·rw [if_pos h]
   exact p82s hE (iD xs) (n) (i) 0 (z) (decide_eq_true (by (try simp only [Int.ofNat_eq_natCast]); omega)) ⟨by (try simp only [Int.ofNat_eq_natCast]); omega, by (try simp only [Int.ofNat_eq_natCast]); omega⟩ (Nat.mul_one _) (getI hx) (by rw [h]; rfl) (iIe (by (try simp only [Int.ofNat_eq_natCast]); rw [wrap_id (by omega) (by omega)]; try omega)) (l82 hE xs n hn hm m (i + 1) (by omega)) j
  ·rw [if_neg h]
   exact p82e hE (iD xs) (n) (i) 0 (z) (decide_eq_true (by (try simp only [Int.ofNat_eq_natCast]); omega)) ⟨by (try simp only [Int.ofNat_eq_natCast]); omega, by (try simp only [Int.ofNat_eq_natCast]); omega⟩ (Nat.mul_one _) (getI hx) (bne_iff_ne.2 h) ⟨by (try simp only [Int.ofNat_eq_natCast]); omega, by (try simp only [Int.ofNat_eq_natCast]); omega⟩ (Nat.mul_one _) (getI hx) (fun j => outK_ret (ends_ret (by kernel_rfl))) j
theorem K82 (hE : EnvOk E) (xs : List Int) (hm : xs.length ≤ 4000000) : COut E 0 [] 82 [dI xs] (iI (firstI xs)) [] :=
 cOut_start Tryz.func82 rfl (p82a hE (iD xs) (xs.length) 0 0 0 (l82 hE xs xs.length rfl hm xs.length 0 rfl) fun _ => undef)
theorem K16 (hE : EnvOk E) (xs : List Int) (hm : xs.length ≤ 4000000) : COut E 0 [] 16 [dI xs] (iI (firstI xs)) [] :=
 cOut_start Tryz.func16 rfl (p16 hE (iD xs) (xs.length) 0 (firstI xs) 0 (K82 hE xs hm) (fun j => outK_ret (ends_ret (by kernel_rfl))) fun _ => undef)
def intsA : List AC → Option (List Int) := List.rec (motive := fun _ => Option (List Int)) (some []) fun c _ ih => match c, ih with
 | .v (.int .i64 z), some l => some (z :: l)
 | _, _ => none
theorem intsA_eq : ∀ {l : List AC} {zs : List Int}, intsA l = some zs → l = (iD zs).map DT.ac
 | [], zs, h => by
  have h : some [] = some zs := h
  simp only [Option.some.injEq] at h
  rw [← h]; rfl
 | c :: l, zs, h => by
  have h : (match (generalizing := false) c, intsA l with | .v (.int .i64 z), some l => some (z :: l) | _, _ => none) = some zs := h
  split at h
  ·rename_i z r hr _
   simp only [Option.some.injEq] at h
   rw [← h, intsA_eq hr]; rfl
  ·simp at h
def readI (h : Heap) (i n : Nat) : Option (List Int) := match getL h i with
 | some (some a) => (match a.ext, Nat.beq a.n n && Nat.beq (lenL a.cells) n with | .cells, true => intsA a.cells | _, _ => none)
 | _ => none
theorem lendF {f : FuncId} (hE : EnvOk E) (K : ∀ xs : List Int, xs.length ≤ 4000000 → COut E 0 [] f [dI xs] (iI (firstI xs)) []) (h : Heap) (i n : Nat) (l : List Int) (hb : readI h i n = some l) (hn : Nat.ble n 100 = true) : COut E (lenL h) h f [.e (.one (.slc i 0 n 1 n true))] (iI (firstI l)) h := by
 unfold readI at hb
 split at hb
 ·rename_i a ha
  split at hb
  ·rename_i hx hc
   simp only [Bool.and_eq_true] at hc
   have e1 := Nat.eq_of_beq_eq_true hc.1
   have e2 := Nat.eq_of_beq_eq_true hc.2
   have e3 := intsA_eq hb
   have e4 : l.length = n := by
    have := congrArg List.length e3
    simp only [lenL_eq] at e2
    simp at this
    omega
   have hle : n ≤ 100 := by simpa using hn
   obtain ⟨cells, an, el, fl, ext⟩ := a
   simp only at e1 e3 hx
   subst e3 hx
   have := lend2 (lenL h) hE f l (firstI l) el fl (K l (by omega)) h i (by rw [ha, e1, e4])
   rw [e4] at this
   exact this
  ·simp at hb
 ·simp at hb
theorem C76 (hE : EnvOk E) (h : Heap) (i n : Nat) (l : List Int) (hb : readI h i n = some l) (hn : Nat.ble n 100 = true) : COut E (lenL h) h 76 [.e (.one (.slc i 0 n 1 n true))] (iI (firstI l)) h := lendF hE (fun xs => K76 hE xs) h i n l hb hn
theorem C82 (hE : EnvOk E) (h : Heap) (i n : Nat) (l : List Int) (hb : readI h i n = some l) (hn : Nat.ble n 100 = true) : COut E (lenL h) h 82 [.e (.one (.slc i 0 n 1 n true))] (iI (firstI l)) h := lendF hE (fun xs => K82 hE xs) h i n l hb hn
theorem C16 (hE : EnvOk E) (h : Heap) (i n : Nat) (l : List Int) (hb : readI h i n = some l) (hn : Nat.ble n 100 = true) : COut E (lenL h) h 16 [.e (.one (.slc i 0 n 1 n true))] (iI (firstI l)) h := lendF hE (fun xs => K16 hE xs) h i n l hb hn
end
end Go.Proofs.YtmefachijohnhaaGreatDoor
end

/-! SeOd -/
section
open Go Go.Ev
namespace Go.Proofs.YtmefachijohnhaaGreatDoor
noncomputable section
structure Od where
 o : ByteArray
 t : Int
def Od.d (x : Od) : List DT := [.v (.string x.o), .v (.int .i64 x.t)]
theorem Od.len (x : Od) : x.d.length = 2 := rfl
def odD (l : List Od) : List DT := l.flatMap Od.d
def odC (l : List Od) : List AC := (odD l).map DT.ac
abbrev dOd (l : List Od) : AV := .e (.one (.dp (.s (odD l) l.length 2)))
abbrev aOd (x : Od) : AV := .e (.agg [.v (.string x.o), .v (.int .i64 x.t)])
abbrev sw (a b : Bool) (l : List Od) : AV := .e (.agg [.v (.bool a), .v (.bool b), .dp (.s (odD l) l.length 2)])
theorem odD_len (l : List Od) : (odD l).length = l.length * 2 := rows_len Od.len l
theorem od_get {l : List Od} {i : Nat} {x : Od} (h : l[i]? = some x) : takeL (dropL (odD l) (i.mul 2)) 2 = some (Od.d x) := rows_get Od.len h
theorem od_o {l : List Od} {i : Nat} {x : Od} (h : l[i]? = some x) : getL (odD l) (i.mul 2) = some (.v (.string x.o)) := rows_part (o := 0) Od.len h rfl
theorem od_t {l : List Od} {i : Nat} {x : Od} (h : l[i]? = some x) : getL (odD l) (i.mul 2 + 1) = some (.v (.int .i64 x.t)) := rows_part (o := 1) Od.len h rfl
def eqS (x y : ByteArray) : Bool := x.toList == y.toList
end
end Go.Proofs.YtmefachijohnhaaGreatDoor
end
