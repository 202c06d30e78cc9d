/-
  Part of the proof: SeCb, SeCc, SyW, SyV, SeGw.
-/
import Derived.Test.YtaccakbjankeeaaGreatDoorSeZH

/-! SeCb -/
section
open Go Go.Ev Go.Proofs
namespace Go.Proofs.YtaccakbjankeeaaGreatDoor
set_option maxRecDepth 100000
set_option maxHeartbeats 4000000
theorem syms_z {xs : List Int} : ∀ {L : List (List Int)}, (∀ r ∈ L, symOk xs r) → symsE xs L = 0
 | [], _ => rfl
 | r :: l, h => by
  obtain ⟨h1, h2⟩ := h r (List.mem_cons_self ..)
  have e : symE xs r = 0 := by unfold symE; rw [if_pos h1]; exact h2
  show (if symE xs r = 0 then symsE xs l else symE xs r) = 0
  rw [if_pos e]
  exact syms_z fun s hs => h s (List.mem_cons_of_mem _ hs)
theorem loadF_ok (xs : List Int) (hb : ∀ x ∈ xs, 0 ≤ x ∧ x ≤ 6) : ∀ (f : Nat) (d : List Bool), ∀ r ∈ loadF f xs d, symOk xs r
 | 0, _, r, h => by simp [loadF] at h
 | f + 1, d, r, h => by
  have h' : r ∈ (if d.length = 0 then [] else symF xs d :: loadF f xs (restF xs d) : List (List Int)) := h
  by_cases c : d.length = 0
  ·rw [if_pos c] at h'; simp at h'
  ·rw [if_neg c] at h'
   rcases List.mem_cons.1 h' with rfl | h'
   ·exact ⟨symF_len xs d, symF_ok xs d hb⟩
   ·exact loadF_ok xs hb f _ r h'
theorem lvs_z {xs : List Int} {L : List (List Int)} (hl : L.length ≤ 1024) (h : ∀ r ∈ L, symOk xs r) : lvsE xs L = 0 := by
 unfold lvsE
 rw [if_neg (by omega)]
 exact syms_z h
theorem chk_z {xs : List Int} {L : List (List Int)} {z : Int} (h1 : bearE xs = 0) (hl : L.length ≤ 1024) (h : ∀ r ∈ L, symOk xs r) (z0 : 0 ≤ z) (z1 : z ≤ 1024) : chkE xs L z = 0 := by
 unfold chkE
 rw [if_pos h1, fI2, if_pos (lvs_z hl h)]
 unfold rg
 rw [if_neg (by omega)]
theorem totN_pos : ∀ {xs : List Int}, (∃ x ∈ xs, 0 < x.toNat) → 0 < totN xs
 | [], h => by obtain ⟨x, hx, _⟩ := h; simp at hx
 | y :: r, h => by
  obtain ⟨x, hx, h0⟩ := h
  show 0 < y.toNat + totN r
  rcases List.mem_cons.1 hx with rfl | hx
  ·omega
  ·have := totN_pos ⟨x, hx, h0⟩; omega
theorem ceil_ge {n t : Nat} (ht : 0 < t) : n ≤ (n + t - 1) / t * t := by
 have h := Nat.div_add_mod (n + t - 1) t
 have h2 := Nat.mod_lt (n + t - 1) ht
 rw [Nat.mul_comm] at h
 omega
theorem back_all {xs : List Int} (d : List Bool) (hb : ∀ x ∈ xs, 0 ≤ x ∧ x ≤ 6) (hp : ∃ x ∈ xs, 0 < x.toNat) : d.length ≤ (allB xs (loadF d.length xs d)).length ∧ (allB xs (loadF d.length xs d)).take d.length = d := by
 have ht := totN_pos hp
 rw [allB_loadF xs hb, pad_len]
 have hc := loadF_ceil xs ht d.length d (Nat.le_refl _)
 have hg : d.length ≤ (loadF d.length xs d).length * totN xs := by rw [hc]; exact ceil_ge ht
 exact ⟨hg, pad_take _ d hg⟩
theorem back_un {xs : List Int} {d : List Bool} (h1 : bearE xs = 0) (hd : d.length ≤ 1024) : unE xs (loadF d.length xs d) d.length = 0 ∧ unV xs (loadF d.length xs d) d.length = d := by
 obtain ⟨h3, hp⟩ := bear_0 h1
 obtain ⟨h4, h5, hb⟩ := map_0 h3
 obtain ⟨g1, g2⟩ := back_all d hb hp
 have hc := chk_z (z := (d.length : Int)) h1 (by have := loadF_len d.length xs d; omega) (loadF_ok xs hb d.length d) (by omega) (by omega)
 have e : unE xs (loadF d.length xs d) d.length = 0 := by
  unfold unE
  rw [if_pos hc, if_neg (by omega)]
 refine ⟨e, ?_⟩
 unfold unV
 rw [if_pos e]
 exact g2
def diffN : List Bool → List Bool → Nat
 | a :: l, b :: m => (if a = b then 0 else 1) + diffN l m
 | _, _ => 0
def stepL (l : Nat) : Nat := if 0 < l then l - 1 else l + 1
theorem gray1 : ∀ q : Fin 7, ∀ l : Fin 64, 0 < q.1 → l.1 < 2 ^ q.1 → stepL l.1 < 2 ^ q.1 ∧ diffN (bitsF (nbT.getD l.1 0).toNat q.1) (bitsF (nbT.getD (stepL l.1) 0).toNat q.1) = 1 := by decide +kernel
theorem diff_self : ∀ l : List Bool, diffN l l = 0
 | [] => rfl
 | a :: l => by show (if a = a then 0 else 1) + diffN l l = 0; rw [if_pos rfl, diff_self l]
theorem diff_app : ∀ (a b c e : List Bool), a.length = b.length → diffN (a ++ c) (b ++ e) = diffN a b + diffN c e
 | [], [], c, e, _ => by simp [diffN]
 | x :: a, y :: b, c, e, h => by
  show (if x = y then 0 else 1) + diffN (a ++ c) (b ++ e) = (if x = y then 0 else 1) + diffN a b + diffN c e
  rw [diff_app a b c e (by simpa using h), Nat.add_assoc]
 | [], y :: b, _, _, h => by simp at h
 | x :: a, [], _, _, h => by simp at h
theorem diff_row : ∀ (xs r : List Int) (k l : Nat), (∀ x ∈ xs, 0 ≤ x ∧ x ≤ 6) → r.length = xs.length → lvlE xs r = 0 → r[k]? = some (l : Int) → (∃ x, xs[k]? = some x ∧ 0 < x) → (symB xs r).length = (symB xs (r.set k (stepL l : Int))).length ∧ diffN (symB xs r) (symB xs (r.set k (stepL l : Int))) = 1 ∧ lvlE xs (r.set k (stepL l : Int)) = 0
 | [], [], k, l, _, _, _, h, _ => by simp at h
 | x :: xs, s :: r, 0, l, hb, hl, he, h, hx => by
  obtain ⟨x', h1, h2⟩ := hx
  have h1' := hb x (List.mem_cons_self ..)
  obtain rfl : x = x' := by simpa using h1
  obtain rfl : s = (l : Int) := by simpa using h
  obtain ⟨q, rfl⟩ := Int.eq_ofNat_of_zero_le h1'.1
  have he' : (if rg (l : Int) 0 (2 ^ q - 1) = 0 then lvlE xs r else rg (l : Int) 0 (2 ^ q - 1)) = 0 := he
  have c : rg (l : Int) 0 (2 ^ q - 1) = 0 := by
   by_cases c : rg (l : Int) 0 (2 ^ q - 1) = 0
   ·exact c
   ·rw [if_neg c] at he'; exact absurd he' c
  rw [if_pos c] at he'
  have hr := rg_00 c
  have h2q : (2 : Int) ^ q = ((2 ^ q : Nat) : Int) := by simp
  have h64 := two_le ⟨q, by omega⟩
  simp only [Int.one_mul] at h64
  rw [h2q] at hr h64
  obtain ⟨g1, g2⟩ := gray1 ⟨q, by omega⟩ ⟨l, by omega⟩ (by show 0 < q; omega) (by show l < 2 ^ q; omega)
  simp only at g1 g2
  show (bitsF (nbT.getD (l : Int).toNat 0).toNat q ++ symB xs r).length = (bitsF (nbT.getD ((stepL l : Int)).toNat 0).toNat q ++ symB xs r).length ∧ diffN (bitsF (nbT.getD (l : Int).toNat 0).toNat q ++ symB xs r) (bitsF (nbT.getD ((stepL l : Int)).toNat 0).toNat q ++ symB xs r) = 1 ∧ (if rg (stepL l : Int) 0 (2 ^ q - 1) = 0 then lvlE xs r else rg (stepL l : Int) 0 (2 ^ q - 1)) = 0
  have c2 : rg (stepL l : Int) 0 (2 ^ q - 1) = 0 := by unfold rg; rw [h2q, if_neg (by omega)]
  refine ⟨by rw [List.length_append, List.length_append, bits_len, bits_len], ?_, by rw [if_pos c2]; exact he'⟩
  rw [diff_app _ _ _ _ (by rw [bits_len, bits_len]), diff_self]
  exact g2
 | x :: xs, s :: r, k + 1, l, hb, hl, he, h, hx => by
  have he' : (if rg s 0 (2 ^ x.toNat - 1) = 0 then lvlE xs r else rg s 0 (2 ^ x.toNat - 1)) = 0 := he
  have c : rg s 0 (2 ^ x.toNat - 1) = 0 := by
   by_cases c : rg s 0 (2 ^ x.toNat - 1) = 0
   ·exact c
   ·rw [if_neg c] at he'; exact absurd he' c
  rw [if_pos c] at he'
  obtain ⟨g1, g2, g3⟩ := diff_row xs r k l (fun y hy => hb y (List.mem_cons_of_mem _ hy)) (by simpa using hl) he' (by simpa using h) (by simpa using hx)
  show (bitsF _ x.toNat ++ symB xs r).length = (bitsF _ x.toNat ++ symB xs (r.set k (stepL l : Int))).length ∧ diffN (bitsF _ x.toNat ++ symB xs r) (bitsF _ x.toNat ++ symB xs (r.set k (stepL l : Int))) = 1 ∧ (if rg s 0 (2 ^ x.toNat - 1) = 0 then lvlE xs (r.set k (stepL l : Int)) else rg s 0 (2 ^ x.toNat - 1)) = 0
  rw [List.length_append, List.length_append, diff_app _ _ _ _ rfl, diff_self, if_pos c]
  exact ⟨by rw [bits_len, g1], by rw [Nat.zero_add]; exact g2, g3⟩
 | [], s :: r, _, _, _, hl, _, _, _ => by simp at hl
 | x :: xs, [], _, _, _, hl, _, _, _ => by simp at hl
theorem symB_len2 : ∀ (xs r : List Int), r.length = xs.length → (symB xs r).length = totN xs
 | [], [], _ => rfl
 | x :: xs, s :: r, h => by
  show (bitsF _ x.toNat ++ symB xs r).length = x.toNat + totN xs
  rw [List.length_append, bits_len, symB_len2 xs r (by simpa using h)]
 | [], s :: r, h => by simp at h
 | x :: xs, [], h => by simp at h
theorem allB_len (xs : List Int) : ∀ (L : List (List Int)), (∀ r ∈ L, r.length = xs.length) → (allB xs L).length = L.length * totN xs
 | [], _ => by simp [allB]
 | r :: L, h => by
  show (symB xs r ++ allB xs L).length = _
  rw [List.length_append, symB_len2 xs r (h r (List.mem_cons_self ..)), allB_len xs L fun s hs => h s (List.mem_cons_of_mem _ hs), List.length_cons, Nat.add_mul, Nat.one_mul, Nat.add_comm]
theorem diff_all (xs : List Int) (hb : ∀ x ∈ xs, 0 ≤ x ∧ x ≤ 6) : ∀ (L : List (List Int)) (s k l : Nat) (r : List Int), (∀ r ∈ L, symOk xs r) → L[s]? = some r → r[k]? = some (l : Int) → (∃ x, xs[k]? = some x ∧ 0 < x) → diffN (allB xs L) (allB xs (L.set s (r.set k (stepL l : Int)))) = 1 ∧ ∀ q ∈ L.set s (r.set k (stepL l : Int)), symOk xs q
 | [], s, k, l, r, _, h, _, _ => by simp at h
 | a :: L, 0, k, l, r, ho, h, hk, hx => by
  obtain rfl : a = r := by simpa using h
  have hr := ho a (List.mem_cons_self ..)
  obtain ⟨g1, g2, g3⟩ := diff_row xs a k l hb hr.1 hr.2 hk hx
  refine ⟨?_, fun q hq => ?_⟩
  ·show diffN (symB xs a ++ allB xs L) (symB xs (a.set k (stepL l : Int)) ++ allB xs L) = 1
   rw [diff_app _ _ _ _ g1, diff_self, g2]
  ·rcases List.mem_cons.1 hq with rfl | hq
   ·exact ⟨by rw [List.length_set]; exact hr.1, g3⟩
   ·exact ho q (List.mem_cons_of_mem _ hq)
 | a :: L, s + 1, k, l, r, ho, h, hk, hx => by
  obtain ⟨g1, g2⟩ := diff_all xs hb L s k l r (fun q hq => ho q (List.mem_cons_of_mem _ hq)) (by simpa using h) hk hx
  refine ⟨?_, fun q hq => ?_⟩
  ·show diffN (symB xs a ++ allB xs L) (symB xs a ++ allB xs (L.set s (r.set k (stepL l : Int)))) = 1
   rw [diff_app _ _ _ _ rfl, diff_self, g1]
  ·rcases List.mem_cons.1 hq with rfl | hq
   ·exact ho q (List.mem_cons_self ..)
   ·exact g2 q hq
def cpy (first i k : Nat) (b : Bool) : Int :=
 let v : Int := if b = true then 1 else 0
 if i = (first + 1) % 5 then ((k : Int) % 3) - 1 else if i = first then 1 - v else v
theorem vote5 : ∀ (first : Fin 5) (k : Fin 3) (b : Bool), voteOf ((List.range 5).foldl (fun a i => a + dlt (cpy first.1 i k.1 b)) 0) = if b = true then 1 else 0 := by decide +kernel
end Go.Proofs.YtaccakbjankeeaaGreatDoor
end

/-! SeCc -/
section
open Go Go.Ev
namespace Go.Proofs.YtaccakbjankeeaaGreatDoor
noncomputable section
set_option maxRecDepth 100000
set_option maxHeartbeats 20000000
def xc30 (C : List DT) (n : Nat) (xa xb xc : Int) (_j : JN) : St := startK Tryz.f30 [bK [.v (.int .u8 xa), .v (.int .u8 xb), .v (.int .u8 xc)] 3 103] [(dQ C n)]
def zn (C : List DT) (n i : Nat) (xa xb xc : Int) (j : JN) : St := ⟨[(bK [(.v (.int .u8 xa)), (.v (.int .u8 xb)), (.v (.int .u8 xc))] 3 103)], [(.code (aF [1, 1, 0, 1, 0, 0] Tryz.f30)), (.inLoop (aF [1, 1, 0, 1, 0, 0] Tryz.f30)), (.inBlock 0), (.code (aF [1, 1, 1] Tryz.f30))], mkT j [(3, (.e (.one (.v (.slice none 0 0))))), (6, (dQ C n)), (7, (iN n)), (8, (iN i))] 19 0⟩
def zo (C : List DT) (n i k : Nat) (xa xb xc : Int) (D : List AC) (j : JN) : St := ⟨[bK [.v (.int .u8 xa), .v (.int .u8 xb), .v (.int .u8 xc)] 3 103, some ⟨D, k, 22, false, .cells⟩], [(.code (aF [1, 1, 0, 1, 0, 0] Tryz.f30)), (.inLoop (aF [1, 1, 0, 1, 0, 0] Tryz.f30)), (.inBlock 0), (.code (aF [1, 1, 1] Tryz.f30))], mkT j [(3, (.e (.one (.slc 1 0 k 1 k false)))), (6, (dQ C n)), (7, (iN n)), (8, (iN i))] 19 0⟩
def zr (C : List DT) (n i k w : Nat) (xa xb xc : Int) (D W : List AC) (j : JN) : St := ⟨[bK [.v (.int .u8 xa), .v (.int .u8 xb), .v (.int .u8 xc)] 3 103, some ⟨D, k, 22, false, .cells⟩, some ⟨W, w, 3, false, .cells⟩], [(.code (aF [1, 1, 0, 1, 0, 0] Tryz.f30)), (.inLoop (aF [1, 1, 0, 1, 0, 0] Tryz.f30)), (.inBlock 0), (.code (aF [1, 1, 1] Tryz.f30))], mkT j [(3, (.e (.one (.slc 1 0 k 1 k false)))), (6, (dQ C n)), (7, (iN n)), (8, (iN i))] 19 0⟩
def pc0_end (C : List DT) (n : Nat) (xa xb xc : Int) (j : JN) : St := ⟨[(bK [(.v (.int .u8 xa)), (.v (.int .u8 xb)), (.v (.int .u8 xc))] 3 103)], [(.code (aF [1, 1, 0, 1, 0, 0] Tryz.f30)), (.inLoop (aF [1, 1, 0, 1, 0, 0] Tryz.f30)), (.inBlock 0), (.code (aF [1, 1, 1] Tryz.f30))], mkT j [(3, (.e (.one (.v (.slice none 0 0))))), (6, (dQ C n)), (7, (iN n)), (8, (iI 0))] 19 0⟩
theorem pc0 (hE : EnvOk E) (C : List DT) (n : Nat) (xa xb xc : Int) {Φ : Res → Prop} (ho : ∀ j, OutK E 0 1 (pc0_end C n xa xb xc j) Φ) (j : JN) : OutK E 0 1 (xc30 C n xa xb xc j) Φ :=
 oS hE [.run 6, (.ops [(1, (.d .len))] []), .run 2] [3, 6, 7, 8] (ps := []) trivial
  ho
def pcn_end (C R : List DT) (n m i : Nat) (xa xb xc : Int) (j : JN) : St := ⟨[(bK [(.v (.int .u8 xa)), (.v (.int .u8 xb)), (.v (.int .u8 xc))] 3 103), (.some ⟨[(.dp (.s R m 1))], 1, 22, false, .cells⟩)], [(.code (aF [1, 1, 0, 1, 0, 0] Tryz.f30)), (.inLoop (aF [1, 1, 0, 1, 0, 0] Tryz.f30)), (.inBlock 0), (.code (aF [1, 1, 1] Tryz.f30))], mkT j [(3, (.e (.one (.slc 1 0 1 1 1 false)))), (6, (dQ C n)), (7, (iN n)), (8, (iN (i + 1)))] 19 0⟩
theorem pcn (hE : EnvOk E) (C R : List DT) (n m i : Nat) (xa xb xc : Int) (h0 : (decide (Int.ofNat i < Int.ofNat n) : Bool) = true) (h1 : (0 : Int) ≤ Int.ofNat i ∧ Int.ofNat i < (↑n : Int)) (h2 : ((Int.ofNat i).toNat * nat_lit 1 : Nat) = i) (h3 : (getL C i : Option DT) = (.some (.s R m 1))) (h4 : COut E 0 [] 28 [(dQ R m)] (dQ R m) []) (h6 : ((iI (wrapF IntKind.i64 (Int.ofNat i + (1 : Int)))) : AV) = (iN (i + 1))) {Φ : Res → Prop} (ho : ∀ j, OutK E 0 1 (pcn_end C R n m i xa xb xc j) Φ) (j : JN) : OutK E 0 1 (zn C n i xa xb xc j) Φ :=
 oS hE [.run 3, (.cond true), .run 4, (.ops [(1, (.d (.ld (.s R m 1)))), (0, (.d (.ix i)))] []), (.ops [(2, (.c0 (dQ R m)))] []), .run 1, (.ops [(0, (.rn (iN (i + 1))))] []), .run 1] [3, 6, 7, 8] (s' := fun j => ⟨[(bK [(.v (.int .u8 xa)), (.v (.int .u8 xb)), (.v (.int .u8 xc))] 3 103), (bK [(.dp (.s R m 1))] 1 22), (.some ⟨[(.dp (.s R m 1))], 1, 22, false, .cells⟩)], [(.code (aF [1, 1, 0, 1, 0, 0] Tryz.f30)), (.inLoop (aF [1, 1, 0, 1, 0, 0] Tryz.f30)), (.inBlock 0), (.code (aF [1, 1, 1] Tryz.f30))], mkT j [(3, (.e (.one (.slc 2 0 1 1 1 false)))), (6, (dQ C n)), (7, (iN n)), (8, (iN (i + 1)))] 19 0⟩) (aQ h0 h1 h2 h3 <| aP h4 <| aN <| aP h6 <| aZ)
  fun j => gZ [0, 2] (ho j)
def pcN_end (C : List DT) (n m i : Nat) (xa xb xc : Int) (W : List AC) (j : JN) : St := ⟨[(bK [(.v (.int .u8 xa)), (.v (.int .u8 xb)), (.v (.int .u8 xc))] 3 103), (.some ⟨(W), m, 3, false, .cells⟩), (bK [(.slc 1 0 m 1 m false)] 1 22), (.some ⟨[(.slc 1 0 m 1 m false)], 1, 22, false, .cells⟩)], [(.code (aF [1, 1, 0, 1, 0, 0] Tryz.f30)), (.inLoop (aF [1, 1, 0, 1, 0, 0] Tryz.f30)), (.inBlock 0), (.code (aF [1, 1, 1] Tryz.f30))], mkT j [(3, (.e (.one (.slc 3 0 1 1 1 false)))), (6, (dQ C n)), (7, (iN n)), (8, (iN (i + 1)))] 19 0⟩
theorem pcN (hE : EnvOk E) (C R : List DT) (n m i : Nat) (xa xb xc : Int) (W : List AC) (h0 : (decide (Int.ofNat i < Int.ofNat n) : Bool) = true) (h1 : (0 : Int) ≤ Int.ofNat i ∧ Int.ofNat i < (↑n : Int)) (h2 : ((Int.ofNat i).toNat * nat_lit 1 : Nat) = i) (h3 : (getL C i : Option DT) = (.some (.s R m 1))) (h4 : COut E 0 [] 28 [(dQ R m)] (.e (.one (.slc 0 0 m 1 m false))) [(.some ⟨(W), m, 3, false, .cells⟩)]) (h7 : True) (h9 : FlatB (some { cells := W, n := m, elem := (3 : TypeId), full := false, ext := AX.cells : AB }) ∧ True) (h11 : ((iI (wrapF IntKind.i64 (Int.ofNat i + (1 : Int)))) : AV) = (iN (i + 1))) {Φ : Res → Prop} (ho : ∀ j, OutK E 0 1 (pcN_end C n m i xa xb xc W j) Φ) (j : JN) : OutK E 0 1 (zn C n i xa xb xc j) Φ :=
 oS hE [.run 3, (.cond true), .run 4, (.ops [(1, (.d (.ld (.s R m 1)))), (0, (.d (.ix i)))] []), (.ops [(2, (.cl [] [] [(dQ R m)] [] (.e (.one (.slc 0 0 m 1 m false))) [(.some ⟨(W), m, 3, false, .cells⟩)] (.e (.one (.slc 1 0 m 1 m false))) [true] [(.some ⟨(W), m, 3, false, .cells⟩)]))] []), .run 1, (.ops [(0, (.rn (iN (i + 1))))] []), .run 1] [3, 6, 7, 8] (aQ h0 h1 h2 h3 <| aP h4 <| aP (rfl : ([(dQ R m)] : List AV) = [(dQ R m)]) <| aP (rfl : ([] : List (Option (Option AB))) = []) <| aP h7 <| aP (rfl : ([(.some (.some ⟨(W), m, 3, false, .cells⟩))] : List (Option (Option AB))) = [(.some (.some ⟨(W), m, 3, false, .cells⟩))]) <| aP h9 <| aP (rfl : ((.e (.one (.slc 1 0 m 1 m false))) : AV) = (.e (.one (.slc 1 0 m 1 m false)))) <| aP h11 <| aZ)
  ho
def pcs_end (C : List DT) (n i k : Nat) (xa xb xc : Int) (Y : List AC) (j : JN) : St := ⟨[(bK [(.v (.int .u8 xa)), (.v (.int .u8 xb)), (.v (.int .u8 xc))] 3 103), (.some ⟨(Y), (k + 1), 22, false, .cells⟩)], [(.code (aF [1, 1, 0, 1, 0, 0] Tryz.f30)), (.inLoop (aF [1, 1, 0, 1, 0, 0] Tryz.f30)), (.inBlock 0), (.code (aF [1, 1, 1] Tryz.f30))], mkT j [(3, (.e (.one (.slc 1 0 (k + 1) 1 (k + 1) false)))), (6, (dQ C n)), (7, (iN n)), (8, (iN (i + 1)))] 19 0⟩
theorem pcs (hE : EnvOk E) (C R : List DT) (n m i k : Nat) (xa xb xc : Int) (D Y : List AC) (h0 : (decide (Int.ofNat i < Int.ofNat n) : Bool) = true) (h1 : (0 : Int) ≤ Int.ofNat i ∧ Int.ofNat i < (↑n : Int)) (h2 : ((Int.ofNat i).toNat * nat_lit 1 : Nat) = i) (h3 : (getL C i : Option DT) = (.some (.s R m 1))) (h4 : COut E 0 [] 28 [(dQ R m)] (dQ R m) []) (h6 : ¬k + 1 ≤ k) (h7 : (small (k + 1) (1 : Nat) (24 : Nat) : Bool) = true) (h8 : (k : Nat) = k * nat_lit 1) (h9 : (appL D ((fun x => AC.dp (DV.s R m (1 : Nat)) :: x) []) : List AC) = Y) (h11 : ((k + 1) * nat_lit 1 : Nat) = k + 1) (h12 : ((iI (wrapF IntKind.i64 (Int.ofNat i + (1 : Int)))) : AV) = (iN (i + 1))) (g0 : FlatC Y) {Φ : Res → Prop} (ho : ∀ j, OutK E 0 1 (pcs_end C n i k xa xb xc Y j) Φ) (j : JN) : OutK E 0 1 (zo C n i k xa xb xc D j) Φ :=
 oS hE [.run 3, (.cond true), .run 4, (.ops [(1, (.d (.ld (.s R m 1)))), (0, (.d (.ix i)))] []), (.ops [(2, (.c0 (dQ R m))), (4, (.app (k + 1) (k + 1) Y))] []), .run 1, (.ops [(0, (.rn (iN (i + 1))))] []), .run 1] [3, 6, 7, 8] (s' := fun j => ⟨[(bK [(.v (.int .u8 xa)), (.v (.int .u8 xb)), (.v (.int .u8 xc))] 3 103), none, (bK [(.dp (.s R m 1))] 1 22), (.some ⟨(Y), (k + 1), 22, false, .cells⟩)], [(.code (aF [1, 1, 0, 1, 0, 0] Tryz.f30)), (.inLoop (aF [1, 1, 0, 1, 0, 0] Tryz.f30)), (.inBlock 0), (.code (aF [1, 1, 1] Tryz.f30))], mkT j [(3, (.e (.one (.slc 3 0 (k + 1) 1 (k + 1) false)))), (6, (dQ C n)), (7, (iN n)), (8, (iN (i + 1)))] 19 0⟩) (aQ h0 h1 h2 h3 <| aP h4 <| aN <| aQ h6 h7 h8 h9 <| aP (rfl : (k + 1 : Nat) = k + 1) <| aP h11 <| aP h12 <| aZ)
  fun j => outK_gcF [0, 3] [false, true] (h' := [(bK [(.v (.int .u8 xa)), (.v (.int .u8 xb)), (.v (.int .u8 xc))] 3 103), (.some ⟨(Y), (k + 1), 22, false, .cells⟩)]) (by decide) (by kernel_rfl) (by kernel_rfl) ⟨g0, trivial⟩ (by kernel_rfl) (ho j)
def pcO_end (C : List DT) (n m i k : Nat) (xa xb xc : Int) (Y W : List AC) (j : JN) : St := ⟨[(bK [(.v (.int .u8 xa)), (.v (.int .u8 xb)), (.v (.int .u8 xc))] 3 103), none, (.some ⟨(W), m, 3, false, .cells⟩), (bK [(.slc 2 0 m 1 m false)] 1 22), (.some ⟨(Y), (k + 1), 22, false, .cells⟩)], [(.code (aF [1, 1, 0, 1, 0, 0] Tryz.f30)), (.inLoop (aF [1, 1, 0, 1, 0, 0] Tryz.f30)), (.inBlock 0), (.code (aF [1, 1, 1] Tryz.f30))], mkT j [(3, (.e (.one (.slc 4 0 (k + 1) 1 (k + 1) false)))), (6, (dQ C n)), (7, (iN n)), (8, (iN (i + 1)))] 19 0⟩
theorem pcO (hE : EnvOk E) (C R : List DT) (n m i k : Nat) (xa xb xc : Int) (D Y W : List AC) (h0 : (decide (Int.ofNat i < Int.ofNat n) : Bool) = true) (h1 : (0 : Int) ≤ Int.ofNat i ∧ Int.ofNat i < (↑n : Int)) (h2 : ((Int.ofNat i).toNat * nat_lit 1 : Nat) = i) (h3 : (getL C i : Option DT) = (.some (.s R m 1))) (h4 : COut E 0 [] 28 [(dQ R m)] (.e (.one (.slc 0 0 m 1 m false))) [(.some ⟨(W), m, 3, false, .cells⟩)]) (h7 : True) (h9 : FlatB (some { cells := W, n := m, elem := (3 : TypeId), full := false, ext := AX.cells : AB }) ∧ True) (h11 : ¬k + 1 ≤ k) (h12 : (small (k + 1) (1 : Nat) (24 : Nat) : Bool) = true) (h13 : (k : Nat) = k * nat_lit 1) (h14 : (appL D ((fun x => AC.slc (2 : Nat) (0 : Nat) m (1 : Nat) m false :: x) []) : List AC) = Y) (h16 : ((k + 1) * nat_lit 1 : Nat) = k + 1) (h17 : ((iI (wrapF IntKind.i64 (Int.ofNat i + (1 : Int)))) : AV) = (iN (i + 1))) {Φ : Res → Prop} (ho : ∀ j, OutK E 0 1 (pcO_end C n m i k xa xb xc Y W j) Φ) (j : JN) : OutK E 0 1 (zo C n i k xa xb xc D j) Φ :=
 oS hE [.run 3, (.cond true), .run 4, (.ops [(1, (.d (.ld (.s R m 1)))), (0, (.d (.ix i)))] []), (.ops [(2, (.cl [] [] [(dQ R m)] [] (.e (.one (.slc 0 0 m 1 m false))) [(.some ⟨(W), m, 3, false, .cells⟩)] (.e (.one (.slc 2 0 m 1 m false))) [true] [(.some ⟨(W), m, 3, false, .cells⟩)])), (4, (.app (k + 1) (k + 1) Y))] []), .run 1, (.ops [(0, (.rn (iN (i + 1))))] []), .run 1] [3, 6, 7, 8] (aQ h0 h1 h2 h3 <| aP h4 <| aP (rfl : ([(dQ R m)] : List AV) = [(dQ R m)]) <| aP (rfl : ([] : List (Option (Option AB))) = []) <| aP h7 <| aP (rfl : ([(.some (.some ⟨(W), m, 3, false, .cells⟩))] : List (Option (Option AB))) = [(.some (.some ⟨(W), m, 3, false, .cells⟩))]) <| aP h9 <| aP (rfl : ((.e (.one (.slc 2 0 m 1 m false))) : AV) = (.e (.one (.slc 2 0 m 1 m false)))) <| aQ h11 h12 h13 h14 <| aP (rfl : (k + 1 : Nat) = k + 1) <| aP h16 <| aP h17 <| aZ)
  ho
def pcr_end (C R : List DT) (n m i k w : Nat) (xa xb xc : Int) (Y W : List AC) (j : JN) : St := ⟨[(bK [(.v (.int .u8 xa)), (.v (.int .u8 xb)), (.v (.int .u8 xc))] 3 103), none, (.some ⟨(W), w, 3, false, .cells⟩), (bK [(.dp (.s R m 1))] 1 22), (.some ⟨(Y), (k + 1), 22, false, .cells⟩)], [(.code (aF [1, 1, 0, 1, 0, 0] Tryz.f30)), (.inLoop (aF [1, 1, 0, 1, 0, 0] Tryz.f30)), (.inBlock 0), (.code (aF [1, 1, 1] Tryz.f30))], mkT j [(3, (.e (.one (.slc 4 0 (k + 1) 1 (k + 1) false)))), (6, (dQ C n)), (7, (iN n)), (8, (iN (i + 1)))] 19 0⟩
theorem pcr (hE : EnvOk E) (C R : List DT) (n m i k w : Nat) (xa xb xc : Int) (D Y W : List AC) (h0 : (decide (Int.ofNat i < Int.ofNat n) : Bool) = true) (h1 : (0 : Int) ≤ Int.ofNat i ∧ Int.ofNat i < (↑n : Int)) (h2 : ((Int.ofNat i).toNat * nat_lit 1 : Nat) = i) (h3 : (getL C i : Option DT) = (.some (.s R m 1))) (h4 : COut E 0 [] 28 [(dQ R m)] (dQ R m) []) (h6 : ¬k + 1 ≤ k) (h7 : (small (k + 1) (1 : Nat) (24 : Nat) : Bool) = true) (h8 : (k : Nat) = k * nat_lit 1) (h9 : (appL D ((fun x => AC.dp (DV.s R m (1 : Nat)) :: x) []) : List AC) = Y) (h11 : ((k + 1) * nat_lit 1 : Nat) = k + 1) (h12 : ((iI (wrapF IntKind.i64 (Int.ofNat i + (1 : Int)))) : AV) = (iN (i + 1))) {Φ : Res → Prop} (ho : ∀ j, OutK E 0 1 (pcr_end C R n m i k w xa xb xc Y W j) Φ) (j : JN) : OutK E 0 1 (zr C n i k w xa xb xc D W j) Φ :=
 oS hE [.run 3, (.cond true), .run 4, (.ops [(1, (.d (.ld (.s R m 1)))), (0, (.d (.ix i)))] []), (.ops [(2, (.c0 (dQ R m))), (4, (.app (k + 1) (k + 1) Y))] []), .run 1, (.ops [(0, (.rn (iN (i + 1))))] []), .run 1] [3, 6, 7, 8] (aQ h0 h1 h2 h3 <| aP h4 <| aN <| aQ h6 h7 h8 h9 <| aP (rfl : (k + 1 : Nat) = k + 1) <| aP h11 <| aP h12 <| aZ)
  ho
def pcx_end (k w : Nat) (xa xb xc : Int) (D W : List AC) (j : JN) : St := ⟨[(bK [(.v (.int .u8 xa)), (.v (.int .u8 xb)), (.v (.int .u8 xc))] 3 103), (.some ⟨(D), k, 22, false, .cells⟩), (.some ⟨(W), w, 3, false, .cells⟩)], [(.code .ret)], mkT j [(2, (.e (.one (.slc 1 0 k 1 k false))))] 19 0⟩
theorem pcx (hE : EnvOk E) (C : List DT) (n i k w : Nat) (xa xb xc : Int) (D W : List AC) (h0 : (decide (Int.ofNat i < Int.ofNat n) : Bool) = false) {Φ : Res → Prop} (ho : ∀ j, OutK E 0 1 (pcx_end k w xa xb xc D W j) Φ) (j : JN) : OutK E 0 1 (zr C n i k w xa xb xc D W j) Φ :=
 oS hE [.run 3, (.cond false), .run 3] [2] (aP h0 <| aZ)
  ho
theorem renO (f : Nat → Nat) (hf : f 2 = 2) {A B : List AC} (hA : FlatC A) (hB : FlatC B) (w : Nat) : (A ++ AC.slc 2 0 w 1 w false :: B).map (AC.ren f) = A ++ AC.slc 2 0 w 1 w false :: B := by
 rw [List.map_append, List.map_cons, flat_ren hA, flat_ren hB]
 show A ++ AC.slc (f 2) 0 w 1 w false :: B = _
 rw [hf]
theorem eqH (f : Nat → Nat) {Y W : List AC} (hY : Y.map (AC.ren f) = Y) (hW : W.map (AC.ren f) = W) {bx : Option AB} (hb : bx.map (AB.ren f) = bx) {n t w u : Nat} {fl gl : Bool} : [some bx, some (some ⟨Y, n, t, fl, .cells⟩), some (some ⟨W, w, u, gl, .cells⟩)] = ([bx, some ⟨Y, n, t, fl, .cells⟩, some ⟨W, w, u, gl, .cells⟩] : Heap).map (fun b => some (b.map (AB.ren f))) := by
 show _ = [some (bx.map (AB.ren f)), some (some ⟨Y.map (AC.ren f), n, t, fl, .cells⟩), some (some ⟨W.map (AC.ren f), w, u, gl, .cells⟩)]
 rw [hb, hY, hW]
theorem K28o (hE : EnvOk E) (xs : List Int) (hm : xs.length ≤ 100000) (h0 : 0 < xs.length) : COut E 0 [] 28 [dI xs] (.e (.one (.slc 0 0 xs.length 1 xs.length false))) [some ⟨iC xs, xs.length, 3, false, .cells⟩] := by
 have hd : decide (xs.length = 0) = false := decide_eq_false (by omega)
 have hc : COut E 0 [] 28 [dI xs] (.e (.one (.slc 0 0 xs.length 1 xs.length (decide (xs.length = 0))))) [some ⟨iC xs, xs.length, 3, decide (xs.length = 0), .cells⟩] := cOut_start Tryz.func28 rfl (p28 hE (iD xs) [] xs.length 0 0 0 0 0 0 0 0 0 0 (decide (xs.length = 0)) false (iC xs) 0 (⟨0, 0, none⟩) (cpI xs hm _) oB (flat_iC _) (fun j => outK_ret (ends_ret (by kernel_rfl))) fun _ => undef)
 rw [hd] at hc
 exact hc
theorem c30a {Φ : Res → Prop} (hE : EnvOk E) (xa xb xc : Int) (L : List (List Int)) (hL : L.length ≤ 5000) (hr : ∀ r ∈ L, r.length ≤ 100000) (s : Nat) (hs : s < L.length) (cont : ∀ j, OutK E 0 1 (zo (rD L) L.length s s xa xb xc (rC (L.take s)) j) Φ) : ∀ m i, m + i = s → ∀ j, OutK E 0 1 (zo (rD L) L.length i i xa xb xc (rC (L.take i)) j) Φ
 | 0, i, hk, j => by
  obtain rfl : i = s := by omega
  exact cont j
 | m + 1, i, hk, j => by
  have hl : i < L.length := by omega
  have hx : L[i]? = some L[i] := List.getElem?_eq_getElem hl
  have hm := hr L[i] (List.getElem_mem hl)
  have ih := c30a hE xa xb xc L hL hr s hs cont m (i + 1) (by omega)
  rw [← List.take_append_getElem hl] at ih
  generalize L[i] = r at hx hm ih
  exact pcs hE (rD L) (iD r) L.length r.length i i xa xb xc (rC (L.take i)) (rC (L.take i ++ [r])) dT bP (Nat.mul_one _) (gR hx) (K28 hE r hm) oB (by simp [small]; omega) oB (rC_app _ _) oB (iIe (by (try simp only [Int.ofNat_eq_natCast]); rw [wrap_id (by omega) (by omega)]; try omega)) (flat_rows _) ih j
theorem c30r (hE : EnvOk E) (xa xb xc : Int) (L : List (List Int)) (hL : L.length ≤ 5000) (hr : ∀ r ∈ L, r.length ≤ 100000) (s : Nat) (r : List Int) (w : Nat) : ∀ m i (G : List (List Int)), m + i = L.length → G ++ L.drop i = L.drop (s + 1) → ∀ j, OutK E 0 1 (zr (rD L) L.length i i w xa xb xc ((rC (L.take s) ++ (.slc 2 0 w 1 w false) :: rC G)) (iC r) j) (Go.Ev.Ends E Tryz.f30 (.e (.one (.slc 1 0 L.length 1 L.length false))) [bK [.v (.int .u8 xa), .v (.int .u8 xb), .v (.int .u8 xc)] 3 103, some ⟨rC (L.take s) ++ (.slc 2 0 w 1 w false) :: rC (L.drop (s + 1)), L.length, 22, false, .cells⟩, some ⟨iC r, w, 3, false, .cells⟩])
 | 0, i, G, hk, hG, j => by
  obtain rfl : i = L.length := by omega
  rw [List.drop_length, List.append_nil] at hG
  subst hG
  exact pcx hE (rD L) L.length L.length L.length w xa xb xc ((rC (L.take s) ++ (.slc 2 0 w 1 w false) :: rC (L.drop (s + 1)))) (iC r) dF (fun j => outK_ret (ends_ret (by kernel_rfl))) j
 | m + 1, i, G, hk, hG, j => by
  have hl : i < L.length := by omega
  have hx : L[i]? = some L[i] := List.getElem?_eq_getElem hl
  have hm := hr L[i] (List.getElem_mem hl)
  rw [List.drop_eq_getElem_cons hl] at hG
  generalize L[i] = v at hx hm hG
  have ih := c30r hE xa xb xc L hL hr s r w m (i + 1) (G ++ [v]) (by omega) (by rw [← hG]; simp)
  refine pcr hE (rD L) (iD v) L.length v.length i i w xa xb xc ((rC (L.take s) ++ (.slc 2 0 w 1 w false) :: rC G)) ((rC (L.take s) ++ (.slc 2 0 w 1 w false) :: rC (G ++ [v]))) (iC r) dT bP (Nat.mul_one _) (gR hx) (K28 hE v hm) oB (by simp [small]; omega) oB (by rw [appL_eq, List.append_assoc, List.cons_append]; exact congrArg (fun t => _ ++ _ :: t) (by rw [← appL_eq]; exact rC_app _ _)) oB (iIe (by (try simp only [Int.ofNat_eq_natCast]); rw [wrap_id (by omega) (by omega)]; try omega)) (fun j => ?_) j
  exact outK_gc [0, 4, 2] (h' := (zr (rD L) L.length ((i + 1)) ((i + 1)) w xa xb xc ((rC (L.take s) ++ (.slc 2 0 w 1 w false) :: rC (G ++ [v]))) (iC r) j).heap) (tm' := (zr (rD L) L.length ((i + 1)) ((i + 1)) w xa xb xc ((rC (L.take s) ++ (.slc 2 0 w 1 w false) :: rC (G ++ [v]))) (iC r) j).tm) (Nat.zero_le _) (by kernel_rfl) (by exact eqH _ (renO _ rfl (flat_rows _) (flat_rows _) w) (flat_ren (flat_iC r) _) rfl) (by kernel_rfl) (ih j)
theorem K30o (hE : EnvOk E) (xa xb xc : Int) (L : List (List Int)) (hL : L.length ≤ 5000) (hr : ∀ r ∈ L, r.length ≤ 100000) (s : Nat) (r : List Int) (w : Nat) (hw : r.length = w) (h0 : 0 < w) (hs : L[s]? = some r) : COut E 0 [bK [.v (.int .u8 xa), .v (.int .u8 xb), .v (.int .u8 xc)] 3 103] 30 [dR L] (.e (.one (.slc 1 0 L.length 1 L.length false))) [bK [.v (.int .u8 xa), .v (.int .u8 xb), .v (.int .u8 xc)] 3 103, some ⟨rC (L.take s) ++ (.slc 2 0 w 1 w false) :: rC (L.drop (s + 1)), L.length, 22, false, .cells⟩, some ⟨iC r, w, 3, false, .cells⟩] := by
 subst hw
 obtain ⟨hl, e⟩ := List.getElem?_eq_some_iff.1 hs
 have hm := hr r (e ▸ List.getElem_mem hl)
 have tail := c30r hE xa xb xc L hL hr s r r.length (L.length - (s + 1)) (s + 1) [] (by omega) rfl
 have k28 := K28o hE r hm h0
 refine cOut_start Tryz.func30 rfl (pc0 hE (rD L) L.length xa xb xc (fun j => ?_) fun _ => undef)
 by_cases hz : s = 0
 ·subst hz
  have hx := hs
  refine pcN hE (rD L) (iD r) L.length r.length 0 xa xb xc (iC r) dT bP (Nat.mul_one _) (gR hx) k28 oB ⟨flat_iC _, trivial⟩ (iIe (by (try simp only [Int.ofNat_eq_natCast]); rw [wrap_id (by omega) (by omega)]; try omega)) (fun j => ?_) j
  exact outK_gcF [0, 3, 1] [false, false, true] (h' := (zr (rD L) L.length ((0 + 1)) ((0 + 1)) r.length xa xb xc ([.slc 2 0 r.length 1 r.length false]) (iC r) j).heap) (tm' := (zr (rD L) L.length ((0 + 1)) ((0 + 1)) r.length xa xb xc ([.slc 2 0 r.length 1 r.length false]) (iC r) j).tm) (Nat.zero_le _) (by kernel_rfl) (by kernel_rfl) ⟨flat_iC _, trivial⟩ (by kernel_rfl) (tail j)
 ·have h0l : 0 < L.length := by omega
  have hx : L[0]? = some L[0] := List.getElem?_eq_getElem h0l
  have hm0 := hr L[0] (List.getElem_mem h0l)
  have mid : ∀ j, OutK E 0 1 (zo (rD L) L.length s s xa xb xc (rC (L.take s)) j) (Go.Ev.Ends E Tryz.f30 (.e (.one (.slc 1 0 L.length 1 L.length false))) [bK [.v (.int .u8 xa), .v (.int .u8 xb), .v (.int .u8 xc)] 3 103, some ⟨rC (L.take s) ++ (.slc 2 0 r.length 1 r.length false) :: rC (L.drop (s + 1)), L.length, 22, false, .cells⟩, some ⟨iC r, r.length, 3, false, .cells⟩]) := fun j => by
   have hx := hs
   refine pcO hE (rD L) (iD r) L.length r.length s s xa xb xc (rC (L.take s)) ((rC (L.take s) ++ [.slc 2 0 r.length 1 r.length false])) (iC r) dT bP (Nat.mul_one _) (gR hx) k28 oB ⟨flat_iC _, trivial⟩ oB (by simp [small]; omega) oB (appL_eq _ _) oB (iIe (by (try simp only [Int.ofNat_eq_natCast]); rw [wrap_id (by omega) (by omega)]; try omega)) (fun j => ?_) j
   exact outK_gc [0, 4, 2] (h' := (zr (rD L) L.length ((s + 1)) ((s + 1)) r.length xa xb xc ((rC (L.take s) ++ .slc 2 0 r.length 1 r.length false :: rC [])) (iC r) j).heap) (tm' := (zr (rD L) L.length ((s + 1)) ((s + 1)) r.length xa xb xc ((rC (L.take s) ++ .slc 2 0 r.length 1 r.length false :: rC [])) (iC r) j).tm) (Nat.zero_le _) (by kernel_rfl) (by exact eqH _ (renO _ rfl (flat_rows _) (fun _ h => by simp at h) r.length) (flat_ren (flat_iC r) _) rfl) (by kernel_rfl) (tail j)
  have st := c30a hE xa xb xc L hL hr s hl mid (s - 1) 1 (by omega)
  rw [show L.take 1 = [L[0]] by rw [← List.take_append_getElem h0l]; rfl] at st
  generalize L[0] = q at hx hm0 st
  exact pcn hE (rD L) (iD q) L.length q.length 0 xa xb xc dT bP (Nat.mul_one _) (gR hx) (K28 hE q hm0) (iIe (by (try simp only [Int.ofNat_eq_natCast]); rw [wrap_id (by omega) (by omega)]; try omega)) st j
end
end Go.Proofs.YtaccakbjankeeaaGreatDoor
end

/-! SyW -/
section
namespace Go.Ev
open Go.RowKit
noncomputable section
variable {E : Env} {lvl K : Nat} {rd : Option Nat} {Φ : Res → Prop}
def WkC (x x' : AC) : Prop := x' = x ∨ ∃ b o len sz cap, x = .slc b o len sz cap true ∧ x' = .slc b o len sz cap false
theorem WkC.sound {m : M} {x x' : AC} {y : Value} (h : WkC x x') (hy : CR m x y) : CR m x' y := by
 rcases h with rfl | ⟨b, o, len, sz, cap, rfl, rfl⟩
 ·exact hy
 ·obtain ⟨hb, c, o', e, g0, g1, g2, g3, g4, _⟩ := hy
  exact ⟨hb, c, o', e, g0, g1, g2, g3, g4, fun h => by simp at h⟩
end
end Go.Ev
end

/-! SyV -/
section
namespace Go.Ev
open Go.RowKit
noncomputable section
variable {E : Env} {lvl K : Nat} {rd : Option Nat} {Φ : Res → Prop}
def WkT (p q : Nat × AV) : Prop := p.1 = q.1 ∧ ∀ (m : M) (y : Value), VR m p.2 y → VR m q.2 y
def WkO : Option AV → Option AV → Prop
 | none, none => True
 | some x, some x' => ∀ (m : M) (y : Value), VR m x y → VR m x' y
 | _, _ => False
theorem lookT_wk (i : Nat) : ∀ {l l' : List (Nat × AV)}, All2 WkT l l' → WkO (lookT l i) (lookT l' i)
 | [], [], _ => trivial
 | [], _ :: _, h => h.elim
 | _ :: _, [], h => h.elim
 | (a, x) :: l, (b, x') :: l', h => by
  obtain ⟨⟨h1, h2⟩, h3⟩ := h
  have h1 : a = b := h1
  subst h1
  have ih := lookT_wk i h3
  show WkO (if Nat.beq a i then some x else lookT l i) (if Nat.beq a i then some x' else lookT l' i)
  cases Nat.beq a i with
  | true => exact h2
  | false => exact ih
theorem mkT_wk (j : Nat → Value) {l l' : List (Nat × AV)} (h : All2 WkT l l') (m : M) : ∀ (n i : Nat) (ys : List Value), All2 (VR m) (mkT j l n i) ys → All2 (VR m) (mkT j l' n i) ys
 | 0, _, _, hy => hy
 | n + 1, i, [], hy => hy.elim
 | n + 1, i, y :: ys, hy => by
  obtain ⟨h1, h2⟩ := hy
  refine ⟨?_, mkT_wk j h m n (i + 1) ys h2⟩
  have hw := lookT_wk i h
  revert h1 hw
  cases lookT l i <;> cases lookT l' i <;> intro h1 hw
  ·exact h1
  ·exact hw.elim
  ·exact hw.elim
  ·exact hw m y h1
theorem outK_vk {h : Heap} {todo : List Item} {j : Nat → Value} {l l' : List (Nat × AV)} {n i : Nat} (hl : All2 WkT l l') (ho : OutK E lvl K ⟨h, todo, mkT j l' n i⟩ Φ rd) : OutK E lvl K ⟨h, todo, mkT j l n i⟩ Φ rd :=
 .before (s' := ⟨h, todo, mkT j l' n i⟩) (fun _fr t _cs w m _base hT H _G => ⟨t, w, m, .refl _ _, mkT_wk j hl m n i _ hT, H, .refl _ _, .refl _ _⟩) ho
end
end Go.Ev
end

/-! SeGw -/
section
open Go Go.Ev Go.RowKit
namespace Go.Proofs.YtaccakbjankeeaaGreatDoor
noncomputable section
set_option maxRecDepth 100000
def WkS (x x' : AC) : Prop := ∀ (m : M) (y : Value), CR m x y → CR m x' y
def WkSB : Option AB → Option AB → Prop
 | none, none => True
 | some a, some a' => a.ext = .cells ∧ a'.ext = .cells ∧ a'.n = a.n ∧ a'.elem = a.elem ∧ (a'.full = true → a.full = true) ∧ All2 WkS a.cells a'.cells
 | _, _ => False
theorem outK_wks {lvl K : Nat} {rd : Option Nat} {Φ : Res → Prop} {h h' : Heap} {todo : List Item} {tm : Tm} (hh : All2 WkSB h h') (ho : OutK E lvl K ⟨h', todo, tm⟩ Φ rd) : OutK E lvl K ⟨h, todo, tm⟩ Φ rd := by
 refine .before (s' := ⟨h', todo, tm⟩) (fun fr t cs w m base hT H G => ?_) ho
 have hlen := all2_len hh
 have back : ∀ (b : Nat) (a' : AB), h'[b]? = some (some a') → ∃ a : AB, h[b]? = some (some a) ∧ a.ext = .cells ∧ a'.ext = .cells ∧ a'.n = a.n ∧ a'.elem = a.elem ∧ (a'.full = true → a.full = true) ∧ All2 WkS a.cells a'.cells := by
  intro b a' hb
  obtain ⟨x, hx, hr⟩ := hh.get' hb
  cases x with
  | none => exact hr.elim
  | some a => exact ⟨a, hx, hr⟩
 have H' : HR m base lvl h' w := by
  refine ⟨by rw [H.n, hlen], by rw [← hlen]; exact H.lvlLe, H.baseLe, fun b a' hb => ?_, fun b hb hb2 => H.own b hb (by rw [hlen]; exact hb2), ?_, H.lo, fun p hp => ⟨(H.tab p hp).1, fun b a' hb hb2 => ?_⟩⟩
  ·obtain ⟨a, ha, r1, r2, r3, r4, r5, r6⟩ := back b a' hb
   obtain ⟨B, _⟩ := H.ent b a ha
   obtain ⟨b1, b2, c, fz, b3, b4, b5, b6, b7⟩ := B r1
   refine ⟨fun _ => ⟨by rw [← all2_len r6, b1, r3], fun hf => by rw [r3]; exact b2 (r5 hf), c, fz, by rw [r4]; exact b3, b4, b5, by rw [r3]; exact b6, ?_⟩, by rw [r2]; trivial⟩
   rw [r3]
   exact all2_map (R := CR m) (T := WkS) (S := CR m) (fun x y x' h0 h3 => h0 m y h3) r6 b7
  ·intro b b' hb hb' h1 h2 h3 h4
   refine H.inj b b' (by rw [hlen]; exact hb) (by rw [hlen]; exact hb') ?_ ?_ h3 h4
   ·obtain ⟨a, ha⟩ := h1; obtain ⟨a0, h0, _⟩ := back b a ha; exact ⟨a0, h0⟩
   ·obtain ⟨a, ha⟩ := h2; obtain ⟨a0, h0, _⟩ := back b' a ha; exact ⟨a0, h0⟩
  ·obtain ⟨a, ha0, _⟩ := back b a' hb2
   exact (H.tab p hp).2 b a hb ha0
 exact ⟨t, w, m, .refl _ _, hT, H', .refl _ _, .refl _ _⟩
theorem wkS_n (sz : Nat) : WkS (.v (.slice none 0 0)) (.dp (.s [] 0 sz)) := fun m y h => wkNc m sz y h
end
end Go.Proofs.YtaccakbjankeeaaGreatDoor
end
