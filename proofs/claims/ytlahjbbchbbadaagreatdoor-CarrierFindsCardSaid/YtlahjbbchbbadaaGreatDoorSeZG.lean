/-
  Part of the proof: SePd, SeFi, SePe, SeEqF, SePf.
-/
import Derived.Test.YtlahjbbchbbadaaGreatDoorSeZF
import Derived.Stop.BytesEq

/-! SePd -/
section
open Go Go.Ev
namespace Go.Proofs.YtlahjbbchbbadaaGreatDoor
noncomputable section
set_option maxRecDepth 100000
set_option maxHeartbeats 20000000
def s79 (C : List DT) (n _i : Nat) (_x _y _u : Int) (_j : Nat → Value) : St := startK Tryz.f79 [] [(.e (.one (.dp (.s C n 1))))]
def s81 (C : List DT) (n _i : Nat) (_x _y _u : Int) (_j : Nat → Value) : St := startK Tryz.f81 [] [(.e (.one (.dp (.s C n 1))))]
def s15 (C : List DT) (n _i : Nat) (_x _y _u : Int) (_j : Nat → Value) : St := startK Tryz.f15 [] [(.e (.one (.dp (.s C n 1))))]
def q79 (C : List DT) (n i : Nat) (_x _y _u : Int) (j : Nat → Value) : St := ⟨[], [(.code (atC [1, 0, 1, 0, 0] (bodyOf Tryz.f79))), (.inLoop (atC [1, 0, 1, 0, 0] (bodyOf Tryz.f79))), (.inBlock 0), (.code (atC [1, 1] (bodyOf Tryz.f79)))], mkT j [(5, (.e (.one (.dp (.s (C) (n) 1))))), (6, (iI (Int.ofNat n))), (7, (iI (Int.ofNat i)))] 15 0⟩
def q81 (C : List DT) (n i : Nat) (_x _y _u : Int) (j : Nat → Value) : St := ⟨[], [(.code (atC [1, 0, 1, 0, 0] (bodyOf Tryz.f81))), (.inLoop (atC [1, 0, 1, 0, 0] (bodyOf Tryz.f81))), (.inBlock 0), (.code (atC [1, 1] (bodyOf Tryz.f81)))], mkT j [(0, (.e (.one (.dp (.s (C) (n) 1))))), (3, (iI (Int.ofNat i)))] 19 0⟩
def p79a_end (C : List DT) (n _i : Nat) (_x _y _u : Int) (j : Nat → Value) : St := ⟨[], [(.code (atC [1, 0, 1, 0, 0] (bodyOf Tryz.f79))), (.inLoop (atC [1, 0, 1, 0, 0] (bodyOf Tryz.f79))), (.inBlock 0), (.code (atC [1, 1] (bodyOf Tryz.f79)))], mkT j [(5, (.e (.one (.dp (.s (C) (n) 1))))), (6, (iI (Int.ofNat n))), (7, (iI 0))] 15 0⟩
theorem p79a (hE : EnvOk E) (C : List DT) (n i : Nat) (x y u : Int)  {Φ : Res → Prop} (ho : ∀ j, OutK E 0 0 (p79a_end C n i x y u j) Φ) (j : Nat → Value) : OutK E 0 0 (s79 C n i x y u j) Φ :=
  outK_seg hE (R0_ok hE) [.run 4, (.ops [(1, (.d .len))] []), .run 2] [5, 6, 7] (ps := []) (fun j => by kernel_rfl) trivial
    ho
def p81a_end (C : List DT) (n _i : Nat) (_x _y _u : Int) (j : Nat → Value) : St := ⟨[], [(.code (atC [1, 0, 1, 0, 0] (bodyOf Tryz.f81))), (.inLoop (atC [1, 0, 1, 0, 0] (bodyOf Tryz.f81))), (.inBlock 0), (.code (atC [1, 1] (bodyOf Tryz.f81)))], mkT j [(0, (.e (.one (.dp (.s (C) (n) 1))))), (3, (iI 0))] 19 0⟩
theorem p81a (hE : EnvOk E) (C : List DT) (n i : Nat) (x y u : Int)  {Φ : Res → Prop} (ho : ∀ j, OutK E 0 0 (p81a_end C n i x y u j) Φ) (j : Nat → Value) : OutK E 0 0 (s81 C n i x y u j) Φ :=
  outK_seg hE (R0_ok hE) [.run 7] [0, 3] (ps := []) (fun j => by kernel_rfl) trivial
    ho
def p15_end (_C : List DT) (_n _i : Nat) (x _y _u : Int) (j : Nat → Value) : St := ⟨[], [(.code .ret)], mkT j [(2, (iI (x)))] 5 0⟩
theorem p15 (hE : EnvOk E) (C : List DT) (n i : Nat) (x y u : Int) (h0 : COut E 0 [] 81 [(.e (.one (.dp (.s (C) (n) 1))))] (iI (x)) []) {Φ : Res → Prop} (ho : ∀ j, OutK E 0 0 (p15_end C n i x y u j) Φ) (j : Nat → Value) : OutK E 0 0 (s15 C n i x y u j) Φ :=
  outK_seg hE (R0_ok hE) [.run 3, (.ops [(1, (.c0 (iI (x))))] [])] [2] (fun j => by kernel_rfl) (aP h0 <| aN <| aZ)
    ho
def p79s_end (C : List DT) (n i : Nat) (_x _y _u : Int) (j : Nat → Value) : St := ⟨[], [(.code (atC [1, 0, 1, 0, 0] (bodyOf Tryz.f79))), (.inLoop (atC [1, 0, 1, 0, 0] (bodyOf Tryz.f79))), (.inBlock 0), (.code (atC [1, 1] (bodyOf Tryz.f79)))], mkT j [(5, (.e (.one (.dp (.s (C) (n) 1))))), (6, (iI (Int.ofNat n))), (7, (iI (Int.ofNat (i + 1))))] 15 0⟩
theorem p79s (hE : EnvOk E) (C : List DT) (n i : Nat) (x y u : Int) (h0 : (decide (Int.ofNat i < Int.ofNat n) : Bool) = true) (h1 : (0 : Int) ≤ Int.ofNat i ∧ Int.ofNat i < (↑n : Int)) (h2 : ((Int.ofNat i).toNat * nat_lit 1 : Nat) = i) (h3 : (getL C i : Option DT) = (.some (.v (.int .i64 (x))))) (h4 : (x != (0 : Int) : Bool) = false) (h5 : ((iI (wrapF IntKind.i64 (Int.ofNat i + (1 : Int)))) : AV) = (iI (Int.ofNat (i + 1)))) {Φ : Res → Prop} (ho : ∀ j, OutK E 0 0 (p79s_end C n i x y u j) Φ) (j : Nat → Value) : OutK E 0 0 (q79 C n i x y u j) Φ :=
  outK_seg hE (R0_ok hE) [.run 3, (.cond true), .run 4, (.ops [(1, (.d (.ld (.v (.int .i64 (x)))))), (0, (.d (.ix (i))))] []), .run 2, (.cond false), .run 2, (.ops [(0, (.rn (iI (Int.ofNat (i + 1)))))] []), .run 1] [5, 6, 7] (fun j => by kernel_rfl) (aP h0 <| aP h1 <| aP h2 <| aP h3 <| aP h4 <| aP h5 <| aZ)
    ho
def p79e_end (_C : List DT) (_n _i : Nat) (x _y _u : Int) (j : Nat → Value) : St := ⟨[], [(.code .ret), (.inBlock 1), (.code (atC [1, 0, 1, 0, 0, 1, 1, 1] (bodyOf Tryz.f79))), (.inLoop (atC [1, 0, 1, 0, 0] (bodyOf Tryz.f79))), (.inBlock 0), (.code (atC [1, 1] (bodyOf Tryz.f79)))], mkT j [(2, (iI (x)))] 15 0⟩
theorem p79e (hE : EnvOk E) (C : List DT) (n i : Nat) (x y u : Int) (h0 : (decide (Int.ofNat i < Int.ofNat n) : Bool) = true) (h1 : (0 : Int) ≤ Int.ofNat i ∧ Int.ofNat i < (↑n : Int)) (h2 : ((Int.ofNat i).toNat * nat_lit 1 : Nat) = i) (h3 : (getL C i : Option DT) = (.some (.v (.int .i64 (x))))) (h4 : (x != (0 : Int) : Bool) = true) {Φ : Res → Prop} (ho : ∀ j, OutK E 0 0 (p79e_end C n i x y u j) Φ) (j : Nat → Value) : OutK E 0 0 (q79 C n i x y u j) Φ :=
  outK_seg hE (R0_ok hE) [.run 3, (.cond true), .run 4, (.ops [(1, (.d (.ld (.v (.int .i64 (x)))))), (0, (.d (.ix (i))))] []), .run 2, (.cond true), .run 2] [2] (fun j => by kernel_rfl) (aP h0 <| aP h1 <| aP h2 <| aP h3 <| aP h4 <| aZ)
    ho
def p79x_end (_C : List DT) (_n _i : Nat) (_x _y _u : Int) (j : Nat → Value) : St := ⟨[], [(.code .ret)], mkT j [(2, (iI 0))] 15 0⟩
theorem p79x (hE : EnvOk E) (C : List DT) (n i : Nat) (x y u : Int) (h0 : (decide (Int.ofNat i < Int.ofNat n) : Bool) = false) {Φ : Res → Prop} (ho : ∀ j, OutK E 0 0 (p79x_end C n i x y u j) Φ) (j : Nat → Value) : OutK E 0 0 (q79 C n i x y u j) Φ :=
  outK_seg hE (R0_ok hE) [.run 3, (.cond false), .run 3] [2] (fun j => by kernel_rfl) (aP h0 <| aZ)
    ho
def p81s_end (C : List DT) (n i : Nat) (_x _y _u : Int) (j : Nat → Value) : St := ⟨[], [(.code (atC [1, 0, 1, 0, 0] (bodyOf Tryz.f81))), (.inLoop (atC [1, 0, 1, 0, 0] (bodyOf Tryz.f81))), (.inBlock 0), (.code (atC [1, 1] (bodyOf Tryz.f81)))], mkT j [(0, (.e (.one (.dp (.s (C) (n) 1))))), (3, (iI (Int.ofNat (i + 1))))] 19 0⟩
theorem p81s (hE : EnvOk E) (C : List DT) (n i : Nat) (x y u : Int) (h0 : (decide (Int.ofNat i < (↑n : Int)) : Bool) = true) (h1 : (0 : Int) ≤ Int.ofNat i ∧ Int.ofNat i < (↑n : Int)) (h2 : ((Int.ofNat i).toNat * nat_lit 1 : Nat) = i) (h3 : (getL C i : Option DT) = (.some (.v (.int .i64 (x))))) (h4 : (x != (0 : Int) : Bool) = false) (h5 : ((iI (wrapF IntKind.i64 (Int.ofNat i + (1 : Int)))) : AV) = (iI (Int.ofNat (i + 1)))) {Φ : Res → Prop} (ho : ∀ j, OutK E 0 0 (p81s_end C n i x y u j) Φ) (j : Nat → Value) : OutK E 0 0 (q81 C n i x y u j) Φ :=
  outK_seg hE (R0_ok hE) [.run 2, (.ops [(2, (.d .len))] []), (.cond true), .run 4, (.ops [(3, (.d (.ld (.v (.int .i64 (x)))))), (2, (.d (.ix (i))))] []), (.cond false), .run 2, (.ops [(1, (.rn (iI (Int.ofNat (i + 1)))))] []), .run 1] [0, 3] (fun j => by kernel_rfl) (aP h0 <| aP h1 <| aP h2 <| aP h3 <| aP h4 <| aP h5 <| aZ)
    ho
def p81e_end (_C : List DT) (_n _i : Nat) (x _y _u : Int) (j : Nat → Value) : St := ⟨[], [(.code .ret), (.inBlock 1), (.code (atC [1, 0, 1, 0, 0, 1, 1] (bodyOf Tryz.f81))), (.inLoop (atC [1, 0, 1, 0, 0] (bodyOf Tryz.f81))), (.inBlock 0), (.code (atC [1, 1] (bodyOf Tryz.f81)))], mkT j [(2, (iI (x)))] 19 0⟩
theorem p81e (hE : EnvOk E) (C : List DT) (n i : Nat) (x y u : Int) (h0 : (decide (Int.ofNat i < (↑n : Int)) : Bool) = true) (h1 : (0 : Int) ≤ Int.ofNat i ∧ Int.ofNat i < (↑n : Int)) (h2 : ((Int.ofNat i).toNat * nat_lit 1 : Nat) = i) (h3 : (getL C i : Option DT) = (.some (.v (.int .i64 (x))))) (h4 : (x != (0 : Int) : Bool) = true) (h5 : (0 : Int) ≤ Int.ofNat i ∧ Int.ofNat i < (↑n : Int)) (h6 : ((Int.ofNat i).toNat * nat_lit 1 : Nat) = i) (h7 : (getL C i : Option DT) = (.some (.v (.int .i64 (x))))) {Φ : Res → Prop} (ho : ∀ j, OutK E 0 0 (p81e_end C n i x y u j) Φ) (j : Nat → Value) : OutK E 0 0 (q81 C n i x y u j) Φ :=
  outK_seg hE (R0_ok hE) [.run 2, (.ops [(2, (.d .len))] []), (.cond true), .run 4, (.ops [(3, (.d (.ld (.v (.int .i64 (x)))))), (2, (.d (.ix (i))))] []), (.cond true), .run 1, (.ops [(3, (.d (.ld (.v (.int .i64 (x)))))), (2, (.d (.ix (i))))] [])] [2] (fun j => by kernel_rfl) (aP h0 <| aP h1 <| aP h2 <| aP h3 <| aP h4 <| aP h5 <| aP h6 <| aP h7 <| aZ)
    ho
def p81x_end (_C : List DT) (_n _i : Nat) (_x _y _u : Int) (j : Nat → Value) : St := ⟨[], [(.code .ret)], mkT j [(2, (iI 0))] 19 0⟩
theorem p81x (hE : EnvOk E) (C : List DT) (n i : Nat) (x y u : Int) (h0 : (decide (Int.ofNat i < (↑n : Int)) : Bool) = false) {Φ : Res → Prop} (ho : ∀ j, OutK E 0 0 (p81x_end C n i x y u j) Φ) (j : Nat → Value) : OutK E 0 0 (q81 C n i x y u j) Φ :=
  outK_seg hE (R0_ok hE) [.run 2, (.ops [(2, (.d .len))] []), (.cond false), .run 3] [2] (fun j => by kernel_rfl) (aP h0 <| aZ)
    ho
open Ieee
theorem getI {xs : List Int} {i : Nat} {x : Int} (h : xs[i]? = some x) : getL (iD xs) i = some (.v (.int .i64 x)) := by rw [getL_eq, List.getElem?_map, h]; rfl
abbrev dI (xs : List Int) : AV := .e (.one (.dp (.s (iD xs) xs.length 1)))
theorem l79 (hE : EnvOk E) (xs : List Int) (hm : xs.length ≤ 4000000) :
    ∀ m i, m + i = xs.length → ∀ x j, OutK E 0 0 (q79 (iD xs) xs.length i x 0 0 j) (Go.Ev.Ends E Tryz.f79 (iI (firstI (xs.drop i))) [])
  | 0, i, hk, x, j => by
    have e1 : xs.drop i = [] := List.drop_eq_nil_of_le (by omega)
    rw [e1]
    exact p79x hE _ _ i x 0 0 (decide_eq_false (by simp only [Int.ofNat_eq_natCast]; omega)) (fun j => outK_ret (ends_ret (by kernel_rfl))) j
  | m + 1, i, hk, _, j => by
    have hlt : i < xs.length := by omega
    have hx : xs[i]? = some xs[i] := List.getElem?_eq_getElem hlt
    have e1 : xs.drop i = xs[i] :: xs.drop (i + 1) := List.drop_eq_getElem_cons hlt
    rw [e1]
    generalize xs[i] = x at hx e1
    have hd : decide (Int.ofNat i < Int.ofNat xs.length) = true := decide_eq_true (by simp only [Int.ofNat_eq_natCast]; omega)
    have hb : (0 : Int) ≤ Int.ofNat i ∧ Int.ofNat i < (xs.length : Int) := by simp only [Int.ofNat_eq_natCast]; omega
    by_cases h0 : x = 0
    · have e2 : firstI (x :: xs.drop (i + 1)) = firstI (xs.drop (i + 1)) := by simp [firstI, h0]
      rw [e2]
      exact p79s hE _ _ i x 0 0 hd hb (by simp) (getI hx) (by simp [h0]) (iIn i (by omega)) (l79 hE xs hm m (i + 1) (by omega) 0) j
    · have e2 : firstI (x :: xs.drop (i + 1)) = x := by simp [firstI, h0]
      rw [e2]
      exact p79e hE _ _ i x 0 0 hd hb (by simp) (getI hx) (by simp [h0])  (fun j => outK_ret (ends_ret (by kernel_rfl))) j
theorem K79 (hE : EnvOk E) (xs : List Int) (hm : xs.length ≤ 4000000) : COut E 0 [] 79 [dI xs] (iI (firstI xs)) [] :=
  cOut_start Tryz.func79 rfl (p79a hE _ _ 0 0 0 0 (l79 hE xs hm xs.length 0 (by omega) 0) fun _ => undef)

theorem l81 (hE : EnvOk E) (xs : List Int) (hm : xs.length ≤ 4000000) :
    ∀ m i, m + i = xs.length → ∀ x j, OutK E 0 0 (q81 (iD xs) xs.length i x 0 0 j) (Go.Ev.Ends E Tryz.f81 (iI (firstI (xs.drop i))) [])
  | 0, i, hk, x, j => by
    have e1 : xs.drop i = [] := List.drop_eq_nil_of_le (by omega)
    rw [e1]
    exact p81x hE _ _ i x 0 0 (decide_eq_false (by simp only [Int.ofNat_eq_natCast]; omega)) (fun j => outK_ret (ends_ret (by kernel_rfl))) j
  | m + 1, i, hk, _, j => by
    have hlt : i < xs.length := by omega
    have hx : xs[i]? = some xs[i] := List.getElem?_eq_getElem hlt
    have e1 : xs.drop i = xs[i] :: xs.drop (i + 1) := List.drop_eq_getElem_cons hlt
    rw [e1]
    generalize xs[i] = x at hx e1
    have hd : decide (Int.ofNat i < (xs.length : Int)) = true := decide_eq_true (by simp only [Int.ofNat_eq_natCast]; omega)
    have hb : (0 : Int) ≤ Int.ofNat i ∧ Int.ofNat i < (xs.length : Int) := by simp only [Int.ofNat_eq_natCast]; omega
    by_cases h0 : x = 0
    · have e2 : firstI (x :: xs.drop (i + 1)) = firstI (xs.drop (i + 1)) := by simp [firstI, h0]
      rw [e2]
      exact p81s hE _ _ i x 0 0 hd hb (by simp) (getI hx) (by simp [h0]) (iIn i (by omega)) (l81 hE xs hm m (i + 1) (by omega) 0) j
    · have e2 : firstI (x :: xs.drop (i + 1)) = x := by simp [firstI, h0]
      rw [e2]
      exact p81e hE _ _ i x 0 0 hd hb (by simp) (getI hx) (by simp [h0]) hb (by simp) (getI hx) (fun j => outK_ret (ends_ret (by kernel_rfl))) j
theorem K81 (hE : EnvOk E) (xs : List Int) (hm : xs.length ≤ 4000000) : COut E 0 [] 81 [dI xs] (iI (firstI xs)) [] :=
  cOut_start Tryz.func81 rfl (p81a hE _ _ 0 0 0 0 (l81 hE xs hm xs.length 0 (by omega) 0) fun _ => undef)

theorem K15 (hE : EnvOk E) (xs : List Int) (hm : xs.length ≤ 4000000) : COut E 0 [] 15 [dI xs] (iI (firstI xs)) [] :=
  cOut_start Tryz.func15 rfl (p15 hE _ _ 0 _ 0 0 (K81 hE xs hm) (fun j => outK_ret (ends_ret (by kernel_rfl))) fun _ => undef)
end
end Go.Proofs.YtlahjbbchbbadaaGreatDoor

end

/-! SeFi -/
section
open Go Go.Ev
namespace Go.Proofs.YtlahjbbchbbadaaGreatDoor
noncomputable section
set_option maxRecDepth 100000
set_option maxHeartbeats 20000000
def s118 (C _P : List DT) (n _p _i _a _N _b _c : Nat) (_e _f _g _h _k _s _u _v _w _z : Int) (_y : Bool) (_D _D2 _D3 _X : List AC) (_j : Nat → Value) : St := startK Tryz.f118 [] [(.e (.one (.dp (.s C n 1))))]
def s119 (C _P : List DT) (n _p _i _a _N _b _c : Nat) (_e _f _g _h _k _s _u v _w _z : Int) (_y : Bool) (_D _D2 _D3 _X : List AC) (_j : Nat → Value) : St := startK Tryz.f119 [] [(.e (.one (.dp (.s C n 1)))), iI v]
def s117 (C P : List DT) (n p _i _a _N _b _c : Nat) (_e _f _g _h _k _s _u _v _w _z : Int) (_y : Bool) (_D _D2 _D3 _X : List AC) (_j : Nat → Value) : St := startK Tryz.f117 [] [(.e (.one (.dp (.s C n 1)))), (.e (.one (.dp (.s P p 1))))]
def s121 (C P : List DT) (n p _i a _N _b _c : Nat) (_e _f _g _h _k _s _u _v _w _z : Int) (_y : Bool) (_D _D2 _D3 _X : List AC) (_j : Nat → Value) : St := startK Tryz.f121 [] [(.e (.one (.dp (.s C n 1)))), (.e (.one (.dp (.s P p 1)))), (iI (Int.ofNat a))]
def s116 (_C P : List DT) (_n p _i _a _N _b _c : Nat) (_e _f _g _h _k _s _u _v _w _z : Int) (_y : Bool) (_D _D2 _D3 _X : List AC) (_j : Nat → Value) : St := startK Tryz.f116 [] [(.e (.one (.dp (.s P p 1))))]
def s50 (_C P : List DT) (_n p _i _a _N _b _c : Nat) (_e _f _g _h _k _s _u _v _w _z : Int) (_y : Bool) (_D _D2 _D3 _X : List AC) (_j : Nat → Value) : St := startK Tryz.f50 [] [(.e (.one (.dp (.s P p 1))))]
def s120 (_C _P : List DT) (n _p _i a _N _b _c : Nat) (_e _f _g _h _k _s _u _v _w _z : Int) (_y : Bool) (D _D2 _D3 _X : List AC) (_j : Nat → Value) : St := startK Tryz.f120 [(.some ⟨[.v (.int .i64 0), .v (.int .i64 0)], 2, 80, true, .cells⟩), (.some ⟨D, n, 3, false, .cells⟩)] [(.e (.one (.slc 1 0 n 1 n false))), (iI (Int.ofNat a)), (iI (Int.ofNat (a + 1)))]
def q118 (C _P : List DT) (n _p i _a _N _b _c : Nat) (_e _f _g _h _k _s u _v _w _z : Int) (_y : Bool) (_D _D2 _D3 _X : List AC) (j : Nat → Value) : St := ⟨[], [(.code (atC [1, 1, 1, 0, 1, 0, 0] (bodyOf Tryz.f118))), (.inLoop (atC [1, 1, 1, 0, 1, 0, 0] (bodyOf Tryz.f118))), (.inBlock 0), (.code (atC [1, 1, 1, 1] (bodyOf Tryz.f118)))], mkT j [(0, (.e (.one (.dp (.s (C) (n) 1))))), (3, (iI u)), (4, (iI (Int.ofNat i)))] 25 0⟩
def q119 (C _P : List DT) (n _p i _a _N _b _c : Nat) (_e _f _g _h _k _s _u v _w _z : Int) (_y : Bool) (_D _D2 _D3 _X : List AC) (j : Nat → Value) : St := ⟨[], [(.code (atC [1, 0, 1, 0, 0] (bodyOf Tryz.f119))), (.inLoop (atC [1, 0, 1, 0, 0] (bodyOf Tryz.f119))), (.inBlock 0), (.code (atC [1, 1] (bodyOf Tryz.f119)))], mkT j [(0, (.e (.one (.dp (.s (C) (n) 1))))), (1, (iI (v))), (7, (iI (Int.ofNat n))), (8, (iI (Int.ofNat i)))] 19 0⟩
def q117 (C P : List DT) (n p i _a _N _b _c : Nat) (_e _f _g _h _k s _u _v _w _z : Int) (_y : Bool) (_D _D2 _D3 _X : List AC) (j : Nat → Value) : St := ⟨[], [(.code (atC [1, 1, 0, 1, 0, 0] (bodyOf Tryz.f117))), (.inLoop (atC [1, 1, 0, 1, 0, 0] (bodyOf Tryz.f117))), (.inBlock 0), (.code (atC [1, 1, 1] (bodyOf Tryz.f117)))], mkT j [(0, (.e (.one (.dp (.s (C) (n) 1))))), (5, (iI s)), (8, (.e (.one (.dp (.s (P) (p) 1))))), (9, (iI (Int.ofNat p))), (10, (iI (Int.ofNat i)))] 27 0⟩
def q121 (C P : List DT) (n p i a _N _b _c : Nat) (_e _f _g _h _k s _u _v _w _z : Int) (_y : Bool) (_D _D2 _D3 _X : List AC) (j : Nat → Value) : St := ⟨[], [(.code (atC [1, 1, 0, 1, 0, 0] (bodyOf Tryz.f121))), (.inLoop (atC [1, 1, 0, 1, 0, 0] (bodyOf Tryz.f121))), (.inBlock 0), (.code (atC [1, 1, 1] (bodyOf Tryz.f121)))], mkT j [(0, (.e (.one (.dp (.s (C) (n) 1))))), (1, (.e (.one (.dp (.s (P) (p) 1))))), (2, (iI (Int.ofNat a))), (7, (iI s)), (8, (iI (Int.ofNat i)))] 31 0⟩
def p118a_end (C : List DT) (_P : List DT) (n _p _i _a _N _b _c : Nat) (_e _f _g _h _k _s u _v _w _z : Int) (_y : Bool) (_D _D2 _D3 _X : List AC) (j : Nat → Value) : St := ⟨[], [(.code (atC [1, 1, 1, 0, 1, 0, 0] (bodyOf Tryz.f118))), (.inLoop (atC [1, 1, 1, 0, 1, 0, 0] (bodyOf Tryz.f118))), (.inBlock 0), (.code (atC [1, 1, 1, 1] (bodyOf Tryz.f118)))], mkT j [(0, (.e (.one (.dp (.s (C) (n) 1))))), (3, (iI (u))), (4, (iI 1))] 25 0⟩
theorem p118a (hE : EnvOk E) (C : List DT) (P : List DT) (n p i a N b c : Nat) (e f g h k s u v w z : Int) (y : Bool) (D D2 D3 X : List AC) (h0 : (decide ((↑n : Int) < (1 : Int)) : Bool) = false) (h1 : (0 : Int) ≤ (0 : Int) ∧ (0 : Int) < (↑n : Int)) (h3 : (getL C (nat_lit 0) : Option DT) = (.some (.v (.int .i64 (u))))) {Φ : Res → Prop} (ho : ∀ j, OutK E 0 0 (p118a_end C P n p i a N b c e f g h k s u v w z y D D2 D3 X j) Φ) (j : Nat → Value) : OutK E 0 0 (s118 C P n p i a N b c e f g h k s u v w z y D D2 D3 X j) Φ :=
  outK_seg hE (R0_ok hE) [.run 4, (.ops [(1, (.d .len))] []), (.cond false), .run 2, (.ops [(2, (.d (.ld (.v (.int .i64 (u)))))), (1, (.d (.ix 0)))] []), .run 5] [0, 3, 4] (fun j => by kernel_rfl) (aP h0 <| aP h1 <| aP (rfl : ((0 : Nat) : Nat) = nat_lit 0) <| aP h3 <| aZ)
    ho
def p119a_end (C : List DT) (_P : List DT) (n _p _i _a _N _b _c : Nat) (_e _f _g _h _k _s _u v _w _z : Int) (_y : Bool) (_D _D2 _D3 _X : List AC) (j : Nat → Value) : St := ⟨[], [(.code (atC [1, 0, 1, 0, 0] (bodyOf Tryz.f119))), (.inLoop (atC [1, 0, 1, 0, 0] (bodyOf Tryz.f119))), (.inBlock 0), (.code (atC [1, 1] (bodyOf Tryz.f119)))], mkT j [(0, (.e (.one (.dp (.s (C) (n) 1))))), (1, (iI (v))), (7, (iI (Int.ofNat n))), (8, (iI 0))] 19 0⟩
theorem p119a (hE : EnvOk E) (C : List DT) (P : List DT) (n p i a N b c : Nat) (e f g h k s u v w z : Int) (y : Bool) (D D2 D3 X : List AC)  {Φ : Res → Prop} (ho : ∀ j, OutK E 0 0 (p119a_end C P n p i a N b c e f g h k s u v w z y D D2 D3 X j) Φ) (j : Nat → Value) : OutK E 0 0 (s119 C P n p i a N b c e f g h k s u v w z y D D2 D3 X j) Φ :=
  outK_seg hE (R0_ok hE) [.run 4, (.ops [(1, (.d .len))] []), .run 2] [0, 1, 7, 8] (ps := []) (fun j => by kernel_rfl) trivial
    ho
def p117a_end (C : List DT) (P : List DT) (n p _i _a _N _b _c : Nat) (_e _f _g _h _k _s _u _v _w _z : Int) (_y : Bool) (_D _D2 _D3 _X : List AC) (j : Nat → Value) : St := ⟨[], [(.code (atC [1, 1, 0, 1, 0, 0] (bodyOf Tryz.f117))), (.inLoop (atC [1, 1, 0, 1, 0, 0] (bodyOf Tryz.f117))), (.inBlock 0), (.code (atC [1, 1, 1] (bodyOf Tryz.f117)))], mkT j [(0, (.e (.one (.dp (.s (C) (n) 1))))), (5, (iI 0)), (8, (.e (.one (.dp (.s (P) (p) 1))))), (9, (iI (Int.ofNat p))), (10, (iI 0))] 27 0⟩
theorem p117a (hE : EnvOk E) (C : List DT) (P : List DT) (n p i a N b c : Nat) (e f g h k s u v w z : Int) (y : Bool) (D D2 D3 X : List AC)  {Φ : Res → Prop} (ho : ∀ j, OutK E 0 0 (p117a_end C P n p i a N b c e f g h k s u v w z y D D2 D3 X j) Φ) (j : Nat → Value) : OutK E 0 0 (s117 C P n p i a N b c e f g h k s u v w z y D D2 D3 X j) Φ :=
  outK_seg hE (R0_ok hE) [.run 6, (.ops [(1, (.d .len))] []), .run 2] [0, 5, 8, 9, 10] (ps := []) (fun j => by kernel_rfl) trivial
    ho
def p121a_end (C : List DT) (P : List DT) (n p _i a _N _b _c : Nat) (_e _f _g _h _k _s _u _v _w _z : Int) (_y : Bool) (_D _D2 _D3 _X : List AC) (j : Nat → Value) : St := ⟨[], [(.code (atC [1, 1, 0, 1, 0, 0] (bodyOf Tryz.f121))), (.inLoop (atC [1, 1, 0, 1, 0, 0] (bodyOf Tryz.f121))), (.inBlock 0), (.code (atC [1, 1, 1] (bodyOf Tryz.f121)))], mkT j [(0, (.e (.one (.dp (.s (C) (n) 1))))), (1, (.e (.one (.dp (.s (P) (p) 1))))), (2, (iI (Int.ofNat a))), (7, (iI 0)), (8, (iI 0))] 31 0⟩
theorem p121a (hE : EnvOk E) (C : List DT) (P : List DT) (n p i a N b c : Nat) (e f g h k s u v w z : Int) (y : Bool) (D D2 D3 X : List AC)  {Φ : Res → Prop} (ho : ∀ j, OutK E 0 0 (p121a_end C P n p i a N b c e f g h k s u v w z y D D2 D3 X j) Φ) (j : Nat → Value) : OutK E 0 0 (s121 C P n p i a N b c e f g h k s u v w z y D D2 D3 X j) Φ :=
  outK_seg hE (R0_ok hE) [.run 9] [0, 1, 2, 7, 8] (ps := []) (fun j => by kernel_rfl) trivial
    ho
def p116_end (_C : List DT) (_P : List DT) (_n _p _i _a _N _b _c : Nat) (_e _f g _h _k _s _u _v _w _z : Int) (_y : Bool) (_D _D2 _D3 _X : List AC) (j : Nat → Value) : St := ⟨[], [(.code .ret)], mkT j [(2, (iI (g)))] 11 0⟩
theorem p116 (hE : EnvOk E) (C : List DT) (P : List DT) (n p i a N b c : Nat) (e f g h k s u v w z : Int) (y : Bool) (D D2 D3 X : List AC) (h0 : COut E 0 [] 85 [(iB ((↑p : Int) == (0 : Int))), (iI 12)] (iI (e)) []) (h2 : COut E 0 [] 97 [(.e (.one (.dp (.s (P) (p) 1)))), (iI 64), (.e (.one (.v (.func (.func 24) #[] #[]))))] (iI (f)) []) (h4 : COut E 1 [(.some ⟨[(.v (.int .i64 (e))), (.v (.int .i64 (f)))], 2, 26, true, .cells⟩)] 79 [(.e (.one (.slc 0 0 2 1 2 true)))] (iI (g)) [(.some ⟨[(.v (.int .i64 (e))), (.v (.int .i64 (f)))], 2, 26, true, .cells⟩)]) {Φ : Res → Prop} (ho : ∀ j, OutK E 0 0 (p116_end C P n p i a N b c e f g h k s u v w z y D D2 D3 X j) Φ) (j : Nat → Value) : OutK E 0 0 (s116 C P n p i a N b c e f g h k s u v w z y D D2 D3 X j) Φ :=
  outK_seg hE (R0_ok hE) [.run 3, (.ops [(3, (.c0 (iI (e)))), (5, (.c0 (iI (f)))), (7, (.d (.c1 (iI (g))))), (1, (.d .len))] [])] [2] (s' := fun j => ⟨[(.some ⟨[(.v (.int .i64 (e))), (.v (.int .i64 (f)))], 2, 26, true, .cells⟩)], [(.code .ret)], mkT j [(2, (iI (g)))] 11 0⟩) (fun j => by kernel_rfl) (aP h0 <| aN <| aP h2 <| aN <| aP h4 <| aN <| aZ)
    fun j => outK_gc [] (by decide) (by kernel_rfl) (by kernel_rfl) (by kernel_rfl) (ho j)
def p50_end (_C : List DT) (_P : List DT) (_n _p _i _a _N _b _c : Nat) (_e _f _g h _k _s _u _v _w _z : Int) (_y : Bool) (_D _D2 _D3 _X : List AC) (j : Nat → Value) : St := ⟨[], [(.code .ret)], mkT j [(2, (iI (h)))] 15 0⟩
theorem p50 (hE : EnvOk E) (C : List DT) (P : List DT) (n p i a N b c : Nat) (e f g h k s u v w z : Int) (y : Bool) (D D2 D3 X : List AC) (h0 : COut E 0 [] 82 [(iB ((↑p : Int) == (0 : Int))), (iI 12)] (iI (e)) []) (h2 : COut E 0 [] 82 [(iB (decide ((↑p : Int) > (64 : Int)))), (iI 5)] (iI (f)) []) (h4 : COut E 0 [] 38 [(.e (.one (.dp (.s (P) (p) 1))))] (iI (g)) []) (h6 : COut E 1 [(.some ⟨[(.v (.int .i64 (e))), (.v (.int .i64 (f))), (.v (.int .i64 (g)))], 3, 3, true, .cells⟩)] 81 [(.e (.one (.slc 0 0 3 1 3 true)))] (iI (h)) [(.some ⟨[(.v (.int .i64 (e))), (.v (.int .i64 (f))), (.v (.int .i64 (g)))], 3, 3, true, .cells⟩)]) {Φ : Res → Prop} (ho : ∀ j, OutK E 0 0 (p50_end C P n p i a N b c e f g h k s u v w z y D D2 D3 X j) Φ) (j : Nat → Value) : OutK E 0 0 (s50 C P n p i a N b c e f g h k s u v w z y D D2 D3 X j) Φ :=
  outK_seg hE (R0_ok hE) [.run 3, (.ops [(3, (.c0 (iI (e)))), (7, (.c0 (iI (f)))), (9, (.c0 (iI (g)))), (11, (.d (.c1 (iI (h))))), (1, (.d .len)), (5, (.d .len))] [])] [2] (s' := fun j => ⟨[(.some ⟨[(.v (.int .i64 (e))), (.v (.int .i64 (f))), (.v (.int .i64 (g)))], 3, 3, true, .cells⟩)], [(.code .ret)], mkT j [(2, (iI (h)))] 15 0⟩) (fun j => by kernel_rfl) (aP h0 <| aN <| aP h2 <| aN <| aP h4 <| aN <| aP h6 <| aN <| aZ)
    fun j => outK_gc [] (by decide) (by kernel_rfl) (by kernel_rfl) (by kernel_rfl) (ho j)
def p118s_end (C : List DT) (_P : List DT) (n _p i _a _N _b _c : Nat) (_e _f _g _h _k _s _u _v w _z : Int) (_y : Bool) (_D _D2 _D3 _X : List AC) (j : Nat → Value) : St := ⟨[], [(.code (atC [1, 1, 1, 0, 1, 0, 0] (bodyOf Tryz.f118))), (.inLoop (atC [1, 1, 1, 0, 1, 0, 0] (bodyOf Tryz.f118))), (.inBlock 0), (.code (atC [1, 1, 1, 1] (bodyOf Tryz.f118)))], mkT j [(0, (.e (.one (.dp (.s (C) (n) 1))))), (3, (iI (w))), (4, (iI (Int.ofNat (i + 1))))] 25 0⟩
theorem p118s (hE : EnvOk E) (C : List DT) (P : List DT) (n p i a N b c : Nat) (e f g h k s u v w z : Int) (y : Bool) (D D2 D3 X : List AC) (h0 : (decide (Int.ofNat i < (↑n : Int)) : Bool) = true) (h1 : (0 : Int) ≤ Int.ofNat i ∧ Int.ofNat i < (↑n : Int)) (h2 : ((Int.ofNat i).toNat * nat_lit 1 : Nat) = i) (h3 : (getL C i : Option DT) = (.some (.v (.int .i64 (v))))) (h4 : ((iI (if v > u then v else u)) : AV) = (iI (w))) (h5 : ((iI (wrapF IntKind.i64 (Int.ofNat i + (1 : Int)))) : AV) = (iI (Int.ofNat (i + 1)))) {Φ : Res → Prop} (ho : ∀ j, OutK E 0 0 (p118s_end C P n p i a N b c e f g h k s u v w z y D D2 D3 X j) Φ) (j : Nat → Value) : OutK E 0 0 (q118 C P n p i a N b c e f g h k s u v w z y D D2 D3 X j) Φ :=
  outK_seg hE (R0_ok hE) [.run 2, (.ops [(2, (.d .len))] []), (.cond true), .run 3, (.ops [(4, (.d (.ld (.v (.int .i64 (v)))))), (5, (.rn (iI (w)))), (3, (.d (.ix (i))))] []), .run 1, (.ops [(1, (.rn (iI (Int.ofNat (i + 1)))))] []), .run 1] [0, 3, 4] (fun j => by kernel_rfl) (aP h0 <| aP h1 <| aP h2 <| aP h3 <| aP h4 <| aP h5 <| aZ)
    ho
def p118x_end (_C : List DT) (_P : List DT) (_n _p _i _a _N _b _c : Nat) (_e _f _g _h _k _s u _v _w _z : Int) (_y : Bool) (_D _D2 _D3 _X : List AC) (j : Nat → Value) : St := ⟨[], [(.code .ret)], mkT j [(2, (iI (u)))] 25 0⟩
theorem p118x (hE : EnvOk E) (C : List DT) (P : List DT) (n p i a N b c : Nat) (e f g h k s u v w z : Int) (y : Bool) (D D2 D3 X : List AC) (h0 : (decide (Int.ofNat i < (↑n : Int)) : Bool) = false) {Φ : Res → Prop} (ho : ∀ j, OutK E 0 0 (p118x_end C P n p i a N b c e f g h k s u v w z y D D2 D3 X j) Φ) (j : Nat → Value) : OutK E 0 0 (q118 C P n p i a N b c e f g h k s u v w z y D D2 D3 X j) Φ :=
  outK_seg hE (R0_ok hE) [.run 2, (.ops [(2, (.d .len))] []), (.cond false), .run 3] [2] (fun j => by kernel_rfl) (aP h0 <| aZ)
    ho
def p119e_end (_C : List DT) (_P : List DT) (_n _p i _a _N _b _c : Nat) (_e _f _g _h _k _s _u _v _w _z : Int) (_y : Bool) (_D _D2 _D3 _X : List AC) (j : Nat → Value) : St := ⟨[], [(.code .ret), (.inBlock 1), (.code (atC [1, 0, 1, 0, 0, 1, 1, 1] (bodyOf Tryz.f119))), (.inLoop (atC [1, 0, 1, 0, 0] (bodyOf Tryz.f119))), (.inBlock 0), (.code (atC [1, 1] (bodyOf Tryz.f119)))], mkT j [(4, (iI (Int.ofNat i)))] 19 0⟩
theorem p119e (hE : EnvOk E) (C : List DT) (P : List DT) (n p i a N b c : Nat) (e f g h k s u v w z : Int) (y : Bool) (D D2 D3 X : List AC) (h0 : (decide (Int.ofNat i < Int.ofNat n) : Bool) = true) (h1 : (0 : Int) ≤ Int.ofNat i ∧ Int.ofNat i < (↑n : Int)) (h2 : ((Int.ofNat i).toNat * nat_lit 1 : Nat) = i) (h3 : (getL C i : Option DT) = (.some (.v (.int .i64 (u))))) (h4 : (v == u : Bool) = true) {Φ : Res → Prop} (ho : ∀ j, OutK E 0 0 (p119e_end C P n p i a N b c e f g h k s u v w z y D D2 D3 X j) Φ) (j : Nat → Value) : OutK E 0 0 (q119 C P n p i a N b c e f g h k s u v w z y D D2 D3 X j) Φ :=
  outK_seg hE (R0_ok hE) [.run 3, (.cond true), .run 6, (.ops [(4, (.d (.ld (.v (.int .i64 (u)))))), (3, (.d (.ix (i))))] []), (.cond true), .run 2] [4] (fun j => by kernel_rfl) (aP h0 <| aP h1 <| aP h2 <| aP h3 <| aP h4 <| aZ)
    ho
def p119s_end (C : List DT) (_P : List DT) (n _p i _a _N _b _c : Nat) (_e _f _g _h _k _s _u v _w _z : Int) (_y : Bool) (_D _D2 _D3 _X : List AC) (j : Nat → Value) : St := ⟨[], [(.code (atC [1, 0, 1, 0, 0] (bodyOf Tryz.f119))), (.inLoop (atC [1, 0, 1, 0, 0] (bodyOf Tryz.f119))), (.inBlock 0), (.code (atC [1, 1] (bodyOf Tryz.f119)))], mkT j [(0, (.e (.one (.dp (.s (C) (n) 1))))), (1, (iI (v))), (7, (iI (Int.ofNat n))), (8, (iI (Int.ofNat (i + 1))))] 19 0⟩
theorem p119s (hE : EnvOk E) (C : List DT) (P : List DT) (n p i a N b c : Nat) (e f g h k s u v w z : Int) (y : Bool) (D D2 D3 X : List AC) (h0 : (decide (Int.ofNat i < Int.ofNat n) : Bool) = true) (h1 : (0 : Int) ≤ Int.ofNat i ∧ Int.ofNat i < (↑n : Int)) (h2 : ((Int.ofNat i).toNat * nat_lit 1 : Nat) = i) (h3 : (getL C i : Option DT) = (.some (.v (.int .i64 (u))))) (h4 : (v == u : Bool) = false) (h5 : ((iI (wrapF IntKind.i64 (Int.ofNat i + (1 : Int)))) : AV) = (iI (Int.ofNat (i + 1)))) {Φ : Res → Prop} (ho : ∀ j, OutK E 0 0 (p119s_end C P n p i a N b c e f g h k s u v w z y D D2 D3 X j) Φ) (j : Nat → Value) : OutK E 0 0 (q119 C P n p i a N b c e f g h k s u v w z y D D2 D3 X j) Φ :=
  outK_seg hE (R0_ok hE) [.run 3, (.cond true), .run 6, (.ops [(4, (.d (.ld (.v (.int .i64 (u)))))), (3, (.d (.ix (i))))] []), (.cond false), .run 2, (.ops [(0, (.rn (iI (Int.ofNat (i + 1)))))] []), .run 1] [0, 1, 7, 8] (fun j => by kernel_rfl) (aP h0 <| aP h1 <| aP h2 <| aP h3 <| aP h4 <| aP h5 <| aZ)
    ho
def p117s_end (C : List DT) (P : List DT) (n p i _a _N _b _c : Nat) (_e _f _g h _k _s _u _v _w _z : Int) (_y : Bool) (_D _D2 _D3 _X : List AC) (j : Nat → Value) : St := ⟨[], [(.code (atC [1, 1, 0, 1, 0, 0] (bodyOf Tryz.f117))), (.inLoop (atC [1, 1, 0, 1, 0, 0] (bodyOf Tryz.f117))), (.inBlock 0), (.code (atC [1, 1, 1] (bodyOf Tryz.f117)))], mkT j [(0, (.e (.one (.dp (.s (C) (n) 1))))), (5, (iI (h))), (8, (.e (.one (.dp (.s (P) (p) 1))))), (9, (iI (Int.ofNat p))), (10, (iI (Int.ofNat (i + 1))))] 27 0⟩
theorem p117s (hE : EnvOk E) (C : List DT) (P : List DT) (n p i a N b c : Nat) (e f g h k s u v w z : Int) (y : Bool) (D D2 D3 X : List AC) (h0 : (decide (Int.ofNat i < Int.ofNat p) : Bool) = true) (h1 : (0 : Int) ≤ Int.ofNat i ∧ Int.ofNat i < (↑p : Int)) (h2 : ((Int.ofNat i).toNat * nat_lit 1 : Nat) = i) (h3 : (getL P i : Option DT) = (.some (.v (.float .f32 (b))))) (h4 : COut E 0 [] 106 [(.e (.one (.v (.float .f32 (b)))))] (iI (e)) []) (h6 : (0 : Int) ≤ Int.ofNat i ∧ Int.ofNat i < (↑n : Int)) (h7 : ((Int.ofNat i).toNat * nat_lit 1 : Nat) = i) (h8 : (getL C i : Option DT) = (.some (.v (.float .f32 (c))))) (h10 : COut E 0 [] 106 [(.e (.one (.v (.float .f32 (c)))))] (iI (f)) []) (h12 : ((iI (wrapF IntKind.i64 (e * f))) : AV) = (iI (g))) (h13 : ((iI (wrapF IntKind.i64 (s + g))) : AV) = (iI (h))) (h14 : ((iI (wrapF IntKind.i64 (Int.ofNat i + (1 : Int)))) : AV) = (iI (Int.ofNat (i + 1)))) {Φ : Res → Prop} (ho : ∀ j, OutK E 0 0 (p117s_end C P n p i a N b c e f g h k s u v w z y D D2 D3 X j) Φ) (j : Nat → Value) : OutK E 0 0 (q117 C P n p i a N b c e f g h k s u v w z y D D2 D3 X j) Φ :=
  outK_seg hE (R0_ok hE) [.run 3, (.cond true), .run 4, (.ops [(2, (.d (.ld (.v (.float .f32 (b)))))), (1, (.d (.ix (i))))] []), (.ops [(2, (.c0 (iI (e)))), (6, (.d (.ld (.v (.float .f32 (c)))))), (7, (.c0 (iI (f)))), (8, (.rn (iI (g)))), (9, (.rn (iI (h)))), (5, (.d (.ix (i))))] []), .run 1, (.ops [(0, (.rn (iI (Int.ofNat (i + 1)))))] []), .run 1] [0, 5, 8, 9, 10] (fun j => by kernel_rfl) (aP h0 <| aP h1 <| aP h2 <| aP h3 <| aP h4 <| aN <| aP h6 <| aP h7 <| aP h8 <| aP (rfl : (true : Bool) = true) <| aP h10 <| aN <| aP h12 <| aP h13 <| aP h14 <| aZ)
    ho
def p117x_end (_C : List DT) (_P : List DT) (_n _p _i _a _N _b _c : Nat) (_e _f _g _h _k s _u _v _w _z : Int) (_y : Bool) (_D _D2 _D3 _X : List AC) (j : Nat → Value) : St := ⟨[], [(.code .ret)], mkT j [(4, (iI (s)))] 27 0⟩
theorem p117x (hE : EnvOk E) (C : List DT) (P : List DT) (n p i a N b c : Nat) (e f g h k s u v w z : Int) (y : Bool) (D D2 D3 X : List AC) (h0 : (decide (Int.ofNat i < Int.ofNat p) : Bool) = false) {Φ : Res → Prop} (ho : ∀ j, OutK E 0 0 (p117x_end C P n p i a N b c e f g h k s u v w z y D D2 D3 X j) Φ) (j : Nat → Value) : OutK E 0 0 (q117 C P n p i a N b c e f g h k s u v w z y D D2 D3 X j) Φ :=
  outK_seg hE (R0_ok hE) [.run 3, (.cond false), .run 3] [4] (fun j => by kernel_rfl) (aP h0 <| aZ)
    ho
def p121s_end (C : List DT) (P : List DT) (n p i a _N _b _c : Nat) (_e _f _g h _k _s _u _v _w _z : Int) (_y : Bool) (_D _D2 _D3 _X : List AC) (j : Nat → Value) : St := ⟨[], [(.code (atC [1, 1, 0, 1, 0, 0] (bodyOf Tryz.f121))), (.inLoop (atC [1, 1, 0, 1, 0, 0] (bodyOf Tryz.f121))), (.inBlock 0), (.code (atC [1, 1, 1] (bodyOf Tryz.f121)))], mkT j [(0, (.e (.one (.dp (.s (C) (n) 1))))), (1, (.e (.one (.dp (.s (P) (p) 1))))), (2, (iI (Int.ofNat a))), (7, (iI (h))), (8, (iI (Int.ofNat (i + 1))))] 31 0⟩
theorem p121s (hE : EnvOk E) (C : List DT) (P : List DT) (n p i a N b c : Nat) (e f g h k s u v w z : Int) (y : Bool) (D D2 D3 X : List AC) (h0 : (decide (Int.ofNat i < (↑p : Int)) : Bool) = true) (h1 : ((iI (wrapF IntKind.i64 (Int.ofNat a + Int.ofNat i))) : AV) = (iI (Int.ofNat N))) (h2 : (0 : Int) ≤ Int.ofNat N ∧ Int.ofNat N < (↑n : Int)) (h3 : ((Int.ofNat N).toNat * nat_lit 1 : Nat) = N) (h4 : (getL C N : Option DT) = (.some (.v (.float .f32 (c))))) (h5 : COut E 0 [] 65 [(.e (.one (.v (.float .f32 (c)))))] (iI (f)) []) (h7 : (0 : Int) ≤ Int.ofNat i ∧ Int.ofNat i < (↑p : Int)) (h8 : ((Int.ofNat i).toNat * nat_lit 1 : Nat) = i) (h9 : (getL P i : Option DT) = (.some (.v (.float .f32 (b))))) (h11 : COut E 0 [] 65 [(.e (.one (.v (.float .f32 (b)))))] (iI (e)) []) (h13 : ((iI (wrapF IntKind.i64 (f * e))) : AV) = (iI (g))) (h14 : ((iI (wrapF IntKind.i64 (s + g))) : AV) = (iI (h))) (h15 : ((iI (wrapF IntKind.i64 (Int.ofNat i + (1 : Int)))) : AV) = (iI (Int.ofNat (i + 1)))) {Φ : Res → Prop} (ho : ∀ j, OutK E 0 0 (p121s_end C P n p i a N b c e f g h k s u v w z y D D2 D3 X j) Φ) (j : Nat → Value) : OutK E 0 0 (q121 C P n p i a N b c e f g h k s u v w z y D D2 D3 X j) Φ :=
  outK_seg hE (R0_ok hE) [.run 2, (.ops [(2, (.d .len))] []), (.cond true), .run 3, (.ops [(4, (.rn (iI (Int.ofNat N)))), (6, (.d (.ld (.v (.float .f32 (c)))))), (7, (.c0 (iI (f)))), (11, (.d (.ld (.v (.float .f32 (b)))))), (12, (.c0 (iI (e)))), (13, (.rn (iI (g)))), (14, (.rn (iI (h)))), (5, (.d (.ix (N)))), (10, (.d (.ix (i))))] []), .run 1, (.ops [(1, (.rn (iI (Int.ofNat (i + 1)))))] []), .run 1] [0, 1, 2, 7, 8] (fun j => by kernel_rfl) (aP h0 <| aP h1 <| aP h2 <| aP h3 <| aP h4 <| aP h5 <| aN <| aP h7 <| aP h8 <| aP h9 <| aP (rfl : (true : Bool) = true) <| aP h11 <| aN <| aP h13 <| aP h14 <| aP h15 <| aZ)
    ho
def p121x_end (_C : List DT) (_P : List DT) (_n _p _i _a _N _b _c : Nat) (_e _f _g _h _k s _u _v _w _z : Int) (_y : Bool) (_D _D2 _D3 _X : List AC) (j : Nat → Value) : St := ⟨[], [(.code .ret)], mkT j [(6, (iI (s)))] 31 0⟩
theorem p121x (hE : EnvOk E) (C : List DT) (P : List DT) (n p i a N b c : Nat) (e f g h k s u v w z : Int) (y : Bool) (D D2 D3 X : List AC) (h0 : (decide (Int.ofNat i < (↑p : Int)) : Bool) = false) {Φ : Res → Prop} (ho : ∀ j, OutK E 0 0 (p121x_end C P n p i a N b c e f g h k s u v w z y D D2 D3 X j) Φ) (j : Nat → Value) : OutK E 0 0 (q121 C P n p i a N b c e f g h k s u v w z y D D2 D3 X j) Φ :=
  outK_seg hE (R0_ok hE) [.run 2, (.ops [(2, (.d .len))] []), (.cond false), .run 3] [6] (fun j => by kernel_rfl) (aP h0 <| aZ)
    ho
def p120_end (_C : List DT) (_P : List DT) (n _p _i _a N _b _c : Nat) (_e _f _g _h _k _s _u _v _w _z : Int) (_y : Bool) (_D _D2 D3 _X : List AC) (j : Nat → Value) : St := ⟨[(.some ⟨[(.v (.int .i64 0)), (.v (.int .i64 0))], 2, 80, true, .cells⟩), (.some ⟨(D3), (n), 3, false, .cells⟩)], [(.code .ret)], mkT j [(6, (.e (.one (.slc 1 0 (N) 1 (n) false))))] 33 0⟩
theorem p120 (hE : EnvOk E) (C : List DT) (P : List DT) (n p i a N b c : Nat) (e f g h k s u v w z : Int) (y : Bool) (D D2 D3 X : List AC) (h3 : a ≤ a + 1 ∧ a + 1 ≤ n ∧ n ≤ n) (h4 : (a : Nat) = nat_lit 0 + a * nat_lit 1) (h5 : ((1 : Nat) : Nat) = a + 1 - a) (h7 : (Int.ofNat a == Int.ofNat (a + 1) : Bool) = false) (h10 : (0 : Nat) ≤ a ∧ a ≤ n) (h12 : (a : Nat) = a - (0 : Nat)) (h13 : (n : Nat) = n - (0 : Nat)) (h16 : a + 1 ≤ n ∧ n ≤ n) (h17 : (a + 1 : Nat) = nat_lit 0 + (a + 1) * nat_lit 1) (h18 : (i : Nat) = n - (a + 1)) (h21 : (0 : Nat) < i) (h22 : (a + i : Nat) = N) (h23 : a + i ≤ n) (h24 : (small (a + i) (1 : Nat) (8 : Nat) : Bool) = true) (h25 : (takeL (dropL D (a + 1)) (i * nat_lit 1) : Option (List AC)) = (.some (X))) (h26 : (X.all AC.isOne : Bool) = true) (h27 : (0 : Nat) + (a + i) * nat_lit 1 ≤ n) (h28 : (overL X D ((0 : Nat) + a * nat_lit 1) : List AC) = D2) (h31 : N ≤ n ∧ n ≤ n) (h32 : (N : Nat) = nat_lit 0 + N * nat_lit 1) (h33 : ((1 : Nat) : Nat) = n - N) (h34 : ((1 : Nat) : Nat) = n - N) (h35 : (0 : Nat) < (1 : Nat)) (h36 : (1 : Nat) ≤ (1 : Nat)) (h37 : N + 1 ≤ n) (h39 : (overL (repeatC ((fun z => List.map AC.v z.cells.toList) (Value.int IntKind.i64 (0 : Int))) (1 : Nat)) D2 N : List AC) = D3) {Φ : Res → Prop} (ho : ∀ j, OutK E 0 2 (p120_end C P n p i a N b c e f g h k s u v w z y D D2 D3 X j) Φ) (j : Nat → Value) : OutK E 0 2 (s120 C P n p i a N b c e f g h k s u v w z y D D2 D3 X j) Φ :=
  outK_seg hE (R0_ok hE) [.run 3, (.ops [(5, (.sl3 (a) (a + 1) (n) (a) 1 (n - a)))] []), .run 3, (.cond false), .run 4, (.ops [(2, (.slo 0 (a) 0 (a) (n))), (5, (.slo (a + 1) (n) (a + 1) (i) (n - (a + 1)))), (6, (.apo (N) (X) (D2)))] []), .run 1, (.ops [(4, (.slo (N) (n) (N) 1 1)), (5, (.clr (D3)))] []), .run 2] [6] (fun j => by kernel_rfl) (aP (rfl : (Int.ofNat a : Int) = Int.ofNat a) <| aP (rfl : (Int.ofNat (a + 1) : Int) = Int.ofNat (a + 1)) <| aP (rfl : ((↑n : Int) : Int) = Int.ofNat n) <| aP h3 <| aP h4 <| aP h5 <| aP (rfl : (n - a : Nat) = n - a) <| aP h7 <| aP (rfl : ((0 : Int) : Int) = Int.ofNat (0 : Nat)) <| aP (rfl : (Int.ofNat a : Int) = Int.ofNat a) <| aP h10 <| aP (rfl : ((0 : Nat) : Nat) = (0 : Nat)) <| aP h12 <| aP h13 <| aP (rfl : (Int.ofNat (a + 1) : Int) = Int.ofNat (a + 1)) <| aP (rfl : (Int.ofNat n : Int) = Int.ofNat n) <| aP h16 <| aP h17 <| aP h18 <| aP (rfl : (n - (a + 1) : Nat) = n - (a + 1)) <| aP (rfl : (true : Bool) = true) <| aP h21 <| aP h22 <| aP h23 <| aP h24 <| aP h25 <| aP h26 <| aP h27 <| aP h28 <| aP (rfl : ((↑N : Int) : Int) = Int.ofNat N) <| aP (rfl : (Int.ofNat n : Int) = Int.ofNat n) <| aP h31 <| aP h32 <| aP h33 <| aP h34 <| aP h35 <| aP h36 <| aP h37 <| aP (rfl : (true : Bool) = true) <| aP h39 <| aZ)
    ho
def p120z_end (_C : List DT) (_P : List DT) (n _p _i a _N _b _c : Nat) (_e _f _g _h _k _s _u _v _w _z : Int) (_y : Bool) (_D _D2 D3 _X : List AC) (j : Nat → Value) : St := ⟨[(.some ⟨[(.v (.int .i64 0)), (.v (.int .i64 0))], 2, 80, true, .cells⟩), (.some ⟨(D3), (n), 3, false, .cells⟩)], [(.code .ret)], mkT j [(6, (.e (.one (.slc 1 0 (a) 1 (n) false))))] 33 0⟩
theorem p120z (hE : EnvOk E) (C : List DT) (P : List DT) (n p i a N b c : Nat) (e f g h k s u v w z : Int) (y : Bool) (D D2 D3 X : List AC) (h3 : a ≤ a + 1 ∧ a + 1 ≤ n ∧ n ≤ n) (h4 : (a : Nat) = nat_lit 0 + a * nat_lit 1) (h5 : ((1 : Nat) : Nat) = a + 1 - a) (h7 : (Int.ofNat a == Int.ofNat (a + 1) : Bool) = false) (h10 : (0 : Nat) ≤ a ∧ a ≤ n) (h12 : (a : Nat) = a - (0 : Nat)) (h13 : (n : Nat) = n - (0 : Nat)) (h16 : a + 1 ≤ n ∧ n ≤ n) (h17 : (a + 1 : Nat) = nat_lit 0 + (a + 1) * nat_lit 1) (h18 : ((0 : Nat) : Nat) = n - (a + 1)) (h19 : ((0 : Nat) : Nat) = n - (a + 1)) (h23 : a ≤ n ∧ n ≤ n) (h24 : (a : Nat) = nat_lit 0 + a * nat_lit 1) (h25 : ((1 : Nat) : Nat) = n - a) (h26 : ((1 : Nat) : Nat) = n - a) (h27 : (0 : Nat) < (1 : Nat)) (h28 : (1 : Nat) ≤ (1 : Nat)) (h29 : a + 1 ≤ n) (h31 : (overL (repeatC ((fun z => List.map AC.v z.cells.toList) (Value.int IntKind.i64 (0 : Int))) (1 : Nat)) D a : List AC) = D3) {Φ : Res → Prop} (ho : ∀ j, OutK E 0 2 (p120z_end C P n p i a N b c e f g h k s u v w z y D D2 D3 X j) Φ) (j : Nat → Value) : OutK E 0 2 (s120 C P n p i a N b c e f g h k s u v w z y D D2 D3 X j) Φ :=
  outK_seg hE (R0_ok hE) [.run 3, (.ops [(5, (.sl3 (a) (a + 1) (n) (a) 1 (n - a)))] []), .run 3, (.cond false), .run 4, (.ops [(2, (.slo 0 (a) 0 (a) (n))), (5, (.slo (a + 1) (n) (a + 1) 0 0)), (6, .apz)] []), .run 1, (.ops [(4, (.slo (a) (n) (a) 1 1)), (5, (.clr (D3)))] []), .run 2] [6] (fun j => by kernel_rfl) (aP (rfl : (Int.ofNat a : Int) = Int.ofNat a) <| aP (rfl : (Int.ofNat (a + 1) : Int) = Int.ofNat (a + 1)) <| aP (rfl : ((↑n : Int) : Int) = Int.ofNat n) <| aP h3 <| aP h4 <| aP h5 <| aP (rfl : (n - a : Nat) = n - a) <| aP h7 <| aP (rfl : ((0 : Int) : Int) = Int.ofNat (0 : Nat)) <| aP (rfl : (Int.ofNat a : Int) = Int.ofNat a) <| aP h10 <| aP (rfl : ((0 : Nat) : Nat) = (0 : Nat)) <| aP h12 <| aP h13 <| aP (rfl : (Int.ofNat (a + 1) : Int) = Int.ofNat (a + 1)) <| aP (rfl : (Int.ofNat n : Int) = Int.ofNat n) <| aP h16 <| aP h17 <| aP h18 <| aP h19 <| aP (rfl : (true : Bool) = true) <| aP (rfl : ((↑a : Int) : Int) = Int.ofNat a) <| aP (rfl : (Int.ofNat n : Int) = Int.ofNat n) <| aP h23 <| aP h24 <| aP h25 <| aP h26 <| aP h27 <| aP h28 <| aP h29 <| aP (rfl : (true : Bool) = true) <| aP h31 <| aZ)
    ho
open Ieee
/-! What is found: the first greatest of N numbers, and the greatest of the others. -/
structure Fnd (C : Nat → Int) (N a : Nat) (M S : Int) : Prop where
  lt : a < N
  eq : C a = M
  le : ∀ j, j < N → C j ≤ M
  fst : ∀ j, j < a → C j < M
  ex : ∃ j, j < N ∧ j ≠ a ∧ C j = S
  le2 : ∀ j, j < N → j ≠ a → C j ≤ S
theorem Fnd.uniq {C : Nat → Int} {N a a' : Nat} {M M' S S' : Int} (h : Fnd C N a M S) (h' : Fnd C N a' M' S') : a = a' ∧ M = M' ∧ S = S' := by
  have hM : M = M' := by
    have h1 := h.le a' h'.lt; have h2 := h'.le a h.lt
    rw [h'.eq] at h1; rw [h.eq] at h2; omega
  subst hM
  have ha : a = a' := by
    rcases Nat.lt_trichotomy a a' with c | c | c
    · have := h'.fst a c; rw [h.eq] at this; omega
    · exact c
    · have := h.fst a' c; rw [h'.eq] at this; omega
  subst ha
  refine ⟨rfl, rfl, ?_⟩
  obtain ⟨j, h1, h2, h3⟩ := h.ex
  obtain ⟨j', h1', h2', h3'⟩ := h'.ex
  have e1 := h.le2 j' h1' h2'; have e2 := h'.le2 j h1 h2
  omega
def mxL : List Int → Int → Int
  | [], m => m
  | x :: r, m => mxL r (if m < x then x else m)
theorem mxL_spec : ∀ (l : List Int) (m : Int), m ≤ mxL l m ∧ (∀ x ∈ l, x ≤ mxL l m) ∧ (mxL l m = m ∨ mxL l m ∈ l)
  | [], m => ⟨Int.le_refl _, fun x h => (by cases h), .inl rfl⟩
  | y :: r, m => by
    by_cases c : m < y
    · have hu : mxL (y :: r) m = mxL r y := by show mxL r (if m < y then y else m) = _; rw [if_pos c]
      obtain ⟨h1, h2, h3⟩ := mxL_spec r y
      rw [hu]
      refine ⟨by omega, fun x hx => ?_, .inr ?_⟩
      · rcases List.mem_cons.1 hx with e | e
        · rw [e]; exact h1
        · exact h2 x e
      · rcases h3 with h3 | h3
        · rw [h3]; simp
        · simp [h3]
    · have hu : mxL (y :: r) m = mxL r m := by show mxL r (if m < y then y else m) = _; rw [if_neg c]
      obtain ⟨h1, h2, h3⟩ := mxL_spec r m
      rw [hu]
      refine ⟨h1, fun x hx => ?_, ?_⟩
      · rcases List.mem_cons.1 hx with e | e
        · rw [e]; omega
        · exact h2 x e
      · rcases h3 with h3 | h3
        · exact .inl h3
        · exact .inr (by simp [h3])
def mx : List Int → Int
  | [] => 0
  | x :: r => mxL r x
theorem mx_spec {l : List Int} (h : l ≠ []) : (∀ x ∈ l, x ≤ mx l) ∧ mx l ∈ l := by
  match l, h with
  | x :: r, _ =>
    obtain ⟨h1, h2, h3⟩ := mxL_spec r x
    refine ⟨fun y hy => ?_, ?_⟩
    · rcases List.mem_cons.1 hy with e | e
      · rw [e]; exact h1
      · exact h2 y e
    · rcases h3 with e | e
      · rw [show mx (x :: r) = mxL r x from rfl, e]; simp
      · rw [show mx (x :: r) = mxL r x from rfl]; simp [e]
/-- the list of the first N of them -/
def corL (C : Nat → Int) : Nat → List Int
  | 0 => []
  | n + 1 => corL C n ++ [C n]
theorem corL_len (C : Nat → Int) : ∀ n, (corL C n).length = n
  | 0 => rfl
  | n + 1 => by simp [corL, corL_len C n]
theorem corL_get (C : Nat → Int) : ∀ (n i : Nat), i < n → (corL C n)[i]? = some (C i)
  | n + 1, i, h => by
    by_cases c : i < n
    · simp only [corL]; rw [List.getElem?_append_left (by rw [corL_len]; exact c)]; exact corL_get C n i c
    · have : i = n := by omega
      subst this
      simp only [corL]; rw [List.getElem?_append_right (by rw [corL_len]; exact Nat.le_refl _), corL_len, Nat.sub_self]; rfl
theorem corL_mem (C : Nat → Int) (n : Nat) (x : Int) : x ∈ corL C n ↔ ∃ i, i < n ∧ C i = x := by
  constructor
  · intro h
    obtain ⟨i, hi⟩ := List.mem_iff_getElem?.1 h
    have hl : i < n := by
      have := (List.getElem?_eq_some_iff.1 hi).1
      rwa [corL_len] at this
    rw [corL_get C n i hl] at hi
    exact ⟨i, hl, by simpa using hi⟩
  · rintro ⟨i, hi, rfl⟩
    exact List.mem_of_getElem? (corL_get C n i hi)
/-- the others -/
def oth (l : List Int) (a : Nat) : List Int := l.take a ++ l.drop (a + 1)
theorem oth_len {l : List Int} {a : Nat} (h : a < l.length) : (oth l a).length = l.length - 1 := by
  unfold oth; simp; omega
theorem oth_mem (C : Nat → Int) {n a : Nat} (h : a < n) (x : Int) : x ∈ oth (corL C n) a ↔ ∃ i, i < n ∧ i ≠ a ∧ C i = x := by
  unfold oth
  rw [List.mem_append]
  constructor
  · rintro (hx | hx)
    · obtain ⟨i, hi⟩ := List.mem_iff_getElem?.1 hx
      rw [List.getElem?_take] at hi
      split at hi
      · rename_i c
        rw [corL_get C n i (by omega)] at hi
        exact ⟨i, by omega, by omega, by simpa using hi⟩
      · contradiction
    · obtain ⟨i, hi⟩ := List.mem_iff_getElem?.1 hx
      rw [List.getElem?_drop] at hi
      have hl : a + 1 + i < n := by
        have := (List.getElem?_eq_some_iff.1 hi).1
        rwa [corL_len] at this
      rw [corL_get C n _ hl] at hi
      exact ⟨a + 1 + i, hl, by omega, by simpa using hi⟩
  · rintro ⟨i, h1, h2, h3⟩
    by_cases c : i < a
    · refine .inl (List.mem_iff_getElem?.2 ⟨i, ?_⟩)
      rw [List.getElem?_take, if_pos c, corL_get C n i h1, h3]
    · refine .inr (List.mem_iff_getElem?.2 ⟨i - (a + 1), ?_⟩)
      rw [List.getElem?_drop, show a + 1 + (i - (a + 1)) = i by omega, corL_get C n i h1, h3]
/-- the first index of a number, from i on -/
def idx (C : Nat → Int) (v : Int) : Nat → Nat → Nat
  | 0, i => i
  | m + 1, i => if v = C i then i else idx C v m (i + 1)
theorem idx_spec (C : Nat → Int) (v : Int) : ∀ (m i : Nat), (∃ j, i ≤ j ∧ j < i + m ∧ C j = v) → i ≤ idx C v m i ∧ idx C v m i < i + m ∧ C (idx C v m i) = v ∧ ∀ j, i ≤ j → j < idx C v m i → C j ≠ v
  | 0, i, ⟨j, h1, h2, _⟩ => by omega
  | m + 1, i, ⟨j, h1, h2, h3⟩ => by
    have hu : idx C v (m + 1) i = if v = C i then i else idx C v m (i + 1) := rfl
    rw [hu]
    by_cases c : v = C i
    · rw [if_pos c]; exact ⟨Nat.le_refl _, by omega, c.symm, fun u h4 h5 => by omega⟩
    · rw [if_neg c]
      have hj : i ≠ j := fun e => c (by rw [e]; exact h3.symm)
      obtain ⟨k1, k2, k3, k4⟩ := idx_spec C v m (i + 1) ⟨j, by omega, by omega, h3⟩
      refine ⟨by omega, by omega, k3, fun u h4 h5 => ?_⟩
      by_cases e : u = i
      · rw [e]; exact fun h => c h.symm
      · exact k4 u (by omega) h5
theorem fnd_code (C : Nat → Int) {N : Nat} (hN : 2 ≤ N) : Fnd C N (idx C (mx (corL C N)) N 0) (mx (corL C N)) (mx (oth (corL C N) (idx C (mx (corL C N)) N 0))) := by
  have hne : corL C N ≠ [] := fun h => by have := corL_len C N; rw [h] at this; simp at this; omega
  obtain ⟨h1, h2⟩ := mx_spec hne
  obtain ⟨j, hj, hje⟩ := (corL_mem C N _).1 h2
  obtain ⟨k1, k2, k3, k4⟩ := idx_spec C (mx (corL C N)) N 0 ⟨j, by omega, by omega, hje⟩
  rw [Nat.zero_add] at k2
  generalize idx C (mx (corL C N)) N 0 = a at *
  have hle : ∀ j, j < N → C j ≤ mx (corL C N) := fun j hj => h1 _ ((corL_mem C N _).2 ⟨j, hj, rfl⟩)
  have hne2 : oth (corL C N) a ≠ [] := fun h => by
    have := oth_len (l := corL C N) (a := a) (by rw [corL_len]; exact k2)
    rw [h, corL_len] at this; simp at this; omega
  obtain ⟨g1, g2⟩ := mx_spec hne2
  exact ⟨k2, k3, hle, fun j hj => by
      have e1 := hle j (by omega); have e2 := k4 j (by omega) hj
      omega, (oth_mem C k2 _).1 g2, fun j hj hja => g1 _ ((oth_mem C k2 _).2 ⟨j, hj, hja, rfl⟩)⟩
/-- the reference: the best from i on -/
def bst (C : Nat → Int) : Nat → Nat → Nat → Int → Nat × Int
  | 0, _, b, m => (b, m)
  | p + 1, i, b, m => if C i > m then bst C p (i + 1) i (C i) else bst C p (i + 1) b m
theorem bst_spec (C : Nat → Int) : ∀ (p i b : Nat) (m : Int), b < i → C b = m → (∀ j, j < i → C j ≤ m) → (∀ j, j < b → C j < m) →
    (bst C p i b m).1 < i + p ∧ C (bst C p i b m).1 = (bst C p i b m).2 ∧ (∀ j, j < i + p → C j ≤ (bst C p i b m).2) ∧ ∀ j, j < (bst C p i b m).1 → C j < (bst C p i b m).2
  | 0, i, b, m, h1, h2, h3, h4 => ⟨h1, h2, h3, h4⟩
  | p + 1, i, b, m, h1, h2, h3, h4 => by
    have hu : bst C (p + 1) i b m = if C i > m then bst C p (i + 1) i (C i) else bst C p (i + 1) b m := rfl
    rw [hu, show i + (p + 1) = i + 1 + p by omega]
    by_cases c : C i > m
    · rw [if_pos c]
      exact bst_spec C p (i + 1) i (C i) (by omega) rfl (fun j hj => by
        by_cases e : j = i
        · rw [e]; omega
        · have := h3 j (by omega); omega) (fun j hj => by have := h3 j hj; omega)
    · rw [if_neg c]
      exact bst_spec C p (i + 1) b m (by omega) h2 (fun j hj => by
        by_cases e : j = i
        · rw [e]; omega
        · exact h3 j (by omega)) h4
/-- the reference: the second -/
def snd2 (C : Nat → Int) (b : Nat) : Nat → Nat → Int → Bool → Int × Bool
  | 0, _, s, y => (s, y)
  | p + 1, i, s, y => if i ≠ b ∧ (y = false ∨ C i > s) then snd2 C b p (i + 1) (C i) true else snd2 C b p (i + 1) s y
theorem snd2_spec (C : Nat → Int) (b : Nat) : ∀ (p i : Nat) (s : Int) (y : Bool), (y = true → (∃ j, j < i ∧ j ≠ b ∧ C j = s) ∧ ∀ j, j < i → j ≠ b → C j ≤ s) → (y = false → ∀ j, j < i → j = b) → (∃ j, j < i + p ∧ j ≠ b) →
    (∃ j, j < i + p ∧ j ≠ b ∧ C j = (snd2 C b p i s y).1) ∧ ∀ j, j < i + p → j ≠ b → C j ≤ (snd2 C b p i s y).1
  | 0, i, s, y, h1, h2, h3 => by
    cases y with
    | true => exact h1 rfl
    | false =>
      obtain ⟨j, hj, hb⟩ := h3
      exact absurd (h2 rfl j hj) hb
  | p + 1, i, s, y, h1, h2, h3 => by
    have hu : snd2 C b (p + 1) i s y = if i ≠ b ∧ (y = false ∨ C i > s) then snd2 C b p (i + 1) (C i) true else snd2 C b p (i + 1) s y := rfl
    rw [hu, show i + (p + 1) = i + 1 + p by omega]
    rw [show i + (p + 1) = i + 1 + p by omega] at h3
    by_cases c : i ≠ b ∧ (y = false ∨ C i > s)
    · rw [if_pos c]
      refine snd2_spec C b p (i + 1) (C i) true (fun _ => ⟨⟨i, by omega, c.1, rfl⟩, fun j hj hb => ?_⟩) (fun h => by cases h) h3
      by_cases e : j = i
      · rw [e]; exact Int.le_refl _
      · rcases c.2 with cy | cy
        · exact absurd (h2 cy j (by omega)) hb
        · cases y with
          | true => have := (h1 rfl).2 j (by omega) hb; omega
          | false => exact absurd (h2 rfl j (by omega)) hb
    · rw [if_neg c]
      refine snd2_spec C b p (i + 1) s y (fun hy => ?_) (fun hy j hj => ?_) h3
      · obtain ⟨⟨j, g1, g2, g3⟩, g4⟩ := h1 hy
        refine ⟨⟨j, by omega, g2, g3⟩, fun u hu hb => ?_⟩
        by_cases e : u = i
        · subst e
          by_cases d : C u > s
          · exact absurd ⟨hb, .inr d⟩ c
          · omega
        · exact g4 u (by omega) hb
      · by_cases e : j = i
        · subst e
          by_cases d : j = b
          · exact d
          · exact absurd ⟨d, .inl hy⟩ c
        · exact h2 hy j (by omega)
theorem fnd_ref (C : Nat → Int) {N : Nat} (hN : 2 ≤ N) : Fnd C N (bst C (N - 1) 1 0 (C 0)).1 (bst C (N - 1) 1 0 (C 0)).2 (snd2 C (bst C (N - 1) 1 0 (C 0)).1 N 0 0 false).1 := by
  obtain ⟨h1, h2, h3, h4⟩ := bst_spec C (N - 1) 1 0 (C 0) (by omega) rfl (fun j hj => by
    have : j = 0 := by omega
    rw [this]; exact Int.le_refl _) (fun j hj => by omega)
  rw [show 1 + (N - 1) = N by omega] at h1 h3
  generalize bst C (N - 1) 1 0 (C 0) = bm at *
  obtain ⟨k1, k2⟩ := snd2_spec C bm.1 N 0 0 false (fun h => by cases h) (fun _ j hj => by omega) (by
    by_cases e : bm.1 = 0
    · exact ⟨1, by omega, by omega⟩
    · exact ⟨0, by omega, by omega⟩)
  rw [Nat.zero_add] at k1 k2
  exact ⟨h1, h2, h3, h4, k1, k2⟩

theorem l118 (hE : EnvOk E) (xs : List Int) (n : Nat) (hn : xs.length = n) (hm : n ≤ 4000000) : ∀ m i u, m + i = n → ∀ j, OutK E 0 0 (q118 (iD xs) [] (n) 0 (i) 0 0 0 0 0 0 0 0 0 0 (u) 0 0 0 false [] [] [] [] j) (Go.Ev.Ends E Tryz.f118 (iI (mxL (xs.drop i) u)) [])
  | 0, i, u, hk, j => by
    have e1 : xs.drop i = [] := List.drop_eq_nil_of_le (by omega)
    rw [e1]
    exact p118x hE (iD xs) [] (n) 0 (i) 0 0 0 0 0 0 0 0 0 0 (u) 0 0 0 false [] [] [] [] (decide_eq_false (by simp only [Int.ofNat_eq_natCast]; omega)) (fun j => outK_ret (ends_ret (by kernel_rfl))) j
  | m + 1, i, u, hk, j => by
    have hlt : i < xs.length := by omega
    have hx : xs[i]? = some xs[i] := List.getElem?_eq_getElem hlt
    have e1 : xs.drop i = xs[i] :: xs.drop (i + 1) := List.drop_eq_getElem_cons hlt
    rw [e1]
    generalize xs[i] = x at hx e1
    exact p118s hE (iD xs) [] (n) 0 (i) 0 0 0 0 0 0 0 0 0 0 (u) (x) (if u < x then x else u) 0 false [] [] [] [] (decide_eq_true (by simp only [Int.ofNat_eq_natCast]; omega)) ⟨by simp only [Int.ofNat_eq_natCast]; omega, by simp only [Int.ofNat_eq_natCast]; omega⟩ (Nat.mul_one _) (getI hx) rfl (iIe (by simp only [Int.ofNat_eq_natCast]; rw [wrap_id (by omega) (by omega)]; try omega)) (l118 hE xs n hn hm m (i + 1) _ (by omega)) j
theorem K118 (hE : EnvOk E) (xs : List Int) (n : Nat) (hn : xs.length = n) (hm : n ≤ 4000000) (h0 : 0 < n) : COut E 0 [] 118 [.e (.one (.dp (.s (iD xs) n 1)))] (iI (mx xs)) [] := by
  obtain ⟨x, r, rfl⟩ : ∃ x r, xs = x :: r := by
    match xs, hn with
    | x :: r, _ => exact ⟨x, r, rfl⟩
    | [], h => exact absurd h (by simp; omega)
  exact cOut_start Tryz.func118 rfl (p118a hE (iD (x :: r)) [] (n) 0 0 0 0 0 0 0 0 0 0 0 0 (x) 0 0 0 false [] [] [] [] (decide_eq_false (by omega)) ⟨by omega, by omega⟩ rfl (l118 hE (x :: r) n hn hm (n - 1) 1 x (by omega)) fun _ => undef)
theorem l119 (hE : EnvOk E) (xs : List Int) (F : Nat → Int) (n : Nat) (hm : n ≤ 4000000) (hF : ∀ i, i < n → xs[i]? = some (F i)) (v : Int) : ∀ m i, m + i = n → (∃ k, i ≤ k ∧ k < n ∧ F k = v) → ∀ j, OutK E 0 0 (q119 (iD xs) [] (n) 0 (i) 0 0 0 0 0 0 0 0 0 0 0 (v) 0 0 false [] [] [] [] j) (Go.Ev.Ends E Tryz.f119 (iI (Int.ofNat (idx F v m i))) [])
  | 0, i, hk, hv, j => by
    obtain ⟨k, h1, h2, _⟩ := hv
    omega
  | m + 1, i, hk, hv, j => by
    have hx := hF i (by omega)
    by_cases h : v = F i
    · rw [show idx F v (m + 1) i = i from if_pos h]
      exact p119e hE (iD xs) [] (n) 0 (i) 0 0 0 0 0 0 0 0 0 0 (F i) (v) 0 0 false [] [] [] [] (decide_eq_true (by simp only [Int.ofNat_eq_natCast]; omega)) ⟨by simp only [Int.ofNat_eq_natCast]; omega, by simp only [Int.ofNat_eq_natCast]; omega⟩ (Nat.mul_one _) (getI hx) (beq_iff_eq.2 h) (fun j => outK_ret (ends_ret (by kernel_rfl))) j
    · rw [show idx F v (m + 1) i = idx F v m (i + 1) from if_neg h]
      refine p119s hE (iD xs) [] (n) 0 (i) 0 0 0 0 0 0 0 0 0 0 (F i) (v) 0 0 false [] [] [] [] (decide_eq_true (by simp only [Int.ofNat_eq_natCast]; omega)) ⟨by simp only [Int.ofNat_eq_natCast]; omega, by simp only [Int.ofNat_eq_natCast]; omega⟩ (Nat.mul_one _) (getI hx) (beq_eq_false_iff_ne.2 h) (iIe (by simp only [Int.ofNat_eq_natCast]; rw [wrap_id (by omega) (by omega)]; try omega)) (l119 hE xs F n hm hF v m (i + 1) (by omega) ?_) j
      obtain ⟨k, h1, h2, h3⟩ := hv
      exact ⟨k, by
        rcases Nat.eq_or_lt_of_le h1 with e | e
        · rw [e] at h; exact absurd h3.symm h
        · exact e, h2, h3⟩
theorem K119 (hE : EnvOk E) (xs : List Int) (F : Nat → Int) (n : Nat) (hm : n ≤ 4000000) (hF : ∀ i, i < n → xs[i]? = some (F i)) (v : Int) (hv : ∃ k, k < n ∧ F k = v) : COut E 0 [] 119 [.e (.one (.dp (.s (iD xs) n 1))), iI v] (iI (Int.ofNat (idx F v n 0))) [] := by
  obtain ⟨k, h1, h2⟩ := hv
  exact cOut_start Tryz.func119 rfl (p119a hE (iD xs) [] (n) 0 0 0 0 0 0 0 0 0 0 0 0 0 (v) 0 0 false [] [] [] [] (l119 hE xs F n hm hF v n 0 (by omega) ⟨k, by omega, h1, h2⟩) fun _ => undef)
/-! Correlations. -/
def nb (ws : List Nat) (i : Nat) : Nat := ws[i]?.getD 0
def cr (ws ps : List Nat) (a : Nat) : Nat → Nat → Int → Int
  | 0, _, s => s
  | m + 1, i, s => cr ws ps a m (i + 1) (wrapF .i64 (s + wrapF .i64 (intW (nb ps i) * intW (nb ws (a + i)))))
theorem nb_get {ws : List Nat} {i : Nat} (h : i < ws.length) : getL (fDT ws) i = some (.v (.float .f32 (nb ws i))) := by
  rw [getL_eq, List.getElem?_map, List.getElem?_eq_getElem h, nb, List.getElem?_eq_getElem h]; rfl
theorem nb_drop {ws : List Nat} {a i : Nat} (h : a + i < ws.length) : getL ((fDT ws).drop a) i = some (.v (.float .f32 (nb ws (a + i)))) := by
  have := nb_get (ws := ws) (i := a + i) h
  rw [getL_eq] at this ⊢
  rw [List.getElem?_drop]; exact this
theorem nb_chk {ws : List Nat} (hc : ∀ b ∈ ws, chkW 1024 b = 0) {i : Nat} (h : i < ws.length) : chkW 1024 (nb ws i) = 0 := by
  rw [nb, List.getElem?_eq_getElem h]
  exact hc _ (List.getElem_mem h)
theorem l117 (hE : EnvOk E) {ws ps : List Nat} (hc : ∀ b ∈ ws, chkW 1024 b = 0) (hd : ∀ b ∈ ps, chkW 1024 b = 0) (n p a : Nat) (hn : ws.length = n) (hp : ps.length = p) (hm : n ≤ 4000000) (ha : a + p ≤ n) : ∀ m i s, m + i = p → ∀ j, OutK E 0 0 (q117 ((fDT ws).drop a) (fDT ps) (n - a) (p) (i) 0 0 0 0 0 0 0 0 0 (s) 0 0 0 0 false [] [] [] [] j) (Go.Ev.Ends E Tryz.f117 (iI (cr ws ps a m i s)) [])
  | 0, i, s, hk, j => p117x hE ((fDT ws).drop a) (fDT ps) (n - a) (p) (i) 0 0 0 0 0 0 0 0 0 (s) 0 0 0 0 false [] [] [] [] (decide_eq_false (by simp only [Int.ofNat_eq_natCast]; omega)) (fun j => outK_ret (ends_ret (by kernel_rfl))) j
  | m + 1, i, s, hk, j => p117s hE ((fDT ws).drop a) (fDT ps) (n - a) (p) (i) 0 0 (nb ps i) (nb ws (a + i)) (intW (nb ps i)) (intW (nb ws (a + i))) (wrapF .i64 (intW (nb ps i) * intW (nb ws (a + i)))) (wrapF .i64 (s + wrapF .i64 (intW (nb ps i) * intW (nb ws (a + i))))) 0 (s) 0 0 0 0 false [] [] [] [] (decide_eq_true (by simp only [Int.ofNat_eq_natCast]; omega)) ⟨by simp only [Int.ofNat_eq_natCast]; omega, by simp only [Int.ofNat_eq_natCast]; omega⟩ (Nat.mul_one _) (nb_get (by omega)) (k106 hE (L := 1024) (by decide) (nb_chk hd (by omega))) ⟨by simp only [Int.ofNat_eq_natCast]; omega, by simp only [Int.ofNat_eq_natCast]; omega⟩ (Nat.mul_one _) (nb_drop (by omega)) (k106 hE (L := 1024) (by decide) (nb_chk hc (by omega))) rfl rfl (iIe (by simp only [Int.ofNat_eq_natCast]; rw [wrap_id (by omega) (by omega)]; try omega)) (l117 hE hc hd n p a hn hp hm ha m (i + 1) _ (by omega)) j
theorem K117 (hE : EnvOk E) {ws ps : List Nat} (hc : ∀ b ∈ ws, chkW 1024 b = 0) (hd : ∀ b ∈ ps, chkW 1024 b = 0) (n p a : Nat) (hn : ws.length = n) (hp : ps.length = p) (hm : n ≤ 4000000) (ha : a + p ≤ n) : COut E 0 [] 117 [.e (.one (.dp (.s ((fDT ws).drop a) (n - a) 1))), .e (.one (.dp (.s (fDT ps) p 1)))] (iI (cr ws ps a p 0 0)) [] :=
  cOut_start Tryz.func117 rfl (p117a hE ((fDT ws).drop a) (fDT ps) (n - a) (p) 0 0 0 0 0 0 0 0 0 0 0 0 0 0 0 false [] [] [] [] (l117 hE hc hd n p a hn hp hm ha p 0 0 rfl) fun _ => undef)
theorem l121 (hE : EnvOk E) {ws ps : List Nat} (hc : ∀ b ∈ ws, chkW 1024 b = 0) (hd : ∀ b ∈ ps, chkW 1024 b = 0) (n p a : Nat) (hn : ws.length = n) (hp : ps.length = p) (hm : n ≤ 4000000) (ha : a + p ≤ n) : ∀ m i s, m + i = p → ∀ j, OutK E 0 0 (q121 (fDT ws) (fDT ps) (n) (p) (i) (a) 0 0 0 0 0 0 0 0 (s) 0 0 0 0 false [] [] [] [] j) (Go.Ev.Ends E Tryz.f121 (iI (cr ws ps a m i s)) [])
  | 0, i, s, hk, j => p121x hE (fDT ws) (fDT ps) (n) (p) (i) (a) 0 0 0 0 0 0 0 0 (s) 0 0 0 0 false [] [] [] [] (decide_eq_false (by simp only [Int.ofNat_eq_natCast]; omega)) (fun j => outK_ret (ends_ret (by kernel_rfl))) j
  | m + 1, i, s, hk, j => p121s hE (fDT ws) (fDT ps) (n) (p) (i) (a) (a + i) (nb ps i) (nb ws (a + i)) (intW (nb ps i)) (intW (nb ws (a + i))) (wrapF .i64 (intW (nb ps i) * intW (nb ws (a + i)))) (wrapF .i64 (s + wrapF .i64 (intW (nb ps i) * intW (nb ws (a + i))))) 0 (s) 0 0 0 0 false [] [] [] [] (decide_eq_true (by simp only [Int.ofNat_eq_natCast]; omega)) (iIe (by simp only [Int.ofNat_eq_natCast]; rw [wrap_id (by omega) (by omega)]; try omega)) ⟨by simp only [Int.ofNat_eq_natCast]; omega, by simp only [Int.ofNat_eq_natCast]; omega⟩ (Nat.mul_one _) (nb_get (by omega)) (k65 hE (L := 1024) (by decide) (nb_chk hc (by omega))) ⟨by simp only [Int.ofNat_eq_natCast]; omega, by simp only [Int.ofNat_eq_natCast]; omega⟩ (Nat.mul_one _) (nb_get (by omega)) (k65 hE (L := 1024) (by decide) (nb_chk hd (by omega))) (iIe (by rw [Int.mul_comm])) rfl (iIe (by simp only [Int.ofNat_eq_natCast]; rw [wrap_id (by omega) (by omega)]; try omega)) (l121 hE hc hd n p a hn hp hm ha m (i + 1) _ (by omega)) j
theorem K121 (hE : EnvOk E) {ws ps : List Nat} (hc : ∀ b ∈ ws, chkW 1024 b = 0) (hd : ∀ b ∈ ps, chkW 1024 b = 0) (n p a : Nat) (hn : ws.length = n) (hp : ps.length = p) (hm : n ≤ 4000000) (ha : a + p ≤ n) : COut E 0 [] 121 [.e (.one (.dp (.s (fDT ws) n 1))), .e (.one (.dp (.s (fDT ps) p 1))), iI (Int.ofNat a)] (iI (cr ws ps a p 0 0)) [] :=
  cOut_start Tryz.func121 rfl (p121a hE (fDT ws) (fDT ps) (n) (p) 0 (a) 0 0 0 0 0 0 0 0 0 0 0 0 0 false [] [] [] [] (l121 hE hc hd n p a hn hp hm ha p 0 0 rfl) fun _ => undef)
/-! Checks of a pilot. -/
def chkPi (ps : List Nat) : Int := firstI [if ps.length = 0 then 12 else 0, if 64 < ps.length then 5 else chkL ps]
theorem K97p (hE : EnvOk E) (ws : List Nat) (hm : ws.length ≤ 4000000) : COut E 0 [] 97 [.e (.one (dF ws).ac), iI 64, .e (.one (.v (.func (.func 24) #[] #[])))] (iI (if 64 < ws.length then 5 else chkL ws)) [] := by
  by_cases h : 64 < ws.length
  · rw [if_pos h]
    exact cOut_start Tryz.func97 rfl (p97a hE _ _ 64 0 (decide_eq_true (by omega)) (fun j => outK_ret (ends_ret (by kernel_rfl))) fun _ => undef)
  · rw [if_neg h]
    exact cOut_start Tryz.func97 rfl (p97b hE _ _ 64 _ (decide_eq_false (by omega)) (K98 hE ws hm) (fun j => outK_ret (ends_ret (by kernel_rfl))) fun _ => undef)
theorem get3 {f g h : Int} : ∀ (k : Nat) (x : Int), [f, g, h][k]? = some x → getL [AC.v (.int .i64 f), AC.v (.int .i64 g), AC.v (.int .i64 h)] (0 + k) = some (.v (.int .i64 x)) := by
  intro k x hk
  match k, hk with
  | 0, hk => simp at hk; subst hk; rfl
  | 1, hk => simp at hk; subst hk; rfl
  | 2, hk => simp at hk; subst hk; rfl
  | k + 3, hk => simp at hk
theorem len0 (n : Nat) (c d : Int) : (if ((n : Int) == 0) = true then c else d) = if n = 0 then c else d := by
  by_cases h : n = 0
  · simp [h]
  · rw [if_neg h, if_neg (by simpa using h)]
theorem K116 (hE : EnvOk E) (ps : List Nat) (p : Nat) (hp : ps.length = p) (hm : p ≤ 4000000) : COut E 0 [] 116 [.e (.one (.dp (.s (fDT ps) p 1)))] (iI (chkPi ps)) [] := by
  subst hp
  have h1 := k107 hE ((ps.length : Int) == 0) 12
  rw [len0] at h1
  exact cOut_clear (cOut_start Tryz.func116 rfl (p116 hE [] (fDT ps) 0 (ps.length) 0 0 0 0 0 (if ps.length = 0 then 12 else 0) (if 64 < ps.length then 5 else chkL ps) (chkPi ps) 0 0 0 0 0 0 0 false [] [] [] [] h1 (K97p hE ps hm) (k102 hE [if ps.length = 0 then 12 else 0, if 64 < ps.length then 5 else chkL ps] rfl (by decide) get2) (fun j => outK_ret (ends_ret (by kernel_rfl))) fun _ => undef)) rfl
theorem K50 (hE : EnvOk E) (ps : List Nat) (p : Nat) (hp : ps.length = p) (hm : p ≤ 4000000) : COut E 0 [] 50 [.e (.one (.dp (.s (fDT ps) p 1)))] (iI (chkPi ps)) [] := by
  subst hp
  have h1 := k60 hE ((ps.length : Int) == 0) 12
  rw [len0] at h1
  have h2 := k60 hE (decide ((ps.length : Int) > 64)) 5
  have e : chkPi ps = firstI [if ps.length = 0 then 12 else 0, if decide ((ps.length : Int) > 64) = true then 5 else 0, chkL ps] := by
    unfold chkPi
    by_cases h : 64 < ps.length
    · rw [if_pos h, decide_eq_true (show (ps.length : Int) > 64 by omega)]
      by_cases h0 : ps.length = 0
      · omega
      · rw [if_neg h0]; rfl
    · rw [if_neg h, decide_eq_false (show ¬ (ps.length : Int) > 64 by omega)]
      by_cases h0 : ps.length = 0
      · rw [if_pos h0]; rfl
      · rw [if_neg h0]; simp [firstI]
  rw [e]
  exact cOut_clear (cOut_start Tryz.func50 rfl (p50 hE [] (fDT ps) 0 (ps.length) 0 0 0 0 0 (if ps.length = 0 then 12 else 0) (if decide ((ps.length : Int) > 64) = true then 5 else 0) (chkL ps) (_) 0 0 0 0 0 0 false [] [] [] [] h1 h2 (K38 hE ps hm) (k104 hE [_, _, _] rfl (by decide) get3) (fun j => outK_ret (ends_ret (by kernel_rfl))) fun _ => undef)) rfl
/-! Deleting one. -/
def hp2 : Option AB := some ⟨[.v (.int .i64 0), .v (.int .i64 0)], 2, 80, true, .cells⟩
abbrev iCC (l : List Int) : List AC := (iD l).map DT.ac
theorem flat_iCC (l : List Int) : FlatC (iCC l) := by
  intro x hx
  simp only [iCC, iD, List.mem_map] at hx
  obtain ⟨_, ⟨z, _, rfl⟩, rfl⟩ := hx
  exact ⟨_, rfl⟩
theorem oneCC (l : List Int) : (iCC l).all AC.isOne = true := by
  rw [List.all_eq_true]
  intro x hx
  simp only [iCC, iD, List.mem_map] at hx
  obtain ⟨_, ⟨z, _, rfl⟩, rfl⟩ := hx
  rfl
theorem K120 (hE : EnvOk E) (xs : List Int) (n a : Nat) (hn : xs.length = n) (hm : n ≤ 100000) (ha : a < n) : COut E 0 [hp2, some ⟨iCC xs, n, 3, false, .cells⟩] 120 [.e (.one (.slc 1 0 n 1 n false)), iI (Int.ofNat a), iI (Int.ofNat (a + 1))] (.e (.one (.slc 1 0 (n - 1) 1 n false))) [hp2, some ⟨iCC (oth xs a ++ [0]), n, 3, false, .cells⟩] := by
  by_cases h : a + 1 < n
  · have e1 : takeL (dropL (iCC xs) (a + 1)) ((n - (a + 1)) * 1) = some (iCC (xs.drop (a + 1))) := by
      rw [Nat.mul_one, takeL_eq, dropL_eq, if_pos (by simp; omega), ← List.map_drop, ← List.map_drop, List.take_of_length_le (by simp; omega)]
    have e2 : overL (iCC (xs.drop (a + 1))) (iCC xs) (0 + a * 1) = iCC (oth xs a ++ xs.drop (n - 1)) := by
      rw [Nat.mul_one, Nat.zero_add, overL_eq _ _ _ (by simp; omega)]
      simp only [iCC, iD, List.map_append, List.map_take, List.map_drop, oth, List.length_map, List.length_drop]
      rw [show a + (xs.length - (a + 1)) = n - 1 by omega]
    have e3 : overL (repeatC [AC.v (.int .i64 0)] 1) (iCC (oth xs a ++ xs.drop (n - 1))) (n - 1) = iCC (oth xs a ++ [0]) := by
      have hl : (oth xs a).length = n - 1 := by rw [oth_len (by omega)]; omega
      rw [show repeatC [AC.v (.int .i64 0)] 1 = [AC.v (.int .i64 0)] from rfl, overL_eq _ _ _ (by simp [hl]; omega)]
      simp only [iCC, iD, List.map_append]
      rw [List.take_append_of_le_length (by simp [hl]), List.take_of_length_le (by simp [hl]), List.drop_of_length_le (by simp [hl]; omega)]
      simp
      rfl
    exact cOut_start Tryz.func120 rfl (p120 hE [] [] (n) 0 (n - (a + 1)) (a) (n - 1) 0 0 0 0 0 0 0 0 0 0 0 0 false (iCC xs) (iCC (oth xs a ++ xs.drop (n - 1))) (iCC (oth xs a ++ [0])) (iCC (xs.drop (a + 1))) ⟨by omega, by omega, by omega⟩ (by first | rfl | (show _ = 0 + _ * 1; omega)) (by omega) (beq_eq_false_iff_ne.2 (by simp only [Int.ofNat_eq_natCast]; omega)) ⟨by omega, by omega⟩ (by omega) (by omega) ⟨by omega, by omega⟩ (by first | rfl | (show _ = 0 + _ * 1; omega)) (by omega) (by omega) (by omega) (by omega) (by simp [small]; omega) e1 (oneCC _) (show 0 + _ * 1 ≤ _ by omega) e2 ⟨by omega, by omega⟩ (by first | rfl | (show _ = 0 + _ * 1; omega)) (by omega) (by omega) (by omega) (by omega) (by omega) e3 (fun j => outK_ret (ends_ret (by kernel_rfl))) fun _ => undef)
  · have ea : a = n - 1 := by omega
    have e3 : overL (repeatC [AC.v (.int .i64 0)] 1) (iCC xs) a = iCC (oth xs a ++ [0]) := by
      rw [show repeatC [AC.v (.int .i64 0)] 1 = [AC.v (.int .i64 0)] from rfl, overL_eq _ _ _ (by simp; omega)]
      simp only [iCC, iD, List.map_append, oth, List.map_take, List.map_drop]
      rw [List.drop_of_length_le (by simp; omega)]
      rw [List.drop_of_length_le (by simp; omega)]
      simp
      rfl
    rw [← ea]
    exact cOut_start Tryz.func120 rfl (p120z hE [] [] (n) 0 0 (a) 0 0 0 0 0 0 0 0 0 0 0 0 0 false (iCC xs) [] (iCC (oth xs a ++ [0])) [] ⟨by omega, by omega, by omega⟩ (by first | rfl | (show _ = 0 + _ * 1; omega)) (by omega) (beq_eq_false_iff_ne.2 (by simp only [Int.ofNat_eq_natCast]; omega)) ⟨by omega, by omega⟩ (by omega) (by omega) ⟨by omega, by omega⟩ (by first | rfl | (show _ = 0 + _ * 1; omega)) (by omega) (by omega) ⟨by omega, by omega⟩ (by first | rfl | (show _ = 0 + _ * 1; omega)) (by omega) (by omega) (by omega) (by omega) (by omega) e3 (fun j => outK_ret (ends_ret (by kernel_rfl))) fun _ => undef)
end
end Go.Proofs.YtlahjbbchbbadaaGreatDoor

end

/-! SePe -/
section
open Go Go.Ev
namespace Go.Proofs.YtlahjbbchbbadaaGreatDoor
noncomputable section
set_option maxRecDepth 100000
set_option maxHeartbeats 20000000


open Ieee
theorem lend2 (lv : Nat) (_hE : EnvOk E) (f : FuncId) (xs : List Int) (r : Int) (ty : Nat) (fl : Bool) (hc : COut E 0 [] f [dI xs] (iI r) []) (h : Heap) (i : Nat) (hh : getL h i = some (some ⟨(iD xs).map DT.ac, xs.length, ty, fl, .cells⟩)) : COut E lv h f [.e (.one (.slc i 0 xs.length 1 xs.length true))] (iI r) h :=
  cOut_lend h hc ⟨.inr ⟨i, 0, xs.length, 1, xs.length, true, iD xs, iD xs, xs.length, ty, fl, rfl, rfl, hh, by rw [takeL_eq, dropL_eq, List.drop_zero, if_pos (by simp), List.take_of_length_le (by simp)]⟩, trivial⟩ rfl rfl
end
end Go.Proofs.YtlahjbbchbbadaaGreatDoor

end

/-! SeEqF -/
section
open Go Go.Ev Go.RowKit
namespace Go.Proofs.YtlahjbbchbbadaaGreatDoor
noncomputable section
section
variable {P : Program} (w : World)
theorem run_equalIn_cells (d : Nat) (t e : TypeId) (n : Nat) {u : TypeDesc} (hag : isAggD u = false) (ht : P.underlying t = some (.array n e)) (he : P.underlying e = some u) (hsz : ∀ w, (sizeOf e).run P w = .ok 1 w)
    (xs ys : List Value) (hx : xs.length = n) (hy : ys.length = n) (q : Nat → Bool) (hq : ∀ i x y, xs[i]? = some x → ys[i]? = some y → (Op.equalIn (d + 1) e x y).run P w = .ok (q i) w) :
    (Op.equalIn (d + 2) t (.agg xs.toArray) (.agg ys.toArray)).run P w = .ok ((List.range n).all q) w := by
  rw [List.range_eq_range', Op.equalIn]
  simp only [Sem.run_bind, run_underlying ht, Result.andThen_ok, hsz, Std.Legacy.Range.forIn_eq_forIn_range', Std.Legacy.Range.size, Nat.sub_zero, Nat.add_sub_cancel, Nat.div_one]
  have hl : ∀ i ∈ List.range' 0 n 1, i < n := fun i hi => by simpa using (List.mem_range'_1.1 hi).2
  generalize List.range' 0 n 1 = l at hl ⊢
  induction l with
  | nil => simp
  | cons i l ih =>
    have hi : i < n := hl i (by simp)
    have gx : xs[i]? = some xs[i] := List.getElem?_eq_getElem (show i < xs.length by omega)
    have gy : ys[i]? = some ys[i] := List.getElem?_eq_getElem (show i < ys.length by omega)
    have part_one : ∀ (zs : List Value) (z : Value), zs[i]? = some z → (part e zs.toArray (i * 1)).run P w = .ok z w := by
      intro zs z hz
      have : (isAgg e).run P w = .ok false w := by
        simp only [isAgg, Sem.run_bind, run_underlying he, Result.andThen_ok]
        cases u <;> simp_all [isAggD]
      simp [part, this, hz]
    simp only [List.forIn_cons, Sem.run_bind, part_one xs _ gx, part_one ys _ gy, hq i _ _ gx gy, Result.andThen_ok, List.all_cons]
    cases hb : q i
    · simp
    · simp only [Bool.not_true, Bool.false_eq_true, if_false, Sem.run_pure, Result.andThen_ok, Bool.true_and]
      exact ih fun j hj => hl j (by simp [hj])
end
theorem cells_of {m : M} : ∀ {l : List Value} {cs : List Value}, All2 (CR m) (l.map AC.v) cs → cs = l
  | [], [], _ => rfl
  | [], _ :: _, h => h.elim
  | _ :: _, [], h => h.elim
  | x :: l, c :: cs, h => by
    obtain ⟨h1, h2⟩ := h
    rw [cells_of h2, show c = x from h1]
theorem some_of {α β : Type} {o : Option α} {f : α → β} {b : β} (h : o.map f = some b) : ∃ a, o = some a ∧ f a = b := by
  cases o with
  | none => simp at h
  | some a => exact ⟨a, rfl, by simpa using h⟩
theorem size1 {e : TypeId} (h : (Tryz.prog.info? e).map (·.size) = some 1) (w : World) : (sizeOf e).run Tryz.prog w = .ok 1 w := by
  obtain ⟨i, hi, hz⟩ := some_of h
  rw [Go.Ev.run_sizeOf hi w, hz]
theorem eqArr {t e n : Nat} {u : TypeDesc} (hag : isAggD u = false) (ht : Tryz.prog.underlying t = some (.array n e)) (he : Tryz.prog.underlying e = some u) (hsz : (Tryz.prog.info? e).map (·.size) = some 1)
    {xs ys : List Value} (hx : xs.length = n) (hy : ys.length = n) (q : Nat → Bool) (hq : ∀ (w : World) i x y, xs[i]? = some x → ys[i]? = some y → (Op.equalIn 9999 e x y).run Tryz.prog w = .ok (q i) w) : EqOk E t (xs.map AC.v) (ys.map AC.v) ((List.range n).all q) := by
  intro m c1 c2 w h1 h2
  have e1 : c1 = xs.toArray := by rw [← Array.toList_inj]; exact cells_of h1
  have e2 : c2 = ys.toArray := by rw [← Array.toList_inj]; exact cells_of h2
  subst e1 e2
  show (Op.equalIn 10000 t _ _).run Tryz.prog w = _
  exact run_equalIn_cells w 9998 t e n hag ht he (size1 hsz) xs ys hx hy q (hq w)
end
end Go.Proofs.YtlahjbbchbbadaaGreatDoor

end

/-! SePf -/
section
open Go Go.Ev
namespace Go.Proofs.YtlahjbbchbbadaaGreatDoor
noncomputable section
set_option maxRecDepth 100000
set_option maxHeartbeats 20000000
open Ieee
theorem run_equalIn_int {P : Program} (w : World) (d : Nat) {e : TypeId} {k : IntKind} (he : P.underlying e = some (.int k)) (a : Int) : (Op.equalIn (d + 1) e (.int k a) (.int k a)).run P w = .ok true w := by
  simp [Op.equalIn, run_underlying he]
theorem K26 (hE : EnvOk E) (C : List DT) (n : Nat) : COut E 0 [] 26 [.e (.one (.dp (.s C n 1)))] (iB (decide (n ≤ 160) || decide (n = 4097))) [] := by
  by_cases h : n ≤ 160
  · have h1 : decide ((n : Int) ≤ 160) = true := decide_eq_true (by omega)
    rw [decide_eq_true h, Bool.true_or]
    exact cOut_start Tryz.func26 rfl (p26a hE C n (by rw [h1]; rfl) (by rw [h1]; rfl) (by rw [h1]; rfl) h1 (fun j => outK_ret (ends_ret (by kernel_rfl))) fun _ => undef)
  · have h1 : decide ((n : Int) ≤ 160) = false := decide_eq_false (by omega)
    have e : ((n : Int) == 4097) = (decide (n ≤ 160) || decide (n = 4097)) := by
      rw [decide_eq_false h, Bool.false_or]
      by_cases h2 : n = 4097
      · subst h2; rfl
      · rw [decide_eq_false h2]; simp; omega
    rw [← e]
    exact cOut_start Tryz.func26 rfl (p26b hE C n (by rw [h1]; rfl) (by rw [h1]; rfl) (by rw [h1]; rfl) h1 (fun j => outK_ret (ends_ret (by kernel_rfl))) fun _ => undef)
/-- floats: a copy of a list -/
theorem K28 (hE : EnvOk E) (ws : List Nat) (hm : ws.length ≤ 1000000) : COut E 0 [] 28 [.e (.one (dF ws).ac)] (.e (.one (dF ws).ac)) [] := by
  have hfl : FlatC ((fDT ws).map DT.ac) := by
    intro c hc
    simp only [List.map_map, List.mem_map] at hc
    obtain ⟨x, _, rfl⟩ := hc
    exact ⟨_, rfl⟩
  have h1 : ((fDT ws).map DT.ac).all AC.isOne = true := by simp [List.all_map, DT.ac, AC.isOne]
  have hc1 : COut E 0 [] 28 [.e (.one (dF ws).ac)] (.e (.one (.slc 0 0 ws.length 1 ws.length (decide (ws.length = 0))))) [some ⟨(fDT ws).map DT.ac, ws.length, 23, decide (ws.length = 0), .cells⟩] := by
    refine cOut_start Tryz.func28 rfl (p28 hE (fDT ws) ws.length ((fDT ws).map DT.ac) (decide (ws.length = 0)) ?_ (Nat.mul_one _) hfl (fun j => outK_ret (ends_ret (by kernel_rfl))) fun _ => undef)
    by_cases h0 : ws.length = 0
    · exact .inl ⟨decide_eq_true h0, h0, by simp [List.eq_nil_of_length_eq_zero h0], _, _, by rw [h0]⟩
    · exact .inr (.inl ⟨decide_eq_false h0, by omega, by simp [small]; omega, h1, _, rfl, rfl, by simp⟩)
  exact cOut_clear (cOut_freeze 0 hc1 rfl (Nat.zero_le _) (ds := fDT ws) (.inr ⟨0, ws.length, 1, ws.length, _, fDT ws, rfl, rfl, by rw [takeL_eq, dropL_eq, List.drop_zero, if_pos (by simp), List.take_of_length_le (by simp)]⟩)) rfl
end
end Go.Proofs.YtlahjbbchbbadaaGreatDoor

end
