/-
  Part of the proof: SeBa, SeEqB, SeCl, SeBb.
-/
import Derived.Test.YtmefachijohnhaaGreatDoorSeZH
import Derived.Ground.SlgnProg
import Derived.Shelf.SlicesG.Clone
import Derived.Stop.BytesEq

/-! SeBa -/
section
open Go Go.Ev
namespace Go.Proofs.YtmefachijohnhaaGreatDoor.Bk
noncomputable section
set_option maxRecDepth 100000
set_option maxHeartbeats 20000000
abbrev ztBa1 : List Item := [(.code (atC [1, 0, 1, 0, 0] (bodyOf Tryz.f137))), (.inLoop (atC [1, 0, 1, 0, 0] (bodyOf Tryz.f137))), (.inBlock 0), (.code (atC [1, 1] (bodyOf Tryz.f137)))]
abbrev ztBa2 : List Item := [(.code (atC [1, 0, 1, 0, 0] (bodyOf Tryz.f76))), (.inLoop (atC [1, 0, 1, 0, 0] (bodyOf Tryz.f76))), (.inBlock 0), (.code (atC [1, 1] (bodyOf Tryz.f76)))]
abbrev ztBa3 : List Item := [(.code (atC [1, 0, 1, 0, 0] (bodyOf Tryz.f82))), (.inLoop (atC [1, 0, 1, 0, 0] (bodyOf Tryz.f82))), (.inBlock 0), (.code (atC [1, 1] (bodyOf Tryz.f82)))]
def s78 (_V : AccP) (_U _C _C2 : List DT) (_un _n _p _i : Nat) (_x _b _lo _hi e _f _g _z _w : Int) (c _ac : Bool) (_D : List AC) (_j : Nat → Value) : St := startK Tryz.f78 [] [iB c, iI e]
def s83 (_V : AccP) (_U _C _C2 : List DT) (_un _n _p _i : Nat) (_x _b _lo _hi e _f _g _z _w : Int) (c _ac : Bool) (_D : List AC) (_j : Nat → Value) : St := startK Tryz.f83 [] [iB c, iI e]
def s77 (_V : AccP) (_U _C _C2 : List DT) (_un _n _p _i : Nat) (x _b lo hi _e _f _g _z _w : Int) (_c _ac : Bool) (_D : List AC) (_j : Nat → Value) : St := startK Tryz.f77 [] [iI x, iI lo, iI hi]
def s17 (_V : AccP) (_U _C _C2 : List DT) (_un _n _p _i : Nat) (x _b lo hi _e _f _g _z _w : Int) (_c _ac : Bool) (_D : List AC) (_j : Nat → Value) : St := startK Tryz.f17 [] [iI x, iI lo, iI hi]
def s88 (_V : AccP) (_U _C _C2 : List DT) (_un _n _p _i : Nat) (x _b _lo _hi _e _f _g _z _w : Int) (_c _ac : Bool) (_D : List AC) (_j : Nat → Value) : St := startK Tryz.f88 [] [iI x]
def s84 (_V : AccP) (_U _C _C2 : List DT) (_un _n _p _i : Nat) (x _b _lo _hi _e _f _g _z _w : Int) (_c _ac : Bool) (_D : List AC) (_j : Nat → Value) : St := startK Tryz.f84 [] [iI x]
def s76 (_V : AccP) (_U C _C2 : List DT) (_un n _p _i : Nat) (_x _b _lo _hi _e _f _g _z _w : Int) (_c _ac : Bool) (_D : List AC) (_j : Nat → Value) : St := startK Tryz.f76 [] [(.e (.one (.dp (.s C n 1))))]
def s82 (_V : AccP) (_U C _C2 : List DT) (_un n _p _i : Nat) (_x _b _lo _hi _e _f _g _z _w : Int) (_c _ac : Bool) (_D : List AC) (_j : Nat → Value) : St := startK Tryz.f82 [] [(.e (.one (.dp (.s C n 1))))]
def s16 (_V : AccP) (_U C _C2 : List DT) (_un n _p _i : Nat) (_x _b _lo _hi _e _f _g _z _w : Int) (_c _ac : Bool) (_D : List AC) (_j : Nat → Value) : St := startK Tryz.f16 [] [(.e (.one (.dp (.s C n 1))))]
def s22 (_V : AccP) (_U _C _C2 : List DT) (_un _n _p _i : Nat) (x _b _lo _hi e f _g z _w : Int) (_c _ac : Bool) (_D : List AC) (_j : Nat → Value) : St := startK Tryz.f22 [] [iI x, iI e, iI f, iI z]
def s136 (V : AccP) (U _C _C2 : List DT) (un _n _p _i : Nat) (x b _lo _hi _e _f _g _z _w : Int) (_c ac : Bool) (_D : List AC) (_j : Nat → Value) : St := startK Tryz.f136 [bK (zAc V ac U un) 22 29, bK [.v (.int .i64 b)] 1 3, bK [.clo 136 [] [.one (.ptr 1 0)]] 1 142] [iI x, (.e (.one (.ptr 1 0)))]
def s87 (V : AccP) (U _C _C2 : List DT) (un _n _p _i : Nat) (x b _lo _hi _e _f _g _z _w : Int) (_c ac : Bool) (_D : List AC) (_j : Nat → Value) : St := startK Tryz.f87 [bK (zAc V ac U un) 22 29, bK [.v (.int .i64 b)] 1 3, bK [.clo 136 [] [.one (.ptr 1 0)]] 1 142] [iI x, (.e (.one (.ptr 2 0)))]
def s137 (V : AccP) (U C _C2 : List DT) (un n _p _i : Nat) (_x b _lo _hi _e _f _g _z _w : Int) (_c ac : Bool) (_D : List AC) (_j : Nat → Value) : St := startK Tryz.f137 [bK (zAc V ac U un) 22 29, bK [.v (.int .i64 b)] 1 3, bK [.clo 136 [] [.one (.ptr 1 0)]] 1 142] [(.e (.one (.dp (.s C n 1)))), (.e (.one (.clo 87 [] [.one (.ptr 2 0)])))]
def s86 (V : AccP) (U C _C2 : List DT) (un n _p _i : Nat) (_x b lo _hi _e _f _g _z _w : Int) (_c ac : Bool) (_D : List AC) (_j : Nat → Value) : St := startK Tryz.f86 [bK (zAc V ac U un) 22 29, bK [.v (.int .i64 b)] 1 3, bK [.clo 136 [] [.one (.ptr 1 0)]] 1 142] [(.e (.one (.dp (.s C n 1)))), iI lo, (.e (.one (.clo 87 [] [.one (.ptr 2 0)])))]
def q76 (_V : AccP) (_U C _C2 : List DT) (_un n _p i : Nat) (_x _b _lo _hi _e _f _g _z _w : Int) (_c _ac : Bool) (_D : List AC) (j : Nat → Value) : St := ⟨[], ztBa2, mkT j [(5, (.e (.one (.dp (.s (C) (n) 1))))), (6, (iI (Int.ofNat n))), (7, (iI (Int.ofNat i)))] 15 0⟩
def q82 (_V : AccP) (_U C _C2 : List DT) (_un n _p i : Nat) (_x _b _lo _hi _e _f _g _z _w : Int) (_c _ac : Bool) (_D : List AC) (j : Nat → Value) : St := ⟨[], ztBa3, mkT j [(0, (.e (.one (.dp (.s (C) (n) 1))))), (3, (iI (Int.ofNat i)))] 19 0⟩
def q137 (V : AccP) (U C _C2 : List DT) (un n _p i : Nat) (_x b _lo _hi _e _f _g _z _w : Int) (_c ac : Bool) (_D : List AC) (j : Nat → Value) : St := ⟨[(zBk (zAc V ac U un) 22 29), (zBk [.v (.int .i64 b)] 1 3), (zBk [(.clo 136 [] [(.one (.ptr 1 0))])] 1 142)], ztBa1, mkT j [(1, (.e (.one (.clo 87 [] [(.one (.ptr 2 0))])))), (8, (.e (.one (.dp (.s (C) (n) 1))))), (9, (iI (Int.ofNat n))), (10, (iI (Int.ofNat i)))] 21 0⟩
def p78t_end (_V : AccP) (_U : List DT) (_C : List DT) (_C2 : List DT) (_un _n _p _i : Nat) (_x _b _lo _hi e _f _g _z _w : Int) (_c _ac : Bool) (_D : List AC) (j : Nat → Value) : St := ⟨[], [(.code .ret), (.code (atC [1, 1] (bodyOf Tryz.f78)))], mkT j [(4, (iI (e)))] 7 0⟩
theorem p78t (hE : EnvOk E) (V : AccP) (U : List DT) (C : List DT) (C2 : List DT) (un n p i : Nat) (x b lo hi e f g z w : Int) (c ac : Bool) (D : List AC) (h0 : (c : Bool) = true) : Sg 0 0 (s78 V U C C2 un n p i x b lo hi e f g z w c ac D) (p78t_end V U C C2 un n p i x b lo hi e f g z w c ac D) := fun ho j =>
 oS hE [.run 5, (.cond true), .run 2] [4] (aP h0 <| aZ)
  ho
def p78f_end (_V : AccP) (_U : List DT) (_C : List DT) (_C2 : List DT) (_un _n _p _i : Nat) (_x _b _lo _hi _e _f _g _z _w : Int) (_c _ac : Bool) (_D : List AC) (j : Nat → Value) : St := ⟨[], [(.code .ret)], mkT j [(4, (iI 0))] 7 0⟩
theorem p78f (hE : EnvOk E) (V : AccP) (U : List DT) (C : List DT) (C2 : List DT) (un n p i : Nat) (x b lo hi e f g z w : Int) (c ac : Bool) (D : List AC) (h0 : (c : Bool) = false) : Sg 0 0 (s78 V U C C2 un n p i x b lo hi e f g z w c ac D) (p78f_end V U C C2 un n p i x b lo hi e f g z w c ac D) := fun ho j =>
 oS hE [.run 5, (.cond false), .run 3] [4] (aP h0 <| aZ)
  ho
def p83t_end (_V : AccP) (_U : List DT) (_C : List DT) (_C2 : List DT) (_un _n _p _i : Nat) (_x _b _lo _hi e _f _g _z _w : Int) (_c _ac : Bool) (_D : List AC) (j : Nat → Value) : St := ⟨[], [(.code .ret), (.code (atC [1, 1] (bodyOf Tryz.f83)))], mkT j [(4, (iI (e)))] 7 0⟩
theorem p83t (hE : EnvOk E) (V : AccP) (U : List DT) (C : List DT) (C2 : List DT) (un n p i : Nat) (x b lo hi e f g z w : Int) (c ac : Bool) (D : List AC) (h0 : (c : Bool) = true) : Sg 0 0 (s83 V U C C2 un n p i x b lo hi e f g z w c ac D) (p83t_end V U C C2 un n p i x b lo hi e f g z w c ac D) := fun ho j =>
 oS hE [.run 5, (.cond true), .run 2] [4] (aP h0 <| aZ)
  ho
def p83f_end (_V : AccP) (_U : List DT) (_C : List DT) (_C2 : List DT) (_un _n _p _i : Nat) (_x _b _lo _hi _e _f _g _z _w : Int) (_c _ac : Bool) (_D : List AC) (j : Nat → Value) : St := ⟨[], [(.code .ret)], mkT j [(4, (iI 0))] 7 0⟩
theorem p83f (hE : EnvOk E) (V : AccP) (U : List DT) (C : List DT) (C2 : List DT) (un n p i : Nat) (x b lo hi e f g z w : Int) (c ac : Bool) (D : List AC) (h0 : (c : Bool) = false) : Sg 0 0 (s83 V U C C2 un n p i x b lo hi e f g z w c ac D) (p83f_end V U C C2 un n p i x b lo hi e f g z w c ac D) := fun ho j =>
 oS hE [.run 5, (.cond false), .run 3] [4] (aP h0 <| aZ)
  ho
def p77a_end (_V : AccP) (_U : List DT) (_C : List DT) (_C2 : List DT) (_un _n _p _i : Nat) (_x _b _lo _hi e _f _g _z _w : Int) (_c _ac : Bool) (_D : List AC) (j : Nat → Value) : St := ⟨[], [(.code .ret)], mkT j [(6, (iI (e)))] 16 0⟩
theorem p77a (hE : EnvOk E) (V : AccP) (U : List DT) (C : List DT) (C2 : List DT) (un n p i : Nat) (x b lo hi e f g z w : Int) (c ac : Bool) (D : List AC) (h0 : (decide (x < lo) == false : Bool) = false) (h1 : (decide (x < lo) == false : Bool) = false) (h2 : (decide (x < lo) == false : Bool) = false) (h3 : (decide (x < lo) : Bool) = true) (h4 : COut E 0 [] 78 [(iB true), (iI 3)] (iI (e)) []) : Sg 0 0 (s77 V U C C2 un n p i x b lo hi e f g z w c ac D) (p77a_end V U C C2 un n p i x b lo hi e f g z w c ac D) := fun ho j =>
 oS hE [.run 3, (.ops [(8, (.c0 (iI (e)))), (7, (.pk true))] [(4, false), (5, false), (6, false)])] [6] (aP h0 <| aP h1 <| aP h2 <| aP h3 <| aP h4 <| aN <| aZ)
  ho
def p77b_end (_V : AccP) (_U : List DT) (_C : List DT) (_C2 : List DT) (_un _n _p _i : Nat) (_x _b _lo _hi e _f _g _z _w : Int) (_c _ac : Bool) (_D : List AC) (j : Nat → Value) : St := ⟨[], [(.code .ret)], mkT j [(6, (iI (e)))] 16 0⟩
theorem p77b (hE : EnvOk E) (V : AccP) (U : List DT) (C : List DT) (C2 : List DT) (un n p i : Nat) (x b lo hi e f g z w : Int) (c ac : Bool) (D : List AC) (h0 : (decide (x < lo) == false : Bool) = true) (h1 : (decide (x < lo) == false : Bool) = true) (h2 : (decide (x < lo) == false : Bool) = true) (h3 : (decide (x < lo) : Bool) = false) (h4 : COut E 0 [] 78 [(iB (decide (x > hi))), (iI 3)] (iI (e)) []) : Sg 0 0 (s77 V U C C2 un n p i x b lo hi e f g z w c ac D) (p77b_end V U C C2 un n p i x b lo hi e f g z w c ac D) := fun ho j =>
 oS hE [.run 3, (.ops [(8, (.c0 (iI (e)))), (7, (.pk false))] [(4, true), (5, true), (6, true)])] [6] (aP h0 <| aP h1 <| aP h2 <| aP h3 <| aP h4 <| aN <| aZ)
  ho
def p17a_end (_V : AccP) (_U : List DT) (_C : List DT) (_C2 : List DT) (_un _n _p _i : Nat) (_x _b _lo _hi e _f _g _z _w : Int) (_c _ac : Bool) (_D : List AC) (j : Nat → Value) : St := ⟨[], [(.code .ret)], mkT j [(6, (iI (e)))] 16 0⟩
theorem p17a (hE : EnvOk E) (V : AccP) (U : List DT) (C : List DT) (C2 : List DT) (un n p i : Nat) (x b lo hi e f g z w : Int) (c ac : Bool) (D : List AC) (h0 : (decide (x < lo) == false : Bool) = false) (h1 : (decide (x < lo) == false : Bool) = false) (h2 : (decide (x < lo) == false : Bool) = false) (h3 : (decide (x < lo) : Bool) = true) (h4 : COut E 0 [] 83 [(iB true), (iI 3)] (iI (e)) []) : Sg 0 0 (s17 V U C C2 un n p i x b lo hi e f g z w c ac D) (p17a_end V U C C2 un n p i x b lo hi e f g z w c ac D) := fun ho j =>
 oS hE [.run 3, (.ops [(8, (.c0 (iI (e)))), (7, (.pk true))] [(4, false), (5, false), (6, false)])] [6] (aP h0 <| aP h1 <| aP h2 <| aP h3 <| aP h4 <| aN <| aZ)
  ho
def p17b_end (_V : AccP) (_U : List DT) (_C : List DT) (_C2 : List DT) (_un _n _p _i : Nat) (_x _b _lo _hi e _f _g _z _w : Int) (_c _ac : Bool) (_D : List AC) (j : Nat → Value) : St := ⟨[], [(.code .ret)], mkT j [(6, (iI (e)))] 16 0⟩
theorem p17b (hE : EnvOk E) (V : AccP) (U : List DT) (C : List DT) (C2 : List DT) (un n p i : Nat) (x b lo hi e f g z w : Int) (c ac : Bool) (D : List AC) (h0 : (decide (x < lo) == false : Bool) = true) (h1 : (decide (x < lo) == false : Bool) = true) (h2 : (decide (x < lo) == false : Bool) = true) (h3 : (decide (x < lo) : Bool) = false) (h4 : COut E 0 [] 83 [(iB (decide (x > hi))), (iI 3)] (iI (e)) []) : Sg 0 0 (s17 V U C C2 un n p i x b lo hi e f g z w c ac D) (p17b_end V U C C2 un n p i x b lo hi e f g z w c ac D) := fun ho j =>
 oS hE [.run 3, (.ops [(8, (.c0 (iI (e)))), (7, (.pk false))] [(4, true), (5, true), (6, true)])] [6] (aP h0 <| aP h1 <| aP h2 <| aP h3 <| aP h4 <| aN <| aZ)
  ho
def p88_end (_V : AccP) (_U : List DT) (_C : List DT) (_C2 : List DT) (_un _n _p _i : Nat) (_x _b _lo _hi e _f _g _z _w : Int) (_c _ac : Bool) (_D : List AC) (j : Nat → Value) : St := ⟨[], [(.code .ret)], mkT j [(2, (iI (e)))] 5 0⟩
theorem p88 (hE : EnvOk E) (V : AccP) (U : List DT) (C : List DT) (C2 : List DT) (un n p i : Nat) (x b lo hi e f g z w : Int) (c ac : Bool) (D : List AC) (h0 : COut E 0 [] 77 [(iI (x)), (iI 1), (iI 999999999)] (iI (e)) []) : Sg 0 0 (s88 V U C C2 un n p i x b lo hi e f g z w c ac D) (p88_end V U C C2 un n p i x b lo hi e f g z w c ac D) := fun ho j =>
 oS hE [.run 3, (.ops [(1, (.c0 (iI (e))))] [])] [2] (aP h0 <| aN <| aZ)
  ho
def p84_end (_V : AccP) (_U : List DT) (_C : List DT) (_C2 : List DT) (_un _n _p _i : Nat) (_x _b _lo _hi e _f _g _z _w : Int) (_c _ac : Bool) (_D : List AC) (j : Nat → Value) : St := ⟨[], [(.code .ret)], mkT j [(2, (iI (e)))] 5 0⟩
theorem p84 (hE : EnvOk E) (V : AccP) (U : List DT) (C : List DT) (C2 : List DT) (un n p i : Nat) (x b lo hi e f g z w : Int) (c ac : Bool) (D : List AC) (h0 : COut E 0 [] 17 [(iI (x)), (iI 1), (iI 999999999)] (iI (e)) []) : Sg 0 0 (s84 V U C C2 un n p i x b lo hi e f g z w c ac D) (p84_end V U C C2 un n p i x b lo hi e f g z w c ac D) := fun ho j =>
 oS hE [.run 3, (.ops [(1, (.c0 (iI (e))))] [])] [2] (aP h0 <| aN <| aZ)
  ho
def p76a_end (_V : AccP) (_U : List DT) (C : List DT) (_C2 : List DT) (_un n _p _i : Nat) (_x _b _lo _hi _e _f _g _z _w : Int) (_c _ac : Bool) (_D : List AC) (j : Nat → Value) : St := ⟨[], ztBa2, mkT j [(5, (.e (.one (.dp (.s (C) (n) 1))))), (6, (iI (Int.ofNat n))), (7, (iI 0))] 15 0⟩
theorem p76a (hE : EnvOk E) (V : AccP) (U : List DT) (C : List DT) (C2 : List DT) (un n p i : Nat) (x b lo hi e f g z w : Int) (c ac : Bool) (D : List AC) : Sg 0 0 (s76 V U C C2 un n p i x b lo hi e f g z w c ac D) (p76a_end V U C C2 un n p i x b lo hi e f g z w c ac D) := fun ho j =>
 oS hE [.run 4, (.ops [(1, (.d .len))] []), .run 2] [5, 6, 7] (ps := []) trivial
  ho
def p82a_end (_V : AccP) (_U : List DT) (C : List DT) (_C2 : List DT) (_un n _p _i : Nat) (_x _b _lo _hi _e _f _g _z _w : Int) (_c _ac : Bool) (_D : List AC) (j : Nat → Value) : St := ⟨[], ztBa3, mkT j [(0, (.e (.one (.dp (.s (C) (n) 1))))), (3, (iI 0))] 19 0⟩
theorem p82a (hE : EnvOk E) (V : AccP) (U : List DT) (C : List DT) (C2 : List DT) (un n p i : Nat) (x b lo hi e f g z w : Int) (c ac : Bool) (D : List AC) : Sg 0 0 (s82 V U C C2 un n p i x b lo hi e f g z w c ac D) (p82a_end V U C C2 un n p i x b lo hi e f g z w c ac D) := fun ho j =>
 oS hE [.run 7] [0, 3] (ps := []) trivial
  ho
def p137a_end (V : AccP) (U : List DT) (C : List DT) (_C2 : List DT) (un n _p _i : Nat) (_x b _lo _hi _e _f _g _z _w : Int) (_c ac : Bool) (_D : List AC) (j : Nat → Value) : St := ⟨[(zBk (zAc V ac U un) 22 29), (zBk [.v (.int .i64 b)] 1 3), (zBk [(.clo 136 [] [(.one (.ptr 1 0))])] 1 142)], ztBa1, mkT j [(1, (.e (.one (.clo 87 [] [(.one (.ptr 2 0))])))), (8, (.e (.one (.dp (.s (C) (n) 1))))), (9, (iI (Int.ofNat n))), (10, (iI 0))] 21 0⟩
theorem p137a (hE : EnvOk E) (V : AccP) (U : List DT) (C : List DT) (C2 : List DT) (un n p i : Nat) (x b lo hi e f g z w : Int) (c ac : Bool) (D : List AC) : Sg 0 3 (s137 V U C C2 un n p i x b lo hi e f g z w c ac D) (p137a_end V U C C2 un n p i x b lo hi e f g z w c ac D) := fun ho j =>
 oS hE [.run 4, (.ops [(1, (.d .len))] []), .run 2] [1, 8, 9, 10] (ps := []) trivial
  ho
def p16_end (_V : AccP) (_U : List DT) (_C : List DT) (_C2 : List DT) (_un _n _p _i : Nat) (_x _b _lo _hi e _f _g _z _w : Int) (_c _ac : Bool) (_D : List AC) (j : Nat → Value) : St := ⟨[], [(.code .ret)], mkT j [(2, (iI (e)))] 5 0⟩
theorem p16 (hE : EnvOk E) (V : AccP) (U : List DT) (C : List DT) (C2 : List DT) (un n p i : Nat) (x b lo hi e f g z w : Int) (c ac : Bool) (D : List AC) (h0 : COut E 0 [] 82 [(.e (.one (.dp (.s (C) (n) 1))))] (iI (e)) []) : Sg 0 0 (s16 V U C C2 un n p i x b lo hi e f g z w c ac D) (p16_end V U C C2 un n p i x b lo hi e f g z w c ac D) := fun ho j =>
 oS hE [.run 3, (.ops [(1, (.c0 (iI (e))))] [])] [2] (aP h0 <| aN <| aZ)
  ho
def p22t_end (_V : AccP) (_U : List DT) (_C : List DT) (_C2 : List DT) (_un _n _p _i : Nat) (_x _b _lo _hi e f _g _z _w : Int) (_c _ac : Bool) (_D : List AC) (j : Nat → Value) : St := ⟨[], [(.code .ret)], mkT j [(8, (iB (e == f)))] 19 0⟩
theorem p22t (hE : EnvOk E) (V : AccP) (U : List DT) (C : List DT) (C2 : List DT) (un n p i : Nat) (x b lo hi e f g z w : Int) (c ac : Bool) (D : List AC) (h0 : (f != (0 : Int) : Bool) = false) (h1 : ((x == z) == true : Bool) = true) (h2 : ((x == z) == true : Bool) = true) (h3 : ((x == z) == true : Bool) = true) (h4 : (x == z : Bool) = true) : Sg 0 0 (s22 V U C C2 un n p i x b lo hi e f g z w c ac D) (p22t_end V U C C2 un n p i x b lo hi e f g z w c ac D) := fun ho j =>
 oS hE [.run 5, (.cond false), .run 2, (.ops [(7, (.pk true))] [(4, true), (5, true), (6, true)])] [8] (aP h0 <| aP h1 <| aP h2 <| aP h3 <| aP h4 <| aZ)
  ho
def p22f_end (_V : AccP) (_U : List DT) (_C : List DT) (_C2 : List DT) (_un _n _p _i : Nat) (_x _b _lo _hi e f _g _z _w : Int) (_c _ac : Bool) (_D : List AC) (j : Nat → Value) : St := ⟨[], [(.code .ret)], mkT j [(8, (iB (e == f)))] 19 0⟩
theorem p22f (hE : EnvOk E) (V : AccP) (U : List DT) (C : List DT) (C2 : List DT) (un n p i : Nat) (x b lo hi e f g z w : Int) (c ac : Bool) (D : List AC) (h0 : (f != (0 : Int) : Bool) = true) (h1 : ((x == Int.ofNat (nat_lit 0)) == true : Bool) = true) (h2 : ((x == Int.ofNat (nat_lit 0)) == true : Bool) = true) (h3 : ((x == Int.ofNat (nat_lit 0)) == true : Bool) = true) (h4 : (x == Int.ofNat (nat_lit 0) : Bool) = true) : Sg 0 0 (s22 V U C C2 un n p i x b lo hi e f g z w c ac D) (p22f_end V U C C2 un n p i x b lo hi e f g z w c ac D) := fun ho j =>
 oS hE [.run 5, (.cond true), .run 2, (.ops [(7, (.pk true))] [(4, true), (5, true), (6, true)])] [8] (aP h0 <| aP h1 <| aP h2 <| aP h3 <| aP h4 <| aZ)
  ho
def p136_end (V : AccP) (U : List DT) (_C : List DT) (_C2 : List DT) (un _n _p _i : Nat) (x _b _lo _hi e _f _g _z _w : Int) (_c ac : Bool) (_D : List AC) (j : Nat → Value) : St := ⟨[(zBk (zAc V ac U un) 22 29), (zBk [.v (.int .i64 x)] 1 3), (zBk [(.clo 136 [] [(.one (.ptr 1 0))])] 1 142)], [(.code .ret)], mkT j [(3, (iI (e)))] 11 0⟩
theorem p136 (hE : EnvOk E) (V : AccP) (U : List DT) (C : List DT) (C2 : List DT) (un n p i : Nat) (x b lo hi e f g z w : Int) (c ac : Bool) (D : List AC) (h0 : COut E 0 [] 78 [(iB (decide (x ≤ b))), (iI 11)] (iI (e)) []) : Sg 0 3 (s136 V U C C2 un n p i x b lo hi e f g z w c ac D) (p136_end V U C C2 un n p i x b lo hi e f g z w c ac D) := fun ho j =>
 oS hE [.run 3, (.ops [(3, (.c0 (iI (e))))] []), .run 4] [3] (aP h0 <| aN <| aZ)
  ho
def p87_end (V : AccP) (U : List DT) (_C : List DT) (_C2 : List DT) (un _n _p _i : Nat) (x _b _lo _hi e _f _g _z _w : Int) (_c ac : Bool) (_D : List AC) (j : Nat → Value) : St := ⟨[(zBk (zAc V ac U un) 22 29), (zBk [.v (.int .i64 x)] 1 3), (zBk [(.clo 136 [] [(.one (.ptr 1 0))])] 1 142)], [(.code .ret)], mkT j [(3, (iI (e)))] 11 0⟩
theorem p87 (hE : EnvOk E) (V : AccP) (U : List DT) (C : List DT) (C2 : List DT) (un n p i : Nat) (x b lo hi e f g z w : Int) (c ac : Bool) (D : List AC) (h0 : COut E 0 [] 88 [(iI (x))] (iI (f)) []) (h3 : COut E 0 [(zBk (zAc V ac U un) 22 29), (zBk [.v (.int .i64 b)] 1 3), (zBk [(.clo 136 [] [(.one (.ptr 1 0))])] 1 142)] 136 [(iI (x)), (.e (.one (.ptr 1 0)))] (iI (g)) [(zBk (zAc V ac U un) 22 29), (zBk [.v (.int .i64 x)] 1 3), (zBk [(.clo 136 [] [(.one (.ptr 1 0))])] 1 142)]) (h4 : COut E 4 [(zBk (zAc V ac U un) 22 29), (zBk [.v (.int .i64 x)] 1 3), (zBk [(.clo 136 [] [(.one (.ptr 1 0))])] 1 142), (zBk (zI2 f g) 2 30)] 76 [(.e (.one (.slc 3 0 2 1 2 true)))] (iI (e)) [(zBk (zAc V ac U un) 22 29), (zBk [.v (.int .i64 x)] 1 3), (zBk [(.clo 136 [] [(.one (.ptr 1 0))])] 1 142), (zBk (zI2 f g) 2 30)]) : Sg 0 3 (s87 V U C C2 un n p i x b lo hi e f g z w c ac D) (p87_end V U C C2 un n p i x b lo hi e f g z w c ac D) := fun ho j =>
 oS hE [.run 3, (.ops [(1, (.c0 (iI (f)))), (4, (.cw (iI (g)) [(zBk (zAc V ac U un) 22 29), (zBk [.v (.int .i64 x)] 1 3), (zBk [(.clo 136 [] [(.one (.ptr 1 0))])] 1 142)])), (6, (.d (.c1 (iI (e)))))] [])] [3] (s' := fun j => ⟨[(zBk (zAc V ac U un) 22 29), (zBk [.v (.int .i64 x)] 1 3), (zBk [(.clo 136 [] [(.one (.ptr 1 0))])] 1 142), (zBk (zI2 f g) 2 30)], [(.code .ret)], mkT j [(3, (iI (e)))] 11 0⟩) (aP h0 <| aN <| aP (rfl : (true : Bool) = true) <| aP h3 <| aP h4 <| aN <| aZ)
  fun j => gZ [0, 1, 2] (ho j)
def p86m_end (V : AccP) (U : List DT) (_C : List DT) (_C2 : List DT) (un _n _p _i : Nat) (_x b _lo _hi _e _f _g _z _w : Int) (_c ac : Bool) (_D : List AC) (j : Nat → Value) : St := ⟨[(zBk (zAc V ac U un) 22 29), (zBk [.v (.int .i64 b)] 1 3), (zBk [(.clo 136 [] [(.one (.ptr 1 0))])] 1 142)], [(.code .ret), (.code (atC [1, 1] (bodyOf Tryz.f86)))], mkT j [(6, (iI 5))] 14 0⟩
theorem p86m (hE : EnvOk E) (V : AccP) (U : List DT) (C : List DT) (C2 : List DT) (un n p i : Nat) (x b lo hi e f g z w : Int) (c ac : Bool) (D : List AC) (h0 : (decide ((↑n : Int) > lo) : Bool) = true) : Sg 0 3 (s86 V U C C2 un n p i x b lo hi e f g z w c ac D) (p86m_end V U C C2 un n p i x b lo hi e f g z w c ac D) := fun ho j =>
 oS hE [.run 4, (.ops [(1, (.d .len))] []), (.cond true), .run 2] [6] (aP h0 <| aZ)
  ho
def p86_end (V : AccP) (U : List DT) (_C : List DT) (_C2 : List DT) (un _n _p _i : Nat) (_x _b _lo _hi e _f _g z _w : Int) (_c ac : Bool) (_D : List AC) (j : Nat → Value) : St := ⟨[(zBk (zAc V ac U un) 22 29), (zBk [.v (.int .i64 z)] 1 3), (zBk [(.clo 136 [] [(.one (.ptr 1 0))])] 1 142)], [(.code .ret)], mkT j [(6, (iI (e)))] 14 0⟩
theorem p86 (hE : EnvOk E) (V : AccP) (U : List DT) (C : List DT) (C2 : List DT) (un n p i : Nat) (x b lo hi e f g z w : Int) (c ac : Bool) (D : List AC) (h0 : (decide ((↑n : Int) > lo) : Bool) = false) (h1 : COut E 0 [(zBk (zAc V ac U un) 22 29), (zBk [.v (.int .i64 b)] 1 3), (zBk [(.clo 136 [] [(.one (.ptr 1 0))])] 1 142)] 137 [(.e (.one (.dp (.s (C) (n) 1)))), (.e (.one (.clo 87 [] [(.one (.ptr 2 0))])))] (iI (e)) [(zBk (zAc V ac U un) 22 29), (zBk [.v (.int .i64 z)] 1 3), (zBk [(.clo 136 [] [(.one (.ptr 1 0))])] 1 142)]) : Sg 0 3 (s86 V U C C2 un n p i x b lo hi e f g z w c ac D) (p86_end V U C C2 un n p i x b lo hi e f g z w c ac D) := fun ho j =>
 oS hE [.run 4, (.ops [(1, (.d .len))] []), (.cond false), .run 2, (.ops [(2, (.cw (iI (e)) [(zBk (zAc V ac U un) 22 29), (zBk [.v (.int .i64 z)] 1 3), (zBk [(.clo 136 [] [(.one (.ptr 1 0))])] 1 142)]))] [])] [6] (aP h0 <| aP h1 <| aZ)
  ho
def p76s_end (_V : AccP) (_U : List DT) (C : List DT) (_C2 : List DT) (_un n _p i : Nat) (_x _b _lo _hi _e _f _g _z _w : Int) (_c _ac : Bool) (_D : List AC) (j : Nat → Value) : St := ⟨[], ztBa2, mkT j [(5, (.e (.one (.dp (.s (C) (n) 1))))), (6, (iI (Int.ofNat n))), (7, (iI (Int.ofNat (i + 1))))] 15 0⟩
theorem p76s (hE : EnvOk E) (V : AccP) (U : List DT) (C : List DT) (C2 : List DT) (un n p i : Nat) (x b lo hi e f g z w : Int) (c ac : Bool) (D : List AC) (h0 : (decide (Int.ofNat i < Int.ofNat n) : Bool) = true) (h1 : (0 : Int) ≤ Int.ofNat i ∧ Int.ofNat i < (↑n : Int)) (h2 : ((Int.ofNat i).toNat * nat_lit 1 : Nat) = i) (h3 : (getL C i : Option DT) = (.some (.v (.int .i64 z)))) (h4 : (z != (0 : Int) : Bool) = false) (h5 : ((iI (wrapF IntKind.i64 (Int.ofNat i + (1 : Int)))) : AV) = (iI (Int.ofNat (i + 1)))) : Sg 0 0 (q76 V U C C2 un n p i x b lo hi e f g z w c ac D) (p76s_end V U C C2 un n p i x b lo hi e f g z w c ac D) := fun ho j =>
 oS hE [.run 3, (.cond true), .run 4, (.ops [(1, (.d (.ld (.v (.int .i64 z))))), (0, (.d (.ix (i))))] []), .run 2, (.cond false), .run 2, (.ops [(0, (.rn (iI (Int.ofNat (i + 1)))))] []), .run 1] [5, 6, 7] (aP h0 <| aP h1 <| aP h2 <| aP h3 <| aP h4 <| aP h5 <| aZ)
  ho
def p76e_end (_V : AccP) (_U : List DT) (_C : List DT) (_C2 : List DT) (_un _n _p _i : Nat) (_x _b _lo _hi _e _f _g z _w : Int) (_c _ac : Bool) (_D : List AC) (j : Nat → Value) : St := ⟨[], [(.code .ret), (.inBlock 1), (.code (atC [1, 0, 1, 0, 0, 1, 1, 1] (bodyOf Tryz.f76))), (.inLoop (atC [1, 0, 1, 0, 0] (bodyOf Tryz.f76))), (.inBlock 0), (.code (atC [1, 1] (bodyOf Tryz.f76)))], mkT j [(2, (iI (z)))] 15 0⟩
theorem p76e (hE : EnvOk E) (V : AccP) (U : List DT) (C : List DT) (C2 : List DT) (un n p i : Nat) (x b lo hi e f g z w : Int) (c ac : Bool) (D : List AC) (h0 : (decide (Int.ofNat i < Int.ofNat n) : Bool) = true) (h1 : (0 : Int) ≤ Int.ofNat i ∧ Int.ofNat i < (↑n : Int)) (h2 : ((Int.ofNat i).toNat * nat_lit 1 : Nat) = i) (h3 : (getL C i : Option DT) = (.some (.v (.int .i64 z)))) (h4 : (z != (0 : Int) : Bool) = true) : Sg 0 0 (q76 V U C C2 un n p i x b lo hi e f g z w c ac D) (p76e_end V U C C2 un n p i x b lo hi e f g z w c ac D) := fun ho j =>
 oS hE [.run 3, (.cond true), .run 4, (.ops [(1, (.d (.ld (.v (.int .i64 z))))), (0, (.d (.ix (i))))] []), .run 2, (.cond true), .run 2] [2] (aP h0 <| aP h1 <| aP h2 <| aP h3 <| aP h4 <| aZ)
  ho
def p76x_end (_V : AccP) (_U : List DT) (_C : List DT) (_C2 : List DT) (_un _n _p _i : Nat) (_x _b _lo _hi _e _f _g _z _w : Int) (_c _ac : Bool) (_D : List AC) (j : Nat → Value) : St := ⟨[], [(.code .ret)], mkT j [(2, (iI 0))] 15 0⟩
theorem p76x (hE : EnvOk E) (V : AccP) (U : List DT) (C : List DT) (C2 : List DT) (un n p i : Nat) (x b lo hi e f g z w : Int) (c ac : Bool) (D : List AC) (h0 : (decide (Int.ofNat i < Int.ofNat n) : Bool) = false) : Sg 0 0 (q76 V U C C2 un n p i x b lo hi e f g z w c ac D) (p76x_end V U C C2 un n p i x b lo hi e f g z w c ac D) := fun ho j =>
 oS hE [.run 3, (.cond false), .run 3] [2] (aP h0 <| aZ)
  ho
def p82s_end (_V : AccP) (_U : List DT) (C : List DT) (_C2 : List DT) (_un n _p i : Nat) (_x _b _lo _hi _e _f _g _z _w : Int) (_c _ac : Bool) (_D : List AC) (j : Nat → Value) : St := ⟨[], ztBa3, mkT j [(0, (.e (.one (.dp (.s (C) (n) 1))))), (3, (iI (Int.ofNat (i + 1))))] 19 0⟩
theorem p82s (hE : EnvOk E) (V : AccP) (U : List DT) (C : List DT) (C2 : List DT) (un n p i : Nat) (x b lo hi e f g z w : Int) (c ac : Bool) (D : List AC) (h0 : (decide (Int.ofNat i < (↑n : Int)) : Bool) = true) (h1 : (0 : Int) ≤ Int.ofNat i ∧ Int.ofNat i < (↑n : Int)) (h2 : ((Int.ofNat i).toNat * nat_lit 1 : Nat) = i) (h3 : (getL C i : Option DT) = (.some (.v (.int .i64 z)))) (h4 : (z != (0 : Int) : Bool) = false) (h5 : ((iI (wrapF IntKind.i64 (Int.ofNat i + (1 : Int)))) : AV) = (iI (Int.ofNat (i + 1)))) : Sg 0 0 (q82 V U C C2 un n p i x b lo hi e f g z w c ac D) (p82s_end V U C C2 un n p i x b lo hi e f g z w c ac D) := fun ho j =>
 oS hE [.run 2, (.ops [(2, (.d .len))] []), (.cond true), .run 4, (.ops [(3, (.d (.ld (.v (.int .i64 z))))), (2, (.d (.ix (i))))] []), (.cond false), .run 2, (.ops [(1, (.rn (iI (Int.ofNat (i + 1)))))] []), .run 1] [0, 3] (aP h0 <| aP h1 <| aP h2 <| aP h3 <| aP h4 <| aP h5 <| aZ)
  ho
def p82e_end (_V : AccP) (_U : List DT) (_C : List DT) (_C2 : List DT) (_un _n _p _i : Nat) (_x _b _lo _hi _e _f _g z _w : Int) (_c _ac : Bool) (_D : List AC) (j : Nat → Value) : St := ⟨[], [(.code .ret), (.inBlock 1), (.code (atC [1, 0, 1, 0, 0, 1, 1] (bodyOf Tryz.f82))), (.inLoop (atC [1, 0, 1, 0, 0] (bodyOf Tryz.f82))), (.inBlock 0), (.code (atC [1, 1] (bodyOf Tryz.f82)))], mkT j [(2, (iI (z)))] 19 0⟩
theorem p82e (hE : EnvOk E) (V : AccP) (U : List DT) (C : List DT) (C2 : List DT) (un n p i : Nat) (x b lo hi e f g z w : Int) (c ac : Bool) (D : List AC) (h0 : (decide (Int.ofNat i < (↑n : Int)) : Bool) = true) (h1 : (0 : Int) ≤ Int.ofNat i ∧ Int.ofNat i < (↑n : Int)) (h2 : ((Int.ofNat i).toNat * nat_lit 1 : Nat) = i) (h3 : (getL C i : Option DT) = (.some (.v (.int .i64 z)))) (h4 : (z != (0 : Int) : Bool) = true) (h5 : (0 : Int) ≤ Int.ofNat i ∧ Int.ofNat i < (↑n : Int)) (h6 : ((Int.ofNat i).toNat * nat_lit 1 : Nat) = i) (h7 : (getL C i : Option DT) = (.some (.v (.int .i64 z)))) : Sg 0 0 (q82 V U C C2 un n p i x b lo hi e f g z w c ac D) (p82e_end V U C C2 un n p i x b lo hi e f g z w c ac D) := fun ho j =>
 oS hE [.run 2, (.ops [(2, (.d .len))] []), (.cond true), .run 4, (.ops [(3, (.d (.ld (.v (.int .i64 z))))), (2, (.d (.ix (i))))] []), (.cond true), .run 1, (.ops [(3, (.d (.ld (.v (.int .i64 z))))), (2, (.d (.ix (i))))] [])] [2] (aP h0 <| aP h1 <| aP h2 <| aP h3 <| aP h4 <| aP h5 <| aP h6 <| aP h7 <| aZ)
  ho
def p82x_end (_V : AccP) (_U : List DT) (_C : List DT) (_C2 : List DT) (_un _n _p _i : Nat) (_x _b _lo _hi _e _f _g _z _w : Int) (_c _ac : Bool) (_D : List AC) (j : Nat → Value) : St := ⟨[], [(.code .ret)], mkT j [(2, (iI 0))] 19 0⟩
theorem p82x (hE : EnvOk E) (V : AccP) (U : List DT) (C : List DT) (C2 : List DT) (un n p i : Nat) (x b lo hi e f g z w : Int) (c ac : Bool) (D : List AC) (h0 : (decide (Int.ofNat i < (↑n : Int)) : Bool) = false) : Sg 0 0 (q82 V U C C2 un n p i x b lo hi e f g z w c ac D) (p82x_end V U C C2 un n p i x b lo hi e f g z w c ac D) := fun ho j =>
 oS hE [.run 2, (.ops [(2, (.d .len))] []), (.cond false), .run 3] [2] (aP h0 <| aZ)
  ho
def p137s_end (V : AccP) (U : List DT) (C : List DT) (_C2 : List DT) (un n _p i : Nat) (_x _b _lo _hi _e _f _g z _w : Int) (_c ac : Bool) (_D : List AC) (j : Nat → Value) : St := ⟨[(zBk (zAc V ac U un) 22 29), (zBk [.v (.int .i64 z)] 1 3), (zBk [(.clo 136 [] [(.one (.ptr 1 0))])] 1 142)], ztBa1, mkT j [(1, (.e (.one (.clo 87 [] [(.one (.ptr 2 0))])))), (8, (.e (.one (.dp (.s (C) (n) 1))))), (9, (iI (Int.ofNat n))), (10, (iI (Int.ofNat (i + 1))))] 21 0⟩
theorem p137s (hE : EnvOk E) (V : AccP) (U : List DT) (C : List DT) (C2 : List DT) (un n p i : Nat) (x b lo hi e f g z w : Int) (c ac : Bool) (D : List AC) (h0 : (decide (Int.ofNat i < Int.ofNat n) : Bool) = true) (h1 : (0 : Int) ≤ Int.ofNat i ∧ Int.ofNat i < (↑n : Int)) (h2 : ((Int.ofNat i).toNat * nat_lit 1 : Nat) = i) (h3 : (getL C i : Option DT) = (.some (.v (.int .i64 z)))) (h4 : COut E 0 [(zBk (zAc V ac U un) 22 29), (zBk [.v (.int .i64 b)] 1 3), (zBk [(.clo 136 [] [(.one (.ptr 1 0))])] 1 142)] 87 [(iI (z)), (.e (.one (.ptr 2 0)))] (iI (e)) [(zBk (zAc V ac U un) 22 29), (zBk [.v (.int .i64 z)] 1 3), (zBk [(.clo 136 [] [(.one (.ptr 1 0))])] 1 142)]) (h5 : (e != (0 : Int) : Bool) = false) (h6 : ((iI (wrapF IntKind.i64 (Int.ofNat i + (1 : Int)))) : AV) = (iI (Int.ofNat (i + 1)))) : Sg 0 3 (q137 V U C C2 un n p i x b lo hi e f g z w c ac D) (p137s_end V U C C2 un n p i x b lo hi e f g z w c ac D) := fun ho j =>
 oS hE [.run 3, (.cond true), .run 4, (.ops [(1, (.d (.ld (.v (.int .i64 z))))), (0, (.d (.ix (i))))] []), .run 1, (.ops [(2, (.cw (iI (e)) [(zBk (zAc V ac U un) 22 29), (zBk [.v (.int .i64 z)] 1 3), (zBk [(.clo 136 [] [(.one (.ptr 1 0))])] 1 142)]))] []), .run 2, (.cond false), .run 2, (.ops [(0, (.rn (iI (Int.ofNat (i + 1)))))] []), .run 1] [1, 8, 9, 10] (aP h0 <| aP h1 <| aP h2 <| aP h3 <| aP h4 <| aP h5 <| aP h6 <| aZ)
  ho
def p137e_end (V : AccP) (U : List DT) (_C : List DT) (_C2 : List DT) (un _n _p _i : Nat) (_x _b _lo _hi e _f _g z _w : Int) (_c ac : Bool) (_D : List AC) (j : Nat → Value) : St := ⟨[(zBk (zAc V ac U un) 22 29), (zBk [.v (.int .i64 z)] 1 3), (zBk [(.clo 136 [] [(.one (.ptr 1 0))])] 1 142)], [(.code .ret), (.inBlock 1), (.code (atC [1, 0, 1, 0, 0, 1, 1, 1] (bodyOf Tryz.f137))), (.inLoop (atC [1, 0, 1, 0, 0] (bodyOf Tryz.f137))), (.inBlock 0), (.code (atC [1, 1] (bodyOf Tryz.f137)))], mkT j [(4, (iI (e)))] 21 0⟩
theorem p137e (hE : EnvOk E) (V : AccP) (U : List DT) (C : List DT) (C2 : List DT) (un n p i : Nat) (x b lo hi e f g z w : Int) (c ac : Bool) (D : List AC) (h0 : (decide (Int.ofNat i < Int.ofNat n) : Bool) = true) (h1 : (0 : Int) ≤ Int.ofNat i ∧ Int.ofNat i < (↑n : Int)) (h2 : ((Int.ofNat i).toNat * nat_lit 1 : Nat) = i) (h3 : (getL C i : Option DT) = (.some (.v (.int .i64 z)))) (h4 : COut E 0 [(zBk (zAc V ac U un) 22 29), (zBk [.v (.int .i64 b)] 1 3), (zBk [(.clo 136 [] [(.one (.ptr 1 0))])] 1 142)] 87 [(iI (z)), (.e (.one (.ptr 2 0)))] (iI (e)) [(zBk (zAc V ac U un) 22 29), (zBk [.v (.int .i64 z)] 1 3), (zBk [(.clo 136 [] [(.one (.ptr 1 0))])] 1 142)]) (h5 : (e != (0 : Int) : Bool) = true) : Sg 0 3 (q137 V U C C2 un n p i x b lo hi e f g z w c ac D) (p137e_end V U C C2 un n p i x b lo hi e f g z w c ac D) := fun ho j =>
 oS hE [.run 3, (.cond true), .run 4, (.ops [(1, (.d (.ld (.v (.int .i64 z))))), (0, (.d (.ix (i))))] []), .run 1, (.ops [(2, (.cw (iI (e)) [(zBk (zAc V ac U un) 22 29), (zBk [.v (.int .i64 z)] 1 3), (zBk [(.clo 136 [] [(.one (.ptr 1 0))])] 1 142)]))] []), .run 2, (.cond true), .run 2] [4] (aP h0 <| aP h1 <| aP h2 <| aP h3 <| aP h4 <| aP h5 <| aZ)
  ho
def p137x_end (V : AccP) (U : List DT) (_C : List DT) (_C2 : List DT) (un _n _p _i : Nat) (_x b _lo _hi _e _f _g _z _w : Int) (_c ac : Bool) (_D : List AC) (j : Nat → Value) : St := ⟨[(zBk (zAc V ac U un) 22 29), (zBk [.v (.int .i64 b)] 1 3), (zBk [(.clo 136 [] [(.one (.ptr 1 0))])] 1 142)], [(.code .ret)], mkT j [(4, (iI 0))] 21 0⟩
theorem p137x (hE : EnvOk E) (V : AccP) (U : List DT) (C : List DT) (C2 : List DT) (un n p i : Nat) (x b lo hi e f g z w : Int) (c ac : Bool) (D : List AC) (h0 : (decide (Int.ofNat i < Int.ofNat n) : Bool) = false) : Sg 0 3 (q137 V U C C2 un n p i x b lo hi e f g z w c ac D) (p137x_end V U C C2 un n p i x b lo hi e f g z w c ac D) := fun ho j =>
 oS hE [.run 3, (.cond false), .run 3] [4] (aP h0 <| aZ)
  ho
theorem K78 (hE : EnvOk E) (c : Bool) (e : Int) : COut E 0 [] 78 [iB c, iI e] (iI (if c = true then e else 0)) [] := by
 cases c with
 | true => exact cOut_start Tryz.func78 rfl (p78t hE vZ [] [] [] 0 0 0 0 0 0 0 0 (e) 0 0 0 0 (true) false [] rfl (fun j => outK_ret (ends_ret (by kernel_rfl))) fun _ => undef)
 | false => exact cOut_start Tryz.func78 rfl (p78f hE vZ [] [] [] 0 0 0 0 0 0 0 0 (e) 0 0 0 0 (false) false [] rfl (fun j => outK_ret (ends_ret (by kernel_rfl))) fun _ => undef)
theorem K83 (hE : EnvOk E) (c : Bool) (e : Int) : COut E 0 [] 83 [iB c, iI e] (iI (if c = true then e else 0)) [] := by
 cases c with
 | true => exact cOut_start Tryz.func83 rfl (p83t hE vZ [] [] [] 0 0 0 0 0 0 0 0 (e) 0 0 0 0 (true) false [] rfl (fun j => outK_ret (ends_ret (by kernel_rfl))) fun _ => undef)
 | false => exact cOut_start Tryz.func83 rfl (p83f hE vZ [] [] [] 0 0 0 0 0 0 0 0 (e) 0 0 0 0 (false) false [] rfl (fun j => outK_ret (ends_ret (by kernel_rfl))) fun _ => undef)
def rngI (a b z : Int) : Int := if z < a ∨ b < z then 3 else 0
theorem K77 (hE : EnvOk E) (z a b : Int) : COut E 0 [] 77 [iI z, iI a, iI b] (iI (rngI a b z)) [] := by
 by_cases h : z < a
 ·have e : rngI a b z = 3 := by simp [rngI, h]
  rw [e]
  exact cOut_start Tryz.func77 rfl (p77a hE vZ [] [] [] 0 0 0 0 (z) 0 (a) (b) (3) 0 0 0 0 false false [] (by simp [h]) (by simp [h]) (by simp [h]) (decide_eq_true (by (try simp only [Int.ofNat_eq_natCast]); omega)) (K78 hE true 3) (fun j => outK_ret (ends_ret (by kernel_rfl))) fun _ => undef)
 ·have e : rngI a b z = (if decide (z > b) = true then 3 else 0) := by simp [rngI, h]
  rw [e]
  exact cOut_start Tryz.func77 rfl (p77b hE vZ [] [] [] 0 0 0 0 (z) 0 (a) (b) (if decide (z > b) = true then 3 else 0) 0 0 0 0 false false [] (by rw [decide_eq_false (by omega)]; rfl) (by rw [decide_eq_false (by omega)]; rfl) (by rw [decide_eq_false (by omega)]; rfl) (decide_eq_false (by (try simp only [Int.ofNat_eq_natCast]); omega)) (K78 hE _ 3) (fun j => outK_ret (ends_ret (by kernel_rfl))) fun _ => undef)
theorem K17 (hE : EnvOk E) (z a b : Int) : COut E 0 [] 17 [iI z, iI a, iI b] (iI (rngI a b z)) [] := by
 by_cases h : z < a
 ·have e : rngI a b z = 3 := by simp [rngI, h]
  rw [e]
  exact cOut_start Tryz.func17 rfl (p17a hE vZ [] [] [] 0 0 0 0 (z) 0 (a) (b) (3) 0 0 0 0 false false [] (by simp [h]) (by simp [h]) (by simp [h]) (decide_eq_true (by (try simp only [Int.ofNat_eq_natCast]); omega)) (K83 hE true 3) (fun j => outK_ret (ends_ret (by kernel_rfl))) fun _ => undef)
 ·have e : rngI a b z = (if decide (z > b) = true then 3 else 0) := by simp [rngI, h]
  rw [e]
  exact cOut_start Tryz.func17 rfl (p17b hE vZ [] [] [] 0 0 0 0 (z) 0 (a) (b) (if decide (z > b) = true then 3 else 0) 0 0 0 0 false false [] (by rw [decide_eq_false (by omega)]; rfl) (by rw [decide_eq_false (by omega)]; rfl) (by rw [decide_eq_false (by omega)]; rfl) (decide_eq_false (by (try simp only [Int.ofNat_eq_natCast]); omega)) (K83 hE _ 3) (fun j => outK_ret (ends_ret (by kernel_rfl))) fun _ => undef)
def num (z : Int) : Int := rngI 1 999999999 z
theorem K88 (hE : EnvOk E) (z : Int) : COut E 0 [] 88 [iI z] (iI (num z)) [] :=
 cOut_start Tryz.func88 rfl (p88 hE vZ [] [] [] 0 0 0 0 (z) 0 0 0 (num z) 0 0 0 0 false false [] (K77 hE z 1 999999999) (fun j => outK_ret (ends_ret (by kernel_rfl))) fun _ => undef)
theorem K84 (hE : EnvOk E) (z : Int) : COut E 0 [] 84 [iI z] (iI (num z)) [] :=
 cOut_start Tryz.func84 rfl (p84 hE vZ [] [] [] 0 0 0 0 (z) 0 0 0 (num z) 0 0 0 0 false false [] (K17 hE z 1 999999999) (fun j => outK_ret (ends_ret (by kernel_rfl))) fun _ => undef)
def firstI : List Int → Int
 | [] => 0
 | x :: r => if x = 0 then firstI r else x
theorem l76 (hE : EnvOk E) (xs : List Int) (n : Nat) (hn : xs.length = n) (hm : n ≤ 4000000) : ∀ m i, m + i = n → ∀ j, OutK E 0 0 (q76 vZ [] (iD xs) [] 0 (n) 0 (i) 0 0 0 0 0 0 0 0 0 false false [] j) (Go.Ev.Ends E Tryz.f76 (iI (firstI (xs.drop i))) [])
 | 0, i, hk, j => by
  rw [List.drop_eq_nil_of_le (by omega)]
  exact p76x hE vZ [] (iD xs) [] 0 (n) 0 (i) 0 0 0 0 0 0 0 0 0 false false [] (decide_eq_false (by (try simp only [Int.ofNat_eq_natCast]); omega)) (fun j => outK_ret (ends_ret (by kernel_rfl))) j
 | m + 1, i, hk, j => by
  have hlt : i < xs.length := by omega
  have hx : xs[i]? = some xs[i] := List.getElem?_eq_getElem hlt
  rw [List.drop_eq_getElem_cons hlt]
  generalize xs[i] = z at hx
  have hu : firstI (z :: xs.drop (i + 1)) = if z = 0 then firstI (xs.drop (i + 1)) else z := rfl
  rw [hu]
  by_cases hz : z = 0
  ·rw [if_pos hz]
   exact p76s hE vZ [] (iD xs) [] 0 (n) 0 (i) 0 0 0 0 0 0 0 (z) 0 false false [] (decide_eq_true (by (try simp only [Int.ofNat_eq_natCast]); omega)) ⟨by (try simp only [Int.ofNat_eq_natCast]); omega, by (try simp only [Int.ofNat_eq_natCast]); omega⟩ (Nat.mul_one _) (getI hx) (by rw [hz]; rfl) (iIe (by (try simp only [Int.ofNat_eq_natCast]); rw [wrap_id (by omega) (by omega)]; try omega)) (l76 hE xs n hn hm m (i + 1) (by omega)) j
  ·rw [if_neg hz]
   exact p76e hE vZ [] (iD xs) [] 0 (n) 0 (i) 0 0 0 0 0 0 0 (z) 0 false false [] (decide_eq_true (by (try simp only [Int.ofNat_eq_natCast]); omega)) ⟨by (try simp only [Int.ofNat_eq_natCast]); omega, by (try simp only [Int.ofNat_eq_natCast]); omega⟩ (Nat.mul_one _) (getI hx) (bne_iff_ne.2 hz) (fun j => outK_ret (ends_ret (by kernel_rfl))) j
theorem K76 (hE : EnvOk E) (xs : List Int) (hm : xs.length ≤ 4000000) : COut E 0 [] 76 [dI xs] (iI (firstI xs)) [] :=
 cOut_start Tryz.func76 rfl (p76a hE vZ [] (iD xs) [] 0 (xs.length) 0 0 0 0 0 0 0 0 0 0 0 false false [] (l76 hE xs _ rfl hm xs.length 0 rfl) fun _ => undef)
theorem l82 (hE : EnvOk E) (xs : List Int) (n : Nat) (hn : xs.length = n) (hm : n ≤ 4000000) : ∀ m i, m + i = n → ∀ j, OutK E 0 0 (q82 vZ [] (iD xs) [] 0 (n) 0 (i) 0 0 0 0 0 0 0 0 0 false false [] j) (Go.Ev.Ends E Tryz.f82 (iI (firstI (xs.drop i))) [])
 | 0, i, hk, j => by
  rw [List.drop_eq_nil_of_le (by omega)]
  exact p82x hE vZ [] (iD xs) [] 0 (n) 0 (i) 0 0 0 0 0 0 0 0 0 false false [] (decide_eq_false (by (try simp only [Int.ofNat_eq_natCast]); omega)) (fun j => outK_ret (ends_ret (by kernel_rfl))) j
 | m + 1, i, hk, j => by
  have hlt : i < xs.length := by omega
  have hx : xs[i]? = some xs[i] := List.getElem?_eq_getElem hlt
  rw [List.drop_eq_getElem_cons hlt]
  generalize xs[i] = z at hx
  have hu : firstI (z :: xs.drop (i + 1)) = if z = 0 then firstI (xs.drop (i + 1)) else z := rfl
  rw [hu]
  by_cases hz : z = 0
  ·rw [if_pos hz]
   exact p82s hE vZ [] (iD xs) [] 0 (n) 0 (i) 0 0 0 0 0 0 0 (z) 0 false false [] (decide_eq_true (by (try simp only [Int.ofNat_eq_natCast]); omega)) ⟨by (try simp only [Int.ofNat_eq_natCast]); omega, by (try simp only [Int.ofNat_eq_natCast]); omega⟩ (Nat.mul_one _) (getI hx) (by rw [hz]; rfl) (iIe (by (try simp only [Int.ofNat_eq_natCast]); rw [wrap_id (by omega) (by omega)]; try omega)) (l82 hE xs n hn hm m (i + 1) (by omega)) j
  ·rw [if_neg hz]
   exact p82e hE vZ [] (iD xs) [] 0 (n) 0 (i) 0 0 0 0 0 0 0 (z) 0 false false [] (decide_eq_true (by (try simp only [Int.ofNat_eq_natCast]); omega)) ⟨by (try simp only [Int.ofNat_eq_natCast]); omega, by (try simp only [Int.ofNat_eq_natCast]); omega⟩ (Nat.mul_one _) (getI hx) (bne_iff_ne.2 hz) ⟨by (try simp only [Int.ofNat_eq_natCast]); omega, by (try simp only [Int.ofNat_eq_natCast]); omega⟩ (Nat.mul_one _) (getI hx) (fun j => outK_ret (ends_ret (by kernel_rfl))) j
theorem K82 (hE : EnvOk E) (xs : List Int) (hm : xs.length ≤ 4000000) : COut E 0 [] 82 [dI xs] (iI (firstI xs)) [] :=
 cOut_start Tryz.func82 rfl (p82a hE vZ [] (iD xs) [] 0 (xs.length) 0 0 0 0 0 0 0 0 0 0 0 false false [] (l82 hE xs _ rfl hm xs.length 0 rfl) fun _ => undef)
theorem K16 (hE : EnvOk E) (xs : List Int) (hm : xs.length ≤ 4000000) : COut E 0 [] 16 [dI xs] (iI (firstI xs)) [] :=
 cOut_start Tryz.func16 rfl (p16 hE vZ [] (iD xs) [] 0 (xs.length) 0 0 0 0 0 0 (firstI xs) 0 0 0 0 false false [] (K82 hE xs hm) (fun j => outK_ret (ends_ret (by kernel_rfl))) fun _ => undef)
theorem K22 (hE : EnvOk E) (x e z : Int) (h : x = if e = 0 then z else 0) : COut E 0 [] 22 [iI x, iI e, iI e, iI z] (iB true) [] := by
 rw [← beq_self_eq_true e]
 by_cases c : e = 0
 ·rw [if_pos c] at h
  subst h c
  exact cOut_start Tryz.func22 rfl (p22t hE vZ [] [] [] 0 0 0 0 (x) 0 0 0 0 0 0 (x) 0 false false [] rfl (by simp) (by simp) (by simp) (by simp) (fun j => outK_ret (ends_ret (by kernel_rfl))) fun _ => undef)
 ·rw [if_neg c] at h
  subst h
  exact cOut_start Tryz.func22 rfl (p22f hE vZ [] [] [] 0 0 0 0 (0) 0 0 0 (e) (e) 0 (z) 0 false false [] (bne_iff_ne.2 c) rfl rfl rfl rfl (fun j => outK_ret (ends_ret (by kernel_rfl))) fun _ => undef)
def HB (V : AccP) (U : List DT) (un : Nat) (ac : Bool) (b : Int) : Heap := [bK (zAc V ac U un) 22 29, bK [.v (.int .i64 b)] 1 3, bK [.clo 136 [] [.one (.ptr 1 0)]] 1 142]
theorem K136 (hE : EnvOk E) (V : AccP) (U : List DT) (un : Nat) (ac : Bool) (x b : Int) : COut E 0 (HB V U un ac b) 136 [iI x, .e (.one (.ptr 1 0))] (iI (if x ≤ b then 11 else 0)) (HB V U un ac x) := by
 have k := K78 hE (decide (x ≤ b)) 11
 rw [show (if decide (x ≤ b) = true then (11 : Int) else 0) = if x ≤ b then 11 else 0 by simp] at k
 exact cOut_start Tryz.func136 rfl (p136 hE (V) (U) [] [] (un) 0 0 0 (x) (b) 0 0 (if x ≤ b then 11 else 0) 0 0 0 0 false (ac) [] k (fun j => outK_ret (ends_ret (by kernel_rfl))) fun _ => undef)
def rise1 (b x : Int) : Int := firstI [num x, if x ≤ b then 11 else 0]
theorem K87 (hE : EnvOk E) (V : AccP) (U : List DT) (un : Nat) (ac : Bool) (x b : Int) : COut E 0 (HB V U un ac b) 87 [iI x, .e (.one (.ptr 2 0))] (iI (rise1 b x)) (HB V U un ac x) :=
 cOut_start Tryz.func87 rfl (p87 hE (V) (U) [] [] (un) 0 0 0 (x) (b) 0 0 (rise1 b x) (num x) (if x ≤ b then 11 else 0) 0 0 false (ac) [] (K88 hE x) (K136 hE V U un ac x b) (lend2 4 hE 76 [num x, if x ≤ b then 11 else 0] _ 30 true (K76 hE _ (by simp)) _ 3 rfl) (fun j => outK_ret (ends_ret (by kernel_rfl))) fun _ => undef)
def riseE : Int → List Int → Int
 | _, [] => 0
 | b, z :: l => if rise1 b z = 0 then riseE z l else rise1 b z
def riseB : Int → List Int → Int
 | b, [] => b
 | b, z :: l => if rise1 b z = 0 then riseB z l else z
theorem l137 (hE : EnvOk E) (V : AccP) (U : List DT) (un : Nat) (ac : Bool) (xs : List Int) (n : Nat) (hn : xs.length = n) (hm : n ≤ 4000000) : ∀ m i b, m + i = n → ∀ j, OutK E 0 3 (q137 (V) (U) (iD xs) [] (un) (n) 0 (i) 0 (b) 0 0 0 0 0 0 0 false (ac) [] j) (Go.Ev.Ends E Tryz.f137 (iI (riseE b (xs.drop i))) (HB V U un ac (riseB b (xs.drop i))))
 | 0, i, b, hk, j => by
  rw [List.drop_eq_nil_of_le (by omega)]
  exact p137x hE (V) (U) (iD xs) [] (un) (n) 0 (i) 0 (b) 0 0 0 0 0 0 0 false (ac) [] (decide_eq_false (by (try simp only [Int.ofNat_eq_natCast]); omega)) (fun j => outK_ret (ends_ret (by kernel_rfl))) j
 | m + 1, i, b, hk, j => by
  have hlt : i < xs.length := by omega
  have hx : xs[i]? = some xs[i] := List.getElem?_eq_getElem hlt
  rw [List.drop_eq_getElem_cons hlt]
  generalize xs[i] = z at hx
  have h1 : riseE b (z :: xs.drop (i + 1)) = if rise1 b z = 0 then riseE z (xs.drop (i + 1)) else rise1 b z := rfl
  have h2 : riseB b (z :: xs.drop (i + 1)) = if rise1 b z = 0 then riseB z (xs.drop (i + 1)) else z := rfl
  rw [h1, h2]
  by_cases hz : rise1 b z = 0
  ·rw [if_pos hz, if_pos hz]
   exact p137s hE (V) (U) (iD xs) [] (un) (n) 0 (i) 0 (b) 0 0 (rise1 b z) 0 0 (z) 0 false (ac) [] (decide_eq_true (by (try simp only [Int.ofNat_eq_natCast]); omega)) ⟨by (try simp only [Int.ofNat_eq_natCast]); omega, by (try simp only [Int.ofNat_eq_natCast]); omega⟩ (Nat.mul_one _) (getI hx) (K87 hE V U un ac z b) (by rw [hz]; rfl) (iIe (by (try simp only [Int.ofNat_eq_natCast]); rw [wrap_id (by omega) (by omega)]; try omega)) (l137 hE V U un ac xs n hn hm m (i + 1) z (by omega)) j
  ·rw [if_neg hz, if_neg hz]
   exact p137e hE (V) (U) (iD xs) [] (un) (n) 0 (i) 0 (b) 0 0 (rise1 b z) 0 0 (z) 0 false (ac) [] (decide_eq_true (by (try simp only [Int.ofNat_eq_natCast]); omega)) ⟨by (try simp only [Int.ofNat_eq_natCast]); omega, by (try simp only [Int.ofNat_eq_natCast]); omega⟩ (Nat.mul_one _) (getI hx) (K87 hE V U un ac z b) (bne_iff_ne.2 hz) (fun j => outK_ret (ends_ret (by kernel_rfl))) j
theorem K137 (hE : EnvOk E) (V : AccP) (U : List DT) (un : Nat) (ac : Bool) (xs : List Int) (n : Nat) (hn : xs.length = n) (hm : n ≤ 4000000) (b : Int) : COut E 0 (HB V U un ac b) 137 [.e (.one (.dp (.s (iD xs) n 1))), (.e (.one (.clo 87 [] [.one (.ptr 2 0)])))] (iI (riseE b xs)) (HB V U un ac (riseB b xs)) :=
 cOut_start Tryz.func137 rfl (p137a hE (V) (U) (iD xs) [] (un) (n) 0 0 0 (b) 0 0 0 0 0 0 0 false (ac) []  (l137 hE V U un ac xs n hn hm n 0 b rfl) fun _ => undef)
theorem K86 (hE : EnvOk E) (V : AccP) (U : List DT) (un : Nat) (ac : Bool) (xs : List Int) (n : Nat) (hn : xs.length = n) (hm : n ≤ 4000000) (b : Int) : COut E 0 (HB V U un ac b) 86 [.e (.one (.dp (.s (iD xs) n 1))), iI 256, (.e (.one (.clo 87 [] [.one (.ptr 2 0)])))] (iI (if 256 < n then 5 else riseE b xs)) (HB V U un ac (if 256 < n then b else riseB b xs)) := by
 by_cases h : 256 < n
 ·rw [if_pos h, if_pos h]
  exact cOut_start Tryz.func86 rfl (p86m hE (V) (U) (iD xs) [] (un) (n) 0 0 0 (b) (256) 0 0 0 0 0 0 false (ac) [] (decide_eq_true (by (try simp only [Int.ofNat_eq_natCast]); omega)) (fun j => outK_ret (ends_ret (by kernel_rfl))) fun _ => undef)
 ·rw [if_neg h, if_neg h]
  exact cOut_start Tryz.func86 rfl (p86 hE (V) (U) (iD xs) [] (un) (n) 0 0 0 (b) (256) 0 (riseE b xs) 0 0 (riseB b xs) 0 false (ac) [] (decide_eq_false (by (try simp only [Int.ofNat_eq_natCast]); omega)) (K137 hE V U un ac xs n hn hm b) (fun j => outK_ret (ends_ret (by kernel_rfl))) fun _ => undef)
end
end Go.Proofs.YtmefachijohnhaaGreatDoor.Bk
end

/-! SeEqB -/
section
open Go Go.Ev Go.RowKit
open Extern.Stop
namespace Go.Proofs.YtmefachijohnhaaGreatDoor
noncomputable section
section
variable {P : Program} (w : World)
theorem run_equalIn_cells (d : Nat) (t e : TypeId) (n : Nat) {u : TypeDesc} (hag : isAggD u = false) (ht : P.underlying t = some (.array n e)) (he : P.underlying e = some u) (hsz : ∀ w, (sizeOf e).run P w = .ok 1 w)
  (xs ys : List Value) (hx : xs.length = n) (hy : ys.length = n) (q : Nat → Bool) (hq : ∀ i x y, xs[i]? = some x → ys[i]? = some y → (Op.equalIn (d + 1) e x y).run P w = .ok (q i) w) :
  (Op.equalIn (d + 2) t (.agg xs.toArray) (.agg ys.toArray)).run P w = .ok ((List.range n).all q) w := by
 rw [List.range_eq_range', Op.equalIn]
 simp only [Sem.run_bind, run_underlying ht, Result.andThen_ok, hsz, Std.Legacy.Range.forIn_eq_forIn_range', Std.Legacy.Range.size, Nat.sub_zero, Nat.add_sub_cancel, Nat.div_one]
 have hl : ∀ i ∈ List.range' 0 n 1, i < n := fun i hi => by simpa using (List.mem_range'_1.1 hi).2
 generalize List.range' 0 n 1 = l at hl ⊢
 induction l with
 | nil => simp
 | cons i l ih =>
  have hi : i < n := hl i (by simp)
  have gx : xs[i]? = some xs[i] := List.getElem?_eq_getElem (show i < xs.length by omega)
  have gy : ys[i]? = some ys[i] := List.getElem?_eq_getElem (show i < ys.length by omega)
  have part_one : ∀ (zs : List Value) (z : Value), zs[i]? = some z → (part e zs.toArray (i * 1)).run P w = .ok z w := by
   intro zs z hz
   have : (isAgg e).run P w = .ok false w := by
    simp only [isAgg, Sem.run_bind, run_underlying he, Result.andThen_ok]
    cases u <;> simp_all [isAggD]
   simp [part, this, hz]
  simp only [List.forIn_cons, Sem.run_bind, part_one xs _ gx, part_one ys _ gy, hq i _ _ gx gy, Result.andThen_ok, List.all_cons]
  cases hb : q i
  ·simp
  ·simp only [Bool.not_true, Bool.false_eq_true, if_false, Sem.run_pure, Result.andThen_ok, Bool.true_and]
   exact ih fun j hj => hl j (by simp [hj])
end
theorem some_of {α β : Type} {o : Option α} {f : α → β} {b : β} (h : o.map f = some b) : ∃ a, o = some a ∧ f a = b := by
 cases o with
 | none => simp at h
 | some a => exact ⟨a, rfl, by simpa using h⟩
theorem size1 {e : TypeId} (h : (Tryz.prog.info? e).map (·.size) = some 1) (w : World) : (sizeOf e).run Tryz.prog w = .ok 1 w := by
 obtain ⟨i, hi, hz⟩ := some_of h
 rw [Go.Ev.run_sizeOf hi w, hz]
theorem eqArr {t e n : Nat} {u : TypeDesc} (hag : isAggD u = false) (ht : Tryz.prog.underlying t = some (.array n e)) (he : Tryz.prog.underlying e = some u) (hsz : (Tryz.prog.info? e).map (·.size) = some 1)
  {xs ys : List Value} (hx : xs.length = n) (hy : ys.length = n) (q : Nat → Bool) (hq : ∀ (w : World) i x y, xs[i]? = some x → ys[i]? = some y → (Op.equalIn 9999 e x y).run Tryz.prog w = .ok (q i) w) : EqOk E t (xs.map AC.v) (ys.map AC.v) ((List.range n).all q) := by
 intro m c1 c2 w h1 h2
 have e1 : c1 = xs.toArray := by rw [← Array.toList_inj]; exact cells_of h1
 have e2 : c2 = ys.toArray := by rw [← Array.toList_inj]; exact cells_of h2
 subst e1 e2
 show (Op.equalIn 10000 t _ _).run Tryz.prog w = _
 exact run_equalIn_cells w 9998 t e n hag ht he (size1 hsz) xs ys hx hy q (hq w)
theorem u23_ : Tryz.prog.underlying 23 = some (.array 8 5) := by kernel_rfl
theorem u5_ : Tryz.prog.underlying 5 = some (.int .u8) := by kernel_rfl
def sameK (l l' : List Int) : Bool := (List.range 8).all fun i => (l[i]?.getD 0) == (l'[i]?.getD 0)
theorem eqK (l l' : List Int) (h : l.length = 8) (h' : l'.length = 8) : EqOk E 23 ((l.map (Value.int .u8)).map AC.v) ((l'.map (Value.int .u8)).map AC.v) (sameK l l') :=
 eqArr (t := 23) (e := 5) (n := 8) (u := .int .u8) rfl u23_ u5_ (by kernel_rfl) (by simp [h]) (by simp [h']) (fun i => (l[i]?.getD 0) == (l'[i]?.getD 0)) (fun w i x y hx hy => by
  rw [List.getElem?_map] at hx hy
  cases e1 : l[i]? with
  | none => rw [e1] at hx; simp at hx
  | some a =>
   cases e2 : l'[i]? with
   | none => rw [e2] at hy; simp at hy
   | some b =>
    rw [e1] at hx; rw [e2] at hy
    simp only [Option.map_some, Option.some.injEq] at hx hy
    subst hx hy
    rw [show (9999 : Nat) = 9998 + 1 from rfl]
    exact run_equalIn_int w 9998 5 .u8 .u8 a b u5_)
end
end Go.Proofs.YtmefachijohnhaaGreatDoor
end

/-! SeCl -/
section
open Go Go.Shelf Go.Ev Go.RowKit Go.Lib Go.Proofs
namespace Go.Proofs.YtmefachijohnhaaGreatDoor
set_option maxRecDepth 100000
end Go.Proofs.YtmefachijohnhaaGreatDoor
end

/-! SeBb -/
section
open Go Go.Ev
namespace Go.Proofs.YtmefachijohnhaaGreatDoor.Bk
noncomputable section
set_option maxRecDepth 100000
set_option maxHeartbeats 20000000
abbrev ztBb0 : List Item := [(.code (atC [1, 1, 0, 1, 0, 0] (bodyOf Tryz.f15))), (.inLoop (atC [1, 1, 0, 1, 0, 0] (bodyOf Tryz.f15))), (.inBlock 0), (.code (atC [1, 1, 1] (bodyOf Tryz.f15)))]
def s9 (V _W : AccP) (U _C _C2 : List DT) (un _n _p _i : Nat) (_b _x _y _z _w _f _g _h : Int) (ac _c _a : Bool) (_D _X : List AC) (_j : Nat → Value) : St := startK Tryz.f9 [] [(.e (.agg (zAc V ac U un)))]
def s80 (V _W : AccP) (U _C _C2 : List DT) (un _n _p _i : Nat) (_b _x _y _z _w _f _g _h : Int) (ac _c _a : Bool) (_D _X : List AC) (_j : Nat → Value) : St := startK Tryz.f80 [] [(.e (.agg (zAc V ac U un)))]
def s12 (V _W : AccP) (U _C _C2 : List DT) (un _n _p _i : Nat) (_b _x _y _z _w _f _g _h : Int) (ac _c _a : Bool) (_D _X : List AC) (_j : Nat → Value) : St := startK Tryz.f12 [] [(.e (.agg (zAc V ac U un)))]
def s15 (V _W : AccP) (U _C _C2 : List DT) (un _n _p _i : Nat) (_b _x _y _z _w _f _g _h : Int) (ac _c _a : Bool) (_D _X : List AC) (_j : Nat → Value) : St := startK Tryz.f15 [] [(.e (.agg (zAc V ac U un)))]
def s19 (V _W : AccP) (U _C _C2 : List DT) (un _n _p _i : Nat) (_b _x _y _z _w _f _g _h : Int) (ac _c _a : Bool) (_D _X : List AC) (_j : Nat → Value) : St := startK Tryz.f19 [] [(.e (.agg (zAc V ac U un)))]
def s20 (V _W : AccP) (U _C _C2 : List DT) (un _n _p _i : Nat) (_b _x _y _z _w _f _g _h : Int) (ac _c _a : Bool) (_D _X : List AC) (_j : Nat → Value) : St := startK Tryz.f20 [] [(.e (.agg (zAc V ac U un)))]
def s81 (V _W : AccP) (U _C _C2 : List DT) (un _n _p _i : Nat) (_b _x _y _z _w _f _g _h : Int) (ac _c _a : Bool) (_D _X : List AC) (_j : Nat → Value) : St := startK Tryz.f81 [] [(.e (.agg (zAc V ac U un)))]
def q15 (V _W : AccP) (U _C _C2 : List DT) (un _n _p i : Nat) (_b _x _y _z _w _f _g _h : Int) (ac _c _a : Bool) (_D _X : List AC) (j : Nat → Value) : St := ⟨[(zBk (zAc V ac U un) 22 26)], ztBb0, mkT j [(1, (.e (.one (.ptr 0 0)))), (4, (iI (Int.ofNat i)))] 70 0⟩
def p9a_end (_V : AccP) (_W : AccP) (_U : List DT) (_C : List DT) (_C2 : List DT) (_un _n _p _i : Nat) (_b _x _y _z _w _f _g _h : Int) (_ac _c _a : Bool) (_D _X : List AC) (j : Nat → Value) : St := ⟨[], [(.code .ret)], mkT j [(2, (iB true))] 19 0⟩
theorem p9a (hE : EnvOk E) (V : AccP) (W : AccP) (U : List DT) (C : List DT) (C2 : List DT) (un n p i : Nat) (b x y z w f g h : Int) (ac c a : Bool) (D X : List AC) (h0 : (decide ((↑un : Int) ≤ (12 : Int)) == false : Bool) = false) (h1 : (decide ((↑un : Int) ≤ (12 : Int)) == false : Bool) = false) (h2 : (decide ((↑un : Int) ≤ (12 : Int)) == false : Bool) = false) (h3 : (decide ((↑un : Int) ≤ (12 : Int)) == false : Bool) = false) (h4 : (decide ((↑un : Int) ≤ (12 : Int)) : Bool) = true) : Sg 0 0 (s9 V W U C C2 un n p i b x y z w f g h ac c a D X) (p9a_end V W U C C2 un n p i b x y z w f g h ac c a D X) := fun ho j =>
 oS hE [.run 3, (.ops [(2, (.d .len)), (9, (.pk true))] [(5, false), (6, false), (7, false), (8, false)])] [2] (s' := fun j => ⟨[(zBk (zAc V ac U un) 22 26)], [(.code .ret)], mkT j [(2, (iB true))] 19 0⟩) (aP h0 <| aP h1 <| aP h2 <| aP h3 <| aP h4 <| aZ)
  fun j => gZ [] (ho j)
def p9b_end (_V : AccP) (_W : AccP) (_U : List DT) (_C : List DT) (_C2 : List DT) (_un _n _p _i : Nat) (_b _x _y _z _w _f _g _h : Int) (_ac _c _a : Bool) (_D _X : List AC) (j : Nat → Value) : St := ⟨[], [(.code .ret)], mkT j [(2, (iB true))] 19 0⟩
theorem p9b (hE : EnvOk E) (V : AccP) (W : AccP) (U : List DT) (C : List DT) (C2 : List DT) (un n p i : Nat) (b x y z w f g h : Int) (ac c a : Bool) (D X : List AC) (h0 : (decide ((↑un : Int) ≤ (12 : Int)) == false : Bool) = true) (h1 : (decide ((↑un : Int) ≤ (12 : Int)) == false : Bool) = true) (h2 : (decide ((↑un : Int) ≤ (12 : Int)) == false : Bool) = true) (h3 : (decide ((↑un : Int) ≤ (12 : Int)) == false : Bool) = true) (h4 : (decide ((↑un : Int) ≤ (12 : Int)) : Bool) = false) (h5 : (((↑un : Int) == (256 : Int)) == false : Bool) = false) (h6 : (((↑un : Int) == (256 : Int)) == false : Bool) = false) (h7 : (((↑un : Int) == (256 : Int)) == false : Bool) = false) (h8 : (((↑un : Int) == (256 : Int)) == false : Bool) = false) (h9 : ((↑un : Int) == (256 : Int) : Bool) = true) : Sg 0 0 (s9 V W U C C2 un n p i b x y z w f g h ac c a D X) (p9b_end V W U C C2 un n p i b x y z w f g h ac c a D X) := fun ho j =>
 oS hE [.run 3, (.ops [(2, (.d .len)), (7, (.d .len)), (9, (.pk false)), (15, (.pk true))] [(5, true), (6, true), (7, true), (8, true), (11, false), (12, false), (13, false), (14, false)])] [2] (s' := fun j => ⟨[(zBk (zAc V ac U un) 22 26)], [(.code .ret)], mkT j [(2, (iB true))] 19 0⟩) (aP h0 <| aP h1 <| aP h2 <| aP h3 <| aP h4 <| aP h5 <| aP h6 <| aP h7 <| aP h8 <| aP h9 <| aZ)
  fun j => gZ [] (ho j)
def p9c_end (_V : AccP) (_W : AccP) (_U : List DT) (_C : List DT) (_C2 : List DT) (un _n _p _i : Nat) (_b _x _y _z _w _f _g _h : Int) (_ac _c _a : Bool) (_D _X : List AC) (j : Nat → Value) : St := ⟨[], [(.code .ret)], mkT j [(2, (iB ((↑un : Int) == (257 : Int))))] 19 0⟩
theorem p9c (hE : EnvOk E) (V : AccP) (W : AccP) (U : List DT) (C : List DT) (C2 : List DT) (un n p i : Nat) (b x y z w f g h : Int) (ac c a : Bool) (D X : List AC) (h0 : (decide ((↑un : Int) ≤ (12 : Int)) == false : Bool) = true) (h1 : (decide ((↑un : Int) ≤ (12 : Int)) == false : Bool) = true) (h2 : (decide ((↑un : Int) ≤ (12 : Int)) == false : Bool) = true) (h3 : (decide ((↑un : Int) ≤ (12 : Int)) == false : Bool) = true) (h4 : (decide ((↑un : Int) ≤ (12 : Int)) : Bool) = false) (h5 : (((↑un : Int) == (256 : Int)) == false : Bool) = true) (h6 : (((↑un : Int) == (256 : Int)) == false : Bool) = true) (h7 : (((↑un : Int) == (256 : Int)) == false : Bool) = true) (h8 : (((↑un : Int) == (256 : Int)) == false : Bool) = true) (h9 : ((↑un : Int) == (256 : Int) : Bool) = false) : Sg 0 0 (s9 V W U C C2 un n p i b x y z w f g h ac c a D X) (p9c_end V W U C C2 un n p i b x y z w f g h ac c a D X) := fun ho j =>
 oS hE [.run 3, (.ops [(2, (.d .len)), (7, (.d .len)), (9, (.pk false)), (13, (.d .len)), (15, (.pk false))] [(5, true), (6, true), (7, true), (8, true), (11, true), (12, true), (13, true), (14, true)])] [2] (s' := fun j => ⟨[(zBk (zAc V ac U un) 22 26)], [(.code .ret)], mkT j [(2, (iB ((↑un : Int) == (257 : Int))))] 19 0⟩) (aP h0 <| aP h1 <| aP h2 <| aP h3 <| aP h4 <| aP h5 <| aP h6 <| aP h7 <| aP h8 <| aP h9 <| aZ)
  fun j => gZ [] (ho j)
def p9x_end (_V : AccP) (_W : AccP) (_U : List DT) (_C : List DT) (_C2 : List DT) (un _n _p _i : Nat) (_b _x _y _z _w _f _g _h : Int) (_ac _c _a : Bool) (_D _X : List AC) (j : Nat → Value) : St := ⟨[], [(.code .ret)], mkT j [(2, (iB ((↑un : Int) == (257 : Int))))] 19 0⟩
theorem p9x (hE : EnvOk E) (V : AccP) (W : AccP) (U : List DT) (C : List DT) (C2 : List DT) (un n p i : Nat) (b x y z w f g h : Int) (ac c a : Bool) (D X : List AC) (h0 : (decide ((↑un : Int) ≤ (12 : Int)) == false : Bool) = true) (h1 : (decide ((↑un : Int) ≤ (12 : Int)) == false : Bool) = true) (h2 : (decide ((↑un : Int) ≤ (12 : Int)) == false : Bool) = true) (h3 : (decide ((↑un : Int) ≤ (12 : Int)) == false : Bool) = true) (h4 : (decide ((↑un : Int) ≤ (12 : Int)) : Bool) = false) (h5 : (((↑un : Int) == (256 : Int)) == false : Bool) = true) (h6 : (((↑un : Int) == (256 : Int)) == false : Bool) = true) (h7 : (((↑un : Int) == (256 : Int)) == false : Bool) = true) (h8 : (((↑un : Int) == (256 : Int)) == false : Bool) = true) (h9 : ((↑un : Int) == (256 : Int) : Bool) = false) : Sg 0 0 (s9 V W U C C2 un n p i b x y z w f g h ac c a D X) (p9x_end V W U C C2 un n p i b x y z w f g h ac c a D X) := fun ho j =>
 oS hE [.run 3, (.ops [(2, (.d .len)), (7, (.d .len)), (9, (.pk false)), (13, (.d .len)), (15, (.pk false))] [(5, true), (6, true), (7, true), (8, true), (11, true), (12, true), (13, true), (14, true)])] [2] (s' := fun j => ⟨[(zBk (zAc V ac U un) 22 26)], [(.code .ret)], mkT j [(2, (iB ((↑un : Int) == (257 : Int))))] 19 0⟩) (aP h0 <| aP h1 <| aP h2 <| aP h3 <| aP h4 <| aP h5 <| aP h6 <| aP h7 <| aP h8 <| aP h9 <| aZ)
  fun j => gZ [] (ho j)
def p80_end (V : AccP) (_W : AccP) (_U : List DT) (_C : List DT) (_C2 : List DT) (un _n _p _i : Nat) (_b _x _y _z _w _f _g _h : Int) (ac _c a : Bool) (_D X : List AC) (j : Nat → Value) : St := ⟨[(zBk (accN V [(.v (.bool (ac))), (.slc 1 0 (un) 1 (un) (a))]) 22 26), (.some ⟨(X), (un), 3, (a), .cells⟩)], [(.code .ret)], mkT j [(2, (.e (.one (.ptr 0 0))))] 9 0⟩
theorem p80 (hE : EnvOk E) (V : AccP) (W : AccP) (U : List DT) (C : List DT) (C2 : List DT) (un n p i : Nat) (b x y z w f g h : Int) (ac c a : Bool) (D X : List AC) (h0 : CopyOk [(zBk (zAc V ac U un) 22 26), (zBk zAz 22 26), (zBk [] 0 3)] 1 8 (.e (.one (.dp (.s (U) (un) 1)))) un X a) (h1 : (un * 1 : Nat) = un) (g0 : FlatC (X)) : Sg 0 0 (s80 V W U C C2 un n p i b x y z w f g h ac c a D X) (p80_end V W U C C2 un n p i b x y z w f g h ac c a D X) := fun ho j =>
 oS hE [.run 3, (.ops [(3, (.cpu (un) (un) (X) (a)))] []), .run 2] [2] (s' := fun j => ⟨[(zBk (accN V [(.v (.bool (ac))), (.slc 3 0 (un) 1 (un) (a))]) 22 26), (zBk (accN V [(.v (.bool (ac))), (.slc 3 0 (un) 1 (un) (a))]) 22 26), none, (.some ⟨(X), (un), 3, (a), .cells⟩)], [(.code .ret)], mkT j [(2, (.e (.one (.ptr 1 0))))] 9 0⟩) (aP h0 <| aP h1 <| aZ)
  fun j => outK_gcF [1, 3] [false, true] (h' := [(zBk (accN V [(.v (.bool (ac))), (.slc 1 0 (un) 1 (un) (a))]) 22 26), (.some ⟨(X), (un), 3, (a), .cells⟩)]) (by decide) (by kernel_rfl) (by kernel_rfl) ⟨g0, trivial⟩ (by kernel_rfl) (ho j)
def p12_end (V : AccP) (_W : AccP) (U : List DT) (_C : List DT) (_C2 : List DT) (un _n _p _i : Nat) (_b _x _y _z _w _f _g _h : Int) (ac _c _a : Bool) (_D _X : List AC) (j : Nat → Value) : St := ⟨[(zBk (zAc V ac U un) 22 29)], [(.code .ret)], mkT j [(2, (.e (.one (.ptr 0 0))))] 5 0⟩
theorem p12 (hE : EnvOk E) (V : AccP) (W : AccP) (U : List DT) (C : List DT) (C2 : List DT) (un n p i : Nat) (b x y z w f g h : Int) (ac c a : Bool) (D X : List AC) (h0 : COut E 0 [] 80 [(.e (.agg (zAc V ac U un)))] (.e (.agg (zAc V ac U un))) []) : Sg 0 0 (s12 V W U C C2 un n p i b x y z w f g h ac c a D X) (p12_end V W U C C2 un n p i b x y z w f g h ac c a D X) := fun ho j =>
 oS hE [.run 3, (.ops [(1, (.c0 (.e (.agg (zAc V ac U un)))))] [])] [2] (s' := fun j => ⟨[(zBk (zAc V ac U un) 22 26), (zBk (zAc V ac U un) 22 29)], [(.code .ret)], mkT j [(2, (.e (.one (.ptr 1 0))))] 5 0⟩) (aP h0 <| aN <| aZ)
  fun j => gZ [1] (ho j)
def p81_end (_V : AccP) (_W : AccP) (_U : List DT) (_C : List DT) (_C2 : List DT) (_un _n _p _i : Nat) (_b _x _y z _w _f _g _h : Int) (_ac _c _a : Bool) (_D _X : List AC) (j : Nat → Value) : St := ⟨[], [(.code .ret)], mkT j [(2, (iI (z)))] 8 0⟩
theorem p81 (hE : EnvOk E) (V : AccP) (W : AccP) (U : List DT) (C : List DT) (C2 : List DT) (un n p i : Nat) (b x y z w f g h : Int) (ac c a : Bool) (D X : List AC) (h0 : ((iI (wrapF IntKind.i64 (V.b + V.e))) : AV) = (iI (z))) : Sg 0 0 (s81 V W U C C2 un n p i b x y z w f g h ac c a D X) (p81_end V W U C C2 un n p i b x y z w f g h ac c a D X) := fun ho j =>
 oS hE [.run 3, (.ops [(4, (.rn (iI (z))))] [])] [2] (s' := fun j => ⟨[(zBk (zAc V ac U un) 22 29)], [(.code .ret)], mkT j [(2, (iI (z)))] 8 0⟩) (aP h0 <| aZ)
  fun j => gZ [] (ho j)
def p19_end (_V : AccP) (_W : AccP) (_U : List DT) (_C : List DT) (_C2 : List DT) (_un _n _p _i : Nat) (_b _x _y z _w _f _g _h : Int) (_ac _c _a : Bool) (_D _X : List AC) (j : Nat → Value) : St := ⟨[], [(.code .ret)], mkT j [(2, (iI (z)))] 8 0⟩
theorem p19 (hE : EnvOk E) (V : AccP) (W : AccP) (U : List DT) (C : List DT) (C2 : List DT) (un n p i : Nat) (b x y z w f g h : Int) (ac c a : Bool) (D X : List AC) (h0 : ((iI (wrapF IntKind.i64 (V.b + V.e))) : AV) = (iI (z))) : Sg 0 0 (s19 V W U C C2 un n p i b x y z w f g h ac c a D X) (p19_end V W U C C2 un n p i b x y z w f g h ac c a D X) := fun ho j =>
 oS hE [.run 3, (.ops [(4, (.rn (iI (z))))] [])] [2] (s' := fun j => ⟨[(zBk (zAc V ac U un) 22 26)], [(.code .ret)], mkT j [(2, (iI (z)))] 8 0⟩) (aP h0 <| aZ)
  fun j => gZ [] (ho j)
def p20c_end (_V : AccP) (_W : AccP) (_U : List DT) (_C : List DT) (_C2 : List DT) (_un _n _p _i : Nat) (_b _x _y _z _w _f _g h : Int) (_ac _c _a : Bool) (_D _X : List AC) (j : Nat → Value) : St := ⟨[], [(.code .ret)], mkT j [(2, (iI (h)))] 33 0⟩
theorem p20c (hE : EnvOk E) (V : AccP) (W : AccP) (U : List DT) (C : List DT) (C2 : List DT) (un n p i : Nat) (b x y z w f g h : Int) (ac c a : Bool) (D X : List AC) (h0 : COut E 0 [] 77 [(iI (V.b)), (iI (-1000000000000)), (iI 1000000000000)] (iI (x)) []) (h2 : COut E 0 [] 77 [(iI (V.d)), (iI 0), (iI 1000000000000)] (iI (y)) []) (h4 : COut E 0 [] 77 [(iI (V.s)), (iI 0), (iI 100)] (iI (z)) []) (h6 : COut E 0 [] 77 [(iI (V.e)), (iI 0), (iI 100000000)] (iI (w)) []) (h8 : ((!ac) == true : Bool) = false) (h9 : ((!ac) == true : Bool) = false) (h10 : ((!ac) == true : Bool) = false) (h11 : ((!ac) == true : Bool) = false) (h12 : (!ac : Bool) = false) (h13 : COut E 0 [] 78 [(iB false), (iI 1)] (iI (f)) []) (h16 : COut E 0 [(zBk (zAc V ac U un) 22 29), (zBk [(.v (.int .i64 (-9223372036854775808)))] 1 3), (zBk [(.clo 136 [] [(.one (.ptr 1 0))])] 1 142)] 86 [(.e (.one (.dp (.s (U) (un) 1)))), (iI 256), (.e (.one (.clo 87 [] [(.one (.ptr 2 0))])))] (iI (g)) [(zBk (zAc V ac U un) 22 29), (zBk [.v (.int .i64 b)] 1 3), (zBk [(.clo 136 [] [(.one (.ptr 1 0))])] 1 142)]) (h17 : COut E 4 [(zBk (zAc V ac U un) 22 29), (zBk [.v (.int .i64 b)] 1 3), (zBk [(.clo 136 [] [(.one (.ptr 1 0))])] 1 142), (zBk [.v (.int .i64 x), .v (.int .i64 y), .v (.int .i64 z), .v (.int .i64 w), .v (.int .i64 f), .v (.int .i64 g)] 6 30)] 76 [(.e (.one (.slc 3 0 6 1 6 true)))] (iI (h)) [(zBk (zAc V ac U un) 22 29), (zBk [.v (.int .i64 b)] 1 3), (zBk [(.clo 136 [] [(.one (.ptr 1 0))])] 1 142), (zBk [.v (.int .i64 x), .v (.int .i64 y), .v (.int .i64 z), .v (.int .i64 w), .v (.int .i64 f), .v (.int .i64 g)] 6 30)]) : Sg 0 0 (s20 V W U C C2 un n p i b x y z w f g h ac c a D X) (p20c_end V W U C C2 un n p i b x y z w f g h ac c a D X) := fun ho j =>
 outK_seg hE (R4_ok hE) [.run 5, (.ops [(2, (.c0 (iI (x)))), (5, (.c0 (iI (y)))), (8, (.c0 (iI (z)))), (11, (.c0 (iI (w)))), (21, (.c0 (iI (f)))), (25, (.cw (iI (g)) [(zBk (zAc V ac U un) 22 29), (zBk [.v (.int .i64 b)] 1 3), (zBk [(.clo 136 [] [(.one (.ptr 1 0))])] 1 142)])), (27, (.d (.c1 (iI (h))))), (20, (.pk false))] [(16, false), (17, false), (18, false), (19, false)])] [2] (s' := fun j => ⟨[(zBk (zAc V ac U un) 22 29), (zBk [.v (.int .i64 b)] 1 3), (zBk [(.clo 136 [] [(.one (.ptr 1 0))])] 1 142), (zBk [.v (.int .i64 x), .v (.int .i64 y), .v (.int .i64 z), .v (.int .i64 w), .v (.int .i64 f), .v (.int .i64 g)] 6 30)], [(.code .ret)], mkT j [(2, (iI (h)))] 33 0⟩) (fun j => by kernel_rfl) (aP h0 <| aN <| aP h2 <| aN <| aP h4 <| aN <| aP h6 <| aN <| aP h8 <| aP h9 <| aP h10 <| aP h11 <| aP h12 <| aP h13 <| aN <| aP (rfl : (true : Bool) = true) <| aP h16 <| aP h17 <| aN <| aZ)
  fun j => gZ [] (ho j)
def p20n_end (_V : AccP) (_W : AccP) (_U : List DT) (_C : List DT) (_C2 : List DT) (_un _n _p _i : Nat) (_b _x _y _z _w _f _g h : Int) (_ac _c _a : Bool) (_D _X : List AC) (j : Nat → Value) : St := ⟨[], [(.code .ret)], mkT j [(2, (iI (h)))] 33 0⟩
theorem p20n (hE : EnvOk E) (V : AccP) (W : AccP) (U : List DT) (C : List DT) (C2 : List DT) (un n p i : Nat) (b x y z w f g h : Int) (ac c a : Bool) (D X : List AC) (h0 : COut E 0 [] 77 [(iI (V.b)), (iI (-1000000000000)), (iI 1000000000000)] (iI (x)) []) (h2 : COut E 0 [] 77 [(iI (V.d)), (iI 0), (iI 1000000000000)] (iI (y)) []) (h4 : COut E 0 [] 77 [(iI (V.s)), (iI 0), (iI 100)] (iI (z)) []) (h6 : COut E 0 [] 77 [(iI (V.e)), (iI 0), (iI 100000000)] (iI (w)) []) (h8 : ((!ac) == true : Bool) = true) (h9 : ((!ac) == true : Bool) = true) (h10 : ((!ac) == true : Bool) = true) (h11 : ((!ac) == true : Bool) = true) (h12 : EqOk E 23 (zB8 V.m0 V.m1 V.m2 V.m3 V.m4 V.m5 V.m6 V.m7) (zB8 0 0 0 0 0 0 0 0) !a) (h13 : (!ac : Bool) = true) (h14 : COut E 0 [] 78 [(iB (a)), (iI 1)] (iI (f)) []) (h17 : COut E 0 [(zBk (zAc V ac U un) 22 29), (zBk [(.v (.int .i64 (-9223372036854775808)))] 1 3), (zBk [(.clo 136 [] [(.one (.ptr 1 0))])] 1 142)] 86 [(.e (.one (.dp (.s (U) (un) 1)))), (iI 256), (.e (.one (.clo 87 [] [(.one (.ptr 2 0))])))] (iI (g)) [(zBk (zAc V ac U un) 22 29), (zBk [.v (.int .i64 b)] 1 3), (zBk [(.clo 136 [] [(.one (.ptr 1 0))])] 1 142)]) (h18 : COut E 4 [(zBk (zAc V ac U un) 22 29), (zBk [.v (.int .i64 b)] 1 3), (zBk [(.clo 136 [] [(.one (.ptr 1 0))])] 1 142), (zBk [.v (.int .i64 x), .v (.int .i64 y), .v (.int .i64 z), .v (.int .i64 w), .v (.int .i64 f), .v (.int .i64 g)] 6 30)] 76 [(.e (.one (.slc 3 0 6 1 6 true)))] (iI (h)) [(zBk (zAc V ac U un) 22 29), (zBk [.v (.int .i64 b)] 1 3), (zBk [(.clo 136 [] [(.one (.ptr 1 0))])] 1 142), (zBk [.v (.int .i64 x), .v (.int .i64 y), .v (.int .i64 z), .v (.int .i64 w), .v (.int .i64 f), .v (.int .i64 g)] 6 30)]) : Sg 0 0 (s20 V W U C C2 un n p i b x y z w f g h ac c a D X) (p20n_end V W U C C2 un n p i b x y z w f g h ac c a D X) := fun ho j =>
 outK_seg hE (R4_ok hE) [.run 5, (.ops [(2, (.c0 (iI (x)))), (5, (.c0 (iI (y)))), (8, (.c0 (iI (z)))), (11, (.c0 (iI (w)))), (19, (.eqs (a))), (21, (.c0 (iI (f)))), (25, (.cw (iI (g)) [(zBk (zAc V ac U un) 22 29), (zBk [.v (.int .i64 b)] 1 3), (zBk [(.clo 136 [] [(.one (.ptr 1 0))])] 1 142)])), (27, (.d (.c1 (iI (h))))), (20, (.pk true))] [(16, true), (17, true), (18, true), (19, true)])] [2] (s' := fun j => ⟨[(zBk (zAc V ac U un) 22 29), (zBk [.v (.int .i64 b)] 1 3), (zBk [(.clo 136 [] [(.one (.ptr 1 0))])] 1 142), (zBk [.v (.int .i64 x), .v (.int .i64 y), .v (.int .i64 z), .v (.int .i64 w), .v (.int .i64 f), .v (.int .i64 g)] 6 30)], [(.code .ret)], mkT j [(2, (iI (h)))] 33 0⟩) (fun j => by kernel_rfl) (aP h0 <| aN <| aP h2 <| aN <| aP h4 <| aN <| aP h6 <| aN <| aP h8 <| aP h9 <| aP h10 <| aP h11 <| aP h12 <| aP h13 <| aP h14 <| aN <| aP (rfl : (true : Bool) = true) <| aP h17 <| aP h18 <| aN <| aZ)
  fun j => gZ [] (ho j)
def p15ec_end (_V : AccP) (_W : AccP) (_U : List DT) (_C : List DT) (_C2 : List DT) (_un _n _p _i : Nat) (_b _x _y _z _w _f _g h : Int) (_ac _c _a : Bool) (_D _X : List AC) (j : Nat → Value) : St := ⟨[], [(.code .ret), (.code (atC [1, 1] (bodyOf Tryz.f15)))], mkT j [(2, (iI (h)))] 70 0⟩
theorem p15ec (hE : EnvOk E) (V : AccP) (W : AccP) (U : List DT) (C : List DT) (C2 : List DT) (un n p i : Nat) (b x y z w f g h : Int) (ac c a : Bool) (D X : List AC) (h0 : COut E 0 [] 17 [(iI (V.b)), (iI (-1000000000000)), (iI 1000000000000)] (iI (x)) []) (h2 : COut E 0 [] 17 [(iI (V.d)), (iI 0), (iI 1000000000000)] (iI (y)) []) (h4 : COut E 0 [] 17 [(iI (V.s)), (iI 0), (iI 100)] (iI (z)) []) (h6 : COut E 0 [] 17 [(iI (V.e)), (iI 0), (iI 100000000)] (iI (w)) []) (h8 : ((!ac) == true : Bool) = false) (h9 : ((!ac) == true : Bool) = false) (h10 : ((!ac) == true : Bool) = false) (h11 : ((!ac) == true : Bool) = false) (h12 : (!ac : Bool) = false) (h13 : COut E 0 [] 83 [(iB false), (iI 1)] (iI (f)) []) (h16 : COut E 0 [] 83 [(iB (decide ((↑un : Int) > (256 : Int)))), (iI 5)] (iI (g)) []) (h18 : COut E 2 [(zBk (zAc V ac U un) 22 26), (zBk [.v (.int .i64 x), .v (.int .i64 y), .v (.int .i64 z), .v (.int .i64 w), .v (.int .i64 f), .v (.int .i64 g)] 6 3)] 82 [(.e (.one (.slc 1 0 6 1 6 true)))] (iI (h)) [(zBk (zAc V ac U un) 22 26), (zBk [.v (.int .i64 x), .v (.int .i64 y), .v (.int .i64 z), .v (.int .i64 w), .v (.int .i64 f), .v (.int .i64 g)] 6 3)]) (h20 : (h != (0 : Int) : Bool) = true) : Sg 0 0 (s15 V W U C C2 un n p i b x y z w f g h ac c a D X) (p15ec_end V W U C C2 un n p i b x y z w f g h ac c a D X) := fun ho j =>
 oS hE [.run 4, (.ops [(2, (.c0 (iI (x)))), (5, (.c0 (iI (y)))), (8, (.c0 (iI (z)))), (11, (.c0 (iI (w)))), (21, (.c0 (iI (f)))), (26, (.c0 (iI (g)))), (28, (.d (.c1 (iI (h))))), (20, (.pk false)), (24, (.d .len))] [(16, false), (17, false), (18, false), (19, false)]), .run 2, (.cond true), .run 2] [2] (s' := fun j => ⟨[(zBk (zAc V ac U un) 22 26), (zBk [.v (.int .i64 x), .v (.int .i64 y), .v (.int .i64 z), .v (.int .i64 w), .v (.int .i64 f), .v (.int .i64 g)] 6 3)], [(.code .ret), (.code (atC [1, 1] (bodyOf Tryz.f15)))], mkT j [(2, (iI (h)))] 70 0⟩) (aP h0 <| aN <| aP h2 <| aN <| aP h4 <| aN <| aP h6 <| aN <| aP h8 <| aP h9 <| aP h10 <| aP h11 <| aP h12 <| aP h13 <| aN <| aP (rfl : (true : Bool) = true) <| aP h16 <| aN <| aP h18 <| aN <| aP h20 <| aZ)
  fun j => gZ [] (ho j)
def p15ac_end (V : AccP) (_W : AccP) (U : List DT) (_C : List DT) (_C2 : List DT) (un _n _p _i : Nat) (_b _x _y _z _w _f _g _h : Int) (ac _c _a : Bool) (_D _X : List AC) (j : Nat → Value) : St := ⟨[(zBk (zAc V ac U un) 22 26)], ztBb0, mkT j [(1, (.e (.one (.ptr 0 0)))), (4, (iI 0))] 70 0⟩
theorem p15ac (hE : EnvOk E) (V : AccP) (W : AccP) (U : List DT) (C : List DT) (C2 : List DT) (un n p i : Nat) (b x y z w f g h : Int) (ac c a : Bool) (D X : List AC) (h0 : COut E 0 [] 17 [(iI (V.b)), (iI (-1000000000000)), (iI 1000000000000)] (iI (x)) []) (h2 : COut E 0 [] 17 [(iI (V.d)), (iI 0), (iI 1000000000000)] (iI (y)) []) (h4 : COut E 0 [] 17 [(iI (V.s)), (iI 0), (iI 100)] (iI (z)) []) (h6 : COut E 0 [] 17 [(iI (V.e)), (iI 0), (iI 100000000)] (iI (w)) []) (h8 : ((!ac) == true : Bool) = false) (h9 : ((!ac) == true : Bool) = false) (h10 : ((!ac) == true : Bool) = false) (h11 : ((!ac) == true : Bool) = false) (h12 : (!ac : Bool) = false) (h13 : COut E 0 [] 83 [(iB false), (iI 1)] (iI (f)) []) (h16 : COut E 0 [] 83 [(iB (decide ((↑un : Int) > (256 : Int)))), (iI 5)] (iI (g)) []) (h18 : COut E 2 [(zBk (zAc V ac U un) 22 26), (zBk [.v (.int .i64 x), .v (.int .i64 y), .v (.int .i64 z), .v (.int .i64 w), .v (.int .i64 f), .v (.int .i64 g)] 6 3)] 82 [(.e (.one (.slc 1 0 6 1 6 true)))] (iI (h)) [(zBk (zAc V ac U un) 22 26), (zBk [.v (.int .i64 x), .v (.int .i64 y), .v (.int .i64 z), .v (.int .i64 w), .v (.int .i64 f), .v (.int .i64 g)] 6 3)]) (h20 : (h != (0 : Int) : Bool) = false) : Sg 0 0 (s15 V W U C C2 un n p i b x y z w f g h ac c a D X) (p15ac_end V W U C C2 un n p i b x y z w f g h ac c a D X) := fun ho j =>
 oS hE [.run 4, (.ops [(2, (.c0 (iI (x)))), (5, (.c0 (iI (y)))), (8, (.c0 (iI (z)))), (11, (.c0 (iI (w)))), (21, (.c0 (iI (f)))), (26, (.c0 (iI (g)))), (28, (.d (.c1 (iI (h))))), (20, (.pk false)), (24, (.d .len))] [(16, false), (17, false), (18, false), (19, false)]), .run 2, (.cond false), .run 6] [1, 4] (s' := fun j => ⟨[(zBk (zAc V ac U un) 22 26), (zBk [.v (.int .i64 x), .v (.int .i64 y), .v (.int .i64 z), .v (.int .i64 w), .v (.int .i64 f), .v (.int .i64 g)] 6 3)], ztBb0, mkT j [(1, (.e (.one (.ptr 0 0)))), (4, (iI 0))] 70 0⟩) (aP h0 <| aN <| aP h2 <| aN <| aP h4 <| aN <| aP h6 <| aN <| aP h8 <| aP h9 <| aP h10 <| aP h11 <| aP h12 <| aP h13 <| aN <| aP (rfl : (true : Bool) = true) <| aP h16 <| aN <| aP h18 <| aN <| aP h20 <| aZ)
  fun j => gZ [0] (ho j)
def p15en_end (_V : AccP) (_W : AccP) (_U : List DT) (_C : List DT) (_C2 : List DT) (_un _n _p _i : Nat) (_b _x _y _z _w _f _g h : Int) (_ac _c _a : Bool) (_D _X : List AC) (j : Nat → Value) : St := ⟨[], [(.code .ret), (.code (atC [1, 1] (bodyOf Tryz.f15)))], mkT j [(2, (iI (h)))] 70 0⟩
theorem p15en (hE : EnvOk E) (V : AccP) (W : AccP) (U : List DT) (C : List DT) (C2 : List DT) (un n p i : Nat) (b x y z w f g h : Int) (ac c a : Bool) (D X : List AC) (h0 : COut E 0 [] 17 [(iI (V.b)), (iI (-1000000000000)), (iI 1000000000000)] (iI (x)) []) (h2 : COut E 0 [] 17 [(iI (V.d)), (iI 0), (iI 1000000000000)] (iI (y)) []) (h4 : COut E 0 [] 17 [(iI (V.s)), (iI 0), (iI 100)] (iI (z)) []) (h6 : COut E 0 [] 17 [(iI (V.e)), (iI 0), (iI 100000000)] (iI (w)) []) (h8 : ((!ac) == true : Bool) = true) (h9 : ((!ac) == true : Bool) = true) (h10 : ((!ac) == true : Bool) = true) (h11 : ((!ac) == true : Bool) = true) (h12 : EqOk E 23 (zB8 V.m0 V.m1 V.m2 V.m3 V.m4 V.m5 V.m6 V.m7) (zB8 0 0 0 0 0 0 0 0) !a) (h13 : (!ac : Bool) = true) (h14 : COut E 0 [] 83 [(iB (a)), (iI 1)] (iI (f)) []) (h17 : COut E 0 [] 83 [(iB (decide ((↑un : Int) > (256 : Int)))), (iI 5)] (iI (g)) []) (h19 : COut E 2 [(zBk (zAc V ac U un) 22 26), (zBk [.v (.int .i64 x), .v (.int .i64 y), .v (.int .i64 z), .v (.int .i64 w), .v (.int .i64 f), .v (.int .i64 g)] 6 3)] 82 [(.e (.one (.slc 1 0 6 1 6 true)))] (iI (h)) [(zBk (zAc V ac U un) 22 26), (zBk [.v (.int .i64 x), .v (.int .i64 y), .v (.int .i64 z), .v (.int .i64 w), .v (.int .i64 f), .v (.int .i64 g)] 6 3)]) (h21 : (h != (0 : Int) : Bool) = true) : Sg 0 0 (s15 V W U C C2 un n p i b x y z w f g h ac c a D X) (p15en_end V W U C C2 un n p i b x y z w f g h ac c a D X) := fun ho j =>
 oS hE [.run 4, (.ops [(2, (.c0 (iI (x)))), (5, (.c0 (iI (y)))), (8, (.c0 (iI (z)))), (11, (.c0 (iI (w)))), (19, (.eqs (a))), (21, (.c0 (iI (f)))), (26, (.c0 (iI (g)))), (28, (.d (.c1 (iI (h))))), (20, (.pk true)), (24, (.d .len))] [(16, true), (17, true), (18, true), (19, true)]), .run 2, (.cond true), .run 2] [2] (s' := fun j => ⟨[(zBk (zAc V ac U un) 22 26), (zBk [.v (.int .i64 x), .v (.int .i64 y), .v (.int .i64 z), .v (.int .i64 w), .v (.int .i64 f), .v (.int .i64 g)] 6 3)], [(.code .ret), (.code (atC [1, 1] (bodyOf Tryz.f15)))], mkT j [(2, (iI (h)))] 70 0⟩) (aP h0 <| aN <| aP h2 <| aN <| aP h4 <| aN <| aP h6 <| aN <| aP h8 <| aP h9 <| aP h10 <| aP h11 <| aP h12 <| aP h13 <| aP h14 <| aN <| aP (rfl : (true : Bool) = true) <| aP h17 <| aN <| aP h19 <| aN <| aP h21 <| aZ)
  fun j => gZ [] (ho j)
def p15an_end (V : AccP) (_W : AccP) (U : List DT) (_C : List DT) (_C2 : List DT) (un _n _p _i : Nat) (_b _x _y _z _w _f _g _h : Int) (ac _c _a : Bool) (_D _X : List AC) (j : Nat → Value) : St := ⟨[(zBk (zAc V ac U un) 22 26)], ztBb0, mkT j [(1, (.e (.one (.ptr 0 0)))), (4, (iI 0))] 70 0⟩
theorem p15an (hE : EnvOk E) (V : AccP) (W : AccP) (U : List DT) (C : List DT) (C2 : List DT) (un n p i : Nat) (b x y z w f g h : Int) (ac c a : Bool) (D X : List AC) (h0 : COut E 0 [] 17 [(iI (V.b)), (iI (-1000000000000)), (iI 1000000000000)] (iI (x)) []) (h2 : COut E 0 [] 17 [(iI (V.d)), (iI 0), (iI 1000000000000)] (iI (y)) []) (h4 : COut E 0 [] 17 [(iI (V.s)), (iI 0), (iI 100)] (iI (z)) []) (h6 : COut E 0 [] 17 [(iI (V.e)), (iI 0), (iI 100000000)] (iI (w)) []) (h8 : ((!ac) == true : Bool) = true) (h9 : ((!ac) == true : Bool) = true) (h10 : ((!ac) == true : Bool) = true) (h11 : ((!ac) == true : Bool) = true) (h12 : EqOk E 23 (zB8 V.m0 V.m1 V.m2 V.m3 V.m4 V.m5 V.m6 V.m7) (zB8 0 0 0 0 0 0 0 0) !a) (h13 : (!ac : Bool) = true) (h14 : COut E 0 [] 83 [(iB (a)), (iI 1)] (iI (f)) []) (h17 : COut E 0 [] 83 [(iB (decide ((↑un : Int) > (256 : Int)))), (iI 5)] (iI (g)) []) (h19 : COut E 2 [(zBk (zAc V ac U un) 22 26), (zBk [.v (.int .i64 x), .v (.int .i64 y), .v (.int .i64 z), .v (.int .i64 w), .v (.int .i64 f), .v (.int .i64 g)] 6 3)] 82 [(.e (.one (.slc 1 0 6 1 6 true)))] (iI (h)) [(zBk (zAc V ac U un) 22 26), (zBk [.v (.int .i64 x), .v (.int .i64 y), .v (.int .i64 z), .v (.int .i64 w), .v (.int .i64 f), .v (.int .i64 g)] 6 3)]) (h21 : (h != (0 : Int) : Bool) = false) : Sg 0 0 (s15 V W U C C2 un n p i b x y z w f g h ac c a D X) (p15an_end V W U C C2 un n p i b x y z w f g h ac c a D X) := fun ho j =>
 oS hE [.run 4, (.ops [(2, (.c0 (iI (x)))), (5, (.c0 (iI (y)))), (8, (.c0 (iI (z)))), (11, (.c0 (iI (w)))), (19, (.eqs (a))), (21, (.c0 (iI (f)))), (26, (.c0 (iI (g)))), (28, (.d (.c1 (iI (h))))), (20, (.pk true)), (24, (.d .len))] [(16, true), (17, true), (18, true), (19, true)]), .run 2, (.cond false), .run 6] [1, 4] (s' := fun j => ⟨[(zBk (zAc V ac U un) 22 26), (zBk [.v (.int .i64 x), .v (.int .i64 y), .v (.int .i64 z), .v (.int .i64 w), .v (.int .i64 f), .v (.int .i64 g)] 6 3)], ztBb0, mkT j [(1, (.e (.one (.ptr 0 0)))), (4, (iI 0))] 70 0⟩) (aP h0 <| aN <| aP h2 <| aN <| aP h4 <| aN <| aP h6 <| aN <| aP h8 <| aP h9 <| aP h10 <| aP h11 <| aP h12 <| aP h13 <| aP h14 <| aN <| aP (rfl : (true : Bool) = true) <| aP h17 <| aN <| aP h19 <| aN <| aP h21 <| aZ)
  fun j => gZ [0] (ho j)
def p15z_end (V : AccP) (_W : AccP) (U : List DT) (_C : List DT) (_C2 : List DT) (un _n _p i : Nat) (_b _x _y _z _w _f _g _h : Int) (ac _c _a : Bool) (_D _X : List AC) (j : Nat → Value) : St := ⟨[(zBk (zAc V ac U un) 22 26)], ztBb0, mkT j [(1, (.e (.one (.ptr 0 0)))), (4, (iI (Int.ofNat (i + 1))))] 70 0⟩
theorem p15z (hE : EnvOk E) (V : AccP) (W : AccP) (U : List DT) (C : List DT) (C2 : List DT) (un n p i : Nat) (b x y z w f g h : Int) (ac c a : Bool) (D X : List AC) (h0 : (decide (Int.ofNat i < (↑un : Int)) : Bool) = true) (h1 : (0 : Int) ≤ Int.ofNat i ∧ Int.ofNat i < (↑un : Int)) (h2 : ((Int.ofNat i).toNat * nat_lit 1 : Nat) = i) (h3 : (getL U i : Option DT) = (.some (.v (.int .i64 z)))) (h4 : COut E 0 [] 84 [(iI (z))] (iI (f)) []) (h6 : (f != (0 : Int) : Bool) = false) (h7 : (decide (Int.ofNat i > (0 : Int)) == true : Bool) = false) (h8 : (decide (Int.ofNat i > (0 : Int)) == true : Bool) = false) (h9 : (decide (Int.ofNat i > (0 : Int)) == true : Bool) = false) (h10 : (decide (Int.ofNat i > (0 : Int)) == true : Bool) = false) (h11 : (decide (Int.ofNat i > (0 : Int)) == true : Bool) = false) (h12 : (decide (Int.ofNat i > (0 : Int)) == true : Bool) = false) (h13 : (decide (Int.ofNat i > (0 : Int)) == true : Bool) = false) (h14 : (decide (Int.ofNat i > (0 : Int)) == true : Bool) = false) (h15 : (decide (Int.ofNat i > (0 : Int)) == true : Bool) = false) (h16 : (decide (Int.ofNat i > (0 : Int)) == true : Bool) = false) (h17 : (decide (Int.ofNat i > (0 : Int)) == true : Bool) = false) (h19 : (decide (Int.ofNat i > (0 : Int)) == true : Bool) = false) (h20 : (decide (Int.ofNat i > (0 : Int)) : Bool) = false) (h21 : ((iI (wrapF IntKind.i64 (Int.ofNat i + (1 : Int)))) : AV) = (iI (Int.ofNat (i + 1)))) : Sg 0 0 (q15 V W U C C2 un n p i b x y z w f g h ac c a D X) (p15z_end V W U C C2 un n p i b x y z w f g h ac c a D X) := fun ho j =>
 oS hE [.run 2, (.ops [(3, (.d .len))] []), (.cond true), .run 5, (.ops [(4, (.d (.ld (.v (.int .i64 z))))), (5, (.c0 (iI (f)))), (3, (.d (.ix (i))))] []), .run 2, (.cond false), .run 2, (.ops [(15, (.pk false))] [(3, false), (4, false), (5, false), (6, false), (7, false), (8, false), (9, false), (10, false), (11, false), (12, false), (13, false), (14, false)]), .run 3, (.ops [(1, (.rn (iI (Int.ofNat (i + 1)))))] []), .run 1] [1, 4] (aP h0 <| aP h1 <| aP h2 <| aP h3 <| aP h4 <| aN <| aP h6 <| aP h7 <| aP h8 <| aP h9 <| aP h10 <| aP h11 <| aP h12 <| aP h13 <| aP h14 <| aP h15 <| aP h16 <| aP h17 <| aP (rfl : (true : Bool) = true) <| aP h19 <| aP h20 <| aP h21 <| aZ)
  ho
def p15s_end (V : AccP) (_W : AccP) (U : List DT) (_C : List DT) (_C2 : List DT) (un _n _p i : Nat) (_b _x _y _z _w _f _g _h : Int) (ac _c _a : Bool) (_D _X : List AC) (j : Nat → Value) : St := ⟨[(zBk (zAc V ac U un) 22 26)], ztBb0, mkT j [(1, (.e (.one (.ptr 0 0)))), (4, (iI (Int.ofNat (i + 1))))] 70 0⟩
theorem p15s (hE : EnvOk E) (V : AccP) (W : AccP) (U : List DT) (C : List DT) (C2 : List DT) (un n p i : Nat) (b x y z w f g h : Int) (ac c a : Bool) (D X : List AC) (h0 : (decide (Int.ofNat i < (↑un : Int)) : Bool) = true) (h1 : (0 : Int) ≤ Int.ofNat i ∧ Int.ofNat i < (↑un : Int)) (h2 : ((Int.ofNat i).toNat * nat_lit 1 : Nat) = i) (h3 : (getL U i : Option DT) = (.some (.v (.int .i64 z)))) (h4 : COut E 0 [] 84 [(iI (z))] (iI (f)) []) (h6 : (f != (0 : Int) : Bool) = false) (h7 : (decide (Int.ofNat i > (0 : Int)) == true : Bool) = true) (h8 : (decide (Int.ofNat i > (0 : Int)) == true : Bool) = true) (h9 : (decide (Int.ofNat i > (0 : Int)) == true : Bool) = true) (h10 : (decide (Int.ofNat i > (0 : Int)) == true : Bool) = true) (h11 : (0 : Int) ≤ Int.ofNat i ∧ Int.ofNat i < (↑un : Int)) (h12 : ((Int.ofNat i).toNat * nat_lit 1 : Nat) = i) (h13 : (decide (Int.ofNat i > (0 : Int)) == true : Bool) = true) (h14 : (getL U i : Option DT) = (.some (.v (.int .i64 z)))) (h15 : (decide (Int.ofNat i > (0 : Int)) == true : Bool) = true) (h16 : (decide (Int.ofNat i > (0 : Int)) == true : Bool) = true) (h17 : (decide (Int.ofNat i > (0 : Int)) == true : Bool) = true) (h18 : (decide (Int.ofNat i > (0 : Int)) == true : Bool) = true) (h19 : ((iI (wrapF IntKind.i64 (Int.ofNat i - (1 : Int)))) : AV) = (iI (Int.ofNat p))) (h20 : (decide (Int.ofNat i > (0 : Int)) == true : Bool) = true) (h21 : (0 : Int) ≤ Int.ofNat p ∧ Int.ofNat p < (↑un : Int)) (h22 : ((Int.ofNat p).toNat * nat_lit 1 : Nat) = p) (h23 : (decide (Int.ofNat i > (0 : Int)) == true : Bool) = true) (h24 : (getL U p : Option DT) = (.some (.v (.int .i64 w)))) (h26 : (decide (Int.ofNat i > (0 : Int)) == true : Bool) = true) (h27 : (decide (Int.ofNat i > (0 : Int)) : Bool) = true) (h28 : (decide (z ≤ w) : Bool) = false) (h29 : ((iI (wrapF IntKind.i64 (Int.ofNat i + (1 : Int)))) : AV) = (iI (Int.ofNat (i + 1)))) : Sg 0 0 (q15 V W U C C2 un n p i b x y z w f g h ac c a D X) (p15s_end V W U C C2 un n p i b x y z w f g h ac c a D X) := fun ho j =>
 oS hE [.run 2, (.ops [(3, (.d .len))] []), (.cond true), .run 5, (.ops [(4, (.d (.ld (.v (.int .i64 z))))), (5, (.c0 (iI (f)))), (3, (.d (.ix (i))))] []), .run 2, (.cond false), .run 2, (.ops [(7, (.d (.ld (.v (.int .i64 z))))), (11, (.rn (iI (Int.ofNat p)))), (13, (.d (.ld (.v (.int .i64 w))))), (6, (.d (.ix (i)))), (12, (.d (.ix (p)))), (15, (.pk true))] [(3, true), (4, true), (5, true), (6, true), (7, true), (8, true), (9, true), (10, true), (11, true), (12, true), (13, true), (14, true)]), (.cond false), .run 2, (.ops [(1, (.rn (iI (Int.ofNat (i + 1)))))] []), .run 1] [1, 4] (aP h0 <| aP h1 <| aP h2 <| aP h3 <| aP h4 <| aN <| aP h6 <| aP h7 <| aP h8 <| aP h9 <| aP h10 <| aP h11 <| aP h12 <| aP h13 <| aP h14 <| aP h15 <| aP h16 <| aP h17 <| aP h18 <| aP h19 <| aP h20 <| aP h21 <| aP h22 <| aP h23 <| aP h24 <| aP (rfl : (true : Bool) = true) <| aP h26 <| aP h27 <| aP h28 <| aP h29 <| aZ)
  ho
def p15o_end (_V : AccP) (_W : AccP) (_U : List DT) (_C : List DT) (_C2 : List DT) (_un _n _p _i : Nat) (_b _x _y _z _w _f _g _h : Int) (_ac _c _a : Bool) (_D _X : List AC) (j : Nat → Value) : St := ⟨[], [(.code .ret), (.inBlock 1), (.code (atC [1, 1, 0, 1, 0, 0, 1, 1] (bodyOf Tryz.f15))), (.inLoop (atC [1, 1, 0, 1, 0, 0] (bodyOf Tryz.f15))), (.inBlock 0), (.code (atC [1, 1, 1] (bodyOf Tryz.f15)))], mkT j [(2, (iI 11))] 70 0⟩
theorem p15o (hE : EnvOk E) (V : AccP) (W : AccP) (U : List DT) (C : List DT) (C2 : List DT) (un n p i : Nat) (b x y z w f g h : Int) (ac c a : Bool) (D X : List AC) (h0 : (decide (Int.ofNat i < (↑un : Int)) : Bool) = true) (h1 : (0 : Int) ≤ Int.ofNat i ∧ Int.ofNat i < (↑un : Int)) (h2 : ((Int.ofNat i).toNat * nat_lit 1 : Nat) = i) (h3 : (getL U i : Option DT) = (.some (.v (.int .i64 z)))) (h4 : COut E 0 [] 84 [(iI (z))] (iI (f)) []) (h6 : (f != (0 : Int) : Bool) = false) (h7 : (decide (Int.ofNat i > (0 : Int)) == true : Bool) = true) (h8 : (decide (Int.ofNat i > (0 : Int)) == true : Bool) = true) (h9 : (decide (Int.ofNat i > (0 : Int)) == true : Bool) = true) (h10 : (decide (Int.ofNat i > (0 : Int)) == true : Bool) = true) (h11 : (0 : Int) ≤ Int.ofNat i ∧ Int.ofNat i < (↑un : Int)) (h12 : ((Int.ofNat i).toNat * nat_lit 1 : Nat) = i) (h13 : (decide (Int.ofNat i > (0 : Int)) == true : Bool) = true) (h14 : (getL U i : Option DT) = (.some (.v (.int .i64 z)))) (h15 : (decide (Int.ofNat i > (0 : Int)) == true : Bool) = true) (h16 : (decide (Int.ofNat i > (0 : Int)) == true : Bool) = true) (h17 : (decide (Int.ofNat i > (0 : Int)) == true : Bool) = true) (h18 : (decide (Int.ofNat i > (0 : Int)) == true : Bool) = true) (h19 : ((iI (wrapF IntKind.i64 (Int.ofNat i - (1 : Int)))) : AV) = (iI (Int.ofNat p))) (h20 : (decide (Int.ofNat i > (0 : Int)) == true : Bool) = true) (h21 : (0 : Int) ≤ Int.ofNat p ∧ Int.ofNat p < (↑un : Int)) (h22 : ((Int.ofNat p).toNat * nat_lit 1 : Nat) = p) (h23 : (decide (Int.ofNat i > (0 : Int)) == true : Bool) = true) (h24 : (getL U p : Option DT) = (.some (.v (.int .i64 w)))) (h26 : (decide (Int.ofNat i > (0 : Int)) == true : Bool) = true) (h27 : (decide (Int.ofNat i > (0 : Int)) : Bool) = true) (h28 : (decide (z ≤ w) : Bool) = true) : Sg 0 0 (q15 V W U C C2 un n p i b x y z w f g h ac c a D X) (p15o_end V W U C C2 un n p i b x y z w f g h ac c a D X) := fun ho j =>
 oS hE [.run 2, (.ops [(3, (.d .len))] []), (.cond true), .run 5, (.ops [(4, (.d (.ld (.v (.int .i64 z))))), (5, (.c0 (iI (f)))), (3, (.d (.ix (i))))] []), .run 2, (.cond false), .run 2, (.ops [(7, (.d (.ld (.v (.int .i64 z))))), (11, (.rn (iI (Int.ofNat p)))), (13, (.d (.ld (.v (.int .i64 w))))), (6, (.d (.ix (i)))), (12, (.d (.ix (p)))), (15, (.pk true))] [(3, true), (4, true), (5, true), (6, true), (7, true), (8, true), (9, true), (10, true), (11, true), (12, true), (13, true), (14, true)]), (.cond true), .run 2] [2] (s' := fun j => ⟨[(zBk (zAc V ac U un) 22 26)], [(.code .ret), (.inBlock 1), (.code (atC [1, 1, 0, 1, 0, 0, 1, 1] (bodyOf Tryz.f15))), (.inLoop (atC [1, 1, 0, 1, 0, 0] (bodyOf Tryz.f15))), (.inBlock 0), (.code (atC [1, 1, 1] (bodyOf Tryz.f15)))], mkT j [(2, (iI 11))] 70 0⟩) (aP h0 <| aP h1 <| aP h2 <| aP h3 <| aP h4 <| aN <| aP h6 <| aP h7 <| aP h8 <| aP h9 <| aP h10 <| aP h11 <| aP h12 <| aP h13 <| aP h14 <| aP h15 <| aP h16 <| aP h17 <| aP h18 <| aP h19 <| aP h20 <| aP h21 <| aP h22 <| aP h23 <| aP h24 <| aP (rfl : (true : Bool) = true) <| aP h26 <| aP h27 <| aP h28 <| aZ)
  fun j => gZ [] (ho j)
def p15n_end (_V : AccP) (_W : AccP) (_U : List DT) (_C : List DT) (_C2 : List DT) (_un _n _p _i : Nat) (_b _x _y _z _w f _g _h : Int) (_ac _c _a : Bool) (_D _X : List AC) (j : Nat → Value) : St := ⟨[], [(.code .ret), (.code (atC [1, 1, 0, 1, 0, 0, 1, 0, 0, 1] (bodyOf Tryz.f15))), (.inBlock 1), (.code (atC [1, 1, 0, 1, 0, 0, 1, 1] (bodyOf Tryz.f15))), (.inLoop (atC [1, 1, 0, 1, 0, 0] (bodyOf Tryz.f15))), (.inBlock 0), (.code (atC [1, 1, 1] (bodyOf Tryz.f15)))], mkT j [(2, (iI (f)))] 70 0⟩
theorem p15n (hE : EnvOk E) (V : AccP) (W : AccP) (U : List DT) (C : List DT) (C2 : List DT) (un n p i : Nat) (b x y z w f g h : Int) (ac c a : Bool) (D X : List AC) (h0 : (decide (Int.ofNat i < (↑un : Int)) : Bool) = true) (h1 : (0 : Int) ≤ Int.ofNat i ∧ Int.ofNat i < (↑un : Int)) (h2 : ((Int.ofNat i).toNat * nat_lit 1 : Nat) = i) (h3 : (getL U i : Option DT) = (.some (.v (.int .i64 z)))) (h4 : COut E 0 [] 84 [(iI (z))] (iI (f)) []) (h6 : (f != (0 : Int) : Bool) = true) : Sg 0 0 (q15 V W U C C2 un n p i b x y z w f g h ac c a D X) (p15n_end V W U C C2 un n p i b x y z w f g h ac c a D X) := fun ho j =>
 oS hE [.run 2, (.ops [(3, (.d .len))] []), (.cond true), .run 5, (.ops [(4, (.d (.ld (.v (.int .i64 z))))), (5, (.c0 (iI (f)))), (3, (.d (.ix (i))))] []), .run 2, (.cond true), .run 2] [2] (s' := fun j => ⟨[(zBk (zAc V ac U un) 22 26)], [(.code .ret), (.code (atC [1, 1, 0, 1, 0, 0, 1, 0, 0, 1] (bodyOf Tryz.f15))), (.inBlock 1), (.code (atC [1, 1, 0, 1, 0, 0, 1, 1] (bodyOf Tryz.f15))), (.inLoop (atC [1, 1, 0, 1, 0, 0] (bodyOf Tryz.f15))), (.inBlock 0), (.code (atC [1, 1, 1] (bodyOf Tryz.f15)))], mkT j [(2, (iI (f)))] 70 0⟩) (aP h0 <| aP h1 <| aP h2 <| aP h3 <| aP h4 <| aN <| aP h6 <| aZ)
  fun j => gZ [] (ho j)
def p15x_end (_V : AccP) (_W : AccP) (_U : List DT) (_C : List DT) (_C2 : List DT) (_un _n _p _i : Nat) (_b _x _y _z _w _f _g _h : Int) (_ac _c _a : Bool) (_D _X : List AC) (j : Nat → Value) : St := ⟨[], [(.code .ret)], mkT j [(2, (iI 0))] 70 0⟩
theorem p15x (hE : EnvOk E) (V : AccP) (W : AccP) (U : List DT) (C : List DT) (C2 : List DT) (un n p i : Nat) (b x y z w f g h : Int) (ac c a : Bool) (D X : List AC) (h0 : (decide (Int.ofNat i < (↑un : Int)) : Bool) = false) : Sg 0 0 (q15 V W U C C2 un n p i b x y z w f g h ac c a D X) (p15x_end V W U C C2 un n p i b x y z w f g h ac c a D X) := fun ho j =>
 oS hE [.run 2, (.ops [(3, (.d .len))] []), (.cond false), .run 3] [2] (s' := fun j => ⟨[(zBk (zAc V ac U un) 22 26)], [(.code .ret)], mkT j [(2, (iI 0))] 70 0⟩) (aP h0 <| aZ)
  fun j => gZ [] (ho j)
open Extern.Stop
abbrev accC (V : AccP) (U : List DT) (un : Nat) (ac : Bool) : List AC := (accN V [.v (.bool ac), .dp (.s U un 1)])
abbrev accA (V : AccP) (us : List Int) (n : Nat) (c : Bool) : AV := .e (.agg (accC V (iD us) n c))
theorem K9 (hE : EnvOk E) (V : AccP) (U : List DT) (n : Nat) (c : Bool) : COut E 0 [] 9 [.e (.agg (accC V U n c))] (iB (decide (n ≤ 12) || decide (n = 256) || decide (n = 257))) [] := by
 by_cases h1 : n ≤ 12
 ·rw [decide_eq_true h1]
  exact cOut_clear (cOut_start Tryz.func9 rfl (p9a hE (V) vZ (U) [] [] (n) 0 0 0 0 0 0 0 0 0 0 0 (c) false false [] [] (by rw [decide_eq_true (by (try simp only [Int.ofNat_eq_natCast]); omega)]; rfl) (by rw [decide_eq_true (by (try simp only [Int.ofNat_eq_natCast]); omega)]; rfl) (by rw [decide_eq_true (by (try simp only [Int.ofNat_eq_natCast]); omega)]; rfl) (by rw [decide_eq_true (by (try simp only [Int.ofNat_eq_natCast]); omega)]; rfl) (decide_eq_true (by (try simp only [Int.ofNat_eq_natCast]); omega)) (fun j => outK_ret (ends_ret (by kernel_rfl))) fun _ => undef)) rfl
 ·rw [decide_eq_false h1, Bool.false_or]
  have g1 : decide ((n : Int) ≤ 12) = false := decide_eq_false (by omega)
  by_cases h2 : n = 256
  ·subst h2
   exact cOut_clear (cOut_start Tryz.func9 rfl (p9b hE (V) vZ (U) [] [] (256) 0 0 0 0 0 0 0 0 0 0 0 (c) false false [] [] (by decide) (by decide) (by decide) (by decide) (by decide) (by decide) (by decide) (by decide) (by decide) (by decide) (fun j => outK_ret (ends_ret (by kernel_rfl))) fun _ => undef)) rfl
  ·rw [decide_eq_false h2, Bool.false_or]
   have g2 : ((n : Int) == 256) = false := beq_eq_false_iff_ne.2 (by omega)
   by_cases h3 : n = 257
   ·subst h3
    exact cOut_clear (cOut_start Tryz.func9 rfl (p9c hE (V) vZ (U) [] [] (257) 0 0 0 0 0 0 0 0 0 0 0 (c) false false [] [] (by decide) (by decide) (by decide) (by decide) (by decide) (by decide) (by decide) (by decide) (by decide) (by decide) (fun j => outK_ret (ends_ret (by kernel_rfl))) fun _ => undef)) rfl
   ·have g3 : ((n : Int) == 257) = decide (n = 257) := by rw [decide_eq_false h3]; exact beq_eq_false_iff_ne.2 (by omega)
    rw [← g3]
    exact cOut_clear (cOut_start Tryz.func9 rfl (p9x hE (V) vZ (U) [] [] (n) 0 0 0 0 0 0 0 0 0 0 0 (c) false false [] [] (by rw [g1]; rfl) (by rw [g1]; rfl) (by rw [g1]; rfl) (by rw [g1]; rfl) g1 (by rw [g2]; rfl) (by rw [g2]; rfl) (by rw [g2]; rfl) (by rw [g2]; rfl) g2 (fun j => outK_ret (ends_ret (by kernel_rfl))) fun _ => undef)) rfl
theorem K80 (hE : EnvOk E) (V : AccP) (us : List Int) (n : Nat) (c : Bool) (hn : us.length = n) (hm : n ≤ 1000) : COut E 0 [] 80 [(accA V us n c)] (accA V us n c) [] := by
 obtain ⟨a, hc⟩ : ∃ a, COut E 0 [] 80 [(accA V us n c)] (.e (.agg (accN V [.v (.bool c), .slc 1 0 n 1 n a]))) [bK (accN V [.v (.bool c), .slc 1 0 n 1 n a]) 22 26, .some ⟨iC us, n, 3, a, .cells⟩] := by
  by_cases h0 : n = 0
  ·have e : us = [] := List.eq_nil_of_length_eq_zero (by omega)
   subst h0 e
   exact ⟨true, cOut_start Tryz.func80 rfl (p80 hE (V) vZ ([]) [] [] (0) 0 0 0 0 0 0 0 0 0 0 0 (c) false (true) [] ([]) (.inl ⟨rfl, rfl, rfl, _, _, rfl⟩) rfl (fun _ h => by cases h) (fun j => outK_ret (ends_ret (by kernel_rfl))) fun _ => undef)⟩
  ·have h1 : (iC us).all AC.isOne = true := by simp [List.all_map, DT.ac, AC.isOne]
   exact ⟨false, cOut_start Tryz.func80 rfl (p80 hE (V) vZ (iD us) [] [] (n) 0 0 0 0 0 0 0 0 0 0 0 (c) false (false) [] (iC us) (.inr (.inl ⟨rfl, by omega, by simp [small]; omega, h1, _, rfl, rfl, by simp [hn]⟩)) (Nat.mul_one _) (flat_iC us) (fun j => outK_ret (ends_ret (by kernel_rfl))) fun _ => undef)⟩
 exact cOut_clear (cOut_freeze 1 hc rfl (Nat.zero_le _) (ds := iD us) ⟨.inl rfl, .inl rfl, .inl rfl, .inl rfl, .inl rfl, .inl rfl, .inl rfl, .inl rfl, .inl rfl, .inl rfl, .inl rfl, .inl rfl, .inl rfl, .inl rfl, .inl rfl, .inl rfl, .inl rfl, .inl rfl, .inl rfl, .inl rfl, .inl rfl, .inr ⟨0, n, 1, n, a, iD us, rfl, rfl, by rw [takeL_eq, dropL_eq, List.drop_zero, if_pos (by simp [hn]), List.take_of_length_le (by simp [hn])]⟩, trivial⟩) rfl
theorem K12 (hE : EnvOk E) (V : AccP) (us : List Int) (n : Nat) (c : Bool) (hn : us.length = n) (hm : n ≤ 1000) : COut E 0 [] 12 [(accA V us n c)] (accA V us n c) [] :=
 cOut_clear (cOut_start Tryz.func12 rfl (p12 hE (V) vZ (iD us) [] [] (n) 0 0 0 0 0 0 0 0 0 0 0 (c) false false [] [] (K80 hE V us n c hn hm) (fun j => outK_ret (ends_ret (by kernel_rfl))) fun _ => undef)) rfl
def leftW (V : AccP) : Int := wrapF .i64 (V.b + V.e)
theorem K81 (hE : EnvOk E) (V : AccP) (us : List Int) (n : Nat) (c : Bool) : COut E 0 [] 81 [(accA V us n c)] (iI (leftW V)) [] :=
 cOut_clear (cOut_start Tryz.func81 rfl (p81 hE (V) vZ (iD us) [] [] (n) 0 0 0 0 0 0 (leftW V) 0 0 0 0 (c) false false [] [] rfl (fun j => outK_ret (ends_ret (by kernel_rfl))) fun _ => undef)) rfl
theorem K19 (hE : EnvOk E) (V : AccP) (us : List Int) (n : Nat) (c : Bool) : COut E 0 [] 19 [(accA V us n c)] (iI (leftW V)) [] :=
 cOut_clear (cOut_start Tryz.func19 rfl (p19 hE (V) vZ (iD us) [] [] (n) 0 0 0 0 0 0 (leftW V) 0 0 0 0 (c) false false [] [] rfl (fun j => outK_ret (ends_ret (by kernel_rfl))) fun _ => undef)) rfl
def newE (V : AccP) : Bool := sameK [V.m0, V.m1, V.m2, V.m3, V.m4, V.m5, V.m6, V.m7] [0, 0, 0, 0, 0, 0, 0, 0]
theorem eqNew (V : AccP) : EqOk E 23 (zB8 V.m0 V.m1 V.m2 V.m3 V.m4 V.m5 V.m6 V.m7) (zB8 0 0 0 0 0 0 0 0) (newE V) := eqK [V.m0, V.m1, V.m2, V.m3, V.m4, V.m5, V.m6, V.m7] [0, 0, 0, 0, 0, 0, 0, 0] rfl rfl
def chkA (V : AccP) (us : List Int) (n : Nat) (c : Bool) : Int := firstI [rngI (-1000000000000) 1000000000000 V.b, rngI 0 1000000000000 V.d, rngI 0 100 V.s, rngI 0 100000000 V.e, if (!c && !newE V) = true then 1 else 0, if 256 < n then 5 else riseE (-9223372036854775808) us]
theorem K20 (hE : EnvOk E) (V : AccP) (us : List Int) (n : Nat) (c : Bool) (hn : us.length = n) (hm : n ≤ 1000000) : COut E 0 [] 20 [(accA V us n c)] (iI (chkA V us n c)) [] := by
 cases c with
 | true => exact cOut_clear (cOut_start Tryz.func20 rfl (p20c hE (V) vZ (iD us) [] [] (n) 0 0 0 (if 256 < n then (-9223372036854775808) else riseB (-9223372036854775808) us) (rngI (-1000000000000) 1000000000000 V.b) (rngI 0 1000000000000 V.d) (rngI 0 100 V.s) (rngI 0 100000000 V.e) (0) (if 256 < n then 5 else riseE (-9223372036854775808) us) (chkA V us n true) (true) false false [] [] (K77 hE _ _ _) (K77 hE _ _ _) (K77 hE _ _ _) (K77 hE _ _ _) rfl rfl rfl rfl rfl (K78 hE false 1) (K86 hE V (iD us) n true us n hn (by omega) (-9223372036854775808)) (lend2 4 hE 76 [rngI (-1000000000000) 1000000000000 V.b, rngI 0 1000000000000 V.d, rngI 0 100 V.s, rngI 0 100000000 V.e, if (!true && !newE V) = true then 1 else 0, if 256 < n then 5 else riseE (-9223372036854775808) us] _ 30 true (K76 hE _ (by simp)) _ 3 rfl) (fun j => outK_ret (ends_ret (by kernel_rfl))) fun _ => undef)) rfl
 | false => exact cOut_clear (cOut_start Tryz.func20 rfl (p20n hE (V) vZ (iD us) [] [] (n) 0 0 0 (if 256 < n then (-9223372036854775808) else riseB (-9223372036854775808) us) (rngI (-1000000000000) 1000000000000 V.b) (rngI 0 1000000000000 V.d) (rngI 0 100 V.s) (rngI 0 100000000 V.e) (if (!newE V) = true then 1 else 0) (if 256 < n then 5 else riseE (-9223372036854775808) us) (chkA V us n false) (false) false (!newE V) [] [] (K77 hE _ _ _) (K77 hE _ _ _) (K77 hE _ _ _) (K77 hE _ _ _) rfl rfl rfl rfl (by rw [Bool.not_not]; exact eqNew V) rfl (K78 hE (!newE V) 1) (K86 hE V (iD us) n false us n hn (by omega) (-9223372036854775808)) (lend2 4 hE 76 [rngI (-1000000000000) 1000000000000 V.b, rngI 0 1000000000000 V.d, rngI 0 100 V.s, rngI 0 100000000 V.e, if (!false && !newE V) = true then 1 else 0, if 256 < n then 5 else riseE (-9223372036854775808) us] _ 30 true (K76 hE _ (by simp)) _ 3 rfl) (fun j => outK_ret (ends_ret (by kernel_rfl))) fun _ => undef)) rfl
theorem firstI_last (l : List Int) (g : Int) : firstI (l ++ [g]) = if firstI l = 0 then g else firstI l := by
 induction l with
 | nil => show (if g = 0 then 0 else g) = _; by_cases h : g = 0 <;> simp [firstI, h]
 | cons x l ih =>
  show (if x = 0 then firstI (l ++ [g]) else x) = if (if x = 0 then firstI l else x) = 0 then g else (if x = 0 then firstI l else x)
  by_cases h : x = 0
  ·rw [if_pos h, if_pos h, ih]
  ·rw [if_neg h, if_neg h, if_neg h]
theorem num_pos {z : Int} (h : num z = 0) : 1 ≤ z := by
 unfold num rngI at h
 split at h
 ·simp at h
 ·omega
theorem rise1_min {z : Int} : rise1 (-9223372036854775808) z = num z := by
 unfold rise1
 show (if num z = 0 then (if (if z ≤ (-9223372036854775808) then (11 : Int) else 0) = 0 then 0 else if z ≤ (-9223372036854775808) then 11 else 0) else num z) = num z
 by_cases h : num z = 0
 ·have := num_pos h
  rw [if_pos h, if_neg (show ¬ z ≤ (-9223372036854775808) by omega), if_pos rfl, h]
 ·rw [if_neg h]
theorem l15 (hE : EnvOk E) (V : AccP) (us : List Int) (n : Nat) (c : Bool) (hn : us.length = n) (hm : n ≤ 1000000) : ∀ m i b, m + i = n → (i = 0 → b = (-9223372036854775808)) → (0 < i → us[i - 1]? = some b) → ∀ j, OutK E 0 0 (q15 (V) vZ (iD us) [] [] (n) 0 0 (i) 0 0 0 0 0 0 0 0 (c) false false [] [] j) (Go.Ev.Ends E Tryz.f15 (iI (riseE b (us.drop i))) [])
 | 0, i, b, hk, _, _, j => by
  rw [List.drop_eq_nil_of_le (by omega)]
  exact p15x hE (V) vZ (iD us) [] [] (n) 0 0 (i) 0 0 0 0 0 0 0 0 (c) false false [] [] (decide_eq_false (by (try simp only [Int.ofNat_eq_natCast]); omega)) (fun j => outK_ret (ends_ret (by kernel_rfl))) j
 | m + 1, i, b, hk, h0, h1, j => by
  have hlt : i < us.length := by omega
  have hx : us[i]? = some us[i] := List.getElem?_eq_getElem hlt
  rw [List.drop_eq_getElem_cons hlt]
  generalize us[i] = z at hx
  have hu : riseE b (z :: us.drop (i + 1)) = if rise1 b z = 0 then riseE z (us.drop (i + 1)) else rise1 b z := rfl
  rw [hu]
  have ih := l15 hE V us n c hn hm m (i + 1) z (by omega) (fun h => by omega) (fun _ => hx)
  by_cases hz : num z = 0
  ·by_cases c0 : i = 0
   ·have eb := h0 c0
    have e1 : rise1 b z = 0 := by rw [eb, rise1_min]; exact hz
    rw [if_pos e1]
    exact p15z hE (V) vZ (iD us) [] [] (n) 0 0 (i) 0 0 0 (z) 0 (num z) 0 0 (c) false false [] [] (decide_eq_true (by (try simp only [Int.ofNat_eq_natCast]); omega)) ⟨by (try simp only [Int.ofNat_eq_natCast]); omega, by (try simp only [Int.ofNat_eq_natCast]); omega⟩ (Nat.mul_one _) (getI hx) (K84 hE z) (by rw [hz]; rfl) (by rw [decide_eq_false (by (try simp only [Int.ofNat_eq_natCast]); omega)]; rfl) (by rw [decide_eq_false (by (try simp only [Int.ofNat_eq_natCast]); omega)]; rfl) (by rw [decide_eq_false (by (try simp only [Int.ofNat_eq_natCast]); omega)]; rfl) (by rw [decide_eq_false (by (try simp only [Int.ofNat_eq_natCast]); omega)]; rfl) (by rw [decide_eq_false (by (try simp only [Int.ofNat_eq_natCast]); omega)]; rfl) (by rw [decide_eq_false (by (try simp only [Int.ofNat_eq_natCast]); omega)]; rfl) (by rw [decide_eq_false (by (try simp only [Int.ofNat_eq_natCast]); omega)]; rfl) (by rw [decide_eq_false (by (try simp only [Int.ofNat_eq_natCast]); omega)]; rfl) (by rw [decide_eq_false (by (try simp only [Int.ofNat_eq_natCast]); omega)]; rfl) (by rw [decide_eq_false (by (try simp only [Int.ofNat_eq_natCast]); omega)]; rfl) (by rw [decide_eq_false (by (try simp only [Int.ofNat_eq_natCast]); omega)]; rfl) (by rw [decide_eq_false (by (try simp only [Int.ofNat_eq_natCast]); omega)]; rfl) (decide_eq_false (by (try simp only [Int.ofNat_eq_natCast]); omega)) (iIe (by (try simp only [Int.ofNat_eq_natCast]); rw [wrap_id (by omega) (by omega)]; try omega)) ih j
   ·have hp := h1 (by omega)
    by_cases c1 : z ≤ b
    ·have e1 : rise1 b z = 11 := by
      unfold rise1
      show (if num z = 0 then (if (if z ≤ b then (11 : Int) else 0) = 0 then 0 else if z ≤ b then 11 else 0) else num z) = 11
      rw [if_pos hz, if_pos c1]; rfl
     rw [e1, if_neg (by decide)]
     exact p15o hE (V) vZ (iD us) [] [] (n) 0 (i - 1) (i) 0 0 0 (z) (b) (num z) 0 0 (c) false false [] [] (decide_eq_true (by (try simp only [Int.ofNat_eq_natCast]); omega)) ⟨by (try simp only [Int.ofNat_eq_natCast]); omega, by (try simp only [Int.ofNat_eq_natCast]); omega⟩ (Nat.mul_one _) (getI hx) (K84 hE z) (by rw [hz]; rfl) (by rw [decide_eq_true (by (try simp only [Int.ofNat_eq_natCast]); omega)]; rfl) (by rw [decide_eq_true (by (try simp only [Int.ofNat_eq_natCast]); omega)]; rfl) (by rw [decide_eq_true (by (try simp only [Int.ofNat_eq_natCast]); omega)]; rfl) (by rw [decide_eq_true (by (try simp only [Int.ofNat_eq_natCast]); omega)]; rfl) ⟨by (try simp only [Int.ofNat_eq_natCast]); omega, by (try simp only [Int.ofNat_eq_natCast]); omega⟩ (Nat.mul_one _) (by rw [decide_eq_true (by (try simp only [Int.ofNat_eq_natCast]); omega)]; rfl) (getI hx) (by rw [decide_eq_true (by (try simp only [Int.ofNat_eq_natCast]); omega)]; rfl) (by rw [decide_eq_true (by (try simp only [Int.ofNat_eq_natCast]); omega)]; rfl) (by rw [decide_eq_true (by (try simp only [Int.ofNat_eq_natCast]); omega)]; rfl) (by rw [decide_eq_true (by (try simp only [Int.ofNat_eq_natCast]); omega)]; rfl) (iIe (by (try simp only [Int.ofNat_eq_natCast]); rw [wrap_id (by omega) (by omega)]; try omega)) (by rw [decide_eq_true (by (try simp only [Int.ofNat_eq_natCast]); omega)]; rfl) ⟨by (try simp only [Int.ofNat_eq_natCast]); omega, by (try simp only [Int.ofNat_eq_natCast]); omega⟩ (Nat.mul_one _) (by rw [decide_eq_true (by (try simp only [Int.ofNat_eq_natCast]); omega)]; rfl) (getI hp) (by rw [decide_eq_true (by (try simp only [Int.ofNat_eq_natCast]); omega)]; rfl) (decide_eq_true (by (try simp only [Int.ofNat_eq_natCast]); omega)) (decide_eq_true (by (try simp only [Int.ofNat_eq_natCast]); omega)) (fun j => outK_ret (ends_ret (by kernel_rfl))) j
    ·have e1 : rise1 b z = 0 := by
      unfold rise1
      show (if num z = 0 then (if (if z ≤ b then (11 : Int) else 0) = 0 then 0 else if z ≤ b then 11 else 0) else num z) = 0
      rw [if_pos hz, if_neg c1]; rfl
     rw [if_pos e1]
     exact p15s hE (V) vZ (iD us) [] [] (n) 0 (i - 1) (i) 0 0 0 (z) (b) (num z) 0 0 (c) false false [] [] (decide_eq_true (by (try simp only [Int.ofNat_eq_natCast]); omega)) ⟨by (try simp only [Int.ofNat_eq_natCast]); omega, by (try simp only [Int.ofNat_eq_natCast]); omega⟩ (Nat.mul_one _) (getI hx) (K84 hE z) (by rw [hz]; rfl) (by rw [decide_eq_true (by (try simp only [Int.ofNat_eq_natCast]); omega)]; rfl) (by rw [decide_eq_true (by (try simp only [Int.ofNat_eq_natCast]); omega)]; rfl) (by rw [decide_eq_true (by (try simp only [Int.ofNat_eq_natCast]); omega)]; rfl) (by rw [decide_eq_true (by (try simp only [Int.ofNat_eq_natCast]); omega)]; rfl) ⟨by (try simp only [Int.ofNat_eq_natCast]); omega, by (try simp only [Int.ofNat_eq_natCast]); omega⟩ (Nat.mul_one _) (by rw [decide_eq_true (by (try simp only [Int.ofNat_eq_natCast]); omega)]; rfl) (getI hx) (by rw [decide_eq_true (by (try simp only [Int.ofNat_eq_natCast]); omega)]; rfl) (by rw [decide_eq_true (by (try simp only [Int.ofNat_eq_natCast]); omega)]; rfl) (by rw [decide_eq_true (by (try simp only [Int.ofNat_eq_natCast]); omega)]; rfl) (by rw [decide_eq_true (by (try simp only [Int.ofNat_eq_natCast]); omega)]; rfl) (iIe (by (try simp only [Int.ofNat_eq_natCast]); rw [wrap_id (by omega) (by omega)]; try omega)) (by rw [decide_eq_true (by (try simp only [Int.ofNat_eq_natCast]); omega)]; rfl) ⟨by (try simp only [Int.ofNat_eq_natCast]); omega, by (try simp only [Int.ofNat_eq_natCast]); omega⟩ (Nat.mul_one _) (by rw [decide_eq_true (by (try simp only [Int.ofNat_eq_natCast]); omega)]; rfl) (getI hp) (by rw [decide_eq_true (by (try simp only [Int.ofNat_eq_natCast]); omega)]; rfl) (decide_eq_true (by (try simp only [Int.ofNat_eq_natCast]); omega)) (decide_eq_false (by (try simp only [Int.ofNat_eq_natCast]); omega)) (iIe (by (try simp only [Int.ofNat_eq_natCast]); rw [wrap_id (by omega) (by omega)]; try omega)) ih j
  ·have e1 : rise1 b z = num z := by
    unfold rise1
    show (if num z = 0 then _ else num z) = num z
    rw [if_neg hz]
   rw [e1, if_neg hz]
   exact p15n hE (V) vZ (iD us) [] [] (n) 0 0 (i) 0 0 0 (z) 0 (num z) 0 0 (c) false false [] [] (decide_eq_true (by (try simp only [Int.ofNat_eq_natCast]); omega)) ⟨by (try simp only [Int.ofNat_eq_natCast]); omega, by (try simp only [Int.ofNat_eq_natCast]); omega⟩ (Nat.mul_one _) (getI hx) (K84 hE z) (bne_iff_ne.2 hz) (fun j => outK_ret (ends_ret (by kernel_rfl))) j
theorem K15 (hE : EnvOk E) (V : AccP) (us : List Int) (n : Nat) (c : Bool) (hn : us.length = n) (hm : n ≤ 1000000) : COut E 0 [] 15 [(accA V us n c)] (iI (chkA V us n c)) [] := by
 have hl := l15 hE V us n c hn hm n 0 (-9223372036854775808) rfl (fun _ => rfl) (fun h => by omega)
 have hc : chkA V us n c = if firstI [rngI (-1000000000000) 1000000000000 V.b, rngI 0 1000000000000 V.d, rngI 0 100 V.s, rngI 0 100000000 V.e, if (!c && !newE V) = true then 1 else 0] = 0 then (if 256 < n then 5 else riseE (-9223372036854775808) us) else firstI [rngI (-1000000000000) 1000000000000 V.b, rngI 0 1000000000000 V.d, rngI 0 100 V.s, rngI 0 100000000 V.e, if (!c && !newE V) = true then 1 else 0] := firstI_last [rngI (-1000000000000) 1000000000000 V.b, rngI 0 1000000000000 V.d, rngI 0 100 V.s, rngI 0 100000000 V.e, if (!c && !newE V) = true then 1 else 0] _
 have h2 : firstI ([rngI (-1000000000000) 1000000000000 V.b, rngI 0 1000000000000 V.d, rngI 0 100 V.s, rngI 0 100000000 V.e, if (!c && !newE V) = true then 1 else 0] ++ [if decide ((n : Int) > 256) = true then 5 else 0]) = if firstI [rngI (-1000000000000) 1000000000000 V.b, rngI 0 1000000000000 V.d, rngI 0 100 V.s, rngI 0 100000000 V.e, if (!c && !newE V) = true then 1 else 0] = 0 then (if decide ((n : Int) > 256) = true then 5 else 0) else firstI [rngI (-1000000000000) 1000000000000 V.b, rngI 0 1000000000000 V.d, rngI 0 100 V.s, rngI 0 100000000 V.e, if (!c && !newE V) = true then 1 else 0] := firstI_last [rngI (-1000000000000) 1000000000000 V.b, rngI 0 1000000000000 V.d, rngI 0 100 V.s, rngI 0 100000000 V.e, if (!c && !newE V) = true then 1 else 0] _
 cases c with
 | true =>
  by_cases hz : firstI ([rngI (-1000000000000) 1000000000000 V.b, rngI 0 1000000000000 V.d, rngI 0 100 V.s, rngI 0 100000000 V.e, if (!true && !newE V) = true then 1 else 0] ++ [if decide ((n : Int) > 256) = true then 5 else 0]) = 0
  ·have e0 : firstI [rngI (-1000000000000) 1000000000000 V.b, rngI 0 1000000000000 V.d, rngI 0 100 V.s, rngI 0 100000000 V.e, if (!true && !newE V) = true then 1 else 0] = 0 := by
    by_cases q : firstI [rngI (-1000000000000) 1000000000000 V.b, rngI 0 1000000000000 V.d, rngI 0 100 V.s, rngI 0 100000000 V.e, if (!true && !newE V) = true then 1 else 0] = 0
    ·exact q
    ·rw [h2, if_neg q] at hz; exact hz
   rw [if_pos e0] at hc
   have hw : ¬ 256 < n := fun q => by
    rw [h2, if_pos e0, if_pos (decide_eq_true (show (n : Int) > 256 by omega))] at hz
    simp at hz
   rw [if_neg hw] at hc
   rw [hc]
   exact cOut_clear (cOut_start Tryz.func15 rfl (p15ac hE (V) vZ (iD us) [] [] (n) 0 0 0 0 (rngI (-1000000000000) 1000000000000 V.b) (rngI 0 1000000000000 V.d) (rngI 0 100 V.s) (rngI 0 100000000 V.e) (0) (if decide ((n : Int) > 256) = true then 5 else 0) (firstI ([rngI (-1000000000000) 1000000000000 V.b, rngI 0 1000000000000 V.d, rngI 0 100 V.s, rngI 0 100000000 V.e, if (!true && !newE V) = true then 1 else 0] ++ [if decide ((n : Int) > 256) = true then 5 else 0])) (true) false false [] [] (K17 hE _ _ _) (K17 hE _ _ _) (K17 hE _ _ _) (K17 hE _ _ _) rfl rfl rfl rfl rfl (K83 hE false 1) (K83 hE _ 5) (lend2 2 hE 82 [rngI (-1000000000000) 1000000000000 V.b, rngI 0 1000000000000 V.d, rngI 0 100 V.s, rngI 0 100000000 V.e, if (!true && !newE V) = true then 1 else 0, if decide ((n : Int) > 256) = true then 5 else 0] _ 3 true (K82 hE _ (by simp)) _ 1 rfl) (by rw [hz]; rfl) hl fun _ => undef)) rfl
  ·have e1 : chkA V us n true = firstI ([rngI (-1000000000000) 1000000000000 V.b, rngI 0 1000000000000 V.d, rngI 0 100 V.s, rngI 0 100000000 V.e, if (!true && !newE V) = true then 1 else 0] ++ [if decide ((n : Int) > 256) = true then 5 else 0]) := by
    rw [hc, h2]
    by_cases q : firstI [rngI (-1000000000000) 1000000000000 V.b, rngI 0 1000000000000 V.d, rngI 0 100 V.s, rngI 0 100000000 V.e, if (!true && !newE V) = true then 1 else 0] = 0
    ·rw [if_pos q, if_pos q]
     by_cases w : 256 < n
     ·rw [if_pos w, if_pos (decide_eq_true (show (n : Int) > 256 by omega))]
     ·rw [h2, if_pos q, if_neg (by rw [decide_eq_false (show ¬ (n : Int) > 256 by omega)]; simp)] at hz
      exact absurd rfl hz
    ·rw [if_neg q, if_neg q]
   rw [e1]
   exact cOut_clear (cOut_start Tryz.func15 rfl (p15ec hE (V) vZ (iD us) [] [] (n) 0 0 0 0 (rngI (-1000000000000) 1000000000000 V.b) (rngI 0 1000000000000 V.d) (rngI 0 100 V.s) (rngI 0 100000000 V.e) (0) (if decide ((n : Int) > 256) = true then 5 else 0) (firstI ([rngI (-1000000000000) 1000000000000 V.b, rngI 0 1000000000000 V.d, rngI 0 100 V.s, rngI 0 100000000 V.e, if (!true && !newE V) = true then 1 else 0] ++ [if decide ((n : Int) > 256) = true then 5 else 0])) (true) false false [] [] (K17 hE _ _ _) (K17 hE _ _ _) (K17 hE _ _ _) (K17 hE _ _ _) rfl rfl rfl rfl rfl (K83 hE false 1) (K83 hE _ 5) (lend2 2 hE 82 [rngI (-1000000000000) 1000000000000 V.b, rngI 0 1000000000000 V.d, rngI 0 100 V.s, rngI 0 100000000 V.e, if (!true && !newE V) = true then 1 else 0, if decide ((n : Int) > 256) = true then 5 else 0] _ 3 true (K82 hE _ (by simp)) _ 1 rfl) (bne_iff_ne.2 hz) (fun j => outK_ret (ends_ret (by kernel_rfl))) fun _ => undef)) rfl
 | false =>
  by_cases hz : firstI ([rngI (-1000000000000) 1000000000000 V.b, rngI 0 1000000000000 V.d, rngI 0 100 V.s, rngI 0 100000000 V.e, if (!false && !newE V) = true then 1 else 0] ++ [if decide ((n : Int) > 256) = true then 5 else 0]) = 0
  ·have e0 : firstI [rngI (-1000000000000) 1000000000000 V.b, rngI 0 1000000000000 V.d, rngI 0 100 V.s, rngI 0 100000000 V.e, if (!false && !newE V) = true then 1 else 0] = 0 := by
    by_cases q : firstI [rngI (-1000000000000) 1000000000000 V.b, rngI 0 1000000000000 V.d, rngI 0 100 V.s, rngI 0 100000000 V.e, if (!false && !newE V) = true then 1 else 0] = 0
    ·exact q
    ·rw [h2, if_neg q] at hz; exact hz
   rw [if_pos e0] at hc
   have hw : ¬ 256 < n := fun q => by
    rw [h2, if_pos e0, if_pos (decide_eq_true (show (n : Int) > 256 by omega))] at hz
    simp at hz
   rw [if_neg hw] at hc
   rw [hc]
   exact cOut_clear (cOut_start Tryz.func15 rfl (p15an hE (V) vZ (iD us) [] [] (n) 0 0 0 0 (rngI (-1000000000000) 1000000000000 V.b) (rngI 0 1000000000000 V.d) (rngI 0 100 V.s) (rngI 0 100000000 V.e) (if (!newE V) = true then 1 else 0) (if decide ((n : Int) > 256) = true then 5 else 0) (firstI ([rngI (-1000000000000) 1000000000000 V.b, rngI 0 1000000000000 V.d, rngI 0 100 V.s, rngI 0 100000000 V.e, if (!false && !newE V) = true then 1 else 0] ++ [if decide ((n : Int) > 256) = true then 5 else 0])) (false) false (!newE V) [] [] (K17 hE _ _ _) (K17 hE _ _ _) (K17 hE _ _ _) (K17 hE _ _ _) rfl rfl rfl rfl (by rw [Bool.not_not]; exact eqNew V) rfl (K83 hE (!newE V) 1) (K83 hE _ 5) (lend2 2 hE 82 [rngI (-1000000000000) 1000000000000 V.b, rngI 0 1000000000000 V.d, rngI 0 100 V.s, rngI 0 100000000 V.e, if (!false && !newE V) = true then 1 else 0, if decide ((n : Int) > 256) = true then 5 else 0] _ 3 true (K82 hE _ (by simp)) _ 1 rfl) (by rw [hz]; rfl) hl fun _ => undef)) rfl
  ·have e1 : chkA V us n false = firstI ([rngI (-1000000000000) 1000000000000 V.b, rngI 0 1000000000000 V.d, rngI 0 100 V.s, rngI 0 100000000 V.e, if (!false && !newE V) = true then 1 else 0] ++ [if decide ((n : Int) > 256) = true then 5 else 0]) := by
    rw [hc, h2]
    by_cases q : firstI [rngI (-1000000000000) 1000000000000 V.b, rngI 0 1000000000000 V.d, rngI 0 100 V.s, rngI 0 100000000 V.e, if (!false && !newE V) = true then 1 else 0] = 0
    ·rw [if_pos q, if_pos q]
     by_cases w : 256 < n
     ·rw [if_pos w, if_pos (decide_eq_true (show (n : Int) > 256 by omega))]
     ·rw [h2, if_pos q, if_neg (by rw [decide_eq_false (show ¬ (n : Int) > 256 by omega)]; simp)] at hz
      exact absurd rfl hz
    ·rw [if_neg q, if_neg q]
   rw [e1]
   exact cOut_clear (cOut_start Tryz.func15 rfl (p15en hE (V) vZ (iD us) [] [] (n) 0 0 0 0 (rngI (-1000000000000) 1000000000000 V.b) (rngI 0 1000000000000 V.d) (rngI 0 100 V.s) (rngI 0 100000000 V.e) (if (!newE V) = true then 1 else 0) (if decide ((n : Int) > 256) = true then 5 else 0) (firstI ([rngI (-1000000000000) 1000000000000 V.b, rngI 0 1000000000000 V.d, rngI 0 100 V.s, rngI 0 100000000 V.e, if (!false && !newE V) = true then 1 else 0] ++ [if decide ((n : Int) > 256) = true then 5 else 0])) (false) false (!newE V) [] [] (K17 hE _ _ _) (K17 hE _ _ _) (K17 hE _ _ _) (K17 hE _ _ _) rfl rfl rfl rfl (by rw [Bool.not_not]; exact eqNew V) rfl (K83 hE (!newE V) 1) (K83 hE _ 5) (lend2 2 hE 82 [rngI (-1000000000000) 1000000000000 V.b, rngI 0 1000000000000 V.d, rngI 0 100 V.s, rngI 0 100000000 V.e, if (!false && !newE V) = true then 1 else 0, if decide ((n : Int) > 256) = true then 5 else 0] _ 3 true (K82 hE _ (by simp)) _ 1 rfl) (bne_iff_ne.2 hz) (fun j => outK_ret (ends_ret (by kernel_rfl))) fun _ => undef)) rfl
end
end Go.Proofs.YtmefachijohnhaaGreatDoor.Bk
end
