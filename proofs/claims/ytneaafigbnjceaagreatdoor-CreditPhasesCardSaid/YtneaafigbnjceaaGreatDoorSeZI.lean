/-
  Part of the proof: SeTb, SySort, SeSo, SeTc, SyIns, SeTd, SeTe, SeTf, SeTg, SePq.
-/
import Derived.Test.YtneaafigbnjceaaGreatDoorSeZH
import Derived.Shelf.Sort.Plain
import Derived.Sort.Grow
import Derived.Sort.Row

/-! SeTb -/
section
open Go Go.Ev
namespace Go.Proofs.YtneaafigbnjceaaGreatDoor.Bk
noncomputable section
set_option maxRecDepth 100000
set_option maxHeartbeats 20000000
abbrev ztTb0 : List Item := [(.code (atC [1, 0, 1, 0, 0] (bodyOf Tryz.f10))), (.inLoop (atC [1, 0, 1, 0, 0] (bodyOf Tryz.f10))), (.inBlock 0), (.code (atC [1, 1] (bodyOf Tryz.f10)))]
def s140 (V : AccP) (_C U : List DT) (un _n _i : Nat) (ac _a _b _c : Bool) (_t m _e _f _g _h _k _z _w _p _q _s0 _s1 _s2 _s3 _s4 _s5 _s6 _s7 _x0 _x1 _x2 _x3 _x4 _x5 _x6 _x7 _y0 _y1 _y2 _y3 _y4 _y5 _y6 _y7 : Int) (_j : Nat → Value) : St := startK Tryz.f92 [] [(.e (.agg (zAc V ac U un))), iI m]
def s160 (_V : AccP) (_C _U : List DT) (_un _n _i : Nat) (_ac _a _b _c : Bool) (t m _e _f _g _h _k _z _w _p _q s0 s1 s2 s3 s4 s5 s6 s7 x0 x1 x2 x3 x4 x5 x6 x7 _y0 _y1 _y2 _y3 _y4 _y5 _y6 _y7 : Int) (_j : Nat → Value) : St := startK Tryz.f117 [] [(.e (.agg (zTk t m s0 s1 s2 s3 s4 s5 s6 s7))), (.e (.agg (zB8 x0 x1 x2 x3 x4 x5 x6 x7)))]
def s138 (V : AccP) (_C U : List DT) (un _n _i : Nat) (ac _a _b _c : Bool) (t m _e _f _g _h _k _z _w _p _q s0 s1 s2 s3 s4 s5 s6 s7 _x0 _x1 _x2 _x3 _x4 _x5 _x6 _x7 _y0 _y1 _y2 _y3 _y4 _y5 _y6 _y7 : Int) (_j : Nat → Value) : St := startK Tryz.f90 [] [(.e (.agg (zAc V ac U un))), (.e (.agg (zTk t m s0 s1 s2 s3 s4 s5 s6 s7)))]
def s99 (_V : AccP) (C _U : List DT) (_un n _i : Nat) (_ac _a _b _c : Bool) (_t _m _e _f _g _h _k z _w _p _q _s0 _s1 _s2 _s3 _s4 _s5 _s6 _s7 _x0 _x1 _x2 _x3 _x4 _x5 _x6 _x7 _y0 _y1 _y2 _y3 _y4 _y5 _y6 _y7 : Int) (_j : Nat → Value) : St := startK Tryz.f10 [] [(.e (.one (.dp (.s C n 1)))), iI z]
def s92 (V : AccP) (_C U : List DT) (un _n _i : Nat) (ac _a _b _c : Bool) (t m _e _f _g _h _k _z _w _p _q s0 s1 s2 s3 s4 s5 s6 s7 _x0 _x1 _x2 _x3 _x4 _x5 _x6 _x7 _y0 _y1 _y2 _y3 _y4 _y5 _y6 _y7 : Int) (_j : Nat → Value) : St := startK Tryz.f55 [] [(.e (.agg (zAc V ac U un))), (.e (.agg (zTk t m s0 s1 s2 s3 s4 s5 s6 s7)))]
def q99 (_V : AccP) (C _U : List DT) (_un n i : Nat) (_ac _a _b _c : Bool) (_t _m _e _f _g _h _k z _w _p _q _s0 _s1 _s2 _s3 _s4 _s5 _s6 _s7 _x0 _x1 _x2 _x3 _x4 _x5 _x6 _x7 _y0 _y1 _y2 _y3 _y4 _y5 _y6 _y7 : Int) (j : Nat → Value) : St := ⟨[], ztTb0, mkT j [(0, (.e (.one (.dp (.s (C) (n) 1))))), (1, (iI (z))), (5, (iI (Int.ofNat i)))] 18 0⟩
def p140_end (_V : AccP) (_C : List DT) (_U : List DT) (_un _n _i : Nat) (_ac _a _b _c : Bool) (_t _m e _f _g _h _k _z _w _p _q _s0 _s1 _s2 _s3 _s4 _s5 _s6 _s7 _x0 _x1 _x2 _x3 _x4 _x5 _x6 _x7 _y0 _y1 _y2 _y3 _y4 _y5 _y6 _y7 : Int) (j : Nat → Value) : St := ⟨[], [(.code .ret)], mkT j [(4, (iI (e)))] 13 0⟩
theorem p140 (hE : EnvOk E) (V : AccP) (C : List DT) (U : List DT) (un n i : Nat) (ac a b c : Bool) (t m e f g h k z w p q s0 s1 s2 s3 s4 s5 s6 s7 x0 x1 x2 x3 x4 x5 x6 x7 y0 y1 y2 y3 y4 y5 y6 y7 : Int) (h0 : ((iI (wrapF IntKind.i64 (m * V.s))) : AV) = (iI (p))) (h1 : ((100 : Int) : Int) ≠ (0 : Int)) (h2 : (wrapF IntKind.i64 (p.tdiv (100 : Int)) : Int) = q) (h3 : ((iI (if q < V.d then q else V.d)) : AV) = (iI (e))) : Sg 0 0 (s140 V C U un n i ac a b c t m e f g h k z w p q s0 s1 s2 s3 s4 s5 s6 s7 x0 x1 x2 x3 x4 x5 x6 x7 y0 y1 y2 y3 y4 y5 y6 y7) (p140_end V C U un n i ac a b c t m e f g h k z w p q s0 s1 s2 s3 s4 s5 s6 s7 x0 x1 x2 x3 x4 x5 x6 x7 y0 y1 y2 y3 y4 y5 y6 y7) := fun ho j =>
 oS hE [.run 3, (.ops [(5, (.rn (iI (p)))), (6, (.quo (q))), (7, (.rn (iI (e))))] [])] [4] (s' := fun j => ⟨[(zBk (zAc V ac U un) 22 44)], [(.code .ret)], mkT j [(4, (iI (e)))] 13 0⟩) (aP h0 <| aP h1 <| aP h2 <| aP h3 <| aZ)
  fun j => gZ [] (ho j)
def p160_end (_V : AccP) (_C : List DT) (_U : List DT) (_un _n _i : Nat) (_ac a _b _c : Bool) (_t _m _e _f _g _h _k _z _w _p _q _s0 _s1 _s2 _s3 _s4 _s5 _s6 _s7 _x0 _x1 _x2 _x3 _x4 _x5 _x6 _x7 _y0 _y1 _y2 _y3 _y4 _y5 _y6 _y7 : Int) (j : Nat → Value) : St := ⟨[], [(.code .ret)], mkT j [(4, (iB (a)))] 13 0⟩
theorem p160 (hE : EnvOk E) (V : AccP) (C : List DT) (U : List DT) (un n i : Nat) (ac a b c : Bool) (t m e f g h k z w p q s0 s1 s2 s3 s4 s5 s6 s7 x0 x1 x2 x3 x4 x5 x6 x7 y0 y1 y2 y3 y4 y5 y6 y7 : Int) (h0 : COut E 0 [] 49 [(.e (.agg (zB8 x0 x1 x2 x3 x4 x5 x6 x7))), (iI (t)), (iI (m))] (.e (.agg (zTk t m y0 y1 y2 y3 y4 y5 y6 y7))) []) (h3 : EqOk E 35 (zTk t m s0 s1 s2 s3 s4 s5 s6 s7) (zTk t m y0 y1 y2 y3 y4 y5 y6 y7) a) : Sg 0 0 (s160 V C U un n i ac a b c t m e f g h k z w p q s0 s1 s2 s3 s4 s5 s6 s7 x0 x1 x2 x3 x4 x5 x6 x7 y0 y1 y2 y3 y4 y5 y6 y7) (p160_end V C U un n i ac a b c t m e f g h k z w p q s0 s1 s2 s3 s4 s5 s6 s7 x0 x1 x2 x3 x4 x5 x6 x7 y0 y1 y2 y3 y4 y5 y6 y7) := fun ho j =>
 oS hE [.run 3, (.ops [(6, (.c0 (.e (.agg (zTk t m y0 y1 y2 y3 y4 y5 y6 y7))))), (7, (.eqs (a)))] [])] [4] (s' := fun j => ⟨[(zBk (zTk t m s0 s1 s2 s3 s4 s5 s6 s7) 10 35), (zBk (zB8 x0 x1 x2 x3 x4 x5 x6 x7) 8 23)], [(.code .ret)], mkT j [(4, (iB (a)))] 13 0⟩) (aP h0 <| aN <| aP (rfl : (true : Bool) = true) <| aP h3 <| aZ)
  fun j => gZ [] (ho j)
def p138t_end (_V : AccP) (_C : List DT) (_U : List DT) (_un _n _i : Nat) (_ac _a _b _c : Bool) (_t _m _e _f _g _h _k _z _w _p _q _s0 _s1 _s2 _s3 _s4 _s5 _s6 _s7 _x0 _x1 _x2 _x3 _x4 _x5 _x6 _x7 _y0 _y1 _y2 _y3 _y4 _y5 _y6 _y7 : Int) (j : Nat → Value) : St := ⟨[], [(.code .ret)], mkT j [(4, (iB true))] 19 0⟩
theorem p138t (hE : EnvOk E) (V : AccP) (C : List DT) (U : List DT) (un n i : Nat) (ac a b c : Bool) (t m e f g h k z w p q s0 s1 s2 s3 s4 s5 s6 s7 x0 x1 x2 x3 x4 x5 x6 x7 y0 y1 y2 y3 y4 y5 y6 y7 : Int) (h0 : COut E 0 [] 117 [(.e (.agg (zTk t m s0 s1 s2 s3 s4 s5 s6 s7))), (.e (.agg (zB8 V.k0 V.k1 V.k2 V.k3 V.k4 V.k5 V.k6 V.k7)))] (iB (a)) []) (h2 : (a == false : Bool) = false) (h3 : (a == false : Bool) = false) (h4 : (a == false : Bool) = false) (h5 : (a == false : Bool) = false) (h6 : (a : Bool) = true) : Sg 0 0 (s138 V C U un n i ac a b c t m e f g h k z w p q s0 s1 s2 s3 s4 s5 s6 s7 x0 x1 x2 x3 x4 x5 x6 x7 y0 y1 y2 y3 y4 y5 y6 y7) (p138t_end V C U un n i ac a b c t m e f g h k z w p q s0 s1 s2 s3 s4 s5 s6 s7 x0 x1 x2 x3 x4 x5 x6 x7 y0 y1 y2 y3 y4 y5 y6 y7) := fun ho j =>
 oS hE [.run 3, (.ops [(3, (.c0 (iB (a)))), (11, (.c0 (iB (b)))), (13, (.pk true))] [(5, false), (6, false), (7, false), (12, false)])] [4] (s' := fun j => ⟨[(zBk (zAc V ac U un) 22 44), (zBk (zTk t m s0 s1 s2 s3 s4 s5 s6 s7) 10 35)], [(.code .ret)], mkT j [(4, (iB true))] 19 0⟩) (aP h0 <| aN <| aP h2 <| aP h3 <| aP h4 <| aP h5 <| aP h6 <| aZ)
  fun j => gZ [] (ho j)
def p138f_end (_V : AccP) (_C : List DT) (_U : List DT) (_un _n _i : Nat) (_ac _a _b _c : Bool) (_t _m _e _f _g _h _k _z _w _p _q _s0 _s1 _s2 _s3 _s4 _s5 _s6 _s7 _x0 _x1 _x2 _x3 _x4 _x5 _x6 _x7 _y0 _y1 _y2 _y3 _y4 _y5 _y6 _y7 : Int) (j : Nat → Value) : St := ⟨[], [(.code .ret)], mkT j [(4, (iB false))] 19 0⟩
theorem p138f (hE : EnvOk E) (V : AccP) (C : List DT) (U : List DT) (un n i : Nat) (ac a b c : Bool) (t m e f g h k z w p q s0 s1 s2 s3 s4 s5 s6 s7 x0 x1 x2 x3 x4 x5 x6 x7 y0 y1 y2 y3 y4 y5 y6 y7 : Int) (h0 : COut E 0 [] 117 [(.e (.agg (zTk t m s0 s1 s2 s3 s4 s5 s6 s7))), (.e (.agg (zB8 V.k0 V.k1 V.k2 V.k3 V.k4 V.k5 V.k6 V.k7)))] (iB (a)) []) (h2 : (a == false : Bool) = true) (h3 : (a == false : Bool) = true) (h4 : (a == false : Bool) = true) (h5 : (ac == true : Bool) = false) (h6 : (ac == true : Bool) = false) (h7 : (ac == true : Bool) = false) (h8 : (ac == true : Bool) = false) (h9 : (a == false : Bool) = true) (h10 : (ac : Bool) = false) (h11 : (a : Bool) = false) : Sg 0 0 (s138 V C U un n i ac a b c t m e f g h k z w p q s0 s1 s2 s3 s4 s5 s6 s7 x0 x1 x2 x3 x4 x5 x6 x7 y0 y1 y2 y3 y4 y5 y6 y7) (p138f_end V C U un n i ac a b c t m e f g h k z w p q s0 s1 s2 s3 s4 s5 s6 s7 x0 x1 x2 x3 x4 x5 x6 x7 y0 y1 y2 y3 y4 y5 y6 y7) := fun ho j =>
 oS hE [.run 3, (.ops [(3, (.c0 (iB (a)))), (11, (.c0 (iB (b)))), (12, (.pk false)), (13, (.pk false))] [(5, true), (6, true), (7, true), (8, false), (9, false), (10, false), (11, false), (12, true)])] [4] (s' := fun j => ⟨[(zBk (zAc V ac U un) 22 44), (zBk (zTk t m s0 s1 s2 s3 s4 s5 s6 s7) 10 35)], [(.code .ret)], mkT j [(4, (iB false))] 19 0⟩) (aP h0 <| aN <| aP h2 <| aP h3 <| aP h4 <| aP h5 <| aP h6 <| aP h7 <| aP h8 <| aP h9 <| aP h10 <| aP h11 <| aZ)
  fun j => gZ [] (ho j)
def p138c_end (_V : AccP) (_C : List DT) (_U : List DT) (_un _n _i : Nat) (_ac _a b _c : Bool) (_t _m _e _f _g _h _k _z _w _p _q _s0 _s1 _s2 _s3 _s4 _s5 _s6 _s7 _x0 _x1 _x2 _x3 _x4 _x5 _x6 _x7 _y0 _y1 _y2 _y3 _y4 _y5 _y6 _y7 : Int) (j : Nat → Value) : St := ⟨[], [(.code .ret)], mkT j [(4, (iB (b)))] 19 0⟩
theorem p138c (hE : EnvOk E) (V : AccP) (C : List DT) (U : List DT) (un n i : Nat) (ac a b c : Bool) (t m e f g h k z w p q s0 s1 s2 s3 s4 s5 s6 s7 x0 x1 x2 x3 x4 x5 x6 x7 y0 y1 y2 y3 y4 y5 y6 y7 : Int) (h0 : COut E 0 [] 117 [(.e (.agg (zTk t m s0 s1 s2 s3 s4 s5 s6 s7))), (.e (.agg (zB8 V.k0 V.k1 V.k2 V.k3 V.k4 V.k5 V.k6 V.k7)))] (iB (a)) []) (h2 : (a == false : Bool) = true) (h3 : (a == false : Bool) = true) (h4 : (a == false : Bool) = true) (h5 : (ac == true : Bool) = true) (h6 : (ac == true : Bool) = true) (h7 : (ac == true : Bool) = true) (h8 : (ac == true : Bool) = true) (h9 : COut E 0 [] 117 [(.e (.agg (zTk t m s0 s1 s2 s3 s4 s5 s6 s7))), (.e (.agg (zB8 V.m0 V.m1 V.m2 V.m3 V.m4 V.m5 V.m6 V.m7)))] (iB (b)) []) (h11 : (a == false : Bool) = true) (h12 : (ac : Bool) = true) (h13 : (a : Bool) = false) : Sg 0 0 (s138 V C U un n i ac a b c t m e f g h k z w p q s0 s1 s2 s3 s4 s5 s6 s7 x0 x1 x2 x3 x4 x5 x6 x7 y0 y1 y2 y3 y4 y5 y6 y7) (p138c_end V C U un n i ac a b c t m e f g h k z w p q s0 s1 s2 s3 s4 s5 s6 s7 x0 x1 x2 x3 x4 x5 x6 x7 y0 y1 y2 y3 y4 y5 y6 y7) := fun ho j =>
 oS hE [.run 3, (.ops [(3, (.c0 (iB (a)))), (11, (.c0 (iB (b)))), (12, (.pk true)), (13, (.pk false))] [(5, true), (6, true), (7, true), (8, true), (9, true), (10, true), (11, true), (12, true)])] [4] (s' := fun j => ⟨[(zBk (zAc V ac U un) 22 44), (zBk (zTk t m s0 s1 s2 s3 s4 s5 s6 s7) 10 35)], [(.code .ret)], mkT j [(4, (iB (b)))] 19 0⟩) (aP h0 <| aN <| aP h2 <| aP h3 <| aP h4 <| aP h5 <| aP h6 <| aP h7 <| aP h8 <| aP h9 <| aN <| aP h11 <| aP h12 <| aP h13 <| aZ)
  fun j => gZ [] (ho j)
def p99a_end (_V : AccP) (C : List DT) (_U : List DT) (_un n _i : Nat) (_ac _a _b _c : Bool) (_t _m _e _f _g _h _k z _w _p _q _s0 _s1 _s2 _s3 _s4 _s5 _s6 _s7 _x0 _x1 _x2 _x3 _x4 _x5 _x6 _x7 _y0 _y1 _y2 _y3 _y4 _y5 _y6 _y7 : Int) (j : Nat → Value) : St := ⟨[], ztTb0, mkT j [(0, (.e (.one (.dp (.s (C) (n) 1))))), (1, (iI (z))), (5, (iI 0))] 18 0⟩
theorem p99a (hE : EnvOk E) (V : AccP) (C : List DT) (U : List DT) (un n i : Nat) (ac a b c : Bool) (t m e f g h k z w p q s0 s1 s2 s3 s4 s5 s6 s7 x0 x1 x2 x3 x4 x5 x6 x7 y0 y1 y2 y3 y4 y5 y6 y7 : Int) : Sg 0 0 (s99 V C U un n i ac a b c t m e f g h k z w p q s0 s1 s2 s3 s4 s5 s6 s7 x0 x1 x2 x3 x4 x5 x6 x7 y0 y1 y2 y3 y4 y5 y6 y7) (p99a_end V C U un n i ac a b c t m e f g h k z w p q s0 s1 s2 s3 s4 s5 s6 s7 x0 x1 x2 x3 x4 x5 x6 x7 y0 y1 y2 y3 y4 y5 y6 y7) := fun ho j =>
 oS hE [.run 7] [0, 1, 5] (ps := []) trivial
  ho
def p99s_end (_V : AccP) (C : List DT) (_U : List DT) (_un n i : Nat) (_ac _a _b _c : Bool) (_t _m _e _f _g _h _k z _w _p _q _s0 _s1 _s2 _s3 _s4 _s5 _s6 _s7 _x0 _x1 _x2 _x3 _x4 _x5 _x6 _x7 _y0 _y1 _y2 _y3 _y4 _y5 _y6 _y7 : Int) (j : Nat → Value) : St := ⟨[], ztTb0, mkT j [(0, (.e (.one (.dp (.s (C) (n) 1))))), (1, (iI (z))), (5, (iI (Int.ofNat (i + 1))))] 18 0⟩
theorem p99s (hE : EnvOk E) (V : AccP) (C : List DT) (U : List DT) (un n i : Nat) (ac a b c : Bool) (t m e f g h k z w p q s0 s1 s2 s3 s4 s5 s6 s7 x0 x1 x2 x3 x4 x5 x6 x7 y0 y1 y2 y3 y4 y5 y6 y7 : Int) (h0 : (decide (Int.ofNat i < (↑n : Int)) : Bool) = true) (h1 : (0 : Int) ≤ Int.ofNat i ∧ Int.ofNat i < (↑n : Int)) (h2 : ((Int.ofNat i).toNat * nat_lit 1 : Nat) = i) (h3 : (getL C i : Option DT) = (.some (.v (.int .i64 w)))) (h4 : (w == z : Bool) = false) (h5 : ((iI (wrapF IntKind.i64 (Int.ofNat i + (1 : Int)))) : AV) = (iI (Int.ofNat (i + 1)))) : Sg 0 0 (q99 V C U un n i ac a b c t m e f g h k z w p q s0 s1 s2 s3 s4 s5 s6 s7 x0 x1 x2 x3 x4 x5 x6 x7 y0 y1 y2 y3 y4 y5 y6 y7) (p99s_end V C U un n i ac a b c t m e f g h k z w p q s0 s1 s2 s3 s4 s5 s6 s7 x0 x1 x2 x3 x4 x5 x6 x7 y0 y1 y2 y3 y4 y5 y6 y7) := fun ho j =>
 oS hE [.run 2, (.ops [(2, (.d .len))] []), (.cond true), .run 4, (.ops [(3, (.d (.ld (.v (.int .i64 w))))), (2, (.d (.ix (i))))] []), (.cond false), .run 2, (.ops [(1, (.rn (iI (Int.ofNat (i + 1)))))] []), .run 1] [0, 1, 5] (aP h0 <| aP h1 <| aP h2 <| aP h3 <| aP h4 <| aP h5 <| aZ)
  ho
def p99f_end (_V : AccP) (_C : List DT) (_U : List DT) (_un _n _i : Nat) (_ac _a _b _c : Bool) (_t _m _e _f _g _h _k _z _w _p _q _s0 _s1 _s2 _s3 _s4 _s5 _s6 _s7 _x0 _x1 _x2 _x3 _x4 _x5 _x6 _x7 _y0 _y1 _y2 _y3 _y4 _y5 _y6 _y7 : Int) (j : Nat → Value) : St := ⟨[], [(.code .ret), (.inBlock 1), (.code (atC [1, 0, 1, 0, 0, 1, 1] (bodyOf Tryz.f10))), (.inLoop (atC [1, 0, 1, 0, 0] (bodyOf Tryz.f10))), (.inBlock 0), (.code (atC [1, 1] (bodyOf Tryz.f10)))], mkT j [(4, (iB true))] 18 0⟩
theorem p99f (hE : EnvOk E) (V : AccP) (C : List DT) (U : List DT) (un n i : Nat) (ac a b c : Bool) (t m e f g h k z w p q s0 s1 s2 s3 s4 s5 s6 s7 x0 x1 x2 x3 x4 x5 x6 x7 y0 y1 y2 y3 y4 y5 y6 y7 : Int) (h0 : (decide (Int.ofNat i < (↑n : Int)) : Bool) = true) (h1 : (0 : Int) ≤ Int.ofNat i ∧ Int.ofNat i < (↑n : Int)) (h2 : ((Int.ofNat i).toNat * nat_lit 1 : Nat) = i) (h3 : (getL C i : Option DT) = (.some (.v (.int .i64 w)))) (h4 : (w == z : Bool) = true) : Sg 0 0 (q99 V C U un n i ac a b c t m e f g h k z w p q s0 s1 s2 s3 s4 s5 s6 s7 x0 x1 x2 x3 x4 x5 x6 x7 y0 y1 y2 y3 y4 y5 y6 y7) (p99f_end V C U un n i ac a b c t m e f g h k z w p q s0 s1 s2 s3 s4 s5 s6 s7 x0 x1 x2 x3 x4 x5 x6 x7 y0 y1 y2 y3 y4 y5 y6 y7) := fun ho j =>
 oS hE [.run 2, (.ops [(2, (.d .len))] []), (.cond true), .run 4, (.ops [(3, (.d (.ld (.v (.int .i64 w))))), (2, (.d (.ix (i))))] []), (.cond true), .run 2] [4] (aP h0 <| aP h1 <| aP h2 <| aP h3 <| aP h4 <| aZ)
  ho
def p99x_end (_V : AccP) (_C : List DT) (_U : List DT) (_un _n _i : Nat) (_ac _a _b _c : Bool) (_t _m _e _f _g _h _k _z _w _p _q _s0 _s1 _s2 _s3 _s4 _s5 _s6 _s7 _x0 _x1 _x2 _x3 _x4 _x5 _x6 _x7 _y0 _y1 _y2 _y3 _y4 _y5 _y6 _y7 : Int) (j : Nat → Value) : St := ⟨[], [(.code .ret)], mkT j [(4, (iB false))] 18 0⟩
theorem p99x (hE : EnvOk E) (V : AccP) (C : List DT) (U : List DT) (un n i : Nat) (ac a b c : Bool) (t m e f g h k z w p q s0 s1 s2 s3 s4 s5 s6 s7 x0 x1 x2 x3 x4 x5 x6 x7 y0 y1 y2 y3 y4 y5 y6 y7 : Int) (h0 : (decide (Int.ofNat i < (↑n : Int)) : Bool) = false) : Sg 0 0 (q99 V C U un n i ac a b c t m e f g h k z w p q s0 s1 s2 s3 s4 s5 s6 s7 x0 x1 x2 x3 x4 x5 x6 x7 y0 y1 y2 y3 y4 y5 y6 y7) (p99x_end V C U un n i ac a b c t m e f g h k z w p q s0 s1 s2 s3 s4 s5 s6 s7 x0 x1 x2 x3 x4 x5 x6 x7 y0 y1 y2 y3 y4 y5 y6 y7) := fun ho j =>
 oS hE [.run 2, (.ops [(2, (.d .len))] []), (.cond false), .run 3] [4] (aP h0 <| aZ)
  ho
def p92_end (_V : AccP) (_C : List DT) (_U : List DT) (_un _n _i : Nat) (_ac _a _b _c : Bool) (_t _m _e _f _g _h k _z _w _p _q _s0 _s1 _s2 _s3 _s4 _s5 _s6 _s7 _x0 _x1 _x2 _x3 _x4 _x5 _x6 _x7 _y0 _y1 _y2 _y3 _y4 _y5 _y6 _y7 : Int) (j : Nat → Value) : St := ⟨[], [(.code .ret)], mkT j [(4, (iI (k)))] 34 0⟩
theorem p92 (hE : EnvOk E) (V : AccP) (C : List DT) (U : List DT) (un n i : Nat) (ac a b c : Bool) (t m e f g h k z w p q s0 s1 s2 s3 s4 s5 s6 s7 x0 x1 x2 x3 x4 x5 x6 x7 y0 y1 y2 y3 y4 y5 y6 y7 : Int) (h0 : COut E 0 [] 90 [(.e (.agg (zAc V ac U un))), (.e (.agg (zTk t m s0 s1 s2 s3 s4 s5 s6 s7)))] (iB (a)) []) (h2 : COut E 0 [] 61 [(iB (!a)), (iI 27)] (iI (e)) []) (h4 : COut E 0 [] 91 [(.e (.agg (zAc V ac U un))), (iI (t))] (iB (b)) []) (h6 : COut E 0 [] 61 [(iB (b)), (iI 9)] (iI (f)) []) (h8 : COut E 0 [] 61 [(iB (decide ((↑un : Int) ≥ (256 : Int)))), (iI 5)] (iI (g)) []) (h10 : ((iI (wrapF IntKind.i64 (V.b + m))) : AV) = (iI (p))) (h11 : COut E 0 [] 92 [(.e (.agg (zAc V ac U un))), (iI (m))] (iI (q)) []) (h14 : ((iI (wrapF IntKind.i64 (p - q))) : AV) = (iI (w))) (h15 : COut E 0 [] 61 [(iB (decide (w > (1000000000000 : Int)))), (iI 4)] (iI (h)) []) (h17 : COut E 3 [(zBk (zAc V ac U un) 22 44), (zBk (zTk t m s0 s1 s2 s3 s4 s5 s6 s7) 10 35), (zBk [.v (.int .i64 e), .v (.int .i64 f), .v (.int .i64 g), .v (.int .i64 h)] 4 36)] 53 [(.e (.one (.slc 2 0 4 1 4 true)))] (iI (k)) [(zBk (zAc V ac U un) 22 44), (zBk (zTk t m s0 s1 s2 s3 s4 s5 s6 s7) 10 35), (zBk [.v (.int .i64 e), .v (.int .i64 f), .v (.int .i64 g), .v (.int .i64 h)] 4 36)]) : Sg 0 0 (s92 V C U un n i ac a b c t m e f g h k z w p q s0 s1 s2 s3 s4 s5 s6 s7 x0 x1 x2 x3 x4 x5 x6 x7 y0 y1 y2 y3 y4 y5 y6 y7) (p92_end V C U un n i ac a b c t m e f g h k z w p q s0 s1 s2 s3 s4 s5 s6 s7 x0 x1 x2 x3 x4 x5 x6 x7 y0 y1 y2 y3 y4 y5 y6 y7) := fun ho j =>
 oS hE [.run 3, (.ops [(2, (.c0 (iB (a)))), (4, (.c0 (iI (e)))), (8, (.c0 (iB (b)))), (9, (.c0 (iI (f)))), (14, (.c0 (iI (g)))), (19, (.rn (iI (p)))), (23, (.c0 (iI (q)))), (24, (.rn (iI (w)))), (26, (.c0 (iI (h)))), (28, (.d (.c1 (iI (k))))), (12, (.d .len))] [])] [4] (s' := fun j => ⟨[(zBk (zAc V ac U un) 22 44), (zBk (zTk t m s0 s1 s2 s3 s4 s5 s6 s7) 10 35), (zBk [.v (.int .i64 e), .v (.int .i64 f), .v (.int .i64 g), .v (.int .i64 h)] 4 36)], [(.code .ret)], mkT j [(4, (iI (k)))] 34 0⟩) (aP h0 <| aN <| aP h2 <| aN <| aP h4 <| aN <| aP h6 <| aN <| aP h8 <| aN <| aP h10 <| aP h11 <| aN <| aP (rfl : (true : Bool) = true) <| aP h14 <| aP h15 <| aN <| aP h17 <| aN <| aZ)
  fun j => gZ [] (ho j)
abbrev sb (j x t m : Int) : Int := sealB j x [oct3 t, oct2 t, oct1 t, oct0 t, oct3 m, oct2 m, oct1 m, oct0 m]
def sls (x0 x1 x2 x3 x4 x5 x6 x7 t m : Int) : List Int := [sb 0 x0 t m, sb 1 x1 t m, sb 2 x2 t m, sb 3 x3 t m, sb 4 x4 t m, sb 5 x5 t m, sb 6 x6 t m, sb 7 x7 t m]
structure KeyB (V : AccP) : Prop where
 k0 : 0 ≤ V.k0 ∧ V.k0 < 256
 k1 : 0 ≤ V.k1 ∧ V.k1 < 256
 k2 : 0 ≤ V.k2 ∧ V.k2 < 256
 k3 : 0 ≤ V.k3 ∧ V.k3 < 256
 k4 : 0 ≤ V.k4 ∧ V.k4 < 256
 k5 : 0 ≤ V.k5 ∧ V.k5 < 256
 k6 : 0 ≤ V.k6 ∧ V.k6 < 256
 k7 : 0 ≤ V.k7 ∧ V.k7 < 256
 m0 : 0 ≤ V.m0 ∧ V.m0 < 256
 m1 : 0 ≤ V.m1 ∧ V.m1 < 256
 m2 : 0 ≤ V.m2 ∧ V.m2 < 256
 m3 : 0 ≤ V.m3 ∧ V.m3 < 256
 m4 : 0 ≤ V.m4 ∧ V.m4 < 256
 m5 : 0 ≤ V.m5 ∧ V.m5 < 256
 m6 : 0 ≤ V.m6 ∧ V.m6 < 256
 m7 : 0 ≤ V.m7 ∧ V.m7 < 256
theorem K160 (hE : EnvOk E) (t m s0 s1 s2 s3 s4 s5 s6 s7 x0 x1 x2 x3 x4 x5 x6 x7 : Int) (g0 : 0 ≤ x0 ∧ x0 < 256) (g1 : 0 ≤ x1 ∧ x1 < 256) (g2 : 0 ≤ x2 ∧ x2 < 256) (g3 : 0 ≤ x3 ∧ x3 < 256) (g4 : 0 ≤ x4 ∧ x4 < 256) (g5 : 0 ≤ x5 ∧ x5 < 256) (g6 : 0 ≤ x6 ∧ x6 < 256) (g7 : 0 ≤ x7 ∧ x7 < 256) : COut E 0 [] 117 [tokA t m s0 s1 s2 s3 s4 s5 s6 s7, keyA x0 x1 x2 x3 x4 x5 x6 x7] (iB (sameK [s0, s1, s2, s3, s4, s5, s6, s7] (sls x0 x1 x2 x3 x4 x5 x6 x7 t m))) [] :=
 cOut_start Tryz.func117 rfl (p160 hE vZ [] [] 0 0 0 false (sameK [s0, s1, s2, s3, s4, s5, s6, s7] (sls x0 x1 x2 x3 x4 x5 x6 x7 t m)) false false (t) (m) 0 0 0 0 0 0 0 0 0 (s0) (s1) (s2) (s3) (s4) (s5) (s6) (s7) (x0) (x1) (x2) (x3) (x4) (x5) (x6) (x7) (sb 0 x0 t m) (sb 1 x1 t m) (sb 2 x2 t m) (sb 3 x3 t m) (sb 4 x4 t m) (sb 5 x5 t m) (sb 6 x6 t m) (sb 7 x7 t m) (K100 hE t m x0 x1 x2 x3 x4 x5 x6 x7 g0 g1 g2 g3 g4 g5 g6 g7) (eqTok2 t m s0 s1 s2 s3 s4 s5 s6 s7 (sb 0 x0 t m) (sb 1 x1 t m) (sb 2 x2 t m) (sb 3 x3 t m) (sb 4 x4 t m) (sb 5 x5 t m) (sb 6 x6 t m) (sb 7 x7 t m)) (fun j => outK_ret (ends_ret (by kernel_rfl))) fun _ => undef)
def validB (V : AccP) (c : Bool) (t m : Int) (s : List Int) : Bool := sameK s (sls V.k0 V.k1 V.k2 V.k3 V.k4 V.k5 V.k6 V.k7 t m) || (c && sameK s (sls V.m0 V.m1 V.m2 V.m3 V.m4 V.m5 V.m6 V.m7 t m))
theorem K138 (hE : EnvOk E) (V : AccP) (hV : KeyB V) (us : List Int) (n : Nat) (c : Bool) (t m s0 s1 s2 s3 s4 s5 s6 s7 : Int) : COut E 0 [] 90 [accA V us n c, tokA t m s0 s1 s2 s3 s4 s5 s6 s7] (iB (validB V c t m [s0, s1, s2, s3, s4, s5, s6, s7])) [] := by
 have k1 := K160 hE t m s0 s1 s2 s3 s4 s5 s6 s7 V.k0 V.k1 V.k2 V.k3 V.k4 V.k5 V.k6 V.k7 hV.k0 hV.k1 hV.k2 hV.k3 hV.k4 hV.k5 hV.k6 hV.k7
 have k2 := K160 hE t m s0 s1 s2 s3 s4 s5 s6 s7 V.m0 V.m1 V.m2 V.m3 V.m4 V.m5 V.m6 V.m7 hV.m0 hV.m1 hV.m2 hV.m3 hV.m4 hV.m5 hV.m6 hV.m7
 unfold validB
 generalize sameK [s0, s1, s2, s3, s4, s5, s6, s7] (sls V.k0 V.k1 V.k2 V.k3 V.k4 V.k5 V.k6 V.k7 t m) = a at k1
 generalize sameK [s0, s1, s2, s3, s4, s5, s6, s7] (sls V.m0 V.m1 V.m2 V.m3 V.m4 V.m5 V.m6 V.m7 t m) = b at k2
 cases a
 ·cases c
  ·exact cOut_start Tryz.func90 rfl (p138f hE (V) [] (iD us) (n) 0 0 (false) (false) (b) false (t) (m) 0 0 0 0 0 0 0 0 0 (s0) (s1) (s2) (s3) (s4) (s5) (s6) (s7) 0 0 0 0 0 0 0 0 0 0 0 0 0 0 0 0 k1 rfl rfl rfl rfl rfl rfl rfl rfl rfl rfl (fun j => outK_ret (ends_ret (by kernel_rfl))) fun _ => undef)
  ·exact cOut_start Tryz.func90 rfl (p138c hE (V) [] (iD us) (n) 0 0 (true) (false) (b) false (t) (m) 0 0 0 0 0 0 0 0 0 (s0) (s1) (s2) (s3) (s4) (s5) (s6) (s7) 0 0 0 0 0 0 0 0 0 0 0 0 0 0 0 0 k1 rfl rfl rfl rfl rfl rfl rfl k2 rfl rfl rfl (fun j => outK_ret (ends_ret (by kernel_rfl))) fun _ => undef)
 ·exact cOut_start Tryz.func90 rfl (p138t hE (V) [] (iD us) (n) 0 0 (c) (true) (b) false (t) (m) 0 0 0 0 0 0 0 0 0 (s0) (s1) (s2) (s3) (s4) (s5) (s6) (s7) 0 0 0 0 0 0 0 0 0 0 0 0 0 0 0 0 k1 rfl rfl rfl rfl rfl (fun j => outK_ret (ends_ret (by kernel_rfl))) fun _ => undef)
def paidI (V : AccP) (m : Int) : Int := if wrapF .i64 ((wrapF .i64 (m * V.s)).tdiv 100) < V.d then wrapF .i64 ((wrapF .i64 (m * V.s)).tdiv 100) else V.d
theorem K140 (hE : EnvOk E) (V : AccP) (us : List Int) (n : Nat) (c : Bool) (m : Int) : COut E 0 [] 92 [accA V us n c, iI m] (iI (paidI V m)) [] :=
 cOut_start Tryz.func92 rfl (p140 hE (V) [] (iD us) (n) 0 0 (c) false false false 0 (m) (paidI V m) 0 0 0 0 0 0 (wrapF .i64 (m * V.s)) (wrapF .i64 ((wrapF .i64 (m * V.s)).tdiv 100)) 0 0 0 0 0 0 0 0 0 0 0 0 0 0 0 0 0 0 0 0 0 0 0 0 rfl (by decide) rfl rfl (fun j => outK_ret (ends_ret (by kernel_rfl))) fun _ => undef)
theorem l99 (hE : EnvOk E) (xs : List Int) (n : Nat) (hn : xs.length = n) (hm : n ≤ 4000000) (z : Int) : ∀ k i, k + i = n → ∀ j, OutK E 0 0 (q99 vZ (iD xs) [] 0 (n) (i) false false false false 0 0 0 0 0 0 0 (z) 0 0 0 0 0 0 0 0 0 0 0 0 0 0 0 0 0 0 0 0 0 0 0 0 0 0 0 j) (Go.Ev.Ends E Tryz.f10 (iB (decide (z ∈ xs.drop i))) [])
 | 0, i, hk, j => by
  rw [List.drop_eq_nil_of_le (by omega)]
  exact p99x hE vZ (iD xs) [] 0 (n) (i) false false false false 0 0 0 0 0 0 0 (z) 0 0 0 0 0 0 0 0 0 0 0 0 0 0 0 0 0 0 0 0 0 0 0 0 0 0 0 (decide_eq_false (by (try simp only [Int.ofNat_eq_natCast]); omega)) (fun j => outK_ret (ends_ret (by kernel_rfl))) j
 | k + 1, i, hk, j => by
  have hl : i < xs.length := by omega
  have hx : xs[i]? = some xs[i] := List.getElem?_eq_getElem hl
  rw [List.drop_eq_getElem_cons hl]
  generalize xs[i] = w at hx
  by_cases h : w = z
  ·have e : decide (z ∈ w :: xs.drop (i + 1)) = true := decide_eq_true (by simp [h])
   rw [e]
   exact p99f hE vZ (iD xs) [] 0 (n) (i) false false false false 0 0 0 0 0 0 0 (z) (w) 0 0 0 0 0 0 0 0 0 0 0 0 0 0 0 0 0 0 0 0 0 0 0 0 0 0 (decide_eq_true (by (try simp only [Int.ofNat_eq_natCast]); omega)) ⟨by (try simp only [Int.ofNat_eq_natCast]); omega, by (try simp only [Int.ofNat_eq_natCast]); omega⟩ (Nat.mul_one _) (getI hx) (by rw [h]; exact beq_self_eq_true z) (fun j => outK_ret (ends_ret (by kernel_rfl))) j
  ·have e : decide (z ∈ w :: xs.drop (i + 1)) = decide (z ∈ xs.drop (i + 1)) := decide_eq_decide.2 ⟨fun hh => (List.mem_cons.1 hh).resolve_left fun e => h e.symm, fun hh => List.mem_cons_of_mem _ hh⟩
   rw [e]
   exact p99s hE vZ (iD xs) [] 0 (n) (i) false false false false 0 0 0 0 0 0 0 (z) (w) 0 0 0 0 0 0 0 0 0 0 0 0 0 0 0 0 0 0 0 0 0 0 0 0 0 0 (decide_eq_true (by (try simp only [Int.ofNat_eq_natCast]); omega)) ⟨by (try simp only [Int.ofNat_eq_natCast]); omega, by (try simp only [Int.ofNat_eq_natCast]); omega⟩ (Nat.mul_one _) (getI hx) (beq_eq_false_iff_ne.2 h) (iIe (by (try simp only [Int.ofNat_eq_natCast]); rw [wrap_id (by omega) (by omega)]; try omega)) (l99 hE xs n hn hm z k (i + 1) (by omega)) j
theorem K99 (hE : EnvOk E) (xs : List Int) (n : Nat) (hn : xs.length = n) (hm : n ≤ 4000000) (z : Int) : COut E 0 [] 10 [.e (.one (.dp (.s (iD xs) n 1))), iI z] (iB (decide (z ∈ xs))) [] :=
 cOut_start Tryz.func10 rfl (p99a hE vZ (iD xs) [] 0 (n) 0 false false false false 0 0 0 0 0 0 0 (z) 0 0 0 0 0 0 0 0 0 0 0 0 0 0 0 0 0 0 0 0 0 0 0 0 0 0 0  (l99 hE xs n hn hm z n 0 rfl) fun _ => undef)
def crL (V : AccP) (c : Bool) (us : List Int) (n : Nat) (t m : Int) (s : List Int) : List Int := [if (!validB V c t m s) = true then 27 else 0, if decide (t ∈ us) = true then 9 else 0, if decide ((n : Int) ≥ 256) = true then 5 else 0, if decide (wrapF .i64 (wrapF .i64 (V.b + m) - paidI V m) > 1000000000000) = true then 4 else 0]
def crI (V : AccP) (c : Bool) (us : List Int) (n : Nat) (t m : Int) (s : List Int) : Int := firstI (crL V c us n t m s)
theorem K92 (hE : EnvOk E) (V : AccP) (hV : KeyB V) (us : List Int) (n : Nat) (c : Bool) (hn : us.length = n) (hm : n ≤ 4000000) (t m s0 s1 s2 s3 s4 s5 s6 s7 : Int) : COut E 0 [] 55 [accA V us n c, tokA t m s0 s1 s2 s3 s4 s5 s6 s7] (iI (crI V c us n t m [s0, s1, s2, s3, s4, s5, s6, s7])) [] :=
 cOut_start Tryz.func55 rfl (p92 hE (V) [] (iD us) (n) 0 0 (c) (validB V c t m [s0, s1, s2, s3, s4, s5, s6, s7]) (decide (t ∈ us)) false (t) (m) (if (!validB V c t m [s0, s1, s2, s3, s4, s5, s6, s7]) = true then 27 else 0) (if decide (t ∈ us) = true then 9 else 0) (if decide ((n : Int) ≥ 256) = true then 5 else 0) (if decide (wrapF .i64 (wrapF .i64 (V.b + m) - paidI V m) > 1000000000000) = true then 4 else 0) (crI V c us n t m [s0, s1, s2, s3, s4, s5, s6, s7]) 0 (wrapF .i64 (wrapF .i64 (V.b + m) - paidI V m)) (wrapF .i64 (V.b + m)) (paidI V m) (s0) (s1) (s2) (s3) (s4) (s5) (s6) (s7) 0 0 0 0 0 0 0 0 0 0 0 0 0 0 0 0 (K138 hE V hV us n c t m s0 s1 s2 s3 s4 s5 s6 s7) (K78 hE _ _) (K139 hE V us n c hn hm t) (K78 hE _ _) (K78 hE _ _) rfl (K140 hE V us n c m) rfl (K78 hE _ _) (lend2 3 hE 53 (crL V c us n t m [s0, s1, s2, s3, s4, s5, s6, s7]) _ 36 true (K76 hE _ (by simp [crL])) _ 2 rfl) (fun j => outK_ret (ends_ret (by kernel_rfl))) fun _ => undef)
end
end Go.Proofs.YtneaafigbnjceaaGreatDoor.Bk
end

/-! SySort -/
section
open Go Go.Ev Go.RowKit
namespace Go.Ev
def Sorts (P : Program) (f : FuncId) : Prop := ∀ (blk off cap : Nat) (zs : List Int) (w : World), Go.Sort.Holds (Value.int .i64) w blk off zs.toArray → blk < w.heap.size → zs.length < 4611686018427387904 →
 Calls P f #[.slice (some ⟨blk, off, none⟩) zs.length cap] w fun e w' => e = .returned (.tuple #[]) ∧ ∃ n os, w' = Go.Sort.grow (Go.Sort.putRow (Value.int .i64) (Go.Sort.ahead w n) blk off (zs.mergeSort fun x y => decide (x ≤ y)).toArray) os
theorem all2_ints {m : M} : ∀ {l : List Int} {vs : List Value}, All2 (CR m) (l.map fun z => AC.v (.int .i64 z)) vs → vs = l.map (Value.int .i64)
 | [], [], _ => rfl
 | _ :: _, _ :: _, ⟨h, ht⟩ => by rw [all2_ints ht]; exact congrArg (· :: _) h
 | [], _ :: _, h => h.elim
 | _ :: _, [], h => h.elim
theorem ints_all2 {m : M} : ∀ {l : List Int}, All2 (CR m) (l.map fun z => AC.v (.int .i64 z)) (l.map (Value.int .i64))
 | [] => trivial
 | _ :: _ => ⟨rfl, ints_all2⟩
theorem sort_bridge {E : Env} {f : FuncId} (hS : Sorts E.P f) (xs : List Int) (n cap el lvl i : Nat) (h : Heap) (fl ex : Bool) (hn : xs.length = n) (h0 : 0 < n) (hm : n ≤ 4000000) (hi : h[i]? = some (some ⟨xs.map fun z => AC.v (.int .i64 z), n, el, fl, .cells⟩)) (hlv : lvl ≤ i) :
  COut E lvl h f [.e (.one (.slc i 0 n 1 cap ex))] (.tup []) (h.set i (some ⟨(xs.mergeSort fun x y => decide (x ≤ y)).map fun z => AC.v (.int .i64 z), n, el, fl, .cells⟩)) := by
 intro m base w argsC ha H G
 obtain ⟨y, hy, hR⟩ : ∃ y, argsC.toList = [y] ∧ VR m (.e (.one (.slc i 0 n 1 cap ex))) y := by
  generalize argsC.toList = l at ha
  match l, ha with
  | [y], hh => exact ⟨y, rfl, hh.1⟩
  | [], hh => exact hh.elim
  | _ :: _ :: _, hh => exact hh.2.elim
 have e : argsC = #[y] := by rw [← Array.toList_inj, hy]
 subst e
 obtain ⟨hb, c', o', rfl, ho', hlc, hcc, _, hk, _⟩ := hR
 have hc0 : o' = 0 := by
  rcases ho' with h | h
  ·exact h
  ·omega
 subst hc0
 have B := H.blk i _ hi rfl
 obtain ⟨c, fz, hc, hsz, hfz, hle, hr⟩ := B.at_
 have hr := all2_ints hr
 have hlt : m.ρ i < w.heap.size := (Array.getElem?_eq_some_iff.1 hc).1
 have hcell : ∀ j, j < n → c[j]? = some (.int .i64 (xs.getD j 0)) := fun j hj => by
  have h1 : (c.toList.take n)[j]? = (xs.map (Value.int .i64))[j]? := by rw [← hr]
  rw [List.getElem?_take, if_pos hj, List.getElem?_map, List.getElem?_eq_getElem (show j < xs.length by omega)] at h1
  rw [← Array.getElem?_toList, h1, List.getD_eq_getElem?_getD, List.getElem?_eq_getElem (show j < xs.length by omega)]; rfl
 have hlo : m.lo ≤ i := Nat.le_trans H.lo hlv
 have hH : Go.Sort.Holds (Value.int .i64) w (m.ρ i) 0 xs.toArray := fun j hj => by
  have hj : j < xs.length := by simpa using hj
  have hfree := (hfz hlo).free j (by rw [hsz]; have : n ≤ c.size := hle; omega)
  constructor
  ·simp only [World.cell?, hc, Nat.zero_add, Option.isSome_none, Bool.false_eq_true, if_false]
   rw [hcell j (by omega)]
   simp [List.getD_eq_getElem?_getD, hj]
  ·simp only [World.frozen?, hc, Nat.zero_add]
   obtain ⟨lo, hi⟩ := fz
   simpa using hfree
 subst hn
 refine (hS (m.ρ i) 0 c' xs w hH hlt (by omega)).mono fun e w' ⟨he, k, os, hw⟩ => ?_
 subst he hw
 generalize hzs : (xs.mergeSort fun x y => decide (x ≤ y)) = zs
 have hlen : zs.length = xs.length := by rw [← hzs, List.length_mergeSort]
 let c2 : Array Value := Go.Sort.putCells (Value.int .i64) 0 zs.toArray c
 have hc2 : c2.size = c.size := by simp [c2, Go.Sort.putCells]
 have htake : c2.toList.take xs.length = zs.map (Value.int .i64) := by
  apply List.ext_getElem?
  intro q
  rw [List.getElem?_take]
  by_cases hi : q < xs.length
  ·have hic : q < c.size := by have : xs.length ≤ c.size := hle; omega
   rw [if_pos hi, Array.getElem?_toList, List.getElem?_map, List.getElem?_eq_getElem (show q < zs.length by omega)]
   simp only [c2, Go.Sort.putCells, Array.getElem?_mapIdx, Array.getElem?_eq_getElem hic, Option.map_some]
   rw [if_pos ⟨Nat.zero_le _, by simpa using (show q < zs.length by omega)⟩]
   simp [show q < zs.length by omega]
  ·rw [if_neg hi, List.getElem?_eq_none (by simp; omega)]
 have HP := H.put (b := i) hi hlv rfl hc (fun h => hfz h) hc2 hsz hle (cells := zs.map fun z => AC.v (.int .i64 z)) (by simp [hlen]) (by rw [htake]; exact ints_all2)
 have hheap : ∀ b, b < w.heap.size → (Go.Sort.grow (Go.Sort.putRow (Value.int .i64) (Go.Sort.ahead w k) (m.ρ i) 0 zs.toArray) os).heap[b]? = (w.setRow (m.ρ i) c2).heap[b]? := fun b hb => by
  have h1 : b < (w.heap.modify (m.ρ i) (Go.Sort.onCells (Go.Sort.putCells (Value.int .i64) 0 zs.toArray))).size := by simpa using hb
  show (w.heap.modify (m.ρ i) (Go.Sort.onCells (Go.Sort.putCells (Value.int .i64) 0 zs.toArray)) ++ os)[b]? = _
  rw [Array.getElem?_append_left h1, World.setRow, Array.getElem?_modify, Array.getElem?_modify]
  by_cases hb0 : m.ρ i = b
  ·subst hb0
   simp only [if_true, hc, Option.map_some, Go.Sort.onCells]; rfl
  ·simp only [if_neg hb0]
 refine ⟨_, rfl, m, M.leG.refl _ m, ⟨#[], rfl, trivial⟩, HP.world ?_ ?_, ?_⟩
 ·simp [World.setRow, Go.Sort.grow, Go.Sort.putRow, Go.Sort.mapBlock, Go.Sort.ahead]
 ·intro b hb
  exact hheap b (by simpa [World.setRow] using hb)
 ·refine ⟨rfl, rfl, rfl, by simp [Go.Sort.grow, Go.Sort.putRow, Go.Sort.mapBlock, Go.Sort.ahead], fun b hb => ?_⟩
  rw [hheap b (Nat.lt_of_lt_of_le hb H.baseLe)]
  exact setRow_other w _ _ _ (fun h => by have := H.own i hlv (List.getElem?_eq_some_iff.1 hi).1; omega)
end Go.Ev
end

/-! SeSo -/
section
open Go Go.Shelf Go.Sort Go.Ev Go.RowKit Go.Lib Go.Proofs
namespace Go.Proofs.YtneaafigbnjceaaGreatDoor.Bk
set_option maxRecDepth 100000
def laysS_ren : Go.Shelf.Ren := ⟨fun | 189 => 93 | 125 => 119 | 257 => 118 | 128 => 142 | 129 => 143 | 294 => 133 | 295 => 134 | 296 => 135 | 297 => 136 | 298 => 137 | 299 => 138 | 216 => 139 | 300 => 140 | 301 => 141 | 328 => 149 | 329 => 150 | 330 => 151 | 331 => 152 | 332 => 153 | 215 => 154 | 343 => 159 | n => n, fun | 28 => 24 | 3 => 3 | 46 => 159 | 0 => 0 | 51 => 65 | 53 => 215 | 4 => 4 | 183 => 206 | 182 => 205 | 131 => 211 | 5 => 5 | 9 => 9 | 218 => 222 | 222 => 226 | 228 => 232 | 229 => 233 | n => n, fun | n => n⟩
theorem laysS : Go.Proofs.Lays.n189 Tryz.prog laysS_ren := {
 mixed := by kernel_rfl
 f125 := Tryz.func119.trans (congrArg some (by kernel_rfl))
 f128 := Tryz.func142.trans (congrArg some (by kernel_rfl))
 f129 := Tryz.func143.trans (congrArg some (by kernel_rfl))
 f189 := Tryz.func93.trans (congrArg some (by kernel_rfl))
 f215 := Tryz.func154.trans (congrArg some (by kernel_rfl))
 f216 := Tryz.func139.trans (congrArg some (by kernel_rfl))
 f257 := Tryz.func118.trans (congrArg some (by kernel_rfl))
 f294 := Tryz.func133.trans (congrArg some (by kernel_rfl))
 f295 := Tryz.func134.trans (congrArg some (by kernel_rfl))
 f296 := Tryz.func135.trans (congrArg some (by kernel_rfl))
 f297 := Tryz.func136.trans (congrArg some (by kernel_rfl))
 f298 := Tryz.func137.trans (congrArg some (by kernel_rfl))
 f299 := Tryz.func138.trans (congrArg some (by kernel_rfl))
 f300 := Tryz.func140.trans (congrArg some (by kernel_rfl))
 f301 := Tryz.func141.trans (congrArg some (by kernel_rfl))
 f328 := Tryz.func149.trans (congrArg some (by kernel_rfl))
 f329 := Tryz.func150.trans (congrArg some (by kernel_rfl))
 f330 := Tryz.func151.trans (congrArg some (by kernel_rfl))
 f331 := Tryz.func152.trans (congrArg some (by kernel_rfl))
 f332 := Tryz.func153.trans (congrArg some (by kernel_rfl))
 f343 := Tryz.func159.trans (congrArg some (by kernel_rfl))
 t0 := Tryz.underlying0
 a0 := Tryz.isAgg0
 z0 := Tryz.sizeOf0
 v0 := Tryz.zeroValue0
 t3 := Tryz.underlying3
 a3 := Tryz.isAgg3
 z3 := Tryz.sizeOf3
 v3 := Tryz.zeroValue3
 t4 := Tryz.underlying4
 a4 := Tryz.isAgg4
 z4 := Tryz.sizeOf4
 v4 := Tryz.zeroValue4
 t5 := Tryz.underlying5
 a5 := Tryz.isAgg5
 z5 := Tryz.sizeOf5
 v5 := Tryz.zeroValue5
 t9 := Tryz.underlying9
 a9 := Tryz.isAgg9
 z9 := Tryz.sizeOf9
 v9 := Tryz.zeroValue9
 t28 := Tryz.underlying24
 a28 := Tryz.isAgg24
 z28 := Tryz.sizeOf24
 v28 := Tryz.zeroValue24
 t46 := Tryz.underlying159
 a46 := Tryz.isAgg159
 z46 := Tryz.sizeOf159
 v46 := Tryz.zeroValue159
 t51 := Tryz.underlying65
 a51 := Tryz.isAgg65
 z51 := Tryz.sizeOf65
 v51 := Tryz.zeroValue65
 t53 := Tryz.underlying215
 a53 := Tryz.isAgg215
 z53 := Tryz.sizeOf215
 v53 := Tryz.zeroValue215
 t131 := Tryz.underlying211
 a131 := Tryz.isAgg211
 z131 := Tryz.sizeOf211
 v131 := Tryz.zeroValue211
 t182 := Tryz.underlying205
 a182 := Tryz.isAgg205
 z182 := Tryz.sizeOf205
 v182 := Tryz.zeroValue205
 t183 := Tryz.underlying206
 a183 := Tryz.isAgg206
 z183 := Tryz.sizeOf206
 v183 := Tryz.zeroValue206
 t218 := Tryz.underlying222
 a218 := Tryz.isAgg222
 z218 := Tryz.sizeOf222
 v218 := Tryz.zeroValue222
 t222 := Tryz.underlying226
 a222 := Tryz.isAgg226
 z222 := Tryz.sizeOf226
 v222 := Tryz.zeroValue226
 t228 := Tryz.underlying232
 a228 := Tryz.isAgg232
 z228 := Tryz.sizeOf232
 v228 := Tryz.zeroValue232
 t229 := Tryz.underlying233
 a229 := Tryz.isAgg233
 z229 := Tryz.sizeOf233
 v229 := Tryz.zeroValue233 }
open Go.Sort Go.RowKit in
theorem sort_int (blk off cap : Nat) (zs : List Int) (w : World) (hH : Holds (Value.int .i64) w blk off zs.toArray) (hblk : blk < w.heap.size) (hsz : zs.length < 4611686018427387904) :
  Calls Tryz.prog 93 #[.slice (some ⟨blk, off, none⟩) zs.length cap] w fun e w' =>
   e = .returned (.tuple #[]) ∧ ∃ n os, w' = grow (putRow (Value.int .i64) (Sort.ahead w n) blk off (zs.mergeSort fun x y => decide (x ≤ y)).toArray) os := Any.slices_Sort_int laysS blk off cap zs w hH hblk hsz
theorem sortsE : Sorts E.P 93 := fun blk off cap zs w hH hb hs => sort_int blk off cap zs w hH hb hs
theorem K141 (xs : List Int) (n cap el lvl i : Nat) (h : Heap) (fl ex : Bool) (hn : xs.length = n) (h0 : 0 < n) (hm : n ≤ 4000000) (hi : h[i]? = some (some ⟨xs.map fun z => AC.v (.int .i64 z), n, el, fl, .cells⟩)) (hlv : lvl ≤ i) : COut E lvl h 93 [.e (.one (.slc i 0 n 1 cap ex))] (.tup []) (h.set i (some ⟨(xs.mergeSort fun x y => decide (x ≤ y)).map fun z => AC.v (.int .i64 z), n, el, fl, .cells⟩)) := sort_bridge sortsE xs n cap el lvl i h fl ex hn h0 hm hi hlv
end Go.Proofs.YtneaafigbnjceaaGreatDoor.Bk
end

/-! SeTc -/
section
open Go Go.Ev
namespace Go.Proofs.YtneaafigbnjceaaGreatDoor.Bk
noncomputable section
set_option maxRecDepth 100000
set_option maxHeartbeats 20000000
def s79o (V : AccP) (_C U : List DT) (un _n _N : Nat) (ac : Bool) (_t _m _e _f _g _h _k _z _w _p _q : Int) (_D _X _Y : List AC) (_j : Nat → Value) : St := startK Tryz.f58 [] [(.e (.agg (zAc V ac U un)))]
def s93 (V : AccP) (_C U : List DT) (un _n _N : Nat) (ac : Bool) (t m _e _f _g _h _k _z _w _p _q : Int) (_D _X _Y : List AC) (_j : Nat → Value) : St := startK Tryz.f56 [] [(.e (.agg (zAc V ac U un))), iI t, iI m]
def p79o_end (V : AccP) (_C : List DT) (_U : List DT) (un _n _N : Nat) (ac : Bool) (_t _m _e _f _g _h _k _z _w _p _q : Int) (_D X _Y : List AC) (j : Nat → Value) : St := ⟨[(zBk (accN V [(.v (.bool (ac))), (.slc 1 0 (un) 1 (un) false)]) 22 44), (zBf (X) (un) 3)], [(.code .ret)], mkT j [(2, (.e (.one (.ptr 0 0))))] 8 0⟩
theorem p79o (hE : EnvOk E) (V : AccP) (C : List DT) (U : List DT) (un n N : Nat) (ac : Bool) (t m e f g h k z w p q : Int) (D X Y : List AC) (h0 : COut E 0 [] 95 [(.e (.one (.dp (.s (U) (un) 1))))] (.e (.one (.slc 0 0 (un) 1 (un) false))) [(zBf (X) (un) 3)]) (h3 : True) (h5 : FlatB (some { cells := X, n := un, elem := (3 : TypeId), full := false, ext := AX.cells : AB }) ∧ True) (g0 : FlatC (X)) : Sg 0 0 (s79o V C U un n N ac t m e f g h k z w p q D X Y) (p79o_end V C U un n N ac t m e f g h k z w p q D X Y) := fun ho j =>
 oS hE [.run 3, (.ops [(2, (.cl [] [] [(.e (.one (.dp (.s (U) (un) 1))))] [] (.e (.one (.slc 0 0 (un) 1 (un) false))) [(zBf (X) (un) 3)] (.e (.one (.slc 2 0 (un) 1 (un) false))) [true] [(zBf (X) (un) 3)]))] []), .run 2] [2] (s' := fun j => ⟨[(zBk (accN V [(.v (.bool (ac))), (.slc 2 0 (un) 1 (un) false)]) 22 44), (zBk (accN V [(.v (.bool (ac))), (.slc 2 0 (un) 1 (un) false)]) 22 44), (zBf (X) (un) 3)], [(.code .ret)], mkT j [(2, (.e (.one (.ptr 1 0))))] 8 0⟩) (aP h0 <| aP (rfl : ([(.e (.one (.dp (.s (U) (un) 1))))] : List AV) = [(.e (.one (.dp (.s (U) (un) 1))))]) <| aP (rfl : ([] : List (Option (Option AB))) = []) <| aP h3 <| aP (rfl : ([(.some (zBf (X) (un) 3))] : List (Option (Option AB))) = [(.some (zBf (X) (un) 3))]) <| aP h5 <| aP (rfl : ((.e (.one (.slc 2 0 (un) 1 (un) false))) : AV) = (.e (.one (.slc 2 0 (un) 1 (un) false)))) <| aZ)
  fun j => outK_gcF [1, 2] [false, true] (h' := [(zBk (accN V [(.v (.bool (ac))), (.slc 1 0 (un) 1 (un) false)]) 22 44), (zBf (X) (un) 3)]) (by decide) (by kernel_rfl) (by kernel_rfl) ⟨g0, trivial⟩ (by kernel_rfl) (ho j)
def p93_end (V : AccP) (_C : List DT) (_U : List DT) (_un _n N : Nat) (ac : Bool) (_t _m e _f g _h _k _z _w _p _q : Int) (D _X _Y : List AC) (j : Nat → Value) : St := ⟨[(zBk [.v (.int .i64 g), .v (.int .i64 e), (.v (.int .i64 (V.s))), (.v (.int .i64 (V.e))), (.v (.int .u8 (V.k0))), (.v (.int .u8 (V.k1))), (.v (.int .u8 (V.k2))), (.v (.int .u8 (V.k3))), (.v (.int .u8 (V.k4))), (.v (.int .u8 (V.k5))), (.v (.int .u8 (V.k6))), (.v (.int .u8 (V.k7))), (.v (.int .u8 (V.m0))), (.v (.int .u8 (V.m1))), (.v (.int .u8 (V.m2))), (.v (.int .u8 (V.m3))), (.v (.int .u8 (V.m4))), (.v (.int .u8 (V.m5))), (.v (.int .u8 (V.m6))), (.v (.int .u8 (V.m7))), (.v (.bool (ac))), (.slc 1 0 (N) 1 (N) false)] 22 44), (zBf (D) (N) 3)], [(.code .ret)], mkT j [(6, (.e (.one (.ptr 0 0))))] 36 0⟩
theorem p93 (hE : EnvOk E) (V : AccP) (C : List DT) (U : List DT) (un n N : Nat) (ac : Bool) (t m e f g h k z w p q : Int) (D X Y : List AC) (h0 : COut E 0 [] 92 [(.e (.agg (zAc V ac U un))), (iI (m))] (iI (q)) []) (h2 : COut E 0 [] 58 [(.e (.agg (zAc V ac U un)))] (.e (.agg (accN V [(.v (.bool (ac))), (.slc 0 0 (un) 1 (un) false)]))) [(zBf (X) (un) 3)]) (h5 : True) (h7 : FlatB (some { cells := X, n := un, elem := (3 : TypeId), full := false, ext := AX.cells : AB }) ∧ True) (h9 : ((iI (wrapF IntKind.i64 (V.d - q))) : AV) = (iI (e))) (h10 : ((iI (wrapF IntKind.i64 (m - q))) : AV) = (iI (f))) (h11 : ((iI (wrapF IntKind.i64 (V.b + f))) : AV) = (iI (g))) (h12 : ¬un + 1 ≤ un) (h13 : (small (un + 1) (1 : Nat) (8 : Nat) : Bool) = true) (h14 : (un : Nat) = un * nat_lit 1) (h15 : (appL X ((fun x => AC.v (Value.int IntKind.i64 t) :: x) []) : List AC) = Y) (h16 : (un + 1 : Nat) = N) (h17 : (N * nat_lit 1 : Nat) = N) (h18 : COut E 0 [(zBk (zAc V ac U un) 22 44), (zBk zAz 22 44), none, (zBk [.v (.int .i64 g), .v (.int .i64 e), (.v (.int .i64 (V.s))), (.v (.int .i64 (V.e))), (.v (.int .u8 (V.k0))), (.v (.int .u8 (V.k1))), (.v (.int .u8 (V.k2))), (.v (.int .u8 (V.k3))), (.v (.int .u8 (V.k4))), (.v (.int .u8 (V.k5))), (.v (.int .u8 (V.k6))), (.v (.int .u8 (V.k7))), (.v (.int .u8 (V.m0))), (.v (.int .u8 (V.m1))), (.v (.int .u8 (V.m2))), (.v (.int .u8 (V.m3))), (.v (.int .u8 (V.m4))), (.v (.int .u8 (V.m5))), (.v (.int .u8 (V.m6))), (.v (.int .u8 (V.m7))), (.v (.bool (ac))), (.slc 5 0 (N) 1 (N) false)] 22 44), (zBk [.v (.int .i64 t)] 1 3), (zBf (Y) (N) 3)] 93 [(.e (.one (.slc 5 0 (N) 1 (N) false)))] (.tup []) [(zBk (zAc V ac U un) 22 44), (zBk zAz 22 44), none, (zBk [.v (.int .i64 g), .v (.int .i64 e), (.v (.int .i64 (V.s))), (.v (.int .i64 (V.e))), (.v (.int .u8 (V.k0))), (.v (.int .u8 (V.k1))), (.v (.int .u8 (V.k2))), (.v (.int .u8 (V.k3))), (.v (.int .u8 (V.k4))), (.v (.int .u8 (V.k5))), (.v (.int .u8 (V.k6))), (.v (.int .u8 (V.k7))), (.v (.int .u8 (V.m0))), (.v (.int .u8 (V.m1))), (.v (.int .u8 (V.m2))), (.v (.int .u8 (V.m3))), (.v (.int .u8 (V.m4))), (.v (.int .u8 (V.m5))), (.v (.int .u8 (V.m6))), (.v (.int .u8 (V.m7))), (.v (.bool (ac))), (.slc 5 0 (N) 1 (N) false)] 22 44), (zBk [.v (.int .i64 t)] 1 3), (zBf (D) (N) 3)]) (g0 : FlatC (D)) : Sg 0 0 (s93 V C U un n N ac t m e f g h k z w p q D X Y) (p93_end V C U un n N ac t m e f g h k z w p q D X Y) := fun ho j =>
 oS hE [.run 3, (.ops [(2, (.c0 (iI (q))))] []), .run 1, (.ops [(1, (.cl [] [] [(.e (.agg (zAc V ac U un)))] [] (.e (.agg (accN V [(.v (.bool (ac))), (.slc 0 0 (un) 1 (un) false)]))) [(zBf (X) (un) 3)] (.e (.agg (accN V [(.v (.bool (ac))), (.slc 2 0 (un) 1 (un) false)]))) [true] [(zBf (X) (un) 3)]))] []), .run 1, (.ops [(3, (.rn (iI (e))))] []), .run 1, (.ops [(4, (.rn (iI (f)))), (5, (.rn (iI (g))))] []), .run 1, (.ops [(4, (.app (N) (N) (Y)))] []), .run 1, (.ops [(2, (.cw (.tup []) [(zBk (zAc V ac U un) 22 44), (zBk zAz 22 44), none, (zBk [.v (.int .i64 g), .v (.int .i64 e), (.v (.int .i64 (V.s))), (.v (.int .i64 (V.e))), (.v (.int .u8 (V.k0))), (.v (.int .u8 (V.k1))), (.v (.int .u8 (V.k2))), (.v (.int .u8 (V.k3))), (.v (.int .u8 (V.k4))), (.v (.int .u8 (V.k5))), (.v (.int .u8 (V.k6))), (.v (.int .u8 (V.k7))), (.v (.int .u8 (V.m0))), (.v (.int .u8 (V.m1))), (.v (.int .u8 (V.m2))), (.v (.int .u8 (V.m3))), (.v (.int .u8 (V.m4))), (.v (.int .u8 (V.m5))), (.v (.int .u8 (V.m6))), (.v (.int .u8 (V.m7))), (.v (.bool (ac))), (.slc 5 0 (N) 1 (N) false)] 22 44), (zBk [.v (.int .i64 t)] 1 3), (zBf (D) (N) 3)]))] []), .run 2] [6] (s' := fun j => ⟨[(zBk (zAc V ac U un) 22 44), (zBk [.v (.int .i64 g), .v (.int .i64 e), (.v (.int .i64 (V.s))), (.v (.int .i64 (V.e))), (.v (.int .u8 (V.k0))), (.v (.int .u8 (V.k1))), (.v (.int .u8 (V.k2))), (.v (.int .u8 (V.k3))), (.v (.int .u8 (V.k4))), (.v (.int .u8 (V.k5))), (.v (.int .u8 (V.k6))), (.v (.int .u8 (V.k7))), (.v (.int .u8 (V.m0))), (.v (.int .u8 (V.m1))), (.v (.int .u8 (V.m2))), (.v (.int .u8 (V.m3))), (.v (.int .u8 (V.m4))), (.v (.int .u8 (V.m5))), (.v (.int .u8 (V.m6))), (.v (.int .u8 (V.m7))), (.v (.bool (ac))), (.slc 5 0 (N) 1 (N) false)] 22 44), none, (zBk [.v (.int .i64 g), .v (.int .i64 e), (.v (.int .i64 (V.s))), (.v (.int .i64 (V.e))), (.v (.int .u8 (V.k0))), (.v (.int .u8 (V.k1))), (.v (.int .u8 (V.k2))), (.v (.int .u8 (V.k3))), (.v (.int .u8 (V.k4))), (.v (.int .u8 (V.k5))), (.v (.int .u8 (V.k6))), (.v (.int .u8 (V.k7))), (.v (.int .u8 (V.m0))), (.v (.int .u8 (V.m1))), (.v (.int .u8 (V.m2))), (.v (.int .u8 (V.m3))), (.v (.int .u8 (V.m4))), (.v (.int .u8 (V.m5))), (.v (.int .u8 (V.m6))), (.v (.int .u8 (V.m7))), (.v (.bool (ac))), (.slc 5 0 (N) 1 (N) false)] 22 44), (zBk [.v (.int .i64 t)] 1 3), (zBf (D) (N) 3)], [(.code .ret)], mkT j [(6, (.e (.one (.ptr 1 0))))] 36 0⟩) (aP h0 <| aN <| aP h2 <| aP (rfl : ([(.e (.agg (zAc V ac U un)))] : List AV) = [(.e (.agg (zAc V ac U un)))]) <| aP (rfl : ([] : List (Option (Option AB))) = []) <| aP h5 <| aP (rfl : ([(.some (zBf (X) (un) 3))] : List (Option (Option AB))) = [(.some (zBf (X) (un) 3))]) <| aP h7 <| aP (rfl : ((.e (.agg (accN V [(.v (.bool (ac))), (.slc 2 0 (un) 1 (un) false)]))) : AV) = (.e (.agg (accN V [(.v (.bool (ac))), (.slc 2 0 (un) 1 (un) false)])))) <| aP h9 <| aP h10 <| aP h11 <| aP h12 <| aP h13 <| aP h14 <| aP h15 <| aP h16 <| aP h17 <| aP h18 <| aZ)
  fun j => outK_gcF [1, 5] [false, true] (h' := [(zBk [.v (.int .i64 g), .v (.int .i64 e), (.v (.int .i64 (V.s))), (.v (.int .i64 (V.e))), (.v (.int .u8 (V.k0))), (.v (.int .u8 (V.k1))), (.v (.int .u8 (V.k2))), (.v (.int .u8 (V.k3))), (.v (.int .u8 (V.k4))), (.v (.int .u8 (V.k5))), (.v (.int .u8 (V.k6))), (.v (.int .u8 (V.k7))), (.v (.int .u8 (V.m0))), (.v (.int .u8 (V.m1))), (.v (.int .u8 (V.m2))), (.v (.int .u8 (V.m3))), (.v (.int .u8 (V.m4))), (.v (.int .u8 (V.m5))), (.v (.int .u8 (V.m6))), (.v (.int .u8 (V.m7))), (.v (.bool (ac))), (.slc 1 0 (N) 1 (N) false)] 22 44), (zBf (D) (N) 3)]) (by decide) (by kernel_rfl) (by kernel_rfl) ⟨g0, trivial⟩ (by kernel_rfl) (ho j)
theorem K79o (hE : EnvOk E) (V : AccP) (us : List Int) (n : Nat) (c : Bool) (hn : us.length = n) (h0 : 0 < n) (hm : n ≤ 1000) : COut E 0 [] 58 [accA V us n c] (.e (.agg (accN V [.v (.bool c), .slc 0 0 n 1 n false]))) [some ⟨iC us, n, 3, false, .cells⟩] := by
 have hc : COut E 0 [] 58 [accA V us n c] (.e (.agg (accN V [.v (.bool c), .slc 1 0 n 1 n false]))) [bK (accN V [.v (.bool c), .slc 1 0 n 1 n false]) 22 44, some ⟨iC us, n, 3, false, .cells⟩] := cOut_start Tryz.func58 rfl (p79o hE (V) [] (iD us) (n) 0 0 (c) 0 0 0 0 0 0 0 0 0 0 0 [] (iC us) [] (K135n hE us n hn h0 (by omega)) (by first | rfl | trivial | exact flat_iC us | exact ⟨flat_iC us, trivial⟩) (by first | rfl | trivial | exact flat_iC us | exact ⟨flat_iC us, trivial⟩) (flat_iC us) (fun j => outK_ret (ends_ret (by kernel_rfl))) fun _ => undef)
 exact cOut_gcF [1] [true] (h' := [some ⟨iC us, n, 3, false, .cells⟩]) (Nat.le_refl _) hc (by kernel_rfl) (by rfl) (by exact ⟨flat_iC us, trivial⟩) (by rfl)
def credV (V : AccP) (m : Int) : AccP := { V with b := (wrapF .i64 (V.b + wrapF .i64 (m - paidI V m))), d := (wrapF .i64 (V.d - paidI V m)) }
def insI (us : List Int) (t : Int) : List Int := (us ++ [t]).mergeSort fun x y => decide (x ≤ y)
theorem insI_len (us : List Int) (t : Int) : (insI us t).length = us.length + 1 := by simp [insI]
theorem iC_eq (l : List Int) : iC l = l.map fun z => AC.v (.int .i64 z) := by simp [iD, DT.ac]
theorem K141c (us : List Int) (t : Int) (n cap el lvl i : Nat) (h : Heap) (fl ex : Bool) (hn : us.length + 1 = n) (hm : n ≤ 4000000) (hi : h[i]? = some (some ⟨iC (us ++ [t]), n, el, fl, .cells⟩)) (hlv : lvl ≤ i) : COut E lvl h 93 [.e (.one (.slc i 0 n 1 cap ex))] (.tup []) (h.set i (some ⟨iC (insI us t), n, el, fl, .cells⟩)) := by
 rw [iC_eq] at hi ⊢
 exact K141 (us ++ [t]) n cap el lvl i h fl ex (by simp [hn]) (by omega) hm hi hlv
theorem K93n (hE : EnvOk E) (V : AccP) (us : List Int) (n : Nat) (c : Bool) (hn : us.length = n) (h0 : 0 < n) (hm : n ≤ 1000) (t m : Int) : COut E 0 [] 56 [accA V us n c, iI t, iI m] (accA (credV V m) (insI us t) (n + 1) c) [] := by
 have hc : COut E 0 [] 56 [accA V us n c, iI t, iI m] (.e (.agg (accN (credV V m) [.v (.bool c), .slc 1 0 (n + 1) 1 (n + 1) false]))) [bK (accN (credV V m) [.v (.bool c), .slc 1 0 (n + 1) 1 (n + 1) false]) 22 44, some ⟨iC (insI us t), n + 1, 3, false, .cells⟩] := cOut_start Tryz.func56 rfl (p93 hE (V) [] (iD us) (n) 0 (n + 1) (c) (t) (m) ((wrapF .i64 (V.d - paidI V m))) (wrapF .i64 (m - paidI V m)) ((wrapF .i64 (V.b + wrapF .i64 (m - paidI V m)))) 0 0 0 0 0 (paidI V m) (iC (insI us t)) (iC us) (iC (us ++ [t])) (K140 hE V us n c m) (K79o hE V us n c hn h0 hm) (by first | rfl | trivial | exact flat_iC us | exact ⟨flat_iC us, trivial⟩ | simp) (by first | rfl | trivial | exact flat_iC us | exact ⟨flat_iC us, trivial⟩ | simp) (by first | rfl | trivial | exact flat_iC us | exact ⟨flat_iC us, trivial⟩ | simp) (by first | rfl | trivial | exact flat_iC us | exact ⟨flat_iC us, trivial⟩ | simp) (by first | rfl | trivial | exact flat_iC us | exact ⟨flat_iC us, trivial⟩ | simp) (by omega) (by simp [small]; omega) (by first | rfl | trivial | exact flat_iC us | exact ⟨flat_iC us, trivial⟩ | simp) (by rw [appL_eq, iC_eq, iC_eq, List.map_append]; rfl) (by first | rfl | trivial | exact flat_iC us | exact ⟨flat_iC us, trivial⟩ | simp) (by first | rfl | trivial | exact flat_iC us | exact ⟨flat_iC us, trivial⟩ | simp) (K141c us t (n + 1) (n + 1) 3 0 5 _ false false (by omega) (by omega) rfl (by omega)) (flat_iC _) (fun j => outK_ret (ends_ret (by kernel_rfl))) fun _ => undef)
 exact cOut_clear (cOut_freeze 1 hc rfl (Nat.zero_le _) (ds := iD (insI us t)) ⟨.inl rfl, .inl rfl, .inl rfl, .inl rfl, .inl rfl, .inl rfl, .inl rfl, .inl rfl, .inl rfl, .inl rfl, .inl rfl, .inl rfl, .inl rfl, .inl rfl, .inl rfl, .inl rfl, .inl rfl, .inl rfl, .inl rfl, .inl rfl, .inl rfl, .inr ⟨0, n + 1, 1, n + 1, false, iD (insI us t), rfl, rfl, by rw [takeL_eq, dropL_eq, List.drop_zero, if_pos (by simp [insI_len, hn]), List.take_of_length_le (by simp [insI_len, hn])]⟩, trivial⟩) rfl
end
end Go.Proofs.YtneaafigbnjceaaGreatDoor.Bk
end

/-! SyIns -/
section
namespace Go.Ev
def insG (t : Int) : List Int → List Int
 | [] => [t]
 | x :: l => if x > t then t :: x :: l else x :: insG t l
theorem insG_perm (t : Int) : ∀ l, (insG t l).Perm (l ++ [t])
 | [] => List.Perm.refl _
 | x :: l => by
  unfold insG
  split
  ·exact (List.perm_append_singleton t (x :: l)).symm
  ·exact List.Perm.cons x (insG_perm t l)
theorem insG_mem (t y : Int) (l : List Int) : y ∈ insG t l ↔ y ∈ l ∨ y = t := by
 rw [(insG_perm t l).mem_iff]; simp
theorem insG_sorted (t : Int) : ∀ l, l.Pairwise (· ≤ ·) → (insG t l).Pairwise (· ≤ ·)
 | [], _ => by simp [insG]
 | x :: l, h => by
  obtain ⟨h1, h2⟩ := List.pairwise_cons.1 h
  unfold insG
  split
  ·rename_i hx
   refine List.pairwise_cons.2 ⟨fun y hy => ?_, h⟩
   rcases List.mem_cons.1 hy with rfl | hy
   ·omega
   ·have := h1 y hy; omega
  ·rename_i hx
   refine List.pairwise_cons.2 ⟨fun y hy => ?_, insG_sorted t l h2⟩
   rcases (insG_mem t y l).1 hy with hy | rfl
   ·exact h1 y hy
   ·omega
theorem perm_sorted_eq : ∀ {a b : List Int}, a.Perm b → a.Pairwise (· ≤ ·) → b.Pairwise (· ≤ ·) → a = b
 | [], b, h, _, _ => h.nil_eq
 | x :: a, [], h, _, _ => absurd h.length_eq (by simp)
 | x :: a, y :: b, h, ha, hb => by
  obtain ⟨a1, a2⟩ := List.pairwise_cons.1 ha
  obtain ⟨b1, b2⟩ := List.pairwise_cons.1 hb
  have hx : x ∈ y :: b := h.mem_iff.1 List.mem_cons_self
  have hy : y ∈ x :: a := h.mem_iff.2 List.mem_cons_self
  have e : x = y := by
   rcases List.mem_cons.1 hx with e | hx
   ·exact e
   ·rcases List.mem_cons.1 hy with e | hy
    ·exact e.symm
    ·have := b1 x hx; have := a1 y hy; omega
  subst e
  rw [perm_sorted_eq (List.Perm.cons_inv h) a2 b2]
theorem insG_sort (t : Int) (l : List Int) (h : l.Pairwise (· ≤ ·)) : (l ++ [t]).mergeSort (fun x y => decide (x ≤ y)) = insG t l := by
 refine perm_sorted_eq ((List.mergeSort_perm _ _).trans (insG_perm t l).symm) ?_ (insG_sorted t l h)
 have := List.pairwise_mergeSort (le := fun x y : Int => decide (x ≤ y)) (fun a b c => by simp only [decide_eq_true_eq]; omega) (fun a b => by simp only [Bool.or_eq_true, decide_eq_true_eq]; omega) (l ++ [t])
 exact this.imp fun h => by simpa using h
end Go.Ev
end

/-! SeTd -/
section
open Go Go.Ev
namespace Go.Proofs.YtneaafigbnjceaaGreatDoor.Bk
noncomputable section
set_option maxRecDepth 100000
set_option maxHeartbeats 20000000
end
end Go.Proofs.YtneaafigbnjceaaGreatDoor.Bk
end

/-! SeTe -/
section
open Go Go.Ev
namespace Go.Proofs.YtneaafigbnjceaaGreatDoor.Bk
theorem rng0 {a b z : Int} (h : rngI a b z = 0) : a ≤ z ∧ z ≤ b := by
 unfold rngI at h
 split at h
 ·omega
 ·omega
theorem firstI_zero {l : List Int} (h : firstI l = 0) : ∀ x ∈ l, x = 0 := by
 induction l with
 | nil => simp
 | cons a l ih =>
  intro x hx
  unfold firstI at h
  split at h
  ·rename_i ha
   rcases List.mem_cons.1 hx with rfl | hx
   ·exact ha
   ·exact ih h x hx
  ·rename_i ha; exact absurd h ha
structure OkA (V : AccP) : Prop where
 b : -1000000000000 ≤ V.b ∧ V.b ≤ 1000000000000
 d : 0 ≤ V.d ∧ V.d ≤ 1000000000000
 s : 0 ≤ V.s ∧ V.s ≤ 100
theorem okA {V : AccP} {us : List Int} {n : Nat} {c : Bool} (h : chkA V us n c = 0) : OkA V :=
 have f := firstI_zero h
 ⟨rng0 (f _ (by simp)), rng0 (f _ (by simp)), rng0 (f _ (by simp))⟩
theorem pay_le {V : AccP} (hV : OkA V) {m : Int} (hm : 1 ≤ m ∧ m ≤ 100000000) : 0 ≤ paidI V m ∧ paidI V m ≤ m ∧ paidI V m ≤ V.d := by
 have h0 : 0 ≤ m * V.s := Int.mul_nonneg (by omega) hV.s.1
 have h1 : m * V.s ≤ m * 100 := Int.mul_le_mul_of_nonneg_left hV.s.2 (by omega)
 have hd := hV.d
 unfold paidI
 rw [wrap_id (n := m * V.s) (by omega) (by omega)]
 have h2 : (m * V.s).tdiv 100 = (m * V.s) / 100 := Int.tdiv_eq_ediv_of_nonneg h0
 rw [h2]
 have h3 : 0 ≤ (m * V.s) / 100 := by omega
 have h4 : (m * V.s) / 100 ≤ m := by omega
 rw [wrap_id (by omega) (by omega)]
 split <;> omega
end Go.Proofs.YtneaafigbnjceaaGreatDoor.Bk
end

/-! SeTf -/
section
open Go Go.Ev
namespace Go.Proofs.YtneaafigbnjceaaGreatDoor.Bk
noncomputable section
set_option maxRecDepth 100000
set_option maxHeartbeats 20000000
def s23 (V _W : AccP) (_C U : List DT) (un _n _i : Nat) (ac : Bool) (t m _e _f _g _h _k _z s0 s1 s2 s3 s4 s5 s6 s7 : Int) (_j : Nat → Value) : St := startK Tryz.f13 [] [(.e (.agg (zAc V ac U un))), (.e (.agg (zTk t m s0 s1 s2 s3 s4 s5 s6 s7)))]
def p23e_end (_V : AccP) (_W : AccP) (_C : List DT) (_U : List DT) (_un _n _i : Nat) (_ac : Bool) (_t _m _e _f _g _h k _z _s0 _s1 _s2 _s3 _s4 _s5 _s6 _s7 : Int) (j : Nat → Value) : St := ⟨[(zBk zAz 22 44)], [(.code .ret), (.code (atC [1, 1] (bodyOf Tryz.f13)))], mkT j [(4, (.e (.one (.ptr 0 0)))), (5, (iI (k)))] 26 0⟩
theorem p23e (hE : EnvOk E) (V : AccP) (W : AccP) (C : List DT) (U : List DT) (un n i : Nat) (ac : Bool) (t m e f g h k z s0 s1 s2 s3 s4 s5 s6 s7 : Int) (h0 : COut E 0 [] 54 [(.e (.agg (zAc V ac U un)))] (iI (e)) []) (h2 : COut E 0 [] 48 [(.e (.agg (zTk t m s0 s1 s2 s3 s4 s5 s6 s7)))] (iI (f)) []) (h5 : COut E 0 [] 55 [(.e (.agg (zAc V ac U un))), (.e (.agg (zTk t m s0 s1 s2 s3 s4 s5 s6 s7)))] (iI (g)) []) (h7 : COut E 4 [(zBk (zAc V ac U un) 22 44), (zBk (zTk t m s0 s1 s2 s3 s4 s5 s6 s7) 10 35), (zBk zAz 22 44), (zBk [.v (.int .i64 e), .v (.int .i64 f), .v (.int .i64 g)] 3 36)] 53 [(.e (.one (.slc 3 0 3 1 3 true)))] (iI (k)) [(zBk (zAc V ac U un) 22 44), (zBk (zTk t m s0 s1 s2 s3 s4 s5 s6 s7) 10 35), (zBk zAz 22 44), (zBk [.v (.int .i64 e), .v (.int .i64 f), .v (.int .i64 g)] 3 36)]) (h9 : (k != (0 : Int) : Bool) = true) : Sg 0 0 (s23 V W C U un n i ac t m e f g h k z s0 s1 s2 s3 s4 s5 s6 s7) (p23e_end V W C U un n i ac t m e f g h k z s0 s1 s2 s3 s4 s5 s6 s7) := fun ho j =>
 oS hE [.run 4, (.ops [(1, (.c0 (iI (e)))), (3, (.c0 (iI (f)))), (6, (.c0 (iI (g)))), (8, (.d (.c1 (iI (k)))))] []), .run 2, (.cond true), .run 2] [4, 5] (s' := fun j => ⟨[(zBk (zAc V ac U un) 22 44), (zBk (zTk t m s0 s1 s2 s3 s4 s5 s6 s7) 10 35), (zBk zAz 22 44), (zBk [.v (.int .i64 e), .v (.int .i64 f), .v (.int .i64 g)] 3 36)], [(.code .ret), (.code (atC [1, 1] (bodyOf Tryz.f13)))], mkT j [(4, (.e (.one (.ptr 2 0)))), (5, (iI (k)))] 26 0⟩) (aP h0 <| aN <| aP h2 <| aN <| aP (rfl : (true : Bool) = true) <| aP h5 <| aN <| aP h7 <| aN <| aP h9 <| aZ)
  fun j => gZ [2] (ho j)
def p23o_end (_V : AccP) (W : AccP) (C : List DT) (_U : List DT) (_un n _i : Nat) (ac : Bool) (_t _m _e _f _g _h _k _z _s0 _s1 _s2 _s3 _s4 _s5 _s6 _s7 : Int) (j : Nat → Value) : St := ⟨[(zBk (zAc W ac C n) 22 44)], [(.code .ret)], mkT j [(4, (.e (.one (.ptr 0 0)))), (5, (iI 0))] 26 0⟩
theorem p23o (hE : EnvOk E) (V : AccP) (W : AccP) (C : List DT) (U : List DT) (un n i : Nat) (ac : Bool) (t m e f g h k z s0 s1 s2 s3 s4 s5 s6 s7 : Int) (h0 : COut E 0 [] 54 [(.e (.agg (zAc V ac U un)))] (iI (e)) []) (h2 : COut E 0 [] 48 [(.e (.agg (zTk t m s0 s1 s2 s3 s4 s5 s6 s7)))] (iI (f)) []) (h5 : COut E 0 [] 55 [(.e (.agg (zAc V ac U un))), (.e (.agg (zTk t m s0 s1 s2 s3 s4 s5 s6 s7)))] (iI (g)) []) (h7 : COut E 4 [(zBk (zAc V ac U un) 22 44), (zBk (zTk t m s0 s1 s2 s3 s4 s5 s6 s7) 10 35), (zBk zAz 22 44), (zBk [.v (.int .i64 e), .v (.int .i64 f), .v (.int .i64 g)] 3 36)] 53 [(.e (.one (.slc 3 0 3 1 3 true)))] (iI (k)) [(zBk (zAc V ac U un) 22 44), (zBk (zTk t m s0 s1 s2 s3 s4 s5 s6 s7) 10 35), (zBk zAz 22 44), (zBk [.v (.int .i64 e), .v (.int .i64 f), .v (.int .i64 g)] 3 36)]) (h9 : (k != (0 : Int) : Bool) = false) (h10 : COut E 0 [] 56 [(.e (.agg (zAc V ac U un))), (iI (t)), (iI (m))] (.e (.agg (zAc W ac C n))) []) : Sg 0 0 (s23 V W C U un n i ac t m e f g h k z s0 s1 s2 s3 s4 s5 s6 s7) (p23o_end V W C U un n i ac t m e f g h k z s0 s1 s2 s3 s4 s5 s6 s7) := fun ho j =>
 oS hE [.run 4, (.ops [(1, (.c0 (iI (e)))), (3, (.c0 (iI (f)))), (6, (.c0 (iI (g)))), (8, (.d (.c1 (iI (k)))))] []), .run 2, (.cond false), .run 2, (.ops [(5, (.c0 (.e (.agg (zAc W ac C n)))))] [])] [4, 5] (s' := fun j => ⟨[(zBk (zAc V ac U un) 22 44), (zBk (zTk t m s0 s1 s2 s3 s4 s5 s6 s7) 10 35), (zBk (zAc W ac C n) 22 44), (zBk [.v (.int .i64 e), .v (.int .i64 f), .v (.int .i64 g)] 3 36)], [(.code .ret)], mkT j [(4, (.e (.one (.ptr 2 0)))), (5, (iI 0))] 26 0⟩) (aP h0 <| aN <| aP h2 <| aN <| aP (rfl : (true : Bool) = true) <| aP h5 <| aN <| aP h7 <| aN <| aP h9 <| aP h10 <| aN <| aZ)
  fun j => gZ [2] (ho j)
theorem K23e (hE : EnvOk E) (V : AccP) (hV : KeyB V) (us : List Int) (c : Bool) (hm : us.length ≤ 1000) (t m s0 s1 s2 s3 s4 s5 s6 s7 k : Int) (h : firstI [chkA V us us.length c, chkT t m, crI V c us us.length t m [s0, s1, s2, s3, s4, s5, s6, s7]] = k) (hk : k ≠ 0) : COut E 0 [] 13 [accA V us us.length c, tokA t m s0 s1 s2 s3 s4 s5 s6 s7] (.tup [.agg zAz, .one (.v (.int .i64 k))]) [] := by
 have k76 := K76 hE [chkA V us us.length c, chkT t m, crI V c us us.length t m [s0, s1, s2, s3, s4, s5, s6, s7]] (by simp)
 rw [h] at k76
 exact cOut_clear (cOut_start Tryz.func13 rfl (p23e hE (V) (vZ) [] (iD us) (us.length) 0 0 (c) (t) (m) (chkA V us us.length c) (chkT t m) (crI V c us us.length t m [s0, s1, s2, s3, s4, s5, s6, s7]) 0 (k) 0 (s0) (s1) (s2) (s3) (s4) (s5) (s6) (s7) (K20 hE V us _ c rfl (by omega)) (K91 hE t m s0 s1 s2 s3 s4 s5 s6 s7) (K92 hE V hV us _ c rfl (by omega) t m s0 s1 s2 s3 s4 s5 s6 s7) (lend2 4 hE 53 _ _ 36 true k76 _ 3 rfl) (bne_iff_ne.2 hk) (fun j => outK_ret (ends_ret (by kernel_rfl))) fun _ => undef)) rfl
theorem K23o (hE : EnvOk E) (V W : AccP) (hV : KeyB V) (us ws : List Int) (c : Bool) (hm : us.length ≤ 1000) (t m s0 s1 s2 s3 s4 s5 s6 s7 : Int) (h : firstI [chkA V us us.length c, chkT t m, crI V c us us.length t m [s0, s1, s2, s3, s4, s5, s6, s7]] = 0) (h93 : COut E 0 [] 56 [accA V us us.length c, iI t, iI m] (accA W ws ws.length c) []) : COut E 0 [] 13 [accA V us us.length c, tokA t m s0 s1 s2 s3 s4 s5 s6 s7] (.tup [.agg (accN W [.v (.bool c), .dp (.s (iD ws) ws.length 1)]), .one (.v (.int .i64 0))]) [] := by
 have k76 := K76 hE [chkA V us us.length c, chkT t m, crI V c us us.length t m [s0, s1, s2, s3, s4, s5, s6, s7]] (by simp)
 rw [h] at k76
 exact cOut_clear (cOut_start Tryz.func13 rfl (p23o hE (V) (W) (iD ws) (iD us) (us.length) (ws.length) 0 (c) (t) (m) (chkA V us us.length c) (chkT t m) (crI V c us us.length t m [s0, s1, s2, s3, s4, s5, s6, s7]) 0 (0) 0 (s0) (s1) (s2) (s3) (s4) (s5) (s6) (s7) (K20 hE V us _ c rfl (by omega)) (K91 hE t m s0 s1 s2 s3 s4 s5 s6 s7) (K92 hE V hV us _ c rfl (by omega) t m s0 s1 s2 s3 s4 s5 s6 s7) (lend2 4 hE 53 _ _ 36 true k76 _ 3 rfl) rfl h93 (fun j => outK_ret (ends_ret (by kernel_rfl))) fun _ => undef)) rfl
end
end Go.Proofs.YtneaafigbnjceaaGreatDoor.Bk
end

/-! SeTg -/
section
open Go Go.Ev
namespace Go.Proofs.YtneaafigbnjceaaGreatDoor.Bk
noncomputable section
set_option maxRecDepth 100000
set_option maxHeartbeats 20000000
def s93v (V _W : AccP) (_C _U _U2 : List DT) (_un _wn _n _i _N cp : Nat) (_ad : Addr) (_uv : Value) (ac : Bool) (t m _e _f _g _h _k _z _x _q _s0 _s1 _s2 _s3 _s4 _s5 _s6 _s7 : Int) (_D _X _Y : List AC) (_j : Nat → Value) : St := startK Tryz.f56 [] [(.e (.agg (accN V [.v (.bool ac), .v (.slice none 0 cp)]))), iI t, iI m]
def s93w (V _W : AccP) (_C _U _U2 : List DT) (_un _wn _n _i _N cp : Nat) (ad : Addr) (_uv : Value) (ac : Bool) (t m _e _f _g _h _k _z _x _q _s0 _s1 _s2 _s3 _s4 _s5 _s6 _s7 : Int) (_D _X _Y : List AC) (_j : Nat → Value) : St := startK Tryz.f56 [] [(.e (.agg (accN V [.v (.bool ac), .v (.slice (some ad) 0 cp)]))), iI t, iI m]
def s140u (V _W : AccP) (_C _U _U2 : List DT) (_un _wn _n _i _N _cp : Nat) (_ad : Addr) (uv : Value) (ac : Bool) (_t m _e _f _g _h _k _z _x _q _s0 _s1 _s2 _s3 _s4 _s5 _s6 _s7 : Int) (_D _X _Y : List AC) (_j : Nat → Value) : St := startK Tryz.f92 [] [(.e (.agg (accN V [.v (.bool ac), .v uv]))), iI m]
def s135w (_V _W : AccP) (_C _U _U2 : List DT) (_un _wn _n _i _N cp : Nat) (ad : Addr) (_uv : Value) (_ac : Bool) (_t _m _e _f _g _h _k _z _x _q _s0 _s1 _s2 _s3 _s4 _s5 _s6 _s7 : Int) (_D _X _Y : List AC) (_j : Nat → Value) : St := startK Tryz.f95 [] [(.e (.one (.v (.slice (some ad) 0 cp))))]
def s79w (V _W : AccP) (_C _U _U2 : List DT) (_un _wn _n _i _N cp : Nat) (ad : Addr) (_uv : Value) (ac : Bool) (_t _m _e _f _g _h _k _z _x _q _s0 _s1 _s2 _s3 _s4 _s5 _s6 _s7 : Int) (_D _X _Y : List AC) (_j : Nat → Value) : St := startK Tryz.f58 [] [(.e (.agg (accN V [.v (.bool ac), .v (.slice (some ad) 0 cp)])))]
def p140u_end (_V : AccP) (_W : AccP) (_C : List DT) (_U : List DT) (_U2 : List DT) (_un _wn _n _i _N _cp : Nat) (_ad : Addr) (_uv : Value) (_ac : Bool) (_t _m e _f _g _h _k _z _x _q _s0 _s1 _s2 _s3 _s4 _s5 _s6 _s7 : Int) (_D _X _Y : List AC) (j : Nat → Value) : St := ⟨[], [(.code .ret)], mkT j [(4, (iI (e)))] 13 0⟩
theorem p140u (hE : EnvOk E) (V : AccP) (W : AccP) (C : List DT) (U : List DT) (U2 : List DT) (un wn n i N cp : Nat) (ad : Addr) (uv : Value) (ac : Bool) (t m e f g h k z x q s0 s1 s2 s3 s4 s5 s6 s7 : Int) (D X Y : List AC) (h0 : ((iI (wrapF IntKind.i64 (m * V.s))) : AV) = (iI (x))) (h1 : ((100 : Int) : Int) ≠ (0 : Int)) (h2 : (wrapF IntKind.i64 (x.tdiv (100 : Int)) : Int) = q) (h3 : ((iI (if q < V.d then q else V.d)) : AV) = (iI (e))) : Sg 0 0 (s140u V W C U U2 un wn n i N cp ad uv ac t m e f g h k z x q s0 s1 s2 s3 s4 s5 s6 s7 D X Y) (p140u_end V W C U U2 un wn n i N cp ad uv ac t m e f g h k z x q s0 s1 s2 s3 s4 s5 s6 s7 D X Y) := fun ho j =>
 oS hE [.run 3, (.ops [(5, (.rn (iI (x)))), (6, (.quo (q))), (7, (.rn (iI (e))))] [])] [4] (s' := fun j => ⟨[(zBk (accN V [(.v (.bool (ac))), (.v (uv))]) 22 44)], [(.code .ret)], mkT j [(4, (iI (e)))] 13 0⟩) (aP h0 <| aP h1 <| aP h2 <| aP h3 <| aZ)
  fun j => gZ [] (ho j)
def p135w_end (_V : AccP) (_W : AccP) (_C : List DT) (_U : List DT) (_U2 : List DT) (_un _wn _n _i _N _cp : Nat) (_ad : Addr) (_uv : Value) (_ac : Bool) (_t _m _e _f _g _h _k _z _x _q _s0 _s1 _s2 _s3 _s4 _s5 _s6 _s7 : Int) (_D _X _Y : List AC) (j : Nat → Value) : St := ⟨[(zBk [] 0 3)], [(.code .ret)], mkT j [(2, (.e (.one (.slc 0 0 0 1 0 true))))] 8 0⟩
theorem p135w (hE : EnvOk E) (V : AccP) (W : AccP) (C : List DT) (U : List DT) (U2 : List DT) (un wn n i N cp : Nat) (ad : Addr) (uv : Value) (ac : Bool) (t m e f g h k z x q s0 s1 s2 s3 s4 s5 s6 s7 : Int) (D X Y : List AC) : Sg 0 0 (s135w V W C U U2 un wn n i N cp ad uv ac t m e f g h k z x q s0 s1 s2 s3 s4 s5 s6 s7 D X Y) (p135w_end V W C U U2 un wn n i N cp ad uv ac t m e f g h k z x q s0 s1 s2 s3 s4 s5 s6 s7 D X Y) := fun ho j =>
 oS hE [.run 8, (.ops [(2, .apz)] [])] [2] (ps := []) trivial
  ho
def p79w_end (V : AccP) (_W : AccP) (_C : List DT) (_U : List DT) (_U2 : List DT) (_un _wn _n _i _N _cp : Nat) (_ad : Addr) (_uv : Value) (ac : Bool) (_t _m _e _f _g _h _k _z _x _q _s0 _s1 _s2 _s3 _s4 _s5 _s6 _s7 : Int) (_D _X _Y : List AC) (j : Nat → Value) : St := ⟨[(zBk (accN V [(.v (.bool (ac))), (.slc 1 0 0 1 0 true)]) 22 44), (zBk [] 0 3)], [(.code .ret)], mkT j [(2, (.e (.one (.ptr 0 0))))] 8 0⟩
theorem p79w (hE : EnvOk E) (V : AccP) (W : AccP) (C : List DT) (U : List DT) (U2 : List DT) (un wn n i N cp : Nat) (ad : Addr) (uv : Value) (ac : Bool) (t m e f g h k z x q s0 s1 s2 s3 s4 s5 s6 s7 : Int) (D X Y : List AC) (h0 : COut E 0 [] 95 [(.e (.one (.v (.slice (.some (ad)) 0 (cp)))))] (.e (.one (.slc 0 0 0 1 0 true))) [(zBk [] 0 3)]) (h3 : True) (h5 : FlatB (some { cells := [], n := (0 : Nat), elem := (3 : TypeId), full := true, ext := AX.cells : AB }) ∧ True) : Sg 0 0 (s79w V W C U U2 un wn n i N cp ad uv ac t m e f g h k z x q s0 s1 s2 s3 s4 s5 s6 s7 D X Y) (p79w_end V W C U U2 un wn n i N cp ad uv ac t m e f g h k z x q s0 s1 s2 s3 s4 s5 s6 s7 D X Y) := fun ho j =>
 oS hE [.run 3, (.ops [(2, (.cl [] [] [(.e (.one (.v (.slice (.some (ad)) 0 (cp)))))] [] (.e (.one (.slc 0 0 0 1 0 true))) [(zBk [] 0 3)] (.e (.one (.slc 2 0 0 1 0 true))) [true] [(zBk [] 0 3)]))] []), .run 2] [2] (s' := fun j => ⟨[(zBk (accN V [(.v (.bool (ac))), (.slc 2 0 0 1 0 true)]) 22 44), (zBk (accN V [(.v (.bool (ac))), (.slc 2 0 0 1 0 true)]) 22 44), (zBk [] 0 3)], [(.code .ret)], mkT j [(2, (.e (.one (.ptr 1 0))))] 8 0⟩) (aP h0 <| aP (rfl : ([(.e (.one (.v (.slice (.some (ad)) 0 (cp)))))] : List AV) = [(.e (.one (.v (.slice (.some (ad)) 0 (cp)))))]) <| aP (rfl : ([] : List (Option (Option AB))) = []) <| aP h3 <| aP (rfl : ([(.some (zBk [] 0 3))] : List (Option (Option AB))) = [(.some (zBk [] 0 3))]) <| aP h5 <| aP (rfl : ((.e (.one (.slc 2 0 0 1 0 true))) : AV) = (.e (.one (.slc 2 0 0 1 0 true)))) <| aZ)
  fun j => gZ [1, 2] (ho j)
def p93v_end (V : AccP) (_W : AccP) (_C : List DT) (_U : List DT) (_U2 : List DT) (_un _wn _n _i _N _cp : Nat) (_ad : Addr) (_uv : Value) (ac : Bool) (t _m e _f g _h _k _z _x _q _s0 _s1 _s2 _s3 _s4 _s5 _s6 _s7 : Int) (_D _X _Y : List AC) (j : Nat → Value) : St := ⟨[(zBk [.v (.int .i64 g), .v (.int .i64 e), (.v (.int .i64 (V.s))), (.v (.int .i64 (V.e))), (.v (.int .u8 (V.k0))), (.v (.int .u8 (V.k1))), (.v (.int .u8 (V.k2))), (.v (.int .u8 (V.k3))), (.v (.int .u8 (V.k4))), (.v (.int .u8 (V.k5))), (.v (.int .u8 (V.k6))), (.v (.int .u8 (V.k7))), (.v (.int .u8 (V.m0))), (.v (.int .u8 (V.m1))), (.v (.int .u8 (V.m2))), (.v (.int .u8 (V.m3))), (.v (.int .u8 (V.m4))), (.v (.int .u8 (V.m5))), (.v (.int .u8 (V.m6))), (.v (.int .u8 (V.m7))), (.v (.bool (ac))), (.slc 1 0 1 1 1 false)] 22 44), (zBf [.v (.int .i64 t)] 1 3)], [(.code .ret)], mkT j [(6, (.e (.one (.ptr 0 0))))] 36 0⟩
theorem p93v (hE : EnvOk E) (V : AccP) (W : AccP) (C : List DT) (U : List DT) (U2 : List DT) (un wn n i N cp : Nat) (ad : Addr) (uv : Value) (ac : Bool) (t m e f g h k z x q s0 s1 s2 s3 s4 s5 s6 s7 : Int) (D X Y : List AC) (h0 : COut E 0 [] 92 [(.e (.agg (accN V [(.v (.bool (ac))), (.v (.slice none 0 (cp)))]))), (iI (m))] (iI (q)) []) (h2 : ((iI (wrapF IntKind.i64 (V.d - q))) : AV) = (iI (e))) (h3 : ((iI (wrapF IntKind.i64 (m - q))) : AV) = (iI (f))) (h4 : ((iI (wrapF IntKind.i64 (V.b + f))) : AV) = (iI (g))) : Sg 0 0 (s93v V W C U U2 un wn n i N cp ad uv ac t m e f g h k z x q s0 s1 s2 s3 s4 s5 s6 s7 D X Y) (p93v_end V W C U U2 un wn n i N cp ad uv ac t m e f g h k z x q s0 s1 s2 s3 s4 s5 s6 s7 D X Y) := fun ho j =>
 outK_seg hE (R4_ok hE) [.run 3, (.ops [(2, (.c0 (iI (q))))] []), .run 3, (.ops [(3, (.rn (iI (e))))] []), .run 1, (.ops [(4, (.rn (iI (f)))), (5, (.rn (iI (g))))] []), .run 6] [6] (s' := fun j => ⟨[(zBk (accN V [(.v (.bool (ac))), (.v (.slice none 0 (cp)))]) 22 44), (zBk [.v (.int .i64 g), .v (.int .i64 e), (.v (.int .i64 (V.s))), (.v (.int .i64 (V.e))), (.v (.int .u8 (V.k0))), (.v (.int .u8 (V.k1))), (.v (.int .u8 (V.k2))), (.v (.int .u8 (V.k3))), (.v (.int .u8 (V.k4))), (.v (.int .u8 (V.k5))), (.v (.int .u8 (V.k6))), (.v (.int .u8 (V.k7))), (.v (.int .u8 (V.m0))), (.v (.int .u8 (V.m1))), (.v (.int .u8 (V.m2))), (.v (.int .u8 (V.m3))), (.v (.int .u8 (V.m4))), (.v (.int .u8 (V.m5))), (.v (.int .u8 (V.m6))), (.v (.int .u8 (V.m7))), (.v (.bool (ac))), (.slc 4 0 1 1 1 false)] 22 44), (zBk [.v (.int .i64 g), .v (.int .i64 e), (.v (.int .i64 (V.s))), (.v (.int .i64 (V.e))), (.v (.int .u8 (V.k0))), (.v (.int .u8 (V.k1))), (.v (.int .u8 (V.k2))), (.v (.int .u8 (V.k3))), (.v (.int .u8 (V.k4))), (.v (.int .u8 (V.k5))), (.v (.int .u8 (V.k6))), (.v (.int .u8 (V.k7))), (.v (.int .u8 (V.m0))), (.v (.int .u8 (V.m1))), (.v (.int .u8 (V.m2))), (.v (.int .u8 (V.m3))), (.v (.int .u8 (V.m4))), (.v (.int .u8 (V.m5))), (.v (.int .u8 (V.m6))), (.v (.int .u8 (V.m7))), (.v (.bool (ac))), (.slc 4 0 1 1 1 false)] 22 44), (zBk [.v (.int .i64 t)] 1 3), (zBf [.v (.int .i64 t)] 1 3)], [(.code .ret)], mkT j [(6, (.e (.one (.ptr 1 0))))] 36 0⟩) (fun j => by kernel_rfl) (aP h0 <| aN <| aP h2 <| aP h3 <| aP h4 <| aZ)
  fun j => gZ [1, 4] (ho j)
def p93w_end (V : AccP) (_W : AccP) (_C : List DT) (_U : List DT) (_U2 : List DT) (_un _wn _n _i _N _cp : Nat) (_ad : Addr) (_uv : Value) (ac : Bool) (t _m e _f g _h _k _z _x _q _s0 _s1 _s2 _s3 _s4 _s5 _s6 _s7 : Int) (_D _X _Y : List AC) (j : Nat → Value) : St := ⟨[(zBk [.v (.int .i64 g), .v (.int .i64 e), (.v (.int .i64 (V.s))), (.v (.int .i64 (V.e))), (.v (.int .u8 (V.k0))), (.v (.int .u8 (V.k1))), (.v (.int .u8 (V.k2))), (.v (.int .u8 (V.k3))), (.v (.int .u8 (V.k4))), (.v (.int .u8 (V.k5))), (.v (.int .u8 (V.k6))), (.v (.int .u8 (V.k7))), (.v (.int .u8 (V.m0))), (.v (.int .u8 (V.m1))), (.v (.int .u8 (V.m2))), (.v (.int .u8 (V.m3))), (.v (.int .u8 (V.m4))), (.v (.int .u8 (V.m5))), (.v (.int .u8 (V.m6))), (.v (.int .u8 (V.m7))), (.v (.bool (ac))), (.slc 1 0 1 1 1 false)] 22 44), (zBf [.v (.int .i64 t)] 1 3)], [(.code .ret)], mkT j [(6, (.e (.one (.ptr 0 0))))] 36 0⟩
theorem p93w (hE : EnvOk E) (V : AccP) (W : AccP) (C : List DT) (U : List DT) (U2 : List DT) (un wn n i N cp : Nat) (ad : Addr) (uv : Value) (ac : Bool) (t m e f g h k z x q s0 s1 s2 s3 s4 s5 s6 s7 : Int) (D X Y : List AC) (h0 : COut E 0 [] 92 [(.e (.agg (accN V [(.v (.bool (ac))), (.v (.slice (.some (ad)) 0 (cp)))]))), (iI (m))] (iI (q)) []) (h2 : COut E 0 [] 58 [(.e (.agg (accN V [(.v (.bool (ac))), (.v (.slice (.some (ad)) 0 (cp)))])))] (.e (.agg (accN V [(.v (.bool (ac))), (.slc 0 0 0 1 0 true)]))) [(zBk [] 0 3)]) (h5 : True) (h7 : FlatB (some { cells := [], n := (0 : Nat), elem := (3 : TypeId), full := true, ext := AX.cells : AB }) ∧ True) (h9 : ((iI (wrapF IntKind.i64 (V.d - q))) : AV) = (iI (e))) (h10 : ((iI (wrapF IntKind.i64 (m - q))) : AV) = (iI (f))) (h11 : ((iI (wrapF IntKind.i64 (V.b + f))) : AV) = (iI (g))) : Sg 0 0 (s93w V W C U U2 un wn n i N cp ad uv ac t m e f g h k z x q s0 s1 s2 s3 s4 s5 s6 s7 D X Y) (p93w_end V W C U U2 un wn n i N cp ad uv ac t m e f g h k z x q s0 s1 s2 s3 s4 s5 s6 s7 D X Y) := fun ho j =>
 outK_seg hE (R4_ok hE) [.run 3, (.ops [(2, (.c0 (iI (q))))] []), .run 1, (.ops [(1, (.cl [] [] [(.e (.agg (accN V [(.v (.bool (ac))), (.v (.slice (.some (ad)) 0 (cp)))])))] [] (.e (.agg (accN V [(.v (.bool (ac))), (.slc 0 0 0 1 0 true)]))) [(zBk [] 0 3)] (.e (.agg (accN V [(.v (.bool (ac))), (.slc 2 0 0 1 0 true)]))) [true] [(zBk [] 0 3)]))] []), .run 1, (.ops [(3, (.rn (iI (e))))] []), .run 1, (.ops [(4, (.rn (iI (f)))), (5, (.rn (iI (g))))] []), .run 6] [6] (s' := fun j => ⟨[(zBk (accN V [(.v (.bool (ac))), (.v (.slice (.some (ad)) 0 (cp)))]) 22 44), (zBk [.v (.int .i64 g), .v (.int .i64 e), (.v (.int .i64 (V.s))), (.v (.int .i64 (V.e))), (.v (.int .u8 (V.k0))), (.v (.int .u8 (V.k1))), (.v (.int .u8 (V.k2))), (.v (.int .u8 (V.k3))), (.v (.int .u8 (V.k4))), (.v (.int .u8 (V.k5))), (.v (.int .u8 (V.k6))), (.v (.int .u8 (V.k7))), (.v (.int .u8 (V.m0))), (.v (.int .u8 (V.m1))), (.v (.int .u8 (V.m2))), (.v (.int .u8 (V.m3))), (.v (.int .u8 (V.m4))), (.v (.int .u8 (V.m5))), (.v (.int .u8 (V.m6))), (.v (.int .u8 (V.m7))), (.v (.bool (ac))), (.slc 5 0 1 1 1 false)] 22 44), (zBk [] 0 3), (zBk [.v (.int .i64 g), .v (.int .i64 e), (.v (.int .i64 (V.s))), (.v (.int .i64 (V.e))), (.v (.int .u8 (V.k0))), (.v (.int .u8 (V.k1))), (.v (.int .u8 (V.k2))), (.v (.int .u8 (V.k3))), (.v (.int .u8 (V.k4))), (.v (.int .u8 (V.k5))), (.v (.int .u8 (V.k6))), (.v (.int .u8 (V.k7))), (.v (.int .u8 (V.m0))), (.v (.int .u8 (V.m1))), (.v (.int .u8 (V.m2))), (.v (.int .u8 (V.m3))), (.v (.int .u8 (V.m4))), (.v (.int .u8 (V.m5))), (.v (.int .u8 (V.m6))), (.v (.int .u8 (V.m7))), (.v (.bool (ac))), (.slc 5 0 1 1 1 false)] 22 44), (zBk [.v (.int .i64 t)] 1 3), (zBf [.v (.int .i64 t)] 1 3)], [(.code .ret)], mkT j [(6, (.e (.one (.ptr 1 0))))] 36 0⟩) (fun j => by kernel_rfl) (aP h0 <| aN <| aP h2 <| aP (rfl : ([(.e (.agg (accN V [(.v (.bool (ac))), (.v (.slice (.some (ad)) 0 (cp)))])))] : List AV) = [(.e (.agg (accN V [(.v (.bool (ac))), (.v (.slice (.some (ad)) 0 (cp)))])))]) <| aP (rfl : ([] : List (Option (Option AB))) = []) <| aP h5 <| aP (rfl : ([(.some (zBk [] 0 3))] : List (Option (Option AB))) = [(.some (zBk [] 0 3))]) <| aP h7 <| aP (rfl : ((.e (.agg (accN V [(.v (.bool (ac))), (.slc 2 0 0 1 0 true)]))) : AV) = (.e (.agg (accN V [(.v (.bool (ac))), (.slc 2 0 0 1 0 true)])))) <| aP h9 <| aP h10 <| aP h11 <| aZ)
  fun j => gZ [1, 5] (ho j)
theorem K140u (hE : EnvOk E) (V : AccP) (c : Bool) (u : Value) (m : Int) : COut E 0 [] 92 [.e (.agg (accN V [.v (.bool c), .v u])), iI m] (iI (paidI V m)) [] :=
 cOut_start Tryz.func92 rfl (p140u hE (V) vZ [] [] [] 0 0 0 0 0 0 ⟨0, 0, none⟩ (u) (c) 0 (m) (paidI V m) 0 0 0 0 0 (wrapF .i64 (m * V.s)) (wrapF .i64 ((wrapF .i64 (m * V.s)).tdiv 100)) 0 0 0 0 0 0 0 0 [] [] [] rfl (by decide) rfl rfl (fun j => outK_ret (ends_ret (by kernel_rfl))) fun _ => undef)
theorem K135w (hE : EnvOk E) (a : Addr) (cp : Nat) : COut E 0 [] 95 [.e (.one (.v (.slice (some a) 0 cp)))] (.e (.one (.slc 0 0 0 1 0 true))) [(zBk [] 0 3)] :=
 cOut_start Tryz.func95 rfl (p135w hE vZ vZ [] [] [] 0 0 0 0 0 (cp) (a) undef false 0 0 0 0 0 0 0 0 0 0 0 0 0 0 0 0 0 0 [] [] [] (fun j => outK_ret (ends_ret (by kernel_rfl))) fun _ => undef)
theorem K79w (hE : EnvOk E) (V : AccP) (c : Bool) (a : Addr) (cp : Nat) : COut E 0 [] 58 [.e (.agg (accN V [.v (.bool c), .v (.slice (some a) 0 cp)]))] (.e (.agg (accN V [.v (.bool c), .slc 0 0 0 1 0 true]))) [(zBk [] 0 3)] := by
 have hc : COut E 0 [] 58 [.e (.agg (accN V [.v (.bool c), .v (.slice (some a) 0 cp)]))] (.e (.agg (accN V [.v (.bool c), .slc 1 0 0 1 0 true]))) [bK (accN V [.v (.bool c), .slc 1 0 0 1 0 true]) 22 44, (zBk [] 0 3)] := cOut_start Tryz.func58 rfl (p79w hE (V) vZ [] [] [] 0 0 0 0 0 (cp) (a) undef (c) 0 0 0 0 0 0 0 0 0 0 0 0 0 0 0 0 0 0 [] [] [] (K135w hE a cp) (by first | rfl | trivial) ⟨fun _ h => (by cases h), trivial⟩ (fun j => outK_ret (ends_ret (by kernel_rfl))) fun _ => undef)
 exact cOut_gcF [1] [true] (h' := [(zBk [] 0 3)]) (Nat.le_refl _) hc (by kernel_rfl) (by rfl) (by exact ⟨fun _ h => by simp at h, trivial⟩) (by rfl)
theorem insI_nil (t : Int) : insI [] t = [t] := by simp [insI]
theorem K93v (hE : EnvOk E) (V : AccP) (c : Bool) (cp : Nat) (t m : Int) : COut E 0 [] 56 [.e (.agg (accN V [.v (.bool c), .v (.slice none 0 cp)])), iI t, iI m] (accA (credV V m) [t] 1 c) [] := by
 have hc : COut E 0 [] 56 [.e (.agg (accN V [.v (.bool c), .v (.slice none 0 cp)])), iI t, iI m] (.e (.agg (accN (credV V m) [.v (.bool c), .slc 1 0 1 1 1 false]))) [bK (accN (credV V m) [.v (.bool c), .slc 1 0 1 1 1 false]) 22 44, some ⟨iC [t], 1, 3, false, .cells⟩] := cOut_start Tryz.func56 rfl (p93v hE (V) vZ [] [] [] 0 0 0 0 0 (cp) ⟨0, 0, none⟩ undef (c) (t) (m) ((wrapF .i64 (V.d - paidI V m))) (wrapF .i64 (m - paidI V m)) ((wrapF .i64 (V.b + wrapF .i64 (m - paidI V m)))) 0 0 0 0 (paidI V m) 0 0 0 0 0 0 0 0 [] [] [] (K140u hE V c _ m) (by first | rfl | trivial) (by first | rfl | trivial) (by first | rfl | trivial) (fun j => outK_ret (ends_ret (by kernel_rfl))) fun _ => undef)
 exact cOut_clear (cOut_freeze 1 hc rfl (Nat.zero_le _) (ds := iD [t]) ⟨.inl rfl, .inl rfl, .inl rfl, .inl rfl, .inl rfl, .inl rfl, .inl rfl, .inl rfl, .inl rfl, .inl rfl, .inl rfl, .inl rfl, .inl rfl, .inl rfl, .inl rfl, .inl rfl, .inl rfl, .inl rfl, .inl rfl, .inl rfl, .inl rfl, .inr ⟨0, 1, 1, 1, false, iD [t], rfl, rfl, rfl⟩, trivial⟩) rfl
theorem K93w (hE : EnvOk E) (V : AccP) (c : Bool) (a : Addr) (cp : Nat) (t m : Int) : COut E 0 [] 56 [.e (.agg (accN V [.v (.bool c), .v (.slice (some a) 0 cp)])), iI t, iI m] (accA (credV V m) [t] 1 c) [] := by
 have hc : COut E 0 [] 56 [.e (.agg (accN V [.v (.bool c), .v (.slice (some a) 0 cp)])), iI t, iI m] (.e (.agg (accN (credV V m) [.v (.bool c), .slc 1 0 1 1 1 false]))) [bK (accN (credV V m) [.v (.bool c), .slc 1 0 1 1 1 false]) 22 44, some ⟨iC [t], 1, 3, false, .cells⟩] := cOut_start Tryz.func56 rfl (p93w hE (V) vZ [] [] [] 0 0 0 0 0 (cp) (a) undef (c) (t) (m) ((wrapF .i64 (V.d - paidI V m))) (wrapF .i64 (m - paidI V m)) ((wrapF .i64 (V.b + wrapF .i64 (m - paidI V m)))) 0 0 0 0 (paidI V m) 0 0 0 0 0 0 0 0 [] [] [] (K140u hE V c _ m) (K79w hE V c a cp) (by first | rfl | trivial) ⟨fun _ h => (by cases h), trivial⟩ (by first | rfl | trivial) (by first | rfl | trivial) (by first | rfl | trivial) (fun j => outK_ret (ends_ret (by kernel_rfl))) fun _ => undef)
 exact cOut_clear (cOut_freeze 1 hc rfl (Nat.zero_le _) (ds := iD [t]) ⟨.inl rfl, .inl rfl, .inl rfl, .inl rfl, .inl rfl, .inl rfl, .inl rfl, .inl rfl, .inl rfl, .inl rfl, .inl rfl, .inl rfl, .inl rfl, .inl rfl, .inl rfl, .inl rfl, .inl rfl, .inl rfl, .inl rfl, .inl rfl, .inl rfl, .inr ⟨0, 1, 1, 1, false, iD [t], rfl, rfl, rfl⟩, trivial⟩) rfl
theorem acc_last {R : AC → Value → Prop} (V : AccP) (a x : AC) : ∀ {ys : List Value}, All2 R (accN V [a, x]) ys → ∃ y, R x y ∧ ∀ x', R x' y → All2 R (accN V [a, x']) ys
 | [_y0, _y1, _y2, _y3, _y4, _y5, _y6, _y7, _y8, _y9, _y10, _y11, _y12, _y13, _y14, _y15, _y16, _y17, _y18, _y19, _y20, y21], ⟨h0, h1, h2, h3, h4, h5, h6, h7, h8, h9, h10, h11, h12, h13, h14, h15, h16, h17, h18, h19, h20, h21, _⟩ => ⟨y21, h21, fun _x' hx => ⟨h0, h1, h2, h3, h4, h5, h6, h7, h8, h9, h10, h11, h12, h13, h14, h15, h16, h17, h18, h19, h20, hx, trivial⟩⟩
theorem cOut_emp {f : FuncId} {rest : List AV} {v : AV} {ho : Heap} (V : AccP) (c : Bool) (h1 : ∀ cp, COut E 0 [] f (.e (.agg (accN V [.v (.bool c), .v (.slice none 0 cp)])) :: rest) v ho) (h2 : ∀ a cp, COut E 0 [] f (.e (.agg (accN V [.v (.bool c), .v (.slice (some a) 0 cp)])) :: rest) v ho) : COut E 0 [] f (accA V [] 0 c :: rest) v ho := by
 intro M base w argsC ha H G
 generalize hl : argsC.toList = l at ha
 match l, ha with
 | y :: r, ⟨⟨cs, hy, hcs⟩, hr⟩ =>
  obtain ⟨z, hz, hk⟩ := acc_last V (.v (.bool c)) _ hcs
  have hz : DT.R M.F (.s [] 0 1) z := hz
  simp only [DT.R] at hz
  rcases hz with ⟨_, q, cp, rfl⟩ | ⟨h0, _⟩
  ·cases q with
   | none => exact h1 cp M base w argsC (by rw [hl]; exact ⟨⟨cs, hy, hk _ rfl⟩, hr⟩) H G
   | some a => exact h2 a cp M base w argsC (by rw [hl]; exact ⟨⟨cs, hy, hk _ rfl⟩, hr⟩) H G
  ·omega
theorem K93 (hE : EnvOk E) (V : AccP) (us : List Int) (n : Nat) (c : Bool) (hn : us.length = n) (hm : n ≤ 1000) (t m : Int) : COut E 0 [] 56 [accA V us n c, iI t, iI m] (accA (credV V m) (insI us t) (n + 1) c) [] := by
 rcases us with _ | ⟨u, us⟩
 ·obtain rfl := hn
  rw [insI_nil]
  exact cOut_emp V c (fun cp => K93v hE V c cp t m) (fun a cp => K93w hE V c a cp t m)
 ·exact K93n hE V (u :: us) n c hn (by rw [← hn]; exact Nat.succ_pos _) hm t m
end
end Go.Proofs.YtneaafigbnjceaaGreatDoor.Bk
end

/-! SePq -/
section
open Go Go.Ev
namespace Go.Proofs.YtneaafigbnjceaaGreatDoor.Bk
noncomputable section
def Rise (us : List Int) : Prop := us.Pairwise (· < ·) ∧ ∀ z ∈ us, 1 ≤ z ∧ z ≤ 999999999
theorem rise1_0 {b x : Int} (h : rise1 b x = 0) : b < x ∧ 1 ≤ x ∧ x ≤ 999999999 := by
 have h : (if num x = 0 then (if (if x ≤ b then (11 : Int) else 0) = 0 then (0 : Int) else _) else num x) = 0 := h
 unfold num rngI at h
 by_cases h1 : x < 1 ∨ 999999999 < x
 ·rw [if_pos h1] at h; simp at h
 ·rw [if_neg h1, if_pos rfl] at h
  by_cases h2 : x ≤ b
  ·rw [if_pos h2] at h; simp at h
  ·omega
theorem rise1_to {b x : Int} (h : b < x) (h1 : 1 ≤ x) (h2 : x ≤ 999999999) : rise1 b x = 0 := by
 have e : num x = 0 := by unfold num rngI; rw [if_neg (by omega)]
 show (if num x = 0 then (if (if x ≤ b then (11 : Int) else 0) = 0 then (0 : Int) else _) else num x) = 0
 have h3 : ¬ x ≤ b := by omega
 rw [e, if_pos rfl, if_neg h3, if_pos rfl]
theorem rise_of : ∀ (us : List Int) (b : Int), riseE b us = 0 → (∀ z ∈ us, b < z) ∧ Rise us
 | [], b, _ => ⟨fun z hz => by simp at hz, .nil, fun z hz => by simp at hz⟩
 | x :: us, b, h => by
  have h : (if rise1 b x = 0 then riseE x us else rise1 b x) = 0 := h
  by_cases hx : rise1 b x = 0
  ·rw [if_pos hx] at h
   obtain ⟨h1, h2, h3⟩ := rise1_0 hx
   obtain ⟨h4, h5, h6⟩ := rise_of us x h
   refine ⟨fun z hz => ?_, List.pairwise_cons.2 ⟨h4, h5⟩, fun z hz => ?_⟩
   ·rcases List.mem_cons.1 hz with rfl | hz
    ·exact h1
    ·have := h4 z hz; omega
   ·rcases List.mem_cons.1 hz with rfl | hz
    ·exact ⟨h2, h3⟩
    ·exact h6 z hz
  ·rw [if_neg hx] at h; exact absurd h hx
theorem rise_to : ∀ (us : List Int) (b : Int), (∀ z ∈ us, b < z) → Rise us → riseE b us = 0
 | [], b, _, _ => rfl
 | x :: us, b, h, ⟨hp, hr⟩ => by
  obtain ⟨h1, h2⟩ := List.pairwise_cons.1 hp
  have hx := hr x (List.mem_cons_self ..)
  show (if rise1 b x = 0 then riseE x us else rise1 b x) = 0
  rw [if_pos (rise1_to (h x (List.mem_cons_self ..)) hx.1 hx.2)]
  exact rise_to us x h1 ⟨h2, fun z hz => hr z (List.mem_cons_of_mem _ hz)⟩
theorem Rise.le {us : List Int} (h : Rise us) : us.Pairwise (· ≤ ·) := h.1.imp fun h => Int.le_of_lt h
theorem Rise.nodup {us : List Int} (h : Rise us) : us.Nodup := h.1.imp fun h => by omega
theorem insI_eq {us : List Int} (h : Rise us) (x : Int) : insI us x = insG x us := insG_sort x us h.le
theorem insI_mem {us : List Int} (h : Rise us) (x y : Int) : y ∈ insI us x ↔ y ∈ us ∨ y = x := by rw [insI_eq h]; exact insG_mem x y us
theorem insI_rise {us : List Int} (h : Rise us) {x : Int} (hx : x ∉ us) (h1 : 1 ≤ x) (h2 : x ≤ 999999999) : Rise (insI us x) := by
 refine ⟨?_, fun z hz => ?_⟩
 ·rw [insI_eq h]
  have a := insG_sorted x us h.le
  have b : (insG x us).Nodup := (insG_perm x us).nodup_iff.2 (by
   rw [List.nodup_append]
   exact ⟨h.nodup, by simp, fun a ha b hb => by
    rw [List.mem_singleton] at hb
    subst hb
    intro e; subst e; exact hx ha⟩)
  exact (a.and b).imp fun ⟨h3, h4⟩ => by omega
 ·rcases (insI_mem h x z).1 hz with hz | rfl
  ·exact h.2 z hz
  ·exact ⟨h1, h2⟩
structure GdA (V : AccP) (us : List Int) (c : Bool) : Prop where
 b : -1000000000000 ≤ V.b ∧ V.b ≤ 1000000000000
 d : 0 ≤ V.d ∧ V.d ≤ 1000000000000
 s : 0 ≤ V.s ∧ V.s ≤ 100
 e : 0 ≤ V.e ∧ V.e ≤ 100000000
 w : (!c && !newE V) = false
 n : us.length ≤ 256
 u : Rise us
theorem fI_c (a : Int) (l : List Int) : firstI (a :: l) = if a = 0 then firstI l else a := rfl
theorem fI_0 {a : Int} {l : List Int} (h : firstI (a :: l) = 0) : a = 0 ∧ firstI l = 0 := by
 rw [fI_c] at h
 by_cases ha : a = 0
 ·rw [if_pos ha] at h; exact ⟨ha, h⟩
 ·rw [if_neg ha] at h; exact absurd h ha
theorem rngI_0 {a b z : Int} (h : rngI a b z = 0) : a ≤ z ∧ z ≤ b := by
 unfold rngI at h
 split at h
 ·simp at h
 ·omega
theorem rngI_to {a b z : Int} (h : a ≤ z) (h' : z ≤ b) : rngI a b z = 0 := by unfold rngI; rw [if_neg (by omega)]
theorem good_of {V : AccP} {us : List Int} {c : Bool} (h : chkA V us us.length c = 0) : GdA V us c := by
 unfold chkA at h
 obtain ⟨h1, h⟩ := fI_0 h
 obtain ⟨h2, h⟩ := fI_0 h
 obtain ⟨h3, h⟩ := fI_0 h
 obtain ⟨h4, h⟩ := fI_0 h
 obtain ⟨h5, h⟩ := fI_0 h
 obtain ⟨h6, _⟩ := fI_0 h
 have h5 : (!c && !newE V) = false := by
  cases hc : (!c && !newE V)
  ·rfl
  ·rw [hc] at h5; simp at h5
 have hn : us.length ≤ 256 := by
  by_cases hh : 256 < us.length
  ·rw [if_pos hh] at h6; simp at h6
  ·omega
 rw [if_neg (by omega)] at h6
 exact ⟨rngI_0 h1, rngI_0 h2, rngI_0 h3, rngI_0 h4, h5, hn, (rise_of _ _ h6).2⟩
theorem GdA.chk {V : AccP} {us : List Int} {c : Bool} (h : GdA V us c) : chkA V us us.length c = 0 := by
 have h6 : (if 256 < us.length then (5 : Int) else riseE (-9223372036854775808) us) = 0 := by
  rw [if_neg (by have := h.n; omega)]
  exact rise_to _ _ (fun z hz => by have := h.u.2 z hz; omega) h.u
 have e : ∀ (a b c d e f : Int), a = 0 → b = 0 → c = 0 → d = 0 → e = 0 → f = 0 → firstI [a, b, c, d, e, f] = 0 := by
  intro a b c d e f ha hb hc hd he hf; subst ha hb hc hd he hf; rfl
 exact e _ _ _ _ _ _ (rngI_to h.b.1 h.b.2) (rngI_to h.d.1 h.d.2) (rngI_to h.s.1 h.s.2) (rngI_to h.e.1 h.e.2) (by rw [h.w]; rfl) h6
theorem cred_b {V : AccP} {us : List Int} {c : Bool} (h : GdA V us c) {m : Int} (hm : 1 ≤ m ∧ m ≤ 100000000) (hb : V.b ≤ 900000000000) :
  (credV V m).b = V.b + (m - paidI V m) ∧ (credV V m).d = V.d - paidI V m ∧ 0 ≤ paidI V m ∧ paidI V m ≤ m ∧ paidI V m ≤ V.d := by
 obtain ⟨p0, p1, p2⟩ := pay_le (okA h.chk) hm
 have h1 := h.b
 have h2 := h.d
 refine ⟨?_, ?_, p0, p1, p2⟩
 ·show wrapF .i64 (V.b + wrapF .i64 (m - paidI V m)) = _
  rw [wrap_id (n := m - paidI V m) (by omega) (by omega), wrap_id (by omega) (by omega)]
 ·show wrapF .i64 (V.d - paidI V m) = _
  rw [wrap_id (by omega) (by omega)]
theorem cred_good {V : AccP} {us : List Int} {c : Bool} (h : GdA V us c) {x m : Int} (hm : 1 ≤ m ∧ m ≤ 100000000) (hb : V.b ≤ 900000000000) (hx : x ∉ us) (h1 : 1 ≤ x ∧ x ≤ 999999999) (hl : us.length ≤ 255) : GdA (credV V m) (insI us x) c := by
 obtain ⟨e1, e2, p0, p1, p2⟩ := cred_b h hm hb
 have b1 := h.b
 have b2 := h.d
 exact ⟨by rw [e1]; omega, by rw [e2]; omega, h.s, h.e, h.w, by rw [insI_len]; omega, insI_rise h.u hx h1.1 h1.2⟩
theorem sameK_refl (l : List Int) : sameK l l = true := by
 unfold sameK
 rw [List.all_eq_true]
 intro i _
 exact beq_self_eq_true _
theorem sameK_8 {a0 a1 a2 a3 a4 a5 a6 a7 b0 b1 b2 b3 b4 b5 b6 b7 : Int} (h : sameK [a0, a1, a2, a3, a4, a5, a6, a7] [b0, b1, b2, b3, b4, b5, b6, b7] = true) : a0 = b0 ∧ a1 = b1 ∧ a2 = b2 ∧ a3 = b3 ∧ a4 = b4 ∧ a5 = b5 ∧ a6 = b6 ∧ a7 = b7 := by
 unfold sameK at h
 rw [List.all_eq_true] at h
 have g : ∀ i, i < 8 → _ := fun i hi => eq_of_beq (h i (List.mem_range.2 hi))
 exact ⟨g 0 (by decide), g 1 (by decide), g 2 (by decide), g 3 (by decide), g 4 (by decide), g 5 (by decide), g 6 (by decide), g 7 (by decide)⟩
theorem step_inj {j x y r : Int} (hj : 0 ≤ j ∧ j ≤ 7) (hx : 0 ≤ x ∧ x < 256) (hy : 0 ≤ y ∧ y < 256) (h : ((2 * j + 3) * x + r + j) % 256 = ((2 * j + 3) * y + r + j) % 256) : x = y := by
 have hj : j = 0 ∨ j = 1 ∨ j = 2 ∨ j = 3 ∨ j = 4 ∨ j = 5 ∨ j = 6 ∨ j = 7 := by omega
 rcases hj with rfl | rfl | rfl | rfl | rfl | rfl | rfl | rfl <;> omega
theorem seal_inj {j : Int} (hj : 0 ≤ j ∧ j ≤ 7) : ∀ (l : List Int) (x y : Int), 0 ≤ x ∧ x < 256 → 0 ≤ y ∧ y < 256 → sealB j x l = sealB j y l → x = y
 | [], x, y, _, _, h => h
 | s :: l, x, y, hx, hy, h => by
  have h : sealB j (((2 * j + 3) * x + s + j) % 256) l = sealB j (((2 * j + 3) * y + s + j) % 256) l := h
  exact step_inj (r := s) hj hx hy (seal_inj hj l _ _ ⟨by omega, by omega⟩ ⟨by omega, by omega⟩ h)
structure Byt (k0 k1 k2 k3 k4 k5 k6 k7 : Int) : Prop where
 h0 : 0 ≤ k0 ∧ k0 < 256
 h1 : 0 ≤ k1 ∧ k1 < 256
 h2 : 0 ≤ k2 ∧ k2 < 256
 h3 : 0 ≤ k3 ∧ k3 < 256
 h4 : 0 ≤ k4 ∧ k4 < 256
 h5 : 0 ≤ k5 ∧ k5 < 256
 h6 : 0 ≤ k6 ∧ k6 < 256
 h7 : 0 ≤ k7 ∧ k7 < 256
theorem sls_ne {s0 s1 s2 s3 s4 s5 s6 s7 k0 k1 k2 k3 k4 k5 k6 k7 t m : Int} (a : Byt s0 s1 s2 s3 s4 s5 s6 s7) (b : Byt k0 k1 k2 k3 k4 k5 k6 k7) (h : sameK [s0, s1, s2, s3, s4, s5, s6, s7] [k0, k1, k2, k3, k4, k5, k6, k7] = false) :
  sameK (sls s0 s1 s2 s3 s4 s5 s6 s7 t m) (sls k0 k1 k2 k3 k4 k5 k6 k7 t m) = false := by
 cases hc : sameK (sls s0 s1 s2 s3 s4 s5 s6 s7 t m) (sls k0 k1 k2 k3 k4 k5 k6 k7 t m) with
 | false => rfl
 | true =>
  obtain ⟨e0, e1, e2, e3, e4, e5, e6, e7⟩ := sameK_8 hc
  have f0 := seal_inj (by decide) _ _ _ a.h0 b.h0 e0
  have f1 := seal_inj (by decide) _ _ _ a.h1 b.h1 e1
  have f2 := seal_inj (by decide) _ _ _ a.h2 b.h2 e2
  have f3 := seal_inj (by decide) _ _ _ a.h3 b.h3 e3
  have f4 := seal_inj (by decide) _ _ _ a.h4 b.h4 e4
  have f5 := seal_inj (by decide) _ _ _ a.h5 b.h5 e5
  have f6 := seal_inj (by decide) _ _ _ a.h6 b.h6 e6
  have f7 := seal_inj (by decide) _ _ _ a.h7 b.h7 e7
  rw [f0, f1, f2, f3, f4, f5, f6, f7, sameK_refl] at h
  exact absurd h (by decide)
theorem crI_ok {V : AccP} {us : List Int} {c : Bool} (h : GdA V us c) {t m : Int} (s : List Int) (hm : 1 ≤ m ∧ m ≤ 100000000) (hb : V.b ≤ 900000000000) (hv : validB V c t m s = true) (ht : t ∉ us) (hl : us.length ≤ 255) : crI V c us us.length t m s = 0 := by
 obtain ⟨p0, p1, p2⟩ := pay_le (okA h.chk) hm
 have h1 := h.b
 have e : ∀ (a b c d : Int), a = 0 → b = 0 → c = 0 → d = 0 → firstI [a, b, c, d] = 0 := by intro a b c d ha hb hc hd; subst ha hb hc hd; rfl
 refine e _ _ _ _ (by rw [hv]; rfl) (by rw [decide_eq_false ht]; rfl) (by rw [decide_eq_false (by omega)]; rfl) ?_
 rw [wrap_id (n := V.b + m) (by omega) (by omega), wrap_id (by omega) (by omega), decide_eq_false (by omega)]; rfl
theorem crI_27 {V : AccP} {us : List Int} {c : Bool} {n : Nat} {t m : Int} {s : List Int} (hv : validB V c t m s = false) : crI V c us n t m s = 27 := by
 unfold crI crL
 rw [hv]; rfl
theorem crI_9 {V : AccP} {us : List Int} {c : Bool} {n : Nat} {t m : Int} {s : List Int} (hv : validB V c t m s = true) (ht : t ∈ us) : crI V c us n t m s = 9 := by
 unfold crI crL
 rw [hv, decide_eq_true ht]; rfl
theorem chkT_ok {t m : Int} (h : 1 ≤ t ∧ t ≤ 999999999) (h' : 1 ≤ m ∧ m ≤ 100000000) : chkT t m = 0 := by
 have e : ∀ (a b : Int), a = 0 → b = 0 → firstI [a, b] = 0 := by intro a b ha hb; subst ha hb; rfl
 exact e _ _ (rngI_to h.1 h.2) (rngI_to h'.1 h'.2)
end
end Go.Proofs.YtneaafigbnjceaaGreatDoor.Bk
end
