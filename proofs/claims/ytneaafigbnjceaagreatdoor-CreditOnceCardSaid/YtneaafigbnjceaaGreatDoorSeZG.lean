/-
  Part of the proof: SeBb, SyMap, SeTa, SeBc.
-/
import Derived.Test.YtneaafigbnjceaaGreatDoorSeZF

/-! SeBb -/
section
open Go Go.Ev
namespace Go.Proofs.YtneaafigbnjceaaGreatDoor.Bk
noncomputable section
set_option maxRecDepth 100000
set_option maxHeartbeats 20000000
abbrev ztBb0 : List Item := [(.code (atC [1, 1, 0, 1, 0, 0] (bodyOf Tryz.f6))), (.inLoop (atC [1, 1, 0, 1, 0, 0] (bodyOf Tryz.f6))), (.inBlock 0), (.code (atC [1, 1, 1] (bodyOf Tryz.f6)))]
def s80 (V : AccP) (U : List DT) (un : Nat) (ac : Bool) (_j : Nat → Value) : St := startK Tryz.f51 [] [(.e (.agg (zAc V ac U un)))]
def s12 (V : AccP) (U : List DT) (un : Nat) (ac : Bool) (_j : Nat → Value) : St := startK Tryz.f11 [] [(.e (.agg (zAc V ac U un)))]
def s15 (V : AccP) (U : List DT) (un : Nat) (ac : Bool) (_j : Nat → Value) : St := startK Tryz.f6 [] [(.e (.agg (zAc V ac U un)))]
def s20 (V : AccP) (U : List DT) (un : Nat) (ac : Bool) (_j : Nat → Value) : St := startK Tryz.f54 [] [(.e (.agg (zAc V ac U un)))]
def s79 (V : AccP) (U : List DT) (un : Nat) (ac : Bool) (_j : Nat → Value) : St := startK Tryz.f58 [] [(.e (.agg (zAc V ac U un)))]
def s90 (V : AccP) (U : List DT) (un : Nat) (ac : Bool) (_j : Nat → Value) : St := startK Tryz.f14 [] [(.e (.agg (zAc V ac U un)))]
def q15 (V : AccP) (U : List DT) (un i : Nat) (ac : Bool) (j : Nat → Value) : St := ⟨[(zBk (zAc V ac U un) 22 26)], ztBb0, mkT j [(1, (.e (.one (.ptr 0 0)))), (4, (iI (Int.ofNat i)))] 70 0⟩
def p80_end (V : AccP) (un : Nat) (ac a : Bool) (X : List AC) (j : Nat → Value) : St := ⟨[(zBk (accN V [(.v (.bool (ac))), (.slc 1 0 (un) 1 (un) (a))]) 22 26), (.some ⟨(X), (un), 3, (a), .cells⟩)], [(.code .ret)], mkT j [(2, (.e (.one (.ptr 0 0))))] 9 0⟩
theorem p80 (hE : EnvOk E) (V : AccP) (U : List DT) (un : Nat) (ac a : Bool) (X : List AC) (h0 : CopyOk [(zBk (zAc V ac U un) 22 26), (zBk zAz 22 26), (zBk [] 0 3)] 1 8 (.e (.one (.dp (.s (U) (un) 1)))) un X a) (h1 : (un * 1 : Nat) = un) (g0 : FlatC (X)) : Sg 0 0 (s80 V U un ac) (p80_end V un ac a X) := fun ho j =>
 oS hE [.run 3, (.ops [(3, (.cpu (un) (un) (X) (a)))] []), .run 2] [2] (s' := fun j => ⟨[(zBk (accN V [(.v (.bool (ac))), (.slc 3 0 (un) 1 (un) (a))]) 22 26), (zBk (accN V [(.v (.bool (ac))), (.slc 3 0 (un) 1 (un) (a))]) 22 26), none, (.some ⟨(X), (un), 3, (a), .cells⟩)], [(.code .ret)], mkT j [(2, (.e (.one (.ptr 1 0))))] 9 0⟩) (aP h0 <| aP h1 <| aZ)
  fun j => outK_gcF [1, 3] [false, true] (h' := [(zBk (accN V [(.v (.bool (ac))), (.slc 1 0 (un) 1 (un) (a))]) 22 26), (.some ⟨(X), (un), 3, (a), .cells⟩)]) (by decide) (by kernel_rfl) (by kernel_rfl) ⟨g0, trivial⟩ (by kernel_rfl) (ho j)
def p12_end (V : AccP) (U : List DT) (un : Nat) (ac : Bool) (j : Nat → Value) : St := ⟨[(zBk (zAc V ac U un) 22 44)], [(.code .ret)], mkT j [(2, (.e (.one (.ptr 0 0))))] 5 0⟩
theorem p12 (hE : EnvOk E) (V : AccP) (U : List DT) (un : Nat) (ac : Bool) (h0 : COut E 0 [] 51 [(.e (.agg (zAc V ac U un)))] (.e (.agg (zAc V ac U un))) []) : Sg 0 0 (s12 V U un ac) (p12_end V U un ac) := fun ho j =>
 oS hE [.run 3, (.ops [(1, (.c0 (.e (.agg (zAc V ac U un)))))] [])] [2] (s' := fun j => ⟨[(zBk (zAc V ac U un) 22 26), (zBk (zAc V ac U un) 22 44)], [(.code .ret)], mkT j [(2, (.e (.one (.ptr 1 0))))] 5 0⟩) (aP h0 <| aN <| aZ)
  fun j => gZ [1] (ho j)
def p90_end (V : AccP) (U : List DT) (un : Nat) (ac : Bool) (j : Nat → Value) : St := ⟨[(zBk (zAc V ac U un) 22 26)], [(.code .ret)], mkT j [(2, (.e (.one (.ptr 0 0))))] 4 0⟩
theorem p90 (hE : EnvOk E) (V : AccP) (U : List DT) (un : Nat) (ac : Bool) : Sg 0 0 (s90 V U un ac) (p90_end V U un ac) := fun ho j =>
 oS hE [.run 4] [2] (s' := fun j => ⟨[(zBk (zAc V ac U un) 22 44), (zBk (zAc V ac U un) 22 26)], [(.code .ret)], mkT j [(2, (.e (.one (.ptr 1 0))))] 4 0⟩) (ps := []) trivial
  fun j => gZ [1] (ho j)
def p79_end (V : AccP) (U : List DT) (un : Nat) (ac : Bool) (j : Nat → Value) : St := ⟨[(zBk (zAc V ac U un) 22 44)], [(.code .ret)], mkT j [(2, (.e (.one (.ptr 0 0))))] 8 0⟩
theorem p79 (hE : EnvOk E) (V : AccP) (U : List DT) (un : Nat) (ac : Bool) (h0 : COut E 0 [] 95 [(.e (.one (.dp (.s (U) (un) 1))))] (.e (.one (.dp (.s (U) (un) 1)))) []) : Sg 0 0 (s79 V U un ac) (p79_end V U un ac) := fun ho j =>
 oS hE [.run 3, (.ops [(2, (.c0 (.e (.one (.dp (.s (U) (un) 1))))))] []), .run 2] [2] (s' := fun j => ⟨[(zBk (zAc V ac U un) 22 44), (zBk (zAc V ac U un) 22 44)], [(.code .ret)], mkT j [(2, (.e (.one (.ptr 1 0))))] 8 0⟩) (aP h0 <| aN <| aZ)
  fun j => gZ [1] (ho j)
def p20c_end (h : Int) (j : Nat → Value) : St := ⟨[], [(.code .ret)], mkT j [(2, (iI (h)))] 33 0⟩
theorem p20c (hE : EnvOk E) (V : AccP) (U : List DT) (un : Nat) (b x y z w f g h : Int) (ac : Bool) (h0 : COut E 0 [] 63 [(iI (V.b)), (iI (-1000000000000)), (iI 1000000000000)] (iI (x)) []) (h2 : COut E 0 [] 63 [(iI (V.d)), (iI 0), (iI 1000000000000)] (iI (y)) []) (h4 : COut E 0 [] 63 [(iI (V.s)), (iI 0), (iI 100)] (iI (z)) []) (h6 : COut E 0 [] 63 [(iI (V.e)), (iI 0), (iI 100000000)] (iI (w)) []) (h8 : ((!ac) == true : Bool) = false) (h9 : ((!ac) == true : Bool) = false) (h10 : ((!ac) == true : Bool) = false) (h11 : ((!ac) == true : Bool) = false) (h12 : (!ac : Bool) = false) (h13 : COut E 0 [] 61 [(iB false), (iI 1)] (iI (f)) []) (h16 : COut E 0 [(zBk (zAc V ac U un) 22 44), (zBk [(.v (.int .i64 (-9223372036854775808)))] 1 3), (zBk [(.clo 115 [] [(.one (.ptr 1 0))])] 1 129)] 88 [(.e (.one (.dp (.s (U) (un) 1)))), (iI 256), (.e (.one (.clo 89 [] [(.one (.ptr 2 0))])))] (iI (g)) [(zBk (zAc V ac U un) 22 44), (zBk [.v (.int .i64 b)] 1 3), (zBk [(.clo 115 [] [(.one (.ptr 1 0))])] 1 129)]) (h17 : COut E 4 [(zBk (zAc V ac U un) 22 44), (zBk [.v (.int .i64 b)] 1 3), (zBk [(.clo 115 [] [(.one (.ptr 1 0))])] 1 129), (zBk [.v (.int .i64 x), .v (.int .i64 y), .v (.int .i64 z), .v (.int .i64 w), .v (.int .i64 f), .v (.int .i64 g)] 6 36)] 53 [(.e (.one (.slc 3 0 6 1 6 true)))] (iI (h)) [(zBk (zAc V ac U un) 22 44), (zBk [.v (.int .i64 b)] 1 3), (zBk [(.clo 115 [] [(.one (.ptr 1 0))])] 1 129), (zBk [.v (.int .i64 x), .v (.int .i64 y), .v (.int .i64 z), .v (.int .i64 w), .v (.int .i64 f), .v (.int .i64 g)] 6 36)]) : Sg 0 0 (s20 V U un ac) (p20c_end h) := fun ho j =>
 outK_seg hE (R4_ok hE) [.run 5, (.ops [(2, (.c0 (iI (x)))), (5, (.c0 (iI (y)))), (8, (.c0 (iI (z)))), (11, (.c0 (iI (w)))), (21, (.c0 (iI (f)))), (25, (.cw (iI (g)) [(zBk (zAc V ac U un) 22 44), (zBk [.v (.int .i64 b)] 1 3), (zBk [(.clo 115 [] [(.one (.ptr 1 0))])] 1 129)])), (27, (.d (.c1 (iI (h))))), (20, (.pk false))] [(16, false), (17, false), (18, false), (19, false)])] [2] (s' := fun j => ⟨[(zBk (zAc V ac U un) 22 44), (zBk [.v (.int .i64 b)] 1 3), (zBk [(.clo 115 [] [(.one (.ptr 1 0))])] 1 129), (zBk [.v (.int .i64 x), .v (.int .i64 y), .v (.int .i64 z), .v (.int .i64 w), .v (.int .i64 f), .v (.int .i64 g)] 6 36)], [(.code .ret)], mkT j [(2, (iI (h)))] 33 0⟩) (fun j => by kernel_rfl) (aP h0 <| aN <| aP h2 <| aN <| aP h4 <| aN <| aP h6 <| aN <| aP h8 <| aP h9 <| aP h10 <| aP h11 <| aP h12 <| aP h13 <| aN <| aP (rfl : (true : Bool) = true) <| aP h16 <| aP h17 <| aN <| aZ)
  fun j => gZ [] (ho j)
def p20n_end (h : Int) (j : Nat → Value) : St := ⟨[], [(.code .ret)], mkT j [(2, (iI (h)))] 33 0⟩
theorem p20n (hE : EnvOk E) (V : AccP) (U : List DT) (un : Nat) (b x y z w f g h : Int) (ac a : Bool) (h0 : COut E 0 [] 63 [(iI (V.b)), (iI (-1000000000000)), (iI 1000000000000)] (iI (x)) []) (h2 : COut E 0 [] 63 [(iI (V.d)), (iI 0), (iI 1000000000000)] (iI (y)) []) (h4 : COut E 0 [] 63 [(iI (V.s)), (iI 0), (iI 100)] (iI (z)) []) (h6 : COut E 0 [] 63 [(iI (V.e)), (iI 0), (iI 100000000)] (iI (w)) []) (h8 : ((!ac) == true : Bool) = true) (h9 : ((!ac) == true : Bool) = true) (h10 : ((!ac) == true : Bool) = true) (h11 : ((!ac) == true : Bool) = true) (h12 : EqOk E 23 (zB8 V.m0 V.m1 V.m2 V.m3 V.m4 V.m5 V.m6 V.m7) (zB8 0 0 0 0 0 0 0 0) !a) (h13 : (!ac : Bool) = true) (h14 : COut E 0 [] 61 [(iB (a)), (iI 1)] (iI (f)) []) (h17 : COut E 0 [(zBk (zAc V ac U un) 22 44), (zBk [(.v (.int .i64 (-9223372036854775808)))] 1 3), (zBk [(.clo 115 [] [(.one (.ptr 1 0))])] 1 129)] 88 [(.e (.one (.dp (.s (U) (un) 1)))), (iI 256), (.e (.one (.clo 89 [] [(.one (.ptr 2 0))])))] (iI (g)) [(zBk (zAc V ac U un) 22 44), (zBk [.v (.int .i64 b)] 1 3), (zBk [(.clo 115 [] [(.one (.ptr 1 0))])] 1 129)]) (h18 : COut E 4 [(zBk (zAc V ac U un) 22 44), (zBk [.v (.int .i64 b)] 1 3), (zBk [(.clo 115 [] [(.one (.ptr 1 0))])] 1 129), (zBk [.v (.int .i64 x), .v (.int .i64 y), .v (.int .i64 z), .v (.int .i64 w), .v (.int .i64 f), .v (.int .i64 g)] 6 36)] 53 [(.e (.one (.slc 3 0 6 1 6 true)))] (iI (h)) [(zBk (zAc V ac U un) 22 44), (zBk [.v (.int .i64 b)] 1 3), (zBk [(.clo 115 [] [(.one (.ptr 1 0))])] 1 129), (zBk [.v (.int .i64 x), .v (.int .i64 y), .v (.int .i64 z), .v (.int .i64 w), .v (.int .i64 f), .v (.int .i64 g)] 6 36)]) : Sg 0 0 (s20 V U un ac) (p20n_end h) := fun ho j =>
 outK_seg hE (R4_ok hE) [.run 5, (.ops [(2, (.c0 (iI (x)))), (5, (.c0 (iI (y)))), (8, (.c0 (iI (z)))), (11, (.c0 (iI (w)))), (19, (.eqs (a))), (21, (.c0 (iI (f)))), (25, (.cw (iI (g)) [(zBk (zAc V ac U un) 22 44), (zBk [.v (.int .i64 b)] 1 3), (zBk [(.clo 115 [] [(.one (.ptr 1 0))])] 1 129)])), (27, (.d (.c1 (iI (h))))), (20, (.pk true))] [(16, true), (17, true), (18, true), (19, true)])] [2] (s' := fun j => ⟨[(zBk (zAc V ac U un) 22 44), (zBk [.v (.int .i64 b)] 1 3), (zBk [(.clo 115 [] [(.one (.ptr 1 0))])] 1 129), (zBk [.v (.int .i64 x), .v (.int .i64 y), .v (.int .i64 z), .v (.int .i64 w), .v (.int .i64 f), .v (.int .i64 g)] 6 36)], [(.code .ret)], mkT j [(2, (iI (h)))] 33 0⟩) (fun j => by kernel_rfl) (aP h0 <| aN <| aP h2 <| aN <| aP h4 <| aN <| aP h6 <| aN <| aP h8 <| aP h9 <| aP h10 <| aP h11 <| aP h12 <| aP h13 <| aP h14 <| aN <| aP (rfl : (true : Bool) = true) <| aP h17 <| aP h18 <| aN <| aZ)
  fun j => gZ [] (ho j)
def p15ec_end (h : Int) (j : Nat → Value) : St := ⟨[], [(.code .ret), (.code (atC [1, 1] (bodyOf Tryz.f6)))], mkT j [(2, (iI (h)))] 70 0⟩
theorem p15ec (hE : EnvOk E) (V : AccP) (U : List DT) (un : Nat) (x y z w f g h : Int) (ac : Bool) (h0 : COut E 0 [] 37 [(iI (V.b)), (iI (-1000000000000)), (iI 1000000000000)] (iI (x)) []) (h2 : COut E 0 [] 37 [(iI (V.d)), (iI 0), (iI 1000000000000)] (iI (y)) []) (h4 : COut E 0 [] 37 [(iI (V.s)), (iI 0), (iI 100)] (iI (z)) []) (h6 : COut E 0 [] 37 [(iI (V.e)), (iI 0), (iI 100000000)] (iI (w)) []) (h8 : ((!ac) == true : Bool) = false) (h9 : ((!ac) == true : Bool) = false) (h10 : ((!ac) == true : Bool) = false) (h11 : ((!ac) == true : Bool) = false) (h12 : (!ac : Bool) = false) (h13 : COut E 0 [] 38 [(iB false), (iI 1)] (iI (f)) []) (h16 : COut E 0 [] 38 [(iB (decide ((↑un : Int) > (256 : Int)))), (iI 5)] (iI (g)) []) (h18 : COut E 2 [(zBk (zAc V ac U un) 22 26), (zBk [.v (.int .i64 x), .v (.int .i64 y), .v (.int .i64 z), .v (.int .i64 w), .v (.int .i64 f), .v (.int .i64 g)] 6 3)] 36 [(.e (.one (.slc 1 0 6 1 6 true)))] (iI (h)) [(zBk (zAc V ac U un) 22 26), (zBk [.v (.int .i64 x), .v (.int .i64 y), .v (.int .i64 z), .v (.int .i64 w), .v (.int .i64 f), .v (.int .i64 g)] 6 3)]) (h20 : (h != (0 : Int) : Bool) = true) : Sg 0 0 (s15 V U un ac) (p15ec_end h) := fun ho j =>
 oS hE [.run 4, (.ops [(2, (.c0 (iI (x)))), (5, (.c0 (iI (y)))), (8, (.c0 (iI (z)))), (11, (.c0 (iI (w)))), (21, (.c0 (iI (f)))), (26, (.c0 (iI (g)))), (28, (.d (.c1 (iI (h))))), (20, (.pk false)), (24, (.d .len))] [(16, false), (17, false), (18, false), (19, false)]), .run 2, (.cond true), .run 2] [2] (s' := fun j => ⟨[(zBk (zAc V ac U un) 22 26), (zBk [.v (.int .i64 x), .v (.int .i64 y), .v (.int .i64 z), .v (.int .i64 w), .v (.int .i64 f), .v (.int .i64 g)] 6 3)], [(.code .ret), (.code (atC [1, 1] (bodyOf Tryz.f6)))], mkT j [(2, (iI (h)))] 70 0⟩) (aP h0 <| aN <| aP h2 <| aN <| aP h4 <| aN <| aP h6 <| aN <| aP h8 <| aP h9 <| aP h10 <| aP h11 <| aP h12 <| aP h13 <| aN <| aP (rfl : (true : Bool) = true) <| aP h16 <| aN <| aP h18 <| aN <| aP h20 <| aZ)
  fun j => gZ [] (ho j)
def p15ac_end (V : AccP) (U : List DT) (un : Nat) (ac : Bool) (j : Nat → Value) : St := ⟨[(zBk (zAc V ac U un) 22 26)], ztBb0, mkT j [(1, (.e (.one (.ptr 0 0)))), (4, (iI 0))] 70 0⟩
theorem p15ac (hE : EnvOk E) (V : AccP) (U : List DT) (un : Nat) (x y z w f g h : Int) (ac : Bool) (h0 : COut E 0 [] 37 [(iI (V.b)), (iI (-1000000000000)), (iI 1000000000000)] (iI (x)) []) (h2 : COut E 0 [] 37 [(iI (V.d)), (iI 0), (iI 1000000000000)] (iI (y)) []) (h4 : COut E 0 [] 37 [(iI (V.s)), (iI 0), (iI 100)] (iI (z)) []) (h6 : COut E 0 [] 37 [(iI (V.e)), (iI 0), (iI 100000000)] (iI (w)) []) (h8 : ((!ac) == true : Bool) = false) (h9 : ((!ac) == true : Bool) = false) (h10 : ((!ac) == true : Bool) = false) (h11 : ((!ac) == true : Bool) = false) (h12 : (!ac : Bool) = false) (h13 : COut E 0 [] 38 [(iB false), (iI 1)] (iI (f)) []) (h16 : COut E 0 [] 38 [(iB (decide ((↑un : Int) > (256 : Int)))), (iI 5)] (iI (g)) []) (h18 : COut E 2 [(zBk (zAc V ac U un) 22 26), (zBk [.v (.int .i64 x), .v (.int .i64 y), .v (.int .i64 z), .v (.int .i64 w), .v (.int .i64 f), .v (.int .i64 g)] 6 3)] 36 [(.e (.one (.slc 1 0 6 1 6 true)))] (iI (h)) [(zBk (zAc V ac U un) 22 26), (zBk [.v (.int .i64 x), .v (.int .i64 y), .v (.int .i64 z), .v (.int .i64 w), .v (.int .i64 f), .v (.int .i64 g)] 6 3)]) (h20 : (h != (0 : Int) : Bool) = false) : Sg 0 0 (s15 V U un ac) (p15ac_end V U un ac) := fun ho j =>
 oS hE [.run 4, (.ops [(2, (.c0 (iI (x)))), (5, (.c0 (iI (y)))), (8, (.c0 (iI (z)))), (11, (.c0 (iI (w)))), (21, (.c0 (iI (f)))), (26, (.c0 (iI (g)))), (28, (.d (.c1 (iI (h))))), (20, (.pk false)), (24, (.d .len))] [(16, false), (17, false), (18, false), (19, false)]), .run 2, (.cond false), .run 6] [1, 4] (s' := fun j => ⟨[(zBk (zAc V ac U un) 22 26), (zBk [.v (.int .i64 x), .v (.int .i64 y), .v (.int .i64 z), .v (.int .i64 w), .v (.int .i64 f), .v (.int .i64 g)] 6 3)], ztBb0, mkT j [(1, (.e (.one (.ptr 0 0)))), (4, (iI 0))] 70 0⟩) (aP h0 <| aN <| aP h2 <| aN <| aP h4 <| aN <| aP h6 <| aN <| aP h8 <| aP h9 <| aP h10 <| aP h11 <| aP h12 <| aP h13 <| aN <| aP (rfl : (true : Bool) = true) <| aP h16 <| aN <| aP h18 <| aN <| aP h20 <| aZ)
  fun j => gZ [0] (ho j)
def p15en_end (h : Int) (j : Nat → Value) : St := ⟨[], [(.code .ret), (.code (atC [1, 1] (bodyOf Tryz.f6)))], mkT j [(2, (iI (h)))] 70 0⟩
theorem p15en (hE : EnvOk E) (V : AccP) (U : List DT) (un : Nat) (x y z w f g h : Int) (ac a : Bool) (h0 : COut E 0 [] 37 [(iI (V.b)), (iI (-1000000000000)), (iI 1000000000000)] (iI (x)) []) (h2 : COut E 0 [] 37 [(iI (V.d)), (iI 0), (iI 1000000000000)] (iI (y)) []) (h4 : COut E 0 [] 37 [(iI (V.s)), (iI 0), (iI 100)] (iI (z)) []) (h6 : COut E 0 [] 37 [(iI (V.e)), (iI 0), (iI 100000000)] (iI (w)) []) (h8 : ((!ac) == true : Bool) = true) (h9 : ((!ac) == true : Bool) = true) (h10 : ((!ac) == true : Bool) = true) (h11 : ((!ac) == true : Bool) = true) (h12 : EqOk E 23 (zB8 V.m0 V.m1 V.m2 V.m3 V.m4 V.m5 V.m6 V.m7) (zB8 0 0 0 0 0 0 0 0) !a) (h13 : (!ac : Bool) = true) (h14 : COut E 0 [] 38 [(iB (a)), (iI 1)] (iI (f)) []) (h17 : COut E 0 [] 38 [(iB (decide ((↑un : Int) > (256 : Int)))), (iI 5)] (iI (g)) []) (h19 : COut E 2 [(zBk (zAc V ac U un) 22 26), (zBk [.v (.int .i64 x), .v (.int .i64 y), .v (.int .i64 z), .v (.int .i64 w), .v (.int .i64 f), .v (.int .i64 g)] 6 3)] 36 [(.e (.one (.slc 1 0 6 1 6 true)))] (iI (h)) [(zBk (zAc V ac U un) 22 26), (zBk [.v (.int .i64 x), .v (.int .i64 y), .v (.int .i64 z), .v (.int .i64 w), .v (.int .i64 f), .v (.int .i64 g)] 6 3)]) (h21 : (h != (0 : Int) : Bool) = true) : Sg 0 0 (s15 V U un ac) (p15en_end h) := fun ho j =>
 oS hE [.run 4, (.ops [(2, (.c0 (iI (x)))), (5, (.c0 (iI (y)))), (8, (.c0 (iI (z)))), (11, (.c0 (iI (w)))), (19, (.eqs (a))), (21, (.c0 (iI (f)))), (26, (.c0 (iI (g)))), (28, (.d (.c1 (iI (h))))), (20, (.pk true)), (24, (.d .len))] [(16, true), (17, true), (18, true), (19, true)]), .run 2, (.cond true), .run 2] [2] (s' := fun j => ⟨[(zBk (zAc V ac U un) 22 26), (zBk [.v (.int .i64 x), .v (.int .i64 y), .v (.int .i64 z), .v (.int .i64 w), .v (.int .i64 f), .v (.int .i64 g)] 6 3)], [(.code .ret), (.code (atC [1, 1] (bodyOf Tryz.f6)))], mkT j [(2, (iI (h)))] 70 0⟩) (aP h0 <| aN <| aP h2 <| aN <| aP h4 <| aN <| aP h6 <| aN <| aP h8 <| aP h9 <| aP h10 <| aP h11 <| aP h12 <| aP h13 <| aP h14 <| aN <| aP (rfl : (true : Bool) = true) <| aP h17 <| aN <| aP h19 <| aN <| aP h21 <| aZ)
  fun j => gZ [] (ho j)
def p15an_end (V : AccP) (U : List DT) (un : Nat) (ac : Bool) (j : Nat → Value) : St := ⟨[(zBk (zAc V ac U un) 22 26)], ztBb0, mkT j [(1, (.e (.one (.ptr 0 0)))), (4, (iI 0))] 70 0⟩
theorem p15an (hE : EnvOk E) (V : AccP) (U : List DT) (un : Nat) (x y z w f g h : Int) (ac a : Bool) (h0 : COut E 0 [] 37 [(iI (V.b)), (iI (-1000000000000)), (iI 1000000000000)] (iI (x)) []) (h2 : COut E 0 [] 37 [(iI (V.d)), (iI 0), (iI 1000000000000)] (iI (y)) []) (h4 : COut E 0 [] 37 [(iI (V.s)), (iI 0), (iI 100)] (iI (z)) []) (h6 : COut E 0 [] 37 [(iI (V.e)), (iI 0), (iI 100000000)] (iI (w)) []) (h8 : ((!ac) == true : Bool) = true) (h9 : ((!ac) == true : Bool) = true) (h10 : ((!ac) == true : Bool) = true) (h11 : ((!ac) == true : Bool) = true) (h12 : EqOk E 23 (zB8 V.m0 V.m1 V.m2 V.m3 V.m4 V.m5 V.m6 V.m7) (zB8 0 0 0 0 0 0 0 0) !a) (h13 : (!ac : Bool) = true) (h14 : COut E 0 [] 38 [(iB (a)), (iI 1)] (iI (f)) []) (h17 : COut E 0 [] 38 [(iB (decide ((↑un : Int) > (256 : Int)))), (iI 5)] (iI (g)) []) (h19 : COut E 2 [(zBk (zAc V ac U un) 22 26), (zBk [.v (.int .i64 x), .v (.int .i64 y), .v (.int .i64 z), .v (.int .i64 w), .v (.int .i64 f), .v (.int .i64 g)] 6 3)] 36 [(.e (.one (.slc 1 0 6 1 6 true)))] (iI (h)) [(zBk (zAc V ac U un) 22 26), (zBk [.v (.int .i64 x), .v (.int .i64 y), .v (.int .i64 z), .v (.int .i64 w), .v (.int .i64 f), .v (.int .i64 g)] 6 3)]) (h21 : (h != (0 : Int) : Bool) = false) : Sg 0 0 (s15 V U un ac) (p15an_end V U un ac) := fun ho j =>
 oS hE [.run 4, (.ops [(2, (.c0 (iI (x)))), (5, (.c0 (iI (y)))), (8, (.c0 (iI (z)))), (11, (.c0 (iI (w)))), (19, (.eqs (a))), (21, (.c0 (iI (f)))), (26, (.c0 (iI (g)))), (28, (.d (.c1 (iI (h))))), (20, (.pk true)), (24, (.d .len))] [(16, true), (17, true), (18, true), (19, true)]), .run 2, (.cond false), .run 6] [1, 4] (s' := fun j => ⟨[(zBk (zAc V ac U un) 22 26), (zBk [.v (.int .i64 x), .v (.int .i64 y), .v (.int .i64 z), .v (.int .i64 w), .v (.int .i64 f), .v (.int .i64 g)] 6 3)], ztBb0, mkT j [(1, (.e (.one (.ptr 0 0)))), (4, (iI 0))] 70 0⟩) (aP h0 <| aN <| aP h2 <| aN <| aP h4 <| aN <| aP h6 <| aN <| aP h8 <| aP h9 <| aP h10 <| aP h11 <| aP h12 <| aP h13 <| aP h14 <| aN <| aP (rfl : (true : Bool) = true) <| aP h17 <| aN <| aP h19 <| aN <| aP h21 <| aZ)
  fun j => gZ [0] (ho j)
def p15z_end (V : AccP) (U : List DT) (un i : Nat) (ac : Bool) (j : Nat → Value) : St := ⟨[(zBk (zAc V ac U un) 22 26)], ztBb0, mkT j [(1, (.e (.one (.ptr 0 0)))), (4, (iI (Int.ofNat (i + 1))))] 70 0⟩
theorem p15z (hE : EnvOk E) (V : AccP) (U : List DT) (un i : Nat) (z f : Int) (ac : Bool) (h0 : (decide (Int.ofNat i < (↑un : Int)) : Bool) = true) (h1 : (0 : Int) ≤ Int.ofNat i ∧ Int.ofNat i < (↑un : Int)) (h2 : ((Int.ofNat i).toNat * nat_lit 1 : Nat) = i) (h3 : (getL U i : Option DT) = (.some (.v (.int .i64 z)))) (h4 : COut E 0 [] 39 [(iI (z))] (iI (f)) []) (h6 : (f != (0 : Int) : Bool) = false) (h7 : (decide (Int.ofNat i > (0 : Int)) == true : Bool) = false) (h8 : (decide (Int.ofNat i > (0 : Int)) == true : Bool) = false) (h9 : (decide (Int.ofNat i > (0 : Int)) == true : Bool) = false) (h10 : (decide (Int.ofNat i > (0 : Int)) == true : Bool) = false) (h11 : (decide (Int.ofNat i > (0 : Int)) == true : Bool) = false) (h12 : (decide (Int.ofNat i > (0 : Int)) == true : Bool) = false) (h13 : (decide (Int.ofNat i > (0 : Int)) == true : Bool) = false) (h14 : (decide (Int.ofNat i > (0 : Int)) == true : Bool) = false) (h15 : (decide (Int.ofNat i > (0 : Int)) == true : Bool) = false) (h16 : (decide (Int.ofNat i > (0 : Int)) == true : Bool) = false) (h17 : (decide (Int.ofNat i > (0 : Int)) == true : Bool) = false) (h19 : (decide (Int.ofNat i > (0 : Int)) == true : Bool) = false) (h20 : (decide (Int.ofNat i > (0 : Int)) : Bool) = false) (h21 : ((iI (wrapF IntKind.i64 (Int.ofNat i + (1 : Int)))) : AV) = (iI (Int.ofNat (i + 1)))) : Sg 0 0 (q15 V U un i ac) (p15z_end V U un i ac) := fun ho j =>
 oS hE [.run 2, (.ops [(3, (.d .len))] []), (.cond true), .run 5, (.ops [(4, (.d (.ld (.v (.int .i64 z))))), (5, (.c0 (iI (f)))), (3, (.d (.ix (i))))] []), .run 2, (.cond false), .run 2, (.ops [(15, (.pk false))] [(3, false), (4, false), (5, false), (6, false), (7, false), (8, false), (9, false), (10, false), (11, false), (12, false), (13, false), (14, false)]), .run 3, (.ops [(1, (.rn (iI (Int.ofNat (i + 1)))))] []), .run 1] [1, 4] (aP h0 <| aP h1 <| aP h2 <| aP h3 <| aP h4 <| aN <| aP h6 <| aP h7 <| aP h8 <| aP h9 <| aP h10 <| aP h11 <| aP h12 <| aP h13 <| aP h14 <| aP h15 <| aP h16 <| aP h17 <| aP (rfl : (true : Bool) = true) <| aP h19 <| aP h20 <| aP h21 <| aZ)
  ho
def p15s_end (V : AccP) (U : List DT) (un i : Nat) (ac : Bool) (j : Nat → Value) : St := ⟨[(zBk (zAc V ac U un) 22 26)], ztBb0, mkT j [(1, (.e (.one (.ptr 0 0)))), (4, (iI (Int.ofNat (i + 1))))] 70 0⟩
theorem p15s (hE : EnvOk E) (V : AccP) (U : List DT) (un p i : Nat) (z w f : Int) (ac : Bool) (h0 : (decide (Int.ofNat i < (↑un : Int)) : Bool) = true) (h1 : (0 : Int) ≤ Int.ofNat i ∧ Int.ofNat i < (↑un : Int)) (h2 : ((Int.ofNat i).toNat * nat_lit 1 : Nat) = i) (h3 : (getL U i : Option DT) = (.some (.v (.int .i64 z)))) (h4 : COut E 0 [] 39 [(iI (z))] (iI (f)) []) (h6 : (f != (0 : Int) : Bool) = false) (h7 : (decide (Int.ofNat i > (0 : Int)) == true : Bool) = true) (h8 : (decide (Int.ofNat i > (0 : Int)) == true : Bool) = true) (h9 : (decide (Int.ofNat i > (0 : Int)) == true : Bool) = true) (h10 : (decide (Int.ofNat i > (0 : Int)) == true : Bool) = true) (h13 : (decide (Int.ofNat i > (0 : Int)) == true : Bool) = true) (h15 : (decide (Int.ofNat i > (0 : Int)) == true : Bool) = true) (h16 : (decide (Int.ofNat i > (0 : Int)) == true : Bool) = true) (h17 : (decide (Int.ofNat i > (0 : Int)) == true : Bool) = true) (h18 : (decide (Int.ofNat i > (0 : Int)) == true : Bool) = true) (h19 : ((iI (wrapF IntKind.i64 (Int.ofNat i - (1 : Int)))) : AV) = (iI (Int.ofNat p))) (h20 : (decide (Int.ofNat i > (0 : Int)) == true : Bool) = true) (h21 : (0 : Int) ≤ Int.ofNat p ∧ Int.ofNat p < (↑un : Int)) (h22 : ((Int.ofNat p).toNat * nat_lit 1 : Nat) = p) (h23 : (decide (Int.ofNat i > (0 : Int)) == true : Bool) = true) (h24 : (getL U p : Option DT) = (.some (.v (.int .i64 w)))) (h26 : (decide (Int.ofNat i > (0 : Int)) == true : Bool) = true) (h27 : (decide (Int.ofNat i > (0 : Int)) : Bool) = true) (h28 : (decide (z ≤ w) : Bool) = false) (h29 : ((iI (wrapF IntKind.i64 (Int.ofNat i + (1 : Int)))) : AV) = (iI (Int.ofNat (i + 1)))) : Sg 0 0 (q15 V U un i ac) (p15s_end V U un i ac) := fun ho j =>
 oS hE [.run 2, (.ops [(3, (.d .len))] []), (.cond true), .run 5, (.ops [(4, (.d (.ld (.v (.int .i64 z))))), (5, (.c0 (iI (f)))), (3, (.d (.ix (i))))] []), .run 2, (.cond false), .run 2, (.ops [(7, (.d (.ld (.v (.int .i64 z))))), (11, (.rn (iI (Int.ofNat p)))), (13, (.d (.ld (.v (.int .i64 w))))), (6, (.d (.ix (i)))), (12, (.d (.ix (p)))), (15, (.pk true))] [(3, true), (4, true), (5, true), (6, true), (7, true), (8, true), (9, true), (10, true), (11, true), (12, true), (13, true), (14, true)]), (.cond false), .run 2, (.ops [(1, (.rn (iI (Int.ofNat (i + 1)))))] []), .run 1] [1, 4] (aP h0 <| aP h1 <| aP h2 <| aP h3 <| aP h4 <| aN <| aP h6 <| aP h7 <| aP h8 <| aP h9 <| aP h10 <| aP h1 <| aP h2 <| aP h13 <| aP h3 <| aP h15 <| aP h16 <| aP h17 <| aP h18 <| aP h19 <| aP h20 <| aP h21 <| aP h22 <| aP h23 <| aP h24 <| aP (rfl : (true : Bool) = true) <| aP h26 <| aP h27 <| aP h28 <| aP h29 <| aZ)
  ho
def p15o_end (j : Nat → Value) : St := ⟨[], [(.code .ret), (.inBlock 1), (.code (atC [1, 1, 0, 1, 0, 0, 1, 1] (bodyOf Tryz.f6))), (.inLoop (atC [1, 1, 0, 1, 0, 0] (bodyOf Tryz.f6))), (.inBlock 0), (.code (atC [1, 1, 1] (bodyOf Tryz.f6)))], mkT j [(2, (iI 11))] 70 0⟩
theorem p15o (hE : EnvOk E) (V : AccP) (U : List DT) (un p i : Nat) (z w f : Int) (ac : Bool) (h0 : (decide (Int.ofNat i < (↑un : Int)) : Bool) = true) (h1 : (0 : Int) ≤ Int.ofNat i ∧ Int.ofNat i < (↑un : Int)) (h2 : ((Int.ofNat i).toNat * nat_lit 1 : Nat) = i) (h3 : (getL U i : Option DT) = (.some (.v (.int .i64 z)))) (h4 : COut E 0 [] 39 [(iI (z))] (iI (f)) []) (h6 : (f != (0 : Int) : Bool) = false) (h7 : (decide (Int.ofNat i > (0 : Int)) == true : Bool) = true) (h8 : (decide (Int.ofNat i > (0 : Int)) == true : Bool) = true) (h9 : (decide (Int.ofNat i > (0 : Int)) == true : Bool) = true) (h10 : (decide (Int.ofNat i > (0 : Int)) == true : Bool) = true) (h13 : (decide (Int.ofNat i > (0 : Int)) == true : Bool) = true) (h15 : (decide (Int.ofNat i > (0 : Int)) == true : Bool) = true) (h16 : (decide (Int.ofNat i > (0 : Int)) == true : Bool) = true) (h17 : (decide (Int.ofNat i > (0 : Int)) == true : Bool) = true) (h18 : (decide (Int.ofNat i > (0 : Int)) == true : Bool) = true) (h19 : ((iI (wrapF IntKind.i64 (Int.ofNat i - (1 : Int)))) : AV) = (iI (Int.ofNat p))) (h20 : (decide (Int.ofNat i > (0 : Int)) == true : Bool) = true) (h21 : (0 : Int) ≤ Int.ofNat p ∧ Int.ofNat p < (↑un : Int)) (h22 : ((Int.ofNat p).toNat * nat_lit 1 : Nat) = p) (h23 : (decide (Int.ofNat i > (0 : Int)) == true : Bool) = true) (h24 : (getL U p : Option DT) = (.some (.v (.int .i64 w)))) (h26 : (decide (Int.ofNat i > (0 : Int)) == true : Bool) = true) (h27 : (decide (Int.ofNat i > (0 : Int)) : Bool) = true) (h28 : (decide (z ≤ w) : Bool) = true) : Sg 0 0 (q15 V U un i ac) (p15o_end) := fun ho j =>
 oS hE [.run 2, (.ops [(3, (.d .len))] []), (.cond true), .run 5, (.ops [(4, (.d (.ld (.v (.int .i64 z))))), (5, (.c0 (iI (f)))), (3, (.d (.ix (i))))] []), .run 2, (.cond false), .run 2, (.ops [(7, (.d (.ld (.v (.int .i64 z))))), (11, (.rn (iI (Int.ofNat p)))), (13, (.d (.ld (.v (.int .i64 w))))), (6, (.d (.ix (i)))), (12, (.d (.ix (p)))), (15, (.pk true))] [(3, true), (4, true), (5, true), (6, true), (7, true), (8, true), (9, true), (10, true), (11, true), (12, true), (13, true), (14, true)]), (.cond true), .run 2] [2] (s' := fun j => ⟨[(zBk (zAc V ac U un) 22 26)], [(.code .ret), (.inBlock 1), (.code (atC [1, 1, 0, 1, 0, 0, 1, 1] (bodyOf Tryz.f6))), (.inLoop (atC [1, 1, 0, 1, 0, 0] (bodyOf Tryz.f6))), (.inBlock 0), (.code (atC [1, 1, 1] (bodyOf Tryz.f6)))], mkT j [(2, (iI 11))] 70 0⟩) (aP h0 <| aP h1 <| aP h2 <| aP h3 <| aP h4 <| aN <| aP h6 <| aP h7 <| aP h8 <| aP h9 <| aP h10 <| aP h1 <| aP h2 <| aP h13 <| aP h3 <| aP h15 <| aP h16 <| aP h17 <| aP h18 <| aP h19 <| aP h20 <| aP h21 <| aP h22 <| aP h23 <| aP h24 <| aP (rfl : (true : Bool) = true) <| aP h26 <| aP h27 <| aP h28 <| aZ)
  fun j => gZ [] (ho j)
def p15n_end (f : Int) (j : Nat → Value) : St := ⟨[], [(.code .ret), (.code (atC [1, 1, 0, 1, 0, 0, 1, 0, 0, 1] (bodyOf Tryz.f6))), (.inBlock 1), (.code (atC [1, 1, 0, 1, 0, 0, 1, 1] (bodyOf Tryz.f6))), (.inLoop (atC [1, 1, 0, 1, 0, 0] (bodyOf Tryz.f6))), (.inBlock 0), (.code (atC [1, 1, 1] (bodyOf Tryz.f6)))], mkT j [(2, (iI (f)))] 70 0⟩
theorem p15n (hE : EnvOk E) (V : AccP) (U : List DT) (un i : Nat) (z f : Int) (ac : Bool) (h0 : (decide (Int.ofNat i < (↑un : Int)) : Bool) = true) (h1 : (0 : Int) ≤ Int.ofNat i ∧ Int.ofNat i < (↑un : Int)) (h2 : ((Int.ofNat i).toNat * nat_lit 1 : Nat) = i) (h3 : (getL U i : Option DT) = (.some (.v (.int .i64 z)))) (h4 : COut E 0 [] 39 [(iI (z))] (iI (f)) []) (h6 : (f != (0 : Int) : Bool) = true) : Sg 0 0 (q15 V U un i ac) (p15n_end f) := fun ho j =>
 oS hE [.run 2, (.ops [(3, (.d .len))] []), (.cond true), .run 5, (.ops [(4, (.d (.ld (.v (.int .i64 z))))), (5, (.c0 (iI (f)))), (3, (.d (.ix (i))))] []), .run 2, (.cond true), .run 2] [2] (s' := fun j => ⟨[(zBk (zAc V ac U un) 22 26)], [(.code .ret), (.code (atC [1, 1, 0, 1, 0, 0, 1, 0, 0, 1] (bodyOf Tryz.f6))), (.inBlock 1), (.code (atC [1, 1, 0, 1, 0, 0, 1, 1] (bodyOf Tryz.f6))), (.inLoop (atC [1, 1, 0, 1, 0, 0] (bodyOf Tryz.f6))), (.inBlock 0), (.code (atC [1, 1, 1] (bodyOf Tryz.f6)))], mkT j [(2, (iI (f)))] 70 0⟩) (aP h0 <| aP h1 <| aP h2 <| aP h3 <| aP h4 <| aN <| aP h6 <| aZ)
  fun j => gZ [] (ho j)
def p15x_end (j : Nat → Value) : St := ⟨[], [(.code .ret)], mkT j [(2, (iI 0))] 70 0⟩
theorem p15x (hE : EnvOk E) (V : AccP) (U : List DT) (un i : Nat) (ac : Bool) (h0 : (decide (Int.ofNat i < (↑un : Int)) : Bool) = false) : Sg 0 0 (q15 V U un i ac) (p15x_end) := fun ho j =>
 oS hE [.run 2, (.ops [(3, (.d .len))] []), (.cond false), .run 3] [2] (s' := fun j => ⟨[(zBk (zAc V ac U un) 22 26)], [(.code .ret)], mkT j [(2, (iI 0))] 70 0⟩) (aP h0 <| aZ)
  fun j => gZ [] (ho j)
open Extern.Stop
abbrev accC (V : AccP) (U : List DT) (un : Nat) (ac : Bool) : List AC := (accN V [.v (.bool ac), .dp (.s U un 1)])
abbrev accA (V : AccP) (us : List Int) (n : Nat) (c : Bool) : AV := .e (.agg (accC V (iD us) n c))
theorem K80 (hE : EnvOk E) (V : AccP) (us : List Int) (n : Nat) (c : Bool) (hn : us.length = n) (hm : n ≤ 1000) : COut E 0 [] 51 [(accA V us n c)] (accA V us n c) [] := by
 obtain ⟨a, hc⟩ : ∃ a, COut E 0 [] 51 [(accA V us n c)] (.e (.agg (accN V [.v (.bool c), .slc 1 0 n 1 n a]))) [bK (accN V [.v (.bool c), .slc 1 0 n 1 n a]) 22 26, .some ⟨iC us, n, 3, a, .cells⟩] := by
  by_cases h0 : n = 0
  ·have e : us = [] := List.eq_nil_of_length_eq_zero (by omega)
   subst h0 e
   exact ⟨true, cOut_start Tryz.func51 rfl (p80 hE (V) ([]) (0) (c) (true) ([]) (.inl ⟨rfl, rfl, rfl, _, _, rfl⟩) rfl (fun _ h => by cases h) (fun j => outK_ret (ends_ret (by kernel_rfl))) fun _ => undef)⟩
  ·have h1 : (iC us).all AC.isOne = true := by simp [List.all_map, DT.ac, AC.isOne]
   exact ⟨false, cOut_start Tryz.func51 rfl (p80 hE (V) (iD us) (n) (c) (false) (iC us) (.inr (.inl ⟨rfl, by omega, by simp [small]; omega, h1, _, rfl, rfl, by simp [hn]⟩)) (Nat.mul_one _) (flat_iC us) (fun j => outK_ret (ends_ret (by kernel_rfl))) fun _ => undef)⟩
 exact cOut_clear (cOut_freeze 1 hc rfl (Nat.zero_le _) (ds := iD us) ⟨.inl rfl, .inl rfl, .inl rfl, .inl rfl, .inl rfl, .inl rfl, .inl rfl, .inl rfl, .inl rfl, .inl rfl, .inl rfl, .inl rfl, .inl rfl, .inl rfl, .inl rfl, .inl rfl, .inl rfl, .inl rfl, .inl rfl, .inl rfl, .inl rfl, .inr ⟨0, n, 1, n, a, iD us, rfl, rfl, by rw [takeL_eq, dropL_eq, List.drop_zero, if_pos (by simp [hn]), List.take_of_length_le (by simp [hn])]⟩, trivial⟩) rfl
theorem K12 (hE : EnvOk E) (V : AccP) (us : List Int) (n : Nat) (c : Bool) (hn : us.length = n) (hm : n ≤ 1000) : COut E 0 [] 11 [(accA V us n c)] (accA V us n c) [] :=
 cOut_clear (cOut_start Tryz.func11 rfl (p12 hE (V) (iD us) (n) (c) (K80 hE V us n c hn hm) (fun j => outK_ret (ends_ret (by kernel_rfl))) fun _ => undef)) rfl
theorem K90 (hE : EnvOk E) (V : AccP) (us : List Int) (n : Nat) (c : Bool) : COut E 0 [] 14 [(accA V us n c)] (accA V us n c) [] :=
 cOut_clear (cOut_start Tryz.func14 rfl (p90 hE (V) (iD us) (n) (c) (fun j => outK_ret (ends_ret (by kernel_rfl))) fun _ => undef)) rfl
theorem K135 (hE : EnvOk E) (us : List Int) (n : Nat) (hn : us.length = n) (hm : n ≤ 1000) : COut E 0 [] 95 [.e (.one (.dp (.s (iD us) n 1)))] (.e (.one (.dp (.s (iD us) n 1)))) [] := by
 by_cases h0 : n = 0
 ·have e : us = [] := List.eq_nil_of_length_eq_zero (by omega)
  subst h0 e
  exact cloneZ hE
 ·have hc := K135n hE us n hn (by omega) (by omega)
  exact cOut_clear (cOut_freeze 0 hc rfl (Nat.zero_le _) (ds := iD us) (.inr ⟨0, n, 1, n, false, iD us, rfl, rfl, by rw [takeL_eq, dropL_eq, List.drop_zero, if_pos (by simp [hn]), List.take_of_length_le (by simp [hn])]⟩)) rfl
theorem K79 (hE : EnvOk E) (V : AccP) (us : List Int) (n : Nat) (c : Bool) (hn : us.length = n) (hm : n ≤ 1000) : COut E 0 [] 58 [(accA V us n c)] (accA V us n c) [] :=
 cOut_clear (cOut_start Tryz.func58 rfl (p79 hE (V) (iD us) (n) (c) (K135 hE us n hn hm) (fun j => outK_ret (ends_ret (by kernel_rfl))) fun _ => undef)) rfl
def newE (V : AccP) : Bool := sameK [V.m0, V.m1, V.m2, V.m3, V.m4, V.m5, V.m6, V.m7] [0, 0, 0, 0, 0, 0, 0, 0]
theorem eqNew (V : AccP) : EqOk E 23 (zB8 V.m0 V.m1 V.m2 V.m3 V.m4 V.m5 V.m6 V.m7) (zB8 0 0 0 0 0 0 0 0) (newE V) := eqK [V.m0, V.m1, V.m2, V.m3, V.m4, V.m5, V.m6, V.m7] [0, 0, 0, 0, 0, 0, 0, 0] rfl rfl
def chkA (V : AccP) (us : List Int) (n : Nat) (c : Bool) : Int := firstI [rngI (-1000000000000) 1000000000000 V.b, rngI 0 1000000000000 V.d, rngI 0 100 V.s, rngI 0 100000000 V.e, if (!c && !newE V) = true then 1 else 0, if 256 < n then 5 else riseE (-9223372036854775808) us]
theorem K20 (hE : EnvOk E) (V : AccP) (us : List Int) (n : Nat) (c : Bool) (hn : us.length = n) (hm : n ≤ 1000000) : COut E 0 [] 54 [(accA V us n c)] (iI (chkA V us n c)) [] := by
 cases c with
 | true => exact cOut_clear (cOut_start Tryz.func54 rfl (p20c hE (V) (iD us) (n) (if 256 < n then (-9223372036854775808) else riseB (-9223372036854775808) us) (rngI (-1000000000000) 1000000000000 V.b) (rngI 0 1000000000000 V.d) (rngI 0 100 V.s) (rngI 0 100000000 V.e) (0) (if 256 < n then 5 else riseE (-9223372036854775808) us) (chkA V us n true) (true) (K77 hE _ _ _) (K77 hE _ _ _) (K77 hE _ _ _) (K77 hE _ _ _) rfl rfl rfl rfl rfl (K78 hE false 1) (K86 hE V (iD us) n true us n hn (by omega) (-9223372036854775808)) (lend2 4 hE 53 [rngI (-1000000000000) 1000000000000 V.b, rngI 0 1000000000000 V.d, rngI 0 100 V.s, rngI 0 100000000 V.e, if (!true && !newE V) = true then 1 else 0, if 256 < n then 5 else riseE (-9223372036854775808) us] _ 36 true (K76 hE _ (by simp)) _ 3 rfl) (fun j => outK_ret (ends_ret (by kernel_rfl))) fun _ => undef)) rfl
 | false => exact cOut_clear (cOut_start Tryz.func54 rfl (p20n hE (V) (iD us) (n) (if 256 < n then (-9223372036854775808) else riseB (-9223372036854775808) us) (rngI (-1000000000000) 1000000000000 V.b) (rngI 0 1000000000000 V.d) (rngI 0 100 V.s) (rngI 0 100000000 V.e) (if (!newE V) = true then 1 else 0) (if 256 < n then 5 else riseE (-9223372036854775808) us) (chkA V us n false) (false) (!newE V) (K77 hE _ _ _) (K77 hE _ _ _) (K77 hE _ _ _) (K77 hE _ _ _) rfl rfl rfl rfl (by rw [Bool.not_not]; exact eqNew V) rfl (K78 hE (!newE V) 1) (K86 hE V (iD us) n false us n hn (by omega) (-9223372036854775808)) (lend2 4 hE 53 [rngI (-1000000000000) 1000000000000 V.b, rngI 0 1000000000000 V.d, rngI 0 100 V.s, rngI 0 100000000 V.e, if (!false && !newE V) = true then 1 else 0, if 256 < n then 5 else riseE (-9223372036854775808) us] _ 36 true (K76 hE _ (by simp)) _ 3 rfl) (fun j => outK_ret (ends_ret (by kernel_rfl))) fun _ => undef)) rfl
theorem firstI_last (l : List Int) (g : Int) : firstI (l ++ [g]) = if firstI l = 0 then g else firstI l := by
 induction l with
 | nil => show (if g = 0 then 0 else g) = _; by_cases h : g = 0 <;> simp [firstI, h]
 | cons x l ih =>
  show (if x = 0 then firstI (l ++ [g]) else x) = if (if x = 0 then firstI l else x) = 0 then g else (if x = 0 then firstI l else x)
  by_cases h : x = 0
  ·rw [if_pos h, if_pos h, ih]
  ·rw [if_neg h, if_neg h, if_neg h]
theorem num_pos {z : Int} (h : num z = 0) : 1 ≤ z := by
 unfold num rngI at h
 split at h
 ·simp at h
 ·omega
theorem rise1_min {z : Int} : rise1 (-9223372036854775808) z = num z := by
 unfold rise1
 show (if num z = 0 then (if (if z ≤ (-9223372036854775808) then (11 : Int) else 0) = 0 then 0 else if z ≤ (-9223372036854775808) then 11 else 0) else num z) = num z
 by_cases h : num z = 0
 ·have := num_pos h
  rw [if_pos h, if_neg (show ¬ z ≤ (-9223372036854775808) by omega), if_pos rfl, h]
 ·rw [if_neg h]
theorem l15 (hE : EnvOk E) (V : AccP) (us : List Int) (n : Nat) (c : Bool) (hn : us.length = n) (hm : n ≤ 1000000) : ∀ m i b, m + i = n → (i = 0 → b = (-9223372036854775808)) → (0 < i → us[i - 1]? = some b) → ∀ j, OutK E 0 0 (q15 (V) (iD us) (n) (i) (c) j) (Go.Ev.Ends E Tryz.f6 (iI (riseE b (us.drop i))) [])
 | 0, i, b, hk, _, _, j => by
  rw [List.drop_eq_nil_of_le (by omega)]
  exact p15x hE (V) (iD us) (n) (i) (c) (decide_eq_false (by (try simp only [Int.ofNat_eq_natCast]); omega)) (fun j => outK_ret (ends_ret (by kernel_rfl))) j
 | m + 1, i, b, hk, h0, h1, j => by
  have hlt : i < us.length := by omega
  have hx : us[i]? = some us[i] := List.getElem?_eq_getElem hlt
  rw [List.drop_eq_getElem_cons hlt]
  generalize us[i] = z at hx
  have hu : riseE b (z :: us.drop (i + 1)) = if rise1 b z = 0 then riseE z (us.drop (i + 1)) else rise1 b z := rfl
  rw [hu]
  have ih := l15 hE V us n c hn hm m (i + 1) z (by omega) (fun h => by omega) (fun _ => hx)
  by_cases hz : num z = 0
  ·by_cases c0 : i = 0
   ·have eb := h0 c0
    have e1 : rise1 b z = 0 := by rw [eb, rise1_min]; exact hz
    rw [if_pos e1]
    exact p15z hE (V) (iD us) (n) (i) (z) (num z) (c) (decide_eq_true (by (try simp only [Int.ofNat_eq_natCast]); omega)) ⟨by (try simp only [Int.ofNat_eq_natCast]); omega, by (try simp only [Int.ofNat_eq_natCast]); omega⟩ (Nat.mul_one _) (getI hx) (K84 hE z) (by rw [hz]; rfl) (by rw [decide_eq_false (by (try simp only [Int.ofNat_eq_natCast]); omega)]; rfl) (by rw [decide_eq_false (by (try simp only [Int.ofNat_eq_natCast]); omega)]; rfl) (by rw [decide_eq_false (by (try simp only [Int.ofNat_eq_natCast]); omega)]; rfl) (by rw [decide_eq_false (by (try simp only [Int.ofNat_eq_natCast]); omega)]; rfl) (by rw [decide_eq_false (by (try simp only [Int.ofNat_eq_natCast]); omega)]; rfl) (by rw [decide_eq_false (by (try simp only [Int.ofNat_eq_natCast]); omega)]; rfl) (by rw [decide_eq_false (by (try simp only [Int.ofNat_eq_natCast]); omega)]; rfl) (by rw [decide_eq_false (by (try simp only [Int.ofNat_eq_natCast]); omega)]; rfl) (by rw [decide_eq_false (by (try simp only [Int.ofNat_eq_natCast]); omega)]; rfl) (by rw [decide_eq_false (by (try simp only [Int.ofNat_eq_natCast]); omega)]; rfl) (by rw [decide_eq_false (by (try simp only [Int.ofNat_eq_natCast]); omega)]; rfl) (by rw [decide_eq_false (by (try simp only [Int.ofNat_eq_natCast]); omega)]; rfl) (decide_eq_false (by (try simp only [Int.ofNat_eq_natCast]); omega)) (iIe (by (try simp only [Int.ofNat_eq_natCast]); rw [wrap_id (by omega) (by omega)]; try omega)) ih j
   ·have hp := h1 (by omega)
    by_cases c1 : z ≤ b
    ·have e1 : rise1 b z = 11 := by
      unfold rise1
      show (if num z = 0 then (if (if z ≤ b then (11 : Int) else 0) = 0 then 0 else if z ≤ b then 11 else 0) else num z) = 11
      rw [if_pos hz, if_pos c1]; rfl
     rw [e1, if_neg (by decide)]
     exact p15o hE (V) (iD us) (n) (i - 1) (i) (z) (b) (num z) (c) (decide_eq_true (by (try simp only [Int.ofNat_eq_natCast]); omega)) ⟨by (try simp only [Int.ofNat_eq_natCast]); omega, by (try simp only [Int.ofNat_eq_natCast]); omega⟩ (Nat.mul_one _) (getI hx) (K84 hE z) (by rw [hz]; rfl) (by rw [decide_eq_true (by (try simp only [Int.ofNat_eq_natCast]); omega)]; rfl) (by rw [decide_eq_true (by (try simp only [Int.ofNat_eq_natCast]); omega)]; rfl) (by rw [decide_eq_true (by (try simp only [Int.ofNat_eq_natCast]); omega)]; rfl) (by rw [decide_eq_true (by (try simp only [Int.ofNat_eq_natCast]); omega)]; rfl) (by rw [decide_eq_true (by (try simp only [Int.ofNat_eq_natCast]); omega)]; rfl) (by rw [decide_eq_true (by (try simp only [Int.ofNat_eq_natCast]); omega)]; rfl) (by rw [decide_eq_true (by (try simp only [Int.ofNat_eq_natCast]); omega)]; rfl) (by rw [decide_eq_true (by (try simp only [Int.ofNat_eq_natCast]); omega)]; rfl) (by rw [decide_eq_true (by (try simp only [Int.ofNat_eq_natCast]); omega)]; rfl) (iIe (by (try simp only [Int.ofNat_eq_natCast]); rw [wrap_id (by omega) (by omega)]; try omega)) (by rw [decide_eq_true (by (try simp only [Int.ofNat_eq_natCast]); omega)]; rfl) ⟨by (try simp only [Int.ofNat_eq_natCast]); omega, by (try simp only [Int.ofNat_eq_natCast]); omega⟩ (Nat.mul_one _) (by rw [decide_eq_true (by (try simp only [Int.ofNat_eq_natCast]); omega)]; rfl) (getI hp) (by rw [decide_eq_true (by (try simp only [Int.ofNat_eq_natCast]); omega)]; rfl) (decide_eq_true (by (try simp only [Int.ofNat_eq_natCast]); omega)) (decide_eq_true (by (try simp only [Int.ofNat_eq_natCast]); omega)) (fun j => outK_ret (ends_ret (by kernel_rfl))) j
    ·have e1 : rise1 b z = 0 := by
      unfold rise1
      show (if num z = 0 then (if (if z ≤ b then (11 : Int) else 0) = 0 then 0 else if z ≤ b then 11 else 0) else num z) = 0
      rw [if_pos hz, if_neg c1]; rfl
     rw [if_pos e1]
     exact p15s hE (V) (iD us) (n) (i - 1) (i) (z) (b) (num z) (c) (decide_eq_true (by (try simp only [Int.ofNat_eq_natCast]); omega)) ⟨by (try simp only [Int.ofNat_eq_natCast]); omega, by (try simp only [Int.ofNat_eq_natCast]); omega⟩ (Nat.mul_one _) (getI hx) (K84 hE z) (by rw [hz]; rfl) (by rw [decide_eq_true (by (try simp only [Int.ofNat_eq_natCast]); omega)]; rfl) (by rw [decide_eq_true (by (try simp only [Int.ofNat_eq_natCast]); omega)]; rfl) (by rw [decide_eq_true (by (try simp only [Int.ofNat_eq_natCast]); omega)]; rfl) (by rw [decide_eq_true (by (try simp only [Int.ofNat_eq_natCast]); omega)]; rfl) (by rw [decide_eq_true (by (try simp only [Int.ofNat_eq_natCast]); omega)]; rfl) (by rw [decide_eq_true (by (try simp only [Int.ofNat_eq_natCast]); omega)]; rfl) (by rw [decide_eq_true (by (try simp only [Int.ofNat_eq_natCast]); omega)]; rfl) (by rw [decide_eq_true (by (try simp only [Int.ofNat_eq_natCast]); omega)]; rfl) (by rw [decide_eq_true (by (try simp only [Int.ofNat_eq_natCast]); omega)]; rfl) (iIe (by (try simp only [Int.ofNat_eq_natCast]); rw [wrap_id (by omega) (by omega)]; try omega)) (by rw [decide_eq_true (by (try simp only [Int.ofNat_eq_natCast]); omega)]; rfl) ⟨by (try simp only [Int.ofNat_eq_natCast]); omega, by (try simp only [Int.ofNat_eq_natCast]); omega⟩ (Nat.mul_one _) (by rw [decide_eq_true (by (try simp only [Int.ofNat_eq_natCast]); omega)]; rfl) (getI hp) (by rw [decide_eq_true (by (try simp only [Int.ofNat_eq_natCast]); omega)]; rfl) (decide_eq_true (by (try simp only [Int.ofNat_eq_natCast]); omega)) (decide_eq_false (by (try simp only [Int.ofNat_eq_natCast]); omega)) (iIe (by (try simp only [Int.ofNat_eq_natCast]); rw [wrap_id (by omega) (by omega)]; try omega)) ih j
  ·have e1 : rise1 b z = num z := by
    unfold rise1
    show (if num z = 0 then _ else num z) = num z
    rw [if_neg hz]
   rw [e1, if_neg hz]
   exact p15n hE (V) (iD us) (n) (i) (z) (num z) (c) (decide_eq_true (by (try simp only [Int.ofNat_eq_natCast]); omega)) ⟨by (try simp only [Int.ofNat_eq_natCast]); omega, by (try simp only [Int.ofNat_eq_natCast]); omega⟩ (Nat.mul_one _) (getI hx) (K84 hE z) (bne_iff_ne.2 hz) (fun j => outK_ret (ends_ret (by kernel_rfl))) j
theorem K15 (hE : EnvOk E) (V : AccP) (us : List Int) (n : Nat) (c : Bool) (hn : us.length = n) (hm : n ≤ 1000000) : COut E 0 [] 6 [(accA V us n c)] (iI (chkA V us n c)) [] := by
 have hl := l15 hE V us n c hn hm n 0 (-9223372036854775808) rfl (fun _ => rfl) (fun h => by omega)
 have hc : chkA V us n c = if firstI [rngI (-1000000000000) 1000000000000 V.b, rngI 0 1000000000000 V.d, rngI 0 100 V.s, rngI 0 100000000 V.e, if (!c && !newE V) = true then 1 else 0] = 0 then (if 256 < n then 5 else riseE (-9223372036854775808) us) else firstI [rngI (-1000000000000) 1000000000000 V.b, rngI 0 1000000000000 V.d, rngI 0 100 V.s, rngI 0 100000000 V.e, if (!c && !newE V) = true then 1 else 0] := firstI_last [rngI (-1000000000000) 1000000000000 V.b, rngI 0 1000000000000 V.d, rngI 0 100 V.s, rngI 0 100000000 V.e, if (!c && !newE V) = true then 1 else 0] _
 have h2 : firstI ([rngI (-1000000000000) 1000000000000 V.b, rngI 0 1000000000000 V.d, rngI 0 100 V.s, rngI 0 100000000 V.e, if (!c && !newE V) = true then 1 else 0] ++ [if decide ((n : Int) > 256) = true then 5 else 0]) = if firstI [rngI (-1000000000000) 1000000000000 V.b, rngI 0 1000000000000 V.d, rngI 0 100 V.s, rngI 0 100000000 V.e, if (!c && !newE V) = true then 1 else 0] = 0 then (if decide ((n : Int) > 256) = true then 5 else 0) else firstI [rngI (-1000000000000) 1000000000000 V.b, rngI 0 1000000000000 V.d, rngI 0 100 V.s, rngI 0 100000000 V.e, if (!c && !newE V) = true then 1 else 0] := firstI_last [rngI (-1000000000000) 1000000000000 V.b, rngI 0 1000000000000 V.d, rngI 0 100 V.s, rngI 0 100000000 V.e, if (!c && !newE V) = true then 1 else 0] _
 cases c with
 | true =>
  by_cases hz : firstI ([rngI (-1000000000000) 1000000000000 V.b, rngI 0 1000000000000 V.d, rngI 0 100 V.s, rngI 0 100000000 V.e, if (!true && !newE V) = true then 1 else 0] ++ [if decide ((n : Int) > 256) = true then 5 else 0]) = 0
  ·have e0 : firstI [rngI (-1000000000000) 1000000000000 V.b, rngI 0 1000000000000 V.d, rngI 0 100 V.s, rngI 0 100000000 V.e, if (!true && !newE V) = true then 1 else 0] = 0 := by
    by_cases q : firstI [rngI (-1000000000000) 1000000000000 V.b, rngI 0 1000000000000 V.d, rngI 0 100 V.s, rngI 0 100000000 V.e, if (!true && !newE V) = true then 1 else 0] = 0
    ·exact q
    ·rw [h2, if_neg q] at hz; exact hz
   rw [if_pos e0] at hc
   have hw : ¬ 256 < n := fun q => by
    rw [h2, if_pos e0, if_pos (decide_eq_true (show (n : Int) > 256 by omega))] at hz
    simp at hz
   rw [if_neg hw] at hc
   rw [hc]
   exact cOut_clear (cOut_start Tryz.func6 rfl (p15ac hE (V) (iD us) (n) (rngI (-1000000000000) 1000000000000 V.b) (rngI 0 1000000000000 V.d) (rngI 0 100 V.s) (rngI 0 100000000 V.e) (0) (if decide ((n : Int) > 256) = true then 5 else 0) (firstI ([rngI (-1000000000000) 1000000000000 V.b, rngI 0 1000000000000 V.d, rngI 0 100 V.s, rngI 0 100000000 V.e, if (!true && !newE V) = true then 1 else 0] ++ [if decide ((n : Int) > 256) = true then 5 else 0])) (true) (K17 hE _ _ _) (K17 hE _ _ _) (K17 hE _ _ _) (K17 hE _ _ _) rfl rfl rfl rfl rfl (K83 hE false 1) (K83 hE _ 5) (lend2 2 hE 36 [rngI (-1000000000000) 1000000000000 V.b, rngI 0 1000000000000 V.d, rngI 0 100 V.s, rngI 0 100000000 V.e, if (!true && !newE V) = true then 1 else 0, if decide ((n : Int) > 256) = true then 5 else 0] _ 3 true (K82 hE _ (by simp)) _ 1 rfl) (by rw [hz]; rfl) hl fun _ => undef)) rfl
  ·have e1 : chkA V us n true = firstI ([rngI (-1000000000000) 1000000000000 V.b, rngI 0 1000000000000 V.d, rngI 0 100 V.s, rngI 0 100000000 V.e, if (!true && !newE V) = true then 1 else 0] ++ [if decide ((n : Int) > 256) = true then 5 else 0]) := by
    rw [hc, h2]
    by_cases q : firstI [rngI (-1000000000000) 1000000000000 V.b, rngI 0 1000000000000 V.d, rngI 0 100 V.s, rngI 0 100000000 V.e, if (!true && !newE V) = true then 1 else 0] = 0
    ·rw [if_pos q, if_pos q]
     by_cases w : 256 < n
     ·rw [if_pos w, if_pos (decide_eq_true (show (n : Int) > 256 by omega))]
     ·rw [h2, if_pos q, if_neg (by rw [decide_eq_false (show ¬ (n : Int) > 256 by omega)]; simp)] at hz
      exact absurd rfl hz
    ·rw [if_neg q, if_neg q]
   rw [e1]
   exact cOut_clear (cOut_start Tryz.func6 rfl (p15ec hE (V) (iD us) (n) (rngI (-1000000000000) 1000000000000 V.b) (rngI 0 1000000000000 V.d) (rngI 0 100 V.s) (rngI 0 100000000 V.e) (0) (if decide ((n : Int) > 256) = true then 5 else 0) (firstI ([rngI (-1000000000000) 1000000000000 V.b, rngI 0 1000000000000 V.d, rngI 0 100 V.s, rngI 0 100000000 V.e, if (!true && !newE V) = true then 1 else 0] ++ [if decide ((n : Int) > 256) = true then 5 else 0])) (true) (K17 hE _ _ _) (K17 hE _ _ _) (K17 hE _ _ _) (K17 hE _ _ _) rfl rfl rfl rfl rfl (K83 hE false 1) (K83 hE _ 5) (lend2 2 hE 36 [rngI (-1000000000000) 1000000000000 V.b, rngI 0 1000000000000 V.d, rngI 0 100 V.s, rngI 0 100000000 V.e, if (!true && !newE V) = true then 1 else 0, if decide ((n : Int) > 256) = true then 5 else 0] _ 3 true (K82 hE _ (by simp)) _ 1 rfl) (bne_iff_ne.2 hz) (fun j => outK_ret (ends_ret (by kernel_rfl))) fun _ => undef)) rfl
 | false =>
  by_cases hz : firstI ([rngI (-1000000000000) 1000000000000 V.b, rngI 0 1000000000000 V.d, rngI 0 100 V.s, rngI 0 100000000 V.e, if (!false && !newE V) = true then 1 else 0] ++ [if decide ((n : Int) > 256) = true then 5 else 0]) = 0
  ·have e0 : firstI [rngI (-1000000000000) 1000000000000 V.b, rngI 0 1000000000000 V.d, rngI 0 100 V.s, rngI 0 100000000 V.e, if (!false && !newE V) = true then 1 else 0] = 0 := by
    by_cases q : firstI [rngI (-1000000000000) 1000000000000 V.b, rngI 0 1000000000000 V.d, rngI 0 100 V.s, rngI 0 100000000 V.e, if (!false && !newE V) = true then 1 else 0] = 0
    ·exact q
    ·rw [h2, if_neg q] at hz; exact hz
   rw [if_pos e0] at hc
   have hw : ¬ 256 < n := fun q => by
    rw [h2, if_pos e0, if_pos (decide_eq_true (show (n : Int) > 256 by omega))] at hz
    simp at hz
   rw [if_neg hw] at hc
   rw [hc]
   exact cOut_clear (cOut_start Tryz.func6 rfl (p15an hE (V) (iD us) (n) (rngI (-1000000000000) 1000000000000 V.b) (rngI 0 1000000000000 V.d) (rngI 0 100 V.s) (rngI 0 100000000 V.e) (if (!newE V) = true then 1 else 0) (if decide ((n : Int) > 256) = true then 5 else 0) (firstI ([rngI (-1000000000000) 1000000000000 V.b, rngI 0 1000000000000 V.d, rngI 0 100 V.s, rngI 0 100000000 V.e, if (!false && !newE V) = true then 1 else 0] ++ [if decide ((n : Int) > 256) = true then 5 else 0])) (false) (!newE V) (K17 hE _ _ _) (K17 hE _ _ _) (K17 hE _ _ _) (K17 hE _ _ _) rfl rfl rfl rfl (by rw [Bool.not_not]; exact eqNew V) rfl (K83 hE (!newE V) 1) (K83 hE _ 5) (lend2 2 hE 36 [rngI (-1000000000000) 1000000000000 V.b, rngI 0 1000000000000 V.d, rngI 0 100 V.s, rngI 0 100000000 V.e, if (!false && !newE V) = true then 1 else 0, if decide ((n : Int) > 256) = true then 5 else 0] _ 3 true (K82 hE _ (by simp)) _ 1 rfl) (by rw [hz]; rfl) hl fun _ => undef)) rfl
  ·have e1 : chkA V us n false = firstI ([rngI (-1000000000000) 1000000000000 V.b, rngI 0 1000000000000 V.d, rngI 0 100 V.s, rngI 0 100000000 V.e, if (!false && !newE V) = true then 1 else 0] ++ [if decide ((n : Int) > 256) = true then 5 else 0]) := by
    rw [hc, h2]
    by_cases q : firstI [rngI (-1000000000000) 1000000000000 V.b, rngI 0 1000000000000 V.d, rngI 0 100 V.s, rngI 0 100000000 V.e, if (!false && !newE V) = true then 1 else 0] = 0
    ·rw [if_pos q, if_pos q]
     by_cases w : 256 < n
     ·rw [if_pos w, if_pos (decide_eq_true (show (n : Int) > 256 by omega))]
     ·rw [h2, if_pos q, if_neg (by rw [decide_eq_false (show ¬ (n : Int) > 256 by omega)]; simp)] at hz
      exact absurd rfl hz
    ·rw [if_neg q, if_neg q]
   rw [e1]
   exact cOut_clear (cOut_start Tryz.func6 rfl (p15en hE (V) (iD us) (n) (rngI (-1000000000000) 1000000000000 V.b) (rngI 0 1000000000000 V.d) (rngI 0 100 V.s) (rngI 0 100000000 V.e) (if (!newE V) = true then 1 else 0) (if decide ((n : Int) > 256) = true then 5 else 0) (firstI ([rngI (-1000000000000) 1000000000000 V.b, rngI 0 1000000000000 V.d, rngI 0 100 V.s, rngI 0 100000000 V.e, if (!false && !newE V) = true then 1 else 0] ++ [if decide ((n : Int) > 256) = true then 5 else 0])) (false) (!newE V) (K17 hE _ _ _) (K17 hE _ _ _) (K17 hE _ _ _) (K17 hE _ _ _) rfl rfl rfl rfl (by rw [Bool.not_not]; exact eqNew V) rfl (K83 hE (!newE V) 1) (K83 hE _ 5) (lend2 2 hE 36 [rngI (-1000000000000) 1000000000000 V.b, rngI 0 1000000000000 V.d, rngI 0 100 V.s, rngI 0 100000000 V.e, if (!false && !newE V) = true then 1 else 0, if decide ((n : Int) > 256) = true then 5 else 0] _ 3 true (K82 hE _ (by simp)) _ 1 rfl) (bne_iff_ne.2 hz) (fun j => outK_ret (ends_ret (by kernel_rfl))) fun _ => undef)) rfl
end
end Go.Proofs.YtneaafigbnjceaaGreatDoor.Bk
end

/-! SyMap -/
section
open Go Go.Ev
namespace Go.Ev
def kvI (ks : List Int) : List (Value × Value) := ks.map fun k => (Value.int .i64 k, Value.bool true)
def addK (ks : List Int) (x : Int) : List Int := if x ∈ ks then ks else ks ++ [x]
theorem findKV_out (x : Int) : ∀ (ks : List Int) (i : Nat), x ∉ ks → findKV (.int .i64) (.int .i64 x) (kvI ks) i = some none
 | [], _, _ => rfl
 | k :: ks, i, h => by
  have h1 : ¬ x = k := fun e => h (e ▸ List.mem_cons_self)
  have h2 : ¬ k = x := fun e => h1 e.symm
  have e : sameK (.int .i64) (.int .i64 x) (.int .i64 k) = some false := by simp [sameK, h1]
  have ih := findKV_out x ks (i + 1) fun hm => h (List.mem_cons_of_mem _ hm)
  show (match sameK (.int .i64) (.int .i64 x) (.int .i64 k) with | some true => some (some (i, Value.bool true)) | some false => findKV (.int .i64) (.int .i64 x) (kvI ks) (i + 1) | none => none) = _
  rw [e]; exact ih
theorem findKV_in (x : Int) : ∀ (ks : List Int) (i : Nat), x ∈ ks → ∃ j, ks[j]? = some x ∧ findKV (.int .i64) (.int .i64 x) (kvI ks) i = some (some (i + j, .bool true))
 | [], _, h => by simp at h
 | k :: ks, i, h => by
  by_cases h1 : x = k
  ·subst h1
   refine ⟨0, rfl, ?_⟩
   have e : sameK (.int .i64) (.int .i64 x) (.int .i64 x) = some true := by simp [sameK]
   show (match sameK (.int .i64) (.int .i64 x) (.int .i64 x) with | some true => some (some (i, Value.bool true)) | some false => findKV (.int .i64) (.int .i64 x) (kvI ks) (i + 1) | none => none) = _
   rw [e]; rfl
  ·have hm : x ∈ ks := (List.mem_cons.1 h).resolve_left h1
   obtain ⟨j, hj, ih⟩ := findKV_in x ks (i + 1) hm
   refine ⟨j + 1, by simpa using hj, ?_⟩
   have e : sameK (.int .i64) (.int .i64 x) (.int .i64 k) = some false := by simp [sameK, h1]
   show (match sameK (.int .i64) (.int .i64 x) (.int .i64 k) with | some true => some (some (i, Value.bool true)) | some false => findKV (.int .i64) (.int .i64 x) (kvI ks) (i + 1) | none => none) = _
   rw [e]
   show findKV (.int .i64) (.int .i64 x) (kvI ks) (i + 1) = _
   rw [ih]
   congr 3; omega
theorem put_kvI (ks : List Int) (x : Int) : (findKV (.int .i64) (.int .i64 x) (kvI ks) 0).map (putKV (.int .i64 x) (.bool true) (kvI ks)) = some (kvI (addK ks x)) := by
 by_cases h : x ∈ ks
 ·obtain ⟨j, hj, e⟩ := findKV_in x ks 0 h
  rw [e]
  simp only [Option.map_some, putKV, addK, if_pos h, setL_eq, Nat.zero_add]
  congr 1
  apply List.ext_getElem?
  intro i
  rw [List.getElem?_set]
  by_cases hij : j = i
  ·subst hij
   have hl : j < (kvI ks).length := by
    have := (List.getElem?_eq_some_iff.1 hj).1
    simpa [kvI] using this
   rw [if_pos rfl, if_pos hl]
   simp [kvI, hj]
  ·rw [if_neg hij]
 ·rw [findKV_out x ks 0 h]
  simp only [Option.map_some, putKV, addK, if_neg h, appL_eq]
  simp [kvI]
theorem see_kvI (ks : List Int) (x : Int) : seeKV (.int .i64) (.int .i64 x) (kvI ks) (.bool false) = some (.bool (decide (x ∈ ks)), decide (x ∈ ks)) := by
 unfold seeKV
 by_cases h : x ∈ ks
 ·obtain ⟨j, _, e⟩ := findKV_in x ks 0 h
  rw [e, decide_eq_true h]; rfl
 ·rw [findKV_out x ks 0 h, decide_eq_false h]; rfl
theorem mem_addK (ks : List Int) (x y : Int) : y ∈ addK ks x ↔ y ∈ ks ∨ y = x := by
 unfold addK
 split
 ·rename_i h
  constructor
  ·exact .inl
  ·rintro (h1 | rfl)
   ·exact h1
   ·exact h
 ·simp
def setK (l : List Int) : List Int := l.foldl addK []
theorem mem_foldl_addK : ∀ (l ks : List Int) (y : Int), y ∈ l.foldl addK ks ↔ y ∈ ks ∨ y ∈ l
 | [], ks, y => by simp
 | x :: l, ks, y => by rw [List.foldl_cons, mem_foldl_addK l, mem_addK, List.mem_cons, or_assoc]
theorem mem_setK (l : List Int) (y : Int) : y ∈ setK l ↔ y ∈ l := by rw [setK, mem_foldl_addK]; simp
theorem setK_succ (l : List Int) (i : Nat) (h : i < l.length) : setK (l.take (i + 1)) = addK (setK (l.take i)) (l[i]) := by
 rw [setK, List.take_add_one, List.getElem?_eq_getElem h, List.foldl_append]; rfl
end Go.Ev
end

/-! SeTa -/
section
open Go Go.Ev
namespace Go.Proofs.YtneaafigbnjceaaGreatDoor.Bk
noncomputable section
set_option maxRecDepth 100000
set_option maxHeartbeats 20000000
abbrev ztTa0 : List Item := [(.code (atC [1, 1, 0, 1, 0, 0] (bodyOf Tryz.f91))), (.inLoop (atC [1, 1, 0, 1, 0, 0] (bodyOf Tryz.f91))), (.inBlock 0), (.code (atC [1, 1, 1] (bodyOf Tryz.f91)))]
def s139 (V : AccP) (U : List DT) (un : Nat) (ac : Bool) (z : Int) (_j : Nat → Value) : St := startK Tryz.f91 [] [(.e (.agg (zAc V ac U un))), iI z]
def q139 (U : List DT) (un i : Nat) (z : Int) (kv : List (Value × Value)) (j : Nat → Value) : St := ⟨[.some ⟨[], 0, 0, false, .map kv⟩], ztTa0, mkT j [(1, (iI (z))), (5, (.e (.one (.mp 0)))), (10, (.e (.one (.dp (.s (U) (un) 1))))), (11, (iI (Int.ofNat un))), (12, (iI (Int.ofNat i)))] 22 0⟩
def p139a_end (U : List DT) (un : Nat) (z : Int) (j : Nat → Value) : St := ⟨[(.some ⟨[], 0, 0, false, (.map [])⟩)], ztTa0, mkT j [(1, (iI (z))), (5, (.e (.one (.mp 0)))), (10, (.e (.one (.dp (.s (U) (un) 1))))), (11, (iI (Int.ofNat un))), (12, (iI 0))] 22 0⟩
theorem p139a (hE : EnvOk E) (V : AccP) (U : List DT) (un : Nat) (ac : Bool) (z : Int) : Sg 0 0 (s139 V U un ac z) (p139a_end U un z) := fun ho j =>
 oS hE [.run 6, (.ops [(2, (.d .len))] []), .run 2] [1, 5, 10, 11, 12] (s' := fun j => ⟨[(zBk (zAc V ac U un) 22 44), (.some ⟨[], 0, 0, false, (.map [])⟩)], ztTa0, mkT j [(1, (iI (z))), (5, (.e (.one (.mp 1)))), (10, (.e (.one (.dp (.s (U) (un) 1))))), (11, (iI (Int.ofNat un))), (12, (iI 0))] 22 0⟩) (ps := []) trivial
  fun j => gZ [1] (ho j)
def p139s_end (U : List DT) (un i : Nat) (z : Int) (kv2 : List (Value × Value)) (j : Nat → Value) : St := ⟨[(.some ⟨[], 0, 0, false, (.map (kv2))⟩)], ztTa0, mkT j [(1, (iI (z))), (5, (.e (.one (.mp 0)))), (10, (.e (.one (.dp (.s (U) (un) 1))))), (11, (iI (Int.ofNat un))), (12, (iI (Int.ofNat (i + 1))))] 22 0⟩
theorem p139s (hE : EnvOk E) (U : List DT) (un i : Nat) (z x : Int) (kv kv2 : List (Value × Value)) (h0 : (decide (Int.ofNat i < Int.ofNat un) : Bool) = true) (h1 : (0 : Int) ≤ Int.ofNat i ∧ Int.ofNat i < (↑un : Int)) (h2 : ((Int.ofNat i).toNat * nat_lit 1 : Nat) = i) (h3 : (getL U i : Option DT) = (.some (.v (.int .i64 x)))) (h4 : (Option.map (putKV (Value.int IntKind.i64 x) (Value.bool true) kv) (findKV { desc := TypeDesc.int IntKind.i64, str := "int", size := (1 : Nat), bytes := (8 : Nat), hasPointers := false, align := (8 : Nat), fieldAlign := (8 : Nat), zero := some (Value.int IntKind.i64 (0 : Int)), comparable := true, methods := #[] : TypeInfo }.desc (Value.int IntKind.i64 x) kv (0 : Nat)) : Option (List (Value × Value))) = (.some (kv2))) (h6 : ((iI (wrapF IntKind.i64 (Int.ofNat i + (1 : Int)))) : AV) = (iI (Int.ofNat (i + 1)))) : Sg 0 0 (q139 U un i z kv) (p139s_end U un i z kv2) := fun ho j =>
 oS hE [.run 3, (.cond true), .run 4, (.ops [(1, (.d (.ld (.v (.int .i64 x))))), (0, (.d (.ix (i))))] []), (.ops [(2, (.mu (kv2)))] []), .run 1, (.ops [(0, (.rn (iI (Int.ofNat (i + 1)))))] []), .run 1] [1, 5, 10, 11, 12] (aP h0 <| aP h1 <| aP h2 <| aP h3 <| aP h4 <| aP (rfl : (true : Bool) = true) <| aP h6 <| aZ)
  ho
def p139x_end (bb : Bool) (j : Nat → Value) : St := ⟨[], [(.code .ret)], mkT j [(4, (iB (bb)))] 22 0⟩
theorem p139x (hE : EnvOk E) (U : List DT) (un i : Nat) (ac : Bool) (z : Int) (bb : Bool) (kv : List (Value × Value)) (h0 : (decide (Int.ofNat i < Int.ofNat un) : Bool) = false) (h1 : (seeKV { desc := TypeDesc.int IntKind.i64, str := "int", size := (1 : Nat), bytes := (8 : Nat), hasPointers := false, align := (8 : Nat), fieldAlign := (8 : Nat), zero := some (Value.int IntKind.i64 (0 : Int)), comparable := true, methods := #[] : TypeInfo }.desc (Value.int IntKind.i64 z) kv (Value.bool false) : Option (Value × Bool)) = (.some ((.bool (bb)), (ac)))) : Sg 0 0 (q139 U un i z kv) (p139x_end bb) := fun ho j =>
 oS hE [.run 3, (.cond false), .run 2, (.ops [(2, (.lk (.bool (bb)) (ac)))] [])] [4] (s' := fun j => ⟨[(.some ⟨[], 0, 0, false, (.map (kv))⟩)], [(.code .ret)], mkT j [(4, (iB (bb)))] 22 0⟩) (aP h0 <| aP h1 <| aP (rfl : (true : Bool) = true) <| aZ)
  fun j => gZ [] (ho j)
theorem l139 (hE : EnvOk E) (V : AccP) (us : List Int) (n : Nat) (c : Bool) (hn : us.length = n) (hm : n ≤ 4000000) (z : Int) : ∀ m i, m + i = n → ∀ j, OutK E 0 0 (q139 (iD us) (n) (i) (z) (kvI (setK (us.take i))) j) (Go.Ev.Ends E Tryz.f91 (iB (decide (z ∈ us))) [])
 | 0, i, hk, j => by
  have e : us.take i = us := List.take_of_length_le (by omega)
  rw [e]
  have hs := see_kvI (setK us) z
  rw [show decide (z ∈ setK us) = decide (z ∈ us) from decide_eq_decide.2 (mem_setK us z)] at hs
  exact p139x hE (iD us) (n) (i) (decide (z ∈ us)) (z) (decide (z ∈ us)) (kvI (setK us)) (decide_eq_false (by (try simp only [Int.ofNat_eq_natCast]); omega)) hs (fun j => outK_ret (ends_ret (by kernel_rfl))) j
 | m + 1, i, hk, j => by
  have hl : i < us.length := by omega
  have hx : us[i]? = some us[i] := List.getElem?_eq_getElem hl
  have hp := put_kvI (setK (us.take i)) us[i]
  rw [← setK_succ us i hl] at hp
  generalize us[i] = x at hx hp
  exact p139s hE (iD us) (n) (i) (z) (x) (kvI (setK (us.take i))) (kvI (setK (us.take (i + 1)))) (decide_eq_true (by (try simp only [Int.ofNat_eq_natCast]); omega)) ⟨by (try simp only [Int.ofNat_eq_natCast]); omega, by (try simp only [Int.ofNat_eq_natCast]); omega⟩ (Nat.mul_one _) (getI hx) hp (iIe (by (try simp only [Int.ofNat_eq_natCast]); rw [wrap_id (by omega) (by omega)]; try omega)) (l139 hE V us n c hn hm z m (i + 1) (by omega)) j
theorem K139 (hE : EnvOk E) (V : AccP) (us : List Int) (n : Nat) (c : Bool) (hn : us.length = n) (hm : n ≤ 4000000) (z : Int) : COut E 0 [] 91 [accA V us n c, iI z] (iB (decide (z ∈ us))) [] :=
 cOut_start Tryz.func91 rfl (p139a hE (V) (iD us) (n) (c) (z)  (l139 hE V us n c hn hm z n 0 rfl) fun _ => undef)
end
end Go.Proofs.YtneaafigbnjceaaGreatDoor.Bk
end

/-! SeBc -/
section
open Go Go.Ev
namespace Go.Proofs.YtneaafigbnjceaaGreatDoor.Bk
noncomputable section
set_option maxRecDepth 100000
set_option maxHeartbeats 20000000
def s89 (V : AccP) (U : List DT) (un : Nat) (b x y z : Int) (ac : Bool) (_j : Nat → Value) : St := startK Tryz.f16 [] [(.e (.agg [.v (.int .i64 b), .v (.int .i64 x), .v (.int .i64 y), .v (.int .i64 z), .v (.int .u8 (V.k0)), .v (.int .u8 (V.k1)), .v (.int .u8 (V.k2)), .v (.int .u8 (V.k3)), .v (.int .u8 (V.k4)), .v (.int .u8 (V.k5)), .v (.int .u8 (V.k6)), .v (.int .u8 (V.k7)), .v (.int .u8 (V.m0)), .v (.int .u8 (V.m1)), .v (.int .u8 (V.m2)), .v (.int .u8 (V.m3)), .v (.int .u8 (V.m4)), .v (.int .u8 (V.m5)), .v (.int .u8 (V.m6)), .v (.int .u8 (V.m7)), .v (.bool ac), .dp (.s U un 1)])), (.e (.agg [.v (.int .i64 b), .v (.int .i64 x), .v (.int .i64 y), .v (.int .i64 z), .v (.int .u8 (V.k0)), .v (.int .u8 (V.k1)), .v (.int .u8 (V.k2)), .v (.int .u8 (V.k3)), .v (.int .u8 (V.k4)), .v (.int .u8 (V.k5)), .v (.int .u8 (V.k6)), .v (.int .u8 (V.k7)), .v (.int .u8 (V.m0)), .v (.int .u8 (V.m1)), .v (.int .u8 (V.m2)), .v (.int .u8 (V.m3)), .v (.int .u8 (V.m4)), .v (.int .u8 (V.m5)), .v (.int .u8 (V.m6)), .v (.int .u8 (V.m7)), .v (.bool ac), .dp (.s U un 1)]))]
def p89_end (j : Nat → Value) : St := ⟨[], [(.code .ret)], mkT j [(4, (iB true))] 59 0⟩
theorem p89 (hE : EnvOk E) (V : AccP) (U : List DT) (un : Nat) (b x y z : Int) (ac : Bool) (h0 : ((b == b) == true : Bool) = true) (h1 : ((b == b) == true : Bool) = true) (h2 : ((b == b) == true : Bool) = true) (h3 : ((b == b) == true : Bool) = true) (h4 : ((b == b) == true : Bool) = true) (h5 : (b == b : Bool) = true) (h6 : ((x == x) == true : Bool) = true) (h7 : ((x == x) == true : Bool) = true) (h8 : ((x == x) == true : Bool) = true) (h9 : ((x == x) == true : Bool) = true) (h10 : ((x == x) == true : Bool) = true) (h11 : (x == x : Bool) = true) (h12 : ((y == y) == true : Bool) = true) (h13 : ((y == y) == true : Bool) = true) (h14 : ((y == y) == true : Bool) = true) (h15 : ((y == y) == true : Bool) = true) (h16 : ((y == y) == true : Bool) = true) (h17 : (y == y : Bool) = true) (h18 : ((z == z) == true : Bool) = true) (h19 : ((z == z) == true : Bool) = true) (h20 : ((z == z) == true : Bool) = true) (h21 : ((z == z) == true : Bool) = true) (h22 : ((z == z) == true : Bool) = true) (h23 : EqOk E 23 (zB8 V.k0 V.k1 V.k2 V.k3 V.k4 V.k5 V.k6 V.k7) (zB8 V.k0 V.k1 V.k2 V.k3 V.k4 V.k5 V.k6 V.k7) true) (h24 : (z == z : Bool) = true) (h25 : EqOk E 23 (zB8 V.m0 V.m1 V.m2 V.m3 V.m4 V.m5 V.m6 V.m7) (zB8 V.m0 V.m1 V.m2 V.m3 V.m4 V.m5 V.m6 V.m7) true) (h26 : ((ac == ac) == true : Bool) = true) (h27 : ((ac == ac) == true : Bool) = true) (h28 : ((ac == ac) == true : Bool) = true) (h29 : ((ac == ac) == true : Bool) = true) (h30 : ((ac == ac) == true : Bool) = true) (h31 : COut E 0 [] 42 [(.e (.one (.dp (.s (U) (un) 1)))), (.e (.one (.dp (.s (U) (un) 1))))] (iB true) []) (h33 : (ac == ac : Bool) = true) : Sg 0 0 (s89 V U un b x y z ac) (p89_end) := fun ho j =>
 oS hE [.run 3, (.ops [(31, (.eqs true)), (38, (.eqs true)), (52, (.c0 (iB true))), (11, (.pk true)), (18, (.pk true)), (25, (.pk true)), (32, (.pk true)), (53, (.pk true))] [(6, true), (7, true), (8, true), (9, true), (10, true), (13, true), (14, true), (15, true), (16, true), (17, true), (20, true), (21, true), (22, true), (23, true), (24, true), (27, true), (28, true), (29, true), (30, true), (31, true), (48, true), (49, true), (50, true), (51, true), (52, true)])] [4] (s' := fun j => ⟨[(zBk [.v (.int .i64 b), .v (.int .i64 x), .v (.int .i64 y), .v (.int .i64 z), (.v (.int .u8 (V.k0))), (.v (.int .u8 (V.k1))), (.v (.int .u8 (V.k2))), (.v (.int .u8 (V.k3))), (.v (.int .u8 (V.k4))), (.v (.int .u8 (V.k5))), (.v (.int .u8 (V.k6))), (.v (.int .u8 (V.k7))), (.v (.int .u8 (V.m0))), (.v (.int .u8 (V.m1))), (.v (.int .u8 (V.m2))), (.v (.int .u8 (V.m3))), (.v (.int .u8 (V.m4))), (.v (.int .u8 (V.m5))), (.v (.int .u8 (V.m6))), (.v (.int .u8 (V.m7))), (.v (.bool (ac))), (.dp (.s (U) (un) 1))] 22 26), (zBk [.v (.int .i64 b), .v (.int .i64 x), .v (.int .i64 y), .v (.int .i64 z), (.v (.int .u8 (V.k0))), (.v (.int .u8 (V.k1))), (.v (.int .u8 (V.k2))), (.v (.int .u8 (V.k3))), (.v (.int .u8 (V.k4))), (.v (.int .u8 (V.k5))), (.v (.int .u8 (V.k6))), (.v (.int .u8 (V.k7))), (.v (.int .u8 (V.m0))), (.v (.int .u8 (V.m1))), (.v (.int .u8 (V.m2))), (.v (.int .u8 (V.m3))), (.v (.int .u8 (V.m4))), (.v (.int .u8 (V.m5))), (.v (.int .u8 (V.m6))), (.v (.int .u8 (V.m7))), (.v (.bool (ac))), (.dp (.s (U) (un) 1))] 22 26)], [(.code .ret)], mkT j [(4, (iB true))] 59 0⟩) (aP h0 <| aP h1 <| aP h2 <| aP h3 <| aP h4 <| aP h5 <| aP h6 <| aP h7 <| aP h8 <| aP h9 <| aP h10 <| aP h11 <| aP h12 <| aP h13 <| aP h14 <| aP h15 <| aP h16 <| aP h17 <| aP h18 <| aP h19 <| aP h20 <| aP h21 <| aP h22 <| aP h23 <| aP h24 <| aP h25 <| aP h26 <| aP h27 <| aP h28 <| aP h29 <| aP h30 <| aP h31 <| aN <| aP h33 <| aZ)
  fun j => gZ [] (ho j)
abbrev withB (V : AccP) (y : Int) : AccP := { V with b := y }
theorem K89 (hE : EnvOk E) (V : AccP) (us : List Int) (n : Nat) (c : Bool) (hn : us.length = n) (hm : n ≤ 1000) : COut E 0 [] 16 [(accA V us n c), (accA V us n c)] (iB true) [] := by
 have k30 := K30 hE us us n n hn hn (by omega)
 rw [decide_eq_true rfl] at k30
 exact cOut_clear (cOut_start Tryz.func16 rfl (p89 hE (V) (iD us) (n) (V.b) (V.d) (V.s) (V.e) (c) (by simp) (by simp) (by simp) (by simp) (by simp) (by simp) (by simp) (by simp) (by simp) (by simp) (by simp) (by simp) (by simp) (by simp) (by simp) (by simp) (by simp) (by simp) (by simp) (by simp) (by simp) (by simp) (by simp) (eqSelf [V.k0, V.k1, V.k2, V.k3, V.k4, V.k5, V.k6, V.k7] rfl) (by simp) (eqSelf [V.m0, V.m1, V.m2, V.m3, V.m4, V.m5, V.m6, V.m7] rfl) (by simp) (by simp) (by simp) (by simp) (by simp) k30 (by simp) (fun j => outK_ret (ends_ret (by kernel_rfl))) fun _ => undef)) rfl
end
end Go.Proofs.YtneaafigbnjceaaGreatDoor.Bk
end
