/-
  Part of the proof: SeKa, SeAcc.
-/
import Derived.Test.YtmefachijohnhaaGreatDoorSeZL

/-! SeKa -/
section
open Go Go.Ev
namespace Go.Proofs.YtmefachijohnhaaGreatDoor
noncomputable section
set_option maxRecDepth 100000
set_option maxHeartbeats 20000000
abbrev ztKa0 : List Item := [.code (atC [1, 1, 1, 1, 1, 1, 1, 1, 0, 1] (bodyOf Tryz.f8)), .code (atC [1, 1, 1, 1, 1, 1, 1, 1, 1] (bodyOf Tryz.f8))]
abbrev ztKa1 : List Item := [.code (atC [1, 1, 1, 0] (bodyOf Tryz.f8)), .code (atC [1, 1, 1, 1] (bodyOf Tryz.f8))]
abbrev ztKa2 : List Item := [.code (atC [1, 1, 1, 1] (bodyOf Tryz.f8))]
def s67 (_C _C1 _C2 _C3 _C4 _H : List DT) (_n _n1 _n2 _n3 _n4 _m _k : Nat) (_t _c _e1 _e2 _e3 _e4 x _y _z _r _s _u _f _h : Int) (_a _b _w _a2 _b2 _a4 _b4 : Bool) (_j : Nat → Value) : St := startK Tryz.f67 [] [iI x]
def s8 (C _C1 _C2 _C3 _C4 H : List DT) (n _n1 _n2 _n3 _n4 m _k : Nat) (t c _e1 _e2 _e3 _e4 _x _y _z _r _s _u _f _h : Int) (a b _w _a2 _b2 _a4 _b4 : Bool) (_j : Nat → Value) : St := startK Tryz.f8 [] [.e (.agg [.v (.bool a), .v (.bool b), .dp (.s C n 2)]), .e (.one (.dp (.s H m 9))), .e (.agg [.v (.int .i64 t), .v (.int .i64 c)])]
def q8m (C C1 _C2 _C3 _C4 H : List DT) (n n1 _n2 _n3 _n4 m _k : Nat) (t c e1 _e2 _e3 _e4 _x _y _z _r _s _u _f _h : Int) (a b _w _a2 _b2 _a4 _b4 : Bool) (j : Nat → Value) : St := ⟨[(bxS a b C n 98), bK [.v (.int .i64 t), .v (.int .i64 c)] 2 82], ztKa1, mkT j [(1, .e (.one (.dp (.s H m 9)))), (3, .e (.one (.ptr 0 0))), (5, .e (.one (.ptr 1 0))), (7, .e (.one (.dp (.s C1 n1 1)))), (8, (iI e1))] 101 0⟩
def q8n (C C1 C2 _C3 _C4 H : List DT) (n n1 n2 _n3 _n4 m _k : Nat) (t c e1 e2 _e3 _e4 _x _y _z _r _s _u _f _h : Int) (a b _w a2 b2 _a4 _b4 : Bool) (j : Nat → Value) : St := ⟨[(bxS a b C n 98), bK [.v (.int .i64 t), .v (.int .i64 c)] 2 82, (bxS a2 b2 C2 n2 102)], ztKa2, mkT j [(1, .e (.one (.dp (.s H m 9)))), (3, .e (.one (.ptr 0 0))), (5, .e (.one (.ptr 1 0))), (7, .e (.one (.dp (.s C1 n1 1)))), (8, (iI e1)), (9, .e (.one (.ptr 2 0))), (10, (iI e2))] 101 0⟩
def q8o (C C1 C2 _C3 _C4 H : List DT) (n n1 n2 _n3 _n4 m _k : Nat) (t c e1 e2 _e3 _e4 _x _y _z _r _s u _f _h : Int) (a b _w a2 b2 _a4 _b4 : Bool) (j : Nat → Value) : St := ⟨[(bxS a b C n 98), bK [.v (.int .i64 t), .v (.int .i64 c)] 2 82, (bxS a2 b2 C2 n2 102), (bxZ 98)], ztKa0, mkT j [(1, .e (.one (.dp (.s H m 9)))), (3, .e (.one (.ptr 0 0))), (5, .e (.one (.ptr 1 0))), (7, .e (.one (.dp (.s C1 n1 1)))), (8, (iI e1)), (9, .e (.one (.ptr 2 0))), (10, (iI e2)), (11, (iI u)), (12, (iI u)), (13, .e (.one (.v (.slice none 0 0)))), (14, .e (.one (.ptr 3 0))), (62, (iB (u == (0 : Int))))] 101 0⟩
def A67__end (_C : List DT) (_C1 : List DT) (_C2 : List DT) (_C3 : List DT) (_C4 : List DT) (_H : List DT) (_n _n1 _n2 _n3 _n4 _m _k : Nat) (_t _c _e1 _e2 _e3 _e4 x _y _z _r _s _u _f _h : Int) (_a _b _w _a2 _b2 _a4 _b4 : Bool) (j : Nat → Value) : St := ⟨[], [.code .ret], mkT j [(2, (iI (A17_r0 x (Int.ofNat (nat_lit 0)) (Int.ofNat (nat_lit 1000000)))))] 5 0⟩
theorem A67_ (hE : EnvOk E) (C : List DT) (C1 : List DT) (C2 : List DT) (C3 : List DT) (C4 : List DT) (H : List DT) (n n1 n2 n3 n4 m k : Nat) (t c e1 e2 e3 e4 x y z r s u f h : Int) (a b w a2 b2 a4 b4 : Bool) : Sg 0 0 (s67 C C1 C2 C3 C4 H n n1 n2 n3 n4 m k t c e1 e2 e3 e4 x y z r s u f h a b w a2 b2 a4 b4) (A67__end C C1 C2 C3 C4 H n n1 n2 n3 n4 m k t c e1 e2 e3 e4 x y z r s u f h a b w a2 b2 a4 b4) := fun ho j =>
 oS hE [.run 3, .ops [(1, .c0 (iI (A17_r0 x (Int.ofNat (nat_lit 0)) (Int.ofNat (nat_lit 1000000)))))] []] [2] (ps := [COut E 0 [] 17 [(iI x), (iI 0), (iI 1000000)] (iI (A17_r0 x (Int.ofNat (nat_lit 0)) (Int.ofNat (nat_lit 1000000)))) [], ([] : List Nat) = []]) ⟨(A17_all hE _ _ _), rfl, trivial⟩
  ho
theorem A67__c (hE : EnvOk E) (C : List DT) (C1 : List DT) (C2 : List DT) (C3 : List DT) (C4 : List DT) (H : List DT) (n n1 n2 n3 n4 m k : Nat) (t c e1 e2 e3 e4 x y z r s u f h : Int) (a b w a2 b2 a4 b4 : Bool)   : COut E 0 [] 67 [(iI x)] (iI (A17_r0 x (Int.ofNat (nat_lit 0)) (Int.ofNat (nat_lit 1000000)))) [] := cOut_start Tryz.func67 rfl (A67_ hE C C1 C2 C3 C4 H n n1 n2 n3 n4 m k t c e1 e2 e3 e4 x y z r s u f h a b w a2 b2 a4 b4   (fun j => outK_ret (ends_ret (by kernel_rfl))) fun _ => undef)
theorem A67_all (hE : EnvOk E) (C : List DT) (C1 : List DT) (C2 : List DT) (C3 : List DT) (C4 : List DT) (H : List DT) (n n1 n2 n3 n4 m k : Nat) (t c e1 e2 e3 e4 x y z r s u f h : Int) (a b w a2 b2 a4 b4 : Bool) : COut E 0 [] 67 [(iI x)] (iI (A17_r0 x (Int.ofNat (nat_lit 0)) (Int.ofNat (nat_lit 1000000)))) [] := by
 exact A67__c hE C C1 C2 C3 C4 H n n1 n2 n3 n4 m k t c e1 e2 e3 e4 x y z r s u f h a b w a2 b2 a4 b4  
def p8a_end (_C : List DT) (_C1 : List DT) (_C2 : List DT) (_C3 : List DT) (_C4 : List DT) (_H : List DT) (_n _n1 _n2 _n3 _n4 _m _k : Nat) (_t _c _e1 _e2 _e3 _e4 _x _y _z _r _s _u _f _h : Int) (_a _b _w _a2 _b2 _a4 _b4 : Bool) (j : Nat → Value) : St := ⟨[], [.code .ret, .code (atC [1, 1] (bodyOf Tryz.f8))], mkT j [(6, (iB true))] 101 0⟩
theorem p8a (hE : EnvOk E) (C : List DT) (C1 : List DT) (C2 : List DT) (C3 : List DT) (C4 : List DT) (H : List DT) (n n1 n2 n3 n4 m k : Nat) (t c e1 e2 e3 e4 x y z r s u f h : Int) (a b w a2 b2 a4 b4 : Bool) (h0 : COut E 0 [] 51 [(agS a b C n)] (iB w) []) (h2 : ((!w) == false : Bool) = false) (h3 : ((!w) == false : Bool) = false) (h4 : ((!w) == false : Bool) = false) (h5 : (!w : Bool) = true) (h6 : COut E 0 [] 10 [] (iB true) []) : Sg 0 0 (s8 C C1 C2 C3 C4 H n n1 n2 n3 n4 m k t c e1 e2 e3 e4 x y z r s u f h a b w a2 b2 a4 b4) (p8a_end C C1 C2 C3 C4 H n n1 n2 n3 n4 m k t c e1 e2 e3 e4 x y z r s u f h a b w a2 b2 a4 b4) := fun ho j =>
 oS hE [.run 4, .ops [(1, .c0 (iB w)), (7, .pk true)] [(4, false), (5, false), (6, false)], .run 2, .ops [(0, .c0 (iB true))] []] [6] (s' := fun j => ⟨[(bxS a b C n 98), bK [.v (.int .i64 t), .v (.int .i64 c)] 2 82], [.code .ret, .code (atC [1, 1] (bodyOf Tryz.f8))], mkT j [(6, (iB true))] 101 0⟩) (aP h0 <| aN <| aP h2 <| aP h3 <| aP h4 <| aP h5 <| aP h6 <| aN <| aZ)
  fun j => gZ [] (ho j)
def p8b_end (_C : List DT) (_C1 : List DT) (_C2 : List DT) (_C3 : List DT) (_C4 : List DT) (_H : List DT) (_n _n1 _n2 _n3 _n4 _m _k : Nat) (_t _c _e1 _e2 _e3 _e4 _x _y _z _r _s _u _f _h : Int) (_a _b _w _a2 _b2 _a4 _b4 : Bool) (j : Nat → Value) : St := ⟨[], [.code .ret, .code (atC [1, 1] (bodyOf Tryz.f8))], mkT j [(6, (iB true))] 101 0⟩
theorem p8b (hE : EnvOk E) (C : List DT) (C1 : List DT) (C2 : List DT) (C3 : List DT) (C4 : List DT) (H : List DT) (n n1 n2 n3 n4 m k : Nat) (t c e1 e2 e3 e4 x y z r s u f h : Int) (a b w a2 b2 a4 b4 : Bool) (h0 : COut E 0 [] 51 [(agS a b C n)] (iB w) []) (h2 : ((!w) == false : Bool) = true) (h3 : ((!w) == false : Bool) = true) (h4 : ((!w) == false : Bool) = true) (h5 : (!w : Bool) = false) (h6 : (decide ((↑m : Int) > (17 : Int)) : Bool) = true) (h7 : COut E 0 [] 10 [] (iB true) []) : Sg 0 0 (s8 C C1 C2 C3 C4 H n n1 n2 n3 n4 m k t c e1 e2 e3 e4 x y z r s u f h a b w a2 b2 a4 b4) (p8b_end C C1 C2 C3 C4 H n n1 n2 n3 n4 m k t c e1 e2 e3 e4 x y z r s u f h a b w a2 b2 a4 b4) := fun ho j =>
 oS hE [.run 4, .ops [(1, .c0 (iB w)), (5, .d .len), (7, .pk false)] [(4, true), (5, true), (6, true)], .cond true, .run 1, .ops [(0, .c0 (iB true))] []] [6] (s' := fun j => ⟨[(bxS a b C n 98), bK [.v (.int .i64 t), .v (.int .i64 c)] 2 82], [.code .ret, .code (atC [1, 1] (bodyOf Tryz.f8))], mkT j [(6, (iB true))] 101 0⟩) (aP h0 <| aN <| aP h2 <| aP h3 <| aP h4 <| aP h5 <| aP h6 <| aP h7 <| aN <| aZ)
  fun j => gZ [] (ho j)
def p8m_end (C : List DT) (C1 : List DT) (_C2 : List DT) (_C3 : List DT) (_C4 : List DT) (H : List DT) (n n1 _n2 _n3 _n4 m _k : Nat) (t c e1 _e2 _e3 _e4 _x _y _z _r _s _u _f _h : Int) (a b _w _a2 _b2 _a4 _b4 : Bool) (j : Nat → Value) : St := ⟨[(bxS a b C n 98), bK [.v (.int .i64 t), .v (.int .i64 c)] 2 82], ztKa1, mkT j [(1, .e (.one (.dp (.s H m 9)))), (3, .e (.one (.ptr 0 0))), (5, .e (.one (.ptr 1 0))), (7, .e (.one (.dp (.s C1 n1 1)))), (8, (iI e1))] 101 0⟩
theorem p8m (hE : EnvOk E) (C : List DT) (C1 : List DT) (C2 : List DT) (C3 : List DT) (C4 : List DT) (H : List DT) (n n1 n2 n3 n4 m k : Nat) (t c e1 e2 e3 e4 x y z r s u f h : Int) (a b w a2 b2 a4 b4 : Bool) (h0 : COut E 0 [] 51 [(agS a b C n)] (iB w) []) (h2 : ((!w) == false : Bool) = true) (h3 : ((!w) == false : Bool) = true) (h4 : ((!w) == false : Bool) = true) (h5 : (!w : Bool) = false) (h6 : (decide ((↑m : Int) > (17 : Int)) : Bool) = false) (h7 : COut E 0 [] 53 [(agS a b C n)] (agS a b C n) []) (h9 : COut E 0 [] 42 [.e (.one (.dp (.s H m 9)))] (.e (.one (.dp (.s H m 9)))) []) (h13 : COut E 0 [] 65 [(agS a b C n), .e (.one (.dp (.s H m 9))), (iI t), (iI c)] (.tup [.one (.dp (.s C1 n1 1)), .one (.v (.int .i64 e1))]) []) : Sg 0 0 (s8 C C1 C2 C3 C4 H n n1 n2 n3 n4 m k t c e1 e2 e3 e4 x y z r s u f h a b w a2 b2 a4 b4) (p8m_end C C1 C2 C3 C4 H n n1 n2 n3 n4 m k t c e1 e2 e3 e4 x y z r s u f h a b w a2 b2 a4 b4) := fun ho j =>
 oS hE [.run 4, .ops [(1, .c0 (iB w)), (5, .d .len), (7, .pk false)] [(4, true), (5, true), (6, true)], .cond false, .run 2, .ops [(1, .c0 (agS a b C n)), (3, .c0 (.e (.one (.dp (.s H m 9))))), (8, .c0 (.tup [.one (.dp (.s C1 n1 1)), .one (.v (.int .i64 e1))]))] [], .run 1] [1, 3, 5, 7, 8] (aP h0 <| aN <| aP h2 <| aP h3 <| aP h4 <| aP h5 <| aP h6 <| aP h7 <| aN <| aP h9 <| aN <| aP (rfl : (true : Bool) = true) <| aP (rfl : (true : Bool) = true) <| aP h13 <| aN <| aP (rfl : (true : Bool) = true) <| aP (rfl : (true : Bool) = true) <| aP (rfl : (true : Bool) = true) <| aZ)
  ho
def p8n_end (C : List DT) (C1 : List DT) (C2 : List DT) (_C3 : List DT) (_C4 : List DT) (H : List DT) (n n1 n2 _n3 _n4 m _k : Nat) (t c e1 e2 _e3 _e4 _x _y _z _r _s _u _f _h : Int) (a b _w a2 b2 _a4 _b4 : Bool) (j : Nat → Value) : St := ⟨[(bxS a b C n 98), bK [.v (.int .i64 t), .v (.int .i64 c)] 2 82, (bxS a2 b2 C2 n2 102)], ztKa2, mkT j [(1, .e (.one (.dp (.s H m 9)))), (3, .e (.one (.ptr 0 0))), (5, .e (.one (.ptr 1 0))), (7, .e (.one (.dp (.s C1 n1 1)))), (8, (iI e1)), (9, .e (.one (.ptr 2 0))), (10, (iI e2))] 101 0⟩
theorem p8n (hE : EnvOk E) (C : List DT) (C1 : List DT) (C2 : List DT) (C3 : List DT) (C4 : List DT) (H : List DT) (n n1 n2 n3 n4 m k : Nat) (t c e1 e2 e3 e4 x y z r s u f h : Int) (a b w a2 b2 a4 b4 : Bool) (h1_0 : COut E 0 [] 53 [(agS a b C n)] (agS a b C n) []) (h1_2 : COut E 0 [] 42 [.e (.one (.dp (.s H m 9)))] (.e (.one (.dp (.s H m 9)))) []) (h1_6 : COut E 0 [] 66 [(agS a b C n), .e (.one (.dp (.s H m 9))), (iI t), (iI c)] (.tup [.agg [.v (.bool a2), .v (.bool b2), .dp (.s C2 n2 2)], .one (.v (.int .i64 e2))]) []) (h2_0 : COut E 0 [] 53 [(agS a b C n)] (agS a b C n) []) (h2_2 : COut E 0 [] 42 [.e (.one (.dp (.s H m 9)))] (.e (.one (.dp (.s H m 9)))) []) (h2_6 : COut E 0 [] 66 [(agS a b C n), .e (.one (.dp (.s H m 9))), (iI t), (iI c)] (.tup [.agg [.v (.bool a2), .v (.bool b2), .dp (.s C2 n2 2)], .one (.v (.int .i64 e2))]) []) (h3_0 : COut E 0 [] 53 [(agS a b C n)] (agS a b C n) []) (h3_2 : COut E 0 [] 42 [.e (.one (.dp (.s H m 9)))] (.e (.one (.dp (.s H m 9)))) []) (h3_6 : COut E 0 [] 66 [(agS a b C n), .e (.one (.dp (.s H m 9))), (iI t), (iI c)] (.tup [.agg [.v (.bool a2), .v (.bool b2), .dp (.s C2 n2 2)], .one (.v (.int .i64 e2))]) []) (h4_0 : COut E 0 [] 53 [(agS a b C n)] (agS a b C n) []) (h4_2 : COut E 0 [] 42 [.e (.one (.dp (.s H m 9)))] (.e (.one (.dp (.s H m 9)))) []) (h4_6 : COut E 0 [] 66 [(agS a b C n), .e (.one (.dp (.s H m 9))), (iI t), (iI c)] (.tup [.agg [.v (.bool a2), .v (.bool b2), .dp (.s C2 n2 2)], .one (.v (.int .i64 e2))]) []) : Sg 0 0 (q8m C C1 C2 C3 C4 H n n1 n2 n3 n4 m k t c e1 e2 e3 e4 x y z r s u f h a b w a2 b2 a4 b4) (p8n_end C C1 C2 C3 C4 H n n1 n2 n3 n4 m k t c e1 e2 e3 e4 x y z r s u f h a b w a2 b2 a4 b4) := fun ho j =>
 outK_draw' hE (h := (q8m C C1 C2 C3 C4 H n n1 n2 n3 n4 m k t c e1 e2 e3 e4 x y z r s u f h a b w a2 b2 a4 b4 j).heap) (ops := opsOf (atC [1, 1, 1, 0] (bodyOf Tryz.f8))) (id := idOf (atC [1, 1, 1, 0] (bodyOf Tryz.f8))) (todo := ztKa2) (tm := (q8m C C1 C2 C3 C4 H n n1 n2 n3 n4 m k t c e1 e2 e3 e4 x y z r s u f h a b w a2 b2 a4 b4 j).tm) (by kernel_rfl) (outR_split 8 12 rfl (outR_seg hE (R0_ok hE) [0, 1, 2, 3, 4, 5, 6, 7, 8, 9, 10, 11, 12, 13, 14] [(1, .c0 (agS a b C n)), (3, .c0 (.e (.one (.dp (.s H m 9))))), (8, .c0 (.tup [.agg [.v (.bool a2), .v (.bool b2), .dp (.s C2 n2 2)], .one (.v (.int .i64 e2))]))] [] [1, 3, 5, 7, 8, 9, 10] (s' := fun j => ⟨[(bxS a b C n 98), bK [.v (.int .i64 t), .v (.int .i64 c)] 2 82, (bxS a2 b2 C2 n2 102)], ztKa2, mkT j [(1, .e (.one (.dp (.s H m 9)))), (3, .e (.one (.ptr 0 0))), (5, .e (.one (.ptr 1 0))), (7, .e (.one (.dp (.s C1 n1 1)))), (8, (iI e1)), (9, .e (.one (.ptr 2 0))), (10, (iI e2))] 101 0⟩) (ps := [COut E 0 [] 53 [(agS a b C n)] (agS a b C n) [], ([] : List Nat) = [], COut E 0 [] 42 [.e (.one (.dp (.s H m 9)))] (.e (.one (.dp (.s H m 9)))) [], ([] : List Nat) = [], (true : Bool) = true, (true : Bool) = true, COut E 0 [] 66 [(agS a b C n), .e (.one (.dp (.s H m 9))), (iI t), (iI c)] (.tup [.agg [.v (.bool a2), .v (.bool b2), .dp (.s C2 n2 2)], .one (.v (.int .i64 e2))]) [], ([] : List Nat) = [], (true : Bool) = true, (true : Bool) = true]) (by kernel_rfl) (fun j => by kernel_rfl) ⟨h1_0, rfl, h1_2, rfl, rfl, rfl, h1_6, rfl, rfl, rfl, trivial⟩ ho) (outR_split 3 12 rfl (outR_seg hE (R0_ok hE) [0, 1, 2, 3, 4, 5, 6, 7, 12, 8, 9, 10, 11, 13, 14] [(1, .c0 (agS a b C n)), (3, .c0 (.e (.one (.dp (.s H m 9))))), (9, .c0 (.tup [.agg [.v (.bool a2), .v (.bool b2), .dp (.s C2 n2 2)], .one (.v (.int .i64 e2))]))] [] [1, 3, 5, 7, 8, 9, 10] (s' := fun j => ⟨[(bxS a b C n 98), bK [.v (.int .i64 t), .v (.int .i64 c)] 2 82, (bxS a2 b2 C2 n2 102)], ztKa2, mkT j [(1, .e (.one (.dp (.s H m 9)))), (3, .e (.one (.ptr 0 0))), (5, .e (.one (.ptr 1 0))), (7, .e (.one (.dp (.s C1 n1 1)))), (8, (iI e1)), (9, .e (.one (.ptr 2 0))), (10, (iI e2))] 101 0⟩) (ps := [COut E 0 [] 53 [(agS a b C n)] (agS a b C n) [], ([] : List Nat) = [], COut E 0 [] 42 [.e (.one (.dp (.s H m 9)))] (.e (.one (.dp (.s H m 9)))) [], ([] : List Nat) = [], (true : Bool) = true, (true : Bool) = true, COut E 0 [] 66 [(agS a b C n), .e (.one (.dp (.s H m 9))), (iI t), (iI c)] (.tup [.agg [.v (.bool a2), .v (.bool b2), .dp (.s C2 n2 2)], .one (.v (.int .i64 e2))]) [], ([] : List Nat) = [], (true : Bool) = true, (true : Bool) = true, (true : Bool) = true]) (by kernel_rfl) (fun j => by kernel_rfl) ⟨h2_0, rfl, h2_2, rfl, rfl, rfl, h2_6, rfl, rfl, rfl, rfl, trivial⟩ ho) (outR_split 1 12 rfl (outR_seg hE (R0_ok hE) [0, 1, 2, 12, 3, 4, 5, 6, 7, 8, 9, 10, 11, 13, 14] [(1, .c0 (agS a b C n)), (4, .c0 (.e (.one (.dp (.s H m 9))))), (9, .c0 (.tup [.agg [.v (.bool a2), .v (.bool b2), .dp (.s C2 n2 2)], .one (.v (.int .i64 e2))]))] [] [1, 3, 5, 7, 8, 9, 10] (s' := fun j => ⟨[(bxS a b C n 98), bK [.v (.int .i64 t), .v (.int .i64 c)] 2 82, (bxS a2 b2 C2 n2 102)], ztKa2, mkT j [(1, .e (.one (.dp (.s H m 9)))), (3, .e (.one (.ptr 0 0))), (5, .e (.one (.ptr 1 0))), (7, .e (.one (.dp (.s C1 n1 1)))), (8, (iI e1)), (9, .e (.one (.ptr 2 0))), (10, (iI e2))] 101 0⟩) (ps := [COut E 0 [] 53 [(agS a b C n)] (agS a b C n) [], ([] : List Nat) = [], COut E 0 [] 42 [.e (.one (.dp (.s H m 9)))] (.e (.one (.dp (.s H m 9)))) [], ([] : List Nat) = [], (true : Bool) = true, (true : Bool) = true, COut E 0 [] 66 [(agS a b C n), .e (.one (.dp (.s H m 9))), (iI t), (iI c)] (.tup [.agg [.v (.bool a2), .v (.bool b2), .dp (.s C2 n2 2)], .one (.v (.int .i64 e2))]) [], ([] : List Nat) = [], (true : Bool) = true, (true : Bool) = true, (true : Bool) = true]) (by kernel_rfl) (fun j => by kernel_rfl) ⟨h3_0, rfl, h3_2, rfl, rfl, rfl, h3_6, rfl, rfl, rfl, rfl, trivial⟩ ho) (outR_seg hE (R0_ok hE) [0, 12, 1, 2, 3, 4, 5, 6, 7, 8, 9, 10, 11, 13, 14] [(2, .c0 (agS a b C n)), (4, .c0 (.e (.one (.dp (.s H m 9))))), (9, .c0 (.tup [.agg [.v (.bool a2), .v (.bool b2), .dp (.s C2 n2 2)], .one (.v (.int .i64 e2))]))] [] [1, 3, 5, 7, 8, 9, 10] (s' := fun j => ⟨[(bxS a b C n 98), bK [.v (.int .i64 t), .v (.int .i64 c)] 2 82, (bxS a2 b2 C2 n2 102)], ztKa2, mkT j [(1, .e (.one (.dp (.s H m 9)))), (3, .e (.one (.ptr 0 0))), (5, .e (.one (.ptr 1 0))), (7, .e (.one (.dp (.s C1 n1 1)))), (8, (iI e1)), (9, .e (.one (.ptr 2 0))), (10, (iI e2))] 101 0⟩) (ps := [COut E 0 [] 53 [(agS a b C n)] (agS a b C n) [], ([] : List Nat) = [], COut E 0 [] 42 [.e (.one (.dp (.s H m 9)))] (.e (.one (.dp (.s H m 9)))) [], ([] : List Nat) = [], (true : Bool) = true, (true : Bool) = true, COut E 0 [] 66 [(agS a b C n), .e (.one (.dp (.s H m 9))), (iI t), (iI c)] (.tup [.agg [.v (.bool a2), .v (.bool b2), .dp (.s C2 n2 2)], .one (.v (.int .i64 e2))]) [], ([] : List Nat) = [], (true : Bool) = true, (true : Bool) = true, (true : Bool) = true]) (by kernel_rfl) (fun j => by kernel_rfl) ⟨h4_0, rfl, h4_2, rfl, rfl, rfl, h4_6, rfl, rfl, rfl, rfl, trivial⟩ ho))))
def p8o_end (C : List DT) (C1 : List DT) (C2 : List DT) (_C3 : List DT) (_C4 : List DT) (H : List DT) (n n1 n2 _n3 _n4 m _k : Nat) (t c e1 e2 _e3 _e4 _x _y _z _r _s u _f _h : Int) (a b _w a2 b2 _a4 _b4 : Bool) (j : Nat → Value) : St := ⟨[(bxS a b C n 98), bK [.v (.int .i64 t), .v (.int .i64 c)] 2 82, (bxS a2 b2 C2 n2 102), (bxZ 98)], ztKa0, mkT j [(1, .e (.one (.dp (.s H m 9)))), (3, .e (.one (.ptr 0 0))), (5, .e (.one (.ptr 1 0))), (7, .e (.one (.dp (.s C1 n1 1)))), (8, (iI e1)), (9, .e (.one (.ptr 2 0))), (10, (iI e2)), (11, (iI u)), (12, (iI u)), (13, .e (.one (.v (.slice none 0 0)))), (14, .e (.one (.ptr 3 0))), (62, (iB (u == (0 : Int))))] 101 0⟩
theorem p8o (hE : EnvOk E) (C : List DT) (C1 : List DT) (C2 : List DT) (C3 : List DT) (C4 : List DT) (H : List DT) (n n1 n2 n3 n4 m k : Nat) (t c e1 e2 e3 e4 x y z r s u f h : Int) (a b w a2 b2 a4 b4 : Bool) (h0 : COut E 0 [] 57 [(agS a b C n)] (iI x) []) (h2 : COut E 0 [] 45 [.e (.one (.dp (.s H m 9)))] (iI y) []) (h4 : COut E 0 [] 46 [(iI t)] (iI z) []) (h7 : COut E 0 [] 67 [(iI c)] (iI r) []) (h9 : COut E 4 [(bxS a b C n 98), bK [.v (.int .i64 t), .v (.int .i64 c)] 2 82, (bxS a2 b2 C2 n2 102), bK [.v (.int .i64 x), .v (.int .i64 y), .v (.int .i64 z), .v (.int .i64 r)] 4 3] 16 [.e (.one (.slc 3 0 4 1 4 true))] (iI u) [(bxS a b C n 98), bK [.v (.int .i64 t), .v (.int .i64 c)] 2 82, (bxS a2 b2 C2 n2 102), bK [.v (.int .i64 x), .v (.int .i64 y), .v (.int .i64 z), .v (.int .i64 r)] 4 3]) : Sg 0 0 (q8n C C1 C2 C3 C4 H n n1 n2 n3 n4 m k t c e1 e2 e3 e4 x y z r s u f h a b w a2 b2 a4 b4) (p8o_end C C1 C2 C3 C4 H n n1 n2 n3 n4 m k t c e1 e2 e3 e4 x y z r s u f h a b w a2 b2 a4 b4) := fun ho j =>
 oS hE [.run 1, .ops [(1, .c0 (iI x)), (3, .c0 (iI y)), (6, .c0 (iI z)), (9, .c0 (iI r)), (11, .d (.c1 (iI u)))] [], .run 9] [1, 3, 5, 7, 8, 9, 10, 11, 12, 13, 14, 62] (s' := fun j => ⟨[(bxS a b C n 98), bK [.v (.int .i64 t), .v (.int .i64 c)] 2 82, (bxS a2 b2 C2 n2 102), bK [.v (.int .i64 x), .v (.int .i64 y), .v (.int .i64 z), .v (.int .i64 r)] 4 3, (bxZ 98)], ztKa0, mkT j [(1, .e (.one (.dp (.s H m 9)))), (3, .e (.one (.ptr 0 0))), (5, .e (.one (.ptr 1 0))), (7, .e (.one (.dp (.s C1 n1 1)))), (8, (iI e1)), (9, .e (.one (.ptr 2 0))), (10, (iI e2)), (11, (iI u)), (12, (iI u)), (13, .e (.one (.v (.slice none 0 0)))), (14, .e (.one (.ptr 4 0))), (62, (iB (u == (0 : Int))))] 101 0⟩) (aP h0 <| aN <| aP h2 <| aN <| aP h4 <| aN <| aP (rfl : (true : Bool) = true) <| aP h7 <| aN <| aP h9 <| aN <| aZ)
  fun j => gZ [0, 1, 2, 4] (ho j)
def p8_0_end (_C : List DT) (_C1 : List DT) (_C2 : List DT) (_C3 : List DT) (_C4 : List DT) (_H : List DT) (_n _n1 _n2 _n3 _n4 _m _k : Nat) (_t _c _e1 _e2 _e3 _e4 _x _y _z _r _s _u _f _h : Int) (_a _b _w _a2 _b2 _a4 _b4 : Bool) (j : Nat → Value) : St := ⟨[], [.code .ret], mkT j [(6, (iB true))] 101 0⟩
theorem p8_0 (hE : EnvOk E) (C : List DT) (C1 : List DT) (C2 : List DT) (C3 : List DT) (C4 : List DT) (H : List DT) (n n1 n2 n3 n4 m k : Nat) (t c e1 e2 e3 e4 x y z r s u f h : Int) (a b w a2 b2 a4 b4 : Bool) (h0 : (u == (0 : Int) : Bool) = true) (h1 : COut E 0 [] 68 [(agS a b C n), .e (.one (.dp (.s H m 9))), (iI t), (iI c)] (.tup [.one (.dp (.s C3 n3 1)), .one (.v (.int .i64 e3))]) []) (h3 : COut E 0 [] 69 [(agS a b C n), .e (.one (.dp (.s H m 9))), (iI t), (iI c)] (.tup [.agg [.v (.bool a4), .v (.bool b4), .dp (.s C4 n4 2)], .one (.v (.int .i64 e4))]) []) (h5 : COut E 0 [] 70 [.e (.one (.dp (.s C1 n1 1))), .e (.one (.dp (.s C3 n3 1)))] (iB true) []) (h7 : ((e1 == e3) == true : Bool) = true) (h8 : ((e1 == e3) == true : Bool) = true) (h9 : ((e1 == e3) == true : Bool) = true) (h10 : ((e1 == e3) == true : Bool) = true) (h11 : ((e1 == e3) == true : Bool) = true) (h12 : COut E 0 [] 64 [(agS a2 b2 C2 n2), (iI e2), (iI e4), (agS a4 b4 C4 n4)] (iB true) []) (h14 : (e1 == e3 : Bool) = true) (h15 : COut E 0 [] 10 [] (iB true) []) : Sg 0 0 (q8o C C1 C2 C3 C4 H n n1 n2 n3 n4 m k t c e1 e2 e3 e4 x y z r s u f h a b w a2 b2 a4 b4) (p8_0_end C C1 C2 C3 C4 H n n1 n2 n3 n4 m k t c e1 e2 e3 e4 x y z r s u f h a b w a2 b2 a4 b4) := fun ho j =>
 oS hE [.cond true, .run 1, .ops [(6, .c0 (.tup [.one (.dp (.s C3 n3 1)), .one (.v (.int .i64 e3))]))] [], .ops [(6, .c0 (.tup [.agg [.v (.bool a4), .v (.bool b4), .dp (.s C4 n4 2)], .one (.v (.int .i64 e4))]))] [], .run 1, .ops [(2, .c0 (iB true)), (13, .c0 (iB true)), (16, .c0 (iB true)), (14, .pk true)] [(9, true), (10, true), (11, true), (12, true), (13, true)]] [6] (s' := fun j => ⟨[(bxS a b C n 98), bK [.v (.int .i64 t), .v (.int .i64 c)] 2 82, (bxS a2 b2 C2 n2 102), (bxS a4 b4 C4 n4 98)], [.code .ret], mkT j [(6, (iB true))] 101 0⟩) (aP h0 <| aP h1 <| aN <| aP h3 <| aN <| aP h5 <| aN <| aP h7 <| aP h8 <| aP h9 <| aP h10 <| aP h11 <| aP h12 <| aN <| aP h14 <| aP h15 <| aN <| aZ)
  fun j => gZ [] (ho j)
def p8_e_end (_C : List DT) (_C1 : List DT) (_C2 : List DT) (_C3 : List DT) (_C4 : List DT) (_H : List DT) (_n _n1 _n2 _n3 _n4 _m _k : Nat) (_t _c _e1 _e2 _e3 _e4 _x _y _z _r _s _u _f _h : Int) (_a _b _w _a2 _b2 _a4 _b4 : Bool) (j : Nat → Value) : St := ⟨[], [.code .ret], mkT j [(6, (iB true))] 101 0⟩
theorem p8_e (hE : EnvOk E) (C : List DT) (C1 : List DT) (C2 : List DT) (C3 : List DT) (C4 : List DT) (H : List DT) (n n1 n2 n3 n4 m k : Nat) (t c e1 e2 e3 e4 x y z r s u f h : Int) (a b w a2 b2 a4 b4 : Bool) (h0 : (u == (0 : Int) : Bool) = false) (h1 : COut E 0 [] 70 [.e (.one (.dp (.s C1 n1 1))), .e (.one (.v (.slice none 0 0)))] (iB true) []) (h3 : ((e1 == u) == true : Bool) = true) (h4 : ((e1 == u) == true : Bool) = true) (h5 : ((e1 == u) == true : Bool) = true) (h6 : ((e1 == u) == true : Bool) = true) (h7 : ((e1 == u) == true : Bool) = true) (h8 : COut E 0 [] 64 [(agS a2 b2 C2 n2), (iI e2), (iI u), .e (.agg [.v (.bool false), .v (.bool false), .v (.slice none 0 0)])] (iB true) []) (h10 : (e1 == u : Bool) = true) (h11 : COut E 0 [] 10 [] (iB true) []) : Sg 0 0 (q8o C C1 C2 C3 C4 H n n1 n2 n3 n4 m k t c e1 e2 e3 e4 x y z r s u f h a b w a2 b2 a4 b4) (p8_e_end C C1 C2 C3 C4 H n n1 n2 n3 n4 m k t c e1 e2 e3 e4 x y z r s u f h a b w a2 b2 a4 b4) := fun ho j =>
 oS hE [.cond false, .run 2, .ops [(2, .c0 (iB true)), (13, .c0 (iB true)), (16, .c0 (iB true)), (14, .pk true)] [(9, true), (10, true), (11, true), (12, true), (13, true)]] [6] (s' := fun j => ⟨[(bxS a b C n 98), bK [.v (.int .i64 t), .v (.int .i64 c)] 2 82, (bxS a2 b2 C2 n2 102), (bxZ 98)], [.code .ret], mkT j [(6, (iB true))] 101 0⟩) (aP h0 <| aP h1 <| aN <| aP h3 <| aP h4 <| aP h5 <| aP h6 <| aP h7 <| aP h8 <| aN <| aP h10 <| aP h11 <| aN <| aZ)
  fun j => gZ [] (ho j)
theorem K67 (hE : EnvOk E) (x : Int) : COut E 0 [] 67 [iI x] (iI (rng x 0 1000000)) [] := strI_cast (A67_all hE [] [] [] [] [] [] 0 0 0 0 0 0 0 0 0 0 0 0 0 x 0 0 0 0 0 0 0 false false false false false false false) (r17 _ _ _)
def oneE (a b : Bool) (L : List Od) (H : List Hr) (t c : Int) : Int := firstI [swE a b L, hoursE H, rng t 0 100000000, rng c 0 1000000]
theorem rng_ok {x l h : Int} (e : rng x l h = 0) : l ≤ x ∧ x ≤ h := by
 unfold rng at e
 split at e
 ·simp at e
 ·rename_i h; omega
theorem mom_one {a b : Bool} {L : List Od} {H : List Hr} {t c : Int} (h : oneE a b L H t c = 0) : momE a b L H t c = behE L t := by
 obtain ⟨h1, h⟩ := first_0 h
 obtain ⟨h2, h⟩ := first_0 h
 obtain ⟨h3, h⟩ := first_0 h
 obtain ⟨h4, h⟩ := first_0 h
 unfold momE
 rw [first_s h1, first_s h2, first_s h3, first_s h4]
 by_cases hb : behE L t = 0
 ·rw [first_s hb, hb]; rfl
 ·rw [first_n hb]
theorem mom_err {a b : Bool} {L : List Od} {H : List Hr} {t c : Int} (h : oneE a b L H t c ≠ 0) : momE a b L H t c = oneE a b L H t c := by
 unfold oneE momE at *
 by_cases h1 : swE a b L = 0
 ·rw [first_s h1] at h ⊢; rw [first_s h1]
  by_cases h2 : hoursE H = 0
  ·rw [first_s h2] at h ⊢; rw [first_s h2]
   by_cases h3 : rng t 0 100000000 = 0
   ·rw [first_s h3] at h ⊢; rw [first_s h3]
    by_cases h4 : rng c 0 1000000 = 0
    ·rw [first_s h4] at h; exact absurd rfl h
    ·rw [first_n h4, first_n h4]
   ·rw [first_n h3, first_n h3]
  ·rw [first_n h2, first_n h2]
 ·rw [first_n h1, first_n h1]
theorem ords_ok {L : List Od} : ∀ k i, k + i = L.length → ordsE L k i = 0 → ∀ j, i ≤ j → ∀ x, L[j]? = some x → rng x.t 0 100000000 = 0
 | 0, i, hk, _, j, hj, x, hx => by
  rw [List.getElem?_eq_none (by omega)] at hx; simp at hx
 | k + 1, i, hk, h, j, hj, x, hx => by
  have hl : i < L.length := by omega
  have hy : L[i]? = some L[i] := List.getElem?_eq_getElem hl
  generalize L[i] = y at hy
  rw [ordsE_s hy] at h
  by_cases he : ordE L i y = 0
  ·rw [if_pos he] at h
   by_cases hij : i = j
   ·subst hij
    rw [hy] at hx
    simp only [Option.some.injEq] at hx
    subst hx
    exact (first_0 (first_0 (first_0 he).2).2).1
   ·exact ords_ok k (i + 1) (by omega) h j (by omega) x hx
  ·rw [if_neg he] at h; exact absurd h he
theorem okT_of {a b : Bool} {L : List Od} (h : swE a b L = 0) : okT L := by
 intro x hx
 obtain ⟨j, hj⟩ := List.getElem?_of_mem hx
 unfold swE at h
 split at h
 ·simp at h
 ·unfold manyE at h
  split at h
  ·simp at h
  ·exact rng_ok (ords_ok L.length 0 rfl h j (Nat.zero_le _) x hj)
theorem fresh_eq (L : List Od) (t c : Int) : (sinceL L (t - c)).length = freshN L t c := by
 unfold sinceL freshN
 rw [show (fun x : Od => decide (x.t ≥ t - c)) = fun x : Od => decide (t - x.t ≤ c) from funext fun x => decide_eq_decide.2 (by omega)]
theorem wN {f : FuncId} {args : List AV} {e : Int} (h : COut E 0 [] f args (.tup [.one (.v (.slice none 0 0)), .one (.v (.int .i64 e))]) []) : COut E 0 [] f args (.tup [.one (.dp (.s [] 0 1)), .one (.v (.int .i64 e))]) [] := tup_wk h fun m => ⟨wkN m 1, fun _ h => h, trivial⟩
theorem wkV (m : M) (sz : Nat) : ∀ y, VR m (.e (.one (.v (.slice none 0 0)))) y → VR m (.e (.one (.dp (.s [] 0 sz)))) y := fun _ h => nil_dp m sz h
theorem K70n (hE : EnvOk E) : COut E 0 [] 70 [.e (.one (.dp (.s [] 0 1))), .e (.one (.v (.slice none 0 0)))] (iB true) [] := cOut_args (K70_000 hE) fun m => ⟨idV, wkV m 1, trivial⟩
theorem brun_0 (hE : EnvOk E) (hA : COut E 0 [] 10 [] (iB true) []) (a b : Bool) (L : List Od) (H : List Hr) (t c : Int) (C1 : List DT) (n1 : Nat) (e1 : Int) (a2 b2 : Bool) (C2 : List DT) (n2 : Nat) (e2 : Int) (C3 : List DT) (n3 : Nat) (e3 : Int) (a4 b4 : Bool) (C4 : List DT) (n4 : Nat) (e4 : Int) (hm : L.length ≤ 100000) (hh : H.length ≤ 100000) (hs : COut E 0 [] 51 [sw a b L] (iB true) []) (h17 : H.length ≤ 17) (c0 : oneE a b L H t c = 0) (k65 : COut E 0 [] 65 [sw a b L, dHr H, iI t, iI c] (.tup [.one (.dp (.s C1 n1 1)), .one (.v (.int .i64 e1))]) []) (k66 : COut E 0 [] 66 [sw a b L, dHr H, iI t, iI c] (.tup [.agg [.v (.bool a2), .v (.bool b2), .dp (.s C2 n2 2)], .one (.v (.int .i64 e2))]) []) (k68 : COut E 0 [] 68 [sw a b L, dHr H, iI t, iI c] (.tup [.one (.dp (.s C3 n3 1)), .one (.v (.int .i64 e3))]) []) (k69 : COut E 0 [] 69 [sw a b L, dHr H, iI t, iI c] (.tup [.agg [.v (.bool a4), .v (.bool b4), .dp (.s C4 n4 2)], .one (.v (.int .i64 e4))]) []) (k70 : COut E 0 [] 70 [.e (.one (.dp (.s C1 n1 1))), .e (.one (.dp (.s C3 n3 1)))] (iB true) []) (he : e1 = e3) (k64 : COut E 0 [] 64 [.e (.agg [.v (.bool a2), .v (.bool b2), .dp (.s C2 n2 2)]), iI e2, iI e4, .e (.agg [.v (.bool a4), .v (.bool b4), .dp (.s C4 n4 2)])] (iB true) []) : COut E 0 [] 8 [sw a b L, dHr H, .e (.agg [.v (.int .i64 t), .v (.int .i64 c)])] (iB true) [] :=
 cOut_start Tryz.func8 rfl (p8m hE (odD L) C1 C2 C3 C4 (hrD H) (L.length) n1 n2 n3 n4 (H.length) 0 t c e1 e2 e3 e4 (swE a b L) (hoursE H) (rng t 0 100000000) (rng c 0 1000000) 0 (oneE a b L H t c) 0 0 a b true a2 b2 a4 b4 hs rfl rfl rfl rfl (decide_eq_false (by omega)) (K53 hE a b L hm) (K42 hE H hh) k65 (fun j => p8n hE (odD L) C1 C2 C3 C4 (hrD H) (L.length) n1 n2 n3 n4 (H.length) 0 t c e1 e2 e3 e4 (swE a b L) (hoursE H) (rng t 0 100000000) (rng c 0 1000000) 0 (oneE a b L H t c) 0 0 a b true a2 b2 a4 b4 (K53 hE a b L hm) (K42 hE H hh) k66 (K53 hE a b L hm) (K42 hE H hh) k66 (K53 hE a b L hm) (K42 hE H hh) k66 (K53 hE a b L hm) (K42 hE H hh) k66 (fun j => p8o hE (odD L) C1 C2 C3 C4 (hrD H) (L.length) n1 n2 n3 n4 (H.length) 0 t c e1 e2 e3 e4 (swE a b L) (hoursE H) (rng t 0 100000000) (rng c 0 1000000) 0 (oneE a b L H t c) 0 0 a b true a2 b2 a4 b4 (K57 hE a b L hm) (K45 hE H hh) (K46 hE t) (K67 hE c) (C16w hE (l := [swE a b L, hoursE H, rng t 0 100000000, rng c 0 1000000]) rfl rfl rfl rfl) (fun j => p8_0 hE (odD L) C1 C2 C3 C4 (hrD H) (L.length) n1 n2 n3 n4 (H.length) 0 t c e1 e2 e3 e4 (swE a b L) (hoursE H) (rng t 0 100000000) (rng c 0 1000000) 0 (oneE a b L H t c) 0 0 a b true a2 b2 a4 b4 (by rw [c0]; rfl) k68 k69 k70 (by rw [he, beq_self_eq_true]; rfl) (by rw [he, beq_self_eq_true]; rfl) (by rw [he, beq_self_eq_true]; rfl) (by rw [he, beq_self_eq_true]; rfl) (by rw [he, beq_self_eq_true]; rfl) k64 (by rw [he, beq_self_eq_true]) hA (fun j => outK_ret (ends_ret (by kernel_rfl))) j) j) j) fun _ => undef)
theorem brun_e (hE : EnvOk E) (hA : COut E 0 [] 10 [] (iB true) []) (a b : Bool) (L : List Od) (H : List Hr) (t c : Int) (C1 : List DT) (n1 : Nat) (e1 : Int) (a2 b2 : Bool) (C2 : List DT) (n2 : Nat) (e2 : Int) (hm : L.length ≤ 100000) (hh : H.length ≤ 100000) (hs : COut E 0 [] 51 [sw a b L] (iB true) []) (h17 : H.length ≤ 17) (c0 : oneE a b L H t c ≠ 0) (k65 : COut E 0 [] 65 [sw a b L, dHr H, iI t, iI c] (.tup [.one (.dp (.s C1 n1 1)), .one (.v (.int .i64 e1))]) []) (k66 : COut E 0 [] 66 [sw a b L, dHr H, iI t, iI c] (.tup [.agg [.v (.bool a2), .v (.bool b2), .dp (.s C2 n2 2)], .one (.v (.int .i64 e2))]) []) (k70 : COut E 0 [] 70 [.e (.one (.dp (.s C1 n1 1))), .e (.one (.v (.slice none 0 0)))] (iB true) []) (he : e1 = oneE a b L H t c) (k64 : COut E 0 [] 64 [.e (.agg [.v (.bool a2), .v (.bool b2), .dp (.s C2 n2 2)]), iI e2, iI (oneE a b L H t c), zS] (iB true) []) : COut E 0 [] 8 [sw a b L, dHr H, .e (.agg [.v (.int .i64 t), .v (.int .i64 c)])] (iB true) [] :=
 cOut_start Tryz.func8 rfl (p8m hE (odD L) C1 C2 [] [] (hrD H) (L.length) n1 n2 0 0 (H.length) 0 t c e1 e2 0 0 (swE a b L) (hoursE H) (rng t 0 100000000) (rng c 0 1000000) 0 (oneE a b L H t c) 0 0 a b true a2 b2 false false hs rfl rfl rfl rfl (decide_eq_false (by omega)) (K53 hE a b L hm) (K42 hE H hh) k65 (fun j => p8n hE (odD L) C1 C2 [] [] (hrD H) (L.length) n1 n2 0 0 (H.length) 0 t c e1 e2 0 0 (swE a b L) (hoursE H) (rng t 0 100000000) (rng c 0 1000000) 0 (oneE a b L H t c) 0 0 a b true a2 b2 false false (K53 hE a b L hm) (K42 hE H hh) k66 (K53 hE a b L hm) (K42 hE H hh) k66 (K53 hE a b L hm) (K42 hE H hh) k66 (K53 hE a b L hm) (K42 hE H hh) k66 (fun j => p8o hE (odD L) C1 C2 [] [] (hrD H) (L.length) n1 n2 0 0 (H.length) 0 t c e1 e2 0 0 (swE a b L) (hoursE H) (rng t 0 100000000) (rng c 0 1000000) 0 (oneE a b L H t c) 0 0 a b true a2 b2 false false (K57 hE a b L hm) (K45 hE H hh) (K46 hE t) (K67 hE c) (C16w hE (l := [swE a b L, hoursE H, rng t 0 100000000, rng c 0 1000000]) rfl rfl rfl rfl) (fun j => p8_e hE (odD L) C1 C2 [] [] (hrD H) (L.length) n1 n2 0 0 (H.length) 0 t c e1 e2 0 0 (swE a b L) (hoursE H) (rng t 0 100000000) (rng c 0 1000000) 0 (oneE a b L H t c) 0 0 a b true a2 b2 false false (beq_eq_false_iff_ne.2 c0) k70 (by rw [he, beq_self_eq_true]; rfl) (by rw [he, beq_self_eq_true]; rfl) (by rw [he, beq_self_eq_true]; rfl) (by rw [he, beq_self_eq_true]; rfl) (by rw [he, beq_self_eq_true]; rfl) k64 (by rw [he, beq_self_eq_true]) hA (fun j => outK_ret (ends_ret (by kernel_rfl))) j) j) j) fun _ => undef)
theorem barriersRun (hE : EnvOk E) (hA : COut E 0 [] 10 [] (iB true) []) (a b : Bool) (L : List Od) (H : List Hr) (t c : Int) (hL : L.length ≤ 9223372036854775807) : COut E 0 [] 8 [sw a b L, dHr H, .e (.agg [.v (.int .i64 t), .v (.int .i64 c)])] (iB true) [] := by
 have k51 := K51 hE a b L hL
 cases hs : shortS L with
 | false =>
  rw [hs] at k51
  exact cOut_start Tryz.func8 rfl (p8a hE (odD L) [] [] [] [] (hrD H) (L.length) 0 0 0 0 (H.length) 0 t c 0 0 0 0 0 0 0 0 0 0 0 0 a b false false false false false k51 rfl rfl rfl rfl hA (fun j => outK_ret (ends_ret (by kernel_rfl))) fun _ => undef)
 | true =>
  rw [hs] at k51
  have hm : L.length ≤ 100000 := by
   unfold shortS at hs
   rw [Bool.and_eq_true] at hs
   have := of_decide_eq_true hs.1
   omega
  by_cases h17 : H.length ≤ 17
  ·have hh : H.length ≤ 100000 := by omega
   by_cases c0 : oneE a b L H t c = 0
   ·have hz := mom_one c0
    obtain ⟨c1, cr⟩ := first_0 c0
    obtain ⟨c2, cr⟩ := first_0 cr
    obtain ⟨c3, cr⟩ := first_0 cr
    obtain ⟨c4, _⟩ := first_0 cr
    have ht := rng_ok c3
    have hf := rng_ok c4
    have hT := okT_of c1
    cases hb : behB L t with
    | true =>
     have h11 : momE a b L H t c = 11 := by rw [hz]; unfold behE; rw [hb]; rfl
     have k125 := K125e hE a b L H t c hm hh (by rw [h11]; decide)
     rw [h11] at k125
     have k68 := K68e hE a b L H t c hm hh hb
     exact brun_0 hE hA a b L H t c [] 0 11 false false [] 0 11 [] 0 11 false false [] 0 11 hm hh k51 h17 c0 (K65_000 hE a b L H t c 11 k125) (K66_000 hE a b L H t c 11 k125) (wN k68) (K69e hE a b L H t c 11 (by decide) k68) (K70_000 hE) rfl (K64e hE 11 (by decide) false false [])
    | false =>
     have hz : momE a b L H t c = 0 := by rw [hz]; unfold behE; rw [hb]; rfl
     cases h2 : protB H t with
     | false =>
      cases hl : lackB L t c with
      | false =>
       have h3 : 2 ≤ freshN L t c := by have := of_decide_eq_false hl; rw [fresh_eq] at this; omega
       cases a with
       | true => exact brun_0 hE hA true b L H t c [] 0 0 false false [] 0 0 [] 0 0 false false [] 0 0 hm hh k51 h17 c0 (K65_000 hE true b L H t c 0 (K125_000 hE true b L H t c hm hh ht hf hz rfl h2 hl)) (K66_000 hE true b L H t c 0 (K125_000 hE true b L H t c hm hh ht hf hz rfl h2 hl)) (wN (K68_000 hE b L H t c hm hh hT ht hb h2 h3)) (K69_000 hE true b L H t c (K68_000 hE b L H t c hm hh hT ht hb h2 h3)) (K70_000 hE) rfl (K64 hE false false [] (by simp))
       | false => exact brun_0 hE hA false b L H t c [.v (.string wO)] 1 0 false false [] 0 22 [.v (.string wO)] 1 0 false false [] 0 22 hm hh k51 h17 c0 (K65_100 hE false b L H t c 0 (K125_100 hE false b L H t c hm hh ht hf hz rfl h2 hl)) (K66_100 hE false b L H t c 0 (K125_100 hE false b L H t c hm hh ht hf hz rfl h2 hl)) (K68_100 hE b L H t c hm hh hT ht hb h2 h3) (K69_100 hE false b L H t c (K68_100 hE b L H t c hm hh hT ht hb h2 h3)) (K70_100 hE) rfl (K64e hE 22 (by decide) false false [])
      | true =>
       have h3 : freshN L t c < 2 := by have := of_decide_eq_true hl; rw [fresh_eq] at this; omega
       cases a with
       | true => exact brun_0 hE hA true b L H t c [.v (.string wC)] 1 0 false false [] 0 30 [.v (.string wC)] 1 0 false false [] 0 30 hm hh k51 h17 c0 (K65_001 hE true b L H t c 0 (K125_001 hE true b L H t c hm hh ht hf hz rfl h2 hl)) (K66_001 hE true b L H t c 0 (K125_001 hE true b L H t c hm hh ht hf hz rfl h2 hl)) (K68_001 hE b L H t c hm hh hT ht hb h2 h3) (K69_001 hE true b L H t c (K68_001 hE b L H t c hm hh hT ht hb h2 h3)) (K70_001 hE) rfl (K64e hE 30 (by decide) false false [])
       | false => exact brun_0 hE hA false b L H t c [.v (.string wO), .v (.string wC)] 2 0 false false [] 0 22 [.v (.string wO), .v (.string wC)] 2 0 false false [] 0 22 hm hh k51 h17 c0 (K65_101 hE false b L H t c 0 (K125_101 hE false b L H t c hm hh ht hf hz rfl h2 hl)) (K66_101 hE false b L H t c 0 (K125_101 hE false b L H t c hm hh ht hf hz rfl h2 hl)) (K68_101 hE b L H t c hm hh hT ht hb h2 h3) (K69_101 hE false b L H t c (K68_101 hE b L H t c hm hh hT ht hb h2 h3)) (K70_101 hE) rfl (K64e hE 22 (by decide) false false [])
     | true =>
      cases hl : lackB L t c with
      | false =>
       have h3 : 2 ≤ freshN L t c := by have := of_decide_eq_false hl; rw [fresh_eq] at this; omega
       cases a with
       | true => exact brun_0 hE hA true b L H t c [.v (.string wP)] 1 0 false false [] 0 31 [.v (.string wP)] 1 0 false false [] 0 31 hm hh k51 h17 c0 (K65_010 hE true b L H t c 0 (K125_010 hE true b L H t c hm hh ht hf hz rfl h2 hl)) (K66_010 hE true b L H t c 0 (K125_010 hE true b L H t c hm hh ht hf hz rfl h2 hl)) (K68_010 hE b L H t c hm hh hT ht hb h2 h3) (K69_010 hE true b L H t c (K68_010 hE b L H t c hm hh hT ht hb h2 h3)) (K70_010 hE) rfl (K64e hE 31 (by decide) false false [])
       | false => exact brun_0 hE hA false b L H t c [.v (.string wO), .v (.string wP)] 2 0 false false [] 0 22 [.v (.string wO), .v (.string wP)] 2 0 false false [] 0 22 hm hh k51 h17 c0 (K65_110 hE false b L H t c 0 (K125_110 hE false b L H t c hm hh ht hf hz rfl h2 hl)) (K66_110 hE false b L H t c 0 (K125_110 hE false b L H t c hm hh ht hf hz rfl h2 hl)) (K68_110 hE b L H t c hm hh hT ht hb h2 h3) (K69_110 hE false b L H t c (K68_110 hE b L H t c hm hh hT ht hb h2 h3)) (K70_110 hE) rfl (K64e hE 22 (by decide) false false [])
      | true =>
       have h3 : freshN L t c < 2 := by have := of_decide_eq_true hl; rw [fresh_eq] at this; omega
       cases a with
       | true => exact brun_0 hE hA true b L H t c [.v (.string wP), .v (.string wC)] 2 0 false false [] 0 31 [.v (.string wP), .v (.string wC)] 2 0 false false [] 0 31 hm hh k51 h17 c0 (K65_011 hE true b L H t c 0 (K125_011 hE true b L H t c hm hh ht hf hz rfl h2 hl)) (K66_011 hE true b L H t c 0 (K125_011 hE true b L H t c hm hh ht hf hz rfl h2 hl)) (K68_011 hE b L H t c hm hh hT ht hb h2 h3) (K69_011 hE true b L H t c (K68_011 hE b L H t c hm hh hT ht hb h2 h3)) (K70_011 hE) rfl (K64e hE 31 (by decide) false false [])
       | false => exact brun_0 hE hA false b L H t c [.v (.string wO), .v (.string wP), .v (.string wC)] 3 0 false false [] 0 22 [.v (.string wO), .v (.string wP), .v (.string wC)] 3 0 false false [] 0 22 hm hh k51 h17 c0 (K65_111 hE false b L H t c 0 (K125_111 hE false b L H t c hm hh ht hf hz rfl h2 hl)) (K66_111 hE false b L H t c 0 (K125_111 hE false b L H t c hm hh ht hf hz rfl h2 hl)) (K68_111 hE b L H t c hm hh hT ht hb h2 h3) (K69_111 hE false b L H t c (K68_111 hE b L H t c hm hh hT ht hb h2 h3)) (K70_111 hE) rfl (K64e hE 22 (by decide) false false [])
   ·have hz := mom_err c0
    have k125 := K125e hE a b L H t c hm hh (by rw [hz]; exact c0)
    rw [hz] at k125
    have e0 : firstI [oneE a b L H t c, 0] = oneE a b L H t c := first_n c0
    have k66 := K66_000 hE a b L H t c _ k125
    rw [e0] at k66
    exact brun_e hE hA a b L H t c [] 0 (oneE a b L H t c) false false [] 0 (oneE a b L H t c) hm hh k51 h17 c0 (K65_000 hE a b L H t c _ k125) k66 (K70n hE) rfl (K64z hE _ c0)
  ·exact cOut_start Tryz.func8 rfl (p8b hE (odD L) [] [] [] [] (hrD H) (L.length) 0 0 0 0 (H.length) 0 t c 0 0 0 0 0 0 0 0 0 0 0 0 a b true false false false false k51 rfl rfl rfl rfl (decide_eq_true (by omega)) hA (fun j => outK_ret (ends_ret (by kernel_rfl))) fun _ => undef)
end
end Go.Proofs.YtmefachijohnhaaGreatDoor
end

/-! SeAcc -/
section
open Go Go.Ev
namespace Go.Proofs.YtmefachijohnhaaGreatDoor
structure AccP where
 b : Int
 d : Int
 s : Int
 e : Int
 k0 : Int
 k1 : Int
 k2 : Int
 k3 : Int
 k4 : Int
 k5 : Int
 k6 : Int
 k7 : Int
 m0 : Int
 m1 : Int
 m2 : Int
 m3 : Int
 m4 : Int
 m5 : Int
 m6 : Int
 m7 : Int
abbrev accN (V : AccP) (r : List AC) : List AC := .v (.int .i64 V.b) :: .v (.int .i64 V.d) :: .v (.int .i64 V.s) :: .v (.int .i64 V.e) :: .v (.int .u8 V.k0) :: .v (.int .u8 V.k1) :: .v (.int .u8 V.k2) :: .v (.int .u8 V.k3) :: .v (.int .u8 V.k4) :: .v (.int .u8 V.k5) :: .v (.int .u8 V.k6) :: .v (.int .u8 V.k7) :: .v (.int .u8 V.m0) :: .v (.int .u8 V.m1) :: .v (.int .u8 V.m2) :: .v (.int .u8 V.m3) :: .v (.int .u8 V.m4) :: .v (.int .u8 V.m5) :: .v (.int .u8 V.m6) :: .v (.int .u8 V.m7) :: r
abbrev zTk (t m a b c d e f g h : Int) : List AC := [.v (.int .i64 t), .v (.int .i64 m), .v (.int .u8 a), .v (.int .u8 b), .v (.int .u8 c), .v (.int .u8 d), .v (.int .u8 e), .v (.int .u8 f), .v (.int .u8 g), .v (.int .u8 h)]
abbrev zU (l : List Int) : List AC := l.map fun x => .v (.int .u8 x)
abbrev zI2 (a b : Int) : List AC := [.v (.int .i64 a), .v (.int .i64 b)]
abbrev zBk (c : List AC) (n t : Nat) : Option AB := some ⟨c, n, t, true, .cells⟩
abbrev zBf (c : List AC) (n t : Nat) : Option AB := some ⟨c, n, t, false, .cells⟩
end Go.Proofs.YtmefachijohnhaaGreatDoor
end
