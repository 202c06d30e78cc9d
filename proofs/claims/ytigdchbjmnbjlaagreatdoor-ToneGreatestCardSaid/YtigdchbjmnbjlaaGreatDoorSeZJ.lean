/-
  Part of the proof: SeMg, SeIa.
-/
import Derived.Test.YtigdchbjmnbjlaaGreatDoorSeZI

/-! SeMg -/
section
open Go Go.Ev
namespace Go.Proofs.YtigdchbjmnbjlaaGreatDoor
noncomputable section
set_option maxRecDepth 100000
set_option maxHeartbeats 20000000
def x8 (C N O G _L _B _R : List DT) (s n o g _i : Nat) (mg ms x y z _a _e _bd _d _w _v _u _q _t _h : Int) (_hb _hc _fw : Bool) (_j : JN) : St := startK Tryz.f8 [] [.e (.agg (tQ C s N n mg ms O o)), .e (.agg [.v (.int .i64 x), .dp (.s G g 1), .v (.int .i64 y), .v (.int .i64 z)])]
def v11 (C N O G L _B _R : List DT) (s n o g i : Nat) (mg ms x y z _a _e _bd _d w _v u _q _t _h : Int) (_hb _hc _fw : Bool) (j : JN) : St := ⟨[(bK (tQ C s N n mg ms O o) 5 71), (bK [(.v (.int .i64 x)), (.dp (.s G g 1)), (.v (.int .i64 y)), (.v (.int .i64 z))] 4 73)], [(.code (aF [1, 1, 1, 1, 1, 1, 1, 0, 1, 0, 0] Tryz.f8)), (.inLoop (aF [1, 1, 1, 1, 1, 1, 1, 0, 1, 0, 0] Tryz.f8)), (.inBlock 0), (.code (aF [1, 1, 1, 1, 1, 1, 1, 1] Tryz.f8))], mkT j [(2, (.e (.one (.ptr 0 0)))), (3, (.e (.one (.ptr 1 0)))), (5, (dQ L s)), (6, (iI w)), (10, (iI u)), (128, (dQ L s)), (129, (iN s)), (130, (iN i))] 296 0⟩
def v21 (C N O G L _B _R : List DT) (s n o g i : Nat) (mg ms x y z a _e _bd _d w _v u _q t _h : Int) (_hb _hc _fw : Bool) (j : JN) : St := ⟨[(bK (tQ C s N n mg ms O o) 5 71), (bK [(.v (.int .i64 x)), (.dp (.s G g 1)), (.v (.int .i64 y)), (.v (.int .i64 z))] 4 73)], [(.code (aF [1, 1, 1, 1, 1, 1, 1, 1, 0, 1, 1, 0, 1, 0, 1, 0, 0] Tryz.f8)), (.inLoop (aF [1, 1, 1, 1, 1, 1, 1, 1, 0, 1, 1, 0, 1, 0, 1, 0, 0] Tryz.f8)), (.inBlock 2), (.code (aF [1, 1, 1, 1, 1, 1, 1, 1, 0, 1, 1, 0, 1, 1] Tryz.f8)), (.code (aF [1, 1, 1, 1, 1, 1, 1, 1, 1] Tryz.f8))], mkT j [(2, (.e (.one (.ptr 0 0)))), (3, (.e (.one (.ptr 1 0)))), (5, (dQ L s)), (6, (iI w)), (10, (iI u)), (13, (iI a)), (15, (iI t)), (175, (dQ G g)), (176, (iN g)), (177, (iN i))] 296 0⟩
def v27 (C N O G L _B _R : List DT) (s n o g _i : Nat) (mg ms x y z _a _e _bd _d _w _v u _q _t _h : Int) (_hb _hc _fw : Bool) (j : JN) : St := ⟨[(bK (tQ C s N n mg ms O o) 5 71), (bK [(.v (.int .i64 x)), (.dp (.s G g 1)), (.v (.int .i64 y)), (.v (.int .i64 z))] 4 73)], [(.code (aF [1, 1, 1, 1, 1, 1, 1, 1, 1, 0] Tryz.f8)), (.code (aF [1, 1, 1, 1, 1, 1, 1, 1, 1, 1] Tryz.f8))], mkT j [(2, (.e (.one (.ptr 0 0)))), (3, (.e (.one (.ptr 1 0)))), (5, (dQ L s)), (10, (iI u))] 296 0⟩
def v34 (C N O _G _L B R : List DT) (s n o _g i : Nat) (mg ms _x _y _z _a _e _bd _d _w _v u _q t _h : Int) (_hb _hc _fw : Bool) (j : JN) : St := ⟨[(bK (tQ C s N n mg ms O o) 5 71)], [(.code (aF [1, 1, 1, 1, 1, 1, 1, 1, 1, 1, 1, 1, 1, 1, 0, 1, 0, 0] Tryz.f8)), (.inLoop (aF [1, 1, 1, 1, 1, 1, 1, 1, 1, 1, 1, 1, 1, 1, 0, 1, 0, 0] Tryz.f8)), (.inBlock 4), (.code (aF [1, 1, 1, 1, 1, 1, 1, 1, 1, 1, 1, 1, 1, 1, 1] Tryz.f8))], mkT j [(2, (.e (.one (.ptr 0 0)))), (10, (iI u)), (23, (dQ R s)), (25, (iI t)), (259, (dQ B s)), (260, (iN s)), (261, (iN i))] 296 0⟩
def v41 (C N O _G _L _B R : List DT) (s n o _g i : Nat) (mg ms _x _y _z _a _e _bd _d _w _v u _q t _h : Int) (_hb _hc _fw : Bool) (j : JN) : St := ⟨[(bK (tQ C s N n mg ms O o) 5 71)], [(.code (aF [1, 1, 1, 1, 1, 1, 1, 1, 1, 1, 1, 1, 1, 1, 1, 0, 1, 0, 0] Tryz.f8)), (.inLoop (aF [1, 1, 1, 1, 1, 1, 1, 1, 1, 1, 1, 1, 1, 1, 1, 0, 1, 0, 0] Tryz.f8)), (.inBlock 6), (.code (aF [1, 1, 1, 1, 1, 1, 1, 1, 1, 1, 1, 1, 1, 1, 1, 1] Tryz.f8))], mkT j [(2, (.e (.one (.ptr 0 0)))), (10, (iI u)), (23, (dQ R s)), (25, (iI t)), (277, (iN n)), (278, (iN i))] 296 0⟩
def q8s_end (_C _N _O _G _L _B _R : List DT) (_s _n _o _g _i : Nat) (_mg _ms _x _y _z _a _e _bd _d _w _v _u _q _t _h : Int) (_hb _hc _fw : Bool) (j : JN) : St := ⟨[], [(.code .ret), (.code (aF [1, 1] Tryz.f8))], mkT j [(4, (iB true))] 296 0⟩
theorem q8s (hE : EnvOk E) (C N O G L B R : List DT) (s n o g i : Nat) (mg ms x y z a e bd d w v u q t h : Int) (hb hc fw : Bool) (h0 : COut E 0 [] 10 [] (iB true) []) (h4 : COut E 0 [] 33 [(tA C s N n mg ms O o)] (iB hb) []) (h8 : ((!hb) == false : Bool) = false) (h9 : ((!hb) == false : Bool) = false) (h10 : ((!hb) == false : Bool) = false) (h11 : (!hb : Bool) = true) (h12 : COut E 0 [] 10 [] (iB true) []) {Φ : Res → Prop} (ho : ∀ j, OutK E 0 0 (q8s_end C N O G L B R s n o g i mg ms x y z a e bd d w v u q t h hb hc fw j) Φ) (j : JN) : OutK E 0 0 (x8 C N O G L B R s n o g i mg ms x y z a e bd d w v u q t h hb hc fw j) Φ :=
 oS hE [.run 4, (.ops [(0, (.c0 (iB true))), (4, (.c0 (iB hb))), (6, (.pk false)), (11, (.pk true))] [(3, true), (4, true), (5, true), (8, false), (9, false), (10, false)]), .run 2, (.ops [(0, (.c0 (iB true)))] [])] [4] (s' := fun j => ⟨[(bK (tQ C s N n mg ms O o) 5 71), (bK [(.v (.int .i64 x)), (.dp (.s G g 1)), (.v (.int .i64 y)), (.v (.int .i64 z))] 4 73)], [(.code .ret), (.code (aF [1, 1] Tryz.f8))], mkT j [(4, (iB true))] 296 0⟩) (aP h0 <| aN <| aV <| aV <| aP h4 <| aN <| aV <| aP (rfl : (false : Bool) = false) <| aQ h8 h9 h10 h11 <| aP h12 <| aN <| aZ)
  fun j => gZ [] (ho j)
def q8f_end (_C _N _O _G _L _B _R : List DT) (_s _n _o _g _i : Nat) (_mg _ms _x _y _z _a _e _bd _d _w _v _u _q _t _h : Int) (_hb _hc _fw : Bool) (j : JN) : St := ⟨[], [(.code .ret), (.code (aF [1, 1] Tryz.f8))], mkT j [(4, (iB true))] 296 0⟩
theorem q8f (hE : EnvOk E) (C N O G L B R : List DT) (s n o g i : Nat) (mg ms x y z a e bd d w v u q t h : Int) (hb hc fw : Bool) (h0 : COut E 0 [] 10 [] (iB true) []) (h4 : COut E 0 [] 33 [(tA C s N n mg ms O o)] (iB hb) []) (h8 : ((!hb) == false : Bool) = true) (h9 : ((!hb) == false : Bool) = true) (h10 : COut E 0 [] 45 [(tA C s N n mg ms O o)] (iB fw) []) (h12 : ((!hb) == false : Bool) = true) (h13 : (!hb : Bool) = false) (h14 : ((!fw) == false : Bool) = false) (h15 : ((!fw) == false : Bool) = false) (h16 : ((!fw) == false : Bool) = false) (h17 : (!fw : Bool) = true) (h18 : COut E 0 [] 10 [] (iB true) []) {Φ : Res → Prop} (ho : ∀ j, OutK E 0 0 (q8f_end C N O G L B R s n o g i mg ms x y z a e bd d w v u q t h hb hc fw j) Φ) (j : JN) : OutK E 0 0 (x8 C N O G L B R s n o g i mg ms x y z a e bd d w v u q t h hb hc fw j) Φ :=
 oS hE [.run 4, (.ops [(0, (.c0 (iB true))), (4, (.c0 (iB hb))), (9, (.c0 (iB fw))), (6, (.pk false)), (11, (.pk false)), (16, (.pk true))] [(3, true), (4, true), (5, true), (8, true), (9, true), (10, true), (13, false), (14, false), (15, false)]), .run 2, (.ops [(0, (.c0 (iB true)))] [])] [4] (s' := fun j => ⟨[(bK (tQ C s N n mg ms O o) 5 71), (bK [(.v (.int .i64 x)), (.dp (.s G g 1)), (.v (.int .i64 y)), (.v (.int .i64 z))] 4 73)], [(.code .ret), (.code (aF [1, 1] Tryz.f8))], mkT j [(4, (iB true))] 296 0⟩) (aP h0 <| aN <| aV <| aV <| aP h4 <| aN <| aV <| aP (rfl : (false : Bool) = false) <| aP h8 <| aP h9 <| aP h10 <| aN <| aQ h12 h13 h14 h15 <| aP h16 <| aP h17 <| aP h18 <| aN <| aZ)
  fun j => gZ [] (ho j)
def q8b_end (_C _N _O _G _L _B _R : List DT) (_s _n _o _g _i : Nat) (_mg _ms _x _y _z _a _e _bd _d _w _v _u _q _t _h : Int) (_hb _hc _fw : Bool) (j : JN) : St := ⟨[], [(.code .ret), (.code (aF [1, 1] Tryz.f8))], mkT j [(4, (iB true))] 296 0⟩
theorem q8b (hE : EnvOk E) (C N O G L B R : List DT) (s n o g i : Nat) (mg ms x y z a e bd d w v u q t h : Int) (hb hc fw : Bool) (h0 : COut E 0 [] 10 [] (iB true) []) (h4 : COut E 0 [] 33 [(tA C s N n mg ms O o)] (iB hb) []) (h8 : ((!hb) == false : Bool) = true) (h9 : ((!hb) == false : Bool) = true) (h10 : COut E 0 [] 45 [(tA C s N n mg ms O o)] (iB fw) []) (h12 : ((!hb) == false : Bool) = true) (h13 : (!hb : Bool) = false) (h14 : ((!fw) == false : Bool) = true) (h15 : ((!fw) == false : Bool) = true) (h16 : COut E 0 [] 39 [(tA C s N n mg ms O o)] (iI bd) []) (h18 : ((!fw) == false : Bool) = true) (h19 : (!fw : Bool) = false) (h20 : ((bd != (0 : Int)) == false : Bool) = false) (h21 : ((bd != (0 : Int)) == false : Bool) = false) (h22 : ((bd != (0 : Int)) == false : Bool) = false) (h23 : ((bd != (0 : Int)) == false : Bool) = false) (h24 : (bd != (0 : Int) : Bool) = true) (h25 : COut E 0 [] 10 [] (iB true) []) {Φ : Res → Prop} (ho : ∀ j, OutK E 0 0 (q8b_end C N O G L B R s n o g i mg ms x y z a e bd d w v u q t h hb hc fw j) Φ) (j : JN) : OutK E 0 0 (x8 C N O G L B R s n o g i mg ms x y z a e bd d w v u q t h hb hc fw j) Φ :=
 oS hE [.run 4, (.ops [(0, (.c0 (iB true))), (4, (.c0 (iB hb))), (9, (.c0 (iB fw))), (14, (.c0 (iI bd))), (6, (.pk false)), (11, (.pk false)), (16, (.pk false)), (22, (.pk true))] [(3, true), (4, true), (5, true), (8, true), (9, true), (10, true), (13, true), (14, true), (15, true), (18, false), (19, false), (20, false), (21, false)]), .run 2, (.ops [(0, (.c0 (iB true)))] [])] [4] (s' := fun j => ⟨[(bK (tQ C s N n mg ms O o) 5 71), (bK [(.v (.int .i64 x)), (.dp (.s G g 1)), (.v (.int .i64 y)), (.v (.int .i64 z))] 4 73)], [(.code .ret), (.code (aF [1, 1] Tryz.f8))], mkT j [(4, (iB true))] 296 0⟩) (aP h0 <| aN <| aV <| aV <| aP h4 <| aN <| aV <| aP (rfl : (false : Bool) = false) <| aP h8 <| aP h9 <| aP h10 <| aN <| aQ h12 h13 h14 h15 <| aP h16 <| aN <| aQ h18 h19 h20 h21 <| aQ h22 h23 h24 h25 <| aN <| aZ)
  fun j => gZ [] (ho j)
def q8h_end (_C _N _O _G _L _B _R : List DT) (_s _n _o _g _i : Nat) (_mg _ms _x _y _z _a _e _bd _d _w _v _u _q _t _h : Int) (_hb _hc _fw : Bool) (j : JN) : St := ⟨[], [(.code .ret), (.code (aF [1, 1] Tryz.f8))], mkT j [(4, (iB true))] 296 0⟩
theorem q8h (hE : EnvOk E) (C N O G L B R : List DT) (s n o g i : Nat) (mg ms x y z a e bd d w v u q t h : Int) (hb hc fw : Bool) (h0 : COut E 0 [] 10 [] (iB true) []) (h4 : COut E 0 [] 33 [(tA C s N n mg ms O o)] (iB hb) []) (h8 : ((!hb) == false : Bool) = true) (h9 : ((!hb) == false : Bool) = true) (h10 : COut E 0 [] 45 [(tA C s N n mg ms O o)] (iB fw) []) (h12 : ((!hb) == false : Bool) = true) (h13 : (!hb : Bool) = false) (h14 : ((!fw) == false : Bool) = true) (h15 : ((!fw) == false : Bool) = true) (h16 : COut E 0 [] 39 [(tA C s N n mg ms O o)] (iI bd) []) (h18 : ((!fw) == false : Bool) = true) (h19 : (!fw : Bool) = false) (h20 : ((bd != (0 : Int)) == false : Bool) = true) (h21 : ((bd != (0 : Int)) == false : Bool) = true) (h22 : ((bd != (0 : Int)) == false : Bool) = true) (h23 : COut E 0 [] 34 [(dQ G g)] (iB hc) []) (h25 : ((bd != (0 : Int)) == false : Bool) = true) (h26 : (bd != (0 : Int) : Bool) = false) (h27 : ((!hc) == false : Bool) = false) (h28 : ((!hc) == false : Bool) = false) (h29 : ((!hc) == false : Bool) = false) (h30 : (!hc : Bool) = true) (h31 : COut E 0 [] 10 [] (iB true) []) {Φ : Res → Prop} (ho : ∀ j, OutK E 0 0 (q8h_end C N O G L B R s n o g i mg ms x y z a e bd d w v u q t h hb hc fw j) Φ) (j : JN) : OutK E 0 0 (x8 C N O G L B R s n o g i mg ms x y z a e bd d w v u q t h hb hc fw j) Φ :=
 oS hE [.run 4, (.ops [(0, (.c0 (iB true))), (4, (.c0 (iB hb))), (9, (.c0 (iB fw))), (14, (.c0 (iI bd))), (20, (.c0 (iB hc))), (6, (.pk false)), (11, (.pk false)), (16, (.pk false)), (22, (.pk false)), (27, (.pk true))] [(3, true), (4, true), (5, true), (8, true), (9, true), (10, true), (13, true), (14, true), (15, true), (18, true), (19, true), (20, true), (21, true), (24, false), (25, false), (26, false)]), .run 2, (.ops [(0, (.c0 (iB true)))] [])] [4] (s' := fun j => ⟨[(bK (tQ C s N n mg ms O o) 5 71), (bK [(.v (.int .i64 x)), (.dp (.s G g 1)), (.v (.int .i64 y)), (.v (.int .i64 z))] 4 73)], [(.code .ret), (.code (aF [1, 1] Tryz.f8))], mkT j [(4, (iB true))] 296 0⟩) (aP h0 <| aN <| aV <| aV <| aP h4 <| aN <| aV <| aP (rfl : (false : Bool) = false) <| aP h8 <| aP h9 <| aP h10 <| aN <| aQ h12 h13 h14 h15 <| aP h16 <| aN <| aQ h18 h19 h20 h21 <| aP h22 <| aP h23 <| aN <| aQ h25 h26 h27 h28 <| aP h29 <| aP h30 <| aP h31 <| aN <| aZ)
  fun j => gZ [] (ho j)
def q8l_end (_C _N _O _G _L _B _R : List DT) (_s _n _o _g _i : Nat) (_mg _ms _x _y _z _a _e _bd _d _w _v _u _q _t _h : Int) (_hb _hc _fw : Bool) (j : JN) : St := ⟨[], [(.code .ret), (.code (aF [1, 1] Tryz.f8))], mkT j [(4, (iB true))] 296 0⟩
theorem q8l (hE : EnvOk E) (C N O G L B R : List DT) (s n o g i : Nat) (mg ms x y z a e bd d w v u q t h : Int) (hb hc fw : Bool) (h0 : COut E 0 [] 10 [] (iB true) []) (h4 : COut E 0 [] 33 [(tA C s N n mg ms O o)] (iB hb) []) (h8 : ((!hb) == false : Bool) = true) (h9 : ((!hb) == false : Bool) = true) (h10 : COut E 0 [] 45 [(tA C s N n mg ms O o)] (iB fw) []) (h12 : ((!hb) == false : Bool) = true) (h13 : (!hb : Bool) = false) (h14 : ((!fw) == false : Bool) = true) (h15 : ((!fw) == false : Bool) = true) (h16 : COut E 0 [] 39 [(tA C s N n mg ms O o)] (iI bd) []) (h18 : ((!fw) == false : Bool) = true) (h19 : (!fw : Bool) = false) (h20 : ((bd != (0 : Int)) == false : Bool) = true) (h21 : ((bd != (0 : Int)) == false : Bool) = true) (h22 : ((bd != (0 : Int)) == false : Bool) = true) (h23 : COut E 0 [] 34 [(dQ G g)] (iB hc) []) (h25 : ((bd != (0 : Int)) == false : Bool) = true) (h26 : (bd != (0 : Int) : Bool) = false) (h27 : ((!hc) == false : Bool) = true) (h28 : ((!hc) == false : Bool) = true) (h29 : ((!hc) == false : Bool) = true) (h30 : (!hc : Bool) = false) (h31 : (decide (x < (0 : Int)) == false : Bool) = false) (h32 : (decide (x < (0 : Int)) == false : Bool) = false) (h33 : (decide (x < (0 : Int)) == false : Bool) = false) (h34 : (decide (x < (0 : Int)) == false : Bool) = false) (h35 : (decide (x < (0 : Int)) == false : Bool) = false) (h36 : (decide (x < (0 : Int)) == false : Bool) = false) (h37 : (decide (x < (0 : Int)) : Bool) = true) (h38 : COut E 0 [] 10 [] (iB true) []) {Φ : Res → Prop} (ho : ∀ j, OutK E 0 0 (q8l_end C N O G L B R s n o g i mg ms x y z a e bd d w v u q t h hb hc fw j) Φ) (j : JN) : OutK E 0 0 (x8 C N O G L B R s n o g i mg ms x y z a e bd d w v u q t h hb hc fw j) Φ :=
 oS hE [.run 4, (.ops [(0, (.c0 (iB true))), (4, (.c0 (iB hb))), (9, (.c0 (iB fw))), (14, (.c0 (iI bd))), (20, (.c0 (iB hc))), (6, (.pk false)), (11, (.pk false)), (16, (.pk false)), (22, (.pk false)), (27, (.pk false)), (35, (.pk true))] [(3, true), (4, true), (5, true), (8, true), (9, true), (10, true), (13, true), (14, true), (15, true), (18, true), (19, true), (20, true), (21, true), (24, true), (25, true), (26, true), (29, false), (30, false), (31, false), (32, false), (33, false), (34, false)]), .run 2, (.ops [(0, (.c0 (iB true)))] [])] [4] (s' := fun j => ⟨[(bK (tQ C s N n mg ms O o) 5 71), (bK [(.v (.int .i64 x)), (.dp (.s G g 1)), (.v (.int .i64 y)), (.v (.int .i64 z))] 4 73)], [(.code .ret), (.code (aF [1, 1] Tryz.f8))], mkT j [(4, (iB true))] 296 0⟩) (aP h0 <| aN <| aV <| aV <| aP h4 <| aN <| aV <| aP (rfl : (false : Bool) = false) <| aP h8 <| aP h9 <| aP h10 <| aN <| aQ h12 h13 h14 h15 <| aP h16 <| aN <| aQ h18 h19 h20 h21 <| aP h22 <| aP h23 <| aN <| aQ h25 h26 h27 h28 <| aQ h29 h30 h31 h32 <| aQ h33 h34 h35 h36 <| aP h37 <| aP h38 <| aN <| aZ)
  fun j => gZ [] (ho j)
def q8g_end (_C _N _O _G _L _B _R : List DT) (_s _n _o _g _i : Nat) (_mg _ms _x _y _z _a _e _bd _d _w _v _u _q _t _h : Int) (_hb _hc _fw : Bool) (j : JN) : St := ⟨[], [(.code .ret), (.code (aF [1, 1] Tryz.f8))], mkT j [(4, (iB true))] 296 0⟩
theorem q8g (hE : EnvOk E) (C N O G L B R : List DT) (s n o g i : Nat) (mg ms x y z a e bd d w v u q t h : Int) (hb hc fw : Bool) (h0 : COut E 0 [] 10 [] (iB true) []) (h4 : COut E 0 [] 33 [(tA C s N n mg ms O o)] (iB hb) []) (h8 : ((!hb) == false : Bool) = true) (h9 : ((!hb) == false : Bool) = true) (h10 : COut E 0 [] 45 [(tA C s N n mg ms O o)] (iB fw) []) (h12 : ((!hb) == false : Bool) = true) (h13 : (!hb : Bool) = false) (h14 : ((!fw) == false : Bool) = true) (h15 : ((!fw) == false : Bool) = true) (h16 : COut E 0 [] 39 [(tA C s N n mg ms O o)] (iI bd) []) (h18 : ((!fw) == false : Bool) = true) (h19 : (!fw : Bool) = false) (h20 : ((bd != (0 : Int)) == false : Bool) = true) (h21 : ((bd != (0 : Int)) == false : Bool) = true) (h22 : ((bd != (0 : Int)) == false : Bool) = true) (h23 : COut E 0 [] 34 [(dQ G g)] (iB hc) []) (h25 : ((bd != (0 : Int)) == false : Bool) = true) (h26 : (bd != (0 : Int) : Bool) = false) (h27 : ((!hc) == false : Bool) = true) (h28 : ((!hc) == false : Bool) = true) (h29 : ((!hc) == false : Bool) = true) (h30 : (!hc : Bool) = false) (h31 : (decide (x < (0 : Int)) == false : Bool) = true) (h32 : (decide (x < (0 : Int)) == false : Bool) = true) (h33 : (decide (x < (0 : Int)) == false : Bool) = true) (h34 : (decide (x < (0 : Int)) == false : Bool) = true) (h35 : (decide (x < (0 : Int)) == false : Bool) = true) (h36 : (decide (x < (0 : Int)) == false : Bool) = true) (h37 : (decide (x < (0 : Int)) : Bool) = false) (h38 : (decide (x ≥ (↑n : Int)) == false : Bool) = false) (h39 : (decide (x ≥ (↑n : Int)) == false : Bool) = false) (h40 : (decide (x ≥ (↑n : Int)) == false : Bool) = false) (h41 : (decide (x ≥ (↑n : Int)) == false : Bool) = false) (h42 : (decide (x ≥ (↑n : Int)) : Bool) = true) (h43 : COut E 0 [] 10 [] (iB true) []) {Φ : Res → Prop} (ho : ∀ j, OutK E 0 0 (q8g_end C N O G L B R s n o g i mg ms x y z a e bd d w v u q t h hb hc fw j) Φ) (j : JN) : OutK E 0 0 (x8 C N O G L B R s n o g i mg ms x y z a e bd d w v u q t h hb hc fw j) Φ :=
 oS hE [.run 4, (.ops [(0, (.c0 (iB true))), (4, (.c0 (iB hb))), (9, (.c0 (iB fw))), (14, (.c0 (iI bd))), (20, (.c0 (iB hc))), (6, (.pk false)), (11, (.pk false)), (16, (.pk false)), (22, (.pk false)), (27, (.pk false)), (33, (.d .len)), (35, (.pk false)), (41, (.pk true))] [(3, true), (4, true), (5, true), (8, true), (9, true), (10, true), (13, true), (14, true), (15, true), (18, true), (19, true), (20, true), (21, true), (24, true), (25, true), (26, true), (29, true), (30, true), (31, true), (32, true), (33, true), (34, true), (37, false), (38, false), (39, false), (40, false)]), .run 2, (.ops [(0, (.c0 (iB true)))] [])] [4] (s' := fun j => ⟨[(bK (tQ C s N n mg ms O o) 5 71), (bK [(.v (.int .i64 x)), (.dp (.s G g 1)), (.v (.int .i64 y)), (.v (.int .i64 z))] 4 73)], [(.code .ret), (.code (aF [1, 1] Tryz.f8))], mkT j [(4, (iB true))] 296 0⟩) (aP h0 <| aN <| aV <| aV <| aP h4 <| aN <| aV <| aP (rfl : (false : Bool) = false) <| aP h8 <| aP h9 <| aP h10 <| aN <| aQ h12 h13 h14 h15 <| aP h16 <| aN <| aQ h18 h19 h20 h21 <| aP h22 <| aP h23 <| aN <| aQ h25 h26 h27 h28 <| aQ h29 h30 h31 h32 <| aQ h33 h34 h35 h36 <| aQ h37 h38 h39 h40 <| aP h41 <| aP h42 <| aP h43 <| aN <| aZ)
  fun j => gZ [] (ho j)
def q8y0_end (_C _N _O _G _L _B _R : List DT) (_s _n _o _g _i : Nat) (_mg _ms _x _y _z _a _e _bd _d _w _v _u _q _t _h : Int) (_hb _hc _fw : Bool) (j : JN) : St := ⟨[], [(.code .ret), (.code (aF [1, 1] Tryz.f8))], mkT j [(4, (iB true))] 296 0⟩
theorem q8y0 (hE : EnvOk E) (C N O G L B R : List DT) (s n o g i : Nat) (mg ms x y z a e bd d w v u q t h : Int) (hb hc fw : Bool) (h0 : COut E 0 [] 10 [] (iB true) []) (h4 : COut E 0 [] 33 [(tA C s N n mg ms O o)] (iB hb) []) (h8 : ((!hb) == false : Bool) = true) (h9 : ((!hb) == false : Bool) = true) (h10 : COut E 0 [] 45 [(tA C s N n mg ms O o)] (iB fw) []) (h12 : ((!hb) == false : Bool) = true) (h13 : (!hb : Bool) = false) (h14 : ((!fw) == false : Bool) = true) (h15 : ((!fw) == false : Bool) = true) (h16 : COut E 0 [] 39 [(tA C s N n mg ms O o)] (iI bd) []) (h18 : ((!fw) == false : Bool) = true) (h19 : (!fw : Bool) = false) (h20 : ((bd != (0 : Int)) == false : Bool) = true) (h21 : ((bd != (0 : Int)) == false : Bool) = true) (h22 : ((bd != (0 : Int)) == false : Bool) = true) (h23 : COut E 0 [] 34 [(dQ G g)] (iB hc) []) (h25 : ((bd != (0 : Int)) == false : Bool) = true) (h26 : (bd != (0 : Int) : Bool) = false) (h27 : ((!hc) == false : Bool) = true) (h28 : ((!hc) == false : Bool) = true) (h29 : ((!hc) == false : Bool) = true) (h30 : (!hc : Bool) = false) (h31 : (decide (x < (0 : Int)) == false : Bool) = true) (h32 : (decide (x < (0 : Int)) == false : Bool) = true) (h33 : (decide (x < (0 : Int)) == false : Bool) = true) (h34 : (decide (x < (0 : Int)) == false : Bool) = true) (h35 : (decide (x < (0 : Int)) == false : Bool) = true) (h36 : (decide (x < (0 : Int)) == false : Bool) = true) (h37 : (decide (x < (0 : Int)) : Bool) = false) (h38 : (decide (x ≥ (↑n : Int)) == false : Bool) = true) (h39 : (decide (x ≥ (↑n : Int)) == false : Bool) = true) (h40 : (decide (x ≥ (↑n : Int)) == false : Bool) = true) (h41 : COut E 0 [] 41 [(iI y), (iI 0), (iI 10000000)] (iI d) []) (h43 : (decide (x ≥ (↑n : Int)) == false : Bool) = true) (h44 : (decide (x ≥ (↑n : Int)) : Bool) = false) (h45 : ((d != (0 : Int)) == false : Bool) = false) (h46 : ((d != (0 : Int)) == false : Bool) = false) (h47 : ((d != (0 : Int)) == false : Bool) = false) (h48 : ((d != (0 : Int)) == false : Bool) = false) (h49 : (d != (0 : Int) : Bool) = true) (h50 : COut E 0 [] 10 [] (iB true) []) {Φ : Res → Prop} (ho : ∀ j, OutK E 0 0 (q8y0_end C N O G L B R s n o g i mg ms x y z a e bd d w v u q t h hb hc fw j) Φ) (j : JN) : OutK E 0 0 (x8 C N O G L B R s n o g i mg ms x y z a e bd d w v u q t h hb hc fw j) Φ :=
 oS hE [.run 4, (.ops [(0, (.c0 (iB true))), (4, (.c0 (iB hb))), (9, (.c0 (iB fw))), (14, (.c0 (iI bd))), (20, (.c0 (iB hc))), (39, (.c0 (iI d))), (6, (.pk false)), (11, (.pk false)), (16, (.pk false)), (22, (.pk false)), (27, (.pk false)), (33, (.d .len)), (35, (.pk false)), (41, (.pk false)), (47, (.pk true))] [(3, true), (4, true), (5, true), (8, true), (9, true), (10, true), (13, true), (14, true), (15, true), (18, true), (19, true), (20, true), (21, true), (24, true), (25, true), (26, true), (29, true), (30, true), (31, true), (32, true), (33, true), (34, true), (37, true), (38, true), (39, true), (40, true), (43, false), (44, false), (45, false), (46, false)]), .run 2, (.ops [(0, (.c0 (iB true)))] [])] [4] (s' := fun j => ⟨[(bK (tQ C s N n mg ms O o) 5 71), (bK [(.v (.int .i64 x)), (.dp (.s G g 1)), (.v (.int .i64 y)), (.v (.int .i64 z))] 4 73)], [(.code .ret), (.code (aF [1, 1] Tryz.f8))], mkT j [(4, (iB true))] 296 0⟩) (aP h0 <| aN <| aV <| aV <| aP h4 <| aN <| aV <| aP (rfl : (false : Bool) = false) <| aP h8 <| aP h9 <| aP h10 <| aN <| aQ h12 h13 h14 h15 <| aP h16 <| aN <| aQ h18 h19 h20 h21 <| aP h22 <| aP h23 <| aN <| aQ h25 h26 h27 h28 <| aQ h29 h30 h31 h32 <| aQ h33 h34 h35 h36 <| aQ h37 h38 h39 h40 <| aP h41 <| aN <| aQ h43 h44 h45 h46 <| aQ h47 h48 h49 h50 <| aN <| aZ)
  fun j => gZ [] (ho j)
def q8z_end (_C _N _O _G _L _B _R : List DT) (_s _n _o _g _i : Nat) (_mg _ms _x _y _z _a _e _bd _d _w _v _u _q _t _h : Int) (_hb _hc _fw : Bool) (j : JN) : St := ⟨[], [(.code .ret), (.code (aF [1, 1] Tryz.f8))], mkT j [(4, (iB true))] 296 0⟩
theorem q8z (hE : EnvOk E) (C N O G L B R : List DT) (s n o g i : Nat) (mg ms x y z a e bd d w v u q t h : Int) (hb hc fw : Bool) (h0 : COut E 0 [] 10 [] (iB true) []) (h4 : COut E 0 [] 33 [(tA C s N n mg ms O o)] (iB hb) []) (h8 : ((!hb) == false : Bool) = true) (h9 : ((!hb) == false : Bool) = true) (h10 : COut E 0 [] 45 [(tA C s N n mg ms O o)] (iB fw) []) (h12 : ((!hb) == false : Bool) = true) (h13 : (!hb : Bool) = false) (h14 : ((!fw) == false : Bool) = true) (h15 : ((!fw) == false : Bool) = true) (h16 : COut E 0 [] 39 [(tA C s N n mg ms O o)] (iI bd) []) (h18 : ((!fw) == false : Bool) = true) (h19 : (!fw : Bool) = false) (h20 : ((bd != (0 : Int)) == false : Bool) = true) (h21 : ((bd != (0 : Int)) == false : Bool) = true) (h22 : ((bd != (0 : Int)) == false : Bool) = true) (h23 : COut E 0 [] 34 [(dQ G g)] (iB hc) []) (h25 : ((bd != (0 : Int)) == false : Bool) = true) (h26 : (bd != (0 : Int) : Bool) = false) (h27 : ((!hc) == false : Bool) = true) (h28 : ((!hc) == false : Bool) = true) (h29 : ((!hc) == false : Bool) = true) (h30 : (!hc : Bool) = false) (h31 : (decide (x < (0 : Int)) == false : Bool) = true) (h32 : (decide (x < (0 : Int)) == false : Bool) = true) (h33 : (decide (x < (0 : Int)) == false : Bool) = true) (h34 : (decide (x < (0 : Int)) == false : Bool) = true) (h35 : (decide (x < (0 : Int)) == false : Bool) = true) (h36 : (decide (x < (0 : Int)) == false : Bool) = true) (h37 : (decide (x < (0 : Int)) : Bool) = false) (h38 : (decide (x ≥ (↑n : Int)) == false : Bool) = true) (h39 : (decide (x ≥ (↑n : Int)) == false : Bool) = true) (h40 : (decide (x ≥ (↑n : Int)) == false : Bool) = true) (h41 : COut E 0 [] 41 [(iI y), (iI 0), (iI 10000000)] (iI d) []) (h43 : (decide (x ≥ (↑n : Int)) == false : Bool) = true) (h44 : (decide (x ≥ (↑n : Int)) : Bool) = false) (h45 : ((d != (0 : Int)) == false : Bool) = true) (h46 : ((d != (0 : Int)) == false : Bool) = true) (h47 : ((d != (0 : Int)) == false : Bool) = true) (h48 : COut E 0 [] 41 [(iI z), (iI 0), (iI 100000)] (iI v) []) (h50 : ((d != (0 : Int)) == false : Bool) = true) (h51 : (d != (0 : Int) : Bool) = false) (h52 : (v != (0 : Int) : Bool) = true) (h53 : COut E 0 [] 10 [] (iB true) []) {Φ : Res → Prop} (ho : ∀ j, OutK E 0 0 (q8z_end C N O G L B R s n o g i mg ms x y z a e bd d w v u q t h hb hc fw j) Φ) (j : JN) : OutK E 0 0 (x8 C N O G L B R s n o g i mg ms x y z a e bd d w v u q t h hb hc fw j) Φ :=
 oS hE [.run 4, (.ops [(0, (.c0 (iB true))), (4, (.c0 (iB hb))), (9, (.c0 (iB fw))), (14, (.c0 (iI bd))), (20, (.c0 (iB hc))), (39, (.c0 (iI d))), (45, (.c0 (iI v))), (6, (.pk false)), (11, (.pk false)), (16, (.pk false)), (22, (.pk false)), (27, (.pk false)), (33, (.d .len)), (35, (.pk false)), (41, (.pk false)), (47, (.pk false))] [(3, true), (4, true), (5, true), (8, true), (9, true), (10, true), (13, true), (14, true), (15, true), (18, true), (19, true), (20, true), (21, true), (24, true), (25, true), (26, true), (29, true), (30, true), (31, true), (32, true), (33, true), (34, true), (37, true), (38, true), (39, true), (40, true), (43, true), (44, true), (45, true), (46, true)]), (.cond true), .run 1, (.ops [(0, (.c0 (iB true)))] [])] [4] (s' := fun j => ⟨[(bK (tQ C s N n mg ms O o) 5 71), (bK [(.v (.int .i64 x)), (.dp (.s G g 1)), (.v (.int .i64 y)), (.v (.int .i64 z))] 4 73)], [(.code .ret), (.code (aF [1, 1] Tryz.f8))], mkT j [(4, (iB true))] 296 0⟩) (aP h0 <| aN <| aV <| aV <| aP h4 <| aN <| aV <| aP (rfl : (false : Bool) = false) <| aP h8 <| aP h9 <| aP h10 <| aN <| aQ h12 h13 h14 h15 <| aP h16 <| aN <| aQ h18 h19 h20 h21 <| aP h22 <| aP h23 <| aN <| aQ h25 h26 h27 h28 <| aQ h29 h30 h31 h32 <| aQ h33 h34 h35 h36 <| aQ h37 h38 h39 h40 <| aP h41 <| aN <| aQ h43 h44 h45 h46 <| aP h47 <| aP h48 <| aN <| aQ h50 h51 h52 h53 <| aN <| aZ)
  fun j => gZ [] (ho j)
def q8A_end (C N O G L _B _R : List DT) (s n o g _i : Nat) (mg ms x y z _a _e _bd _d w _v _u _q _t _h : Int) (_hb _hc _fw : Bool) (j : JN) : St := ⟨[(bK (tQ C s N n mg ms O o) 5 71), (bK [(.v (.int .i64 x)), (.dp (.s G g 1)), (.v (.int .i64 y)), (.v (.int .i64 z))] 4 73)], [(.code (aF [1, 1, 1, 1, 1, 1, 1, 0, 1, 0, 0] Tryz.f8)), (.inLoop (aF [1, 1, 1, 1, 1, 1, 1, 0, 1, 0, 0] Tryz.f8)), (.inBlock 0), (.code (aF [1, 1, 1, 1, 1, 1, 1, 1] Tryz.f8))], mkT j [(2, (.e (.one (.ptr 0 0)))), (3, (.e (.one (.ptr 1 0)))), (5, (dQ L s)), (6, (iI w)), (10, (iI 0)), (128, (dQ L s)), (129, (iN s)), (130, (iI 0))] 296 0⟩
theorem q8A (hE : EnvOk E) (C N O G L B R : List DT) (s n o g i : Nat) (mg ms x y z a e bd d w v u q t h : Int) (hb hc fw : Bool) (h0 : COut E 0 [] 10 [] (iB true) []) (h4 : COut E 0 [] 33 [(tA C s N n mg ms O o)] (iB hb) []) (h8 : ((!hb) == false : Bool) = true) (h9 : ((!hb) == false : Bool) = true) (h10 : COut E 0 [] 45 [(tA C s N n mg ms O o)] (iB fw) []) (h12 : ((!hb) == false : Bool) = true) (h13 : (!hb : Bool) = false) (h14 : ((!fw) == false : Bool) = true) (h15 : ((!fw) == false : Bool) = true) (h16 : COut E 0 [] 39 [(tA C s N n mg ms O o)] (iI bd) []) (h18 : ((!fw) == false : Bool) = true) (h19 : (!fw : Bool) = false) (h20 : ((bd != (0 : Int)) == false : Bool) = true) (h21 : ((bd != (0 : Int)) == false : Bool) = true) (h22 : ((bd != (0 : Int)) == false : Bool) = true) (h23 : COut E 0 [] 34 [(dQ G g)] (iB hc) []) (h25 : ((bd != (0 : Int)) == false : Bool) = true) (h26 : (bd != (0 : Int) : Bool) = false) (h27 : ((!hc) == false : Bool) = true) (h28 : ((!hc) == false : Bool) = true) (h29 : ((!hc) == false : Bool) = true) (h30 : (!hc : Bool) = false) (h31 : (decide (x < (0 : Int)) == false : Bool) = true) (h32 : (decide (x < (0 : Int)) == false : Bool) = true) (h33 : (decide (x < (0 : Int)) == false : Bool) = true) (h34 : (decide (x < (0 : Int)) == false : Bool) = true) (h35 : (decide (x < (0 : Int)) == false : Bool) = true) (h36 : (decide (x < (0 : Int)) == false : Bool) = true) (h37 : (decide (x < (0 : Int)) : Bool) = false) (h38 : (decide (x ≥ (↑n : Int)) == false : Bool) = true) (h39 : (decide (x ≥ (↑n : Int)) == false : Bool) = true) (h40 : (decide (x ≥ (↑n : Int)) == false : Bool) = true) (h41 : COut E 0 [] 41 [(iI y), (iI 0), (iI 10000000)] (iI d) []) (h43 : (decide (x ≥ (↑n : Int)) == false : Bool) = true) (h44 : (decide (x ≥ (↑n : Int)) : Bool) = false) (h45 : ((d != (0 : Int)) == false : Bool) = true) (h46 : ((d != (0 : Int)) == false : Bool) = true) (h47 : ((d != (0 : Int)) == false : Bool) = true) (h48 : COut E 0 [] 41 [(iI z), (iI 0), (iI 100000)] (iI v) []) (h50 : ((d != (0 : Int)) == false : Bool) = true) (h51 : (d != (0 : Int) : Bool) = false) (h52 : (v != (0 : Int) : Bool) = false) (h53 : COut E 0 [] 36 [(tA C s N n mg ms O o)] (tA C s N n mg ms O o) []) (h57 : COut E 0 [] 46 [(tA C s N n mg ms O o), (iI x), (iI y)] (.tup [(.one (.dp (.s L s 1))), (oI w), (oI 0)]) []) (h69 : (((↑s : Int) != (↑s : Int)) == false : Bool) = true) (h70 : (((↑s : Int) != (↑s : Int)) == false : Bool) = true) (h71 : ((↑s : Int) != (↑s : Int) : Bool) = false) (h72 : (decide (w < (0 : Int)) == false : Bool) = true) (h73 : (decide (w < (0 : Int)) == false : Bool) = true) (h74 : (decide (w < (0 : Int)) == false : Bool) = true) (h75 : (decide (w < (0 : Int)) == false : Bool) = true) (h76 : (decide (w < (0 : Int)) : Bool) = false) (h77 : (decide (w > y) : Bool) = false) (h78 : COut E 0 [] 36 [(tA C s N n mg ms O o)] (tA C s N n mg ms O o) []) (h80 : COut E 0 [] 37 [(dQ L s)] (dQ L s) []) (h84 : COut E 0 [] 35 [(tA C s N n mg ms O o), (iI x), (dQ L s)] (.tup [(oI w), (oI 0)]) []) (h89 : (w != w : Bool) = false) {Φ : Res → Prop} (ho : ∀ j, OutK E 0 0 (q8A_end C N O G L B R s n o g i mg ms x y z a e bd d w v u q t h hb hc fw j) Φ) (j : JN) : OutK E 0 0 (x8 C N O G L B R s n o g i mg ms x y z a e bd d w v u q t h hb hc fw j) Φ :=
 oS hE [.run 4, (.ops [(0, (.c0 (iB true))), (4, (.c0 (iB hb))), (9, (.c0 (iB fw))), (14, (.c0 (iI bd))), (20, (.c0 (iB hc))), (39, (.c0 (iI d))), (45, (.c0 (iI v))), (6, (.pk false)), (11, (.pk false)), (16, (.pk false)), (22, (.pk false)), (27, (.pk false)), (33, (.d .len)), (35, (.pk false)), (41, (.pk false)), (47, (.pk false))] [(3, true), (4, true), (5, true), (8, true), (9, true), (10, true), (13, true), (14, true), (15, true), (18, true), (19, true), (20, true), (21, true), (24, true), (25, true), (26, true), (29, true), (30, true), (31, true), (32, true), (33, true), (34, true), (37, true), (38, true), (39, true), (40, true), (43, true), (44, true), (45, true), (46, true)]), (.cond false), .run 2, (.ops [(1, (.c0 (tA C s N n mg ms O o))), (6, (.c0 (.tup [(.one (.dp (.s L s 1))), (oI w), (oI 0)])))] []), .run 2, (.ops [(4, (.d .len)), (7, (.d .len)), (9, (.pk false)), (13, (.pk false)), (19, (.pk false))] [(3, true), (4, true), (5, true), (6, true), (7, true), (8, true), (11, true), (12, true), (15, true), (16, true), (17, true), (18, true)]), (.cond false), .run 2, (.ops [(1, (.c0 (tA C s N n mg ms O o))), (5, (.c0 (dQ L s))), (6, (.c0 (.tup [(oI w), (oI 0)])))] []), .run 3, (.cond false), .run 5, (.ops [(1, (.d .len))] []), .run 2] [2, 3, 5, 6, 10, 128, 129, 130] (aP h0 <| aN <| aV <| aV <| aP h4 <| aN <| aV <| aP (rfl : (false : Bool) = false) <| aP h8 <| aP h9 <| aP h10 <| aN <| aQ h12 h13 h14 h15 <| aP h16 <| aN <| aQ h18 h19 h20 h21 <| aP h22 <| aP h23 <| aN <| aQ h25 h26 h27 h28 <| aQ h29 h30 h31 h32 <| aQ h33 h34 h35 h36 <| aQ h37 h38 h39 h40 <| aP h41 <| aN <| aQ h43 h44 h45 h46 <| aP h47 <| aP h48 <| aN <| aQ h50 h51 h52 h53 <| aN <| aV <| aV <| aP h57 <| aN <| aV <| aV <| aV <| aV <| aV <| aV <| aV <| aV <| aV <| aP (rfl : (false : Bool) = false) <| aQ h69 h70 h71 h72 <| aQ h73 h74 h75 h76 <| aP h77 <| aP h78 <| aN <| aP h80 <| aN <| aV <| aV <| aP h84 <| aN <| aV <| aV <| aV <| aP h89 <| aZ)
  ho
def q8n_end (C N O G L _B _R : List DT) (s n o g i : Nat) (mg ms x y z _a _e _bd _d w _v _u q _t _h : Int) (_hb _hc _fw : Bool) (j : JN) : St := ⟨[(bK (tQ C s N n mg ms O o) 5 71), (bK [(.v (.int .i64 x)), (.dp (.s G g 1)), (.v (.int .i64 y)), (.v (.int .i64 z))] 4 73)], [(.code (aF [1, 1, 1, 1, 1, 1, 1, 0, 1, 0, 0] Tryz.f8)), (.inLoop (aF [1, 1, 1, 1, 1, 1, 1, 0, 1, 0, 0] Tryz.f8)), (.inBlock 0), (.code (aF [1, 1, 1, 1, 1, 1, 1, 1] Tryz.f8))], mkT j [(2, (.e (.one (.ptr 0 0)))), (3, (.e (.one (.ptr 1 0)))), (5, (dQ L s)), (6, (iI w)), (10, (iI q)), (128, (dQ L s)), (129, (iN s)), (130, (iN (i + 1)))] 296 0⟩
theorem q8n (hE : EnvOk E) (C N O G L B R : List DT) (s n o g i : Nat) (mg ms x y z a e bd d w v u q t h : Int) (hb hc fw : Bool) (h0 : (decide (Int.ofNat i < Int.ofNat s) : Bool) = true) (h1 : (0 : Int) ≤ Int.ofNat i ∧ Int.ofNat i < (↑s : Int)) (h2 : ((Int.ofNat i).toNat * nat_lit 1 : Nat) = i) (h3 : (getL L i : Option DT) = (.some (.v (.int .i64 h)))) (h4 : (decide (h < (0 : Int)) == false : Bool) = true) (h5 : (decide (h < (0 : Int)) == false : Bool) = true) (h6 : (decide (h < (0 : Int)) : Bool) = false) (h7 : (decide (h > (6 : Int)) == false : Bool) = true) (h8 : (decide (h > (6 : Int)) == false : Bool) = true) (h9 : (decide (h > (6 : Int)) == false : Bool) = true) (h10 : (decide (h > (0 : Int)) == true : Bool) = true) (h11 : (decide (h > (0 : Int)) == true : Bool) = true) (h12 : (decide (h > (0 : Int)) == true : Bool) = true) (h13 : (decide (h > (0 : Int)) == true : Bool) = true) (h14 : COut E 0 [] 48 [(dQ O o), (iN i)] (iB false) []) (h16 : (decide (h > (6 : Int)) == false : Bool) = true) (h17 : (decide (h > (0 : Int)) : Bool) = true) (h18 : (decide (h > (6 : Int)) : Bool) = false) (h19 : ((iI (wrapF IntKind.i64 (u + h))) : AV) = (iI q)) (h20 : ((iI (wrapF IntKind.i64 (Int.ofNat i + (1 : Int)))) : AV) = (iN (i + 1))) {Φ : Res → Prop} (ho : ∀ j, OutK E 0 0 (q8n_end C N O G L B R s n o g i mg ms x y z a e bd d w v u q t h hb hc fw j) Φ) (j : JN) : OutK E 0 0 (v11 C N O G L B R s n o g i mg ms x y z a e bd d w v u q t h hb hc fw j) Φ :=
 oS hE [.run 3, (.cond true), .run 4, (.ops [(2, (.d (.ld (.v (.int .i64 h))))), (1, (.d (.ix i)))] []), .run 2, (.ops [(13, (.c0 (iB false))), (5, (.pk false)), (14, (.pk true)), (15, (.pk false))] [(3, true), (4, true), (7, true), (8, true), (9, true), (10, true), (11, true), (12, true), (13, true), (14, true)]), .run 2, (.ops [(2, (.rn (iI q)))] []), .run 1, (.ops [(0, (.rn (iN (i + 1))))] []), .run 1] [2, 3, 5, 6, 10, 128, 129, 130] (aQ h0 h1 h2 h3 <| aQ h4 h5 h6 h7 <| aQ h8 h9 h10 h11 <| aP h12 <| aP h13 <| aP h14 <| aN <| aQ h16 h17 h18 h19 <| aP h20 <| aZ)
  ho
def q8o_end (C N O G L _B _R : List DT) (s n o g i : Nat) (mg ms x y z _a _e _bd _d w _v _u q _t _h : Int) (_hb _hc _fw : Bool) (j : JN) : St := ⟨[(bK (tQ C s N n mg ms O o) 5 71), (bK [(.v (.int .i64 x)), (.dp (.s G g 1)), (.v (.int .i64 y)), (.v (.int .i64 z))] 4 73)], [(.code (aF [1, 1, 1, 1, 1, 1, 1, 0, 1, 0, 0] Tryz.f8)), (.inLoop (aF [1, 1, 1, 1, 1, 1, 1, 0, 1, 0, 0] Tryz.f8)), (.inBlock 0), (.code (aF [1, 1, 1, 1, 1, 1, 1, 1] Tryz.f8))], mkT j [(2, (.e (.one (.ptr 0 0)))), (3, (.e (.one (.ptr 1 0)))), (5, (dQ L s)), (6, (iI w)), (10, (iI q)), (128, (dQ L s)), (129, (iN s)), (130, (iN (i + 1)))] 296 0⟩
theorem q8o (hE : EnvOk E) (C N O G L B R : List DT) (s n o g i : Nat) (mg ms x y z a e bd d w v u q t h : Int) (hb hc fw : Bool) (h0 : (decide (Int.ofNat i < Int.ofNat s) : Bool) = true) (h1 : (0 : Int) ≤ Int.ofNat i ∧ Int.ofNat i < (↑s : Int)) (h2 : ((Int.ofNat i).toNat * nat_lit 1 : Nat) = i) (h3 : (getL L i : Option DT) = (.some (.v (.int .i64 h)))) (h4 : (decide (h < (0 : Int)) == false : Bool) = true) (h5 : (decide (h < (0 : Int)) == false : Bool) = true) (h6 : (decide (h < (0 : Int)) : Bool) = false) (h7 : (decide (h > (6 : Int)) == false : Bool) = true) (h8 : (decide (h > (6 : Int)) == false : Bool) = true) (h9 : (decide (h > (6 : Int)) == false : Bool) = true) (h10 : (decide (h > (0 : Int)) == true : Bool) = false) (h11 : (decide (h > (0 : Int)) == true : Bool) = false) (h12 : (decide (h > (0 : Int)) == true : Bool) = false) (h13 : (decide (h > (0 : Int)) == true : Bool) = false) (h14 : (decide (h > (6 : Int)) == false : Bool) = true) (h15 : (decide (h > (0 : Int)) : Bool) = false) (h16 : (decide (h > (6 : Int)) : Bool) = false) (h17 : ((iI (wrapF IntKind.i64 (u + h))) : AV) = (iI q)) (h18 : ((iI (wrapF IntKind.i64 (Int.ofNat i + (1 : Int)))) : AV) = (iN (i + 1))) {Φ : Res → Prop} (ho : ∀ j, OutK E 0 0 (q8o_end C N O G L B R s n o g i mg ms x y z a e bd d w v u q t h hb hc fw j) Φ) (j : JN) : OutK E 0 0 (v11 C N O G L B R s n o g i mg ms x y z a e bd d w v u q t h hb hc fw j) Φ :=
 oS hE [.run 3, (.cond true), .run 4, (.ops [(2, (.d (.ld (.v (.int .i64 h))))), (1, (.d (.ix i)))] []), .run 2, (.ops [(5, (.pk false)), (14, (.pk false)), (15, (.pk false))] [(3, true), (4, true), (7, true), (8, true), (9, true), (10, false), (11, false), (12, false), (13, false), (14, true)]), .run 2, (.ops [(2, (.rn (iI q)))] []), .run 1, (.ops [(0, (.rn (iN (i + 1))))] []), .run 1] [2, 3, 5, 6, 10, 128, 129, 130] (aQ h0 h1 h2 h3 <| aQ h4 h5 h6 h7 <| aQ h8 h9 h10 h11 <| aQ h12 h13 h14 h15 <| aP h16 <| aP h17 <| aP h18 <| aZ)
  ho
def q8e_end (C N O G L _B _R : List DT) (s n o g _i : Nat) (mg ms x y z _a _e _bd _d _w _v u _q _t _h : Int) (_hb _hc _fw : Bool) (j : JN) : St := ⟨[(bK (tQ C s N n mg ms O o) 5 71), (bK [(.v (.int .i64 x)), (.dp (.s G g 1)), (.v (.int .i64 y)), (.v (.int .i64 z))] 4 73)], [(.code (aF [1, 1, 1, 1, 1, 1, 1, 1, 1, 0] Tryz.f8)), (.code (aF [1, 1, 1, 1, 1, 1, 1, 1, 1, 1] Tryz.f8))], mkT j [(2, (.e (.one (.ptr 0 0)))), (3, (.e (.one (.ptr 1 0)))), (5, (dQ L s)), (10, (iI u))] 296 0⟩
theorem q8e (hE : EnvOk E) (C N O G L B R : List DT) (s n o g i : Nat) (mg ms x y z a e bd d w v u q t h : Int) (hb hc fw : Bool) (h0 : (decide (Int.ofNat i < Int.ofNat s) : Bool) = false) (h1 : COut E 0 [] 36 [(tA C s N n mg ms O o)] (tA C s N n mg ms O o) []) (h3 : COut E 0 [] 37 [(dQ G g)] (dQ G g) []) (h7 : COut E 0 [] 35 [(tA C s N n mg ms O o), (iI x), (dQ G g)] (.tup [(oI a), (oI e)]) []) (h12 : ((e == (0 : Int)) == true : Bool) = false) (h13 : ((e == (0 : Int)) == true : Bool) = false) (h14 : ((e == (0 : Int)) == true : Bool) = false) (h15 : ((e == (0 : Int)) == true : Bool) = false) (h16 : (e == (0 : Int) : Bool) = false) {Φ : Res → Prop} (ho : ∀ j, OutK E 0 0 (q8e_end C N O G L B R s n o g i mg ms x y z a e bd d w v u q t h hb hc fw j) Φ) (j : JN) : OutK E 0 0 (v11 C N O G L B R s n o g i mg ms x y z a e bd d w v u q t h hb hc fw j) Φ :=
 oS hE [.run 3, (.cond false), .run 3, (.ops [(1, (.c0 (tA C s N n mg ms O o))), (6, (.c0 (dQ G g))), (7, (.c0 (.tup [(oI a), (oI e)])))] []), .run 1, (.ops [(7, (.pk false))] [(3, false), (4, false), (5, false), (6, false)]), .run 3] [2, 3, 5, 10] (aP h0 <| aP h1 <| aN <| aP h3 <| aN <| aV <| aV <| aP h7 <| aN <| aV <| aV <| aV <| aQ h12 h13 h14 h15 <| aP h16 <| aZ)
  ho
def q8m_end (C N O G L _B _R : List DT) (s n o g _i : Nat) (mg ms x y z _a _e _bd _d _w _v u _q _t _h : Int) (_hb _hc _fw : Bool) (j : JN) : St := ⟨[(bK (tQ C s N n mg ms O o) 5 71), (bK [(.v (.int .i64 x)), (.dp (.s G g 1)), (.v (.int .i64 y)), (.v (.int .i64 z))] 4 73)], [(.code (aF [1, 1, 1, 1, 1, 1, 1, 1, 1, 0] Tryz.f8)), (.code (aF [1, 1, 1, 1, 1, 1, 1, 1, 1, 1] Tryz.f8))], mkT j [(2, (.e (.one (.ptr 0 0)))), (3, (.e (.one (.ptr 1 0)))), (5, (dQ L s)), (10, (iI u))] 296 0⟩
theorem q8m (hE : EnvOk E) (C N O G L B R : List DT) (s n o g i : Nat) (mg ms x y z a e bd d w v u q t h : Int) (hb hc fw : Bool) (h0 : (decide (Int.ofNat i < Int.ofNat s) : Bool) = false) (h1 : COut E 0 [] 36 [(tA C s N n mg ms O o)] (tA C s N n mg ms O o) []) (h3 : COut E 0 [] 37 [(dQ G g)] (dQ G g) []) (h7 : COut E 0 [] 35 [(tA C s N n mg ms O o), (iI x), (dQ G g)] (.tup [(oI a), (oI e)]) []) (h12 : ((e == (0 : Int)) == true : Bool) = true) (h13 : ((e == (0 : Int)) == true : Bool) = true) (h14 : ((e == (0 : Int)) == true : Bool) = true) (h15 : ((e == (0 : Int)) == true : Bool) = true) (h16 : (e == (0 : Int) : Bool) = true) (h17 : (decide (a ≤ y) : Bool) = false) {Φ : Res → Prop} (ho : ∀ j, OutK E 0 0 (q8m_end C N O G L B R s n o g i mg ms x y z a e bd d w v u q t h hb hc fw j) Φ) (j : JN) : OutK E 0 0 (v11 C N O G L B R s n o g i mg ms x y z a e bd d w v u q t h hb hc fw j) Φ :=
 oS hE [.run 3, (.cond false), .run 3, (.ops [(1, (.c0 (tA C s N n mg ms O o))), (6, (.c0 (dQ G g))), (7, (.c0 (.tup [(oI a), (oI e)])))] []), .run 1, (.ops [(7, (.pk true))] [(3, true), (4, true), (5, true), (6, true)]), (.cond false), .run 2] [2, 3, 5, 10] (aP h0 <| aP h1 <| aN <| aP h3 <| aN <| aV <| aV <| aP h7 <| aN <| aV <| aV <| aV <| aQ h12 h13 h14 h15 <| aP h16 <| aP h17 <| aZ)
  ho
def q8a_end (C N O G L _B _R : List DT) (s n o g _i : Nat) (mg ms x y z a _e _bd _d w _v u _q _t _h : Int) (_hb _hc _fw : Bool) (j : JN) : St := ⟨[(bK (tQ C s N n mg ms O o) 5 71), (bK [(.v (.int .i64 x)), (.dp (.s G g 1)), (.v (.int .i64 y)), (.v (.int .i64 z))] 4 73)], [(.code (aF [1, 1, 1, 1, 1, 1, 1, 1, 0, 1, 1, 0, 1, 0, 1, 0, 0] Tryz.f8)), (.inLoop (aF [1, 1, 1, 1, 1, 1, 1, 1, 0, 1, 1, 0, 1, 0, 1, 0, 0] Tryz.f8)), (.inBlock 2), (.code (aF [1, 1, 1, 1, 1, 1, 1, 1, 0, 1, 1, 0, 1, 1] Tryz.f8)), (.code (aF [1, 1, 1, 1, 1, 1, 1, 1, 1] Tryz.f8))], mkT j [(2, (.e (.one (.ptr 0 0)))), (3, (.e (.one (.ptr 1 0)))), (5, (dQ L s)), (6, (iI w)), (10, (iI u)), (13, (iI a)), (15, (iI 0)), (175, (dQ G g)), (176, (iN g)), (177, (iI 0))] 296 0⟩
theorem q8a (hE : EnvOk E) (C N O G L B R : List DT) (s n o g i : Nat) (mg ms x y z a e bd d w v u q t h : Int) (hb hc fw : Bool) (h0 : (decide (Int.ofNat i < Int.ofNat s) : Bool) = false) (h1 : COut E 0 [] 36 [(tA C s N n mg ms O o)] (tA C s N n mg ms O o) []) (h3 : COut E 0 [] 37 [(dQ G g)] (dQ G g) []) (h7 : COut E 0 [] 35 [(tA C s N n mg ms O o), (iI x), (dQ G g)] (.tup [(oI a), (oI e)]) []) (h12 : ((e == (0 : Int)) == true : Bool) = true) (h13 : ((e == (0 : Int)) == true : Bool) = true) (h14 : ((e == (0 : Int)) == true : Bool) = true) (h15 : ((e == (0 : Int)) == true : Bool) = true) (h16 : (e == (0 : Int) : Bool) = true) (h17 : (decide (a ≤ y) : Bool) = true) {Φ : Res → Prop} (ho : ∀ j, OutK E 0 0 (q8a_end C N O G L B R s n o g i mg ms x y z a e bd d w v u q t h hb hc fw j) Φ) (j : JN) : OutK E 0 0 (v11 C N O G L B R s n o g i mg ms x y z a e bd d w v u q t h hb hc fw j) Φ :=
 oS hE [.run 3, (.cond false), .run 3, (.ops [(1, (.c0 (tA C s N n mg ms O o))), (6, (.c0 (dQ G g))), (7, (.c0 (.tup [(oI a), (oI e)])))] []), .run 1, (.ops [(7, (.pk true))] [(3, true), (4, true), (5, true), (6, true)]), (.cond true), .run 4, (.ops [(2, (.d .len))] []), .run 2] [2, 3, 5, 6, 10, 13, 15, 175, 176, 177] (aP h0 <| aP h1 <| aN <| aP h3 <| aN <| aV <| aV <| aP h7 <| aN <| aV <| aV <| aV <| aQ h12 h13 h14 h15 <| aP h16 <| aP h17 <| aZ)
  ho
def q8t_end (C N O G L _B _R : List DT) (s n o g i : Nat) (mg ms x y z a _e _bd _d w _v u q _t _h : Int) (_hb _hc _fw : Bool) (j : JN) : St := ⟨[(bK (tQ C s N n mg ms O o) 5 71), (bK [(.v (.int .i64 x)), (.dp (.s G g 1)), (.v (.int .i64 y)), (.v (.int .i64 z))] 4 73)], [(.code (aF [1, 1, 1, 1, 1, 1, 1, 1, 0, 1, 1, 0, 1, 0, 1, 0, 0] Tryz.f8)), (.inLoop (aF [1, 1, 1, 1, 1, 1, 1, 1, 0, 1, 1, 0, 1, 0, 1, 0, 0] Tryz.f8)), (.inBlock 2), (.code (aF [1, 1, 1, 1, 1, 1, 1, 1, 0, 1, 1, 0, 1, 1] Tryz.f8)), (.code (aF [1, 1, 1, 1, 1, 1, 1, 1, 1] Tryz.f8))], mkT j [(2, (.e (.one (.ptr 0 0)))), (3, (.e (.one (.ptr 1 0)))), (5, (dQ L s)), (6, (iI w)), (10, (iI u)), (13, (iI a)), (15, (iI q)), (175, (dQ G g)), (176, (iN g)), (177, (iN (i + 1)))] 296 0⟩
theorem q8t (hE : EnvOk E) (C N O G L B R : List DT) (s n o g i : Nat) (mg ms x y z a e bd d w v u q t h : Int) (hb hc fw : Bool) (h0 : (decide (Int.ofNat i < Int.ofNat g) : Bool) = true) (h1 : (0 : Int) ≤ Int.ofNat i ∧ Int.ofNat i < (↑g : Int)) (h2 : ((Int.ofNat i).toNat * nat_lit 1 : Nat) = i) (h3 : (getL G i : Option DT) = (.some (.v (.int .i64 h)))) (h4 : ((iI (wrapF IntKind.i64 (t + h))) : AV) = (iI q)) (h5 : ((iI (wrapF IntKind.i64 (Int.ofNat i + (1 : Int)))) : AV) = (iN (i + 1))) {Φ : Res → Prop} (ho : ∀ j, OutK E 0 0 (q8t_end C N O G L B R s n o g i mg ms x y z a e bd d w v u q t h hb hc fw j) Φ) (j : JN) : OutK E 0 0 (v21 C N O G L B R s n o g i mg ms x y z a e bd d w v u q t h hb hc fw j) Φ :=
 oS hE [.run 3, (.cond true), .run 4, (.ops [(1, (.d (.ld (.v (.int .i64 h))))), (0, (.d (.ix i)))] []), (.ops [(2, (.rn (iI q)))] []), .run 1, (.ops [(0, (.rn (iN (i + 1))))] []), .run 1] [2, 3, 5, 6, 10, 13, 15, 175, 176, 177] (aQ h0 h1 h2 h3 <| aP h4 <| aP h5 <| aZ)
  ho
def q8u_end (C N O G L _B _R : List DT) (s n o g _i : Nat) (mg ms x y z _a _e _bd _d _w _v u _q _t _h : Int) (_hb _hc _fw : Bool) (j : JN) : St := ⟨[(bK (tQ C s N n mg ms O o) 5 71), (bK [(.v (.int .i64 x)), (.dp (.s G g 1)), (.v (.int .i64 y)), (.v (.int .i64 z))] 4 73)], [(.code (aF [1, 1, 1, 1, 1, 1, 1, 1, 1, 0] Tryz.f8)), (.code (aF [1, 1, 1, 1, 1, 1, 1, 1, 1, 1] Tryz.f8))], mkT j [(2, (.e (.one (.ptr 0 0)))), (3, (.e (.one (.ptr 1 0)))), (5, (dQ L s)), (10, (iI u))] 296 0⟩
theorem q8u (hE : EnvOk E) (C N O G L B R : List DT) (s n o g i : Nat) (mg ms x y z a e bd d w v u q t h : Int) (hb hc fw : Bool) (h0 : (decide (Int.ofNat i < Int.ofNat g) : Bool) = false) (h1 : (decide (t > u) == false : Bool) = true) (h2 : (decide (t > u) == false : Bool) = true) (h3 : (decide (t > u) == false : Bool) = true) (h4 : (decide (t > u) == false : Bool) = true) (h5 : ((t == u) == true : Bool) = false) (h6 : ((t == u) == true : Bool) = false) (h7 : ((t == u) == true : Bool) = false) (h8 : (decide (t > u) == false : Bool) = true) (h9 : (t == u : Bool) = false) (h10 : (decide (t > u) : Bool) = false) {Φ : Res → Prop} (ho : ∀ j, OutK E 0 0 (q8u_end C N O G L B R s n o g i mg ms x y z a e bd d w v u q t h hb hc fw j) Φ) (j : JN) : OutK E 0 0 (v21 C N O G L B R s n o g i mg ms x y z a e bd d w v u q t h hb hc fw j) Φ :=
 oS hE [.run 3, (.cond false), .run 2, (.ops [(11, (.pk false)), (12, (.pk false))] [(4, true), (5, true), (6, true), (7, true), (8, false), (9, false), (10, false), (11, true)]), .run 3] [2, 3, 5, 10] (aQ h0 h1 h2 h3 <| aQ h4 h5 h6 h7 <| aP h8 <| aP h9 <| aP h10 <| aZ)
  ho
def q8v_end (C N O G L _B _R : List DT) (s n o g _i : Nat) (mg ms x y z _a _e _bd _d _w _v u _q _t _h : Int) (_hb _hc _fw : Bool) (j : JN) : St := ⟨[(bK (tQ C s N n mg ms O o) 5 71), (bK [(.v (.int .i64 x)), (.dp (.s G g 1)), (.v (.int .i64 y)), (.v (.int .i64 z))] 4 73)], [(.code (aF [1, 1, 1, 1, 1, 1, 1, 1, 1, 0] Tryz.f8)), (.code (aF [1, 1, 1, 1, 1, 1, 1, 1, 1, 1] Tryz.f8))], mkT j [(2, (.e (.one (.ptr 0 0)))), (3, (.e (.one (.ptr 1 0)))), (5, (dQ L s)), (10, (iI u))] 296 0⟩
theorem q8v (hE : EnvOk E) (C N O G L B R : List DT) (s n o g i : Nat) (mg ms x y z a e bd d w v u q t h : Int) (hb hc fw : Bool) (h0 : (decide (Int.ofNat i < Int.ofNat g) : Bool) = false) (h1 : (decide (t > u) == false : Bool) = true) (h2 : (decide (t > u) == false : Bool) = true) (h3 : (decide (t > u) == false : Bool) = true) (h4 : (decide (t > u) == false : Bool) = true) (h5 : ((t == u) == true : Bool) = true) (h6 : ((t == u) == true : Bool) = true) (h7 : ((t == u) == true : Bool) = true) (h8 : (decide (t > u) == false : Bool) = true) (h9 : (t == u : Bool) = true) (h10 : (decide (t > u) : Bool) = false) (h11 : (decide (a < w) : Bool) = false) {Φ : Res → Prop} (ho : ∀ j, OutK E 0 0 (q8v_end C N O G L B R s n o g i mg ms x y z a e bd d w v u q t h hb hc fw j) Φ) (j : JN) : OutK E 0 0 (v21 C N O G L B R s n o g i mg ms x y z a e bd d w v u q t h hb hc fw j) Φ :=
 oS hE [.run 3, (.cond false), .run 2, (.ops [(11, (.pk true)), (12, (.pk false))] [(4, true), (5, true), (6, true), (7, true), (8, true), (9, true), (10, true), (11, true)]), (.cond false), .run 2] [2, 3, 5, 10] (aQ h0 h1 h2 h3 <| aQ h4 h5 h6 h7 <| aQ h8 h9 h10 h11 <| aZ)
  ho
def q8B_end (C N O _G _L B R : List DT) (s n o _g _i : Nat) (mg ms _x _y _z _a _e _bd _d _w _v u _q _t _h : Int) (_hb _hc _fw : Bool) (j : JN) : St := ⟨[(bK (tQ C s N n mg ms O o) 5 71)], [(.code (aF [1, 1, 1, 1, 1, 1, 1, 1, 1, 1, 1, 1, 1, 1, 0, 1, 0, 0] Tryz.f8)), (.inLoop (aF [1, 1, 1, 1, 1, 1, 1, 1, 1, 1, 1, 1, 1, 1, 0, 1, 0, 0] Tryz.f8)), (.inBlock 4), (.code (aF [1, 1, 1, 1, 1, 1, 1, 1, 1, 1, 1, 1, 1, 1, 1] Tryz.f8))], mkT j [(2, (.e (.one (.ptr 0 0)))), (10, (iI u)), (23, (dQ R s)), (25, (iI 0)), (259, (dQ B s)), (260, (iN s)), (261, (iI 0))] 296 0⟩
theorem q8B (hE : EnvOk E) (C N O G L B R : List DT) (s n o g i : Nat) (mg ms x y z a e bd d w v u q t h : Int) (hb hc fw : Bool) (h0 : COut E 0 [] 36 [(tA C s N n mg ms O o)] (tA C s N n mg ms O o) []) (h4 : COut E 0 [] 38 [(tA C s N n mg ms O o), (iI x), (iI y), (iI z)] (.tup [(oI h), (oI 0)]) []) (h9 : ((iI (wrapF IntKind.i64 (y + (10 : Int)))) : AV) = (iI d)) (h10 : COut E 0 [] 36 [(tA C s N n mg ms O o)] (tA C s N n mg ms O o) []) (h14 : COut E 0 [] 46 [(tA C s N n mg ms O o), (iI x), (iI (if d < (10000000 : Int) then d else (10000000 : Int)))] (.tup [(.one (.dp (.s B s 1))), (oI v), (oI 0)]) []) (h19 : COut E 0 [] 36 [(tA C s N n mg ms O o)] (tA C s N n mg ms O o) []) (h21 : COut E 0 [] 52 [(tA C s N n mg ms O o)] (.tup [(.one (.dp (.s R s 1))), (oI 0)]) []) (h32 : ((iI (wrapF IntKind.i64 ((1000 : Int) * u))) : AV) = (iI q)) (h35 : (decide (h < q) == false : Bool) = true) (h36 : (decide (h < q) == false : Bool) = true) (h37 : (decide (h < q) == false : Bool) = true) (h38 : (decide (h < q) == false : Bool) = true) (h39 : (decide (h < q) == false : Bool) = true) (h40 : (decide (h < q) : Bool) = false) (h41 : (((↑s : Int) != (↑s : Int)) == false : Bool) = true) (h42 : (((↑s : Int) != (↑s : Int)) == false : Bool) = true) (h43 : (((↑s : Int) != (↑s : Int)) == false : Bool) = true) (h44 : (((↑s : Int) != (↑s : Int)) == false : Bool) = true) (h45 : (((↑s : Int) != (↑s : Int)) == false : Bool) = true) (h46 : ((↑s : Int) != (↑s : Int) : Bool) = false) (h47 : ((↑s : Int) != (↑s : Int) : Bool) = false) {Φ : Res → Prop} (ho : ∀ j, OutK E 0 0 (q8B_end C N O G L B R s n o g i mg ms x y z a e bd d w v u q t h hb hc fw j) Φ) (j : JN) : OutK E 0 0 (v27 C N O G L B R s n o g i mg ms x y z a e bd d w v u q t h hb hc fw j) Φ :=
 oS hE [(.ops [(1, (.c0 (tA C s N n mg ms O o))), (8, (.c0 (.tup [(oI h), (oI 0)])))] []), .run 1, (.ops [(1, (.c0 (tA C s N n mg ms O o))), (6, (.rn (iI d))), (8, (.c0 (.tup [(.one (.dp (.s B s 1))), (oI v), (oI 0)])))] []), .run 1, (.ops [(1, (.c0 (tA C s N n mg ms O o))), (2, (.c0 (.tup [(.one (.dp (.s R s 1))), (oI 0)])))] []), .run 2, (.ops [(13, (.rn (iI q))), (5, (.pk false)), (9, (.pk false)), (15, (.pk false)), (18, (.d .len)), (20, (.d .len)), (22, (.pk false)), (25, (.d .len)), (27, (.d .len)), (29, (.pk false))] [(3, true), (4, true), (7, true), (8, true), (11, true), (12, true), (13, true), (14, true), (17, true), (18, true), (19, true), (20, true), (21, true), (24, true), (25, true), (26, true), (27, true), (28, true)]), (.cond false), .run 5, (.ops [(1, (.d .len))] []), .run 2] [2, 10, 23, 25, 259, 260, 261] (s' := fun j => ⟨[(bK (tQ C s N n mg ms O o) 5 71), (bK [(.v (.int .i64 x)), (.dp (.s G g 1)), (.v (.int .i64 y)), (.v (.int .i64 z))] 4 73)], [(.code (aF [1, 1, 1, 1, 1, 1, 1, 1, 1, 1, 1, 1, 1, 1, 0, 1, 0, 0] Tryz.f8)), (.inLoop (aF [1, 1, 1, 1, 1, 1, 1, 1, 1, 1, 1, 1, 1, 1, 0, 1, 0, 0] Tryz.f8)), (.inBlock 4), (.code (aF [1, 1, 1, 1, 1, 1, 1, 1, 1, 1, 1, 1, 1, 1, 1] Tryz.f8))], mkT j [(2, (.e (.one (.ptr 0 0)))), (10, (iI u)), (23, (dQ R s)), (25, (iI 0)), (259, (dQ B s)), (260, (iN s)), (261, (iI 0))] 296 0⟩) (aP h0 <| aN <| aV <| aV <| aP h4 <| aN <| aV <| aV <| aV <| aP h9 <| aP h10 <| aN <| aV <| aV <| aP h14 <| aN <| aV <| aV <| aV <| aP h19 <| aN <| aP h21 <| aN <| aV <| aV <| aP (rfl : (false : Bool) = false) <| aV <| aV <| aP (rfl : (false : Bool) = false) <| aV <| aV <| aV <| aP h32 <| aV <| aP (rfl : (false : Bool) = false) <| aQ h35 h36 h37 h38 <| aQ h39 h40 h41 h42 <| aQ h43 h44 h45 h46 <| aP h47 <| aZ)
  fun j => gZ [0] (ho j)
def q8i_end (C N O _G _L B R : List DT) (s n o _g i : Nat) (mg ms _x _y _z _a _e _bd _d _w _v u q _t _h : Int) (_hb _hc _fw : Bool) (j : JN) : St := ⟨[(bK (tQ C s N n mg ms O o) 5 71)], [(.code (aF [1, 1, 1, 1, 1, 1, 1, 1, 1, 1, 1, 1, 1, 1, 0, 1, 0, 0] Tryz.f8)), (.inLoop (aF [1, 1, 1, 1, 1, 1, 1, 1, 1, 1, 1, 1, 1, 1, 0, 1, 0, 0] Tryz.f8)), (.inBlock 4), (.code (aF [1, 1, 1, 1, 1, 1, 1, 1, 1, 1, 1, 1, 1, 1, 1] Tryz.f8))], mkT j [(2, (.e (.one (.ptr 0 0)))), (10, (iI u)), (23, (dQ R s)), (25, (iI q)), (259, (dQ B s)), (260, (iN s)), (261, (iN (i + 1)))] 296 0⟩
theorem q8i (hE : EnvOk E) (C N O G L B R : List DT) (s n o g i : Nat) (mg ms x y z a e bd d w v u q t h : Int) (hb hc fw : Bool) (h0 : (decide (Int.ofNat i < Int.ofNat s) : Bool) = true) (h1 : (0 : Int) ≤ Int.ofNat i ∧ Int.ofNat i < (↑s : Int)) (h2 : ((Int.ofNat i).toNat * nat_lit 1 : Nat) = i) (h3 : (getL B i : Option DT) = (.some (.v (.int .i64 h)))) (h4 : (decide (h < (0 : Int)) == false : Bool) = true) (h5 : (decide (h < (0 : Int)) == false : Bool) = true) (h6 : (decide (h < (0 : Int)) : Bool) = false) (h7 : (decide (h > (6 : Int)) : Bool) = false) (h8 : ((iI (wrapF IntKind.i64 (t + h))) : AV) = (iI q)) (h9 : ((iI (wrapF IntKind.i64 (Int.ofNat i + (1 : Int)))) : AV) = (iN (i + 1))) {Φ : Res → Prop} (ho : ∀ j, OutK E 0 0 (q8i_end C N O G L B R s n o g i mg ms x y z a e bd d w v u q t h hb hc fw j) Φ) (j : JN) : OutK E 0 0 (v34 C N O G L B R s n o g i mg ms x y z a e bd d w v u q t h hb hc fw j) Φ :=
 oS hE [.run 3, (.cond true), .run 4, (.ops [(1, (.d (.ld (.v (.int .i64 h))))), (0, (.d (.ix i)))] []), .run 2, (.ops [(5, (.pk false))] [(3, true), (4, true)]), (.cond false), .run 1, (.ops [(2, (.rn (iI q)))] []), .run 1, (.ops [(0, (.rn (iN (i + 1))))] []), .run 1] [2, 10, 23, 25, 259, 260, 261] (aQ h0 h1 h2 h3 <| aQ h4 h5 h6 h7 <| aP h8 <| aP h9 <| aZ)
  ho
def q8y_end (C N O _G _L _B R : List DT) (s n o _g _i : Nat) (mg ms _x _y _z _a _e _bd _d _w _v u _q t _h : Int) (_hb _hc _fw : Bool) (j : JN) : St := ⟨[(bK (tQ C s N n mg ms O o) 5 71)], [(.code (aF [1, 1, 1, 1, 1, 1, 1, 1, 1, 1, 1, 1, 1, 1, 1, 0, 1, 0, 0] Tryz.f8)), (.inLoop (aF [1, 1, 1, 1, 1, 1, 1, 1, 1, 1, 1, 1, 1, 1, 1, 0, 1, 0, 0] Tryz.f8)), (.inBlock 6), (.code (aF [1, 1, 1, 1, 1, 1, 1, 1, 1, 1, 1, 1, 1, 1, 1, 1] Tryz.f8))], mkT j [(2, (.e (.one (.ptr 0 0)))), (10, (iI u)), (23, (dQ R s)), (25, (iI t)), (277, (iN n)), (278, (iI 0))] 296 0⟩
theorem q8y (hE : EnvOk E) (C N O G L B R : List DT) (s n o g i : Nat) (mg ms x y z a e bd d w v u q t h : Int) (hb hc fw : Bool) (h0 : (decide (Int.ofNat i < Int.ofNat s) : Bool) = false) {Φ : Res → Prop} (ho : ∀ j, OutK E 0 0 (q8y_end C N O G L B R s n o g i mg ms x y z a e bd d w v u q t h hb hc fw j) Φ) (j : JN) : OutK E 0 0 (v34 C N O G L B R s n o g i mg ms x y z a e bd d w v u q t h hb hc fw j) Φ :=
 oS hE [.run 3, (.cond false), .run 3, (.ops [(2, (.d .len))] []), .run 2] [2, 10, 23, 25, 277, 278] (aP h0 <| aZ)
  ho
def q8p_end (C N O _G _L _B R : List DT) (s n o _g i : Nat) (mg ms _x _y _z _a _e _bd _d _w _v u _q t _h : Int) (_hb _hc _fw : Bool) (j : JN) : St := ⟨[(bK (tQ C s N n mg ms O o) 5 71)], [(.code (aF [1, 1, 1, 1, 1, 1, 1, 1, 1, 1, 1, 1, 1, 1, 1, 0, 1, 0, 0] Tryz.f8)), (.inLoop (aF [1, 1, 1, 1, 1, 1, 1, 1, 1, 1, 1, 1, 1, 1, 1, 0, 1, 0, 0] Tryz.f8)), (.inBlock 6), (.code (aF [1, 1, 1, 1, 1, 1, 1, 1, 1, 1, 1, 1, 1, 1, 1, 1] Tryz.f8))], mkT j [(2, (.e (.one (.ptr 0 0)))), (10, (iI u)), (23, (dQ R s)), (25, (iI t)), (277, (iN n)), (278, (iN (i + 1)))] 296 0⟩
theorem q8p (hE : EnvOk E) (C N O G L B R : List DT) (s n o g i : Nat) (mg ms x y z a e bd d w v u q t h : Int) (hb hc fw : Bool) (h0 : (decide (Int.ofNat i < Int.ofNat n) : Bool) = true) (h1 : COut E 0 [] 36 [(tA C s N n mg ms O o)] (tA C s N n mg ms O o) []) (h3 : COut E 0 [] 37 [(dQ R s)] (dQ R s) []) (h5 : COut E 0 [] 35 [(tA C s N n mg ms O o), (iN i), (dQ R s)] (.tup [(oI a), (oI 0)]) []) (h7 : ((iI (wrapF IntKind.i64 (Int.ofNat i + (1 : Int)))) : AV) = (iN (i + 1))) {Φ : Res → Prop} (ho : ∀ j, OutK E 0 0 (q8p_end C N O G L B R s n o g i mg ms x y z a e bd d w v u q t h hb hc fw j) Φ) (j : JN) : OutK E 0 0 (v41 C N O G L B R s n o g i mg ms x y z a e bd d w v u q t h hb hc fw j) Φ :=
 oS hE [.run 3, (.cond true), .run 6, (.ops [(1, (.c0 (tA C s N n mg ms O o))), (4, (.c0 (dQ R s))), (5, (.c0 (.tup [(oI a), (oI 0)])))] []), .run 5, (.ops [(0, (.rn (iN (i + 1))))] []), .run 1] [2, 10, 23, 25, 277, 278] (aP h0 <| aP h1 <| aN <| aP h3 <| aN <| aP h5 <| aN <| aP h7 <| aZ)
  ho
def q8x_end (_C _N _O _G _L _B _R : List DT) (_s _n _o _g _i : Nat) (_mg _ms _x _y _z _a _e _bd _d _w _v u _q t _h : Int) (_hb _hc _fw : Bool) (j : JN) : St := ⟨[], [(.code .ret)], mkT j [(4, (iB (decide (t ≥ u))))] 296 0⟩
theorem q8x (hE : EnvOk E) (C N O G L B R : List DT) (s n o g i : Nat) (mg ms x y z a e bd d w v u q t h : Int) (hb hc fw : Bool) (h0 : (decide (Int.ofNat i < Int.ofNat n) : Bool) = false) {Φ : Res → Prop} (ho : ∀ j, OutK E 0 0 (q8x_end C N O G L B R s n o g i mg ms x y z a e bd d w v u q t h hb hc fw j) Φ) (j : JN) : OutK E 0 0 (v41 C N O G L B R s n o g i mg ms x y z a e bd d w v u q t h hb hc fw j) Φ :=
 oS hE [.run 3, (.cond false), .run 3] [4] (s' := fun j => ⟨[(bK (tQ C s N n mg ms O o) 5 71)], [(.code .ret)], mkT j [(4, (iB (decide (t ≥ u))))] 296 0⟩) (aP h0 <| aZ)
  fun j => gZ [] (ho j)
open Best
theorem firstI_z : ∀ {l : List Int}, firstI l = 0 → ∀ x ∈ l, x = 0
 | [], _, x, hx => by simp at hx
 | a :: r, h, x, hx => by
  have h' : (if a = 0 then firstI r else a) = 0 := h
  by_cases c : a = 0
  ·rw [if_pos c] at h'
   rcases List.mem_cons.1 hx with rfl | hx
   ·exact c
   ·exact firstI_z h' x hx
  ·rw [if_neg c] at h'; exact absurd h' c
theorem parts_z {n : Int} : ∀ {L : List (List Int)}, parsE n L = 0 → ∀ r ∈ L, parE n r = 0
 | [], _, r, hr => by simp at hr
 | a :: l, h, r, hr => by
  have h' : (if parE n a = 0 then parsE n l else parE n a) = 0 := h
  by_cases c : parE n a = 0
  ·rw [if_pos c] at h'
   rcases List.mem_cons.1 hr with rfl | hr
   ·exact c
   ·exact parts_z h' r hr
  ·rw [if_neg c] at h'; exact absurd h' c
theorem par_z {n : Int} {r : List Int} (h : parE n r = 0) : (r.length : Int) = n ∧ ∀ x ∈ r, 1 ≤ x ∧ x ≤ 1000000 := by
 unfold parE at h
 by_cases c : (r.length : Int) = n
 ·rw [if_pos c] at h; exact ⟨c, each_0 h⟩
 ·rw [if_neg c] at h; exact absurd h (by decide)
theorem many_z {n : Nat} {e : Int} (h : (if n = 0 then 12 else if (n : Int) > 8 then 5 else e) = 0) : (0 < n ∧ n ≤ 8) ∧ e = 0 := by
 by_cases a : n = 0
 ·rw [if_pos a] at h; exact absurd h (by decide)
 ·rw [if_neg a] at h
  by_cases b : (n : Int) > 8
  ·rw [if_pos b] at h; exact absurd h (by decide)
  ·rw [if_neg b] at h; exact ⟨by omega, h⟩
theorem ton_z {sg : List Int} {ns : List (List Int)} {mg ms : Int} {nt : List Int} (h : tonE sg ns mg ms nt = 0) : TonesOk sg ns mg ms nt ∧ sg.length ≤ 8 := by
 have hz := firstI_z (show firstI [someE 0 1000000000 8 sg, noiE sg.length ns, rg mg 1 100, rg ms 1 1000000, ascE sg.length minI nt] = 0 from h)
 have a := many_z (e := eachE 0 1000000000 sg) (hz (someE 0 1000000000 8 sg) (by simp))
 have b := many_z (e := parsE sg.length ns) (hz (noiE sg.length ns) (by simp))
 have c := rg_00 (hz (rg mg 1 100) (by simp))
 refine ⟨⟨fun p r hr => ?_, b.1⟩, a.1.2⟩
 have d := par_z (parts_z b.2 r (List.mem_of_getElem? hr))
 exact ⟨hr, by omega, c, d.2, each_0 a.2, a.1⟩
theorem ix_z {x : Int} {n : Nat} (h : ixE x n = 0) : ∃ p : Nat, x = Int.ofNat p ∧ p < n := by
 unfold ixE at h
 by_cases c : x < 0 ∨ (n : Int) ≤ x
 ·rw [if_pos c] at h; exact absurd h (by decide)
 ·obtain ⟨p, rfl⟩ := Int.eq_ofNat_of_zero_le (show 0 ≤ x by omega)
  exact ⟨p, rfl, by omega⟩
theorem bits_z {n : Nat} {us : List Int} (h : bitsE n us = 0) : us.length = n ∧ ∀ x ∈ us, 0 ≤ x ∧ x ≤ 6 := by
 unfold bitsE at h
 by_cases c : us.length = n
 ·rw [if_pos c] at h; exact ⟨c, each_0 h⟩
 ·rw [if_neg c] at h; exact absurd h (by decide)
theorem cm_bits {sg : List Int} {ns : List (List Int)} {mg ms : Int} {nt : List Int} {x : Int} {us : List Int} (h : topE sg ns mg ms nt x = 0) : cmE sg ns mg ms nt x us = bitsE sg.length us := by
 unfold cmE bitsE
 rw [firstI_or, orE_z h, firstI_or, firstI_or]
 by_cases c : us.length = sg.length
 ·rw [if_pos c, c]
  have : fI (((sg.length : Int)) != (sg.length : Int)) 2 = 0 := by rw [bne_self_eq_false]; rfl
  rw [orE_z this]; exact orE_0 _
 ·rw [if_neg c]
  have : fI (((us.length : Int)) != (sg.length : Int)) 2 = 2 := by
   have : ((us.length : Int) != (sg.length : Int)) = true := bne_iff_ne.2 (by omega)
   rw [this]; rfl
  rw [this]; exact orE_n (by decide)
theorem cm_app {f : Nat → List Int} {b : Nat} : ∀ (us : List Int) (i : Nat) (a v : Int), cmF f i us a = (v, 0) → b < (f (i + us.length)).length → cmF f i (us ++ [Int.ofNat b]) a = (v + ((f (i + us.length))[b]?).getD 0, 0)
 | [], i, a, v, h, hb => by
  have e : a = v := congrArg Prod.fst h
  subst e
  show (if (f i).length ≤ b then (0, 20) else (a + ((f i)[b]?).getD 0, 0)) = _
  rw [if_neg (by simp only [List.length_nil, Nat.add_zero] at hb; omega)]
  rfl
 | x :: us, i, a, v, h, hb => by
  rw [List.cons_append]
  unfold cmF at h ⊢
  by_cases c : (f i).length ≤ x.toNat
  ·rw [if_pos c] at h
   exact absurd (congrArg Prod.snd h) (by show ¬((20 : Int) = 0); decide)
  ·rw [if_neg c] at h ⊢
   rw [List.length_cons, ← Nat.add_assoc, Nat.add_right_comm] at hb ⊢
   exact cm_app us (i + 1) _ v h hb
theorem cm_all {f : Nat → List Int} : ∀ i, ∀ m ∈ allM (tab f i), cmF f 0 m.1 0 = (m.2, 0)
 | 0, m, hm => by rw [List.mem_singleton.1 hm]; rfl
 | i + 1, m, hm => by
  rw [all_tab] at hm
  obtain ⟨q, hq, b, hb, rfl⟩ := mem_ext.1 hm
  have hl := (all_ord f i).2 q hq
  have := cm_app q.1 0 0 q.2 (cm_all i q hq) (b := b) (by rw [Nat.zero_add, hl]; exact hb)
  rw [Nat.zero_add, hl] at this
  exact this
theorem el_all {f : Nat → List Int} : ∀ i, (∀ k, k < i → (f k).length ≤ 7) → ∀ m ∈ allM (tab f i), ∀ x ∈ m.1, 0 ≤ x ∧ x ≤ 6
 | 0, _, m, hm, x, hx => by rw [List.mem_singleton.1 hm] at hx; exact absurd hx (by simp)
 | i + 1, h, m, hm, x, hx => by
  rw [all_tab] at hm
  obtain ⟨q, hq, b, hb, rfl⟩ := mem_ext.1 hm
  have h7 := h i (by omega)
  rcases List.mem_append.1 hx with c | c
  ·exact el_all i (fun k hk => h k (by omega)) q hq x c
  ·rw [List.mem_singleton.1 c]; simp only [Int.ofNat_eq_natCast]; omega
theorem cm_back {f : Nat → List Int} : ∀ (us : List Int) (i : Nat) (a b v : Int), 0 ≤ b → cmF f i (us ++ [b]) a = (v, 0) → ∃ w, cmF f i us a = (w, 0) ∧ b.toNat < (f (i + us.length)).length ∧ v = w + ((f (i + us.length))[b.toNat]?).getD 0
 | [], i, a, b, v, hb, h => by
  have h : (if (f i).length ≤ b.toNat then ((0, 20) : Int × Int) else (a + ((f i)[b.toNat]?).getD 0, 0)) = (v, 0) := h
  by_cases c : (f i).length ≤ b.toNat
  ·rw [if_pos c] at h; exact absurd (congrArg Prod.snd h) (by show ¬((20 : Int) = 0); decide)
  ·rw [if_neg c] at h
   exact ⟨a, rfl, by simpa using c, (congrArg Prod.fst h).symm⟩
 | x :: us, i, a, b, v, hb, h => by
  rw [List.cons_append] at h
  unfold cmF at h ⊢
  by_cases c : (f i).length ≤ x.toNat
  ·rw [if_pos c] at h; exact absurd (congrArg Prod.snd h) (by show ¬((20 : Int) = 0); decide)
  ·rw [if_neg c] at h ⊢
   have := cm_back us (i + 1) _ b v hb h
   rw [List.length_cons, ← Nat.add_assoc, Nat.add_right_comm]
   exact this
theorem cm_mem {f : Nat → List Int} : ∀ (n : Nat) (us : List Int) (v : Int), us.length = n → (∀ x ∈ us, 0 ≤ x) → cmF f 0 us 0 = (v, 0) → (us, v) ∈ allM (tab f n)
 | 0, us, v, hl, _, h => by
  obtain rfl := List.length_eq_zero_iff.1 hl
  obtain rfl : (0 : Int) = v := congrArg Prod.fst h
  exact List.mem_singleton.2 rfl
 | n + 1, us, v, hl, hp, h => by
  have hne : us ≠ [] := fun a => by rw [a] at hl; simp at hl
  rw [← List.dropLast_concat_getLast hne] at h hl hp ⊢
  generalize us.dropLast = L at h hl hp ⊢
  generalize us.getLast hne = b at h hl hp ⊢
  have hl : L.length = n := by simpa using hl
  have hb := hp b (by simp)
  obtain ⟨w, h1, h2, h3⟩ := cm_back L 0 0 b v hb h
  rw [Nat.zero_add, hl] at h2 h3
  have ih := cm_mem n L w hl (fun x hx => hp x (by simp [hx])) h1
  rw [all_tab]
  refine mem_ext.2 ⟨(L, w), ih, b.toNat, h2, ?_⟩
  rw [show Int.ofNat b.toNat = b by simp only [Int.ofNat_eq_natCast]; omega, h3]
theorem all_in {f : Nat → List Int} : ∀ n, ∀ m ∈ allM (tab f n), ∀ k x, m.1[k]? = some x → 0 ≤ x ∧ x.toNat < (f k).length
 | 0, m, hm, k, x, hx => by rw [List.mem_singleton.1 hm] at hx; exact absurd hx (by simp)
 | n + 1, m, hm, k, x, hx => by
  rw [all_tab] at hm
  obtain ⟨q, hq, b, hb, rfl⟩ := mem_ext.1 hm
  have hl := (all_ord f n).2 q hq
  have hx : (q.1 ++ [Int.ofNat b])[k]? = some x := hx
  by_cases c : k < n
  ·rw [List.getElem?_append_left (by omega)] at hx
   exact all_in n q hq k x hx
  ·have hk := (List.getElem?_eq_some_iff.1 hx).1
   rw [List.length_append, List.length_singleton] at hk
   obtain rfl : k = n := by omega
   rw [List.getElem?_append_right (by omega), hl, Nat.sub_self] at hx
   have hx : some (Int.ofNat b) = some x := hx
   injection hx with hx
   subst hx
   exact ⟨by simp, by simpa using hb⟩
theorem wor_ge {pr : Int} : ∀ (L : List Int) (b : Nat) (a : Int), a ≤ worF pr b L a
 | [], _, _ => Int.le_refl _
 | q :: r, b, a => by
  unfold worF
  refine Int.le_trans ?_ (wor_ge r (b + 1) _)
  unfold mx; split <;> omega
theorem wor_at {pr : Int} : ∀ (L : List Int) (b : Nat) (a : Int) (k : Nat) (q : Int), L[k]? = some q → 1000 * Int.ofNat (b + k) - pr * q ≤ worF pr b L a
 | [], _, _, _, _, h => absurd h (by simp)
 | q :: r, b, a, 0, x, h => by
  have h : some q = some x := h
  injection h with h
  subst h
  unfold worF
  refine Int.le_trans ?_ (wor_ge r (b + 1) _)
  rw [Nat.add_zero]
  unfold mx; split <;> omega
 | q :: r, b, a, k + 1, x, h => by
  unfold worF
  have := wor_at (pr := pr) r (b + 1) (mx a (1000 * Int.ofNat b - pr * q)) k x h
  rw [Nat.add_right_comm] at this
  exact this
theorem bnd_app {pr : Int} {f : Nat → List Int} : ∀ (m i : Nat) (a : Int), bndF pr f i (m + 1) a = bndF pr f i m a + worF pr 0 (f (i + m)) 0
 | 0, _, _ => rfl
 | m + 1, i, a => by
  have := bnd_app (pr := pr) (f := f) m (i + 1) (a + worF pr 0 (f i) 0)
  rw [Nat.add_right_comm] at this
  exact this
theorem bnd_all {pr : Int} {f : Nat → List Int} (a : Int) : ∀ n, ∀ m ∈ allM (tab f n), a + 1000 * tot m.1 - pr * m.2 ≤ bndF pr f 0 n a
 | 0, m, hm => by
  rw [List.mem_singleton.1 hm]
  show a + 1000 * 0 - pr * 0 ≤ a
  rw [Int.mul_zero, Int.mul_zero]; omega
 | n + 1, m, hm => by
  rw [all_tab] at hm
  obtain ⟨q, hq, b, hb, rfl⟩ := mem_ext.1 hm
  have h1 := bnd_all (pr := pr) a n q hq
  have e := List.getElem?_eq_getElem hb
  have h2 := wor_at (pr := pr) (f n) 0 0 b _ e
  rw [bnd_app, Nat.zero_add]
  show a + 1000 * tot (q.1 ++ [Int.ofNat b]) - pr * (q.2 + ((f n)[b]?).getD 0) ≤ _
  rw [Nat.zero_add] at h2
  rw [tot_app, e, Option.getD_some, Int.mul_add pr]
  omega
theorem rob_le {W : Nat → Nat → Int} (c : Nat) : ∀ (k p : Nat), p < k → rob W k c ≤ W p c
 | 0, p, h => absurd h (by omega)
 | k + 1, p, h => by
  show mn (rob W k c) (W k c) ≤ _
  by_cases e : p = k
  ·subst e; unfold mn; split <;> omega
  ·have := rob_le (W := W) c k p (by omega)
   unfold mn; split <;> omega
theorem rob_nn {W : Nat → Nat → Int} (c : Nat) (h : ∀ p, 0 ≤ W p c) : ∀ k, 0 ≤ rob W k c
 | 0 => h 0
 | k + 1 => by
  have := rob_nn c h k
  have := h k
  show 0 ≤ mn (rob W k c) (W k c)
  unfold mn; split <;> omega
theorem cm_tab {f : Nat → List Int} {g : Nat → Int} : ∀ n, (∀ c, c < n → 0 ≤ g c ∧ (g c).toNat < (f c).length) → ∃ v, cmF f 0 (tab g n) 0 = (v, 0)
 | 0, _ => ⟨0, rfl⟩
 | n + 1, h => by
  obtain ⟨v, hv⟩ := cm_tab n fun c hc => h c (by omega)
  obtain ⟨h0, h1⟩ := h n (by omega)
  have := cm_app (tab g n) 0 0 v hv (b := (g n).toNat) (by rw [Nat.zero_add, tab_len]; exact h1)
  rw [show Int.ofNat (g n).toNat = g n by simp only [Int.ofNat_eq_natCast]; omega] at this
  exact ⟨_, this⟩
structure Bst (f : Nat → List Int) (n : Nat) (bud : Int) (s : List Int × Int × Int) : Prop where
 mem : (s.1, s.2.1) ∈ allM (tab f n)
 le : s.2.1 ≤ bud
 win : ∀ m ∈ allM (tab f n), m.2 ≤ bud → tot m.1 < tot s.1 ∨ tot m.1 = tot s.1 ∧ s.2.1 ≤ m.2
theorem bst_of {f : Nat → List Int} {n : Nat} (h0 : ∀ i, i < n → (f i)[0]? = some 0) {bud : Int} (hb : 0 ≤ bud) : Bst f n bud (scan bud (allM (tab f n)) ([], 0, -1)) := by
 obtain ⟨hw, hs⟩ := scan_win bud (allM (tab f n)) [] ([], 0, -1) (all_ord f n).1 tot_nn (fun m hm => by simp at hm) (.inl rfl)
 rw [List.nil_append] at hw hs
 generalize scan bud (allM (tab f n)) ([], 0, -1) = s at hw hs
 obtain ⟨z, hz, z1, z2⟩ := all_zero h0 n (Nat.le_refl _)
 rcases hs with hs | ⟨a1, a2, a3⟩
 ·have := hw z hz (by omega)
  rw [z1, hs] at this
  omega
 ·refine ⟨a1, a2, fun m hm hb => ?_⟩
  rcases hw m hm hb with g | ⟨g, k⟩
  ·exact .inl (by omega)
  ·refine .inr ⟨by omega, ?_⟩
   rcases k with k | ⟨k, _⟩
   ·exact Int.le_of_lt k
   ·exact Int.le_of_eq k
theorem each_ok {lo hi : Int} : ∀ {l : List Int}, (∀ x ∈ l, lo ≤ x ∧ x ≤ hi) → eachE lo hi l = 0
 | [], _ => rfl
 | x :: r, h => by
  show (if rg x lo hi = 0 then eachE lo hi r else rg x lo hi) = 0
  rw [if_pos (rg_ok (h x (List.mem_cons_self ..)))]
  exact each_ok fun y hy => h y (List.mem_cons_of_mem _ hy)
theorem bits_0 {n : Nat} {us : List Int} (h : us.length = n) (hb : ∀ x ∈ us, 0 ≤ x ∧ x ≤ 6) : bitsE n us = 0 := by
 unfold bitsE
 rw [if_pos h]
 exact each_ok hb
theorem K45 (hE : EnvOk E) (sg : List Int) (ns : List (List Int)) (mg ms : Int) (nt : List Int) : COut E 0 [] 45 [aR sg ns mg ms nt] (iB (decide ((sg.length : Int) ≤ 4))) [] := cOut_clear (cOut_start Tryz.func45 rfl (m45 hE (iD sg) (rD ns) (iD nt) sg.length ns.length nt.length mg ms (fun j => outK_ret (ends_ret (by kernel_rfl))) fun _ => undef)) rfl
theorem tot_drop {l : List Int} {i : Nat} {x : Int} (h : l[i]? = some x) : tot (l.drop i) = x + tot (l.drop (i + 1)) := by
 obtain ⟨hi, e⟩ := List.getElem?_eq_some_iff.1 h
 rw [List.drop_eq_getElem_cons hi, e]
 rfl
theorem tot_bd : ∀ {l : List Int}, (∀ x ∈ l, 0 ≤ x ∧ x ≤ 6) → 0 ≤ tot l ∧ tot l ≤ 6 * (l.length : Int)
 | [], _ => ⟨Int.le_refl _, by simp [tot]⟩
 | x :: r, h => by
  have hx := h x (by simp)
  have ih := tot_bd (l := r) fun y hy => h y (by simp [hy])
  rw [List.length_cons]
  show 0 ≤ x + tot r ∧ x + tot r ≤ _
  omega
theorem l11 {Φ : Res → Prop} (hE : EnvOk E) (sg : List Int) (ns : List (List Int)) (mg ms : Int) (nt : List Int) (h4 : nt.length ≤ 100000) (us : List Int) (y z : Int) (p : Nat) (l : List Int) (w : Int) (hl : l.length = sg.length) (h8 : sg.length ≤ 8) (hb : ∀ x ∈ l, 0 ≤ x ∧ x ≤ 6) (hn : ∀ i x, l[i]? = some x → Int.ofNat i ∈ nt → x = 0)
  (cont : ∀ j, OutK E 0 0 (v11 (iD sg) (rD ns) (iD nt) (iD us) (iD l) [] [] sg.length ns.length nt.length us.length sg.length mg ms (Int.ofNat p) y z 0 0 0 0 w 0 (tot l) 0 0 0 false false false j) Φ) : ∀ k i, k + i = sg.length → ∀ u, u + tot (l.drop i) = tot l → 0 ≤ u → u ≤ 6 * (i : Int) → ∀ j, OutK E 0 0 (v11 (iD sg) (rD ns) (iD nt) (iD us) (iD l) [] [] sg.length ns.length nt.length us.length i mg ms (Int.ofNat p) y z 0 0 0 0 w 0 u 0 0 0 false false false j) Φ
 | 0, i, hk, u, hu, _, _, j => by
  obtain rfl : i = sg.length := by omega
  rw [List.drop_eq_nil_of_le (by omega)] at hu
  obtain rfl : u = tot l := by rw [← hu]; exact (Int.add_zero u).symm
  exact cont j
 | k + 1, i, hk, u, hu, h0, h6, j => by
  have hi : i < l.length := by omega
  have hx := List.getElem?_eq_getElem hi
  have hv := hb l[i] (List.getElem_mem hi)
  generalize l[i] = x at hx hv
  rw [tot_drop hx] at hu
  have ih := l11 hE sg ns mg ms nt h4 us y z p l w hl h8 hb hn cont k (i + 1) (by omega) (u + x) (by omega) (by omega) (by omega)
  have e : wrapF IntKind.i64 (u + x) = u + x := wrap_id (by omega) (by omega)
  by_cases c : x = 0
  ·subst c
   exact q8o hE (iD sg) (rD ns) (iD nt) (iD us) (iD l) [] [] sg.length ns.length nt.length us.length i mg ms (Int.ofNat p) y z 0 0 0 0 w 0 u (u + 0) 0 0 false false false dT bP (Nat.mul_one _) (gI hx) (by rw [decide_eq_false (by (try simp only [Int.ofNat_eq_natCast]); omega)]; rfl) (by rw [decide_eq_false (by (try simp only [Int.ofNat_eq_natCast]); omega)]; rfl) dF (by rw [decide_eq_false (by (try simp only [Int.ofNat_eq_natCast]); omega)]; rfl) (by rw [decide_eq_false (by (try simp only [Int.ofNat_eq_natCast]); omega)]; rfl) (by rw [decide_eq_false (by (try simp only [Int.ofNat_eq_natCast]); omega)]; rfl) (by rw [decide_eq_false (by (try simp only [Int.ofNat_eq_natCast]); omega)]; rfl) (by rw [decide_eq_false (by (try simp only [Int.ofNat_eq_natCast]); omega)]; rfl) (by rw [decide_eq_false (by (try simp only [Int.ofNat_eq_natCast]); omega)]; rfl) (by rw [decide_eq_false (by (try simp only [Int.ofNat_eq_natCast]); omega)]; rfl) (by rw [decide_eq_false (by (try simp only [Int.ofNat_eq_natCast]); omega)]; rfl) dF dF (iIe e) (iIe (by (try simp only [Int.ofNat_eq_natCast]); rw [wrap_id (by omega) (by omega)]; try omega)) ih j
  ·have k48 := K129 hE nt (Int.ofNat i) h4
   rw [decide_eq_false fun a => c (hn i x hx a)] at k48
   exact q8n hE (iD sg) (rD ns) (iD nt) (iD us) (iD l) [] [] sg.length ns.length nt.length us.length i mg ms (Int.ofNat p) y z 0 0 0 0 w 0 u (u + x) 0 x false false false dT bP (Nat.mul_one _) (gI hx) (by rw [decide_eq_false (by (try simp only [Int.ofNat_eq_natCast]); omega)]; rfl) (by rw [decide_eq_false (by (try simp only [Int.ofNat_eq_natCast]); omega)]; rfl) dF (by rw [decide_eq_false (by (try simp only [Int.ofNat_eq_natCast]); omega)]; rfl) (by rw [decide_eq_false (by (try simp only [Int.ofNat_eq_natCast]); omega)]; rfl) (by rw [decide_eq_false (by (try simp only [Int.ofNat_eq_natCast]); omega)]; rfl) (by rw [decide_eq_true (by (try simp only [Int.ofNat_eq_natCast]); omega)]; rfl) (by rw [decide_eq_true (by (try simp only [Int.ofNat_eq_natCast]); omega)]; rfl) (by rw [decide_eq_true (by (try simp only [Int.ofNat_eq_natCast]); omega)]; rfl) (by rw [decide_eq_true (by (try simp only [Int.ofNat_eq_natCast]); omega)]; rfl) k48 (by rw [decide_eq_false (by (try simp only [Int.ofNat_eq_natCast]); omega)]; rfl) dT dF (iIe e) (iIe (by (try simp only [Int.ofNat_eq_natCast]); rw [wrap_id (by omega) (by omega)]; try omega)) ih j
theorem l21 {Φ : Res → Prop} (hE : EnvOk E) (sg : List Int) (ns : List (List Int)) (mg ms : Int) (nt us : List Int) (y z : Int) (p : Nat) (l : List Int) (w u a : Int) (h8 : us.length ≤ 9) (hb : ∀ x ∈ us, 0 ≤ x ∧ x ≤ 6)
  (cont : ∀ j, OutK E 0 0 (v21 (iD sg) (rD ns) (iD nt) (iD us) (iD l) [] [] sg.length ns.length nt.length us.length us.length mg ms (Int.ofNat p) y z a 0 0 0 w 0 u 0 (tot us) 0 false false false j) Φ) : ∀ k i, k + i = us.length → ∀ t, t + tot (us.drop i) = tot us → 0 ≤ t → t ≤ 6 * (i : Int) → ∀ j, OutK E 0 0 (v21 (iD sg) (rD ns) (iD nt) (iD us) (iD l) [] [] sg.length ns.length nt.length us.length i mg ms (Int.ofNat p) y z a 0 0 0 w 0 u 0 t 0 false false false j) Φ
 | 0, i, hk, t, hu, _, _, j => by
  obtain rfl : i = us.length := by omega
  rw [List.drop_eq_nil_of_le (Nat.le_refl _)] at hu
  obtain rfl : t = tot us := by rw [← hu]; exact (Int.add_zero t).symm
  exact cont j
 | k + 1, i, hk, t, hu, h0, h6, j => by
  have hi : i < us.length := by omega
  have hx := List.getElem?_eq_getElem hi
  have hv := hb us[i] (List.getElem_mem hi)
  generalize us[i] = x at hx hv
  rw [tot_drop hx] at hu
  have ih := l21 hE sg ns mg ms nt us y z p l w u a h8 hb cont k (i + 1) (by omega) (t + x) (by omega) (by omega) (by omega)
  have e : wrapF IntKind.i64 (t + x) = t + x := wrap_id (by omega) (by omega)
  exact q8t hE (iD sg) (rD ns) (iD nt) (iD us) (iD l) [] [] sg.length ns.length nt.length us.length i mg ms (Int.ofNat p) y z a 0 0 0 w 0 u (t + x) t x false false false dT bP (Nat.mul_one _) (gI hx) (iIe e) (iIe (by (try simp only [Int.ofNat_eq_natCast]); rw [wrap_id (by omega) (by omega)]; try omega)) ih j
theorem l34 {Φ : Res → Prop} (hE : EnvOk E) (sg : List Int) (ns : List (List Int)) (mg ms : Int) (nt us : List Int) (y z : Int) (p : Nat) (l b r : List Int) (w u : Int) (hl : b.length = sg.length) (h8 : sg.length ≤ 8) (hb : ∀ x ∈ b, 0 ≤ x ∧ x ≤ 6)
  (cont : ∀ j, OutK E 0 0 (v34 (iD sg) (rD ns) (iD nt) (iD us) (iD l) (iD b) (iD r) sg.length ns.length nt.length us.length sg.length mg ms (Int.ofNat p) y z 0 0 0 0 w 0 u 0 (tot b) 0 false false false j) Φ) : ∀ k i, k + i = sg.length → ∀ t, t + tot (b.drop i) = tot b → 0 ≤ t → t ≤ 6 * (i : Int) → ∀ j, OutK E 0 0 (v34 (iD sg) (rD ns) (iD nt) (iD us) (iD l) (iD b) (iD r) sg.length ns.length nt.length us.length i mg ms (Int.ofNat p) y z 0 0 0 0 w 0 u 0 t 0 false false false j) Φ
 | 0, i, hk, t, hu, _, _, j => by
  obtain rfl : i = sg.length := by omega
  rw [List.drop_eq_nil_of_le (by omega)] at hu
  obtain rfl : t = tot b := by rw [← hu]; exact (Int.add_zero t).symm
  exact cont j
 | k + 1, i, hk, t, hu, h0, h6, j => by
  have hi : i < b.length := by omega
  have hx := List.getElem?_eq_getElem hi
  have hv := hb b[i] (List.getElem_mem hi)
  generalize b[i] = x at hx hv
  rw [tot_drop hx] at hu
  have ih := l34 hE sg ns mg ms nt us y z p l b r w u hl h8 hb cont k (i + 1) (by omega) (t + x) (by omega) (by omega) (by omega)
  have e : wrapF IntKind.i64 (t + x) = t + x := wrap_id (by omega) (by omega)
  exact q8i hE (iD sg) (rD ns) (iD nt) (iD us) (iD l) (iD b) (iD r) sg.length ns.length nt.length us.length i mg ms (Int.ofNat p) y z 0 0 0 0 w 0 u (t + x) t x false false false dT bP (Nat.mul_one _) (gI hx) (by rw [decide_eq_false (by (try simp only [Int.ofNat_eq_natCast]); omega)]; rfl) (by rw [decide_eq_false (by (try simp only [Int.ofNat_eq_natCast]); omega)]; rfl) dF dF (iIe e) (iIe (by (try simp only [Int.ofNat_eq_natCast]); rw [wrap_id (by omega) (by omega)]; try omega)) ih j
theorem l41 (hE : EnvOk E) (sg : List Int) (ns : List (List Int)) (mg ms : Int) (nt : List Int) (h1 : sg.length ≤ 100000) (h2 : ns.length ≤ 5000) (h3 : ∀ r ∈ ns, r.length ≤ 100000) (h4 : nt.length ≤ 100000) (us : List Int) (y z : Int) (p : Nat) (l r : List Int) (w u t : Int) (hm : r.length ≤ 100000) (hr : r.length = sg.length) (hut : u ≤ t) (k35s : ∀ q, q < ns.length → ∃ a, COut E 0 [] 35 [aT sg ns mg ms nt, iI (Int.ofNat q), dI r] (tupC (a, 0)) []) : ∀ k i, k + i = ns.length → ∀ j, OutK E 0 0 (v41 (iD sg) (rD ns) (iD nt) (iD us) (iD l) [] (iD r) sg.length ns.length nt.length us.length i mg ms (Int.ofNat p) y z 0 0 0 0 w 0 u 0 t 0 false false false j) (Go.Ev.Ends E Tryz.f8 (iB true) [])
 | 0, i, hk, j => by
  obtain rfl : i = ns.length := by omega
  have e : decide (t ≥ u) = true := decide_eq_true hut
  exact e ▸ (show OutK E 0 0 _ (Go.Ev.Ends E Tryz.f8 (iB (decide (t ≥ u))) []) from q8x hE (iD sg) (rD ns) (iD nt) (iD us) (iD l) [] (iD r) sg.length ns.length nt.length us.length ns.length mg ms (Int.ofNat p) y z 0 0 0 0 w 0 u 0 t 0 false false false dF (fun j => outK_ret (ends_ret (by kernel_rfl))) j)
 | k + 1, i, hk, j => by
  have ih := l41 hE sg ns mg ms nt h1 h2 h3 h4 us y z p l r w u t hm hr hut k35s k (i + 1) (by omega)
  obtain ⟨a, k35⟩ := k35s i (by omega)
  have k37 := K28 hE r hm
  have er : dI r = dN r sg.length := congrArg (dN r) hr
  rw [er] at k35 k37
  exact q8p hE (iD sg) (rD ns) (iD nt) (iD us) (iD l) [] (iD r) sg.length ns.length nt.length us.length i mg ms (Int.ofNat p) y z a 0 0 0 w 0 u 0 t 0 false false false dT (K12 hE sg ns mg ms nt h1 h2 h3 h4) k37 k35 (iIe (by (try simp only [Int.ofNat_eq_natCast]); rw [wrap_id (by omega) (by omega)]; try omega)) ih j
def min10 (y : Int) : Int := if y + 10 < 10000000 then y + 10 else 10000000
theorem fin8 (hE : EnvOk E) (sg : List Int) (ns : List (List Int)) (mg ms : Int) (nt : List Int) (h1 : sg.length ≤ 100000) (h2 : ns.length ≤ 5000) (h3 : ∀ r ∈ ns, r.length ≤ 100000) (h4 : nt.length ≤ 100000) (ok : TonesOk sg ns mg ms nt) (h8 : sg.length ≤ 8) (hton : tonE sg ns mg ms nt = 0) {p : Nat} (hp : PartOk sg ns mg p ((ns[p]?).getD [])) (ht : topE sg ns mg ms nt (Int.ofNat p) = 0) (us : List Int) (y z : Int) (hy : 0 ≤ y ∧ y ≤ 10000000) (hz : 0 ≤ z ∧ z ≤ 100000) (l : List Int) (w : Int) (hlw : (l, w) ∈ (allM (tab (rowV sg ((ns[p]?).getD []) mg ms nt) sg.length))) (hw : w ≤ y) : ∀ j, OutK E 0 0 (v27 (iD sg) (rD ns) (iD nt) (iD us) (iD l) [] [] sg.length ns.length nt.length us.length 0 mg ms (Int.ofNat p) y z 0 0 0 0 w 0 (tot l) 0 0 0 false false false j) (Go.Ev.Ends E Tryz.f8 (iB true) []) := by
 intro j
 have h0r : ∀ i, i < sg.length → ((rowV sg ((ns[p]?).getD []) mg ms nt) i)[0]? = some 0 := fun i hi => by rw [row_0 ms nt hp hi]; rfl
 have h7 : ∀ i, i < sg.length → ((rowV sg ((ns[p]?).getD []) mg ms nt) i).length ≤ 7 := fun i _ => powL_len ..
 obtain ⟨bm, bl, bw⟩ := bst_of h0r (bud := min10 y) (by unfold min10; split <;> omega)
 have k46 := K46v hE sg ns mg ms nt h1 h2 h3 h4 hp (min10 y) (by unfold min10; split <;> omega) ht
 generalize scan (min10 y) (allM (tab (rowV sg ((ns[p]?).getD []) mg ms nt) sg.length)) ([], 0, -1) = S at bm bl bw k46
 obtain ⟨b, v, nn⟩ := S
 have hbl : b.length = sg.length := (all_ord _ _).2 _ bm
 have hbb := el_all _ h7 _ bm
 have hlb := el_all _ h7 _ hlw
 have t1 : 0 ≤ tot l ∧ tot l ≤ 6 * (l.length : Int) := tot_bd hlb
 have t2 : 0 ≤ tot b ∧ tot b ≤ 6 * (b.length : Int) := tot_bd hbb
 have hll : l.length = sg.length := (all_ord _ _).2 _ hlw
 have hle : tot l ≤ tot b := by
  rcases bw (l, w) hlw (show w ≤ min10 y by unfold min10; split <;> omega) with g | ⟨g, _⟩
  ·exact Int.le_of_lt g
  ·exact Int.le_of_eq g
 have k38 := K38v hE sg ns mg ms nt h1 h2 h3 h4 hp y z hy hz ht
 have hbnd := bnd_all (pr := z) (f := (rowV sg ((ns[p]?).getD []) mg ms nt)) (z * y) sg.length (l, w) hlw
 have hzw : z * w ≤ z * y := Int.mul_le_mul_of_nonneg_left hw hz.1
 generalize bndF z (rowV sg ((ns[p]?).getD []) mg ms nt) 0 sg.length (z * y) = bn at k38 hbnd
 have hbnd : z * y + 1000 * tot l - z * w ≤ bn := hbnd
 have k52 := K14v hE sg ns mg ms nt h1 h2 h3 h4 ok h8 hton
 have hrl : (robL sg ns mg ms nt).length = sg.length := tab_len _ _
 have k35s : ∀ q, q < ns.length → ∃ a, COut E 0 [] 35 [aT sg ns mg ms nt, iI (Int.ofNat q), dI (robL sg ns mg ms nt)] (tupC (a, 0)) [] := fun q hq => by
  have pq := part_at ok hq
  have hin : ∀ c, c < sg.length → 0 ≤ rob (rowW sg ns mg ms nt) ns.length c ∧ (rob (rowW sg ns mg ms nt) ns.length c).toNat < (rowV sg ((ns[q]?).getD []) mg ms nt c).length := fun c hc => by
   have hnn := rob_nn (W := rowW sg ns mg ms nt) c (fun p => by show 0 ≤ Int.ofNat _; simp) ns.length
   have hle := rob_le (W := rowW sg ns mg ms nt) c ns.length q hq
   have hc' := cell_of pq hc
   refine ⟨hnn, ?_⟩
   show _ < (powL mg (el _ c) (el sg c) ms nt c).length
   rw [powL_car hc'.2.2.2.1.1 hc'.2.2.2.2.1.1 hc'.2.2.2.2.2.1 nt c]
   have hle : rob (rowW sg ns mg ms nt) ns.length c ≤ Int.ofNat (carV mg (el ((ns[q]?).getD []) c) (el sg c) ms nt c) := hle
   simp only [Int.ofNat_eq_natCast] at hle
   omega
  obtain ⟨a, ha⟩ := cm_tab (f := rowV sg ((ns[q]?).getD []) mg ms nt) (g := rob (rowW sg ns mg ms nt) ns.length) sg.length hin
  have hb : ∀ x ∈ robL sg ns mg ms nt, 0 ≤ x ∧ x ≤ 6 := fun x hx => by
   obtain ⟨c, hc⟩ := List.getElem?_of_mem hx
   have hcl := (List.getElem?_eq_some_iff.1 hc).1
   rw [hrl] at hcl
   rw [show (robL sg ns mg ms nt)[c]? = some (rob (rowW sg ns mg ms nt) ns.length c) from tab_get _ hcl] at hc
   injection hc with hc
   subst hc
   have h := hin c hcl
   have h7' : (rowV sg ((ns[q]?).getD []) mg ms nt c).length ≤ 7 := powL_len ..
   omega
  have hte : topE sg ns mg ms nt (Int.ofNat q) = 0 := by
   unfold topE
   rw [firstI_or, orE_z hton]
   show orE (ixE _ _) _ = 0
   rw [show ixE (Int.ofNat q) ns.length = 0 from if_neg (by simp only [Int.ofNat_eq_natCast]; omega)]
   rfl
  have k := K35v hE sg ns mg ms nt h1 h2 h3 h4 pq _ hrl hb (by rw [cm_bits hte]; exact bits_0 hrl hb)
  rw [show cmF (rowV sg ((ns[q]?).getD []) mg ms nt) 0 (robL sg ns mg ms nt) 0 = (a, 0) from ha] at k
  exact ⟨a, k⟩
 have k46 : COut E 0 [] 46 [aT sg ns mg ms nt, iI (Int.ofNat p), iI (min10 y)] (.tup [.one (.dp (.s (iD b) b.length 1)), .one (.v (.int .i64 v)), .one (.v (.int .i64 0))]) [] := k46
 rw [hbl] at k46
 have e1000 : wrapF IntKind.i64 (1000 * tot l) = 1000 * tot l := wrap_id (by omega) (by omega)
 have e10 : wrapF IntKind.i64 (y + 10) = y + 10 := wrap_id (by omega) (by omega)
 refine q8B hE (iD sg) (rD ns) (iD nt) (iD us) (iD l) (iD b) (iD (robL sg ns mg ms nt)) sg.length ns.length nt.length us.length 0 mg ms (Int.ofNat p) y z 0 0 0 (y + 10) w v (tot l) (1000 * tot l) 0 bn false false false (K12 hE sg ns mg ms nt h1 h2 h3 h4) k38 (iIe e10) (K12 hE sg ns mg ms nt h1 h2 h3 h4) k46 (K12 hE sg ns mg ms nt h1 h2 h3 h4) k52 (iIe e1000) (by rw [decide_eq_false (by (try simp only [Int.ofNat_eq_natCast]); omega)]; rfl) (by rw [decide_eq_false (by (try simp only [Int.ofNat_eq_natCast]); omega)]; rfl) (by rw [decide_eq_false (by (try simp only [Int.ofNat_eq_natCast]); omega)]; rfl) (by rw [decide_eq_false (by (try simp only [Int.ofNat_eq_natCast]); omega)]; rfl) (by rw [decide_eq_false (by (try simp only [Int.ofNat_eq_natCast]); omega)]; rfl) dF (by first | rfl | simp) (by first | rfl | simp) (by first | rfl | simp) (by first | rfl | simp) (by first | rfl | simp) (by first | rfl | simp) (by first | rfl | simp) (l34 hE sg ns mg ms nt us y z p l b (robL sg ns mg ms nt) w (tot l) hbl h8 hbb ?_ sg.length 0 rfl 0 (by rw [List.drop_zero]; omega) (Int.le_refl _) (by omega)) j
 exact q8y hE (iD sg) (rD ns) (iD nt) (iD us) (iD l) (iD b) (iD (robL sg ns mg ms nt)) sg.length ns.length nt.length us.length sg.length mg ms (Int.ofNat p) y z 0 0 0 0 w 0 (tot l) 0 (tot b) 0 false false false dF (l41 hE sg ns mg ms nt h1 h2 h3 h4 us y z p l (robL sg ns mg ms nt) w (tot l) (tot b) (by omega) hrl hle k35s ns.length 0 rfl)
theorem grRun (hE : EnvOk E) (hA : COut E 0 [] 10 [] (iB true) []) (sg : List Int) (ns : List (List Int)) (mg ms : Int) (nt : List Int) (x : Int) (us : List Int) (y z : Int) (hL : ns.length ≤ 9223372036854775807) : COut E 0 [] 8 [aR sg ns mg ms nt, .e (.agg [.v (.int .i64 x), .dp (.s (iD us) us.length 1), .v (.int .i64 y), .v (.int .i64 z)])] (iB true) [] := by
 have k10 := K10 hE sg ns mg ms nt hL
 have k25 := K25 hE us
 have k45 := K45 hE sg ns mg ms nt
 have k41 := K18 hE y 0 10000000
 have k41z := K18 hE z 0 100000
 by_cases hs : shortT sg ns ns nt
 ·rw [decide_eq_true hs] at k10
  have h1 : sg.length ≤ 100000 := by have := hs.2.1; omega
  have h2 : ns.length ≤ 5000 := by have := hs.2.2.1; omega
  have h3 : ∀ r ∈ ns, r.length ≤ 100000 := fun r hr => by have := hs.1 r hr; omega
  have h4 : nt.length ≤ 100000 := by have := hs.2.2.2; omega
  have k15 := K15 hE sg ns mg ms nt h1 h2 h3 h4
  by_cases hf : (sg.length : Int) ≤ 4
  ·rw [decide_eq_true hf] at k45
   by_cases hton : tonE sg ns mg ms nt = 0
   ·rw [hton] at k15
    obtain ⟨ok, h8⟩ := ton_z hton
    by_cases hu : (us.length : Int) ≤ 9
    ·rw [decide_eq_true hu] at k25
     have hm : us.length ≤ 100000 := by omega
     by_cases hx : x < 0
     ·exact cOut_clear (cOut_start Tryz.func8 rfl (q8l hE (iD sg) (rD ns) (iD nt) (iD us) [] [] [] sg.length ns.length nt.length us.length 0 mg ms x y z 0 0 0 0 0 0 0 0 0 0 true true true hA k10 oB oB k45 oB oB oB oB k15 oB oB (by first | rfl | simp) (by first | rfl | simp) (by first | rfl | simp) k25 (by first | rfl | simp) (by first | rfl | simp) oB oB oB oB (by rw [decide_eq_true (by (try simp only [Int.ofNat_eq_natCast]); omega)]; rfl) (by rw [decide_eq_true (by (try simp only [Int.ofNat_eq_natCast]); omega)]; rfl) (by rw [decide_eq_true (by (try simp only [Int.ofNat_eq_natCast]); omega)]; rfl) (by rw [decide_eq_true (by (try simp only [Int.ofNat_eq_natCast]); omega)]; rfl) (by rw [decide_eq_true (by (try simp only [Int.ofNat_eq_natCast]); omega)]; rfl) (by rw [decide_eq_true (by (try simp only [Int.ofNat_eq_natCast]); omega)]; rfl) dT hA (fun j => outK_ret (ends_ret (by kernel_rfl))) fun _ => undef)) rfl
     ·by_cases hxn : (ns.length : Int) ≤ x
      ·exact cOut_clear (cOut_start Tryz.func8 rfl (q8g hE (iD sg) (rD ns) (iD nt) (iD us) [] [] [] sg.length ns.length nt.length us.length 0 mg ms x y z 0 0 0 0 0 0 0 0 0 0 true true true hA k10 oB oB k45 oB oB oB oB k15 oB oB (by first | rfl | simp) (by first | rfl | simp) (by first | rfl | simp) k25 (by first | rfl | simp) (by first | rfl | simp) oB oB oB oB (by rw [decide_eq_false (by (try simp only [Int.ofNat_eq_natCast]); omega)]; rfl) (by rw [decide_eq_false (by (try simp only [Int.ofNat_eq_natCast]); omega)]; rfl) (by rw [decide_eq_false (by (try simp only [Int.ofNat_eq_natCast]); omega)]; rfl) (by rw [decide_eq_false (by (try simp only [Int.ofNat_eq_natCast]); omega)]; rfl) (by rw [decide_eq_false (by (try simp only [Int.ofNat_eq_natCast]); omega)]; rfl) (by rw [decide_eq_false (by (try simp only [Int.ofNat_eq_natCast]); omega)]; rfl) dF (by rw [decide_eq_true (by (try simp only [Int.ofNat_eq_natCast]); omega)]; rfl) (by rw [decide_eq_true (by (try simp only [Int.ofNat_eq_natCast]); omega)]; rfl) (by rw [decide_eq_true (by (try simp only [Int.ofNat_eq_natCast]); omega)]; rfl) (by rw [decide_eq_true (by (try simp only [Int.ofNat_eq_natCast]); omega)]; rfl) dT hA (fun j => outK_ret (ends_ret (by kernel_rfl))) fun _ => undef)) rfl
      ·by_cases hy : rg y 0 10000000 = 0
       ·rw [hy] at k41
        by_cases hz : rg z 0 100000 = 0
        ·rw [hz] at k41z
         have hix : ixE x ns.length = 0 := if_neg (by omega)
         obtain ⟨p, rfl, hp⟩ := ix_z hix
         have ht : topE sg ns mg ms nt (Int.ofNat p) = 0 := by
          unfold topE
          rw [firstI_or, orE_z hton]
          show orE (ixE _ _) _ = 0
          rw [hix]
          rfl
         have pa := part_at ok hp
         have hy := rg_00 hy
         have hz := rg_00 hz
         have h0r : ∀ i, i < sg.length → ((rowV sg ((ns[p]?).getD []) mg ms nt) i)[0]? = some 0 := fun i hi => by rw [row_0 ms nt pa hi]; rfl
         have h7 : ∀ i, i < sg.length → ((rowV sg ((ns[p]?).getD []) mg ms nt) i).length ≤ 7 := fun i _ => powL_len ..
         obtain ⟨bm, bl, bw⟩ := bst_of h0r hy.1
         have k46 := K46v hE sg ns mg ms nt h1 h2 h3 h4 pa y hy ht
         generalize scan y (allM (tab (rowV sg ((ns[p]?).getD []) mg ms nt) sg.length)) ([], 0, -1) = S at bm bl bw k46
         obtain ⟨l, w, nn⟩ := S
         have hll : l.length = sg.length := (all_ord _ _).2 _ bm
         have hlb := el_all _ h7 _ bm
         have hw0 : 0 ≤ w := (all_bd (n := sg.length) (fun i hi => row_in ms nt pa hi) sg.length (Nat.le_refl _) _ bm).2.1
         have hwy : w ≤ y := bl
         have k35 := K35v hE sg ns mg ms nt h1 h2 h3 h4 pa l hll hlb (by rw [cm_bits ht]; exact bits_0 hll hlb)
         rw [show cmF (rowV sg ((ns[p]?).getD []) mg ms nt) 0 l 0 = (w, 0) from cm_all _ _ bm] at k35
         have k46 : COut E 0 [] 46 [aT sg ns mg ms nt, iI (Int.ofNat p), iI y] (.tup [.one (.dp (.s (iD l) l.length 1)), .one (.v (.int .i64 w)), .one (.v (.int .i64 0))]) [] := k46
         have k37 := K28 hE l (by omega)
         have er : dI l = dN l sg.length := congrArg (dN l) hll
         rw [hll] at k46
         rw [er] at k37 k35
         have fin := fin8 hE sg ns mg ms nt h1 h2 h3 h4 ok h8 hton pa ht us y z hy hz l w bm hwy
         have hnn : ∀ i x, l[i]? = some x → Int.ofNat i ∈ nt → x = 0 := fun i x hx hi => by
          have := all_in _ _ bm i x hx
          rw [show (rowV sg ((ns[p]?).getD []) mg ms nt) i = [0] from if_pos (.inr hi)] at this
          have h1 := this.1
          have h2 : x.toNat < 1 := this.2
          omega
         have hc : ∀ j, OutK E 0 0 (v11 (iD sg) (rD ns) (iD nt) (iD us) (iD l) [] [] sg.length ns.length nt.length us.length sg.length mg ms (Int.ofNat p) y z 0 0 0 0 w 0 (tot l) 0 0 0 false false false j) (Go.Ev.Ends E Tryz.f8 (iB true) []) := fun j => by
          by_cases he : bitsE sg.length us = 0
          ·obtain ⟨hul, hub⟩ := bits_z he
           have k35 := K35v hE sg ns mg ms nt h1 h2 h3 h4 pa us hul hub (by rw [cm_bits ht]; exact he)
           by_cases hc : (cmF (rowV sg ((ns[p]?).getD []) mg ms nt) 0 us 0).2 = 0
           ·have k35 : COut E 0 [] 35 [aT sg ns mg ms nt, iI (Int.ofNat p), dI us] (tupC ((cmF (rowV sg ((ns[p]?).getD []) mg ms nt) 0 us 0).1, 0)) [] := by
             rw [show (cmF (rowV sg ((ns[p]?).getD []) mg ms nt) 0 us 0) = ((cmF (rowV sg ((ns[p]?).getD []) mg ms nt) 0 us 0).1, (cmF (rowV sg ((ns[p]?).getD []) mg ms nt) 0 us 0).2) from rfl, hc] at k35
             exact k35
            have hin := cm_mem sg.length us (cmF (rowV sg ((ns[p]?).getD []) mg ms nt) 0 us 0).1 hul (fun x hx => (hub x hx).1) (Prod.ext rfl hc)
            generalize (cmF (rowV sg ((ns[p]?).getD []) mg ms nt) 0 us 0).1 = a at k35 hin
            by_cases hay : a ≤ y
            ·refine q8a hE (iD sg) (rD ns) (iD nt) (iD us) (iD l) [] [] sg.length ns.length nt.length us.length sg.length mg ms (Int.ofNat p) y z a 0 0 0 w 0 (tot l) 0 0 0 false false false dF (K12 hE sg ns mg ms nt h1 h2 h3 h4) (K28 hE _ hm) k35 oB oB oB oB oB dT (l21 hE sg ns mg ms nt us y z p l w (tot l) a (by omega) hub (fun j => ?_) us.length 0 rfl 0 (by rw [List.drop_zero]; omega) (Int.le_refl _) (by omega)) j
             rcases bw (us, a) hin hay with g | ⟨g, g2⟩
             ·have g : tot us < tot l := g
              have hne : tot us ≠ tot l := by omega
              exact q8u hE (iD sg) (rD ns) (iD nt) (iD us) (iD l) [] [] sg.length ns.length nt.length us.length us.length mg ms (Int.ofNat p) y z a 0 0 0 w 0 (tot l) 0 (tot us) 0 false false false dF (by rw [decide_eq_false (by (try simp only [Int.ofNat_eq_natCast]); omega)]; rfl) (by rw [decide_eq_false (by (try simp only [Int.ofNat_eq_natCast]); omega)]; rfl) (by rw [decide_eq_false (by (try simp only [Int.ofNat_eq_natCast]); omega)]; rfl) (by rw [decide_eq_false (by (try simp only [Int.ofNat_eq_natCast]); omega)]; rfl) (by rw [beq_eq_false_iff_ne.2 hne]; rfl) (by rw [beq_eq_false_iff_ne.2 hne]; rfl) (by rw [beq_eq_false_iff_ne.2 hne]; rfl) (by rw [decide_eq_false (by (try simp only [Int.ofNat_eq_natCast]); omega)]; rfl) (beq_eq_false_iff_ne.2 hne) dF fin j
             ·have g : tot us = tot l := g
              have g2 : w ≤ a := g2
              exact q8v hE (iD sg) (rD ns) (iD nt) (iD us) (iD l) [] [] sg.length ns.length nt.length us.length us.length mg ms (Int.ofNat p) y z a 0 0 0 w 0 (tot l) 0 (tot us) 0 false false false dF (by rw [decide_eq_false (by (try simp only [Int.ofNat_eq_natCast]); omega)]; rfl) (by rw [decide_eq_false (by (try simp only [Int.ofNat_eq_natCast]); omega)]; rfl) (by rw [decide_eq_false (by (try simp only [Int.ofNat_eq_natCast]); omega)]; rfl) (by rw [decide_eq_false (by (try simp only [Int.ofNat_eq_natCast]); omega)]; rfl) (by rw [beq_iff_eq.2 g]; rfl) (by rw [beq_iff_eq.2 g]; rfl) (by rw [beq_iff_eq.2 g]; rfl) (by rw [decide_eq_false (by (try simp only [Int.ofNat_eq_natCast]); omega)]; rfl) (beq_iff_eq.2 g) dF dF fin j
            ·exact q8m hE (iD sg) (rD ns) (iD nt) (iD us) (iD l) [] [] sg.length ns.length nt.length us.length sg.length mg ms (Int.ofNat p) y z a 0 0 0 w 0 (tot l) 0 0 0 false false false dF (K12 hE sg ns mg ms nt h1 h2 h3 h4) (K28 hE _ hm) k35 oB oB oB oB oB dF fin j
           ·exact q8e hE (iD sg) (rD ns) (iD nt) (iD us) (iD l) [] [] sg.length ns.length nt.length us.length sg.length mg ms (Int.ofNat p) y z ((cmF (rowV sg ((ns[p]?).getD []) mg ms nt) 0 us 0).1) ((cmF (rowV sg ((ns[p]?).getD []) mg ms nt) 0 us 0).2) 0 0 w 0 (tot l) 0 0 0 false false false dF (K12 hE sg ns mg ms nt h1 h2 h3 h4) (K28 hE _ hm) k35 (by rw [(beq_eq_false_iff_ne.2 hc)]; rfl) (by rw [(beq_eq_false_iff_ne.2 hc)]; rfl) (by rw [(beq_eq_false_iff_ne.2 hc)]; rfl) (by rw [(beq_eq_false_iff_ne.2 hc)]; rfl) (beq_eq_false_iff_ne.2 hc) fin j
          ·have k35 := K35e hE sg ns mg ms nt h1 h2 h3 h4 (Int.ofNat p) us hm (by rw [cm_bits ht]; exact he)
           rw [cm_bits ht] at k35
           exact q8e hE (iD sg) (rD ns) (iD nt) (iD us) (iD l) [] [] sg.length ns.length nt.length us.length sg.length mg ms (Int.ofNat p) y z 0 (bitsE sg.length us) 0 0 w 0 (tot l) 0 0 0 false false false dF (K12 hE sg ns mg ms nt h1 h2 h3 h4) (K28 hE _ hm) k35 (by rw [(beq_eq_false_iff_ne.2 he)]; rfl) (by rw [(beq_eq_false_iff_ne.2 he)]; rfl) (by rw [(beq_eq_false_iff_ne.2 he)]; rfl) (by rw [(beq_eq_false_iff_ne.2 he)]; rfl) (beq_eq_false_iff_ne.2 he) fin j
         exact cOut_clear (cOut_start Tryz.func8 rfl (q8A hE (iD sg) (rD ns) (iD nt) (iD us) (iD l) [] [] sg.length ns.length nt.length us.length 0 mg ms (Int.ofNat p) y z 0 0 0 0 w 0 0 0 0 0 true true true hA k10 oB oB k45 oB oB oB oB k15 oB oB (by first | rfl | simp) (by first | rfl | simp) (by first | rfl | simp) k25 (by first | rfl | simp) (by first | rfl | simp) oB oB oB oB (by rw [decide_eq_false (by (try simp only [Int.ofNat_eq_natCast]); omega)]; rfl) (by rw [decide_eq_false (by (try simp only [Int.ofNat_eq_natCast]); omega)]; rfl) (by rw [decide_eq_false (by (try simp only [Int.ofNat_eq_natCast]); omega)]; rfl) (by rw [decide_eq_false (by (try simp only [Int.ofNat_eq_natCast]); omega)]; rfl) (by rw [decide_eq_false (by (try simp only [Int.ofNat_eq_natCast]); omega)]; rfl) (by rw [decide_eq_false (by (try simp only [Int.ofNat_eq_natCast]); omega)]; rfl) dF (by rw [decide_eq_false (by (try simp only [Int.ofNat_eq_natCast]); omega)]; rfl) (by rw [decide_eq_false (by (try simp only [Int.ofNat_eq_natCast]); omega)]; rfl) (by rw [decide_eq_false (by (try simp only [Int.ofNat_eq_natCast]); omega)]; rfl) k41 (by rw [decide_eq_false (by (try simp only [Int.ofNat_eq_natCast]); omega)]; rfl) dF (by first | rfl | simp) (by first | rfl | simp) (by first | rfl | simp) k41z (by first | rfl | simp) (by first | rfl | simp) (by first | rfl | simp) (K12 hE sg ns mg ms nt h1 h2 h3 h4) k46 (by first | rfl | simp) (by first | rfl | simp) (by first | rfl | simp) (by rw [decide_eq_false (by (try simp only [Int.ofNat_eq_natCast]); omega)]; rfl) (by rw [decide_eq_false (by (try simp only [Int.ofNat_eq_natCast]); omega)]; rfl) (by rw [decide_eq_false (by (try simp only [Int.ofNat_eq_natCast]); omega)]; rfl) (by rw [decide_eq_false (by (try simp only [Int.ofNat_eq_natCast]); omega)]; rfl) dF dF (K12 hE sg ns mg ms nt h1 h2 h3 h4) k37 k35 (by first | rfl | simp) (l11 hE sg ns mg ms nt h4 us y z p l w hll h8 hlb hnn hc sg.length 0 rfl 0 (by rw [List.drop_zero]; omega) (Int.le_refl _) (by omega)) fun _ => undef)) rfl
        ·exact cOut_clear (cOut_start Tryz.func8 rfl (q8z hE (iD sg) (rD ns) (iD nt) (iD us) [] [] [] sg.length ns.length nt.length us.length 0 mg ms x y z 0 0 0 0 0 (rg z 0 100000) 0 0 0 0 true true true hA k10 oB oB k45 oB oB oB oB k15 oB oB (by first | rfl | simp) (by first | rfl | simp) (by first | rfl | simp) k25 (by first | rfl | simp) (by first | rfl | simp) oB oB oB oB (by rw [decide_eq_false (by (try simp only [Int.ofNat_eq_natCast]); omega)]; rfl) (by rw [decide_eq_false (by (try simp only [Int.ofNat_eq_natCast]); omega)]; rfl) (by rw [decide_eq_false (by (try simp only [Int.ofNat_eq_natCast]); omega)]; rfl) (by rw [decide_eq_false (by (try simp only [Int.ofNat_eq_natCast]); omega)]; rfl) (by rw [decide_eq_false (by (try simp only [Int.ofNat_eq_natCast]); omega)]; rfl) (by rw [decide_eq_false (by (try simp only [Int.ofNat_eq_natCast]); omega)]; rfl) dF (by rw [decide_eq_false (by (try simp only [Int.ofNat_eq_natCast]); omega)]; rfl) (by rw [decide_eq_false (by (try simp only [Int.ofNat_eq_natCast]); omega)]; rfl) (by rw [decide_eq_false (by (try simp only [Int.ofNat_eq_natCast]); omega)]; rfl) k41 (by rw [decide_eq_false (by (try simp only [Int.ofNat_eq_natCast]); omega)]; rfl) dF (by first | rfl | simp) (by first | rfl | simp) (by first | rfl | simp) k41z (by first | rfl | simp) (by first | rfl | simp) (bne_iff_ne.2 hz) hA (fun j => outK_ret (ends_ret (by kernel_rfl))) fun _ => undef)) rfl
       ·exact cOut_clear (cOut_start Tryz.func8 rfl (q8y0 hE (iD sg) (rD ns) (iD nt) (iD us) [] [] [] sg.length ns.length nt.length us.length 0 mg ms x y z 0 0 0 (rg y 0 10000000) 0 0 0 0 0 0 true true true hA k10 oB oB k45 oB oB oB oB k15 oB oB (by first | rfl | simp) (by first | rfl | simp) (by first | rfl | simp) k25 (by first | rfl | simp) (by first | rfl | simp) oB oB oB oB (by rw [decide_eq_false (by (try simp only [Int.ofNat_eq_natCast]); omega)]; rfl) (by rw [decide_eq_false (by (try simp only [Int.ofNat_eq_natCast]); omega)]; rfl) (by rw [decide_eq_false (by (try simp only [Int.ofNat_eq_natCast]); omega)]; rfl) (by rw [decide_eq_false (by (try simp only [Int.ofNat_eq_natCast]); omega)]; rfl) (by rw [decide_eq_false (by (try simp only [Int.ofNat_eq_natCast]); omega)]; rfl) (by rw [decide_eq_false (by (try simp only [Int.ofNat_eq_natCast]); omega)]; rfl) dF (by rw [decide_eq_false (by (try simp only [Int.ofNat_eq_natCast]); omega)]; rfl) (by rw [decide_eq_false (by (try simp only [Int.ofNat_eq_natCast]); omega)]; rfl) (by rw [decide_eq_false (by (try simp only [Int.ofNat_eq_natCast]); omega)]; rfl) k41 (by rw [decide_eq_false (by (try simp only [Int.ofNat_eq_natCast]); omega)]; rfl) dF (by rw [(bne_iff_ne.2 hy)]; rfl) (by rw [(bne_iff_ne.2 hy)]; rfl) (by rw [(bne_iff_ne.2 hy)]; rfl) (by rw [(bne_iff_ne.2 hy)]; rfl) (bne_iff_ne.2 hy) hA (fun j => outK_ret (ends_ret (by kernel_rfl))) fun _ => undef)) rfl
    ·rw [decide_eq_false hu] at k25
     exact cOut_clear (cOut_start Tryz.func8 rfl (q8h hE (iD sg) (rD ns) (iD nt) (iD us) [] [] [] sg.length ns.length nt.length us.length 0 mg ms x y z 0 0 0 0 0 0 0 0 0 0 true false true hA k10 oB oB k45 oB oB oB oB k15 oB oB (by first | rfl | simp) (by first | rfl | simp) (by first | rfl | simp) k25 (by first | rfl | simp) (by first | rfl | simp) oB oB oB oB hA (fun j => outK_ret (ends_ret (by kernel_rfl))) fun _ => undef)) rfl
   ·exact cOut_clear (cOut_start Tryz.func8 rfl (q8b hE (iD sg) (rD ns) (iD nt) (iD us) [] [] [] sg.length ns.length nt.length us.length 0 mg ms x y z 0 0 (tonE sg ns mg ms nt) 0 0 0 0 0 0 0 true false true hA k10 oB oB k45 oB oB oB oB k15 oB oB (by rw [(bne_iff_ne.2 hton)]; rfl) (by rw [(bne_iff_ne.2 hton)]; rfl) (by rw [(bne_iff_ne.2 hton)]; rfl) (by rw [(bne_iff_ne.2 hton)]; rfl) (bne_iff_ne.2 hton) hA (fun j => outK_ret (ends_ret (by kernel_rfl))) fun _ => undef)) rfl
  ·rw [decide_eq_false hf] at k45
   exact cOut_clear (cOut_start Tryz.func8 rfl (q8f hE (iD sg) (rD ns) (iD nt) (iD us) [] [] [] sg.length ns.length nt.length us.length 0 mg ms x y z 0 0 0 0 0 0 0 0 0 0 true false false hA k10 oB oB k45 oB oB oB oB oB oB hA (fun j => outK_ret (ends_ret (by kernel_rfl))) fun _ => undef)) rfl
 ·rw [decide_eq_false hs] at k10
  exact cOut_clear (cOut_start Tryz.func8 rfl (q8s hE (iD sg) (rD ns) (iD nt) (iD us) [] [] [] sg.length ns.length nt.length us.length 0 mg ms x y z 0 0 0 0 0 0 0 0 0 0 false false false hA k10 oB oB oB oB hA (fun j => outK_ret (ends_ret (by kernel_rfl))) fun _ => undef)) rfl
end
end Go.Proofs.YtigdchbjmnbjlaaGreatDoor
end

/-! SeIa -/
section
open Go Go.Ev
namespace Go.Proofs.YtigdchbjmnbjlaaGreatDoor
noncomputable section
abbrev iA (n : Int) : AC := .v (.int .i64 n)
abbrev nA0 : AC := .v (.slice none 0 0)
abbrev bF (l : List Int) : Option AB := some ⟨l.map iA, l.length, 3, false, .cells⟩
abbrev bT (l : List Int) : Option AB := some ⟨l.map iA, l.length, 3, true, .cells⟩
abbrev sE (b o n z c : Nat) (f : Bool) : AV := .e (.one (.slc b o n z c f))
end
end Go.Proofs.YtigdchbjmnbjlaaGreatDoor
end
