/-
  Part of the proof: SeDd, SeDe, SeBa, SeBb, SeBc, SeBd, SeBm, SeBn.
-/
import Derived.Test.YtigdchbjmnbjlaaGreatDoorSeZF

/-! SeDd -/
section
open Go Go.Ev
namespace Go.Proofs.YtigdchbjmnbjlaaGreatDoor
noncomputable section
set_option maxRecDepth 100000
set_option maxHeartbeats 20000000
def zd77 (C _N _O _R _T : List DT) (s _n _o _m _t _i : Nat) (_mg _ms _x _e lo hi z _a _b _c _d _g _f _l : Int) (_j : JN) : St := startK Tryz.f167 [bK [.v (.int .i64 lo)] 1 3, bK [.v (.int .i64 hi)] 1 3] [(dQ C s), iI z, (.e (.one (.clo 162 [] [.one (.ptr 0 0), .one (.ptr 1 0)])))]
def zd80 (C N O R _T : List DT) (s n o m _t _i : Nat) (mg ms _x _e _lo _hi _z _a _b _c _d _g _f _l : Int) (_j : JN) : St := startK Tryz.f168 [bK (tQ C s N n mg ms O o) 5 78] [(dQ R m), (.e (.one (.ptr 0 0)))]
def zd134 (C N O _R T : List DT) (s n o _m t _i : Nat) (mg ms _x _e _lo _hi _z _a _b _c _d _g _f _l : Int) (_j : JN) : St := startK Tryz.f175 [bK (tQ C s N n mg ms O o) 5 78] [(dQ T t), (.e (.one (.clo 168 [] [.one (.ptr 0 0)])))]
def zd88 (C N O _R T : List DT) (s n o _m t _i : Nat) (mg ms _x _e _lo _hi _z _a _b _c _d _g _f _l : Int) (_j : JN) : St := startK Tryz.f126 [bK (tQ C s N n mg ms O o) 5 78] [(dQ T t), iI 8, (.e (.one (.clo 168 [] [.one (.ptr 0 0)])))]
def zd79 (C N O _R T : List DT) (s n o _m t _i : Nat) (mg ms _x _e _lo _hi _z _a _b _c _d _g _f _l : Int) (_j : JN) : St := startK Tryz.f131 [bK (tQ C s N n mg ms O o) 5 78] [(dQ T t), iI 8, (.e (.one (.clo 168 [] [.one (.ptr 0 0)])))]
def zw157 (C N O _R _T : List DT) (s n o _m _t _i : Nat) (mg ms x _e _lo _hi _z _a _b _c _d _g _f l : Int) (_j : JN) : St := startK Tryz.f200 [bK (tQ C s N n mg ms O o) 5 78, bK [.v (.int .i64 0)] 1 3, bK [.v (.int .i64 1000000000)] 1 3, bK [.v (.int .i64 (Int.ofNat s))] 1 3, bK [.clo 200 [] [.one (.ptr 5 0)]] 1 172, bK [.v (.int .i64 l)] 1 3] [iI x, (.e (.one (.ptr 5 0)))]
def zw132 (C N O _R _T : List DT) (s n o _m _t _i : Nat) (mg ms x _e _lo _hi _z _a _b _c _d _g _f l : Int) (_j : JN) : St := startK Tryz.f190 [bK (tQ C s N n mg ms O o) 5 78, bK [.v (.int .i64 0)] 1 3, bK [.v (.int .i64 1000000000)] 1 3, bK [.v (.int .i64 (Int.ofNat s))] 1 3, bK [.clo 200 [] [.one (.ptr 5 0)]] 1 172, bK [.v (.int .i64 l)] 1 3] [iI x, (.e (.one (.ptr 3 0))), (.e (.one (.ptr 4 0)))]
def zw82 (C N O R _T : List DT) (s n o m _t _i : Nat) (mg ms _x _e _lo _hi _z _a _b _c _d _g _f l : Int) (_j : JN) : St := startK Tryz.f103 [bK (tQ C s N n mg ms O o) 5 78, bK [.v (.int .i64 0)] 1 3, bK [.v (.int .i64 1000000000)] 1 3, bK [.v (.int .i64 (Int.ofNat s))] 1 3, bK [.clo 200 [] [.one (.ptr 5 0)]] 1 172, bK [.v (.int .i64 l)] 1 3] [(dQ R m), (.e (.one (.clo 190 [] [.one (.ptr 3 0), .one (.ptr 4 0)])))]
def x22 (C N O : List DT) (s n o : Nat) (mg ms : Int) (_j : JN) : St := startK Tryz.f113 [] [.e (.agg (tQ C s N n mg ms O o))]
def x70 (C N O : List DT) (s n o : Nat) (mg ms x : Int) (_j : JN) : St := startK Tryz.f101 [] [.e (.agg (tQ C s N n mg ms O o)), iI x]
def wd134 (C N O _R T : List DT) (s n o _m t i : Nat) (mg ms _x _e _lo _hi _z _a _b _c _d _g _f _l : Int) (j : JN) : St := ⟨[(bK (tQ C s N n mg ms O o) 5 78)], [(.code (aF [1, 0, 1, 0, 0] Tryz.f175)), (.inLoop (aF [1, 0, 1, 0, 0] Tryz.f175)), (.inBlock 0), (.code (aF [1, 1] Tryz.f175))], mkT j [(1, (.e (.one (.clo 168 [] [(.one (.ptr 0 0))])))), (8, (dQ T t)), (9, (iN t)), (10, (iN i))] 21 0⟩
def ww82 (C N O R _T : List DT) (s n o m _t i : Nat) (mg ms _x _e _lo _hi _z _a _b _c _d _g _f l : Int) (j : JN) : St := ⟨[(bK (tQ C s N n mg ms O o) 5 78), (bK [(.v (.int .i64 0))] 1 3), (bK [(.v (.int .i64 1000000000))] 1 3), (bK [(.v (.int .i64 (Int.ofNat s)))] 1 3), (bK [(.clo 200 [] [(.one (.ptr 5 0))])] 1 172), (bK [(.v (.int .i64 l))] 1 3)], [(.code (aF [1, 0, 1, 0, 0] Tryz.f103)), (.inLoop (aF [1, 0, 1, 0, 0] Tryz.f103)), (.inBlock 0), (.code (aF [1, 1] Tryz.f103))], mkT j [(1, (.e (.one (.clo 190 [] [(.one (.ptr 3 0)), (.one (.ptr 4 0))])))), (8, (dQ R m)), (9, (iN m)), (10, (iN i))] 21 0⟩
def qd77z_end (_C _N _O _R _T : List DT) (_s _n _o _m _t _i : Nat) (_mg _ms _x _e lo hi _z _a _b _c _d _g _f _l : Int) (j : JN) : St := ⟨[(bK [(.v (.int .i64 lo))] 1 3), (bK [(.v (.int .i64 hi))] 1 3)], [(.code .ret), (.code (aF [1, 1] Tryz.f167))], mkT j [(6, (iI 12))] 14 0⟩
theorem qd77z (hE : EnvOk E) (C N O R T : List DT) (s n o m t i : Nat) (mg ms x e lo hi z a b c d g f l : Int) (h0 : ((↑s : Int) == (0 : Int) : Bool) = true) {Φ : Res → Prop} (ho : ∀ j, OutK E 2 2 (qd77z_end C N O R T s n o m t i mg ms x e lo hi z a b c d g f l j) Φ) (j : JN) : OutK E 2 2 (zd77 C N O R T s n o m t i mg ms x e lo hi z a b c d g f l j) Φ :=
 oS hE [.run 4, (.ops [(1, (.d .len))] []), (.cond true), .run 2] [6] (aP h0 <| aZ)
  ho
def qd77s_end (_C _N _O _R _T : List DT) (_s _n _o _m _t _i : Nat) (_mg _ms _x e lo hi _z _a _b _c _d _g _f _l : Int) (j : JN) : St := ⟨[(bK [(.v (.int .i64 lo))] 1 3), (bK [(.v (.int .i64 hi))] 1 3)], [(.code .ret)], mkT j [(6, (iI e))] 14 0⟩
theorem qd77s (hE : EnvOk E) (C N O R T : List DT) (s n o m t i : Nat) (mg ms x e lo hi z a b c d g f l : Int) (h0 : ((↑s : Int) == (0 : Int) : Bool) = false) (h1 : COut E 2 [(bK [(.v (.int .i64 lo))] 1 3), (bK [(.v (.int .i64 hi))] 1 3)] 133 [(dQ C s), (iI z), (.e (.one (.clo 162 [] [(.one (.ptr 0 0)), (.one (.ptr 1 0))])))] (iI e) [(bK [(.v (.int .i64 lo))] 1 3), (bK [(.v (.int .i64 hi))] 1 3)]) {Φ : Res → Prop} (ho : ∀ j, OutK E 2 2 (qd77s_end C N O R T s n o m t i mg ms x e lo hi z a b c d g f l j) Φ) (j : JN) : OutK E 2 2 (zd77 C N O R T s n o m t i mg ms x e lo hi z a b c d g f l j) Φ :=
 oS hE [.run 4, (.ops [(1, (.d .len))] []), (.cond false), .run 2, (.ops [(3, (.cw (iI e) [(bK [(.v (.int .i64 lo))] 1 3), (bK [(.v (.int .i64 hi))] 1 3)]))] [])] [6] (aP h0 <| aP h1 <| aZ)
  ho
def qd80_end (C N O _R _T : List DT) (s n o _m _t _i : Nat) (mg ms _x e _lo _hi _z _a _b _c _d _g _f _l : Int) (j : JN) : St := ⟨[(bK (tQ C s N n mg ms O o) 5 78)], [(.code .ret)], mkT j [(3, (iI e))] 9 0⟩
theorem qd80 (hE : EnvOk E) (C N O R T : List DT) (s n o m t i : Nat) (mg ms x e lo hi z a b c d g f l : Int) (h0 : COut E 0 [] 169 [(dQ R m), (iN s)] (iI e) []) {Φ : Res → Prop} (ho : ∀ j, OutK E 1 1 (qd80_end C N O R T s n o m t i mg ms x e lo hi z a b c d g f l j) Φ) (j : JN) : OutK E 1 1 (zd80 C N O R T s n o m t i mg ms x e lo hi z a b c d g f l j) Φ :=
 oS hE [.run 3, (.ops [(4, (.c0 (iI e))), (3, (.d .len))] [])] [3] (aP h0 <| aN <| aZ)
  ho
def qd134a_end (C N O _R T : List DT) (s n o _m t _i : Nat) (mg ms _x _e _lo _hi _z _a _b _c _d _g _f _l : Int) (j : JN) : St := ⟨[(bK (tQ C s N n mg ms O o) 5 78)], [(.code (aF [1, 0, 1, 0, 0] Tryz.f175)), (.inLoop (aF [1, 0, 1, 0, 0] Tryz.f175)), (.inBlock 0), (.code (aF [1, 1] Tryz.f175))], mkT j [(1, (.e (.one (.clo 168 [] [(.one (.ptr 0 0))])))), (8, (dQ T t)), (9, (iN t)), (10, (iI 0))] 21 0⟩
theorem qd134a (hE : EnvOk E) (C N O R T : List DT) (s n o m t i : Nat) (mg ms x e lo hi z a b c d g f l : Int)  {Φ : Res → Prop} (ho : ∀ j, OutK E 1 1 (qd134a_end C N O R T s n o m t i mg ms x e lo hi z a b c d g f l j) Φ) (j : JN) : OutK E 1 1 (zd134 C N O R T s n o m t i mg ms x e lo hi z a b c d g f l j) Φ :=
 oS hE [.run 4, (.ops [(1, (.d .len))] []), .run 2] [1, 8, 9, 10] (ps := []) trivial
  ho
def qd88m_end (C N O _R _T : List DT) (s n o _m _t _i : Nat) (mg ms _x _e _lo _hi _z _a _b _c _d _g _f _l : Int) (j : JN) : St := ⟨[(bK (tQ C s N n mg ms O o) 5 78)], [(.code .ret), (.code (aF [1, 1] Tryz.f126))], mkT j [(6, (iI 5))] 14 0⟩
theorem qd88m (hE : EnvOk E) (C N O R T : List DT) (s n o m t i : Nat) (mg ms x e lo hi z a b c d g f l : Int) (h0 : (decide ((↑t : Int) > Int.ofNat (nat_lit 8)) : Bool) = true) {Φ : Res → Prop} (ho : ∀ j, OutK E 1 1 (qd88m_end C N O R T s n o m t i mg ms x e lo hi z a b c d g f l j) Φ) (j : JN) : OutK E 1 1 (zd88 C N O R T s n o m t i mg ms x e lo hi z a b c d g f l j) Φ :=
 oS hE [.run 4, (.ops [(1, (.d .len))] []), (.cond true), .run 2] [6] (aP h0 <| aZ)
  ho
def qd88s_end (C N O _R _T : List DT) (s n o _m _t _i : Nat) (mg ms _x e _lo _hi _z _a _b _c _d _g _f _l : Int) (j : JN) : St := ⟨[(bK (tQ C s N n mg ms O o) 5 78)], [(.code .ret)], mkT j [(6, (iI e))] 14 0⟩
theorem qd88s (hE : EnvOk E) (C N O R T : List DT) (s n o m t i : Nat) (mg ms x e lo hi z a b c d g f l : Int) (h0 : (decide ((↑t : Int) > Int.ofNat (nat_lit 8)) : Bool) = false) (h1 : COut E 1 [(bK (tQ C s N n mg ms O o) 5 78)] 175 [(dQ T t), (.e (.one (.clo 168 [] [(.one (.ptr 0 0))])))] (iI e) [(bK (tQ C s N n mg ms O o) 5 78)]) {Φ : Res → Prop} (ho : ∀ j, OutK E 1 1 (qd88s_end C N O R T s n o m t i mg ms x e lo hi z a b c d g f l j) Φ) (j : JN) : OutK E 1 1 (zd88 C N O R T s n o m t i mg ms x e lo hi z a b c d g f l j) Φ :=
 oS hE [.run 4, (.ops [(1, (.d .len))] []), (.cond false), .run 2, (.ops [(2, (.cw (iI e) [(bK (tQ C s N n mg ms O o) 5 78)]))] [])] [6] (aP h0 <| aP h1 <| aZ)
  ho
def qd79z_end (C N O _R _T : List DT) (s n o _m _t _i : Nat) (mg ms _x _e _lo _hi _z _a _b _c _d _g _f _l : Int) (j : JN) : St := ⟨[(bK (tQ C s N n mg ms O o) 5 78)], [(.code .ret), (.code (aF [1, 1] Tryz.f131))], mkT j [(6, (iI 12))] 14 0⟩
theorem qd79z (hE : EnvOk E) (C N O R T : List DT) (s n o m t i : Nat) (mg ms x e lo hi z a b c d g f l : Int) (h0 : ((↑t : Int) == (0 : Int) : Bool) = true) {Φ : Res → Prop} (ho : ∀ j, OutK E 1 1 (qd79z_end C N O R T s n o m t i mg ms x e lo hi z a b c d g f l j) Φ) (j : JN) : OutK E 1 1 (zd79 C N O R T s n o m t i mg ms x e lo hi z a b c d g f l j) Φ :=
 oS hE [.run 4, (.ops [(1, (.d .len))] []), (.cond true), .run 2] [6] (aP h0 <| aZ)
  ho
def qd79s_end (C N O _R _T : List DT) (s n o _m _t _i : Nat) (mg ms _x e _lo _hi _z _a _b _c _d _g _f _l : Int) (j : JN) : St := ⟨[(bK (tQ C s N n mg ms O o) 5 78)], [(.code .ret)], mkT j [(6, (iI e))] 14 0⟩
theorem qd79s (hE : EnvOk E) (C N O R T : List DT) (s n o m t i : Nat) (mg ms x e lo hi z a b c d g f l : Int) (h0 : ((↑t : Int) == (0 : Int) : Bool) = false) (h1 : COut E 1 [(bK (tQ C s N n mg ms O o) 5 78)] 126 [(dQ T t), (iI 8), (.e (.one (.clo 168 [] [(.one (.ptr 0 0))])))] (iI e) [(bK (tQ C s N n mg ms O o) 5 78)]) {Φ : Res → Prop} (ho : ∀ j, OutK E 1 1 (qd79s_end C N O R T s n o m t i mg ms x e lo hi z a b c d g f l j) Φ) (j : JN) : OutK E 1 1 (zd79 C N O R T s n o m t i mg ms x e lo hi z a b c d g f l j) Φ :=
 oS hE [.run 4, (.ops [(1, (.d .len))] []), (.cond false), .run 2, (.ops [(3, (.cw (iI e) [(bK (tQ C s N n mg ms O o) 5 78)]))] [])] [6] (aP h0 <| aP h1 <| aZ)
  ho
def qw157_end (C N O _R _T : List DT) (s n o _m _t _i : Nat) (mg ms x e _lo _hi _z _a _b _c _d _g _f _l : Int) (j : JN) : St := ⟨[(bK (tQ C s N n mg ms O o) 5 78), (bK [(.v (.int .i64 0))] 1 3), (bK [(.v (.int .i64 1000000000))] 1 3), (bK [(.v (.int .i64 (Int.ofNat s)))] 1 3), (bK [(.clo 200 [] [(.one (.ptr 5 0))])] 1 172), (bK [(.v (.int .i64 x))] 1 3)], [(.code .ret)], mkT j [(3, (iI e))] 11 0⟩
theorem qw157 (hE : EnvOk E) (C N O R T : List DT) (s n o m t i : Nat) (mg ms x e lo hi z a b c d g f l : Int) (h0 : COut E 0 [] 102 [(iB (decide (x ≤ l))), (iI 11)] (iI e) []) {Φ : Res → Prop} (ho : ∀ j, OutK E 0 6 (qw157_end C N O R T s n o m t i mg ms x e lo hi z a b c d g f l j) Φ) (j : JN) : OutK E 0 6 (zw157 C N O R T s n o m t i mg ms x e lo hi z a b c d g f l j) Φ :=
 oS hE [.run 3, (.ops [(3, (.c0 (iI e)))] []), .run 4] [3] (aP h0 <| aN <| aZ)
  ho
def qw132_end (C N O _R _T : List DT) (s n o _m _t _i : Nat) (mg ms x _e _lo _hi _z _a _b _c _d g _f _l : Int) (j : JN) : St := ⟨[(bK (tQ C s N n mg ms O o) 5 78), (bK [(.v (.int .i64 0))] 1 3), (bK [(.v (.int .i64 1000000000))] 1 3), (bK [(.v (.int .i64 (Int.ofNat s)))] 1 3), (bK [(.clo 200 [] [(.one (.ptr 5 0))])] 1 172), (bK [(.v (.int .i64 x))] 1 3)], [(.code .ret)], mkT j [(4, (iI g))] 13 0⟩
theorem qw132 (hE : EnvOk E) (C N O R T : List DT) (s n o m t i : Nat) (mg ms x e lo hi z a b c d g f l : Int) (h0 : COut E 0 [] 83 [(iI x), (iN s)] (iI e) []) (h3 : COut E 0 [(bK (tQ C s N n mg ms O o) 5 78), (bK [(.v (.int .i64 0))] 1 3), (bK [(.v (.int .i64 1000000000))] 1 3), (bK [(.v (.int .i64 (Int.ofNat s)))] 1 3), (bK [(.clo 200 [] [(.one (.ptr 5 0))])] 1 172), (bK [(.v (.int .i64 l))] 1 3)] 200 [(iI x), (.e (.one (.ptr 5 0)))] (iI f) [(bK (tQ C s N n mg ms O o) 5 78), (bK [(.v (.int .i64 0))] 1 3), (bK [(.v (.int .i64 1000000000))] 1 3), (bK [(.v (.int .i64 (Int.ofNat s)))] 1 3), (bK [(.clo 200 [] [(.one (.ptr 5 0))])] 1 172), (bK [(.v (.int .i64 x))] 1 3)]) (h4 : COut E 7 [(bK (tQ C s N n mg ms O o) 5 78), (bK [(.v (.int .i64 0))] 1 3), (bK [(.v (.int .i64 1000000000))] 1 3), (bK [(.v (.int .i64 (Int.ofNat s)))] 1 3), (bK [(.clo 200 [] [(.one (.ptr 5 0))])] 1 172), (bK [(.v (.int .i64 x))] 1 3), (bK [(.v (.int .i64 e)), (.v (.int .i64 f))] 2 31)] 76 [(.e (.one (.slc 6 0 2 1 2 true)))] (iI g) [(bK (tQ C s N n mg ms O o) 5 78), (bK [(.v (.int .i64 0))] 1 3), (bK [(.v (.int .i64 1000000000))] 1 3), (bK [(.v (.int .i64 (Int.ofNat s)))] 1 3), (bK [(.clo 200 [] [(.one (.ptr 5 0))])] 1 172), (bK [(.v (.int .i64 x))] 1 3), (bK [(.v (.int .i64 e)), (.v (.int .i64 f))] 2 31)]) {Φ : Res → Prop} (ho : ∀ j, OutK E 0 6 (qw132_end C N O R T s n o m t i mg ms x e lo hi z a b c d g f l j) Φ) (j : JN) : OutK E 0 6 (zw132 C N O R T s n o m t i mg ms x e lo hi z a b c d g f l j) Φ :=
 oS hE [.run 3, (.ops [(2, (.c0 (iI e))), (5, (.cw (iI f) [(bK (tQ C s N n mg ms O o) 5 78), (bK [(.v (.int .i64 0))] 1 3), (bK [(.v (.int .i64 1000000000))] 1 3), (bK [(.v (.int .i64 (Int.ofNat s)))] 1 3), (bK [(.clo 200 [] [(.one (.ptr 5 0))])] 1 172), (bK [(.v (.int .i64 x))] 1 3)])), (7, (.d (.c1 (iI g))))] [])] [4] (s' := fun j => ⟨[(bK (tQ C s N n mg ms O o) 5 78), (bK [(.v (.int .i64 0))] 1 3), (bK [(.v (.int .i64 1000000000))] 1 3), (bK [(.v (.int .i64 (Int.ofNat s)))] 1 3), (bK [(.clo 200 [] [(.one (.ptr 5 0))])] 1 172), (bK [(.v (.int .i64 x))] 1 3), (bK [(.v (.int .i64 e)), (.v (.int .i64 f))] 2 31)], [(.code .ret)], mkT j [(4, (iI g))] 13 0⟩) (aP h0 <| aN <| aV <| aP h3 <| aP h4 <| aN <| aZ)
  fun j => gZ [0, 1, 2, 3, 4, 5] (ho j)
def qw82a_end (C N O R _T : List DT) (s n o m _t _i : Nat) (mg ms _x _e _lo _hi _z _a _b _c _d _g _f l : Int) (j : JN) : St := ⟨[(bK (tQ C s N n mg ms O o) 5 78), (bK [(.v (.int .i64 0))] 1 3), (bK [(.v (.int .i64 1000000000))] 1 3), (bK [(.v (.int .i64 (Int.ofNat s)))] 1 3), (bK [(.clo 200 [] [(.one (.ptr 5 0))])] 1 172), (bK [(.v (.int .i64 l))] 1 3)], [(.code (aF [1, 0, 1, 0, 0] Tryz.f103)), (.inLoop (aF [1, 0, 1, 0, 0] Tryz.f103)), (.inBlock 0), (.code (aF [1, 1] Tryz.f103))], mkT j [(1, (.e (.one (.clo 190 [] [(.one (.ptr 3 0)), (.one (.ptr 4 0))])))), (8, (dQ R m)), (9, (iN m)), (10, (iI 0))] 21 0⟩
theorem qw82a (hE : EnvOk E) (C N O R T : List DT) (s n o m t i : Nat) (mg ms x e lo hi z a b c d g f l : Int)  {Φ : Res → Prop} (ho : ∀ j, OutK E 0 6 (qw82a_end C N O R T s n o m t i mg ms x e lo hi z a b c d g f l j) Φ) (j : JN) : OutK E 0 6 (zw82 C N O R T s n o m t i mg ms x e lo hi z a b c d g f l j) Φ :=
 oS hE [.run 4, (.ops [(1, (.d .len))] []), .run 2] [1, 8, 9, 10] (ps := []) trivial
  ho
def p70_end (g : Int) (j : JN) : St := ⟨[], [(.code .ret)], mkT j [(4, (iI g))] 14 0⟩
theorem p70 (hE : EnvOk E) (C N O : List DT) (s n o : Nat) (mg ms x a b g : Int) (h0 : COut E 0 [] 113 [(tA C s N n mg ms O o)] (iI a) []) (h3 : COut E 0 [] 83 [(iI x), (iN n)] (iI b) []) (h5 : COut E 2 [(bK (tQ C s N n mg ms O o) 5 78), (bK [(.v (.int .i64 a)), (.v (.int .i64 b))] 2 31)] 76 [(.e (.one (.slc 1 0 2 1 2 true)))] (iI g) [(bK (tQ C s N n mg ms O o) 5 78), (bK [(.v (.int .i64 a)), (.v (.int .i64 b))] 2 31)]) {Φ : Res → Prop} (ho : ∀ j, OutK E 0 0 (p70_end g j) Φ) (j : JN) : OutK E 0 0 (x70 C N O s n o mg ms x j) Φ :=
 oS hE [.run 3, (.ops [(1, (.c0 (iI a))), (6, (.c0 (iI b))), (8, (.d (.c1 (iI g)))), (5, (.d .len))] [])] [4] (s' := fun j => ⟨[(bK (tQ C s N n mg ms O o) 5 78), (bK [(.v (.int .i64 a)), (.v (.int .i64 b))] 2 31)], [(.code .ret)], mkT j [(4, (iI g))] 14 0⟩) (aP h0 <| aN <| aV <| aP h3 <| aN <| aP h5 <| aN <| aZ)
  fun j => gZ [] (ho j)
def qd134s_end (C N O _R T : List DT) (s n o _m t i : Nat) (mg ms _x _e _lo _hi _z _a _b _c _d _g _f _l : Int) (j : JN) : St := ⟨[(bK (tQ C s N n mg ms O o) 5 78)], [(.code (aF [1, 0, 1, 0, 0] Tryz.f175)), (.inLoop (aF [1, 0, 1, 0, 0] Tryz.f175)), (.inBlock 0), (.code (aF [1, 1] Tryz.f175))], mkT j [(1, (.e (.one (.clo 168 [] [(.one (.ptr 0 0))])))), (8, (dQ T t)), (9, (iN t)), (10, (iN (i + 1)))] 21 0⟩
theorem qd134s (hE : EnvOk E) (C N O R T : List DT) (s n o m t i : Nat) (mg ms x e lo hi z a b c d g f l : Int) (h0 : (decide (Int.ofNat i < Int.ofNat t) : Bool) = true) (h1 : (0 : Int) ≤ Int.ofNat i ∧ Int.ofNat i < (↑t : Int)) (h2 : ((Int.ofNat i).toNat * nat_lit 1 : Nat) = i) (h3 : (getL T i : Option DT) = (.some (.s R m 1))) (h4 : COut E 1 [(bK (tQ C s N n mg ms O o) 5 78)] 168 [(dQ R m), (.e (.one (.ptr 0 0)))] (iI e) [(bK (tQ C s N n mg ms O o) 5 78)]) (h5 : (e != (0 : Int) : Bool) = false) (h6 : ((iI (wrapF IntKind.i64 (Int.ofNat i + (1 : Int)))) : AV) = (iN (i + 1))) {Φ : Res → Prop} (ho : ∀ j, OutK E 1 1 (qd134s_end C N O R T s n o m t i mg ms x e lo hi z a b c d g f l j) Φ) (j : JN) : OutK E 1 1 (wd134 C N O R T s n o m t i mg ms x e lo hi z a b c d g f l j) Φ :=
 oS hE [.run 3, (.cond true), .run 4, (.ops [(1, (.d (.ld (.s R m 1)))), (0, (.d (.ix i)))] []), .run 1, (.ops [(2, (.cw (iI e) [(bK (tQ C s N n mg ms O o) 5 78)]))] []), .run 2, (.cond false), .run 2, (.ops [(0, (.rn (iN (i + 1))))] []), .run 1] [1, 8, 9, 10] (aQ h0 h1 h2 h3 <| aP h4 <| aP h5 <| aP h6 <| aZ)
  ho
def qd134e_end (C N O _R _T : List DT) (s n o _m _t _i : Nat) (mg ms _x e _lo _hi _z _a _b _c _d _g _f _l : Int) (j : JN) : St := ⟨[(bK (tQ C s N n mg ms O o) 5 78)], [(.code .ret), (.inBlock 1), (.code (aF [1, 0, 1, 0, 0, 1, 1, 1] Tryz.f175)), (.inLoop (aF [1, 0, 1, 0, 0] Tryz.f175)), (.inBlock 0), (.code (aF [1, 1] Tryz.f175))], mkT j [(4, (iI e))] 21 0⟩
theorem qd134e (hE : EnvOk E) (C N O R T : List DT) (s n o m t i : Nat) (mg ms x e lo hi z a b c d g f l : Int) (h0 : (decide (Int.ofNat i < Int.ofNat t) : Bool) = true) (h1 : (0 : Int) ≤ Int.ofNat i ∧ Int.ofNat i < (↑t : Int)) (h2 : ((Int.ofNat i).toNat * nat_lit 1 : Nat) = i) (h3 : (getL T i : Option DT) = (.some (.s R m 1))) (h4 : COut E 1 [(bK (tQ C s N n mg ms O o) 5 78)] 168 [(dQ R m), (.e (.one (.ptr 0 0)))] (iI e) [(bK (tQ C s N n mg ms O o) 5 78)]) (h5 : (e != (0 : Int) : Bool) = true) {Φ : Res → Prop} (ho : ∀ j, OutK E 1 1 (qd134e_end C N O R T s n o m t i mg ms x e lo hi z a b c d g f l j) Φ) (j : JN) : OutK E 1 1 (wd134 C N O R T s n o m t i mg ms x e lo hi z a b c d g f l j) Φ :=
 oS hE [.run 3, (.cond true), .run 4, (.ops [(1, (.d (.ld (.s R m 1)))), (0, (.d (.ix i)))] []), .run 1, (.ops [(2, (.cw (iI e) [(bK (tQ C s N n mg ms O o) 5 78)]))] []), .run 2, (.cond true), .run 2] [4] (aQ h0 h1 h2 h3 <| aP h4 <| aP h5 <| aZ)
  ho
def qd134x_end (C N O _R _T : List DT) (s n o _m _t _i : Nat) (mg ms _x _e _lo _hi _z _a _b _c _d _g _f _l : Int) (j : JN) : St := ⟨[(bK (tQ C s N n mg ms O o) 5 78)], [(.code .ret)], mkT j [(4, (iI 0))] 21 0⟩
theorem qd134x (hE : EnvOk E) (C N O R T : List DT) (s n o m t i : Nat) (mg ms x e lo hi z a b c d g f l : Int) (h0 : (decide (Int.ofNat i < Int.ofNat t) : Bool) = false) {Φ : Res → Prop} (ho : ∀ j, OutK E 1 1 (qd134x_end C N O R T s n o m t i mg ms x e lo hi z a b c d g f l j) Φ) (j : JN) : OutK E 1 1 (wd134 C N O R T s n o m t i mg ms x e lo hi z a b c d g f l j) Φ :=
 oS hE [.run 3, (.cond false), .run 3] [4] (aP h0 <| aZ)
  ho
def qw82s_end (C N O R _T : List DT) (s n o m _t i : Nat) (mg ms x _e _lo _hi _z _a _b _c _d _g _f _l : Int) (j : JN) : St := ⟨[(bK (tQ C s N n mg ms O o) 5 78), (bK [(.v (.int .i64 0))] 1 3), (bK [(.v (.int .i64 1000000000))] 1 3), (bK [(.v (.int .i64 (Int.ofNat s)))] 1 3), (bK [(.clo 200 [] [(.one (.ptr 5 0))])] 1 172), (bK [(.v (.int .i64 x))] 1 3)], [(.code (aF [1, 0, 1, 0, 0] Tryz.f103)), (.inLoop (aF [1, 0, 1, 0, 0] Tryz.f103)), (.inBlock 0), (.code (aF [1, 1] Tryz.f103))], mkT j [(1, (.e (.one (.clo 190 [] [(.one (.ptr 3 0)), (.one (.ptr 4 0))])))), (8, (dQ R m)), (9, (iN m)), (10, (iN (i + 1)))] 21 0⟩
theorem qw82s (hE : EnvOk E) (C N O R T : List DT) (s n o m t i : Nat) (mg ms x e lo hi z a b c d g f l : Int) (h0 : (decide (Int.ofNat i < Int.ofNat m) : Bool) = true) (h1 : (0 : Int) ≤ Int.ofNat i ∧ Int.ofNat i < (↑m : Int)) (h2 : ((Int.ofNat i).toNat * nat_lit 1 : Nat) = i) (h3 : (getL R i : Option DT) = (.some (.v (.int .i64 x)))) (h4 : COut E 0 [(bK (tQ C s N n mg ms O o) 5 78), (bK [(.v (.int .i64 0))] 1 3), (bK [(.v (.int .i64 1000000000))] 1 3), (bK [(.v (.int .i64 (Int.ofNat s)))] 1 3), (bK [(.clo 200 [] [(.one (.ptr 5 0))])] 1 172), (bK [(.v (.int .i64 l))] 1 3)] 190 [(iI x), (.e (.one (.ptr 3 0))), (.e (.one (.ptr 4 0)))] (iI e) [(bK (tQ C s N n mg ms O o) 5 78), (bK [(.v (.int .i64 0))] 1 3), (bK [(.v (.int .i64 1000000000))] 1 3), (bK [(.v (.int .i64 (Int.ofNat s)))] 1 3), (bK [(.clo 200 [] [(.one (.ptr 5 0))])] 1 172), (bK [(.v (.int .i64 x))] 1 3)]) (h5 : (e != (0 : Int) : Bool) = false) (h6 : ((iI (wrapF IntKind.i64 (Int.ofNat i + (1 : Int)))) : AV) = (iN (i + 1))) {Φ : Res → Prop} (ho : ∀ j, OutK E 0 6 (qw82s_end C N O R T s n o m t i mg ms x e lo hi z a b c d g f l j) Φ) (j : JN) : OutK E 0 6 (ww82 C N O R T s n o m t i mg ms x e lo hi z a b c d g f l j) Φ :=
 oS hE [.run 3, (.cond true), .run 4, (.ops [(1, (.d (.ld (.v (.int .i64 x))))), (0, (.d (.ix i)))] []), .run 1, (.ops [(2, (.cw (iI e) [(bK (tQ C s N n mg ms O o) 5 78), (bK [(.v (.int .i64 0))] 1 3), (bK [(.v (.int .i64 1000000000))] 1 3), (bK [(.v (.int .i64 (Int.ofNat s)))] 1 3), (bK [(.clo 200 [] [(.one (.ptr 5 0))])] 1 172), (bK [(.v (.int .i64 x))] 1 3)]))] []), .run 2, (.cond false), .run 2, (.ops [(0, (.rn (iN (i + 1))))] []), .run 1] [1, 8, 9, 10] (aQ h0 h1 h2 h3 <| aP h4 <| aP h5 <| aP h6 <| aZ)
  ho
def qw82e_end (C N O _R _T : List DT) (s n o _m _t _i : Nat) (mg ms x e _lo _hi _z _a _b _c _d _g _f _l : Int) (j : JN) : St := ⟨[(bK (tQ C s N n mg ms O o) 5 78), (bK [(.v (.int .i64 0))] 1 3), (bK [(.v (.int .i64 1000000000))] 1 3), (bK [(.v (.int .i64 (Int.ofNat s)))] 1 3), (bK [(.clo 200 [] [(.one (.ptr 5 0))])] 1 172), (bK [(.v (.int .i64 x))] 1 3)], [(.code .ret), (.inBlock 1), (.code (aF [1, 0, 1, 0, 0, 1, 1, 1] Tryz.f103)), (.inLoop (aF [1, 0, 1, 0, 0] Tryz.f103)), (.inBlock 0), (.code (aF [1, 1] Tryz.f103))], mkT j [(4, (iI e))] 21 0⟩
theorem qw82e (hE : EnvOk E) (C N O R T : List DT) (s n o m t i : Nat) (mg ms x e lo hi z a b c d g f l : Int) (h0 : (decide (Int.ofNat i < Int.ofNat m) : Bool) = true) (h1 : (0 : Int) ≤ Int.ofNat i ∧ Int.ofNat i < (↑m : Int)) (h2 : ((Int.ofNat i).toNat * nat_lit 1 : Nat) = i) (h3 : (getL R i : Option DT) = (.some (.v (.int .i64 x)))) (h4 : COut E 0 [(bK (tQ C s N n mg ms O o) 5 78), (bK [(.v (.int .i64 0))] 1 3), (bK [(.v (.int .i64 1000000000))] 1 3), (bK [(.v (.int .i64 (Int.ofNat s)))] 1 3), (bK [(.clo 200 [] [(.one (.ptr 5 0))])] 1 172), (bK [(.v (.int .i64 l))] 1 3)] 190 [(iI x), (.e (.one (.ptr 3 0))), (.e (.one (.ptr 4 0)))] (iI e) [(bK (tQ C s N n mg ms O o) 5 78), (bK [(.v (.int .i64 0))] 1 3), (bK [(.v (.int .i64 1000000000))] 1 3), (bK [(.v (.int .i64 (Int.ofNat s)))] 1 3), (bK [(.clo 200 [] [(.one (.ptr 5 0))])] 1 172), (bK [(.v (.int .i64 x))] 1 3)]) (h5 : (e != (0 : Int) : Bool) = true) {Φ : Res → Prop} (ho : ∀ j, OutK E 0 6 (qw82e_end C N O R T s n o m t i mg ms x e lo hi z a b c d g f l j) Φ) (j : JN) : OutK E 0 6 (ww82 C N O R T s n o m t i mg ms x e lo hi z a b c d g f l j) Φ :=
 oS hE [.run 3, (.cond true), .run 4, (.ops [(1, (.d (.ld (.v (.int .i64 x))))), (0, (.d (.ix i)))] []), .run 1, (.ops [(2, (.cw (iI e) [(bK (tQ C s N n mg ms O o) 5 78), (bK [(.v (.int .i64 0))] 1 3), (bK [(.v (.int .i64 1000000000))] 1 3), (bK [(.v (.int .i64 (Int.ofNat s)))] 1 3), (bK [(.clo 200 [] [(.one (.ptr 5 0))])] 1 172), (bK [(.v (.int .i64 x))] 1 3)]))] []), .run 2, (.cond true), .run 2] [4] (aQ h0 h1 h2 h3 <| aP h4 <| aP h5 <| aZ)
  ho
def qw82x_end (C N O _R _T : List DT) (s n o _m _t _i : Nat) (mg ms _x _e _lo _hi _z _a _b _c _d _g _f l : Int) (j : JN) : St := ⟨[(bK (tQ C s N n mg ms O o) 5 78), (bK [(.v (.int .i64 0))] 1 3), (bK [(.v (.int .i64 1000000000))] 1 3), (bK [(.v (.int .i64 (Int.ofNat s)))] 1 3), (bK [(.clo 200 [] [(.one (.ptr 5 0))])] 1 172), (bK [(.v (.int .i64 l))] 1 3)], [(.code .ret)], mkT j [(4, (iI 0))] 21 0⟩
theorem qw82x (hE : EnvOk E) (C N O R T : List DT) (s n o m t i : Nat) (mg ms x e lo hi z a b c d g f l : Int) (h0 : (decide (Int.ofNat i < Int.ofNat m) : Bool) = false) {Φ : Res → Prop} (ho : ∀ j, OutK E 0 6 (qw82x_end C N O R T s n o m t i mg ms x e lo hi z a b c d g f l j) Φ) (j : JN) : OutK E 0 6 (ww82 C N O R T s n o m t i mg ms x e lo hi z a b c d g f l j) Φ :=
 oS hE [.run 3, (.cond false), .run 3] [4] (aP h0 <| aZ)
  ho
def p22_end (g : Int) (j : JN) : St := ⟨[], [(.code .ret)], mkT j [(2, (iI g))] 26 0⟩
theorem p22 (hE : EnvOk E) (C N O : List DT) (s n o : Nat) (mg ms e _z a b c d g l : Int) (h0 : COut E 1 [(bK (tQ C s N n mg ms O o) 5 78)] 131 [(dQ N n), (iI 8), (.e (.one (.clo 168 [] [(.one (.ptr 0 0))])))] (iI b) [(bK (tQ C s N n mg ms O o) 5 78)]) (h3 : True) (h7 : COut E 0 [] 77 [(iI mg), (iI 1), (iI 100)] (iI c) []) (h9 : COut E 0 [] 77 [(iI ms), (iI 1), (iI 1000000)] (iI d) []) (h11 : COut E 2 [(bK [(.v (.int .i64 0))] 1 3), (bK [(.v (.int .i64 1000000000))] 1 3)] 167 [(dQ C s), (iI 8), (.e (.one (.clo 162 [] [(.one (.ptr 0 0)), (.one (.ptr 1 0))])))] (iI a) [(bK [(.v (.int .i64 0))] 1 3), (bK [(.v (.int .i64 1000000000))] 1 3)]) (h19 : COut E 0 [(bK (tQ C s N n mg ms O o) 5 78), (bK [(.v (.int .i64 0))] 1 3), (bK [(.v (.int .i64 1000000000))] 1 3), (bK [(.v (.int .i64 (Int.ofNat s)))] 1 3), (bK [(.clo 200 [] [(.one (.ptr 5 0))])] 1 172), (bK [(.v (.int .i64 (-9223372036854775808)))] 1 3)] 103 [(dQ O o), (.e (.one (.clo 190 [] [(.one (.ptr 3 0)), (.one (.ptr 4 0))])))] (iI e) [(bK (tQ C s N n mg ms O o) 5 78), (bK [(.v (.int .i64 0))] 1 3), (bK [(.v (.int .i64 1000000000))] 1 3), (bK [(.v (.int .i64 (Int.ofNat s)))] 1 3), (bK [(.clo 200 [] [(.one (.ptr 5 0))])] 1 172), (bK [(.v (.int .i64 l))] 1 3)]) (h20 : COut E 7 [(bK (tQ C s N n mg ms O o) 5 78), (bK [(.v (.int .i64 0))] 1 3), (bK [(.v (.int .i64 1000000000))] 1 3), (bK [(.v (.int .i64 (Int.ofNat s)))] 1 3), (bK [(.clo 200 [] [(.one (.ptr 5 0))])] 1 172), (bK [(.v (.int .i64 l))] 1 3), (bK [(.v (.int .i64 a)), (.v (.int .i64 b)), (.v (.int .i64 c)), (.v (.int .i64 d)), (.v (.int .i64 e))] 5 31)] 76 [(.e (.one (.slc 6 0 5 1 5 true)))] (iI g) [(bK (tQ C s N n mg ms O o) 5 78), (bK [(.v (.int .i64 0))] 1 3), (bK [(.v (.int .i64 1000000000))] 1 3), (bK [(.v (.int .i64 (Int.ofNat s)))] 1 3), (bK [(.clo 200 [] [(.one (.ptr 5 0))])] 1 172), (bK [(.v (.int .i64 l))] 1 3), (bK [(.v (.int .i64 a)), (.v (.int .i64 b)), (.v (.int .i64 c)), (.v (.int .i64 d)), (.v (.int .i64 e))] 5 31)]) {Φ : Res → Prop} (ho : ∀ j, OutK E 0 0 (p22_end g j) Φ) (j : JN) : OutK E 0 0 (x22 C N O s n o mg ms j) Φ :=
 outK_seg hE (R4_ok hE) [.run 3, (.ops [(3, (.cl [1, 2] [false, false] [(dQ C s), (iI 8), (.e (.one (.clo 162 [] [(.one (.ptr 0 0)), (.one (.ptr 1 0))])))] [(bK [(.v (.int .i64 0))] 1 3), (bK [(.v (.int .i64 1000000000))] 1 3)] (iI a) [(bK [(.v (.int .i64 0))] 1 3), (bK [(.v (.int .i64 1000000000))] 1 3)] (iI a) [] [])), (7, (.cl [0] [false] [(dQ N n), (iI 8), (.e (.one (.clo 168 [] [(.one (.ptr 0 0))])))] [(bK (tQ C s N n mg ms O o) 5 78)] (iI b) [(bK (tQ C s N n mg ms O o) 5 78)] (iI b) [] [])), (10, (.c0 (iI c))), (13, (.c0 (iI d))), (20, (.cw (iI e) [(bK (tQ C s N n mg ms O o) 5 78), (bK [(.v (.int .i64 0))] 1 3), (bK [(.v (.int .i64 1000000000))] 1 3), (bK [(.v (.int .i64 (Int.ofNat s)))] 1 3), (bK [(.clo 200 [] [(.one (.ptr 5 0))])] 1 172), (bK [(.v (.int .i64 l))] 1 3)])), (22, (.d (.c1 (iI g)))), (18, (.d .len))] [])] [2] (s' := fun j => ⟨[(bK (tQ C s N n mg ms O o) 5 78), (bK [(.v (.int .i64 0))] 1 3), (bK [(.v (.int .i64 1000000000))] 1 3), (bK [(.v (.int .i64 (Int.ofNat s)))] 1 3), (bK [(.clo 200 [] [(.one (.ptr 5 0))])] 1 172), (bK [(.v (.int .i64 l))] 1 3), (bK [(.v (.int .i64 a)), (.v (.int .i64 b)), (.v (.int .i64 c)), (.v (.int .i64 d)), (.v (.int .i64 e))] 5 31)], [(.code .ret)], mkT j [(2, (iI g))] 26 0⟩) (fun j => by kernel_rfl) (aP h0 <| aP (rfl : ([(dQ N n), (iI 8), (.e (.one (.clo 168 [] [(.one (.ptr 0 0))])))] : List AV) = [(dQ N n), (iI 8), (.e (.one (.clo 168 [] [(.one (.ptr 0 0))])))]) <| aP (rfl : ([(.some (bK (tQ C s N n mg ms O o) 5 78))] : List (Option (Option AB))) = [(.some (bK (tQ C s N n mg ms O o) 5 78))]) <| aP h3 <| aP (rfl : ([] : List (Option (Option AB))) = []) <| aP h3 <| aP (rfl : ((iI b) : AV) = (iI b)) <| aP h7 <| aN <| aP h9 <| aN <| aP h11 <| aP (rfl : ([(dQ C s), (iI 8), (.e (.one (.clo 162 [] [(.one (.ptr 1 0)), (.one (.ptr 2 0))])))] : List AV) = [(dQ C s), (iI 8), (.e (.one (.clo 162 [] [(.one (.ptr 1 0)), (.one (.ptr 2 0))])))]) <| aP (rfl : ([(.some (bK [(.v (.int .i64 0))] 1 3)), (.some (bK [(.v (.int .i64 1000000000))] 1 3))] : List (Option (Option AB))) = [(.some (bK [(.v (.int .i64 0))] 1 3)), (.some (bK [(.v (.int .i64 1000000000))] 1 3))]) <| aP h3 <| aP (rfl : ([] : List (Option (Option AB))) = []) <| aP h3 <| aP (rfl : ((iI a) : AV) = (iI a)) <| aV <| aP h19 <| aP h20 <| aN <| aZ)
  fun j => gZ [] (ho j)
def someE (lo hi z : Int) (xs : List Int) : Int := if xs.length = 0 then 12 else if (xs.length : Int) > z then 5 else eachE lo hi xs
theorem Kd77 (hE : EnvOk E) (lo hi z : Int) (xs : List Int) (hm : xs.length ≤ 100000) : COut E 2 (hB lo hi) 167 [dI xs, iI z, (.e (.one (.clo 162 [] [.one (.ptr 0 0), .one (.ptr 1 0)])))] (iI (someE lo hi z xs)) (hB lo hi) := by
 unfold someE
 by_cases h : xs.length = 0
 ·rw [if_pos h]
  exact cOut_start Tryz.func167 rfl (qd77z hE (iD xs) [] [] [] [] xs.length 0 0 0 0 0 0 0 0 0 lo hi z 0 0 0 0 0 0 0 (by rw [h]; rfl) (fun j => outK_ret (ends_ret (by kernel_rfl))) fun _ => undef)
 ·rw [if_neg h]
  exact cOut_start Tryz.func167 rfl (qd77s hE (iD xs) [] [] [] [] xs.length 0 0 0 0 0 0 0 0 (mostE lo hi z xs) lo hi z 0 0 0 0 0 0 0 (beq_eq_false_iff_ne.2 (by omega)) (Kz97 hE lo hi z xs hm) (fun j => outK_ret (ends_ret (by kernel_rfl))) fun _ => undef)
theorem Kg80 (hE : EnvOk E) (sg : List Int) (ns : List (List Int)) (mg ms : Int) (nt r : List Int) (hm : r.length ≤ 100000) : COut E 1 [bK (tnC sg ns mg ms nt) 5 78] 168 [dI r, .e (.one (.ptr 0 0))] (iI (parE sg.length r)) [bK (tnC sg ns mg ms nt) 5 78] :=
 cOut_start Tryz.func168 rfl (qd80 hE (iD sg) (rD ns) (iD nt) (iD r) [] sg.length ns.length nt.length r.length 0 0 mg ms 0 (parE sg.length r) 0 0 0 0 0 0 0 0 0 0 (K81 hE r _ hm) (fun j => outK_ret (ends_ret (by kernel_rfl))) fun _ => undef)
theorem lg134 (hE : EnvOk E) (sg : List Int) (ns : List (List Int)) (mg ms : Int) (nt : List Int) (L : List (List Int)) (hL : L.length ≤ 5000) (hr : ∀ r ∈ L, r.length ≤ 100000) : ∀ m i, m + i = L.length → ∀ j, OutK E 1 1 (wd134 (iD sg) (rD ns) (iD nt) [] (rD L) sg.length ns.length nt.length 0 L.length i mg ms 0 0 0 0 0 0 0 0 0 0 0 0 j) (Go.Ev.Ends E Tryz.f175 (iI (parsE sg.length (L.drop i))) [bK (tnC sg ns mg ms nt) 5 78])
 | 0, i, hi, j => by
  obtain rfl : i = L.length := by omega
  rw [List.drop_length]
  exact qd134x hE (iD sg) (rD ns) (iD nt) [] (rD L) sg.length ns.length nt.length 0 L.length L.length mg ms 0 0 0 0 0 0 0 0 0 0 0 0 dF (fun j => outK_ret (ends_ret (by kernel_rfl))) j
 | m + 1, i, hi, j => by
  have hl : i < L.length := by omega
  have hx : L[i]? = some L[i] := List.getElem?_eq_getElem hl
  have hm := hr L[i] (List.getElem_mem hl)
  rw [List.drop_eq_getElem_cons hl]
  generalize L[i] = r at hx hm
  by_cases h : parE sg.length r = 0
  ·rw [show parsE sg.length (r :: L.drop (i + 1)) = parsE sg.length (L.drop (i + 1)) from if_pos h]
   exact qd134s hE (iD sg) (rD ns) (iD nt) (iD r) (rD L) sg.length ns.length nt.length r.length L.length i mg ms 0 (parE sg.length r) 0 0 0 0 0 0 0 0 0 0 dT bP (Nat.mul_one _) (gR hx) (Kg80 hE sg ns mg ms nt r hm) (by rw [h]; rfl) (iIe (by (try simp only [Int.ofNat_eq_natCast]); rw [wrap_id (by omega) (by omega)]; try omega)) (lg134 hE sg ns mg ms nt L hL hr m (i + 1) (by omega)) j
  ·rw [show parsE sg.length (r :: L.drop (i + 1)) = parE sg.length r from if_neg h]
   exact qd134e hE (iD sg) (rD ns) (iD nt) (iD r) (rD L) sg.length ns.length nt.length r.length L.length i mg ms 0 (parE sg.length r) 0 0 0 0 0 0 0 0 0 0 dT bP (Nat.mul_one _) (gR hx) (Kg80 hE sg ns mg ms nt r hm) (bne_iff_ne.2 h) (fun j => outK_ret (ends_ret (by kernel_rfl))) j
theorem Kg79 (hE : EnvOk E) (sg : List Int) (ns : List (List Int)) (mg ms : Int) (nt : List Int) (L : List (List Int)) (hL : L.length ≤ 5000) (hr : ∀ r ∈ L, r.length ≤ 100000) : COut E 1 [bK (tnC sg ns mg ms nt) 5 78] 131 [dR L, iI 8, (.e (.one (.clo 168 [] [.one (.ptr 0 0)])))] (iI (noiE sg.length L)) [bK (tnC sg ns mg ms nt) 5 78] := by
 unfold noiE
 by_cases h : L.length = 0
 ·rw [if_pos h]
  exact cOut_start Tryz.func131 rfl (qd79z hE (iD sg) (rD ns) (iD nt) [] (rD L) sg.length ns.length nt.length 0 L.length 0 mg ms 0 0 0 0 0 0 0 0 0 0 0 0 (by rw [h]; rfl) (fun j => outK_ret (ends_ret (by kernel_rfl))) fun _ => undef)
 ·rw [if_neg h]
  have k134 : COut E 1 [bK (tnC sg ns mg ms nt) 5 78] 175 [dR L, (.e (.one (.clo 168 [] [.one (.ptr 0 0)])))] (iI (parsE sg.length L)) [bK (tnC sg ns mg ms nt) 5 78] := cOut_start Tryz.func175 rfl (qd134a hE (iD sg) (rD ns) (iD nt) [] (rD L) sg.length ns.length nt.length 0 L.length 0 mg ms 0 0 0 0 0 0 0 0 0 0 0 0 (lg134 hE sg ns mg ms nt L hL hr L.length 0 rfl) fun _ => undef)
  have k88 : COut E 1 [bK (tnC sg ns mg ms nt) 5 78] 126 [dR L, iI 8, (.e (.one (.clo 168 [] [.one (.ptr 0 0)])))] (iI (if (L.length : Int) > 8 then 5 else parsE sg.length L)) [bK (tnC sg ns mg ms nt) 5 78] := by
   by_cases h2 : (L.length : Int) > 8
   ·rw [if_pos h2]
    exact cOut_start Tryz.func126 rfl (qd88m hE (iD sg) (rD ns) (iD nt) [] (rD L) sg.length ns.length nt.length 0 L.length 0 mg ms 0 0 0 0 0 0 0 0 0 0 0 0 (decide_eq_true h2) (fun j => outK_ret (ends_ret (by kernel_rfl))) fun _ => undef)
   ·rw [if_neg h2]
    exact cOut_start Tryz.func126 rfl (qd88s hE (iD sg) (rD ns) (iD nt) [] (rD L) sg.length ns.length nt.length 0 L.length 0 mg ms 0 (parsE sg.length L) 0 0 0 0 0 0 0 0 0 0 (decide_eq_false h2) k134 (fun j => outK_ret (ends_ret (by kernel_rfl))) fun _ => undef)
  exact cOut_start Tryz.func131 rfl (qd79s hE (iD sg) (rD ns) (iD nt) [] (rD L) sg.length ns.length nt.length 0 L.length 0 mg ms 0 ((if (L.length : Int) > 8 then 5 else parsE sg.length L)) 0 0 0 0 0 0 0 0 0 0 (beq_eq_false_iff_ne.2 (by omega)) k88 (fun j => outK_ret (ends_ret (by kernel_rfl))) fun _ => undef)
abbrev ascW (sg : List Int) (ns : List (List Int)) (mg ms : Int) (nt : List Int) (l : Int) : Heap := [bK (tnC sg ns mg ms nt) 5 78, bK [.v (.int .i64 0)] 1 3, bK [.v (.int .i64 1000000000)] 1 3, bK [.v (.int .i64 (Int.ofNat sg.length))] 1 3, bK [.clo 200 [] [.one (.ptr 5 0)]] 1 172, bK [.v (.int .i64 l)] 1 3]
theorem Kw132 (hE : EnvOk E) (sg : List Int) (ns : List (List Int)) (mg ms : Int) (nt : List Int) (x l : Int) : COut E 0 (ascW sg ns mg ms nt l) 190 [iI x, (.e (.one (.ptr 3 0))), (.e (.one (.ptr 4 0)))] (iI (rise x l sg.length)) (ascW sg ns mg ms nt x) := by
 have k157 : COut E 0 (ascW sg ns mg ms nt l) 200 [iI x, (.e (.one (.ptr 5 0)))] (iI (fI (decide (x ≤ l)) 11)) (ascW sg ns mg ms nt x) := cOut_start Tryz.func200 rfl (qw157 hE (iD sg) (rD ns) (iD nt) [] [] sg.length ns.length nt.length 0 0 0 mg ms x (fI (decide (x ≤ l)) 11) 0 0 0 0 0 0 0 0 0 l (K85 hE _ _) (fun j => outK_ret (ends_ret (by kernel_rfl))) fun _ => undef)
 exact cOut_start Tryz.func190 rfl (qw132 hE (iD sg) (rD ns) (iD nt) [] [] sg.length ns.length nt.length 0 0 0 mg ms x (ixE x sg.length) 0 0 0 0 0 0 0 (rise x l sg.length) (fI (decide (x ≤ l)) 11) l (K71 hE x _) k157 (lend2 _ hE 76 _ _ 31 true (K69 hE [ixE x sg.length, fI (decide (x ≤ l)) 11] (by simp)) _ 6 rfl) (fun j => outK_ret (ends_ret (by kernel_rfl))) fun _ => undef)
theorem lw82 (hE : EnvOk E) (sg : List Int) (ns : List (List Int)) (mg ms : Int) (nt xs : List Int) (hm : xs.length ≤ 100000) : ∀ k i, k + i = xs.length → ∀ l j, OutK E 0 6 (ww82 (iD sg) (rD ns) (iD nt) (iD xs) [] sg.length ns.length nt.length xs.length 0 i mg ms 0 0 0 0 0 0 0 0 0 0 0 l j) (Go.Ev.Ends E Tryz.f103 (iI (ascE sg.length l (xs.drop i))) (ascW sg ns mg ms nt (ascL sg.length l (xs.drop i))))
 | 0, i, hi, l, j => by
  obtain rfl : i = xs.length := by omega
  rw [List.drop_length]
  exact qw82x hE (iD sg) (rD ns) (iD nt) (iD xs) [] sg.length ns.length nt.length xs.length 0 xs.length mg ms 0 0 0 0 0 0 0 0 0 0 0 l dF (fun j => outK_ret (ends_ret (by kernel_rfl))) j
 | k + 1, i, hi, l, j => by
  have hl : i < xs.length := by omega
  have hx : xs[i]? = some xs[i] := List.getElem?_eq_getElem hl
  rw [List.drop_eq_getElem_cons hl]
  generalize xs[i] = x at hx
  by_cases h : rise x l sg.length = 0
  ·rw [show ascE sg.length l (x :: xs.drop (i + 1)) = ascE sg.length x (xs.drop (i + 1)) from if_pos h, show ascL sg.length l (x :: xs.drop (i + 1)) = ascL sg.length x (xs.drop (i + 1)) from if_pos h]
   exact qw82s hE (iD sg) (rD ns) (iD nt) (iD xs) [] sg.length ns.length nt.length xs.length 0 i mg ms x (rise x l sg.length) 0 0 0 0 0 0 0 0 0 l dT bP (Nat.mul_one _) (gI hx) (Kw132 hE sg ns mg ms nt x l) (by rw [h]; rfl) (iIe (by (try simp only [Int.ofNat_eq_natCast]); rw [wrap_id (by omega) (by omega)]; try omega)) (lw82 hE sg ns mg ms nt xs hm k (i + 1) (by omega) x) j
  ·rw [show ascE sg.length l (x :: xs.drop (i + 1)) = rise x l sg.length from if_neg h, show ascL sg.length l (x :: xs.drop (i + 1)) = x from if_neg h]
   exact qw82e hE (iD sg) (rD ns) (iD nt) (iD xs) [] sg.length ns.length nt.length xs.length 0 i mg ms x (rise x l sg.length) 0 0 0 0 0 0 0 0 0 l dT bP (Nat.mul_one _) (gI hx) (Kw132 hE sg ns mg ms nt x l) (bne_iff_ne.2 h) (fun j => outK_ret (ends_ret (by kernel_rfl))) j
theorem Kw82 (hE : EnvOk E) (sg : List Int) (ns : List (List Int)) (mg ms : Int) (nt : List Int) (l : Int) (xs : List Int) (hm : xs.length ≤ 100000) : COut E 0 (ascW sg ns mg ms nt l) 103 [dI xs, (.e (.one (.clo 190 [] [.one (.ptr 3 0), .one (.ptr 4 0)])))] (iI (ascE sg.length l xs)) (ascW sg ns mg ms nt (ascL sg.length l xs)) :=
 cOut_start Tryz.func103 rfl (qw82a hE (iD sg) (rD ns) (iD nt) (iD xs) [] sg.length ns.length nt.length xs.length 0 0 mg ms 0 0 0 0 0 0 0 0 0 0 0 l (lw82 hE sg ns mg ms nt xs hm xs.length 0 rfl l) fun _ => undef)
abbrev minI : Int := -9223372036854775808
def tonE (sg : List Int) (ns : List (List Int)) (mg ms : Int) (nt : List Int) : Int := firstI [someE 0 1000000000 8 sg, noiE sg.length ns, rg mg 1 100, rg ms 1 1000000, ascE sg.length minI nt]
abbrev aT (sg : List Int) (ns : List (List Int)) (mg ms : Int) (nt : List Int) : AV := .e (.agg (tnC sg ns mg ms nt))
theorem K22 (hE : EnvOk E) (sg : List Int) (ns : List (List Int)) (mg ms : Int) (nt : List Int) (h1 : sg.length ≤ 100000) (h2 : ns.length ≤ 5000) (h3 : ∀ r ∈ ns, r.length ≤ 100000) (h4 : nt.length ≤ 100000) : COut E 0 [] 113 [aT sg ns mg ms nt] (iI (tonE sg ns mg ms nt)) [] :=
 cOut_clear (cOut_start Tryz.func113 rfl (p22 hE (iD sg) (rD ns) (iD nt) sg.length ns.length nt.length mg ms (ascE sg.length minI nt) 0 (someE 0 1000000000 8 sg) (noiE sg.length ns) (rg mg 1 100) (rg ms 1 1000000) (tonE sg ns mg ms nt) (ascL sg.length minI nt) (Kg79 hE sg ns mg ms nt ns h2 h3) oB (K72 hE _ _ _) (K72 hE _ _ _) (Kd77 hE _ _ _ _ h1) (Kw82 hE sg ns mg ms nt minI nt h4) (lend2 _ hE 76 _ _ 31 true (K69 hE [someE 0 1000000000 8 sg, noiE sg.length ns, rg mg 1 100, rg ms 1 1000000, ascE sg.length minI nt] (by simp)) _ 6 rfl) (fun j => outK_ret (ends_ret (by kernel_rfl))) fun _ => undef)) rfl
def topE (sg : List Int) (ns : List (List Int)) (mg ms : Int) (nt : List Int) (x : Int) : Int := firstI [tonE sg ns mg ms nt, ixE x ns.length]
theorem K70 (hE : EnvOk E) (sg : List Int) (ns : List (List Int)) (mg ms : Int) (nt : List Int) (h1 : sg.length ≤ 100000) (h2 : ns.length ≤ 5000) (h3 : ∀ r ∈ ns, r.length ≤ 100000) (h4 : nt.length ≤ 100000) (x : Int) : COut E 0 [] 101 [aT sg ns mg ms nt, iI x] (iI (topE sg ns mg ms nt x)) [] :=
 cOut_clear (cOut_start Tryz.func101 rfl (p70 hE (iD sg) (rD ns) (iD nt) sg.length ns.length nt.length mg ms x (tonE sg ns mg ms nt) (ixE x ns.length) (topE sg ns mg ms nt x) (K22 hE sg ns mg ms nt h1 h2 h3 h4) (K71 hE _ _) (lend2 _ hE 76 _ _ 31 true (K69 hE [tonE sg ns mg ms nt, ixE x ns.length] (by simp)) _ 1 rfl) (fun j => outK_ret (ends_ret (by kernel_rfl))) fun _ => undef)) rfl
end
end Go.Proofs.YtigdchbjmnbjlaaGreatDoor
end

/-! SeDe -/
section
open Go Go.Ev
namespace Go.Proofs.YtigdchbjmnbjlaaGreatDoor
noncomputable section
set_option maxRecDepth 100000
set_option maxHeartbeats 20000000
def x15 (C N O : List DT) (s n o : Nat) (mg ms : Int) (_j : JN) : St := startK Tryz.f39 [] [.e (.agg (tQ C s N n mg ms O o))]
def y15a (C N O : List DT) (s n o i : Nat) (mg ms : Int) (j : JN) : St := ⟨[(bK (tQ C s N n mg ms O o) 5 71)], [(.code (aF [1, 1, 0, 1, 0, 0] Tryz.f39)), (.inLoop (aF [1, 1, 0, 1, 0, 0] Tryz.f39)), (.inBlock 0), (.code (aF [1, 1, 1] Tryz.f39))], mkT j [(1, (.e (.one (.ptr 0 0)))), (4, (iN i))] 148 0⟩
def y15b (C N O : List DT) (s n o p : Nat) (mg ms : Int) (j : JN) : St := ⟨[(bK (tQ C s N n mg ms O o) 5 71)], [(.code (aF [1, 1, 1, 1, 0, 1, 0, 0] Tryz.f39)), (.inLoop (aF [1, 1, 1, 1, 0, 1, 0, 0] Tryz.f39)), (.inBlock 2), (.code (aF [1, 1, 1, 1, 1] Tryz.f39))], mkT j [(1, (.e (.one (.ptr 0 0)))), (7, (iN p))] 148 0⟩
def y15c (C N O : List DT) (s n o i p : Nat) (mg ms : Int) (j : JN) : St := ⟨[(bK (tQ C s N n mg ms O o) 5 71)], [(.code (aF [1, 1, 1, 1, 0, 1, 0, 0, 1, 0, 0, 1, 1, 0, 0] Tryz.f39)), (.inLoop (aF [1, 1, 1, 1, 0, 1, 0, 0, 1, 0, 0, 1, 1, 0, 0] Tryz.f39)), (.inBlock 4), (.inBlock 3), (.code (aF [1, 1, 1, 1, 0, 1, 0, 0, 1, 1] Tryz.f39)), (.inLoop (aF [1, 1, 1, 1, 0, 1, 0, 0] Tryz.f39)), (.inBlock 2), (.code (aF [1, 1, 1, 1, 1] Tryz.f39))], mkT j [(1, (.e (.one (.ptr 0 0)))), (7, (iN p)), (8, (iN i))] 148 0⟩
def y15d (C N O : List DT) (s n o i : Nat) (mg ms : Int) (j : JN) : St := ⟨[(bK (tQ C s N n mg ms O o) 5 71)], [(.code (aF [1, 1, 1, 1, 1, 1, 0, 1, 0, 0] Tryz.f39)), (.inLoop (aF [1, 1, 1, 1, 1, 1, 0, 1, 0, 0] Tryz.f39)), (.inBlock 6), (.code (aF [1, 1, 1, 1, 1, 1, 1] Tryz.f39))], mkT j [(1, (.e (.one (.ptr 0 0)))), (11, (iN i))] 148 0⟩
def p15e_end (g : Int) (j : JN) : St := ⟨[], [(.code .ret), (.code (aF [1, 1] Tryz.f39))], mkT j [(2, (iI g))] 148 0⟩
theorem p15e (hE : EnvOk E) (C N O : List DT) (s n o : Nat) (mg ms a b g : Int) (h0 : COut E 0 [] 73 [(iB ((↑s : Int) == (0 : Int))), (iI 12)] (iI a) []) (h3 : COut E 0 [] 73 [(iB (decide ((↑s : Int) > (8 : Int)))), (iI 5)] (iI b) []) (h5 : COut E 2 [(bK (tQ C s N n mg ms O o) 5 71), (bK [(.v (.int .i64 a)), (.v (.int .i64 b))] 2 3)] 15 [(.e (.one (.slc 1 0 2 1 2 true)))] (iI g) [(bK (tQ C s N n mg ms O o) 5 71), (bK [(.v (.int .i64 a)), (.v (.int .i64 b))] 2 3)]) (h7 : (g != (0 : Int) : Bool) = true) {Φ : Res → Prop} (ho : ∀ j, OutK E 0 0 (p15e_end g j) Φ) (j : JN) : OutK E 0 0 (x15 C N O s n o mg ms j) Φ :=
 oS hE [.run 4, (.ops [(4, (.c0 (iI a))), (9, (.c0 (iI b))), (11, (.d (.c1 (iI g)))), (2, (.d .len)), (7, (.d .len))] []), .run 2, (.cond true), .run 2] [2] (s' := fun j => ⟨[(bK (tQ C s N n mg ms O o) 5 71), (bK [(.v (.int .i64 a)), (.v (.int .i64 b))] 2 3)], [(.code .ret), (.code (aF [1, 1] Tryz.f39))], mkT j [(2, (iI g))] 148 0⟩) (aP h0 <| aN <| aV <| aP h3 <| aN <| aP h5 <| aN <| aP h7 <| aZ)
  fun j => gZ [] (ho j)
def p15a_end (C N O : List DT) (s n o : Nat) (mg ms : Int) (j : JN) : St := ⟨[(bK (tQ C s N n mg ms O o) 5 71)], [(.code (aF [1, 1, 0, 1, 0, 0] Tryz.f39)), (.inLoop (aF [1, 1, 0, 1, 0, 0] Tryz.f39)), (.inBlock 0), (.code (aF [1, 1, 1] Tryz.f39))], mkT j [(1, (.e (.one (.ptr 0 0)))), (4, (iI 0))] 148 0⟩
theorem p15a (hE : EnvOk E) (C N O : List DT) (s n o : Nat) (mg ms a b g : Int) (h0 : COut E 0 [] 73 [(iB ((↑s : Int) == (0 : Int))), (iI 12)] (iI a) []) (h3 : COut E 0 [] 73 [(iB (decide ((↑s : Int) > (8 : Int)))), (iI 5)] (iI b) []) (h5 : COut E 2 [(bK (tQ C s N n mg ms O o) 5 71), (bK [(.v (.int .i64 a)), (.v (.int .i64 b))] 2 3)] 15 [(.e (.one (.slc 1 0 2 1 2 true)))] (iI g) [(bK (tQ C s N n mg ms O o) 5 71), (bK [(.v (.int .i64 a)), (.v (.int .i64 b))] 2 3)]) (h7 : (g != (0 : Int) : Bool) = false) {Φ : Res → Prop} (ho : ∀ j, OutK E 0 0 (p15a_end C N O s n o mg ms j) Φ) (j : JN) : OutK E 0 0 (x15 C N O s n o mg ms j) Φ :=
 oS hE [.run 4, (.ops [(4, (.c0 (iI a))), (9, (.c0 (iI b))), (11, (.d (.c1 (iI g)))), (2, (.d .len)), (7, (.d .len))] []), .run 2, (.cond false), .run 6] [1, 4] (s' := fun j => ⟨[(bK (tQ C s N n mg ms O o) 5 71), (bK [(.v (.int .i64 a)), (.v (.int .i64 b))] 2 3)], [(.code (aF [1, 1, 0, 1, 0, 0] Tryz.f39)), (.inLoop (aF [1, 1, 0, 1, 0, 0] Tryz.f39)), (.inBlock 0), (.code (aF [1, 1, 1] Tryz.f39))], mkT j [(1, (.e (.one (.ptr 0 0)))), (4, (iI 0))] 148 0⟩) (aP h0 <| aN <| aV <| aP h3 <| aN <| aP h5 <| aN <| aP h7 <| aZ)
  fun j => gZ [0] (ho j)
def p15as_end (C N O : List DT) (s n o i : Nat) (mg ms : Int) (j : JN) : St := ⟨[(bK (tQ C s N n mg ms O o) 5 71)], [(.code (aF [1, 1, 0, 1, 0, 0] Tryz.f39)), (.inLoop (aF [1, 1, 0, 1, 0, 0] Tryz.f39)), (.inBlock 0), (.code (aF [1, 1, 1] Tryz.f39))], mkT j [(1, (.e (.one (.ptr 0 0)))), (4, (iN (i + 1)))] 148 0⟩
theorem p15as (hE : EnvOk E) (C N O : List DT) (s n o i : Nat) (mg ms x e : Int) (h0 : (decide (Int.ofNat i < (↑s : Int)) : Bool) = true) (h1 : (0 : Int) ≤ Int.ofNat i ∧ Int.ofNat i < (↑s : Int)) (h2 : ((Int.ofNat i).toNat * nat_lit 1 : Nat) = i) (h3 : (getL C i : Option DT) = (.some (.v (.int .i64 x)))) (h4 : COut E 0 [] 41 [(iI x), (iI 0), (iI 1000000000)] (iI e) []) (h6 : (e != (0 : Int) : Bool) = false) (h7 : ((iI (wrapF IntKind.i64 (Int.ofNat i + (1 : Int)))) : AV) = (iN (i + 1))) {Φ : Res → Prop} (ho : ∀ j, OutK E 0 0 (p15as_end C N O s n o i mg ms j) Φ) (j : JN) : OutK E 0 0 (y15a C N O s n o i mg ms j) Φ :=
 oS hE [.run 2, (.ops [(3, (.d .len))] []), (.cond true), .run 4, (.ops [(4, (.d (.ld (.v (.int .i64 x))))), (5, (.c0 (iI e))), (3, (.d (.ix i)))] []), .run 2, (.cond false), .run 2, (.ops [(1, (.rn (iN (i + 1))))] []), .run 1] [1, 4] (aQ h0 h1 h2 h3 <| aP h4 <| aN <| aP h6 <| aP h7 <| aZ)
  ho
def p15ae_end (e : Int) (j : JN) : St := ⟨[], [(.code .ret), (.inBlock 1), (.code (aF [1, 1, 0, 1, 0, 0, 1, 1] Tryz.f39)), (.inLoop (aF [1, 1, 0, 1, 0, 0] Tryz.f39)), (.inBlock 0), (.code (aF [1, 1, 1] Tryz.f39))], mkT j [(2, (iI e))] 148 0⟩
theorem p15ae (hE : EnvOk E) (C N O : List DT) (s n o i : Nat) (mg ms x e : Int) (h0 : (decide (Int.ofNat i < (↑s : Int)) : Bool) = true) (h1 : (0 : Int) ≤ Int.ofNat i ∧ Int.ofNat i < (↑s : Int)) (h2 : ((Int.ofNat i).toNat * nat_lit 1 : Nat) = i) (h3 : (getL C i : Option DT) = (.some (.v (.int .i64 x)))) (h4 : COut E 0 [] 41 [(iI x), (iI 0), (iI 1000000000)] (iI e) []) (h6 : (e != (0 : Int) : Bool) = true) {Φ : Res → Prop} (ho : ∀ j, OutK E 0 0 (p15ae_end e j) Φ) (j : JN) : OutK E 0 0 (y15a C N O s n o i mg ms j) Φ :=
 oS hE [.run 2, (.ops [(3, (.d .len))] []), (.cond true), .run 4, (.ops [(4, (.d (.ld (.v (.int .i64 x))))), (5, (.c0 (iI e))), (3, (.d (.ix i)))] []), .run 2, (.cond true), .run 2] [2] (s' := fun j => ⟨[(bK (tQ C s N n mg ms O o) 5 71)], [(.code .ret), (.inBlock 1), (.code (aF [1, 1, 0, 1, 0, 0, 1, 1] Tryz.f39)), (.inLoop (aF [1, 1, 0, 1, 0, 0] Tryz.f39)), (.inBlock 0), (.code (aF [1, 1, 1] Tryz.f39))], mkT j [(2, (iI e))] 148 0⟩) (aQ h0 h1 h2 h3 <| aP h4 <| aN <| aP h6 <| aZ)
  fun j => gZ [] (ho j)
def p15ax_end (C N O : List DT) (s n o : Nat) (mg ms : Int) (j : JN) : St := ⟨[(bK (tQ C s N n mg ms O o) 5 71)], [(.code (aF [1, 1, 1, 1, 0, 1, 0, 0] Tryz.f39)), (.inLoop (aF [1, 1, 1, 1, 0, 1, 0, 0] Tryz.f39)), (.inBlock 2), (.code (aF [1, 1, 1, 1, 1] Tryz.f39))], mkT j [(1, (.e (.one (.ptr 0 0)))), (7, (iI 0))] 148 0⟩
theorem p15ax (hE : EnvOk E) (C N O : List DT) (s n o i : Nat) (mg ms a b g : Int) (h0 : (decide (Int.ofNat i < (↑s : Int)) : Bool) = false) (h1 : COut E 0 [] 73 [(iB ((↑n : Int) == (0 : Int))), (iI 12)] (iI a) []) (h4 : COut E 0 [] 73 [(iB (decide ((↑n : Int) > (8 : Int)))), (iI 5)] (iI b) []) (h6 : COut E 2 [(bK (tQ C s N n mg ms O o) 5 71), (bK [(.v (.int .i64 a)), (.v (.int .i64 b))] 2 3)] 15 [(.e (.one (.slc 1 0 2 1 2 true)))] (iI g) [(bK (tQ C s N n mg ms O o) 5 71), (bK [(.v (.int .i64 a)), (.v (.int .i64 b))] 2 3)]) (h8 : (g != (0 : Int) : Bool) = false) {Φ : Res → Prop} (ho : ∀ j, OutK E 0 0 (p15ax_end C N O s n o mg ms j) Φ) (j : JN) : OutK E 0 0 (y15a C N O s n o i mg ms j) Φ :=
 oS hE [.run 2, (.ops [(3, (.d .len))] []), (.cond false), .run 3, (.ops [(4, (.c0 (iI a))), (9, (.c0 (iI b))), (11, (.d (.c1 (iI g)))), (2, (.d .len)), (7, (.d .len))] []), .run 2, (.cond false), .run 6] [1, 7] (s' := fun j => ⟨[(bK (tQ C s N n mg ms O o) 5 71), (bK [(.v (.int .i64 a)), (.v (.int .i64 b))] 2 3)], [(.code (aF [1, 1, 1, 1, 0, 1, 0, 0] Tryz.f39)), (.inLoop (aF [1, 1, 1, 1, 0, 1, 0, 0] Tryz.f39)), (.inBlock 2), (.code (aF [1, 1, 1, 1, 1] Tryz.f39))], mkT j [(1, (.e (.one (.ptr 0 0)))), (7, (iI 0))] 148 0⟩) (aP h0 <| aP h1 <| aN <| aV <| aP h4 <| aN <| aP h6 <| aN <| aP h8 <| aZ)
  fun j => gZ [0] (ho j)
def p15aq_end (g : Int) (j : JN) : St := ⟨[], [(.code .ret), (.code (aF [1, 1, 1, 1] Tryz.f39))], mkT j [(2, (iI g))] 148 0⟩
theorem p15aq (hE : EnvOk E) (C N O : List DT) (s n o i : Nat) (mg ms a b g : Int) (h0 : (decide (Int.ofNat i < (↑s : Int)) : Bool) = false) (h1 : COut E 0 [] 73 [(iB ((↑n : Int) == (0 : Int))), (iI 12)] (iI a) []) (h4 : COut E 0 [] 73 [(iB (decide ((↑n : Int) > (8 : Int)))), (iI 5)] (iI b) []) (h6 : COut E 2 [(bK (tQ C s N n mg ms O o) 5 71), (bK [(.v (.int .i64 a)), (.v (.int .i64 b))] 2 3)] 15 [(.e (.one (.slc 1 0 2 1 2 true)))] (iI g) [(bK (tQ C s N n mg ms O o) 5 71), (bK [(.v (.int .i64 a)), (.v (.int .i64 b))] 2 3)]) (h8 : (g != (0 : Int) : Bool) = true) {Φ : Res → Prop} (ho : ∀ j, OutK E 0 0 (p15aq_end g j) Φ) (j : JN) : OutK E 0 0 (y15a C N O s n o i mg ms j) Φ :=
 oS hE [.run 2, (.ops [(3, (.d .len))] []), (.cond false), .run 3, (.ops [(4, (.c0 (iI a))), (9, (.c0 (iI b))), (11, (.d (.c1 (iI g)))), (2, (.d .len)), (7, (.d .len))] []), .run 2, (.cond true), .run 2] [2] (s' := fun j => ⟨[(bK (tQ C s N n mg ms O o) 5 71), (bK [(.v (.int .i64 a)), (.v (.int .i64 b))] 2 3)], [(.code .ret), (.code (aF [1, 1, 1, 1] Tryz.f39))], mkT j [(2, (iI g))] 148 0⟩) (aP h0 <| aP h1 <| aN <| aV <| aP h4 <| aN <| aP h6 <| aN <| aP h8 <| aZ)
  fun j => gZ [] (ho j)
def p15bs_end (C N O : List DT) (s n o p : Nat) (mg ms : Int) (j : JN) : St := ⟨[(bK (tQ C s N n mg ms O o) 5 71)], [(.code (aF [1, 1, 1, 1, 0, 1, 0, 0, 1, 0, 0, 1, 1, 0, 0] Tryz.f39)), (.inLoop (aF [1, 1, 1, 1, 0, 1, 0, 0, 1, 0, 0, 1, 1, 0, 0] Tryz.f39)), (.inBlock 4), (.inBlock 3), (.code (aF [1, 1, 1, 1, 0, 1, 0, 0, 1, 1] Tryz.f39)), (.inLoop (aF [1, 1, 1, 1, 0, 1, 0, 0] Tryz.f39)), (.inBlock 2), (.code (aF [1, 1, 1, 1, 1] Tryz.f39))], mkT j [(1, (.e (.one (.ptr 0 0)))), (7, (iN p)), (8, (iI 0))] 148 0⟩
theorem p15bs (hE : EnvOk E) (C N O R : List DT) (s n o m p : Nat) (mg ms : Int) (h0 : (decide (Int.ofNat p < (↑n : Int)) : Bool) = true) (h1 : (0 : Int) ≤ Int.ofNat p ∧ Int.ofNat p < (↑n : Int)) (h2 : ((Int.ofNat p).toNat * nat_lit 1 : Nat) = p) (h3 : (getL N p : Option DT) = (.some (.s R m 1))) (h5 : ((↑m : Int) != (↑s : Int) : Bool) = false) {Φ : Res → Prop} (ho : ∀ j, OutK E 0 0 (p15bs_end C N O s n o p mg ms j) Φ) (j : JN) : OutK E 0 0 (y15b C N O s n o p mg ms j) Φ :=
 oS hE [.run 2, (.ops [(3, (.d .len))] []), (.cond true), .run 5, (.ops [(4, (.d (.ld (.s R m 1)))), (3, (.d (.ix p))), (5, (.d .len)), (8, (.d .len))] []), (.cond false), .run 5] [1, 7, 8] (aQ h0 h1 h2 h3 <| aV <| aP h5 <| aZ)
  ho
def p15bf_end (j : JN) : St := ⟨[], [(.code .ret), (.code (aF [1, 1, 1, 1, 0, 1, 0, 0, 1, 0, 0, 1] Tryz.f39)), (.inBlock 3), (.code (aF [1, 1, 1, 1, 0, 1, 0, 0, 1, 1] Tryz.f39)), (.inLoop (aF [1, 1, 1, 1, 0, 1, 0, 0] Tryz.f39)), (.inBlock 2), (.code (aF [1, 1, 1, 1, 1] Tryz.f39))], mkT j [(2, (iI 2))] 148 0⟩
theorem p15bf (hE : EnvOk E) (C N O R : List DT) (s n o m p : Nat) (mg ms : Int) (h0 : (decide (Int.ofNat p < (↑n : Int)) : Bool) = true) (h1 : (0 : Int) ≤ Int.ofNat p ∧ Int.ofNat p < (↑n : Int)) (h2 : ((Int.ofNat p).toNat * nat_lit 1 : Nat) = p) (h3 : (getL N p : Option DT) = (.some (.s R m 1))) (h5 : ((↑m : Int) != (↑s : Int) : Bool) = true) {Φ : Res → Prop} (ho : ∀ j, OutK E 0 0 (p15bf_end j) Φ) (j : JN) : OutK E 0 0 (y15b C N O s n o p mg ms j) Φ :=
 oS hE [.run 2, (.ops [(3, (.d .len))] []), (.cond true), .run 5, (.ops [(4, (.d (.ld (.s R m 1)))), (3, (.d (.ix p))), (5, (.d .len)), (8, (.d .len))] []), (.cond true), .run 2] [2] (s' := fun j => ⟨[(bK (tQ C s N n mg ms O o) 5 71)], [(.code .ret), (.code (aF [1, 1, 1, 1, 0, 1, 0, 0, 1, 0, 0, 1] Tryz.f39)), (.inBlock 3), (.code (aF [1, 1, 1, 1, 0, 1, 0, 0, 1, 1] Tryz.f39)), (.inLoop (aF [1, 1, 1, 1, 0, 1, 0, 0] Tryz.f39)), (.inBlock 2), (.code (aF [1, 1, 1, 1, 1] Tryz.f39))], mkT j [(2, (iI 2))] 148 0⟩) (aQ h0 h1 h2 h3 <| aV <| aP h5 <| aZ)
  fun j => gZ [] (ho j)
def p15bx_end (C N O : List DT) (s n o : Nat) (mg ms : Int) (j : JN) : St := ⟨[(bK (tQ C s N n mg ms O o) 5 71)], [(.code (aF [1, 1, 1, 1, 1, 1, 0, 1, 0, 0] Tryz.f39)), (.inLoop (aF [1, 1, 1, 1, 1, 1, 0, 1, 0, 0] Tryz.f39)), (.inBlock 6), (.code (aF [1, 1, 1, 1, 1, 1, 1] Tryz.f39))], mkT j [(1, (.e (.one (.ptr 0 0)))), (11, (iI 0))] 148 0⟩
theorem p15bx (hE : EnvOk E) (C N O : List DT) (s n o p : Nat) (mg ms a b g : Int) (h0 : (decide (Int.ofNat p < (↑n : Int)) : Bool) = false) (h1 : COut E 0 [] 41 [(iI mg), (iI 1), (iI 100)] (iI a) []) (h4 : COut E 0 [] 41 [(iI ms), (iI 1), (iI 1000000)] (iI b) []) (h6 : COut E 2 [(bK (tQ C s N n mg ms O o) 5 71), (bK [(.v (.int .i64 a)), (.v (.int .i64 b))] 2 3)] 15 [(.e (.one (.slc 1 0 2 1 2 true)))] (iI g) [(bK (tQ C s N n mg ms O o) 5 71), (bK [(.v (.int .i64 a)), (.v (.int .i64 b))] 2 3)]) (h8 : (g != (0 : Int) : Bool) = false) {Φ : Res → Prop} (ho : ∀ j, OutK E 0 0 (p15bx_end C N O s n o mg ms j) Φ) (j : JN) : OutK E 0 0 (y15b C N O s n o p mg ms j) Φ :=
 oS hE [.run 2, (.ops [(3, (.d .len))] []), (.cond false), .run 3, (.ops [(2, (.c0 (iI a))), (5, (.c0 (iI b))), (7, (.d (.c1 (iI g))))] []), .run 2, (.cond false), .run 6] [1, 11] (s' := fun j => ⟨[(bK (tQ C s N n mg ms O o) 5 71), (bK [(.v (.int .i64 a)), (.v (.int .i64 b))] 2 3)], [(.code (aF [1, 1, 1, 1, 1, 1, 0, 1, 0, 0] Tryz.f39)), (.inLoop (aF [1, 1, 1, 1, 1, 1, 0, 1, 0, 0] Tryz.f39)), (.inBlock 6), (.code (aF [1, 1, 1, 1, 1, 1, 1] Tryz.f39))], mkT j [(1, (.e (.one (.ptr 0 0)))), (11, (iI 0))] 148 0⟩) (aP h0 <| aP h1 <| aN <| aV <| aP h4 <| aN <| aP h6 <| aN <| aP h8 <| aZ)
  fun j => gZ [0] (ho j)
def p15bq_end (g : Int) (j : JN) : St := ⟨[], [(.code .ret), (.code (aF [1, 1, 1, 1, 1, 1] Tryz.f39))], mkT j [(2, (iI g))] 148 0⟩
theorem p15bq (hE : EnvOk E) (C N O : List DT) (s n o p : Nat) (mg ms a b g : Int) (h0 : (decide (Int.ofNat p < (↑n : Int)) : Bool) = false) (h1 : COut E 0 [] 41 [(iI mg), (iI 1), (iI 100)] (iI a) []) (h4 : COut E 0 [] 41 [(iI ms), (iI 1), (iI 1000000)] (iI b) []) (h6 : COut E 2 [(bK (tQ C s N n mg ms O o) 5 71), (bK [(.v (.int .i64 a)), (.v (.int .i64 b))] 2 3)] 15 [(.e (.one (.slc 1 0 2 1 2 true)))] (iI g) [(bK (tQ C s N n mg ms O o) 5 71), (bK [(.v (.int .i64 a)), (.v (.int .i64 b))] 2 3)]) (h8 : (g != (0 : Int) : Bool) = true) {Φ : Res → Prop} (ho : ∀ j, OutK E 0 0 (p15bq_end g j) Φ) (j : JN) : OutK E 0 0 (y15b C N O s n o p mg ms j) Φ :=
 oS hE [.run 2, (.ops [(3, (.d .len))] []), (.cond false), .run 3, (.ops [(2, (.c0 (iI a))), (5, (.c0 (iI b))), (7, (.d (.c1 (iI g))))] []), .run 2, (.cond true), .run 2] [2] (s' := fun j => ⟨[(bK (tQ C s N n mg ms O o) 5 71), (bK [(.v (.int .i64 a)), (.v (.int .i64 b))] 2 3)], [(.code .ret), (.code (aF [1, 1, 1, 1, 1, 1] Tryz.f39))], mkT j [(2, (iI g))] 148 0⟩) (aP h0 <| aP h1 <| aN <| aV <| aP h4 <| aN <| aP h6 <| aN <| aP h8 <| aZ)
  fun j => gZ [] (ho j)
def p15cs_end (C N O : List DT) (s n o i p : Nat) (mg ms : Int) (j : JN) : St := ⟨[(bK (tQ C s N n mg ms O o) 5 71)], [(.code (aF [1, 1, 1, 1, 0, 1, 0, 0, 1, 0, 0, 1, 1, 0, 0] Tryz.f39)), (.inLoop (aF [1, 1, 1, 1, 0, 1, 0, 0, 1, 0, 0, 1, 1, 0, 0] Tryz.f39)), (.inBlock 4), (.inBlock 3), (.code (aF [1, 1, 1, 1, 0, 1, 0, 0, 1, 1] Tryz.f39)), (.inLoop (aF [1, 1, 1, 1, 0, 1, 0, 0] Tryz.f39)), (.inBlock 2), (.code (aF [1, 1, 1, 1, 1] Tryz.f39))], mkT j [(1, (.e (.one (.ptr 0 0)))), (7, (iN p)), (8, (iN (i + 1)))] 148 0⟩
theorem p15cs (hE : EnvOk E) (C N O R : List DT) (s n o m i p : Nat) (mg ms x e : Int) (h0 : (0 : Int) ≤ Int.ofNat p ∧ Int.ofNat p < (↑n : Int)) (h1 : ((Int.ofNat p).toNat * nat_lit 1 : Nat) = p) (h2 : (getL N p : Option DT) = (.some (.s R m 1))) (h3 : (decide (Int.ofNat i < (↑m : Int)) : Bool) = true) (h7 : (0 : Int) ≤ Int.ofNat i ∧ Int.ofNat i < (↑m : Int)) (h8 : ((Int.ofNat i).toNat * 1 : Nat) = i) (h9 : (getL R i : Option DT) = (.some (.v (.int .i64 x)))) (h10 : COut E 0 [] 41 [(iI x), (iI 1), (iI 1000000)] (iI e) []) (h12 : (e != (0 : Int) : Bool) = false) (h13 : ((iI (wrapF IntKind.i64 (Int.ofNat i + (1 : Int)))) : AV) = (iN (i + 1))) {Φ : Res → Prop} (ho : ∀ j, OutK E 0 0 (p15cs_end C N O s n o i p mg ms j) Φ) (j : JN) : OutK E 0 0 (y15c C N O s n o i p mg ms j) Φ :=
 oS hE [.run 2, (.ops [(5, (.d (.ld (.s R m 1)))), (4, (.d (.ix p))), (6, (.d .len))] []), (.cond true), .run 4, (.ops [(4, (.d (.ld (.s R m 1)))), (7, (.d (.ld (.v (.int .i64 x))))), (8, (.c0 (iI e))), (3, (.d (.ix p))), (6, (.d (.ix i)))] []), .run 2, (.cond false), .run 2, (.ops [(1, (.rn (iN (i + 1))))] []), .run 1] [1, 7, 8] (aQ h0 h1 h2 h3 <| aQ h0 h1 h2 h7 <| aP h8 <| aP h9 <| aP h10 <| aN <| aP h12 <| aP h13 <| aZ)
  ho
def p15ce_end (e : Int) (j : JN) : St := ⟨[], [(.code .ret), (.inBlock 5), (.code (aF [1, 1, 1, 1, 0, 1, 0, 0, 1, 0, 0, 1, 1, 0, 0, 1, 1] Tryz.f39)), (.inLoop (aF [1, 1, 1, 1, 0, 1, 0, 0, 1, 0, 0, 1, 1, 0, 0] Tryz.f39)), (.inBlock 4), (.inBlock 3), (.code (aF [1, 1, 1, 1, 0, 1, 0, 0, 1, 1] Tryz.f39)), (.inLoop (aF [1, 1, 1, 1, 0, 1, 0, 0] Tryz.f39)), (.inBlock 2), (.code (aF [1, 1, 1, 1, 1] Tryz.f39))], mkT j [(2, (iI e))] 148 0⟩
theorem p15ce (hE : EnvOk E) (C N O R : List DT) (s n o m i p : Nat) (mg ms x e : Int) (h0 : (0 : Int) ≤ Int.ofNat p ∧ Int.ofNat p < (↑n : Int)) (h1 : ((Int.ofNat p).toNat * nat_lit 1 : Nat) = p) (h2 : (getL N p : Option DT) = (.some (.s R m 1))) (h3 : (decide (Int.ofNat i < (↑m : Int)) : Bool) = true) (h7 : (0 : Int) ≤ Int.ofNat i ∧ Int.ofNat i < (↑m : Int)) (h8 : ((Int.ofNat i).toNat * 1 : Nat) = i) (h9 : (getL R i : Option DT) = (.some (.v (.int .i64 x)))) (h10 : COut E 0 [] 41 [(iI x), (iI 1), (iI 1000000)] (iI e) []) (h12 : (e != (0 : Int) : Bool) = true) {Φ : Res → Prop} (ho : ∀ j, OutK E 0 0 (p15ce_end e j) Φ) (j : JN) : OutK E 0 0 (y15c C N O s n o i p mg ms j) Φ :=
 oS hE [.run 2, (.ops [(5, (.d (.ld (.s R m 1)))), (4, (.d (.ix p))), (6, (.d .len))] []), (.cond true), .run 4, (.ops [(4, (.d (.ld (.s R m 1)))), (7, (.d (.ld (.v (.int .i64 x))))), (8, (.c0 (iI e))), (3, (.d (.ix p))), (6, (.d (.ix i)))] []), .run 2, (.cond true), .run 2] [2] (s' := fun j => ⟨[(bK (tQ C s N n mg ms O o) 5 71)], [(.code .ret), (.inBlock 5), (.code (aF [1, 1, 1, 1, 0, 1, 0, 0, 1, 0, 0, 1, 1, 0, 0, 1, 1] Tryz.f39)), (.inLoop (aF [1, 1, 1, 1, 0, 1, 0, 0, 1, 0, 0, 1, 1, 0, 0] Tryz.f39)), (.inBlock 4), (.inBlock 3), (.code (aF [1, 1, 1, 1, 0, 1, 0, 0, 1, 1] Tryz.f39)), (.inLoop (aF [1, 1, 1, 1, 0, 1, 0, 0] Tryz.f39)), (.inBlock 2), (.code (aF [1, 1, 1, 1, 1] Tryz.f39))], mkT j [(2, (iI e))] 148 0⟩) (aQ h0 h1 h2 h3 <| aQ h0 h1 h2 h7 <| aP h8 <| aP h9 <| aP h10 <| aN <| aP h12 <| aZ)
  fun j => gZ [] (ho j)
def p15cx_end (C N O : List DT) (s n o p : Nat) (mg ms : Int) (j : JN) : St := ⟨[(bK (tQ C s N n mg ms O o) 5 71)], [(.code (aF [1, 1, 1, 1, 0, 1, 0, 0] Tryz.f39)), (.inLoop (aF [1, 1, 1, 1, 0, 1, 0, 0] Tryz.f39)), (.inBlock 2), (.code (aF [1, 1, 1, 1, 1] Tryz.f39))], mkT j [(1, (.e (.one (.ptr 0 0)))), (7, (iN (p + 1)))] 148 0⟩
theorem p15cx (hE : EnvOk E) (C N O R : List DT) (s n o m i p : Nat) (mg ms : Int) (h0 : (0 : Int) ≤ Int.ofNat p ∧ Int.ofNat p < (↑n : Int)) (h1 : ((Int.ofNat p).toNat * nat_lit 1 : Nat) = p) (h2 : (getL N p : Option DT) = (.some (.s R m 1))) (h3 : (decide (Int.ofNat i < (↑m : Int)) : Bool) = false) (h4 : ((iI (wrapF IntKind.i64 (Int.ofNat p + (1 : Int)))) : AV) = (iN (p + 1))) {Φ : Res → Prop} (ho : ∀ j, OutK E 0 0 (p15cx_end C N O s n o p mg ms j) Φ) (j : JN) : OutK E 0 0 (y15c C N O s n o i p mg ms j) Φ :=
 oS hE [.run 2, (.ops [(5, (.d (.ld (.s R m 1)))), (4, (.d (.ix p))), (6, (.d .len))] []), (.cond false), .run 2, (.ops [(1, (.rn (iN (p + 1))))] []), .run 1] [1, 7] (aQ h0 h1 h2 h3 <| aP h4 <| aZ)
  ho
def p15d0s_end (C N O : List DT) (s n o i : Nat) (mg ms : Int) (j : JN) : St := ⟨[(bK (tQ C s N n mg ms O o) 5 71)], [(.code (aF [1, 1, 1, 1, 1, 1, 0, 1, 0, 0] Tryz.f39)), (.inLoop (aF [1, 1, 1, 1, 1, 1, 0, 1, 0, 0] Tryz.f39)), (.inBlock 6), (.code (aF [1, 1, 1, 1, 1, 1, 1] Tryz.f39))], mkT j [(1, (.e (.one (.ptr 0 0)))), (11, (iN (i + 1)))] 148 0⟩
theorem p15d0s (hE : EnvOk E) (C N O : List DT) (s n o i p : Nat) (mg ms x z a b f g : Int) (h0 : (decide (Int.ofNat i < (↑o : Int)) : Bool) = true) (h1 : (0 : Int) ≤ Int.ofNat i ∧ Int.ofNat i < (↑o : Int)) (h2 : ((Int.ofNat i).toNat * nat_lit 1 : Nat) = i) (h3 : (getL O i : Option DT) = (.some (.v (.int .i64 x)))) (h4 : COut E 0 [] 27 [(iN s), (iI x)] (iI a) []) (h6 : (decide (Int.ofNat i > (0 : Int)) == true : Bool) = false) (h7 : (decide (Int.ofNat i > (0 : Int)) == true : Bool) = false) (h8 : (decide (Int.ofNat i > (0 : Int)) == true : Bool) = false) (h9 : (decide (Int.ofNat i > (0 : Int)) == true : Bool) = false) (h10 : (decide (Int.ofNat i > (0 : Int)) == true : Bool) = false) (h11 : (decide (Int.ofNat i > (0 : Int)) == true : Bool) = false) (h12 : (decide (Int.ofNat i > (0 : Int)) == true : Bool) = false) (h13 : (decide (Int.ofNat i > (0 : Int)) == true : Bool) = false) (h14 : (decide (Int.ofNat i > (0 : Int)) == true : Bool) = false) (h15 : (decide (Int.ofNat i > (0 : Int)) == true : Bool) = false) (h16 : (decide (Int.ofNat i > (0 : Int)) == true : Bool) = false) (h17 : (decide (Int.ofNat i > (0 : Int)) == true : Bool) = false) (h19 : (decide (Int.ofNat i > (0 : Int)) == true : Bool) = false) (h20 : (decide (Int.ofNat i > (0 : Int)) : Bool) = false) (h21 : COut E 0 [] 73 [(iB false), (iI 11)] (iI b) []) (h23 : COut E 2 [(bK (tQ C s N n mg ms O o) 5 71), (bK [(.v (.int .i64 a)), (.v (.int .i64 b))] 2 3)] 15 [(.e (.one (.slc 1 0 2 1 2 true)))] (iI g) [(bK (tQ C s N n mg ms O o) 5 71), (bK [(.v (.int .i64 a)), (.v (.int .i64 b))] 2 3)]) (h25 : (g != (0 : Int) : Bool) = false) (h26 : ((iI (wrapF IntKind.i64 (Int.ofNat i + (1 : Int)))) : AV) = (iN (i + 1))) {Φ : Res → Prop} (ho : ∀ j, OutK E 0 0 (p15d0s_end C N O s n o i mg ms j) Φ) (j : JN) : OutK E 0 0 (y15d C N O s n o i mg ms j) Φ :=
 oS hE [.run 2, (.ops [(3, (.d .len))] []), (.cond true), .run 4, (.ops [(7, (.d (.ld (.v (.int .i64 x))))), (8, (.c0 (iI a))), (16, (.d (.ld (.v (.int .i64 x))))), (20, (.rn (iI f))), (21, (.rn (iN p))), (23, (.d (.ld (.v (.int .i64 z))))), (26, (.c0 (iI b))), (28, (.d (.c1 (iI g)))), (2, (.d .len)), (6, (.d (.ix i))), (25, (.pk false))] [(12, false), (13, false), (14, false), (15, false), (16, false), (17, false), (18, false), (19, false), (20, false), (21, false), (22, false), (23, false), (24, false)]), .run 2, (.cond false), .run 2, (.ops [(1, (.rn (iN (i + 1))))] []), .run 1] [1, 11] (s' := fun j => ⟨[(bK (tQ C s N n mg ms O o) 5 71), (bK [(.v (.int .i64 a)), (.v (.int .i64 b))] 2 3)], [(.code (aF [1, 1, 1, 1, 1, 1, 0, 1, 0, 0] Tryz.f39)), (.inLoop (aF [1, 1, 1, 1, 1, 1, 0, 1, 0, 0] Tryz.f39)), (.inBlock 6), (.code (aF [1, 1, 1, 1, 1, 1, 1] Tryz.f39))], mkT j [(1, (.e (.one (.ptr 0 0)))), (11, (iN (i + 1)))] 148 0⟩) (aQ h0 h1 h2 h3 <| aP h4 <| aN <| aQ h6 h7 h8 h9 <| aQ h10 h11 h12 h13 <| aQ h14 h15 h16 h17 <| aV <| aP h19 <| aP h20 <| aP h21 <| aN <| aP h23 <| aN <| aP h25 <| aP h26 <| aZ)
  fun j => gZ [0] (ho j)
def p15d0e_end (g : Int) (j : JN) : St := ⟨[], [(.code .ret), (.inBlock 7), (.code (aF [1, 1, 1, 1, 1, 1, 0, 1, 0, 0, 1, 1] Tryz.f39)), (.inLoop (aF [1, 1, 1, 1, 1, 1, 0, 1, 0, 0] Tryz.f39)), (.inBlock 6), (.code (aF [1, 1, 1, 1, 1, 1, 1] Tryz.f39))], mkT j [(2, (iI g))] 148 0⟩
theorem p15d0e (hE : EnvOk E) (C N O : List DT) (s n o i p : Nat) (mg ms x z a b f g : Int) (h0 : (decide (Int.ofNat i < (↑o : Int)) : Bool) = true) (h1 : (0 : Int) ≤ Int.ofNat i ∧ Int.ofNat i < (↑o : Int)) (h2 : ((Int.ofNat i).toNat * nat_lit 1 : Nat) = i) (h3 : (getL O i : Option DT) = (.some (.v (.int .i64 x)))) (h4 : COut E 0 [] 27 [(iN s), (iI x)] (iI a) []) (h6 : (decide (Int.ofNat i > (0 : Int)) == true : Bool) = false) (h7 : (decide (Int.ofNat i > (0 : Int)) == true : Bool) = false) (h8 : (decide (Int.ofNat i > (0 : Int)) == true : Bool) = false) (h9 : (decide (Int.ofNat i > (0 : Int)) == true : Bool) = false) (h10 : (decide (Int.ofNat i > (0 : Int)) == true : Bool) = false) (h11 : (decide (Int.ofNat i > (0 : Int)) == true : Bool) = false) (h12 : (decide (Int.ofNat i > (0 : Int)) == true : Bool) = false) (h13 : (decide (Int.ofNat i > (0 : Int)) == true : Bool) = false) (h14 : (decide (Int.ofNat i > (0 : Int)) == true : Bool) = false) (h15 : (decide (Int.ofNat i > (0 : Int)) == true : Bool) = false) (h16 : (decide (Int.ofNat i > (0 : Int)) == true : Bool) = false) (h17 : (decide (Int.ofNat i > (0 : Int)) == true : Bool) = false) (h19 : (decide (Int.ofNat i > (0 : Int)) == true : Bool) = false) (h20 : (decide (Int.ofNat i > (0 : Int)) : Bool) = false) (h21 : COut E 0 [] 73 [(iB false), (iI 11)] (iI b) []) (h23 : COut E 2 [(bK (tQ C s N n mg ms O o) 5 71), (bK [(.v (.int .i64 a)), (.v (.int .i64 b))] 2 3)] 15 [(.e (.one (.slc 1 0 2 1 2 true)))] (iI g) [(bK (tQ C s N n mg ms O o) 5 71), (bK [(.v (.int .i64 a)), (.v (.int .i64 b))] 2 3)]) (h25 : (g != (0 : Int) : Bool) = true) {Φ : Res → Prop} (ho : ∀ j, OutK E 0 0 (p15d0e_end g j) Φ) (j : JN) : OutK E 0 0 (y15d C N O s n o i mg ms j) Φ :=
 oS hE [.run 2, (.ops [(3, (.d .len))] []), (.cond true), .run 4, (.ops [(7, (.d (.ld (.v (.int .i64 x))))), (8, (.c0 (iI a))), (16, (.d (.ld (.v (.int .i64 x))))), (20, (.rn (iI f))), (21, (.rn (iN p))), (23, (.d (.ld (.v (.int .i64 z))))), (26, (.c0 (iI b))), (28, (.d (.c1 (iI g)))), (2, (.d .len)), (6, (.d (.ix i))), (25, (.pk false))] [(12, false), (13, false), (14, false), (15, false), (16, false), (17, false), (18, false), (19, false), (20, false), (21, false), (22, false), (23, false), (24, false)]), .run 2, (.cond true), .run 2] [2] (s' := fun j => ⟨[(bK (tQ C s N n mg ms O o) 5 71), (bK [(.v (.int .i64 a)), (.v (.int .i64 b))] 2 3)], [(.code .ret), (.inBlock 7), (.code (aF [1, 1, 1, 1, 1, 1, 0, 1, 0, 0, 1, 1] Tryz.f39)), (.inLoop (aF [1, 1, 1, 1, 1, 1, 0, 1, 0, 0] Tryz.f39)), (.inBlock 6), (.code (aF [1, 1, 1, 1, 1, 1, 1] Tryz.f39))], mkT j [(2, (iI g))] 148 0⟩) (aQ h0 h1 h2 h3 <| aP h4 <| aN <| aQ h6 h7 h8 h9 <| aQ h10 h11 h12 h13 <| aQ h14 h15 h16 h17 <| aV <| aP h19 <| aP h20 <| aP h21 <| aN <| aP h23 <| aN <| aP h25 <| aZ)
  fun j => gZ [] (ho j)
def p15dps_end (C N O : List DT) (s n o i : Nat) (mg ms : Int) (j : JN) : St := ⟨[(bK (tQ C s N n mg ms O o) 5 71)], [(.code (aF [1, 1, 1, 1, 1, 1, 0, 1, 0, 0] Tryz.f39)), (.inLoop (aF [1, 1, 1, 1, 1, 1, 0, 1, 0, 0] Tryz.f39)), (.inBlock 6), (.code (aF [1, 1, 1, 1, 1, 1, 1] Tryz.f39))], mkT j [(1, (.e (.one (.ptr 0 0)))), (11, (iN (i + 1)))] 148 0⟩
theorem p15dps (hE : EnvOk E) (C N O : List DT) (s n o i p : Nat) (mg ms x z a b f g : Int) (h0 : (decide (Int.ofNat i < (↑o : Int)) : Bool) = true) (h1 : (0 : Int) ≤ Int.ofNat i ∧ Int.ofNat i < (↑o : Int)) (h2 : ((Int.ofNat i).toNat * nat_lit 1 : Nat) = i) (h3 : (getL O i : Option DT) = (.some (.v (.int .i64 x)))) (h4 : COut E 0 [] 27 [(iN s), (iI x)] (iI a) []) (h6 : (decide (Int.ofNat i > (0 : Int)) == true : Bool) = true) (h7 : (decide (Int.ofNat i > (0 : Int)) == true : Bool) = true) (h8 : (decide (Int.ofNat i > (0 : Int)) == true : Bool) = true) (h9 : (decide (Int.ofNat i > (0 : Int)) == true : Bool) = true) (h12 : (decide (Int.ofNat i > (0 : Int)) == true : Bool) = true) (h14 : (decide (Int.ofNat i > (0 : Int)) == true : Bool) = true) (h15 : (decide (Int.ofNat i > (0 : Int)) == true : Bool) = true) (h16 : (decide (Int.ofNat i > (0 : Int)) == true : Bool) = true) (h17 : (decide (Int.ofNat i > (0 : Int)) == true : Bool) = true) (h18 : ((iI (wrapF IntKind.i64 (Int.ofNat i - (1 : Int)))) : AV) = (iI f)) (h19 : (decide (Int.ofNat i > (0 : Int)) == true : Bool) = true) (h20 : ((iI (if f > (0 : Int) then f else (0 : Int))) : AV) = (iN p)) (h21 : (decide (Int.ofNat i > (0 : Int)) == true : Bool) = true) (h22 : (0 : Int) ≤ Int.ofNat p ∧ Int.ofNat p < (↑o : Int)) (h23 : ((Int.ofNat p).toNat * nat_lit 1 : Nat) = p) (h24 : (decide (Int.ofNat i > (0 : Int)) == true : Bool) = true) (h25 : (getL O p : Option DT) = (.some (.v (.int .i64 z)))) (h27 : (decide (Int.ofNat i > (0 : Int)) == true : Bool) = true) (h28 : (decide (Int.ofNat i > (0 : Int)) : Bool) = true) (h29 : COut E 0 [] 73 [(iB (decide (x ≤ z))), (iI 11)] (iI b) []) (h31 : COut E 2 [(bK (tQ C s N n mg ms O o) 5 71), (bK [(.v (.int .i64 a)), (.v (.int .i64 b))] 2 3)] 15 [(.e (.one (.slc 1 0 2 1 2 true)))] (iI g) [(bK (tQ C s N n mg ms O o) 5 71), (bK [(.v (.int .i64 a)), (.v (.int .i64 b))] 2 3)]) (h33 : (g != (0 : Int) : Bool) = false) (h34 : ((iI (wrapF IntKind.i64 (Int.ofNat i + (1 : Int)))) : AV) = (iN (i + 1))) {Φ : Res → Prop} (ho : ∀ j, OutK E 0 0 (p15dps_end C N O s n o i mg ms j) Φ) (j : JN) : OutK E 0 0 (y15d C N O s n o i mg ms j) Φ :=
 oS hE [.run 2, (.ops [(3, (.d .len))] []), (.cond true), .run 4, (.ops [(7, (.d (.ld (.v (.int .i64 x))))), (8, (.c0 (iI a))), (16, (.d (.ld (.v (.int .i64 x))))), (20, (.rn (iI f))), (21, (.rn (iN p))), (23, (.d (.ld (.v (.int .i64 z))))), (26, (.c0 (iI b))), (28, (.d (.c1 (iI g)))), (2, (.d .len)), (6, (.d (.ix i))), (15, (.d (.ix i))), (22, (.d (.ix p))), (25, (.pk true))] [(12, true), (13, true), (14, true), (15, true), (16, true), (17, true), (18, true), (19, true), (20, true), (21, true), (22, true), (23, true), (24, true)]), .run 2, (.cond false), .run 2, (.ops [(1, (.rn (iN (i + 1))))] []), .run 1] [1, 11] (s' := fun j => ⟨[(bK (tQ C s N n mg ms O o) 5 71), (bK [(.v (.int .i64 a)), (.v (.int .i64 b))] 2 3)], [(.code (aF [1, 1, 1, 1, 1, 1, 0, 1, 0, 0] Tryz.f39)), (.inLoop (aF [1, 1, 1, 1, 1, 1, 0, 1, 0, 0] Tryz.f39)), (.inBlock 6), (.code (aF [1, 1, 1, 1, 1, 1, 1] Tryz.f39))], mkT j [(1, (.e (.one (.ptr 0 0)))), (11, (iN (i + 1)))] 148 0⟩) (aQ h0 h1 h2 h3 <| aP h4 <| aN <| aQ h6 h7 h8 h9 <| aQ h1 h2 h12 h3 <| aQ h14 h15 h16 h17 <| aQ h18 h19 h20 h21 <| aQ h22 h23 h24 h25 <| aV <| aP h27 <| aP h28 <| aP h29 <| aN <| aP h31 <| aN <| aP h33 <| aP h34 <| aZ)
  fun j => gZ [0] (ho j)
def p15dpe_end (g : Int) (j : JN) : St := ⟨[], [(.code .ret), (.inBlock 7), (.code (aF [1, 1, 1, 1, 1, 1, 0, 1, 0, 0, 1, 1] Tryz.f39)), (.inLoop (aF [1, 1, 1, 1, 1, 1, 0, 1, 0, 0] Tryz.f39)), (.inBlock 6), (.code (aF [1, 1, 1, 1, 1, 1, 1] Tryz.f39))], mkT j [(2, (iI g))] 148 0⟩
theorem p15dpe (hE : EnvOk E) (C N O : List DT) (s n o i p : Nat) (mg ms x z a b f g : Int) (h0 : (decide (Int.ofNat i < (↑o : Int)) : Bool) = true) (h1 : (0 : Int) ≤ Int.ofNat i ∧ Int.ofNat i < (↑o : Int)) (h2 : ((Int.ofNat i).toNat * nat_lit 1 : Nat) = i) (h3 : (getL O i : Option DT) = (.some (.v (.int .i64 x)))) (h4 : COut E 0 [] 27 [(iN s), (iI x)] (iI a) []) (h6 : (decide (Int.ofNat i > (0 : Int)) == true : Bool) = true) (h7 : (decide (Int.ofNat i > (0 : Int)) == true : Bool) = true) (h8 : (decide (Int.ofNat i > (0 : Int)) == true : Bool) = true) (h9 : (decide (Int.ofNat i > (0 : Int)) == true : Bool) = true) (h12 : (decide (Int.ofNat i > (0 : Int)) == true : Bool) = true) (h14 : (decide (Int.ofNat i > (0 : Int)) == true : Bool) = true) (h15 : (decide (Int.ofNat i > (0 : Int)) == true : Bool) = true) (h16 : (decide (Int.ofNat i > (0 : Int)) == true : Bool) = true) (h17 : (decide (Int.ofNat i > (0 : Int)) == true : Bool) = true) (h18 : ((iI (wrapF IntKind.i64 (Int.ofNat i - (1 : Int)))) : AV) = (iI f)) (h19 : (decide (Int.ofNat i > (0 : Int)) == true : Bool) = true) (h20 : ((iI (if f > (0 : Int) then f else (0 : Int))) : AV) = (iN p)) (h21 : (decide (Int.ofNat i > (0 : Int)) == true : Bool) = true) (h22 : (0 : Int) ≤ Int.ofNat p ∧ Int.ofNat p < (↑o : Int)) (h23 : ((Int.ofNat p).toNat * nat_lit 1 : Nat) = p) (h24 : (decide (Int.ofNat i > (0 : Int)) == true : Bool) = true) (h25 : (getL O p : Option DT) = (.some (.v (.int .i64 z)))) (h27 : (decide (Int.ofNat i > (0 : Int)) == true : Bool) = true) (h28 : (decide (Int.ofNat i > (0 : Int)) : Bool) = true) (h29 : COut E 0 [] 73 [(iB (decide (x ≤ z))), (iI 11)] (iI b) []) (h31 : COut E 2 [(bK (tQ C s N n mg ms O o) 5 71), (bK [(.v (.int .i64 a)), (.v (.int .i64 b))] 2 3)] 15 [(.e (.one (.slc 1 0 2 1 2 true)))] (iI g) [(bK (tQ C s N n mg ms O o) 5 71), (bK [(.v (.int .i64 a)), (.v (.int .i64 b))] 2 3)]) (h33 : (g != (0 : Int) : Bool) = true) {Φ : Res → Prop} (ho : ∀ j, OutK E 0 0 (p15dpe_end g j) Φ) (j : JN) : OutK E 0 0 (y15d C N O s n o i mg ms j) Φ :=
 oS hE [.run 2, (.ops [(3, (.d .len))] []), (.cond true), .run 4, (.ops [(7, (.d (.ld (.v (.int .i64 x))))), (8, (.c0 (iI a))), (16, (.d (.ld (.v (.int .i64 x))))), (20, (.rn (iI f))), (21, (.rn (iN p))), (23, (.d (.ld (.v (.int .i64 z))))), (26, (.c0 (iI b))), (28, (.d (.c1 (iI g)))), (2, (.d .len)), (6, (.d (.ix i))), (15, (.d (.ix i))), (22, (.d (.ix p))), (25, (.pk true))] [(12, true), (13, true), (14, true), (15, true), (16, true), (17, true), (18, true), (19, true), (20, true), (21, true), (22, true), (23, true), (24, true)]), .run 2, (.cond true), .run 2] [2] (s' := fun j => ⟨[(bK (tQ C s N n mg ms O o) 5 71), (bK [(.v (.int .i64 a)), (.v (.int .i64 b))] 2 3)], [(.code .ret), (.inBlock 7), (.code (aF [1, 1, 1, 1, 1, 1, 0, 1, 0, 0, 1, 1] Tryz.f39)), (.inLoop (aF [1, 1, 1, 1, 1, 1, 0, 1, 0, 0] Tryz.f39)), (.inBlock 6), (.code (aF [1, 1, 1, 1, 1, 1, 1] Tryz.f39))], mkT j [(2, (iI g))] 148 0⟩) (aQ h0 h1 h2 h3 <| aP h4 <| aN <| aQ h6 h7 h8 h9 <| aQ h1 h2 h12 h3 <| aQ h14 h15 h16 h17 <| aQ h18 h19 h20 h21 <| aQ h22 h23 h24 h25 <| aV <| aP h27 <| aP h28 <| aP h29 <| aN <| aP h31 <| aN <| aP h33 <| aZ)
  fun j => gZ [] (ho j)
def p15dx_end (j : JN) : St := ⟨[], [(.code .ret)], mkT j [(2, (iI 0))] 148 0⟩
theorem p15dx (hE : EnvOk E) (C N O : List DT) (s n o i : Nat) (mg ms : Int) (h0 : (decide (Int.ofNat i < (↑o : Int)) : Bool) = false) {Φ : Res → Prop} (ho : ∀ j, OutK E 0 0 (p15dx_end j) Φ) (j : JN) : OutK E 0 0 (y15d C N O s n o i mg ms j) Φ :=
 oS hE [.run 2, (.ops [(3, (.d .len))] []), (.cond false), .run 3] [2] (s' := fun j => ⟨[(bK (tQ C s N n mg ms O o) 5 71)], [(.code .ret)], mkT j [(2, (iI 0))] 148 0⟩) (aP h0 <| aZ)
  fun j => gZ [] (ho j)
def orE (a b : Int) : Int := if a = 0 then b else a
theorem orE_z {a b : Int} (h : a = 0) : orE a b = b := if_pos h
theorem orE_n {a b : Int} (h : a ≠ 0) : orE a b = a := if_neg h
theorem orE_0 (a : Int) : orE a 0 = a := by unfold orE; split <;> simp_all
theorem orE_as (a b c : Int) : orE (orE a b) c = orE a (orE b c) := by unfold orE; split <;> simp_all
theorem firstI_or (a : Int) (l : List Int) : firstI (a :: l) = orE a (firstI l) := rfl
theorem rise_min (x : Int) (n : Nat) : firstI [ixE x n, fI false 11] = rise x minI n := by
 unfold rise ixE fI
 by_cases h : x < 0
 ·rw [if_pos (.inl h)]; rfl
 ·rw [show decide (x ≤ minI) = false from decide_eq_false (by unfold minI; omega)]
theorem ascE_z {n l x : Int} {r : List Int} (h : rise x l n = 0) : ascE n l (x :: r) = ascE n x r := if_pos h
theorem ascE_n {n l x : Int} {r : List Int} (h : rise x l n ≠ 0) : ascE n l (x :: r) = rise x l n := if_neg h
theorem l15d (hE : EnvOk E) (sg : List Int) (ns : List (List Int)) (mg ms : Int) (nt : List Int) (hm : nt.length ≤ 100000) : ∀ k i l, k + i = nt.length → (i = 0 ∧ l = minI ∨ ∃ p, i = p + 1 ∧ nt[p]? = some l) → ∀ j, OutK E 0 0 (y15d (iD sg) (rD ns) (iD nt) sg.length ns.length nt.length i mg ms j) (Go.Ev.Ends E Tryz.f39 (iI (ascE sg.length l (nt.drop i))) [])
 | 0, i, l, hi, hp, j => by
  obtain rfl : i = nt.length := by omega
  rw [List.drop_length]
  exact p15dx hE (iD sg) (rD ns) (iD nt) sg.length ns.length nt.length nt.length mg ms dF (fun j => outK_ret (ends_ret (by kernel_rfl))) j
 | k + 1, i, l, hi, hp, j => by
  have hl : i < nt.length := by omega
  have hx : nt[i]? = some nt[i] := List.getElem?_eq_getElem hl
  have ih := l15d hE sg ns mg ms nt hm k (i + 1) nt[i] (by omega) (.inr ⟨i, rfl, hx⟩)
  rw [List.drop_eq_getElem_cons hl]
  generalize nt[i] = x at hx ih
  rcases hp with ⟨h0, h1⟩ | ⟨p, h0, hy⟩
  ·have hd : decide (Int.ofNat i > (0 : Int)) = false := decide_eq_false (by rw [h0]; decide)
   rw [h1]
   by_cases h : rise x minI sg.length = 0
   ·rw [ascE_z h]
    exact p15d0s hE (iD sg) (rD ns) (iD nt) sg.length ns.length nt.length i 0 mg ms x 0 (ixE x sg.length) (fI false 11) 0 (rise x minI sg.length) dT bP (Nat.mul_one _) (gI hx) (K16 hE _ _) (by rw [hd]; rfl) (by rw [hd]; rfl) (by rw [hd]; rfl) (by rw [hd]; rfl) (by rw [hd]; rfl) (by rw [hd]; rfl) (by rw [hd]; rfl) (by rw [hd]; rfl) (by rw [hd]; rfl) (by rw [hd]; rfl) (by rw [hd]; rfl) (by rw [hd]; rfl) (by rw [hd]; rfl) hd (K32 hE _ _) (rise_min x sg.length ▸ lend2 _ hE 15 _ _ 3 true (K17 hE [ixE x sg.length, fI false 11] (by simp)) _ 1 rfl) (by rw [h]; rfl) (iIe (by (try simp only [Int.ofNat_eq_natCast]); rw [wrap_id (by omega) (by omega)]; try omega)) ih j
   ·rw [ascE_n h]
    exact p15d0e hE (iD sg) (rD ns) (iD nt) sg.length ns.length nt.length i 0 mg ms x 0 (ixE x sg.length) (fI false 11) 0 (rise x minI sg.length) dT bP (Nat.mul_one _) (gI hx) (K16 hE _ _) (by rw [hd]; rfl) (by rw [hd]; rfl) (by rw [hd]; rfl) (by rw [hd]; rfl) (by rw [hd]; rfl) (by rw [hd]; rfl) (by rw [hd]; rfl) (by rw [hd]; rfl) (by rw [hd]; rfl) (by rw [hd]; rfl) (by rw [hd]; rfl) (by rw [hd]; rfl) (by rw [hd]; rfl) hd (K32 hE _ _) (rise_min x sg.length ▸ lend2 _ hE 15 _ _ 3 true (K17 hE [ixE x sg.length, fI false 11] (by simp)) _ 1 rfl) (bne_iff_ne.2 h) (fun j => outK_ret (ends_ret (by kernel_rfl))) j
  ·have hd : decide (Int.ofNat i > (0 : Int)) = true := decide_eq_true (by rw [h0, Int.ofNat_eq_natCast]; omega)
   by_cases h : rise x l sg.length = 0
   ·rw [ascE_z h]
    exact p15dps hE (iD sg) (rD ns) (iD nt) sg.length ns.length nt.length i p mg ms x l (ixE x sg.length) (fI (decide (x ≤ l)) 11) ((p : Int)) (rise x l sg.length) dT bP (Nat.mul_one _) (gI hx) (K16 hE _ _) (by rw [hd]; rfl) (by rw [hd]; rfl) (by rw [hd]; rfl) (by rw [hd]; rfl) (by rw [hd]; rfl) (by rw [hd]; rfl) (by rw [hd]; rfl) (by rw [hd]; rfl) (by rw [hd]; rfl) (iIe (by (try simp only [Int.ofNat_eq_natCast]); rw [wrap_id (by omega) (by omega)]; omega)) (by rw [hd]; rfl) (iIe (by (try simp only [Int.ofNat_eq_natCast]); split <;> omega)) (by rw [hd]; rfl) bP (Nat.mul_one _) (by rw [hd]; rfl) (gI hy) (by rw [hd]; rfl) hd (K32 hE _ _) (lend2 _ hE 15 _ _ 3 true (K17 hE [ixE x sg.length, fI (decide (x ≤ l)) 11] (by simp)) _ 1 rfl) (by rw [h]; rfl) (iIe (by (try simp only [Int.ofNat_eq_natCast]); rw [wrap_id (by omega) (by omega)]; try omega)) ih j
   ·rw [ascE_n h]
    exact p15dpe hE (iD sg) (rD ns) (iD nt) sg.length ns.length nt.length i p mg ms x l (ixE x sg.length) (fI (decide (x ≤ l)) 11) ((p : Int)) (rise x l sg.length) dT bP (Nat.mul_one _) (gI hx) (K16 hE _ _) (by rw [hd]; rfl) (by rw [hd]; rfl) (by rw [hd]; rfl) (by rw [hd]; rfl) (by rw [hd]; rfl) (by rw [hd]; rfl) (by rw [hd]; rfl) (by rw [hd]; rfl) (by rw [hd]; rfl) (iIe (by (try simp only [Int.ofNat_eq_natCast]); rw [wrap_id (by omega) (by omega)]; omega)) (by rw [hd]; rfl) (iIe (by (try simp only [Int.ofNat_eq_natCast]); split <;> omega)) (by rw [hd]; rfl) bP (Nat.mul_one _) (by rw [hd]; rfl) (gI hy) (by rw [hd]; rfl) hd (K32 hE _ _) (lend2 _ hE 15 _ _ 3 true (K17 hE [ixE x sg.length, fI (decide (x ≤ l)) 11] (by simp)) _ 1 rfl) (bne_iff_ne.2 h) (fun j => outK_ret (ends_ret (by kernel_rfl))) j
abbrev tlE (sg : List Int) (_ns : List (List Int)) (mg ms : Int) (nt : List Int) : Int := orE (firstI [rg mg 1 100, rg ms 1 1000000]) (ascE sg.length minI nt)
theorem l15c (hE : EnvOk E) (sg : List Int) (ns : List (List Int)) (mg ms : Int) (nt : List Int) (V : Int) (p : Nat) (r : List Int) (hp : p < ns.length) (hL : ns.length ≤ 5000) (hr : ns[p]? = some r) (hm : r.length ≤ 100000) (ih : ∀ j, OutK E 0 0 (y15b (iD sg) (rD ns) (iD nt) sg.length ns.length nt.length ((p + 1)) mg ms j) (Go.Ev.Ends E Tryz.f39 (iI V) [])) : ∀ k i, k + i = r.length → ∀ j, OutK E 0 0 (y15c (iD sg) (rD ns) (iD nt) sg.length ns.length nt.length i p mg ms j) (Go.Ev.Ends E Tryz.f39 (iI (orE (eachE 1 1000000 (r.drop i)) V)) [])
 | 0, i, hi, j => by
  obtain rfl : i = r.length := by omega
  rw [List.drop_length, orE_z (show eachE 1 1000000 [] = 0 from rfl)]
  exact p15cx hE (iD sg) (rD ns) (iD nt) (iD r) sg.length ns.length nt.length r.length r.length p mg ms bP (Nat.mul_one _) (gR hr) dF (iIe (by (try simp only [Int.ofNat_eq_natCast]); rw [wrap_id (by omega) (by omega)]; try omega)) ih j
 | k + 1, i, hi, j => by
  have hl : i < r.length := by omega
  have hx : r[i]? = some r[i] := List.getElem?_eq_getElem hl
  have ih' := l15c hE sg ns mg ms nt V p r hp hL hr hm ih k (i + 1) (by omega)
  rw [List.drop_eq_getElem_cons hl]
  generalize r[i] = x at hx
  by_cases h : rg x 1 1000000 = 0
  ·rw [show eachE 1 1000000 (x :: r.drop (i + 1)) = eachE 1 1000000 (r.drop (i + 1)) from if_pos h]
   exact p15cs hE (iD sg) (rD ns) (iD nt) (iD r) sg.length ns.length nt.length r.length i p mg ms x (rg x 1 1000000) bP (Nat.mul_one _) (gR hr) dT bP (Nat.mul_one _) (gI hx) (K18 hE _ _ _) (by rw [h]; rfl) (iIe (by (try simp only [Int.ofNat_eq_natCast]); rw [wrap_id (by omega) (by omega)]; try omega)) ih' j
  ·rw [show eachE 1 1000000 (x :: r.drop (i + 1)) = rg x 1 1000000 from if_neg h, orE_n h]
   exact p15ce hE (iD sg) (rD ns) (iD nt) (iD r) sg.length ns.length nt.length r.length i p mg ms x (rg x 1 1000000) bP (Nat.mul_one _) (gR hr) dT bP (Nat.mul_one _) (gI hx) (K18 hE _ _ _) (bne_iff_ne.2 h) (fun j => outK_ret (ends_ret (by kernel_rfl))) j
theorem l15b (hE : EnvOk E) (sg : List Int) (ns : List (List Int)) (mg ms : Int) (nt : List Int) (hL : ns.length ≤ 5000) (hr : ∀ r ∈ ns, r.length ≤ 100000) (hm : nt.length ≤ 100000) : ∀ k p, k + p = ns.length → ∀ j, OutK E 0 0 (y15b (iD sg) (rD ns) (iD nt) sg.length ns.length nt.length p mg ms j) (Go.Ev.Ends E Tryz.f39 (iI (orE (parsE sg.length (ns.drop p)) (tlE sg ns mg ms nt))) [])
 | 0, p, hi, j => by
  obtain rfl : p = ns.length := by omega
  rw [List.drop_length, orE_z (show parsE sg.length [] = 0 from rfl)]
  by_cases h : firstI [rg mg 1 100, rg ms 1 1000000] = 0
  ·rw [show tlE sg ns mg ms nt = ascE sg.length minI nt from orE_z h]
   exact p15bx hE (iD sg) (rD ns) (iD nt) sg.length ns.length nt.length ns.length mg ms (rg mg 1 100) (rg ms 1 1000000) (firstI [rg mg 1 100, rg ms 1 1000000]) dF (K18 hE _ _ _) (K18 hE _ _ _) (lend2 _ hE 15 _ _ 3 true (K17 hE [rg mg 1 100, rg ms 1 1000000] (by simp)) _ 1 rfl) (by rw [h]; rfl) (l15d hE sg ns mg ms nt hm nt.length 0 minI rfl (.inl ⟨rfl, rfl⟩)) j
  ·rw [show tlE sg ns mg ms nt = firstI [rg mg 1 100, rg ms 1 1000000] from orE_n h]
   exact p15bq hE (iD sg) (rD ns) (iD nt) sg.length ns.length nt.length ns.length mg ms (rg mg 1 100) (rg ms 1 1000000) (firstI [rg mg 1 100, rg ms 1 1000000]) dF (K18 hE _ _ _) (K18 hE _ _ _) (lend2 _ hE 15 _ _ 3 true (K17 hE [rg mg 1 100, rg ms 1 1000000] (by simp)) _ 1 rfl) (bne_iff_ne.2 h) (fun j => outK_ret (ends_ret (by kernel_rfl))) j
 | k + 1, p, hi, j => by
  have hl : p < ns.length := by omega
  have hx : ns[p]? = some ns[p] := List.getElem?_eq_getElem hl
  have hq := hr ns[p] (List.getElem_mem hl)
  have ih := l15b hE sg ns mg ms nt hL hr hm k (p + 1) (by omega)
  rw [List.drop_eq_getElem_cons hl]
  generalize ns[p] = r at hx hq
  by_cases h : (r.length : Int) = sg.length
  ·have e : orE (parsE sg.length (r :: ns.drop (p + 1))) (tlE sg ns mg ms nt) = orE (eachE 1 1000000 r) (orE (parsE sg.length (ns.drop (p + 1))) (tlE sg ns mg ms nt)) := by
    rw [show parsE sg.length (r :: ns.drop (p + 1)) = orE (parE sg.length r) (parsE sg.length (ns.drop (p + 1))) from rfl, show parE sg.length r = eachE 1 1000000 r from if_pos h, orE_as]
   rw [e]
   exact p15bs hE (iD sg) (rD ns) (iD nt) (iD r) sg.length ns.length nt.length r.length p mg ms dT bP (Nat.mul_one _) (gR hx) (by rw [h]; simp) (l15c hE sg ns mg ms nt _ p r hl hL hx hq ih r.length 0 rfl) j
  ·rw [show parsE sg.length (r :: ns.drop (p + 1)) = orE (parE sg.length r) (parsE sg.length (ns.drop (p + 1))) from rfl, show parE sg.length r = 2 from if_neg h, show orE 2 (parsE sg.length (ns.drop (p + 1))) = 2 from rfl, show orE 2 (tlE sg ns mg ms nt) = 2 from rfl]
   exact p15bf hE (iD sg) (rD ns) (iD nt) (iD r) sg.length ns.length nt.length r.length p mg ms dT bP (Nat.mul_one _) (gR hx) (bne_iff_ne.2 h) (fun j => outK_ret (ends_ret (by kernel_rfl))) j
theorem l15a (hE : EnvOk E) (sg : List Int) (ns : List (List Int)) (mg ms : Int) (nt : List Int) (h1 : sg.length ≤ 100000) (hL : ns.length ≤ 5000) (hr : ∀ r ∈ ns, r.length ≤ 100000) (hm : nt.length ≤ 100000) : ∀ k i, k + i = sg.length → ∀ j, OutK E 0 0 (y15a (iD sg) (rD ns) (iD nt) sg.length ns.length nt.length i mg ms j) (Go.Ev.Ends E Tryz.f39 (iI (orE (eachE 0 1000000000 (sg.drop i)) (orE (firstI [fI ((ns.length : Int) == (0 : Int)) 12, fI (decide ((ns.length : Int) > (8 : Int))) 5]) (orE (parsE sg.length ns) (tlE sg ns mg ms nt))))) [])
 | 0, i, hi, j => by
  obtain rfl : i = sg.length := by omega
  rw [List.drop_length, orE_z (show eachE 0 1000000000 [] = 0 from rfl)]
  by_cases h : firstI [fI ((ns.length : Int) == (0 : Int)) 12, fI (decide ((ns.length : Int) > (8 : Int))) 5] = 0
  ·rw [orE_z h]
   exact p15ax hE (iD sg) (rD ns) (iD nt) sg.length ns.length nt.length sg.length mg ms (fI ((ns.length : Int) == (0 : Int)) 12) (fI (decide ((ns.length : Int) > (8 : Int))) 5) (firstI [fI ((ns.length : Int) == (0 : Int)) 12, fI (decide ((ns.length : Int) > (8 : Int))) 5]) dF (K32 hE _ _) (K32 hE _ _) (lend2 _ hE 15 _ _ 3 true (K17 hE [fI ((ns.length : Int) == (0 : Int)) 12, fI (decide ((ns.length : Int) > (8 : Int))) 5] (by simp)) _ 1 rfl) (by rw [h]; rfl) (l15b hE sg ns mg ms nt hL hr hm ns.length 0 rfl) j
  ·rw [orE_n h]
   exact p15aq hE (iD sg) (rD ns) (iD nt) sg.length ns.length nt.length sg.length mg ms (fI ((ns.length : Int) == (0 : Int)) 12) (fI (decide ((ns.length : Int) > (8 : Int))) 5) (firstI [fI ((ns.length : Int) == (0 : Int)) 12, fI (decide ((ns.length : Int) > (8 : Int))) 5]) dF (K32 hE _ _) (K32 hE _ _) (lend2 _ hE 15 _ _ 3 true (K17 hE [fI ((ns.length : Int) == (0 : Int)) 12, fI (decide ((ns.length : Int) > (8 : Int))) 5] (by simp)) _ 1 rfl) (bne_iff_ne.2 h) (fun j => outK_ret (ends_ret (by kernel_rfl))) j
 | k + 1, i, hi, j => by
  have hl : i < sg.length := by omega
  have hx : sg[i]? = some sg[i] := List.getElem?_eq_getElem hl
  have ih := l15a hE sg ns mg ms nt h1 hL hr hm k (i + 1) (by omega)
  rw [List.drop_eq_getElem_cons hl]
  generalize sg[i] = x at hx
  by_cases h : rg x 0 1000000000 = 0
  ·rw [show eachE 0 1000000000 (x :: sg.drop (i + 1)) = eachE 0 1000000000 (sg.drop (i + 1)) from if_pos h]
   exact p15as hE (iD sg) (rD ns) (iD nt) sg.length ns.length nt.length i mg ms x (rg x 0 1000000000) dT bP (Nat.mul_one _) (gI hx) (K18 hE _ _ _) (by rw [h]; rfl) (iIe (by (try simp only [Int.ofNat_eq_natCast]); rw [wrap_id (by omega) (by omega)]; try omega)) ih j
  ·rw [show eachE 0 1000000000 (x :: sg.drop (i + 1)) = rg x 0 1000000000 from if_neg h, orE_n h]
   exact p15ae hE (iD sg) (rD ns) (iD nt) sg.length ns.length nt.length i mg ms x (rg x 0 1000000000) dT bP (Nat.mul_one _) (gI hx) (K18 hE _ _ _) (bne_iff_ne.2 h) (fun j => outK_ret (ends_ret (by kernel_rfl))) j
theorem many_or (n : Nat) (x : Int) : orE (firstI [fI ((n : Int) == (0 : Int)) 12, fI (decide ((n : Int) > (8 : Int))) 5]) x = if n = 0 then 12 else if (n : Int) > 8 then 5 else x := by
 by_cases h : n = 0
 ·subst h; rfl
 ·rw [show fI ((n : Int) == (0 : Int)) 12 = 0 by unfold fI; rw [if_neg (by simpa using h)], if_neg h]
  by_cases g : (n : Int) > 8
  ·rw [decide_eq_true g, if_pos g]; rfl
  ·rw [decide_eq_false g, if_neg g]; rfl
theorem many_orE (n : Nat) (x y : Int) : orE (if n = 0 then 12 else if (n : Int) > 8 then 5 else x) y = orE (firstI [fI ((n : Int) == (0 : Int)) 12, fI (decide ((n : Int) > (8 : Int))) 5]) (orE x y) := by
 rw [many_or]; unfold orE; split <;> try rfl
 split <;> rfl
theorem tonE_or (sg : List Int) (ns : List (List Int)) (mg ms : Int) (nt : List Int) : tonE sg ns mg ms nt = orE (firstI [fI ((sg.length : Int) == (0 : Int)) 12, fI (decide ((sg.length : Int) > (8 : Int))) 5]) (orE (eachE 0 1000000000 sg) (orE (firstI [fI ((ns.length : Int) == (0 : Int)) 12, fI (decide ((ns.length : Int) > (8 : Int))) 5]) (orE (parsE sg.length ns) (tlE sg ns mg ms nt)))) := by
 unfold tonE tlE
 rw [firstI_or, firstI_or, firstI_or, firstI_or, firstI_or, show firstI [] = 0 from rfl, orE_0]
 rw [show someE 0 1000000000 8 sg = if sg.length = 0 then 12 else if (sg.length : Int) > 8 then 5 else eachE 0 1000000000 sg from rfl, many_orE, show noiE sg.length ns = if ns.length = 0 then 12 else if (ns.length : Int) > 8 then 5 else parsE sg.length ns from rfl, many_orE]
 rw [firstI_or (rg mg 1 100), firstI_or (rg ms 1 1000000), show firstI [] = 0 from rfl, orE_0, orE_as (rg mg 1 100)]
abbrev aR (sg : List Int) (ns : List (List Int)) (mg ms : Int) (nt : List Int) : AV := .e (.agg (tnC sg ns mg ms nt))
theorem K15 (hE : EnvOk E) (sg : List Int) (ns : List (List Int)) (mg ms : Int) (nt : List Int) (h1 : sg.length ≤ 100000) (hL : ns.length ≤ 5000) (hr : ∀ r ∈ ns, r.length ≤ 100000) (hm : nt.length ≤ 100000) : COut E 0 [] 39 [aR sg ns mg ms nt] (iI (tonE sg ns mg ms nt)) [] := by
 rw [tonE_or]
 by_cases h : firstI [fI ((sg.length : Int) == (0 : Int)) 12, fI (decide ((sg.length : Int) > (8 : Int))) 5] = 0
 ·rw [orE_z h]
  exact cOut_clear (cOut_start Tryz.func39 rfl (p15a hE (iD sg) (rD ns) (iD nt) sg.length ns.length nt.length mg ms (fI ((sg.length : Int) == (0 : Int)) 12) (fI (decide ((sg.length : Int) > (8 : Int))) 5) (firstI [fI ((sg.length : Int) == (0 : Int)) 12, fI (decide ((sg.length : Int) > (8 : Int))) 5]) (K32 hE _ _) (K32 hE _ _) (lend2 _ hE 15 _ _ 3 true (K17 hE [fI ((sg.length : Int) == (0 : Int)) 12, fI (decide ((sg.length : Int) > (8 : Int))) 5] (by simp)) _ 1 rfl) (by rw [h]; rfl) (l15a hE sg ns mg ms nt h1 hL hr hm sg.length 0 rfl) fun _ => undef)) rfl
 ·rw [orE_n h]
  exact cOut_clear (cOut_start Tryz.func39 rfl (p15e hE (iD sg) (rD ns) (iD nt) sg.length ns.length nt.length mg ms (fI ((sg.length : Int) == (0 : Int)) 12) (fI (decide ((sg.length : Int) > (8 : Int))) 5) (firstI [fI ((sg.length : Int) == (0 : Int)) 12, fI (decide ((sg.length : Int) > (8 : Int))) 5]) (K32 hE _ _) (K32 hE _ _) (lend2 _ hE 15 _ _ 3 true (K17 hE [fI ((sg.length : Int) == (0 : Int)) 12, fI (decide ((sg.length : Int) > (8 : Int))) 5] (by simp)) _ 1 rfl) (bne_iff_ne.2 h) (fun j => outK_ret (ends_ret (by kernel_rfl))) fun _ => undef)) rfl
end
end Go.Proofs.YtigdchbjmnbjlaaGreatDoor
end

/-! SeBa -/
section
open Go Go.Ev
namespace Go.Proofs.YtigdchbjmnbjlaaGreatDoor
noncomputable section
set_option maxRecDepth 100000
set_option maxHeartbeats 20000000
def shortS (L M : List (List Int)) : Prop := (∀ r ∈ M, r.length ≤ 9) ∧ (L.length ≤ 24 ∨ L.length = 1025)
instance (L M : List (List Int)) : Decidable (shortS L M) := by unfold shortS; infer_instance
end
end Go.Proofs.YtigdchbjmnbjlaaGreatDoor
end

/-! SeBb -/
section
open Go Go.Ev Go.Proofs
namespace Go.Proofs.YtigdchbjmnbjlaaGreatDoor
set_option maxRecDepth 100000
set_option maxHeartbeats 20000000
end Go.Proofs.YtigdchbjmnbjlaaGreatDoor
end

/-! SeBc -/
section
open Go Go.Ev
namespace Go.Proofs.YtigdchbjmnbjlaaGreatDoor
noncomputable section
set_option maxRecDepth 100000
set_option maxHeartbeats 20000000
end
end Go.Proofs.YtigdchbjmnbjlaaGreatDoor
end

/-! SeBd -/
section
open Go Go.Ev
namespace Go.Proofs.YtigdchbjmnbjlaaGreatDoor
noncomputable section
set_option maxRecDepth 100000
set_option maxHeartbeats 20000000
theorem look_frz {i : Nat} {ds : List DT} : ∀ (l l' : List (Nat × AV)), All2 (fun p q => p.1 = q.1 ∧ FrzV i ds p.2 q.2) l l' → ∀ k, (lookT l k = none ∧ lookT l' k = none) ∨ ∃ x y, lookT l k = some x ∧ lookT l' k = some y ∧ FrzV i ds x y
 | [], [], _, k => .inl ⟨rfl, rfl⟩
 | p :: l, q :: l', h, k => by
  obtain ⟨⟨h1, h2⟩, h3⟩ := h
  have e1 : lookT (p :: l) k = if Nat.beq p.1 k then some p.2 else lookT l k := rfl
  have e2 : lookT (q :: l') k = if Nat.beq q.1 k then some q.2 else lookT l' k := rfl
  rw [e1, e2, h1]
  by_cases c : Nat.beq q.1 k = true
  ·rw [if_pos c, if_pos c]; exact .inr ⟨_, _, rfl, rfl, h2⟩
  ·rw [if_neg c, if_neg c]; exact look_frz l l' h3 k
theorem frz2 {i : Nat} {ds : List DT} (j : JN) (l l' : List (Nat × AV)) (h : All2 (fun p q => p.1 = q.1 ∧ FrzV i ds p.2 q.2) l l') : ∀ n k, All2 (FrzV i ds) (mkT j l n k) (mkT j l' n k)
 | 0, _ => trivial
 | n + 1, k => by
  refine ⟨?_, frz2 j l l' h n (k + 1)⟩
  show FrzV i ds (match lookT l k with | some x => x | none => .e (.one (.v (j k)))) (match lookT l' k with | some x => x | none => .e (.one (.v (j k))))
  rcases look_frz l l' h k with ⟨a, b⟩ | ⟨x, y, a, b, c⟩
  ·rw [a, b]; exact .inl rfl
  ·rw [a, b]; exact c
theorem st_iC (l : List Int) (k : Nat) (v : Int) : overL [AC.v (.int .i64 v)] (iC l) k = iC (l.set k v) := by
 show setL _ _ _ = _
 rw [setL_eq]
 simp [List.map_set]; rfl
theorem rep0 : ∀ n, repeatC ((fun z => List.map AC.v z.cells.toList) (Value.int IntKind.i64 (0 : Int))) n = iC (List.replicate n 0)
 | 0 => rfl
 | n + 1 => by
  show _ ++ repeatC _ n = _
  rw [rep0 n, List.replicate_succ]
  rfl
theorem rg_00 {x lo hi : Int} (h : rg x lo hi = 0) : lo ≤ x ∧ x ≤ hi := by
 unfold rg at h
 split at h
 ·exact absurd h (by decide)
 ·omega
theorem each_0 {lo hi : Int} : ∀ {xs : List Int}, eachE lo hi xs = 0 → ∀ x ∈ xs, lo ≤ x ∧ x ≤ hi
 | [], _, x, hx => by simp at hx
 | a :: r, h, x, hx => by
  have h' : (if rg a lo hi = 0 then eachE lo hi r else rg a lo hi) = 0 := h
  by_cases c : rg a lo hi = 0
  ·rw [if_pos c] at h'
   rcases List.mem_cons.1 hx with rfl | hx
   ·exact rg_00 c
   ·exact each_0 h' x hx
  ·rw [if_neg c] at h'; exact absurd h' c
theorem rep_set (A : List Int) (m : Nat) (a : Int) : (A ++ List.replicate (m + 1) 0).set A.length a = (A ++ [a]) ++ List.replicate m 0 := by
 rw [List.set_append_right _ _ (Nat.le_refl _), Nat.sub_self, List.replicate_succ, List.set_cons_zero, List.append_assoc]
 rfl
end
end Go.Proofs.YtigdchbjmnbjlaaGreatDoor
end

/-! SeBm -/
section

end

/-! SeBn -/
section
open Go Go.Ev
namespace Go.Proofs.YtigdchbjmnbjlaaGreatDoor
noncomputable section
set_option maxRecDepth 100000
set_option maxHeartbeats 20000000
theorem xo {P : Program} {op : BinOp} {t : TypeId} {x z : Operand} {a b c : Int} (h : ∀ w : World, (do eqGuard op t x z (.int .i64 a) (.int .i64 b); binOp op t (.int .i64 a) (.int .i64 b) : Sem Value).run P w = .ok (.int .i64 c) w) : BinOk P op t x z (.v (.int .i64 a)) (.v (.int .i64 b)) (.v (.int .i64 c)) := by
 intro m p q w hp hq
 obtain rfl : p = .int .i64 a := hp
 obtain rfl : q = .int .i64 b := hq
 exact ⟨_, w.drawn, h w, rfl⟩
theorem shl_ok {P : Program} {t : TypeId} {x z : Operand} : ∀ k : Nat, k < 7 → BinOk P .shl t x z (.v (.int .i64 1)) (.v (.int .i64 (Int.ofNat k))) (.v (.int .i64 (Int.ofNat (2 ^ k))))
 | 0, _ => xo fun w => rfl
 | 1, _ => xo fun w => rfl
 | 2, _ => xo fun w => rfl
 | 3, _ => xo fun w => rfl
 | 4, _ => xo fun w => rfl
 | 5, _ => xo fun w => rfl
 | 6, _ => xo fun w => rfl
 | n + 7, h => absurd h (by omega)
end
end Go.Proofs.YtigdchbjmnbjlaaGreatDoor
end
