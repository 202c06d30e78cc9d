/-
  Part of the proof: SeIv, SeIw, SeEn.
-/
import Derived.Test.YtbijijanflgknaaGreatDoorSeZF

/-! SeIv -/
section
open Go Go.Ev
namespace Go.Proofs.YtbijijanflgknaaGreatDoor
noncomputable section
set_option maxRecDepth 100000
set_option maxHeartbeats 20000000
def s59 (s o l v f e w _x _y _u _t _q _r _g _h _k : Int) (_n _i _m _N _N2 : Nat) (_D _D2 : List AC) (_j : Nat → Value) : St := startK Tryz.f59 [] [.e (.agg [.v (.int .i64 s), .v (.int .i64 o), .v (.int .i64 l), .v (.int .i64 v)]), .e (.agg [.v (.int .i64 f), .v (.int .i64 e)]), iI w]
def s61 (s o l v f e w _x _y _u _t _q _r _g _h _k : Int) (_n _i _m _N _N2 : Nat) (_D _D2 : List AC) (_j : Nat → Value) : St := startK Tryz.f61 [] [.e (.agg [.v (.int .i64 s), .v (.int .i64 o), .v (.int .i64 l), .v (.int .i64 v)]), .e (.agg [.v (.int .i64 f), .v (.int .i64 e)]), iI w]
def s60 (_s _o _l _v f e _w _x _y _u _t _q _r _g _h _k : Int) (_n _i _m _N _N2 : Nat) (_D _D2 : List AC) (_j : Nat → Value) : St := startK Tryz.f60 [] [.e (.agg [.v (.int .i64 f), .v (.int .i64 e)])]
def s103 (_s _o _l _v f e _w _x _y _u _t _q _r _g _h _k : Int) (_n _i _m _N _N2 : Nat) (_D _D2 : List AC) (_j : Nat → Value) : St := startK Tryz.f103 [] [.e (.agg [.v (.int .i64 f), .v (.int .i64 e)])]
def s91 (_s _o _l _v f e _w _x _y _u _t _q _r _g _h _k : Int) (_n _i _m _N _N2 : Nat) (_D _D2 : List AC) (_j : Nat → Value) : St := startK Tryz.f91 [] [.e (.agg [.v (.int .i64 f), .v (.int .i64 e)])]
def s104 (s o l v _f _e w _x _y _u t _q _r _g _h _k : Int) (_n _i _m _N _N2 : Nat) (_D _D2 : List AC) (_j : Nat → Value) : St := startK Tryz.f104 [] [.e (.agg [.v (.int .i64 s), .v (.int .i64 o), .v (.int .i64 l), .v (.int .i64 v)]), iI t, iI w]
def s105 (_s _o _l _v _f _e w _x _y _u t _q _r _g _h _k : Int) (_n _i _m _N _N2 : Nat) (_D _D2 : List AC) (_j : Nat → Value) : St := startK Tryz.f105 [] [iI t, iI w]
def s30 (C : List DT) (n _i : Nat) (_x : Int) (_j : Nat → Value) : St := startK Tryz.f30 [] [(.e (.one (.dp (.s C n 1)))), (.e (.one (.dp (.s C n 1))))]
def s30n (_C : List DT) (_n _i : Nat) (_x : Int) (_j : Nat → Value) : St := startK Tryz.f30 [] [(.e (.one (.dp (.s [] 0 1)))), (.e (.one (.v (.slice none 0 0))))]
def q59z (s o l v f e w _x _y _u _t _q _r _g _h _k : Int) (n i _m _N _N2 : Nat) (_D _D2 : List AC) (j : Nat → Value) : St := ⟨[(.some ⟨[(.v (.int .i64 (s))), (.v (.int .i64 (o))), (.v (.int .i64 (l))), (.v (.int .i64 (v)))], 4, 106, true, .cells⟩), (.some ⟨[(.v (.int .i64 (f))), (.v (.int .i64 (e)))], 2, 79, true, .cells⟩)], [(.code (atC [1, 1, 1, 1, 0, 1, 0, 0] (bodyOf Tryz.f59))), (.inLoop (atC [1, 1, 1, 1, 0, 1, 0, 0] (bodyOf Tryz.f59))), (.inBlock 0), (.code (atC [1, 1, 1, 1, 1] (bodyOf Tryz.f59)))], mkT j [(2, (iI (w))), (3, (.e (.one (.ptr 0 0)))), (4, (.e (.one (.ptr 1 0)))), (9, (.e (.one (.v (.slice none 0 0))))), (27, (iI (Int.ofNat n))), (28, (iI (Int.ofNat i)))] 57 0⟩
def q59i (s o l v f e w _x _y _u _t _q _r _g _h _k : Int) (n i m N _N2 : Nat) (D _D2 : List AC) (j : Nat → Value) : St := ⟨[(.some ⟨[(.v (.int .i64 (s))), (.v (.int .i64 (o))), (.v (.int .i64 (l))), (.v (.int .i64 (v)))], 4, 106, true, .cells⟩), (.some ⟨[(.v (.int .i64 (f))), (.v (.int .i64 (e)))], 2, 79, true, .cells⟩), some ⟨D, N, 3, false, .cells⟩], [(.code (atC [1, 1, 1, 1, 0, 1, 0, 0] (bodyOf Tryz.f59))), (.inLoop (atC [1, 1, 1, 1, 0, 1, 0, 0] (bodyOf Tryz.f59))), (.inBlock 0), (.code (atC [1, 1, 1, 1, 1] (bodyOf Tryz.f59)))], mkT j [(2, (iI (w))), (3, (.e (.one (.ptr 0 0)))), (4, (.e (.one (.ptr 1 0)))), (9, (.e (.one (.slc 2 0 m 1 m false)))), (27, (iI (Int.ofNat n))), (28, (iI (Int.ofNat i)))] 57 0⟩
def q61z (s o l v f e w _x _y _u t _q _r _g _h _k : Int) (_n _i _m _N _N2 : Nat) (_D _D2 : List AC) (j : Nat → Value) : St := ⟨[(.some ⟨[(.v (.int .i64 (s))), (.v (.int .i64 (o))), (.v (.int .i64 (l))), (.v (.int .i64 (v)))], 4, 102, true, .cells⟩), (.some ⟨[(.v (.int .i64 (f))), (.v (.int .i64 (e)))], 2, 79, true, .cells⟩)], [(.code (atC [1, 1, 0, 1, 0, 0] (bodyOf Tryz.f61))), (.inLoop (atC [1, 1, 0, 1, 0, 0] (bodyOf Tryz.f61))), (.inBlock 0), (.code (atC [1, 1, 1] (bodyOf Tryz.f61)))], mkT j [(2, (iI (w))), (3, (.e (.one (.ptr 0 0)))), (4, (.e (.one (.ptr 1 0)))), (7, (.e (.one (.v (.slice none 0 0))))), (8, (iI t))] 38 0⟩
def q61i (s o l v f e w _x _y _u t _q _r _g _h _k : Int) (_n _i m N _N2 : Nat) (D _D2 : List AC) (j : Nat → Value) : St := ⟨[(.some ⟨[(.v (.int .i64 (s))), (.v (.int .i64 (o))), (.v (.int .i64 (l))), (.v (.int .i64 (v)))], 4, 102, true, .cells⟩), (.some ⟨[(.v (.int .i64 (f))), (.v (.int .i64 (e)))], 2, 79, true, .cells⟩), some ⟨D, N, 3, false, .cells⟩], [(.code (atC [1, 1, 0, 1, 0, 0] (bodyOf Tryz.f61))), (.inLoop (atC [1, 1, 0, 1, 0, 0] (bodyOf Tryz.f61))), (.inBlock 0), (.code (atC [1, 1, 1] (bodyOf Tryz.f61)))], mkT j [(2, (iI (w))), (3, (.e (.one (.ptr 0 0)))), (4, (.e (.one (.ptr 1 0)))), (7, (.e (.one (.slc 2 0 m 1 m false)))), (8, (iI t))] 38 0⟩
def q30 (C : List DT) (n i : Nat) (_x : Int) (j : Nat → Value) : St := ⟨[], [(.code (atC [1, 1, 0, 1, 0, 0] (bodyOf Tryz.f30))), (.inLoop (atC [1, 1, 0, 1, 0, 0] (bodyOf Tryz.f30))), (.inBlock 0), (.code (atC [1, 1, 1] (bodyOf Tryz.f30)))], mkT j [(0, (.e (.one (.dp (.s (C) (n) 1))))), (1, (.e (.one (.dp (.s (C) (n) 1))))), (5, (iI (Int.ofNat i)))] 26 0⟩
def p59e_end (_s _o _l _v _f _e _w _x _y _u _t _q _r _g h _k : Int) (_n _i _m _N _N2 : Nat) (_D _D2 : List AC) (j : Nat → Value) : St := ⟨[], [(.code .ret), (.code (atC [1, 1, 1] (bodyOf Tryz.f59)))], mkT j [(6, (.e (.one (.v (.slice none 0 0))))), (7, (iI (h)))] 57 0⟩
theorem p59e (hE : EnvOk E) (s o l v f e w x y u t q r g h k : Int) (n i m N N2 : Nat) (D D2 : List AC) (h0 : COut E 0 [] 57 [(.e (.agg [(.v (.int .i64 (s))), (.v (.int .i64 (o))), (.v (.int .i64 (l))), (.v (.int .i64 (v)))]))] (iI (q)) []) (h2 : COut E 0 [] 103 [(.e (.agg [(.v (.int .i64 (f))), (.v (.int .i64 (e)))]))] (iI (r)) []) (h5 : COut E 0 [] 81 [(iI (w)), (iI 2), (iI 100000)] (iI (g)) []) (h7 : COut E 3 [(.some ⟨[(.v (.int .i64 (s))), (.v (.int .i64 (o))), (.v (.int .i64 (l))), (.v (.int .i64 (v)))], 4, 106, true, .cells⟩), (.some ⟨[(.v (.int .i64 (f))), (.v (.int .i64 (e)))], 2, 79, true, .cells⟩), (.some ⟨[(.v (.int .i64 (q))), (.v (.int .i64 (r))), (.v (.int .i64 (g)))], 3, 32, true, .cells⟩)] 68 [(.e (.one (.slc 2 0 3 1 3 true)))] (iI (h)) [(.some ⟨[(.v (.int .i64 (s))), (.v (.int .i64 (o))), (.v (.int .i64 (l))), (.v (.int .i64 (v)))], 4, 106, true, .cells⟩), (.some ⟨[(.v (.int .i64 (f))), (.v (.int .i64 (e)))], 2, 79, true, .cells⟩), (.some ⟨[(.v (.int .i64 (q))), (.v (.int .i64 (r))), (.v (.int .i64 (g)))], 3, 32, true, .cells⟩)]) (h9 : (h != (0 : Int) : Bool) = true) {Φ : Res → Prop} (ho : ∀ j, OutK E 0 0 (p59e_end s o l v f e w x y u t q r g h k n i m N N2 D D2 j) Φ) (j : Nat → Value) : OutK E 0 0 (s59 s o l v f e w x y u t q r g h k n i m N N2 D D2 j) Φ :=
  outK_seg hE (R0_ok hE) [.run 3, (.ops [(1, (.c0 (iI (q)))), (3, (.c0 (iI (r)))), (5, (.c0 (iI (g)))), (7, (.d (.c1 (iI (h)))))] []), .run 3, (.cond true), .run 2] [6, 7] (s' := fun j => ⟨[(.some ⟨[(.v (.int .i64 (s))), (.v (.int .i64 (o))), (.v (.int .i64 (l))), (.v (.int .i64 (v)))], 4, 106, true, .cells⟩), (.some ⟨[(.v (.int .i64 (f))), (.v (.int .i64 (e)))], 2, 79, true, .cells⟩), (.some ⟨[(.v (.int .i64 (q))), (.v (.int .i64 (r))), (.v (.int .i64 (g)))], 3, 32, true, .cells⟩)], [(.code .ret), (.code (atC [1, 1, 1] (bodyOf Tryz.f59)))], mkT j [(6, (.e (.one (.v (.slice none 0 0))))), (7, (iI (h)))] 57 0⟩) (fun j => by kernel_rfl) (aP h0 <| aN <| aP h2 <| aN <| aP (rfl : (true : Bool) = true) <| aP h5 <| aN <| aP h7 <| aN <| aP h9 <| aZ)
    fun j => outK_gc [] (by decide) (by kernel_rfl) (by kernel_rfl) (by kernel_rfl) (ho j)
def p59a_end (s o l v f e w _x _y _u _t _q _r _g _h _k : Int) (n _i _m _N _N2 : Nat) (_D _D2 : List AC) (j : Nat → Value) : St := ⟨[(.some ⟨[(.v (.int .i64 (s))), (.v (.int .i64 (o))), (.v (.int .i64 (l))), (.v (.int .i64 (v)))], 4, 106, true, .cells⟩), (.some ⟨[(.v (.int .i64 (f))), (.v (.int .i64 (e)))], 2, 79, true, .cells⟩)], [(.code (atC [1, 1, 1, 1, 0, 1, 0, 0] (bodyOf Tryz.f59))), (.inLoop (atC [1, 1, 1, 1, 0, 1, 0, 0] (bodyOf Tryz.f59))), (.inBlock 0), (.code (atC [1, 1, 1, 1, 1] (bodyOf Tryz.f59)))], mkT j [(2, (iI (w))), (3, (.e (.one (.ptr 0 0)))), (4, (.e (.one (.ptr 1 0)))), (9, (.e (.one (.v (.slice none 0 0))))), (27, (iI (Int.ofNat n))), (28, (iI 0))] 57 0⟩
theorem p59a (hE : EnvOk E) (s o l v f e w x y u t q r g h k : Int) (n i m N N2 : Nat) (D D2 : List AC) (h0 : COut E 0 [] 57 [(.e (.agg [(.v (.int .i64 (s))), (.v (.int .i64 (o))), (.v (.int .i64 (l))), (.v (.int .i64 (v)))]))] (iI (q)) []) (h2 : COut E 0 [] 103 [(.e (.agg [(.v (.int .i64 (f))), (.v (.int .i64 (e)))]))] (iI (r)) []) (h5 : COut E 0 [] 81 [(iI (w)), (iI 2), (iI 100000)] (iI (g)) []) (h7 : COut E 3 [(.some ⟨[(.v (.int .i64 (s))), (.v (.int .i64 (o))), (.v (.int .i64 (l))), (.v (.int .i64 (v)))], 4, 106, true, .cells⟩), (.some ⟨[(.v (.int .i64 (f))), (.v (.int .i64 (e)))], 2, 79, true, .cells⟩), (.some ⟨[(.v (.int .i64 (q))), (.v (.int .i64 (r))), (.v (.int .i64 (g)))], 3, 32, true, .cells⟩)] 68 [(.e (.one (.slc 2 0 3 1 3 true)))] (iI (h)) [(.some ⟨[(.v (.int .i64 (s))), (.v (.int .i64 (o))), (.v (.int .i64 (l))), (.v (.int .i64 (v)))], 4, 106, true, .cells⟩), (.some ⟨[(.v (.int .i64 (f))), (.v (.int .i64 (e)))], 2, 79, true, .cells⟩), (.some ⟨[(.v (.int .i64 (q))), (.v (.int .i64 (r))), (.v (.int .i64 (g)))], 3, 32, true, .cells⟩)]) (h9 : (h != (0 : Int) : Bool) = false) (h10 : ((iI (wrapF IntKind.i64 (e - f))) : AV) = (iI (Int.ofNat n))) {Φ : Res → Prop} (ho : ∀ j, OutK E 0 0 (p59a_end s o l v f e w x y u t q r g h k n i m N N2 D D2 j) Φ) (j : Nat → Value) : OutK E 0 0 (s59 s o l v f e w x y u t q r g h k n i m N N2 D D2 j) Φ :=
  outK_seg hE (R0_ok hE) [.run 3, (.ops [(1, (.c0 (iI (q)))), (3, (.c0 (iI (r)))), (5, (.c0 (iI (g)))), (7, (.d (.c1 (iI (h)))))] []), .run 3, (.cond false), .run 5, (.ops [(4, (.rn (iI (Int.ofNat n))))] []), .run 2] [2, 3, 4, 9, 27, 28] (s' := fun j => ⟨[(.some ⟨[(.v (.int .i64 (s))), (.v (.int .i64 (o))), (.v (.int .i64 (l))), (.v (.int .i64 (v)))], 4, 106, true, .cells⟩), (.some ⟨[(.v (.int .i64 (f))), (.v (.int .i64 (e)))], 2, 79, true, .cells⟩), (.some ⟨[(.v (.int .i64 (q))), (.v (.int .i64 (r))), (.v (.int .i64 (g)))], 3, 32, true, .cells⟩)], [(.code (atC [1, 1, 1, 1, 0, 1, 0, 0] (bodyOf Tryz.f59))), (.inLoop (atC [1, 1, 1, 1, 0, 1, 0, 0] (bodyOf Tryz.f59))), (.inBlock 0), (.code (atC [1, 1, 1, 1, 1] (bodyOf Tryz.f59)))], mkT j [(2, (iI (w))), (3, (.e (.one (.ptr 0 0)))), (4, (.e (.one (.ptr 1 0)))), (9, (.e (.one (.v (.slice none 0 0))))), (27, (iI (Int.ofNat n))), (28, (iI 0))] 57 0⟩) (fun j => by kernel_rfl) (aP h0 <| aN <| aP h2 <| aN <| aP (rfl : (true : Bool) = true) <| aP h5 <| aN <| aP h7 <| aN <| aP h9 <| aP h10 <| aZ)
    fun j => outK_gc [0, 1] (by decide) (by kernel_rfl) (by kernel_rfl) (by kernel_rfl) (ho j)
def p61a_end (s o l v f e w _x _y _u t _q _r _g _h _k : Int) (_n _i _m _N _N2 : Nat) (_D _D2 : List AC) (j : Nat → Value) : St := ⟨[(.some ⟨[(.v (.int .i64 (s))), (.v (.int .i64 (o))), (.v (.int .i64 (l))), (.v (.int .i64 (v)))], 4, 102, true, .cells⟩), (.some ⟨[(.v (.int .i64 (f))), (.v (.int .i64 (e)))], 2, 79, true, .cells⟩)], [(.code (atC [1, 1, 0, 1, 0, 0] (bodyOf Tryz.f61))), (.inLoop (atC [1, 1, 0, 1, 0, 0] (bodyOf Tryz.f61))), (.inBlock 0), (.code (atC [1, 1, 1] (bodyOf Tryz.f61)))], mkT j [(2, (iI (w))), (3, (.e (.one (.ptr 0 0)))), (4, (.e (.one (.ptr 1 0)))), (7, (.e (.one (.v (.slice none 0 0))))), (8, (iI (t)))] 38 0⟩
theorem p61a (hE : EnvOk E) (s o l v f e w x y u t q r g h k : Int) (n i m N N2 : Nat) (D D2 : List AC) (h0 : ((iI (wrapF IntKind.i64 (s + (1 : Int)))) : AV) = (iI (u))) (h1 : ((iI (if u > f then u else f)) : AV) = (iI (t))) {Φ : Res → Prop} (ho : ∀ j, OutK E 0 0 (p61a_end s o l v f e w x y u t q r g h k n i m N N2 D D2 j) Φ) (j : Nat → Value) : OutK E 0 0 (s61 s o l v f e w x y u t q r g h k n i m N N2 D D2 j) Φ :=
  outK_seg hE (R0_ok hE) [.run 6, (.ops [(4, (.rn (iI (u)))), (5, (.rn (iI (t))))] []), .run 2] [2, 3, 4, 7, 8] (fun j => by kernel_rfl) (aP h0 <| aP h1 <| aZ)
    ho
def p60a_end (_s _o _l _v _f _e _w _x _y _u _t _q _r _g h _k : Int) (_n _i _m _N _N2 : Nat) (_D _D2 : List AC) (j : Nat → Value) : St := ⟨[], [(.code .ret)], mkT j [(2, (iI (h)))] 28 0⟩
theorem p60a (hE : EnvOk E) (s o l v f e w x y u t q r g h k : Int) (n i m N N2 : Nat) (D D2 : List AC) (h0 : (decide (f < (0 : Int)) == false : Bool) = (nat_lit 4, false).snd) (h1 : (decide (f < (0 : Int)) == false : Bool) = (nat_lit 5, false).snd) (h2 : (decide (f < (0 : Int)) == false : Bool) = (nat_lit 6, false).snd) (h3 : (decide (f < (0 : Int)) == false : Bool) = (nat_lit 7, false).snd) (h4 : (decide (f < (0 : Int)) == false : Bool) = (nat_lit 8, false).snd) (h5 : (decide (f < (0 : Int)) : Bool) = true) (h6 : COut E 0 [] 75 [(iB true), (iI 14)] (iI (q)) []) (h8 : ((iI (wrapF IntKind.i64 (e - f))) : AV) = (iI (u))) (h10 : COut E 0 [] 75 [(iB (decide (u > (4096 : Int)))), (iI 5)] (iI (r)) []) (h12 : COut E 2 [(.some ⟨[(.v (.int .i64 (f))), (.v (.int .i64 (e)))], 2, 79, true, .cells⟩), (.some ⟨[(.v (.int .i64 (q))), (.v (.int .i64 (r)))], 2, 3, true, .cells⟩)] 25 [(.e (.one (.slc 1 0 2 1 2 true)))] (iI (h)) [(.some ⟨[(.v (.int .i64 (f))), (.v (.int .i64 (e)))], 2, 79, true, .cells⟩), (.some ⟨[(.v (.int .i64 (q))), (.v (.int .i64 (r)))], 2, 3, true, .cells⟩)]) {Φ : Res → Prop} (ho : ∀ j, OutK E 0 0 (p60a_end s o l v f e w x y u t q r g h k n i m N N2 D D2 j) Φ) (j : Nat → Value) : OutK E 0 0 (s60 s o l v f e w x y u t q r g h k n i m N N2 D D2 j) Φ :=
  outK_seg hE (R0_ok hE) [.run 3, (.ops [(15, (.c0 (iI (q)))), (20, (.rn (iI (u)))), (22, (.c0 (iI (r)))), (24, (.d (.c1 (iI (h))))), (9, (.pk true))] [(4, false), (5, false), (6, false), (7, false), (8, false)])] [2] (s' := fun j => ⟨[(.some ⟨[(.v (.int .i64 (f))), (.v (.int .i64 (e)))], 2, 79, true, .cells⟩), (.some ⟨[(.v (.int .i64 (q))), (.v (.int .i64 (r)))], 2, 3, true, .cells⟩)], [(.code .ret)], mkT j [(2, (iI (h)))] 28 0⟩) (fun j => by kernel_rfl) (aP h0 <| aP h1 <| aP h2 <| aP h3 <| aP h4 <| aP h5 <| aP h6 <| aN <| aP h8 <| aP (rfl : (true : Bool) = true) <| aP h10 <| aN <| aP h12 <| aN <| aZ)
    fun j => outK_gc [] (by decide) (by kernel_rfl) (by kernel_rfl) (by kernel_rfl) (ho j)
def p60b_end (_s _o _l _v _f _e _w _x _y _u _t _q _r _g h _k : Int) (_n _i _m _N _N2 : Nat) (_D _D2 : List AC) (j : Nat → Value) : St := ⟨[], [(.code .ret)], mkT j [(2, (iI (h)))] 28 0⟩
theorem p60b (hE : EnvOk E) (s o l v f e w x y u t q r g h k : Int) (n i m N N2 : Nat) (D D2 : List AC) (h0 : (decide (f < (0 : Int)) == false : Bool) = (nat_lit 4, true).snd) (h1 : (decide (f < (0 : Int)) == false : Bool) = (nat_lit 5, true).snd) (h2 : (decide (f < (0 : Int)) == false : Bool) = (nat_lit 6, true).snd) (h3 : (decide (f < (0 : Int)) == false : Bool) = (nat_lit 7, true).snd) (h4 : (decide (f < (0 : Int)) == false : Bool) = (nat_lit 8, true).snd) (h5 : (decide (f < (0 : Int)) : Bool) = false) (h6 : (decide (f > e) == false : Bool) = (nat_lit 11, false).snd) (h7 : (decide (f > e) == false : Bool) = (nat_lit 12, false).snd) (h8 : (decide (f > e) == false : Bool) = (nat_lit 13, false).snd) (h9 : (decide (f > e) : Bool) = true) (h10 : COut E 0 [] 75 [(iB true), (iI 14)] (iI (q)) []) (h12 : ((iI (wrapF IntKind.i64 (e - f))) : AV) = (iI (u))) (h14 : COut E 0 [] 75 [(iB (decide (u > (4096 : Int)))), (iI 5)] (iI (r)) []) (h16 : COut E 2 [(.some ⟨[(.v (.int .i64 (f))), (.v (.int .i64 (e)))], 2, 79, true, .cells⟩), (.some ⟨[(.v (.int .i64 (q))), (.v (.int .i64 (r)))], 2, 3, true, .cells⟩)] 25 [(.e (.one (.slc 1 0 2 1 2 true)))] (iI (h)) [(.some ⟨[(.v (.int .i64 (f))), (.v (.int .i64 (e)))], 2, 79, true, .cells⟩), (.some ⟨[(.v (.int .i64 (q))), (.v (.int .i64 (r)))], 2, 3, true, .cells⟩)]) {Φ : Res → Prop} (ho : ∀ j, OutK E 0 0 (p60b_end s o l v f e w x y u t q r g h k n i m N N2 D D2 j) Φ) (j : Nat → Value) : OutK E 0 0 (s60 s o l v f e w x y u t q r g h k n i m N N2 D D2 j) Φ :=
  outK_seg hE (R0_ok hE) [.run 3, (.ops [(15, (.c0 (iI (q)))), (20, (.rn (iI (u)))), (22, (.c0 (iI (r)))), (24, (.d (.c1 (iI (h))))), (9, (.pk false)), (14, (.pk true))] [(4, true), (5, true), (6, true), (7, true), (8, true), (11, false), (12, false), (13, false)])] [2] (s' := fun j => ⟨[(.some ⟨[(.v (.int .i64 (f))), (.v (.int .i64 (e)))], 2, 79, true, .cells⟩), (.some ⟨[(.v (.int .i64 (q))), (.v (.int .i64 (r)))], 2, 3, true, .cells⟩)], [(.code .ret)], mkT j [(2, (iI (h)))] 28 0⟩) (fun j => by kernel_rfl) (aP h0 <| aP h1 <| aP h2 <| aP h3 <| aP h4 <| aP h5 <| aP h6 <| aP h7 <| aP h8 <| aP h9 <| aP h10 <| aN <| aP h12 <| aP (rfl : (true : Bool) = true) <| aP h14 <| aN <| aP h16 <| aN <| aZ)
    fun j => outK_gc [] (by decide) (by kernel_rfl) (by kernel_rfl) (by kernel_rfl) (ho j)
def p60c_end (_s _o _l _v _f _e _w _x _y _u _t _q _r _g h _k : Int) (_n _i _m _N _N2 : Nat) (_D _D2 : List AC) (j : Nat → Value) : St := ⟨[], [(.code .ret)], mkT j [(2, (iI (h)))] 28 0⟩
theorem p60c (hE : EnvOk E) (s o l v f e w x y u t q r g h k : Int) (n i m N N2 : Nat) (D D2 : List AC) (h0 : (decide (f < (0 : Int)) == false : Bool) = (nat_lit 4, true).snd) (h1 : (decide (f < (0 : Int)) == false : Bool) = (nat_lit 5, true).snd) (h2 : (decide (f < (0 : Int)) == false : Bool) = (nat_lit 6, true).snd) (h3 : (decide (f < (0 : Int)) == false : Bool) = (nat_lit 7, true).snd) (h4 : (decide (f < (0 : Int)) == false : Bool) = (nat_lit 8, true).snd) (h5 : (decide (f < (0 : Int)) : Bool) = false) (h6 : (decide (f > e) == false : Bool) = (nat_lit 11, true).snd) (h7 : (decide (f > e) == false : Bool) = (nat_lit 12, true).snd) (h8 : (decide (f > e) == false : Bool) = (nat_lit 13, true).snd) (h9 : (decide (f > e) : Bool) = false) (h10 : COut E 0 [] 75 [(iB (decide (e > (100000000 : Int)))), (iI 14)] (iI (q)) []) (h12 : ((iI (wrapF IntKind.i64 (e - f))) : AV) = (iI (u))) (h14 : COut E 0 [] 75 [(iB (decide (u > (4096 : Int)))), (iI 5)] (iI (r)) []) (h16 : COut E 2 [(.some ⟨[(.v (.int .i64 (f))), (.v (.int .i64 (e)))], 2, 79, true, .cells⟩), (.some ⟨[(.v (.int .i64 (q))), (.v (.int .i64 (r)))], 2, 3, true, .cells⟩)] 25 [(.e (.one (.slc 1 0 2 1 2 true)))] (iI (h)) [(.some ⟨[(.v (.int .i64 (f))), (.v (.int .i64 (e)))], 2, 79, true, .cells⟩), (.some ⟨[(.v (.int .i64 (q))), (.v (.int .i64 (r)))], 2, 3, true, .cells⟩)]) {Φ : Res → Prop} (ho : ∀ j, OutK E 0 0 (p60c_end s o l v f e w x y u t q r g h k n i m N N2 D D2 j) Φ) (j : Nat → Value) : OutK E 0 0 (s60 s o l v f e w x y u t q r g h k n i m N N2 D D2 j) Φ :=
  outK_seg hE (R0_ok hE) [.run 3, (.ops [(15, (.c0 (iI (q)))), (20, (.rn (iI (u)))), (22, (.c0 (iI (r)))), (24, (.d (.c1 (iI (h))))), (9, (.pk false)), (14, (.pk false))] [(4, true), (5, true), (6, true), (7, true), (8, true), (11, true), (12, true), (13, true)])] [2] (s' := fun j => ⟨[(.some ⟨[(.v (.int .i64 (f))), (.v (.int .i64 (e)))], 2, 79, true, .cells⟩), (.some ⟨[(.v (.int .i64 (q))), (.v (.int .i64 (r)))], 2, 3, true, .cells⟩)], [(.code .ret)], mkT j [(2, (iI (h)))] 28 0⟩) (fun j => by kernel_rfl) (aP h0 <| aP h1 <| aP h2 <| aP h3 <| aP h4 <| aP h5 <| aP h6 <| aP h7 <| aP h8 <| aP h9 <| aP h10 <| aN <| aP h12 <| aP (rfl : (true : Bool) = true) <| aP h14 <| aN <| aP h16 <| aN <| aZ)
    fun j => outK_gc [] (by decide) (by kernel_rfl) (by kernel_rfl) (by kernel_rfl) (ho j)
def p103_end (_s _o _l _v _f _e _w _x _y _u _t _q _r _g h _k : Int) (_n _i _m _N _N2 : Nat) (_D _D2 : List AC) (j : Nat → Value) : St := ⟨[], [(.code .ret)], mkT j [(2, (iI (h)))] 18 0⟩
theorem p103 (hE : EnvOk E) (s o l v f e w x y u t q r g h k : Int) (n i m N N2 : Nat) (D D2 : List AC) (h0 : COut E 0 [] 91 [(.e (.agg [(.v (.int .i64 (f))), (.v (.int .i64 (e)))]))] (iI (q)) []) (h2 : COut E 0 [] 70 [(iB (decide (e > (100000000 : Int)))), (iI 14)] (iI (r)) []) (h4 : ((iI (wrapF IntKind.i64 (e - f))) : AV) = (iI (u))) (h6 : COut E 0 [] 70 [(iB (decide (u > (4096 : Int)))), (iI 5)] (iI (g)) []) (h8 : COut E 2 [(.some ⟨[(.v (.int .i64 (f))), (.v (.int .i64 (e)))], 2, 79, true, .cells⟩), (.some ⟨[(.v (.int .i64 (q))), (.v (.int .i64 (r))), (.v (.int .i64 (g)))], 3, 32, true, .cells⟩)] 68 [(.e (.one (.slc 1 0 3 1 3 true)))] (iI (h)) [(.some ⟨[(.v (.int .i64 (f))), (.v (.int .i64 (e)))], 2, 79, true, .cells⟩), (.some ⟨[(.v (.int .i64 (q))), (.v (.int .i64 (r))), (.v (.int .i64 (g)))], 3, 32, true, .cells⟩)]) {Φ : Res → Prop} (ho : ∀ j, OutK E 0 0 (p103_end s o l v f e w x y u t q r g h k n i m N N2 D D2 j) Φ) (j : Nat → Value) : OutK E 0 0 (s103 s o l v f e w x y u t q r g h k n i m N N2 D D2 j) Φ :=
  outK_seg hE (R0_ok hE) [.run 3, (.ops [(1, (.c0 (iI (q)))), (5, (.c0 (iI (r)))), (10, (.rn (iI (u)))), (12, (.c0 (iI (g)))), (14, (.d (.c1 (iI (h)))))] [])] [2] (s' := fun j => ⟨[(.some ⟨[(.v (.int .i64 (f))), (.v (.int .i64 (e)))], 2, 79, true, .cells⟩), (.some ⟨[(.v (.int .i64 (q))), (.v (.int .i64 (r))), (.v (.int .i64 (g)))], 3, 32, true, .cells⟩)], [(.code .ret)], mkT j [(2, (iI (h)))] 18 0⟩) (fun j => by kernel_rfl) (aP h0 <| aN <| aP h2 <| aN <| aP h4 <| aP (rfl : (true : Bool) = true) <| aP h6 <| aN <| aP h8 <| aN <| aZ)
    fun j => outK_gc [] (by decide) (by kernel_rfl) (by kernel_rfl) (by kernel_rfl) (ho j)
def p91a_end (_s _o _l _v _f _e _w _x _y _u _t q _r _g _h _k : Int) (_n _i _m _N _N2 : Nat) (_D _D2 : List AC) (j : Nat → Value) : St := ⟨[], [(.code .ret)], mkT j [(2, (iI (q)))] 14 0⟩
theorem p91a (hE : EnvOk E) (s o l v f e w x y u t q r g h k : Int) (n i m N N2 : Nat) (D D2 : List AC) (h0 : (decide (f < (0 : Int)) == false : Bool) = (nat_lit 4, false).snd) (h1 : (decide (f < (0 : Int)) == false : Bool) = (nat_lit 5, false).snd) (h2 : (decide (f < (0 : Int)) == false : Bool) = (nat_lit 6, false).snd) (h3 : (decide (f < (0 : Int)) == false : Bool) = (nat_lit 7, false).snd) (h4 : (decide (f < (0 : Int)) == false : Bool) = (nat_lit 8, false).snd) (h5 : (decide (f < (0 : Int)) : Bool) = true) (h6 : COut E 0 [] 70 [(iB true), (iI 14)] (iI (q)) []) {Φ : Res → Prop} (ho : ∀ j, OutK E 0 0 (p91a_end s o l v f e w x y u t q r g h k n i m N N2 D D2 j) Φ) (j : Nat → Value) : OutK E 0 0 (s91 s o l v f e w x y u t q r g h k n i m N N2 D D2 j) Φ :=
  outK_seg hE (R0_ok hE) [.run 3, (.ops [(10, (.c0 (iI (q)))), (9, (.pk true))] [(4, false), (5, false), (6, false), (7, false), (8, false)])] [2] (s' := fun j => ⟨[(.some ⟨[(.v (.int .i64 (f))), (.v (.int .i64 (e)))], 2, 79, true, .cells⟩)], [(.code .ret)], mkT j [(2, (iI (q)))] 14 0⟩) (fun j => by kernel_rfl) (aP h0 <| aP h1 <| aP h2 <| aP h3 <| aP h4 <| aP h5 <| aP h6 <| aN <| aZ)
    fun j => outK_gc [] (by decide) (by kernel_rfl) (by kernel_rfl) (by kernel_rfl) (ho j)
def p91b_end (_s _o _l _v _f _e _w _x _y _u _t q _r _g _h _k : Int) (_n _i _m _N _N2 : Nat) (_D _D2 : List AC) (j : Nat → Value) : St := ⟨[], [(.code .ret)], mkT j [(2, (iI (q)))] 14 0⟩
theorem p91b (hE : EnvOk E) (s o l v f e w x y u t q r g h k : Int) (n i m N N2 : Nat) (D D2 : List AC) (h0 : (decide (f < (0 : Int)) == false : Bool) = (nat_lit 4, true).snd) (h1 : (decide (f < (0 : Int)) == false : Bool) = (nat_lit 5, true).snd) (h2 : (decide (f < (0 : Int)) == false : Bool) = (nat_lit 6, true).snd) (h3 : (decide (f < (0 : Int)) == false : Bool) = (nat_lit 7, true).snd) (h4 : (decide (f < (0 : Int)) == false : Bool) = (nat_lit 8, true).snd) (h5 : (decide (f < (0 : Int)) : Bool) = false) (h6 : COut E 0 [] 70 [(iB (decide (f > e))), (iI 14)] (iI (q)) []) {Φ : Res → Prop} (ho : ∀ j, OutK E 0 0 (p91b_end s o l v f e w x y u t q r g h k n i m N N2 D D2 j) Φ) (j : Nat → Value) : OutK E 0 0 (s91 s o l v f e w x y u t q r g h k n i m N N2 D D2 j) Φ :=
  outK_seg hE (R0_ok hE) [.run 3, (.ops [(10, (.c0 (iI (q)))), (9, (.pk false))] [(4, true), (5, true), (6, true), (7, true), (8, true)])] [2] (s' := fun j => ⟨[(.some ⟨[(.v (.int .i64 (f))), (.v (.int .i64 (e)))], 2, 79, true, .cells⟩)], [(.code .ret)], mkT j [(2, (iI (q)))] 14 0⟩) (fun j => by kernel_rfl) (aP h0 <| aP h1 <| aP h2 <| aP h3 <| aP h4 <| aP h5 <| aP h6 <| aN <| aZ)
    fun j => outK_gc [] (by decide) (by kernel_rfl) (by kernel_rfl) (by kernel_rfl) (ho j)
def p104n_end (_s _o _l _v _f _e _w _x _y _u _t _q _r g _h _k : Int) (_n _i _m _N _N2 : Nat) (_D _D2 : List AC) (j : Nat → Value) : St := ⟨[], [(.code .ret), (.code (atC [1, 1, 1] (bodyOf Tryz.f104)))], mkT j [(6, (iI (g)))] 22 0⟩
theorem p104n (hE : EnvOk E) (s o l v f e w x y u t q r g h k : Int) (n i m N N2 : Nat) (D D2 : List AC) (h0 : COut E 0 [] 98 [(.e (.agg [(.v (.int .i64 (s))), (.v (.int .i64 (o))), (.v (.int .i64 (l))), (.v (.int .i64 (v)))])), (iI (t))] (iI (x)) []) (h2 : (w : Int) ≠ (0 : Int)) (h3 : (x.tmod w : Int) = q) (h4 : (decide (q < (0 : Int)) : Bool) = true) (h5 : (w : Int) ≠ (0 : Int)) (h6 : (wrapF IntKind.i64 (x.tdiv w) : Int) = r) (h7 : ((iI (wrapF IntKind.i64 (r - (1 : Int)))) : AV) = (iI (g))) {Φ : Res → Prop} (ho : ∀ j, OutK E 0 0 (p104n_end s o l v f e w x y u t q r g h k n i m N N2 D D2 j) Φ) (j : Nat → Value) : OutK E 0 0 (s104 s o l v f e w x y u t q r g h k n i m N N2 D D2 j) Φ :=
  outK_seg hE (R0_ok hE) [.run 3, (.ops [(2, (.c0 (iI (x))))] []), .run 2, (.ops [(2, (.quo (q)))] []), (.cond true), .run 1, (.ops [(2, (.quo (r))), (3, (.rn (iI (g))))] [])] [6] (s' := fun j => ⟨[(.some ⟨[(.v (.int .i64 (s))), (.v (.int .i64 (o))), (.v (.int .i64 (l))), (.v (.int .i64 (v)))], 4, 106, true, .cells⟩)], [(.code .ret), (.code (atC [1, 1, 1] (bodyOf Tryz.f104)))], mkT j [(6, (iI (g)))] 22 0⟩) (fun j => by kernel_rfl) (aP h0 <| aN <| aP h2 <| aP h3 <| aP h4 <| aP h5 <| aP h6 <| aP h7 <| aZ)
    fun j => outK_gc [] (by decide) (by kernel_rfl) (by kernel_rfl) (by kernel_rfl) (ho j)
def p104p_end (_s _o _l _v _f _e _w _x _y _u _t _q r _g _h _k : Int) (_n _i _m _N _N2 : Nat) (_D _D2 : List AC) (j : Nat → Value) : St := ⟨[], [(.code .ret)], mkT j [(6, (iI (r)))] 22 0⟩
theorem p104p (hE : EnvOk E) (s o l v f e w x y u t q r g h k : Int) (n i m N N2 : Nat) (D D2 : List AC) (h0 : COut E 0 [] 98 [(.e (.agg [(.v (.int .i64 (s))), (.v (.int .i64 (o))), (.v (.int .i64 (l))), (.v (.int .i64 (v)))])), (iI (t))] (iI (x)) []) (h2 : (w : Int) ≠ (0 : Int)) (h3 : (x.tmod w : Int) = q) (h4 : (decide (q < (0 : Int)) : Bool) = false) (h5 : (w : Int) ≠ (0 : Int)) (h6 : (wrapF IntKind.i64 (x.tdiv w) : Int) = r) {Φ : Res → Prop} (ho : ∀ j, OutK E 0 0 (p104p_end s o l v f e w x y u t q r g h k n i m N N2 D D2 j) Φ) (j : Nat → Value) : OutK E 0 0 (s104 s o l v f e w x y u t q r g h k n i m N N2 D D2 j) Φ :=
  outK_seg hE (R0_ok hE) [.run 3, (.ops [(2, (.c0 (iI (x))))] []), .run 2, (.ops [(2, (.quo (q)))] []), (.cond false), .run 2, (.ops [(2, (.quo (r)))] [])] [6] (s' := fun j => ⟨[(.some ⟨[(.v (.int .i64 (s))), (.v (.int .i64 (o))), (.v (.int .i64 (l))), (.v (.int .i64 (v)))], 4, 106, true, .cells⟩)], [(.code .ret)], mkT j [(6, (iI (r)))] 22 0⟩) (fun j => by kernel_rfl) (aP h0 <| aN <| aP h2 <| aP h3 <| aP h4 <| aP h5 <| aP h6 <| aZ)
    fun j => outK_gc [] (by decide) (by kernel_rfl) (by kernel_rfl) (by kernel_rfl) (ho j)
def p105n_end (_s _o _l _v _f _e _w _x _y _u _t _q _r g _h _k : Int) (_n _i _m _N _N2 : Nat) (_D _D2 : List AC) (j : Nat → Value) : St := ⟨[], [(.code .ret)], mkT j [(4, (iI (g)))] 17 0⟩
theorem p105n (hE : EnvOk E) (s o l v f e w x y u t q r g h k : Int) (n i m N N2 : Nat) (D D2 : List AC) (h0 : (w : Int) ≠ (0 : Int)) (h1 : (wrapF IntKind.i64 (t.tdiv w) : Int) = q) (h2 : ((iI (wrapF IntKind.i64 (q * w))) : AV) = (iI (r))) (h3 : (decide (r > t) : Bool) = true) (h4 : ((iI (wrapF IntKind.i64 (q - (1 : Int)))) : AV) = (iI (g))) {Φ : Res → Prop} (ho : ∀ j, OutK E 0 0 (p105n_end s o l v f e w x y u t q r g h k n i m N N2 D D2 j) Φ) (j : Nat → Value) : OutK E 0 0 (s105 s o l v f e w x y u t q r g h k n i m N N2 D D2 j) Φ :=
  outK_seg hE (R0_ok hE) [.run 3, (.ops [(2, (.quo (q)))] []), .run 2, (.ops [(2, (.rn (iI (r))))] []), (.cond true), (.ops [(1, (.rn (iI (g))))] []), .run 2] [4] (fun j => by kernel_rfl) (aP h0 <| aP h1 <| aP h2 <| aP h3 <| aP h4 <| aZ)
    ho
def p105p_end (_s _o _l _v _f _e _w _x _y _u _t q _r _g _h _k : Int) (_n _i _m _N _N2 : Nat) (_D _D2 : List AC) (j : Nat → Value) : St := ⟨[], [(.code .ret)], mkT j [(4, (iI (q)))] 17 0⟩
theorem p105p (hE : EnvOk E) (s o l v f e w x y u t q r g h k : Int) (n i m N N2 : Nat) (D D2 : List AC) (h0 : (w : Int) ≠ (0 : Int)) (h1 : (wrapF IntKind.i64 (t.tdiv w) : Int) = q) (h2 : ((iI (wrapF IntKind.i64 (q * w))) : AV) = (iI (r))) (h3 : (decide (r > t) : Bool) = false) {Φ : Res → Prop} (ho : ∀ j, OutK E 0 0 (p105p_end s o l v f e w x y u t q r g h k n i m N N2 D D2 j) Φ) (j : Nat → Value) : OutK E 0 0 (s105 s o l v f e w x y u t q r g h k n i m N N2 D D2 j) Φ :=
  outK_seg hE (R0_ok hE) [.run 3, (.ops [(2, (.quo (q)))] []), .run 2, (.ops [(2, (.rn (iI (r))))] []), (.cond false), .run 3] [4] (fun j => by kernel_rfl) (aP h0 <| aP h1 <| aP h2 <| aP h3 <| aZ)
    ho
def p30a_end (C : List DT) (n _i : Nat) (_x : Int) (j : Nat → Value) : St := ⟨[], [(.code (atC [1, 1, 0, 1, 0, 0] (bodyOf Tryz.f30))), (.inLoop (atC [1, 1, 0, 1, 0, 0] (bodyOf Tryz.f30))), (.inBlock 0), (.code (atC [1, 1, 1] (bodyOf Tryz.f30)))], mkT j [(0, (.e (.one (.dp (.s (C) (n) 1))))), (1, (.e (.one (.dp (.s (C) (n) 1))))), (5, (iI 0))] 26 0⟩
theorem p30a (hE : EnvOk E) (C : List DT) (n i : Nat) (x : Int) (h0 : ((↑n : Int) != (↑n : Int) : Bool) = false) {Φ : Res → Prop} (ho : ∀ j, OutK E 0 0 (p30a_end C n i x j) Φ) (j : Nat → Value) : OutK E 0 0 (s30 C n i x j) Φ :=
  outK_seg hE (R0_ok hE) [.run 4, (.ops [(1, (.d .len)), (3, (.d .len))] []), (.cond false), .run 6] [0, 1, 5] (fun j => by kernel_rfl) (aP h0 <| aZ)
    ho
def p30n_end (_C : List DT) (_n _i : Nat) (_x : Int) (j : Nat → Value) : St := ⟨[], [(.code .ret)], mkT j [(4, (iB true))] 26 0⟩
theorem p30n (hE : EnvOk E) (C : List DT) (n i : Nat) (x : Int)  {Φ : Res → Prop} (ho : ∀ j, OutK E 0 0 (p30n_end C n i x j) Φ) (j : Nat → Value) : OutK E 0 0 (s30n C n i x j) Φ :=
  outK_seg hE (R0_ok hE) [.run 4, (.ops [(1, (.d .len))] []), .run 9, (.ops [(2, (.d .len))] []), .run 4] [4] (ps := []) (fun j => by kernel_rfl) trivial
    ho
def p59za_end (s o l v f e w _x _y _u _t _q _r _g _h _k : Int) (n i _m _N _N2 : Nat) (_D _D2 : List AC) (j : Nat → Value) : St := ⟨[(.some ⟨[(.v (.int .i64 (s))), (.v (.int .i64 (o))), (.v (.int .i64 (l))), (.v (.int .i64 (v)))], 4, 106, true, .cells⟩), (.some ⟨[(.v (.int .i64 (f))), (.v (.int .i64 (e)))], 2, 79, true, .cells⟩)], [(.code (atC [1, 1, 1, 1, 0, 1, 0, 0] (bodyOf Tryz.f59))), (.inLoop (atC [1, 1, 1, 1, 0, 1, 0, 0] (bodyOf Tryz.f59))), (.inBlock 0), (.code (atC [1, 1, 1, 1, 1] (bodyOf Tryz.f59)))], mkT j [(2, (iI (w))), (3, (.e (.one (.ptr 0 0)))), (4, (.e (.one (.ptr 1 0)))), (9, (.e (.one (.v (.slice none 0 0))))), (27, (iI (Int.ofNat n))), (28, (iI (Int.ofNat (i + 1))))] 57 0⟩
theorem p59za (hE : EnvOk E) (s o l v f e w x y u t q r g h k : Int) (n i m N N2 : Nat) (D D2 : List AC) (h0 : (decide (Int.ofNat i < Int.ofNat n) : Bool) = true) (h1 : ((iI (wrapF IntKind.i64 (f + Int.ofNat i))) : AV) = (iI (t))) (h2 : (decide (t > s) == true : Bool) = (nat_lit 5, false).snd) (h3 : (decide (t > s) == true : Bool) = (nat_lit 6, false).snd) (h4 : (decide (t > s) == true : Bool) = (nat_lit 7, false).snd) (h5 : (decide (t > s) == true : Bool) = (nat_lit 8, false).snd) (h6 : (decide (t > s) == true : Bool) = (nat_lit 9, false).snd) (h7 : (decide (t > s) == true : Bool) = (nat_lit 10, false).snd) (h8 : (decide (t > s) == true : Bool) = (nat_lit 11, false).snd) (h9 : (decide (t > s) == true : Bool) = (nat_lit 12, false).snd) (h11 : (decide (t > s) == true : Bool) = (nat_lit 13, false).snd) (h12 : (decide (t > s) == true : Bool) = (nat_lit 14, false).snd) (h13 : (decide (t > s) : Bool) = false) (h14 : ((iI (wrapF IntKind.i64 (Int.ofNat i + (1 : Int)))) : AV) = (iI (Int.ofNat (i + 1)))) {Φ : Res → Prop} (ho : ∀ j, OutK E 0 0 (p59za_end s o l v f e w x y u t q r g h k n i m N N2 D D2 j) Φ) (j : Nat → Value) : OutK E 0 0 (q59z s o l v f e w x y u t q r g h k n i m N N2 D D2 j) Φ :=
  outK_seg hE (R0_ok hE) [.run 3, (.cond true), .run 6, (.ops [(3, (.rn (iI (t))))] []), .run 1, (.ops [(8, (.c0 (iI (x)))), (11, (.rn (iI (u)))), (13, (.c0 (iI (y)))), (15, (.pk false))] [(5, false), (6, false), (7, false), (8, false), (9, false), (10, false), (11, false), (12, false), (13, false), (14, false)]), .run 3, (.ops [(0, (.rn (iI (Int.ofNat (i + 1)))))] []), .run 1] [2, 3, 4, 9, 27, 28] (fun j => by kernel_rfl) (aP h0 <| aP h1 <| aP h2 <| aP h3 <| aP h4 <| aP h5 <| aP h6 <| aP h7 <| aP h8 <| aP h9 <| aP (rfl : (true : Bool) = true) <| aP h11 <| aP h12 <| aP h13 <| aP h14 <| aZ)
    ho
def p59zb_end (s o l v f e w _x _y _u _t _q _r _g _h _k : Int) (n i _m _N _N2 : Nat) (_D _D2 : List AC) (j : Nat → Value) : St := ⟨[(.some ⟨[(.v (.int .i64 (s))), (.v (.int .i64 (o))), (.v (.int .i64 (l))), (.v (.int .i64 (v)))], 4, 106, true, .cells⟩), (.some ⟨[(.v (.int .i64 (f))), (.v (.int .i64 (e)))], 2, 79, true, .cells⟩)], [(.code (atC [1, 1, 1, 1, 0, 1, 0, 0] (bodyOf Tryz.f59))), (.inLoop (atC [1, 1, 1, 1, 0, 1, 0, 0] (bodyOf Tryz.f59))), (.inBlock 0), (.code (atC [1, 1, 1, 1, 1] (bodyOf Tryz.f59)))], mkT j [(2, (iI (w))), (3, (.e (.one (.ptr 0 0)))), (4, (.e (.one (.ptr 1 0)))), (9, (.e (.one (.v (.slice none 0 0))))), (27, (iI (Int.ofNat n))), (28, (iI (Int.ofNat (i + 1))))] 57 0⟩
theorem p59zb (hE : EnvOk E) (s o l v f e w x y u t q r g h k : Int) (n i m N N2 : Nat) (D D2 : List AC) (h0 : (decide (Int.ofNat i < Int.ofNat n) : Bool) = true) (h1 : ((iI (wrapF IntKind.i64 (f + Int.ofNat i))) : AV) = (iI (t))) (h2 : (decide (t > s) == true : Bool) = (nat_lit 5, true).snd) (h3 : (decide (t > s) == true : Bool) = (nat_lit 6, true).snd) (h4 : (decide (t > s) == true : Bool) = (nat_lit 7, true).snd) (h5 : (decide (t > s) == true : Bool) = (nat_lit 8, true).snd) (h6 : COut E 0 [] 104 [(.e (.agg [(.v (.int .i64 (s))), (.v (.int .i64 (o))), (.v (.int .i64 (l))), (.v (.int .i64 (v)))])), (iI (t)), (iI (w))] (iI (x)) []) (h8 : (decide (t > s) == true : Bool) = (nat_lit 9, true).snd) (h9 : (decide (t > s) == true : Bool) = (nat_lit 10, true).snd) (h10 : (decide (t > s) == true : Bool) = (nat_lit 11, true).snd) (h11 : ((iI (wrapF IntKind.i64 (t - (1 : Int)))) : AV) = (iI (u))) (h12 : (decide (t > s) == true : Bool) = (nat_lit 12, true).snd) (h14 : (decide (t > s) == true : Bool) = (nat_lit 13, true).snd) (h15 : COut E 0 [] 104 [(.e (.agg [(.v (.int .i64 (s))), (.v (.int .i64 (o))), (.v (.int .i64 (l))), (.v (.int .i64 (v)))])), (iI (u)), (iI (w))] (iI (y)) []) (h17 : (decide (t > s) == true : Bool) = (nat_lit 14, true).snd) (h18 : (decide (t > s) : Bool) = true) (h19 : (decide (x > y) : Bool) = false) (h20 : ((iI (wrapF IntKind.i64 (Int.ofNat i + (1 : Int)))) : AV) = (iI (Int.ofNat (i + 1)))) {Φ : Res → Prop} (ho : ∀ j, OutK E 0 0 (p59zb_end s o l v f e w x y u t q r g h k n i m N N2 D D2 j) Φ) (j : Nat → Value) : OutK E 0 0 (q59z s o l v f e w x y u t q r g h k n i m N N2 D D2 j) Φ :=
  outK_seg hE (R0_ok hE) [.run 3, (.cond true), .run 6, (.ops [(3, (.rn (iI (t))))] []), .run 1, (.ops [(8, (.c0 (iI (x)))), (11, (.rn (iI (u)))), (13, (.c0 (iI (y)))), (15, (.pk true))] [(5, true), (6, true), (7, true), (8, true), (9, true), (10, true), (11, true), (12, true), (13, true), (14, true)]), (.cond false), .run 2, (.ops [(0, (.rn (iI (Int.ofNat (i + 1)))))] []), .run 1] [2, 3, 4, 9, 27, 28] (fun j => by kernel_rfl) (aP h0 <| aP h1 <| aP h2 <| aP h3 <| aP h4 <| aP h5 <| aP h6 <| aN <| aP h8 <| aP h9 <| aP h10 <| aP h11 <| aP h12 <| aP (rfl : (true : Bool) = true) <| aP h14 <| aP h15 <| aN <| aP h17 <| aP h18 <| aP h19 <| aP h20 <| aZ)
    ho
def p59zc_end (s o l v f e w _x _y _u t _q _r _g _h _k : Int) (n i _m _N _N2 : Nat) (_D _D2 : List AC) (j : Nat → Value) : St := ⟨[(.some ⟨[(.v (.int .i64 (s))), (.v (.int .i64 (o))), (.v (.int .i64 (l))), (.v (.int .i64 (v)))], 4, 106, true, .cells⟩), (.some ⟨[(.v (.int .i64 (f))), (.v (.int .i64 (e)))], 2, 79, true, .cells⟩), (.some ⟨[(.v (.int .i64 (t)))], 1, 3, false, .cells⟩)], [(.code (atC [1, 1, 1, 1, 0, 1, 0, 0] (bodyOf Tryz.f59))), (.inLoop (atC [1, 1, 1, 1, 0, 1, 0, 0] (bodyOf Tryz.f59))), (.inBlock 0), (.code (atC [1, 1, 1, 1, 1] (bodyOf Tryz.f59)))], mkT j [(2, (iI (w))), (3, (.e (.one (.ptr 0 0)))), (4, (.e (.one (.ptr 1 0)))), (9, (.e (.one (.slc 2 0 1 1 1 false)))), (27, (iI (Int.ofNat n))), (28, (iI (Int.ofNat (i + 1))))] 57 0⟩
theorem p59zc (hE : EnvOk E) (s o l v f e w x y u t q r g h k : Int) (n i m N N2 : Nat) (D D2 : List AC) (h0 : (decide (Int.ofNat i < Int.ofNat n) : Bool) = true) (h1 : ((iI (wrapF IntKind.i64 (f + Int.ofNat i))) : AV) = (iI (t))) (h2 : (decide (t > s) == true : Bool) = (nat_lit 5, true).snd) (h3 : (decide (t > s) == true : Bool) = (nat_lit 6, true).snd) (h4 : (decide (t > s) == true : Bool) = (nat_lit 7, true).snd) (h5 : (decide (t > s) == true : Bool) = (nat_lit 8, true).snd) (h6 : COut E 0 [] 104 [(.e (.agg [(.v (.int .i64 (s))), (.v (.int .i64 (o))), (.v (.int .i64 (l))), (.v (.int .i64 (v)))])), (iI (t)), (iI (w))] (iI (x)) []) (h8 : (decide (t > s) == true : Bool) = (nat_lit 9, true).snd) (h9 : (decide (t > s) == true : Bool) = (nat_lit 10, true).snd) (h10 : (decide (t > s) == true : Bool) = (nat_lit 11, true).snd) (h11 : ((iI (wrapF IntKind.i64 (t - (1 : Int)))) : AV) = (iI (u))) (h12 : (decide (t > s) == true : Bool) = (nat_lit 12, true).snd) (h14 : (decide (t > s) == true : Bool) = (nat_lit 13, true).snd) (h15 : COut E 0 [] 104 [(.e (.agg [(.v (.int .i64 (s))), (.v (.int .i64 (o))), (.v (.int .i64 (l))), (.v (.int .i64 (v)))])), (iI (u)), (iI (w))] (iI (y)) []) (h17 : (decide (t > s) == true : Bool) = (nat_lit 14, true).snd) (h18 : (decide (t > s) : Bool) = true) (h19 : (decide (x > y) : Bool) = true) (h20 : ((iI (wrapF IntKind.i64 (Int.ofNat i + (1 : Int)))) : AV) = (iI (Int.ofNat (i + 1)))) {Φ : Res → Prop} (ho : ∀ j, OutK E 0 0 (p59zc_end s o l v f e w x y u t q r g h k n i m N N2 D D2 j) Φ) (j : Nat → Value) : OutK E 0 0 (q59z s o l v f e w x y u t q r g h k n i m N N2 D D2 j) Φ :=
  outK_seg hE (R0_ok hE) [.run 3, (.cond true), .run 6, (.ops [(3, (.rn (iI (t))))] []), .run 1, (.ops [(8, (.c0 (iI (x)))), (11, (.rn (iI (u)))), (13, (.c0 (iI (y)))), (15, (.pk true))] [(5, true), (6, true), (7, true), (8, true), (9, true), (10, true), (11, true), (12, true), (13, true), (14, true)]), (.cond true), .run 2, (.ops [(0, (.rn (iI (Int.ofNat (i + 1)))))] []), .run 1] [2, 3, 4, 9, 27, 28] (s' := fun j => ⟨[(.some ⟨[(.v (.int .i64 (s))), (.v (.int .i64 (o))), (.v (.int .i64 (l))), (.v (.int .i64 (v)))], 4, 106, true, .cells⟩), (.some ⟨[(.v (.int .i64 (f))), (.v (.int .i64 (e)))], 2, 79, true, .cells⟩), (.some ⟨[(.v (.int .i64 (t)))], 1, 3, true, .cells⟩), (.some ⟨[(.v (.int .i64 (t)))], 1, 3, false, .cells⟩)], [(.code (atC [1, 1, 1, 1, 0, 1, 0, 0] (bodyOf Tryz.f59))), (.inLoop (atC [1, 1, 1, 1, 0, 1, 0, 0] (bodyOf Tryz.f59))), (.inBlock 0), (.code (atC [1, 1, 1, 1, 1] (bodyOf Tryz.f59)))], mkT j [(2, (iI (w))), (3, (.e (.one (.ptr 0 0)))), (4, (.e (.one (.ptr 1 0)))), (9, (.e (.one (.slc 3 0 1 1 1 false)))), (27, (iI (Int.ofNat n))), (28, (iI (Int.ofNat (i + 1))))] 57 0⟩) (fun j => by kernel_rfl) (aP h0 <| aP h1 <| aP h2 <| aP h3 <| aP h4 <| aP h5 <| aP h6 <| aN <| aP h8 <| aP h9 <| aP h10 <| aP h11 <| aP h12 <| aP (rfl : (true : Bool) = true) <| aP h14 <| aP h15 <| aN <| aP h17 <| aP h18 <| aP h19 <| aP h20 <| aZ)
    fun j => outK_gc [0, 1, 3] (by decide) (by kernel_rfl) (by kernel_rfl) (by kernel_rfl) (ho j)
def p59zx_end (_s _o _l _v _f _e _w _x _y _u _t _q _r _g _h _k : Int) (_n _i _m _N _N2 : Nat) (_D _D2 : List AC) (j : Nat → Value) : St := ⟨[], [(.code .ret)], mkT j [(6, (.e (.one (.v (.slice none 0 0))))), (7, (iI 0))] 57 0⟩
theorem p59zx (hE : EnvOk E) (s o l v f e w x y u t q r g h k : Int) (n i m N N2 : Nat) (D D2 : List AC) (h0 : (decide (Int.ofNat i < Int.ofNat n) : Bool) = false) {Φ : Res → Prop} (ho : ∀ j, OutK E 0 0 (p59zx_end s o l v f e w x y u t q r g h k n i m N N2 D D2 j) Φ) (j : Nat → Value) : OutK E 0 0 (q59z s o l v f e w x y u t q r g h k n i m N N2 D D2 j) Φ :=
  outK_seg hE (R0_ok hE) [.run 3, (.cond false), .run 3] [6, 7] (s' := fun j => ⟨[(.some ⟨[(.v (.int .i64 (s))), (.v (.int .i64 (o))), (.v (.int .i64 (l))), (.v (.int .i64 (v)))], 4, 106, true, .cells⟩), (.some ⟨[(.v (.int .i64 (f))), (.v (.int .i64 (e)))], 2, 79, true, .cells⟩)], [(.code .ret)], mkT j [(6, (.e (.one (.v (.slice none 0 0))))), (7, (iI 0))] 57 0⟩) (fun j => by kernel_rfl) (aP h0 <| aZ)
    fun j => outK_gc [] (by decide) (by kernel_rfl) (by kernel_rfl) (by kernel_rfl) (ho j)
def p61zb_end (s o l v f e w _x _y _u _t _q _r g _h _k : Int) (_n _i _m _N _N2 : Nat) (_D _D2 : List AC) (j : Nat → Value) : St := ⟨[(.some ⟨[(.v (.int .i64 (s))), (.v (.int .i64 (o))), (.v (.int .i64 (l))), (.v (.int .i64 (v)))], 4, 102, true, .cells⟩), (.some ⟨[(.v (.int .i64 (f))), (.v (.int .i64 (e)))], 2, 79, true, .cells⟩)], [(.code (atC [1, 1, 0, 1, 0, 0] (bodyOf Tryz.f61))), (.inLoop (atC [1, 1, 0, 1, 0, 0] (bodyOf Tryz.f61))), (.inBlock 0), (.code (atC [1, 1, 1] (bodyOf Tryz.f61)))], mkT j [(2, (iI (w))), (3, (.e (.one (.ptr 0 0)))), (4, (.e (.one (.ptr 1 0)))), (7, (.e (.one (.v (.slice none 0 0))))), (8, (iI (g)))] 38 0⟩
theorem p61zb (hE : EnvOk E) (s o l v f e w x y u t q r g h k : Int) (n i m N N2 : Nat) (D D2 : List AC) (h0 : (decide (t < e) : Bool) = true) (h1 : COut E 0 [] 55 [(.e (.agg [(.v (.int .i64 (s))), (.v (.int .i64 (o))), (.v (.int .i64 (l))), (.v (.int .i64 (v)))])), (iI (t))] (iI (x)) []) (h3 : COut E 0 [] 105 [(iI (x)), (iI (w))] (iI (q)) []) (h5 : ((iI (wrapF IntKind.i64 (t - (1 : Int)))) : AV) = (iI (u))) (h6 : COut E 0 [] 55 [(.e (.agg [(.v (.int .i64 (s))), (.v (.int .i64 (o))), (.v (.int .i64 (l))), (.v (.int .i64 (v)))])), (iI (u))] (iI (y)) []) (h9 : COut E 0 [] 105 [(iI (y)), (iI (w))] (iI (r)) []) (h11 : (decide (q > r) : Bool) = false) (h12 : ((iI (wrapF IntKind.i64 (t + (1 : Int)))) : AV) = (iI (g))) {Φ : Res → Prop} (ho : ∀ j, OutK E 0 0 (p61zb_end s o l v f e w x y u t q r g h k n i m N N2 D D2 j) Φ) (j : Nat → Value) : OutK E 0 0 (q61z s o l v f e w x y u t q r g h k n i m N N2 D D2 j) Φ :=
  outK_seg hE (R0_ok hE) [.run 3, (.cond true), .run 4, (.ops [(2, (.c0 (iI (x)))), (4, (.c0 (iI (q)))), (7, (.rn (iI (u)))), (8, (.c0 (iI (y)))), (10, (.c0 (iI (r))))] []), (.cond false), .run 2, (.ops [(1, (.rn (iI (g))))] []), .run 1] [2, 3, 4, 7, 8] (fun j => by kernel_rfl) (aP h0 <| aP h1 <| aN <| aP h3 <| aN <| aP h5 <| aP h6 <| aN <| aP (rfl : (true : Bool) = true) <| aP h9 <| aN <| aP h11 <| aP h12 <| aZ)
    ho
def p61zc_end (s o l v f e w _x _y _u t _q _r g _h _k : Int) (_n _i _m _N _N2 : Nat) (_D _D2 : List AC) (j : Nat → Value) : St := ⟨[(.some ⟨[(.v (.int .i64 (s))), (.v (.int .i64 (o))), (.v (.int .i64 (l))), (.v (.int .i64 (v)))], 4, 102, true, .cells⟩), (.some ⟨[(.v (.int .i64 (f))), (.v (.int .i64 (e)))], 2, 79, true, .cells⟩), (.some ⟨[(.v (.int .i64 (t)))], 1, 3, false, .cells⟩)], [(.code (atC [1, 1, 0, 1, 0, 0] (bodyOf Tryz.f61))), (.inLoop (atC [1, 1, 0, 1, 0, 0] (bodyOf Tryz.f61))), (.inBlock 0), (.code (atC [1, 1, 1] (bodyOf Tryz.f61)))], mkT j [(2, (iI (w))), (3, (.e (.one (.ptr 0 0)))), (4, (.e (.one (.ptr 1 0)))), (7, (.e (.one (.slc 2 0 1 1 1 false)))), (8, (iI (g)))] 38 0⟩
theorem p61zc (hE : EnvOk E) (s o l v f e w x y u t q r g h k : Int) (n i m N N2 : Nat) (D D2 : List AC) (h0 : (decide (t < e) : Bool) = true) (h1 : COut E 0 [] 55 [(.e (.agg [(.v (.int .i64 (s))), (.v (.int .i64 (o))), (.v (.int .i64 (l))), (.v (.int .i64 (v)))])), (iI (t))] (iI (x)) []) (h3 : COut E 0 [] 105 [(iI (x)), (iI (w))] (iI (q)) []) (h5 : ((iI (wrapF IntKind.i64 (t - (1 : Int)))) : AV) = (iI (u))) (h6 : COut E 0 [] 55 [(.e (.agg [(.v (.int .i64 (s))), (.v (.int .i64 (o))), (.v (.int .i64 (l))), (.v (.int .i64 (v)))])), (iI (u))] (iI (y)) []) (h9 : COut E 0 [] 105 [(iI (y)), (iI (w))] (iI (r)) []) (h11 : (decide (q > r) : Bool) = true) (h12 : ((iI (wrapF IntKind.i64 (t + (1 : Int)))) : AV) = (iI (g))) {Φ : Res → Prop} (ho : ∀ j, OutK E 0 0 (p61zc_end s o l v f e w x y u t q r g h k n i m N N2 D D2 j) Φ) (j : Nat → Value) : OutK E 0 0 (q61z s o l v f e w x y u t q r g h k n i m N N2 D D2 j) Φ :=
  outK_seg hE (R0_ok hE) [.run 3, (.cond true), .run 4, (.ops [(2, (.c0 (iI (x)))), (4, (.c0 (iI (q)))), (7, (.rn (iI (u)))), (8, (.c0 (iI (y)))), (10, (.c0 (iI (r))))] []), (.cond true), .run 2, (.ops [(1, (.rn (iI (g))))] []), .run 1] [2, 3, 4, 7, 8] (s' := fun j => ⟨[(.some ⟨[(.v (.int .i64 (s))), (.v (.int .i64 (o))), (.v (.int .i64 (l))), (.v (.int .i64 (v)))], 4, 102, true, .cells⟩), (.some ⟨[(.v (.int .i64 (f))), (.v (.int .i64 (e)))], 2, 79, true, .cells⟩), (.some ⟨[(.v (.int .i64 (t)))], 1, 3, true, .cells⟩), (.some ⟨[(.v (.int .i64 (t)))], 1, 3, false, .cells⟩)], [(.code (atC [1, 1, 0, 1, 0, 0] (bodyOf Tryz.f61))), (.inLoop (atC [1, 1, 0, 1, 0, 0] (bodyOf Tryz.f61))), (.inBlock 0), (.code (atC [1, 1, 1] (bodyOf Tryz.f61)))], mkT j [(2, (iI (w))), (3, (.e (.one (.ptr 0 0)))), (4, (.e (.one (.ptr 1 0)))), (7, (.e (.one (.slc 3 0 1 1 1 false)))), (8, (iI (g)))] 38 0⟩) (fun j => by kernel_rfl) (aP h0 <| aP h1 <| aN <| aP h3 <| aN <| aP h5 <| aP h6 <| aN <| aP (rfl : (true : Bool) = true) <| aP h9 <| aN <| aP h11 <| aP h12 <| aZ)
    fun j => outK_gc [0, 1, 3] (by decide) (by kernel_rfl) (by kernel_rfl) (by kernel_rfl) (ho j)
def p61zx_end (_s _o _l _v _f _e _w _x _y _u _t _q _r _g _h _k : Int) (_n _i _m _N _N2 : Nat) (_D _D2 : List AC) (j : Nat → Value) : St := ⟨[], [(.code .ret)], mkT j [(6, (.e (.one (.v (.slice none 0 0)))))] 38 0⟩
theorem p61zx (hE : EnvOk E) (s o l v f e w x y u t q r g h k : Int) (n i m N N2 : Nat) (D D2 : List AC) (h0 : (decide (t < e) : Bool) = false) {Φ : Res → Prop} (ho : ∀ j, OutK E 0 0 (p61zx_end s o l v f e w x y u t q r g h k n i m N N2 D D2 j) Φ) (j : Nat → Value) : OutK E 0 0 (q61z s o l v f e w x y u t q r g h k n i m N N2 D D2 j) Φ :=
  outK_seg hE (R0_ok hE) [.run 3, (.cond false), .run 3] [6] (s' := fun j => ⟨[(.some ⟨[(.v (.int .i64 (s))), (.v (.int .i64 (o))), (.v (.int .i64 (l))), (.v (.int .i64 (v)))], 4, 102, true, .cells⟩), (.some ⟨[(.v (.int .i64 (f))), (.v (.int .i64 (e)))], 2, 79, true, .cells⟩)], [(.code .ret)], mkT j [(6, (.e (.one (.v (.slice none 0 0)))))] 38 0⟩) (fun j => by kernel_rfl) (aP h0 <| aZ)
    fun j => outK_gc [] (by decide) (by kernel_rfl) (by kernel_rfl) (by kernel_rfl) (ho j)
def p59ia_end (s o l v f e w _x _y _u _t _q _r _g _h _k : Int) (n i m N _N2 : Nat) (D _D2 : List AC) (j : Nat → Value) : St := ⟨[(.some ⟨[(.v (.int .i64 (s))), (.v (.int .i64 (o))), (.v (.int .i64 (l))), (.v (.int .i64 (v)))], 4, 106, true, .cells⟩), (.some ⟨[(.v (.int .i64 (f))), (.v (.int .i64 (e)))], 2, 79, true, .cells⟩), (.some ⟨(D), (N), 3, false, .cells⟩)], [(.code (atC [1, 1, 1, 1, 0, 1, 0, 0] (bodyOf Tryz.f59))), (.inLoop (atC [1, 1, 1, 1, 0, 1, 0, 0] (bodyOf Tryz.f59))), (.inBlock 0), (.code (atC [1, 1, 1, 1, 1] (bodyOf Tryz.f59)))], mkT j [(2, (iI (w))), (3, (.e (.one (.ptr 0 0)))), (4, (.e (.one (.ptr 1 0)))), (9, (.e (.one (.slc 2 0 (m) 1 (m) false)))), (27, (iI (Int.ofNat n))), (28, (iI (Int.ofNat (i + 1))))] 57 0⟩
theorem p59ia (hE : EnvOk E) (s o l v f e w x y u t q r g h k : Int) (n i m N N2 : Nat) (D D2 : List AC) (h0 : (decide (Int.ofNat i < Int.ofNat n) : Bool) = true) (h1 : ((iI (wrapF IntKind.i64 (f + Int.ofNat i))) : AV) = (iI (t))) (h2 : (decide (t > s) == true : Bool) = (nat_lit 5, false).snd) (h3 : (decide (t > s) == true : Bool) = (nat_lit 6, false).snd) (h4 : (decide (t > s) == true : Bool) = (nat_lit 7, false).snd) (h5 : (decide (t > s) == true : Bool) = (nat_lit 8, false).snd) (h6 : (decide (t > s) == true : Bool) = (nat_lit 9, false).snd) (h7 : (decide (t > s) == true : Bool) = (nat_lit 10, false).snd) (h8 : (decide (t > s) == true : Bool) = (nat_lit 11, false).snd) (h9 : (decide (t > s) == true : Bool) = (nat_lit 12, false).snd) (h11 : (decide (t > s) == true : Bool) = (nat_lit 13, false).snd) (h12 : (decide (t > s) == true : Bool) = (nat_lit 14, false).snd) (h13 : (decide (t > s) : Bool) = false) (h14 : ((iI (wrapF IntKind.i64 (Int.ofNat i + (1 : Int)))) : AV) = (iI (Int.ofNat (i + 1)))) {Φ : Res → Prop} (ho : ∀ j, OutK E 0 0 (p59ia_end s o l v f e w x y u t q r g h k n i m N N2 D D2 j) Φ) (j : Nat → Value) : OutK E 0 0 (q59i s o l v f e w x y u t q r g h k n i m N N2 D D2 j) Φ :=
  outK_seg hE (R0_ok hE) [.run 3, (.cond true), .run 6, (.ops [(3, (.rn (iI (t))))] []), .run 1, (.ops [(8, (.c0 (iI (x)))), (11, (.rn (iI (u)))), (13, (.c0 (iI (y)))), (15, (.pk false))] [(5, false), (6, false), (7, false), (8, false), (9, false), (10, false), (11, false), (12, false), (13, false), (14, false)]), .run 3, (.ops [(0, (.rn (iI (Int.ofNat (i + 1)))))] []), .run 1] [2, 3, 4, 9, 27, 28] (fun j => by kernel_rfl) (aP h0 <| aP h1 <| aP h2 <| aP h3 <| aP h4 <| aP h5 <| aP h6 <| aP h7 <| aP h8 <| aP h9 <| aP (rfl : (true : Bool) = true) <| aP h11 <| aP h12 <| aP h13 <| aP h14 <| aZ)
    ho
def p59ib_end (s o l v f e w _x _y _u _t _q _r _g _h _k : Int) (n i m N _N2 : Nat) (D _D2 : List AC) (j : Nat → Value) : St := ⟨[(.some ⟨[(.v (.int .i64 (s))), (.v (.int .i64 (o))), (.v (.int .i64 (l))), (.v (.int .i64 (v)))], 4, 106, true, .cells⟩), (.some ⟨[(.v (.int .i64 (f))), (.v (.int .i64 (e)))], 2, 79, true, .cells⟩), (.some ⟨(D), (N), 3, false, .cells⟩)], [(.code (atC [1, 1, 1, 1, 0, 1, 0, 0] (bodyOf Tryz.f59))), (.inLoop (atC [1, 1, 1, 1, 0, 1, 0, 0] (bodyOf Tryz.f59))), (.inBlock 0), (.code (atC [1, 1, 1, 1, 1] (bodyOf Tryz.f59)))], mkT j [(2, (iI (w))), (3, (.e (.one (.ptr 0 0)))), (4, (.e (.one (.ptr 1 0)))), (9, (.e (.one (.slc 2 0 (m) 1 (m) false)))), (27, (iI (Int.ofNat n))), (28, (iI (Int.ofNat (i + 1))))] 57 0⟩
theorem p59ib (hE : EnvOk E) (s o l v f e w x y u t q r g h k : Int) (n i m N N2 : Nat) (D D2 : List AC) (h0 : (decide (Int.ofNat i < Int.ofNat n) : Bool) = true) (h1 : ((iI (wrapF IntKind.i64 (f + Int.ofNat i))) : AV) = (iI (t))) (h2 : (decide (t > s) == true : Bool) = (nat_lit 5, true).snd) (h3 : (decide (t > s) == true : Bool) = (nat_lit 6, true).snd) (h4 : (decide (t > s) == true : Bool) = (nat_lit 7, true).snd) (h5 : (decide (t > s) == true : Bool) = (nat_lit 8, true).snd) (h6 : COut E 0 [] 104 [(.e (.agg [(.v (.int .i64 (s))), (.v (.int .i64 (o))), (.v (.int .i64 (l))), (.v (.int .i64 (v)))])), (iI (t)), (iI (w))] (iI (x)) []) (h8 : (decide (t > s) == true : Bool) = (nat_lit 9, true).snd) (h9 : (decide (t > s) == true : Bool) = (nat_lit 10, true).snd) (h10 : (decide (t > s) == true : Bool) = (nat_lit 11, true).snd) (h11 : ((iI (wrapF IntKind.i64 (t - (1 : Int)))) : AV) = (iI (u))) (h12 : (decide (t > s) == true : Bool) = (nat_lit 12, true).snd) (h14 : (decide (t > s) == true : Bool) = (nat_lit 13, true).snd) (h15 : COut E 0 [] 104 [(.e (.agg [(.v (.int .i64 (s))), (.v (.int .i64 (o))), (.v (.int .i64 (l))), (.v (.int .i64 (v)))])), (iI (u)), (iI (w))] (iI (y)) []) (h17 : (decide (t > s) == true : Bool) = (nat_lit 14, true).snd) (h18 : (decide (t > s) : Bool) = true) (h19 : (decide (x > y) : Bool) = false) (h20 : ((iI (wrapF IntKind.i64 (Int.ofNat i + (1 : Int)))) : AV) = (iI (Int.ofNat (i + 1)))) {Φ : Res → Prop} (ho : ∀ j, OutK E 0 0 (p59ib_end s o l v f e w x y u t q r g h k n i m N N2 D D2 j) Φ) (j : Nat → Value) : OutK E 0 0 (q59i s o l v f e w x y u t q r g h k n i m N N2 D D2 j) Φ :=
  outK_seg hE (R0_ok hE) [.run 3, (.cond true), .run 6, (.ops [(3, (.rn (iI (t))))] []), .run 1, (.ops [(8, (.c0 (iI (x)))), (11, (.rn (iI (u)))), (13, (.c0 (iI (y)))), (15, (.pk true))] [(5, true), (6, true), (7, true), (8, true), (9, true), (10, true), (11, true), (12, true), (13, true), (14, true)]), (.cond false), .run 2, (.ops [(0, (.rn (iI (Int.ofNat (i + 1)))))] []), .run 1] [2, 3, 4, 9, 27, 28] (fun j => by kernel_rfl) (aP h0 <| aP h1 <| aP h2 <| aP h3 <| aP h4 <| aP h5 <| aP h6 <| aN <| aP h8 <| aP h9 <| aP h10 <| aP h11 <| aP h12 <| aP (rfl : (true : Bool) = true) <| aP h14 <| aP h15 <| aN <| aP h17 <| aP h18 <| aP h19 <| aP h20 <| aZ)
    ho
def p59ic_end (s o l v f e w _x _y _u _t _q _r _g _h _k : Int) (n i m _N N2 : Nat) (_D D2 : List AC) (j : Nat → Value) : St := ⟨[(.some ⟨[(.v (.int .i64 (s))), (.v (.int .i64 (o))), (.v (.int .i64 (l))), (.v (.int .i64 (v)))], 4, 106, true, .cells⟩), (.some ⟨[(.v (.int .i64 (f))), (.v (.int .i64 (e)))], 2, 79, true, .cells⟩), (.some ⟨(D2), (N2), 3, false, .cells⟩)], [(.code (atC [1, 1, 1, 1, 0, 1, 0, 0] (bodyOf Tryz.f59))), (.inLoop (atC [1, 1, 1, 1, 0, 1, 0, 0] (bodyOf Tryz.f59))), (.inBlock 0), (.code (atC [1, 1, 1, 1, 1] (bodyOf Tryz.f59)))], mkT j [(2, (iI (w))), (3, (.e (.one (.ptr 0 0)))), (4, (.e (.one (.ptr 1 0)))), (9, (.e (.one (.slc 2 0 (m + 1) 1 (m + 1) false)))), (27, (iI (Int.ofNat n))), (28, (iI (Int.ofNat (i + 1))))] 57 0⟩
theorem p59ic (hE : EnvOk E) (s o l v f e w x y u t q r g h k : Int) (n i m N N2 : Nat) (D D2 : List AC) (h0 : (decide (Int.ofNat i < Int.ofNat n) : Bool) = true) (h1 : ((iI (wrapF IntKind.i64 (f + Int.ofNat i))) : AV) = (iI (t))) (h2 : (decide (t > s) == true : Bool) = (nat_lit 5, true).snd) (h3 : (decide (t > s) == true : Bool) = (nat_lit 6, true).snd) (h4 : (decide (t > s) == true : Bool) = (nat_lit 7, true).snd) (h5 : (decide (t > s) == true : Bool) = (nat_lit 8, true).snd) (h6 : COut E 0 [] 104 [(.e (.agg [(.v (.int .i64 (s))), (.v (.int .i64 (o))), (.v (.int .i64 (l))), (.v (.int .i64 (v)))])), (iI (t)), (iI (w))] (iI (x)) []) (h8 : (decide (t > s) == true : Bool) = (nat_lit 9, true).snd) (h9 : (decide (t > s) == true : Bool) = (nat_lit 10, true).snd) (h10 : (decide (t > s) == true : Bool) = (nat_lit 11, true).snd) (h11 : ((iI (wrapF IntKind.i64 (t - (1 : Int)))) : AV) = (iI (u))) (h12 : (decide (t > s) == true : Bool) = (nat_lit 12, true).snd) (h14 : (decide (t > s) == true : Bool) = (nat_lit 13, true).snd) (h15 : COut E 0 [] 104 [(.e (.agg [(.v (.int .i64 (s))), (.v (.int .i64 (o))), (.v (.int .i64 (l))), (.v (.int .i64 (v)))])), (iI (u)), (iI (w))] (iI (y)) []) (h17 : (decide (t > s) == true : Bool) = (nat_lit 14, true).snd) (h18 : (decide (t > s) : Bool) = true) (h19 : (decide (x > y) : Bool) = true) (h20 : ¬m + 1 ≤ m) (h21 : (small (m + 1) (1 : Nat) (8 : Nat) : Bool) = true) (h22 : (N : Nat) = m * nat_lit 1) (h23 : (appL D ((fun x => AC.v (Value.int IntKind.i64 t) :: x) []) : List AC) = D2) (h25 : ((m + 1) * nat_lit 1 : Nat) = N2) (h26 : ((iI (wrapF IntKind.i64 (Int.ofNat i + (1 : Int)))) : AV) = (iI (Int.ofNat (i + 1)))) (g0 : FlatC (D2)) {Φ : Res → Prop} (ho : ∀ j, OutK E 0 0 (p59ic_end s o l v f e w x y u t q r g h k n i m N N2 D D2 j) Φ) (j : Nat → Value) : OutK E 0 0 (q59i s o l v f e w x y u t q r g h k n i m N N2 D D2 j) Φ :=
  outK_seg hE (R0_ok hE) [.run 3, (.cond true), .run 6, (.ops [(3, (.rn (iI (t))))] []), .run 1, (.ops [(8, (.c0 (iI (x)))), (11, (.rn (iI (u)))), (13, (.c0 (iI (y)))), (15, (.pk true))] [(5, true), (6, true), (7, true), (8, true), (9, true), (10, true), (11, true), (12, true), (13, true), (14, true)]), (.cond true), (.ops [(3, (.app (m + 1) (N2) (D2)))] []), .run 1, (.ops [(0, (.rn (iI (Int.ofNat (i + 1)))))] []), .run 1] [2, 3, 4, 9, 27, 28] (s' := fun j => ⟨[(.some ⟨[(.v (.int .i64 (s))), (.v (.int .i64 (o))), (.v (.int .i64 (l))), (.v (.int .i64 (v)))], 4, 106, true, .cells⟩), (.some ⟨[(.v (.int .i64 (f))), (.v (.int .i64 (e)))], 2, 79, true, .cells⟩), none, (.some ⟨[(.v (.int .i64 (t)))], 1, 3, true, .cells⟩), (.some ⟨(D2), (N2), 3, false, .cells⟩)], [(.code (atC [1, 1, 1, 1, 0, 1, 0, 0] (bodyOf Tryz.f59))), (.inLoop (atC [1, 1, 1, 1, 0, 1, 0, 0] (bodyOf Tryz.f59))), (.inBlock 0), (.code (atC [1, 1, 1, 1, 1] (bodyOf Tryz.f59)))], mkT j [(2, (iI (w))), (3, (.e (.one (.ptr 0 0)))), (4, (.e (.one (.ptr 1 0)))), (9, (.e (.one (.slc 4 0 (m + 1) 1 (m + 1) false)))), (27, (iI (Int.ofNat n))), (28, (iI (Int.ofNat (i + 1))))] 57 0⟩) (fun j => by kernel_rfl) (aP h0 <| aP h1 <| aP h2 <| aP h3 <| aP h4 <| aP h5 <| aP h6 <| aN <| aP h8 <| aP h9 <| aP h10 <| aP h11 <| aP h12 <| aP (rfl : (true : Bool) = true) <| aP h14 <| aP h15 <| aN <| aP h17 <| aP h18 <| aP h19 <| aP h20 <| aP h21 <| aP h22 <| aP h23 <| aP (rfl : (m + 1 : Nat) = m + 1) <| aP h25 <| aP h26 <| aZ)
    fun j => outK_gcF [0, 1, 4] [false, false, true] (h' := [(.some ⟨[(.v (.int .i64 (s))), (.v (.int .i64 (o))), (.v (.int .i64 (l))), (.v (.int .i64 (v)))], 4, 106, true, .cells⟩), (.some ⟨[(.v (.int .i64 (f))), (.v (.int .i64 (e)))], 2, 79, true, .cells⟩), (.some ⟨(D2), (N2), 3, false, .cells⟩)]) (by decide) (by kernel_rfl) (by kernel_rfl) ⟨g0, trivial⟩ (by kernel_rfl) (ho j)
def p59ix_end (_s _o _l _v _f _e _w _x _y _u _t _q _r _g _h _k : Int) (_n _i m N _N2 : Nat) (D _D2 : List AC) (j : Nat → Value) : St := ⟨[(.some ⟨(D), (N), 3, false, .cells⟩)], [(.code .ret)], mkT j [(6, (.e (.one (.slc 0 0 (m) 1 (m) false)))), (7, (iI 0))] 57 0⟩
theorem p59ix (hE : EnvOk E) (s o l v f e w x y u t q r g h k : Int) (n i m N N2 : Nat) (D D2 : List AC) (h0 : (decide (Int.ofNat i < Int.ofNat n) : Bool) = false) (g0 : FlatC (D)) {Φ : Res → Prop} (ho : ∀ j, OutK E 0 0 (p59ix_end s o l v f e w x y u t q r g h k n i m N N2 D D2 j) Φ) (j : Nat → Value) : OutK E 0 0 (q59i s o l v f e w x y u t q r g h k n i m N N2 D D2 j) Φ :=
  outK_seg hE (R0_ok hE) [.run 3, (.cond false), .run 3] [6, 7] (s' := fun j => ⟨[(.some ⟨[(.v (.int .i64 (s))), (.v (.int .i64 (o))), (.v (.int .i64 (l))), (.v (.int .i64 (v)))], 4, 106, true, .cells⟩), (.some ⟨[(.v (.int .i64 (f))), (.v (.int .i64 (e)))], 2, 79, true, .cells⟩), (.some ⟨(D), (N), 3, false, .cells⟩)], [(.code .ret)], mkT j [(6, (.e (.one (.slc 2 0 (m) 1 (m) false)))), (7, (iI 0))] 57 0⟩) (fun j => by kernel_rfl) (aP h0 <| aZ)
    fun j => outK_gcF [2] [true] (h' := [(.some ⟨(D), (N), 3, false, .cells⟩)]) (by decide) (by kernel_rfl) (by kernel_rfl) ⟨g0, trivial⟩ (by kernel_rfl) (ho j)
def p61ib_end (s o l v f e w _x _y _u _t _q _r g _h _k : Int) (_n _i m N _N2 : Nat) (D _D2 : List AC) (j : Nat → Value) : St := ⟨[(.some ⟨[(.v (.int .i64 (s))), (.v (.int .i64 (o))), (.v (.int .i64 (l))), (.v (.int .i64 (v)))], 4, 102, true, .cells⟩), (.some ⟨[(.v (.int .i64 (f))), (.v (.int .i64 (e)))], 2, 79, true, .cells⟩), (.some ⟨(D), (N), 3, false, .cells⟩)], [(.code (atC [1, 1, 0, 1, 0, 0] (bodyOf Tryz.f61))), (.inLoop (atC [1, 1, 0, 1, 0, 0] (bodyOf Tryz.f61))), (.inBlock 0), (.code (atC [1, 1, 1] (bodyOf Tryz.f61)))], mkT j [(2, (iI (w))), (3, (.e (.one (.ptr 0 0)))), (4, (.e (.one (.ptr 1 0)))), (7, (.e (.one (.slc 2 0 (m) 1 (m) false)))), (8, (iI (g)))] 38 0⟩
theorem p61ib (hE : EnvOk E) (s o l v f e w x y u t q r g h k : Int) (n i m N N2 : Nat) (D D2 : List AC) (h0 : (decide (t < e) : Bool) = true) (h1 : COut E 0 [] 55 [(.e (.agg [(.v (.int .i64 (s))), (.v (.int .i64 (o))), (.v (.int .i64 (l))), (.v (.int .i64 (v)))])), (iI (t))] (iI (x)) []) (h3 : COut E 0 [] 105 [(iI (x)), (iI (w))] (iI (q)) []) (h5 : ((iI (wrapF IntKind.i64 (t - (1 : Int)))) : AV) = (iI (u))) (h6 : COut E 0 [] 55 [(.e (.agg [(.v (.int .i64 (s))), (.v (.int .i64 (o))), (.v (.int .i64 (l))), (.v (.int .i64 (v)))])), (iI (u))] (iI (y)) []) (h9 : COut E 0 [] 105 [(iI (y)), (iI (w))] (iI (r)) []) (h11 : (decide (q > r) : Bool) = false) (h12 : ((iI (wrapF IntKind.i64 (t + (1 : Int)))) : AV) = (iI (g))) {Φ : Res → Prop} (ho : ∀ j, OutK E 0 0 (p61ib_end s o l v f e w x y u t q r g h k n i m N N2 D D2 j) Φ) (j : Nat → Value) : OutK E 0 0 (q61i s o l v f e w x y u t q r g h k n i m N N2 D D2 j) Φ :=
  outK_seg hE (R0_ok hE) [.run 3, (.cond true), .run 4, (.ops [(2, (.c0 (iI (x)))), (4, (.c0 (iI (q)))), (7, (.rn (iI (u)))), (8, (.c0 (iI (y)))), (10, (.c0 (iI (r))))] []), (.cond false), .run 2, (.ops [(1, (.rn (iI (g))))] []), .run 1] [2, 3, 4, 7, 8] (fun j => by kernel_rfl) (aP h0 <| aP h1 <| aN <| aP h3 <| aN <| aP h5 <| aP h6 <| aN <| aP (rfl : (true : Bool) = true) <| aP h9 <| aN <| aP h11 <| aP h12 <| aZ)
    ho
def p61ic_end (s o l v f e w _x _y _u _t _q _r g _h _k : Int) (_n _i m _N N2 : Nat) (_D D2 : List AC) (j : Nat → Value) : St := ⟨[(.some ⟨[(.v (.int .i64 (s))), (.v (.int .i64 (o))), (.v (.int .i64 (l))), (.v (.int .i64 (v)))], 4, 102, true, .cells⟩), (.some ⟨[(.v (.int .i64 (f))), (.v (.int .i64 (e)))], 2, 79, true, .cells⟩), (.some ⟨(D2), (N2), 3, false, .cells⟩)], [(.code (atC [1, 1, 0, 1, 0, 0] (bodyOf Tryz.f61))), (.inLoop (atC [1, 1, 0, 1, 0, 0] (bodyOf Tryz.f61))), (.inBlock 0), (.code (atC [1, 1, 1] (bodyOf Tryz.f61)))], mkT j [(2, (iI (w))), (3, (.e (.one (.ptr 0 0)))), (4, (.e (.one (.ptr 1 0)))), (7, (.e (.one (.slc 2 0 (m + 1) 1 (m + 1) false)))), (8, (iI (g)))] 38 0⟩
theorem p61ic (hE : EnvOk E) (s o l v f e w x y u t q r g h k : Int) (n i m N N2 : Nat) (D D2 : List AC) (h0 : (decide (t < e) : Bool) = true) (h1 : COut E 0 [] 55 [(.e (.agg [(.v (.int .i64 (s))), (.v (.int .i64 (o))), (.v (.int .i64 (l))), (.v (.int .i64 (v)))])), (iI (t))] (iI (x)) []) (h3 : COut E 0 [] 105 [(iI (x)), (iI (w))] (iI (q)) []) (h5 : ((iI (wrapF IntKind.i64 (t - (1 : Int)))) : AV) = (iI (u))) (h6 : COut E 0 [] 55 [(.e (.agg [(.v (.int .i64 (s))), (.v (.int .i64 (o))), (.v (.int .i64 (l))), (.v (.int .i64 (v)))])), (iI (u))] (iI (y)) []) (h9 : COut E 0 [] 105 [(iI (y)), (iI (w))] (iI (r)) []) (h11 : (decide (q > r) : Bool) = true) (h12 : ¬m + 1 ≤ m) (h13 : (small (m + 1) (1 : Nat) (8 : Nat) : Bool) = true) (h14 : (N : Nat) = m * nat_lit 1) (h15 : (appL D ((fun x => AC.v (Value.int IntKind.i64 t) :: x) []) : List AC) = D2) (h17 : ((m + 1) * nat_lit 1 : Nat) = N2) (h18 : ((iI (wrapF IntKind.i64 (t + (1 : Int)))) : AV) = (iI (g))) (g0 : FlatC (D2)) {Φ : Res → Prop} (ho : ∀ j, OutK E 0 0 (p61ic_end s o l v f e w x y u t q r g h k n i m N N2 D D2 j) Φ) (j : Nat → Value) : OutK E 0 0 (q61i s o l v f e w x y u t q r g h k n i m N N2 D D2 j) Φ :=
  outK_seg hE (R0_ok hE) [.run 3, (.cond true), .run 4, (.ops [(2, (.c0 (iI (x)))), (4, (.c0 (iI (q)))), (7, (.rn (iI (u)))), (8, (.c0 (iI (y)))), (10, (.c0 (iI (r))))] []), (.cond true), (.ops [(3, (.app (m + 1) (N2) (D2)))] []), .run 1, (.ops [(1, (.rn (iI (g))))] []), .run 1] [2, 3, 4, 7, 8] (s' := fun j => ⟨[(.some ⟨[(.v (.int .i64 (s))), (.v (.int .i64 (o))), (.v (.int .i64 (l))), (.v (.int .i64 (v)))], 4, 102, true, .cells⟩), (.some ⟨[(.v (.int .i64 (f))), (.v (.int .i64 (e)))], 2, 79, true, .cells⟩), none, (.some ⟨[(.v (.int .i64 (t)))], 1, 3, true, .cells⟩), (.some ⟨(D2), (N2), 3, false, .cells⟩)], [(.code (atC [1, 1, 0, 1, 0, 0] (bodyOf Tryz.f61))), (.inLoop (atC [1, 1, 0, 1, 0, 0] (bodyOf Tryz.f61))), (.inBlock 0), (.code (atC [1, 1, 1] (bodyOf Tryz.f61)))], mkT j [(2, (iI (w))), (3, (.e (.one (.ptr 0 0)))), (4, (.e (.one (.ptr 1 0)))), (7, (.e (.one (.slc 4 0 (m + 1) 1 (m + 1) false)))), (8, (iI (g)))] 38 0⟩) (fun j => by kernel_rfl) (aP h0 <| aP h1 <| aN <| aP h3 <| aN <| aP h5 <| aP h6 <| aN <| aP (rfl : (true : Bool) = true) <| aP h9 <| aN <| aP h11 <| aP h12 <| aP h13 <| aP h14 <| aP h15 <| aP (rfl : (m + 1 : Nat) = m + 1) <| aP h17 <| aP h18 <| aZ)
    fun j => outK_gcF [0, 1, 4] [false, false, true] (h' := [(.some ⟨[(.v (.int .i64 (s))), (.v (.int .i64 (o))), (.v (.int .i64 (l))), (.v (.int .i64 (v)))], 4, 102, true, .cells⟩), (.some ⟨[(.v (.int .i64 (f))), (.v (.int .i64 (e)))], 2, 79, true, .cells⟩), (.some ⟨(D2), (N2), 3, false, .cells⟩)]) (by decide) (by kernel_rfl) (by kernel_rfl) ⟨g0, trivial⟩ (by kernel_rfl) (ho j)
def p61ix_end (_s _o _l _v _f _e _w _x _y _u _t _q _r _g _h _k : Int) (_n _i m N _N2 : Nat) (D _D2 : List AC) (j : Nat → Value) : St := ⟨[(.some ⟨(D), (N), 3, false, .cells⟩)], [(.code .ret)], mkT j [(6, (.e (.one (.slc 0 0 (m) 1 (m) false))))] 38 0⟩
theorem p61ix (hE : EnvOk E) (s o l v f e w x y u t q r g h k : Int) (n i m N N2 : Nat) (D D2 : List AC) (h0 : (decide (t < e) : Bool) = false) (g0 : FlatC (D)) {Φ : Res → Prop} (ho : ∀ j, OutK E 0 0 (p61ix_end s o l v f e w x y u t q r g h k n i m N N2 D D2 j) Φ) (j : Nat → Value) : OutK E 0 0 (q61i s o l v f e w x y u t q r g h k n i m N N2 D D2 j) Φ :=
  outK_seg hE (R0_ok hE) [.run 3, (.cond false), .run 3] [6] (s' := fun j => ⟨[(.some ⟨[(.v (.int .i64 (s))), (.v (.int .i64 (o))), (.v (.int .i64 (l))), (.v (.int .i64 (v)))], 4, 102, true, .cells⟩), (.some ⟨[(.v (.int .i64 (f))), (.v (.int .i64 (e)))], 2, 79, true, .cells⟩), (.some ⟨(D), (N), 3, false, .cells⟩)], [(.code .ret)], mkT j [(6, (.e (.one (.slc 2 0 (m) 1 (m) false))))] 38 0⟩) (fun j => by kernel_rfl) (aP h0 <| aZ)
    fun j => outK_gcF [2] [true] (h' := [(.some ⟨(D), (N), 3, false, .cells⟩)]) (by decide) (by kernel_rfl) (by kernel_rfl) ⟨g0, trivial⟩ (by kernel_rfl) (ho j)
def p30s_end (C : List DT) (n i : Nat) (_x : Int) (j : Nat → Value) : St := ⟨[], [(.code (atC [1, 1, 0, 1, 0, 0] (bodyOf Tryz.f30))), (.inLoop (atC [1, 1, 0, 1, 0, 0] (bodyOf Tryz.f30))), (.inBlock 0), (.code (atC [1, 1, 1] (bodyOf Tryz.f30)))], mkT j [(0, (.e (.one (.dp (.s (C) (n) 1))))), (1, (.e (.one (.dp (.s (C) (n) 1))))), (5, (iI (Int.ofNat (i + 1))))] 26 0⟩
theorem p30s (hE : EnvOk E) (C : List DT) (n i : Nat) (x : Int) (h0 : (decide (Int.ofNat i < (↑n : Int)) : Bool) = true) (h1 : (0 : Int) ≤ Int.ofNat i ∧ Int.ofNat i < (↑n : Int)) (h2 : ((Int.ofNat i).toNat * nat_lit 1 : Nat) = i) (h3 : (getL C i : Option DT) = (.some (.v (.int .i64 (x))))) (h4 : (0 : Int) ≤ Int.ofNat i ∧ Int.ofNat i < (↑n : Int)) (h5 : ((Int.ofNat i).toNat * nat_lit 1 : Nat) = i) (h6 : (getL C i : Option DT) = (.some (.v (.int .i64 (x))))) (h8 : (x != x : Bool) = false) (h9 : ((iI (wrapF IntKind.i64 (Int.ofNat i + (1 : Int)))) : AV) = (iI (Int.ofNat (i + 1)))) {Φ : Res → Prop} (ho : ∀ j, OutK E 0 0 (p30s_end C n i x j) Φ) (j : Nat → Value) : OutK E 0 0 (q30 C n i x j) Φ :=
  outK_seg hE (R0_ok hE) [.run 2, (.ops [(2, (.d .len))] []), (.cond true), .run 4, (.ops [(3, (.d (.ld (.v (.int .i64 (x)))))), (7, (.d (.ld (.v (.int .i64 (x)))))), (2, (.d (.ix (i)))), (6, (.d (.ix (i))))] []), (.cond false), .run 2, (.ops [(1, (.rn (iI (Int.ofNat (i + 1)))))] []), .run 1] [0, 1, 5] (fun j => by kernel_rfl) (aP h0 <| aP h1 <| aP h2 <| aP h3 <| aP h4 <| aP h5 <| aP h6 <| aP (rfl : (true : Bool) = true) <| aP h8 <| aP h9 <| aZ)
    ho
def p30x_end (_C : List DT) (_n _i : Nat) (_x : Int) (j : Nat → Value) : St := ⟨[], [(.code .ret)], mkT j [(4, (iB true))] 26 0⟩
theorem p30x (hE : EnvOk E) (C : List DT) (n i : Nat) (x : Int) (h0 : (decide (Int.ofNat i < (↑n : Int)) : Bool) = false) {Φ : Res → Prop} (ho : ∀ j, OutK E 0 0 (p30x_end C n i x j) Φ) (j : Nat → Value) : OutK E 0 0 (q30 C n i x j) Φ :=
  outK_seg hE (R0_ok hE) [.run 2, (.ops [(2, (.d .len))] []), (.cond false), .run 3] [4] (fun j => by kernel_rfl) (aP h0 <| aZ)
    ho

theorem K91 (hE : EnvOk E) (f e : Int) : COut E 0 [] 91 [.e (.agg [.v (.int .i64 f), .v (.int .i64 e)])] (iI (if f < 0 ∨ e < f then 14 else 0)) [] := by
  by_cases h : f < 0
  · have h1 : decide (f < (0 : Int)) = true := decide_eq_true h
    rw [if_pos (.inl h)]
    exact cOut_start Tryz.func91 rfl (p91a hE 0 0 0 0 (f) (e) 0 0 0 0 0 (14) 0 0 0 0 0 0 0 0 0 [] [] (by rw [h1]; rfl) (by rw [h1]; rfl) (by rw [h1]; rfl) (by rw [h1]; rfl) (by rw [h1]; rfl) h1 (K70 hE true 14) (fun j => outK_ret (ends_ret (by kernel_rfl))) fun _ => undef)
  · have h1 : decide (f < (0 : Int)) = false := decide_eq_false h
    have h2 := K70 hE (decide (f > e)) 14
    rw [show (if decide (f > e) = true then (14 : Int) else 0) = if f < 0 ∨ e < f then 14 else 0 by
      by_cases g : e < f
      · rw [if_pos (show decide (f > e) = true from decide_eq_true g), if_pos (show f < 0 ∨ e < f from .inr g)]
      · rw [if_neg (show ¬ decide (f > e) = true by simp; omega), if_neg (show ¬ (f < 0 ∨ e < f) by omega)]] at h2
    exact cOut_start Tryz.func91 rfl (p91b hE 0 0 0 0 (f) (e) 0 0 0 0 0 _ 0 0 0 0 0 0 0 0 0 [] [] (by rw [h1]; rfl) (by rw [h1]; rfl) (by rw [h1]; rfl) (by rw [h1]; rfl) (by rw [h1]; rfl) h1 h2 (fun j => outK_ret (ends_ret (by kernel_rfl))) fun _ => undef)
/-- the error of a span of ticks -/
def chkTk (f e : Int) : Int := firstI [if f < 0 ∨ e < f then 14 else 0, if e > 100000000 then 14 else 0, if wrapF .i64 (e - f) > 4096 then 5 else 0]
theorem K103 (hE : EnvOk E) (f e : Int) : COut E 0 [] 103 [.e (.agg [.v (.int .i64 f), .v (.int .i64 e)])] (iI (chkTk f e)) [] := by
  have h2 := K70 hE (decide (e > 100000000)) 14
  have h3 := K70 hE (decide (wrapF .i64 (e - f) > 4096)) 5
  simp only [decide_eq_true_eq] at h2 h3
  exact cOut_start Tryz.func103 rfl (p103 hE 0 0 0 0 (f) (e) 0 0 0 _ 0 _ _ _ _ 0 0 0 0 0 0 [] [] (K91 hE f e) h2 rfl h3 (lend2 _ hE 68 [if f < 0 ∨ e < f then 14 else 0, if e > 100000000 then 14 else 0, if wrapF .i64 (e - f) > 4096 then 5 else 0] _ _ _ (K68 hE _ (by simp)) _ 1 rfl) (fun j => outK_ret (ends_ret (by kernel_rfl))) fun _ => undef)
theorem K60 (hE : EnvOk E) (f e : Int) : COut E 0 [] 60 [.e (.agg [.v (.int .i64 f), .v (.int .i64 e)])] (iI (chkTk f e)) [] := by
  have h3 := K75 hE (decide (wrapF .i64 (e - f) > 4096)) 5
  simp only [decide_eq_true_eq] at h3
  have k25 := fun (a b : Int) (h : Heap) (hh : getL h 1 = _) => lend2 2 hE 25 [a, b] _ 3 true (K25 hE _ (by simp)) h 1 hh
  unfold chkTk
  by_cases h : f < 0
  · have h1 : decide (f < (0 : Int)) = true := decide_eq_true h
    rw [if_pos (.inl h)]
    exact cOut_start Tryz.func60 rfl (p60a hE 0 0 0 0 (f) (e) 0 0 0 _ 0 (14) _ 0 (14) 0 0 0 0 0 0 [] [] (by rw [h1]; rfl) (by rw [h1]; rfl) (by rw [h1]; rfl) (by rw [h1]; rfl) (by rw [h1]; rfl) h1 (K75 hE true 14) rfl h3 (k25 14 _ _ rfl) (fun j => outK_ret (ends_ret (by kernel_rfl))) fun _ => undef)
  · have h1 : decide (f < (0 : Int)) = false := decide_eq_false h
    by_cases g : e < f
    · have h2 : decide (f > e) = true := decide_eq_true g
      rw [if_pos (.inr g)]
      exact cOut_start Tryz.func60 rfl (p60b hE 0 0 0 0 (f) (e) 0 0 0 _ 0 (14) _ 0 (14) 0 0 0 0 0 0 [] [] (by rw [h1]; rfl) (by rw [h1]; rfl) (by rw [h1]; rfl) (by rw [h1]; rfl) (by rw [h1]; rfl) h1 (by rw [h2]; rfl) (by rw [h2]; rfl) (by rw [h2]; rfl) h2 (K75 hE true 14) rfl h3 (k25 14 _ _ rfl) (fun j => outK_ret (ends_ret (by kernel_rfl))) fun _ => undef)
    · have h2 : decide (f > e) = false := decide_eq_false (by omega)
      have h4 := K75 hE (decide (e > 100000000)) 14
      simp only [decide_eq_true_eq] at h4
      rw [if_neg (by omega)]
      have hf : ∀ a b : Int, firstI [0, a, b] = firstI [a, b] := fun a b => by simp [firstI]
      rw [hf]
      exact cOut_start Tryz.func60 rfl (p60c hE 0 0 0 0 (f) (e) 0 0 0 _ 0 _ _ 0 _ 0 0 0 0 0 0 [] [] (by rw [h1]; rfl) (by rw [h1]; rfl) (by rw [h1]; rfl) (by rw [h1]; rfl) (by rw [h1]; rfl) h1 (by rw [h2]; rfl) (by rw [h2]; rfl) (by rw [h2]; rfl) h2 h4 rfl h3 (k25 _ _ _ rfl) (fun j => outK_ret (ends_ret (by kernel_rfl))) fun _ => undef)
theorem chkTk0 {f e : Int} (h : chkTk f e = 0) : 0 ≤ f ∧ f ≤ e ∧ e ≤ 100000000 ∧ e - f ≤ 4096 := by
  have h0 := first0 h
  have a := h0 (if f < 0 ∨ e < f then 14 else 0) (by simp)
  have b := h0 (if e > 100000000 then 14 else 0) (by simp)
  have c := h0 (if wrapF .i64 (e - f) > 4096 then 5 else 0) (by simp)
  have a' : ¬ (f < 0 ∨ e < f) := fun hc => by rw [if_pos hc] at a; omega
  have b' : ¬ e > 100000000 := fun hc => by rw [if_pos hc] at b; omega
  have c' : ¬ wrapF .i64 (e - f) > 4096 := fun hc => by rw [if_pos hc] at c; omega
  rw [wrap_id (by omega) (by omega)] at c'
  omega
/-! Quotients, rounded down. -/
def flr (t w : Int) : Int := if t.tmod w < 0 then t.tdiv w - 1 else t.tdiv w
theorem div_b {t w : Int} (h1 : -1000000000 ≤ t) (h2 : t ≤ 1000000000) (hw : 2 ≤ w) : -1000000000 ≤ t.tdiv w ∧ t.tdiv w ≤ 1000000000 ∧ t.tdiv w * w + t.tmod w = t ∧ -w < t.tmod w ∧ t.tmod w < w := by
  have e := Int.tdiv_mul_add_tmod t w
  have b1 := Int.tmod_lt_of_pos t (show 0 < w by omega)
  have b2 : -w < t.tmod w := by
    have := Int.tmod_lt_of_pos (-t) (show 0 < w by omega)
    rw [Int.neg_tmod] at this
    omega
  have n := Int.natAbs_tdiv_le_natAbs t w
  omega
theorem K105 (hE : EnvOk E) {t w : Int} (h1 : -1000000000 ≤ t) (h2 : t ≤ 1000000000) (hw : 2 ≤ w) (hw2 : w ≤ 100000) : COut E 0 [] 105 [iI t, iI w] (iI (flr t w)) [] := by
  obtain ⟨b1, b2, b3, b4, b5⟩ := div_b h1 h2 hw
  unfold flr
  generalize hq : t.tdiv w = q at b1 b2 b3 ⊢
  generalize t.tmod w = r at b3 b4 b5 ⊢
  have e0 : wrapF .i64 (t.tdiv w) = q := by rw [hq]; exact wrap_id (by omega) (by omega)
  have e1 : wrapF .i64 (q * w) = q * w := wrap_id (by omega) (by omega)
  by_cases c : r < 0
  · rw [if_pos c]
    exact cOut_start Tryz.func105 rfl (p105n hE 0 0 0 0 0 0 (w) 0 0 0 (t) (q) (q * w) (q - 1) 0 0 0 0 0 0 0 [] [] (by omega) e0 (iIe e1) (decide_eq_true (by omega)) (iIe (wrap_id (by omega) (by omega))) (fun j => outK_ret (ends_ret (by kernel_rfl))) fun _ => undef)
  · rw [if_neg c]
    exact cOut_start Tryz.func105 rfl (p105p hE 0 0 0 0 0 0 (w) 0 0 0 (t) (q) (q * w) 0 0 0 0 0 0 0 0 [] [] (by omega) e0 (iIe e1) (decide_eq_false (by omega)) (fun j => outK_ret (ends_ret (by kernel_rfl))) fun _ => undef)
theorem tmC_b {s o l v t : Int} (h : chkT s o l v t = 0) : -1000000000 ≤ tmC s o l v t ∧ tmC s o l v t ≤ 1000000000 := by
  obtain ⟨hc, ht, hst⟩ := chkT0 h
  obtain ⟨hs, ho, hl, hv⟩ := chkC0 hc
  have hq := stepsB (v := v) hst hs.1 ht.2 (by omega)
  unfold tmC
  repeat' split
  all_goals omega
theorem K104 (hE : EnvOk E) {s o l v t w : Int} (h : chkT s o l v t = 0) (hw : 2 ≤ w) (hw2 : w ≤ 100000) : COut E 0 [] 104 [clA s o l v, iI t, iI w] (iI (flr (tmC s o l v t) w)) [] := by
  have k := K98 hE h
  obtain ⟨h1, h2⟩ := tmC_b h
  generalize tmC s o l v t = x at k h1 h2 ⊢
  obtain ⟨b1, b2, b3, b4, b5⟩ := div_b h1 h2 hw
  unfold flr
  have e0 : wrapF .i64 (x.tdiv w) = x.tdiv w := wrap_id (by omega) (by omega)
  by_cases c : x.tmod w < 0
  · rw [if_pos c]
    exact cOut_start Tryz.func104 rfl (p104n hE (s) (o) (l) (v) 0 0 (w) (x) 0 0 (t) _ _ (x.tdiv w - 1) 0 0 0 0 0 0 0 [] [] k (by omega) rfl (decide_eq_true c) (by omega) e0 (iIe (wrap_id (by omega) (by omega))) (fun j => outK_ret (ends_ret (by kernel_rfl))) fun _ => undef)
  · rw [if_neg c]
    exact cOut_start Tryz.func104 rfl (p104p hE (s) (o) (l) (v) 0 0 (w) (x) 0 0 (t) _ (x.tdiv w) 0 0 0 0 0 0 0 0 [] [] k (by omega) rfl (decide_eq_false c) (by omega) e0 (fun j => outK_ret (ends_ret (by kernel_rfl))) fun _ => undef)
theorem chkT_of {s o l v t : Int} (hc : chkC s o l v = 0) (h0 : 0 ≤ t) (h1 : t ≤ 100000000) (hs : s ≤ t) : chkT s o l v t = 0 := by
  unfold chkT
  rw [hc, show rngI 0 100000000 t = 0 by unfold rngI; rw [if_neg (by omega)], show (if decide (t < s) = true then (11 : Int) else 0) = 0 by rw [if_neg (by simp; omega)]]
  rfl
/-! The ticks at which an interval begins. -/
def bnd (s o l v w t : Int) : Bool := decide (t > s) && decide (flr (tmC s o l v t) w > flr (tmC s o l v (t - 1)) w)
def bL (s o l v w f : Int) : Nat → List Int
  | 0 => []
  | k + 1 => bL s o l v w f k ++ if bnd s o l v w (f + k) then [f + k] else []
theorem bL_len (s o l v w f : Int) : ∀ k, (bL s o l v w f k).length ≤ k
  | 0 => Nat.le_refl _
  | k + 1 => by
    have := bL_len s o l v w f k
    simp only [bL, List.length_append]
    split <;> simp <;> omega
theorem bL_add (s o l v w f : Int) (a : Nat) : ∀ b, bL s o l v w f (a + b) = bL s o l v w f a ++ bL s o l v w (f + a) b
  | 0 => by simp [bL]
  | b + 1 => by
    have e : f + ((a + b : Nat) : Int) = f + a + b := by omega
    show bL s o l v w f (a + b) ++ (if bnd s o l v w (f + ((a + b : Nat) : Int)) then [f + ((a + b : Nat) : Int)] else []) = _
    rw [bL_add s o l v w f a b, e]
    simp only [bL, List.append_assoc]
theorem bL_nil (s o l v w f : Int) : ∀ k : Nat, f + k ≤ s + 1 → bL s o l v w f k = []
  | 0, _ => rfl
  | k + 1, h => by
    have hb : bnd s o l v w (f + k) = false := by
      unfold bnd
      rw [decide_eq_false (by omega)]; rfl
    simp only [bL, bL_nil s o l v w f k (by omega), hb]
    rfl
/-- what a list so far leaves -/
def resA : List Int → AE
  | [] => .one (.v (.slice none 0 0))
  | _x :: r => .one (.slc 0 0 (r.length + 1) 1 (r.length + 1) false)
def resH : List Int → Heap
  | [] => []
  | x :: r => [some ⟨iC (x :: r), r.length + 1, 3, false, .cells⟩]

def qs59 (s o l v f e w : Int) (n i : Nat) (j : Nat → Value) : List Int → St
  | [] => q59z (s) (o) (l) (v) (f) (e) (w) 0 0 0 0 0 0 0 0 0 (n) (i) 0 0 0 [] [] j
  | y :: r => q59i (s) (o) (l) (v) (f) (e) (w) 0 0 0 0 0 0 0 0 0 (n) (i) (r.length + 1) (r.length + 1) 0 (iC (y :: r)) [] j
theorem l59 (hE : EnvOk E) {s o l v f e w : Int} (hc : chkC s o l v = 0) (hf : 0 ≤ f) (n : Nat) (hn : f + n ≤ 100000000) (hn2 : n ≤ 4096) (hw : 2 ≤ w) (hw2 : w ≤ 100000) : ∀ m i, m + i = n → ∀ j,
    OutK E 0 0 (qs59 s o l v f e w n i j (bL s o l v w f i)) (Go.Ev.Ends E Tryz.f59 (.tup [resA (bL s o l v w f n), .one (.v (.int .i64 0))]) (resH (bL s o l v w f n)))
  | 0, i, hk, j => by
    have e0 : i = n := by omega
    subst e0
    cases hL : bL s o l v w f i with
    | nil => exact p59zx hE (s) (o) (l) (v) (f) (e) (w) 0 0 0 0 0 0 0 0 0 (i) (i) 0 0 0 [] [] (decide_eq_false (by simp only [Int.ofNat_eq_natCast]; omega)) (fun j => outK_ret (ends_ret (by kernel_rfl))) j
    | cons y r => exact p59ix hE (s) (o) (l) (v) (f) (e) (w) 0 0 0 0 0 0 0 0 0 (i) (i) (r.length + 1) (r.length + 1) 0 (iC (y :: r)) [] (decide_eq_false (by simp only [Int.ofNat_eq_natCast]; omega)) (flat_iC (y :: r)) (fun j => outK_ret (ends_ret (by kernel_rfl))) j
  | m + 1, i, hk, j => by
    have ih := l59 (e := e) hE hc hf n hn hn2 hw hw2 m (i + 1) (by omega)
    have hlen := bL_len s o l v w f i
    obtain ⟨hs, ho, hl, hv⟩ := chkC0 hc
    have e1 : wrapF .i64 (f + Int.ofNat i) = f + i := by
      simp only [Int.ofNat_eq_natCast]
      exact wrap_id (by omega) (by omega)
    have e2 : wrapF .i64 (f + (i : Int) - 1) = f + i - 1 := wrap_id (by omega) (by omega)
    have eb : bL s o l v w f (i + 1) = bL s o l v w f i ++ if bnd s o l v w (f + i) then [f + i] else [] := rfl
    rw [eb] at ih
    generalize bL s o l v w f i = L at ih hlen ⊢
    by_cases hts' : f + (i : Int) > s
    · have hts : decide (f + (i : Int) > s) = true := decide_eq_true hts'
      have t1 : chkT s o l v (f + i) = 0 := chkT_of hc (by omega) (by omega) (by omega)
      have t2 : chkT s o l v (f + i - 1) = 0 := chkT_of hc (by omega) (by omega) (by omega)
      have k1 := K104 hE t1 hw hw2
      have k2 := K104 hE t2 hw hw2
      by_cases hxy' : flr (tmC s o l v (f + i)) w > flr (tmC s o l v (f + i - 1)) w
      · have hxy := decide_eq_true hxy'
        have hb : bnd s o l v w (f + i) = true := by unfold bnd; rw [hts, hxy]; rfl
        rw [hb, if_pos rfl] at ih
        cases L with
        | nil => exact p59zc hE (s) (o) (l) (v) (f) (e) (w) _ _ (f + i - 1) (f + i) 0 0 0 0 0 (n) (i) 0 0 0 [] [] (decide_eq_true (by simp only [Int.ofNat_eq_natCast]; omega)) (iIe e1) (by rw [hts]; rfl) (by rw [hts]; rfl) (by rw [hts]; rfl) (by rw [hts]; rfl) k1 (by rw [hts]; rfl) (by rw [hts]; rfl) (by rw [hts]; rfl) (iIe e2) (by rw [hts]; rfl) (by rw [hts]; rfl) k2 (by rw [hts]; rfl) hts hxy (iIn i (by omega)) ih j
        | cons y r =>
          simp only [List.cons_append] at ih
          simp only [List.length_cons] at hlen
          have ih' : ∀ j, OutK E 0 0 (q59i (s) (o) (l) (v) (f) (e) (w) 0 0 0 0 0 0 0 0 0 (n) (i + 1) (r.length + 1 + 1) (r.length + 1 + 1) 0 (iC (y :: r ++ [f + (i : Int)])) [] j) _ := fun j => by
            have h := ih j
            unfold qs59 at h
            simp only [List.length_append, List.length_singleton] at h
            exact h
          exact p59ic hE (s) (o) (l) (v) (f) (e) (w) _ _ (f + i - 1) (f + i) 0 0 0 0 0 (n) (i) (r.length + 1) (r.length + 1) (r.length + 1 + 1) (iC (y :: r)) (iC (y :: r ++ [f + (i : Int)])) (decide_eq_true (by simp only [Int.ofNat_eq_natCast]; omega)) (iIe e1) (by rw [hts]; rfl) (by rw [hts]; rfl) (by rw [hts]; rfl) (by rw [hts]; rfl) k1 (by rw [hts]; rfl) (by rw [hts]; rfl) (by rw [hts]; rfl) (iIe e2) (by rw [hts]; rfl) (by rw [hts]; rfl) k2 (by rw [hts]; rfl) hts hxy (by omega) (by simp [small]; omega) (Nat.mul_one _).symm (by rw [show ((fun x => AC.v (Value.int IntKind.i64 (f + (i : Int))) :: x) []) = iC [(f + (i : Int))] from rfl, iC_app]) (Nat.mul_one _) (iIn i (by omega)) (flat_iC _) ih' j
      · have hxy := decide_eq_false hxy'
        have hb : bnd s o l v w (f + i) = false := by unfold bnd; rw [hts, hxy]; rfl
        rw [hb, if_neg (by decide), List.append_nil] at ih
        cases L with
        | nil => exact p59zb hE (s) (o) (l) (v) (f) (e) (w) _ _ (f + i - 1) (f + i) 0 0 0 0 0 (n) (i) 0 0 0 [] [] (decide_eq_true (by simp only [Int.ofNat_eq_natCast]; omega)) (iIe e1) (by rw [hts]; rfl) (by rw [hts]; rfl) (by rw [hts]; rfl) (by rw [hts]; rfl) k1 (by rw [hts]; rfl) (by rw [hts]; rfl) (by rw [hts]; rfl) (iIe e2) (by rw [hts]; rfl) (by rw [hts]; rfl) k2 (by rw [hts]; rfl) hts hxy (iIn i (by omega)) ih j
        | cons y r =>
          simp only [List.length_cons] at hlen
          exact p59ib hE (s) (o) (l) (v) (f) (e) (w) _ _ (f + i - 1) (f + i) 0 0 0 0 0 (n) (i) (r.length + 1) (r.length + 1) 0 (iC (y :: r)) [] (decide_eq_true (by simp only [Int.ofNat_eq_natCast]; omega)) (iIe e1) (by rw [hts]; rfl) (by rw [hts]; rfl) (by rw [hts]; rfl) (by rw [hts]; rfl) k1 (by rw [hts]; rfl) (by rw [hts]; rfl) (by rw [hts]; rfl) (iIe e2) (by rw [hts]; rfl) (by rw [hts]; rfl) k2 (by rw [hts]; rfl) hts hxy (iIn i (by omega)) ih j
    · have hts : decide (f + (i : Int) > s) = false := decide_eq_false hts'
      have hb : bnd s o l v w (f + i) = false := by unfold bnd; rw [hts]; rfl
      rw [hb, if_neg (by decide), List.append_nil] at ih
      cases L with
      | nil => exact p59za hE (s) (o) (l) (v) (f) (e) (w) 0 0 0 (f + i) 0 0 0 0 0 (n) (i) 0 0 0 [] [] (decide_eq_true (by simp only [Int.ofNat_eq_natCast]; omega)) (iIe e1) (by rw [hts]; rfl) (by rw [hts]; rfl) (by rw [hts]; rfl) (by rw [hts]; rfl) (by rw [hts]; rfl) (by rw [hts]; rfl) (by rw [hts]; rfl) (by rw [hts]; rfl) (by rw [hts]; rfl) (by rw [hts]; rfl) hts (iIn i (by omega)) ih j
      | cons y r =>
        simp only [List.length_cons] at hlen
        exact p59ia hE (s) (o) (l) (v) (f) (e) (w) 0 0 0 (f + i) 0 0 0 0 0 (n) (i) (r.length + 1) (r.length + 1) 0 (iC (y :: r)) [] (decide_eq_true (by simp only [Int.ofNat_eq_natCast]; omega)) (iIe e1) (by rw [hts]; rfl) (by rw [hts]; rfl) (by rw [hts]; rfl) (by rw [hts]; rfl) (by rw [hts]; rfl) (by rw [hts]; rfl) (by rw [hts]; rfl) (by rw [hts]; rfl) (by rw [hts]; rfl) (by rw [hts]; rfl) hts (iIn i (by omega)) ih j
def qs61 (s o l v f e w t : Int) (j : Nat → Value) : List Int → St
  | [] => q61z (s) (o) (l) (v) (f) (e) (w) 0 0 0 (t) 0 0 0 0 0 0 0 0 0 0 [] [] j
  | y :: r => q61i (s) (o) (l) (v) (f) (e) (w) 0 0 0 (t) 0 0 0 0 0 0 0 (r.length + 1) (r.length + 1) 0 (iC (y :: r)) [] j
theorem l61 (hE : EnvOk E) {s o l v f e w t0 : Int} (hc : chkC s o l v = 0) (ht0 : s < t0) (n : Nat) (hn : e ≤ 100000000) (hne : t0 + n = e) (hn2 : n ≤ 4096) (hw : 2 ≤ w) (hw2 : w ≤ 100000) : ∀ m i, m + i = n → ∀ j,
    OutK E 0 0 (qs61 s o l v f e w (t0 + i) j (bL s o l v w t0 i)) (Go.Ev.Ends E Tryz.f61 (.e (resA (bL s o l v w t0 n))) (resH (bL s o l v w t0 n)))
  | 0, i, hk, j => by
    have e0 : i = n := by omega
    subst e0
    cases hL : bL s o l v w t0 i with
    | nil => exact p61zx hE (s) (o) (l) (v) (f) (e) (w) 0 0 0 (t0 + i) 0 0 0 0 0 0 0 0 0 0 [] [] (decide_eq_false (by omega)) (fun j => outK_ret (ends_ret (by kernel_rfl))) j
    | cons y r => exact p61ix hE (s) (o) (l) (v) (f) (e) (w) 0 0 0 (t0 + i) 0 0 0 0 0 0 0 (r.length + 1) (r.length + 1) 0 (iC (y :: r)) [] (decide_eq_false (by omega)) (flat_iC (y :: r)) (fun j => outK_ret (ends_ret (by kernel_rfl))) j
  | m + 1, i, hk, j => by
    have ih := l61 (f := f) (e := e) hE hc ht0 n hn hne hn2 hw hw2 m (i + 1) (by omega)
    have hlen := bL_len s o l v w t0 i
    obtain ⟨hs, ho, hl, hv⟩ := chkC0 hc
    have hte : t0 + (i : Int) < e := by omega
    have e2 : wrapF .i64 (t0 + (i : Int) - 1) = t0 + i - 1 := wrap_id (by omega) (by omega)
    have e3 : wrapF .i64 (t0 + (i : Int) + 1) = t0 + (i + 1 : Nat) := by rw [wrap_id (by omega) (by omega)]; omega
    have eb : bL s o l v w t0 (i + 1) = bL s o l v w t0 i ++ if bnd s o l v w (t0 + i) then [t0 + i] else [] := rfl
    rw [eb] at ih
    generalize bL s o l v w t0 i = L at ih hlen ⊢
    have hts : decide (t0 + (i : Int) > s) = true := decide_eq_true (by omega)
    have t1 : chkT s o l v (t0 + i) = 0 := chkT_of hc (by omega) (by omega) (by omega)
    have t2 : chkT s o l v (t0 + i - 1) = 0 := chkT_of hc (by omega) (by omega) (by omega)
    have k1 := K55 hE t1
    have k2 := K55 hE t2
    have k3 := K105 hE (tmC_b t1).1 (tmC_b t1).2 hw hw2
    have k4 := K105 hE (tmC_b t2).1 (tmC_b t2).2 hw hw2
    by_cases hxy' : flr (tmC s o l v (t0 + i)) w > flr (tmC s o l v (t0 + i - 1)) w
    · have hxy := decide_eq_true hxy'
      have hb : bnd s o l v w (t0 + i) = true := by unfold bnd; rw [hts, hxy]; rfl
      rw [hb, if_pos rfl] at ih
      cases L with
      | nil => exact p61zc hE (s) (o) (l) (v) (f) (e) (w) _ _ (t0 + i - 1) (t0 + i) _ _ _ 0 0 0 0 0 0 0 [] [] (decide_eq_true hte) k1 k3 (iIe e2) k2 k4 hxy (iIe e3) ih j
      | cons y r =>
        simp only [List.cons_append] at ih
        simp only [List.length_cons] at hlen
        have ih' : ∀ j, OutK E 0 0 (q61i (s) (o) (l) (v) (f) (e) (w) 0 0 0 (t0 + (i + 1 : Nat)) 0 0 0 0 0 0 0 (r.length + 1 + 1) (r.length + 1 + 1) 0 (iC (y :: r ++ [t0 + (i : Int)])) [] j) _ := fun j => by
          have h := ih j
          unfold qs61 at h
          simp only [List.length_append, List.length_singleton] at h
          exact h
        exact p61ic hE (s) (o) (l) (v) (f) (e) (w) _ _ (t0 + i - 1) (t0 + i) _ _ _ 0 0 0 0 (r.length + 1) (r.length + 1) (r.length + 1 + 1) (iC (y :: r)) (iC (y :: r ++ [t0 + (i : Int)])) (decide_eq_true hte) k1 k3 (iIe e2) k2 k4 hxy (by omega) (by simp [small]; omega) (Nat.mul_one _).symm (by rw [show ((fun x => AC.v (Value.int IntKind.i64 (t0 + (i : Int))) :: x) []) = iC [(t0 + (i : Int))] from rfl, iC_app]) (Nat.mul_one _) (iIe e3) (flat_iC _) ih' j
    · have hxy := decide_eq_false hxy'
      have hb : bnd s o l v w (t0 + i) = false := by unfold bnd; rw [hts, hxy]; rfl
      rw [hb, if_neg (by decide), List.append_nil] at ih
      cases L with
      | nil => exact p61zb hE (s) (o) (l) (v) (f) (e) (w) _ _ (t0 + i - 1) (t0 + i) _ _ _ 0 0 0 0 0 0 0 [] [] (decide_eq_true hte) k1 k3 (iIe e2) k2 k4 hxy (iIe e3) ih j
      | cons y r =>
        simp only [List.length_cons] at hlen
        exact p61ib hE (s) (o) (l) (v) (f) (e) (w) _ _ (t0 + i - 1) (t0 + i) _ _ _ 0 0 0 0 (r.length + 1) (r.length + 1) 0 (iC (y :: r)) [] (decide_eq_true hte) k1 k3 (iIe e2) k2 k4 hxy (iIe e3) ih j
end
end Go.Proofs.YtbijijanflgknaaGreatDoor

end

/-! SeIw -/
section
open Go Go.Ev
namespace Go.Proofs.YtbijijanflgknaaGreatDoor
noncomputable section
set_option maxRecDepth 100000
set_option maxHeartbeats 20000000
def s9 (s o l v f e w _x _y _u _t _q _r _g _h _k _nn : Int) (_C : List DT) (_m : Nat) (_j : Nat → Value) : St := startK Tryz.f9 [] [.e (.agg [.v (.int .i64 s), .v (.int .i64 o), .v (.int .i64 l), .v (.int .i64 v)]), .e (.agg [.v (.int .i64 f), .v (.int .i64 e)]), iI w]
def q9 (s o l v f e w _x _y _u _t _q _r _g _h _k _nn : Int) (_C : List DT) (_m : Nat) (j : Nat → Value) : St := ⟨[(.some ⟨[(.v (.int .i64 (s))), (.v (.int .i64 (o))), (.v (.int .i64 (l))), (.v (.int .i64 (v)))], 4, 102, true, .cells⟩), (.some ⟨[(.v (.int .i64 (f))), (.v (.int .i64 (e)))], 2, 79, true, .cells⟩)], [(.code (atC [1, 1, 0] (bodyOf Tryz.f9))), (.code (atC [1, 1, 1] (bodyOf Tryz.f9)))], mkT j [(2, (iI (w))), (3, (.e (.one (.ptr 0 0)))), (4, (.e (.one (.ptr 1 0))))] 66 0⟩
def p9T_end (_s _o _l _v _f _e _w _x _y _u _t _q _r _g _h _k _nn : Int) (_C : List DT) (_m : Nat) (j : Nat → Value) : St := ⟨[], [(.code .ret), (.code (atC [1, 1] (bodyOf Tryz.f9)))], mkT j [(6, (iB true))] 66 0⟩
theorem p9T (hE : EnvOk E) (s o l v f e w x y u t q r g h k nn : Int) (C : List DT) (m : Nat) (h0 : ((iI (wrapF IntKind.i64 (e - f))) : AV) = (iI (nn))) (h1 : (decide (f ≥ (0 : Int)) == true : Bool) = (nat_lit 4, true).snd) (h2 : (decide (f ≥ (0 : Int)) == true : Bool) = (nat_lit 5, true).snd) (h3 : (decide (f ≥ (0 : Int)) == true : Bool) = (nat_lit 6, true).snd) (h4 : (decide (f ≥ (0 : Int)) : Bool) = true) (h5 : (decide (e ≤ (100000000 : Int)) == true : Bool) = (nat_lit 9, true).snd) (h6 : (decide (e ≤ (100000000 : Int)) == true : Bool) = (nat_lit 10, true).snd) (h7 : (decide (e ≤ (100000000 : Int)) : Bool) = true) (h8 : (decide (nn > (400 : Int)) == true : Bool) = (nat_lit 13, true).snd) (h9 : (decide (nn > (400 : Int)) == true : Bool) = (nat_lit 14, true).snd) (h10 : (decide (nn > (400 : Int)) : Bool) = true) (h11 : (nn != (4097 : Int) : Bool) = true) (h12 : COut E 0 [] 14 [] (iB true) []) {Φ : Res → Prop} (ho : ∀ j, OutK E 0 0 (p9T_end s o l v f e w x y u t q r g h k nn C m j) Φ) (j : Nat → Value) : OutK E 0 0 (s9 s o l v f e w x y u t q r g h k nn C m j) Φ :=
  outK_seg hE (R0_ok hE) [.run 4, (.ops [(4, (.rn (iI (nn))))] []), .run 1, (.ops [(7, (.pk true)), (11, (.pk true)), (15, (.pk true))] [(4, true), (5, true), (6, true), (9, true), (10, true), (13, true), (14, true)]), (.cond true), .run 1, (.ops [(0, (.c0 (iB true)))] [])] [6] (s' := fun j => ⟨[(.some ⟨[(.v (.int .i64 (s))), (.v (.int .i64 (o))), (.v (.int .i64 (l))), (.v (.int .i64 (v)))], 4, 102, true, .cells⟩), (.some ⟨[(.v (.int .i64 (f))), (.v (.int .i64 (e)))], 2, 79, true, .cells⟩)], [(.code .ret), (.code (atC [1, 1] (bodyOf Tryz.f9)))], mkT j [(6, (iB true))] 66 0⟩) (fun j => by kernel_rfl) (aP h0 <| aP h1 <| aP h2 <| aP h3 <| aP h4 <| aP h5 <| aP h6 <| aP h7 <| aP h8 <| aP h9 <| aP h10 <| aP h11 <| aP h12 <| aN <| aZ)
    fun j => outK_gc [] (by decide) (by kernel_rfl) (by kernel_rfl) (by kernel_rfl) (ho j)
def p9F1_end (s o l v f e w _x _y _u _t _q _r _g _h _k _nn : Int) (_C : List DT) (_m : Nat) (j : Nat → Value) : St := ⟨[(.some ⟨[(.v (.int .i64 (s))), (.v (.int .i64 (o))), (.v (.int .i64 (l))), (.v (.int .i64 (v)))], 4, 102, true, .cells⟩), (.some ⟨[(.v (.int .i64 (f))), (.v (.int .i64 (e)))], 2, 79, true, .cells⟩)], [(.code (atC [1, 1, 0] (bodyOf Tryz.f9))), (.code (atC [1, 1, 1] (bodyOf Tryz.f9)))], mkT j [(2, (iI (w))), (3, (.e (.one (.ptr 0 0)))), (4, (.e (.one (.ptr 1 0))))] 66 0⟩
theorem p9F1 (hE : EnvOk E) (s o l v f e w x y u t q r g h k nn : Int) (C : List DT) (m : Nat) (h0 : ((iI (wrapF IntKind.i64 (e - f))) : AV) = (iI (nn))) (h1 : (decide (f ≥ (0 : Int)) == true : Bool) = (nat_lit 4, false).snd) (h2 : (decide (f ≥ (0 : Int)) == true : Bool) = (nat_lit 5, false).snd) (h3 : (decide (f ≥ (0 : Int)) == true : Bool) = (nat_lit 6, false).snd) (h4 : (decide (f ≥ (0 : Int)) : Bool) = false) {Φ : Res → Prop} (ho : ∀ j, OutK E 0 0 (p9F1_end s o l v f e w x y u t q r g h k nn C m j) Φ) (j : Nat → Value) : OutK E 0 0 (s9 s o l v f e w x y u t q r g h k nn C m j) Φ :=
  outK_seg hE (R0_ok hE) [.run 4, (.ops [(4, (.rn (iI (nn))))] []), .run 1, (.ops [(7, (.pk false))] [(4, false), (5, false), (6, false)]), .run 3] [2, 3, 4] (fun j => by kernel_rfl) (aP h0 <| aP h1 <| aP h2 <| aP h3 <| aP h4 <| aZ)
    ho
def p9F2_end (s o l v f e w _x _y _u _t _q _r _g _h _k _nn : Int) (_C : List DT) (_m : Nat) (j : Nat → Value) : St := ⟨[(.some ⟨[(.v (.int .i64 (s))), (.v (.int .i64 (o))), (.v (.int .i64 (l))), (.v (.int .i64 (v)))], 4, 102, true, .cells⟩), (.some ⟨[(.v (.int .i64 (f))), (.v (.int .i64 (e)))], 2, 79, true, .cells⟩)], [(.code (atC [1, 1, 0] (bodyOf Tryz.f9))), (.code (atC [1, 1, 1] (bodyOf Tryz.f9)))], mkT j [(2, (iI (w))), (3, (.e (.one (.ptr 0 0)))), (4, (.e (.one (.ptr 1 0))))] 66 0⟩
theorem p9F2 (hE : EnvOk E) (s o l v f e w x y u t q r g h k nn : Int) (C : List DT) (m : Nat) (h0 : ((iI (wrapF IntKind.i64 (e - f))) : AV) = (iI (nn))) (h1 : (decide (f ≥ (0 : Int)) == true : Bool) = (nat_lit 4, true).snd) (h2 : (decide (f ≥ (0 : Int)) == true : Bool) = (nat_lit 5, true).snd) (h3 : (decide (f ≥ (0 : Int)) == true : Bool) = (nat_lit 6, true).snd) (h4 : (decide (f ≥ (0 : Int)) : Bool) = true) (h5 : (decide (e ≤ (100000000 : Int)) == true : Bool) = (nat_lit 9, false).snd) (h6 : (decide (e ≤ (100000000 : Int)) == true : Bool) = (nat_lit 10, false).snd) (h7 : (decide (e ≤ (100000000 : Int)) : Bool) = false) {Φ : Res → Prop} (ho : ∀ j, OutK E 0 0 (p9F2_end s o l v f e w x y u t q r g h k nn C m j) Φ) (j : Nat → Value) : OutK E 0 0 (s9 s o l v f e w x y u t q r g h k nn C m j) Φ :=
  outK_seg hE (R0_ok hE) [.run 4, (.ops [(4, (.rn (iI (nn))))] []), .run 1, (.ops [(7, (.pk true)), (11, (.pk false))] [(4, true), (5, true), (6, true), (9, false), (10, false)]), .run 3] [2, 3, 4] (fun j => by kernel_rfl) (aP h0 <| aP h1 <| aP h2 <| aP h3 <| aP h4 <| aP h5 <| aP h6 <| aP h7 <| aZ)
    ho
def p9F3_end (s o l v f e w _x _y _u _t _q _r _g _h _k _nn : Int) (_C : List DT) (_m : Nat) (j : Nat → Value) : St := ⟨[(.some ⟨[(.v (.int .i64 (s))), (.v (.int .i64 (o))), (.v (.int .i64 (l))), (.v (.int .i64 (v)))], 4, 102, true, .cells⟩), (.some ⟨[(.v (.int .i64 (f))), (.v (.int .i64 (e)))], 2, 79, true, .cells⟩)], [(.code (atC [1, 1, 0] (bodyOf Tryz.f9))), (.code (atC [1, 1, 1] (bodyOf Tryz.f9)))], mkT j [(2, (iI (w))), (3, (.e (.one (.ptr 0 0)))), (4, (.e (.one (.ptr 1 0))))] 66 0⟩
theorem p9F3 (hE : EnvOk E) (s o l v f e w x y u t q r g h k nn : Int) (C : List DT) (m : Nat) (h0 : ((iI (wrapF IntKind.i64 (e - f))) : AV) = (iI (nn))) (h1 : (decide (f ≥ (0 : Int)) == true : Bool) = (nat_lit 4, true).snd) (h2 : (decide (f ≥ (0 : Int)) == true : Bool) = (nat_lit 5, true).snd) (h3 : (decide (f ≥ (0 : Int)) == true : Bool) = (nat_lit 6, true).snd) (h4 : (decide (f ≥ (0 : Int)) : Bool) = true) (h5 : (decide (e ≤ (100000000 : Int)) == true : Bool) = (nat_lit 9, true).snd) (h6 : (decide (e ≤ (100000000 : Int)) == true : Bool) = (nat_lit 10, true).snd) (h7 : (decide (e ≤ (100000000 : Int)) : Bool) = true) (h8 : (decide (nn > (400 : Int)) == true : Bool) = (nat_lit 13, false).snd) (h9 : (decide (nn > (400 : Int)) == true : Bool) = (nat_lit 14, false).snd) (h10 : (decide (nn > (400 : Int)) : Bool) = false) {Φ : Res → Prop} (ho : ∀ j, OutK E 0 0 (p9F3_end s o l v f e w x y u t q r g h k nn C m j) Φ) (j : Nat → Value) : OutK E 0 0 (s9 s o l v f e w x y u t q r g h k nn C m j) Φ :=
  outK_seg hE (R0_ok hE) [.run 4, (.ops [(4, (.rn (iI (nn))))] []), .run 1, (.ops [(7, (.pk true)), (11, (.pk true)), (15, (.pk false))] [(4, true), (5, true), (6, true), (9, true), (10, true), (13, false), (14, false)]), .run 3] [2, 3, 4] (fun j => by kernel_rfl) (aP h0 <| aP h1 <| aP h2 <| aP h3 <| aP h4 <| aP h5 <| aP h6 <| aP h7 <| aP h8 <| aP h9 <| aP h10 <| aZ)
    ho
def p9F4_end (s o l v f e w _x _y _u _t _q _r _g _h _k _nn : Int) (_C : List DT) (_m : Nat) (j : Nat → Value) : St := ⟨[(.some ⟨[(.v (.int .i64 (s))), (.v (.int .i64 (o))), (.v (.int .i64 (l))), (.v (.int .i64 (v)))], 4, 102, true, .cells⟩), (.some ⟨[(.v (.int .i64 (f))), (.v (.int .i64 (e)))], 2, 79, true, .cells⟩)], [(.code (atC [1, 1, 0] (bodyOf Tryz.f9))), (.code (atC [1, 1, 1] (bodyOf Tryz.f9)))], mkT j [(2, (iI (w))), (3, (.e (.one (.ptr 0 0)))), (4, (.e (.one (.ptr 1 0))))] 66 0⟩
theorem p9F4 (hE : EnvOk E) (s o l v f e w x y u t q r g h k nn : Int) (C : List DT) (m : Nat) (h0 : ((iI (wrapF IntKind.i64 (e - f))) : AV) = (iI (nn))) (h1 : (decide (f ≥ (0 : Int)) == true : Bool) = (nat_lit 4, true).snd) (h2 : (decide (f ≥ (0 : Int)) == true : Bool) = (nat_lit 5, true).snd) (h3 : (decide (f ≥ (0 : Int)) == true : Bool) = (nat_lit 6, true).snd) (h4 : (decide (f ≥ (0 : Int)) : Bool) = true) (h5 : (decide (e ≤ (100000000 : Int)) == true : Bool) = (nat_lit 9, true).snd) (h6 : (decide (e ≤ (100000000 : Int)) == true : Bool) = (nat_lit 10, true).snd) (h7 : (decide (e ≤ (100000000 : Int)) : Bool) = true) (h8 : (decide (nn > (400 : Int)) == true : Bool) = (nat_lit 13, true).snd) (h9 : (decide (nn > (400 : Int)) == true : Bool) = (nat_lit 14, true).snd) (h10 : (decide (nn > (400 : Int)) : Bool) = true) (h11 : (nn != (4097 : Int) : Bool) = false) {Φ : Res → Prop} (ho : ∀ j, OutK E 0 0 (p9F4_end s o l v f e w x y u t q r g h k nn C m j) Φ) (j : Nat → Value) : OutK E 0 0 (s9 s o l v f e w x y u t q r g h k nn C m j) Φ :=
  outK_seg hE (R0_ok hE) [.run 4, (.ops [(4, (.rn (iI (nn))))] []), .run 1, (.ops [(7, (.pk true)), (11, (.pk true)), (15, (.pk true))] [(4, true), (5, true), (6, true), (9, true), (10, true), (13, true), (14, true)]), (.cond false), .run 2] [2, 3, 4] (fun j => by kernel_rfl) (aP h0 <| aP h1 <| aP h2 <| aP h3 <| aP h4 <| aP h5 <| aP h6 <| aP h7 <| aP h8 <| aP h9 <| aP h10 <| aP h11 <| aZ)
    ho
def p9e_end (_s _o _l _v _f _e _w _x _y _u _t _q _r _g _h _k _nn : Int) (_C : List DT) (_m : Nat) (j : Nat → Value) : St := ⟨[], [(.code .ret)], mkT j [(6, (iB true))] 66 0⟩
theorem p9e (hE : EnvOk E) (s o l v f e w x y u t q r g h k nn : Int) (C : List DT) (m : Nat) (h0 : COut E 0 [] 59 [(.e (.agg [(.v (.int .i64 (s))), (.v (.int .i64 (o))), (.v (.int .i64 (l))), (.v (.int .i64 (v)))])), (.e (.agg [(.v (.int .i64 (f))), (.v (.int .i64 (e)))])), (iI (w))] (.tup [(.one (.dp (.s (C) (m) 1))), (.one (.v (.int .i64 (q))))]) []) (h2 : COut E 0 [] 58 [(.e (.agg [(.v (.int .i64 (s))), (.v (.int .i64 (o))), (.v (.int .i64 (l))), (.v (.int .i64 (v)))]))] (iI (g)) []) (h4 : COut E 0 [] 60 [(.e (.agg [(.v (.int .i64 (f))), (.v (.int .i64 (e)))]))] (iI (h)) []) (h7 : COut E 0 [] 27 [(iI (w)), (iI 2), (iI 100000)] (iI (k)) []) (h9 : COut E 3 [(.some ⟨[(.v (.int .i64 (s))), (.v (.int .i64 (o))), (.v (.int .i64 (l))), (.v (.int .i64 (v)))], 4, 102, true, .cells⟩), (.some ⟨[(.v (.int .i64 (f))), (.v (.int .i64 (e)))], 2, 79, true, .cells⟩), (.some ⟨[(.v (.int .i64 (g))), (.v (.int .i64 (h))), (.v (.int .i64 (k)))], 3, 3, true, .cells⟩)] 25 [(.e (.one (.slc 2 0 3 1 3 true)))] (iI (q)) [(.some ⟨[(.v (.int .i64 (s))), (.v (.int .i64 (o))), (.v (.int .i64 (l))), (.v (.int .i64 (v)))], 4, 102, true, .cells⟩), (.some ⟨[(.v (.int .i64 (f))), (.v (.int .i64 (e)))], 2, 79, true, .cells⟩), (.some ⟨[(.v (.int .i64 (g))), (.v (.int .i64 (h))), (.v (.int .i64 (k)))], 3, 3, true, .cells⟩)]) (h11 : (q == (0 : Int) : Bool) = false) (h12 : COut E 0 [] 30 [(.e (.one (.dp (.s (C) (m) 1)))), (.e (.one (.v (.slice none 0 0))))] (iB true) []) (h14 : ((q == q) == true : Bool) = (nat_lit 9, true).snd) (h15 : COut E 0 [] 14 [] (iB true) []) (h17 : (q == q : Bool) = true) {Φ : Res → Prop} (ho : ∀ j, OutK E 0 0 (p9e_end s o l v f e w x y u t q r g h k nn C m j) Φ) (j : Nat → Value) : OutK E 0 0 (q9 s o l v f e w x y u t q r g h k nn C m j) Φ :=
  outK_seg hE (R0_ok hE) [(.ops [(3, (.c0 (.tup [(.one (.dp (.s (C) (m) 1))), (.one (.v (.int .i64 (q))))])))] []), .run 1, (.ops [(1, (.c0 (iI (g)))), (3, (.c0 (iI (h)))), (5, (.c0 (iI (k)))), (7, (.d (.c1 (iI (q)))))] []), .run 5, (.cond false), .run 2, (.ops [(2, (.c0 (iB true))), (9, (.c0 (iB true))), (10, (.pk true))] [(9, true)])] [6] (s' := fun j => ⟨[(.some ⟨[(.v (.int .i64 (s))), (.v (.int .i64 (o))), (.v (.int .i64 (l))), (.v (.int .i64 (v)))], 4, 102, true, .cells⟩), (.some ⟨[(.v (.int .i64 (f))), (.v (.int .i64 (e)))], 2, 79, true, .cells⟩), (.some ⟨[(.v (.int .i64 (g))), (.v (.int .i64 (h))), (.v (.int .i64 (k)))], 3, 3, true, .cells⟩)], [(.code .ret)], mkT j [(6, (iB true))] 66 0⟩) (fun j => by kernel_rfl) (aP h0 <| aN <| aP h2 <| aN <| aP h4 <| aN <| aP (rfl : (true : Bool) = true) <| aP h7 <| aN <| aP h9 <| aN <| aP h11 <| aP h12 <| aN <| aP h14 <| aP h15 <| aN <| aP h17 <| aZ)
    fun j => outK_gc [] (by decide) (by kernel_rfl) (by kernel_rfl) (by kernel_rfl) (ho j)
def p9o_end (_s _o _l _v _f _e _w _x _y _u _t _q _r _g _h _k _nn : Int) (_C : List DT) (_m : Nat) (j : Nat → Value) : St := ⟨[], [(.code .ret)], mkT j [(6, (iB true))] 66 0⟩
theorem p9o (hE : EnvOk E) (s o l v f e w x y u t q r g h k nn : Int) (C : List DT) (m : Nat) (h0 : COut E 0 [] 59 [(.e (.agg [(.v (.int .i64 (s))), (.v (.int .i64 (o))), (.v (.int .i64 (l))), (.v (.int .i64 (v)))])), (.e (.agg [(.v (.int .i64 (f))), (.v (.int .i64 (e)))])), (iI (w))] (.tup [(.one (.dp (.s (C) (m) 1))), (.one (.v (.int .i64 (q))))]) []) (h2 : COut E 0 [] 58 [(.e (.agg [(.v (.int .i64 (s))), (.v (.int .i64 (o))), (.v (.int .i64 (l))), (.v (.int .i64 (v)))]))] (iI (g)) []) (h4 : COut E 0 [] 60 [(.e (.agg [(.v (.int .i64 (f))), (.v (.int .i64 (e)))]))] (iI (h)) []) (h7 : COut E 0 [] 27 [(iI (w)), (iI 2), (iI 100000)] (iI (k)) []) (h9 : COut E 3 [(.some ⟨[(.v (.int .i64 (s))), (.v (.int .i64 (o))), (.v (.int .i64 (l))), (.v (.int .i64 (v)))], 4, 102, true, .cells⟩), (.some ⟨[(.v (.int .i64 (f))), (.v (.int .i64 (e)))], 2, 79, true, .cells⟩), (.some ⟨[(.v (.int .i64 (g))), (.v (.int .i64 (h))), (.v (.int .i64 (k)))], 3, 3, true, .cells⟩)] 25 [(.e (.one (.slc 2 0 3 1 3 true)))] (iI (q)) [(.some ⟨[(.v (.int .i64 (s))), (.v (.int .i64 (o))), (.v (.int .i64 (l))), (.v (.int .i64 (v)))], 4, 102, true, .cells⟩), (.some ⟨[(.v (.int .i64 (f))), (.v (.int .i64 (e)))], 2, 79, true, .cells⟩), (.some ⟨[(.v (.int .i64 (g))), (.v (.int .i64 (h))), (.v (.int .i64 (k)))], 3, 3, true, .cells⟩)]) (h11 : (q == (0 : Int) : Bool) = true) (h12 : COut E 0 [] 61 [(.e (.agg [(.v (.int .i64 (s))), (.v (.int .i64 (o))), (.v (.int .i64 (l))), (.v (.int .i64 (v)))])), (.e (.agg [(.v (.int .i64 (f))), (.v (.int .i64 (e)))])), (iI (w))] (.e (.one (.dp (.s (C) (m) 1)))) []) (h14 : COut E 0 [] 30 [(.e (.one (.dp (.s (C) (m) 1)))), (.e (.one (.dp (.s (C) (m) 1))))] (iB true) []) (h16 : ((q == q) == true : Bool) = (nat_lit 9, true).snd) (h17 : COut E 0 [] 14 [] (iB true) []) (h19 : (q == q : Bool) = true) {Φ : Res → Prop} (ho : ∀ j, OutK E 0 0 (p9o_end s o l v f e w x y u t q r g h k nn C m j) Φ) (j : Nat → Value) : OutK E 0 0 (q9 s o l v f e w x y u t q r g h k nn C m j) Φ :=
  outK_seg hE (R0_ok hE) [(.ops [(3, (.c0 (.tup [(.one (.dp (.s (C) (m) 1))), (.one (.v (.int .i64 (q))))])))] []), .run 1, (.ops [(1, (.c0 (iI (g)))), (3, (.c0 (iI (h)))), (5, (.c0 (iI (k)))), (7, (.d (.c1 (iI (q)))))] []), .run 5, (.cond true), (.ops [(3, (.c0 (.e (.one (.dp (.s (C) (m) 1))))))] []), .run 1, (.ops [(2, (.c0 (iB true))), (9, (.c0 (iB true))), (10, (.pk true))] [(9, true)])] [6] (s' := fun j => ⟨[(.some ⟨[(.v (.int .i64 (s))), (.v (.int .i64 (o))), (.v (.int .i64 (l))), (.v (.int .i64 (v)))], 4, 102, true, .cells⟩), (.some ⟨[(.v (.int .i64 (f))), (.v (.int .i64 (e)))], 2, 79, true, .cells⟩), (.some ⟨[(.v (.int .i64 (g))), (.v (.int .i64 (h))), (.v (.int .i64 (k)))], 3, 3, true, .cells⟩)], [(.code .ret)], mkT j [(6, (iB true))] 66 0⟩) (fun j => by kernel_rfl) (aP h0 <| aN <| aP h2 <| aN <| aP h4 <| aN <| aP (rfl : (true : Bool) = true) <| aP h7 <| aN <| aP h9 <| aN <| aP h11 <| aP h12 <| aN <| aP h14 <| aN <| aP h16 <| aP h17 <| aN <| aP h19 <| aZ)
    fun j => outK_gc [] (by decide) (by kernel_rfl) (by kernel_rfl) (by kernel_rfl) (ho j)

theorem nil_2 {z : AE} {p : Option Addr} {c : Nat} (sz : Nat) (m : M) (y : Value) (h : VR m (.tup [.one (.v (.slice p 0 c)), z]) y) : VR m (.tup [.one (.dp (.s [] 0 sz)), z]) y := by
  obtain ⟨vs, e, hv⟩ := h
  refine ⟨vs, e, ?_⟩
  revert hv
  generalize vs.toList = l
  intro hv
  match l, hv with
  | [a, b], hv => exact ⟨.inl ⟨rfl, p, c, hv.1⟩, hv.2.1, trivial⟩
theorem l30 (hE : EnvOk E) (xs : List Int) (hm : xs.length ≤ 4000000) : ∀ m i, m + i = xs.length → ∀ j, OutK E 0 0 (q30 (iD xs) xs.length i 0 j) (Go.Ev.Ends E Tryz.f30 (iB true) [])
  | 0, i, hk, j => p30x hE _ _ i 0 (decide_eq_false (by simp only [Int.ofNat_eq_natCast]; omega)) (fun j => outK_ret (ends_ret (by kernel_rfl))) j
  | m + 1, i, hk, j => by
    have hlt : i < xs.length := by omega
    have hx : xs[i]? = some xs[i] := List.getElem?_eq_getElem hlt
    generalize xs[i] = x at hx
    exact p30s hE _ _ i x (decide_eq_true (by simp only [Int.ofNat_eq_natCast]; omega)) ⟨(by simp only [Int.ofNat_eq_natCast]; omega), (by simp only [Int.ofNat_eq_natCast]; omega)⟩ (Nat.mul_one _) (getI hx) ⟨(by simp only [Int.ofNat_eq_natCast]; omega), (by simp only [Int.ofNat_eq_natCast]; omega)⟩ (Nat.mul_one _) (getI hx) (by simp) (iIn i (by omega)) (l30 hE xs hm m (i + 1) (by omega)) j
theorem K30 (hE : EnvOk E) (xs : List Int) (hm : xs.length ≤ 4000000) : COut E 0 [] 30 [dI xs, dI xs] (iB true) [] :=
  cOut_start Tryz.func30 rfl (p30a hE _ _ 0 0 (by simp) (l30 hE xs hm xs.length 0 (by omega)) fun _ => undef)
theorem K30n (hE : EnvOk E) : COut E 0 [] 30 [.e (.one (.dp (.s [] 0 1))), .e (.one (.v (.slice none 0 0)))] (iB true) [] :=
  cOut_start Tryz.func30 rfl (p30n hE [] 0 0 0 (fun j => outK_ret (ends_ret (by kernel_rfl))) fun _ => undef)
/-- what Boundaries says of its arguments -/
def eB (s o l v f e w : Int) : Int := firstI [chkC s o l v, chkTk f e, rngI 2 100000 w]
theorem eB0 {s o l v f e w : Int} (h : eB s o l v f e w = 0) : chkC s o l v = 0 ∧ (0 ≤ f ∧ f ≤ e ∧ e ≤ 100000000 ∧ e - f ≤ 4096) ∧ 2 ≤ w ∧ w ≤ 100000 := by
  have := first0 h
  exact ⟨this _ (by simp), chkTk0 (this _ (by simp)), rng0 (this _ (by simp))⟩
theorem k68_3 (hE : EnvOk E) (a b c : Int) (lv : Nat) (h : Heap) (i : Nat) (hh : getL h i = some (some ⟨(iD [a, b, c]).map DT.ac, 3, 32, true, .cells⟩)) : COut E lv h 68 [.e (.one (.slc i 0 3 1 3 true))] (iI (firstI [a, b, c])) h :=
  lend2 lv hE 68 [a, b, c] _ 32 true (K68 hE _ (by simp)) h i hh
theorem K59e (hE : EnvOk E) (s o l v f e w : Int) (h : eB s o l v f e w ≠ 0) : COut E 0 [] 59 [clA s o l v, .e (.agg [.v (.int .i64 f), .v (.int .i64 e)]), iI w] (.tup [.one (.dp (.s [] 0 1)), .one (.v (.int .i64 (eB s o l v f e w)))]) [] :=
  cOut_weak (cOut_start Tryz.func59 rfl (p59e hE (s) (o) (l) (v) (f) (e) (w) 0 0 0 0 _ _ _ _ 0 0 0 0 0 0 [] [] (K57 hE s o l v) (K103 hE f e) (K81 hE _ _ _) (k68_3 hE _ _ _ _ _ _ rfl) (bne_iff_ne.2 h) (fun j => outK_ret (ends_ret (by kernel_rfl))) fun _ => undef)) (nil_2 (p := none) (c := 0) 1)
/-- the list of Boundaries -/
abbrev bB (s o l v f e w : Int) : List Int := bL s o l v w f (e - f).toNat
theorem takeD (xs : List Int) : takeL (dropL (iD xs) 0) (xs.length * 1) = some (iD xs) := by
  rw [takeL_eq, dropL_eq, List.drop_zero, if_pos (by simp), List.take_of_length_le (by simp)]
theorem K59 (hE : EnvOk E) (s o l v f e w : Int) (h : eB s o l v f e w = 0) : COut E 0 [] 59 [clA s o l v, .e (.agg [.v (.int .i64 f), .v (.int .i64 e)]), iI w] (.tup [.one (.dp (.s (iD (bB s o l v f e w)) (bB s o l v f e w).length 1)), .one (.v (.int .i64 0))]) [] := by
  obtain ⟨hc, ⟨hf, hfe, he, hd⟩, hw, hw2⟩ := eB0 h
  have k := fun i h hh => k68_3 hE (chkC s o l v) (chkTk f e) (rngI 2 100000 w) 3 h i hh
  rw [show firstI _ = 0 from h] at k
  have en : wrapF .i64 (e - f) = Int.ofNat (e - f).toNat := by rw [wrap_id (by omega) (by omega)]; simp only [Int.ofNat_eq_natCast]; omega
  have hl := l59 (e := e) hE hc hf (e - f).toNat (by omega) (by omega) hw hw2 (e - f).toNat 0 (by omega)
  have hc1 : COut E 0 [] 59 [clA s o l v, .e (.agg [.v (.int .i64 f), .v (.int .i64 e)]), iI w] (.tup [resA (bB s o l v f e w), .one (.v (.int .i64 0))]) (resH (bB s o l v f e w)) :=
    cOut_start Tryz.func59 rfl (p59a hE (s) (o) (l) (v) (f) (e) (w) 0 0 0 0 _ _ _ (0) 0 ((e - f).toNat) 0 0 0 0 [] [] (K57 hE s o l v) (K103 hE f e) (K81 hE _ _ _) (k _ _ rfl) rfl (iIe en) hl fun _ => undef)
  generalize bB s o l v f e w = L at hc1 ⊢
  cases L with
  | nil => exact cOut_weak hc1 (nil_2 (p := none) (c := 0) 1)
  | cons x r => exact cOut_clear (cOut_freeze 0 hc1 rfl (Nat.zero_le _) (ds := iD (x :: r)) ⟨.inr ⟨0, r.length + 1, 1, r.length + 1, false, iD (x :: r), rfl, rfl, takeD (x :: r)⟩, .inl rfl, trivial⟩) rfl
theorem bB_eq {s o l v f e w t0 : Int} (hf : f ≤ e) (ht : t0 = if s + 1 > f then s + 1 else f) : (t0 ≤ e → bB s o l v f e w = bL s o l v w t0 (e - t0).toNat) ∧ (e < t0 → bB s o l v f e w = []) := by
  refine ⟨fun h => ?_, fun h => ?_⟩
  · have h0 : f ≤ t0 := by rw [ht]; split <;> omega
    have e1 : (e - f).toNat = (t0 - f).toNat + (e - t0).toNat := by omega
    unfold bB
    rw [e1, bL_add, show f + ((t0 - f).toNat : Int) = t0 by omega]
    have : bL s o l v w f (t0 - f).toNat = [] := by
      by_cases c : s + 1 > f
      · rw [if_pos c] at ht
        exact bL_nil s o l v w f _ (by omega)
      · rw [if_neg c] at ht
        rw [show (t0 - f).toNat = 0 by omega]; rfl
    rw [this, List.nil_append]
  · have hs : s + 1 > f := by
      by_cases c : s + 1 > f
      · exact c
      · rw [if_neg c] at ht; omega
    rw [if_pos hs] at ht
    exact bL_nil s o l v w f _ (by omega)
theorem K61 (hE : EnvOk E) (s o l v f e w : Int) (h : eB s o l v f e w = 0) : COut E 0 [] 61 [clA s o l v, .e (.agg [.v (.int .i64 f), .v (.int .i64 e)]), iI w] (.e (.one (.dp (.s (iD (bB s o l v f e w)) (bB s o l v f e w).length 1)))) [] := by
  obtain ⟨hc, ⟨hf, hfe, he, hd⟩, hw, hw2⟩ := eB0 h
  obtain ⟨hs, ho, hl, hv⟩ := chkC0 hc
  have e1 : wrapF .i64 (s + 1) = s + 1 := wrap_id (by omega) (by omega)
  obtain ⟨t0, ht⟩ : ∃ t0, t0 = if s + 1 > f then s + 1 else f := ⟨_, rfl⟩
  obtain ⟨b1, b2⟩ := bB_eq (s := s) (o := o) (l := l) (v := v) (w := w) hfe ht
  have hts : s < t0 := by rw [ht]; split <;> omega
  have hst := fun {Φ : Res → Prop} (hq : ∀ j, OutK E 0 0 (q61z (s) (o) (l) (v) (f) (e) (w) 0 0 0 (t0) 0 0 0 0 0 0 0 0 0 0 [] [] j) Φ) => p61a hE (s) (o) (l) (v) (f) (e) (w) 0 0 (s + 1) (t0) 0 0 0 0 0 0 0 0 0 0 [] [] (iIe e1) (iIe ht.symm) hq
  by_cases c : t0 ≤ e
  · have hl61 := l61 (f := f) (e := e) hE hc hts (e - t0).toNat he (by omega) (by omega) hw hw2 (e - t0).toNat 0 (by omega)
    rw [show t0 + ((0 : Nat) : Int) = t0 by omega] at hl61
    have hc1 : COut E 0 [] 61 [clA s o l v, .e (.agg [.v (.int .i64 f), .v (.int .i64 e)]), iI w] (.e (resA (bL s o l v w t0 (e - t0).toNat))) (resH (bL s o l v w t0 (e - t0).toNat)) :=
      cOut_start Tryz.func61 rfl (hst hl61 fun _ => undef)
    rw [b1 c]
    generalize bL s o l v w t0 (e - t0).toNat = L at hc1 ⊢
    cases L with
    | nil => exact cOut_nil1 (p := none) (c := 0) 1 hc1
    | cons x r => exact cOut_clear (cOut_freeze 0 hc1 rfl (Nat.zero_le _) (ds := iD (x :: r)) (.inr ⟨0, r.length + 1, 1, r.length + 1, false, iD (x :: r), rfl, rfl, takeD (x :: r)⟩)) rfl
  · rw [b2 (by omega)]
    exact cOut_nil1 (p := none) (c := 0) 1 (cOut_start Tryz.func61 rfl (hst (p61zx hE (s) (o) (l) (v) (f) (e) (w) 0 0 0 (t0) 0 0 0 0 0 0 0 0 0 0 [] [] (decide_eq_false (by omega)) (fun j => outK_ret (ends_ret (by kernel_rfl)))) fun _ => undef))
/-- The law's run. -/
theorem ivlRun (hE : EnvOk E) (hA : COut E 0 [] 14 [] (iB true) []) (s o l v f e w : Int) : COut E 0 [] 9 [clA s o l v, .e (.agg [.v (.int .i64 f), .v (.int .i64 e)]), iI w] (iB true) [] := by
  have k25 := fun (h : Heap) (hh : getL h 2 = _) => lend2 3 hE 25 [chkC s o l v, chkTk f e, rngI 2 100000 w] _ 3 true (K25 hE _ (by simp)) h 2 hh
  have main : ∀ j, OutK E 0 0 (q9 (s) (o) (l) (v) (f) (e) (w) 0 0 0 0 0 0 0 0 0 0 [] 0 j) (Go.Ev.Ends E Tryz.f9 (iB true) []) := by
    intro j
    by_cases h : eB s o l v f e w = 0
    · have k59 := K59 hE s o l v f e w h
      have k61 := K61 hE s o l v f e w h
      rw [show firstI [chkC s o l v, chkTk f e, rngI 2 100000 w] = 0 from h] at k25
      obtain ⟨hc, ⟨hf, hfe, he, hd⟩, hw, hw2⟩ := eB0 h
      have k30 := K30 hE (bB s o l v f e w) (by have := bL_len s o l v w f (e - f).toNat; show (bL s o l v w f (e - f).toNat).length ≤ 4000000; omega)
      exact p9o hE (s) (o) (l) (v) (f) (e) (w) 0 0 0 0 (0) 0 _ _ _ 0 _ _ k59 (K58 hE s o l v) (K60 hE f e) (K27 hE _ _ _) (k25 _ rfl) rfl k61 k30 (by simp) hA (by simp) (fun j => outK_ret (ends_ret (by kernel_rfl))) j
    · have k59 := K59e hE s o l v f e w h
      rw [show firstI [chkC s o l v, chkTk f e, rngI 2 100000 w] = eB s o l v f e w from rfl] at k25
      have k30 := K30n hE
      exact p9e hE (s) (o) (l) (v) (f) (e) (w) 0 0 0 0 (eB s o l v f e w) 0 _ _ _ 0 ([]) (0) k59 (K58 hE s o l v) (K60 hE f e) (K27 hE _ _ _) (k25 _ rfl) (beq_eq_false_iff_ne.2 h) k30 (by simp) hA (by simp) (fun j => outK_ret (ends_ret (by kernel_rfl))) j
  by_cases hf' : f ≥ 0
  · have hf : decide (f ≥ (0 : Int)) = true := decide_eq_true hf'
    by_cases he' : e ≤ 100000000
    · have he : decide (e ≤ (100000000 : Int)) = true := decide_eq_true he'
      by_cases hn' : wrapF .i64 (e - f) > 400
      · have hn : decide (wrapF .i64 (e - f) > (400 : Int)) = true := decide_eq_true hn'
        by_cases hm' : wrapF .i64 (e - f) = 4097
        · have hm : (wrapF .i64 (e - f) != (4097 : Int)) = false := by rw [hm']; rfl
          exact cOut_start Tryz.func9 rfl (p9F4 hE (s) (o) (l) (v) (f) (e) (w) 0 0 0 0 0 0 0 0 0 (wrapF .i64 (e - f)) [] 0 rfl (by rw [hf]; rfl) (by rw [hf]; rfl) (by rw [hf]; rfl) hf (by rw [he]; rfl) (by rw [he]; rfl) he (by rw [hn]; rfl) (by rw [hn]; rfl) hn hm main fun _ => undef)
        · have hm : (wrapF .i64 (e - f) != (4097 : Int)) = true := bne_iff_ne.2 hm'
          exact cOut_start Tryz.func9 rfl (p9T hE (s) (o) (l) (v) (f) (e) (w) 0 0 0 0 0 0 0 0 0 (wrapF .i64 (e - f)) [] 0 rfl (by rw [hf]; rfl) (by rw [hf]; rfl) (by rw [hf]; rfl) hf (by rw [he]; rfl) (by rw [he]; rfl) he (by rw [hn]; rfl) (by rw [hn]; rfl) hn hm hA (fun j => outK_ret (ends_ret (by kernel_rfl))) fun _ => undef)
      · have hn : decide (wrapF .i64 (e - f) > (400 : Int)) = false := decide_eq_false hn'
        exact cOut_start Tryz.func9 rfl (p9F3 hE (s) (o) (l) (v) (f) (e) (w) 0 0 0 0 0 0 0 0 0 (wrapF .i64 (e - f)) [] 0 rfl (by rw [hf]; rfl) (by rw [hf]; rfl) (by rw [hf]; rfl) hf (by rw [he]; rfl) (by rw [he]; rfl) he (by rw [hn]; rfl) (by rw [hn]; rfl) hn main fun _ => undef)
    · have he : decide (e ≤ (100000000 : Int)) = false := decide_eq_false he'
      exact cOut_start Tryz.func9 rfl (p9F2 hE (s) (o) (l) (v) (f) (e) (w) 0 0 0 0 0 0 0 0 0 (wrapF .i64 (e - f)) [] 0 rfl (by rw [hf]; rfl) (by rw [hf]; rfl) (by rw [hf]; rfl) hf (by rw [he]; rfl) (by rw [he]; rfl) he main fun _ => undef)
  · have hf : decide (f ≥ (0 : Int)) = false := decide_eq_false hf'
    exact cOut_start Tryz.func9 rfl (p9F1 hE (s) (o) (l) (v) (f) (e) (w) 0 0 0 0 0 0 0 0 0 (wrapF .i64 (e - f)) [] 0 rfl (by rw [hf]; rfl) (by rw [hf]; rfl) (by rw [hf]; rfl) hf main fun _ => undef)
end
end Go.Proofs.YtbijijanflgknaaGreatDoor

end

/-! SeEn -/
section
open Go Go.Ev
namespace Go.Proofs.YtbijijanflgknaaGreatDoor
noncomputable section
set_option maxRecDepth 100000
set_option maxHeartbeats 20000000
def s46 (C : List DT) (n _i _N _N2 : Nat) (_a _b _c _d _e : Int) (_D _D2 : List AC) (_j : Nat → Value) : St := startK Tryz.f46 [] [(.e (.one (.dp (.s C n 5))))]
def s45 (C : List DT) (n _i _N _N2 : Nat) (_a _b _c _d _e : Int) (_D _D2 : List AC) (_j : Nat → Value) : St := startK Tryz.f45 [] [(.e (.one (.dp (.s C n 5)))), (.e (.one (.dp (.s C n 5))))]
def q46n (C : List DT) (n _i _N _N2 : Nat) (_a _b _c _d _e : Int) (_D _D2 : List AC) (j : Nat → Value) : St := ⟨[], [(.code (atC [1, 1, 0, 1, 0, 0] (bodyOf Tryz.f46))), (.inLoop (atC [1, 1, 0, 1, 0, 0] (bodyOf Tryz.f46))), (.inBlock 0), (.code (atC [1, 1, 1] (bodyOf Tryz.f46)))], mkT j [(3, (.e (.one (.v (.slice none 0 0))))), (6, (.e (.one (.dp (.s (C) (n) 5))))), (7, (iI (Int.ofNat n))), (8, (iI (Int.ofNat 0)))] 18 0⟩
def q46 (C : List DT) (n i N _N2 : Nat) (_a _b _c _d _e : Int) (D _D2 : List AC) (j : Nat → Value) : St := ⟨[some ⟨D, N, 60, false, .cells⟩], [(.code (atC [1, 1, 0, 1, 0, 0] (bodyOf Tryz.f46))), (.inLoop (atC [1, 1, 0, 1, 0, 0] (bodyOf Tryz.f46))), (.inBlock 0), (.code (atC [1, 1, 1] (bodyOf Tryz.f46)))], mkT j [(3, (.e (.one (.slc 0 0 i 5 i false)))), (6, (.e (.one (.dp (.s (C) (n) 5))))), (7, (iI (Int.ofNat n))), (8, (iI (Int.ofNat i)))] 18 0⟩
def q45 (C : List DT) (n i _N _N2 : Nat) (_a _b _c _d _e : Int) (_D _D2 : List AC) (j : Nat → Value) : St := ⟨[], [(.code (atC [1, 1, 0, 1, 0, 0] (bodyOf Tryz.f45))), (.inLoop (atC [1, 1, 0, 1, 0, 0] (bodyOf Tryz.f45))), (.inBlock 0), (.code (atC [1, 1, 1] (bodyOf Tryz.f45)))], mkT j [(0, (.e (.one (.dp (.s (C) (n) 5))))), (1, (.e (.one (.dp (.s (C) (n) 5))))), (5, (iI (Int.ofNat i)))] 26 0⟩
def p46a_end (C : List DT) (n _i _N _N2 : Nat) (_a _b _c _d _e : Int) (_D _D2 : List AC) (j : Nat → Value) : St := ⟨[], [(.code (atC [1, 1, 0, 1, 0, 0] (bodyOf Tryz.f46))), (.inLoop (atC [1, 1, 0, 1, 0, 0] (bodyOf Tryz.f46))), (.inBlock 0), (.code (atC [1, 1, 1] (bodyOf Tryz.f46)))], mkT j [(3, (.e (.one (.v (.slice none 0 0))))), (6, (.e (.one (.dp (.s (C) (n) 5))))), (7, (iI (Int.ofNat n))), (8, (iI 0))] 18 0⟩
theorem p46a (hE : EnvOk E) (C : List DT) (n i N N2 : Nat) (a b c d e : Int) (D D2 : List AC)  {Φ : Res → Prop} (ho : ∀ j, OutK E 0 0 (p46a_end C n i N N2 a b c d e D D2 j) Φ) (j : Nat → Value) : OutK E 0 0 (s46 C n i N N2 a b c d e D D2 j) Φ :=
  outK_seg hE (R0_ok hE) [.run 6, (.ops [(1, (.d .len))] []), .run 2] [3, 6, 7, 8] (ps := []) (fun j => by kernel_rfl) trivial
    ho
def p45a_end (C : List DT) (n _i _N _N2 : Nat) (_a _b _c _d _e : Int) (_D _D2 : List AC) (j : Nat → Value) : St := ⟨[], [(.code (atC [1, 1, 0, 1, 0, 0] (bodyOf Tryz.f45))), (.inLoop (atC [1, 1, 0, 1, 0, 0] (bodyOf Tryz.f45))), (.inBlock 0), (.code (atC [1, 1, 1] (bodyOf Tryz.f45)))], mkT j [(0, (.e (.one (.dp (.s (C) (n) 5))))), (1, (.e (.one (.dp (.s (C) (n) 5))))), (5, (iI 0))] 26 0⟩
theorem p45a (hE : EnvOk E) (C : List DT) (n i N N2 : Nat) (a b c d e : Int) (D D2 : List AC) (h0 : ((↑n : Int) != (↑n : Int) : Bool) = false) {Φ : Res → Prop} (ho : ∀ j, OutK E 0 0 (p45a_end C n i N N2 a b c d e D D2 j) Φ) (j : Nat → Value) : OutK E 0 0 (s45 C n i N N2 a b c d e D D2 j) Φ :=
  outK_seg hE (R0_ok hE) [.run 4, (.ops [(1, (.d .len)), (3, (.d .len))] []), (.cond false), .run 6] [0, 1, 5] (fun j => by kernel_rfl) (aP h0 <| aZ)
    ho
def p46f_end (C : List DT) (n _i _N _N2 : Nat) (a b c d e : Int) (_D _D2 : List AC) (j : Nat → Value) : St := ⟨[(.some ⟨[(.v (.int .i64 (a))), (.v (.int .i64 (b))), (.v (.int .i64 (c))), (.v (.int .i64 (d))), (.v (.int .i64 (e)))], 5, 60, false, .cells⟩)], [(.code (atC [1, 1, 0, 1, 0, 0] (bodyOf Tryz.f46))), (.inLoop (atC [1, 1, 0, 1, 0, 0] (bodyOf Tryz.f46))), (.inBlock 0), (.code (atC [1, 1, 1] (bodyOf Tryz.f46)))], mkT j [(3, (.e (.one (.slc 0 0 1 5 1 false)))), (6, (.e (.one (.dp (.s (C) (n) 5))))), (7, (iI (Int.ofNat n))), (8, (iI 1))] 18 0⟩
theorem p46f (hE : EnvOk E) (C : List DT) (n i N N2 : Nat) (a b c d e : Int) (D D2 : List AC) (h0 : (decide (Int.ofNat (nat_lit 0) < Int.ofNat n) : Bool) = true) (h1 : (0 : Int) ≤ Int.ofNat (nat_lit 0) ∧ Int.ofNat (nat_lit 0) < (↑n : Int)) (h3 : (takeL (dropL C (0 : Nat)) (5 : Nat) : Option (List DT)) = (.some [(.v (.int .i64 (a))), (.v (.int .i64 (b))), (.v (.int .i64 (c))), (.v (.int .i64 (d))), (.v (.int .i64 (e)))])) {Φ : Res → Prop} (ho : ∀ j, OutK E 0 0 (p46f_end C n i N N2 a b c d e D D2 j) Φ) (j : Nat → Value) : OutK E 0 0 (q46n C n i N N2 a b c d e D D2 j) Φ :=
  outK_seg hE (R0_ok hE) [.run 3, (.cond true), .run 4, (.ops [(1, (.d (.ldn [(.v (.int .i64 (a))), (.v (.int .i64 (b))), (.v (.int .i64 (c))), (.v (.int .i64 (d))), (.v (.int .i64 (e)))]))), (0, (.d (.ix 0)))] []), .run 4] [3, 6, 7, 8] (s' := fun j => ⟨[(.some ⟨[(.v (.int .i64 (a))), (.v (.int .i64 (b))), (.v (.int .i64 (c))), (.v (.int .i64 (d))), (.v (.int .i64 (e)))], 5, 68, true, .cells⟩), (.some ⟨[(.v (.int .i64 (a))), (.v (.int .i64 (b))), (.v (.int .i64 (c))), (.v (.int .i64 (d))), (.v (.int .i64 (e)))], 5, 60, true, .cells⟩), (.some ⟨[(.v (.int .i64 (a))), (.v (.int .i64 (b))), (.v (.int .i64 (c))), (.v (.int .i64 (d))), (.v (.int .i64 (e)))], 5, 60, false, .cells⟩)], [(.code (atC [1, 1, 0, 1, 0, 0] (bodyOf Tryz.f46))), (.inLoop (atC [1, 1, 0, 1, 0, 0] (bodyOf Tryz.f46))), (.inBlock 0), (.code (atC [1, 1, 1] (bodyOf Tryz.f46)))], mkT j [(3, (.e (.one (.slc 2 0 1 5 1 false)))), (6, (.e (.one (.dp (.s (C) (n) 5))))), (7, (iI (Int.ofNat n))), (8, (iI 1))] 18 0⟩) (fun j => by kernel_rfl) (aP h0 <| aP h1 <| aP (rfl : ((0 : Nat) : Nat) = (0 : Nat)) <| aP h3 <| aZ)
    fun j => outK_gc [2] (by decide) (by kernel_rfl) (by kernel_rfl) (by kernel_rfl) (ho j)
def p46x0_end (_C : List DT) (_n _i _N _N2 : Nat) (_a _b _c _d _e : Int) (_D _D2 : List AC) (j : Nat → Value) : St := ⟨[], [(.code .ret)], mkT j [(2, (.e (.one (.v (.slice none 0 0)))))] 18 0⟩
theorem p46x0 (hE : EnvOk E) (C : List DT) (n i N N2 : Nat) (a b c d e : Int) (D D2 : List AC) (h0 : (decide (Int.ofNat (nat_lit 0) < Int.ofNat n) : Bool) = false) {Φ : Res → Prop} (ho : ∀ j, OutK E 0 0 (p46x0_end C n i N N2 a b c d e D D2 j) Φ) (j : Nat → Value) : OutK E 0 0 (q46n C n i N N2 a b c d e D D2 j) Φ :=
  outK_seg hE (R0_ok hE) [.run 3, (.cond false), .run 3] [2] (fun j => by kernel_rfl) (aP h0 <| aZ)
    ho
def p46s_end (C : List DT) (n i _N N2 : Nat) (_a _b _c _d _e : Int) (_D D2 : List AC) (j : Nat → Value) : St := ⟨[(.some ⟨(D2), (N2), 60, false, .cells⟩)], [(.code (atC [1, 1, 0, 1, 0, 0] (bodyOf Tryz.f46))), (.inLoop (atC [1, 1, 0, 1, 0, 0] (bodyOf Tryz.f46))), (.inBlock 0), (.code (atC [1, 1, 1] (bodyOf Tryz.f46)))], mkT j [(3, (.e (.one (.slc 0 0 (i + 1) 5 (i + 1) false)))), (6, (.e (.one (.dp (.s (C) (n) 5))))), (7, (iI (Int.ofNat n))), (8, (iI (Int.ofNat (i + 1))))] 18 0⟩
theorem p46s (hE : EnvOk E) (C : List DT) (n i N N2 : Nat) (a b c d e : Int) (D D2 : List AC) (h0 : (decide (Int.ofNat i < Int.ofNat n) : Bool) = true) (h1 : (0 : Int) ≤ Int.ofNat i ∧ Int.ofNat i < (↑n : Int)) (h2 : ((Int.ofNat i).toNat * nat_lit 5 : Nat) = i.mul (nat_lit 5)) (h3 : (takeL (dropL C (i.mul (nat_lit 5))) (5 : Nat) : Option (List DT)) = (.some [(.v (.int .i64 (a))), (.v (.int .i64 (b))), (.v (.int .i64 (c))), (.v (.int .i64 (d))), (.v (.int .i64 (e)))])) (h4 : ¬i + 1 ≤ i) (h5 : (small (i + 1) (5 : Nat) (40 : Nat) : Bool) = true) (h6 : (N : Nat) = i * nat_lit 5) (h7 : (appL D ((fun x => AC.v (Value.int IntKind.i64 a) :: x) ((fun x => AC.v (Value.int IntKind.i64 b) :: x) ((fun x => AC.v (Value.int IntKind.i64 c) :: x) ((fun x => AC.v (Value.int IntKind.i64 d) :: x) ((fun x => AC.v (Value.int IntKind.i64 e) :: x) []))))) : List AC) = D2) (h9 : ((i + 1) * nat_lit 5 : Nat) = N2) (h10 : ((iI (wrapF IntKind.i64 (Int.ofNat i + (1 : Int)))) : AV) = (iI (Int.ofNat (i + 1)))) (g0 : FlatC (D2)) {Φ : Res → Prop} (ho : ∀ j, OutK E 0 0 (p46s_end C n i N N2 a b c d e D D2 j) Φ) (j : Nat → Value) : OutK E 0 0 (q46 C n i N N2 a b c d e D D2 j) Φ :=
  outK_seg hE (R0_ok hE) [.run 3, (.cond true), .run 4, (.ops [(1, (.d (.ldn [(.v (.int .i64 (a))), (.v (.int .i64 (b))), (.v (.int .i64 (c))), (.v (.int .i64 (d))), (.v (.int .i64 (e)))]))), (0, (.d (.ix (i.mul (nat_lit 5)))))] []), (.ops [(3, (.app (i + 1) (N2) (D2)))] []), .run 1, (.ops [(0, (.rn (iI (Int.ofNat (i + 1)))))] []), .run 1] [3, 6, 7, 8] (s' := fun j => ⟨[none, (.some ⟨[(.v (.int .i64 (a))), (.v (.int .i64 (b))), (.v (.int .i64 (c))), (.v (.int .i64 (d))), (.v (.int .i64 (e)))], 5, 68, true, .cells⟩), (.some ⟨[(.v (.int .i64 (a))), (.v (.int .i64 (b))), (.v (.int .i64 (c))), (.v (.int .i64 (d))), (.v (.int .i64 (e)))], 5, 60, true, .cells⟩), (.some ⟨(D2), (N2), 60, false, .cells⟩)], [(.code (atC [1, 1, 0, 1, 0, 0] (bodyOf Tryz.f46))), (.inLoop (atC [1, 1, 0, 1, 0, 0] (bodyOf Tryz.f46))), (.inBlock 0), (.code (atC [1, 1, 1] (bodyOf Tryz.f46)))], mkT j [(3, (.e (.one (.slc 3 0 (i + 1) 5 (i + 1) false)))), (6, (.e (.one (.dp (.s (C) (n) 5))))), (7, (iI (Int.ofNat n))), (8, (iI (Int.ofNat (i + 1))))] 18 0⟩) (fun j => by kernel_rfl) (aP h0 <| aP h1 <| aP h2 <| aP h3 <| aP h4 <| aP h5 <| aP h6 <| aP h7 <| aP (rfl : (i + 1 : Nat) = i + 1) <| aP h9 <| aP h10 <| aZ)
    fun j => outK_gcF [3] [true] (h' := [(.some ⟨(D2), (N2), 60, false, .cells⟩)]) (by decide) (by kernel_rfl) (by kernel_rfl) ⟨g0, trivial⟩ (by kernel_rfl) (ho j)
def p46x_end (_C : List DT) (_n i N _N2 : Nat) (_a _b _c _d _e : Int) (D _D2 : List AC) (j : Nat → Value) : St := ⟨[(.some ⟨(D), (N), 60, false, .cells⟩)], [(.code .ret)], mkT j [(2, (.e (.one (.slc 0 0 (i) 5 (i) false))))] 18 0⟩
theorem p46x (hE : EnvOk E) (C : List DT) (n i N N2 : Nat) (a b c d e : Int) (D D2 : List AC) (h0 : (decide (Int.ofNat i < Int.ofNat n) : Bool) = false) {Φ : Res → Prop} (ho : ∀ j, OutK E 0 0 (p46x_end C n i N N2 a b c d e D D2 j) Φ) (j : Nat → Value) : OutK E 0 0 (q46 C n i N N2 a b c d e D D2 j) Φ :=
  outK_seg hE (R0_ok hE) [.run 3, (.cond false), .run 3] [2] (fun j => by kernel_rfl) (aP h0 <| aZ)
    ho
def p45s_end (C : List DT) (n i _N _N2 : Nat) (_a _b _c _d _e : Int) (_D _D2 : List AC) (j : Nat → Value) : St := ⟨[], [(.code (atC [1, 1, 0, 1, 0, 0] (bodyOf Tryz.f45))), (.inLoop (atC [1, 1, 0, 1, 0, 0] (bodyOf Tryz.f45))), (.inBlock 0), (.code (atC [1, 1, 1] (bodyOf Tryz.f45)))], mkT j [(0, (.e (.one (.dp (.s (C) (n) 5))))), (1, (.e (.one (.dp (.s (C) (n) 5))))), (5, (iI (Int.ofNat (i + 1))))] 26 0⟩
theorem p45s (hE : EnvOk E) (C : List DT) (n i N N2 : Nat) (a b c d e : Int) (D D2 : List AC) (h0 : (decide (Int.ofNat i < (↑n : Int)) : Bool) = true) (h1 : (0 : Int) ≤ Int.ofNat i ∧ Int.ofNat i < (↑n : Int)) (h2 : ((Int.ofNat i).toNat * nat_lit 5 : Nat) = i.mul (nat_lit 5)) (h3 : (takeL (dropL C (i.mul (nat_lit 5))) (5 : Nat) : Option (List DT)) = (.some [(.v (.int .i64 (a))), (.v (.int .i64 (b))), (.v (.int .i64 (c))), (.v (.int .i64 (d))), (.v (.int .i64 (e)))])) (h4 : (0 : Int) ≤ Int.ofNat i ∧ Int.ofNat i < (↑n : Int)) (h5 : ((Int.ofNat i).toNat * nat_lit 5 : Nat) = i.mul (nat_lit 5)) (h6 : (takeL (dropL C (i.mul (nat_lit 5))) (5 : Nat) : Option (List DT)) = (.some [(.v (.int .i64 (a))), (.v (.int .i64 (b))), (.v (.int .i64 (c))), (.v (.int .i64 (d))), (.v (.int .i64 (e)))])) (h8 : EqOk E 60 [(.v (.int .i64 (a))), (.v (.int .i64 (b))), (.v (.int .i64 (c))), (.v (.int .i64 (d))), (.v (.int .i64 (e)))] [(.v (.int .i64 (a))), (.v (.int .i64 (b))), (.v (.int .i64 (c))), (.v (.int .i64 (d))), (.v (.int .i64 (e)))] true) (h9 : ((iI (wrapF IntKind.i64 (Int.ofNat i + (1 : Int)))) : AV) = (iI (Int.ofNat (i + 1)))) {Φ : Res → Prop} (ho : ∀ j, OutK E 0 0 (p45s_end C n i N N2 a b c d e D D2 j) Φ) (j : Nat → Value) : OutK E 0 0 (q45 C n i N N2 a b c d e D D2 j) Φ :=
  outK_seg hE (R0_ok hE) [.run 2, (.ops [(2, (.d .len))] []), (.cond true), .run 4, (.ops [(3, (.d (.ldn [(.v (.int .i64 (a))), (.v (.int .i64 (b))), (.v (.int .i64 (c))), (.v (.int .i64 (d))), (.v (.int .i64 (e)))]))), (7, (.d (.ldn [(.v (.int .i64 (a))), (.v (.int .i64 (b))), (.v (.int .i64 (c))), (.v (.int .i64 (d))), (.v (.int .i64 (e)))]))), (8, (.eqs false)), (2, (.d (.ix (i.mul (nat_lit 5))))), (6, (.d (.ix (i.mul (nat_lit 5)))))] []), .run 3, (.ops [(1, (.rn (iI (Int.ofNat (i + 1)))))] []), .run 1] [0, 1, 5] (fun j => by kernel_rfl) (aP h0 <| aP h1 <| aP h2 <| aP h3 <| aP h4 <| aP h5 <| aP h6 <| aP (rfl : (true : Bool) = true) <| aP h8 <| aP h9 <| aZ)
    ho
def p45x_end (_C : List DT) (_n _i _N _N2 : Nat) (_a _b _c _d _e : Int) (_D _D2 : List AC) (j : Nat → Value) : St := ⟨[], [(.code .ret)], mkT j [(4, (iB true))] 26 0⟩
theorem p45x (hE : EnvOk E) (C : List DT) (n i N N2 : Nat) (a b c d e : Int) (D D2 : List AC) (h0 : (decide (Int.ofNat i < (↑n : Int)) : Bool) = false) {Φ : Res → Prop} (ho : ∀ j, OutK E 0 0 (p45x_end C n i N N2 a b c d e D D2 j) Φ) (j : Nat → Value) : OutK E 0 0 (q45 C n i N N2 a b c d e D D2 j) Φ :=
  outK_seg hE (R0_ok hE) [.run 2, (.ops [(2, (.d .len))] []), (.cond false), .run 3] [4] (fun j => by kernel_rfl) (aP h0 <| aZ)
    ho

theorem five {l : List Int} (h : l.length = 5) : ∃ a b c d e, l = [a, b, c, d, e] := by
  match l, h with
  | [a, b, c, d, e], _ => exact ⟨a, b, c, d, e, rfl⟩
theorem eqE (a b c d e : Int) : EqOk E 60 [.v (.int .i64 a), .v (.int .i64 b), .v (.int .i64 c), .v (.int .i64 d), .v (.int .i64 e)] [.v (.int .i64 a), .v (.int .i64 b), .v (.int .i64 c), .v (.int .i64 d), .v (.int .i64 e)] true := by
  have h := eqIs (t := 60) (n := 5) (by kernel_rfl) (by kernel_rfl) (by kernel_rfl) [a, b, c, d, e] [a, b, c, d, e] rfl rfl
  have e : ([a, b, c, d, e] == [a, b, c, d, e]) = true := by simp
  rw [e] at h
  exact h
theorem l46 (hE : EnvOk E) (l : List Int) (n : Nat) (hl : l.length = n * 5) (hn : n ≤ 5000) : ∀ m i, m + i = n → 0 < i → ∀ j, OutK E 0 0 (q46 (iD l) n i (i * 5) 0 0 0 0 0 0 (iC (l.take (i * 5))) [] j) (Go.Ev.Ends E Tryz.f46 (.e (.one (.slc 0 0 n 5 n false))) [some ⟨iC l, n * 5, 60, false, .cells⟩])
  | 0, i, hk, hi, j => by
    have e : i = n := by omega
    subst e
    rw [List.take_of_length_le (by omega)]
    exact p46x hE (iD l) i i (i * 5) 0 0 0 0 0 0 (iC l) [] (decide_eq_false (by simp only [Int.ofNat_eq_natCast]; omega)) (fun j => outK_ret (ends_ret (by kernel_rfl))) j
  | m + 1, i, hk, hi, j => by
    have hlt : i < n := by omega
    obtain ⟨a, b, c, d, e, he⟩ := five (row_len 5 l n i hl hlt)
    have hrow := row_of 5 l n i hl hlt
    rw [he] at hrow
    have ht := take_succ_row 5 l i
    rw [he] at ht
    have ih := l46 hE l n hl hn m (i + 1) (by omega) (by omega)
    have happ : appL (iC (l.take (i * 5))) (iC [a, b, c, d, e]) = iC (l.take ((i + 1) * 5)) := by rw [iC_app, ht]
    exact p46s hE (iD l) n i (i * 5) ((i + 1) * 5) a b c d e (iC (l.take (i * 5))) (iC (l.take ((i + 1) * 5))) (decide_eq_true (by simp only [Int.ofNat_eq_natCast]; omega)) ⟨(by simp only [Int.ofNat_eq_natCast]; omega), (by simp only [Int.ofNat_eq_natCast]; omega)⟩ rfl hrow (by omega) (by simp [small]; omega) rfl happ rfl (iIn i (by omega)) (flat_iC _) ih j
theorem K46 (hE : EnvOk E) (l : List Int) (n : Nat) (hl : l.length = n * 5) (hn : n ≤ 5000) : COut E 0 [] 46 [.e (.one (.dp (.s (iD l) n 5)))] (.e (.one (.dp (.s (iD l) n 5)))) [] := by
  by_cases h0 : 0 < n
  · obtain ⟨a, b, c, d, e, he⟩ := five (row_len 5 l n 0 hl h0)
    have hrow := row_of 5 l n 0 hl h0
    rw [he] at hrow
    have ht := take_succ_row 5 l 0
    rw [he] at ht
    have h5 := l46 hE l n hl hn (n - 1) 1 (by omega) (by omega)
    have e1 : iC (l.take (1 * 5)) = iC [a, b, c, d, e] := by rw [show l.take (1 * 5) = [a, b, c, d, e] by simpa using ht]
    rw [e1] at h5
    have hc1 : COut E 0 [] 46 [.e (.one (.dp (.s (iD l) n 5)))] (.e (.one (.slc 0 0 n 5 n false))) [some ⟨iC l, n * 5, 60, false, .cells⟩] :=
      cOut_start Tryz.func46 rfl (p46a hE (iD l) n 0 0 0 0 0 0 0 0 [] [] (p46f hE (iD l) n 0 0 0 a b c d e [] [] (decide_eq_true (by simp only [Int.ofNat_eq_natCast]; omega)) ⟨(by simp only [Int.ofNat_eq_natCast]; omega), (by simp only [Int.ofNat_eq_natCast]; omega)⟩ hrow h5) fun _ => undef)
    exact cOut_clear (cOut_freeze 0 hc1 rfl (Nat.zero_le _) (ds := iD l) (.inr ⟨0, n, 5, n, false, iD l, rfl, rfl, by rw [takeL_eq, dropL_eq, List.drop_zero, if_pos (by simp [hl]), List.take_of_length_le (by simp [hl])]⟩)) rfl
  · have e : n = 0 := by omega
    subst e
    have : l = [] := List.eq_nil_of_length_eq_zero (by omega)
    subst this
    exact cOut_nil1 (p := none) (c := 0) 5 (cOut_start Tryz.func46 rfl (p46a hE (iD []) 0 0 0 0 0 0 0 0 0 [] [] (p46x0 hE (iD []) 0 0 0 0 0 0 0 0 0 [] [] (decide_eq_false (by simp only [Int.ofNat_eq_natCast]; omega)) (fun j => outK_ret (ends_ret (by kernel_rfl)))) fun _ => undef))
theorem l45 (hE : EnvOk E) (l : List Int) (n : Nat) (hl : l.length = n * 5) (hn : n ≤ 5000) : ∀ m i, m + i = n → ∀ j, OutK E 0 0 (q45 (iD l) n i 0 0 0 0 0 0 0 [] [] j) (Go.Ev.Ends E Tryz.f45 (iB true) [])
  | 0, i, hk, j => p45x hE (iD l) n i 0 0 0 0 0 0 0 [] [] (decide_eq_false (by simp only [Int.ofNat_eq_natCast]; omega)) (fun j => outK_ret (ends_ret (by kernel_rfl))) j
  | m + 1, i, hk, j => by
    have hlt : i < n := by omega
    obtain ⟨a, b, c, d, e, he⟩ := five (row_len 5 l n i hl hlt)
    have hrow := row_of 5 l n i hl hlt
    rw [he] at hrow
    exact p45s hE (iD l) n i 0 0 a b c d e [] [] (decide_eq_true (by simp only [Int.ofNat_eq_natCast]; omega)) ⟨(by simp only [Int.ofNat_eq_natCast]; omega), (by simp only [Int.ofNat_eq_natCast]; omega)⟩ rfl hrow ⟨(by simp only [Int.ofNat_eq_natCast]; omega), (by simp only [Int.ofNat_eq_natCast]; omega)⟩ rfl hrow (eqE _ _ _ _ _) (iIn i (by omega)) (l45 hE l n hl hn m (i + 1) (by omega)) j
theorem K45 (hE : EnvOk E) (l : List Int) (n : Nat) (hl : l.length = n * 5) (hn : n ≤ 5000) : COut E 0 [] 45 [.e (.one (.dp (.s (iD l) n 5))), .e (.one (.dp (.s (iD l) n 5)))] (iB true) [] :=
  cOut_start Tryz.func45 rfl (p45a hE (iD l) n 0 0 0 0 0 0 0 0 [] [] (by simp) (l45 hE l n hl hn n 0 (by omega)) fun _ => undef)
end
end Go.Proofs.YtbijijanflgknaaGreatDoor

end
