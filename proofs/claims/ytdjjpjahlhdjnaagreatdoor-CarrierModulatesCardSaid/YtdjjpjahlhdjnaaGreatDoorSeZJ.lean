/-
  Part of the proof: SeMc, SeMd.
-/
import Derived.Test.YtdjjpjahlhdjnaaGreatDoorSeZI

/-! SeMc -/
section
open Go Go.Ev
namespace Go.Proofs.YtdjjpjahlhdjnaaGreatDoor
noncomputable section
set_option maxRecDepth 100000
set_option maxHeartbeats 20000000
def s47 (C : List DT) (n _i _k _p _c _q _m _N _N2 _m6 _N6 _M6 : Nat) (_r0 _i0 _r1 _i1 _i2 _a _b _a' _b' _x _y : Int) (_D _D2 _D6 _E6 : List AC) (_j : Nat → Value) : St := startK Tryz.f47 [] [(.e (.one (.dp (.s C n 1))))]
def q47z (C : List DT) (n i _k _p _c _q _m _N _N2 _m6 _N6 _M6 : Nat) (_r0 _i0 _r1 _i1 _i2 _a _b _a' _b' _x _y : Int) (_D _D2 _D6 _E6 : List AC) (j : Nat → Value) : St := ⟨[], [(.code (atC [1, 1, 1, 0, 1, 0, 0] (bodyOf Tryz.f47))), (.inLoop (atC [1, 1, 1, 0, 1, 0, 0] (bodyOf Tryz.f47))), (.inBlock 0), (.code (atC [1, 1, 1, 1] (bodyOf Tryz.f47)))], mkT j [(0, (.e (.one (.dp (.s (C) (n) 1))))), (5, (.e (.one (.v (.slice none 0 0))))), (6, (.e (.one (.v (.slice none 0 0))))), (7, (iI (Int.ofNat i)))] 82 0⟩
def q47i (C : List DT) (n i _k _p _c _q m N _N2 _m6 _N6 _M6 : Nat) (_r0 _i0 _r1 _i1 _i2 _a _b _a' _b' _x _y : Int) (D _D2 _D6 _E6 : List AC) (j : Nat → Value) : St := ⟨[some ⟨D, N, 3, false, .cells⟩], [(.code (atC [1, 1, 1, 0, 1, 0, 0] (bodyOf Tryz.f47))), (.inLoop (atC [1, 1, 1, 0, 1, 0, 0] (bodyOf Tryz.f47))), (.inBlock 0), (.code (atC [1, 1, 1, 1] (bodyOf Tryz.f47)))], mkT j [(0, (.e (.one (.dp (.s (C) (n) 1))))), (5, (.e (.one (.slc 0 0 m 1 m false)))), (6, (.e (.one (.v (.slice none 0 0))))), (7, (iI (Int.ofNat i)))] 82 0⟩
def q47d (C : List DT) (n i _k _p _c _q m N _N2 m6 N6 _M6 : Nat) (_r0 _i0 _r1 _i1 _i2 _a _b _a' _b' _x _y : Int) (D _D2 D6 _E6 : List AC) (j : Nat → Value) : St := ⟨[some ⟨D, N, 3, false, .cells⟩, some ⟨D6, N6, 3, false, .cells⟩], [(.code (atC [1, 1, 1, 0, 1, 0, 0] (bodyOf Tryz.f47))), (.inLoop (atC [1, 1, 1, 0, 1, 0, 0] (bodyOf Tryz.f47))), (.inBlock 0), (.code (atC [1, 1, 1, 1] (bodyOf Tryz.f47)))], mkT j [(0, (.e (.one (.dp (.s (C) (n) 1))))), (5, (.e (.one (.slc 0 0 m 1 m false)))), (6, (.e (.one (.slc 1 0 m6 1 m6 false)))), (7, (iI (Int.ofNat i)))] 82 0⟩
def r47z (C : List DT) (n i k p _c _q _m _N _N2 _m6 _N6 _M6 : Nat) (_r0 _i0 _r1 _i1 _i2 a b a' b' _x _y : Int) (_D _D2 _D6 _E6 : List AC) (j : Nat → Value) : St := ⟨[(.some ⟨[(.v (.int .i64 (a))), (.v (.int .i64 (b))), (.v (.int .i64 (a'))), (.v (.int .i64 (b')))], 4, 22, true, .cells⟩)], [(.code (atC [1, 1, 1, 0, 1, 0, 0, 1, 0, 0, 1, 1, 1, 0, 1, 0, 0] (bodyOf Tryz.f47))), (.inLoop (atC [1, 1, 1, 0, 1, 0, 0, 1, 0, 0, 1, 1, 1, 0, 1, 0, 0] (bodyOf Tryz.f47))), (.inBlock 2), (.code (atC [1, 1, 1, 0, 1, 0, 0, 1, 0, 0, 1, 1, 1, 1] (bodyOf Tryz.f47))), (.inBlock 1), (.code (atC [1, 1, 1, 0, 1, 0, 0, 1, 1] (bodyOf Tryz.f47))), (.inLoop (atC [1, 1, 1, 0, 1, 0, 0] (bodyOf Tryz.f47))), (.inBlock 0), (.code (atC [1, 1, 1, 1] (bodyOf Tryz.f47)))], mkT j [(0, (.e (.one (.dp (.s (C) (n) 1))))), (5, (.e (.one (.v (.slice none 0 0))))), (6, (.e (.one (.v (.slice none 0 0))))), (7, (iI (Int.ofNat i))), (9, (.e (.one (.ptr 0 0)))), (10, (iI (Int.ofNat p))), (11, (iI 0)), (12, (iI (Int.ofNat k)))] 82 0⟩
def r47i (C : List DT) (n i k p _c _q m N _N2 _m6 _N6 _M6 : Nat) (_r0 _i0 _r1 _i1 _i2 a b a' b' _x _y : Int) (D _D2 _D6 _E6 : List AC) (j : Nat → Value) : St := ⟨[(.some ⟨(D), (N), 3, false, .cells⟩), (.some ⟨[(.v (.int .i64 (a))), (.v (.int .i64 (b))), (.v (.int .i64 (a'))), (.v (.int .i64 (b')))], 4, 22, true, .cells⟩)], [(.code (atC [1, 1, 1, 0, 1, 0, 0, 1, 0, 0, 1, 1, 1, 0, 1, 0, 0] (bodyOf Tryz.f47))), (.inLoop (atC [1, 1, 1, 0, 1, 0, 0, 1, 0, 0, 1, 1, 1, 0, 1, 0, 0] (bodyOf Tryz.f47))), (.inBlock 2), (.code (atC [1, 1, 1, 0, 1, 0, 0, 1, 0, 0, 1, 1, 1, 1] (bodyOf Tryz.f47))), (.inBlock 1), (.code (atC [1, 1, 1, 0, 1, 0, 0, 1, 1] (bodyOf Tryz.f47))), (.inLoop (atC [1, 1, 1, 0, 1, 0, 0] (bodyOf Tryz.f47))), (.inBlock 0), (.code (atC [1, 1, 1, 1] (bodyOf Tryz.f47)))], mkT j [(0, (.e (.one (.dp (.s (C) (n) 1))))), (5, (.e (.one (.slc 0 0 (m) 1 (m) false)))), (6, (.e (.one (.v (.slice none 0 0))))), (7, (iI (Int.ofNat i))), (9, (.e (.one (.ptr 1 0)))), (10, (iI (Int.ofNat p))), (11, (iI 0)), (12, (iI (Int.ofNat k)))] 82 0⟩
def r47d (C : List DT) (n i k p _c _q m N _N2 m6 N6 _M6 : Nat) (_r0 _i0 _r1 _i1 _i2 a b a' b' _x _y : Int) (D _D2 D6 _E6 : List AC) (j : Nat → Value) : St := ⟨[(.some ⟨(D), (N), 3, false, .cells⟩), (.some ⟨(D6), (N6), 3, false, .cells⟩), (.some ⟨[(.v (.int .i64 (a))), (.v (.int .i64 (b))), (.v (.int .i64 (a'))), (.v (.int .i64 (b')))], 4, 22, true, .cells⟩)], [(.code (atC [1, 1, 1, 0, 1, 0, 0, 1, 0, 0, 1, 1, 1, 0, 1, 0, 0] (bodyOf Tryz.f47))), (.inLoop (atC [1, 1, 1, 0, 1, 0, 0, 1, 0, 0, 1, 1, 1, 0, 1, 0, 0] (bodyOf Tryz.f47))), (.inBlock 2), (.code (atC [1, 1, 1, 0, 1, 0, 0, 1, 0, 0, 1, 1, 1, 1] (bodyOf Tryz.f47))), (.inBlock 1), (.code (atC [1, 1, 1, 0, 1, 0, 0, 1, 1] (bodyOf Tryz.f47))), (.inLoop (atC [1, 1, 1, 0, 1, 0, 0] (bodyOf Tryz.f47))), (.inBlock 0), (.code (atC [1, 1, 1, 1] (bodyOf Tryz.f47)))], mkT j [(0, (.e (.one (.dp (.s (C) (n) 1))))), (5, (.e (.one (.slc 0 0 (m) 1 (m) false)))), (6, (.e (.one (.slc 1 0 (m6) 1 (m6) false)))), (7, (iI (Int.ofNat i))), (9, (.e (.one (.ptr 2 0)))), (10, (iI (Int.ofNat p))), (11, (iI 0)), (12, (iI (Int.ofNat k)))] 82 0⟩
def t47z (C : List DT) (n i k p c _q _m _N _N2 _m6 _N6 _M6 : Nat) (_r0 _i0 _r1 _i1 _i2 a b a' b' _x _y : Int) (_D _D2 _D6 _E6 : List AC) (j : Nat → Value) : St := ⟨[(.some ⟨[(.v (.int .i64 (a))), (.v (.int .i64 (b))), (.v (.int .i64 (a'))), (.v (.int .i64 (b')))], 4, 22, true, .cells⟩)], [(.code (atC [1, 1, 1, 0, 1, 0, 0, 1, 0, 0, 1, 1, 1, 1, 0, 1, 0, 0] (bodyOf Tryz.f47))), (.inLoop (atC [1, 1, 1, 0, 1, 0, 0, 1, 0, 0, 1, 1, 1, 1, 0, 1, 0, 0] (bodyOf Tryz.f47))), (.inBlock 4), (.code (atC [1, 1, 1, 0, 1, 0, 0, 1, 0, 0, 1, 1, 1, 1, 1] (bodyOf Tryz.f47))), (.inBlock 1), (.code (atC [1, 1, 1, 0, 1, 0, 0, 1, 1] (bodyOf Tryz.f47))), (.inLoop (atC [1, 1, 1, 0, 1, 0, 0] (bodyOf Tryz.f47))), (.inBlock 0), (.code (atC [1, 1, 1, 1] (bodyOf Tryz.f47)))], mkT j [(0, (.e (.one (.dp (.s (C) (n) 1))))), (5, (.e (.one (.v (.slice none 0 0))))), (6, (.e (.one (.v (.slice none 0 0))))), (7, (iI (Int.ofNat i))), (9, (.e (.one (.ptr 0 0)))), (10, (iI (Int.ofNat p))), (11, (iI (Int.ofNat c))), (13, (iI (Int.ofNat k)))] 82 0⟩
def t47i (C : List DT) (n i k p c _q m N _N2 _m6 _N6 _M6 : Nat) (_r0 _i0 _r1 _i1 _i2 a b a' b' _x _y : Int) (D _D2 _D6 _E6 : List AC) (j : Nat → Value) : St := ⟨[(.some ⟨(D), (N), 3, false, .cells⟩), (.some ⟨[(.v (.int .i64 (a))), (.v (.int .i64 (b))), (.v (.int .i64 (a'))), (.v (.int .i64 (b')))], 4, 22, true, .cells⟩)], [(.code (atC [1, 1, 1, 0, 1, 0, 0, 1, 0, 0, 1, 1, 1, 1, 0, 1, 0, 0] (bodyOf Tryz.f47))), (.inLoop (atC [1, 1, 1, 0, 1, 0, 0, 1, 0, 0, 1, 1, 1, 1, 0, 1, 0, 0] (bodyOf Tryz.f47))), (.inBlock 4), (.code (atC [1, 1, 1, 0, 1, 0, 0, 1, 0, 0, 1, 1, 1, 1, 1] (bodyOf Tryz.f47))), (.inBlock 1), (.code (atC [1, 1, 1, 0, 1, 0, 0, 1, 1] (bodyOf Tryz.f47))), (.inLoop (atC [1, 1, 1, 0, 1, 0, 0] (bodyOf Tryz.f47))), (.inBlock 0), (.code (atC [1, 1, 1, 1] (bodyOf Tryz.f47)))], mkT j [(0, (.e (.one (.dp (.s (C) (n) 1))))), (5, (.e (.one (.slc 0 0 (m) 1 (m) false)))), (6, (.e (.one (.v (.slice none 0 0))))), (7, (iI (Int.ofNat i))), (9, (.e (.one (.ptr 1 0)))), (10, (iI (Int.ofNat p))), (11, (iI (Int.ofNat c))), (13, (iI (Int.ofNat k)))] 82 0⟩
def t47d (C : List DT) (n i k p c _q m N _N2 m6 N6 _M6 : Nat) (_r0 _i0 _r1 _i1 _i2 a b a' b' _x _y : Int) (D _D2 D6 _E6 : List AC) (j : Nat → Value) : St := ⟨[(.some ⟨(D), (N), 3, false, .cells⟩), (.some ⟨(D6), (N6), 3, false, .cells⟩), (.some ⟨[(.v (.int .i64 (a))), (.v (.int .i64 (b))), (.v (.int .i64 (a'))), (.v (.int .i64 (b')))], 4, 22, true, .cells⟩)], [(.code (atC [1, 1, 1, 0, 1, 0, 0, 1, 0, 0, 1, 1, 1, 1, 0, 1, 0, 0] (bodyOf Tryz.f47))), (.inLoop (atC [1, 1, 1, 0, 1, 0, 0, 1, 0, 0, 1, 1, 1, 1, 0, 1, 0, 0] (bodyOf Tryz.f47))), (.inBlock 4), (.code (atC [1, 1, 1, 0, 1, 0, 0, 1, 0, 0, 1, 1, 1, 1, 1] (bodyOf Tryz.f47))), (.inBlock 1), (.code (atC [1, 1, 1, 0, 1, 0, 0, 1, 1] (bodyOf Tryz.f47))), (.inLoop (atC [1, 1, 1, 0, 1, 0, 0] (bodyOf Tryz.f47))), (.inBlock 0), (.code (atC [1, 1, 1, 1] (bodyOf Tryz.f47)))], mkT j [(0, (.e (.one (.dp (.s (C) (n) 1))))), (5, (.e (.one (.slc 0 0 (m) 1 (m) false)))), (6, (.e (.one (.slc 1 0 (m6) 1 (m6) false)))), (7, (iI (Int.ofNat i))), (9, (.e (.one (.ptr 2 0)))), (10, (iI (Int.ofNat p))), (11, (iI (Int.ofNat c))), (13, (iI (Int.ofNat k)))] 82 0⟩
def p47e_end (_C : List DT) (_n _i _k _p _c _q _m _N _N2 _m6 _N6 _M6 : Nat) (_r0 _i0 _r1 _i1 _i2 _a _b _a' _b' _x _y : Int) (_D _D2 _D6 _E6 : List AC) (j : Nat → Value) : St := ⟨[], [(.code .ret), (.code (atC [1, 1] (bodyOf Tryz.f47)))], mkT j [(2, (.e (.one (.v (.slice none 0 0))))), (3, (.e (.one (.v (.slice none 0 0))))), (4, (iI 16))] 82 0⟩
theorem p47e (hE : EnvOk E) (C : List DT) (n i k p c q m N N2 m6 N6 M6 : Nat) (r0 i0 r1 i1 i2 a b a' b' x y : Int) (D D2 D6 E6 : List AC) (h0 : (decide ((↑n : Int) < (8 : Int)) : Bool) = true) {Φ : Res → Prop} (ho : ∀ j, OutK E 0 0 (p47e_end C n i k p c q m N N2 m6 N6 M6 r0 i0 r1 i1 i2 a b a' b' x y D D2 D6 E6 j) Φ) (j : Nat → Value) : OutK E 0 0 (s47 C n i k p c q m N N2 m6 N6 M6 r0 i0 r1 i1 i2 a b a' b' x y D D2 D6 E6 j) Φ :=
  outK_seg hE (R0_ok hE) [.run 4, (.ops [(1, (.d .len))] []), (.cond true), .run 2] [2, 3, 4] (fun j => by kernel_rfl) (aP h0 <| aZ)
    ho
def p47a_end (C : List DT) (n _i _k _p _c _q _m _N _N2 _m6 _N6 _M6 : Nat) (_r0 _i0 _r1 _i1 _i2 _a _b _a' _b' _x _y : Int) (_D _D2 _D6 _E6 : List AC) (j : Nat → Value) : St := ⟨[], [(.code (atC [1, 1, 1, 0, 1, 0, 0] (bodyOf Tryz.f47))), (.inLoop (atC [1, 1, 1, 0, 1, 0, 0] (bodyOf Tryz.f47))), (.inBlock 0), (.code (atC [1, 1, 1, 1] (bodyOf Tryz.f47)))], mkT j [(0, (.e (.one (.dp (.s (C) (n) 1))))), (5, (.e (.one (.v (.slice none 0 0))))), (6, (.e (.one (.v (.slice none 0 0))))), (7, (iI 1))] 82 0⟩
theorem p47a (hE : EnvOk E) (C : List DT) (n i k p c q m N N2 m6 N6 M6 : Nat) (r0 i0 r1 i1 i2 a b a' b' x y : Int) (D D2 D6 E6 : List AC) (h0 : (decide ((↑n : Int) < (8 : Int)) : Bool) = false) {Φ : Res → Prop} (ho : ∀ j, OutK E 0 0 (p47a_end C n i k p c q m N N2 m6 N6 M6 r0 i0 r1 i1 i2 a b a' b' x y D D2 D6 E6 j) Φ) (j : Nat → Value) : OutK E 0 0 (s47 C n i k p c q m N N2 m6 N6 M6 r0 i0 r1 i1 i2 a b a' b' x y D D2 D6 E6 j) Φ :=
  outK_seg hE (R0_ok hE) [.run 4, (.ops [(1, (.d .len))] []), (.cond false), .run 8] [0, 5, 6, 7] (fun j => by kernel_rfl) (aP h0 <| aZ)
    ho
def p47zb_end (C : List DT) (n i _k _p _c _q _m _N _N2 _m6 _N6 _M6 : Nat) (_r0 _i0 _r1 _i1 _i2 a b a' b' _x _y : Int) (_D _D2 _D6 _E6 : List AC) (j : Nat → Value) : St := ⟨[(.some ⟨[(.v (.int .i64 (a))), (.v (.int .i64 (b))), (.v (.int .i64 (a'))), (.v (.int .i64 (b')))], 4, 22, true, .cells⟩)], [(.code (atC [1, 1, 1, 0, 1, 0, 0, 1, 0, 0, 1, 1, 1, 0, 1, 0, 0] (bodyOf Tryz.f47))), (.inLoop (atC [1, 1, 1, 0, 1, 0, 0, 1, 0, 0, 1, 1, 1, 0, 1, 0, 0] (bodyOf Tryz.f47))), (.inBlock 2), (.code (atC [1, 1, 1, 0, 1, 0, 0, 1, 0, 0, 1, 1, 1, 1] (bodyOf Tryz.f47))), (.inBlock 1), (.code (atC [1, 1, 1, 0, 1, 0, 0, 1, 1] (bodyOf Tryz.f47))), (.inLoop (atC [1, 1, 1, 0, 1, 0, 0] (bodyOf Tryz.f47))), (.inBlock 0), (.code (atC [1, 1, 1, 1] (bodyOf Tryz.f47)))], mkT j [(0, (.e (.one (.dp (.s (C) (n) 1))))), (5, (.e (.one (.v (.slice none 0 0))))), (6, (.e (.one (.v (.slice none 0 0))))), (7, (iI (Int.ofNat i))), (9, (.e (.one (.ptr 0 0)))), (10, (iI 0)), (11, (iI 0)), (12, (iI 0))] 82 0⟩
theorem p47zb (hE : EnvOk E) (C : List DT) (n i k p c q m N N2 m6 N6 M6 : Nat) (r0 i0 r1 i1 i2 a b a' b' x y : Int) (D D2 D6 E6 : List AC) (h0 : ((iI (wrapF IntKind.i64 ((4 : Int) * Int.ofNat i))) : AV) = (iI (Int.ofNat ((4 : Nat) * i)))) (h1 : (decide (Int.ofNat ((4 : Nat) * i) < (↑n : Int)) : Bool) = true) (h2 : COut E 0 [] 96 [(.e (.one (.dp (.s (C) (n) 1)))), (iI (Int.ofNat i)), (iI 1)] (.e (.agg [(.v (.int .i64 (r1))), (.v (.int .i64 (i1)))])) []) (h4 : ((iI (wrapF IntKind.i64 (Int.ofNat i - (1 : Int)))) : AV) = (iI (Int.ofNat q))) (h5 : COut E 0 [] 96 [(.e (.one (.dp (.s (C) (n) 1)))), (iI (Int.ofNat q)), (iI 1)] (.e (.agg [(.v (.int .i64 (r0))), (.v (.int .i64 (i0)))])) []) (h7 : COut E 0 [] 115 [(.e (.agg [(.v (.int .i64 (r0))), (.v (.int .i64 (i0)))]))] (.e (.agg [(.v (.int .i64 (r0))), (.v (.int .i64 (i2)))])) []) (h9 : COut E 0 [] 108 [(.e (.agg [(.v (.int .i64 (r1))), (.v (.int .i64 (i1)))])), (.e (.agg [(.v (.int .i64 (r0))), (.v (.int .i64 (i2)))]))] (.e (.agg [(.v (.int .i64 (a))), (.v (.int .i64 (b)))])) []) (h11 : ((iI (wrapF IntKind.i64 ((0 : Int) - a))) : AV) = (iI (a'))) (h12 : ((iI (wrapF IntKind.i64 ((0 : Int) - b))) : AV) = (iI (b'))) {Φ : Res → Prop} (ho : ∀ j, OutK E 0 0 (p47zb_end C n i k p c q m N N2 m6 N6 M6 r0 i0 r1 i1 i2 a b a' b' x y D D2 D6 E6 j) Φ) (j : Nat → Value) : OutK E 0 0 (q47z C n i k p c q m N N2 m6 N6 M6 r0 i0 r1 i1 i2 a b a' b' x y D D2 D6 E6 j) Φ :=
  outK_seg hE (R0_ok hE) [.run 2, (.ops [(1, (.rn (iI (Int.ofNat ((4 : Nat) * i))))), (3, (.d .len))] []), (.cond true), .run 4, (.ops [(2, (.c0 (.e (.agg [(.v (.int .i64 (r1))), (.v (.int .i64 (i1)))])))), (5, (.rn (iI (Int.ofNat q)))), (6, (.c0 (.e (.agg [(.v (.int .i64 (r0))), (.v (.int .i64 (i0)))])))), (7, (.c0 (.e (.agg [(.v (.int .i64 (r0))), (.v (.int .i64 (i2)))])))), (8, (.c0 (.e (.agg [(.v (.int .i64 (a))), (.v (.int .i64 (b)))]))))] []), .run 1, (.ops [(6, (.rn (iI (a')))), (9, (.rn (iI (b'))))] []), .run 7] [0, 5, 6, 7, 9, 10, 11, 12] (s' := fun j => ⟨[(.some ⟨[(.v (.int .i64 (a))), (.v (.int .i64 (b)))], 2, 160, true, .cells⟩), (.some ⟨[(.v (.int .i64 (a))), (.v (.int .i64 (b))), (.v (.int .i64 (a'))), (.v (.int .i64 (b')))], 4, 22, true, .cells⟩)], [(.code (atC [1, 1, 1, 0, 1, 0, 0, 1, 0, 0, 1, 1, 1, 0, 1, 0, 0] (bodyOf Tryz.f47))), (.inLoop (atC [1, 1, 1, 0, 1, 0, 0, 1, 0, 0, 1, 1, 1, 0, 1, 0, 0] (bodyOf Tryz.f47))), (.inBlock 2), (.code (atC [1, 1, 1, 0, 1, 0, 0, 1, 0, 0, 1, 1, 1, 1] (bodyOf Tryz.f47))), (.inBlock 1), (.code (atC [1, 1, 1, 0, 1, 0, 0, 1, 1] (bodyOf Tryz.f47))), (.inLoop (atC [1, 1, 1, 0, 1, 0, 0] (bodyOf Tryz.f47))), (.inBlock 0), (.code (atC [1, 1, 1, 1] (bodyOf Tryz.f47)))], mkT j [(0, (.e (.one (.dp (.s (C) (n) 1))))), (5, (.e (.one (.v (.slice none 0 0))))), (6, (.e (.one (.v (.slice none 0 0))))), (7, (iI (Int.ofNat i))), (9, (.e (.one (.ptr 1 0)))), (10, (iI 0)), (11, (iI 0)), (12, (iI 0))] 82 0⟩) (fun j => by kernel_rfl) (aP h0 <| aP h1 <| aP h2 <| aN <| aP h4 <| aP h5 <| aN <| aP h7 <| aN <| aP h9 <| aN <| aP h11 <| aP h12 <| aZ)
    fun j => outK_gc [1] (by decide) (by kernel_rfl) (by kernel_rfl) (by kernel_rfl) (ho j)
def p47ib_end (C : List DT) (n i _k _p _c _q m N _N2 _m6 _N6 _M6 : Nat) (_r0 _i0 _r1 _i1 _i2 a b a' b' _x _y : Int) (D _D2 _D6 _E6 : List AC) (j : Nat → Value) : St := ⟨[(.some ⟨(D), (N), 3, false, .cells⟩), (.some ⟨[(.v (.int .i64 (a))), (.v (.int .i64 (b))), (.v (.int .i64 (a'))), (.v (.int .i64 (b')))], 4, 22, true, .cells⟩)], [(.code (atC [1, 1, 1, 0, 1, 0, 0, 1, 0, 0, 1, 1, 1, 0, 1, 0, 0] (bodyOf Tryz.f47))), (.inLoop (atC [1, 1, 1, 0, 1, 0, 0, 1, 0, 0, 1, 1, 1, 0, 1, 0, 0] (bodyOf Tryz.f47))), (.inBlock 2), (.code (atC [1, 1, 1, 0, 1, 0, 0, 1, 0, 0, 1, 1, 1, 1] (bodyOf Tryz.f47))), (.inBlock 1), (.code (atC [1, 1, 1, 0, 1, 0, 0, 1, 1] (bodyOf Tryz.f47))), (.inLoop (atC [1, 1, 1, 0, 1, 0, 0] (bodyOf Tryz.f47))), (.inBlock 0), (.code (atC [1, 1, 1, 1] (bodyOf Tryz.f47)))], mkT j [(0, (.e (.one (.dp (.s (C) (n) 1))))), (5, (.e (.one (.slc 0 0 (m) 1 (m) false)))), (6, (.e (.one (.v (.slice none 0 0))))), (7, (iI (Int.ofNat i))), (9, (.e (.one (.ptr 1 0)))), (10, (iI 0)), (11, (iI 0)), (12, (iI 0))] 82 0⟩
theorem p47ib (hE : EnvOk E) (C : List DT) (n i k p c q m N N2 m6 N6 M6 : Nat) (r0 i0 r1 i1 i2 a b a' b' x y : Int) (D D2 D6 E6 : List AC) (h0 : ((iI (wrapF IntKind.i64 ((4 : Int) * Int.ofNat i))) : AV) = (iI (Int.ofNat ((4 : Nat) * i)))) (h1 : (decide (Int.ofNat ((4 : Nat) * i) < (↑n : Int)) : Bool) = true) (h2 : COut E 0 [] 96 [(.e (.one (.dp (.s (C) (n) 1)))), (iI (Int.ofNat i)), (iI 1)] (.e (.agg [(.v (.int .i64 (r1))), (.v (.int .i64 (i1)))])) []) (h4 : ((iI (wrapF IntKind.i64 (Int.ofNat i - (1 : Int)))) : AV) = (iI (Int.ofNat q))) (h5 : COut E 0 [] 96 [(.e (.one (.dp (.s (C) (n) 1)))), (iI (Int.ofNat q)), (iI 1)] (.e (.agg [(.v (.int .i64 (r0))), (.v (.int .i64 (i0)))])) []) (h7 : COut E 0 [] 115 [(.e (.agg [(.v (.int .i64 (r0))), (.v (.int .i64 (i0)))]))] (.e (.agg [(.v (.int .i64 (r0))), (.v (.int .i64 (i2)))])) []) (h9 : COut E 0 [] 108 [(.e (.agg [(.v (.int .i64 (r1))), (.v (.int .i64 (i1)))])), (.e (.agg [(.v (.int .i64 (r0))), (.v (.int .i64 (i2)))]))] (.e (.agg [(.v (.int .i64 (a))), (.v (.int .i64 (b)))])) []) (h11 : ((iI (wrapF IntKind.i64 ((0 : Int) - a))) : AV) = (iI (a'))) (h12 : ((iI (wrapF IntKind.i64 ((0 : Int) - b))) : AV) = (iI (b'))) (g0 : FlatC (D)) {Φ : Res → Prop} (ho : ∀ j, OutK E 0 0 (p47ib_end C n i k p c q m N N2 m6 N6 M6 r0 i0 r1 i1 i2 a b a' b' x y D D2 D6 E6 j) Φ) (j : Nat → Value) : OutK E 0 0 (q47i C n i k p c q m N N2 m6 N6 M6 r0 i0 r1 i1 i2 a b a' b' x y D D2 D6 E6 j) Φ :=
  outK_seg hE (R0_ok hE) [.run 2, (.ops [(1, (.rn (iI (Int.ofNat ((4 : Nat) * i))))), (3, (.d .len))] []), (.cond true), .run 4, (.ops [(2, (.c0 (.e (.agg [(.v (.int .i64 (r1))), (.v (.int .i64 (i1)))])))), (5, (.rn (iI (Int.ofNat q)))), (6, (.c0 (.e (.agg [(.v (.int .i64 (r0))), (.v (.int .i64 (i0)))])))), (7, (.c0 (.e (.agg [(.v (.int .i64 (r0))), (.v (.int .i64 (i2)))])))), (8, (.c0 (.e (.agg [(.v (.int .i64 (a))), (.v (.int .i64 (b)))]))))] []), .run 1, (.ops [(6, (.rn (iI (a')))), (9, (.rn (iI (b'))))] []), .run 7] [0, 5, 6, 7, 9, 10, 11, 12] (s' := fun j => ⟨[(.some ⟨(D), (N), 3, false, .cells⟩), (.some ⟨[(.v (.int .i64 (a))), (.v (.int .i64 (b)))], 2, 160, true, .cells⟩), (.some ⟨[(.v (.int .i64 (a))), (.v (.int .i64 (b))), (.v (.int .i64 (a'))), (.v (.int .i64 (b')))], 4, 22, true, .cells⟩)], [(.code (atC [1, 1, 1, 0, 1, 0, 0, 1, 0, 0, 1, 1, 1, 0, 1, 0, 0] (bodyOf Tryz.f47))), (.inLoop (atC [1, 1, 1, 0, 1, 0, 0, 1, 0, 0, 1, 1, 1, 0, 1, 0, 0] (bodyOf Tryz.f47))), (.inBlock 2), (.code (atC [1, 1, 1, 0, 1, 0, 0, 1, 0, 0, 1, 1, 1, 1] (bodyOf Tryz.f47))), (.inBlock 1), (.code (atC [1, 1, 1, 0, 1, 0, 0, 1, 1] (bodyOf Tryz.f47))), (.inLoop (atC [1, 1, 1, 0, 1, 0, 0] (bodyOf Tryz.f47))), (.inBlock 0), (.code (atC [1, 1, 1, 1] (bodyOf Tryz.f47)))], mkT j [(0, (.e (.one (.dp (.s (C) (n) 1))))), (5, (.e (.one (.slc 0 0 (m) 1 (m) false)))), (6, (.e (.one (.v (.slice none 0 0))))), (7, (iI (Int.ofNat i))), (9, (.e (.one (.ptr 2 0)))), (10, (iI 0)), (11, (iI 0)), (12, (iI 0))] 82 0⟩) (fun j => by kernel_rfl) (aP h0 <| aP h1 <| aP h2 <| aN <| aP h4 <| aP h5 <| aN <| aP h7 <| aN <| aP h9 <| aN <| aP h11 <| aP h12 <| aZ)
    fun j => outK_gcF [0, 2] [true, false] (h' := [(.some ⟨(D), (N), 3, false, .cells⟩), (.some ⟨[(.v (.int .i64 (a))), (.v (.int .i64 (b))), (.v (.int .i64 (a'))), (.v (.int .i64 (b')))], 4, 22, true, .cells⟩)]) (by decide) (by kernel_rfl) (by kernel_rfl) ⟨g0, trivial⟩ (by kernel_rfl) (ho j)
def p47ie_end (_C : List DT) (_n _i _k _p _c _q m N _N2 _m6 _N6 _M6 : Nat) (_r0 _i0 _r1 _i1 _i2 _a _b _a' _b' _x _y : Int) (D _D2 _D6 _E6 : List AC) (j : Nat → Value) : St := ⟨[(.some ⟨(D), (N), 3, false, .cells⟩)], [(.code .ret)], mkT j [(2, (.e (.one (.slc 0 0 (m) 1 (m) false)))), (3, (.e (.one (.v (.slice none 0 0))))), (4, (iI 0))] 82 0⟩
theorem p47ie (hE : EnvOk E) (C : List DT) (n i k p c q m N N2 m6 N6 M6 : Nat) (r0 i0 r1 i1 i2 a b a' b' x y : Int) (D D2 D6 E6 : List AC) (h0 : ((iI (wrapF IntKind.i64 ((4 : Int) * Int.ofNat i))) : AV) = (iI (Int.ofNat ((4 : Nat) * i)))) (h1 : (decide (Int.ofNat ((4 : Nat) * i) < (↑n : Int)) : Bool) = false) {Φ : Res → Prop} (ho : ∀ j, OutK E 0 0 (p47ie_end C n i k p c q m N N2 m6 N6 M6 r0 i0 r1 i1 i2 a b a' b' x y D D2 D6 E6 j) Φ) (j : Nat → Value) : OutK E 0 0 (q47i C n i k p c q m N N2 m6 N6 M6 r0 i0 r1 i1 i2 a b a' b' x y D D2 D6 E6 j) Φ :=
  outK_seg hE (R0_ok hE) [.run 2, (.ops [(1, (.rn (iI (Int.ofNat ((4 : Nat) * i))))), (3, (.d .len))] []), (.cond false), .run 3] [2, 3, 4] (fun j => by kernel_rfl) (aP h0 <| aP h1 <| aZ)
    ho
def p47db_end (C : List DT) (n i _k _p _c _q m N _N2 m6 N6 _M6 : Nat) (_r0 _i0 _r1 _i1 _i2 a b a' b' _x _y : Int) (D _D2 D6 _E6 : List AC) (j : Nat → Value) : St := ⟨[(.some ⟨(D), (N), 3, false, .cells⟩), (.some ⟨(D6), (N6), 3, false, .cells⟩), (.some ⟨[(.v (.int .i64 (a))), (.v (.int .i64 (b))), (.v (.int .i64 (a'))), (.v (.int .i64 (b')))], 4, 22, true, .cells⟩)], [(.code (atC [1, 1, 1, 0, 1, 0, 0, 1, 0, 0, 1, 1, 1, 0, 1, 0, 0] (bodyOf Tryz.f47))), (.inLoop (atC [1, 1, 1, 0, 1, 0, 0, 1, 0, 0, 1, 1, 1, 0, 1, 0, 0] (bodyOf Tryz.f47))), (.inBlock 2), (.code (atC [1, 1, 1, 0, 1, 0, 0, 1, 0, 0, 1, 1, 1, 1] (bodyOf Tryz.f47))), (.inBlock 1), (.code (atC [1, 1, 1, 0, 1, 0, 0, 1, 1] (bodyOf Tryz.f47))), (.inLoop (atC [1, 1, 1, 0, 1, 0, 0] (bodyOf Tryz.f47))), (.inBlock 0), (.code (atC [1, 1, 1, 1] (bodyOf Tryz.f47)))], mkT j [(0, (.e (.one (.dp (.s (C) (n) 1))))), (5, (.e (.one (.slc 0 0 (m) 1 (m) false)))), (6, (.e (.one (.slc 1 0 (m6) 1 (m6) false)))), (7, (iI (Int.ofNat i))), (9, (.e (.one (.ptr 2 0)))), (10, (iI 0)), (11, (iI 0)), (12, (iI 0))] 82 0⟩
theorem p47db (hE : EnvOk E) (C : List DT) (n i k p c q m N N2 m6 N6 M6 : Nat) (r0 i0 r1 i1 i2 a b a' b' x y : Int) (D D2 D6 E6 : List AC) (h0 : ((iI (wrapF IntKind.i64 ((4 : Int) * Int.ofNat i))) : AV) = (iI (Int.ofNat ((4 : Nat) * i)))) (h1 : (decide (Int.ofNat ((4 : Nat) * i) < (↑n : Int)) : Bool) = true) (h2 : COut E 0 [] 96 [(.e (.one (.dp (.s (C) (n) 1)))), (iI (Int.ofNat i)), (iI 1)] (.e (.agg [(.v (.int .i64 (r1))), (.v (.int .i64 (i1)))])) []) (h4 : ((iI (wrapF IntKind.i64 (Int.ofNat i - (1 : Int)))) : AV) = (iI (Int.ofNat q))) (h5 : COut E 0 [] 96 [(.e (.one (.dp (.s (C) (n) 1)))), (iI (Int.ofNat q)), (iI 1)] (.e (.agg [(.v (.int .i64 (r0))), (.v (.int .i64 (i0)))])) []) (h7 : COut E 0 [] 115 [(.e (.agg [(.v (.int .i64 (r0))), (.v (.int .i64 (i0)))]))] (.e (.agg [(.v (.int .i64 (r0))), (.v (.int .i64 (i2)))])) []) (h9 : COut E 0 [] 108 [(.e (.agg [(.v (.int .i64 (r1))), (.v (.int .i64 (i1)))])), (.e (.agg [(.v (.int .i64 (r0))), (.v (.int .i64 (i2)))]))] (.e (.agg [(.v (.int .i64 (a))), (.v (.int .i64 (b)))])) []) (h11 : ((iI (wrapF IntKind.i64 ((0 : Int) - a))) : AV) = (iI (a'))) (h12 : ((iI (wrapF IntKind.i64 ((0 : Int) - b))) : AV) = (iI (b'))) (g0 : FlatC (D)) (g1 : FlatC (D6)) {Φ : Res → Prop} (ho : ∀ j, OutK E 0 0 (p47db_end C n i k p c q m N N2 m6 N6 M6 r0 i0 r1 i1 i2 a b a' b' x y D D2 D6 E6 j) Φ) (j : Nat → Value) : OutK E 0 0 (q47d C n i k p c q m N N2 m6 N6 M6 r0 i0 r1 i1 i2 a b a' b' x y D D2 D6 E6 j) Φ :=
  outK_seg hE (R0_ok hE) [.run 2, (.ops [(1, (.rn (iI (Int.ofNat ((4 : Nat) * i))))), (3, (.d .len))] []), (.cond true), .run 4, (.ops [(2, (.c0 (.e (.agg [(.v (.int .i64 (r1))), (.v (.int .i64 (i1)))])))), (5, (.rn (iI (Int.ofNat q)))), (6, (.c0 (.e (.agg [(.v (.int .i64 (r0))), (.v (.int .i64 (i0)))])))), (7, (.c0 (.e (.agg [(.v (.int .i64 (r0))), (.v (.int .i64 (i2)))])))), (8, (.c0 (.e (.agg [(.v (.int .i64 (a))), (.v (.int .i64 (b)))]))))] []), .run 1, (.ops [(6, (.rn (iI (a')))), (9, (.rn (iI (b'))))] []), .run 7] [0, 5, 6, 7, 9, 10, 11, 12] (s' := fun j => ⟨[(.some ⟨(D), (N), 3, false, .cells⟩), (.some ⟨(D6), (N6), 3, false, .cells⟩), (.some ⟨[(.v (.int .i64 (a))), (.v (.int .i64 (b)))], 2, 160, true, .cells⟩), (.some ⟨[(.v (.int .i64 (a))), (.v (.int .i64 (b))), (.v (.int .i64 (a'))), (.v (.int .i64 (b')))], 4, 22, true, .cells⟩)], [(.code (atC [1, 1, 1, 0, 1, 0, 0, 1, 0, 0, 1, 1, 1, 0, 1, 0, 0] (bodyOf Tryz.f47))), (.inLoop (atC [1, 1, 1, 0, 1, 0, 0, 1, 0, 0, 1, 1, 1, 0, 1, 0, 0] (bodyOf Tryz.f47))), (.inBlock 2), (.code (atC [1, 1, 1, 0, 1, 0, 0, 1, 0, 0, 1, 1, 1, 1] (bodyOf Tryz.f47))), (.inBlock 1), (.code (atC [1, 1, 1, 0, 1, 0, 0, 1, 1] (bodyOf Tryz.f47))), (.inLoop (atC [1, 1, 1, 0, 1, 0, 0] (bodyOf Tryz.f47))), (.inBlock 0), (.code (atC [1, 1, 1, 1] (bodyOf Tryz.f47)))], mkT j [(0, (.e (.one (.dp (.s (C) (n) 1))))), (5, (.e (.one (.slc 0 0 (m) 1 (m) false)))), (6, (.e (.one (.slc 1 0 (m6) 1 (m6) false)))), (7, (iI (Int.ofNat i))), (9, (.e (.one (.ptr 3 0)))), (10, (iI 0)), (11, (iI 0)), (12, (iI 0))] 82 0⟩) (fun j => by kernel_rfl) (aP h0 <| aP h1 <| aP h2 <| aN <| aP h4 <| aP h5 <| aN <| aP h7 <| aN <| aP h9 <| aN <| aP h11 <| aP h12 <| aZ)
    fun j => outK_gcF [0, 1, 3] [true, true, false] (h' := [(.some ⟨(D), (N), 3, false, .cells⟩), (.some ⟨(D6), (N6), 3, false, .cells⟩), (.some ⟨[(.v (.int .i64 (a))), (.v (.int .i64 (b))), (.v (.int .i64 (a'))), (.v (.int .i64 (b')))], 4, 22, true, .cells⟩)]) (by decide) (by kernel_rfl) (by kernel_rfl) ⟨g0, g1, trivial⟩ (by kernel_rfl) (ho j)
def p47de_end (_C : List DT) (_n _i _k _p _c _q m N _N2 m6 N6 _M6 : Nat) (_r0 _i0 _r1 _i1 _i2 _a _b _a' _b' _x _y : Int) (D _D2 D6 _E6 : List AC) (j : Nat → Value) : St := ⟨[(.some ⟨(D), (N), 3, false, .cells⟩), (.some ⟨(D6), (N6), 3, false, .cells⟩)], [(.code .ret)], mkT j [(2, (.e (.one (.slc 0 0 (m) 1 (m) false)))), (3, (.e (.one (.slc 1 0 (m6) 1 (m6) false)))), (4, (iI 0))] 82 0⟩
theorem p47de (hE : EnvOk E) (C : List DT) (n i k p c q m N N2 m6 N6 M6 : Nat) (r0 i0 r1 i1 i2 a b a' b' x y : Int) (D D2 D6 E6 : List AC) (h0 : ((iI (wrapF IntKind.i64 ((4 : Int) * Int.ofNat i))) : AV) = (iI (Int.ofNat ((4 : Nat) * i)))) (h1 : (decide (Int.ofNat ((4 : Nat) * i) < (↑n : Int)) : Bool) = false) {Φ : Res → Prop} (ho : ∀ j, OutK E 0 0 (p47de_end C n i k p c q m N N2 m6 N6 M6 r0 i0 r1 i1 i2 a b a' b' x y D D2 D6 E6 j) Φ) (j : Nat → Value) : OutK E 0 0 (q47d C n i k p c q m N N2 m6 N6 M6 r0 i0 r1 i1 i2 a b a' b' x y D D2 D6 E6 j) Φ :=
  outK_seg hE (R0_ok hE) [.run 2, (.ops [(1, (.rn (iI (Int.ofNat ((4 : Nat) * i))))), (3, (.d .len))] []), (.cond false), .run 3] [2, 3, 4] (fun j => by kernel_rfl) (aP h0 <| aP h1 <| aZ)
    ho
def p47zL_end (C : List DT) (n i k p _c _q _m _N _N2 _m6 _N6 _M6 : Nat) (_r0 _i0 _r1 _i1 _i2 a b a' b' _x _y : Int) (_D _D2 _D6 _E6 : List AC) (j : Nat → Value) : St := ⟨[(.some ⟨[(.v (.int .i64 (a))), (.v (.int .i64 (b))), (.v (.int .i64 (a'))), (.v (.int .i64 (b')))], 4, 22, true, .cells⟩)], [(.code (atC [1, 1, 1, 0, 1, 0, 0, 1, 0, 0, 1, 1, 1, 0, 1, 0, 0] (bodyOf Tryz.f47))), (.inLoop (atC [1, 1, 1, 0, 1, 0, 0, 1, 0, 0, 1, 1, 1, 0, 1, 0, 0] (bodyOf Tryz.f47))), (.inBlock 2), (.code (atC [1, 1, 1, 0, 1, 0, 0, 1, 0, 0, 1, 1, 1, 1] (bodyOf Tryz.f47))), (.inBlock 1), (.code (atC [1, 1, 1, 0, 1, 0, 0, 1, 1] (bodyOf Tryz.f47))), (.inLoop (atC [1, 1, 1, 0, 1, 0, 0] (bodyOf Tryz.f47))), (.inBlock 0), (.code (atC [1, 1, 1, 1] (bodyOf Tryz.f47)))], mkT j [(0, (.e (.one (.dp (.s (C) (n) 1))))), (5, (.e (.one (.v (.slice none 0 0))))), (6, (.e (.one (.v (.slice none 0 0))))), (7, (iI (Int.ofNat i))), (9, (.e (.one (.ptr 0 0)))), (10, (iI (Int.ofNat p))), (11, (iI 0)), (12, (iI (Int.ofNat (k + 1))))] 82 0⟩
theorem p47zL (hE : EnvOk E) (C : List DT) (n i k p c q m N N2 m6 N6 M6 : Nat) (r0 i0 r1 i1 i2 a b a' b' x y : Int) (D D2 D6 E6 : List AC) (h0 : (decide (Int.ofNat k < (4 : Int)) : Bool) = true) (h1 : (0 : Int) ≤ Int.ofNat k ∧ Int.ofNat k < (↑(4 : Nat) : Int)) (h2 : (nat_lit 0 + (Int.ofNat k).toNat * 1 : Nat) = k) (h3 : (getL [AC.v (Value.int IntKind.i64 a), AC.v (Value.int IntKind.i64 b), AC.v (Value.int IntKind.i64 a'), AC.v (Value.int IntKind.i64 b')] k : Option AC) = (.some (.v (.int .i64 (x))))) (h4 : (0 : Int) ≤ Int.ofNat p ∧ Int.ofNat p < (↑(4 : Nat) : Int)) (h5 : (nat_lit 0 + (Int.ofNat p).toNat * 1 : Nat) = p) (h6 : (getL [AC.v (Value.int IntKind.i64 a), AC.v (Value.int IntKind.i64 b), AC.v (Value.int IntKind.i64 a'), AC.v (Value.int IntKind.i64 b')] p : Option AC) = (.some (.v (.int .i64 (y))))) (h8 : (decide (x > y) : Bool) = false) (h9 : ((iI (wrapF IntKind.i64 (Int.ofNat k + (1 : Int)))) : AV) = (iI (Int.ofNat (k + 1)))) {Φ : Res → Prop} (ho : ∀ j, OutK E 0 0 (p47zL_end C n i k p c q m N N2 m6 N6 M6 r0 i0 r1 i1 i2 a b a' b' x y D D2 D6 E6 j) Φ) (j : Nat → Value) : OutK E 0 0 (r47z C n i k p c q m N N2 m6 N6 M6 r0 i0 r1 i1 i2 a b a' b' x y D D2 D6 E6 j) Φ :=
  outK_seg hE (R0_ok hE) [.run 3, (.cond true), .run 4, (.ops [(1, (.ix (k))), (2, (.ld (.v (.int .i64 (x))))), (4, (.ix (p))), (5, (.ld (.v (.int .i64 (y)))))] []), (.cond false), .run 2, (.ops [(1, (.rn (iI (Int.ofNat (k + 1)))))] []), .run 1] [0, 5, 6, 7, 9, 10, 11, 12] (fun j => by kernel_rfl) (aP h0 <| aP h1 <| aP h2 <| aP h3 <| aP h4 <| aP h5 <| aP h6 <| aP (rfl : (true : Bool) = true) <| aP h8 <| aP h9 <| aZ)
    ho
def p47zG_end (C : List DT) (n i k _p _c _q _m _N _N2 _m6 _N6 _M6 : Nat) (_r0 _i0 _r1 _i1 _i2 a b a' b' _x _y : Int) (_D _D2 _D6 _E6 : List AC) (j : Nat → Value) : St := ⟨[(.some ⟨[(.v (.int .i64 (a))), (.v (.int .i64 (b))), (.v (.int .i64 (a'))), (.v (.int .i64 (b')))], 4, 22, true, .cells⟩)], [(.code (atC [1, 1, 1, 0, 1, 0, 0, 1, 0, 0, 1, 1, 1, 0, 1, 0, 0] (bodyOf Tryz.f47))), (.inLoop (atC [1, 1, 1, 0, 1, 0, 0, 1, 0, 0, 1, 1, 1, 0, 1, 0, 0] (bodyOf Tryz.f47))), (.inBlock 2), (.code (atC [1, 1, 1, 0, 1, 0, 0, 1, 0, 0, 1, 1, 1, 1] (bodyOf Tryz.f47))), (.inBlock 1), (.code (atC [1, 1, 1, 0, 1, 0, 0, 1, 1] (bodyOf Tryz.f47))), (.inLoop (atC [1, 1, 1, 0, 1, 0, 0] (bodyOf Tryz.f47))), (.inBlock 0), (.code (atC [1, 1, 1, 1] (bodyOf Tryz.f47)))], mkT j [(0, (.e (.one (.dp (.s (C) (n) 1))))), (5, (.e (.one (.v (.slice none 0 0))))), (6, (.e (.one (.v (.slice none 0 0))))), (7, (iI (Int.ofNat i))), (9, (.e (.one (.ptr 0 0)))), (10, (iI (Int.ofNat k))), (11, (iI 0)), (12, (iI (Int.ofNat (k + 1))))] 82 0⟩
theorem p47zG (hE : EnvOk E) (C : List DT) (n i k p c q m N N2 m6 N6 M6 : Nat) (r0 i0 r1 i1 i2 a b a' b' x y : Int) (D D2 D6 E6 : List AC) (h0 : (decide (Int.ofNat k < (4 : Int)) : Bool) = true) (h1 : (0 : Int) ≤ Int.ofNat k ∧ Int.ofNat k < (↑(4 : Nat) : Int)) (h2 : (nat_lit 0 + (Int.ofNat k).toNat * 1 : Nat) = k) (h3 : (getL [AC.v (Value.int IntKind.i64 a), AC.v (Value.int IntKind.i64 b), AC.v (Value.int IntKind.i64 a'), AC.v (Value.int IntKind.i64 b')] k : Option AC) = (.some (.v (.int .i64 (x))))) (h4 : (0 : Int) ≤ Int.ofNat p ∧ Int.ofNat p < (↑(4 : Nat) : Int)) (h5 : (nat_lit 0 + (Int.ofNat p).toNat * 1 : Nat) = p) (h6 : (getL [AC.v (Value.int IntKind.i64 a), AC.v (Value.int IntKind.i64 b), AC.v (Value.int IntKind.i64 a'), AC.v (Value.int IntKind.i64 b')] p : Option AC) = (.some (.v (.int .i64 (y))))) (h8 : (decide (x > y) : Bool) = true) (h9 : ((iI (wrapF IntKind.i64 (Int.ofNat k + (1 : Int)))) : AV) = (iI (Int.ofNat (k + 1)))) {Φ : Res → Prop} (ho : ∀ j, OutK E 0 0 (p47zG_end C n i k p c q m N N2 m6 N6 M6 r0 i0 r1 i1 i2 a b a' b' x y D D2 D6 E6 j) Φ) (j : Nat → Value) : OutK E 0 0 (r47z C n i k p c q m N N2 m6 N6 M6 r0 i0 r1 i1 i2 a b a' b' x y D D2 D6 E6 j) Φ :=
  outK_seg hE (R0_ok hE) [.run 3, (.cond true), .run 4, (.ops [(1, (.ix (k))), (2, (.ld (.v (.int .i64 (x))))), (4, (.ix (p))), (5, (.ld (.v (.int .i64 (y)))))] []), (.cond true), .run 2, (.ops [(1, (.rn (iI (Int.ofNat (k + 1)))))] []), .run 1] [0, 5, 6, 7, 9, 10, 11, 12] (fun j => by kernel_rfl) (aP h0 <| aP h1 <| aP h2 <| aP h3 <| aP h4 <| aP h5 <| aP h6 <| aP (rfl : (true : Bool) = true) <| aP h8 <| aP h9 <| aZ)
    ho
def p47zx_end (C : List DT) (n i _k p _c _q _m _N _N2 _m6 _N6 _M6 : Nat) (_r0 _i0 _r1 _i1 _i2 a b a' b' _x _y : Int) (_D _D2 _D6 _E6 : List AC) (j : Nat → Value) : St := ⟨[(.some ⟨[(.v (.int .i64 (a))), (.v (.int .i64 (b))), (.v (.int .i64 (a'))), (.v (.int .i64 (b')))], 4, 22, true, .cells⟩)], [(.code (atC [1, 1, 1, 0, 1, 0, 0, 1, 0, 0, 1, 1, 1, 1, 0, 1, 0, 0] (bodyOf Tryz.f47))), (.inLoop (atC [1, 1, 1, 0, 1, 0, 0, 1, 0, 0, 1, 1, 1, 1, 0, 1, 0, 0] (bodyOf Tryz.f47))), (.inBlock 4), (.code (atC [1, 1, 1, 0, 1, 0, 0, 1, 0, 0, 1, 1, 1, 1, 1] (bodyOf Tryz.f47))), (.inBlock 1), (.code (atC [1, 1, 1, 0, 1, 0, 0, 1, 1] (bodyOf Tryz.f47))), (.inLoop (atC [1, 1, 1, 0, 1, 0, 0] (bodyOf Tryz.f47))), (.inBlock 0), (.code (atC [1, 1, 1, 1] (bodyOf Tryz.f47)))], mkT j [(0, (.e (.one (.dp (.s (C) (n) 1))))), (5, (.e (.one (.v (.slice none 0 0))))), (6, (.e (.one (.v (.slice none 0 0))))), (7, (iI (Int.ofNat i))), (9, (.e (.one (.ptr 0 0)))), (10, (iI (Int.ofNat p))), (11, (iI 0)), (13, (iI 0))] 82 0⟩
theorem p47zx (hE : EnvOk E) (C : List DT) (n i k p c q m N N2 m6 N6 M6 : Nat) (r0 i0 r1 i1 i2 a b a' b' x y : Int) (D D2 D6 E6 : List AC) (h0 : (decide (Int.ofNat k < (4 : Int)) : Bool) = false) {Φ : Res → Prop} (ho : ∀ j, OutK E 0 0 (p47zx_end C n i k p c q m N N2 m6 N6 M6 r0 i0 r1 i1 i2 a b a' b' x y D D2 D6 E6 j) Φ) (j : Nat → Value) : OutK E 0 0 (r47z C n i k p c q m N N2 m6 N6 M6 r0 i0 r1 i1 i2 a b a' b' x y D D2 D6 E6 j) Φ :=
  outK_seg hE (R0_ok hE) [.run 3, (.cond false), .run 6] [0, 5, 6, 7, 9, 10, 11, 13] (fun j => by kernel_rfl) (aP h0 <| aZ)
    ho
def p47iL_end (C : List DT) (n i k p _c _q m N _N2 _m6 _N6 _M6 : Nat) (_r0 _i0 _r1 _i1 _i2 a b a' b' _x _y : Int) (D _D2 _D6 _E6 : List AC) (j : Nat → Value) : St := ⟨[(.some ⟨(D), (N), 3, false, .cells⟩), (.some ⟨[(.v (.int .i64 (a))), (.v (.int .i64 (b))), (.v (.int .i64 (a'))), (.v (.int .i64 (b')))], 4, 22, true, .cells⟩)], [(.code (atC [1, 1, 1, 0, 1, 0, 0, 1, 0, 0, 1, 1, 1, 0, 1, 0, 0] (bodyOf Tryz.f47))), (.inLoop (atC [1, 1, 1, 0, 1, 0, 0, 1, 0, 0, 1, 1, 1, 0, 1, 0, 0] (bodyOf Tryz.f47))), (.inBlock 2), (.code (atC [1, 1, 1, 0, 1, 0, 0, 1, 0, 0, 1, 1, 1, 1] (bodyOf Tryz.f47))), (.inBlock 1), (.code (atC [1, 1, 1, 0, 1, 0, 0, 1, 1] (bodyOf Tryz.f47))), (.inLoop (atC [1, 1, 1, 0, 1, 0, 0] (bodyOf Tryz.f47))), (.inBlock 0), (.code (atC [1, 1, 1, 1] (bodyOf Tryz.f47)))], mkT j [(0, (.e (.one (.dp (.s (C) (n) 1))))), (5, (.e (.one (.slc 0 0 (m) 1 (m) false)))), (6, (.e (.one (.v (.slice none 0 0))))), (7, (iI (Int.ofNat i))), (9, (.e (.one (.ptr 1 0)))), (10, (iI (Int.ofNat p))), (11, (iI 0)), (12, (iI (Int.ofNat (k + 1))))] 82 0⟩
theorem p47iL (hE : EnvOk E) (C : List DT) (n i k p c q m N N2 m6 N6 M6 : Nat) (r0 i0 r1 i1 i2 a b a' b' x y : Int) (D D2 D6 E6 : List AC) (h0 : (decide (Int.ofNat k < (4 : Int)) : Bool) = true) (h1 : (0 : Int) ≤ Int.ofNat k ∧ Int.ofNat k < (↑(4 : Nat) : Int)) (h2 : (nat_lit 0 + (Int.ofNat k).toNat * 1 : Nat) = k) (h3 : (getL [AC.v (Value.int IntKind.i64 a), AC.v (Value.int IntKind.i64 b), AC.v (Value.int IntKind.i64 a'), AC.v (Value.int IntKind.i64 b')] k : Option AC) = (.some (.v (.int .i64 (x))))) (h4 : (0 : Int) ≤ Int.ofNat p ∧ Int.ofNat p < (↑(4 : Nat) : Int)) (h5 : (nat_lit 0 + (Int.ofNat p).toNat * 1 : Nat) = p) (h6 : (getL [AC.v (Value.int IntKind.i64 a), AC.v (Value.int IntKind.i64 b), AC.v (Value.int IntKind.i64 a'), AC.v (Value.int IntKind.i64 b')] p : Option AC) = (.some (.v (.int .i64 (y))))) (h8 : (decide (x > y) : Bool) = false) (h9 : ((iI (wrapF IntKind.i64 (Int.ofNat k + (1 : Int)))) : AV) = (iI (Int.ofNat (k + 1)))) {Φ : Res → Prop} (ho : ∀ j, OutK E 0 0 (p47iL_end C n i k p c q m N N2 m6 N6 M6 r0 i0 r1 i1 i2 a b a' b' x y D D2 D6 E6 j) Φ) (j : Nat → Value) : OutK E 0 0 (r47i C n i k p c q m N N2 m6 N6 M6 r0 i0 r1 i1 i2 a b a' b' x y D D2 D6 E6 j) Φ :=
  outK_seg hE (R0_ok hE) [.run 3, (.cond true), .run 4, (.ops [(1, (.ix (k))), (2, (.ld (.v (.int .i64 (x))))), (4, (.ix (p))), (5, (.ld (.v (.int .i64 (y)))))] []), (.cond false), .run 2, (.ops [(1, (.rn (iI (Int.ofNat (k + 1)))))] []), .run 1] [0, 5, 6, 7, 9, 10, 11, 12] (fun j => by kernel_rfl) (aP h0 <| aP h1 <| aP h2 <| aP h3 <| aP h4 <| aP h5 <| aP h6 <| aP (rfl : (true : Bool) = true) <| aP h8 <| aP h9 <| aZ)
    ho
def p47iG_end (C : List DT) (n i k _p _c _q m N _N2 _m6 _N6 _M6 : Nat) (_r0 _i0 _r1 _i1 _i2 a b a' b' _x _y : Int) (D _D2 _D6 _E6 : List AC) (j : Nat → Value) : St := ⟨[(.some ⟨(D), (N), 3, false, .cells⟩), (.some ⟨[(.v (.int .i64 (a))), (.v (.int .i64 (b))), (.v (.int .i64 (a'))), (.v (.int .i64 (b')))], 4, 22, true, .cells⟩)], [(.code (atC [1, 1, 1, 0, 1, 0, 0, 1, 0, 0, 1, 1, 1, 0, 1, 0, 0] (bodyOf Tryz.f47))), (.inLoop (atC [1, 1, 1, 0, 1, 0, 0, 1, 0, 0, 1, 1, 1, 0, 1, 0, 0] (bodyOf Tryz.f47))), (.inBlock 2), (.code (atC [1, 1, 1, 0, 1, 0, 0, 1, 0, 0, 1, 1, 1, 1] (bodyOf Tryz.f47))), (.inBlock 1), (.code (atC [1, 1, 1, 0, 1, 0, 0, 1, 1] (bodyOf Tryz.f47))), (.inLoop (atC [1, 1, 1, 0, 1, 0, 0] (bodyOf Tryz.f47))), (.inBlock 0), (.code (atC [1, 1, 1, 1] (bodyOf Tryz.f47)))], mkT j [(0, (.e (.one (.dp (.s (C) (n) 1))))), (5, (.e (.one (.slc 0 0 (m) 1 (m) false)))), (6, (.e (.one (.v (.slice none 0 0))))), (7, (iI (Int.ofNat i))), (9, (.e (.one (.ptr 1 0)))), (10, (iI (Int.ofNat k))), (11, (iI 0)), (12, (iI (Int.ofNat (k + 1))))] 82 0⟩
theorem p47iG (hE : EnvOk E) (C : List DT) (n i k p c q m N N2 m6 N6 M6 : Nat) (r0 i0 r1 i1 i2 a b a' b' x y : Int) (D D2 D6 E6 : List AC) (h0 : (decide (Int.ofNat k < (4 : Int)) : Bool) = true) (h1 : (0 : Int) ≤ Int.ofNat k ∧ Int.ofNat k < (↑(4 : Nat) : Int)) (h2 : (nat_lit 0 + (Int.ofNat k).toNat * 1 : Nat) = k) (h3 : (getL [AC.v (Value.int IntKind.i64 a), AC.v (Value.int IntKind.i64 b), AC.v (Value.int IntKind.i64 a'), AC.v (Value.int IntKind.i64 b')] k : Option AC) = (.some (.v (.int .i64 (x))))) (h4 : (0 : Int) ≤ Int.ofNat p ∧ Int.ofNat p < (↑(4 : Nat) : Int)) (h5 : (nat_lit 0 + (Int.ofNat p).toNat * 1 : Nat) = p) (h6 : (getL [AC.v (Value.int IntKind.i64 a), AC.v (Value.int IntKind.i64 b), AC.v (Value.int IntKind.i64 a'), AC.v (Value.int IntKind.i64 b')] p : Option AC) = (.some (.v (.int .i64 (y))))) (h8 : (decide (x > y) : Bool) = true) (h9 : ((iI (wrapF IntKind.i64 (Int.ofNat k + (1 : Int)))) : AV) = (iI (Int.ofNat (k + 1)))) {Φ : Res → Prop} (ho : ∀ j, OutK E 0 0 (p47iG_end C n i k p c q m N N2 m6 N6 M6 r0 i0 r1 i1 i2 a b a' b' x y D D2 D6 E6 j) Φ) (j : Nat → Value) : OutK E 0 0 (r47i C n i k p c q m N N2 m6 N6 M6 r0 i0 r1 i1 i2 a b a' b' x y D D2 D6 E6 j) Φ :=
  outK_seg hE (R0_ok hE) [.run 3, (.cond true), .run 4, (.ops [(1, (.ix (k))), (2, (.ld (.v (.int .i64 (x))))), (4, (.ix (p))), (5, (.ld (.v (.int .i64 (y)))))] []), (.cond true), .run 2, (.ops [(1, (.rn (iI (Int.ofNat (k + 1)))))] []), .run 1] [0, 5, 6, 7, 9, 10, 11, 12] (fun j => by kernel_rfl) (aP h0 <| aP h1 <| aP h2 <| aP h3 <| aP h4 <| aP h5 <| aP h6 <| aP (rfl : (true : Bool) = true) <| aP h8 <| aP h9 <| aZ)
    ho
def p47ix_end (C : List DT) (n i _k p _c _q m N _N2 _m6 _N6 _M6 : Nat) (_r0 _i0 _r1 _i1 _i2 a b a' b' _x _y : Int) (D _D2 _D6 _E6 : List AC) (j : Nat → Value) : St := ⟨[(.some ⟨(D), (N), 3, false, .cells⟩), (.some ⟨[(.v (.int .i64 (a))), (.v (.int .i64 (b))), (.v (.int .i64 (a'))), (.v (.int .i64 (b')))], 4, 22, true, .cells⟩)], [(.code (atC [1, 1, 1, 0, 1, 0, 0, 1, 0, 0, 1, 1, 1, 1, 0, 1, 0, 0] (bodyOf Tryz.f47))), (.inLoop (atC [1, 1, 1, 0, 1, 0, 0, 1, 0, 0, 1, 1, 1, 1, 0, 1, 0, 0] (bodyOf Tryz.f47))), (.inBlock 4), (.code (atC [1, 1, 1, 0, 1, 0, 0, 1, 0, 0, 1, 1, 1, 1, 1] (bodyOf Tryz.f47))), (.inBlock 1), (.code (atC [1, 1, 1, 0, 1, 0, 0, 1, 1] (bodyOf Tryz.f47))), (.inLoop (atC [1, 1, 1, 0, 1, 0, 0] (bodyOf Tryz.f47))), (.inBlock 0), (.code (atC [1, 1, 1, 1] (bodyOf Tryz.f47)))], mkT j [(0, (.e (.one (.dp (.s (C) (n) 1))))), (5, (.e (.one (.slc 0 0 (m) 1 (m) false)))), (6, (.e (.one (.v (.slice none 0 0))))), (7, (iI (Int.ofNat i))), (9, (.e (.one (.ptr 1 0)))), (10, (iI (Int.ofNat p))), (11, (iI 0)), (13, (iI 0))] 82 0⟩
theorem p47ix (hE : EnvOk E) (C : List DT) (n i k p c q m N N2 m6 N6 M6 : Nat) (r0 i0 r1 i1 i2 a b a' b' x y : Int) (D D2 D6 E6 : List AC) (h0 : (decide (Int.ofNat k < (4 : Int)) : Bool) = false) {Φ : Res → Prop} (ho : ∀ j, OutK E 0 0 (p47ix_end C n i k p c q m N N2 m6 N6 M6 r0 i0 r1 i1 i2 a b a' b' x y D D2 D6 E6 j) Φ) (j : Nat → Value) : OutK E 0 0 (r47i C n i k p c q m N N2 m6 N6 M6 r0 i0 r1 i1 i2 a b a' b' x y D D2 D6 E6 j) Φ :=
  outK_seg hE (R0_ok hE) [.run 3, (.cond false), .run 6] [0, 5, 6, 7, 9, 10, 11, 13] (fun j => by kernel_rfl) (aP h0 <| aZ)
    ho
def p47dL_end (C : List DT) (n i k p _c _q m N _N2 m6 N6 _M6 : Nat) (_r0 _i0 _r1 _i1 _i2 a b a' b' _x _y : Int) (D _D2 D6 _E6 : List AC) (j : Nat → Value) : St := ⟨[(.some ⟨(D), (N), 3, false, .cells⟩), (.some ⟨(D6), (N6), 3, false, .cells⟩), (.some ⟨[(.v (.int .i64 (a))), (.v (.int .i64 (b))), (.v (.int .i64 (a'))), (.v (.int .i64 (b')))], 4, 22, true, .cells⟩)], [(.code (atC [1, 1, 1, 0, 1, 0, 0, 1, 0, 0, 1, 1, 1, 0, 1, 0, 0] (bodyOf Tryz.f47))), (.inLoop (atC [1, 1, 1, 0, 1, 0, 0, 1, 0, 0, 1, 1, 1, 0, 1, 0, 0] (bodyOf Tryz.f47))), (.inBlock 2), (.code (atC [1, 1, 1, 0, 1, 0, 0, 1, 0, 0, 1, 1, 1, 1] (bodyOf Tryz.f47))), (.inBlock 1), (.code (atC [1, 1, 1, 0, 1, 0, 0, 1, 1] (bodyOf Tryz.f47))), (.inLoop (atC [1, 1, 1, 0, 1, 0, 0] (bodyOf Tryz.f47))), (.inBlock 0), (.code (atC [1, 1, 1, 1] (bodyOf Tryz.f47)))], mkT j [(0, (.e (.one (.dp (.s (C) (n) 1))))), (5, (.e (.one (.slc 0 0 (m) 1 (m) false)))), (6, (.e (.one (.slc 1 0 (m6) 1 (m6) false)))), (7, (iI (Int.ofNat i))), (9, (.e (.one (.ptr 2 0)))), (10, (iI (Int.ofNat p))), (11, (iI 0)), (12, (iI (Int.ofNat (k + 1))))] 82 0⟩
theorem p47dL (hE : EnvOk E) (C : List DT) (n i k p c q m N N2 m6 N6 M6 : Nat) (r0 i0 r1 i1 i2 a b a' b' x y : Int) (D D2 D6 E6 : List AC) (h0 : (decide (Int.ofNat k < (4 : Int)) : Bool) = true) (h1 : (0 : Int) ≤ Int.ofNat k ∧ Int.ofNat k < (↑(4 : Nat) : Int)) (h2 : (nat_lit 0 + (Int.ofNat k).toNat * 1 : Nat) = k) (h3 : (getL [AC.v (Value.int IntKind.i64 a), AC.v (Value.int IntKind.i64 b), AC.v (Value.int IntKind.i64 a'), AC.v (Value.int IntKind.i64 b')] k : Option AC) = (.some (.v (.int .i64 (x))))) (h4 : (0 : Int) ≤ Int.ofNat p ∧ Int.ofNat p < (↑(4 : Nat) : Int)) (h5 : (nat_lit 0 + (Int.ofNat p).toNat * 1 : Nat) = p) (h6 : (getL [AC.v (Value.int IntKind.i64 a), AC.v (Value.int IntKind.i64 b), AC.v (Value.int IntKind.i64 a'), AC.v (Value.int IntKind.i64 b')] p : Option AC) = (.some (.v (.int .i64 (y))))) (h8 : (decide (x > y) : Bool) = false) (h9 : ((iI (wrapF IntKind.i64 (Int.ofNat k + (1 : Int)))) : AV) = (iI (Int.ofNat (k + 1)))) {Φ : Res → Prop} (ho : ∀ j, OutK E 0 0 (p47dL_end C n i k p c q m N N2 m6 N6 M6 r0 i0 r1 i1 i2 a b a' b' x y D D2 D6 E6 j) Φ) (j : Nat → Value) : OutK E 0 0 (r47d C n i k p c q m N N2 m6 N6 M6 r0 i0 r1 i1 i2 a b a' b' x y D D2 D6 E6 j) Φ :=
  outK_seg hE (R0_ok hE) [.run 3, (.cond true), .run 4, (.ops [(1, (.ix (k))), (2, (.ld (.v (.int .i64 (x))))), (4, (.ix (p))), (5, (.ld (.v (.int .i64 (y)))))] []), (.cond false), .run 2, (.ops [(1, (.rn (iI (Int.ofNat (k + 1)))))] []), .run 1] [0, 5, 6, 7, 9, 10, 11, 12] (fun j => by kernel_rfl) (aP h0 <| aP h1 <| aP h2 <| aP h3 <| aP h4 <| aP h5 <| aP h6 <| aP (rfl : (true : Bool) = true) <| aP h8 <| aP h9 <| aZ)
    ho
def p47dG_end (C : List DT) (n i k _p _c _q m N _N2 m6 N6 _M6 : Nat) (_r0 _i0 _r1 _i1 _i2 a b a' b' _x _y : Int) (D _D2 D6 _E6 : List AC) (j : Nat → Value) : St := ⟨[(.some ⟨(D), (N), 3, false, .cells⟩), (.some ⟨(D6), (N6), 3, false, .cells⟩), (.some ⟨[(.v (.int .i64 (a))), (.v (.int .i64 (b))), (.v (.int .i64 (a'))), (.v (.int .i64 (b')))], 4, 22, true, .cells⟩)], [(.code (atC [1, 1, 1, 0, 1, 0, 0, 1, 0, 0, 1, 1, 1, 0, 1, 0, 0] (bodyOf Tryz.f47))), (.inLoop (atC [1, 1, 1, 0, 1, 0, 0, 1, 0, 0, 1, 1, 1, 0, 1, 0, 0] (bodyOf Tryz.f47))), (.inBlock 2), (.code (atC [1, 1, 1, 0, 1, 0, 0, 1, 0, 0, 1, 1, 1, 1] (bodyOf Tryz.f47))), (.inBlock 1), (.code (atC [1, 1, 1, 0, 1, 0, 0, 1, 1] (bodyOf Tryz.f47))), (.inLoop (atC [1, 1, 1, 0, 1, 0, 0] (bodyOf Tryz.f47))), (.inBlock 0), (.code (atC [1, 1, 1, 1] (bodyOf Tryz.f47)))], mkT j [(0, (.e (.one (.dp (.s (C) (n) 1))))), (5, (.e (.one (.slc 0 0 (m) 1 (m) false)))), (6, (.e (.one (.slc 1 0 (m6) 1 (m6) false)))), (7, (iI (Int.ofNat i))), (9, (.e (.one (.ptr 2 0)))), (10, (iI (Int.ofNat k))), (11, (iI 0)), (12, (iI (Int.ofNat (k + 1))))] 82 0⟩
theorem p47dG (hE : EnvOk E) (C : List DT) (n i k p c q m N N2 m6 N6 M6 : Nat) (r0 i0 r1 i1 i2 a b a' b' x y : Int) (D D2 D6 E6 : List AC) (h0 : (decide (Int.ofNat k < (4 : Int)) : Bool) = true) (h1 : (0 : Int) ≤ Int.ofNat k ∧ Int.ofNat k < (↑(4 : Nat) : Int)) (h2 : (nat_lit 0 + (Int.ofNat k).toNat * 1 : Nat) = k) (h3 : (getL [AC.v (Value.int IntKind.i64 a), AC.v (Value.int IntKind.i64 b), AC.v (Value.int IntKind.i64 a'), AC.v (Value.int IntKind.i64 b')] k : Option AC) = (.some (.v (.int .i64 (x))))) (h4 : (0 : Int) ≤ Int.ofNat p ∧ Int.ofNat p < (↑(4 : Nat) : Int)) (h5 : (nat_lit 0 + (Int.ofNat p).toNat * 1 : Nat) = p) (h6 : (getL [AC.v (Value.int IntKind.i64 a), AC.v (Value.int IntKind.i64 b), AC.v (Value.int IntKind.i64 a'), AC.v (Value.int IntKind.i64 b')] p : Option AC) = (.some (.v (.int .i64 (y))))) (h8 : (decide (x > y) : Bool) = true) (h9 : ((iI (wrapF IntKind.i64 (Int.ofNat k + (1 : Int)))) : AV) = (iI (Int.ofNat (k + 1)))) {Φ : Res → Prop} (ho : ∀ j, OutK E 0 0 (p47dG_end C n i k p c q m N N2 m6 N6 M6 r0 i0 r1 i1 i2 a b a' b' x y D D2 D6 E6 j) Φ) (j : Nat → Value) : OutK E 0 0 (r47d C n i k p c q m N N2 m6 N6 M6 r0 i0 r1 i1 i2 a b a' b' x y D D2 D6 E6 j) Φ :=
  outK_seg hE (R0_ok hE) [.run 3, (.cond true), .run 4, (.ops [(1, (.ix (k))), (2, (.ld (.v (.int .i64 (x))))), (4, (.ix (p))), (5, (.ld (.v (.int .i64 (y)))))] []), (.cond true), .run 2, (.ops [(1, (.rn (iI (Int.ofNat (k + 1)))))] []), .run 1] [0, 5, 6, 7, 9, 10, 11, 12] (fun j => by kernel_rfl) (aP h0 <| aP h1 <| aP h2 <| aP h3 <| aP h4 <| aP h5 <| aP h6 <| aP (rfl : (true : Bool) = true) <| aP h8 <| aP h9 <| aZ)
    ho
def p47dx_end (C : List DT) (n i _k p _c _q m N _N2 m6 N6 _M6 : Nat) (_r0 _i0 _r1 _i1 _i2 a b a' b' _x _y : Int) (D _D2 D6 _E6 : List AC) (j : Nat → Value) : St := ⟨[(.some ⟨(D), (N), 3, false, .cells⟩), (.some ⟨(D6), (N6), 3, false, .cells⟩), (.some ⟨[(.v (.int .i64 (a))), (.v (.int .i64 (b))), (.v (.int .i64 (a'))), (.v (.int .i64 (b')))], 4, 22, true, .cells⟩)], [(.code (atC [1, 1, 1, 0, 1, 0, 0, 1, 0, 0, 1, 1, 1, 1, 0, 1, 0, 0] (bodyOf Tryz.f47))), (.inLoop (atC [1, 1, 1, 0, 1, 0, 0, 1, 0, 0, 1, 1, 1, 1, 0, 1, 0, 0] (bodyOf Tryz.f47))), (.inBlock 4), (.code (atC [1, 1, 1, 0, 1, 0, 0, 1, 0, 0, 1, 1, 1, 1, 1] (bodyOf Tryz.f47))), (.inBlock 1), (.code (atC [1, 1, 1, 0, 1, 0, 0, 1, 1] (bodyOf Tryz.f47))), (.inLoop (atC [1, 1, 1, 0, 1, 0, 0] (bodyOf Tryz.f47))), (.inBlock 0), (.code (atC [1, 1, 1, 1] (bodyOf Tryz.f47)))], mkT j [(0, (.e (.one (.dp (.s (C) (n) 1))))), (5, (.e (.one (.slc 0 0 (m) 1 (m) false)))), (6, (.e (.one (.slc 1 0 (m6) 1 (m6) false)))), (7, (iI (Int.ofNat i))), (9, (.e (.one (.ptr 2 0)))), (10, (iI (Int.ofNat p))), (11, (iI 0)), (13, (iI 0))] 82 0⟩
theorem p47dx (hE : EnvOk E) (C : List DT) (n i k p c q m N N2 m6 N6 M6 : Nat) (r0 i0 r1 i1 i2 a b a' b' x y : Int) (D D2 D6 E6 : List AC) (h0 : (decide (Int.ofNat k < (4 : Int)) : Bool) = false) {Φ : Res → Prop} (ho : ∀ j, OutK E 0 0 (p47dx_end C n i k p c q m N N2 m6 N6 M6 r0 i0 r1 i1 i2 a b a' b' x y D D2 D6 E6 j) Φ) (j : Nat → Value) : OutK E 0 0 (r47d C n i k p c q m N N2 m6 N6 M6 r0 i0 r1 i1 i2 a b a' b' x y D D2 D6 E6 j) Φ :=
  outK_seg hE (R0_ok hE) [.run 3, (.cond false), .run 6] [0, 5, 6, 7, 9, 10, 11, 13] (fun j => by kernel_rfl) (aP h0 <| aZ)
    ho
def p47zU_end (C : List DT) (n i k p c _q _m _N _N2 _m6 _N6 _M6 : Nat) (_r0 _i0 _r1 _i1 _i2 a b a' b' _x _y : Int) (_D _D2 _D6 _E6 : List AC) (j : Nat → Value) : St := ⟨[(.some ⟨[(.v (.int .i64 (a))), (.v (.int .i64 (b))), (.v (.int .i64 (a'))), (.v (.int .i64 (b')))], 4, 22, true, .cells⟩)], [(.code (atC [1, 1, 1, 0, 1, 0, 0, 1, 0, 0, 1, 1, 1, 1, 0, 1, 0, 0] (bodyOf Tryz.f47))), (.inLoop (atC [1, 1, 1, 0, 1, 0, 0, 1, 0, 0, 1, 1, 1, 1, 0, 1, 0, 0] (bodyOf Tryz.f47))), (.inBlock 4), (.code (atC [1, 1, 1, 0, 1, 0, 0, 1, 0, 0, 1, 1, 1, 1, 1] (bodyOf Tryz.f47))), (.inBlock 1), (.code (atC [1, 1, 1, 0, 1, 0, 0, 1, 1] (bodyOf Tryz.f47))), (.inLoop (atC [1, 1, 1, 0, 1, 0, 0] (bodyOf Tryz.f47))), (.inBlock 0), (.code (atC [1, 1, 1, 1] (bodyOf Tryz.f47)))], mkT j [(0, (.e (.one (.dp (.s (C) (n) 1))))), (5, (.e (.one (.v (.slice none 0 0))))), (6, (.e (.one (.v (.slice none 0 0))))), (7, (iI (Int.ofNat i))), (9, (.e (.one (.ptr 0 0)))), (10, (iI (Int.ofNat p))), (11, (iI (Int.ofNat c))), (13, (iI (Int.ofNat (k + 1))))] 82 0⟩
theorem p47zU (hE : EnvOk E) (C : List DT) (n i k p c q m N N2 m6 N6 M6 : Nat) (r0 i0 r1 i1 i2 a b a' b' x y : Int) (D D2 D6 E6 : List AC) (h0 : (decide (Int.ofNat k < (4 : Int)) : Bool) = true) (h1 : (0 : Int) ≤ Int.ofNat k ∧ Int.ofNat k < (↑(4 : Nat) : Int)) (h2 : (nat_lit 0 + (Int.ofNat k).toNat * 1 : Nat) = k) (h3 : (getL [AC.v (Value.int IntKind.i64 a), AC.v (Value.int IntKind.i64 b), AC.v (Value.int IntKind.i64 a'), AC.v (Value.int IntKind.i64 b')] k : Option AC) = (.some (.v (.int .i64 (x))))) (h4 : (0 : Int) ≤ Int.ofNat p ∧ Int.ofNat p < (↑(4 : Nat) : Int)) (h5 : (nat_lit 0 + (Int.ofNat p).toNat * 1 : Nat) = p) (h6 : (getL [AC.v (Value.int IntKind.i64 a), AC.v (Value.int IntKind.i64 b), AC.v (Value.int IntKind.i64 a'), AC.v (Value.int IntKind.i64 b')] p : Option AC) = (.some (.v (.int .i64 (y))))) (h8 : (x == y : Bool) = false) (h9 : ((iI (wrapF IntKind.i64 (Int.ofNat k + (1 : Int)))) : AV) = (iI (Int.ofNat (k + 1)))) {Φ : Res → Prop} (ho : ∀ j, OutK E 0 0 (p47zU_end C n i k p c q m N N2 m6 N6 M6 r0 i0 r1 i1 i2 a b a' b' x y D D2 D6 E6 j) Φ) (j : Nat → Value) : OutK E 0 0 (t47z C n i k p c q m N N2 m6 N6 M6 r0 i0 r1 i1 i2 a b a' b' x y D D2 D6 E6 j) Φ :=
  outK_seg hE (R0_ok hE) [.run 3, (.cond true), .run 4, (.ops [(1, (.ix (k))), (2, (.ld (.v (.int .i64 (x))))), (4, (.ix (p))), (5, (.ld (.v (.int .i64 (y)))))] []), (.cond false), .run 2, (.ops [(1, (.rn (iI (Int.ofNat (k + 1)))))] []), .run 1] [0, 5, 6, 7, 9, 10, 11, 13] (fun j => by kernel_rfl) (aP h0 <| aP h1 <| aP h2 <| aP h3 <| aP h4 <| aP h5 <| aP h6 <| aP (rfl : (true : Bool) = true) <| aP h8 <| aP h9 <| aZ)
    ho
def p47zV_end (C : List DT) (n i k p c _q _m _N _N2 _m6 _N6 _M6 : Nat) (_r0 _i0 _r1 _i1 _i2 a b a' b' _x _y : Int) (_D _D2 _D6 _E6 : List AC) (j : Nat → Value) : St := ⟨[(.some ⟨[(.v (.int .i64 (a))), (.v (.int .i64 (b))), (.v (.int .i64 (a'))), (.v (.int .i64 (b')))], 4, 22, true, .cells⟩)], [(.code (atC [1, 1, 1, 0, 1, 0, 0, 1, 0, 0, 1, 1, 1, 1, 0, 1, 0, 0] (bodyOf Tryz.f47))), (.inLoop (atC [1, 1, 1, 0, 1, 0, 0, 1, 0, 0, 1, 1, 1, 1, 0, 1, 0, 0] (bodyOf Tryz.f47))), (.inBlock 4), (.code (atC [1, 1, 1, 0, 1, 0, 0, 1, 0, 0, 1, 1, 1, 1, 1] (bodyOf Tryz.f47))), (.inBlock 1), (.code (atC [1, 1, 1, 0, 1, 0, 0, 1, 1] (bodyOf Tryz.f47))), (.inLoop (atC [1, 1, 1, 0, 1, 0, 0] (bodyOf Tryz.f47))), (.inBlock 0), (.code (atC [1, 1, 1, 1] (bodyOf Tryz.f47)))], mkT j [(0, (.e (.one (.dp (.s (C) (n) 1))))), (5, (.e (.one (.v (.slice none 0 0))))), (6, (.e (.one (.v (.slice none 0 0))))), (7, (iI (Int.ofNat i))), (9, (.e (.one (.ptr 0 0)))), (10, (iI (Int.ofNat p))), (11, (iI (Int.ofNat (c + 1)))), (13, (iI (Int.ofNat (k + 1))))] 82 0⟩
theorem p47zV (hE : EnvOk E) (C : List DT) (n i k p c q m N N2 m6 N6 M6 : Nat) (r0 i0 r1 i1 i2 a b a' b' x y : Int) (D D2 D6 E6 : List AC) (h0 : (decide (Int.ofNat k < (4 : Int)) : Bool) = true) (h1 : (0 : Int) ≤ Int.ofNat k ∧ Int.ofNat k < (↑(4 : Nat) : Int)) (h2 : (nat_lit 0 + (Int.ofNat k).toNat * 1 : Nat) = k) (h3 : (getL [AC.v (Value.int IntKind.i64 a), AC.v (Value.int IntKind.i64 b), AC.v (Value.int IntKind.i64 a'), AC.v (Value.int IntKind.i64 b')] k : Option AC) = (.some (.v (.int .i64 (x))))) (h4 : (0 : Int) ≤ Int.ofNat p ∧ Int.ofNat p < (↑(4 : Nat) : Int)) (h5 : (nat_lit 0 + (Int.ofNat p).toNat * 1 : Nat) = p) (h6 : (getL [AC.v (Value.int IntKind.i64 a), AC.v (Value.int IntKind.i64 b), AC.v (Value.int IntKind.i64 a'), AC.v (Value.int IntKind.i64 b')] p : Option AC) = (.some (.v (.int .i64 (y))))) (h8 : (x == y : Bool) = true) (h9 : ((iI (wrapF IntKind.i64 (Int.ofNat c + (1 : Int)))) : AV) = (iI (Int.ofNat (c + 1)))) (h10 : ((iI (wrapF IntKind.i64 (Int.ofNat k + (1 : Int)))) : AV) = (iI (Int.ofNat (k + 1)))) {Φ : Res → Prop} (ho : ∀ j, OutK E 0 0 (p47zV_end C n i k p c q m N N2 m6 N6 M6 r0 i0 r1 i1 i2 a b a' b' x y D D2 D6 E6 j) Φ) (j : Nat → Value) : OutK E 0 0 (t47z C n i k p c q m N N2 m6 N6 M6 r0 i0 r1 i1 i2 a b a' b' x y D D2 D6 E6 j) Φ :=
  outK_seg hE (R0_ok hE) [.run 3, (.cond true), .run 4, (.ops [(1, (.ix (k))), (2, (.ld (.v (.int .i64 (x))))), (4, (.ix (p))), (5, (.ld (.v (.int .i64 (y)))))] []), (.cond true), (.ops [(1, (.rn (iI (Int.ofNat (c + 1)))))] []), .run 1, (.ops [(1, (.rn (iI (Int.ofNat (k + 1)))))] []), .run 1] [0, 5, 6, 7, 9, 10, 11, 13] (fun j => by kernel_rfl) (aP h0 <| aP h1 <| aP h2 <| aP h3 <| aP h4 <| aP h5 <| aP h6 <| aP (rfl : (true : Bool) = true) <| aP h8 <| aP h9 <| aP h10 <| aZ)
    ho
def p47zo_end (C : List DT) (n i _k p _c _q _m _N _N2 _m6 _N6 _M6 : Nat) (_r0 _i0 _r1 _i1 _i2 _a _b _a' _b' _x _y : Int) (_D _D2 _D6 _E6 : List AC) (j : Nat → Value) : St := ⟨[(.some ⟨[(.v (.int .i64 (Int.ofNat p)))], 1, 3, false, .cells⟩)], [(.code (atC [1, 1, 1, 0, 1, 0, 0] (bodyOf Tryz.f47))), (.inLoop (atC [1, 1, 1, 0, 1, 0, 0] (bodyOf Tryz.f47))), (.inBlock 0), (.code (atC [1, 1, 1, 1] (bodyOf Tryz.f47)))], mkT j [(0, (.e (.one (.dp (.s (C) (n) 1))))), (5, (.e (.one (.slc 0 0 1 1 1 false)))), (6, (.e (.one (.v (.slice none 0 0))))), (7, (iI (Int.ofNat (i + 1))))] 82 0⟩
theorem p47zo (hE : EnvOk E) (C : List DT) (n i k p c q m N N2 m6 N6 M6 : Nat) (r0 i0 r1 i1 i2 a b a' b' x y : Int) (D D2 D6 E6 : List AC) (h0 : (decide (Int.ofNat k < (4 : Int)) : Bool) = false) (h1 : (decide (Int.ofNat c > (1 : Int)) : Bool) = false) (h2 : ((iI (wrapF IntKind.i64 (Int.ofNat i + (1 : Int)))) : AV) = (iI (Int.ofNat (i + 1)))) {Φ : Res → Prop} (ho : ∀ j, OutK E 0 0 (p47zo_end C n i k p c q m N N2 m6 N6 M6 r0 i0 r1 i1 i2 a b a' b' x y D D2 D6 E6 j) Φ) (j : Nat → Value) : OutK E 0 0 (t47z C n i k p c q m N N2 m6 N6 M6 r0 i0 r1 i1 i2 a b a' b' x y D D2 D6 E6 j) Φ :=
  outK_seg hE (R0_ok hE) [.run 3, (.cond false), .run 5, (.cond false), .run 2, (.ops [(1, (.rn (iI (Int.ofNat (i + 1)))))] []), .run 1] [0, 5, 6, 7] (s' := fun j => ⟨[(.some ⟨[(.v (.int .i64 (a))), (.v (.int .i64 (b))), (.v (.int .i64 (a'))), (.v (.int .i64 (b')))], 4, 22, true, .cells⟩), (.some ⟨[(.v (.int .i64 (Int.ofNat p)))], 1, 3, true, .cells⟩), (.some ⟨[(.v (.int .i64 (Int.ofNat p)))], 1, 3, false, .cells⟩)], [(.code (atC [1, 1, 1, 0, 1, 0, 0] (bodyOf Tryz.f47))), (.inLoop (atC [1, 1, 1, 0, 1, 0, 0] (bodyOf Tryz.f47))), (.inBlock 0), (.code (atC [1, 1, 1, 1] (bodyOf Tryz.f47)))], mkT j [(0, (.e (.one (.dp (.s (C) (n) 1))))), (5, (.e (.one (.slc 2 0 1 1 1 false)))), (6, (.e (.one (.v (.slice none 0 0))))), (7, (iI (Int.ofNat (i + 1))))] 82 0⟩) (fun j => by kernel_rfl) (aP h0 <| aP h1 <| aP h2 <| aZ)
    fun j => outK_gc [2] (by decide) (by kernel_rfl) (by kernel_rfl) (by kernel_rfl) (ho j)
def p47zw_end (C : List DT) (n i _k p _c q _m _N _N2 _m6 _N6 _M6 : Nat) (_r0 _i0 _r1 _i1 _i2 _a _b _a' _b' _x _y : Int) (_D _D2 _D6 _E6 : List AC) (j : Nat → Value) : St := ⟨[(.some ⟨[(.v (.int .i64 (Int.ofNat p)))], 1, 3, false, .cells⟩), (.some ⟨[(.v (.int .i64 (Int.ofNat q)))], 1, 3, false, .cells⟩)], [(.code (atC [1, 1, 1, 0, 1, 0, 0] (bodyOf Tryz.f47))), (.inLoop (atC [1, 1, 1, 0, 1, 0, 0] (bodyOf Tryz.f47))), (.inBlock 0), (.code (atC [1, 1, 1, 1] (bodyOf Tryz.f47)))], mkT j [(0, (.e (.one (.dp (.s (C) (n) 1))))), (5, (.e (.one (.slc 0 0 1 1 1 false)))), (6, (.e (.one (.slc 1 0 1 1 1 false)))), (7, (iI (Int.ofNat (i + 1))))] 82 0⟩
theorem p47zw (hE : EnvOk E) (C : List DT) (n i k p c q m N N2 m6 N6 M6 : Nat) (r0 i0 r1 i1 i2 a b a' b' x y : Int) (D D2 D6 E6 : List AC) (h0 : (decide (Int.ofNat k < (4 : Int)) : Bool) = false) (h1 : (decide (Int.ofNat c > (1 : Int)) : Bool) = true) (h2 : ((iI (wrapF IntKind.i64 (Int.ofNat i - (1 : Int)))) : AV) = (iI (Int.ofNat q))) (h3 : ((iI (wrapF IntKind.i64 (Int.ofNat i + (1 : Int)))) : AV) = (iI (Int.ofNat (i + 1)))) {Φ : Res → Prop} (ho : ∀ j, OutK E 0 0 (p47zw_end C n i k p c q m N N2 m6 N6 M6 r0 i0 r1 i1 i2 a b a' b' x y D D2 D6 E6 j) Φ) (j : Nat → Value) : OutK E 0 0 (t47z C n i k p c q m N N2 m6 N6 M6 r0 i0 r1 i1 i2 a b a' b' x y D D2 D6 E6 j) Φ :=
  outK_seg hE (R0_ok hE) [.run 3, (.cond false), .run 5, (.cond true), (.ops [(2, (.rn (iI (Int.ofNat q))))] []), .run 1, (.ops [(1, (.rn (iI (Int.ofNat (i + 1)))))] []), .run 1] [0, 5, 6, 7] (s' := fun j => ⟨[(.some ⟨[(.v (.int .i64 (a))), (.v (.int .i64 (b))), (.v (.int .i64 (a'))), (.v (.int .i64 (b')))], 4, 22, true, .cells⟩), (.some ⟨[(.v (.int .i64 (Int.ofNat p)))], 1, 3, true, .cells⟩), (.some ⟨[(.v (.int .i64 (Int.ofNat p)))], 1, 3, false, .cells⟩), (.some ⟨[(.v (.int .i64 (Int.ofNat q)))], 1, 3, true, .cells⟩), (.some ⟨[(.v (.int .i64 (Int.ofNat q)))], 1, 3, false, .cells⟩)], [(.code (atC [1, 1, 1, 0, 1, 0, 0] (bodyOf Tryz.f47))), (.inLoop (atC [1, 1, 1, 0, 1, 0, 0] (bodyOf Tryz.f47))), (.inBlock 0), (.code (atC [1, 1, 1, 1] (bodyOf Tryz.f47)))], mkT j [(0, (.e (.one (.dp (.s (C) (n) 1))))), (5, (.e (.one (.slc 2 0 1 1 1 false)))), (6, (.e (.one (.slc 4 0 1 1 1 false)))), (7, (iI (Int.ofNat (i + 1))))] 82 0⟩) (fun j => by kernel_rfl) (aP h0 <| aP h1 <| aP h2 <| aP h3 <| aZ)
    fun j => outK_gc [2, 4] (by decide) (by kernel_rfl) (by kernel_rfl) (by kernel_rfl) (ho j)
def p47iU_end (C : List DT) (n i k p c _q m N _N2 _m6 _N6 _M6 : Nat) (_r0 _i0 _r1 _i1 _i2 a b a' b' _x _y : Int) (D _D2 _D6 _E6 : List AC) (j : Nat → Value) : St := ⟨[(.some ⟨(D), (N), 3, false, .cells⟩), (.some ⟨[(.v (.int .i64 (a))), (.v (.int .i64 (b))), (.v (.int .i64 (a'))), (.v (.int .i64 (b')))], 4, 22, true, .cells⟩)], [(.code (atC [1, 1, 1, 0, 1, 0, 0, 1, 0, 0, 1, 1, 1, 1, 0, 1, 0, 0] (bodyOf Tryz.f47))), (.inLoop (atC [1, 1, 1, 0, 1, 0, 0, 1, 0, 0, 1, 1, 1, 1, 0, 1, 0, 0] (bodyOf Tryz.f47))), (.inBlock 4), (.code (atC [1, 1, 1, 0, 1, 0, 0, 1, 0, 0, 1, 1, 1, 1, 1] (bodyOf Tryz.f47))), (.inBlock 1), (.code (atC [1, 1, 1, 0, 1, 0, 0, 1, 1] (bodyOf Tryz.f47))), (.inLoop (atC [1, 1, 1, 0, 1, 0, 0] (bodyOf Tryz.f47))), (.inBlock 0), (.code (atC [1, 1, 1, 1] (bodyOf Tryz.f47)))], mkT j [(0, (.e (.one (.dp (.s (C) (n) 1))))), (5, (.e (.one (.slc 0 0 (m) 1 (m) false)))), (6, (.e (.one (.v (.slice none 0 0))))), (7, (iI (Int.ofNat i))), (9, (.e (.one (.ptr 1 0)))), (10, (iI (Int.ofNat p))), (11, (iI (Int.ofNat c))), (13, (iI (Int.ofNat (k + 1))))] 82 0⟩
theorem p47iU (hE : EnvOk E) (C : List DT) (n i k p c q m N N2 m6 N6 M6 : Nat) (r0 i0 r1 i1 i2 a b a' b' x y : Int) (D D2 D6 E6 : List AC) (h0 : (decide (Int.ofNat k < (4 : Int)) : Bool) = true) (h1 : (0 : Int) ≤ Int.ofNat k ∧ Int.ofNat k < (↑(4 : Nat) : Int)) (h2 : (nat_lit 0 + (Int.ofNat k).toNat * 1 : Nat) = k) (h3 : (getL [AC.v (Value.int IntKind.i64 a), AC.v (Value.int IntKind.i64 b), AC.v (Value.int IntKind.i64 a'), AC.v (Value.int IntKind.i64 b')] k : Option AC) = (.some (.v (.int .i64 (x))))) (h4 : (0 : Int) ≤ Int.ofNat p ∧ Int.ofNat p < (↑(4 : Nat) : Int)) (h5 : (nat_lit 0 + (Int.ofNat p).toNat * 1 : Nat) = p) (h6 : (getL [AC.v (Value.int IntKind.i64 a), AC.v (Value.int IntKind.i64 b), AC.v (Value.int IntKind.i64 a'), AC.v (Value.int IntKind.i64 b')] p : Option AC) = (.some (.v (.int .i64 (y))))) (h8 : (x == y : Bool) = false) (h9 : ((iI (wrapF IntKind.i64 (Int.ofNat k + (1 : Int)))) : AV) = (iI (Int.ofNat (k + 1)))) {Φ : Res → Prop} (ho : ∀ j, OutK E 0 0 (p47iU_end C n i k p c q m N N2 m6 N6 M6 r0 i0 r1 i1 i2 a b a' b' x y D D2 D6 E6 j) Φ) (j : Nat → Value) : OutK E 0 0 (t47i C n i k p c q m N N2 m6 N6 M6 r0 i0 r1 i1 i2 a b a' b' x y D D2 D6 E6 j) Φ :=
  outK_seg hE (R0_ok hE) [.run 3, (.cond true), .run 4, (.ops [(1, (.ix (k))), (2, (.ld (.v (.int .i64 (x))))), (4, (.ix (p))), (5, (.ld (.v (.int .i64 (y)))))] []), (.cond false), .run 2, (.ops [(1, (.rn (iI (Int.ofNat (k + 1)))))] []), .run 1] [0, 5, 6, 7, 9, 10, 11, 13] (fun j => by kernel_rfl) (aP h0 <| aP h1 <| aP h2 <| aP h3 <| aP h4 <| aP h5 <| aP h6 <| aP (rfl : (true : Bool) = true) <| aP h8 <| aP h9 <| aZ)
    ho
def p47iV_end (C : List DT) (n i k p c _q m N _N2 _m6 _N6 _M6 : Nat) (_r0 _i0 _r1 _i1 _i2 a b a' b' _x _y : Int) (D _D2 _D6 _E6 : List AC) (j : Nat → Value) : St := ⟨[(.some ⟨(D), (N), 3, false, .cells⟩), (.some ⟨[(.v (.int .i64 (a))), (.v (.int .i64 (b))), (.v (.int .i64 (a'))), (.v (.int .i64 (b')))], 4, 22, true, .cells⟩)], [(.code (atC [1, 1, 1, 0, 1, 0, 0, 1, 0, 0, 1, 1, 1, 1, 0, 1, 0, 0] (bodyOf Tryz.f47))), (.inLoop (atC [1, 1, 1, 0, 1, 0, 0, 1, 0, 0, 1, 1, 1, 1, 0, 1, 0, 0] (bodyOf Tryz.f47))), (.inBlock 4), (.code (atC [1, 1, 1, 0, 1, 0, 0, 1, 0, 0, 1, 1, 1, 1, 1] (bodyOf Tryz.f47))), (.inBlock 1), (.code (atC [1, 1, 1, 0, 1, 0, 0, 1, 1] (bodyOf Tryz.f47))), (.inLoop (atC [1, 1, 1, 0, 1, 0, 0] (bodyOf Tryz.f47))), (.inBlock 0), (.code (atC [1, 1, 1, 1] (bodyOf Tryz.f47)))], mkT j [(0, (.e (.one (.dp (.s (C) (n) 1))))), (5, (.e (.one (.slc 0 0 (m) 1 (m) false)))), (6, (.e (.one (.v (.slice none 0 0))))), (7, (iI (Int.ofNat i))), (9, (.e (.one (.ptr 1 0)))), (10, (iI (Int.ofNat p))), (11, (iI (Int.ofNat (c + 1)))), (13, (iI (Int.ofNat (k + 1))))] 82 0⟩
theorem p47iV (hE : EnvOk E) (C : List DT) (n i k p c q m N N2 m6 N6 M6 : Nat) (r0 i0 r1 i1 i2 a b a' b' x y : Int) (D D2 D6 E6 : List AC) (h0 : (decide (Int.ofNat k < (4 : Int)) : Bool) = true) (h1 : (0 : Int) ≤ Int.ofNat k ∧ Int.ofNat k < (↑(4 : Nat) : Int)) (h2 : (nat_lit 0 + (Int.ofNat k).toNat * 1 : Nat) = k) (h3 : (getL [AC.v (Value.int IntKind.i64 a), AC.v (Value.int IntKind.i64 b), AC.v (Value.int IntKind.i64 a'), AC.v (Value.int IntKind.i64 b')] k : Option AC) = (.some (.v (.int .i64 (x))))) (h4 : (0 : Int) ≤ Int.ofNat p ∧ Int.ofNat p < (↑(4 : Nat) : Int)) (h5 : (nat_lit 0 + (Int.ofNat p).toNat * 1 : Nat) = p) (h6 : (getL [AC.v (Value.int IntKind.i64 a), AC.v (Value.int IntKind.i64 b), AC.v (Value.int IntKind.i64 a'), AC.v (Value.int IntKind.i64 b')] p : Option AC) = (.some (.v (.int .i64 (y))))) (h8 : (x == y : Bool) = true) (h9 : ((iI (wrapF IntKind.i64 (Int.ofNat c + (1 : Int)))) : AV) = (iI (Int.ofNat (c + 1)))) (h10 : ((iI (wrapF IntKind.i64 (Int.ofNat k + (1 : Int)))) : AV) = (iI (Int.ofNat (k + 1)))) {Φ : Res → Prop} (ho : ∀ j, OutK E 0 0 (p47iV_end C n i k p c q m N N2 m6 N6 M6 r0 i0 r1 i1 i2 a b a' b' x y D D2 D6 E6 j) Φ) (j : Nat → Value) : OutK E 0 0 (t47i C n i k p c q m N N2 m6 N6 M6 r0 i0 r1 i1 i2 a b a' b' x y D D2 D6 E6 j) Φ :=
  outK_seg hE (R0_ok hE) [.run 3, (.cond true), .run 4, (.ops [(1, (.ix (k))), (2, (.ld (.v (.int .i64 (x))))), (4, (.ix (p))), (5, (.ld (.v (.int .i64 (y)))))] []), (.cond true), (.ops [(1, (.rn (iI (Int.ofNat (c + 1)))))] []), .run 1, (.ops [(1, (.rn (iI (Int.ofNat (k + 1)))))] []), .run 1] [0, 5, 6, 7, 9, 10, 11, 13] (fun j => by kernel_rfl) (aP h0 <| aP h1 <| aP h2 <| aP h3 <| aP h4 <| aP h5 <| aP h6 <| aP (rfl : (true : Bool) = true) <| aP h8 <| aP h9 <| aP h10 <| aZ)
    ho
def p47io_end (C : List DT) (n i _k _p _c _q m _N N2 _m6 _N6 _M6 : Nat) (_r0 _i0 _r1 _i1 _i2 _a _b _a' _b' _x _y : Int) (_D D2 _D6 _E6 : List AC) (j : Nat → Value) : St := ⟨[(.some ⟨(D2), (N2), 3, false, .cells⟩)], [(.code (atC [1, 1, 1, 0, 1, 0, 0] (bodyOf Tryz.f47))), (.inLoop (atC [1, 1, 1, 0, 1, 0, 0] (bodyOf Tryz.f47))), (.inBlock 0), (.code (atC [1, 1, 1, 1] (bodyOf Tryz.f47)))], mkT j [(0, (.e (.one (.dp (.s (C) (n) 1))))), (5, (.e (.one (.slc 0 0 (m + 1) 1 (m + 1) false)))), (6, (.e (.one (.v (.slice none 0 0))))), (7, (iI (Int.ofNat (i + 1))))] 82 0⟩
theorem p47io (hE : EnvOk E) (C : List DT) (n i k p c q m N N2 m6 N6 M6 : Nat) (r0 i0 r1 i1 i2 a b a' b' x y : Int) (D D2 D6 E6 : List AC) (h0 : (decide (Int.ofNat k < (4 : Int)) : Bool) = false) (h1 : ¬m + 1 ≤ m) (h2 : (small (m + 1) (1 : Nat) (8 : Nat) : Bool) = true) (h3 : (N : Nat) = m * nat_lit 1) (h4 : (appL D ((fun x => AC.v (Value.int IntKind.i64 (Int.ofNat p)) :: x) []) : List AC) = D2) (h6 : ((m + 1) * nat_lit 1 : Nat) = N2) (h7 : (decide (Int.ofNat c > (1 : Int)) : Bool) = false) (h8 : ((iI (wrapF IntKind.i64 (Int.ofNat i + (1 : Int)))) : AV) = (iI (Int.ofNat (i + 1)))) (g0 : FlatC (D2)) {Φ : Res → Prop} (ho : ∀ j, OutK E 0 0 (p47io_end C n i k p c q m N N2 m6 N6 M6 r0 i0 r1 i1 i2 a b a' b' x y D D2 D6 E6 j) Φ) (j : Nat → Value) : OutK E 0 0 (t47i C n i k p c q m N N2 m6 N6 M6 r0 i0 r1 i1 i2 a b a' b' x y D D2 D6 E6 j) Φ :=
  outK_seg hE (R0_ok hE) [.run 3, (.cond false), .run 2, (.ops [(3, (.app (m + 1) (N2) (D2)))] []), .run 2, (.cond false), .run 2, (.ops [(1, (.rn (iI (Int.ofNat (i + 1)))))] []), .run 1] [0, 5, 6, 7] (s' := fun j => ⟨[none, (.some ⟨[(.v (.int .i64 (a))), (.v (.int .i64 (b))), (.v (.int .i64 (a'))), (.v (.int .i64 (b')))], 4, 22, true, .cells⟩), (.some ⟨[(.v (.int .i64 (Int.ofNat p)))], 1, 3, true, .cells⟩), (.some ⟨(D2), (N2), 3, false, .cells⟩)], [(.code (atC [1, 1, 1, 0, 1, 0, 0] (bodyOf Tryz.f47))), (.inLoop (atC [1, 1, 1, 0, 1, 0, 0] (bodyOf Tryz.f47))), (.inBlock 0), (.code (atC [1, 1, 1, 1] (bodyOf Tryz.f47)))], mkT j [(0, (.e (.one (.dp (.s (C) (n) 1))))), (5, (.e (.one (.slc 3 0 (m + 1) 1 (m + 1) false)))), (6, (.e (.one (.v (.slice none 0 0))))), (7, (iI (Int.ofNat (i + 1))))] 82 0⟩) (fun j => by kernel_rfl) (aP h0 <| aP h1 <| aP h2 <| aP h3 <| aP h4 <| aP (rfl : (m + 1 : Nat) = m + 1) <| aP h6 <| aP h7 <| aP h8 <| aZ)
    fun j => outK_gcF [3] [true] (h' := [(.some ⟨(D2), (N2), 3, false, .cells⟩)]) (by decide) (by kernel_rfl) (by kernel_rfl) ⟨g0, trivial⟩ (by kernel_rfl) (ho j)
def p47iw_end (C : List DT) (n i _k _p _c q m _N N2 _m6 _N6 _M6 : Nat) (_r0 _i0 _r1 _i1 _i2 _a _b _a' _b' _x _y : Int) (_D D2 _D6 _E6 : List AC) (j : Nat → Value) : St := ⟨[(.some ⟨(D2), (N2), 3, false, .cells⟩), (.some ⟨[(.v (.int .i64 (Int.ofNat q)))], 1, 3, false, .cells⟩)], [(.code (atC [1, 1, 1, 0, 1, 0, 0] (bodyOf Tryz.f47))), (.inLoop (atC [1, 1, 1, 0, 1, 0, 0] (bodyOf Tryz.f47))), (.inBlock 0), (.code (atC [1, 1, 1, 1] (bodyOf Tryz.f47)))], mkT j [(0, (.e (.one (.dp (.s (C) (n) 1))))), (5, (.e (.one (.slc 0 0 (m + 1) 1 (m + 1) false)))), (6, (.e (.one (.slc 1 0 1 1 1 false)))), (7, (iI (Int.ofNat (i + 1))))] 82 0⟩
theorem p47iw (hE : EnvOk E) (C : List DT) (n i k p c q m N N2 m6 N6 M6 : Nat) (r0 i0 r1 i1 i2 a b a' b' x y : Int) (D D2 D6 E6 : List AC) (h0 : (decide (Int.ofNat k < (4 : Int)) : Bool) = false) (h1 : ¬m + 1 ≤ m) (h2 : (small (m + 1) (1 : Nat) (8 : Nat) : Bool) = true) (h3 : (N : Nat) = m * nat_lit 1) (h4 : (appL D ((fun x => AC.v (Value.int IntKind.i64 (Int.ofNat p)) :: x) []) : List AC) = D2) (h6 : ((m + 1) * nat_lit 1 : Nat) = N2) (h7 : (decide (Int.ofNat c > (1 : Int)) : Bool) = true) (h8 : ((iI (wrapF IntKind.i64 (Int.ofNat i - (1 : Int)))) : AV) = (iI (Int.ofNat q))) (h9 : ((iI (wrapF IntKind.i64 (Int.ofNat i + (1 : Int)))) : AV) = (iI (Int.ofNat (i + 1)))) (g0 : FlatC (D2)) {Φ : Res → Prop} (ho : ∀ j, OutK E 0 0 (p47iw_end C n i k p c q m N N2 m6 N6 M6 r0 i0 r1 i1 i2 a b a' b' x y D D2 D6 E6 j) Φ) (j : Nat → Value) : OutK E 0 0 (t47i C n i k p c q m N N2 m6 N6 M6 r0 i0 r1 i1 i2 a b a' b' x y D D2 D6 E6 j) Φ :=
  outK_seg hE (R0_ok hE) [.run 3, (.cond false), .run 2, (.ops [(3, (.app (m + 1) (N2) (D2)))] []), .run 2, (.cond true), (.ops [(2, (.rn (iI (Int.ofNat q))))] []), .run 1, (.ops [(1, (.rn (iI (Int.ofNat (i + 1)))))] []), .run 1] [0, 5, 6, 7] (s' := fun j => ⟨[none, (.some ⟨[(.v (.int .i64 (a))), (.v (.int .i64 (b))), (.v (.int .i64 (a'))), (.v (.int .i64 (b')))], 4, 22, true, .cells⟩), (.some ⟨[(.v (.int .i64 (Int.ofNat p)))], 1, 3, true, .cells⟩), (.some ⟨(D2), (N2), 3, false, .cells⟩), (.some ⟨[(.v (.int .i64 (Int.ofNat q)))], 1, 3, true, .cells⟩), (.some ⟨[(.v (.int .i64 (Int.ofNat q)))], 1, 3, false, .cells⟩)], [(.code (atC [1, 1, 1, 0, 1, 0, 0] (bodyOf Tryz.f47))), (.inLoop (atC [1, 1, 1, 0, 1, 0, 0] (bodyOf Tryz.f47))), (.inBlock 0), (.code (atC [1, 1, 1, 1] (bodyOf Tryz.f47)))], mkT j [(0, (.e (.one (.dp (.s (C) (n) 1))))), (5, (.e (.one (.slc 3 0 (m + 1) 1 (m + 1) false)))), (6, (.e (.one (.slc 5 0 1 1 1 false)))), (7, (iI (Int.ofNat (i + 1))))] 82 0⟩) (fun j => by kernel_rfl) (aP h0 <| aP h1 <| aP h2 <| aP h3 <| aP h4 <| aP (rfl : (m + 1 : Nat) = m + 1) <| aP h6 <| aP h7 <| aP h8 <| aP h9 <| aZ)
    fun j => outK_gcF [3, 5] [true, false] (h' := [(.some ⟨(D2), (N2), 3, false, .cells⟩), (.some ⟨[(.v (.int .i64 (Int.ofNat q)))], 1, 3, false, .cells⟩)]) (by decide) (by kernel_rfl) (by kernel_rfl) ⟨g0, trivial⟩ (by kernel_rfl) (ho j)
def p47dU_end (C : List DT) (n i k p c _q m N _N2 m6 N6 _M6 : Nat) (_r0 _i0 _r1 _i1 _i2 a b a' b' _x _y : Int) (D _D2 D6 _E6 : List AC) (j : Nat → Value) : St := ⟨[(.some ⟨(D), (N), 3, false, .cells⟩), (.some ⟨(D6), (N6), 3, false, .cells⟩), (.some ⟨[(.v (.int .i64 (a))), (.v (.int .i64 (b))), (.v (.int .i64 (a'))), (.v (.int .i64 (b')))], 4, 22, true, .cells⟩)], [(.code (atC [1, 1, 1, 0, 1, 0, 0, 1, 0, 0, 1, 1, 1, 1, 0, 1, 0, 0] (bodyOf Tryz.f47))), (.inLoop (atC [1, 1, 1, 0, 1, 0, 0, 1, 0, 0, 1, 1, 1, 1, 0, 1, 0, 0] (bodyOf Tryz.f47))), (.inBlock 4), (.code (atC [1, 1, 1, 0, 1, 0, 0, 1, 0, 0, 1, 1, 1, 1, 1] (bodyOf Tryz.f47))), (.inBlock 1), (.code (atC [1, 1, 1, 0, 1, 0, 0, 1, 1] (bodyOf Tryz.f47))), (.inLoop (atC [1, 1, 1, 0, 1, 0, 0] (bodyOf Tryz.f47))), (.inBlock 0), (.code (atC [1, 1, 1, 1] (bodyOf Tryz.f47)))], mkT j [(0, (.e (.one (.dp (.s (C) (n) 1))))), (5, (.e (.one (.slc 0 0 (m) 1 (m) false)))), (6, (.e (.one (.slc 1 0 (m6) 1 (m6) false)))), (7, (iI (Int.ofNat i))), (9, (.e (.one (.ptr 2 0)))), (10, (iI (Int.ofNat p))), (11, (iI (Int.ofNat c))), (13, (iI (Int.ofNat (k + 1))))] 82 0⟩
theorem p47dU (hE : EnvOk E) (C : List DT) (n i k p c q m N N2 m6 N6 M6 : Nat) (r0 i0 r1 i1 i2 a b a' b' x y : Int) (D D2 D6 E6 : List AC) (h0 : (decide (Int.ofNat k < (4 : Int)) : Bool) = true) (h1 : (0 : Int) ≤ Int.ofNat k ∧ Int.ofNat k < (↑(4 : Nat) : Int)) (h2 : (nat_lit 0 + (Int.ofNat k).toNat * 1 : Nat) = k) (h3 : (getL [AC.v (Value.int IntKind.i64 a), AC.v (Value.int IntKind.i64 b), AC.v (Value.int IntKind.i64 a'), AC.v (Value.int IntKind.i64 b')] k : Option AC) = (.some (.v (.int .i64 (x))))) (h4 : (0 : Int) ≤ Int.ofNat p ∧ Int.ofNat p < (↑(4 : Nat) : Int)) (h5 : (nat_lit 0 + (Int.ofNat p).toNat * 1 : Nat) = p) (h6 : (getL [AC.v (Value.int IntKind.i64 a), AC.v (Value.int IntKind.i64 b), AC.v (Value.int IntKind.i64 a'), AC.v (Value.int IntKind.i64 b')] p : Option AC) = (.some (.v (.int .i64 (y))))) (h8 : (x == y : Bool) = false) (h9 : ((iI (wrapF IntKind.i64 (Int.ofNat k + (1 : Int)))) : AV) = (iI (Int.ofNat (k + 1)))) {Φ : Res → Prop} (ho : ∀ j, OutK E 0 0 (p47dU_end C n i k p c q m N N2 m6 N6 M6 r0 i0 r1 i1 i2 a b a' b' x y D D2 D6 E6 j) Φ) (j : Nat → Value) : OutK E 0 0 (t47d C n i k p c q m N N2 m6 N6 M6 r0 i0 r1 i1 i2 a b a' b' x y D D2 D6 E6 j) Φ :=
  outK_seg hE (R0_ok hE) [.run 3, (.cond true), .run 4, (.ops [(1, (.ix (k))), (2, (.ld (.v (.int .i64 (x))))), (4, (.ix (p))), (5, (.ld (.v (.int .i64 (y)))))] []), (.cond false), .run 2, (.ops [(1, (.rn (iI (Int.ofNat (k + 1)))))] []), .run 1] [0, 5, 6, 7, 9, 10, 11, 13] (fun j => by kernel_rfl) (aP h0 <| aP h1 <| aP h2 <| aP h3 <| aP h4 <| aP h5 <| aP h6 <| aP (rfl : (true : Bool) = true) <| aP h8 <| aP h9 <| aZ)
    ho
def p47dV_end (C : List DT) (n i k p c _q m N _N2 m6 N6 _M6 : Nat) (_r0 _i0 _r1 _i1 _i2 a b a' b' _x _y : Int) (D _D2 D6 _E6 : List AC) (j : Nat → Value) : St := ⟨[(.some ⟨(D), (N), 3, false, .cells⟩), (.some ⟨(D6), (N6), 3, false, .cells⟩), (.some ⟨[(.v (.int .i64 (a))), (.v (.int .i64 (b))), (.v (.int .i64 (a'))), (.v (.int .i64 (b')))], 4, 22, true, .cells⟩)], [(.code (atC [1, 1, 1, 0, 1, 0, 0, 1, 0, 0, 1, 1, 1, 1, 0, 1, 0, 0] (bodyOf Tryz.f47))), (.inLoop (atC [1, 1, 1, 0, 1, 0, 0, 1, 0, 0, 1, 1, 1, 1, 0, 1, 0, 0] (bodyOf Tryz.f47))), (.inBlock 4), (.code (atC [1, 1, 1, 0, 1, 0, 0, 1, 0, 0, 1, 1, 1, 1, 1] (bodyOf Tryz.f47))), (.inBlock 1), (.code (atC [1, 1, 1, 0, 1, 0, 0, 1, 1] (bodyOf Tryz.f47))), (.inLoop (atC [1, 1, 1, 0, 1, 0, 0] (bodyOf Tryz.f47))), (.inBlock 0), (.code (atC [1, 1, 1, 1] (bodyOf Tryz.f47)))], mkT j [(0, (.e (.one (.dp (.s (C) (n) 1))))), (5, (.e (.one (.slc 0 0 (m) 1 (m) false)))), (6, (.e (.one (.slc 1 0 (m6) 1 (m6) false)))), (7, (iI (Int.ofNat i))), (9, (.e (.one (.ptr 2 0)))), (10, (iI (Int.ofNat p))), (11, (iI (Int.ofNat (c + 1)))), (13, (iI (Int.ofNat (k + 1))))] 82 0⟩
theorem p47dV (hE : EnvOk E) (C : List DT) (n i k p c q m N N2 m6 N6 M6 : Nat) (r0 i0 r1 i1 i2 a b a' b' x y : Int) (D D2 D6 E6 : List AC) (h0 : (decide (Int.ofNat k < (4 : Int)) : Bool) = true) (h1 : (0 : Int) ≤ Int.ofNat k ∧ Int.ofNat k < (↑(4 : Nat) : Int)) (h2 : (nat_lit 0 + (Int.ofNat k).toNat * 1 : Nat) = k) (h3 : (getL [AC.v (Value.int IntKind.i64 a), AC.v (Value.int IntKind.i64 b), AC.v (Value.int IntKind.i64 a'), AC.v (Value.int IntKind.i64 b')] k : Option AC) = (.some (.v (.int .i64 (x))))) (h4 : (0 : Int) ≤ Int.ofNat p ∧ Int.ofNat p < (↑(4 : Nat) : Int)) (h5 : (nat_lit 0 + (Int.ofNat p).toNat * 1 : Nat) = p) (h6 : (getL [AC.v (Value.int IntKind.i64 a), AC.v (Value.int IntKind.i64 b), AC.v (Value.int IntKind.i64 a'), AC.v (Value.int IntKind.i64 b')] p : Option AC) = (.some (.v (.int .i64 (y))))) (h8 : (x == y : Bool) = true) (h9 : ((iI (wrapF IntKind.i64 (Int.ofNat c + (1 : Int)))) : AV) = (iI (Int.ofNat (c + 1)))) (h10 : ((iI (wrapF IntKind.i64 (Int.ofNat k + (1 : Int)))) : AV) = (iI (Int.ofNat (k + 1)))) {Φ : Res → Prop} (ho : ∀ j, OutK E 0 0 (p47dV_end C n i k p c q m N N2 m6 N6 M6 r0 i0 r1 i1 i2 a b a' b' x y D D2 D6 E6 j) Φ) (j : Nat → Value) : OutK E 0 0 (t47d C n i k p c q m N N2 m6 N6 M6 r0 i0 r1 i1 i2 a b a' b' x y D D2 D6 E6 j) Φ :=
  outK_seg hE (R0_ok hE) [.run 3, (.cond true), .run 4, (.ops [(1, (.ix (k))), (2, (.ld (.v (.int .i64 (x))))), (4, (.ix (p))), (5, (.ld (.v (.int .i64 (y)))))] []), (.cond true), (.ops [(1, (.rn (iI (Int.ofNat (c + 1)))))] []), .run 1, (.ops [(1, (.rn (iI (Int.ofNat (k + 1)))))] []), .run 1] [0, 5, 6, 7, 9, 10, 11, 13] (fun j => by kernel_rfl) (aP h0 <| aP h1 <| aP h2 <| aP h3 <| aP h4 <| aP h5 <| aP h6 <| aP (rfl : (true : Bool) = true) <| aP h8 <| aP h9 <| aP h10 <| aZ)
    ho
def p47do_end (C : List DT) (n i _k _p _c _q m _N N2 m6 N6 _M6 : Nat) (_r0 _i0 _r1 _i1 _i2 _a _b _a' _b' _x _y : Int) (_D D2 D6 _E6 : List AC) (j : Nat → Value) : St := ⟨[(.some ⟨(D6), (N6), 3, false, .cells⟩), (.some ⟨(D2), (N2), 3, false, .cells⟩)], [(.code (atC [1, 1, 1, 0, 1, 0, 0] (bodyOf Tryz.f47))), (.inLoop (atC [1, 1, 1, 0, 1, 0, 0] (bodyOf Tryz.f47))), (.inBlock 0), (.code (atC [1, 1, 1, 1] (bodyOf Tryz.f47)))], mkT j [(0, (.e (.one (.dp (.s (C) (n) 1))))), (5, (.e (.one (.slc 1 0 (m + 1) 1 (m + 1) false)))), (6, (.e (.one (.slc 0 0 (m6) 1 (m6) false)))), (7, (iI (Int.ofNat (i + 1))))] 82 0⟩
theorem p47do (hE : EnvOk E) (C : List DT) (n i k p c q m N N2 m6 N6 M6 : Nat) (r0 i0 r1 i1 i2 a b a' b' x y : Int) (D D2 D6 E6 : List AC) (h0 : (decide (Int.ofNat k < (4 : Int)) : Bool) = false) (h1 : ¬m + 1 ≤ m) (h2 : (small (m + 1) (1 : Nat) (8 : Nat) : Bool) = true) (h3 : (N : Nat) = m * nat_lit 1) (h4 : (appL D ((fun x => AC.v (Value.int IntKind.i64 (Int.ofNat p)) :: x) []) : List AC) = D2) (h6 : ((m + 1) * nat_lit 1 : Nat) = N2) (h7 : (decide (Int.ofNat c > (1 : Int)) : Bool) = false) (h8 : ((iI (wrapF IntKind.i64 (Int.ofNat i + (1 : Int)))) : AV) = (iI (Int.ofNat (i + 1)))) (g0 : FlatC (D6)) (g1 : FlatC (D2)) {Φ : Res → Prop} (ho : ∀ j, OutK E 0 0 (p47do_end C n i k p c q m N N2 m6 N6 M6 r0 i0 r1 i1 i2 a b a' b' x y D D2 D6 E6 j) Φ) (j : Nat → Value) : OutK E 0 0 (t47d C n i k p c q m N N2 m6 N6 M6 r0 i0 r1 i1 i2 a b a' b' x y D D2 D6 E6 j) Φ :=
  outK_seg hE (R0_ok hE) [.run 3, (.cond false), .run 2, (.ops [(3, (.app (m + 1) (N2) (D2)))] []), .run 2, (.cond false), .run 2, (.ops [(1, (.rn (iI (Int.ofNat (i + 1)))))] []), .run 1] [0, 5, 6, 7] (s' := fun j => ⟨[none, (.some ⟨(D6), (N6), 3, false, .cells⟩), (.some ⟨[(.v (.int .i64 (a))), (.v (.int .i64 (b))), (.v (.int .i64 (a'))), (.v (.int .i64 (b')))], 4, 22, true, .cells⟩), (.some ⟨[(.v (.int .i64 (Int.ofNat p)))], 1, 3, true, .cells⟩), (.some ⟨(D2), (N2), 3, false, .cells⟩)], [(.code (atC [1, 1, 1, 0, 1, 0, 0] (bodyOf Tryz.f47))), (.inLoop (atC [1, 1, 1, 0, 1, 0, 0] (bodyOf Tryz.f47))), (.inBlock 0), (.code (atC [1, 1, 1, 1] (bodyOf Tryz.f47)))], mkT j [(0, (.e (.one (.dp (.s (C) (n) 1))))), (5, (.e (.one (.slc 4 0 (m + 1) 1 (m + 1) false)))), (6, (.e (.one (.slc 1 0 (m6) 1 (m6) false)))), (7, (iI (Int.ofNat (i + 1))))] 82 0⟩) (fun j => by kernel_rfl) (aP h0 <| aP h1 <| aP h2 <| aP h3 <| aP h4 <| aP (rfl : (m + 1 : Nat) = m + 1) <| aP h6 <| aP h7 <| aP h8 <| aZ)
    fun j => outK_gcF [1, 4] [true, true] (h' := [(.some ⟨(D6), (N6), 3, false, .cells⟩), (.some ⟨(D2), (N2), 3, false, .cells⟩)]) (by decide) (by kernel_rfl) (by kernel_rfl) ⟨g0, g1, trivial⟩ (by kernel_rfl) (ho j)
def p47dw_end (C : List DT) (n i _k _p _c _q m _N N2 m6 _N6 M6 : Nat) (_r0 _i0 _r1 _i1 _i2 _a _b _a' _b' _x _y : Int) (_D D2 _D6 E6 : List AC) (j : Nat → Value) : St := ⟨[(.some ⟨(D2), (N2), 3, false, .cells⟩), (.some ⟨(E6), (M6), 3, false, .cells⟩)], [(.code (atC [1, 1, 1, 0, 1, 0, 0] (bodyOf Tryz.f47))), (.inLoop (atC [1, 1, 1, 0, 1, 0, 0] (bodyOf Tryz.f47))), (.inBlock 0), (.code (atC [1, 1, 1, 1] (bodyOf Tryz.f47)))], mkT j [(0, (.e (.one (.dp (.s (C) (n) 1))))), (5, (.e (.one (.slc 0 0 (m + 1) 1 (m + 1) false)))), (6, (.e (.one (.slc 1 0 (m6 + 1) 1 (m6 + 1) false)))), (7, (iI (Int.ofNat (i + 1))))] 82 0⟩
theorem p47dw (hE : EnvOk E) (C : List DT) (n i k p c q m N N2 m6 N6 M6 : Nat) (r0 i0 r1 i1 i2 a b a' b' x y : Int) (D D2 D6 E6 : List AC) (h0 : (decide (Int.ofNat k < (4 : Int)) : Bool) = false) (h1 : ¬m + 1 ≤ m) (h2 : (small (m + 1) (1 : Nat) (8 : Nat) : Bool) = true) (h3 : (N : Nat) = m * nat_lit 1) (h4 : (appL D ((fun x => AC.v (Value.int IntKind.i64 (Int.ofNat p)) :: x) []) : List AC) = D2) (h6 : ((m + 1) * nat_lit 1 : Nat) = N2) (h7 : (decide (Int.ofNat c > (1 : Int)) : Bool) = true) (h8 : ((iI (wrapF IntKind.i64 (Int.ofNat i - (1 : Int)))) : AV) = (iI (Int.ofNat q))) (h9 : ¬m6 + 1 ≤ m6) (h10 : (small (m6 + 1) (1 : Nat) (8 : Nat) : Bool) = true) (h11 : (N6 : Nat) = m6 * nat_lit 1) (h12 : (appL D6 ((fun x => AC.v (Value.int IntKind.i64 (Int.ofNat q)) :: x) []) : List AC) = E6) (h14 : ((m6 + 1) * nat_lit 1 : Nat) = M6) (h15 : ((iI (wrapF IntKind.i64 (Int.ofNat i + (1 : Int)))) : AV) = (iI (Int.ofNat (i + 1)))) (g0 : FlatC (D2)) (g1 : FlatC (E6)) {Φ : Res → Prop} (ho : ∀ j, OutK E 0 0 (p47dw_end C n i k p c q m N N2 m6 N6 M6 r0 i0 r1 i1 i2 a b a' b' x y D D2 D6 E6 j) Φ) (j : Nat → Value) : OutK E 0 0 (t47d C n i k p c q m N N2 m6 N6 M6 r0 i0 r1 i1 i2 a b a' b' x y D D2 D6 E6 j) Φ :=
  outK_seg hE (R0_ok hE) [.run 3, (.cond false), .run 2, (.ops [(3, (.app (m + 1) (N2) (D2)))] []), .run 2, (.cond true), (.ops [(2, (.rn (iI (Int.ofNat q)))), (4, (.app (m6 + 1) (M6) (E6)))] []), .run 1, (.ops [(1, (.rn (iI (Int.ofNat (i + 1)))))] []), .run 1] [0, 5, 6, 7] (s' := fun j => ⟨[none, none, (.some ⟨[(.v (.int .i64 (a))), (.v (.int .i64 (b))), (.v (.int .i64 (a'))), (.v (.int .i64 (b')))], 4, 22, true, .cells⟩), (.some ⟨[(.v (.int .i64 (Int.ofNat p)))], 1, 3, true, .cells⟩), (.some ⟨(D2), (N2), 3, false, .cells⟩), (.some ⟨[(.v (.int .i64 (Int.ofNat q)))], 1, 3, true, .cells⟩), (.some ⟨(E6), (M6), 3, false, .cells⟩)], [(.code (atC [1, 1, 1, 0, 1, 0, 0] (bodyOf Tryz.f47))), (.inLoop (atC [1, 1, 1, 0, 1, 0, 0] (bodyOf Tryz.f47))), (.inBlock 0), (.code (atC [1, 1, 1, 1] (bodyOf Tryz.f47)))], mkT j [(0, (.e (.one (.dp (.s (C) (n) 1))))), (5, (.e (.one (.slc 4 0 (m + 1) 1 (m + 1) false)))), (6, (.e (.one (.slc 6 0 (m6 + 1) 1 (m6 + 1) false)))), (7, (iI (Int.ofNat (i + 1))))] 82 0⟩) (fun j => by kernel_rfl) (aP h0 <| aP h1 <| aP h2 <| aP h3 <| aP h4 <| aP (rfl : (m + 1 : Nat) = m + 1) <| aP h6 <| aP h7 <| aP h8 <| aP h9 <| aP h10 <| aP h11 <| aP h12 <| aP (rfl : (m6 + 1 : Nat) = m6 + 1) <| aP h14 <| aP h15 <| aZ)
    fun j => outK_gcF [4, 6] [true, true] (h' := [(.some ⟨(D2), (N2), 3, false, .cells⟩), (.some ⟨(E6), (M6), 3, false, .cells⟩)]) (by decide) (by kernel_rfl) (by kernel_rfl) ⟨g0, g1, trivial⟩ (by kernel_rfl) (ho j)

open Ieee
/-- the four values of a product -/
def gv (a b : Int) (k : Nat) : Int := match k with | 0 => a | 1 => b | 2 => -a | _ => -b
/-- the first best of the first values; how many are as good -/
def am (f : Nat → Int) : Nat → Nat
  | 0 => 0
  | k + 1 => if f k > f (am f k) then k else am f k
def cn (f : Nat → Int) (p : Nat) : Nat → Nat
  | 0 => 0
  | k + 1 => if f k = f p then cn f p k + 1 else cn f p k
theorem tri (x y : Int) : x < y ∨ x = y ∨ x > y := by omega
theorem am4 (a b : Int) : ∃ p : Nat, am (gv a b) 4 = p ∧ p < 4 ∧ phQ a b = (Int.ofNat p, gv a b p, decide (cn (gv a b) p 4 ≤ 1)) := by
  have e0 : am (gv a b) 1 = 0 := by simp [am]
  rcases tri b a with c1 | c1 | c1
  · have e1 : am (gv a b) 2 = 0 := by rw [am, e0]; exact if_neg (show ¬ b > a by omega)
    have q1 : phS 1 b (0, a, true) = (0, a, true) := by rw [phS, if_neg (by simp only; omega), if_neg (by simp only; omega)]
    rcases tri (-a) a with c2 | c2 | c2
    · have e2 : am (gv a b) 3 = 0 := by rw [am, e1]; exact if_neg (show ¬ (-a) > a by omega)
      have q2 : phS 2 (-a) (0, a, true) = (0, a, true) := by rw [phS, if_neg (by simp only; omega), if_neg (by simp only; omega)]
      rcases tri (-b) a with c3 | c3 | c3
      · have e3 : am (gv a b) 4 = 0 := by rw [am, e2]; exact if_neg (show ¬ (-b) > a by omega)
        have q3 : phS 3 (-b) (0, a, true) = (0, a, true) := by rw [phS, if_neg (by simp only; omega), if_neg (by simp only; omega)]
        refine ⟨0, e3, by decide, ?_⟩
        unfold phQ
        rw [q1, q2, q3]
        refine Prod.ext rfl (Prod.ext rfl ?_)
        show true = decide (cn (gv a b) 0 4 ≤ 1)
        simp only [cn, gv]
        repeat' split
        all_goals first | rfl | (exfalso; omega) | (exfalso; simp_all; done)
      · have e3 : am (gv a b) 4 = 0 := by rw [am, e2]; exact if_neg (show ¬ (-b) > a by omega)
        have q3 : phS 3 (-b) (0, a, true) = (0, a, false) := by rw [phS, if_pos c3]
        refine ⟨0, e3, by decide, ?_⟩
        unfold phQ
        rw [q1, q2, q3]
        refine Prod.ext rfl (Prod.ext rfl ?_)
        show false = decide (cn (gv a b) 0 4 ≤ 1)
        simp only [cn, gv]
        repeat' split
        all_goals first | rfl | (exfalso; omega) | (exfalso; simp_all; done)
      · have e3 : am (gv a b) 4 = 3 := by rw [am, e2]; exact if_pos (show (-b) > a by omega)
        have q3 : phS 3 (-b) (0, a, true) = (3, (-b), true) := by rw [phS, if_neg (by simp only; omega), if_pos (by simp only; omega)]
        refine ⟨3, e3, by decide, ?_⟩
        unfold phQ
        rw [q1, q2, q3]
        refine Prod.ext rfl (Prod.ext rfl ?_)
        show true = decide (cn (gv a b) 3 4 ≤ 1)
        simp only [cn, gv]
        repeat' split
        all_goals first | rfl | (exfalso; omega) | (exfalso; simp_all; done)
    · have e2 : am (gv a b) 3 = 0 := by rw [am, e1]; exact if_neg (show ¬ (-a) > a by omega)
      have q2 : phS 2 (-a) (0, a, true) = (0, a, false) := by rw [phS, if_pos c2]
      rcases tri (-b) a with c3 | c3 | c3
      · have e3 : am (gv a b) 4 = 0 := by rw [am, e2]; exact if_neg (show ¬ (-b) > a by omega)
        have q3 : phS 3 (-b) (0, a, false) = (0, a, false) := by rw [phS, if_neg (by simp only; omega), if_neg (by simp only; omega)]
        refine ⟨0, e3, by decide, ?_⟩
        unfold phQ
        rw [q1, q2, q3]
        refine Prod.ext rfl (Prod.ext rfl ?_)
        show false = decide (cn (gv a b) 0 4 ≤ 1)
        simp only [cn, gv]
        repeat' split
        all_goals first | rfl | (exfalso; omega) | (exfalso; simp_all; done)
      · have e3 : am (gv a b) 4 = 0 := by rw [am, e2]; exact if_neg (show ¬ (-b) > a by omega)
        have q3 : phS 3 (-b) (0, a, false) = (0, a, false) := by rw [phS, if_pos c3]
        refine ⟨0, e3, by decide, ?_⟩
        unfold phQ
        rw [q1, q2, q3]
        refine Prod.ext rfl (Prod.ext rfl ?_)
        show false = decide (cn (gv a b) 0 4 ≤ 1)
        simp only [cn, gv]
        repeat' split
        all_goals first | rfl | (exfalso; omega) | (exfalso; simp_all; done)
      · have e3 : am (gv a b) 4 = 3 := by rw [am, e2]; exact if_pos (show (-b) > a by omega)
        have q3 : phS 3 (-b) (0, a, false) = (3, (-b), true) := by rw [phS, if_neg (by simp only; omega), if_pos (by simp only; omega)]
        refine ⟨3, e3, by decide, ?_⟩
        unfold phQ
        rw [q1, q2, q3]
        refine Prod.ext rfl (Prod.ext rfl ?_)
        show true = decide (cn (gv a b) 3 4 ≤ 1)
        simp only [cn, gv]
        repeat' split
        all_goals first | rfl | (exfalso; omega) | (exfalso; simp_all; done)
    · have e2 : am (gv a b) 3 = 2 := by rw [am, e1]; exact if_pos (show (-a) > a by omega)
      have q2 : phS 2 (-a) (0, a, true) = (2, (-a), true) := by rw [phS, if_neg (by simp only; omega), if_pos (by simp only; omega)]
      rcases tri (-b) (-a) with c3 | c3 | c3
      · have e3 : am (gv a b) 4 = 2 := by rw [am, e2]; exact if_neg (show ¬ (-b) > (-a) by omega)
        have q3 : phS 3 (-b) (2, (-a), true) = (2, (-a), true) := by rw [phS, if_neg (by simp only; omega), if_neg (by simp only; omega)]
        refine ⟨2, e3, by decide, ?_⟩
        unfold phQ
        rw [q1, q2, q3]
        refine Prod.ext rfl (Prod.ext rfl ?_)
        show true = decide (cn (gv a b) 2 4 ≤ 1)
        simp only [cn, gv]
        repeat' split
        all_goals first | rfl | (exfalso; omega) | (exfalso; simp_all; done)
      · have e3 : am (gv a b) 4 = 2 := by rw [am, e2]; exact if_neg (show ¬ (-b) > (-a) by omega)
        have q3 : phS 3 (-b) (2, (-a), true) = (2, (-a), false) := by rw [phS, if_pos c3]
        refine ⟨2, e3, by decide, ?_⟩
        unfold phQ
        rw [q1, q2, q3]
        refine Prod.ext rfl (Prod.ext rfl ?_)
        show false = decide (cn (gv a b) 2 4 ≤ 1)
        simp only [cn, gv]
        repeat' split
        all_goals first | rfl | (exfalso; omega) | (exfalso; simp_all; done)
      · have e3 : am (gv a b) 4 = 3 := by rw [am, e2]; exact if_pos (show (-b) > (-a) by omega)
        have q3 : phS 3 (-b) (2, (-a), true) = (3, (-b), true) := by rw [phS, if_neg (by simp only; omega), if_pos (by simp only; omega)]
        refine ⟨3, e3, by decide, ?_⟩
        unfold phQ
        rw [q1, q2, q3]
        refine Prod.ext rfl (Prod.ext rfl ?_)
        show true = decide (cn (gv a b) 3 4 ≤ 1)
        simp only [cn, gv]
        repeat' split
        all_goals first | rfl | (exfalso; omega) | (exfalso; simp_all; done)
  · have e1 : am (gv a b) 2 = 0 := by rw [am, e0]; exact if_neg (show ¬ b > a by omega)
    have q1 : phS 1 b (0, a, true) = (0, a, false) := by rw [phS, if_pos c1]
    rcases tri (-a) a with c2 | c2 | c2
    · have e2 : am (gv a b) 3 = 0 := by rw [am, e1]; exact if_neg (show ¬ (-a) > a by omega)
      have q2 : phS 2 (-a) (0, a, false) = (0, a, false) := by rw [phS, if_neg (by simp only; omega), if_neg (by simp only; omega)]
      rcases tri (-b) a with c3 | c3 | c3
      · have e3 : am (gv a b) 4 = 0 := by rw [am, e2]; exact if_neg (show ¬ (-b) > a by omega)
        have q3 : phS 3 (-b) (0, a, false) = (0, a, false) := by rw [phS, if_neg (by simp only; omega), if_neg (by simp only; omega)]
        refine ⟨0, e3, by decide, ?_⟩
        unfold phQ
        rw [q1, q2, q3]
        refine Prod.ext rfl (Prod.ext rfl ?_)
        show false = decide (cn (gv a b) 0 4 ≤ 1)
        simp only [cn, gv]
        repeat' split
        all_goals first | rfl | (exfalso; omega) | (exfalso; simp_all; done)
      · have e3 : am (gv a b) 4 = 0 := by rw [am, e2]; exact if_neg (show ¬ (-b) > a by omega)
        have q3 : phS 3 (-b) (0, a, false) = (0, a, false) := by rw [phS, if_pos c3]
        refine ⟨0, e3, by decide, ?_⟩
        unfold phQ
        rw [q1, q2, q3]
        refine Prod.ext rfl (Prod.ext rfl ?_)
        show false = decide (cn (gv a b) 0 4 ≤ 1)
        simp only [cn, gv]
        repeat' split
        all_goals first | rfl | (exfalso; omega) | (exfalso; simp_all; done)
      · have e3 : am (gv a b) 4 = 3 := by rw [am, e2]; exact if_pos (show (-b) > a by omega)
        have q3 : phS 3 (-b) (0, a, false) = (3, (-b), true) := by rw [phS, if_neg (by simp only; omega), if_pos (by simp only; omega)]
        refine ⟨3, e3, by decide, ?_⟩
        unfold phQ
        rw [q1, q2, q3]
        refine Prod.ext rfl (Prod.ext rfl ?_)
        show true = decide (cn (gv a b) 3 4 ≤ 1)
        simp only [cn, gv]
        repeat' split
        all_goals first | rfl | (exfalso; omega) | (exfalso; simp_all; done)
    · have e2 : am (gv a b) 3 = 0 := by rw [am, e1]; exact if_neg (show ¬ (-a) > a by omega)
      have q2 : phS 2 (-a) (0, a, false) = (0, a, false) := by rw [phS, if_pos c2]
      rcases tri (-b) a with c3 | c3 | c3
      · have e3 : am (gv a b) 4 = 0 := by rw [am, e2]; exact if_neg (show ¬ (-b) > a by omega)
        have q3 : phS 3 (-b) (0, a, false) = (0, a, false) := by rw [phS, if_neg (by simp only; omega), if_neg (by simp only; omega)]
        refine ⟨0, e3, by decide, ?_⟩
        unfold phQ
        rw [q1, q2, q3]
        refine Prod.ext rfl (Prod.ext rfl ?_)
        show false = decide (cn (gv a b) 0 4 ≤ 1)
        simp only [cn, gv]
        repeat' split
        all_goals first | rfl | (exfalso; omega) | (exfalso; simp_all; done)
      · have e3 : am (gv a b) 4 = 0 := by rw [am, e2]; exact if_neg (show ¬ (-b) > a by omega)
        have q3 : phS 3 (-b) (0, a, false) = (0, a, false) := by rw [phS, if_pos c3]
        refine ⟨0, e3, by decide, ?_⟩
        unfold phQ
        rw [q1, q2, q3]
        refine Prod.ext rfl (Prod.ext rfl ?_)
        show false = decide (cn (gv a b) 0 4 ≤ 1)
        simp only [cn, gv]
        repeat' split
        all_goals first | rfl | (exfalso; omega) | (exfalso; simp_all; done)
      · have e3 : am (gv a b) 4 = 3 := by rw [am, e2]; exact if_pos (show (-b) > a by omega)
        have q3 : phS 3 (-b) (0, a, false) = (3, (-b), true) := by rw [phS, if_neg (by simp only; omega), if_pos (by simp only; omega)]
        refine ⟨3, e3, by decide, ?_⟩
        unfold phQ
        rw [q1, q2, q3]
        refine Prod.ext rfl (Prod.ext rfl ?_)
        show true = decide (cn (gv a b) 3 4 ≤ 1)
        simp only [cn, gv]
        repeat' split
        all_goals first | rfl | (exfalso; omega) | (exfalso; simp_all; done)
    · have e2 : am (gv a b) 3 = 2 := by rw [am, e1]; exact if_pos (show (-a) > a by omega)
      have q2 : phS 2 (-a) (0, a, false) = (2, (-a), true) := by rw [phS, if_neg (by simp only; omega), if_pos (by simp only; omega)]
      rcases tri (-b) (-a) with c3 | c3 | c3
      · have e3 : am (gv a b) 4 = 2 := by rw [am, e2]; exact if_neg (show ¬ (-b) > (-a) by omega)
        have q3 : phS 3 (-b) (2, (-a), true) = (2, (-a), true) := by rw [phS, if_neg (by simp only; omega), if_neg (by simp only; omega)]
        refine ⟨2, e3, by decide, ?_⟩
        unfold phQ
        rw [q1, q2, q3]
        refine Prod.ext rfl (Prod.ext rfl ?_)
        show true = decide (cn (gv a b) 2 4 ≤ 1)
        simp only [cn, gv]
        repeat' split
        all_goals first | rfl | (exfalso; omega) | (exfalso; simp_all; done)
      · have e3 : am (gv a b) 4 = 2 := by rw [am, e2]; exact if_neg (show ¬ (-b) > (-a) by omega)
        have q3 : phS 3 (-b) (2, (-a), true) = (2, (-a), false) := by rw [phS, if_pos c3]
        refine ⟨2, e3, by decide, ?_⟩
        unfold phQ
        rw [q1, q2, q3]
        refine Prod.ext rfl (Prod.ext rfl ?_)
        show false = decide (cn (gv a b) 2 4 ≤ 1)
        simp only [cn, gv]
        repeat' split
        all_goals first | rfl | (exfalso; omega) | (exfalso; simp_all; done)
      · have e3 : am (gv a b) 4 = 3 := by rw [am, e2]; exact if_pos (show (-b) > (-a) by omega)
        have q3 : phS 3 (-b) (2, (-a), true) = (3, (-b), true) := by rw [phS, if_neg (by simp only; omega), if_pos (by simp only; omega)]
        refine ⟨3, e3, by decide, ?_⟩
        unfold phQ
        rw [q1, q2, q3]
        refine Prod.ext rfl (Prod.ext rfl ?_)
        show true = decide (cn (gv a b) 3 4 ≤ 1)
        simp only [cn, gv]
        repeat' split
        all_goals first | rfl | (exfalso; omega) | (exfalso; simp_all; done)
  · have e1 : am (gv a b) 2 = 1 := by rw [am, e0]; exact if_pos (show b > a by omega)
    have q1 : phS 1 b (0, a, true) = (1, b, true) := by rw [phS, if_neg (by simp only; omega), if_pos (by simp only; omega)]
    rcases tri (-a) b with c2 | c2 | c2
    · have e2 : am (gv a b) 3 = 1 := by rw [am, e1]; exact if_neg (show ¬ (-a) > b by omega)
      have q2 : phS 2 (-a) (1, b, true) = (1, b, true) := by rw [phS, if_neg (by simp only; omega), if_neg (by simp only; omega)]
      rcases tri (-b) b with c3 | c3 | c3
      · have e3 : am (gv a b) 4 = 1 := by rw [am, e2]; exact if_neg (show ¬ (-b) > b by omega)
        have q3 : phS 3 (-b) (1, b, true) = (1, b, true) := by rw [phS, if_neg (by simp only; omega), if_neg (by simp only; omega)]
        refine ⟨1, e3, by decide, ?_⟩
        unfold phQ
        rw [q1, q2, q3]
        refine Prod.ext rfl (Prod.ext rfl ?_)
        show true = decide (cn (gv a b) 1 4 ≤ 1)
        simp only [cn, gv]
        repeat' split
        all_goals first | rfl | (exfalso; omega) | (exfalso; simp_all; done)
      · have e3 : am (gv a b) 4 = 1 := by rw [am, e2]; exact if_neg (show ¬ (-b) > b by omega)
        have q3 : phS 3 (-b) (1, b, true) = (1, b, false) := by rw [phS, if_pos c3]
        refine ⟨1, e3, by decide, ?_⟩
        unfold phQ
        rw [q1, q2, q3]
        refine Prod.ext rfl (Prod.ext rfl ?_)
        show false = decide (cn (gv a b) 1 4 ≤ 1)
        simp only [cn, gv]
        repeat' split
        all_goals first | rfl | (exfalso; omega) | (exfalso; simp_all; done)
      · have e3 : am (gv a b) 4 = 3 := by rw [am, e2]; exact if_pos (show (-b) > b by omega)
        have q3 : phS 3 (-b) (1, b, true) = (3, (-b), true) := by rw [phS, if_neg (by simp only; omega), if_pos (by simp only; omega)]
        refine ⟨3, e3, by decide, ?_⟩
        unfold phQ
        rw [q1, q2, q3]
        refine Prod.ext rfl (Prod.ext rfl ?_)
        show true = decide (cn (gv a b) 3 4 ≤ 1)
        simp only [cn, gv]
        repeat' split
        all_goals first | rfl | (exfalso; omega) | (exfalso; simp_all; done)
    · have e2 : am (gv a b) 3 = 1 := by rw [am, e1]; exact if_neg (show ¬ (-a) > b by omega)
      have q2 : phS 2 (-a) (1, b, true) = (1, b, false) := by rw [phS, if_pos c2]
      rcases tri (-b) b with c3 | c3 | c3
      · have e3 : am (gv a b) 4 = 1 := by rw [am, e2]; exact if_neg (show ¬ (-b) > b by omega)
        have q3 : phS 3 (-b) (1, b, false) = (1, b, false) := by rw [phS, if_neg (by simp only; omega), if_neg (by simp only; omega)]
        refine ⟨1, e3, by decide, ?_⟩
        unfold phQ
        rw [q1, q2, q3]
        refine Prod.ext rfl (Prod.ext rfl ?_)
        show false = decide (cn (gv a b) 1 4 ≤ 1)
        simp only [cn, gv]
        repeat' split
        all_goals first | rfl | (exfalso; omega) | (exfalso; simp_all; done)
      · have e3 : am (gv a b) 4 = 1 := by rw [am, e2]; exact if_neg (show ¬ (-b) > b by omega)
        have q3 : phS 3 (-b) (1, b, false) = (1, b, false) := by rw [phS, if_pos c3]
        refine ⟨1, e3, by decide, ?_⟩
        unfold phQ
        rw [q1, q2, q3]
        refine Prod.ext rfl (Prod.ext rfl ?_)
        show false = decide (cn (gv a b) 1 4 ≤ 1)
        simp only [cn, gv]
        repeat' split
        all_goals first | rfl | (exfalso; omega) | (exfalso; simp_all; done)
      · have e3 : am (gv a b) 4 = 3 := by rw [am, e2]; exact if_pos (show (-b) > b by omega)
        have q3 : phS 3 (-b) (1, b, false) = (3, (-b), true) := by rw [phS, if_neg (by simp only; omega), if_pos (by simp only; omega)]
        refine ⟨3, e3, by decide, ?_⟩
        unfold phQ
        rw [q1, q2, q3]
        refine Prod.ext rfl (Prod.ext rfl ?_)
        show true = decide (cn (gv a b) 3 4 ≤ 1)
        simp only [cn, gv]
        repeat' split
        all_goals first | rfl | (exfalso; omega) | (exfalso; simp_all; done)
    · have e2 : am (gv a b) 3 = 2 := by rw [am, e1]; exact if_pos (show (-a) > b by omega)
      have q2 : phS 2 (-a) (1, b, true) = (2, (-a), true) := by rw [phS, if_neg (by simp only; omega), if_pos (by simp only; omega)]
      rcases tri (-b) (-a) with c3 | c3 | c3
      · have e3 : am (gv a b) 4 = 2 := by rw [am, e2]; exact if_neg (show ¬ (-b) > (-a) by omega)
        have q3 : phS 3 (-b) (2, (-a), true) = (2, (-a), true) := by rw [phS, if_neg (by simp only; omega), if_neg (by simp only; omega)]
        refine ⟨2, e3, by decide, ?_⟩
        unfold phQ
        rw [q1, q2, q3]
        refine Prod.ext rfl (Prod.ext rfl ?_)
        show true = decide (cn (gv a b) 2 4 ≤ 1)
        simp only [cn, gv]
        repeat' split
        all_goals first | rfl | (exfalso; omega) | (exfalso; simp_all; done)
      · have e3 : am (gv a b) 4 = 2 := by rw [am, e2]; exact if_neg (show ¬ (-b) > (-a) by omega)
        have q3 : phS 3 (-b) (2, (-a), true) = (2, (-a), false) := by rw [phS, if_pos c3]
        refine ⟨2, e3, by decide, ?_⟩
        unfold phQ
        rw [q1, q2, q3]
        refine Prod.ext rfl (Prod.ext rfl ?_)
        show false = decide (cn (gv a b) 2 4 ≤ 1)
        simp only [cn, gv]
        repeat' split
        all_goals first | rfl | (exfalso; omega) | (exfalso; simp_all; done)
      · have e3 : am (gv a b) 4 = 3 := by rw [am, e2]; exact if_pos (show (-b) > (-a) by omega)
        have q3 : phS 3 (-b) (2, (-a), true) = (3, (-b), true) := by rw [phS, if_neg (by simp only; omega), if_pos (by simp only; omega)]
        refine ⟨3, e3, by decide, ?_⟩
        unfold phQ
        rw [q1, q2, q3]
        refine Prod.ext rfl (Prod.ext rfl ?_)
        show true = decide (cn (gv a b) 3 4 ≤ 1)
        simp only [cn, gv]
        repeat' split
        all_goals first | rfl | (exfalso; omega) | (exfalso; simp_all; done)

theorem getG (a b : Int) {k : Nat} (h : k < 4) : getL [AC.v (Value.int IntKind.i64 a), AC.v (Value.int IntKind.i64 b), AC.v (Value.int IntKind.i64 (-a)), AC.v (Value.int IntKind.i64 (-b))] k = some (.v (.int .i64 (gv a b k))) :=
  match k, h with
  | 0, _ => rfl
  | 1, _ => rfl
  | 2, _ => rfl
  | 3, _ => rfl
theorem am_lt (f : Nat → Int) : ∀ k, k ≤ 4 → am f k < 4
  | 0, _ => (by decide : (0 : Nat) < 4)
  | k + 1, h => by
    simp only [am]
    split
    · omega
    · exact am_lt f k (by omega)
/-- second elements -/
def er (ws : List Nat) (i : Nat) : Int := ww ws (4 * i) + (-ww ws (4 * i + 2))
def ei (ws : List Nat) (i : Nat) : Int := (-ww ws (4 * i + 1)) + ww ws (4 * i + 3)
/-- a window's product with the window before, conjugated -/
def za (ws : List Nat) (i : Nat) : Int := er ws (i + 1) * er ws i - ei ws (i + 1) * (-ei ws i)
def zb (ws : List Nat) (i : Nat) : Int := er ws (i + 1) * (-ei ws i) + ei ws (i + 1) * er ws i
/-- the phase between two windows; is it in doubt? -/
def phN (ws : List Nat) (i : Nat) : Nat := am (gv (za ws i) (zb ws i)) 4
def dbN (ws : List Nat) (i : Nat) : Bool := decide (1 < cn (gv (za ws i) (zb ws i)) (phN ws i) 4)
def demP (ws : List Nat) : Nat → List Int
  | 0 => []
  | i + 1 => demP ws i ++ [Int.ofNat (phN ws i)]
def demD (ws : List Nat) : Nat → List Int
  | 0 => []
  | i + 1 => bif dbN ws i then demD ws i ++ [Int.ofNat i] else demD ws i
theorem demP_len (ws : List Nat) : ∀ k, (demP ws k).length = k
  | 0 => rfl
  | k + 1 => by simp [demP, demP_len ws k]
theorem demD_len (ws : List Nat) : ∀ k, (demD ws k).length ≤ k
  | 0 => Nat.le_refl _
  | k + 1 => by
    have := demD_len ws k
    simp only [demD]
    cases dbN ws k <;> simp <;> omega
theorem er_bnd {ws : List Nat} {i : Nat} (hc : ∀ b ∈ ws, chkW 1024 b = 0) (h : 4 * i + 4 ≤ ws.length) : (er ws i).natAbs ≤ 32768 ∧ (ei ws i).natAbs ≤ 32768 := by
  have h0 := bnd hc (k := 4 * i) (by omega)
  have h1 := bnd hc (k := 4 * i + 1) (by omega)
  have h2 := bnd hc (k := 4 * i + 2) (by omega)
  have h3 := bnd hc (k := 4 * i + 3) (by omega)
  unfold er ei
  omega
theorem mul_bnd {a b : Int} (h : a.natAbs ≤ 32768) (g : b.natAbs ≤ 32768) : (a * b).natAbs ≤ 2 ^ 30 := by
  rw [Int.natAbs_mul]
  exact Nat.le_trans (Nat.mul_le_mul h g) (by decide)
theorem z_bnd {ws : List Nat} {i : Nat} (hc : ∀ b ∈ ws, chkW 1024 b = 0) (h : 4 * (i + 1) + 4 ≤ ws.length) : (za ws i).natAbs ≤ 2 ^ 31 ∧ (zb ws i).natAbs ≤ 2 ^ 31 := by
  obtain ⟨a1, b1⟩ := er_bnd hc h
  obtain ⟨a0, b0⟩ := er_bnd (i := i) hc (by omega)
  have h1 := mul_bnd a1 a0
  have h2 := mul_bnd b1 (b := -ei ws i) (by omega)
  have h3 := mul_bnd a1 (b := -ei ws i) (by omega)
  have h4 := mul_bnd b1 a0
  unfold za zb
  omega
theorem s47z (hE : EnvOk E) (ws : List Nat) (i : Nat) (a b : Int) (k p : Nat) (hk : k < 4) (hp : p < 4) {Φ : Res → Prop} (ho : ∀ j, OutK E 0 0 (r47z (fDT ws) ws.length i (k + 1) (if gv a b k > gv a b p then k else p) 0 0 0 0 0 0 0 0 0 0 0 0 0 a b (-a) (-b) 0 0 [] [] [] [] j) Φ) (j : Nat → Value) : OutK E 0 0 (r47z (fDT ws) ws.length i k p 0 0 0 0 0 0 0 0 0 0 0 0 0 a b (-a) (-b) 0 0 [] [] [] [] j) Φ := by
  by_cases h : gv a b k > gv a b p
  · rw [if_pos h] at ho
    exact p47zG hE (fDT ws) ws.length i k p 0 0 0 0 0 0 0 0 0 0 0 0 0 a b (-a) (-b) (gv a b k) (gv a b p) [] [] [] [] (decide_eq_true (by simp only [Int.ofNat_eq_natCast]; omega)) ⟨(by simp only [Int.ofNat_eq_natCast]; omega), (by simp only [Int.ofNat_eq_natCast]; omega)⟩ (by simp) (getG a b hk) ⟨(by simp only [Int.ofNat_eq_natCast]; omega), (by simp only [Int.ofNat_eq_natCast]; omega)⟩ (by simp) (getG a b hp) (decide_eq_true h) (iIn k (by omega)) ho j
  · rw [if_neg h] at ho
    exact p47zL hE (fDT ws) ws.length i k p 0 0 0 0 0 0 0 0 0 0 0 0 0 a b (-a) (-b) (gv a b k) (gv a b p) [] [] [] [] (decide_eq_true (by simp only [Int.ofNat_eq_natCast]; omega)) ⟨(by simp only [Int.ofNat_eq_natCast]; omega), (by simp only [Int.ofNat_eq_natCast]; omega)⟩ (by simp) (getG a b hk) ⟨(by simp only [Int.ofNat_eq_natCast]; omega), (by simp only [Int.ofNat_eq_natCast]; omega)⟩ (by simp) (getG a b hp) (decide_eq_false h) (iIn k (by omega)) ho j
theorem l47z (hE : EnvOk E) (ws : List Nat) (i : Nat) (a b : Int) {Φ : Res → Prop} (ho : ∀ j, OutK E 0 0 (r47z (fDT ws) ws.length i 4 (am (gv a b) 4) 0 0 0 0 0 0 0 0 0 0 0 0 0 a b (-a) (-b) 0 0 [] [] [] [] j) Φ) :
    ∀ m' k, m' + k = 4 → ∀ j, OutK E 0 0 (r47z (fDT ws) ws.length i k (am (gv a b) k) 0 0 0 0 0 0 0 0 0 0 0 0 0 a b (-a) (-b) 0 0 [] [] [] [] j) Φ
  | 0, k, hk, j => by
    obtain rfl : k = 4 := by omega
    exact ho j
  | m' + 1, k, hk, j => s47z hE ws i a b k (am (gv a b) k) (by omega) (am_lt _ k (by omega)) (l47z hE ws i a b ho m' (k + 1) (by omega)) j
theorem c47z (hE : EnvOk E) (ws : List Nat) (i : Nat) (a b : Int) (p : Nat) (hp : p < 4) {Φ : Res → Prop} (ho : ∀ j, OutK E 0 0 (t47z (fDT ws) ws.length i 4 p (cn (gv a b) p 4) 0 0 0 0 0 0 0 0 0 0 0 0 a b (-a) (-b) 0 0 [] [] [] [] j) Φ) :
    ∀ m' k, m' + k = 4 → ∀ j, OutK E 0 0 (t47z (fDT ws) ws.length i k p (cn (gv a b) p k) 0 0 0 0 0 0 0 0 0 0 0 0 a b (-a) (-b) 0 0 [] [] [] [] j) Φ
  | 0, k, hk, j => by
    obtain rfl : k = 4 := by omega
    exact ho j
  | m' + 1, k, hkk, j => by
    have hk : k < 4 := by omega
    have hn := c47z hE ws i a b p hp ho m' (k + 1) (by omega)
    have hcn : cn (gv a b) p k ≤ k := by
      clear hn ho hkk hk
      induction k with
      | zero => exact Nat.le_refl _
      | succ k ih => simp only [cn]; split <;> omega
    by_cases h : gv a b k = gv a b p
    · simp only [cn, if_pos h] at hn
      exact p47zV hE (fDT ws) ws.length i k p (cn (gv a b) p k) 0 0 0 0 0 0 0 0 0 0 0 0 a b (-a) (-b) (gv a b k) (gv a b p) [] [] [] [] (decide_eq_true (by simp only [Int.ofNat_eq_natCast]; omega)) ⟨(by simp only [Int.ofNat_eq_natCast]; omega), (by simp only [Int.ofNat_eq_natCast]; omega)⟩ (by simp) (getG a b hk) ⟨(by simp only [Int.ofNat_eq_natCast]; omega), (by simp only [Int.ofNat_eq_natCast]; omega)⟩ (by simp) (getG a b hp) (beq_iff_eq.2 h) (iIn _ (by omega)) (iIn k (by omega)) hn j
    · simp only [cn, if_neg h] at hn
      exact p47zU hE (fDT ws) ws.length i k p (cn (gv a b) p k) 0 0 0 0 0 0 0 0 0 0 0 0 a b (-a) (-b) (gv a b k) (gv a b p) [] [] [] [] (decide_eq_true (by simp only [Int.ofNat_eq_natCast]; omega)) ⟨(by simp only [Int.ofNat_eq_natCast]; omega), (by simp only [Int.ofNat_eq_natCast]; omega)⟩ (by simp) (getG a b hk) ⟨(by simp only [Int.ofNat_eq_natCast]; omega), (by simp only [Int.ofNat_eq_natCast]; omega)⟩ (by simp) (getG a b hp) (beq_eq_false_iff_ne.2 h) (iIn k (by omega)) hn j
theorem s47i (hE : EnvOk E) (ws : List Nat) (i : Nat) (a b : Int) (m : Nat) (P : List Int) (k p : Nat) (hk : k < 4) (hp : p < 4) {Φ : Res → Prop} (ho : ∀ j, OutK E 0 0 (r47i (fDT ws) ws.length i (k + 1) (if gv a b k > gv a b p then k else p) 0 0 m m 0 0 0 0 0 0 0 0 0 a b (-a) (-b) 0 0 (iC P) [] [] [] j) Φ) (j : Nat → Value) : OutK E 0 0 (r47i (fDT ws) ws.length i k p 0 0 m m 0 0 0 0 0 0 0 0 0 a b (-a) (-b) 0 0 (iC P) [] [] [] j) Φ := by
  by_cases h : gv a b k > gv a b p
  · rw [if_pos h] at ho
    exact p47iG hE (fDT ws) ws.length i k p 0 0 m m 0 0 0 0 0 0 0 0 0 a b (-a) (-b) (gv a b k) (gv a b p) (iC P) [] [] [] (decide_eq_true (by simp only [Int.ofNat_eq_natCast]; omega)) ⟨(by simp only [Int.ofNat_eq_natCast]; omega), (by simp only [Int.ofNat_eq_natCast]; omega)⟩ (by simp) (getG a b hk) ⟨(by simp only [Int.ofNat_eq_natCast]; omega), (by simp only [Int.ofNat_eq_natCast]; omega)⟩ (by simp) (getG a b hp) (decide_eq_true h) (iIn k (by omega)) ho j
  · rw [if_neg h] at ho
    exact p47iL hE (fDT ws) ws.length i k p 0 0 m m 0 0 0 0 0 0 0 0 0 a b (-a) (-b) (gv a b k) (gv a b p) (iC P) [] [] [] (decide_eq_true (by simp only [Int.ofNat_eq_natCast]; omega)) ⟨(by simp only [Int.ofNat_eq_natCast]; omega), (by simp only [Int.ofNat_eq_natCast]; omega)⟩ (by simp) (getG a b hk) ⟨(by simp only [Int.ofNat_eq_natCast]; omega), (by simp only [Int.ofNat_eq_natCast]; omega)⟩ (by simp) (getG a b hp) (decide_eq_false h) (iIn k (by omega)) ho j
theorem l47i (hE : EnvOk E) (ws : List Nat) (i : Nat) (a b : Int) (m : Nat) (P : List Int) {Φ : Res → Prop} (ho : ∀ j, OutK E 0 0 (r47i (fDT ws) ws.length i 4 (am (gv a b) 4) 0 0 m m 0 0 0 0 0 0 0 0 0 a b (-a) (-b) 0 0 (iC P) [] [] [] j) Φ) :
    ∀ m' k, m' + k = 4 → ∀ j, OutK E 0 0 (r47i (fDT ws) ws.length i k (am (gv a b) k) 0 0 m m 0 0 0 0 0 0 0 0 0 a b (-a) (-b) 0 0 (iC P) [] [] [] j) Φ
  | 0, k, hk, j => by
    obtain rfl : k = 4 := by omega
    exact ho j
  | m' + 1, k, hk, j => s47i hE ws i a b m P k (am (gv a b) k) (by omega) (am_lt _ k (by omega)) (l47i hE ws i a b m P ho m' (k + 1) (by omega)) j
theorem c47i (hE : EnvOk E) (ws : List Nat) (i : Nat) (a b : Int) (m : Nat) (P : List Int) (p : Nat) (hp : p < 4) {Φ : Res → Prop} (ho : ∀ j, OutK E 0 0 (t47i (fDT ws) ws.length i 4 p (cn (gv a b) p 4) 0 m m 0 0 0 0 0 0 0 0 0 a b (-a) (-b) 0 0 (iC P) [] [] [] j) Φ) :
    ∀ m' k, m' + k = 4 → ∀ j, OutK E 0 0 (t47i (fDT ws) ws.length i k p (cn (gv a b) p k) 0 m m 0 0 0 0 0 0 0 0 0 a b (-a) (-b) 0 0 (iC P) [] [] [] j) Φ
  | 0, k, hk, j => by
    obtain rfl : k = 4 := by omega
    exact ho j
  | m' + 1, k, hkk, j => by
    have hk : k < 4 := by omega
    have hn := c47i hE ws i a b m P p hp ho m' (k + 1) (by omega)
    have hcn : cn (gv a b) p k ≤ k := by
      clear hn ho hkk hk
      induction k with
      | zero => exact Nat.le_refl _
      | succ k ih => simp only [cn]; split <;> omega
    by_cases h : gv a b k = gv a b p
    · simp only [cn, if_pos h] at hn
      exact p47iV hE (fDT ws) ws.length i k p (cn (gv a b) p k) 0 m m 0 0 0 0 0 0 0 0 0 a b (-a) (-b) (gv a b k) (gv a b p) (iC P) [] [] [] (decide_eq_true (by simp only [Int.ofNat_eq_natCast]; omega)) ⟨(by simp only [Int.ofNat_eq_natCast]; omega), (by simp only [Int.ofNat_eq_natCast]; omega)⟩ (by simp) (getG a b hk) ⟨(by simp only [Int.ofNat_eq_natCast]; omega), (by simp only [Int.ofNat_eq_natCast]; omega)⟩ (by simp) (getG a b hp) (beq_iff_eq.2 h) (iIn _ (by omega)) (iIn k (by omega)) hn j
    · simp only [cn, if_neg h] at hn
      exact p47iU hE (fDT ws) ws.length i k p (cn (gv a b) p k) 0 m m 0 0 0 0 0 0 0 0 0 a b (-a) (-b) (gv a b k) (gv a b p) (iC P) [] [] [] (decide_eq_true (by simp only [Int.ofNat_eq_natCast]; omega)) ⟨(by simp only [Int.ofNat_eq_natCast]; omega), (by simp only [Int.ofNat_eq_natCast]; omega)⟩ (by simp) (getG a b hk) ⟨(by simp only [Int.ofNat_eq_natCast]; omega), (by simp only [Int.ofNat_eq_natCast]; omega)⟩ (by simp) (getG a b hp) (beq_eq_false_iff_ne.2 h) (iIn k (by omega)) hn j
theorem s47d (hE : EnvOk E) (ws : List Nat) (i : Nat) (a b : Int) (m m6 : Nat) (P Q : List Int) (k p : Nat) (hk : k < 4) (hp : p < 4) {Φ : Res → Prop} (ho : ∀ j, OutK E 0 0 (r47d (fDT ws) ws.length i (k + 1) (if gv a b k > gv a b p then k else p) 0 0 m m 0 m6 m6 0 0 0 0 0 0 a b (-a) (-b) 0 0 (iC P) [] (iC Q) [] j) Φ) (j : Nat → Value) : OutK E 0 0 (r47d (fDT ws) ws.length i k p 0 0 m m 0 m6 m6 0 0 0 0 0 0 a b (-a) (-b) 0 0 (iC P) [] (iC Q) [] j) Φ := by
  by_cases h : gv a b k > gv a b p
  · rw [if_pos h] at ho
    exact p47dG hE (fDT ws) ws.length i k p 0 0 m m 0 m6 m6 0 0 0 0 0 0 a b (-a) (-b) (gv a b k) (gv a b p) (iC P) [] (iC Q) [] (decide_eq_true (by simp only [Int.ofNat_eq_natCast]; omega)) ⟨(by simp only [Int.ofNat_eq_natCast]; omega), (by simp only [Int.ofNat_eq_natCast]; omega)⟩ (by simp) (getG a b hk) ⟨(by simp only [Int.ofNat_eq_natCast]; omega), (by simp only [Int.ofNat_eq_natCast]; omega)⟩ (by simp) (getG a b hp) (decide_eq_true h) (iIn k (by omega)) ho j
  · rw [if_neg h] at ho
    exact p47dL hE (fDT ws) ws.length i k p 0 0 m m 0 m6 m6 0 0 0 0 0 0 a b (-a) (-b) (gv a b k) (gv a b p) (iC P) [] (iC Q) [] (decide_eq_true (by simp only [Int.ofNat_eq_natCast]; omega)) ⟨(by simp only [Int.ofNat_eq_natCast]; omega), (by simp only [Int.ofNat_eq_natCast]; omega)⟩ (by simp) (getG a b hk) ⟨(by simp only [Int.ofNat_eq_natCast]; omega), (by simp only [Int.ofNat_eq_natCast]; omega)⟩ (by simp) (getG a b hp) (decide_eq_false h) (iIn k (by omega)) ho j
theorem l47d (hE : EnvOk E) (ws : List Nat) (i : Nat) (a b : Int) (m m6 : Nat) (P Q : List Int) {Φ : Res → Prop} (ho : ∀ j, OutK E 0 0 (r47d (fDT ws) ws.length i 4 (am (gv a b) 4) 0 0 m m 0 m6 m6 0 0 0 0 0 0 a b (-a) (-b) 0 0 (iC P) [] (iC Q) [] j) Φ) :
    ∀ m' k, m' + k = 4 → ∀ j, OutK E 0 0 (r47d (fDT ws) ws.length i k (am (gv a b) k) 0 0 m m 0 m6 m6 0 0 0 0 0 0 a b (-a) (-b) 0 0 (iC P) [] (iC Q) [] j) Φ
  | 0, k, hk, j => by
    obtain rfl : k = 4 := by omega
    exact ho j
  | m' + 1, k, hk, j => s47d hE ws i a b m m6 P Q k (am (gv a b) k) (by omega) (am_lt _ k (by omega)) (l47d hE ws i a b m m6 P Q ho m' (k + 1) (by omega)) j
theorem c47d (hE : EnvOk E) (ws : List Nat) (i : Nat) (a b : Int) (m m6 : Nat) (P Q : List Int) (p : Nat) (hp : p < 4) {Φ : Res → Prop} (ho : ∀ j, OutK E 0 0 (t47d (fDT ws) ws.length i 4 p (cn (gv a b) p 4) 0 m m 0 m6 m6 0 0 0 0 0 0 a b (-a) (-b) 0 0 (iC P) [] (iC Q) [] j) Φ) :
    ∀ m' k, m' + k = 4 → ∀ j, OutK E 0 0 (t47d (fDT ws) ws.length i k p (cn (gv a b) p k) 0 m m 0 m6 m6 0 0 0 0 0 0 a b (-a) (-b) 0 0 (iC P) [] (iC Q) [] j) Φ
  | 0, k, hk, j => by
    obtain rfl : k = 4 := by omega
    exact ho j
  | m' + 1, k, hkk, j => by
    have hk : k < 4 := by omega
    have hn := c47d hE ws i a b m m6 P Q p hp ho m' (k + 1) (by omega)
    have hcn : cn (gv a b) p k ≤ k := by
      clear hn ho hkk hk
      induction k with
      | zero => exact Nat.le_refl _
      | succ k ih => simp only [cn]; split <;> omega
    by_cases h : gv a b k = gv a b p
    · simp only [cn, if_pos h] at hn
      exact p47dV hE (fDT ws) ws.length i k p (cn (gv a b) p k) 0 m m 0 m6 m6 0 0 0 0 0 0 a b (-a) (-b) (gv a b k) (gv a b p) (iC P) [] (iC Q) [] (decide_eq_true (by simp only [Int.ofNat_eq_natCast]; omega)) ⟨(by simp only [Int.ofNat_eq_natCast]; omega), (by simp only [Int.ofNat_eq_natCast]; omega)⟩ (by simp) (getG a b hk) ⟨(by simp only [Int.ofNat_eq_natCast]; omega), (by simp only [Int.ofNat_eq_natCast]; omega)⟩ (by simp) (getG a b hp) (beq_iff_eq.2 h) (iIn _ (by omega)) (iIn k (by omega)) hn j
    · simp only [cn, if_neg h] at hn
      exact p47dU hE (fDT ws) ws.length i k p (cn (gv a b) p k) 0 m m 0 m6 m6 0 0 0 0 0 0 a b (-a) (-b) (gv a b k) (gv a b p) (iC P) [] (iC Q) [] (decide_eq_true (by simp only [Int.ofNat_eq_natCast]; omega)) ⟨(by simp only [Int.ofNat_eq_natCast]; omega), (by simp only [Int.ofNat_eq_natCast]; omega)⟩ (by simp) (getG a b hk) ⟨(by simp only [Int.ofNat_eq_natCast]; omega), (by simp only [Int.ofNat_eq_natCast]; omega)⟩ (by simp) (getG a b hp) (beq_eq_false_iff_ne.2 h) (iIn k (by omega)) hn j
end
end Go.Proofs.YtdjjpjahlhdjnaaGreatDoor

end

/-! SeMd -/
section
open Go Go.Ev
namespace Go.Proofs.YtdjjpjahlhdjnaaGreatDoor
noncomputable section
set_option maxRecDepth 100000
set_option maxHeartbeats 20000000


open Ieee
theorem rd47z (hE : EnvOk E) {ws : List Nat} (hc : ∀ b ∈ ws, chkW 1024 b = 0) (t : Nat) (h : 4 * (t + 1) + 4 ≤ ws.length) (ht : t ≤ 2000) {Φ : Res → Prop}
    (ho : ∀ j, OutK E 0 0 (t47z (fDT ws) ws.length (t + 1) 4 (phN ws t) (cn (gv (za ws t) (zb ws t)) (phN ws t) 4) 0 0 0 0 0 0 0 0 0 0 0 0 (za ws t) (zb ws t) (-za ws t) (-zb ws t) 0 0 [] [] [] [] j) Φ) (j : Nat → Value) : OutK E 0 0 (q47z (fDT ws) ws.length (t + 1) 0 0 0 0 0 0 0 0 0 0 0 0 0 0 0 0 0 0 0 0 0 [] [] [] [] j) Φ := by
  obtain ⟨a1, b1⟩ := er_bnd hc h
  obtain ⟨a0, b0⟩ := er_bnd (i := t) hc (by omega)
  obtain ⟨za1, zb1⟩ := z_bnd hc h
  have hp := am_lt (gv (za ws t) (zb ws t)) 4 (by decide)
  refine p47zb hE (fDT ws) ws.length (t + 1) 0 0 0 t 0 0 0 0 0 0 (er ws t) (ei ws t) (er ws (t + 1)) (ei ws (t + 1)) (-ei ws t) (za ws t) (zb ws t) (-za ws t) (-zb ws t) 0 0 [] [] [] [] (iIe (mul4 (by omega))) (decide_eq_true (by simp only [Int.ofNat_eq_natCast]; omega)) (K96_1 hE hc h (by omega)) (iIe (by rw [wrap_id (by simp only [Int.ofNat_eq_natCast]; omega) (by simp only [Int.ofNat_eq_natCast]; omega)]; simp only [Int.ofNat_eq_natCast]; omega)) (K96_1 hE hc (by omega) (by omega)) (K115 hE (by omega)) (K108 hE (by unfold Sm; omega) (by unfold Sm; omega) (by unfold Sm; omega) (by unfold Sm; omega) rfl rfl) (iIe (by rw [show (0 : Int) - za ws t = -za ws t by omega]; exact wrap_id (by omega) (by omega))) (iIe (by rw [show (0 : Int) - zb ws t = -zb ws t by omega]; exact wrap_id (by omega) (by omega))) (fun j => ?_) j
  refine l47z hE ws (t + 1) (za ws t) (zb ws t) (fun j => ?_) 4 0 rfl j
  refine p47zx hE (fDT ws) ws.length (t + 1) 4 (phN ws t) 0 0 0 0 0 0 0 0 0 0 0 0 0 (za ws t) (zb ws t) (-za ws t) (-zb ws t) 0 0 [] [] [] [] (by decide) (fun j => ?_) j
  exact c47z hE ws (t + 1) (za ws t) (zb ws t) (phN ws t) hp ho 4 0 rfl j
theorem rd47i (hE : EnvOk E) {ws : List Nat} (hc : ∀ b ∈ ws, chkW 1024 b = 0) (t : Nat) (h : 4 * (t + 1) + 4 ≤ ws.length) (ht : t ≤ 2000) (m : Nat) (P : List Int) {Φ : Res → Prop}
    (ho : ∀ j, OutK E 0 0 (t47i (fDT ws) ws.length (t + 1) 4 (phN ws t) (cn (gv (za ws t) (zb ws t)) (phN ws t) 4) 0 m m 0 0 0 0 0 0 0 0 0 (za ws t) (zb ws t) (-za ws t) (-zb ws t) 0 0 (iC P) [] [] [] j) Φ) (j : Nat → Value) : OutK E 0 0 (q47i (fDT ws) ws.length (t + 1) 0 0 0 0 m m 0 0 0 0 0 0 0 0 0 0 0 0 0 0 0 (iC P) [] [] [] j) Φ := by
  obtain ⟨a1, b1⟩ := er_bnd hc h
  obtain ⟨a0, b0⟩ := er_bnd (i := t) hc (by omega)
  obtain ⟨za1, zb1⟩ := z_bnd hc h
  have hp := am_lt (gv (za ws t) (zb ws t)) 4 (by decide)
  refine p47ib hE (fDT ws) ws.length (t + 1) 0 0 0 t m m 0 0 0 0 (er ws t) (ei ws t) (er ws (t + 1)) (ei ws (t + 1)) (-ei ws t) (za ws t) (zb ws t) (-za ws t) (-zb ws t) 0 0 (iC P) [] [] [] (iIe (mul4 (by omega))) (decide_eq_true (by simp only [Int.ofNat_eq_natCast]; omega)) (K96_1 hE hc h (by omega)) (iIe (by rw [wrap_id (by simp only [Int.ofNat_eq_natCast]; omega) (by simp only [Int.ofNat_eq_natCast]; omega)]; simp only [Int.ofNat_eq_natCast]; omega)) (K96_1 hE hc (by omega) (by omega)) (K115 hE (by omega)) (K108 hE (by unfold Sm; omega) (by unfold Sm; omega) (by unfold Sm; omega) (by unfold Sm; omega) rfl rfl) (iIe (by rw [show (0 : Int) - za ws t = -za ws t by omega]; exact wrap_id (by omega) (by omega))) (iIe (by rw [show (0 : Int) - zb ws t = -zb ws t by omega]; exact wrap_id (by omega) (by omega))) (flat_iC _) (fun j => ?_) j
  refine l47i hE ws (t + 1) (za ws t) (zb ws t) m P (fun j => ?_) 4 0 rfl j
  refine p47ix hE (fDT ws) ws.length (t + 1) 4 (phN ws t) 0 0 m m 0 0 0 0 0 0 0 0 0 (za ws t) (zb ws t) (-za ws t) (-zb ws t) 0 0 (iC P) [] [] [] (by decide) (fun j => ?_) j
  exact c47i hE ws (t + 1) (za ws t) (zb ws t) m P (phN ws t) hp ho 4 0 rfl j
theorem rd47d (hE : EnvOk E) {ws : List Nat} (hc : ∀ b ∈ ws, chkW 1024 b = 0) (t : Nat) (h : 4 * (t + 1) + 4 ≤ ws.length) (ht : t ≤ 2000) (m m6 : Nat) (P Q : List Int) {Φ : Res → Prop}
    (ho : ∀ j, OutK E 0 0 (t47d (fDT ws) ws.length (t + 1) 4 (phN ws t) (cn (gv (za ws t) (zb ws t)) (phN ws t) 4) 0 m m 0 m6 m6 0 0 0 0 0 0 (za ws t) (zb ws t) (-za ws t) (-zb ws t) 0 0 (iC P) [] (iC Q) [] j) Φ) (j : Nat → Value) : OutK E 0 0 (q47d (fDT ws) ws.length (t + 1) 0 0 0 0 m m 0 m6 m6 0 0 0 0 0 0 0 0 0 0 0 0 (iC P) [] (iC Q) [] j) Φ := by
  obtain ⟨a1, b1⟩ := er_bnd hc h
  obtain ⟨a0, b0⟩ := er_bnd (i := t) hc (by omega)
  obtain ⟨za1, zb1⟩ := z_bnd hc h
  have hp := am_lt (gv (za ws t) (zb ws t)) 4 (by decide)
  refine p47db hE (fDT ws) ws.length (t + 1) 0 0 0 t m m 0 m6 m6 0 (er ws t) (ei ws t) (er ws (t + 1)) (ei ws (t + 1)) (-ei ws t) (za ws t) (zb ws t) (-za ws t) (-zb ws t) 0 0 (iC P) [] (iC Q) [] (iIe (mul4 (by omega))) (decide_eq_true (by simp only [Int.ofNat_eq_natCast]; omega)) (K96_1 hE hc h (by omega)) (iIe (by rw [wrap_id (by simp only [Int.ofNat_eq_natCast]; omega) (by simp only [Int.ofNat_eq_natCast]; omega)]; simp only [Int.ofNat_eq_natCast]; omega)) (K96_1 hE hc (by omega) (by omega)) (K115 hE (by omega)) (K108 hE (by unfold Sm; omega) (by unfold Sm; omega) (by unfold Sm; omega) (by unfold Sm; omega) rfl rfl) (iIe (by rw [show (0 : Int) - za ws t = -za ws t by omega]; exact wrap_id (by omega) (by omega))) (iIe (by rw [show (0 : Int) - zb ws t = -zb ws t by omega]; exact wrap_id (by omega) (by omega))) (flat_iC _) (flat_iC _) (fun j => ?_) j
  refine l47d hE ws (t + 1) (za ws t) (zb ws t) m m6 P Q (fun j => ?_) 4 0 rfl j
  refine p47dx hE (fDT ws) ws.length (t + 1) 4 (phN ws t) 0 0 m m 0 m6 m6 0 0 0 0 0 0 (za ws t) (zb ws t) (-za ws t) (-zb ws t) 0 0 (iC P) [] (iC Q) [] (by decide) (fun j => ?_) j
  exact c47d hE ws (t + 1) (za ws t) (zb ws t) m m6 P Q (phN ws t) hp ho 4 0 rfl j

def Q47 (ws : List Nat) (i t : Nat) (P : List Int) : List Int → (Nat → Value) → St
  | [], j => q47i (fDT ws) ws.length i 0 0 0 0 t t 0 0 0 0 0 0 0 0 0 0 0 0 0 0 0 (iC P) [] [] [] j
  | y :: Q, j => q47d (fDT ws) ws.length i 0 0 0 0 t t 0 (Q.length + 1) (Q.length + 1) 0 0 0 0 0 0 0 0 0 0 0 0 (iC P) [] (iC (y :: Q)) [] j
theorem Q47_app (ws : List Nat) (i t : Nat) (P : List Int) (y : Int) (Q : List Int) (z : Int) (j : Nat → Value) : Q47 ws i t P (y :: Q ++ [z]) j = q47d (fDT ws) ws.length i 0 0 0 0 t t 0 (Q.length + 1 + 1) (Q.length + 1 + 1) 0 0 0 0 0 0 0 0 0 0 0 0 (iC P) [] (iC (y :: (Q ++ [z]))) [] j := by simp [Q47]
def V47 (t : Nat) : List Int → AV
  | [] => .tup [.one (.slc 0 0 t 1 t false), .one (.v (.slice none 0 0)), .one (.v (.int .i64 0))]
  | _ :: Q => .tup [.one (.slc 0 0 t 1 t false), .one (.slc 1 0 (Q.length + 1) 1 (Q.length + 1) false), .one (.v (.int .i64 0))]
def H47 (t : Nat) (P : List Int) : List Int → Heap
  | [] => [some ⟨iC P, t, 3, false, .cells⟩]
  | y :: Q => [some ⟨iC P, t, 3, false, .cells⟩, some ⟨iC (y :: Q), Q.length + 1, 3, false, .cells⟩]
theorem L47 (hE : EnvOk E) {ws : List Nat} (hc : ∀ b ∈ ws, chkW 1024 b = 0) (K : Nat) (hk : ws.length = 4 * (K + 1)) (hK : K ≤ 1100) :
    ∀ r t P Q, r + t = K → P = demP ws t → Q = demD ws t → Q.length ≤ t → ∀ j, OutK E 0 0 (Q47 ws (t + 1) t P Q j) (Go.Ev.Ends E Tryz.f47 (V47 K (demD ws K)) (H47 K (demP ws K) (demD ws K)))
  | 0, t, P, Q, ht, hP, hQ, hl, j => by
    obtain rfl : t = K := by omega
    subst hP hQ
    cases hv : demD ws t with
    | nil => exact p47ie hE (fDT ws) ws.length (t + 1) 0 0 0 0 t t 0 0 0 0 0 0 0 0 0 0 0 0 0 0 0 (iC (demP ws t)) [] [] [] (iIe (mul4 (by omega))) (decide_eq_false (by simp only [Int.ofNat_eq_natCast]; omega)) (fun j => outK_ret (ends_ret (by kernel_rfl))) j
    | cons y Q => exact p47de hE (fDT ws) ws.length (t + 1) 0 0 0 0 t t 0 (Q.length + 1) (Q.length + 1) 0 0 0 0 0 0 0 0 0 0 0 0 (iC (demP ws t)) [] (iC (y :: Q)) [] (iIe (mul4 (by omega))) (decide_eq_false (by simp only [Int.ofNat_eq_natCast]; omega)) (fun j => outK_ret (ends_ret (by kernel_rfl))) j
  | r + 1, t, P, Q, ht, hP, hQ, hl, j => by
    have h : 4 * (t + 1) + 4 ≤ ws.length := by omega
    have eP : P ++ [Int.ofNat (phN ws t)] = demP ws (t + 1) := by rw [hP]; rfl
    cases hd : dbN ws t with
    | true =>
      have hd1 : decide (Int.ofNat (cn (gv (za ws t) (zb ws t)) (phN ws t) 4) > 1) = true := decide_eq_true (by have := of_decide_eq_true hd; simp only [Int.ofNat_eq_natCast]; omega)
      have eQ : Q ++ [Int.ofNat t] = demD ws (t + 1) := by simp [demD, hd, hQ]
      cases Q with
      | nil => exact rd47i hE hc t h (by omega) t P (fun j => p47iw hE (fDT ws) ws.length (t + 1) 4 (phN ws t) (cn (gv (za ws t) (zb ws t)) (phN ws t) 4) t t t (t + 1) 0 0 0 0 0 0 0 0 (za ws t) (zb ws t) (-za ws t) (-zb ws t) 0 0 (iC P) (iC (P ++ [Int.ofNat (phN ws t)])) [] [] (by decide) (by omega) (sm1 (by omega)) (Nat.mul_one _).symm (iC_app P [Int.ofNat (phN ws t)]) (Nat.mul_one _) hd1 (iIe (by rw [wrap_id (by simp only [Int.ofNat_eq_natCast]; omega) (by simp only [Int.ofNat_eq_natCast]; omega)]; simp only [Int.ofNat_eq_natCast]; omega)) (iIn (t + 1) (by omega)) (flat_iC _) (L47 hE hc K hk hK r (t + 1) _ [Int.ofNat t] (by omega) eP eQ (by simp)) j) j
      | cons y Q =>
        have ho := L47 hE hc K hk hK r (t + 1) _ (y :: Q ++ [Int.ofNat t]) (by omega) eP eQ (by simp at hl ⊢; omega)
        simp only [Q47_app] at ho
        exact rd47d hE hc t h (by omega) t (Q.length + 1) P (y :: Q) (fun j => p47dw hE (fDT ws) ws.length (t + 1) 4 (phN ws t) (cn (gv (za ws t) (zb ws t)) (phN ws t) 4) t t t (t + 1) (Q.length + 1) (Q.length + 1) (Q.length + 1 + 1) 0 0 0 0 0 (za ws t) (zb ws t) (-za ws t) (-zb ws t) 0 0 (iC P) (iC (P ++ [Int.ofNat (phN ws t)])) (iC (y :: Q)) (iC (y :: (Q ++ [Int.ofNat t]))) (by decide) (by omega) (sm1 (by omega)) (Nat.mul_one _).symm (iC_app P [Int.ofNat (phN ws t)]) (Nat.mul_one _) hd1 (iIe (by rw [wrap_id (by simp only [Int.ofNat_eq_natCast]; omega) (by simp only [Int.ofNat_eq_natCast]; omega)]; simp only [Int.ofNat_eq_natCast]; omega)) (by omega) (sm1 (by simp at hl; omega)) (Nat.mul_one _).symm (iC_app (y :: Q) [Int.ofNat t]) (Nat.mul_one _) (iIn (t + 1) (by omega)) (flat_iC _) (flat_iC _) ho j) j
    | false =>
      have hd1 : decide (Int.ofNat (cn (gv (za ws t) (zb ws t)) (phN ws t) 4) > 1) = false := decide_eq_false (by have := of_decide_eq_false hd; simp only [Int.ofNat_eq_natCast]; omega)
      have eQ : Q = demD ws (t + 1) := by simp [demD, hd, hQ]
      cases Q with
      | nil => exact rd47i hE hc t h (by omega) t P (fun j => p47io hE (fDT ws) ws.length (t + 1) 4 (phN ws t) (cn (gv (za ws t) (zb ws t)) (phN ws t) 4) t t t (t + 1) 0 0 0 0 0 0 0 0 (za ws t) (zb ws t) (-za ws t) (-zb ws t) 0 0 (iC P) (iC (P ++ [Int.ofNat (phN ws t)])) [] [] (by decide) (by omega) (sm1 (by omega)) (Nat.mul_one _).symm (iC_app P [Int.ofNat (phN ws t)]) (Nat.mul_one _) hd1 (iIn (t + 1) (by omega)) (flat_iC _) (L47 hE hc K hk hK r (t + 1) _ [] (by omega) eP eQ (by simp)) j) j
      | cons y Q =>
        have ho := L47 hE hc K hk hK r (t + 1) _ (y :: Q) (by omega) eP eQ (by simp at hl ⊢; omega)
        exact rd47d hE hc t h (by omega) t (Q.length + 1) P (y :: Q) (fun j => p47do hE (fDT ws) ws.length (t + 1) 4 (phN ws t) (cn (gv (za ws t) (zb ws t)) (phN ws t) 4) t t t (t + 1) (Q.length + 1) (Q.length + 1) 0 0 0 0 0 0 (za ws t) (zb ws t) (-za ws t) (-zb ws t) 0 0 (iC P) (iC (P ++ [Int.ofNat (phN ws t)])) (iC (y :: Q)) [] (by decide) (by omega) (sm1 (by omega)) (Nat.mul_one _).symm (iC_app P [Int.ofNat (phN ws t)]) (Nat.mul_one _) hd1 (iIn (t + 1) (by omega)) (flat_iC _) (flat_iC _) (fun j => outK_gcF [1, 0] [true, true] (h' := [some ⟨iC (P ++ [Int.ofNat (phN ws t)]), t + 1, 3, false, .cells⟩, some ⟨iC (y :: Q), Q.length + 1, 3, false, .cells⟩]) (by decide) (by kernel_rfl) (by kernel_rfl) ⟨flat_iC _, flat_iC _, trivial⟩ (by kernel_rfl) (ho j)) j) j

theorem cOut_weak {f : FuncId} {args : List AV} {h : Heap} {v v' : AV} (hc : COut E 0 [] f args v h) (hw : ∀ (m : M) (y : Value), VR m v y → VR m v' y) : COut E 0 [] f args v' h := by
  intro m base w argsC ha H G
  exact (hc m base w argsC ha H G).mono fun en w' ⟨y, hy, m1, hp⟩ => ⟨y, hy, m1, hp.le, hw _ _ hp.val, hp.heap, hp.below⟩
theorem nil_32 {x z : AE} {p : Option Addr} {c : Nat} (sz : Nat) (m : M) (y : Value) (h : VR m (.tup [x, .one (.v (.slice p 0 c)), z]) y) : VR m (.tup [x, .one (.dp (.s [] 0 sz)), z]) y := by
  obtain ⟨vs, e, hv⟩ := h
  refine ⟨vs, e, ?_⟩
  revert hv
  generalize vs.toList = l
  intro hv
  match l, hv with
  | [a, b, d], hv => exact ⟨hv.1, .inl ⟨rfl, p, c, hv.2.1⟩, hv.2.2.1, trivial⟩
theorem nil_31 {x z : AE} {p : Option Addr} {c : Nat} (sz : Nat) (m : M) (y : Value) (h : VR m (.tup [.one (.v (.slice p 0 c)), x, z]) y) : VR m (.tup [.one (.dp (.s [] 0 sz)), x, z]) y := by
  obtain ⟨vs, e, hv⟩ := h
  refine ⟨vs, e, ?_⟩
  revert hv
  generalize vs.toList = l
  intro hv
  match l, hv with
  | [a, b, d], hv => exact ⟨.inl ⟨rfl, p, c, hv.1⟩, hv.2.1, hv.2.2.1, trivial⟩
abbrev demR (P : List Int) (K : Nat) (Q : List Int) : AV := .tup [.one (.dp (.s (iD P) K 1)), .one (.dp (.s (iD Q) Q.length 1)), .one (.v (.int .i64 0))]
abbrev demE (e : Int) : AV := .tup [.one (.dp (.s [] 0 1)), .one (.dp (.s [] 0 1)), .one (.v (.int .i64 e))]
/-- two lists, and no error, come to rest -/
theorem rest47 {f : FuncId} {args : List AV} {K : Nat} {P Q : List Int} (hP : P.length = K) (hc : COut E 0 [] f args (V47 K Q) (H47 K P Q)) : COut E 0 [] f args (demR P K Q) [] := by
  have tk : ∀ (l : List Int) (n : Nat), l.length = n → takeL (dropL (iD l) 0) (n * 1) = some (iD l) := by
    intro l n h
    rw [takeL_eq, dropL_eq, List.drop_zero, if_pos (by simp [h]), List.take_of_length_le (by simp [h])]
  cases Q with
  | nil =>
    have h1 := cOut_freeze 0 hc rfl (Nat.zero_le _) (ds := iD P) (v' := .tup [.one (.dp (.s (iD P) K 1)), .one (.v (.slice none 0 0)), .one (.v (.int .i64 0))]) ⟨.inr ⟨0, K, 1, K, false, iD P, rfl, rfl, tk P K hP⟩, .inl rfl, .inl rfl, trivial⟩
    exact cOut_clear (cOut_weak h1 (nil_32 1)) rfl
  | cons y Q =>
    have h1 := cOut_freeze 0 hc rfl (Nat.zero_le _) (ds := iD P) (v' := .tup [.one (.dp (.s (iD P) K 1)), .one (.slc 1 0 (Q.length + 1) 1 (Q.length + 1) false), .one (.v (.int .i64 0))]) ⟨.inr ⟨0, K, 1, K, false, iD P, rfl, rfl, tk P K hP⟩, .inl rfl, .inl rfl, trivial⟩
    have h2 := cOut_freeze 1 h1 rfl (Nat.zero_le _) (ds := iD (y :: Q)) (v' := demR P K (y :: Q)) ⟨.inl rfl, .inr ⟨0, Q.length + 1, 1, Q.length + 1, false, iD (y :: Q), rfl, rfl, tk (y :: Q) (Q.length + 1) rfl⟩, .inl rfl, trivial⟩
    exact cOut_clear h2 rfl
theorem K47e (hE : EnvOk E) (ws : List Nat) (h : ws.length < 8) : COut E 0 [] 47 [.e (.one (dF ws).ac)] (demE 16) [] := by
  have h1 : COut E 0 [] 47 [.e (.one (dF ws).ac)] (.tup [.one (.v (.slice none 0 0)), .one (.v (.slice none 0 0)), .one (.v (.int .i64 16))]) [] :=
    cOut_start Tryz.func47 rfl (p47e hE (fDT ws) ws.length 0 0 0 0 0 0 0 0 0 0 0 0 0 0 0 0 0 0 0 0 0 0 [] [] [] [] (decide_eq_true (by omega)) (fun j => outK_ret (ends_ret (by kernel_rfl))) fun _ => undef)
  exact cOut_weak (cOut_weak h1 (nil_32 1)) (nil_31 1)
theorem K47 (hE : EnvOk E) {ws : List Nat} (hc : ∀ b ∈ ws, chkW 1024 b = 0) (K : Nat) (hk : ws.length = 4 * (K + 1)) (h1 : 1 ≤ K) (hK : K ≤ 1100) : COut E 0 [] 47 [.e (.one (dF ws).ac)] (demR (demP ws K) K (demD ws K)) [] := by
  have h : 4 * (0 + 1) + 4 ≤ ws.length := by omega
  refine rest47 (demP_len ws K) (cOut_start Tryz.func47 rfl (p47a hE (fDT ws) ws.length 0 0 0 0 0 0 0 0 0 0 0 0 0 0 0 0 0 0 0 0 0 0 [] [] [] [] (decide_eq_false (by omega)) (rd47z hE hc 0 h (by decide) (fun j => ?_)) fun _ => undef))
  cases hd : dbN ws 0 with
  | true =>
    have hd1 : decide (Int.ofNat (cn (gv (za ws 0) (zb ws 0)) (phN ws 0) 4) > 1) = true := decide_eq_true (by have := of_decide_eq_true hd; simp only [Int.ofNat_eq_natCast]; omega)
    exact p47zw hE (fDT ws) ws.length (0 + 1) 4 (phN ws 0) (cn (gv (za ws 0) (zb ws 0)) (phN ws 0) 4) 0 0 0 0 0 0 0 0 0 0 0 0 (za ws 0) (zb ws 0) (-za ws 0) (-zb ws 0) 0 0 [] [] [] [] (by decide) hd1 rfl (iIn (0 + 1) (by decide)) (L47 hE hc K hk hK (K - 1) 1 [Int.ofNat (phN ws 0)] [Int.ofNat 0] (by omega) rfl (by simp [demD, hd]) (by simp)) j
  | false =>
    have hd1 : decide (Int.ofNat (cn (gv (za ws 0) (zb ws 0)) (phN ws 0) 4) > 1) = false := decide_eq_false (by have := of_decide_eq_false hd; simp only [Int.ofNat_eq_natCast]; omega)
    exact p47zo hE (fDT ws) ws.length (0 + 1) 4 (phN ws 0) (cn (gv (za ws 0) (zb ws 0)) (phN ws 0) 4) 0 0 0 0 0 0 0 0 0 0 0 0 (za ws 0) (zb ws 0) (-za ws 0) (-zb ws 0) 0 0 [] [] [] [] (by decide) hd1 (iIn (0 + 1) (by decide)) (L47 hE hc K hk hK (K - 1) 1 [Int.ofNat (phN ws 0)] [] (by omega) rfl (by simp [demD, hd]) (by simp)) j
end
end Go.Proofs.YtdjjpjahlhdjnaaGreatDoor

end
