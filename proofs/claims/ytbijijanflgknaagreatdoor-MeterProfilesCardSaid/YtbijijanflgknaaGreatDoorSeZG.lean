/-
  Part of the proof: SePf, SeIv, SeIw, SeRd2, SeRe, SeSt.
-/
import Derived.Test.YtbijijanflgknaaGreatDoorSeZF

/-! SePf -/
section
open Go Go.Ev
namespace Go.Proofs.YtbijijanflgknaaGreatDoor
noncomputable section
set_option maxRecDepth 100000
set_option maxHeartbeats 20000000
def s88 (C : List DT) (n _i _N _N2 : Nat) (_a _b _c _d _e : Int) (_D _D2 : List AC) (_j : Nat → Value) : St := startK Tryz.f88 [] [(.e (.one (.dp (.s C n 5))))]
def s33 (C _C2 : List DT) (n _i : Nat) (r _a _b _c _d _e _a2 _b2 _c2 _d2 _e2 _f _g _h _k _u : Int) (_w : Bool) (_j : Nat → Value) : St := startK Tryz.f33 [] [.e (.agg [.v (.int .i64 r), .dp (.s C n 5)])]
def s31 (C _C2 : List DT) (n _i : Nat) (r _a _b _c _d _e _a2 _b2 _c2 _d2 _e2 _f _g _h _k _u : Int) (_w : Bool) (_j : Nat → Value) : St := startK Tryz.f31 [] [.e (.agg [.v (.int .i64 r), .dp (.s C n 5)])]
def s85 (C _C2 : List DT) (n _i : Nat) (_r _a _b _c _d _e _a2 _b2 _c2 _d2 _e2 _f _g _h _k _u : Int) (_w : Bool) (_j : Nat → Value) : St := startK Tryz.f85 [] [(.e (.one (.dp (.s C n 5))))]
def s86 (C _C2 : List DT) (n _i : Nat) (_r a b c d e _a2 _b2 _c2 _d2 _e2 _f _g _h _k _u : Int) (_w : Bool) (_j : Nat → Value) : St := startK Tryz.f86 [] [(.e (.one (.dp (.s C n 5)))), .e (.agg [.v (.int .i64 a), .v (.int .i64 b), .v (.int .i64 c), .v (.int .i64 d), .v (.int .i64 e)])]
def s89 (_C _C2 : List DT) (_n _i : Nat) (_r a b c d e a2 b2 c2 d2 e2 _f _g _h _k _u : Int) (_w : Bool) (_j : Nat → Value) : St := startK Tryz.f89 [] [.e (.agg [.v (.int .i64 a2), .v (.int .i64 b2), .v (.int .i64 c2), .v (.int .i64 d2), .v (.int .i64 e2)]), .e (.agg [.v (.int .i64 a), .v (.int .i64 b), .v (.int .i64 c), .v (.int .i64 d), .v (.int .i64 e)])]
def s38 (C _C2 : List DT) (n _i : Nat) (r _a _b _c _d _e _a2 _b2 _c2 _d2 _e2 _f _g _h _k _u : Int) (_w : Bool) (_j : Nat → Value) : St := startK Tryz.f38 [] [.e (.agg [.v (.int .i64 r), .dp (.s C n 5)])]
def s34 (C _C2 : List DT) (n _i : Nat) (r _a _b _c _d _e _a2 _b2 _c2 _d2 _e2 _f _g _h _k _u : Int) (_w : Bool) (_j : Nat → Value) : St := startK Tryz.f34 [] [.e (.agg [.v (.int .i64 r), .dp (.s C n 5)])]
def q88n (C : List DT) (n _i _N _N2 : Nat) (_a _b _c _d _e : Int) (_D _D2 : List AC) (j : Nat → Value) : St := ⟨[], [(.code (atC [1, 1, 0, 1, 0, 0] (bodyOf Tryz.f88))), (.inLoop (atC [1, 1, 0, 1, 0, 0] (bodyOf Tryz.f88))), (.inBlock 0), (.code (atC [1, 1, 1] (bodyOf Tryz.f88)))], mkT j [(3, (.e (.one (.v (.slice none 0 0))))), (6, (.e (.one (.dp (.s (C) (n) 5))))), (7, (iI (Int.ofNat n))), (8, (iI (Int.ofNat 0)))] 18 0⟩
def q88 (C : List DT) (n i N _N2 : Nat) (_a _b _c _d _e : Int) (D _D2 : List AC) (j : Nat → Value) : St := ⟨[some ⟨D, N, 68, false, .cells⟩], [(.code (atC [1, 1, 0, 1, 0, 0] (bodyOf Tryz.f88))), (.inLoop (atC [1, 1, 0, 1, 0, 0] (bodyOf Tryz.f88))), (.inBlock 0), (.code (atC [1, 1, 1] (bodyOf Tryz.f88)))], mkT j [(3, (.e (.one (.slc 0 0 i 5 i false)))), (6, (.e (.one (.dp (.s (C) (n) 5))))), (7, (iI (Int.ofNat n))), (8, (iI (Int.ofNat i)))] 18 0⟩
def q38 (C _C2 : List DT) (n i : Nat) (r _a _b _c _d _e _a2 _b2 _c2 _d2 _e2 _f _g _h _k _u : Int) (_w : Bool) (j : Nat → Value) : St := ⟨[(.some ⟨[(.v (.int .i64 (r))), (.dp (.s (C) (n) 5))], 2, 64, true, .cells⟩)], [(.code (atC [1, 1, 1, 0, 1, 0, 0] (bodyOf Tryz.f38))), (.inLoop (atC [1, 1, 1, 0, 1, 0, 0] (bodyOf Tryz.f38))), (.inBlock 0), (.code (atC [1, 1, 1, 1] (bodyOf Tryz.f38)))], mkT j [(1, (.e (.one (.ptr 0 0)))), (23, (.e (.one (.dp (.s (C) (n) 5))))), (24, (iI (Int.ofNat n))), (25, (iI (Int.ofNat i)))] 44 0⟩
def q34 (C _C2 : List DT) (n i : Nat) (r _a _b _c _d _e _a2 _b2 _c2 _d2 _e2 _f _g _h _k _u : Int) (_w : Bool) (j : Nat → Value) : St := ⟨[(.some ⟨[(.v (.int .i64 (r))), (.dp (.s (C) (n) 5))], 2, 58, true, .cells⟩)], [(.code (atC [1, 1, 0, 1, 0, 0] (bodyOf Tryz.f34))), (.inLoop (atC [1, 1, 0, 1, 0, 0] (bodyOf Tryz.f34))), (.inBlock 0), (.code (atC [1, 1, 1] (bodyOf Tryz.f34)))], mkT j [(1, (.e (.one (.ptr 0 0)))), (4, (iI (Int.ofNat i)))] 54 0⟩
def p88a_end (C : List DT) (n _i _N _N2 : Nat) (_a _b _c _d _e : Int) (_D _D2 : List AC) (j : Nat → Value) : St := ⟨[], [(.code (atC [1, 1, 0, 1, 0, 0] (bodyOf Tryz.f88))), (.inLoop (atC [1, 1, 0, 1, 0, 0] (bodyOf Tryz.f88))), (.inBlock 0), (.code (atC [1, 1, 1] (bodyOf Tryz.f88)))], mkT j [(3, (.e (.one (.v (.slice none 0 0))))), (6, (.e (.one (.dp (.s (C) (n) 5))))), (7, (iI (Int.ofNat n))), (8, (iI 0))] 18 0⟩
theorem p88a (hE : EnvOk E) (C : List DT) (n i N N2 : Nat) (a b c d e : Int) (D D2 : List AC)  {Φ : Res → Prop} (ho : ∀ j, OutK E 0 0 (p88a_end C n i N N2 a b c d e D D2 j) Φ) (j : Nat → Value) : OutK E 0 0 (s88 C n i N N2 a b c d e D D2 j) Φ :=
  outK_seg hE (R0_ok hE) [.run 6, (.ops [(1, (.d .len))] []), .run 2] [3, 6, 7, 8] (ps := []) (fun j => by kernel_rfl) trivial
    ho
def p33_end (C : List DT) (_C2 : List DT) (n _i : Nat) (r _a _b _c _d _e _a2 _b2 _c2 _d2 _e2 _f _g _h _k _u : Int) (_w : Bool) (j : Nat → Value) : St := ⟨[(.some ⟨[(.v (.int .i64 (r))), (.dp (.s (C) (n) 5))], 2, 64, true, .cells⟩)], [(.code .ret)], mkT j [(2, (.e (.one (.ptr 0 0))))] 9 0⟩
theorem p33 (hE : EnvOk E) (C : List DT) (C2 : List DT) (n i : Nat) (r a b c d e a2 b2 c2 d2 e2 f g h k u : Int) (w : Bool) (h0 : COut E 0 [] 88 [(.e (.one (.dp (.s (C) (n) 5))))] (.e (.one (.dp (.s (C) (n) 5)))) []) {Φ : Res → Prop} (ho : ∀ j, OutK E 0 0 (p33_end C C2 n i r a b c d e a2 b2 c2 d2 e2 f g h k u w j) Φ) (j : Nat → Value) : OutK E 0 0 (s33 C C2 n i r a b c d e a2 b2 c2 d2 e2 f g h k u w j) Φ :=
  outK_seg hE (R0_ok hE) [.run 3, (.ops [(4, (.c0 (.e (.one (.dp (.s (C) (n) 5))))))] [])] [2] (s' := fun j => ⟨[(.some ⟨[(.v (.int .i64 (r))), (.dp (.s (C) (n) 5))], 2, 58, true, .cells⟩), (.some ⟨[(.v (.int .i64 (r))), (.dp (.s (C) (n) 5))], 2, 64, true, .cells⟩)], [(.code .ret)], mkT j [(2, (.e (.one (.ptr 1 0))))] 9 0⟩) (fun j => by kernel_rfl) (aP h0 <| aN <| aP (rfl : (true : Bool) = true) <| aZ)
    fun j => outK_gc [1] (by decide) (by kernel_rfl) (by kernel_rfl) (by kernel_rfl) (ho j)
def p31_end (_C : List DT) (_C2 : List DT) (_n _i : Nat) (_r _a _b _c _d _e _a2 _b2 _c2 _d2 _e2 _f _g _h _k _u : Int) (w : Bool) (j : Nat → Value) : St := ⟨[], [(.code .ret)], mkT j [(2, (iB (w)))] 6 0⟩
theorem p31 (hE : EnvOk E) (C : List DT) (C2 : List DT) (n i : Nat) (r a b c d e a2 b2 c2 d2 e2 f g h k u : Int) (w : Bool) (h0 : COut E 0 [] 85 [(.e (.one (.dp (.s (C) (n) 5))))] (iB (w)) []) {Φ : Res → Prop} (ho : ∀ j, OutK E 0 0 (p31_end C C2 n i r a b c d e a2 b2 c2 d2 e2 f g h k u w j) Φ) (j : Nat → Value) : OutK E 0 0 (s31 C C2 n i r a b c d e a2 b2 c2 d2 e2 f g h k u w j) Φ :=
  outK_seg hE (R0_ok hE) [.run 3, (.ops [(2, (.c0 (iB (w))))] [])] [2] (s' := fun j => ⟨[(.some ⟨[(.v (.int .i64 (r))), (.dp (.s (C) (n) 5))], 2, 58, true, .cells⟩)], [(.code .ret)], mkT j [(2, (iB (w)))] 6 0⟩) (fun j => by kernel_rfl) (aP h0 <| aN <| aZ)
    fun j => outK_gc [] (by decide) (by kernel_rfl) (by kernel_rfl) (by kernel_rfl) (ho j)
def p85t_end (_C : List DT) (_C2 : List DT) (_n _i : Nat) (_r _a _b _c _d _e _a2 _b2 _c2 _d2 _e2 _f _g _h _k _u : Int) (_w : Bool) (j : Nat → Value) : St := ⟨[], [(.code .ret)], mkT j [(2, (iB true))] 11 0⟩
theorem p85t (hE : EnvOk E) (C : List DT) (C2 : List DT) (n i : Nat) (r a b c d e a2 b2 c2 d2 e2 f g h k u : Int) (w : Bool) (h0 : (decide ((↑n : Int) ≤ (12 : Int)) == false : Bool) = (nat_lit 4, false).snd) (h1 : (decide ((↑n : Int) ≤ (12 : Int)) == false : Bool) = (nat_lit 5, false).snd) (h2 : (decide ((↑n : Int) ≤ (12 : Int)) == false : Bool) = (nat_lit 6, false).snd) (h3 : (decide ((↑n : Int) ≤ (12 : Int)) : Bool) = true) {Φ : Res → Prop} (ho : ∀ j, OutK E 0 0 (p85t_end C C2 n i r a b c d e a2 b2 c2 d2 e2 f g h k u w j) Φ) (j : Nat → Value) : OutK E 0 0 (s85 C C2 n i r a b c d e a2 b2 c2 d2 e2 f g h k u w j) Φ :=
  outK_seg hE (R0_ok hE) [.run 3, (.ops [(1, (.d .len)), (7, (.pk true))] [(4, false), (5, false), (6, false)])] [2] (fun j => by kernel_rfl) (aP h0 <| aP h1 <| aP h2 <| aP h3 <| aZ)
    ho
def p85f_end (_C : List DT) (_C2 : List DT) (n _i : Nat) (_r _a _b _c _d _e _a2 _b2 _c2 _d2 _e2 _f _g _h _k _u : Int) (_w : Bool) (j : Nat → Value) : St := ⟨[], [(.code .ret)], mkT j [(2, (iB ((↑n : Int) == (65 : Int))))] 11 0⟩
theorem p85f (hE : EnvOk E) (C : List DT) (C2 : List DT) (n i : Nat) (r a b c d e a2 b2 c2 d2 e2 f g h k u : Int) (w : Bool) (h0 : (decide ((↑n : Int) ≤ (12 : Int)) == false : Bool) = (nat_lit 4, true).snd) (h1 : (decide ((↑n : Int) ≤ (12 : Int)) == false : Bool) = (nat_lit 5, true).snd) (h2 : (decide ((↑n : Int) ≤ (12 : Int)) == false : Bool) = (nat_lit 6, true).snd) (h3 : (decide ((↑n : Int) ≤ (12 : Int)) : Bool) = false) {Φ : Res → Prop} (ho : ∀ j, OutK E 0 0 (p85f_end C C2 n i r a b c d e a2 b2 c2 d2 e2 f g h k u w j) Φ) (j : Nat → Value) : OutK E 0 0 (s85 C C2 n i r a b c d e a2 b2 c2 d2 e2 f g h k u w j) Φ :=
  outK_seg hE (R0_ok hE) [.run 3, (.ops [(1, (.d .len)), (5, (.d .len)), (7, (.pk false))] [(4, true), (5, true), (6, true)])] [2] (fun j => by kernel_rfl) (aP h0 <| aP h1 <| aP h2 <| aP h3 <| aZ)
    ho
def p86n_end (_C : List DT) (_C2 : List DT) (_n _i : Nat) (_r _a _b _c _d _e _a2 _b2 _c2 _d2 _e2 _f _g _h _k _u : Int) (_w : Bool) (j : Nat → Value) : St := ⟨[], [(.code .ret), (.code (atC [1, 1] (bodyOf Tryz.f86)))], mkT j [(4, (iI 0))] 29 0⟩
theorem p86n (hE : EnvOk E) (C : List DT) (C2 : List DT) (n i : Nat) (r a b c d e a2 b2 c2 d2 e2 f g h k u : Int) (w : Bool) (h0 : ((↑n : Int) == (0 : Int) : Bool) = true) {Φ : Res → Prop} (ho : ∀ j, OutK E 0 0 (p86n_end C C2 n i r a b c d e a2 b2 c2 d2 e2 f g h k u w j) Φ) (j : Nat → Value) : OutK E 0 0 (s86 C C2 n i r a b c d e a2 b2 c2 d2 e2 f g h k u w j) Φ :=
  outK_seg hE (R0_ok hE) [.run 4, (.ops [(1, (.d .len))] []), (.cond true), .run 2] [4] (s' := fun j => ⟨[(.some ⟨[(.v (.int .i64 (a))), (.v (.int .i64 (b))), (.v (.int .i64 (c))), (.v (.int .i64 (d))), (.v (.int .i64 (e)))], 5, 68, true, .cells⟩)], [(.code .ret), (.code (atC [1, 1] (bodyOf Tryz.f86)))], mkT j [(4, (iI 0))] 29 0⟩) (fun j => by kernel_rfl) (aP h0 <| aZ)
    fun j => outK_gc [] (by decide) (by kernel_rfl) (by kernel_rfl) (by kernel_rfl) (ho j)
def p86t_end (_C : List DT) (_C2 : List DT) (_n _i : Nat) (_r _a _b _c _d _e _a2 _b2 _c2 _d2 _e2 f _g _h _k _u : Int) (_w : Bool) (j : Nat → Value) : St := ⟨[], [(.code .ret)], mkT j [(4, (iI (f)))] 29 0⟩
theorem p86t (hE : EnvOk E) (C : List DT) (C2 : List DT) (n i : Nat) (r a b c d e a2 b2 c2 d2 e2 f g h k u : Int) (w : Bool) (h0 : ((↑n : Int) == (0 : Int) : Bool) = false) (h1 : ((iI (wrapF IntKind.i64 ((↑n : Int) - (1 : Int)))) : AV) = (iI (Int.ofNat i))) (h2 : (0 : Int) ≤ Int.ofNat i ∧ Int.ofNat i < (↑n : Int)) (h3 : ((Int.ofNat i).toNat * nat_lit 5 : Nat) = i.mul (nat_lit 5)) (h4 : (takeL (dropL C (i.mul (nat_lit 5))) (5 : Nat) : Option (List DT)) = (.some [(.v (.int .i64 (a2))), (.v (.int .i64 (b2))), (.v (.int .i64 (c2))), (.v (.int .i64 (d2))), (.v (.int .i64 (e2)))])) (h5 : ((iI (wrapF IntKind.i64 (a2 + (1 : Int)))) : AV) = (iI (h))) (h6 : ((a != h) == false : Bool) = (nat_lit 7, false).snd) (h7 : ((a != h) == false : Bool) = (nat_lit 8, false).snd) (h8 : ((a != h) == false : Bool) = (nat_lit 9, false).snd) (h9 : ((a != h) == false : Bool) = (nat_lit 10, false).snd) (h10 : ((a != h) == false : Bool) = (nat_lit 11, false).snd) (h11 : (a != h : Bool) = true) (h12 : COut E 0 [] 70 [(iB true), (iI 11)] (iI (f)) []) {Φ : Res → Prop} (ho : ∀ j, OutK E 0 0 (p86t_end C C2 n i r a b c d e a2 b2 c2 d2 e2 f g h k u w j) Φ) (j : Nat → Value) : OutK E 0 0 (s86 C C2 n i r a b c d e a2 b2 c2 d2 e2 f g h k u w j) Φ :=
  outK_seg hE (R0_ok hE) [.run 4, (.ops [(1, (.d .len))] []), (.cond false), .run 2, (.ops [(3, (.rn (iI (Int.ofNat i)))), (5, (.d (.ldn [(.v (.int .i64 (a2))), (.v (.int .i64 (b2))), (.v (.int .i64 (c2))), (.v (.int .i64 (d2))), (.v (.int .i64 (e2)))]))), (2, (.d .len)), (4, (.d (.ix (i.mul (nat_lit 5)))))] []), .run 1, (.ops [(4, (.rn (iI (h)))), (13, (.c0 (iI (f)))), (12, (.pk true))] [(7, false), (8, false), (9, false), (10, false), (11, false)])] [4] (s' := fun j => ⟨[(.some ⟨[(.v (.int .i64 (a))), (.v (.int .i64 (b))), (.v (.int .i64 (c))), (.v (.int .i64 (d))), (.v (.int .i64 (e)))], 5, 68, true, .cells⟩), (.some ⟨[(.v (.int .i64 (a2))), (.v (.int .i64 (b2))), (.v (.int .i64 (c2))), (.v (.int .i64 (d2))), (.v (.int .i64 (e2)))], 5, 68, true, .cells⟩)], [(.code .ret)], mkT j [(4, (iI (f)))] 29 0⟩) (fun j => by kernel_rfl) (aP h0 <| aP h1 <| aP h2 <| aP h3 <| aP h4 <| aP h5 <| aP h6 <| aP h7 <| aP h8 <| aP h9 <| aP h10 <| aP h11 <| aP h12 <| aN <| aZ)
    fun j => outK_gc [] (by decide) (by kernel_rfl) (by kernel_rfl) (by kernel_rfl) (ho j)
def p86u_end (_C : List DT) (_C2 : List DT) (_n _i : Nat) (_r _a _b _c _d _e _a2 _b2 _c2 _d2 _e2 f _g _h _k _u : Int) (_w : Bool) (j : Nat → Value) : St := ⟨[], [(.code .ret)], mkT j [(4, (iI (f)))] 29 0⟩
theorem p86u (hE : EnvOk E) (C : List DT) (C2 : List DT) (n i : Nat) (r a b c d e a2 b2 c2 d2 e2 f g h k u : Int) (w : Bool) (h0 : ((↑n : Int) == (0 : Int) : Bool) = false) (h1 : ((iI (wrapF IntKind.i64 ((↑n : Int) - (1 : Int)))) : AV) = (iI (Int.ofNat i))) (h2 : (0 : Int) ≤ Int.ofNat i ∧ Int.ofNat i < (↑n : Int)) (h3 : ((Int.ofNat i).toNat * nat_lit 5 : Nat) = i.mul (nat_lit 5)) (h4 : (takeL (dropL C (i.mul (nat_lit 5))) (5 : Nat) : Option (List DT)) = (.some [(.v (.int .i64 (a2))), (.v (.int .i64 (b2))), (.v (.int .i64 (c2))), (.v (.int .i64 (d2))), (.v (.int .i64 (e2)))])) (h5 : ((iI (wrapF IntKind.i64 (a2 + (1 : Int)))) : AV) = (iI (h))) (h6 : ((a != h) == false : Bool) = (nat_lit 7, true).snd) (h7 : ((a != h) == false : Bool) = (nat_lit 8, true).snd) (h8 : ((a != h) == false : Bool) = (nat_lit 9, true).snd) (h9 : ((a != h) == false : Bool) = (nat_lit 10, true).snd) (h10 : ((a != h) == false : Bool) = (nat_lit 11, true).snd) (h11 : (a != h : Bool) = false) (h12 : COut E 0 [] 70 [(iB (decide (b ≤ b2))), (iI 11)] (iI (f)) []) {Φ : Res → Prop} (ho : ∀ j, OutK E 0 0 (p86u_end C C2 n i r a b c d e a2 b2 c2 d2 e2 f g h k u w j) Φ) (j : Nat → Value) : OutK E 0 0 (s86 C C2 n i r a b c d e a2 b2 c2 d2 e2 f g h k u w j) Φ :=
  outK_seg hE (R0_ok hE) [.run 4, (.ops [(1, (.d .len))] []), (.cond false), .run 2, (.ops [(3, (.rn (iI (Int.ofNat i)))), (5, (.d (.ldn [(.v (.int .i64 (a2))), (.v (.int .i64 (b2))), (.v (.int .i64 (c2))), (.v (.int .i64 (d2))), (.v (.int .i64 (e2)))]))), (2, (.d .len)), (4, (.d (.ix (i.mul (nat_lit 5)))))] []), .run 1, (.ops [(4, (.rn (iI (h)))), (13, (.c0 (iI (f)))), (12, (.pk false))] [(7, true), (8, true), (9, true), (10, true), (11, true)])] [4] (s' := fun j => ⟨[(.some ⟨[(.v (.int .i64 (a))), (.v (.int .i64 (b))), (.v (.int .i64 (c))), (.v (.int .i64 (d))), (.v (.int .i64 (e)))], 5, 68, true, .cells⟩), (.some ⟨[(.v (.int .i64 (a2))), (.v (.int .i64 (b2))), (.v (.int .i64 (c2))), (.v (.int .i64 (d2))), (.v (.int .i64 (e2)))], 5, 68, true, .cells⟩)], [(.code .ret)], mkT j [(4, (iI (f)))] 29 0⟩) (fun j => by kernel_rfl) (aP h0 <| aP h1 <| aP h2 <| aP h3 <| aP h4 <| aP h5 <| aP h6 <| aP h7 <| aP h8 <| aP h9 <| aP h10 <| aP h11 <| aP h12 <| aN <| aZ)
    fun j => outK_gc [] (by decide) (by kernel_rfl) (by kernel_rfl) (by kernel_rfl) (ho j)
def p89t_end (_C : List DT) (_C2 : List DT) (_n _i : Nat) (_r _a b _c _d _e _a2 b2 _c2 _d2 _e2 _f _g _h _k _u : Int) (_w : Bool) (j : Nat → Value) : St := ⟨[], [(.code .ret)], mkT j [(4, (iB (decide (b > b2))))] 18 0⟩
theorem p89t (hE : EnvOk E) (C : List DT) (C2 : List DT) (n i : Nat) (r a b c d e a2 b2 c2 d2 e2 f g h k u : Int) (w : Bool) (h0 : ((iI (wrapF IntKind.i64 (a2 + (1 : Int)))) : AV) = (iI (h))) (h1 : ((a == h) == true : Bool) = (nat_lit 7, true).snd) (h2 : ((a == h) == true : Bool) = (nat_lit 8, true).snd) (h3 : ((a == h) == true : Bool) = (nat_lit 9, true).snd) (h4 : ((a == h) == true : Bool) = (nat_lit 10, true).snd) (h5 : ((a == h) == true : Bool) = (nat_lit 11, true).snd) (h6 : (a == h : Bool) = true) {Φ : Res → Prop} (ho : ∀ j, OutK E 0 0 (p89t_end C C2 n i r a b c d e a2 b2 c2 d2 e2 f g h k u w j) Φ) (j : Nat → Value) : OutK E 0 0 (s89 C C2 n i r a b c d e a2 b2 c2 d2 e2 f g h k u w j) Φ :=
  outK_seg hE (R0_ok hE) [.run 3, (.ops [(4, (.rn (iI (h)))), (12, (.pk true))] [(7, true), (8, true), (9, true), (10, true), (11, true)])] [4] (s' := fun j => ⟨[(.some ⟨[(.v (.int .i64 (a2))), (.v (.int .i64 (b2))), (.v (.int .i64 (c2))), (.v (.int .i64 (d2))), (.v (.int .i64 (e2)))], 5, 60, true, .cells⟩), (.some ⟨[(.v (.int .i64 (a))), (.v (.int .i64 (b))), (.v (.int .i64 (c))), (.v (.int .i64 (d))), (.v (.int .i64 (e)))], 5, 60, true, .cells⟩)], [(.code .ret)], mkT j [(4, (iB (decide (b > b2))))] 18 0⟩) (fun j => by kernel_rfl) (aP h0 <| aP h1 <| aP h2 <| aP h3 <| aP h4 <| aP h5 <| aP h6 <| aZ)
    fun j => outK_gc [] (by decide) (by kernel_rfl) (by kernel_rfl) (by kernel_rfl) (ho j)
def p89f_end (_C : List DT) (_C2 : List DT) (_n _i : Nat) (_r _a _b _c _d _e _a2 _b2 _c2 _d2 _e2 _f _g _h _k _u : Int) (_w : Bool) (j : Nat → Value) : St := ⟨[], [(.code .ret)], mkT j [(4, (iB false))] 18 0⟩
theorem p89f (hE : EnvOk E) (C : List DT) (C2 : List DT) (n i : Nat) (r a b c d e a2 b2 c2 d2 e2 f g h k u : Int) (w : Bool) (h0 : ((iI (wrapF IntKind.i64 (a2 + (1 : Int)))) : AV) = (iI (h))) (h1 : ((a == h) == true : Bool) = (nat_lit 7, false).snd) (h2 : ((a == h) == true : Bool) = (nat_lit 8, false).snd) (h3 : ((a == h) == true : Bool) = (nat_lit 9, false).snd) (h4 : ((a == h) == true : Bool) = (nat_lit 10, false).snd) (h5 : ((a == h) == true : Bool) = (nat_lit 11, false).snd) (h6 : (a == h : Bool) = false) {Φ : Res → Prop} (ho : ∀ j, OutK E 0 0 (p89f_end C C2 n i r a b c d e a2 b2 c2 d2 e2 f g h k u w j) Φ) (j : Nat → Value) : OutK E 0 0 (s89 C C2 n i r a b c d e a2 b2 c2 d2 e2 f g h k u w j) Φ :=
  outK_seg hE (R0_ok hE) [.run 3, (.ops [(4, (.rn (iI (h)))), (12, (.pk false))] [(7, false), (8, false), (9, false), (10, false), (11, false)])] [4] (s' := fun j => ⟨[(.some ⟨[(.v (.int .i64 (a2))), (.v (.int .i64 (b2))), (.v (.int .i64 (c2))), (.v (.int .i64 (d2))), (.v (.int .i64 (e2)))], 5, 60, true, .cells⟩), (.some ⟨[(.v (.int .i64 (a))), (.v (.int .i64 (b))), (.v (.int .i64 (c))), (.v (.int .i64 (d))), (.v (.int .i64 (e)))], 5, 60, true, .cells⟩)], [(.code .ret)], mkT j [(4, (iB false))] 18 0⟩) (fun j => by kernel_rfl) (aP h0 <| aP h1 <| aP h2 <| aP h3 <| aP h4 <| aP h5 <| aP h6 <| aZ)
    fun j => outK_gc [] (by decide) (by kernel_rfl) (by kernel_rfl) (by kernel_rfl) (ho j)
def p38e_end (_C : List DT) (_C2 : List DT) (_n _i : Nat) (_r _a _b _c _d _e _a2 _b2 _c2 _d2 _e2 _f _g h _k _u : Int) (_w : Bool) (j : Nat → Value) : St := ⟨[], [(.code .ret), (.code (atC [1, 1, 1] (bodyOf Tryz.f38)))], mkT j [(2, (iI (h)))] 44 0⟩
theorem p38e (hE : EnvOk E) (C : List DT) (C2 : List DT) (n i : Nat) (r a b c d e a2 b2 c2 d2 e2 f g h k u : Int) (w : Bool) (h0 : COut E 0 [] 81 [(iI (r)), (iI 1), (iI 64)] (iI (f)) []) (h3 : COut E 0 [] 70 [(iB (decide ((↑n : Int) > r))), (iI 5)] (iI (g)) []) (h5 : COut E 2 [(.some ⟨[(.v (.int .i64 (r))), (.dp (.s (C) (n) 5))], 2, 64, true, .cells⟩), (.some ⟨[(.v (.int .i64 (f))), (.v (.int .i64 (g)))], 2, 32, true, .cells⟩)] 68 [(.e (.one (.slc 1 0 2 1 2 true)))] (iI (h)) [(.some ⟨[(.v (.int .i64 (r))), (.dp (.s (C) (n) 5))], 2, 64, true, .cells⟩), (.some ⟨[(.v (.int .i64 (f))), (.v (.int .i64 (g)))], 2, 32, true, .cells⟩)]) (h7 : (h != (0 : Int) : Bool) = true) {Φ : Res → Prop} (ho : ∀ j, OutK E 0 0 (p38e_end C C2 n i r a b c d e a2 b2 c2 d2 e2 f g h k u w j) Φ) (j : Nat → Value) : OutK E 0 0 (s38 C C2 n i r a b c d e a2 b2 c2 d2 e2 f g h k u w j) Φ :=
  outK_seg hE (R0_ok hE) [.run 3, (.ops [(2, (.c0 (iI (f)))), (9, (.c0 (iI (g)))), (11, (.d (.c1 (iI (h))))), (5, (.d .len))] []), .run 3, (.cond true), .run 2] [2] (s' := fun j => ⟨[(.some ⟨[(.v (.int .i64 (r))), (.dp (.s (C) (n) 5))], 2, 64, true, .cells⟩), (.some ⟨[(.v (.int .i64 (f))), (.v (.int .i64 (g)))], 2, 32, true, .cells⟩)], [(.code .ret), (.code (atC [1, 1, 1] (bodyOf Tryz.f38)))], mkT j [(2, (iI (h)))] 44 0⟩) (fun j => by kernel_rfl) (aP h0 <| aN <| aP (rfl : (true : Bool) = true) <| aP h3 <| aN <| aP h5 <| aN <| aP h7 <| aZ)
    fun j => outK_gc [] (by decide) (by kernel_rfl) (by kernel_rfl) (by kernel_rfl) (ho j)
def p38a_end (C : List DT) (_C2 : List DT) (n _i : Nat) (r _a _b _c _d _e _a2 _b2 _c2 _d2 _e2 _f _g _h _k _u : Int) (_w : Bool) (j : Nat → Value) : St := ⟨[(.some ⟨[(.v (.int .i64 (r))), (.dp (.s (C) (n) 5))], 2, 64, true, .cells⟩)], [(.code (atC [1, 1, 1, 0, 1, 0, 0] (bodyOf Tryz.f38))), (.inLoop (atC [1, 1, 1, 0, 1, 0, 0] (bodyOf Tryz.f38))), (.inBlock 0), (.code (atC [1, 1, 1, 1] (bodyOf Tryz.f38)))], mkT j [(1, (.e (.one (.ptr 0 0)))), (23, (.e (.one (.dp (.s (C) (n) 5))))), (24, (iI (Int.ofNat n))), (25, (iI 0))] 44 0⟩
theorem p38a (hE : EnvOk E) (C : List DT) (C2 : List DT) (n i : Nat) (r a b c d e a2 b2 c2 d2 e2 f g h k u : Int) (w : Bool) (h0 : COut E 0 [] 81 [(iI (r)), (iI 1), (iI 64)] (iI (f)) []) (h3 : COut E 0 [] 70 [(iB (decide ((↑n : Int) > r))), (iI 5)] (iI (g)) []) (h5 : COut E 2 [(.some ⟨[(.v (.int .i64 (r))), (.dp (.s (C) (n) 5))], 2, 64, true, .cells⟩), (.some ⟨[(.v (.int .i64 (f))), (.v (.int .i64 (g)))], 2, 32, true, .cells⟩)] 68 [(.e (.one (.slc 1 0 2 1 2 true)))] (iI (h)) [(.some ⟨[(.v (.int .i64 (r))), (.dp (.s (C) (n) 5))], 2, 64, true, .cells⟩), (.some ⟨[(.v (.int .i64 (f))), (.v (.int .i64 (g)))], 2, 32, true, .cells⟩)]) (h7 : (h != (0 : Int) : Bool) = false) {Φ : Res → Prop} (ho : ∀ j, OutK E 0 0 (p38a_end C C2 n i r a b c d e a2 b2 c2 d2 e2 f g h k u w j) Φ) (j : Nat → Value) : OutK E 0 0 (s38 C C2 n i r a b c d e a2 b2 c2 d2 e2 f g h k u w j) Φ :=
  outK_seg hE (R0_ok hE) [.run 3, (.ops [(2, (.c0 (iI (f)))), (9, (.c0 (iI (g)))), (11, (.d (.c1 (iI (h))))), (5, (.d .len))] []), .run 3, (.cond false), .run 3, (.ops [(2, (.d .len))] []), .run 2] [1, 23, 24, 25] (s' := fun j => ⟨[(.some ⟨[(.v (.int .i64 (r))), (.dp (.s (C) (n) 5))], 2, 64, true, .cells⟩), (.some ⟨[(.v (.int .i64 (f))), (.v (.int .i64 (g)))], 2, 32, true, .cells⟩)], [(.code (atC [1, 1, 1, 0, 1, 0, 0] (bodyOf Tryz.f38))), (.inLoop (atC [1, 1, 1, 0, 1, 0, 0] (bodyOf Tryz.f38))), (.inBlock 0), (.code (atC [1, 1, 1, 1] (bodyOf Tryz.f38)))], mkT j [(1, (.e (.one (.ptr 0 0)))), (23, (.e (.one (.dp (.s (C) (n) 5))))), (24, (iI (Int.ofNat n))), (25, (iI 0))] 44 0⟩) (fun j => by kernel_rfl) (aP h0 <| aN <| aP (rfl : (true : Bool) = true) <| aP h3 <| aN <| aP h5 <| aN <| aP h7 <| aZ)
    fun j => outK_gc [0] (by decide) (by kernel_rfl) (by kernel_rfl) (by kernel_rfl) (ho j)
def p34e_end (_C : List DT) (_C2 : List DT) (_n _i : Nat) (_r _a _b _c _d _e _a2 _b2 _c2 _d2 _e2 _f _g h _k _u : Int) (_w : Bool) (j : Nat → Value) : St := ⟨[], [(.code .ret), (.code (atC [1, 1] (bodyOf Tryz.f34)))], mkT j [(2, (iI (h)))] 54 0⟩
theorem p34e (hE : EnvOk E) (C : List DT) (C2 : List DT) (n i : Nat) (r a b c d e a2 b2 c2 d2 e2 f g h k u : Int) (w : Bool) (h0 : COut E 0 [] 27 [(iI (r)), (iI 1), (iI 64)] (iI (f)) []) (h3 : COut E 0 [] 75 [(iB (decide ((↑n : Int) > r))), (iI 5)] (iI (g)) []) (h5 : COut E 2 [(.some ⟨[(.v (.int .i64 (r))), (.dp (.s (C) (n) 5))], 2, 58, true, .cells⟩), (.some ⟨[(.v (.int .i64 (f))), (.v (.int .i64 (g)))], 2, 3, true, .cells⟩)] 25 [(.e (.one (.slc 1 0 2 1 2 true)))] (iI (h)) [(.some ⟨[(.v (.int .i64 (r))), (.dp (.s (C) (n) 5))], 2, 58, true, .cells⟩), (.some ⟨[(.v (.int .i64 (f))), (.v (.int .i64 (g)))], 2, 3, true, .cells⟩)]) (h7 : (h != (0 : Int) : Bool) = true) {Φ : Res → Prop} (ho : ∀ j, OutK E 0 0 (p34e_end C C2 n i r a b c d e a2 b2 c2 d2 e2 f g h k u w j) Φ) (j : Nat → Value) : OutK E 0 0 (s34 C C2 n i r a b c d e a2 b2 c2 d2 e2 f g h k u w j) Φ :=
  outK_seg hE (R0_ok hE) [.run 4, (.ops [(2, (.c0 (iI (f)))), (9, (.c0 (iI (g)))), (11, (.d (.c1 (iI (h))))), (5, (.d .len))] []), .run 2, (.cond true), .run 2] [2] (s' := fun j => ⟨[(.some ⟨[(.v (.int .i64 (r))), (.dp (.s (C) (n) 5))], 2, 58, true, .cells⟩), (.some ⟨[(.v (.int .i64 (f))), (.v (.int .i64 (g)))], 2, 3, true, .cells⟩)], [(.code .ret), (.code (atC [1, 1] (bodyOf Tryz.f34)))], mkT j [(2, (iI (h)))] 54 0⟩) (fun j => by kernel_rfl) (aP h0 <| aN <| aP (rfl : (true : Bool) = true) <| aP h3 <| aN <| aP h5 <| aN <| aP h7 <| aZ)
    fun j => outK_gc [] (by decide) (by kernel_rfl) (by kernel_rfl) (by kernel_rfl) (ho j)
def p34a_end (C : List DT) (_C2 : List DT) (n _i : Nat) (r _a _b _c _d _e _a2 _b2 _c2 _d2 _e2 _f _g _h _k _u : Int) (_w : Bool) (j : Nat → Value) : St := ⟨[(.some ⟨[(.v (.int .i64 (r))), (.dp (.s (C) (n) 5))], 2, 58, true, .cells⟩)], [(.code (atC [1, 1, 0, 1, 0, 0] (bodyOf Tryz.f34))), (.inLoop (atC [1, 1, 0, 1, 0, 0] (bodyOf Tryz.f34))), (.inBlock 0), (.code (atC [1, 1, 1] (bodyOf Tryz.f34)))], mkT j [(1, (.e (.one (.ptr 0 0)))), (4, (iI 0))] 54 0⟩
theorem p34a (hE : EnvOk E) (C : List DT) (C2 : List DT) (n i : Nat) (r a b c d e a2 b2 c2 d2 e2 f g h k u : Int) (w : Bool) (h0 : COut E 0 [] 27 [(iI (r)), (iI 1), (iI 64)] (iI (f)) []) (h3 : COut E 0 [] 75 [(iB (decide ((↑n : Int) > r))), (iI 5)] (iI (g)) []) (h5 : COut E 2 [(.some ⟨[(.v (.int .i64 (r))), (.dp (.s (C) (n) 5))], 2, 58, true, .cells⟩), (.some ⟨[(.v (.int .i64 (f))), (.v (.int .i64 (g)))], 2, 3, true, .cells⟩)] 25 [(.e (.one (.slc 1 0 2 1 2 true)))] (iI (h)) [(.some ⟨[(.v (.int .i64 (r))), (.dp (.s (C) (n) 5))], 2, 58, true, .cells⟩), (.some ⟨[(.v (.int .i64 (f))), (.v (.int .i64 (g)))], 2, 3, true, .cells⟩)]) (h7 : (h != (0 : Int) : Bool) = false) {Φ : Res → Prop} (ho : ∀ j, OutK E 0 0 (p34a_end C C2 n i r a b c d e a2 b2 c2 d2 e2 f g h k u w j) Φ) (j : Nat → Value) : OutK E 0 0 (s34 C C2 n i r a b c d e a2 b2 c2 d2 e2 f g h k u w j) Φ :=
  outK_seg hE (R0_ok hE) [.run 4, (.ops [(2, (.c0 (iI (f)))), (9, (.c0 (iI (g)))), (11, (.d (.c1 (iI (h))))), (5, (.d .len))] []), .run 2, (.cond false), .run 6] [1, 4] (s' := fun j => ⟨[(.some ⟨[(.v (.int .i64 (r))), (.dp (.s (C) (n) 5))], 2, 58, true, .cells⟩), (.some ⟨[(.v (.int .i64 (f))), (.v (.int .i64 (g)))], 2, 3, true, .cells⟩)], [(.code (atC [1, 1, 0, 1, 0, 0] (bodyOf Tryz.f34))), (.inLoop (atC [1, 1, 0, 1, 0, 0] (bodyOf Tryz.f34))), (.inBlock 0), (.code (atC [1, 1, 1] (bodyOf Tryz.f34)))], mkT j [(1, (.e (.one (.ptr 0 0)))), (4, (iI 0))] 54 0⟩) (fun j => by kernel_rfl) (aP h0 <| aN <| aP (rfl : (true : Bool) = true) <| aP h3 <| aN <| aP h5 <| aN <| aP h7 <| aZ)
    fun j => outK_gc [0] (by decide) (by kernel_rfl) (by kernel_rfl) (by kernel_rfl) (ho j)
def p88f_end (C : List DT) (n _i _N _N2 : Nat) (a b c d e : Int) (_D _D2 : List AC) (j : Nat → Value) : St := ⟨[(.some ⟨[(.v (.int .i64 (a))), (.v (.int .i64 (b))), (.v (.int .i64 (c))), (.v (.int .i64 (d))), (.v (.int .i64 (e)))], 5, 68, false, .cells⟩)], [(.code (atC [1, 1, 0, 1, 0, 0] (bodyOf Tryz.f88))), (.inLoop (atC [1, 1, 0, 1, 0, 0] (bodyOf Tryz.f88))), (.inBlock 0), (.code (atC [1, 1, 1] (bodyOf Tryz.f88)))], mkT j [(3, (.e (.one (.slc 0 0 1 5 1 false)))), (6, (.e (.one (.dp (.s (C) (n) 5))))), (7, (iI (Int.ofNat n))), (8, (iI 1))] 18 0⟩
theorem p88f (hE : EnvOk E) (C : List DT) (n i N N2 : Nat) (a b c d e : Int) (D D2 : List AC) (h0 : (decide (Int.ofNat (nat_lit 0) < Int.ofNat n) : Bool) = true) (h1 : (0 : Int) ≤ Int.ofNat (nat_lit 0) ∧ Int.ofNat (nat_lit 0) < (↑n : Int)) (h3 : (takeL (dropL C (0 : Nat)) (5 : Nat) : Option (List DT)) = (.some [(.v (.int .i64 (a))), (.v (.int .i64 (b))), (.v (.int .i64 (c))), (.v (.int .i64 (d))), (.v (.int .i64 (e)))])) {Φ : Res → Prop} (ho : ∀ j, OutK E 0 0 (p88f_end C n i N N2 a b c d e D D2 j) Φ) (j : Nat → Value) : OutK E 0 0 (q88n C n i N N2 a b c d e D D2 j) Φ :=
  outK_seg hE (R0_ok hE) [.run 3, (.cond true), .run 4, (.ops [(1, (.d (.ldn [(.v (.int .i64 (a))), (.v (.int .i64 (b))), (.v (.int .i64 (c))), (.v (.int .i64 (d))), (.v (.int .i64 (e)))]))), (0, (.d (.ix 0)))] []), .run 4] [3, 6, 7, 8] (s' := fun j => ⟨[(.some ⟨[(.v (.int .i64 (a))), (.v (.int .i64 (b))), (.v (.int .i64 (c))), (.v (.int .i64 (d))), (.v (.int .i64 (e)))], 5, 60, true, .cells⟩), (.some ⟨[(.v (.int .i64 (a))), (.v (.int .i64 (b))), (.v (.int .i64 (c))), (.v (.int .i64 (d))), (.v (.int .i64 (e)))], 5, 68, true, .cells⟩), (.some ⟨[(.v (.int .i64 (a))), (.v (.int .i64 (b))), (.v (.int .i64 (c))), (.v (.int .i64 (d))), (.v (.int .i64 (e)))], 5, 68, false, .cells⟩)], [(.code (atC [1, 1, 0, 1, 0, 0] (bodyOf Tryz.f88))), (.inLoop (atC [1, 1, 0, 1, 0, 0] (bodyOf Tryz.f88))), (.inBlock 0), (.code (atC [1, 1, 1] (bodyOf Tryz.f88)))], mkT j [(3, (.e (.one (.slc 2 0 1 5 1 false)))), (6, (.e (.one (.dp (.s (C) (n) 5))))), (7, (iI (Int.ofNat n))), (8, (iI 1))] 18 0⟩) (fun j => by kernel_rfl) (aP h0 <| aP h1 <| aP (rfl : ((0 : Nat) : Nat) = (0 : Nat)) <| aP h3 <| aZ)
    fun j => outK_gc [2] (by decide) (by kernel_rfl) (by kernel_rfl) (by kernel_rfl) (ho j)
def p88x0_end (_C : List DT) (_n _i _N _N2 : Nat) (_a _b _c _d _e : Int) (_D _D2 : List AC) (j : Nat → Value) : St := ⟨[], [(.code .ret)], mkT j [(2, (.e (.one (.v (.slice none 0 0)))))] 18 0⟩
theorem p88x0 (hE : EnvOk E) (C : List DT) (n i N N2 : Nat) (a b c d e : Int) (D D2 : List AC) (h0 : (decide (Int.ofNat (nat_lit 0) < Int.ofNat n) : Bool) = false) {Φ : Res → Prop} (ho : ∀ j, OutK E 0 0 (p88x0_end C n i N N2 a b c d e D D2 j) Φ) (j : Nat → Value) : OutK E 0 0 (q88n C n i N N2 a b c d e D D2 j) Φ :=
  outK_seg hE (R0_ok hE) [.run 3, (.cond false), .run 3] [2] (fun j => by kernel_rfl) (aP h0 <| aZ)
    ho
def p88s_end (C : List DT) (n i _N N2 : Nat) (_a _b _c _d _e : Int) (_D D2 : List AC) (j : Nat → Value) : St := ⟨[(.some ⟨(D2), (N2), 68, false, .cells⟩)], [(.code (atC [1, 1, 0, 1, 0, 0] (bodyOf Tryz.f88))), (.inLoop (atC [1, 1, 0, 1, 0, 0] (bodyOf Tryz.f88))), (.inBlock 0), (.code (atC [1, 1, 1] (bodyOf Tryz.f88)))], mkT j [(3, (.e (.one (.slc 0 0 (i + 1) 5 (i + 1) false)))), (6, (.e (.one (.dp (.s (C) (n) 5))))), (7, (iI (Int.ofNat n))), (8, (iI (Int.ofNat (i + 1))))] 18 0⟩
theorem p88s (hE : EnvOk E) (C : List DT) (n i N N2 : Nat) (a b c d e : Int) (D D2 : List AC) (h0 : (decide (Int.ofNat i < Int.ofNat n) : Bool) = true) (h1 : (0 : Int) ≤ Int.ofNat i ∧ Int.ofNat i < (↑n : Int)) (h2 : ((Int.ofNat i).toNat * nat_lit 5 : Nat) = i.mul (nat_lit 5)) (h3 : (takeL (dropL C (i.mul (nat_lit 5))) (5 : Nat) : Option (List DT)) = (.some [(.v (.int .i64 (a))), (.v (.int .i64 (b))), (.v (.int .i64 (c))), (.v (.int .i64 (d))), (.v (.int .i64 (e)))])) (h4 : ¬i + 1 ≤ i) (h5 : (small (i + 1) (5 : Nat) (40 : Nat) : Bool) = true) (h6 : (N : Nat) = i * nat_lit 5) (h7 : (appL D ((fun x => AC.v (Value.int IntKind.i64 a) :: x) ((fun x => AC.v (Value.int IntKind.i64 b) :: x) ((fun x => AC.v (Value.int IntKind.i64 c) :: x) ((fun x => AC.v (Value.int IntKind.i64 d) :: x) ((fun x => AC.v (Value.int IntKind.i64 e) :: x) []))))) : List AC) = D2) (h9 : ((i + 1) * nat_lit 5 : Nat) = N2) (h10 : ((iI (wrapF IntKind.i64 (Int.ofNat i + (1 : Int)))) : AV) = (iI (Int.ofNat (i + 1)))) (g0 : FlatC (D2)) {Φ : Res → Prop} (ho : ∀ j, OutK E 0 0 (p88s_end C n i N N2 a b c d e D D2 j) Φ) (j : Nat → Value) : OutK E 0 0 (q88 C n i N N2 a b c d e D D2 j) Φ :=
  outK_seg hE (R0_ok hE) [.run 3, (.cond true), .run 4, (.ops [(1, (.d (.ldn [(.v (.int .i64 (a))), (.v (.int .i64 (b))), (.v (.int .i64 (c))), (.v (.int .i64 (d))), (.v (.int .i64 (e)))]))), (0, (.d (.ix (i.mul (nat_lit 5)))))] []), (.ops [(3, (.app (i + 1) (N2) (D2)))] []), .run 1, (.ops [(0, (.rn (iI (Int.ofNat (i + 1)))))] []), .run 1] [3, 6, 7, 8] (s' := fun j => ⟨[none, (.some ⟨[(.v (.int .i64 (a))), (.v (.int .i64 (b))), (.v (.int .i64 (c))), (.v (.int .i64 (d))), (.v (.int .i64 (e)))], 5, 60, true, .cells⟩), (.some ⟨[(.v (.int .i64 (a))), (.v (.int .i64 (b))), (.v (.int .i64 (c))), (.v (.int .i64 (d))), (.v (.int .i64 (e)))], 5, 68, true, .cells⟩), (.some ⟨(D2), (N2), 68, false, .cells⟩)], [(.code (atC [1, 1, 0, 1, 0, 0] (bodyOf Tryz.f88))), (.inLoop (atC [1, 1, 0, 1, 0, 0] (bodyOf Tryz.f88))), (.inBlock 0), (.code (atC [1, 1, 1] (bodyOf Tryz.f88)))], mkT j [(3, (.e (.one (.slc 3 0 (i + 1) 5 (i + 1) false)))), (6, (.e (.one (.dp (.s (C) (n) 5))))), (7, (iI (Int.ofNat n))), (8, (iI (Int.ofNat (i + 1))))] 18 0⟩) (fun j => by kernel_rfl) (aP h0 <| aP h1 <| aP h2 <| aP h3 <| aP h4 <| aP h5 <| aP h6 <| aP h7 <| aP (rfl : (i + 1 : Nat) = i + 1) <| aP h9 <| aP h10 <| aZ)
    fun j => outK_gcF [3] [true] (h' := [(.some ⟨(D2), (N2), 68, false, .cells⟩)]) (by decide) (by kernel_rfl) (by kernel_rfl) ⟨g0, trivial⟩ (by kernel_rfl) (ho j)
def p88x_end (_C : List DT) (_n i N _N2 : Nat) (_a _b _c _d _e : Int) (D _D2 : List AC) (j : Nat → Value) : St := ⟨[(.some ⟨(D), (N), 68, false, .cells⟩)], [(.code .ret)], mkT j [(2, (.e (.one (.slc 0 0 (i) 5 (i) false))))] 18 0⟩
theorem p88x (hE : EnvOk E) (C : List DT) (n i N N2 : Nat) (a b c d e : Int) (D D2 : List AC) (h0 : (decide (Int.ofNat i < Int.ofNat n) : Bool) = false) {Φ : Res → Prop} (ho : ∀ j, OutK E 0 0 (p88x_end C n i N N2 a b c d e D D2 j) Φ) (j : Nat → Value) : OutK E 0 0 (q88 C n i N N2 a b c d e D D2 j) Φ :=
  outK_seg hE (R0_ok hE) [.run 3, (.cond false), .run 3] [2] (fun j => by kernel_rfl) (aP h0 <| aZ)
    ho
def p38s_end (C : List DT) (_C2 : List DT) (n i : Nat) (r _a _b _c _d _e _a2 _b2 _c2 _d2 _e2 _f _g _h _k _u : Int) (_w : Bool) (j : Nat → Value) : St := ⟨[(.some ⟨[(.v (.int .i64 (r))), (.dp (.s (C) (n) 5))], 2, 64, true, .cells⟩)], [(.code (atC [1, 1, 1, 0, 1, 0, 0] (bodyOf Tryz.f38))), (.inLoop (atC [1, 1, 1, 0, 1, 0, 0] (bodyOf Tryz.f38))), (.inBlock 0), (.code (atC [1, 1, 1, 1] (bodyOf Tryz.f38)))], mkT j [(1, (.e (.one (.ptr 0 0)))), (23, (.e (.one (.dp (.s (C) (n) 5))))), (24, (iI (Int.ofNat n))), (25, (iI (Int.ofNat (i + 1))))] 44 0⟩
theorem p38s (hE : EnvOk E) (C : List DT) (C2 : List DT) (n i : Nat) (r a b c d e a2 b2 c2 d2 e2 f g h k u : Int) (w : Bool) (h0 : (decide (Int.ofNat i < Int.ofNat n) : Bool) = true) (h1 : (0 : Int) ≤ Int.ofNat i ∧ Int.ofNat i < (↑n : Int)) (h2 : ((Int.ofNat i).toNat * nat_lit 5 : Nat) = i.mul (nat_lit 5)) (h3 : (takeL (dropL C (i.mul (nat_lit 5))) (5 : Nat) : Option (List DT)) = (.some [(.v (.int .i64 (a))), (.v (.int .i64 (b))), (.v (.int .i64 (c))), (.v (.int .i64 (d))), (.v (.int .i64 (e)))])) (h4 : COut E 0 [] 37 [(.e (.agg [(.v (.int .i64 (a))), (.v (.int .i64 (b))), (.v (.int .i64 (c))), (.v (.int .i64 (d))), (.v (.int .i64 (e)))]))] (iI (f)) []) (h8 : (0 : Nat) ≤ i ∧ i ≤ n) (h9 : (takeL (dropL C (0 : Nat)) ((i - (0 : Nat)) * nat_lit 5) : Option (List DT)) = (.some (C2))) (h11 : COut E 0 [] 86 [(.e (.one (.dp (.s (C2) (i - (0 : Nat)) 5)))), (.e (.agg [(.v (.int .i64 (a))), (.v (.int .i64 (b))), (.v (.int .i64 (c))), (.v (.int .i64 (d))), (.v (.int .i64 (e)))]))] (iI (g)) []) (h13 : COut E 3 [(.some ⟨[(.v (.int .i64 (r))), (.dp (.s (C) (n) 5))], 2, 64, true, .cells⟩), (.some ⟨[(.v (.int .i64 (a))), (.v (.int .i64 (b))), (.v (.int .i64 (c))), (.v (.int .i64 (d))), (.v (.int .i64 (e)))], 5, 68, true, .cells⟩), (.some ⟨[(.v (.int .i64 (f))), (.v (.int .i64 (g)))], 2, 32, true, .cells⟩)] 68 [(.e (.one (.slc 2 0 2 1 2 true)))] (iI (h)) [(.some ⟨[(.v (.int .i64 (r))), (.dp (.s (C) (n) 5))], 2, 64, true, .cells⟩), (.some ⟨[(.v (.int .i64 (a))), (.v (.int .i64 (b))), (.v (.int .i64 (c))), (.v (.int .i64 (d))), (.v (.int .i64 (e)))], 5, 68, true, .cells⟩), (.some ⟨[(.v (.int .i64 (f))), (.v (.int .i64 (g)))], 2, 32, true, .cells⟩)]) (h15 : (h != (0 : Int) : Bool) = false) (h16 : ((iI (wrapF IntKind.i64 (Int.ofNat i + (1 : Int)))) : AV) = (iI (Int.ofNat (i + 1)))) {Φ : Res → Prop} (ho : ∀ j, OutK E 0 0 (p38s_end C C2 n i r a b c d e a2 b2 c2 d2 e2 f g h k u w j) Φ) (j : Nat → Value) : OutK E 0 0 (q38 C C2 n i r a b c d e a2 b2 c2 d2 e2 f g h k u w j) Φ :=
  outK_seg hE (R0_ok hE) [.run 3, (.cond true), .run 4, (.ops [(2, (.d (.ldn [(.v (.int .i64 (a))), (.v (.int .i64 (b))), (.v (.int .i64 (c))), (.v (.int .i64 (d))), (.v (.int .i64 (e)))]))), (1, (.d (.ix (i.mul (nat_lit 5)))))] []), .run 1, (.ops [(1, (.c0 (iI (f)))), (5, (.d (.sl 0 (i) (C2)))), (7, (.c0 (iI (g)))), (9, (.d (.c1 (iI (h)))))] []), .run 2, (.cond false), .run 2, (.ops [(0, (.rn (iI (Int.ofNat (i + 1)))))] []), .run 1] [1, 23, 24, 25] (s' := fun j => ⟨[(.some ⟨[(.v (.int .i64 (r))), (.dp (.s (C) (n) 5))], 2, 64, true, .cells⟩), (.some ⟨[(.v (.int .i64 (a))), (.v (.int .i64 (b))), (.v (.int .i64 (c))), (.v (.int .i64 (d))), (.v (.int .i64 (e)))], 5, 68, true, .cells⟩), (.some ⟨[(.v (.int .i64 (f))), (.v (.int .i64 (g)))], 2, 32, true, .cells⟩)], [(.code (atC [1, 1, 1, 0, 1, 0, 0] (bodyOf Tryz.f38))), (.inLoop (atC [1, 1, 1, 0, 1, 0, 0] (bodyOf Tryz.f38))), (.inBlock 0), (.code (atC [1, 1, 1, 1] (bodyOf Tryz.f38)))], mkT j [(1, (.e (.one (.ptr 0 0)))), (23, (.e (.one (.dp (.s (C) (n) 5))))), (24, (iI (Int.ofNat n))), (25, (iI (Int.ofNat (i + 1))))] 44 0⟩) (fun j => by kernel_rfl) (aP h0 <| aP h1 <| aP h2 <| aP h3 <| aP h4 <| aN <| aP (rfl : ((0 : Int) : Int) = Int.ofNat (0 : Nat)) <| aP (rfl : (Int.ofNat i : Int) = Int.ofNat i) <| aP h8 <| aP h9 <| aP (rfl : (true : Bool) = true) <| aP h11 <| aN <| aP h13 <| aN <| aP h15 <| aP h16 <| aZ)
    fun j => outK_gc [0] (by decide) (by kernel_rfl) (by kernel_rfl) (by kernel_rfl) (ho j)
def p38z_end (_C : List DT) (_C2 : List DT) (_n _i : Nat) (_r _a _b _c _d _e _a2 _b2 _c2 _d2 _e2 _f _g h _k _u : Int) (_w : Bool) (j : Nat → Value) : St := ⟨[], [(.code .ret), (.inBlock 1), (.code (atC [1, 1, 1, 0, 1, 0, 0, 1, 1, 1] (bodyOf Tryz.f38))), (.inLoop (atC [1, 1, 1, 0, 1, 0, 0] (bodyOf Tryz.f38))), (.inBlock 0), (.code (atC [1, 1, 1, 1] (bodyOf Tryz.f38)))], mkT j [(2, (iI (h)))] 44 0⟩
theorem p38z (hE : EnvOk E) (C : List DT) (C2 : List DT) (n i : Nat) (r a b c d e a2 b2 c2 d2 e2 f g h k u : Int) (w : Bool) (h0 : (decide (Int.ofNat i < Int.ofNat n) : Bool) = true) (h1 : (0 : Int) ≤ Int.ofNat i ∧ Int.ofNat i < (↑n : Int)) (h2 : ((Int.ofNat i).toNat * nat_lit 5 : Nat) = i.mul (nat_lit 5)) (h3 : (takeL (dropL C (i.mul (nat_lit 5))) (5 : Nat) : Option (List DT)) = (.some [(.v (.int .i64 (a))), (.v (.int .i64 (b))), (.v (.int .i64 (c))), (.v (.int .i64 (d))), (.v (.int .i64 (e)))])) (h4 : COut E 0 [] 37 [(.e (.agg [(.v (.int .i64 (a))), (.v (.int .i64 (b))), (.v (.int .i64 (c))), (.v (.int .i64 (d))), (.v (.int .i64 (e)))]))] (iI (f)) []) (h8 : (0 : Nat) ≤ i ∧ i ≤ n) (h9 : (takeL (dropL C (0 : Nat)) ((i - (0 : Nat)) * nat_lit 5) : Option (List DT)) = (.some (C2))) (h11 : COut E 0 [] 86 [(.e (.one (.dp (.s (C2) (i - (0 : Nat)) 5)))), (.e (.agg [(.v (.int .i64 (a))), (.v (.int .i64 (b))), (.v (.int .i64 (c))), (.v (.int .i64 (d))), (.v (.int .i64 (e)))]))] (iI (g)) []) (h13 : COut E 3 [(.some ⟨[(.v (.int .i64 (r))), (.dp (.s (C) (n) 5))], 2, 64, true, .cells⟩), (.some ⟨[(.v (.int .i64 (a))), (.v (.int .i64 (b))), (.v (.int .i64 (c))), (.v (.int .i64 (d))), (.v (.int .i64 (e)))], 5, 68, true, .cells⟩), (.some ⟨[(.v (.int .i64 (f))), (.v (.int .i64 (g)))], 2, 32, true, .cells⟩)] 68 [(.e (.one (.slc 2 0 2 1 2 true)))] (iI (h)) [(.some ⟨[(.v (.int .i64 (r))), (.dp (.s (C) (n) 5))], 2, 64, true, .cells⟩), (.some ⟨[(.v (.int .i64 (a))), (.v (.int .i64 (b))), (.v (.int .i64 (c))), (.v (.int .i64 (d))), (.v (.int .i64 (e)))], 5, 68, true, .cells⟩), (.some ⟨[(.v (.int .i64 (f))), (.v (.int .i64 (g)))], 2, 32, true, .cells⟩)]) (h15 : (h != (0 : Int) : Bool) = true) {Φ : Res → Prop} (ho : ∀ j, OutK E 0 0 (p38z_end C C2 n i r a b c d e a2 b2 c2 d2 e2 f g h k u w j) Φ) (j : Nat → Value) : OutK E 0 0 (q38 C C2 n i r a b c d e a2 b2 c2 d2 e2 f g h k u w j) Φ :=
  outK_seg hE (R0_ok hE) [.run 3, (.cond true), .run 4, (.ops [(2, (.d (.ldn [(.v (.int .i64 (a))), (.v (.int .i64 (b))), (.v (.int .i64 (c))), (.v (.int .i64 (d))), (.v (.int .i64 (e)))]))), (1, (.d (.ix (i.mul (nat_lit 5)))))] []), .run 1, (.ops [(1, (.c0 (iI (f)))), (5, (.d (.sl 0 (i) (C2)))), (7, (.c0 (iI (g)))), (9, (.d (.c1 (iI (h)))))] []), .run 2, (.cond true), .run 2] [2] (s' := fun j => ⟨[(.some ⟨[(.v (.int .i64 (r))), (.dp (.s (C) (n) 5))], 2, 64, true, .cells⟩), (.some ⟨[(.v (.int .i64 (a))), (.v (.int .i64 (b))), (.v (.int .i64 (c))), (.v (.int .i64 (d))), (.v (.int .i64 (e)))], 5, 68, true, .cells⟩), (.some ⟨[(.v (.int .i64 (f))), (.v (.int .i64 (g)))], 2, 32, true, .cells⟩)], [(.code .ret), (.inBlock 1), (.code (atC [1, 1, 1, 0, 1, 0, 0, 1, 1, 1] (bodyOf Tryz.f38))), (.inLoop (atC [1, 1, 1, 0, 1, 0, 0] (bodyOf Tryz.f38))), (.inBlock 0), (.code (atC [1, 1, 1, 1] (bodyOf Tryz.f38)))], mkT j [(2, (iI (h)))] 44 0⟩) (fun j => by kernel_rfl) (aP h0 <| aP h1 <| aP h2 <| aP h3 <| aP h4 <| aN <| aP (rfl : ((0 : Int) : Int) = Int.ofNat (0 : Nat)) <| aP (rfl : (Int.ofNat i : Int) = Int.ofNat i) <| aP h8 <| aP h9 <| aP (rfl : (true : Bool) = true) <| aP h11 <| aN <| aP h13 <| aN <| aP h15 <| aZ)
    fun j => outK_gc [] (by decide) (by kernel_rfl) (by kernel_rfl) (by kernel_rfl) (ho j)
def p38x_end (_C : List DT) (_C2 : List DT) (_n _i : Nat) (_r _a _b _c _d _e _a2 _b2 _c2 _d2 _e2 _f _g _h _k _u : Int) (_w : Bool) (j : Nat → Value) : St := ⟨[], [(.code .ret)], mkT j [(2, (iI 0))] 44 0⟩
theorem p38x (hE : EnvOk E) (C : List DT) (C2 : List DT) (n i : Nat) (r a b c d e a2 b2 c2 d2 e2 f g h k u : Int) (w : Bool) (h0 : (decide (Int.ofNat i < Int.ofNat n) : Bool) = false) {Φ : Res → Prop} (ho : ∀ j, OutK E 0 0 (p38x_end C C2 n i r a b c d e a2 b2 c2 d2 e2 f g h k u w j) Φ) (j : Nat → Value) : OutK E 0 0 (q38 C C2 n i r a b c d e a2 b2 c2 d2 e2 f g h k u w j) Φ :=
  outK_seg hE (R0_ok hE) [.run 3, (.cond false), .run 3] [2] (s' := fun j => ⟨[(.some ⟨[(.v (.int .i64 (r))), (.dp (.s (C) (n) 5))], 2, 64, true, .cells⟩)], [(.code .ret)], mkT j [(2, (iI 0))] 44 0⟩) (fun j => by kernel_rfl) (aP h0 <| aZ)
    fun j => outK_gc [] (by decide) (by kernel_rfl) (by kernel_rfl) (by kernel_rfl) (ho j)
def p34z_end (_C : List DT) (_C2 : List DT) (_n _i : Nat) (_r _a _b _c _d _e _a2 _b2 _c2 _d2 _e2 f _g _h _k _u : Int) (_w : Bool) (j : Nat → Value) : St := ⟨[], [(.code .ret), (.code (atC [1, 1, 0, 1, 0, 0, 1, 0, 0, 1] (bodyOf Tryz.f34))), (.inBlock 1), (.code (atC [1, 1, 0, 1, 0, 0, 1, 1] (bodyOf Tryz.f34))), (.inLoop (atC [1, 1, 0, 1, 0, 0] (bodyOf Tryz.f34))), (.inBlock 0), (.code (atC [1, 1, 1] (bodyOf Tryz.f34)))], mkT j [(2, (iI (f)))] 54 0⟩
theorem p34z (hE : EnvOk E) (C : List DT) (C2 : List DT) (n i : Nat) (r a b c d e a2 b2 c2 d2 e2 f g h k u : Int) (w : Bool) (h0 : (decide (Int.ofNat i < (↑n : Int)) : Bool) = true) (h1 : (0 : Int) ≤ Int.ofNat i ∧ Int.ofNat i < (↑n : Int)) (h2 : ((Int.ofNat i).toNat * nat_lit 5 : Nat) = i.mul (nat_lit 5)) (h3 : (takeL (dropL C (i.mul (nat_lit 5))) (5 : Nat) : Option (List DT)) = (.some [(.v (.int .i64 (a))), (.v (.int .i64 (b))), (.v (.int .i64 (c))), (.v (.int .i64 (d))), (.v (.int .i64 (e)))])) (h4 : COut E 0 [] 35 [(.e (.agg [(.v (.int .i64 (a))), (.v (.int .i64 (b))), (.v (.int .i64 (c))), (.v (.int .i64 (d))), (.v (.int .i64 (e)))]))] (iI (f)) []) (h6 : (f != (0 : Int) : Bool) = true) {Φ : Res → Prop} (ho : ∀ j, OutK E 0 0 (p34z_end C C2 n i r a b c d e a2 b2 c2 d2 e2 f g h k u w j) Φ) (j : Nat → Value) : OutK E 0 0 (q34 C C2 n i r a b c d e a2 b2 c2 d2 e2 f g h k u w j) Φ :=
  outK_seg hE (R0_ok hE) [.run 2, (.ops [(3, (.d .len))] []), (.cond true), .run 5, (.ops [(4, (.d (.ldn [(.v (.int .i64 (a))), (.v (.int .i64 (b))), (.v (.int .i64 (c))), (.v (.int .i64 (d))), (.v (.int .i64 (e)))]))), (5, (.c0 (iI (f)))), (3, (.d (.ix (i.mul (nat_lit 5)))))] []), .run 2, (.cond true), .run 2] [2] (s' := fun j => ⟨[(.some ⟨[(.v (.int .i64 (r))), (.dp (.s (C) (n) 5))], 2, 58, true, .cells⟩)], [(.code .ret), (.code (atC [1, 1, 0, 1, 0, 0, 1, 0, 0, 1] (bodyOf Tryz.f34))), (.inBlock 1), (.code (atC [1, 1, 0, 1, 0, 0, 1, 1] (bodyOf Tryz.f34))), (.inLoop (atC [1, 1, 0, 1, 0, 0] (bodyOf Tryz.f34))), (.inBlock 0), (.code (atC [1, 1, 1] (bodyOf Tryz.f34)))], mkT j [(2, (iI (f)))] 54 0⟩) (fun j => by kernel_rfl) (aP h0 <| aP h1 <| aP h2 <| aP h3 <| aP h4 <| aN <| aP h6 <| aZ)
    fun j => outK_gc [] (by decide) (by kernel_rfl) (by kernel_rfl) (by kernel_rfl) (ho j)
def p34f_end (C : List DT) (_C2 : List DT) (n i : Nat) (r _a _b _c _d _e _a2 _b2 _c2 _d2 _e2 _f _g _h _k _u : Int) (_w : Bool) (j : Nat → Value) : St := ⟨[(.some ⟨[(.v (.int .i64 (r))), (.dp (.s (C) (n) 5))], 2, 58, true, .cells⟩)], [(.code (atC [1, 1, 0, 1, 0, 0] (bodyOf Tryz.f34))), (.inLoop (atC [1, 1, 0, 1, 0, 0] (bodyOf Tryz.f34))), (.inBlock 0), (.code (atC [1, 1, 1] (bodyOf Tryz.f34)))], mkT j [(1, (.e (.one (.ptr 0 0)))), (4, (iI (Int.ofNat (i + 1))))] 54 0⟩
theorem p34f (hE : EnvOk E) (C : List DT) (C2 : List DT) (n i : Nat) (r a b c d e a2 b2 c2 d2 e2 f g h k u : Int) (w : Bool) (h0 : (decide (Int.ofNat i < (↑n : Int)) : Bool) = true) (h1 : (0 : Int) ≤ Int.ofNat i ∧ Int.ofNat i < (↑n : Int)) (h2 : ((Int.ofNat i).toNat * nat_lit 5 : Nat) = i.mul (nat_lit 5)) (h3 : (takeL (dropL C (i.mul (nat_lit 5))) (5 : Nat) : Option (List DT)) = (.some [(.v (.int .i64 (a))), (.v (.int .i64 (b))), (.v (.int .i64 (c))), (.v (.int .i64 (d))), (.v (.int .i64 (e)))])) (h4 : COut E 0 [] 35 [(.e (.agg [(.v (.int .i64 (a))), (.v (.int .i64 (b))), (.v (.int .i64 (c))), (.v (.int .i64 (d))), (.v (.int .i64 (e)))]))] (iI (f)) []) (h6 : (f != (0 : Int) : Bool) = false) (h7 : (decide (Int.ofNat i > (0 : Int)) == true : Bool) = (nat_lit 3, false).snd) (h8 : (decide (Int.ofNat i > (0 : Int)) == true : Bool) = (nat_lit 4, false).snd) (h9 : (decide (Int.ofNat i > (0 : Int)) == true : Bool) = (nat_lit 5, false).snd) (h10 : (decide (Int.ofNat i > (0 : Int)) == true : Bool) = (nat_lit 6, false).snd) (h11 : (decide (Int.ofNat i > (0 : Int)) == true : Bool) = (nat_lit 7, false).snd) (h12 : (decide (Int.ofNat i > (0 : Int)) == true : Bool) = (nat_lit 8, false).snd) (h13 : (decide (Int.ofNat i > (0 : Int)) == true : Bool) = (nat_lit 9, false).snd) (h14 : (decide (Int.ofNat i > (0 : Int)) == true : Bool) = (nat_lit 10, false).snd) (h15 : (decide (Int.ofNat i > (0 : Int)) == true : Bool) = (nat_lit 11, false).snd) (h16 : (decide (Int.ofNat i > (0 : Int)) == true : Bool) = (nat_lit 12, false).snd) (h17 : (decide (Int.ofNat i > (0 : Int)) == true : Bool) = (nat_lit 13, false).snd) (h19 : (decide (Int.ofNat i > (0 : Int)) == true : Bool) = (nat_lit 14, false).snd) (h20 : (decide (Int.ofNat i > (0 : Int)) == true : Bool) = (nat_lit 15, false).snd) (h21 : (decide (Int.ofNat i > (0 : Int)) : Bool) = false) (h22 : ((iI (wrapF IntKind.i64 (Int.ofNat i + (1 : Int)))) : AV) = (iI (Int.ofNat (i + 1)))) {Φ : Res → Prop} (ho : ∀ j, OutK E 0 0 (p34f_end C C2 n i r a b c d e a2 b2 c2 d2 e2 f g h k u w j) Φ) (j : Nat → Value) : OutK E 0 0 (q34 C C2 n i r a b c d e a2 b2 c2 d2 e2 f g h k u w j) Φ :=
  outK_seg hE (R0_ok hE) [.run 2, (.ops [(3, (.d .len))] []), (.cond true), .run 5, (.ops [(4, (.d (.ldn [(.v (.int .i64 (a))), (.v (.int .i64 (b))), (.v (.int .i64 (c))), (.v (.int .i64 (d))), (.v (.int .i64 (e)))]))), (5, (.c0 (iI (f)))), (3, (.d (.ix (i.mul (nat_lit 5)))))] []), .run 2, (.cond false), .run 2, (.ops [(16, (.pk false))] [(3, false), (4, false), (5, false), (6, false), (7, false), (8, false), (9, false), (10, false), (11, false), (12, false), (13, false), (14, false), (15, false)]), .run 3, (.ops [(1, (.rn (iI (Int.ofNat (i + 1)))))] []), .run 1] [1, 4] (fun j => by kernel_rfl) (aP h0 <| aP h1 <| aP h2 <| aP h3 <| aP h4 <| aN <| aP h6 <| aP h7 <| aP h8 <| aP h9 <| aP h10 <| aP h11 <| aP h12 <| aP h13 <| aP h14 <| aP h15 <| aP h16 <| aP h17 <| aP (rfl : (true : Bool) = true) <| aP h19 <| aP h20 <| aP h21 <| aP h22 <| aZ)
    ho
def p34t_end (C : List DT) (_C2 : List DT) (n i : Nat) (r _a _b _c _d _e _a2 _b2 _c2 _d2 _e2 _f _g _h _k _u : Int) (_w : Bool) (j : Nat → Value) : St := ⟨[(.some ⟨[(.v (.int .i64 (r))), (.dp (.s (C) (n) 5))], 2, 58, true, .cells⟩)], [(.code (atC [1, 1, 0, 1, 0, 0] (bodyOf Tryz.f34))), (.inLoop (atC [1, 1, 0, 1, 0, 0] (bodyOf Tryz.f34))), (.inBlock 0), (.code (atC [1, 1, 1] (bodyOf Tryz.f34)))], mkT j [(1, (.e (.one (.ptr 0 0)))), (4, (iI (Int.ofNat (i + 1))))] 54 0⟩
theorem p34t (hE : EnvOk E) (C : List DT) (C2 : List DT) (n i : Nat) (r a b c d e a2 b2 c2 d2 e2 f g h k u : Int) (w : Bool) (h0 : (decide (Int.ofNat i < (↑n : Int)) : Bool) = true) (h1 : (0 : Int) ≤ Int.ofNat i ∧ Int.ofNat i < (↑n : Int)) (h2 : ((Int.ofNat i).toNat * nat_lit 5 : Nat) = i.mul (nat_lit 5)) (h3 : (takeL (dropL C (i.mul (nat_lit 5))) (5 : Nat) : Option (List DT)) = (.some [(.v (.int .i64 (a))), (.v (.int .i64 (b))), (.v (.int .i64 (c))), (.v (.int .i64 (d))), (.v (.int .i64 (e)))])) (h4 : COut E 0 [] 35 [(.e (.agg [(.v (.int .i64 (a))), (.v (.int .i64 (b))), (.v (.int .i64 (c))), (.v (.int .i64 (d))), (.v (.int .i64 (e)))]))] (iI (f)) []) (h6 : (f != (0 : Int) : Bool) = false) (h7 : (decide (Int.ofNat i > (0 : Int)) == true : Bool) = (nat_lit 3, true).snd) (h8 : (decide (Int.ofNat i > (0 : Int)) == true : Bool) = (nat_lit 4, true).snd) (h9 : (decide (Int.ofNat i > (0 : Int)) == true : Bool) = (nat_lit 5, true).snd) (h10 : (decide (Int.ofNat i > (0 : Int)) == true : Bool) = (nat_lit 6, true).snd) (h11 : ((iI (wrapF IntKind.i64 (Int.ofNat i - (1 : Int)))) : AV) = (iI (Int.ofNat (i - (1 : Nat))))) (h12 : (decide (Int.ofNat i > (0 : Int)) == true : Bool) = (nat_lit 7, true).snd) (h13 : (0 : Int) ≤ Int.ofNat (i - (1 : Nat)) ∧ Int.ofNat (i - (1 : Nat)) < (↑n : Int)) (h14 : ((Int.ofNat (i - (1 : Nat))).toNat * nat_lit 5 : Nat) = (i - (1 : Nat)).mul (nat_lit 5)) (h15 : (decide (Int.ofNat i > (0 : Int)) == true : Bool) = (nat_lit 8, true).snd) (h16 : (takeL (dropL C ((i - (1 : Nat)).mul (nat_lit 5))) (5 : Nat) : Option (List DT)) = (.some [(.v (.int .i64 (a2))), (.v (.int .i64 (b2))), (.v (.int .i64 (c2))), (.v (.int .i64 (d2))), (.v (.int .i64 (e2)))])) (h17 : (decide (Int.ofNat i > (0 : Int)) == true : Bool) = (nat_lit 9, true).snd) (h18 : (decide (Int.ofNat i > (0 : Int)) == true : Bool) = (nat_lit 10, true).snd) (h19 : (decide (Int.ofNat i > (0 : Int)) == true : Bool) = (nat_lit 11, true).snd) (h20 : (decide (Int.ofNat i > (0 : Int)) == true : Bool) = (nat_lit 12, true).snd) (h21 : (0 : Int) ≤ Int.ofNat i ∧ Int.ofNat i < (↑n : Int)) (h22 : ((Int.ofNat i).toNat * nat_lit 5 : Nat) = i.mul (nat_lit 5)) (h23 : (decide (Int.ofNat i > (0 : Int)) == true : Bool) = (nat_lit 13, true).snd) (h24 : (takeL (dropL C (i.mul (nat_lit 5))) (5 : Nat) : Option (List DT)) = (.some [(.v (.int .i64 (a))), (.v (.int .i64 (b))), (.v (.int .i64 (c))), (.v (.int .i64 (d))), (.v (.int .i64 (e)))])) (h26 : (decide (Int.ofNat i > (0 : Int)) == true : Bool) = (nat_lit 14, true).snd) (h27 : COut E 0 [] 89 [(.e (.agg [(.v (.int .i64 (a2))), (.v (.int .i64 (b2))), (.v (.int .i64 (c2))), (.v (.int .i64 (d2))), (.v (.int .i64 (e2)))])), (.e (.agg [(.v (.int .i64 (a))), (.v (.int .i64 (b))), (.v (.int .i64 (c))), (.v (.int .i64 (d))), (.v (.int .i64 (e)))]))] (iB (w)) []) (h29 : (decide (Int.ofNat i > (0 : Int)) == true : Bool) = (nat_lit 15, true).snd) (h30 : (decide (Int.ofNat i > (0 : Int)) : Bool) = true) (h31 : (!w : Bool) = false) (h32 : ((iI (wrapF IntKind.i64 (Int.ofNat i + (1 : Int)))) : AV) = (iI (Int.ofNat (i + 1)))) {Φ : Res → Prop} (ho : ∀ j, OutK E 0 0 (p34t_end C C2 n i r a b c d e a2 b2 c2 d2 e2 f g h k u w j) Φ) (j : Nat → Value) : OutK E 0 0 (q34 C C2 n i r a b c d e a2 b2 c2 d2 e2 f g h k u w j) Φ :=
  outK_seg hE (R0_ok hE) [.run 2, (.ops [(3, (.d .len))] []), (.cond true), .run 5, (.ops [(4, (.d (.ldn [(.v (.int .i64 (a))), (.v (.int .i64 (b))), (.v (.int .i64 (c))), (.v (.int .i64 (d))), (.v (.int .i64 (e)))]))), (5, (.c0 (iI (f)))), (3, (.d (.ix (i.mul (nat_lit 5)))))] []), .run 2, (.cond false), .run 2, (.ops [(6, (.rn (iI (Int.ofNat (i - (1 : Nat)))))), (8, (.d (.ldn [(.v (.int .i64 (a2))), (.v (.int .i64 (b2))), (.v (.int .i64 (c2))), (.v (.int .i64 (d2))), (.v (.int .i64 (e2)))]))), (13, (.d (.ldn [(.v (.int .i64 (a))), (.v (.int .i64 (b))), (.v (.int .i64 (c))), (.v (.int .i64 (d))), (.v (.int .i64 (e)))]))), (14, (.c0 (iB (w)))), (7, (.d (.ix ((i - (1 : Nat)).mul (nat_lit 5))))), (12, (.d (.ix (i.mul (nat_lit 5))))), (16, (.pk true))] [(3, true), (4, true), (5, true), (6, true), (7, true), (8, true), (9, true), (10, true), (11, true), (12, true), (13, true), (14, true), (15, true)]), (.cond false), .run 2, (.ops [(1, (.rn (iI (Int.ofNat (i + 1)))))] []), .run 1] [1, 4] (fun j => by kernel_rfl) (aP h0 <| aP h1 <| aP h2 <| aP h3 <| aP h4 <| aN <| aP h6 <| aP h7 <| aP h8 <| aP h9 <| aP h10 <| aP h11 <| aP h12 <| aP h13 <| aP h14 <| aP h15 <| aP h16 <| aP h17 <| aP h18 <| aP h19 <| aP h20 <| aP h21 <| aP h22 <| aP h23 <| aP h24 <| aP (rfl : (true : Bool) = true) <| aP h26 <| aP h27 <| aN <| aP h29 <| aP h30 <| aP h31 <| aP h32 <| aZ)
    ho
def p34u_end (_C : List DT) (_C2 : List DT) (_n _i : Nat) (_r _a _b _c _d _e _a2 _b2 _c2 _d2 _e2 _f _g _h _k _u : Int) (_w : Bool) (j : Nat → Value) : St := ⟨[], [(.code .ret), (.inBlock 1), (.code (atC [1, 1, 0, 1, 0, 0, 1, 1] (bodyOf Tryz.f34))), (.inLoop (atC [1, 1, 0, 1, 0, 0] (bodyOf Tryz.f34))), (.inBlock 0), (.code (atC [1, 1, 1] (bodyOf Tryz.f34)))], mkT j [(2, (iI 11))] 54 0⟩
theorem p34u (hE : EnvOk E) (C : List DT) (C2 : List DT) (n i : Nat) (r a b c d e a2 b2 c2 d2 e2 f g h k u : Int) (w : Bool) (h0 : (decide (Int.ofNat i < (↑n : Int)) : Bool) = true) (h1 : (0 : Int) ≤ Int.ofNat i ∧ Int.ofNat i < (↑n : Int)) (h2 : ((Int.ofNat i).toNat * nat_lit 5 : Nat) = i.mul (nat_lit 5)) (h3 : (takeL (dropL C (i.mul (nat_lit 5))) (5 : Nat) : Option (List DT)) = (.some [(.v (.int .i64 (a))), (.v (.int .i64 (b))), (.v (.int .i64 (c))), (.v (.int .i64 (d))), (.v (.int .i64 (e)))])) (h4 : COut E 0 [] 35 [(.e (.agg [(.v (.int .i64 (a))), (.v (.int .i64 (b))), (.v (.int .i64 (c))), (.v (.int .i64 (d))), (.v (.int .i64 (e)))]))] (iI (f)) []) (h6 : (f != (0 : Int) : Bool) = false) (h7 : (decide (Int.ofNat i > (0 : Int)) == true : Bool) = (nat_lit 3, true).snd) (h8 : (decide (Int.ofNat i > (0 : Int)) == true : Bool) = (nat_lit 4, true).snd) (h9 : (decide (Int.ofNat i > (0 : Int)) == true : Bool) = (nat_lit 5, true).snd) (h10 : (decide (Int.ofNat i > (0 : Int)) == true : Bool) = (nat_lit 6, true).snd) (h11 : ((iI (wrapF IntKind.i64 (Int.ofNat i - (1 : Int)))) : AV) = (iI (Int.ofNat (i - (1 : Nat))))) (h12 : (decide (Int.ofNat i > (0 : Int)) == true : Bool) = (nat_lit 7, true).snd) (h13 : (0 : Int) ≤ Int.ofNat (i - (1 : Nat)) ∧ Int.ofNat (i - (1 : Nat)) < (↑n : Int)) (h14 : ((Int.ofNat (i - (1 : Nat))).toNat * nat_lit 5 : Nat) = (i - (1 : Nat)).mul (nat_lit 5)) (h15 : (decide (Int.ofNat i > (0 : Int)) == true : Bool) = (nat_lit 8, true).snd) (h16 : (takeL (dropL C ((i - (1 : Nat)).mul (nat_lit 5))) (5 : Nat) : Option (List DT)) = (.some [(.v (.int .i64 (a2))), (.v (.int .i64 (b2))), (.v (.int .i64 (c2))), (.v (.int .i64 (d2))), (.v (.int .i64 (e2)))])) (h17 : (decide (Int.ofNat i > (0 : Int)) == true : Bool) = (nat_lit 9, true).snd) (h18 : (decide (Int.ofNat i > (0 : Int)) == true : Bool) = (nat_lit 10, true).snd) (h19 : (decide (Int.ofNat i > (0 : Int)) == true : Bool) = (nat_lit 11, true).snd) (h20 : (decide (Int.ofNat i > (0 : Int)) == true : Bool) = (nat_lit 12, true).snd) (h21 : (0 : Int) ≤ Int.ofNat i ∧ Int.ofNat i < (↑n : Int)) (h22 : ((Int.ofNat i).toNat * nat_lit 5 : Nat) = i.mul (nat_lit 5)) (h23 : (decide (Int.ofNat i > (0 : Int)) == true : Bool) = (nat_lit 13, true).snd) (h24 : (takeL (dropL C (i.mul (nat_lit 5))) (5 : Nat) : Option (List DT)) = (.some [(.v (.int .i64 (a))), (.v (.int .i64 (b))), (.v (.int .i64 (c))), (.v (.int .i64 (d))), (.v (.int .i64 (e)))])) (h26 : (decide (Int.ofNat i > (0 : Int)) == true : Bool) = (nat_lit 14, true).snd) (h27 : COut E 0 [] 89 [(.e (.agg [(.v (.int .i64 (a2))), (.v (.int .i64 (b2))), (.v (.int .i64 (c2))), (.v (.int .i64 (d2))), (.v (.int .i64 (e2)))])), (.e (.agg [(.v (.int .i64 (a))), (.v (.int .i64 (b))), (.v (.int .i64 (c))), (.v (.int .i64 (d))), (.v (.int .i64 (e)))]))] (iB (w)) []) (h29 : (decide (Int.ofNat i > (0 : Int)) == true : Bool) = (nat_lit 15, true).snd) (h30 : (decide (Int.ofNat i > (0 : Int)) : Bool) = true) (h31 : (!w : Bool) = true) {Φ : Res → Prop} (ho : ∀ j, OutK E 0 0 (p34u_end C C2 n i r a b c d e a2 b2 c2 d2 e2 f g h k u w j) Φ) (j : Nat → Value) : OutK E 0 0 (q34 C C2 n i r a b c d e a2 b2 c2 d2 e2 f g h k u w j) Φ :=
  outK_seg hE (R0_ok hE) [.run 2, (.ops [(3, (.d .len))] []), (.cond true), .run 5, (.ops [(4, (.d (.ldn [(.v (.int .i64 (a))), (.v (.int .i64 (b))), (.v (.int .i64 (c))), (.v (.int .i64 (d))), (.v (.int .i64 (e)))]))), (5, (.c0 (iI (f)))), (3, (.d (.ix (i.mul (nat_lit 5)))))] []), .run 2, (.cond false), .run 2, (.ops [(6, (.rn (iI (Int.ofNat (i - (1 : Nat)))))), (8, (.d (.ldn [(.v (.int .i64 (a2))), (.v (.int .i64 (b2))), (.v (.int .i64 (c2))), (.v (.int .i64 (d2))), (.v (.int .i64 (e2)))]))), (13, (.d (.ldn [(.v (.int .i64 (a))), (.v (.int .i64 (b))), (.v (.int .i64 (c))), (.v (.int .i64 (d))), (.v (.int .i64 (e)))]))), (14, (.c0 (iB (w)))), (7, (.d (.ix ((i - (1 : Nat)).mul (nat_lit 5))))), (12, (.d (.ix (i.mul (nat_lit 5))))), (16, (.pk true))] [(3, true), (4, true), (5, true), (6, true), (7, true), (8, true), (9, true), (10, true), (11, true), (12, true), (13, true), (14, true), (15, true)]), (.cond true), .run 2] [2] (s' := fun j => ⟨[(.some ⟨[(.v (.int .i64 (r))), (.dp (.s (C) (n) 5))], 2, 58, true, .cells⟩)], [(.code .ret), (.inBlock 1), (.code (atC [1, 1, 0, 1, 0, 0, 1, 1] (bodyOf Tryz.f34))), (.inLoop (atC [1, 1, 0, 1, 0, 0] (bodyOf Tryz.f34))), (.inBlock 0), (.code (atC [1, 1, 1] (bodyOf Tryz.f34)))], mkT j [(2, (iI 11))] 54 0⟩) (fun j => by kernel_rfl) (aP h0 <| aP h1 <| aP h2 <| aP h3 <| aP h4 <| aN <| aP h6 <| aP h7 <| aP h8 <| aP h9 <| aP h10 <| aP h11 <| aP h12 <| aP h13 <| aP h14 <| aP h15 <| aP h16 <| aP h17 <| aP h18 <| aP h19 <| aP h20 <| aP h21 <| aP h22 <| aP h23 <| aP h24 <| aP (rfl : (true : Bool) = true) <| aP h26 <| aP h27 <| aN <| aP h29 <| aP h30 <| aP h31 <| aZ)
    fun j => outK_gc [] (by decide) (by kernel_rfl) (by kernel_rfl) (by kernel_rfl) (ho j)
def p34x_end (_C : List DT) (_C2 : List DT) (_n _i : Nat) (_r _a _b _c _d _e _a2 _b2 _c2 _d2 _e2 _f _g _h _k _u : Int) (_w : Bool) (j : Nat → Value) : St := ⟨[], [(.code .ret)], mkT j [(2, (iI 0))] 54 0⟩
theorem p34x (hE : EnvOk E) (C : List DT) (C2 : List DT) (n i : Nat) (r a b c d e a2 b2 c2 d2 e2 f g h k u : Int) (w : Bool) (h0 : (decide (Int.ofNat i < (↑n : Int)) : Bool) = false) {Φ : Res → Prop} (ho : ∀ j, OutK E 0 0 (p34x_end C C2 n i r a b c d e a2 b2 c2 d2 e2 f g h k u w j) Φ) (j : Nat → Value) : OutK E 0 0 (q34 C C2 n i r a b c d e a2 b2 c2 d2 e2 f g h k u w j) Φ :=
  outK_seg hE (R0_ok hE) [.run 2, (.ops [(3, (.d .len))] []), (.cond false), .run 3] [2] (s' := fun j => ⟨[(.some ⟨[(.v (.int .i64 (r))), (.dp (.s (C) (n) 5))], 2, 58, true, .cells⟩)], [(.code .ret)], mkT j [(2, (iI 0))] 54 0⟩) (fun j => by kernel_rfl) (aP h0 <| aZ)
    fun j => outK_gc [] (by decide) (by kernel_rfl) (by kernel_rfl) (by kernel_rfl) (ho j)

theorem l88 (hE : EnvOk E) (l : List Int) (n : Nat) (hl : l.length = n * 5) (hn : n ≤ 5000) : ∀ m i, m + i = n → 0 < i → ∀ j, OutK E 0 0 (q88 (iD l) n i (i * 5) 0 0 0 0 0 0 (iC (l.take (i * 5))) [] j) (Go.Ev.Ends E Tryz.f88 (.e (.one (.slc 0 0 n 5 n false))) [some ⟨iC l, n * 5, 68, false, .cells⟩])
  | 0, i, hk, hi, j => by
    have e : i = n := by omega
    subst e
    rw [List.take_of_length_le (by omega)]
    exact p88x hE (iD l) i i (i * 5) 0 0 0 0 0 0 (iC l) [] (decide_eq_false (by simp only [Int.ofNat_eq_natCast]; omega)) (fun j => outK_ret (ends_ret (by kernel_rfl))) j
  | m + 1, i, hk, hi, j => by
    have hlt : i < n := by omega
    obtain ⟨a, b, c, d, e, he⟩ := five (row_len 5 l n i hl hlt)
    have hrow := row_of 5 l n i hl hlt
    rw [he] at hrow
    have ht := take_succ_row 5 l i
    rw [he] at ht
    have ih := l88 hE l n hl hn m (i + 1) (by omega) (by omega)
    have happ : appL (iC (l.take (i * 5))) (iC [a, b, c, d, e]) = iC (l.take ((i + 1) * 5)) := by rw [iC_app, ht]
    exact p88s hE (iD l) n i (i * 5) ((i + 1) * 5) a b c d e (iC (l.take (i * 5))) (iC (l.take ((i + 1) * 5))) (decide_eq_true (by simp only [Int.ofNat_eq_natCast]; omega)) ⟨(by simp only [Int.ofNat_eq_natCast]; omega), (by simp only [Int.ofNat_eq_natCast]; omega)⟩ rfl hrow (by omega) (by simp [small]; omega) rfl happ rfl (iIn i (by omega)) (flat_iC _) ih j
theorem K88 (hE : EnvOk E) (l : List Int) (n : Nat) (hl : l.length = n * 5) (hn : n ≤ 5000) : COut E 0 [] 88 [.e (.one (.dp (.s (iD l) n 5)))] (.e (.one (.dp (.s (iD l) n 5)))) [] := by
  by_cases h0 : 0 < n
  · obtain ⟨a, b, c, d, e, he⟩ := five (row_len 5 l n 0 hl h0)
    have hrow := row_of 5 l n 0 hl h0
    rw [he] at hrow
    have ht := take_succ_row 5 l 0
    rw [he] at ht
    have h5 := l88 hE l n hl hn (n - 1) 1 (by omega) (by omega)
    have e1 : iC (l.take (1 * 5)) = iC [a, b, c, d, e] := by rw [show l.take (1 * 5) = [a, b, c, d, e] by simpa using ht]
    rw [e1] at h5
    have hc1 : COut E 0 [] 88 [.e (.one (.dp (.s (iD l) n 5)))] (.e (.one (.slc 0 0 n 5 n false))) [some ⟨iC l, n * 5, 68, false, .cells⟩] :=
      cOut_start Tryz.func88 rfl (p88a hE (iD l) n 0 0 0 0 0 0 0 0 [] [] (p88f hE (iD l) n 0 0 0 a b c d e [] [] (decide_eq_true (by simp only [Int.ofNat_eq_natCast]; omega)) ⟨(by simp only [Int.ofNat_eq_natCast]; omega), (by simp only [Int.ofNat_eq_natCast]; omega)⟩ hrow h5) fun _ => undef)
    exact cOut_clear (cOut_freeze 0 hc1 rfl (Nat.zero_le _) (ds := iD l) (.inr ⟨0, n, 5, n, false, iD l, rfl, rfl, by rw [takeL_eq, dropL_eq, List.drop_zero, if_pos (by simp [hl]), List.take_of_length_le (by simp [hl])]⟩)) rfl
  · have e : n = 0 := by omega
    subst e
    have : l = [] := List.eq_nil_of_length_eq_zero (by omega)
    subst this
    exact cOut_nil1 (p := none) (c := 0) 5 (cOut_start Tryz.func88 rfl (p88a hE (iD []) 0 0 0 0 0 0 0 0 0 [] [] (p88x0 hE (iD []) 0 0 0 0 0 0 0 0 0 [] [] (decide_eq_false (by simp only [Int.ofNat_eq_natCast]; omega)) (fun j => outK_ret (ends_ret (by kernel_rfl)))) fun _ => undef))
theorem K33 (hE : EnvOk E) (r : Int) (l : List Int) (n : Nat) (hl : l.length = n * 5) (hn : n ≤ 5000) : COut E 0 [] 33 [.e (.agg [.v (.int .i64 r), .dp (.s (iD l) n 5)])] (.e (.agg [.v (.int .i64 r), .dp (.s (iD l) n 5)])) [] :=
  cOut_clear (cOut_start Tryz.func33 rfl (p33 hE (iD l) [] (n) 0 (r) 0 0 0 0 0 0 0 0 0 0 0 0 0 0 0 false (K88 hE l n hl hn) (fun j => outK_ret (ends_ret (by kernel_rfl))) fun _ => undef)) rfl
def shrt (n : Nat) : Bool := decide (n ≤ 12) || decide (n = 65)
theorem K85 (hE : EnvOk E) (l : List Int) (n : Nat) : COut E 0 [] 85 [.e (.one (.dp (.s (iD l) n 5)))] (iB (shrt n)) [] := by
  by_cases h : n ≤ 12
  · have e : shrt n = true := by unfold shrt; rw [decide_eq_true h]; rfl
    have hd : decide ((n : Int) ≤ 12) = true := decide_eq_true (by omega)
    rw [e]
    exact cOut_start Tryz.func85 rfl (p85t hE (iD l) [] (n) 0 0 0 0 0 0 0 0 0 0 0 0 0 0 0 0 0 false (by rw [hd]; rfl) (by rw [hd]; rfl) (by rw [hd]; rfl) hd (fun j => outK_ret (ends_ret (by kernel_rfl))) fun _ => undef)
  · have hd : decide ((n : Int) ≤ 12) = false := decide_eq_false (by omega)
    have e : shrt n = ((n : Int) == 65) := by
      unfold shrt
      rw [decide_eq_false h, Bool.false_or, Bool.eq_iff_iff, decide_eq_true_iff, beq_iff_eq]
      omega
    rw [e]
    exact cOut_start Tryz.func85 rfl (p85f hE (iD l) [] (n) 0 0 0 0 0 0 0 0 0 0 0 0 0 0 0 0 0 false (by rw [hd]; rfl) (by rw [hd]; rfl) (by rw [hd]; rfl) hd (fun j => outK_ret (ends_ret (by kernel_rfl))) fun _ => undef)
theorem K31 (hE : EnvOk E) (r : Int) (l : List Int) (n : Nat) : COut E 0 [] 31 [.e (.agg [.v (.int .i64 r), .dp (.s (iD l) n 5)])] (iB (shrt n)) [] :=
  cOut_start Tryz.func31 rfl (p31 hE (iD l) [] (n) 0 (r) 0 0 0 0 0 0 0 0 0 0 0 0 0 0 0 _ (K85 hE l n) (fun j => outK_ret (ends_ret (by kernel_rfl))) fun _ => undef)
/-! Entries in order. -/
abbrev row (l : List Int) (i : Nat) : List Int := (l.drop (i * 5)).take 5
def nx (a2 b2 a b : Int) : Int := if a = wrapF .i64 (a2 + 1) ∧ b2 < b then 0 else 11
def eRow : List Int → Int
  | [a, b, c, d, e] => chkE a b c d e
  | _ => 0
def nRow : List Int → List Int → Int
  | [a2, b2, _, _, _], [a, b, _, _, _] => nx a2 b2 a b
  | _, _ => 0
def nAt (l : List Int) (i : Nat) (x : List Int) : Int := if i = 0 then 0 else nRow (row l (i - 1)) x
def eAt (l : List Int) (i : Nat) : Int := firstI [eRow (row l i), nAt l i (row l i)]
def chkL (l : List Int) : Nat → Nat → Int
  | 0, _ => 0
  | m + 1, i => if eAt l i = 0 then chkL l m (i + 1) else eAt l i
def hdP (r : Int) (n : Nat) : Int := firstI [rngI 1 64 r, if decide ((n : Int) > r) then 5 else 0]
def chkP (r : Int) (l : List Int) (n : Nat) : Int := if hdP r n = 0 then chkL l n 0 else hdP r n
theorem firstI2 (x y : Int) : firstI [x, y] = if x = 0 then y else x := by
  unfold firstI firstI firstI
  split
  · split <;> simp_all
  · rfl
theorem nAt_take (l : List Int) (i : Nat) (x : List Int) : nAt (l.take (i * 5)) i x = nAt l i x := by
  unfold nAt
  by_cases h : i = 0
  · rw [if_pos h, if_pos h]
  · rw [if_neg h, if_neg h]
    have : row (l.take (i * 5)) (i - 1) = row l (i - 1) := by
      show ((l.take (i * 5)).drop ((i - 1) * 5)).take 5 = (l.drop ((i - 1) * 5)).take 5
      rw [List.drop_take, List.take_take]
      congr 1
      omega
    rw [this]
theorem K89 (hE : EnvOk E) (a2 b2 c2 d2 e2 a b c d e : Int) : COut E 0 [] 89 [.e (.agg [.v (.int .i64 a2), .v (.int .i64 b2), .v (.int .i64 c2), .v (.int .i64 d2), .v (.int .i64 e2)]), .e (.agg [.v (.int .i64 a), .v (.int .i64 b), .v (.int .i64 c), .v (.int .i64 d), .v (.int .i64 e)])] (iB (nx a2 b2 a b == 0)) [] := by
  by_cases h : a = wrapF .i64 (a2 + 1)
  · have hb : (a == wrapF .i64 (a2 + 1)) = true := beq_iff_eq.2 h
    have en : (nx a2 b2 a b == 0) = decide (b > b2) := by
      unfold nx
      by_cases c : b2 < b
      · rw [if_pos ⟨h, c⟩, decide_eq_true (show b > b2 from c)]; rfl
      · rw [if_neg (fun k => c k.2), decide_eq_false (show ¬ b > b2 from c)]; rfl
    rw [en]
    exact cOut_start Tryz.func89 rfl (p89t hE [] [] 0 0 0 (a) (b) (c) (d) (e) (a2) (b2) (c2) (d2) (e2) 0 0 (wrapF .i64 (a2 + 1)) 0 0 false rfl (by rw [hb]; rfl) (by rw [hb]; rfl) (by rw [hb]; rfl) (by rw [hb]; rfl) (by rw [hb]; rfl) hb (fun j => outK_ret (ends_ret (by kernel_rfl))) fun _ => undef)
  · have hb : (a == wrapF .i64 (a2 + 1)) = false := beq_eq_false_iff_ne.2 h
    have en : (nx a2 b2 a b == 0) = false := by
      unfold nx
      rw [if_neg (fun k => h k.1)]; rfl
    rw [en]
    exact cOut_start Tryz.func89 rfl (p89f hE [] [] 0 0 0 (a) (b) (c) (d) (e) (a2) (b2) (c2) (d2) (e2) 0 0 (wrapF .i64 (a2 + 1)) 0 0 false rfl (by rw [hb]; rfl) (by rw [hb]; rfl) (by rw [hb]; rfl) (by rw [hb]; rfl) (by rw [hb]; rfl) hb (fun j => outK_ret (ends_ret (by kernel_rfl))) fun _ => undef)
theorem K86 (hE : EnvOk E) (l : List Int) (n : Nat) (hl : l.length = n * 5) (hn : n ≤ 5000) (a b c d e : Int) : COut E 0 [] 86 [.e (.one (.dp (.s (iD l) n 5))), .e (.agg [.v (.int .i64 a), .v (.int .i64 b), .v (.int .i64 c), .v (.int .i64 d), .v (.int .i64 e)])] (iI (nAt l n [a, b, c, d, e])) [] := by
  by_cases h0 : n = 0
  · have hb : ((n : Int) == 0) = true := by rw [h0]; rfl
    rw [show nAt l n [a, b, c, d, e] = 0 by unfold nAt; rw [if_pos h0]]
    exact cOut_start Tryz.func86 rfl (p86n hE (iD l) [] (n) 0 0 (a) (b) (c) (d) (e) 0 0 0 0 0 0 0 0 0 0 false hb (fun j => outK_ret (ends_ret (by kernel_rfl))) fun _ => undef)
  · have hb0 : ((n : Int) == 0) = false := beq_eq_false_iff_ne.2 (by omega)
    have hlt : n - 1 < n := by omega
    obtain ⟨a2, b2, c2, d2, e2, he⟩ := five (row_len 5 l n (n - 1) hl hlt)
    have hrow := row_of 5 l n (n - 1) hl hlt
    rw [he] at hrow
    have hnx : nAt l n [a, b, c, d, e] = nx a2 b2 a b := by
      unfold nAt
      rw [if_neg h0, show row l (n - 1) = [a2, b2, c2, d2, e2] from he]; rfl
    rw [hnx]
    have hsub : (iI (wrapF IntKind.i64 ((n : Int) - 1)) : AV) = iI (Int.ofNat (n - 1)) := iIe (by rw [wrap_id (by omega) (by omega)]; simp only [Int.ofNat_eq_natCast]; omega)
    by_cases h : a = wrapF .i64 (a2 + 1)
    · have hb : (a != wrapF .i64 (a2 + 1)) = false := by rw [bne, beq_iff_eq.2 h]; rfl
      have en : nx a2 b2 a b = if decide (b ≤ b2) then 11 else 0 := by
        unfold nx
        by_cases c : b2 < b
        · rw [if_pos ⟨h, c⟩, decide_eq_false (by omega)]; rfl
        · rw [if_neg (fun k => c k.2), decide_eq_true (by omega)]; rfl
      rw [en]
      exact cOut_start Tryz.func86 rfl (p86u hE (iD l) [] (n) (n - 1) 0 (a) (b) (c) (d) (e) (a2) (b2) (c2) (d2) (e2) _ 0 (wrapF .i64 (a2 + 1)) 0 0 false hb0 hsub ⟨(by simp only [Int.ofNat_eq_natCast]; omega), (by simp only [Int.ofNat_eq_natCast]; omega)⟩ rfl hrow rfl (by rw [hb]; rfl) (by rw [hb]; rfl) (by rw [hb]; rfl) (by rw [hb]; rfl) (by rw [hb]; rfl) hb (K70 hE _ 11) (fun j => outK_ret (ends_ret (by kernel_rfl))) fun _ => undef)
    · have hb : (a != wrapF .i64 (a2 + 1)) = true := bne_iff_ne.2 h
      have en : nx a2 b2 a b = 11 := by
        unfold nx
        rw [if_neg (fun k => h k.1)]
      rw [en]
      exact cOut_start Tryz.func86 rfl (p86t hE (iD l) [] (n) (n - 1) 0 (a) (b) (c) (d) (e) (a2) (b2) (c2) (d2) (e2) (11) 0 (wrapF .i64 (a2 + 1)) 0 0 false hb0 hsub ⟨(by simp only [Int.ofNat_eq_natCast]; omega), (by simp only [Int.ofNat_eq_natCast]; omega)⟩ rfl hrow rfl (by rw [hb]; rfl) (by rw [hb]; rfl) (by rw [hb]; rfl) (by rw [hb]; rfl) (by rw [hb]; rfl) hb (K70 hE true 11) (fun j => outK_ret (ends_ret (by kernel_rfl))) fun _ => undef)
theorem eAt_eq {l : List Int} {i : Nat} {a b c d e : Int} (he : (l.drop (i * 5)).take 5 = [a, b, c, d, e]) : eAt l i = if chkE a b c d e = 0 then nAt l i [a, b, c, d, e] else chkE a b c d e := by
  unfold eAt
  rw [show row l i = [a, b, c, d, e] from he, firstI2]; rfl
theorem k68h (hE : EnvOk E) (a b : Int) (lv : Nat) (h : Heap) (i : Nat) (hh : getL h i = some (some ⟨(iD [a, b]).map DT.ac, 2, 32, true, .cells⟩)) : COut E lv h 68 [.e (.one (.slc i 0 2 1 2 true))] (iI (if a = 0 then b else a)) h := by
  rw [← firstI2]
  exact lend2 lv hE 68 [a, b] _ 32 true (K68 hE _ (by simp)) h i hh
theorem k25h (hE : EnvOk E) (a b : Int) (lv : Nat) (h : Heap) (i : Nat) (hh : getL h i = some (some ⟨(iD [a, b]).map DT.ac, 2, 3, true, .cells⟩)) : COut E lv h 25 [.e (.one (.slc i 0 2 1 2 true))] (iI (if a = 0 then b else a)) h := by
  rw [← firstI2]
  exact lend2 lv hE 25 [a, b] _ 3 true (K25 hE _ (by simp)) h i hh
theorem l38 (hE : EnvOk E) (r : Int) (l : List Int) (n : Nat) (hl : l.length = n * 5) (hn : n ≤ 5000) : ∀ m i, m + i = n → ∀ j, OutK E 0 0 (q38 (iD l) [] (n) (i) (r) 0 0 0 0 0 0 0 0 0 0 0 0 0 0 0 false j) (Go.Ev.Ends E Tryz.f38 (iI (chkL l m i)) [])
  | 0, i, hk, j => p38x hE (iD l) [] (n) (i) (r) 0 0 0 0 0 0 0 0 0 0 0 0 0 0 0 false (decide_eq_false (by simp only [Int.ofNat_eq_natCast]; omega)) (fun j => outK_ret (ends_ret (by kernel_rfl))) j
  | m + 1, i, hk, j => by
    have hlt : i < n := by omega
    obtain ⟨a, b, c, d, e, he⟩ := five (row_len 5 l n i hl hlt)
    have hrow := row_of 5 l n i hl hlt
    rw [he] at hrow
    have hen := eAt_eq he
    have htk : takeL (dropL (iD l) 0) ((i - 0) * 5) = some (iD (l.take (i * 5))) := by
      rw [takeL_eq, dropL_eq, List.drop_zero, Nat.sub_zero, if_pos (by simp; omega)]
      simp only [iD, List.map_take]
    have k86 := K86 hE (l.take (i * 5)) i (by simp; omega) (by omega) a b c d e
    rw [nAt_take] at k86
    have k68 := k68h hE (chkE a b c d e) (nAt l i [a, b, c, d, e]) 3
    rw [← hen] at k68
    show OutK E 0 0 _ (Go.Ev.Ends E Tryz.f38 (iI (if eAt l i = 0 then chkL l m (i + 1) else eAt l i)) [])
    by_cases h0 : eAt l i = 0
    · rw [if_pos h0]
      rw [h0] at k68
      have hne : ((0 : Int) != 0) = false := rfl
      exact p38s hE (iD l) (iD (l.take (i * 5))) (n) (i) (r) (a) (b) (c) (d) (e) 0 0 0 0 0 _ _ (0) 0 0 false (decide_eq_true (by simp only [Int.ofNat_eq_natCast]; omega)) ⟨(by simp only [Int.ofNat_eq_natCast]; omega), (by simp only [Int.ofNat_eq_natCast]; omega)⟩ rfl hrow (K37 hE _ _ _ _ _) ⟨by omega, by omega⟩ htk k86 (k68 _ 2 rfl) hne (iIn i (by omega)) (l38 hE r l n hl hn m (i + 1) (by omega)) j
    · rw [if_neg h0]
      have hne : (eAt l i != 0) = true := bne_iff_ne.2 h0
      exact p38z hE (iD l) (iD (l.take (i * 5))) (n) (i) (r) (a) (b) (c) (d) (e) 0 0 0 0 0 _ _ (eAt l i) 0 0 false (decide_eq_true (by simp only [Int.ofNat_eq_natCast]; omega)) ⟨(by simp only [Int.ofNat_eq_natCast]; omega), (by simp only [Int.ofNat_eq_natCast]; omega)⟩ rfl hrow (K37 hE _ _ _ _ _) ⟨by omega, by omega⟩ htk k86 (k68 _ 2 rfl) hne (fun j => outK_ret (ends_ret (by kernel_rfl))) j
theorem K38 (hE : EnvOk E) (r : Int) (l : List Int) (n : Nat) (hl : l.length = n * 5) (hn : n ≤ 5000) : COut E 0 [] 38 [.e (.agg [.v (.int .i64 r), .dp (.s (iD l) n 5)])] (iI (chkP r l n)) [] := by
  have k68 := k68h hE (rngI 1 64 r) (if decide ((n : Int) > r) then 5 else 0) 2
  rw [← firstI2] at k68
  unfold chkP
  by_cases h0 : hdP r n = 0
  · rw [if_pos h0]
    rw [show firstI _ = 0 from h0] at k68
    exact cOut_start Tryz.func38 rfl (p38a hE (iD l) [] (n) 0 (r) 0 0 0 0 0 0 0 0 0 0 _ _ (0) 0 0 false (K81 hE r 1 64) (K70 hE _ 5) (k68 _ 1 rfl) rfl (l38 hE r l n hl hn n 0 (by omega)) fun _ => undef)
  · rw [if_neg h0]
    exact cOut_start Tryz.func38 rfl (p38e hE (iD l) [] (n) 0 (r) 0 0 0 0 0 0 0 0 0 0 _ _ (hdP r n) 0 0 false (K81 hE r 1 64) (K70 hE _ 5) (k68 _ 1 rfl) (bne_iff_ne.2 h0) (fun j => outK_ret (ends_ret (by kernel_rfl))) fun _ => undef)
theorem l34 (hE : EnvOk E) (r : Int) (l : List Int) (n : Nat) (hl : l.length = n * 5) (hn : n ≤ 5000) : ∀ m i, m + i = n → ∀ j, OutK E 0 0 (q34 (iD l) [] (n) (i) (r) 0 0 0 0 0 0 0 0 0 0 0 0 0 0 0 false j) (Go.Ev.Ends E Tryz.f34 (iI (chkL l m i)) [])
  | 0, i, hk, j => p34x hE (iD l) [] (n) (i) (r) 0 0 0 0 0 0 0 0 0 0 0 0 0 0 0 false (decide_eq_false (by simp only [Int.ofNat_eq_natCast]; omega)) (fun j => outK_ret (ends_ret (by kernel_rfl))) j
  | m + 1, i, hk, j => by
    have hlt : i < n := by omega
    obtain ⟨a, b, c, d, e, he⟩ := five (row_len 5 l n i hl hlt)
    have hrow := row_of 5 l n i hl hlt
    rw [he] at hrow
    have hen := eAt_eq he
    have k35 := K35 hE a b c d e
    have ih := l34 hE r l n hl hn m (i + 1) (by omega)
    show OutK E 0 0 _ (Go.Ev.Ends E Tryz.f34 (iI (if eAt l i = 0 then chkL l m (i + 1) else eAt l i)) [])
    by_cases hc : chkE a b c d e = 0
    · rw [if_pos hc] at hen
      rw [hc] at k35
      have hf : ((0 : Int) != 0) = false := rfl
      by_cases h0 : i = 0
      · have hi : decide (Int.ofNat i > (0 : Int)) = false := decide_eq_false (by simp only [Int.ofNat_eq_natCast]; omega)
        rw [hen, show nAt l i [a, b, c, d, e] = 0 by unfold nAt; rw [if_pos h0], if_pos rfl]
        exact p34f hE (iD l) [] (n) (i) (r) (a) (b) (c) (d) (e) 0 0 0 0 0 (0) 0 0 0 0 false (decide_eq_true (by simp only [Int.ofNat_eq_natCast]; omega)) ⟨(by simp only [Int.ofNat_eq_natCast]; omega), (by simp only [Int.ofNat_eq_natCast]; omega)⟩ rfl hrow k35 hf (by rw [hi]; rfl) (by rw [hi]; rfl) (by rw [hi]; rfl) (by rw [hi]; rfl) (by rw [hi]; rfl) (by rw [hi]; rfl) (by rw [hi]; rfl) (by rw [hi]; rfl) (by rw [hi]; rfl) (by rw [hi]; rfl) (by rw [hi]; rfl) (by rw [hi]; rfl) (by rw [hi]; rfl) hi (iIn i (by omega)) ih j
      · have hi : decide (Int.ofNat i > (0 : Int)) = true := decide_eq_true (by simp only [Int.ofNat_eq_natCast]; omega)
        obtain ⟨a2, b2, c2, d2, e2, he2⟩ := five (row_len 5 l n (i - 1) hl (by omega))
        have hrow2 := row_of 5 l n (i - 1) hl (by omega)
        rw [he2] at hrow2
        have hnx : nAt l i [a, b, c, d, e] = nx a2 b2 a b := by
          unfold nAt
          rw [if_neg h0, show row l (i - 1) = [a2, b2, c2, d2, e2] from he2]; rfl
        have k89 := K89 hE a2 b2 c2 d2 e2 a b c d e
        rw [hen, hnx]
        by_cases hq : nx a2 b2 a b = 0
        · rw [if_pos hq]
          rw [hq] at k89
          exact p34t hE (iD l) [] (n) (i) (r) (a) (b) (c) (d) (e) (a2) (b2) (c2) (d2) (e2) (0) 0 0 0 0 (true) (decide_eq_true (by simp only [Int.ofNat_eq_natCast]; omega)) ⟨(by simp only [Int.ofNat_eq_natCast]; omega), (by simp only [Int.ofNat_eq_natCast]; omega)⟩ rfl hrow k35 hf (by rw [hi]; rfl) (by rw [hi]; rfl) (by rw [hi]; rfl) (by rw [hi]; rfl) (iIe (by rw [wrap_id (by simp only [Int.ofNat_eq_natCast]; omega) (by simp only [Int.ofNat_eq_natCast]; omega)]; simp only [Int.ofNat_eq_natCast]; omega)) (by rw [hi]; rfl) ⟨(by simp only [Int.ofNat_eq_natCast]; omega), (by simp only [Int.ofNat_eq_natCast]; omega)⟩ rfl (by rw [hi]; rfl) hrow2 (by rw [hi]; rfl) (by rw [hi]; rfl) (by rw [hi]; rfl) (by rw [hi]; rfl) ⟨(by simp only [Int.ofNat_eq_natCast]; omega), (by simp only [Int.ofNat_eq_natCast]; omega)⟩ rfl (by rw [hi]; rfl) hrow (by rw [hi]; rfl) k89 (by rw [hi]; rfl) hi rfl (iIn i (by omega)) ih j
        · have hn11 : nx a2 b2 a b = 11 := by
            unfold nx at hq ⊢
            split <;> simp_all
          rw [if_neg hq]
          rw [hn11] at k89 ⊢
          exact p34u hE (iD l) [] (n) (i) (r) (a) (b) (c) (d) (e) (a2) (b2) (c2) (d2) (e2) (0) 0 0 0 0 (false) (decide_eq_true (by simp only [Int.ofNat_eq_natCast]; omega)) ⟨(by simp only [Int.ofNat_eq_natCast]; omega), (by simp only [Int.ofNat_eq_natCast]; omega)⟩ rfl hrow k35 hf (by rw [hi]; rfl) (by rw [hi]; rfl) (by rw [hi]; rfl) (by rw [hi]; rfl) (iIe (by rw [wrap_id (by simp only [Int.ofNat_eq_natCast]; omega) (by simp only [Int.ofNat_eq_natCast]; omega)]; simp only [Int.ofNat_eq_natCast]; omega)) (by rw [hi]; rfl) ⟨(by simp only [Int.ofNat_eq_natCast]; omega), (by simp only [Int.ofNat_eq_natCast]; omega)⟩ rfl (by rw [hi]; rfl) hrow2 (by rw [hi]; rfl) (by rw [hi]; rfl) (by rw [hi]; rfl) (by rw [hi]; rfl) ⟨(by simp only [Int.ofNat_eq_natCast]; omega), (by simp only [Int.ofNat_eq_natCast]; omega)⟩ rfl (by rw [hi]; rfl) hrow (by rw [hi]; rfl) k89 (by rw [hi]; rfl) hi rfl (fun j => outK_ret (ends_ret (by kernel_rfl))) j
    · rw [if_neg hc] at hen
      rw [hen, if_neg hc]
      have hf : (chkE a b c d e != 0) = true := bne_iff_ne.2 hc
      exact p34z hE (iD l) [] (n) (i) (r) (a) (b) (c) (d) (e) 0 0 0 0 0 (chkE a b c d e) 0 0 0 0 false (decide_eq_true (by simp only [Int.ofNat_eq_natCast]; omega)) ⟨(by simp only [Int.ofNat_eq_natCast]; omega), (by simp only [Int.ofNat_eq_natCast]; omega)⟩ rfl hrow k35 hf (fun j => outK_ret (ends_ret (by kernel_rfl))) j
theorem K34 (hE : EnvOk E) (r : Int) (l : List Int) (n : Nat) (hl : l.length = n * 5) (hn : n ≤ 5000) : COut E 0 [] 34 [.e (.agg [.v (.int .i64 r), .dp (.s (iD l) n 5)])] (iI (chkP r l n)) [] := by
  have k25 := k25h hE (rngI 1 64 r) (if decide ((n : Int) > r) then 5 else 0) 2
  rw [← firstI2] at k25
  unfold chkP
  by_cases h0 : hdP r n = 0
  · rw [if_pos h0]
    rw [show firstI _ = 0 from h0] at k25
    exact cOut_start Tryz.func34 rfl (p34a hE (iD l) [] (n) 0 (r) 0 0 0 0 0 0 0 0 0 0 _ _ (0) 0 0 false (K27 hE r 1 64) (K75 hE _ 5) (k25 _ 1 rfl) rfl (l34 hE r l n hl hn n 0 (by omega)) fun _ => undef)
  · rw [if_neg h0]
    exact cOut_start Tryz.func34 rfl (p34e hE (iD l) [] (n) 0 (r) 0 0 0 0 0 0 0 0 0 0 _ _ (hdP r n) 0 0 false (K27 hE r 1 64) (K75 hE _ 5) (k25 _ 1 rfl) (bne_iff_ne.2 h0) (fun j => outK_ret (ends_ret (by kernel_rfl))) fun _ => undef)
end
end Go.Proofs.YtbijijanflgknaaGreatDoor

end

/-! SeIv -/
section
open Go Go.Ev
namespace Go.Proofs.YtbijijanflgknaaGreatDoor
noncomputable section
set_option maxRecDepth 100000
set_option maxHeartbeats 20000000
/-! Quotients, rounded down. -/
/-! The ticks at which an interval begins. -/
end
end Go.Proofs.YtbijijanflgknaaGreatDoor

end

/-! SeIw -/
section
open Go Go.Ev
namespace Go.Proofs.YtbijijanflgknaaGreatDoor
noncomputable section
set_option maxRecDepth 100000
set_option maxHeartbeats 20000000
theorem k68_3 (hE : EnvOk E) (a b c : Int) (lv : Nat) (h : Heap) (i : Nat) (hh : getL h i = some (some ⟨(iD [a, b, c]).map DT.ac, 3, 32, true, .cells⟩)) : COut E lv h 68 [.e (.one (.slc i 0 3 1 3 true))] (iI (firstI [a, b, c])) h :=
  lend2 lv hE 68 [a, b, c] _ 32 true (K68 hE _ (by simp)) h i hh
end
end Go.Proofs.YtbijijanflgknaaGreatDoor

end

/-! SeRd2 -/
section
open Go Go.Ev
namespace Go.Proofs.YtbijijanflgknaaGreatDoor
noncomputable section
set_option maxRecDepth 100000
set_option maxHeartbeats 20000000
def s87 (C _C2 : List DT) (n _i _l _q _N2 : Nat) (_r _a _b _c _d _e _x _y _v _f _g _h _k _o _s _z _u _t : Int) (_w : Bool) (_D2 : List AC) (_j : Nat → Value) : St := startK Tryz.f87 [] [(.e (.one (.dp (.s C n 5))))]
def p87_end (_C : List DT) (_C2 : List DT) (n _i _l _q N2 : Nat) (_r _a _b _c _d _e _x _y _v _f _g _h _k _o _s _z _u _t : Int) (_w : Bool) (D2 : List AC) (j : Nat → Value) : St := ⟨[(.some ⟨(D2), (N2), 68, false, .cells⟩)], [(.code .ret)], mkT j [(2, (.e (.one (.slc 0 0 (n) 5 (n) false))))] 8 0⟩
theorem p87 (hE : EnvOk E) (C : List DT) (C2 : List DT) (n i l q N2 : Nat) (r a b c d e x y v f g h k o s z u t : Int) (w : Bool) (D2 : List AC) (h0 : (0 : Nat) < n) (h1 : CopyOk [(.some ⟨[], 0, 68, true, .cells⟩)] 5 40 (.e (.one (.dp (.s (C) (n) 5)))) n D2 false) (h2 : (n * 5 : Nat) = N2) (g0 : FlatC (D2)) {Φ : Res → Prop} (ho : ∀ j, OutK E 0 0 (p87_end C C2 n i l q N2 r a b c d e x y v f g h k o s z u t w D2 j) Φ) (j : Nat → Value) : OutK E 0 0 (s87 C C2 n i l q N2 r a b c d e x y v f g h k o s z u t w D2 j) Φ :=
  outK_seg hE (R0_ok hE) [.run 4, (.ops [(1, (.d .nc))] []), .run 3, (.ops [(2, (.cpu (n) (N2) (D2) false))] [])] [2] (s' := fun j => ⟨[none, (.some ⟨(D2), (N2), 68, false, .cells⟩)], [(.code .ret)], mkT j [(2, (.e (.one (.slc 1 0 (n) 5 (n) false))))] 8 0⟩) (fun j => by kernel_rfl) (aP h0 <| aP h1 <| aP h2 <| aZ)
    fun j => outK_gcF [1] [true] (h' := [(.some ⟨(D2), (N2), 68, false, .cells⟩)]) (by decide) (by kernel_rfl) (by kernel_rfl) ⟨g0, trivial⟩ (by kernel_rfl) (ho j)
theorem ones_iC (l : List Int) : (iC l).all AC.isOne = true := by
  rw [List.all_eq_true]
  intro c hc
  simp only [List.map_map, List.mem_map] at hc
  obtain ⟨x, _, rfl⟩ := hc
  rfl
theorem copy_ok (h : Heap) (l : List Int) (n : Nat) (hl : l.length = n * 5) (h0 : 0 < n) (hn : n ≤ 5000) : CopyOk h 5 40 (.e (.one (.dp (.s (iD l) n 5)))) n (iC l) false :=
  .inr (.inl ⟨rfl, h0, by simp [small]; omega, ones_iC l, iD l, rfl, rfl, by simp [hl]⟩)
/-! Numbers of entries. -/
def nth (l : List Int) (i : Nat) : Int := l[i]?.getD 0
/-- the sum of imports -/
def sm (l : List Int) : Nat → Nat → Int → Int
  | 0, _, s => s
  | m + 1, i, s => sm l m (i + 1) (wrapF .i64 (s + nth l (i * 5 + 2)))
/-! What a checked profile is. -/
/-! Reading. -/
end
end Go.Proofs.YtbijijanflgknaaGreatDoor

end

/-! SeRe -/
section
open Go Go.Ev Go.RowKit
namespace Go.Proofs.YtbijijanflgknaaGreatDoor
noncomputable section
set_option maxRecDepth 100000
set_option maxHeartbeats 20000000
/-- the greatest sum of w entries, and where it is -/
def G (l : List Int) (w : Nat) : Nat → Nat → Int → Int → Int × Int
  | 0, _, k, o => (k, o)
  | m + 1, i, k, o => if sm l w i 0 > k then G l w m (i + 1) (sm l w i 0) (nth l (i * 5)) else G l w m (i + 1) k o
/-! The law's run. -/
end
end Go.Proofs.YtbijijanflgknaaGreatDoor

end

/-! SeSt -/
section
open Go Go.Ev
namespace Go.Proofs.YtbijijanflgknaaGreatDoor
noncomputable section
set_option maxRecDepth 100000
set_option maxHeartbeats 20000000
def s32 (_u : Unit) (_j : Nat → Value) : St := startK Tryz.f32 [some ⟨[.v (.int .i64 7), .v (.int .i64 10), .v (.int .i64 0), .v (.int .i64 0), .v (.int .i64 0), .v (.int .i64 8), .v (.int .i64 20), .v (.int .i64 0), .v (.int .i64 0), .v (.int .i64 0)], 10, 68, true, .cells⟩] [.e (.agg [.v (.int .i64 2), .slc 0 0 2 5 2 true]), .e (.agg [.v (.int .i64 9), .v (.int .i64 30), .v (.int .i64 0), .v (.int .i64 0), .v (.int .i64 0)])]
def q32x (_u : Unit) (j : Nat → Value) : St := ⟨[(.some ⟨[(.v (.int .i64 7)), (.v (.int .i64 10)), (.v (.int .i64 0)), (.v (.int .i64 0)), (.v (.int .i64 0)), (.v (.int .i64 8)), (.v (.int .i64 20)), (.v (.int .i64 0)), (.v (.int .i64 0)), (.v (.int .i64 0))], 10, 68, true, .cells⟩), (.some ⟨[(.v (.int .i64 2)), (.slc 0 0 2 5 2 true)], 2, 64, true, .cells⟩), (.some ⟨[(.v (.int .i64 9)), (.v (.int .i64 30)), (.v (.int .i64 0)), (.v (.int .i64 0)), (.v (.int .i64 0))], 5, 68, true, .cells⟩), (.some ⟨[(.v (.int .i64 0)), (.v (.slice none 0 0))], 2, 64, true, .cells⟩), (.some ⟨[(.v (.int .i64 7)), (.v (.int .i64 10)), (.v (.int .i64 0)), (.v (.int .i64 0)), (.v (.int .i64 0)), (.v (.int .i64 8)), (.v (.int .i64 20)), (.v (.int .i64 0)), (.v (.int .i64 0)), (.v (.int .i64 0))], 10, 68, false, .cells⟩)], [(.code (atC [1, 1, 1, 1, 0] (bodyOf Tryz.f32))), (.code .ret)], mkT j [(2, (.e (.one (.ptr 1 0)))), (3, (.e (.one (.ptr 2 0)))), (4, (.e (.one (.ptr 3 0)))), (7, (.e (.one (.slc 4 5 1 5 1 true))))] 39 0⟩
def q32m (_u : Unit) (j : Nat → Value) : St := ⟨[(.some ⟨[(.v (.int .i64 7)), (.v (.int .i64 10)), (.v (.int .i64 0)), (.v (.int .i64 0)), (.v (.int .i64 0)), (.v (.int .i64 8)), (.v (.int .i64 20)), (.v (.int .i64 0)), (.v (.int .i64 0)), (.v (.int .i64 0))], 10, 68, true, .cells⟩), (.some ⟨[(.v (.int .i64 2)), (.slc 0 0 2 5 2 true)], 2, 64, true, .cells⟩), (.some ⟨[(.v (.int .i64 9)), (.v (.int .i64 30)), (.v (.int .i64 0)), (.v (.int .i64 0)), (.v (.int .i64 0))], 5, 68, true, .cells⟩), (.some ⟨[(.v (.int .i64 0)), (.v (.slice none 0 0))], 2, 64, true, .cells⟩), (.some ⟨[(.v (.int .i64 7)), (.v (.int .i64 10)), (.v (.int .i64 0)), (.v (.int .i64 0)), (.v (.int .i64 0)), (.v (.int .i64 8)), (.v (.int .i64 20)), (.v (.int .i64 0)), (.v (.int .i64 0)), (.v (.int .i64 0))], 10, 68, false, .cells⟩)], [(.code (atC [1, 1, 1, 1, 0] (bodyOf Tryz.f32))), (.code .ret)], mkT j [(2, (.e (.one (.ptr 1 0)))), (3, (.e (.one (.ptr 2 0)))), (4, (.e (.one (.ptr 3 0)))), (7, (.e (.one (.slc 4 5 1 5 2 false))))] 39 0⟩
def p32a_end (_u : Unit) (j : Nat → Value) : St := ⟨[(.some ⟨[(.v (.int .i64 7)), (.v (.int .i64 10)), (.v (.int .i64 0)), (.v (.int .i64 0)), (.v (.int .i64 0)), (.v (.int .i64 8)), (.v (.int .i64 20)), (.v (.int .i64 0)), (.v (.int .i64 0)), (.v (.int .i64 0))], 10, 68, true, .cells⟩), (.some ⟨[(.v (.int .i64 2)), (.slc 0 0 2 5 2 true)], 2, 64, true, .cells⟩), (.some ⟨[(.v (.int .i64 9)), (.v (.int .i64 30)), (.v (.int .i64 0)), (.v (.int .i64 0)), (.v (.int .i64 0))], 5, 68, true, .cells⟩), (.some ⟨[(.v (.int .i64 0)), (.v (.slice none 0 0))], 2, 64, true, .cells⟩), (.some ⟨[(.v (.int .i64 7)), (.v (.int .i64 10)), (.v (.int .i64 0)), (.v (.int .i64 0)), (.v (.int .i64 0)), (.v (.int .i64 8)), (.v (.int .i64 20)), (.v (.int .i64 0)), (.v (.int .i64 0)), (.v (.int .i64 0))], 10, 68, false, .cells⟩)], [(.code (atC [1, 1, 1, 1, 0] (bodyOf Tryz.f32))), (.code .ret)], mkT j [(2, (.e (.one (.ptr 1 0)))), (3, (.e (.one (.ptr 2 0)))), (4, (.e (.one (.ptr 3 0)))), (7, (.e (.one (.slc 4 5 1 5 1 false))))] 39 0⟩
theorem p32a (hE : EnvOk E) (u : Unit)  {Φ : Res → Prop} (ho : ∀ j, OutK E 1 1 (p32a_end u j) Φ) (j : Nat → Value) : OutK E 1 1 (s32 u j) Φ :=
  outK_seg hE (R4_ok hE) [.run 17] [2, 3, 4, 7] (s' := fun j => ⟨[(.some ⟨[(.v (.int .i64 7)), (.v (.int .i64 10)), (.v (.int .i64 0)), (.v (.int .i64 0)), (.v (.int .i64 0)), (.v (.int .i64 8)), (.v (.int .i64 20)), (.v (.int .i64 0)), (.v (.int .i64 0)), (.v (.int .i64 0))], 10, 68, true, .cells⟩), (.some ⟨[(.v (.int .i64 2)), (.slc 0 0 2 5 2 true)], 2, 64, true, .cells⟩), (.some ⟨[(.v (.int .i64 9)), (.v (.int .i64 30)), (.v (.int .i64 0)), (.v (.int .i64 0)), (.v (.int .i64 0))], 5, 68, true, .cells⟩), (.some ⟨[(.v (.int .i64 0)), (.v (.slice none 0 0))], 2, 64, true, .cells⟩), (.some ⟨[(.v (.int .i64 0)), (.v (.int .i64 0)), (.v (.int .i64 0))], 3, 32, true, .cells⟩), (.some ⟨[(.v (.int .i64 7)), (.v (.int .i64 10)), (.v (.int .i64 0)), (.v (.int .i64 0)), (.v (.int .i64 0)), (.v (.int .i64 8)), (.v (.int .i64 20)), (.v (.int .i64 0)), (.v (.int .i64 0)), (.v (.int .i64 0))], 10, 68, false, .cells⟩)], [(.code (atC [1, 1, 1, 1, 0] (bodyOf Tryz.f32))), (.code .ret)], mkT j [(2, (.e (.one (.ptr 1 0)))), (3, (.e (.one (.ptr 2 0)))), (4, (.e (.one (.ptr 3 0)))), (7, (.e (.one (.slc 5 5 1 5 1 false))))] 39 0⟩) (ps := []) (fun j => by kernel_rfl) trivial
    fun j => outK_gc [0, 1, 2, 3, 5] (by decide) (by kernel_rfl) (by kernel_rfl) (by kernel_rfl) (ho j)
def p32x_end (_u : Unit) (j : Nat → Value) : St := ⟨[(.some ⟨[(.v (.int .i64 7)), (.v (.int .i64 10)), (.v (.int .i64 0)), (.v (.int .i64 0)), (.v (.int .i64 0)), (.v (.int .i64 8)), (.v (.int .i64 20)), (.v (.int .i64 0)), (.v (.int .i64 0)), (.v (.int .i64 0))], 10, 68, true, .cells⟩), (.some ⟨[(.v (.int .i64 2)), (.slc 2 0 2 5 2 false)], 2, 64, true, .cells⟩), (.some ⟨[(.v (.int .i64 8)), (.v (.int .i64 20)), (.v (.int .i64 0)), (.v (.int .i64 0)), (.v (.int .i64 0)), (.v (.int .i64 9)), (.v (.int .i64 30)), (.v (.int .i64 0)), (.v (.int .i64 0)), (.v (.int .i64 0))], 10, 68, false, .cells⟩)], [(.code .ret)], mkT j [(4, (.e (.one (.ptr 1 0)))), (5, (iI 0))] 39 0⟩
theorem p32x (hE : EnvOk E) (u : Unit)  {Φ : Res → Prop} (ho : ∀ j, OutK E 1 1 (p32x_end u j) Φ) (j : Nat → Value) : OutK E 1 1 (q32x u j) Φ :=
  outK_seg hE (R4_ok hE) [.run 1] [4, 5] (s' := fun j => ⟨[(.some ⟨[(.v (.int .i64 7)), (.v (.int .i64 10)), (.v (.int .i64 0)), (.v (.int .i64 0)), (.v (.int .i64 0)), (.v (.int .i64 8)), (.v (.int .i64 20)), (.v (.int .i64 0)), (.v (.int .i64 0)), (.v (.int .i64 0))], 10, 68, true, .cells⟩), (.some ⟨[(.v (.int .i64 2)), (.slc 0 0 2 5 2 true)], 2, 64, true, .cells⟩), (.some ⟨[(.v (.int .i64 9)), (.v (.int .i64 30)), (.v (.int .i64 0)), (.v (.int .i64 0)), (.v (.int .i64 0))], 5, 68, true, .cells⟩), (.some ⟨[(.v (.int .i64 2)), (.slc 6 0 2 5 2 false)], 2, 64, true, .cells⟩), (.some ⟨[(.v (.int .i64 7)), (.v (.int .i64 10)), (.v (.int .i64 0)), (.v (.int .i64 0)), (.v (.int .i64 0)), (.v (.int .i64 8)), (.v (.int .i64 20)), (.v (.int .i64 0)), (.v (.int .i64 0)), (.v (.int .i64 0))], 10, 68, false, .cells⟩), (.some ⟨[(.v (.int .i64 9)), (.v (.int .i64 30)), (.v (.int .i64 0)), (.v (.int .i64 0)), (.v (.int .i64 0))], 5, 68, true, .cells⟩), (.some ⟨[(.v (.int .i64 8)), (.v (.int .i64 20)), (.v (.int .i64 0)), (.v (.int .i64 0)), (.v (.int .i64 0)), (.v (.int .i64 9)), (.v (.int .i64 30)), (.v (.int .i64 0)), (.v (.int .i64 0)), (.v (.int .i64 0))], 10, 68, false, .cells⟩)], [(.code .ret)], mkT j [(4, (.e (.one (.ptr 3 0)))), (5, (iI 0))] 39 0⟩) (ps := []) (fun j => by kernel_rfl) trivial
    fun j => outK_gc [0, 3, 6] (by decide) (by kernel_rfl) (by kernel_rfl) (by kernel_rfl) (ho j)
def p32m_end (_u : Unit) (j : Nat → Value) : St := ⟨[(.some ⟨[(.v (.int .i64 7)), (.v (.int .i64 10)), (.v (.int .i64 0)), (.v (.int .i64 0)), (.v (.int .i64 0)), (.v (.int .i64 8)), (.v (.int .i64 20)), (.v (.int .i64 0)), (.v (.int .i64 0)), (.v (.int .i64 0))], 10, 68, true, .cells⟩), (.some ⟨[(.v (.int .i64 2)), (.slc 2 5 2 5 2 false)], 2, 64, true, .cells⟩), (.some ⟨[(.v (.int .i64 7)), (.v (.int .i64 10)), (.v (.int .i64 0)), (.v (.int .i64 0)), (.v (.int .i64 0)), (.v (.int .i64 8)), (.v (.int .i64 20)), (.v (.int .i64 0)), (.v (.int .i64 0)), (.v (.int .i64 0)), (.v (.int .i64 9)), (.v (.int .i64 30)), (.v (.int .i64 0)), (.v (.int .i64 0)), (.v (.int .i64 0))], 15, 68, false, .cells⟩)], [(.code .ret)], mkT j [(4, (.e (.one (.ptr 1 0)))), (5, (iI 0))] 39 0⟩
theorem p32m (hE : EnvOk E) (u : Unit)  {Φ : Res → Prop} (ho : ∀ j, OutK E 1 1 (p32m_end u j) Φ) (j : Nat → Value) : OutK E 1 1 (q32m u j) Φ :=
  outK_draw' hE (h := (q32m u j).heap) (ops := opsOf (atC [1, 1, 1, 1, 0] (bodyOf Tryz.f32))) (id := idOf (atC [1, 1, 1, 1, 0] (bodyOf Tryz.f32))) (todo := [(.code .ret)]) (tm := (q32m u j).tm) (by kernel_rfl) (outR_split 1 5 rfl (outR_seg hE (R0_ok hE) [0, 1, 2, 3, 4, 5, 6, 7, 8] [] [] [4, 5] (s' := fun j => ⟨[(.some ⟨[(.v (.int .i64 7)), (.v (.int .i64 10)), (.v (.int .i64 0)), (.v (.int .i64 0)), (.v (.int .i64 0)), (.v (.int .i64 8)), (.v (.int .i64 20)), (.v (.int .i64 0)), (.v (.int .i64 0)), (.v (.int .i64 0))], 10, 68, true, .cells⟩), (.some ⟨[(.v (.int .i64 2)), (.slc 0 0 2 5 2 true)], 2, 64, true, .cells⟩), (.some ⟨[(.v (.int .i64 9)), (.v (.int .i64 30)), (.v (.int .i64 0)), (.v (.int .i64 0)), (.v (.int .i64 0))], 5, 68, true, .cells⟩), (.some ⟨[(.v (.int .i64 2)), (.slc 6 5 2 5 2 false)], 2, 64, true, .cells⟩), none, (.some ⟨[(.v (.int .i64 9)), (.v (.int .i64 30)), (.v (.int .i64 0)), (.v (.int .i64 0)), (.v (.int .i64 0))], 5, 68, true, .cells⟩), (.some ⟨[(.v (.int .i64 7)), (.v (.int .i64 10)), (.v (.int .i64 0)), (.v (.int .i64 0)), (.v (.int .i64 0)), (.v (.int .i64 8)), (.v (.int .i64 20)), (.v (.int .i64 0)), (.v (.int .i64 0)), (.v (.int .i64 0)), (.v (.int .i64 9)), (.v (.int .i64 30)), (.v (.int .i64 0)), (.v (.int .i64 0)), (.v (.int .i64 0))], 15, 68, false, .cells⟩)], [(.code .ret)], mkT j [(4, (.e (.one (.ptr 3 0)))), (5, (iI 0))] 39 0⟩) (ps := [(true : Bool) = true]) (by kernel_rfl) (fun j => by kernel_rfl) ⟨rfl, trivial⟩ (fun j => outK_gc [0, 3, 6] (by decide) (by kernel_rfl) (by kernel_rfl) (by kernel_rfl) (ho j))) (outR_split 0 5 rfl (outR_seg hE (R0_ok hE) [0, 2, 3, 4, 5, 1, 6, 7, 8] [] [] [4, 5] (s' := fun j => ⟨[(.some ⟨[(.v (.int .i64 7)), (.v (.int .i64 10)), (.v (.int .i64 0)), (.v (.int .i64 0)), (.v (.int .i64 0)), (.v (.int .i64 8)), (.v (.int .i64 20)), (.v (.int .i64 0)), (.v (.int .i64 0)), (.v (.int .i64 0))], 10, 68, true, .cells⟩), (.some ⟨[(.v (.int .i64 2)), (.slc 0 0 2 5 2 true)], 2, 64, true, .cells⟩), (.some ⟨[(.v (.int .i64 9)), (.v (.int .i64 30)), (.v (.int .i64 0)), (.v (.int .i64 0)), (.v (.int .i64 0))], 5, 68, true, .cells⟩), (.some ⟨[(.v (.int .i64 2)), (.slc 6 5 2 5 2 false)], 2, 64, true, .cells⟩), none, (.some ⟨[(.v (.int .i64 9)), (.v (.int .i64 30)), (.v (.int .i64 0)), (.v (.int .i64 0)), (.v (.int .i64 0))], 5, 68, true, .cells⟩), (.some ⟨[(.v (.int .i64 7)), (.v (.int .i64 10)), (.v (.int .i64 0)), (.v (.int .i64 0)), (.v (.int .i64 0)), (.v (.int .i64 8)), (.v (.int .i64 20)), (.v (.int .i64 0)), (.v (.int .i64 0)), (.v (.int .i64 0)), (.v (.int .i64 9)), (.v (.int .i64 30)), (.v (.int .i64 0)), (.v (.int .i64 0)), (.v (.int .i64 0))], 15, 68, false, .cells⟩)], [(.code .ret)], mkT j [(4, (.e (.one (.ptr 3 0)))), (5, (iI 0))] 39 0⟩) (ps := [(true : Bool) = true]) (by kernel_rfl) (fun j => by kernel_rfl) ⟨rfl, trivial⟩ (fun j => outK_gc [0, 3, 6] (by decide) (by kernel_rfl) (by kernel_rfl) (by kernel_rfl) (ho j))) (outR_seg hE (R0_ok hE) [2, 3, 4, 5, 0, 1, 6, 7, 8] [] [] [4, 5] (s' := fun j => ⟨[(.some ⟨[(.v (.int .i64 7)), (.v (.int .i64 10)), (.v (.int .i64 0)), (.v (.int .i64 0)), (.v (.int .i64 0)), (.v (.int .i64 8)), (.v (.int .i64 20)), (.v (.int .i64 0)), (.v (.int .i64 0)), (.v (.int .i64 0))], 10, 68, true, .cells⟩), (.some ⟨[(.v (.int .i64 2)), (.slc 0 0 2 5 2 true)], 2, 64, true, .cells⟩), (.some ⟨[(.v (.int .i64 9)), (.v (.int .i64 30)), (.v (.int .i64 0)), (.v (.int .i64 0)), (.v (.int .i64 0))], 5, 68, true, .cells⟩), (.some ⟨[(.v (.int .i64 2)), (.slc 6 5 2 5 2 false)], 2, 64, true, .cells⟩), none, (.some ⟨[(.v (.int .i64 9)), (.v (.int .i64 30)), (.v (.int .i64 0)), (.v (.int .i64 0)), (.v (.int .i64 0))], 5, 68, true, .cells⟩), (.some ⟨[(.v (.int .i64 7)), (.v (.int .i64 10)), (.v (.int .i64 0)), (.v (.int .i64 0)), (.v (.int .i64 0)), (.v (.int .i64 8)), (.v (.int .i64 20)), (.v (.int .i64 0)), (.v (.int .i64 0)), (.v (.int .i64 0)), (.v (.int .i64 9)), (.v (.int .i64 30)), (.v (.int .i64 0)), (.v (.int .i64 0)), (.v (.int .i64 0))], 15, 68, false, .cells⟩)], [(.code .ret)], mkT j [(4, (.e (.one (.ptr 3 0)))), (5, (iI 0))] 39 0⟩) (ps := [(true : Bool) = true]) (by kernel_rfl) (fun j => by kernel_rfl) ⟨rfl, trivial⟩ (fun j => outK_gc [0, 3, 6] (by decide) (by kernel_rfl) (by kernel_rfl) (by kernel_rfl) (ho j)))))

def dsK : List DT := [.v (.int .i64 8), .v (.int .i64 20), .v (.int .i64 0), .v (.int .i64 0), .v (.int .i64 0), .v (.int .i64 9), .v (.int .i64 30), .v (.int .i64 0), .v (.int .i64 0), .v (.int .i64 0)]
abbrev PK : Option AB := some ⟨[.v (.int .i64 7), .v (.int .i64 10), .v (.int .i64 0), .v (.int .i64 0), .v (.int .i64 0), .v (.int .i64 8), .v (.int .i64 20), .v (.int .i64 0), .v (.int .i64 0), .v (.int .i64 0)], 10, 68, true, .cells⟩
def hK : Heap := [PK, some ⟨[.v (.int .i64 2), .dp (.s dsK 2 5)], 2, 64, true, .cells⟩, none]
theorem frz_refl {i : Nat} {ds : List DT} : ∀ (x : AV), (∃ c, x = .e (.one c)) → FrzV i ds x x
  | _, ⟨c, rfl⟩ => .inl rfl
theorem frz_mk {i : Nat} {ds : List DT} (j : Nat → Value) (l : List (Nat × AV)) (hl : ∀ p ∈ l, ∃ c, p.2 = .e (.one c)) : ∀ n k, All2 (FrzV i ds) (mkT j l n k) (mkT j l n k)
  | 0, _ => trivial
  | n + 1, k => by
    refine ⟨?_, frz_mk j l hl n (k + 1)⟩
    show FrzV i ds (match lookT l k with | some x => x | none => .e (.one (.v (j k)))) _
    cases h : lookT l k with
    | none => exact .inl rfl
    | some x => exact frz_refl x (hl _ (lookT_mem h))
theorem end32 (_hE : EnvOk E) (j : Nat → Value) : OutK E 1 1 ⟨hK, [.code .ret], mkT j [(4, .e (.one (.ptr 1 0))), (5, iI 0)] 39 0⟩ (Go.Ev.Ends E Tryz.f32 (.tup [.agg [.v (.int .i64 2), .dp (.s dsK 2 5)], .one (.v (.int .i64 0))]) hK) :=
  outK_ret (ends_ret (by kernel_rfl))
theorem K32c (hE : EnvOk E) : COut E 1 [PK] 32 [.e (.agg [.v (.int .i64 2), .slc 0 0 2 5 2 true]), .e (.agg [.v (.int .i64 9), .v (.int .i64 30), .v (.int .i64 0), .v (.int .i64 0), .v (.int .i64 0)])] (.tup [.agg [.v (.int .i64 2), .dp (.s dsK 2 5)], .one (.v (.int .i64 0))]) [PK] := by
  have h1 : COut E 1 [PK] 32 [.e (.agg [.v (.int .i64 2), .slc 0 0 2 5 2 true]), .e (.agg [.v (.int .i64 9), .v (.int .i64 30), .v (.int .i64 0), .v (.int .i64 0), .v (.int .i64 0)])] (.tup [.agg [.v (.int .i64 2), .dp (.s dsK 2 5)], .one (.v (.int .i64 0))]) hK := by
    refine cOut_start Tryz.func32 rfl (p32a hE () (fun j => ?_) fun _ => undef)
    refine outK_cap 7 (b := 4) (o := 5) (len := 1) (sz := 5) (cap := 1) (by kernel_rfl) ?_ ?_
    · refine p32x hE () (fun j => ?_) j
      refine outK_freeze 2 (ds := dsK) (N := 10) (el := 68) (fl := false) (h' := hK) (by kernel_rfl) (by decide) ⟨.inl rfl, .inr ⟨rfl, rfl, rfl, rfl, rfl, .inl rfl, .inr ⟨0, 2, 5, 2, false, dsK, rfl, rfl, rfl⟩, trivial⟩, trivial, trivial⟩ (frz_mk j _ ?_ _ _) (end32 hE j)
      intro p hp; simp at hp; rcases hp with rfl | rfl <;> exact ⟨_, rfl⟩
    · refine p32m hE () (fun j => ?_) j
      refine outK_freeze 2 (ds := [.v (.int .i64 7), .v (.int .i64 10), .v (.int .i64 0), .v (.int .i64 0), .v (.int .i64 0)] ++ dsK) (N := 15) (el := 68) (fl := false) (h' := hK) (by kernel_rfl) (by decide) ⟨.inl rfl, .inr ⟨rfl, rfl, rfl, rfl, rfl, .inl rfl, .inr ⟨5, 2, 5, 2, false, dsK, rfl, rfl, rfl⟩, trivial⟩, trivial, trivial⟩ (frz_mk j _ ?_ _ _) (end32 hE j)
      intro p hp; simp at hp; rcases hp with rfl | rfl <;> exact ⟨_, rfl⟩
  exact cOut_gc [0] (by decide) h1 (by kernel_rfl) (by kernel_rfl) (by kernel_rfl)
end
end Go.Proofs.YtbijijanflgknaaGreatDoor

end
