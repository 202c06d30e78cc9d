/-
  Part of the proof: SeNb.
-/
import Derived.Test.YtdjjpjahlhdjnaaGreatDoorSeZG

/-! SeNb -/
section
open Go Go.Ev
namespace Go.Proofs.YtdjjpjahlhdjnaaGreatDoor
noncomputable section
set_option maxRecDepth 100000
set_option maxHeartbeats 20000000
def s14e (x m _e _f _g : Int) (_j : Nat → Value) : St := startK Tryz.f14 [] [iI x, iI m]
def s14 (x n _i _N _k _y : Nat) (_e _f _g _u : Int) (_D _D2 _D3 : List AC) (_a _b : Int) (_j : Nat → Value) : St := startK Tryz.f14 [] [(iI (Int.ofNat x)), (iI (Int.ofNat n))]
def s18 (x n _i _N _k _y : Nat) (_e _f _g _u : Int) (_D _D2 _D3 : List AC) (_a _b : Int) (_j : Nat → Value) : St := startK Tryz.f18 [] [(iI (Int.ofNat x)), (iI (Int.ofNat n))]
def s16 (x _m _e _f _g : Int) (_j : Nat → Value) : St := startK Tryz.f16 [] [iI x]
def s22 (a b _e _f _g _k _z _u _t : Int) (_j : Nat → Value) : St := startK Tryz.f22 [] [.e (.agg [.v (.int .i64 a), .v (.int .i64 b)])]
def s23 (a b _e _f _g _k _z _u _t : Int) (_j : Nat → Value) : St := startK Tryz.f23 [] [.e (.agg [.v (.int .i64 a), .v (.int .i64 b)])]
def s3 (s : ByteArray) (n0 n1 n2 n3 _l : Int) (w _n : Nat) (_e _e1 _e2 _g _r _t : Int) (_C : List DT) (_i : Bool) (_j : Nat → Value) : St := startK Tryz.f3 [] [.e (.one (.v (.string s))), .e (.agg [.v (.int .i64 n0), .v (.int .i64 n1), .v (.int .i64 n2), .v (.int .i64 n3)]), .e (.one (.v (.float .f32 w)))]
def q14 (x n i N _k _y : Nat) (_e _f _g _u : Int) (D _D2 _D3 : List AC) (_a _b : Int) (j : Nat → Value) : St := ⟨[(.some ⟨(D), (N), 3, true, .cells⟩)], [(.code (atC [1, 1, 1, 0, 1, 0, 0] (bodyOf Tryz.f14))), (.inLoop (atC [1, 1, 1, 0, 1, 0, 0] (bodyOf Tryz.f14))), (.inBlock 0), (.code (atC [1, 1, 1, 1] (bodyOf Tryz.f14)))], mkT j [(0, (iI (Int.ofNat x))), (1, (iI (Int.ofNat n))), (7, (.e (.one (.slc 0 0 n 1 n true)))), (23, (iI (Int.ofNat n))), (24, (iI (Int.ofNat i)))] 61 0⟩
def r14 (x n i N _k _y : Nat) (_e _f _g _u : Int) (D _D2 _D3 : List AC) (_a _b : Int) (j : Nat → Value) : St := ⟨[some ⟨D, N, 3, true, .cells⟩], [(.code (atC [1, 1, 1, 1, 1, 0, 1, 0, 0] (bodyOf Tryz.f14))), (.inLoop (atC [1, 1, 1, 1, 1, 0, 1, 0, 0] (bodyOf Tryz.f14))), (.inBlock 2), (.code (atC [1, 1, 1, 1, 1, 1] (bodyOf Tryz.f14)))], mkT j [(7, (.e (.one (.slc 0 0 n 1 n true)))), (9, (iI (Int.ofNat x))), (10, (iI (Int.ofNat (i + 1))))] 61 0⟩
def r14z (x n _i N _k _y : Nat) (_e _f _g u : Int) (D _D2 _D3 : List AC) (_a _b : Int) (j : Nat → Value) : St := ⟨[some ⟨D, N, 3, true, .cells⟩], [(.code (atC [1, 1, 1, 1, 1, 0, 1, 0, 0] (bodyOf Tryz.f14))), (.inLoop (atC [1, 1, 1, 1, 1, 0, 1, 0, 0] (bodyOf Tryz.f14))), (.inBlock 2), (.code (atC [1, 1, 1, 1, 1, 1] (bodyOf Tryz.f14)))], mkT j [(7, (.e (.one (.slc 0 0 n 1 n true)))), (9, (iI (Int.ofNat x))), (10, (iI u))] 61 0⟩
def q18 (x n i N _k _y : Nat) (_e _f _g _u : Int) (D _D2 _D3 : List AC) (_a _b : Int) (j : Nat → Value) : St := ⟨[some ⟨D, N, 3, false, .cells⟩], [(.code (atC [1, 1, 0, 1, 0, 0] (bodyOf Tryz.f18))), (.inLoop (atC [1, 1, 0, 1, 0, 0] (bodyOf Tryz.f18))), (.inBlock 0), (.code (atC [1, 1, 1] (bodyOf Tryz.f18)))], mkT j [(0, (iI (Int.ofNat x))), (1, (iI (Int.ofNat n))), (5, (.e (.one (.slc 0 0 i 1 i false)))), (6, (iI (Int.ofNat i)))] 50 0⟩
def r18 (x n i N _k _y : Nat) (_e _f _g _u : Int) (D _D2 _D3 : List AC) (_a _b : Int) (j : Nat → Value) : St := ⟨[some ⟨D, N, 3, false, .cells⟩], [(.code (atC [1, 1, 1, 1, 0, 1, 0, 0] (bodyOf Tryz.f18))), (.inLoop (atC [1, 1, 1, 1, 0, 1, 0, 0] (bodyOf Tryz.f18))), (.inBlock 2), (.code (atC [1, 1, 1, 1, 1] (bodyOf Tryz.f18)))], mkT j [(5, (.e (.one (.slc 0 0 n 1 n false)))), (7, (iI (Int.ofNat x))), (8, (iI (Int.ofNat (i + 1))))] 50 0⟩
def r18z (x n _i N _k _y : Nat) (_e _f _g u : Int) (D _D2 _D3 : List AC) (_a _b : Int) (j : Nat → Value) : St := ⟨[some ⟨D, N, 3, false, .cells⟩], [(.code (atC [1, 1, 1, 1, 0, 1, 0, 0] (bodyOf Tryz.f18))), (.inLoop (atC [1, 1, 1, 1, 0, 1, 0, 0] (bodyOf Tryz.f18))), (.inBlock 2), (.code (atC [1, 1, 1, 1, 1] (bodyOf Tryz.f18)))], mkT j [(5, (.e (.one (.slc 0 0 n 1 n false)))), (7, (iI (Int.ofNat x))), (8, (iI u))] 50 0⟩
def p14e_end (_x _m _e _f g : Int) (j : Nat → Value) : St := ⟨[], [(.code .ret), (.code (atC [1, 1] (bodyOf Tryz.f14)))], mkT j [(4, (.e (.one (.v (.slice none 0 0))))), (5, (iI (g)))] 61 0⟩
theorem p14e (hE : EnvOk E) (x m e f g : Int) (h0 : COut E 0 [] 80 [(iI (x)), (iI 1), (iI 2147483646)] (iI (e)) []) (h2 : COut E 0 [] 80 [(iI (m)), (iI 0), (iI 256)] (iI (f)) []) (h4 : COut E 1 [(.some ⟨[(.v (.int .i64 (e))), (.v (.int .i64 (f)))], 2, 26, true, .cells⟩)] 79 [(.e (.one (.slc 0 0 2 1 2 true)))] (iI (g)) [(.some ⟨[(.v (.int .i64 (e))), (.v (.int .i64 (f)))], 2, 26, true, .cells⟩)]) (h6 : (g != (0 : Int) : Bool) = true) {Φ : Res → Prop} (ho : ∀ j, OutK E 0 0 (p14e_end x m e f g j) Φ) (j : Nat → Value) : OutK E 0 0 (s14e x m e f g j) Φ :=
  outK_seg hE (R0_ok hE) [.run 4, (.ops [(1, (.c0 (iI (e)))), (3, (.c0 (iI (f)))), (5, (.d (.c1 (iI (g)))))] []), .run 2, (.cond true), .run 2] [4, 5] (s' := fun j => ⟨[(.some ⟨[(.v (.int .i64 (e))), (.v (.int .i64 (f)))], 2, 26, true, .cells⟩)], [(.code .ret), (.code (atC [1, 1] (bodyOf Tryz.f14)))], mkT j [(4, (.e (.one (.v (.slice none 0 0))))), (5, (iI (g)))] 61 0⟩) (fun j => by kernel_rfl) (aP h0 <| aN <| aP h2 <| aN <| aP h4 <| aN <| aP h6 <| aZ)
    fun j => outK_gc [] (by decide) (by kernel_rfl) (by kernel_rfl) (by kernel_rfl) (ho j)
def p14a_end (x n _i N _k _y : Nat) (_e _f _g _u : Int) (D _D2 _D3 : List AC) (_a _b : Int) (j : Nat → Value) : St := ⟨[(.some ⟨(D), (N), 3, true, .cells⟩)], [(.code (atC [1, 1, 1, 0, 1, 0, 0] (bodyOf Tryz.f14))), (.inLoop (atC [1, 1, 1, 0, 1, 0, 0] (bodyOf Tryz.f14))), (.inBlock 0), (.code (atC [1, 1, 1, 1] (bodyOf Tryz.f14)))], mkT j [(0, (iI (Int.ofNat x))), (1, (iI (Int.ofNat n))), (7, (.e (.one (.slc 0 0 (n) 1 (n) true)))), (23, (iI (Int.ofNat n))), (24, (iI 0))] 61 0⟩
theorem p14a (hE : EnvOk E) (x n i N k y : Nat) (e f g u : Int) (D D2 D3 : List AC) (a b : Int) (h0 : COut E 0 [] 80 [(iI (Int.ofNat x)), (iI 1), (iI 2147483646)] (iI (e)) []) (h2 : COut E 0 [] 80 [(iI (Int.ofNat n)), (iI 0), (iI 256)] (iI (f)) []) (h4 : COut E 1 [(.some ⟨[(.v (.int .i64 (e))), (.v (.int .i64 (f)))], 2, 26, true, .cells⟩)] 79 [(.e (.one (.slc 0 0 2 1 2 true)))] (iI (g)) [(.some ⟨[(.v (.int .i64 (e))), (.v (.int .i64 (f)))], 2, 26, true, .cells⟩)]) (h6 : (g != (0 : Int) : Bool) = false) (h7 : (0 : Int) ≤ Int.ofNat n ∧ Int.ofNat n ≤ Int.ofNat n) (h8 : (small (Int.ofNat n).toNat (1 : Nat) (8 : Nat) : Bool) = true) (h9 : ((Int.ofNat n).toNat : Nat) = n) (h10 : ((Int.ofNat n).toNat : Nat) = n) (h11 : (n * 1 : Nat) = N) (h12 : (repeatC ((fun z => List.map AC.v z.cells.toList) (Value.int IntKind.i64 (0 : Int))) n : List AC) = D) (g0 : FlatC (D)) {Φ : Res → Prop} (ho : ∀ j, OutK E 0 0 (p14a_end x n i N k y e f g u D D2 D3 a b j) Φ) (j : Nat → Value) : OutK E 0 0 (s14 x n i N k y e f g u D D2 D3 a b j) Φ :=
  outK_seg hE (R0_ok hE) [.run 4, (.ops [(1, (.c0 (iI (e)))), (3, (.c0 (iI (f)))), (5, (.d (.c1 (iI (g)))))] []), .run 2, (.cond false), .run 2, (.ops [(1, (.mk (n) (n) (N) (D)))] []), .run 5] [0, 1, 7, 23, 24] (s' := fun j => ⟨[(.some ⟨[(.v (.int .i64 (e))), (.v (.int .i64 (f)))], 2, 26, true, .cells⟩), (.some ⟨(D), (N), 3, true, .cells⟩)], [(.code (atC [1, 1, 1, 0, 1, 0, 0] (bodyOf Tryz.f14))), (.inLoop (atC [1, 1, 1, 0, 1, 0, 0] (bodyOf Tryz.f14))), (.inBlock 0), (.code (atC [1, 1, 1, 1] (bodyOf Tryz.f14)))], mkT j [(0, (iI (Int.ofNat x))), (1, (iI (Int.ofNat n))), (7, (.e (.one (.slc 1 0 (n) 1 (n) true)))), (23, (iI (Int.ofNat n))), (24, (iI 0))] 61 0⟩) (fun j => by kernel_rfl) (aP h0 <| aN <| aP h2 <| aN <| aP h4 <| aN <| aP h6 <| aP h7 <| aP h8 <| aP h9 <| aP h10 <| aP h11 <| aP h12 <| aZ)
    fun j => outK_gcF [1] [true] (h' := [(.some ⟨(D), (N), 3, true, .cells⟩)]) (by decide) (by kernel_rfl) (by kernel_rfl) ⟨g0, trivial⟩ (by kernel_rfl) (ho j)
def p16_end (_x _m e _f _g : Int) (j : Nat → Value) : St := ⟨[], [(.code .ret)], mkT j [(2, (iI (e)))] 5 0⟩
theorem p16 (hE : EnvOk E) (x m e f g : Int) (h0 : COut E 0 [] 17 [(iI (x)), (iI 1), (iI 2147483646)] (iI (e)) []) {Φ : Res → Prop} (ho : ∀ j, OutK E 0 0 (p16_end x m e f g j) Φ) (j : Nat → Value) : OutK E 0 0 (s16 x m e f g j) Φ :=
  outK_seg hE (R0_ok hE) [.run 3, (.ops [(1, (.c0 (iI (e))))] [])] [2] (fun j => by kernel_rfl) (aP h0 <| aN <| aZ)
    ho
def p22e_end (_a _b _e _f g _k _z _u _t : Int) (j : Nat → Value) : St := ⟨[], [(.code .ret), (.code (atC [1, 1] (bodyOf Tryz.f22)))], mkT j [(2, (iI (g)))] 26 0⟩
theorem p22e (hE : EnvOk E) (a b e f g k z u t : Int) (h0 : COut E 0 [] 80 [(iI (a)), (iI (-999999999)), (iI 999999999)] (iI (e)) []) (h3 : COut E 0 [] 80 [(iI (b)), (iI 1), (iI 999999999)] (iI (f)) []) (h5 : COut E 2 [(.some ⟨[(.v (.int .i64 (a))), (.v (.int .i64 (b)))], 2, 34, true, .cells⟩), (.some ⟨[(.v (.int .i64 (e))), (.v (.int .i64 (f)))], 2, 26, true, .cells⟩)] 79 [(.e (.one (.slc 1 0 2 1 2 true)))] (iI (g)) [(.some ⟨[(.v (.int .i64 (a))), (.v (.int .i64 (b)))], 2, 34, true, .cells⟩), (.some ⟨[(.v (.int .i64 (e))), (.v (.int .i64 (f)))], 2, 26, true, .cells⟩)]) (h7 : (g != (0 : Int) : Bool) = true) {Φ : Res → Prop} (ho : ∀ j, OutK E 0 0 (p22e_end a b e f g k z u t j) Φ) (j : Nat → Value) : OutK E 0 0 (s22 a b e f g k z u t j) Φ :=
  outK_seg hE (R0_ok hE) [.run 4, (.ops [(2, (.c0 (iI (e)))), (5, (.c0 (iI (f)))), (7, (.d (.c1 (iI (g)))))] []), .run 2, (.cond true), .run 2] [2] (s' := fun j => ⟨[(.some ⟨[(.v (.int .i64 (a))), (.v (.int .i64 (b)))], 2, 34, true, .cells⟩), (.some ⟨[(.v (.int .i64 (e))), (.v (.int .i64 (f)))], 2, 26, true, .cells⟩)], [(.code .ret), (.code (atC [1, 1] (bodyOf Tryz.f22)))], mkT j [(2, (iI (g)))] 26 0⟩) (fun j => by kernel_rfl) (aP h0 <| aN <| aP (rfl : (true : Bool) = true) <| aP h3 <| aN <| aP h5 <| aN <| aP h7 <| aZ)
    fun j => outK_gc [] (by decide) (by kernel_rfl) (by kernel_rfl) (by kernel_rfl) (ho j)
def p22a_end (_a _b _e _f _g _k _z u _t : Int) (j : Nat → Value) : St := ⟨[], [(.code .ret)], mkT j [(2, (iI (u)))] 26 0⟩
theorem p22a (hE : EnvOk E) (a b e f g k z u t : Int) (h0 : COut E 0 [] 80 [(iI (a)), (iI (-999999999)), (iI 999999999)] (iI (e)) []) (h3 : COut E 0 [] 80 [(iI (b)), (iI 1), (iI 999999999)] (iI (f)) []) (h5 : COut E 2 [(.some ⟨[(.v (.int .i64 (a))), (.v (.int .i64 (b)))], 2, 34, true, .cells⟩), (.some ⟨[(.v (.int .i64 (e))), (.v (.int .i64 (f)))], 2, 26, true, .cells⟩)] 79 [(.e (.one (.slc 1 0 2 1 2 true)))] (iI (g)) [(.some ⟨[(.v (.int .i64 (a))), (.v (.int .i64 (b)))], 2, 34, true, .cells⟩), (.some ⟨[(.v (.int .i64 (e))), (.v (.int .i64 (f)))], 2, 26, true, .cells⟩)]) (h7 : (g != (0 : Int) : Bool) = false) (h8 : ((iI (IntKind.i64.wrap ((0 : Int) - a))) : AV) = (iI (t))) (h9 : ((iI (if t > a then t else a)) : AV) = (iI (k))) (h10 : COut E 0 [] 86 [(iI (k)), (iI (b))] (iI (z)) []) (h12 : COut E 0 [] 85 [(iB (decide (z > (1 : Int)))), (iI 1)] (iI (u)) []) {Φ : Res → Prop} (ho : ∀ j, OutK E 0 0 (p22a_end a b e f g k z u t j) Φ) (j : Nat → Value) : OutK E 0 0 (s22 a b e f g k z u t j) Φ :=
  outK_seg hE (R0_ok hE) [.run 4, (.ops [(2, (.c0 (iI (e)))), (5, (.c0 (iI (f)))), (7, (.d (.c1 (iI (g)))))] []), .run 2, (.cond false), .run 2, (.ops [(4, (.rn (iI (t)))), (5, (.rn (iI (k)))), (8, (.c0 (iI (z)))), (10, (.c0 (iI (u))))] [])] [2] (s' := fun j => ⟨[(.some ⟨[(.v (.int .i64 (a))), (.v (.int .i64 (b)))], 2, 34, true, .cells⟩), (.some ⟨[(.v (.int .i64 (e))), (.v (.int .i64 (f)))], 2, 26, true, .cells⟩)], [(.code .ret)], mkT j [(2, (iI (u)))] 26 0⟩) (fun j => by kernel_rfl) (aP h0 <| aN <| aP (rfl : (true : Bool) = true) <| aP h3 <| aN <| aP h5 <| aN <| aP h7 <| aP h8 <| aP h9 <| aP h10 <| aN <| aP h12 <| aN <| aZ)
    fun j => outK_gc [] (by decide) (by kernel_rfl) (by kernel_rfl) (by kernel_rfl) (ho j)
def p23e_end (_a _b _e _f g _k _z _u _t : Int) (j : Nat → Value) : St := ⟨[], [(.code .ret), (.code (atC [1, 1] (bodyOf Tryz.f23)))], mkT j [(2, (iI (g)))] 22 0⟩
theorem p23e (hE : EnvOk E) (a b e f g k z u t : Int) (h0 : COut E 0 [] 17 [(iI (a)), (iI (-999999999)), (iI 999999999)] (iI (e)) []) (h3 : COut E 0 [] 17 [(iI (b)), (iI 1), (iI 999999999)] (iI (f)) []) (h5 : COut E 2 [(.some ⟨[(.v (.int .i64 (a))), (.v (.int .i64 (b)))], 2, 34, true, .cells⟩), (.some ⟨[(.v (.int .i64 (e))), (.v (.int .i64 (f)))], 2, 3, true, .cells⟩)] 81 [(.e (.one (.slc 1 0 2 1 2 true)))] (iI (g)) [(.some ⟨[(.v (.int .i64 (a))), (.v (.int .i64 (b)))], 2, 34, true, .cells⟩), (.some ⟨[(.v (.int .i64 (e))), (.v (.int .i64 (f)))], 2, 3, true, .cells⟩)]) (h7 : (g != (0 : Int) : Bool) = true) {Φ : Res → Prop} (ho : ∀ j, OutK E 0 0 (p23e_end a b e f g k z u t j) Φ) (j : Nat → Value) : OutK E 0 0 (s23 a b e f g k z u t j) Φ :=
  outK_seg hE (R0_ok hE) [.run 4, (.ops [(2, (.c0 (iI (e)))), (5, (.c0 (iI (f)))), (7, (.d (.c1 (iI (g)))))] []), .run 2, (.cond true), .run 2] [2] (s' := fun j => ⟨[(.some ⟨[(.v (.int .i64 (a))), (.v (.int .i64 (b)))], 2, 34, true, .cells⟩), (.some ⟨[(.v (.int .i64 (e))), (.v (.int .i64 (f)))], 2, 3, true, .cells⟩)], [(.code .ret), (.code (atC [1, 1] (bodyOf Tryz.f23)))], mkT j [(2, (iI (g)))] 22 0⟩) (fun j => by kernel_rfl) (aP h0 <| aN <| aP (rfl : (true : Bool) = true) <| aP h3 <| aN <| aP h5 <| aN <| aP h7 <| aZ)
    fun j => outK_gc [] (by decide) (by kernel_rfl) (by kernel_rfl) (by kernel_rfl) (ho j)
def p23a_end (_a _b _e _f _g _k _z u _t : Int) (j : Nat → Value) : St := ⟨[], [(.code .ret)], mkT j [(2, (iI (u)))] 22 0⟩
theorem p23a (hE : EnvOk E) (a b e f g k z u t : Int) (h0 : COut E 0 [] 17 [(iI (a)), (iI (-999999999)), (iI 999999999)] (iI (e)) []) (h3 : COut E 0 [] 17 [(iI (b)), (iI 1), (iI 999999999)] (iI (f)) []) (h5 : COut E 2 [(.some ⟨[(.v (.int .i64 (a))), (.v (.int .i64 (b)))], 2, 34, true, .cells⟩), (.some ⟨[(.v (.int .i64 (e))), (.v (.int .i64 (f)))], 2, 3, true, .cells⟩)] 81 [(.e (.one (.slc 1 0 2 1 2 true)))] (iI (g)) [(.some ⟨[(.v (.int .i64 (a))), (.v (.int .i64 (b)))], 2, 34, true, .cells⟩), (.some ⟨[(.v (.int .i64 (e))), (.v (.int .i64 (f)))], 2, 3, true, .cells⟩)]) (h7 : (g != (0 : Int) : Bool) = false) (h8 : COut E 0 [] 87 [(iI (a)), (iI (b))] (iI (z)) []) (h10 : COut E 0 [] 82 [(iB (decide (z > (1 : Int)))), (iI 1)] (iI (u)) []) {Φ : Res → Prop} (ho : ∀ j, OutK E 0 0 (p23a_end a b e f g k z u t j) Φ) (j : Nat → Value) : OutK E 0 0 (s23 a b e f g k z u t j) Φ :=
  outK_seg hE (R0_ok hE) [.run 4, (.ops [(2, (.c0 (iI (e)))), (5, (.c0 (iI (f)))), (7, (.d (.c1 (iI (g)))))] []), .run 2, (.cond false), .run 2, (.ops [(4, (.c0 (iI (z)))), (6, (.c0 (iI (u))))] [])] [2] (s' := fun j => ⟨[(.some ⟨[(.v (.int .i64 (a))), (.v (.int .i64 (b)))], 2, 34, true, .cells⟩), (.some ⟨[(.v (.int .i64 (e))), (.v (.int .i64 (f)))], 2, 3, true, .cells⟩)], [(.code .ret)], mkT j [(2, (iI (u)))] 22 0⟩) (fun j => by kernel_rfl) (aP h0 <| aN <| aP (rfl : (true : Bool) = true) <| aP h3 <| aN <| aP h5 <| aN <| aP h7 <| aP h8 <| aN <| aP h10 <| aN <| aZ)
    fun j => outK_gc [] (by decide) (by kernel_rfl) (by kernel_rfl) (by kernel_rfl) (ho j)
def p14s_end (x n i N _k _y : Nat) (_e _f _g _u : Int) (_D D2 _D3 : List AC) (_a _b : Int) (j : Nat → Value) : St := ⟨[(.some ⟨(D2), (N), 3, true, .cells⟩)], [(.code (atC [1, 1, 1, 0, 1, 0, 0] (bodyOf Tryz.f14))), (.inLoop (atC [1, 1, 1, 0, 1, 0, 0] (bodyOf Tryz.f14))), (.inBlock 0), (.code (atC [1, 1, 1, 1] (bodyOf Tryz.f14)))], mkT j [(0, (iI (Int.ofNat x))), (1, (iI (Int.ofNat n))), (7, (.e (.one (.slc 0 0 (n) 1 (n) true)))), (23, (iI (Int.ofNat n))), (24, (iI (Int.ofNat (i + 1))))] 61 0⟩
theorem p14s (hE : EnvOk E) (x n i N k y : Nat) (e f g u : Int) (D D2 D3 : List AC) (a b : Int) (h0 : (decide (Int.ofNat i < Int.ofNat n) : Bool) = true) (h1 : (0 : Int) ≤ Int.ofNat i ∧ Int.ofNat i < (↑n : Int)) (h2 : (nat_lit 0 + (Int.ofNat i).toNat * nat_lit 1 : Nat) = i) (h3 : i + 1 ≤ N) (h4 : (overL [AC.v (Value.int IntKind.i64 (Int.ofNat i))] D i : List AC) = D2) (h5 : ((iI (wrapF IntKind.i64 (Int.ofNat i + (1 : Int)))) : AV) = (iI (Int.ofNat (i + 1)))) {Φ : Res → Prop} (ho : ∀ j, OutK E 0 0 (p14s_end x n i N k y e f g u D D2 D3 a b j) Φ) (j : Nat → Value) : OutK E 0 0 (q14 x n i N k y e f g u D D2 D3 a b j) Φ :=
  outK_seg hE (R0_ok hE) [.run 3, (.cond true), .run 5, (.ops [(3, (.ix (i))), (4, (.st (D2)))] []), .run 1, (.ops [(0, (.rn (iI (Int.ofNat (i + 1)))))] []), .run 1] [0, 1, 7, 23, 24] (fun j => by kernel_rfl) (aP h0 <| aP h1 <| aP h2 <| aP h3 <| aP h4 <| aP h5 <| aZ)
    ho
def p14x_end (x n _i N _k _y : Nat) (_e _f _g u : Int) (D _D2 _D3 : List AC) (_a _b : Int) (j : Nat → Value) : St := ⟨[(.some ⟨(D), (N), 3, true, .cells⟩)], [(.code (atC [1, 1, 1, 1, 1, 0, 1, 0, 0] (bodyOf Tryz.f14))), (.inLoop (atC [1, 1, 1, 1, 1, 0, 1, 0, 0] (bodyOf Tryz.f14))), (.inBlock 2), (.code (atC [1, 1, 1, 1, 1, 1] (bodyOf Tryz.f14)))], mkT j [(7, (.e (.one (.slc 0 0 (n) 1 (n) true)))), (9, (iI (Int.ofNat x))), (10, (iI (u)))] 61 0⟩
theorem p14x (hE : EnvOk E) (x n i N k y : Nat) (e f g u : Int) (D D2 D3 : List AC) (a b : Int) (h0 : (decide (Int.ofNat i < Int.ofNat n) : Bool) = false) (h1 : ((iI (wrapF IntKind.i64 (Int.ofNat n - (1 : Int)))) : AV) = (iI (u))) {Φ : Res → Prop} (ho : ∀ j, OutK E 0 0 (p14x_end x n i N k y e f g u D D2 D3 a b j) Φ) (j : Nat → Value) : OutK E 0 0 (q14 x n i N k y e f g u D D2 D3 a b j) Φ :=
  outK_seg hE (R0_ok hE) [.run 3, (.cond false), .run 5, (.ops [(1, (.rn (iI (u))))] []), .run 2] [7, 9, 10] (fun j => by kernel_rfl) (aP h0 <| aP h1 <| aZ)
    ho
def p18f_end (x n _i _N _k _y : Nat) (_e _f _g _u : Int) (_D _D2 _D3 : List AC) (_a _b : Int) (j : Nat → Value) : St := ⟨[(.some ⟨[(.v (.int .i64 0))], 1, 3, false, .cells⟩)], [(.code (atC [1, 1, 0, 1, 0, 0] (bodyOf Tryz.f18))), (.inLoop (atC [1, 1, 0, 1, 0, 0] (bodyOf Tryz.f18))), (.inBlock 0), (.code (atC [1, 1, 1] (bodyOf Tryz.f18)))], mkT j [(0, (iI (Int.ofNat x))), (1, (iI (Int.ofNat n))), (5, (.e (.one (.slc 0 0 1 1 1 false)))), (6, (iI 1))] 50 0⟩
theorem p18f (hE : EnvOk E) (x n i N k y : Nat) (e f g u : Int) (D D2 D3 : List AC) (a b : Int) (h0 : (decide (Int.ofNat (nat_lit 0) < Int.ofNat n) : Bool) = true) {Φ : Res → Prop} (ho : ∀ j, OutK E 0 0 (p18f_end x n i N k y e f g u D D2 D3 a b j) Φ) (j : Nat → Value) : OutK E 0 0 (s18 x n i N k y e f g u D D2 D3 a b j) Φ :=
  outK_seg hE (R0_ok hE) [.run 12, (.cond true), .run 5, (.ops [(1, (.rn (iI 1)))] []), .run 1] [0, 1, 5, 6] (s' := fun j => ⟨[(.some ⟨[(.v (.int .i64 0))], 1, 3, true, .cells⟩), (.some ⟨[(.v (.int .i64 0))], 1, 3, false, .cells⟩)], [(.code (atC [1, 1, 0, 1, 0, 0] (bodyOf Tryz.f18))), (.inLoop (atC [1, 1, 0, 1, 0, 0] (bodyOf Tryz.f18))), (.inBlock 0), (.code (atC [1, 1, 1] (bodyOf Tryz.f18)))], mkT j [(0, (iI (Int.ofNat x))), (1, (iI (Int.ofNat n))), (5, (.e (.one (.slc 1 0 1 1 1 false)))), (6, (iI 1))] 50 0⟩) (fun j => by kernel_rfl) (aP h0 <| aP (rfl : ((iI 1) : AV) = (iI 1)) <| aZ)
    fun j => outK_gc [1] (by decide) (by kernel_rfl) (by kernel_rfl) (by kernel_rfl) (ho j)
def p18z_end (_x _n _i _N _k _y : Nat) (_e _f _g _u : Int) (_D _D2 _D3 : List AC) (_a _b : Int) (j : Nat → Value) : St := ⟨[], [(.code .ret)], mkT j [(4, (.e (.one (.v (.slice none 0 0)))))] 50 0⟩
theorem p18z (hE : EnvOk E) (x n i N k y : Nat) (e f g u : Int) (D D2 D3 : List AC) (a b : Int) (h0 : (decide (Int.ofNat (nat_lit 0) < Int.ofNat n) : Bool) = false) (h1 : ((iI (wrapF IntKind.i64 (Int.ofNat n - (1 : Int)))) : AV) = (iI (u))) (h2 : (decide (u > (0 : Int)) : Bool) = false) {Φ : Res → Prop} (ho : ∀ j, OutK E 0 0 (p18z_end x n i N k y e f g u D D2 D3 a b j) Φ) (j : Nat → Value) : OutK E 0 0 (s18 x n i N k y e f g u D D2 D3 a b j) Φ :=
  outK_seg hE (R0_ok hE) [.run 12, (.cond false), .run 5, (.ops [(1, (.rn (iI (u))))] []), .run 5, (.cond false), .run 3] [4] (fun j => by kernel_rfl) (aP h0 <| aP h1 <| aP h2 <| aZ)
    ho
def p18s_end (x n i _N k _y : Nat) (_e _f _g _u : Int) (_D D2 _D3 : List AC) (_a _b : Int) (j : Nat → Value) : St := ⟨[(.some ⟨(D2), (k), 3, false, .cells⟩)], [(.code (atC [1, 1, 0, 1, 0, 0] (bodyOf Tryz.f18))), (.inLoop (atC [1, 1, 0, 1, 0, 0] (bodyOf Tryz.f18))), (.inBlock 0), (.code (atC [1, 1, 1] (bodyOf Tryz.f18)))], mkT j [(0, (iI (Int.ofNat x))), (1, (iI (Int.ofNat n))), (5, (.e (.one (.slc 0 0 (i + 1) 1 (i + 1) false)))), (6, (iI (Int.ofNat (i + 1))))] 50 0⟩
theorem p18s (hE : EnvOk E) (x n i N k y : Nat) (e f g u : Int) (D D2 D3 : List AC) (a b : Int) (h0 : (decide (Int.ofNat i < Int.ofNat n) : Bool) = true) (h1 : ¬i + 1 ≤ i) (h2 : (small (i + 1) (1 : Nat) (8 : Nat) : Bool) = true) (h3 : (N : Nat) = i * nat_lit 1) (h4 : (appL D ((fun x => AC.v (Value.int IntKind.i64 (Int.ofNat i)) :: x) []) : List AC) = D2) (h6 : ((i + 1) * nat_lit 1 : Nat) = k) (h7 : ((iI (wrapF IntKind.i64 (Int.ofNat i + (1 : Int)))) : AV) = (iI (Int.ofNat (i + 1)))) (g0 : FlatC (D2)) {Φ : Res → Prop} (ho : ∀ j, OutK E 0 0 (p18s_end x n i N k y e f g u D D2 D3 a b j) Φ) (j : Nat → Value) : OutK E 0 0 (q18 x n i N k y e f g u D D2 D3 a b j) Φ :=
  outK_seg hE (R0_ok hE) [.run 3, (.cond true), .run 3, (.ops [(3, (.app (i + 1) (k) (D2)))] []), .run 1, (.ops [(1, (.rn (iI (Int.ofNat (i + 1)))))] []), .run 1] [0, 1, 5, 6] (s' := fun j => ⟨[none, (.some ⟨[(.v (.int .i64 (Int.ofNat i)))], 1, 3, true, .cells⟩), (.some ⟨(D2), (k), 3, false, .cells⟩)], [(.code (atC [1, 1, 0, 1, 0, 0] (bodyOf Tryz.f18))), (.inLoop (atC [1, 1, 0, 1, 0, 0] (bodyOf Tryz.f18))), (.inBlock 0), (.code (atC [1, 1, 1] (bodyOf Tryz.f18)))], mkT j [(0, (iI (Int.ofNat x))), (1, (iI (Int.ofNat n))), (5, (.e (.one (.slc 2 0 (i + 1) 1 (i + 1) false)))), (6, (iI (Int.ofNat (i + 1))))] 50 0⟩) (fun j => by kernel_rfl) (aP h0 <| aP h1 <| aP h2 <| aP h3 <| aP h4 <| aP (rfl : (i + 1 : Nat) = i + 1) <| aP h6 <| aP h7 <| aZ)
    fun j => outK_gcF [2] [true] (h' := [(.some ⟨(D2), (k), 3, false, .cells⟩)]) (by decide) (by kernel_rfl) (by kernel_rfl) ⟨g0, trivial⟩ (by kernel_rfl) (ho j)
def p18x_end (x _n i N _k _y : Nat) (_e _f _g u : Int) (D _D2 _D3 : List AC) (_a _b : Int) (j : Nat → Value) : St := ⟨[(.some ⟨(D), (N), 3, false, .cells⟩)], [(.code (atC [1, 1, 1, 1, 0, 1, 0, 0] (bodyOf Tryz.f18))), (.inLoop (atC [1, 1, 1, 1, 0, 1, 0, 0] (bodyOf Tryz.f18))), (.inBlock 2), (.code (atC [1, 1, 1, 1, 1] (bodyOf Tryz.f18)))], mkT j [(5, (.e (.one (.slc 0 0 (i) 1 (i) false)))), (7, (iI (Int.ofNat x))), (8, (iI (u)))] 50 0⟩
theorem p18x (hE : EnvOk E) (x n i N k y : Nat) (e f g u : Int) (D D2 D3 : List AC) (a b : Int) (h0 : (decide (Int.ofNat i < Int.ofNat n) : Bool) = false) (h1 : ((iI (wrapF IntKind.i64 (Int.ofNat n - (1 : Int)))) : AV) = (iI (u))) {Φ : Res → Prop} (ho : ∀ j, OutK E 0 0 (p18x_end x n i N k y e f g u D D2 D3 a b j) Φ) (j : Nat → Value) : OutK E 0 0 (q18 x n i N k y e f g u D D2 D3 a b j) Φ :=
  outK_seg hE (R0_ok hE) [.run 3, (.cond false), .run 5, (.ops [(1, (.rn (iI (u))))] []), .run 2] [5, 7, 8] (fun j => by kernel_rfl) (aP h0 <| aP h1 <| aZ)
    ho
def p14t_end (_x n i N _k y : Nat) (_e _f _g _u : Int) (_D _D2 D3 : List AC) (_a _b : Int) (j : Nat → Value) : St := ⟨[(.some ⟨(D3), (N), 3, true, .cells⟩)], [(.code (atC [1, 1, 1, 1, 1, 0, 1, 0, 0] (bodyOf Tryz.f14))), (.inLoop (atC [1, 1, 1, 1, 1, 0, 1, 0, 0] (bodyOf Tryz.f14))), (.inBlock 2), (.code (atC [1, 1, 1, 1, 1, 1] (bodyOf Tryz.f14)))], mkT j [(7, (.e (.one (.slc 0 0 (n) 1 (n) true)))), (9, (iI (Int.ofNat y))), (10, (iI (Int.ofNat i)))] 61 0⟩
theorem p14t (hE : EnvOk E) (x n i N k y : Nat) (e f g u : Int) (D D2 D3 : List AC) (a b : Int) (h0 : (decide (Int.ofNat (i + 1) ≥ (1 : Int)) : Bool) = true) (h1 : ((iI (wrapF IntKind.i64 ((630360016 : Int) * Int.ofNat x))) : AV) = (iI (e))) (h2 : ((2147483647 : Int) : Int) ≠ (0 : Int)) (h3 : (e.tmod (2147483647 : Int) : Int) = Int.ofNat y) (h4 : ((iI (wrapF IntKind.i64 (Int.ofNat (i + 1) + (1 : Int)))) : AV) = (iI (f))) (h5 : (f : Int) ≠ (0 : Int)) (h6 : ((Int.ofNat y).tmod f : Int) = Int.ofNat k) (h7 : (0 : Int) ≤ Int.ofNat k ∧ Int.ofNat k < (↑n : Int)) (h8 : (nat_lit 0 + (Int.ofNat k).toNat * nat_lit 1 : Nat) = k) (h9 : (getL D k : Option AC) = (.some (.v (.int .i64 (b))))) (h10 : (0 : Int) ≤ Int.ofNat (i + 1) ∧ Int.ofNat (i + 1) < (↑n : Int)) (h11 : (nat_lit 0 + (Int.ofNat (i + 1)).toNat * nat_lit 1 : Nat) = i + 1) (h12 : (getL D (i + 1) : Option AC) = (.some (.v (.int .i64 (a))))) (h14 : (0 : Int) ≤ Int.ofNat (i + 1) ∧ Int.ofNat (i + 1) < (↑n : Int)) (h15 : (nat_lit 0 + (Int.ofNat (i + 1)).toNat * nat_lit 1 : Nat) = i + 1) (h16 : i + 1 + 1 ≤ N) (h17 : (overL [AC.v (Value.int IntKind.i64 b)] D (i + 1) : List AC) = D2) (h18 : (0 : Int) ≤ Int.ofNat k ∧ Int.ofNat k < (↑n : Int)) (h19 : (nat_lit 0 + (Int.ofNat k).toNat * nat_lit 1 : Nat) = k) (h20 : k + 1 ≤ N) (h21 : (overL [AC.v (Value.int IntKind.i64 a)] D2 k : List AC) = D3) (h22 : ((iI (wrapF IntKind.i64 (Int.ofNat (i + 1) - (1 : Int)))) : AV) = (iI (Int.ofNat i))) {Φ : Res → Prop} (ho : ∀ j, OutK E 0 0 (p14t_end x n i N k y e f g u D D2 D3 a b j) Φ) (j : Nat → Value) : OutK E 0 0 (r14 x n i N k y e f g u D D2 D3 a b j) Φ :=
  outK_seg hE (R0_ok hE) [.run 3, (.cond true), .run 4, (.ops [(1, (.rn (iI (e)))), (2, (.quo (Int.ofNat y)))] []), .run 1, (.ops [(2, (.rn (iI (f)))), (3, (.quo (Int.ofNat k)))] []), (.ops [(6, (.ix (k))), (7, (.ld (.v (.int .i64 (b))))), (10, (.ix (i + 1))), (11, (.ld (.v (.int .i64 (a))))), (12, (.ix (i + 1))), (13, (.st (D2))), (14, (.ix (k))), (15, (.st (D3)))] []), .run 1, (.ops [(1, (.rn (iI (Int.ofNat i))))] []), .run 1] [7, 9, 10] (fun j => by kernel_rfl) (aP h0 <| aP h1 <| aP h2 <| aP h3 <| aP h4 <| aP h5 <| aP h6 <| aP h7 <| aP h8 <| aP h9 <| aP h10 <| aP h11 <| aP h12 <| aP (rfl : (true : Bool) = true) <| aP h14 <| aP h15 <| aP h16 <| aP h17 <| aP h18 <| aP h19 <| aP h20 <| aP h21 <| aP h22 <| aZ)
    ho
def p14y_end (_x n _i N _k _y : Nat) (_e _f _g _u : Int) (D _D2 _D3 : List AC) (_a _b : Int) (j : Nat → Value) : St := ⟨[(.some ⟨(D), (N), 3, true, .cells⟩)], [(.code .ret)], mkT j [(4, (.e (.one (.slc 0 0 (n) 1 (n) true)))), (5, (iI 0))] 61 0⟩
theorem p14y (hE : EnvOk E) (x n i N k y : Nat) (e f g u : Int) (D D2 D3 : List AC) (a b : Int) (h0 : (decide (u ≥ (1 : Int)) : Bool) = false) {Φ : Res → Prop} (ho : ∀ j, OutK E 0 0 (p14y_end x n i N k y e f g u D D2 D3 a b j) Φ) (j : Nat → Value) : OutK E 0 0 (r14z x n i N k y e f g u D D2 D3 a b j) Φ :=
  outK_seg hE (R0_ok hE) [.run 3, (.cond false), .run 3] [4, 5] (fun j => by kernel_rfl) (aP h0 <| aZ)
    ho
def p18t_end (_x n i N _k y : Nat) (_e _f _g _u : Int) (_D _D2 D3 : List AC) (_a _b : Int) (j : Nat → Value) : St := ⟨[(.some ⟨(D3), (N), 3, false, .cells⟩)], [(.code (atC [1, 1, 1, 1, 0, 1, 0, 0] (bodyOf Tryz.f18))), (.inLoop (atC [1, 1, 1, 1, 0, 1, 0, 0] (bodyOf Tryz.f18))), (.inBlock 2), (.code (atC [1, 1, 1, 1, 1] (bodyOf Tryz.f18)))], mkT j [(5, (.e (.one (.slc 0 0 (n) 1 (n) false)))), (7, (iI (Int.ofNat y))), (8, (iI (Int.ofNat i)))] 50 0⟩
theorem p18t (hE : EnvOk E) (x n i N k y : Nat) (e f g u : Int) (D D2 D3 : List AC) (a b : Int) (h0 : (decide (Int.ofNat (i + 1) > (0 : Int)) : Bool) = true) (h1 : ((iI (wrapF IntKind.i64 ((630360016 : Int) * Int.ofNat x))) : AV) = (iI (e))) (h2 : ((2147483647 : Int) : Int) ≠ (0 : Int)) (h3 : (e.tmod (2147483647 : Int) : Int) = Int.ofNat y) (h4 : ((iI (wrapF IntKind.i64 (Int.ofNat (i + 1) + (1 : Int)))) : AV) = (iI (f))) (h5 : (f : Int) ≠ (0 : Int)) (h6 : ((Int.ofNat y).tmod f : Int) = Int.ofNat k) (h7 : (0 : Int) ≤ Int.ofNat k ∧ Int.ofNat k < (↑n : Int)) (h8 : (nat_lit 0 + (Int.ofNat k).toNat * nat_lit 1 : Nat) = k) (h9 : (getL D k : Option AC) = (.some (.v (.int .i64 (b))))) (h10 : (0 : Int) ≤ Int.ofNat (i + 1) ∧ Int.ofNat (i + 1) < (↑n : Int)) (h11 : (nat_lit 0 + (Int.ofNat (i + 1)).toNat * nat_lit 1 : Nat) = i + 1) (h12 : (getL D (i + 1) : Option AC) = (.some (.v (.int .i64 (a))))) (h13 : (0 : Int) ≤ Int.ofNat k ∧ Int.ofNat k < (↑n : Int)) (h14 : (nat_lit 0 + (Int.ofNat k).toNat * nat_lit 1 : Nat) = k) (h15 : k + 1 ≤ N) (h16 : (overL [AC.v (Value.int IntKind.i64 a)] D k : List AC) = D2) (h17 : (0 : Int) ≤ Int.ofNat (i + 1) ∧ Int.ofNat (i + 1) < (↑n : Int)) (h18 : (nat_lit 0 + (Int.ofNat (i + 1)).toNat * nat_lit 1 : Nat) = i + 1) (h19 : i + 1 + 1 ≤ N) (h20 : (overL [AC.v (Value.int IntKind.i64 b)] D2 (i + 1) : List AC) = D3) (h21 : ((iI (wrapF IntKind.i64 (Int.ofNat (i + 1) - (1 : Int)))) : AV) = (iI (Int.ofNat i))) {Φ : Res → Prop} (ho : ∀ j, OutK E 0 0 (p18t_end x n i N k y e f g u D D2 D3 a b j) Φ) (j : Nat → Value) : OutK E 0 0 (r18 x n i N k y e f g u D D2 D3 a b j) Φ :=
  outK_seg hE (R0_ok hE) [.run 3, (.cond true), .run 4, (.ops [(1, (.rn (iI (e)))), (2, (.quo (Int.ofNat y)))] []), .run 1, (.ops [(2, (.rn (iI (f)))), (3, (.quo (Int.ofNat k)))] []), .run 1, (.ops [(2, (.ix (k))), (3, (.ld (.v (.int .i64 (b)))))] []), .run 1, (.ops [(4, (.ix (i + 1))), (5, (.ld (.v (.int .i64 (a))))), (6, (.ix (k))), (7, (.st (D2)))] []), (.ops [(3, (.ix (i + 1))), (4, (.st (D3)))] []), .run 1, (.ops [(1, (.rn (iI (Int.ofNat i))))] []), .run 1] [5, 7, 8] (fun j => by kernel_rfl) (aP h0 <| aP h1 <| aP h2 <| aP h3 <| aP h4 <| aP h5 <| aP h6 <| aP h7 <| aP h8 <| aP h9 <| aP h10 <| aP h11 <| aP h12 <| aP h13 <| aP h14 <| aP h15 <| aP h16 <| aP h17 <| aP h18 <| aP h19 <| aP h20 <| aP h21 <| aZ)
    ho
def p18y_end (_x n _i N _k _y : Nat) (_e _f _g _u : Int) (D _D2 _D3 : List AC) (_a _b : Int) (j : Nat → Value) : St := ⟨[(.some ⟨(D), (N), 3, false, .cells⟩)], [(.code .ret)], mkT j [(4, (.e (.one (.slc 0 0 (n) 1 (n) false))))] 50 0⟩
theorem p18y (hE : EnvOk E) (x n i N k y : Nat) (e f g u : Int) (D D2 D3 : List AC) (a b : Int) (h0 : (decide (u > (0 : Int)) : Bool) = false) {Φ : Res → Prop} (ho : ∀ j, OutK E 0 0 (p18y_end x n i N k y e f g u D D2 D3 a b j) Φ) (j : Nat → Value) : OutK E 0 0 (r18z x n i N k y e f g u D D2 D3 a b j) Φ :=
  outK_seg hE (R0_ok hE) [.run 3, (.cond false), .run 3] [4] (fun j => by kernel_rfl) (aP h0 <| aZ)
    ho
def p3n_end (_s : ByteArray) (_n0 _n1 _n2 _n3 _l : Int) (_w _n : Nat) (_e _e1 _e2 _g _r _t : Int) (_C : List DT) (_i : Bool) (j : Nat → Value) : St := ⟨[], [(.code .ret), (.code (atC [1, 1] (bodyOf Tryz.f3)))], mkT j [(6, (iB true))] 73 0⟩
theorem p3n (hE : EnvOk E) (s : ByteArray) (n0 n1 n2 n3 l : Int) (w n : Nat) (e e1 e2 g r t : Int) (C : List DT) (i : Bool) (h0 : ((iI (Int.ofNat s.size)) : AV) = (iI (l))) (h1 : (decide (l > (40 : Int)) : Bool) = true) (h2 : COut E 0 [] 13 [] (iB true) []) {Φ : Res → Prop} (ho : ∀ j, OutK E 0 0 (p3n_end s n0 n1 n2 n3 l w n e e1 e2 g r t C i j) Φ) (j : Nat → Value) : OutK E 0 0 (s3 s n0 n1 n2 n3 l w n e e1 e2 g r t C i j) Φ :=
  outK_seg hE (R0_ok hE) [.run 4, (.ops [(1, (.rn (iI (l))))] []), (.cond true), .run 1, (.ops [(0, (.c0 (iB true)))] [])] [6] (s' := fun j => ⟨[(.some ⟨[(.v (.int .i64 (n0))), (.v (.int .i64 (n1))), (.v (.int .i64 (n2))), (.v (.int .i64 (n3)))], 4, 22, true, .cells⟩)], [(.code .ret), (.code (atC [1, 1] (bodyOf Tryz.f3)))], mkT j [(6, (iB true))] 73 0⟩) (fun j => by kernel_rfl) (aP h0 <| aP h1 <| aP h2 <| aN <| aZ)
    fun j => outK_gc [] (by decide) (by kernel_rfl) (by kernel_rfl) (by kernel_rfl) (ho j)
def p3e_end (_s : ByteArray) (_n0 _n1 _n2 _n3 _l : Int) (_w _n : Nat) (_e _e1 _e2 _g _r _t : Int) (_C : List DT) (_i : Bool) (j : Nat → Value) : St := ⟨[], [(.code .ret)], mkT j [(6, (iB true))] 73 0⟩
theorem p3e (hE : EnvOk E) (s : ByteArray) (n0 n1 n2 n3 l : Int) (w n : Nat) (e e1 e2 g r t : Int) (C : List DT) (i : Bool) (h0 : ((iI (Int.ofNat s.size)) : AV) = (iI (l))) (h1 : (decide (l > (40 : Int)) : Bool) = false) (h2 : COut E 0 [] 14 [(iI (n0)), (iI (n1))] (.tup [(.one (.dp (.s (C) (n) 1))), (.one (.v (.int .i64 (e))))]) []) (h4 : COut E 0 [] 16 [(iI (n0))] (iI (e1)) []) (h7 : COut E 0 [] 17 [(iI (n1)), (iI 0), (iI 256)] (iI (e2)) []) (h9 : COut E 2 [(.some ⟨[(.v (.int .i64 (n0))), (.v (.int .i64 (n1))), (.v (.int .i64 (n2))), (.v (.int .i64 (n3)))], 4, 22, true, .cells⟩), (.some ⟨[(.v (.int .i64 (e1))), (.v (.int .i64 (e2)))], 2, 3, true, .cells⟩)] 15 [(.e (.one (.slc 1 0 2 1 2 true)))] (iI (g)) [(.some ⟨[(.v (.int .i64 (n0))), (.v (.int .i64 (n1))), (.v (.int .i64 (n2))), (.v (.int .i64 (n3)))], 4, 22, true, .cells⟩), (.some ⟨[(.v (.int .i64 (e1))), (.v (.int .i64 (e2)))], 2, 3, true, .cells⟩)]) (h11 : (g == (0 : Int) : Bool) = false) (h12 : COut E 0 [] 19 [(.e (.one (.v (.string (s)))))] (iB (i)) []) (h14 : COut E 0 [] 20 [(.e (.one (.v (.string (s)))))] (iB (i)) []) (h16 : ((iB (i == i)) : AV) = (iB true)) (h17 : COut E 0 [] 21 [(.e (.one (.dp (.s (C) (n) 1)))), (iI (e)), (iI (g)), (.e (.one (.v (.slice none 0 0))))] (iB true) []) (h19 : COut E 0 [] 22 [(.e (.agg [(.v (.int .i64 (n2))), (.v (.int .i64 (n3)))]))] (iI (r)) []) (h21 : COut E 0 [] 23 [(.e (.agg [(.v (.int .i64 (n2))), (.v (.int .i64 (n3)))]))] (iI (r)) []) (h23 : ((iB (r == r)) : AV) = (iB true)) (h24 : COut E 0 [] 24 [(.e (.one (.v (.float .f32 (w)))))] (iI (t)) []) (h27 : COut E 0 [] 25 [(.e (.one (.v (.float .f32 (w)))))] (iI (t)) []) (h29 : ((iB (t == t)) : AV) = (iB true)) (h30 : COut E 0 [] 13 [] (iB true) []) {Φ : Res → Prop} (ho : ∀ j, OutK E 0 0 (p3e_end s n0 n1 n2 n3 l w n e e1 e2 g r t C i j) Φ) (j : Nat → Value) : OutK E 0 0 (s3 s n0 n1 n2 n3 l w n e e1 e2 g r t C i j) Φ :=
  outK_seg hE (R0_ok hE) [.run 4, (.ops [(1, (.rn (iI (l))))] []), (.cond false), .run 2, (.ops [(4, (.c0 (.tup [(.one (.dp (.s (C) (n) 1))), (.one (.v (.int .i64 (e))))])))] []), .run 1, (.ops [(2, (.c0 (iI (e1)))), (5, (.c0 (iI (e2)))), (7, (.d (.c1 (iI (g)))))] []), .run 5, (.cond false), .run 4, (.ops [(1, (.c0 (iB (i)))), (3, (.c0 (iB (i)))), (4, (.rn (iB true))), (10, (.c0 (iB true))), (14, (.c0 (iI (r)))), (16, (.c0 (iI (r)))), (17, (.rn (iB true))), (21, (.c0 (iI (t)))), (23, (.c0 (iI (t)))), (24, (.rn (iB true))), (27, (.c0 (iB true)))] [])] [6] (s' := fun j => ⟨[(.some ⟨[(.v (.int .i64 (n0))), (.v (.int .i64 (n1))), (.v (.int .i64 (n2))), (.v (.int .i64 (n3)))], 4, 22, true, .cells⟩), (.some ⟨[(.v (.int .i64 (e1))), (.v (.int .i64 (e2)))], 2, 3, true, .cells⟩), (.some ⟨[(.v (.int .i64 (n2))), (.v (.int .i64 (n3)))], 2, 34, true, .cells⟩)], [(.code .ret)], mkT j [(6, (iB true))] 73 0⟩) (fun j => by kernel_rfl) (aP h0 <| aP h1 <| aP h2 <| aN <| aP h4 <| aN <| aP (rfl : (true : Bool) = true) <| aP h7 <| aN <| aP h9 <| aN <| aP h11 <| aP h12 <| aN <| aP h14 <| aN <| aP h16 <| aP h17 <| aN <| aP h19 <| aN <| aP h21 <| aN <| aP h23 <| aP h24 <| aN <| aP (rfl : (true : Bool) = true) <| aP h27 <| aN <| aP h29 <| aP h30 <| aN <| aZ)
    fun j => outK_gc [] (by decide) (by kernel_rfl) (by kernel_rfl) (by kernel_rfl) (ho j)
def p3o_end (_s : ByteArray) (_n0 _n1 _n2 _n3 _l : Int) (_w _n : Nat) (_e _e1 _e2 _g _r _t : Int) (_C : List DT) (_i : Bool) (j : Nat → Value) : St := ⟨[], [(.code .ret)], mkT j [(6, (iB true))] 73 0⟩
theorem p3o (hE : EnvOk E) (s : ByteArray) (n0 n1 n2 n3 l : Int) (w n : Nat) (e e1 e2 g r t : Int) (C : List DT) (i : Bool) (h0 : ((iI (Int.ofNat s.size)) : AV) = (iI (l))) (h1 : (decide (l > (40 : Int)) : Bool) = false) (h2 : COut E 0 [] 14 [(iI (n0)), (iI (n1))] (.tup [(.one (.dp (.s (C) (n) 1))), (.one (.v (.int .i64 (e))))]) []) (h4 : COut E 0 [] 16 [(iI (n0))] (iI (e1)) []) (h7 : COut E 0 [] 17 [(iI (n1)), (iI 0), (iI 256)] (iI (e2)) []) (h9 : COut E 2 [(.some ⟨[(.v (.int .i64 (n0))), (.v (.int .i64 (n1))), (.v (.int .i64 (n2))), (.v (.int .i64 (n3)))], 4, 22, true, .cells⟩), (.some ⟨[(.v (.int .i64 (e1))), (.v (.int .i64 (e2)))], 2, 3, true, .cells⟩)] 15 [(.e (.one (.slc 1 0 2 1 2 true)))] (iI (g)) [(.some ⟨[(.v (.int .i64 (n0))), (.v (.int .i64 (n1))), (.v (.int .i64 (n2))), (.v (.int .i64 (n3)))], 4, 22, true, .cells⟩), (.some ⟨[(.v (.int .i64 (e1))), (.v (.int .i64 (e2)))], 2, 3, true, .cells⟩)]) (h11 : (g == (0 : Int) : Bool) = true) (h12 : COut E 0 [] 18 [(iI (n0)), (iI (n1))] (.e (.one (.dp (.s (C) (n) 1)))) []) (h14 : COut E 0 [] 19 [(.e (.one (.v (.string (s)))))] (iB (i)) []) (h16 : COut E 0 [] 20 [(.e (.one (.v (.string (s)))))] (iB (i)) []) (h18 : ((iB (i == i)) : AV) = (iB true)) (h19 : COut E 0 [] 21 [(.e (.one (.dp (.s (C) (n) 1)))), (iI (e)), (iI (g)), (.e (.one (.dp (.s (C) (n) 1))))] (iB true) []) (h21 : COut E 0 [] 22 [(.e (.agg [(.v (.int .i64 (n2))), (.v (.int .i64 (n3)))]))] (iI (r)) []) (h23 : COut E 0 [] 23 [(.e (.agg [(.v (.int .i64 (n2))), (.v (.int .i64 (n3)))]))] (iI (r)) []) (h25 : ((iB (r == r)) : AV) = (iB true)) (h26 : COut E 0 [] 24 [(.e (.one (.v (.float .f32 (w)))))] (iI (t)) []) (h29 : COut E 0 [] 25 [(.e (.one (.v (.float .f32 (w)))))] (iI (t)) []) (h31 : ((iB (t == t)) : AV) = (iB true)) (h32 : COut E 0 [] 13 [] (iB true) []) {Φ : Res → Prop} (ho : ∀ j, OutK E 0 0 (p3o_end s n0 n1 n2 n3 l w n e e1 e2 g r t C i j) Φ) (j : Nat → Value) : OutK E 0 0 (s3 s n0 n1 n2 n3 l w n e e1 e2 g r t C i j) Φ :=
  outK_seg hE (R0_ok hE) [.run 4, (.ops [(1, (.rn (iI (l))))] []), (.cond false), .run 2, (.ops [(4, (.c0 (.tup [(.one (.dp (.s (C) (n) 1))), (.one (.v (.int .i64 (e))))])))] []), .run 1, (.ops [(2, (.c0 (iI (e1)))), (5, (.c0 (iI (e2)))), (7, (.d (.c1 (iI (g)))))] []), .run 5, (.cond true), (.ops [(4, (.c0 (.e (.one (.dp (.s (C) (n) 1))))))] []), .run 3, (.ops [(1, (.c0 (iB (i)))), (3, (.c0 (iB (i)))), (4, (.rn (iB true))), (10, (.c0 (iB true))), (14, (.c0 (iI (r)))), (16, (.c0 (iI (r)))), (17, (.rn (iB true))), (21, (.c0 (iI (t)))), (23, (.c0 (iI (t)))), (24, (.rn (iB true))), (27, (.c0 (iB true)))] [])] [6] (s' := fun j => ⟨[(.some ⟨[(.v (.int .i64 (n0))), (.v (.int .i64 (n1))), (.v (.int .i64 (n2))), (.v (.int .i64 (n3)))], 4, 22, true, .cells⟩), (.some ⟨[(.v (.int .i64 (e1))), (.v (.int .i64 (e2)))], 2, 3, true, .cells⟩), (.some ⟨[(.v (.int .i64 (n2))), (.v (.int .i64 (n3)))], 2, 34, true, .cells⟩)], [(.code .ret)], mkT j [(6, (iB true))] 73 0⟩) (fun j => by kernel_rfl) (aP h0 <| aP h1 <| aP h2 <| aN <| aP h4 <| aN <| aP (rfl : (true : Bool) = true) <| aP h7 <| aN <| aP h9 <| aN <| aP h11 <| aP h12 <| aN <| aP h14 <| aN <| aP h16 <| aN <| aP h18 <| aP h19 <| aN <| aP h21 <| aN <| aP h23 <| aN <| aP h25 <| aP h26 <| aN <| aP (rfl : (true : Bool) = true) <| aP h29 <| aN <| aP h31 <| aP h32 <| aN <| aZ)
    fun j => outK_gc [] (by decide) (by kernel_rfl) (by kernel_rfl) (by kernel_rfl) (ho j)

theorem st_iC (l : List Int) (k : Nat) (v : Int) : overL [AC.v (.int .i64 v)] (iC l) k = iC (l.set k v) := by
  show setL _ _ _ = _
  rw [setL_eq]
  simp [List.map_set]; rfl
theorem get_iC {l : List Int} {k : Nat} {v : Int} (h : l[k]? = some v) : getL (iC l) k = some (.v (.int .i64 v)) := by
  rw [getL_eq, List.getElem?_map, List.getElem?_map, h]; rfl
theorem rep0 : ∀ n, repeatC ((fun z => List.map AC.v z.cells.toList) (Value.int IntKind.i64 (0 : Int))) n = iC (List.replicate n 0)
  | 0 => rfl
  | n + 1 => by
    show _ ++ repeatC _ n = _
    rw [rep0 n, List.replicate_succ]
    rfl
theorem app_iC (l : List Int) (v : Int) : appL (iC l) [AC.v (.int .i64 v)] = iC (l ++ [v]) := by rw [appL_eq]; simp; rfl
theorem iDn (i : Nat) (h : i ≤ 4000000) : (iI (wrapF IntKind.i64 (Int.ofNat (i + 1) - (1 : Int))) : AV) = iI (Int.ofNat i) := by
  have e : (Int.ofNat (i + 1) - 1 : Int) = Int.ofNat i := by simp only [Int.ofNat_eq_natCast]; omega
  rw [e]
  exact iIe (wrap_id (by simp only [Int.ofNat_eq_natCast]; omega) (by simp only [Int.ofNat_eq_natCast]; omega))
theorem sm8 {m : Nat} (h : m ≤ 100000) : small (m + 1) 1 8 = true := by simp [small]; omega
theorem t14 (hE : EnvOk E) (n : Nat) (hn : n ≤ 256) : ∀ (i x : Nat) (l : List Int), l.length = n → i < n → x < 2147483648 →
    ∀ j, OutK E 0 0 (r14z x n 0 n 0 0 0 0 0 (Int.ofNat i) (iC l) [] [] 0 0 j) (Go.Ev.Ends E Tryz.f14 (.tup [.one (.slc 0 0 n 1 n true), .one (.v (.int .i64 0))]) [some ⟨iC (drawL i x l), n, 3, true, .cells⟩])
  | 0, x, l, hl, hi, hx, j => p14y hE x n 0 n 0 0 0 0 0 0 (iC l) [] [] 0 0 (by decide) (fun j => outK_ret (ends_ret (by kernel_rfl))) j
  | i + 1, x, l, hl, hi, hx, j => by
    have ha : l[i + 1]? = some (l.getD (i + 1) 0) := by simp [List.getD, List.getElem?_eq_getElem (show i + 1 < l.length by omega)]
    have hy : 630360016 * x % 2147483647 < 2147483647 := Nat.mod_lt _ (by decide)
    have hk : 630360016 * x % 2147483647 % (i + 1 + 1) < i + 1 + 1 := Nat.mod_lt _ (by omega)
    show OutK E 0 0 (r14 x n i n 0 0 0 0 0 0 (iC l) [] [] 0 0 j) (Go.Ev.Ends E Tryz.f14 (.tup [.one (.slc 0 0 n 1 n true), .one (.v (.int .i64 0))]) [some ⟨iC (drawL i (630360016 * x % 2147483647) (swapL l (i + 1) (630360016 * x % 2147483647 % (i + 1 + 1)))), n, 3, true, .cells⟩])
    have tm1 : ((630360016 : Int) * Int.ofNat x).tmod 2147483647 = Int.ofNat (630360016 * x % 2147483647) := rfl
    generalize 630360016 * x % 2147483647 = y at hy hk tm1 ⊢
    have tm2 : (Int.ofNat y).tmod (Int.ofNat (i + 1 + 1)) = Int.ofNat (y % (i + 1 + 1)) := rfl
    generalize y % (i + 1 + 1) = k at hk tm2 ⊢
    have hb : l[k]? = some (l.getD k 0) := by simp [List.getD, List.getElem?_eq_getElem (show k < l.length by omega)]
    have ih := t14 hE n hn i y (swapL l (i + 1) k) (by rw [swapL_len]; exact hl) (by omega) (by omega)
    unfold swapL at ih ⊢
    exact p14t hE x n i n k y ((630360016 : Int) * Int.ofNat x) (Int.ofNat (i + 1 + 1)) 0 0 (iC l) (iC (l.set (i + 1) (l.getD k 0))) (iC ((l.set (i + 1) (l.getD k 0)).set k (l.getD (i + 1) 0))) (l.getD (i + 1) 0) (l.getD k 0) (decide_eq_true (by simp only [Int.ofNat_eq_natCast]; omega)) (iIe (wrap_id (by simp only [Int.ofNat_eq_natCast]; omega) (by simp only [Int.ofNat_eq_natCast]; omega))) (by decide) tm1 (iIn (i + 1) (by omega)) (by show (Int.ofNat _ : Int) ≠ 0; simp only [Int.ofNat_eq_natCast]; omega) tm2 ⟨by simp only [Int.ofNat_eq_natCast]; omega, by simp only [Int.ofNat_eq_natCast]; omega⟩ (by simp) (get_iC hb) ⟨by simp only [Int.ofNat_eq_natCast]; omega, by simp only [Int.ofNat_eq_natCast]; omega⟩ (by simp) (get_iC ha) ⟨by simp only [Int.ofNat_eq_natCast]; omega, by simp only [Int.ofNat_eq_natCast]; omega⟩ (by simp) (by omega) (st_iC _ _ _) ⟨by simp only [Int.ofNat_eq_natCast]; omega, by simp only [Int.ofNat_eq_natCast]; omega⟩ (by simp) (by omega) (st_iC _ _ _) (iDn i (by omega)) ih j
theorem t18 (hE : EnvOk E) (n : Nat) (hn : n ≤ 256) : ∀ (i x : Nat) (l : List Int), l.length = n → i < n → x < 2147483648 →
    ∀ j, OutK E 0 0 (r18z x n 0 n 0 0 0 0 0 (Int.ofNat i) (iC l) [] [] 0 0 j) (Go.Ev.Ends E Tryz.f18 (.e (.one (.slc 0 0 n 1 n false))) [some ⟨iC (drawL i x l), n, 3, false, .cells⟩])
  | 0, x, l, hl, hi, hx, j => p18y hE x n 0 n 0 0 0 0 0 0 (iC l) [] [] 0 0 (by decide) (fun j => outK_ret (ends_ret (by kernel_rfl))) j
  | i + 1, x, l, hl, hi, hx, j => by
    have ha : l[i + 1]? = some (l.getD (i + 1) 0) := by simp [List.getD, List.getElem?_eq_getElem (show i + 1 < l.length by omega)]
    have hy : 630360016 * x % 2147483647 < 2147483647 := Nat.mod_lt _ (by decide)
    have hk : 630360016 * x % 2147483647 % (i + 1 + 1) < i + 1 + 1 := Nat.mod_lt _ (by omega)
    show OutK E 0 0 (r18 x n i n 0 0 0 0 0 0 (iC l) [] [] 0 0 j) (Go.Ev.Ends E Tryz.f18 (.e (.one (.slc 0 0 n 1 n false))) [some ⟨iC (drawL i (630360016 * x % 2147483647) (swapL l (i + 1) (630360016 * x % 2147483647 % (i + 1 + 1)))), n, 3, false, .cells⟩])
    have tm1 : ((630360016 : Int) * Int.ofNat x).tmod 2147483647 = Int.ofNat (630360016 * x % 2147483647) := rfl
    generalize 630360016 * x % 2147483647 = y at hy hk tm1 ⊢
    have tm2 : (Int.ofNat y).tmod (Int.ofNat (i + 1 + 1)) = Int.ofNat (y % (i + 1 + 1)) := rfl
    generalize y % (i + 1 + 1) = k at hk tm2 ⊢
    have hb : l[k]? = some (l.getD k 0) := by simp [List.getD, List.getElem?_eq_getElem (show k < l.length by omega)]
    have ih := t18 hE n hn i y (swapL l (i + 1) k) (by rw [swapL_len]; exact hl) (by omega) (by omega)
    rw [← swapL_alt l (i + 1) k] at ih ⊢
    exact p18t hE x n i n k y ((630360016 : Int) * Int.ofNat x) (Int.ofNat (i + 1 + 1)) 0 0 (iC l) (iC (l.set k (l.getD (i + 1) 0))) (iC ((l.set k (l.getD (i + 1) 0)).set (i + 1) (l.getD k 0))) (l.getD (i + 1) 0) (l.getD k 0) (decide_eq_true (by simp only [Int.ofNat_eq_natCast]; omega)) (iIe (wrap_id (by simp only [Int.ofNat_eq_natCast]; omega) (by simp only [Int.ofNat_eq_natCast]; omega))) (by decide) tm1 (iIn (i + 1) (by omega)) (by show (Int.ofNat _ : Int) ≠ 0; simp only [Int.ofNat_eq_natCast]; omega) tm2 ⟨by simp only [Int.ofNat_eq_natCast]; omega, by simp only [Int.ofNat_eq_natCast]; omega⟩ (by simp) (get_iC hb) ⟨by simp only [Int.ofNat_eq_natCast]; omega, by simp only [Int.ofNat_eq_natCast]; omega⟩ (by simp) (get_iC ha) ⟨by simp only [Int.ofNat_eq_natCast]; omega, by simp only [Int.ofNat_eq_natCast]; omega⟩ (by simp) (by omega) (st_iC _ _ _) ⟨by simp only [Int.ofNat_eq_natCast]; omega, by simp only [Int.ofNat_eq_natCast]; omega⟩ (by simp) (by omega) (st_iC _ _ _) (iDn i (by omega)) ih j
theorem l14 (hE : EnvOk E) (x n : Nat) (hn : n ≤ 256) (hx : x < 2147483648) : ∀ m i, m + i = n →
    ∀ j, OutK E 0 0 (q14 x n i n 0 0 0 0 0 0 (iC (fillL i n)) [] [] 0 0 j) (Go.Ev.Ends E Tryz.f14 (.tup [.one (.slc 0 0 n 1 n true), .one (.v (.int .i64 0))]) [some ⟨iC (drawn x n), n, 3, true, .cells⟩])
  | 0, i, hk, j => by
    have e : i = n := by omega
    subst e
    rw [fillL_end]
    unfold drawn
    cases i with
    | zero => exact p14x hE x 0 0 0 0 0 0 0 0 (-1) (iC (idL 0)) [] [] 0 0 (by decide) (iIe (wrap_id (by decide) (by decide))) (p14y hE x 0 0 0 0 0 0 0 0 (-1) (iC (idL 0)) [] [] 0 0 (by decide) (fun j => outK_ret (ends_ret (by kernel_rfl)))) j
    | succ i => exact p14x hE x (i + 1) (i + 1) (i + 1) 0 0 0 0 0 (Int.ofNat i) (iC (idL (i + 1))) [] [] 0 0 (decide_eq_false (by simp only [Int.ofNat_eq_natCast]; omega)) (iDn i (by omega)) (t14 hE (i + 1) hn i x (idL (i + 1)) (idL_len _) (by omega) hx) j
  | m + 1, i, hk, j => by
    have ih := l14 hE x n hn hx m (i + 1) (by omega)
    have hlt : i < n := by omega
    have hl := fillL_len (i := i) (n := n) (by omega)
    exact p14s hE x n i n 0 0 0 0 0 0 (iC (fillL i n)) (iC (fillL (i + 1) n)) [] 0 0 (decide_eq_true (by simp only [Int.ofNat_eq_natCast]; omega)) ⟨by simp only [Int.ofNat_eq_natCast]; omega, by simp only [Int.ofNat_eq_natCast]; omega⟩ (by simp) (by omega) (by rw [st_iC, fillL_set (by omega)]) (iIn i (by omega)) ih j
theorem l18 (hE : EnvOk E) (x n : Nat) (hn : n ≤ 256) (h0 : 0 < n) (hx : x < 2147483648) : ∀ m i, m + i = n → 0 < i →
    ∀ j, OutK E 0 0 (q18 x n i i 0 0 0 0 0 0 (iC (idL i)) [] [] 0 0 j) (Go.Ev.Ends E Tryz.f18 (.e (.one (.slc 0 0 n 1 n false))) [some ⟨iC (drawn x n), n, 3, false, .cells⟩])
  | 0, i, hk, hi, j => by
    have e : i = n := by omega
    subst e
    unfold drawn
    cases i with
    | zero => omega
    | succ i => exact p18x hE x (i + 1) (i + 1) (i + 1) 0 0 0 0 0 (Int.ofNat i) (iC (idL (i + 1))) [] [] 0 0 (decide_eq_false (by simp only [Int.ofNat_eq_natCast]; omega)) (iDn i (by omega)) (t18 hE (i + 1) hn i x (idL (i + 1)) (idL_len _) (by omega) hx) j
  | m + 1, i, hk, hi, j => by
    have ih := l18 hE x n hn h0 hx m (i + 1) (by omega) (by omega)
    exact p18s hE x n i i (i + 1) 0 0 0 0 0 (iC (idL i)) (iC (idL (i + 1))) [] 0 0 (decide_eq_true (by simp only [Int.ofNat_eq_natCast]; omega)) (by omega) (sm8 (by omega)) (Nat.mul_one _).symm (by rw [idL_succ]; exact app_iC _ _) (Nat.mul_one _) (iIn i (by omega)) (flat_iC _) ih j
/-- what Draw says of its arguments -/
def chkDr (x m : Int) : Int := firstI [rngI 1 2147483646 x, rngI 0 256 m]
theorem chkDr_zero {x m : Int} (h : chkDr x m = 0) : (1 ≤ x ∧ x ≤ 2147483646) ∧ 0 ≤ m ∧ m ≤ 256 := by
  unfold chkDr at h
  rw [firstI2] at h
  by_cases h0 : rngI 1 2147483646 x = 0
  · rw [if_pos h0] at h
    unfold rngI at h0 h
    refine ⟨?_, ?_⟩
    · by_cases c : x < 1 ∨ 2147483646 < x
      · rw [if_pos c] at h0; omega
      · omega
    · by_cases c : m < 0 ∨ 256 < m
      · rw [if_pos c] at h; omega
      · omega
  · rw [if_neg h0] at h
    exact (h0 h).elim
theorem K14e (hE : EnvOk E) (x m : Int) (h : chkDr x m ≠ 0) : COut E 0 [] 14 [iI x, iI m] (.tup [.one (.dp (.s [] 0 1)), .one (.v (.int .i64 (chkDr x m)))]) [] :=
  cOut_nil2 (p := none) (c := 0) 1 (cOut_start Tryz.func14 rfl (p14e hE x m _ _ _ (K80 hE _ _ _) (K80 hE _ _ _) (lend2 1 hE 79 [rngI 1 2147483646 x, rngI 0 256 m] _ 26 true (K79 hE _ (by simp)) _ 0 rfl) (bne_iff_ne.2 h) (fun j => outK_ret (ends_ret (by kernel_rfl))) fun _ => undef))
theorem K14 (hE : EnvOk E) (x n : Nat) (h : chkDr (Int.ofNat x) (Int.ofNat n) = 0) : COut E 0 [] 14 [iI (Int.ofNat x), iI (Int.ofNat n)] (.tup [.one (.dp (.s (iD (drawn x n)) n 1)), .one (.v (.int .i64 0))]) [] := by
  obtain ⟨hx, hn⟩ := chkDr_zero h
  simp only [Int.ofNat_eq_natCast] at hx hn
  have k79 := lend2 1 hE 79 [rngI 1 2147483646 (Int.ofNat x), rngI 0 256 (Int.ofNat n)] _ 26 true (K79 hE _ (by simp)) [some ⟨[.v (.int .i64 (rngI 1 2147483646 (Int.ofNat x))), .v (.int .i64 (rngI 0 256 (Int.ofNat n)))], 2, 26, true, .cells⟩] 0 rfl
  rw [show firstI [rngI 1 2147483646 (Int.ofNat x), rngI 0 256 (Int.ofNat n)] = 0 from h] at k79
  have e0 : iC (fillL 0 n) = iC (List.replicate n 0) := by simp [fillL, idL]
  have hc1 : COut E 0 [] 14 [iI (Int.ofNat x), iI (Int.ofNat n)] (.tup [.one (.slc 0 0 n 1 n true), .one (.v (.int .i64 0))]) [some ⟨iC (drawn x n), n, 3, true, .cells⟩] :=
    cOut_start Tryz.func14 rfl (p14a hE x n 0 n 0 0 _ _ 0 0 (iC (fillL 0 n)) [] [] 0 0 (K80 hE _ _ _) (K80 hE _ _ _) k79 rfl ⟨by simp only [Int.ofNat_eq_natCast]; omega, Int.le_refl _⟩ (by simp [small]; omega) rfl rfl (Nat.mul_one _) (by rw [e0]; exact rep0 n) (flat_iC _) (l14 hE x n (by omega) (by omega) n 0 (by omega)) fun _ => undef)
  have hlen := drawn_len x n
  exact cOut_clear (cOut_freeze 0 hc1 rfl (Nat.zero_le _) (ds := iD (drawn x n)) ⟨.inr ⟨0, n, 1, n, true, iD (drawn x n), rfl, rfl, by rw [takeL_eq, dropL_eq, List.drop_zero, if_pos (by simp [hlen]), List.take_of_length_le (by simp [hlen])]⟩, .inl rfl, trivial⟩) rfl
theorem K18 (hE : EnvOk E) (x n : Nat) (h : chkDr (Int.ofNat x) (Int.ofNat n) = 0) : COut E 0 [] 18 [iI (Int.ofNat x), iI (Int.ofNat n)] (.e (.one (.dp (.s (iD (drawn x n)) n 1)))) [] := by
  obtain ⟨hx, hn⟩ := chkDr_zero h
  simp only [Int.ofNat_eq_natCast] at hx hn
  by_cases h0 : 0 < n
  · have hc1 : COut E 0 [] 18 [iI (Int.ofNat x), iI (Int.ofNat n)] (.e (.one (.slc 0 0 n 1 n false))) [some ⟨iC (drawn x n), n, 3, false, .cells⟩] :=
      cOut_start Tryz.func18 rfl (p18f hE x n 0 0 0 0 0 0 0 0 [] [] [] 0 0 (decide_eq_true (by simp only [Int.ofNat_eq_natCast]; omega)) (l18 hE x n (by omega) h0 (by omega) (n - 1) 1 (by omega) (by omega)) fun _ => undef)
    have hlen := drawn_len x n
    exact cOut_clear (cOut_freeze 0 hc1 rfl (Nat.zero_le _) (ds := iD (drawn x n)) (.inr ⟨0, n, 1, n, false, iD (drawn x n), rfl, rfl, by rw [takeL_eq, dropL_eq, List.drop_zero, if_pos (by simp [hlen]), List.take_of_length_le (by simp [hlen])]⟩)) rfl
  · have e : n = 0 := by omega
    subst e
    exact cOut_nil1 (p := none) (c := 0) 1 (cOut_start Tryz.func18 rfl (p18z hE x 0 0 0 0 0 0 0 0 (-1) [] [] [] 0 0 (by decide) (iIe (wrap_id (by decide) (by decide))) (by decide) (fun j => outK_ret (ends_ret (by kernel_rfl))) fun _ => undef))
theorem K21k (hE : EnvOk E) (xs : List Int) (n : Nat) (hn : xs.length = n) (hm : n ≤ 4000000) : COut E 0 [] 21 [.e (.one (.dp (.s (iD xs) n 1))), iI 0, iI 0, .e (.one (.dp (.s (iD xs) n 1)))] (iB true) [] := by
  subst hn
  exact K21 hE xs hm
theorem K16 (hE : EnvOk E) (x : Int) : COut E 0 [] 16 [iI x] (iI (rngI 1 2147483646 x)) [] :=
  cOut_start Tryz.func16 rfl (p16 hE x 0 _ 0 0 (K17 hE _ _ _) (fun j => outK_ret (ends_ret (by kernel_rfl))) fun _ => undef)
/-! Ratios. -/
def chkRt (a b : Int) : Int := firstI [rngI (-999999999) 999999999 a, rngI 1 999999999 b]
def chkRat (a b : Int) : Int := if chkRt a b ≠ 0 then chkRt a b else if decide ((Int.ofNat (Nat.gcd a.natAbs b.toNat) : Int) > 1) then 1 else 0
theorem chkRt_zero {a b : Int} (h : chkRt a b = 0) : (-999999999 ≤ a ∧ a ≤ 999999999) ∧ 1 ≤ b ∧ b ≤ 999999999 := by
  unfold chkRt at h
  rw [firstI2] at h
  by_cases h0 : rngI (-999999999) 999999999 a = 0
  · rw [if_pos h0] at h
    unfold rngI at h0 h
    refine ⟨?_, ?_⟩
    · by_cases c : a < -999999999 ∨ 999999999 < a
      · rw [if_pos c] at h0; omega
      · omega
    · by_cases c : b < 1 ∨ 999999999 < b
      · rw [if_pos c] at h; omega
      · omega
  · rw [if_neg h0] at h
    exact (h0 h).elim
theorem wrapS {n : Int} (h0 : -9223372036854775808 ≤ n) (h1 : n ≤ 9223372036854775807) : IntKind.i64.wrap n = n := by
  have := wrap_id h0 h1
  rwa [wrapF_eq] at this
theorem K22 (hE : EnvOk E) (a b : Int) : COut E 0 [] 22 [.e (.agg [.v (.int .i64 a), .v (.int .i64 b)])] (iI (chkRat a b)) [] := by
  have k79 := lend2 2 hE 79 [rngI (-999999999) 999999999 a, rngI 1 999999999 b] _ 26 true (K79 hE _ (by simp)) [some ⟨[.v (.int .i64 a), .v (.int .i64 b)], 2, 34, true, .cells⟩, some ⟨[.v (.int .i64 (rngI (-999999999) 999999999 a)), .v (.int .i64 (rngI 1 999999999 b))], 2, 26, true, .cells⟩] 1 rfl
  unfold chkRat
  by_cases h : chkRt a b = 0
  · rw [if_neg (not_not_intro h)]
    obtain ⟨ha, hb⟩ := chkRt_zero h
    rw [show firstI [rngI (-999999999) 999999999 a, rngI 1 999999999 b] = 0 from h] at k79
    have em : (if -a > a then -a else a) = Int.ofNat a.natAbs := by
      by_cases c : -a > a
      · rw [if_pos c]; simp only [Int.ofNat_eq_natCast]; omega
      · rw [if_neg c]; simp only [Int.ofNat_eq_natCast]; omega
    have hg := K86 hE a.natAbs b.toNat
    rw [show Int.ofNat b.toNat = b by simp only [Int.ofNat_eq_natCast]; omega] at hg
    exact cOut_start Tryz.func22 rfl (p22a hE a b _ _ 0 _ _ _ (-a) (K80 hE _ _ _) (K80 hE _ _ _) k79 rfl (by rw [wrapS (by omega) (by omega), Int.zero_sub]) (by rw [em]) hg (k107 hE _ 1) (fun j => outK_ret (ends_ret (by kernel_rfl))) fun _ => undef)
  · rw [if_pos h]
    exact cOut_start Tryz.func22 rfl (p22e hE a b _ _ _ 0 0 0 0 (K80 hE _ _ _) (K80 hE _ _ _) k79 (bne_iff_ne.2 h) (fun j => outK_ret (ends_ret (by kernel_rfl))) fun _ => undef)
theorem K23 (hE : EnvOk E) (a b : Int) : COut E 0 [] 23 [.e (.agg [.v (.int .i64 a), .v (.int .i64 b)])] (iI (chkRat a b)) [] := by
  have k81 := lend2 2 hE 81 [rngI (-999999999) 999999999 a, rngI 1 999999999 b] _ 3 true (K81 hE _ (by simp)) [some ⟨[.v (.int .i64 a), .v (.int .i64 b)], 2, 34, true, .cells⟩, some ⟨[.v (.int .i64 (rngI (-999999999) 999999999 a)), .v (.int .i64 (rngI 1 999999999 b))], 2, 3, true, .cells⟩] 1 rfl
  unfold chkRat
  by_cases h : chkRt a b = 0
  · rw [if_neg (not_not_intro h)]
    obtain ⟨ha, hb⟩ := chkRt_zero h
    rw [show firstI [rngI (-999999999) 999999999 a, rngI 1 999999999 b] = 0 from h] at k81
    have hg := K87 hE a b.toNat (by omega) (by omega)
    rw [show Int.ofNat b.toNat = b by simp only [Int.ofNat_eq_natCast]; omega] at hg
    exact cOut_start Tryz.func23 rfl (p23a hE a b _ _ 0 0 _ _ 0 (K17 hE _ _ _) (K17 hE _ _ _) k81 rfl hg (k60 hE _ 1) (fun j => outK_ret (ends_ret (by kernel_rfl))) fun _ => undef)
  · rw [if_pos h]
    exact cOut_start Tryz.func23 rfl (p23e hE a b _ _ _ 0 0 0 0 (K17 hE _ _ _) (K17 hE _ _ _) k81 (bne_iff_ne.2 h) (fun j => outK_ret (ends_ret (by kernel_rfl))) fun _ => undef)
/-- The law's run. -/
theorem namRun (hE : EnvOk E) (hA : COut E 0 [] 13 [] (iB true) []) (s : ByteArray) (n0 n1 n2 n3 : Int) (w : Nat) : COut E 0 [] 3 [.e (.one (.v (.string s))), .e (.agg [.v (.int .i64 n0), .v (.int .i64 n1), .v (.int .i64 n2), .v (.int .i64 n3)]), .e (.one (.v (.float .f32 w)))] (iB true) [] := by
  by_cases hs : s.size ≤ 40
  · have d1 : decide ((Int.ofNat s.size : Int) > 40) = false := decide_eq_false (by simp only [Int.ofNat_eq_natCast]; omega)
    have h15 := lend2 2 hE 15 [rngI 1 2147483646 n0, rngI 0 256 n1] _ 3 true (K15 hE _ (by simp)) [some ⟨[.v (.int .i64 n0), .v (.int .i64 n1), .v (.int .i64 n2), .v (.int .i64 n3)], 4, 22, true, .cells⟩, some ⟨[.v (.int .i64 (rngI 1 2147483646 n0)), .v (.int .i64 (rngI 0 256 n1))], 2, 3, true, .cells⟩] 1 rfl
    have bb : ∀ b : Bool, (b == b) = true := fun b => by simp
    have ii : ∀ z : Int, (z == z) = true := fun z => by simp
    by_cases hD : chkDr n0 n1 = 0
    · rw [show firstI [rngI 1 2147483646 n0, rngI 0 256 n1] = 0 from hD] at h15
      obtain ⟨hx, hn⟩ := chkDr_zero hD
      obtain ⟨x, rfl⟩ : ∃ x : Nat, n0 = Int.ofNat x := ⟨n0.toNat, by simp only [Int.ofNat_eq_natCast]; omega⟩
      obtain ⟨n, rfl⟩ : ∃ n : Nat, n1 = Int.ofNat n := ⟨n1.toNat, by simp only [Int.ofNat_eq_natCast]; omega⟩
      simp only [Int.ofNat_eq_natCast] at hx hn
      exact cOut_start Tryz.func3 rfl (p3o hE s (Int.ofNat x) (Int.ofNat n) n2 n3 _ w n 0 _ _ 0 _ _ (iD (drawn x n)) (nameB s) rfl d1 (K14 hE x n hD) (K16 hE _) (K17 hE _ _ _) h15 rfl (K18 hE x n hD) (K19 hE s) (K20 hE s) (by rw [bb]) (K21k hE (drawn x n) n (drawn_len x n) (by omega)) (K22 hE _ _) (K23 hE _ _) (by rw [ii]) (k24 hE w) (k25 hE w) (by rw [ii]) hA (fun j => outK_ret (ends_ret (by kernel_rfl))) fun _ => undef)
    · exact cOut_start Tryz.func3 rfl (p3e hE s n0 n1 n2 n3 _ w 0 _ _ _ _ _ _ [] (nameB s) rfl d1 (K14e hE n0 n1 hD) (K16 hE _) (K17 hE _ _ _) h15 (beq_eq_false_iff_ne.2 hD) (K19 hE s) (K20 hE s) (by rw [bb]) (K21n hE hD) (K22 hE _ _) (K23 hE _ _) (by rw [ii]) (k24 hE w) (k25 hE w) (by rw [ii]) hA (fun j => outK_ret (ends_ret (by kernel_rfl))) fun _ => undef)
  · exact cOut_start Tryz.func3 rfl (p3n hE s n0 n1 n2 n3 _ w 0 0 0 0 0 0 0 [] true rfl (decide_eq_true (by simp only [Int.ofNat_eq_natCast]; omega)) hA (fun j => outK_ret (ends_ret (by kernel_rfl))) fun _ => undef)
end
end Go.Proofs.YtdjjpjahlhdjnaaGreatDoor

end
