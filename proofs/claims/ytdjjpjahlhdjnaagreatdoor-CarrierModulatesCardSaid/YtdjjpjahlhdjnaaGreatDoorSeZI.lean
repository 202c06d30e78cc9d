/-
  Part of the proof: SeMb.
-/
import Derived.Test.YtdjjpjahlhdjnaaGreatDoorSeZH

/-! SeMb -/
section
open Go Go.Ev
namespace Go.Proofs.YtdjjpjahlhdjnaaGreatDoor
noncomputable section
set_option maxRecDepth 100000
set_option maxHeartbeats 20000000
def s113 (a b _v _c _d _x _p _best _y : Int) (_u : Bool) (_j : Nat → Value) : St := startK Tryz.f113 [] [.e (.agg [.v (.int .i64 a), .v (.int .i64 b)])]
def s114 (a b _v _c _d _x _p _best _y : Int) (_u : Bool) (_j : Nat → Value) : St := startK Tryz.f114 [] [.e (.agg [.v (.int .i64 a), .v (.int .i64 b)])]
def s115 (a b _v _c _d _x _p _best _y : Int) (_u : Bool) (_j : Nat → Value) : St := startK Tryz.f115 [] [.e (.agg [.v (.int .i64 a), .v (.int .i64 b)])]
def s69 (C : List DT) (n _i _b : Nat) (_e : Int) (_j : Nat → Value) : St := startK Tryz.f69 [] [(.e (.one (.dp (.s C n 1)))), (.e (.one (.dp (.s C n 1))))]
def s69n (_C : List DT) (_n _i _b : Nat) (_e : Int) (_j : Nat → Value) : St := startK Tryz.f69 [] [(.e (.one (.dp (.s [] 0 1)))), (.e (.one (.v (.slice none 0 0))))]
def s48 (C : List DT) (n _i _b : Nat) (_e : Int) (_j : Nat → Value) : St := startK Tryz.f48 [] [(.e (.one (.dp (.s C n 1)))), iI 0, iI 0, (.e (.one (.dp (.s C n 1))))]
def s48n (_C : List DT) (_n _i _b : Nat) (e : Int) (_j : Nat → Value) : St := startK Tryz.f48 [] [(.e (.one (.dp (.s [] 0 1)))), iI e, iI e, (.e (.one (.v (.slice none 0 0))))]
def q113_1 (a b _v _c _d _x p best _y : Int) (u : Bool) (j : Nat → Value) : St := ⟨[(.some ⟨[(.v (.int .i64 (a))), (.v (.int .i64 (b)))], 2, 160, true, .cells⟩)], [(.code (atC [1, 1, 0, 1, 0, 0] (bodyOf Tryz.f113))), (.inLoop (atC [1, 1, 0, 1, 0, 0] (bodyOf Tryz.f113))), (.inBlock 0), (.code (atC [1, 1, 1] (bodyOf Tryz.f113)))], mkT j [(1, (.e (.one (.ptr 0 0)))), (4, (iI p)), (5, (iI best)), (6, (iB u)), (7, (iI 1))] 32 0⟩
def q113_2 (a b _v _c _d _x p best _y : Int) (u : Bool) (j : Nat → Value) : St := ⟨[(.some ⟨[(.v (.int .i64 (a))), (.v (.int .i64 (b)))], 2, 160, true, .cells⟩)], [(.code (atC [1, 1, 0, 1, 0, 0] (bodyOf Tryz.f113))), (.inLoop (atC [1, 1, 0, 1, 0, 0] (bodyOf Tryz.f113))), (.inBlock 0), (.code (atC [1, 1, 1] (bodyOf Tryz.f113)))], mkT j [(1, (.e (.one (.ptr 0 0)))), (4, (iI p)), (5, (iI best)), (6, (iB u)), (7, (iI 2))] 32 0⟩
def q113_3 (a b _v _c _d _x p best _y : Int) (u : Bool) (j : Nat → Value) : St := ⟨[(.some ⟨[(.v (.int .i64 (a))), (.v (.int .i64 (b)))], 2, 160, true, .cells⟩)], [(.code (atC [1, 1, 0, 1, 0, 0] (bodyOf Tryz.f113))), (.inLoop (atC [1, 1, 0, 1, 0, 0] (bodyOf Tryz.f113))), (.inBlock 0), (.code (atC [1, 1, 1] (bodyOf Tryz.f113)))], mkT j [(1, (.e (.one (.ptr 0 0)))), (4, (iI p)), (5, (iI best)), (6, (iB u)), (7, (iI 3))] 32 0⟩
def q113_4 (a b _v _c _d _x p best _y : Int) (u : Bool) (j : Nat → Value) : St := ⟨[(.some ⟨[(.v (.int .i64 (a))), (.v (.int .i64 (b)))], 2, 160, true, .cells⟩)], [(.code (atC [1, 1, 0, 1, 0, 0] (bodyOf Tryz.f113))), (.inLoop (atC [1, 1, 0, 1, 0, 0] (bodyOf Tryz.f113))), (.inBlock 0), (.code (atC [1, 1, 1] (bodyOf Tryz.f113)))], mkT j [(1, (.e (.one (.ptr 0 0)))), (4, (iI p)), (5, (iI best)), (6, (iB u)), (7, (iI 4))] 32 0⟩
def q69 (C : List DT) (n i _b : Nat) (_e : Int) (j : Nat → Value) : St := ⟨[], [(.code (atC [1, 1, 0, 1, 0, 0] (bodyOf Tryz.f69))), (.inLoop (atC [1, 1, 0, 1, 0, 0] (bodyOf Tryz.f69))), (.inBlock 0), (.code (atC [1, 1, 1] (bodyOf Tryz.f69)))], mkT j [(0, (.e (.one (.dp (.s (C) (n) 1))))), (1, (.e (.one (.dp (.s (C) (n) 1))))), (5, (iI (Int.ofNat i)))] 26 0⟩
def p113a_end (a b _v _c _d _x _p _best _y : Int) (_u : Bool) (j : Nat → Value) : St := ⟨[(.some ⟨[(.v (.int .i64 (a))), (.v (.int .i64 (b)))], 2, 160, true, .cells⟩)], [(.code (atC [1, 1, 0, 1, 0, 0] (bodyOf Tryz.f113))), (.inLoop (atC [1, 1, 0, 1, 0, 0] (bodyOf Tryz.f113))), (.inBlock 0), (.code (atC [1, 1, 1] (bodyOf Tryz.f113)))], mkT j [(1, (.e (.one (.ptr 0 0)))), (4, (iI 0)), (5, (iI (a))), (6, (iB true)), (7, (iI 1))] 32 0⟩
theorem p113a (hE : EnvOk E) (a b v c d x p best y : Int) (u : Bool)  {Φ : Res → Prop} (ho : ∀ j, OutK E 0 0 (p113a_end a b v c d x p best y u j) Φ) (j : Nat → Value) : OutK E 0 0 (s113 a b v c d x p best y u j) Φ :=
  outK_seg hE (R0_ok hE) [.run 9] [1, 4, 5, 6, 7] (ps := []) (fun j => by kernel_rfl) trivial
    ho
def p114_end (a _b v _c _d _x _p _best _y : Int) (_u : Bool) (j : Nat → Value) : St := ⟨[(.some ⟨[(.v (.int .i64 (a))), (.v (.int .i64 (v)))], 2, 160, true, .cells⟩)], [(.code .ret)], mkT j [(2, (.e (.one (.ptr 0 0))))] 9 0⟩
theorem p114 (hE : EnvOk E) (a b v c d x p best y : Int) (u : Bool) (h0 : ((iI (IntKind.i64.wrap ((0 : Int) - b))) : AV) = (iI (v))) {Φ : Res → Prop} (ho : ∀ j, OutK E 0 0 (p114_end a b v c d x p best y u j) Φ) (j : Nat → Value) : OutK E 0 0 (s114 a b v c d x p best y u j) Φ :=
  outK_seg hE (R0_ok hE) [.run 3, (.ops [(4, (.rn (iI (v))))] [])] [2] (s' := fun j => ⟨[(.some ⟨[(.v (.int .i64 (a))), (.v (.int .i64 (b)))], 2, 160, true, .cells⟩), (.some ⟨[(.v (.int .i64 (a))), (.v (.int .i64 (v)))], 2, 160, true, .cells⟩)], [(.code .ret)], mkT j [(2, (.e (.one (.ptr 1 0))))] 9 0⟩) (fun j => by kernel_rfl) (aP h0 <| aZ)
    fun j => outK_gc [1] (by decide) (by kernel_rfl) (by kernel_rfl) (by kernel_rfl) (ho j)
def p115_end (a _b v _c _d _x _p _best _y : Int) (_u : Bool) (j : Nat → Value) : St := ⟨[(.some ⟨[(.v (.int .i64 (a))), (.v (.int .i64 (v)))], 2, 160, true, .cells⟩)], [(.code .ret)], mkT j [(2, (.e (.one (.ptr 0 0))))] 9 0⟩
theorem p115 (hE : EnvOk E) (a b v c d x p best y : Int) (u : Bool) (h0 : ((iI (wrapF IntKind.i64 ((0 : Int) - b))) : AV) = (iI (v))) {Φ : Res → Prop} (ho : ∀ j, OutK E 0 0 (p115_end a b v c d x p best y u j) Φ) (j : Nat → Value) : OutK E 0 0 (s115 a b v c d x p best y u j) Φ :=
  outK_seg hE (R0_ok hE) [.run 3, (.ops [(4, (.rn (iI (v))))] [])] [2] (s' := fun j => ⟨[(.some ⟨[(.v (.int .i64 (a))), (.v (.int .i64 (b)))], 2, 160, true, .cells⟩), (.some ⟨[(.v (.int .i64 (a))), (.v (.int .i64 (v)))], 2, 160, true, .cells⟩)], [(.code .ret)], mkT j [(2, (.e (.one (.ptr 1 0))))] 9 0⟩) (fun j => by kernel_rfl) (aP h0 <| aZ)
    fun j => outK_gc [1] (by decide) (by kernel_rfl) (by kernel_rfl) (by kernel_rfl) (ho j)
def p69a_end (C : List DT) (n _i _b : Nat) (_e : Int) (j : Nat → Value) : St := ⟨[], [(.code (atC [1, 1, 0, 1, 0, 0] (bodyOf Tryz.f69))), (.inLoop (atC [1, 1, 0, 1, 0, 0] (bodyOf Tryz.f69))), (.inBlock 0), (.code (atC [1, 1, 1] (bodyOf Tryz.f69)))], mkT j [(0, (.e (.one (.dp (.s (C) (n) 1))))), (1, (.e (.one (.dp (.s (C) (n) 1))))), (5, (iI 0))] 26 0⟩
theorem p69a (hE : EnvOk E) (C : List DT) (n i b : Nat) (e : Int) (h0 : ((↑n : Int) != (↑n : Int) : Bool) = false) {Φ : Res → Prop} (ho : ∀ j, OutK E 0 0 (p69a_end C n i b e j) Φ) (j : Nat → Value) : OutK E 0 0 (s69 C n i b e j) Φ :=
  outK_seg hE (R0_ok hE) [.run 4, (.ops [(1, (.d .len)), (3, (.d .len))] []), (.cond false), .run 6] [0, 1, 5] (fun j => by kernel_rfl) (aP h0 <| aZ)
    ho
def p69n_end (_C : List DT) (_n _i _b : Nat) (_e : Int) (j : Nat → Value) : St := ⟨[], [(.code .ret)], mkT j [(4, (iB true))] 26 0⟩
theorem p69n (hE : EnvOk E) (C : List DT) (n i b : Nat) (e : Int)  {Φ : Res → Prop} (ho : ∀ j, OutK E 0 0 (p69n_end C n i b e j) Φ) (j : Nat → Value) : OutK E 0 0 (s69n C n i b e j) Φ :=
  outK_seg hE (R0_ok hE) [.run 4, (.ops [(1, (.d .len))] []), .run 9, (.ops [(2, (.d .len))] []), .run 4] [4] (ps := []) (fun j => by kernel_rfl) trivial
    ho
def p48_end (_C : List DT) (_n _i _b : Nat) (_e : Int) (j : Nat → Value) : St := ⟨[], [(.code .ret)], mkT j [(8, (iB true))] 19 0⟩
theorem p48 (hE : EnvOk E) (C : List DT) (n i b : Nat) (e : Int) (h0 : COut E 0 [] 69 [(.e (.one (.dp (.s (C) (n) 1)))), (.e (.one (.dp (.s (C) (n) 1))))] (iB true) []) {Φ : Res → Prop} (ho : ∀ j, OutK E 0 0 (p48_end C n i b e j) Φ) (j : Nat → Value) : OutK E 0 0 (s48 C n i b e j) Φ :=
  outK_seg hE (R0_ok hE) [.run 8, (.ops [(2, (.c0 (iB true)))] [])] [8] (fun j => by kernel_rfl) (aP h0 <| aN <| aZ)
    ho
def p48n_end (_C : List DT) (_n _i _b : Nat) (e : Int) (j : Nat → Value) : St := ⟨[], [(.code .ret)], mkT j [(8, (iB (e == e)))] 19 0⟩
theorem p48n (hE : EnvOk E) (C : List DT) (n i b : Nat) (e : Int) (h0 : (e != (0 : Int) : Bool) = true) (h1 : COut E 0 [] 69 [(.e (.one (.dp (.s [] 0 1)))), (.e (.one (.v (.slice none 0 0))))] (iB true) []) {Φ : Res → Prop} (ho : ∀ j, OutK E 0 0 (p48n_end C n i b e j) Φ) (j : Nat → Value) : OutK E 0 0 (s48n C n i b e j) Φ :=
  outK_seg hE (R0_ok hE) [.run 5, (.cond true), .run 2, (.ops [(2, (.c0 (iB true)))] [])] [8] (fun j => by kernel_rfl) (aP h0 <| aP h1 <| aN <| aZ)
    ho
def p113_1L_end (a b _v _c _d _x p best _y : Int) (u : Bool) (j : Nat → Value) : St := ⟨[(.some ⟨[(.v (.int .i64 (a))), (.v (.int .i64 (b)))], 2, 160, true, .cells⟩)], [(.code (atC [1, 1, 0, 1, 0, 0] (bodyOf Tryz.f113))), (.inLoop (atC [1, 1, 0, 1, 0, 0] (bodyOf Tryz.f113))), (.inBlock 0), (.code (atC [1, 1, 1] (bodyOf Tryz.f113)))], mkT j [(1, (.e (.one (.ptr 0 0)))), (4, (iI (p))), (5, (iI (best))), (6, (iB (u))), (7, (iI 2))] 32 0⟩
theorem p113_1L (hE : EnvOk E) (a b v c d x p best y : Int) (u : Bool) (h1 : COut E 0 [] 105 [(.e (.agg [(.v (.int .i64 (a))), (.v (.int .i64 (b)))])), (.e (.agg [(.v (.int .i64 0)), (.v (.int .i64 (-1)))]))] (.e (.agg [(.v (.int .i64 (x))), (.v (.int .i64 (y)))])) []) (h3 : (x == best : Bool) = false) (h4 : (decide (x > best) : Bool) = false) {Φ : Res → Prop} (ho : ∀ j, OutK E 0 0 (p113_1L_end a b v c d x p best y u j) Φ) (j : Nat → Value) : OutK E 0 0 (q113_1 a b v c d x p best y u j) Φ :=
  outK_seg hE (R0_ok hE) [.run 8, (.ops [(5, (.c0 (.e (.agg [(.v (.int .i64 (x))), (.v (.int .i64 (y)))]))))] []), .run 3, (.cond false), .run 3, (.cond false), .run 4] [1, 4, 5, 6, 7] (fun j => by kernel_rfl) (aP (rfl : (true : Bool) = true) <| aP h1 <| aN <| aP h3 <| aP h4 <| aZ)
    ho
def p113_1E_end (a b _v _c _d _x p best _y : Int) (_u : Bool) (j : Nat → Value) : St := ⟨[(.some ⟨[(.v (.int .i64 (a))), (.v (.int .i64 (b)))], 2, 160, true, .cells⟩)], [(.code (atC [1, 1, 0, 1, 0, 0] (bodyOf Tryz.f113))), (.inLoop (atC [1, 1, 0, 1, 0, 0] (bodyOf Tryz.f113))), (.inBlock 0), (.code (atC [1, 1, 1] (bodyOf Tryz.f113)))], mkT j [(1, (.e (.one (.ptr 0 0)))), (4, (iI (p))), (5, (iI (best))), (6, (iB false)), (7, (iI 2))] 32 0⟩
theorem p113_1E (hE : EnvOk E) (a b v c d x p best y : Int) (u : Bool) (h1 : COut E 0 [] 105 [(.e (.agg [(.v (.int .i64 (a))), (.v (.int .i64 (b)))])), (.e (.agg [(.v (.int .i64 0)), (.v (.int .i64 (-1)))]))] (.e (.agg [(.v (.int .i64 (x))), (.v (.int .i64 (y)))])) []) (h3 : (x == best : Bool) = true) (h4 : (decide (x > best) : Bool) = false) {Φ : Res → Prop} (ho : ∀ j, OutK E 0 0 (p113_1E_end a b v c d x p best y u j) Φ) (j : Nat → Value) : OutK E 0 0 (q113_1 a b v c d x p best y u j) Φ :=
  outK_seg hE (R0_ok hE) [.run 8, (.ops [(5, (.c0 (.e (.agg [(.v (.int .i64 (x))), (.v (.int .i64 (y)))]))))] []), .run 3, (.cond true), .run 3, (.cond false), .run 4] [1, 4, 5, 6, 7] (fun j => by kernel_rfl) (aP (rfl : (true : Bool) = true) <| aP h1 <| aN <| aP h3 <| aP h4 <| aZ)
    ho
def p113_1G_end (a b _v _c _d x _p _best _y : Int) (_u : Bool) (j : Nat → Value) : St := ⟨[(.some ⟨[(.v (.int .i64 (a))), (.v (.int .i64 (b)))], 2, 160, true, .cells⟩)], [(.code (atC [1, 1, 0, 1, 0, 0] (bodyOf Tryz.f113))), (.inLoop (atC [1, 1, 0, 1, 0, 0] (bodyOf Tryz.f113))), (.inBlock 0), (.code (atC [1, 1, 1] (bodyOf Tryz.f113)))], mkT j [(1, (.e (.one (.ptr 0 0)))), (4, (iI 1)), (5, (iI (x))), (6, (iB true)), (7, (iI 2))] 32 0⟩
theorem p113_1G (hE : EnvOk E) (a b v c d x p best y : Int) (u : Bool) (h1 : COut E 0 [] 105 [(.e (.agg [(.v (.int .i64 (a))), (.v (.int .i64 (b)))])), (.e (.agg [(.v (.int .i64 0)), (.v (.int .i64 (-1)))]))] (.e (.agg [(.v (.int .i64 (x))), (.v (.int .i64 (y)))])) []) (h3 : (x == best : Bool) = false) (h4 : (decide (x > best) : Bool) = true) {Φ : Res → Prop} (ho : ∀ j, OutK E 0 0 (p113_1G_end a b v c d x p best y u j) Φ) (j : Nat → Value) : OutK E 0 0 (q113_1 a b v c d x p best y u j) Φ :=
  outK_seg hE (R0_ok hE) [.run 8, (.ops [(5, (.c0 (.e (.agg [(.v (.int .i64 (x))), (.v (.int .i64 (y)))]))))] []), .run 3, (.cond false), .run 3, (.cond true), .run 4] [1, 4, 5, 6, 7] (fun j => by kernel_rfl) (aP (rfl : (true : Bool) = true) <| aP h1 <| aN <| aP h3 <| aP h4 <| aZ)
    ho
def p113_2L_end (a b _v _c _d _x p best _y : Int) (u : Bool) (j : Nat → Value) : St := ⟨[(.some ⟨[(.v (.int .i64 (a))), (.v (.int .i64 (b)))], 2, 160, true, .cells⟩)], [(.code (atC [1, 1, 0, 1, 0, 0] (bodyOf Tryz.f113))), (.inLoop (atC [1, 1, 0, 1, 0, 0] (bodyOf Tryz.f113))), (.inBlock 0), (.code (atC [1, 1, 1] (bodyOf Tryz.f113)))], mkT j [(1, (.e (.one (.ptr 0 0)))), (4, (iI (p))), (5, (iI (best))), (6, (iB (u))), (7, (iI 3))] 32 0⟩
theorem p113_2L (hE : EnvOk E) (a b v c d x p best y : Int) (u : Bool) (h1 : COut E 0 [] 105 [(.e (.agg [(.v (.int .i64 (a))), (.v (.int .i64 (b)))])), (.e (.agg [(.v (.int .i64 (-1))), (.v (.int .i64 0))]))] (.e (.agg [(.v (.int .i64 (x))), (.v (.int .i64 (y)))])) []) (h3 : (x == best : Bool) = false) (h4 : (decide (x > best) : Bool) = false) {Φ : Res → Prop} (ho : ∀ j, OutK E 0 0 (p113_2L_end a b v c d x p best y u j) Φ) (j : Nat → Value) : OutK E 0 0 (q113_2 a b v c d x p best y u j) Φ :=
  outK_seg hE (R0_ok hE) [.run 8, (.ops [(5, (.c0 (.e (.agg [(.v (.int .i64 (x))), (.v (.int .i64 (y)))]))))] []), .run 3, (.cond false), .run 3, (.cond false), .run 4] [1, 4, 5, 6, 7] (fun j => by kernel_rfl) (aP (rfl : (true : Bool) = true) <| aP h1 <| aN <| aP h3 <| aP h4 <| aZ)
    ho
def p113_2E_end (a b _v _c _d _x p best _y : Int) (_u : Bool) (j : Nat → Value) : St := ⟨[(.some ⟨[(.v (.int .i64 (a))), (.v (.int .i64 (b)))], 2, 160, true, .cells⟩)], [(.code (atC [1, 1, 0, 1, 0, 0] (bodyOf Tryz.f113))), (.inLoop (atC [1, 1, 0, 1, 0, 0] (bodyOf Tryz.f113))), (.inBlock 0), (.code (atC [1, 1, 1] (bodyOf Tryz.f113)))], mkT j [(1, (.e (.one (.ptr 0 0)))), (4, (iI (p))), (5, (iI (best))), (6, (iB false)), (7, (iI 3))] 32 0⟩
theorem p113_2E (hE : EnvOk E) (a b v c d x p best y : Int) (u : Bool) (h1 : COut E 0 [] 105 [(.e (.agg [(.v (.int .i64 (a))), (.v (.int .i64 (b)))])), (.e (.agg [(.v (.int .i64 (-1))), (.v (.int .i64 0))]))] (.e (.agg [(.v (.int .i64 (x))), (.v (.int .i64 (y)))])) []) (h3 : (x == best : Bool) = true) (h4 : (decide (x > best) : Bool) = false) {Φ : Res → Prop} (ho : ∀ j, OutK E 0 0 (p113_2E_end a b v c d x p best y u j) Φ) (j : Nat → Value) : OutK E 0 0 (q113_2 a b v c d x p best y u j) Φ :=
  outK_seg hE (R0_ok hE) [.run 8, (.ops [(5, (.c0 (.e (.agg [(.v (.int .i64 (x))), (.v (.int .i64 (y)))]))))] []), .run 3, (.cond true), .run 3, (.cond false), .run 4] [1, 4, 5, 6, 7] (fun j => by kernel_rfl) (aP (rfl : (true : Bool) = true) <| aP h1 <| aN <| aP h3 <| aP h4 <| aZ)
    ho
def p113_2G_end (a b _v _c _d x _p _best _y : Int) (_u : Bool) (j : Nat → Value) : St := ⟨[(.some ⟨[(.v (.int .i64 (a))), (.v (.int .i64 (b)))], 2, 160, true, .cells⟩)], [(.code (atC [1, 1, 0, 1, 0, 0] (bodyOf Tryz.f113))), (.inLoop (atC [1, 1, 0, 1, 0, 0] (bodyOf Tryz.f113))), (.inBlock 0), (.code (atC [1, 1, 1] (bodyOf Tryz.f113)))], mkT j [(1, (.e (.one (.ptr 0 0)))), (4, (iI 2)), (5, (iI (x))), (6, (iB true)), (7, (iI 3))] 32 0⟩
theorem p113_2G (hE : EnvOk E) (a b v c d x p best y : Int) (u : Bool) (h1 : COut E 0 [] 105 [(.e (.agg [(.v (.int .i64 (a))), (.v (.int .i64 (b)))])), (.e (.agg [(.v (.int .i64 (-1))), (.v (.int .i64 0))]))] (.e (.agg [(.v (.int .i64 (x))), (.v (.int .i64 (y)))])) []) (h3 : (x == best : Bool) = false) (h4 : (decide (x > best) : Bool) = true) {Φ : Res → Prop} (ho : ∀ j, OutK E 0 0 (p113_2G_end a b v c d x p best y u j) Φ) (j : Nat → Value) : OutK E 0 0 (q113_2 a b v c d x p best y u j) Φ :=
  outK_seg hE (R0_ok hE) [.run 8, (.ops [(5, (.c0 (.e (.agg [(.v (.int .i64 (x))), (.v (.int .i64 (y)))]))))] []), .run 3, (.cond false), .run 3, (.cond true), .run 4] [1, 4, 5, 6, 7] (fun j => by kernel_rfl) (aP (rfl : (true : Bool) = true) <| aP h1 <| aN <| aP h3 <| aP h4 <| aZ)
    ho
def p113_3L_end (a b _v _c _d _x p best _y : Int) (u : Bool) (j : Nat → Value) : St := ⟨[(.some ⟨[(.v (.int .i64 (a))), (.v (.int .i64 (b)))], 2, 160, true, .cells⟩)], [(.code (atC [1, 1, 0, 1, 0, 0] (bodyOf Tryz.f113))), (.inLoop (atC [1, 1, 0, 1, 0, 0] (bodyOf Tryz.f113))), (.inBlock 0), (.code (atC [1, 1, 1] (bodyOf Tryz.f113)))], mkT j [(1, (.e (.one (.ptr 0 0)))), (4, (iI (p))), (5, (iI (best))), (6, (iB (u))), (7, (iI 4))] 32 0⟩
theorem p113_3L (hE : EnvOk E) (a b v c d x p best y : Int) (u : Bool) (h1 : COut E 0 [] 105 [(.e (.agg [(.v (.int .i64 (a))), (.v (.int .i64 (b)))])), (.e (.agg [(.v (.int .i64 0)), (.v (.int .i64 1))]))] (.e (.agg [(.v (.int .i64 (x))), (.v (.int .i64 (y)))])) []) (h3 : (x == best : Bool) = false) (h4 : (decide (x > best) : Bool) = false) {Φ : Res → Prop} (ho : ∀ j, OutK E 0 0 (p113_3L_end a b v c d x p best y u j) Φ) (j : Nat → Value) : OutK E 0 0 (q113_3 a b v c d x p best y u j) Φ :=
  outK_seg hE (R0_ok hE) [.run 8, (.ops [(5, (.c0 (.e (.agg [(.v (.int .i64 (x))), (.v (.int .i64 (y)))]))))] []), .run 3, (.cond false), .run 3, (.cond false), .run 4] [1, 4, 5, 6, 7] (fun j => by kernel_rfl) (aP (rfl : (true : Bool) = true) <| aP h1 <| aN <| aP h3 <| aP h4 <| aZ)
    ho
def p113_3E_end (a b _v _c _d _x p best _y : Int) (_u : Bool) (j : Nat → Value) : St := ⟨[(.some ⟨[(.v (.int .i64 (a))), (.v (.int .i64 (b)))], 2, 160, true, .cells⟩)], [(.code (atC [1, 1, 0, 1, 0, 0] (bodyOf Tryz.f113))), (.inLoop (atC [1, 1, 0, 1, 0, 0] (bodyOf Tryz.f113))), (.inBlock 0), (.code (atC [1, 1, 1] (bodyOf Tryz.f113)))], mkT j [(1, (.e (.one (.ptr 0 0)))), (4, (iI (p))), (5, (iI (best))), (6, (iB false)), (7, (iI 4))] 32 0⟩
theorem p113_3E (hE : EnvOk E) (a b v c d x p best y : Int) (u : Bool) (h1 : COut E 0 [] 105 [(.e (.agg [(.v (.int .i64 (a))), (.v (.int .i64 (b)))])), (.e (.agg [(.v (.int .i64 0)), (.v (.int .i64 1))]))] (.e (.agg [(.v (.int .i64 (x))), (.v (.int .i64 (y)))])) []) (h3 : (x == best : Bool) = true) (h4 : (decide (x > best) : Bool) = false) {Φ : Res → Prop} (ho : ∀ j, OutK E 0 0 (p113_3E_end a b v c d x p best y u j) Φ) (j : Nat → Value) : OutK E 0 0 (q113_3 a b v c d x p best y u j) Φ :=
  outK_seg hE (R0_ok hE) [.run 8, (.ops [(5, (.c0 (.e (.agg [(.v (.int .i64 (x))), (.v (.int .i64 (y)))]))))] []), .run 3, (.cond true), .run 3, (.cond false), .run 4] [1, 4, 5, 6, 7] (fun j => by kernel_rfl) (aP (rfl : (true : Bool) = true) <| aP h1 <| aN <| aP h3 <| aP h4 <| aZ)
    ho
def p113_3G_end (a b _v _c _d x _p _best _y : Int) (_u : Bool) (j : Nat → Value) : St := ⟨[(.some ⟨[(.v (.int .i64 (a))), (.v (.int .i64 (b)))], 2, 160, true, .cells⟩)], [(.code (atC [1, 1, 0, 1, 0, 0] (bodyOf Tryz.f113))), (.inLoop (atC [1, 1, 0, 1, 0, 0] (bodyOf Tryz.f113))), (.inBlock 0), (.code (atC [1, 1, 1] (bodyOf Tryz.f113)))], mkT j [(1, (.e (.one (.ptr 0 0)))), (4, (iI 3)), (5, (iI (x))), (6, (iB true)), (7, (iI 4))] 32 0⟩
theorem p113_3G (hE : EnvOk E) (a b v c d x p best y : Int) (u : Bool) (h1 : COut E 0 [] 105 [(.e (.agg [(.v (.int .i64 (a))), (.v (.int .i64 (b)))])), (.e (.agg [(.v (.int .i64 0)), (.v (.int .i64 1))]))] (.e (.agg [(.v (.int .i64 (x))), (.v (.int .i64 (y)))])) []) (h3 : (x == best : Bool) = false) (h4 : (decide (x > best) : Bool) = true) {Φ : Res → Prop} (ho : ∀ j, OutK E 0 0 (p113_3G_end a b v c d x p best y u j) Φ) (j : Nat → Value) : OutK E 0 0 (q113_3 a b v c d x p best y u j) Φ :=
  outK_seg hE (R0_ok hE) [.run 8, (.ops [(5, (.c0 (.e (.agg [(.v (.int .i64 (x))), (.v (.int .i64 (y)))]))))] []), .run 3, (.cond false), .run 3, (.cond true), .run 4] [1, 4, 5, 6, 7] (fun j => by kernel_rfl) (aP (rfl : (true : Bool) = true) <| aP h1 <| aN <| aP h3 <| aP h4 <| aZ)
    ho
def p113x_end (_a _b _v _c _d _x p _best _y : Int) (u : Bool) (j : Nat → Value) : St := ⟨[], [(.code .ret)], mkT j [(2, (iI (p))), (3, (iB (u)))] 32 0⟩
theorem p113x (hE : EnvOk E) (a b v c d x p best y : Int) (u : Bool)  {Φ : Res → Prop} (ho : ∀ j, OutK E 0 0 (p113x_end a b v c d x p best y u j) Φ) (j : Nat → Value) : OutK E 0 0 (q113_4 a b v c d x p best y u j) Φ :=
  outK_seg hE (R0_ok hE) [.run 7] [2, 3] (s' := fun j => ⟨[(.some ⟨[(.v (.int .i64 (a))), (.v (.int .i64 (b)))], 2, 160, true, .cells⟩)], [(.code .ret)], mkT j [(2, (iI (p))), (3, (iB (u)))] 32 0⟩) (ps := []) (fun j => by kernel_rfl) trivial
    fun j => outK_gc [] (by decide) (by kernel_rfl) (by kernel_rfl) (by kernel_rfl) (ho j)
def p69s_end (C : List DT) (n i _b : Nat) (_e : Int) (j : Nat → Value) : St := ⟨[], [(.code (atC [1, 1, 0, 1, 0, 0] (bodyOf Tryz.f69))), (.inLoop (atC [1, 1, 0, 1, 0, 0] (bodyOf Tryz.f69))), (.inBlock 0), (.code (atC [1, 1, 1] (bodyOf Tryz.f69)))], mkT j [(0, (.e (.one (.dp (.s (C) (n) 1))))), (1, (.e (.one (.dp (.s (C) (n) 1))))), (5, (iI (Int.ofNat (i + 1))))] 26 0⟩
theorem p69s (hE : EnvOk E) (C : List DT) (n i b : Nat) (e : Int) (h0 : (decide (Int.ofNat i < (↑n : Int)) : Bool) = true) (h1 : (0 : Int) ≤ Int.ofNat i ∧ Int.ofNat i < (↑n : Int)) (h2 : ((Int.ofNat i).toNat * nat_lit 1 : Nat) = i) (h3 : (getL C i : Option DT) = (.some (.v (.float .f32 (b))))) (h4 : (0 : Int) ≤ Int.ofNat i ∧ Int.ofNat i < (↑n : Int)) (h5 : ((Int.ofNat i).toNat * nat_lit 1 : Nat) = i) (h6 : (getL C i : Option DT) = (.some (.v (.float .f32 (b))))) (h8 : (FloatKind.f32.format.order b b != some Ordering.eq : Bool) = false) (h9 : ((iI (wrapF IntKind.i64 (Int.ofNat i + (1 : Int)))) : AV) = (iI (Int.ofNat (i + 1)))) {Φ : Res → Prop} (ho : ∀ j, OutK E 0 0 (p69s_end C n i b e j) Φ) (j : Nat → Value) : OutK E 0 0 (q69 C n i b e j) Φ :=
  outK_seg hE (R0_ok hE) [.run 2, (.ops [(2, (.d .len))] []), (.cond true), .run 4, (.ops [(3, (.d (.ld (.v (.float .f32 (b)))))), (7, (.d (.ld (.v (.float .f32 (b)))))), (2, (.d (.ix (i)))), (6, (.d (.ix (i))))] []), (.cond false), .run 2, (.ops [(1, (.rn (iI (Int.ofNat (i + 1)))))] []), .run 1] [0, 1, 5] (fun j => by kernel_rfl) (aP h0 <| aP h1 <| aP h2 <| aP h3 <| aP h4 <| aP h5 <| aP h6 <| aP (rfl : (true : Bool) = true) <| aP h8 <| aP h9 <| aZ)
    ho
def p69x_end (_C : List DT) (_n _i _b : Nat) (_e : Int) (j : Nat → Value) : St := ⟨[], [(.code .ret)], mkT j [(4, (iB true))] 26 0⟩
theorem p69x (hE : EnvOk E) (C : List DT) (n i b : Nat) (e : Int) (h0 : (decide (Int.ofNat i < (↑n : Int)) : Bool) = false) {Φ : Res → Prop} (ho : ∀ j, OutK E 0 0 (p69x_end C n i b e j) Φ) (j : Nat → Value) : OutK E 0 0 (q69 C n i b e j) Φ :=
  outK_seg hE (R0_ok hE) [.run 2, (.ops [(2, (.d .len))] []), (.cond false), .run 3] [4] (fun j => by kernel_rfl) (aP h0 <| aZ)
    ho

open Ieee
theorem K105w (hE : EnvOk E) {a b c d u v : Int} (h1 : (a * c).natAbs ≤ 2 ^ 60) (h2 : (b * d).natAbs ≤ 2 ^ 60) (h3 : (a * d).natAbs ≤ 2 ^ 60) (h4 : (b * c).natAbs ≤ 2 ^ 60) (hu : a * c - b * d = u) (hv : a * d + b * c = v) : COut E 0 [] 105 [gA a b, gA c d] (gA u v) [] := by
  subst hu hv
  exact cOut_clear (cOut_start Tryz.func105 rfl (p105 hE a b c d _ _ _ _ _ _ (iIe (wr (by omega))) (iIe (wr (by omega))) (iIe (wr (by omega))) (iIe (wr (by omega))) (iIe (wr (by omega))) (iIe (wr (by omega))) (fun j => outK_ret (ends_ret (by kernel_rfl))) fun _ => undef)) rfl
theorem K114 (hE : EnvOk E) {a b : Int} (hb : b.natAbs ≤ 2 ^ 40) : COut E 0 [] 114 [gA a b] (gA a (-b)) [] :=
  cOut_clear (cOut_start Tryz.func114 rfl (p114 hE a b (-b) 0 0 0 0 0 0 false (iIe (by rw [show (0 : Int) - b = -b by omega, ← wrapF_eq]; exact wrap_id (by omega) (by omega))) (fun j => outK_ret (ends_ret (by kernel_rfl))) fun _ => undef)) rfl
theorem K115 (hE : EnvOk E) {a b : Int} (hb : b.natAbs ≤ 2 ^ 40) : COut E 0 [] 115 [gA a b] (gA a (-b)) [] :=
  cOut_clear (cOut_start Tryz.func115 rfl (p115 hE a b (-b) 0 0 0 0 0 0 false (iIe (by rw [show (0 : Int) - b = -b by omega]; exact wrap_id (by omega) (by omega))) (fun j => outK_ret (ends_ret (by kernel_rfl))) fun _ => undef)) rfl
/-! The phase of a product: the best of four numbers, and whether it is so alone. -/
def phS (i v : Int) (t : Int × Int × Bool) : Int × Int × Bool := if v = t.2.1 then (t.1, t.2.1, false) else if v > t.2.1 then (i, v, true) else t
def phQ (a b : Int) : Int × Int × Bool := phS 3 (-b) (phS 2 (-a) (phS 1 b (0, a, true)))
theorem p113_4 (hE : EnvOk E) (a b : Int) (t : Int × Int × Bool) (j : Nat → Value) : OutK E 0 0 (q113_4 a b 0 0 0 0 t.1 t.2.1 0 t.2.2 j) (Go.Ev.Ends E Tryz.f113 (.tup [.one (.v (.int .i64 t.1)), .one (.v (.bool t.2.2))]) []) :=
  p113x hE a b 0 0 0 0 t.1 t.2.1 0 t.2.2 (fun j => outK_ret (ends_ret (by kernel_rfl))) j
theorem s113_1 (hE : EnvOk E) {a b : Int} (ha : a.natAbs ≤ 2 ^ 40) (hb : b.natAbs ≤ 2 ^ 40) (t : Int × Int × Bool) {Φ : Res → Prop} (ho : ∀ t' j, t' = phS 1 b t → OutK E 0 0 (q113_2 a b 0 0 0 0 t'.1 t'.2.1 0 t'.2.2 j) Φ) (j : Nat → Value) : OutK E 0 0 (q113_1 a b 0 0 0 0 t.1 t.2.1 0 t.2.2 j) Φ := by
  have hk : COut E 0 [] 105 [gA a b, gA 0 (-1)] (gA b (-a)) [] := K105w hE (by omega) (by omega) (by omega) (by omega) (by omega) (by omega)
  by_cases h1 : b = t.2.1
  · exact p113_1E hE a b 0 0 0 b t.1 t.2.1 (-a) t.2.2 hk (beq_iff_eq.2 h1) (decide_eq_false (by omega)) (fun j => ho (t.1, t.2.1, false) j (by rw [phS, if_pos h1])) j
  · by_cases h2 : b > t.2.1
    · exact p113_1G hE a b 0 0 0 b t.1 t.2.1 (-a) t.2.2 hk (beq_eq_false_iff_ne.2 h1) (decide_eq_true h2) (fun j => ho (1, b, true) j (by rw [phS, if_neg h1, if_pos h2])) j
    · exact p113_1L hE a b 0 0 0 b t.1 t.2.1 (-a) t.2.2 hk (beq_eq_false_iff_ne.2 h1) (decide_eq_false h2) (fun j => ho t j (by rw [phS, if_neg h1, if_neg h2])) j
theorem s113_2 (hE : EnvOk E) {a b : Int} (ha : a.natAbs ≤ 2 ^ 40) (hb : b.natAbs ≤ 2 ^ 40) (t : Int × Int × Bool) {Φ : Res → Prop} (ho : ∀ t' j, t' = phS 2 (-a) t → OutK E 0 0 (q113_3 a b 0 0 0 0 t'.1 t'.2.1 0 t'.2.2 j) Φ) (j : Nat → Value) : OutK E 0 0 (q113_2 a b 0 0 0 0 t.1 t.2.1 0 t.2.2 j) Φ := by
  have hk : COut E 0 [] 105 [gA a b, gA (-1) 0] (gA (-a) (-b)) [] := K105w hE (by omega) (by omega) (by omega) (by omega) (by omega) (by omega)
  by_cases h1 : (-a) = t.2.1
  · exact p113_2E hE a b 0 0 0 (-a) t.1 t.2.1 (-b) t.2.2 hk (beq_iff_eq.2 h1) (decide_eq_false (by omega)) (fun j => ho (t.1, t.2.1, false) j (by rw [phS, if_pos h1])) j
  · by_cases h2 : (-a) > t.2.1
    · exact p113_2G hE a b 0 0 0 (-a) t.1 t.2.1 (-b) t.2.2 hk (beq_eq_false_iff_ne.2 h1) (decide_eq_true h2) (fun j => ho (2, (-a), true) j (by rw [phS, if_neg h1, if_pos h2])) j
    · exact p113_2L hE a b 0 0 0 (-a) t.1 t.2.1 (-b) t.2.2 hk (beq_eq_false_iff_ne.2 h1) (decide_eq_false h2) (fun j => ho t j (by rw [phS, if_neg h1, if_neg h2])) j
theorem s113_3 (hE : EnvOk E) {a b : Int} (ha : a.natAbs ≤ 2 ^ 40) (hb : b.natAbs ≤ 2 ^ 40) (t : Int × Int × Bool) {Φ : Res → Prop} (ho : ∀ t' j, t' = phS 3 (-b) t → OutK E 0 0 (q113_4 a b 0 0 0 0 t'.1 t'.2.1 0 t'.2.2 j) Φ) (j : Nat → Value) : OutK E 0 0 (q113_3 a b 0 0 0 0 t.1 t.2.1 0 t.2.2 j) Φ := by
  have hk : COut E 0 [] 105 [gA a b, gA 0 1] (gA (-b) a) [] := K105w hE (by omega) (by omega) (by omega) (by omega) (by omega) (by omega)
  by_cases h1 : (-b) = t.2.1
  · exact p113_3E hE a b 0 0 0 (-b) t.1 t.2.1 a t.2.2 hk (beq_iff_eq.2 h1) (decide_eq_false (by omega)) (fun j => ho (t.1, t.2.1, false) j (by rw [phS, if_pos h1])) j
  · by_cases h2 : (-b) > t.2.1
    · exact p113_3G hE a b 0 0 0 (-b) t.1 t.2.1 a t.2.2 hk (beq_eq_false_iff_ne.2 h1) (decide_eq_true h2) (fun j => ho (3, (-b), true) j (by rw [phS, if_neg h1, if_pos h2])) j
    · exact p113_3L hE a b 0 0 0 (-b) t.1 t.2.1 a t.2.2 hk (beq_eq_false_iff_ne.2 h1) (decide_eq_false h2) (fun j => ho t j (by rw [phS, if_neg h1, if_neg h2])) j
theorem K113 (hE : EnvOk E) {a b : Int} (ha : a.natAbs ≤ 2 ^ 40) (hb : b.natAbs ≤ 2 ^ 40) : COut E 0 [] 113 [gA a b] (.tup [.one (.v (.int .i64 (phQ a b).1)), .one (.v (.bool (phQ a b).2.2))]) [] :=
  cOut_clear (cOut_start Tryz.func113 rfl (p113a hE a b 0 0 0 0 0 0 0 false (s113_1 hE ha hb (0, a, true) fun t j ht => s113_2 hE ha hb t (fun t2 j ht2 => s113_3 hE ha hb t2 (fun t3 j ht3 => by
    have e : t3 = phQ a b := by rw [ht3, ht2, ht]; rfl
    rw [← e]
    exact p113_4 hE a b t3 j) j) j) fun _ => undef)) rfl
theorem own_ord {b : Nat} (h : Own b) : (FloatKind.f32.format.order b b != some Ordering.eq) = false := by
  unfold Own Op.floatEq at h
  simpa using h
theorem l69 (hE : EnvOk E) (ws : List Nat) (hm : ws.length ≤ 4000000) (ho : ∀ b ∈ ws, Own b) :
    ∀ m i, m + i = ws.length → ∀ j, OutK E 0 0 (q69 (fDT ws) ws.length i 0 0 j) (Go.Ev.Ends E Tryz.f69 (iB true) [])
  | 0, i, hk, j => p69x hE _ _ i 0 0 (decide_eq_false (by simp only [Int.ofNat_eq_natCast]; omega)) (fun j => outK_ret (ends_ret (by kernel_rfl))) j
  | m + 1, i, hk, j => by
    have hlt : i < ws.length := by omega
    have hb : (0 : Int) ≤ Int.ofNat i ∧ Int.ofNat i < (ws.length : Int) := by simp only [Int.ofNat_eq_natCast]; omega
    exact p69s hE _ _ i (bw ws i) 0 (decide_eq_true hb.2) hb (Nat.mul_one _) (getDF (getW hlt)) hb (Nat.mul_one _) (getDF (getW hlt)) (own_ord (ho _ (memW hlt))) (iIn i (by omega)) (l69 hE ws hm ho m (i + 1) (by omega)) j
theorem K69 (hE : EnvOk E) (ws : List Nat) (hm : ws.length ≤ 4000000) (ho : ∀ b ∈ ws, Own b) : COut E 0 [] 69 [.e (.one (dF ws).ac), .e (.one (dF ws).ac)] (iB true) [] :=
  cOut_start Tryz.func69 rfl (p69a hE _ _ 0 0 0 (by simp) (l69 hE ws hm ho ws.length 0 (by omega)) fun _ => undef)
theorem K69n (hE : EnvOk E) : COut E 0 [] 69 [.e (.one (.dp (.s [] 0 1))), .e (.one (.v (.slice none 0 0)))] (iB true) [] :=
  cOut_start Tryz.func69 rfl (p69n hE [] 0 0 0 0 (fun j => outK_ret (ends_ret (by kernel_rfl))) fun _ => undef)
theorem K48n (hE : EnvOk E) {e : Int} (h : e ≠ 0) : COut E 0 [] 48 [.e (.one (.dp (.s [] 0 1))), iI e, iI e, .e (.one (.v (.slice none 0 0)))] (iB true) [] := by
  have h1 : (e == e) = true := by simp
  have hc := cOut_start Tryz.func48 rfl (v := iB (e == e)) (hout := []) (p48n hE [] 0 0 0 e (bne_iff_ne.2 h) (K69n hE) (fun j => outK_ret (ends_ret (by kernel_rfl))) fun _ => undef)
  rw [h1] at hc
  exact hc
theorem K48 (hE : EnvOk E) (ws : List Nat) (hm : ws.length ≤ 4000000) (ho : ∀ b ∈ ws, Own b) : COut E 0 [] 48 [.e (.one (dF ws).ac), iI 0, iI 0, .e (.one (dF ws).ac)] (iB true) [] :=
  cOut_start Tryz.func48 rfl (p48 hE _ _ 0 0 0 (K69 hE ws hm ho) (fun j => outK_ret (ends_ret (by kernel_rfl))) fun _ => undef)
theorem own_sy {lv : Int} (hl : lv.natAbs ≤ 16384) (k : Nat) : ∀ b ∈ sy lv k, Own b := by
  have h : ∀ q, (lv * reQ q).natAbs < 2 ^ 24 := by
    intro q
    unfold reQ
    split <;> omega
  intro b hb
  simp only [sy, List.mem_cons, List.not_mem_nil, or_false] at hb
  rcases hb with rfl | rfl | rfl | rfl <;> exact own_smp (h _)
theorem own_modA {lv : Int} (hl : lv.natAbs ≤ 16384) (xs : List Int) : ∀ b ∈ modA lv xs, Own b := by
  have h : ∀ (r : List Int) (s : Nat), ∀ b ∈ modL lv s r, Own b := by
    intro r
    induction r with
    | nil => intro s b hb; simp [modL] at hb
    | cons x r ih =>
      intro s b hb
      simp only [modL, List.mem_append] at hb
      exact hb.elim (own_sy hl _ b) (ih _ b)
  intro b hb
  simp only [modA, List.mem_append] at hb
  exact hb.elim (own_sy hl _ b) (h _ _ b)
end
end Go.Proofs.YtdjjpjahlhdjnaaGreatDoor

end
