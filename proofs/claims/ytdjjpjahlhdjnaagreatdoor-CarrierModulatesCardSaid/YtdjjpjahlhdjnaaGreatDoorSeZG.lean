/-
  Part of the proof: SeFc, SePa, SePc, SyL, SePb, SePd, SePe, SeEqF, SePf.
-/
import Derived.Test.YtdjjpjahlhdjnaaGreatDoorSeZF
import Derived.Stop.BytesEq

/-! SeFc -/
section
open Go Go.Ev
namespace Go.Proofs.YtdjjpjahlhdjnaaGreatDoor
noncomputable section
set_option maxRecDepth 100000
set_option maxHeartbeats 20000000
def s100 (b0 b1 b2 b3 : Nat) (_w0 _w1 _w2 _w3 : Int) (_j : Nat → Value) : St := startK Tryz.f100 [] [.e (.agg [fC b0, fC b1, fC b2, fC b3])]
def s99 (w0 w1 w2 w3 : Int) (_j : Nat → Value) : St := startK Tryz.f99 [] [.e (.agg [.v (.int .i64 w0), .v (.int .i64 w1), .v (.int .i64 w2), .v (.int .i64 w3)])]
def p100_end (_b0 _b1 _b2 _b3 : Nat) (w0 w1 w2 w3 : Int) (j : Nat → Value) : St := ⟨[(.some ⟨[(.v (.int .i64 (w0))), (.v (.int .i64 (w1))), (.v (.int .i64 (w2))), (.v (.int .i64 (w3)))], 4, 22, true, .cells⟩)], [(.code .ret)], mkT j [(2, (.e (.one (.ptr 0 0))))] 17 0⟩
theorem p100 (hE : EnvOk E) (b0 b1 b2 b3 : Nat) (w0 w1 w2 w3 : Int) (h0 : COut E 0 [] 106 [(.e (.one (.v (.float .f32 (b0)))))] (iI (w0)) []) (h2 : COut E 0 [] 106 [(.e (.one (.v (.float .f32 (b1)))))] (iI (w1)) []) (h4 : COut E 0 [] 106 [(.e (.one (.v (.float .f32 (b2)))))] (iI (w2)) []) (h6 : COut E 0 [] 106 [(.e (.one (.v (.float .f32 (b3)))))] (iI (w3)) []) {Φ : Res → Prop} (ho : ∀ j, OutK E 0 0 (p100_end b0 b1 b2 b3 w0 w1 w2 w3 j) Φ) (j : Nat → Value) : OutK E 0 0 (s100 b0 b1 b2 b3 w0 w1 w2 w3 j) Φ :=
  outK_seg hE (R0_ok hE) [.run 18, (.ops [(2, (.c0 (iI (w0))))] []), .run 12, (.ops [(2, (.c0 (iI (w1))))] []), .run 12, (.ops [(2, (.c0 (iI (w2))))] []), .run 12, (.ops [(2, (.c0 (iI (w3))))] []), .run 10] [2] (s' := fun j => ⟨[(.some ⟨[(.v (.float .f32 (b0))), (.v (.float .f32 (b1))), (.v (.float .f32 (b2))), (.v (.float .f32 (b3)))], 4, 56, true, .cells⟩), (.some ⟨[(.v (.int .i64 (w0))), (.v (.int .i64 (w1))), (.v (.int .i64 (w2))), (.v (.int .i64 (w3)))], 4, 22, true, .cells⟩), (.some ⟨[(.v (.int .i64 (w0))), (.v (.int .i64 (w1))), (.v (.int .i64 (w2))), (.v (.int .i64 (w3)))], 4, 22, true, .cells⟩)], [(.code .ret)], mkT j [(2, (.e (.one (.ptr 1 0))))] 17 0⟩) (fun j => by kernel_rfl) (aP h0 <| aN <| aP h2 <| aN <| aP h4 <| aN <| aP h6 <| aN <| aZ)
    fun j => outK_gc [1] (by decide) (by kernel_rfl) (by kernel_rfl) (by kernel_rfl) (ho j)
def p99_end (w0 w1 w2 w3 : Int) (j : Nat → Value) : St := ⟨[(.some ⟨[(.v (.int .i64 (w0 + w1 + w2 + w3))), (.v (.int .i64 0)), (.v (.int .i64 (w0 + -w2))), (.v (.int .i64 (-w1 + w3))), (.v (.int .i64 (w0 + -w1 + w2 + -w3))), (.v (.int .i64 0)), (.v (.int .i64 (w0 + -w2))), (.v (.int .i64 (w1 + -w3)))], 8, 164, true, .cells⟩)], [(.code .ret)], mkT j [(2, (.e (.one (.ptr 0 0))))] 34 0⟩
theorem p99 (hE : EnvOk E) (w0 w1 w2 w3 : Int) (h0 : COut E 0 [] 105 [(.e (.agg [(.v (.int .i64 (w0))), (.v (.int .i64 0))])), (.e (.agg [(.v (.int .i64 1)), (.v (.int .i64 0))]))] (.e (.agg [(.v (.int .i64 (w0))), (.v (.int .i64 0))])) []) (h3 : COut E 0 [] 104 [(.e (.agg [(.v (.int .i64 0)), (.v (.int .i64 0))])), (.e (.agg [(.v (.int .i64 (w0))), (.v (.int .i64 0))]))] (.e (.agg [(.v (.int .i64 (w0))), (.v (.int .i64 0))])) []) (h5 : COut E 0 [] 105 [(.e (.agg [(.v (.int .i64 (w1))), (.v (.int .i64 0))])), (.e (.agg [(.v (.int .i64 1)), (.v (.int .i64 0))]))] (.e (.agg [(.v (.int .i64 (w1))), (.v (.int .i64 0))])) []) (h8 : COut E 0 [] 104 [(.e (.agg [(.v (.int .i64 (w0))), (.v (.int .i64 0))])), (.e (.agg [(.v (.int .i64 (w1))), (.v (.int .i64 0))]))] (.e (.agg [(.v (.int .i64 (w0 + w1))), (.v (.int .i64 0))])) []) (h10 : COut E 0 [] 105 [(.e (.agg [(.v (.int .i64 (w2))), (.v (.int .i64 0))])), (.e (.agg [(.v (.int .i64 1)), (.v (.int .i64 0))]))] (.e (.agg [(.v (.int .i64 (w2))), (.v (.int .i64 0))])) []) (h13 : COut E 0 [] 104 [(.e (.agg [(.v (.int .i64 (w0 + w1))), (.v (.int .i64 0))])), (.e (.agg [(.v (.int .i64 (w2))), (.v (.int .i64 0))]))] (.e (.agg [(.v (.int .i64 (w0 + w1 + w2))), (.v (.int .i64 0))])) []) (h15 : COut E 0 [] 105 [(.e (.agg [(.v (.int .i64 (w3))), (.v (.int .i64 0))])), (.e (.agg [(.v (.int .i64 1)), (.v (.int .i64 0))]))] (.e (.agg [(.v (.int .i64 (w3))), (.v (.int .i64 0))])) []) (h18 : COut E 0 [] 104 [(.e (.agg [(.v (.int .i64 (w0 + w1 + w2))), (.v (.int .i64 0))])), (.e (.agg [(.v (.int .i64 (w3))), (.v (.int .i64 0))]))] (.e (.agg [(.v (.int .i64 (w0 + w1 + w2 + w3))), (.v (.int .i64 0))])) []) (h20 : COut E 0 [] 105 [(.e (.agg [(.v (.int .i64 (w0))), (.v (.int .i64 0))])), (.e (.agg [(.v (.int .i64 1)), (.v (.int .i64 0))]))] (.e (.agg [(.v (.int .i64 (w0))), (.v (.int .i64 0))])) []) (h23 : COut E 0 [] 104 [(.e (.agg [(.v (.int .i64 0)), (.v (.int .i64 0))])), (.e (.agg [(.v (.int .i64 (w0))), (.v (.int .i64 0))]))] (.e (.agg [(.v (.int .i64 (w0))), (.v (.int .i64 0))])) []) (h25 : COut E 0 [] 105 [(.e (.agg [(.v (.int .i64 (w1))), (.v (.int .i64 0))])), (.e (.agg [(.v (.int .i64 0)), (.v (.int .i64 (-1)))]))] (.e (.agg [(.v (.int .i64 0)), (.v (.int .i64 (-w1)))])) []) (h28 : COut E 0 [] 104 [(.e (.agg [(.v (.int .i64 (w0))), (.v (.int .i64 0))])), (.e (.agg [(.v (.int .i64 0)), (.v (.int .i64 (-w1)))]))] (.e (.agg [(.v (.int .i64 (w0))), (.v (.int .i64 (-w1)))])) []) (h30 : COut E 0 [] 105 [(.e (.agg [(.v (.int .i64 (w2))), (.v (.int .i64 0))])), (.e (.agg [(.v (.int .i64 (-1))), (.v (.int .i64 0))]))] (.e (.agg [(.v (.int .i64 (-w2))), (.v (.int .i64 0))])) []) (h33 : COut E 0 [] 104 [(.e (.agg [(.v (.int .i64 (w0))), (.v (.int .i64 (-w1)))])), (.e (.agg [(.v (.int .i64 (-w2))), (.v (.int .i64 0))]))] (.e (.agg [(.v (.int .i64 (w0 + -w2))), (.v (.int .i64 (-w1)))])) []) (h35 : COut E 0 [] 105 [(.e (.agg [(.v (.int .i64 (w3))), (.v (.int .i64 0))])), (.e (.agg [(.v (.int .i64 0)), (.v (.int .i64 1))]))] (.e (.agg [(.v (.int .i64 0)), (.v (.int .i64 (w3)))])) []) (h38 : COut E 0 [] 104 [(.e (.agg [(.v (.int .i64 (w0 + -w2))), (.v (.int .i64 (-w1)))])), (.e (.agg [(.v (.int .i64 0)), (.v (.int .i64 (w3)))]))] (.e (.agg [(.v (.int .i64 (w0 + -w2))), (.v (.int .i64 (-w1 + w3)))])) []) (h40 : COut E 0 [] 105 [(.e (.agg [(.v (.int .i64 (w0))), (.v (.int .i64 0))])), (.e (.agg [(.v (.int .i64 1)), (.v (.int .i64 0))]))] (.e (.agg [(.v (.int .i64 (w0))), (.v (.int .i64 0))])) []) (h43 : COut E 0 [] 104 [(.e (.agg [(.v (.int .i64 0)), (.v (.int .i64 0))])), (.e (.agg [(.v (.int .i64 (w0))), (.v (.int .i64 0))]))] (.e (.agg [(.v (.int .i64 (w0))), (.v (.int .i64 0))])) []) (h45 : COut E 0 [] 105 [(.e (.agg [(.v (.int .i64 (w1))), (.v (.int .i64 0))])), (.e (.agg [(.v (.int .i64 (-1))), (.v (.int .i64 0))]))] (.e (.agg [(.v (.int .i64 (-w1))), (.v (.int .i64 0))])) []) (h48 : COut E 0 [] 104 [(.e (.agg [(.v (.int .i64 (w0))), (.v (.int .i64 0))])), (.e (.agg [(.v (.int .i64 (-w1))), (.v (.int .i64 0))]))] (.e (.agg [(.v (.int .i64 (w0 + -w1))), (.v (.int .i64 0))])) []) (h50 : COut E 0 [] 105 [(.e (.agg [(.v (.int .i64 (w2))), (.v (.int .i64 0))])), (.e (.agg [(.v (.int .i64 1)), (.v (.int .i64 0))]))] (.e (.agg [(.v (.int .i64 (w2))), (.v (.int .i64 0))])) []) (h53 : COut E 0 [] 104 [(.e (.agg [(.v (.int .i64 (w0 + -w1))), (.v (.int .i64 0))])), (.e (.agg [(.v (.int .i64 (w2))), (.v (.int .i64 0))]))] (.e (.agg [(.v (.int .i64 (w0 + -w1 + w2))), (.v (.int .i64 0))])) []) (h55 : COut E 0 [] 105 [(.e (.agg [(.v (.int .i64 (w3))), (.v (.int .i64 0))])), (.e (.agg [(.v (.int .i64 (-1))), (.v (.int .i64 0))]))] (.e (.agg [(.v (.int .i64 (-w3))), (.v (.int .i64 0))])) []) (h58 : COut E 0 [] 104 [(.e (.agg [(.v (.int .i64 (w0 + -w1 + w2))), (.v (.int .i64 0))])), (.e (.agg [(.v (.int .i64 (-w3))), (.v (.int .i64 0))]))] (.e (.agg [(.v (.int .i64 (w0 + -w1 + w2 + -w3))), (.v (.int .i64 0))])) []) (h60 : COut E 0 [] 105 [(.e (.agg [(.v (.int .i64 (w0))), (.v (.int .i64 0))])), (.e (.agg [(.v (.int .i64 1)), (.v (.int .i64 0))]))] (.e (.agg [(.v (.int .i64 (w0))), (.v (.int .i64 0))])) []) (h63 : COut E 0 [] 104 [(.e (.agg [(.v (.int .i64 0)), (.v (.int .i64 0))])), (.e (.agg [(.v (.int .i64 (w0))), (.v (.int .i64 0))]))] (.e (.agg [(.v (.int .i64 (w0))), (.v (.int .i64 0))])) []) (h65 : COut E 0 [] 105 [(.e (.agg [(.v (.int .i64 (w1))), (.v (.int .i64 0))])), (.e (.agg [(.v (.int .i64 0)), (.v (.int .i64 1))]))] (.e (.agg [(.v (.int .i64 0)), (.v (.int .i64 (w1)))])) []) (h68 : COut E 0 [] 104 [(.e (.agg [(.v (.int .i64 (w0))), (.v (.int .i64 0))])), (.e (.agg [(.v (.int .i64 0)), (.v (.int .i64 (w1)))]))] (.e (.agg [(.v (.int .i64 (w0))), (.v (.int .i64 (w1)))])) []) (h70 : COut E 0 [] 105 [(.e (.agg [(.v (.int .i64 (w2))), (.v (.int .i64 0))])), (.e (.agg [(.v (.int .i64 (-1))), (.v (.int .i64 0))]))] (.e (.agg [(.v (.int .i64 (-w2))), (.v (.int .i64 0))])) []) (h73 : COut E 0 [] 104 [(.e (.agg [(.v (.int .i64 (w0))), (.v (.int .i64 (w1)))])), (.e (.agg [(.v (.int .i64 (-w2))), (.v (.int .i64 0))]))] (.e (.agg [(.v (.int .i64 (w0 + -w2))), (.v (.int .i64 (w1)))])) []) (h75 : COut E 0 [] 105 [(.e (.agg [(.v (.int .i64 (w3))), (.v (.int .i64 0))])), (.e (.agg [(.v (.int .i64 0)), (.v (.int .i64 (-1)))]))] (.e (.agg [(.v (.int .i64 0)), (.v (.int .i64 (-w3)))])) []) (h78 : COut E 0 [] 104 [(.e (.agg [(.v (.int .i64 (w0 + -w2))), (.v (.int .i64 (w1)))])), (.e (.agg [(.v (.int .i64 0)), (.v (.int .i64 (-w3)))]))] (.e (.agg [(.v (.int .i64 (w0 + -w2))), (.v (.int .i64 (w1 + -w3)))])) []) {Φ : Res → Prop} (ho : ∀ j, OutK E 0 0 (p99_end w0 w1 w2 w3 j) Φ) (j : Nat → Value) : OutK E 0 0 (s99 w0 w1 w2 w3 j) Φ :=
  outK_seg hE (R0_ok hE) [.run 31, (.ops [(13, (.c0 (.e (.agg [(.v (.int .i64 (w0))), (.v (.int .i64 0))])))), (14, (.c0 (.e (.agg [(.v (.int .i64 (w0))), (.v (.int .i64 0))]))))] []), .run 12, (.ops [(13, (.c0 (.e (.agg [(.v (.int .i64 (w1))), (.v (.int .i64 0))])))), (14, (.c0 (.e (.agg [(.v (.int .i64 (w0 + w1))), (.v (.int .i64 0))]))))] []), .run 12, (.ops [(13, (.c0 (.e (.agg [(.v (.int .i64 (w2))), (.v (.int .i64 0))])))), (14, (.c0 (.e (.agg [(.v (.int .i64 (w0 + w1 + w2))), (.v (.int .i64 0))]))))] []), .run 12, (.ops [(13, (.c0 (.e (.agg [(.v (.int .i64 (w3))), (.v (.int .i64 0))])))), (14, (.c0 (.e (.agg [(.v (.int .i64 (w0 + w1 + w2 + w3))), (.v (.int .i64 0))]))))] []), .run 33, (.ops [(13, (.c0 (.e (.agg [(.v (.int .i64 (w0))), (.v (.int .i64 0))])))), (14, (.c0 (.e (.agg [(.v (.int .i64 (w0))), (.v (.int .i64 0))]))))] []), .run 12, (.ops [(13, (.c0 (.e (.agg [(.v (.int .i64 0)), (.v (.int .i64 (-w1)))])))), (14, (.c0 (.e (.agg [(.v (.int .i64 (w0))), (.v (.int .i64 (-w1)))]))))] []), .run 12, (.ops [(13, (.c0 (.e (.agg [(.v (.int .i64 (-w2))), (.v (.int .i64 0))])))), (14, (.c0 (.e (.agg [(.v (.int .i64 (w0 + -w2))), (.v (.int .i64 (-w1)))]))))] []), .run 12, (.ops [(13, (.c0 (.e (.agg [(.v (.int .i64 0)), (.v (.int .i64 (w3)))])))), (14, (.c0 (.e (.agg [(.v (.int .i64 (w0 + -w2))), (.v (.int .i64 (-w1 + w3)))]))))] []), .run 33, (.ops [(13, (.c0 (.e (.agg [(.v (.int .i64 (w0))), (.v (.int .i64 0))])))), (14, (.c0 (.e (.agg [(.v (.int .i64 (w0))), (.v (.int .i64 0))]))))] []), .run 12, (.ops [(13, (.c0 (.e (.agg [(.v (.int .i64 (-w1))), (.v (.int .i64 0))])))), (14, (.c0 (.e (.agg [(.v (.int .i64 (w0 + -w1))), (.v (.int .i64 0))]))))] []), .run 12, (.ops [(13, (.c0 (.e (.agg [(.v (.int .i64 (w2))), (.v (.int .i64 0))])))), (14, (.c0 (.e (.agg [(.v (.int .i64 (w0 + -w1 + w2))), (.v (.int .i64 0))]))))] []), .run 12, (.ops [(13, (.c0 (.e (.agg [(.v (.int .i64 (-w3))), (.v (.int .i64 0))])))), (14, (.c0 (.e (.agg [(.v (.int .i64 (w0 + -w1 + w2 + -w3))), (.v (.int .i64 0))]))))] []), .run 33, (.ops [(13, (.c0 (.e (.agg [(.v (.int .i64 (w0))), (.v (.int .i64 0))])))), (14, (.c0 (.e (.agg [(.v (.int .i64 (w0))), (.v (.int .i64 0))]))))] []), .run 12, (.ops [(13, (.c0 (.e (.agg [(.v (.int .i64 0)), (.v (.int .i64 (w1)))])))), (14, (.c0 (.e (.agg [(.v (.int .i64 (w0))), (.v (.int .i64 (w1)))]))))] []), .run 12, (.ops [(13, (.c0 (.e (.agg [(.v (.int .i64 (-w2))), (.v (.int .i64 0))])))), (14, (.c0 (.e (.agg [(.v (.int .i64 (w0 + -w2))), (.v (.int .i64 (w1)))]))))] []), .run 12, (.ops [(13, (.c0 (.e (.agg [(.v (.int .i64 0)), (.v (.int .i64 (-w3)))])))), (14, (.c0 (.e (.agg [(.v (.int .i64 (w0 + -w2))), (.v (.int .i64 (w1 + -w3)))]))))] []), .run 18] [2] (s' := fun j => ⟨[(.some ⟨[(.v (.int .i64 (w0))), (.v (.int .i64 (w1))), (.v (.int .i64 (w2))), (.v (.int .i64 (w3)))], 4, 22, true, .cells⟩), (.some ⟨[(.v (.int .i64 (w0 + w1 + w2 + w3))), (.v (.int .i64 0)), (.v (.int .i64 (w0 + -w2))), (.v (.int .i64 (-w1 + w3))), (.v (.int .i64 (w0 + -w1 + w2 + -w3))), (.v (.int .i64 0)), (.v (.int .i64 (w0 + -w2))), (.v (.int .i64 (w1 + -w3)))], 8, 164, true, .cells⟩), (.some ⟨[(.v (.int .i64 (w0 + w1 + w2 + w3))), (.v (.int .i64 0)), (.v (.int .i64 (w0 + -w2))), (.v (.int .i64 (-w1 + w3))), (.v (.int .i64 (w0 + -w1 + w2 + -w3))), (.v (.int .i64 0)), (.v (.int .i64 (w0 + -w2))), (.v (.int .i64 (w1 + -w3)))], 8, 164, true, .cells⟩)], [(.code .ret)], mkT j [(2, (.e (.one (.ptr 1 0))))] 34 0⟩) (fun j => by kernel_rfl) (aP h0 <| aN <| aP (rfl : (true : Bool) = true) <| aP h3 <| aN <| aP h5 <| aN <| aP (rfl : (true : Bool) = true) <| aP h8 <| aN <| aP h10 <| aN <| aP (rfl : (true : Bool) = true) <| aP h13 <| aN <| aP h15 <| aN <| aP (rfl : (true : Bool) = true) <| aP h18 <| aN <| aP h20 <| aN <| aP (rfl : (true : Bool) = true) <| aP h23 <| aN <| aP h25 <| aN <| aP (rfl : (true : Bool) = true) <| aP h28 <| aN <| aP h30 <| aN <| aP (rfl : (true : Bool) = true) <| aP h33 <| aN <| aP h35 <| aN <| aP (rfl : (true : Bool) = true) <| aP h38 <| aN <| aP h40 <| aN <| aP (rfl : (true : Bool) = true) <| aP h43 <| aN <| aP h45 <| aN <| aP (rfl : (true : Bool) = true) <| aP h48 <| aN <| aP h50 <| aN <| aP (rfl : (true : Bool) = true) <| aP h53 <| aN <| aP h55 <| aN <| aP (rfl : (true : Bool) = true) <| aP h58 <| aN <| aP h60 <| aN <| aP (rfl : (true : Bool) = true) <| aP h63 <| aN <| aP h65 <| aN <| aP (rfl : (true : Bool) = true) <| aP h68 <| aN <| aP h70 <| aN <| aP (rfl : (true : Bool) = true) <| aP h73 <| aN <| aP h75 <| aN <| aP (rfl : (true : Bool) = true) <| aP h78 <| aN <| aZ)
    fun j => outK_gc [1] (by decide) (by kernel_rfl) (by kernel_rfl) (by kernel_rfl) (ho j)
open Ieee
abbrev fL (b0 b1 b2 b3 : Nat) : List AC := [fC b0, fC b1, fC b2, fC b3]
abbrev iL (w0 w1 w2 w3 : Int) : List AC := [.v (.int .i64 w0), .v (.int .i64 w1), .v (.int .i64 w2), .v (.int .i64 w3)]
abbrev trA (w0 w1 w2 w3 : Int) : List AC := [.v (.int .i64 ((((w0 + w1) + w2) + w3))), .v (.int .i64 (0)), .v (.int .i64 ((w0 + (-w2)))), .v (.int .i64 (((-w1) + w3))), .v (.int .i64 ((((w0 + (-w1)) + w2) + (-w3)))), .v (.int .i64 (0)), .v (.int .i64 ((w0 + (-w2)))), .v (.int .i64 ((w1 + (-w3))))]
theorem K100 (hE : EnvOk E) {b0 b1 b2 b3 : Nat} (hb0 : chkW 1024 b0 = 0) (hb1 : chkW 1024 b1 = 0) (hb2 : chkW 1024 b2 = 0) (hb3 : chkW 1024 b3 = 0) : COut E 0 [] 100 [.e (.agg (fL b0 b1 b2 b3))] (.e (.agg (iL (intW b0) (intW b1) (intW b2) (intW b3)))) [] :=
  cOut_clear (cOut_start Tryz.func100 rfl (p100 hE b0 b1 b2 b3 (intW b0) (intW b1) (intW b2) (intW b3) (k106 hE (L := 1024) (by decide) hb0) (k106 hE (L := 1024) (by decide) hb1) (k106 hE (L := 1024) (by decide) hb2) (k106 hE (L := 1024) (by decide) hb3) (fun j => outK_ret (ends_ret (by kernel_rfl))) fun _ => undef)) rfl
theorem K99 (hE : EnvOk E) {w0 w1 w2 w3 : Int} (h0 : w0.natAbs ≤ 16384) (h1 : w1.natAbs ≤ 16384) (h2 : w2.natAbs ≤ 16384) (h3 : w3.natAbs ≤ 16384) : COut E 0 [] 99 [.e (.agg (iL w0 w1 w2 w3))] (.e (.agg (trA w0 w1 w2 w3))) [] :=
  cOut_clear (cOut_start Tryz.func99 rfl (p99 hE w0 w1 w2 w3 (K105 hE (by unfold Sm; omega) (by unfold Sm; omega) (by unfold Sm; omega) (by unfold Sm; omega) (by omega) (by omega)) (K104 hE (by omega) (by omega) (by omega) (by omega) (by omega) (by omega)) (K105 hE (by unfold Sm; omega) (by unfold Sm; omega) (by unfold Sm; omega) (by unfold Sm; omega) (by omega) (by omega)) (K104 hE (by omega) (by omega) (by omega) (by omega) (by omega) (by omega)) (K105 hE (by unfold Sm; omega) (by unfold Sm; omega) (by unfold Sm; omega) (by unfold Sm; omega) (by omega) (by omega)) (K104 hE (by omega) (by omega) (by omega) (by omega) (by omega) (by omega)) (K105 hE (by unfold Sm; omega) (by unfold Sm; omega) (by unfold Sm; omega) (by unfold Sm; omega) (by omega) (by omega)) (K104 hE (by omega) (by omega) (by omega) (by omega) (by omega) (by omega)) (K105 hE (by unfold Sm; omega) (by unfold Sm; omega) (by unfold Sm; omega) (by unfold Sm; omega) (by omega) (by omega)) (K104 hE (by omega) (by omega) (by omega) (by omega) (by omega) (by omega)) (K105 hE (by unfold Sm; omega) (by unfold Sm; omega) (by unfold Sm; omega) (by unfold Sm; omega) (by omega) (by omega)) (K104 hE (by omega) (by omega) (by omega) (by omega) (by omega) (by omega)) (K105 hE (by unfold Sm; omega) (by unfold Sm; omega) (by unfold Sm; omega) (by unfold Sm; omega) (by omega) (by omega)) (K104 hE (by omega) (by omega) (by omega) (by omega) (by omega) (by omega)) (K105 hE (by unfold Sm; omega) (by unfold Sm; omega) (by unfold Sm; omega) (by unfold Sm; omega) (by omega) (by omega)) (K104 hE (by omega) (by omega) (by omega) (by omega) (by omega) (by omega)) (K105 hE (by unfold Sm; omega) (by unfold Sm; omega) (by unfold Sm; omega) (by unfold Sm; omega) (by omega) (by omega)) (K104 hE (by omega) (by omega) (by omega) (by omega) (by omega) (by omega)) (K105 hE (by unfold Sm; omega) (by unfold Sm; omega) (by unfold Sm; omega) (by unfold Sm; omega) (by omega) (by omega)) (K104 hE (by omega) (by omega) (by omega) (by omega) (by omega) (by omega)) (K105 hE (by unfold Sm; omega) (by unfold Sm; omega) (by unfold Sm; omega) (by unfold Sm; omega) (by omega) (by omega)) (K104 hE (by omega) (by omega) (by omega) (by omega) (by omega) (by omega)) (K105 hE (by unfold Sm; omega) (by unfold Sm; omega) (by unfold Sm; omega) (by unfold Sm; omega) (by omega) (by omega)) (K104 hE (by omega) (by omega) (by omega) (by omega) (by omega) (by omega)) (K105 hE (by unfold Sm; omega) (by unfold Sm; omega) (by unfold Sm; omega) (by unfold Sm; omega) (by omega) (by omega)) (K104 hE (by omega) (by omega) (by omega) (by omega) (by omega) (by omega)) (K105 hE (by unfold Sm; omega) (by unfold Sm; omega) (by unfold Sm; omega) (by unfold Sm; omega) (by omega) (by omega)) (K104 hE (by omega) (by omega) (by omega) (by omega) (by omega) (by omega)) (K105 hE (by unfold Sm; omega) (by unfold Sm; omega) (by unfold Sm; omega) (by unfold Sm; omega) (by omega) (by omega)) (K104 hE (by omega) (by omega) (by omega) (by omega) (by omega) (by omega)) (K105 hE (by unfold Sm; omega) (by unfold Sm; omega) (by unfold Sm; omega) (by unfold Sm; omega) (by omega) (by omega)) (K104 hE (by omega) (by omega) (by omega) (by omega) (by omega) (by omega)) (fun j => outK_ret (ends_ret (by kernel_rfl))) fun _ => undef)) rfl
end
end Go.Proofs.YtdjjpjahlhdjnaaGreatDoor

end

/-! SePa -/
section
open Go Go.Ev
namespace Go.Proofs.YtdjjpjahlhdjnaaGreatDoor
noncomputable section
set_option maxRecDepth 100000
set_option maxHeartbeats 20000000
def s92 (C : List DT) (n : Nat) (_j : Nat → Value) : St := startK Tryz.f92 [] [(.e (.one (.dp (.s C n 1))))]
def s97 (C : List DT) (n : Nat) (L _e : Int) (_j : Nat → Value) : St := startK Tryz.f97 [] [(.e (.one (.dp (.s C n 1)))), iI L, .e (.one (.v (.func (.func 24) #[] #[])))]
def s33 (C : List DT) (n : Nat) (_e : Int) (_j : Nat → Value) : St := startK Tryz.f33 [] [(.e (.one (.dp (.s C n 1))))]
def s34 (C : List DT) (n : Nat) (_e : Int) (_j : Nat → Value) : St := startK Tryz.f34 [] [(.e (.one (.dp (.s C n 1))))]
def s91 (C : List DT) (n : Nat) (_e _f _g : Int) (_j : Nat → Value) : St := startK Tryz.f91 [] [(.e (.one (.dp (.s C n 1))))]
def s30 (C : List DT) (n : Nat) (_e _f _g : Int) (_j : Nat → Value) : St := startK Tryz.f30 [] [(.e (.one (.dp (.s C n 1))))]
def s26 (C : List DT) (n : Nat) (_j : Nat → Value) : St := startK Tryz.f26 [] [(.e (.one (.dp (.s C n 1))))]
def s28 (C : List DT) (n : Nat) (_l : List AC) (_b : Bool) (_j : Nat → Value) : St := startK Tryz.f28 [] [(.e (.one (.dp (.s C n 1))))]
def p92_end (C : List DT) (n : Nat) (j : Nat → Value) : St := ⟨[(.some ⟨[(.dp (.s (C) (n) 1))], 1, 42, true, .cells⟩)], [(.code .ret)], mkT j [(2, (.e (.one (.clo 155 [] [(.one (.ptr 0 0))]))))] 4 0⟩
theorem p92 (hE : EnvOk E) (C : List DT) (n : Nat)  {Φ : Res → Prop} (ho : ∀ j, OutK E 0 0 (p92_end C n j) Φ) (j : Nat → Value) : OutK E 0 0 (s92 C n j) Φ :=
  outK_seg hE (R0_ok hE) [.run 4] [2] (ps := []) (fun j => by kernel_rfl) trivial
    ho
def p97a_end (_C : List DT) (_n : Nat) (_L _e : Int) (j : Nat → Value) : St := ⟨[], [(.code .ret), (.code (atC [1, 1] (bodyOf Tryz.f97)))], mkT j [(6, (iI 5))] 14 0⟩
theorem p97a (hE : EnvOk E) (C : List DT) (n : Nat) (L e : Int) (h0 : (decide ((↑n : Int) > L) : Bool) = true) {Φ : Res → Prop} (ho : ∀ j, OutK E 0 0 (p97a_end C n L e j) Φ) (j : Nat → Value) : OutK E 0 0 (s97 C n L e j) Φ :=
  outK_seg hE (R0_ok hE) [.run 4, (.ops [(1, (.d .len))] []), (.cond true), .run 2] [6] (fun j => by kernel_rfl) (aP h0 <| aZ)
    ho
def p97b_end (_C : List DT) (_n : Nat) (_L e : Int) (j : Nat → Value) : St := ⟨[], [(.code .ret)], mkT j [(6, (iI (e)))] 14 0⟩
theorem p97b (hE : EnvOk E) (C : List DT) (n : Nat) (L e : Int) (h0 : (decide ((↑n : Int) > L) : Bool) = false) (h1 : COut E 0 [] 98 [(.e (.one (.dp (.s (C) (n) 1)))), (.e (.one (.v (.func (.func 24) #[] #[]))))] (iI (e)) []) {Φ : Res → Prop} (ho : ∀ j, OutK E 0 0 (p97b_end C n L e j) Φ) (j : Nat → Value) : OutK E 0 0 (s97 C n L e j) Φ :=
  outK_seg hE (R0_ok hE) [.run 4, (.ops [(1, (.d .len))] []), (.cond false), .run 2, (.ops [(2, (.c0 (iI (e))))] [])] [6] (fun j => by kernel_rfl) (aP h0 <| aP h1 <| aN <| aZ)
    ho
def p33_end (_C : List DT) (_n : Nat) (e : Int) (j : Nat → Value) : St := ⟨[], [(.code .ret)], mkT j [(2, (iI (e)))] 5 0⟩
theorem p33 (hE : EnvOk E) (C : List DT) (n : Nat) (e : Int) (h0 : COut E 0 [] 97 [(.e (.one (.dp (.s (C) (n) 1)))), (iI 4096), (.e (.one (.v (.func (.func 24) #[] #[]))))] (iI (e)) []) {Φ : Res → Prop} (ho : ∀ j, OutK E 0 0 (p33_end C n e j) Φ) (j : Nat → Value) : OutK E 0 0 (s33 C n e j) Φ :=
  outK_seg hE (R0_ok hE) [.run 3, (.ops [(1, (.c0 (iI (e))))] [])] [2] (fun j => by kernel_rfl) (aP h0 <| aN <| aZ)
    ho
def p34a_end (_C : List DT) (_n : Nat) (_e : Int) (j : Nat → Value) : St := ⟨[], [(.code .ret), (.code (atC [1, 1] (bodyOf Tryz.f34)))], mkT j [(2, (iI 5))] 8 0⟩
theorem p34a (hE : EnvOk E) (C : List DT) (n : Nat) (e : Int) (h0 : (decide ((↑n : Int) > (4096 : Int)) : Bool) = true) {Φ : Res → Prop} (ho : ∀ j, OutK E 0 0 (p34a_end C n e j) Φ) (j : Nat → Value) : OutK E 0 0 (s34 C n e j) Φ :=
  outK_seg hE (R0_ok hE) [.run 4, (.ops [(1, (.d .len))] []), (.cond true), .run 2] [2] (fun j => by kernel_rfl) (aP h0 <| aZ)
    ho
def p34b_end (_C : List DT) (_n : Nat) (e : Int) (j : Nat → Value) : St := ⟨[], [(.code .ret)], mkT j [(2, (iI (e)))] 8 0⟩
theorem p34b (hE : EnvOk E) (C : List DT) (n : Nat) (e : Int) (h0 : (decide ((↑n : Int) > (4096 : Int)) : Bool) = false) (h1 : COut E 0 [] 38 [(.e (.one (.dp (.s (C) (n) 1))))] (iI (e)) []) {Φ : Res → Prop} (ho : ∀ j, OutK E 0 0 (p34b_end C n e j) Φ) (j : Nat → Value) : OutK E 0 0 (s34 C n e j) Φ :=
  outK_seg hE (R0_ok hE) [.run 4, (.ops [(1, (.d .len))] []), (.cond false), .run 2, (.ops [(1, (.c0 (iI (e))))] [])] [2] (fun j => by kernel_rfl) (aP h0 <| aP h1 <| aN <| aZ)
    ho
def p91_end (_C : List DT) (_n : Nat) (_e _f g : Int) (j : Nat → Value) : St := ⟨[], [(.code .ret)], mkT j [(2, (iI (g)))] 12 0⟩
theorem p91 (hE : EnvOk E) (C : List DT) (n : Nat) (e f g : Int) (h0 : COut E 0 [] 33 [(.e (.one (.dp (.s (C) (n) 1))))] (iI (e)) []) (h2 : COut E 0 [] 85 [(iB ((↑n : Int).tmod (4 : Int) != (0 : Int))), (iI 2)] (iI (f)) []) (h4 : COut E 1 [(.some ⟨[(.v (.int .i64 (e))), (.v (.int .i64 (f)))], 2, 26, true, .cells⟩)] 79 [(.e (.one (.slc 0 0 2 1 2 true)))] (iI (g)) [(.some ⟨[(.v (.int .i64 (e))), (.v (.int .i64 (f)))], 2, 26, true, .cells⟩)]) {Φ : Res → Prop} (ho : ∀ j, OutK E 0 0 (p91_end C n e f g j) Φ) (j : Nat → Value) : OutK E 0 0 (s91 C n e f g j) Φ :=
  outK_seg hE (R0_ok hE) [.run 3, (.ops [(1, (.c0 (iI (e)))), (6, (.c0 (iI (f)))), (8, (.d (.c1 (iI (g))))), (3, (.d .len))] [])] [2] (s' := fun j => ⟨[(.some ⟨[(.v (.int .i64 (e))), (.v (.int .i64 (f)))], 2, 26, true, .cells⟩)], [(.code .ret)], mkT j [(2, (iI (g)))] 12 0⟩) (fun j => by kernel_rfl) (aP h0 <| aN <| aP h2 <| aN <| aP h4 <| aN <| aZ)
    fun j => outK_gc [] (by decide) (by kernel_rfl) (by kernel_rfl) (by kernel_rfl) (ho j)
def p30a_end (_C : List DT) (_n : Nat) (e _f _g : Int) (j : Nat → Value) : St := ⟨[], [(.code .ret), (.code (atC [1, 1] (bodyOf Tryz.f30)))], mkT j [(2, (iI (e)))] 14 0⟩
theorem p30a (hE : EnvOk E) (C : List DT) (n : Nat) (e f g : Int) (h0 : COut E 0 [] 34 [(.e (.one (.dp (.s (C) (n) 1))))] (iI (e)) []) (h2 : (e != (0 : Int) : Bool) = true) {Φ : Res → Prop} (ho : ∀ j, OutK E 0 0 (p30a_end C n e f g j) Φ) (j : Nat → Value) : OutK E 0 0 (s30 C n e f g j) Φ :=
  outK_seg hE (R0_ok hE) [.run 4, (.ops [(1, (.c0 (iI (e))))] []), .run 2, (.cond true), .run 2] [2] (fun j => by kernel_rfl) (aP h0 <| aN <| aP h2 <| aZ)
    ho
def p30b_end (_C : List DT) (_n : Nat) (_e f _g : Int) (j : Nat → Value) : St := ⟨[], [(.code .ret)], mkT j [(2, (iI (f)))] 14 0⟩
theorem p30b (hE : EnvOk E) (C : List DT) (n : Nat) (e f g : Int) (h0 : COut E 0 [] 34 [(.e (.one (.dp (.s (C) (n) 1))))] (iI (e)) []) (h2 : (e != (0 : Int) : Bool) = false) (h3 : COut E 0 [] 82 [(iB ((↑n : Int).tmod (4 : Int) != (0 : Int))), (iI 2)] (iI (f)) []) {Φ : Res → Prop} (ho : ∀ j, OutK E 0 0 (p30b_end C n e f g j) Φ) (j : Nat → Value) : OutK E 0 0 (s30 C n e f g j) Φ :=
  outK_seg hE (R0_ok hE) [.run 4, (.ops [(1, (.c0 (iI (e))))] []), .run 2, (.cond false), .run 2, (.ops [(4, (.c0 (iI (f)))), (1, (.d .len))] [])] [2] (fun j => by kernel_rfl) (aP h0 <| aN <| aP h2 <| aP h3 <| aN <| aZ)
    ho
def p26a_end (_C : List DT) (_n : Nat) (j : Nat → Value) : St := ⟨[], [(.code .ret)], mkT j [(2, (iB true))] 11 0⟩
theorem p26a (hE : EnvOk E) (C : List DT) (n : Nat) (h0 : (decide ((↑n : Int) ≤ (160 : Int)) == false : Bool) = (nat_lit 4, false).snd) (h1 : (decide ((↑n : Int) ≤ (160 : Int)) == false : Bool) = (nat_lit 5, false).snd) (h2 : (decide ((↑n : Int) ≤ (160 : Int)) == false : Bool) = (nat_lit 6, false).snd) (h3 : (decide ((↑n : Int) ≤ (160 : Int)) : Bool) = true) {Φ : Res → Prop} (ho : ∀ j, OutK E 0 0 (p26a_end C n j) Φ) (j : Nat → Value) : OutK E 0 0 (s26 C n j) Φ :=
  outK_seg hE (R0_ok hE) [.run 3, (.ops [(1, (.d .len)), (7, (.pk true))] [(4, false), (5, false), (6, false)])] [2] (fun j => by kernel_rfl) (aP h0 <| aP h1 <| aP h2 <| aP h3 <| aZ)
    ho
def p26b_end (_C : List DT) (n : Nat) (j : Nat → Value) : St := ⟨[], [(.code .ret)], mkT j [(2, (iB ((↑n : Int) == (4097 : Int))))] 11 0⟩
theorem p26b (hE : EnvOk E) (C : List DT) (n : Nat) (h0 : (decide ((↑n : Int) ≤ (160 : Int)) == false : Bool) = (nat_lit 4, true).snd) (h1 : (decide ((↑n : Int) ≤ (160 : Int)) == false : Bool) = (nat_lit 5, true).snd) (h2 : (decide ((↑n : Int) ≤ (160 : Int)) == false : Bool) = (nat_lit 6, true).snd) (h3 : (decide ((↑n : Int) ≤ (160 : Int)) : Bool) = false) {Φ : Res → Prop} (ho : ∀ j, OutK E 0 0 (p26b_end C n j) Φ) (j : Nat → Value) : OutK E 0 0 (s26 C n j) Φ :=
  outK_seg hE (R0_ok hE) [.run 3, (.ops [(1, (.d .len)), (5, (.d .len)), (7, (.pk false))] [(4, true), (5, true), (6, true)])] [2] (fun j => by kernel_rfl) (aP h0 <| aP h1 <| aP h2 <| aP h3 <| aZ)
    ho
def p28_end (_C : List DT) (n : Nat) (l : List AC) (b : Bool) (j : Nat → Value) : St := ⟨[(.some ⟨(l), (n), 23, (b), .cells⟩)], [(.code .ret)], mkT j [(2, (.e (.one (.slc 0 0 (n) 1 (n) (b)))))] 6 0⟩
theorem p28 (hE : EnvOk E) (C : List DT) (n : Nat) (l : List AC) (b : Bool) (h0 : CopyOk [(.some ⟨[], 0, 23, true, .cells⟩)] 1 4 (.e (.one (.dp (.s (C) (n) 1)))) n l b) (h1 : (n * 1 : Nat) = n) (g0 : FlatC (l)) {Φ : Res → Prop} (ho : ∀ j, OutK E 0 0 (p28_end C n l b j) Φ) (j : Nat → Value) : OutK E 0 0 (s28 C n l b j) Φ :=
  outK_seg hE (R0_ok hE) [.run 3, (.ops [(2, (.cpu (n) (n) (l) (b)))] [])] [2] (s' := fun j => ⟨[none, (.some ⟨(l), (n), 23, (b), .cells⟩)], [(.code .ret)], mkT j [(2, (.e (.one (.slc 1 0 (n) 1 (n) (b)))))] 6 0⟩) (fun j => by kernel_rfl) (aP h0 <| aP h1 <| aZ)
    fun j => outK_gcF [1] [true] (h' := [(.some ⟨(l), (n), 23, (b), .cells⟩)]) (by decide) (by kernel_rfl) (by kernel_rfl) ⟨g0, trivial⟩ (by kernel_rfl) (ho j)

open Ieee
/-- what the checks of a list say -/
def chkS (ws : List Nat) : Int := if 4096 < ws.length then 5 else chkL ws
def chkQ (ws : List Nat) : Int := firstI [chkS ws, if ws.length % 4 ≠ 0 then 2 else 0]
theorem K97 (hE : EnvOk E) (ws : List Nat) (hm : ws.length ≤ 4000000) : COut E 0 [] 97 [.e (.one (dF ws).ac), iI 4096, .e (.one (.v (.func (.func 24) #[] #[])))] (iI (chkS ws)) [] := by
  unfold chkS
  by_cases h : 4096 < ws.length
  · rw [if_pos h]
    exact cOut_start Tryz.func97 rfl (p97a hE _ _ 4096 0 (decide_eq_true (by omega)) (fun j => outK_ret (ends_ret (by kernel_rfl))) fun _ => undef)
  · rw [if_neg h]
    exact cOut_start Tryz.func97 rfl (p97b hE _ _ 4096 _ (decide_eq_false (by omega)) (K98 hE ws hm) (fun j => outK_ret (ends_ret (by kernel_rfl))) fun _ => undef)
theorem K33 (hE : EnvOk E) (ws : List Nat) (hm : ws.length ≤ 4000000) : COut E 0 [] 33 [.e (.one (dF ws).ac)] (iI (chkS ws)) [] :=
  cOut_start Tryz.func33 rfl (p33 hE _ _ _ (K97 hE ws hm) (fun j => outK_ret (ends_ret (by kernel_rfl))) fun _ => undef)
theorem K34 (hE : EnvOk E) (ws : List Nat) (hm : ws.length ≤ 4000000) : COut E 0 [] 34 [.e (.one (dF ws).ac)] (iI (chkS ws)) [] := by
  unfold chkS
  by_cases h : 4096 < ws.length
  · rw [if_pos h]
    exact cOut_start Tryz.func34 rfl (p34a hE _ _ 0 (decide_eq_true (by omega)) (fun j => outK_ret (ends_ret (by kernel_rfl))) fun _ => undef)
  · rw [if_neg h]
    exact cOut_start Tryz.func34 rfl (p34b hE _ _ _ (decide_eq_false (by omega)) (K38 hE ws hm) (fun j => outK_ret (ends_ret (by kernel_rfl))) fun _ => undef)
theorem mod4 (n : Nat) (c d : Int) : (if ((↑n : Int).tmod (4 : Int) != (0 : Int)) = true then c else d) = if n % 4 ≠ 0 then c else d := by
  have e : (↑n : Int).tmod (4 : Int) = ((n % 4 : Nat) : Int) := by rw [Int.tmod_eq_emod_of_nonneg (by omega)]; simp
  by_cases h : n % 4 = 0
  · simp [e, h]
  · have h2 : ((n % 4 : Nat) : Int) ≠ 0 := by omega
    rw [e, if_pos (by simpa using h2), if_pos h]
theorem K91 (hE : EnvOk E) (ws : List Nat) (hm : ws.length ≤ 4000000) : COut E 0 [] 91 [.e (.one (dF ws).ac)] (iI (chkQ ws)) [] := by
  have h1 := k107 hE ((↑ws.length : Int).tmod (4 : Int) != (0 : Int)) 2
  rw [mod4] at h1
  exact cOut_clear (cOut_start Tryz.func91 rfl (p91 hE _ _ _ _ _ (K33 hE ws hm) h1 (k102 hE [chkS ws, if ws.length % 4 ≠ 0 then 2 else 0] rfl (by decide) get2) (fun j => outK_ret (ends_ret (by kernel_rfl))) fun _ => undef)) rfl
theorem K30 (hE : EnvOk E) (ws : List Nat) (hm : ws.length ≤ 4000000) : COut E 0 [] 30 [.e (.one (dF ws).ac)] (iI (chkQ ws)) [] := by
  unfold chkQ
  rw [firstI2]
  by_cases h : chkS ws = 0
  · have h1 := k60 hE ((↑ws.length : Int).tmod (4 : Int) != (0 : Int)) 2
    rw [mod4] at h1
    rw [if_pos h]
    exact cOut_start Tryz.func30 rfl (p30b hE _ _ _ _ 0 (K34 hE ws hm) (by simp [h]) h1 (fun j => outK_ret (ends_ret (by kernel_rfl))) fun _ => undef)
  · rw [if_neg h]
    exact cOut_start Tryz.func30 rfl (p30a hE _ _ _ 0 0 (K34 hE ws hm) (by simpa using h) (fun j => outK_ret (ends_ret (by kernel_rfl))) fun _ => undef)
end
end Go.Proofs.YtdjjpjahlhdjnaaGreatDoor

end

/-! SePc -/
section
open Go Go.Ev
namespace Go.Proofs.YtdjjpjahlhdjnaaGreatDoor
noncomputable section
set_option maxRecDepth 100000
set_option maxHeartbeats 20000000
abbrev lpV (T : Tm) (ps : Array Tmp) (asg bod : Code) : Option AB := some (loopEnt .ready none T ps asg bod)
open Ieee
/-! The windows of a list of samples. -/
def bw (ws : List Nat) (k : Nat) : Nat := ws.getD k 0
def ww (ws : List Nat) (k : Nat) : Int := intW (bw ws k)
abbrev fDT (ws : List Nat) : List DT := ws.map fun b => .v (.float .f32 b)
abbrev wiA (ws : List Nat) (i : Nat) : AV := .e (.agg (iL (ww ws (4 * i)) (ww ws (4 * i + 1)) (ww ws (4 * i + 2)) (ww ws (4 * i + 3))))
theorem getW {ws : List Nat} {k : Nat} (h : k < ws.length) : ws[k]? = some (bw ws k) := by simp [bw, List.getD, List.getElem?_eq_getElem h]
theorem memW {ws : List Nat} {k : Nat} (h : k < ws.length) : bw ws k ∈ ws := List.mem_of_getElem? (getW h)
theorem dropW {ws : List Nat} {k : Nat} (h : k < ws.length) : ws.drop k = bw ws k :: ws.drop (k + 1) := by
  have e := List.drop_eq_getElem_cons h
  have e2 := getW h
  rw [List.getElem?_eq_getElem h] at e2
  rw [e, Option.some.inj e2]
theorem take4a {ws : List Nat} {i n : Nat} (hn : ws.length = n) (_h : 4 * i + 4 ≤ n) : takeL (dropL (fDT ws) (4 * i * 1)) ((n - 4 * i) * 1) = some ((fDT ws).drop (4 * i)) := by
  rw [takeL_eq, dropL_eq, Nat.mul_one, Nat.mul_one]
  have e : ((fDT ws).drop (4 * i)).length = n - 4 * i := by simp [hn]
  rw [if_pos (by omega), List.take_of_length_le (by omega)]
theorem take4b {ws : List Nat} {i n : Nat} (hn : ws.length = n) (h : 4 * i + 4 ≤ n) : takeL (dropL ((fDT ws).drop (4 * i)) 0) 4 = some [.v (.float .f32 (bw ws (4 * i))), .v (.float .f32 (bw ws (4 * i + 1))), .v (.float .f32 (bw ws (4 * i + 2))), .v (.float .f32 (bw ws (4 * i + 3)))] := by
  rw [takeL_eq, dropL_eq, List.drop_zero, ← List.map_drop, dropW (by omega), dropW (by omega), dropW (by omega), dropW (by omega)]
  simp
theorem chk_mem {ws : List Nat} (h : chkL ws = 0) : ∀ b ∈ ws, chkW 1024 b = 0 := by
  unfold chkL at h
  induction ws with
  | nil => intro b hb; simp at hb
  | cons a l ih =>
    intro b hb
    simp only [List.map_cons, firstI] at h
    by_cases h0 : chkW 1024 a = 0
    · rw [if_pos h0] at h
      rcases List.mem_cons.1 hb with rfl | hb
      · exact h0
      · exact ih h b hb
    · rw [if_neg h0] at h
      exact (h0 h).elim
theorem KW (hE : EnvOk E) {ws : List Nat} {i : Nat} (hc : ∀ b ∈ ws, chkW 1024 b = 0) (h : 4 * i + 4 ≤ ws.length) : COut E 0 [] 100 [.e (.agg (fL (bw ws (4 * i)) (bw ws (4 * i + 1)) (bw ws (4 * i + 2)) (bw ws (4 * i + 3))))] (wiA ws i) [] :=
  K100 hE (hc _ (memW (by omega))) (hc _ (memW (by omega))) (hc _ (memW (by omega))) (hc _ (memW (by omega)))
theorem mul4 {i : Nat} (h : i ≤ 100000) : wrapF IntKind.i64 ((4 : Int) * Int.ofNat i) = Int.ofNat (4 * i) := by
  rw [wrap_id (by simp only [Int.ofNat_eq_natCast]; omega) (by simp only [Int.ofNat_eq_natCast]; omega)]
  simp only [Int.ofNat_eq_natCast]; omega
theorem quo4 {n k : Nat} (hn : n = 4 * k) (h : k ≤ 100000) : (iI (wrapF IntKind.i64 ((↑n : Int).tdiv (4 : Int))) : AV) = iI (Int.ofNat k) := by
  have e : (↑n : Int).tdiv 4 = Int.ofNat k := by rw [Int.tdiv_eq_ediv_of_nonneg (by omega)]; simp only [Int.ofNat_eq_natCast]; omega
  rw [e, wrap_id (by simp only [Int.ofNat_eq_natCast]; omega) (by simp only [Int.ofNat_eq_natCast]; omega)]
/-- a list of integers, as cells -/
abbrev iD (l : List Int) : List DT := l.map fun x => .v (.int .i64 x)
abbrev iC (l : List Int) : List AC := (iD l).map DT.ac
theorem flat_iC (l : List Int) : FlatC (iC l) := by
  intro c hc
  simp only [iC, iD, List.map_map, List.mem_map] at hc
  obtain ⟨x, _, rfl⟩ := hc
  exact ⟨_, rfl⟩
theorem iC_app (l r : List Int) : appL (iC l) (iC r) = iC (l ++ r) := by rw [appL_eq]; simp
/-- the slots of the loop's frame -/
abbrev T29 (z : Nat → Value) : Tm := mkT z [(4, .e (.one (.ptr 0 0))), (5, .e (.one (.ptr 1 0))), (9, .e (.one (.ptr 2 0))), (10, .tup []), (11, .tup []), (22, .e (.one (.clo 155 [] [(.one (.ptr 3 0))]))), (23, .tup []), (24, .tup [])] 35 0

def hB (z : Nat → Value) (asg bod : Code) (ws : List Nat) (mm0 mm1 mm2 : Bool) (L : Int) : List Int → Heap
  | [] => [some ⟨[.v (.bool mm0), .v (.bool mm1), .v (.bool mm2)], 3, 43, true, .cells⟩, some ⟨[.v (.int .i64 L)], 1, 3, true, .cells⟩, some ⟨[.v (.slice none 0 0)], 1, 25, true, .cells⟩, some ⟨[.dp (.s (fDT ws) ws.length 1)], 1, 42, true, .cells⟩, some markEnt, lpV (T29 z) #[23, 24] asg bod]
  | x :: l => [some ⟨[.v (.bool mm0), .v (.bool mm1), .v (.bool mm2)], 3, 43, true, .cells⟩, some ⟨[.v (.int .i64 L)], 1, 3, true, .cells⟩, some ⟨[.slc 6 0 (l.length + 1) 1 (l.length + 1) false], 1, 25, true, .cells⟩, some ⟨[.dp (.s (fDT ws) ws.length 1)], 1, 42, true, .cells⟩, some markEnt, lpV (T29 z) #[23, 24] asg bod, some ⟨(iC (x :: l)), (l.length + 1), 3, false, .cells⟩]
end
end Go.Proofs.YtdjjpjahlhdjnaaGreatDoor

end

/-! SyL -/
section
namespace Go.Ev
open Go.RowKit
noncomputable section
variable {E : Env} {rec : RunT} {lvl K : Nat} {r : Res → Prop} {rd : Option Nat}

/-- how a round's frame must end -/
def RoundEnds (b : Nat) (v : AV) (h' : Heap) (r : Res) : Prop :=
  r.marks = [] ∧ ∃ a' st' pd' tm' ps' as' bo', getL r.heap b = some (some a') ∧ a'.ext = .loop st' pd' tm' ps' as' bo' ∧ v = .e (.one (.v (.bool (pendOf r.jump).isNone))) ∧
    h' = setL r.heap b (some { a' with ext := .loop (if (pendOf r.jump).isNone then .ready else .done) (pendOf r.jump) tm' ps' as' bo' })

theorem leG_of_leK {base : Nat} {m m' : M} (hK : K = m.n) (h : M.leK base K m m') : M.leG base m m' := by
  subst hK
  exact ⟨h.n, fun b hb => h.ρ b hb, fun b hb => h.κ b hb, h.lo, h.F, h.fresh⟩

/-- A round out of the run of its frame. -/
theorem roundK_of {h h' : Heap} {b : Nat} {args : List AV} {v : AV} {a : AB} {st : LoopState} {pend : Option Code} {tm0 : Tm} {ps : Array Tmp} {asg body : Code} (hab : getL h b = some (some a)) (hx : a.ext = .loop st pend tm0 ps asg body) (hc : (Nat.beq (lenL args) (lenL ps.toList) && Nat.ble lvl b) = true)
    (ho : OutK E lvl (lenL h) ⟨h, [.code asg, .beginRound, .code body], setParams ps.toList args tm0⟩ (RoundEnds b v h') (some b)) : RoundK E lvl h b args v h' := by
  intro m base w argsC ha H G
  rw [getL_eq] at hab
  have hbl := (List.getElem?_eq_some_iff.1 hab).1
  have hmn := H.n
  have hbn : b < m.n := by rw [hmn]; exact hbl
  have hent := (H.ent b a hab).2
  rw [hx] at hent
  obtain ⟨fn, t0, D, hw, hT0⟩ := hent
  simp only [Bool.and_eq_true, Nat.ble_eq, lenL_eq] at hc
  obtain ⟨hlen, hlb⟩ := hc
  have hsz : argsC.size = ps.size := by have := ha.length; simp at this hlen; omega
  have hy := run_yield (P := E.P) (args := argsC) hw (by simpa using hsz)
  refine ⟨_, _, _, _, hy, fun cl cs => ?_⟩
  have hT1 := params_sound ps.toList (argsC := argsC.toList) (by simpa using hlen) ha (show TR m tm0 t0 from hT0)
  have hz : (ps.zip argsC).foldl (fun tmps (x : Tmp × Value) => tmps.setIfInBounds x.1 x.2) t0 = (ps.toList.zip argsC.toList).foldl (fun t p => t.setIfInBounds p.1 p.2) t0 := by
    rw [← Array.foldl_toList, Array.toList_zip]
  generalize htm : (ps.toList.zip argsC.toList).foldl (fun t p => t.setIfInBounds p.1 p.2) t0 = tms at hT1 hz
  have hfr : Frame.round (m.ρ b) fn tms asg body .normal = FR (Frame.round (m.ρ b) fn tms asg body .normal) tms [.code asg, .beginRound, .code body] := rfl
  obtain ⟨r, ⟨hmk, a', st', pd', tm', ps', as', bo', hab', hx', hv, hh⟩, t', todo', w1, m1, hst, hT', H1, hle, hB, hend, _⟩ := ho (Frame.round (m.ρ b) fn tms asg body .normal) tms (cl :: cs) w m base ⟨by rw [lenL_eq]; exact hbl, rfl, rfl⟩ hT1 H G (by rw [lenL_eq, hmn]; exact Nat.le_refl _)
  have hleG : M.leG base m m1 := leG_of_leK (by rw [lenL_eq, hmn]) hle
  rw [getL_eq] at hab'
  have hent' := (H1.ent b a' hab').2
  rw [hx'] at hent'
  obtain ⟨fn', t2, D', hw', hT2⟩ := hent'
  rw [hleG.ρ b hbn] at hw'
  have hE := run_endRound (P := E.P) (pendOf r.jump) hw'
  have hlt := (Array.getElem?_eq_some_iff.1 hw').1
  have hlast : step E.P (lone (FR { Frame.round (m.ρ b) fn tms asg body .normal with defers := marksC m1 r.marks ++ [] } t' todo') (cl :: cs) w1) = .next (lone (cl.finish (.bool (pendOf r.jump).isNone)) cs (w1.putObj (m.ρ b) (.loop { state := if (pendOf r.jump).isNone then .ready else .done, pending := pendOf r.jump, fn := fn', tmps := t2, params := ps', assign := as', body := bo', defers := D' }))) := by
    rw [hmk]
    cases hj : r.jump with
    | fell =>
      rw [hj] at hend hE
      have : todo' = [] := hend
      subst this
      exact stepF_round_end rfl rfl hE
    | ret =>
      rw [hj] at hend hE
      obtain ⟨k, rfl⟩ := hend
      exact stepF_round_ret rfl rfl hE
    | exit id =>
      rw [hj] at hend hE
      obtain ⟨k, rfl, hk⟩ := hend
      exact stepF_round_exit rfl rfl hk hE
  refine ⟨.bool (pendOf r.jump).isNone, w1.putObj (m.ρ b) (.loop { state := if (pendOf r.jump).isNone then .ready else .done, pending := pendOf r.jump, fn := fn', tmps := t2, params := ps', assign := as', body := bo', defers := D' }), ?_, m1, hleG, ?_, ?_, hB.trans (below_putObj (H.own b hlb hbl) _)⟩
  · simp only [hz]
    rw [hfr]
    exact Steps.trans hst (.one hlast)
  · rw [hv]; exact (rfl : Value.bool (pendOf r.jump).isNone = .bool (pendOf r.jump).isNone)
  · rw [hh, setL_eq]
    refine H1.putEnt hab' hlb (by simp) (fun k hk => World.putObj_heap_other (by rw [hleG.ρ b hbn] at hk; exact hk)) ⟨fun hx => by simp at hx, fn', t2, D', ?_, hT2⟩
    rw [hleG.ρ b hbn]
    exact World.putObj_heap_same hlt

/-- The beginning of a round. -/
theorem outK_begin {h : Heap} {b : Nat} {k : List Item} {tm : Tm} {a : AB} {pd : Option Code} {tm' : Tm} {ps : Array Tmp} {asg bo : Code} (hab : getL h b = some (some a)) (hx : a.ext = .loop .ready pd tm' ps asg bo) (hlb : Nat.ble lvl b = true)
    (ho : OutK E lvl K ⟨setL h b (some { a with ext := .loop .busy pd tm' ps asg bo }), k, tm⟩ r (some b)) : OutK E lvl K ⟨h, .beginRound :: k, tm⟩ r (some b) := by
  intro fr t cs w m base hR hT H G hK
  rw [getL_eq] at hab
  rw [Nat.ble_eq] at hlb
  have hR' := hR
  obtain ⟨hbK, hro, hkd⟩ := hR
  have hent := (H.ent b a hab).2
  rw [hx] at hent
  obtain ⟨fn', t2, D', hw', hT2⟩ := hent
  have hlt := (Array.getElem?_eq_some_iff.1 hw').1
  have hbr := run_beginRound (P := E.P) hw' rfl
  have H1 : HR m base lvl (h.set b (some { a with ext := .loop .busy pd tm' ps asg bo })) (w.putObj (m.ρ b) (.loop { state := .busy, pending := pd, fn := fn', tmps := t2, params := ps, assign := asg, body := bo, defers := D' })) :=
    H.putEnt hab hlb (by simp) (fun k hk => World.putObj_heap_other hk) ⟨fun hx => by simp at hx, fn', t2, D', World.putObj_heap_same hlt, hT2⟩
  have hB1 := below_putObj (w := w) (H.own b hlb (List.getElem?_eq_some_iff.1 hab).1) (.loop { state := .busy, pending := pd, fn := fn', tmps := t2, params := ps, assign := asg, body := bo, defers := D' })
  rw [setL_eq] at ho
  obtain ⟨q, hq, t', todo'', w', m', g1, g2, g3, g4, g5, g6⟩ := ho fr t cs _ m base hR' hT H1 (G.below hB1) hK
  exact ⟨q, hq, t', todo'', w', m', .head (stepF_beginRound hro hbr) g1, g2, g3, g4, hB1.trans g5, g6⟩

/-- A loop over a function, by the function's contract. -/
theorem outK_loop (hE : EnvOk E) {h h2 : Heap} {k : List Item} {tm : Tm} {f : Operand} {ps : Array Tmp} {asg body : Code} {g : FuncId} {avs : List AV} {v : AV} {a : AB} {st : LoopState} {pd : Option Code} {tm' : Tm} {ps' : Array Tmp} {asg' bo' : Code} {fn : Func}
    (hcal : calleeFn tm f = some (g, avs)) (hfn : E.P.funcs[g]? = some fn) (hbd : fn.body.isSome = true) (hKl : Nat.ble K (lenL h) = true)
    (hc : COut E lvl (appL (appL h [some markEnt]) [some (loopEnt .ready none tm ps asg body)]) g (.e (.one (.yld (lenL h + 1))) :: avs) v h2)
    (hab : getL h2 (lenL h + 1) = some (some a)) (hx : a.ext = .loop st pd tm' ps' asg' bo') (hst : st ≠ .busy)
    (ho : OutK E lvl (lenL h + 1) ⟨setL h2 (lenL h + 1) (some { a with ext := .loop .exhausted pd tm' ps' asg' bo' }), (pd.map Item.code).toList ++ k, tm⟩ (fun q => r { q with marks := appL q.marks [lenL h] })) :
    OutK E lvl K ⟨h, .code (.rangeFunc f ps asg body) :: k, tm⟩ r := by
  intro fr t cs w m base hR hT H G hK
  have hR : fr.roundOf = none := hR
  have H : HR m base lvl h w := H
  have hT : TR m tm t := hT
  rw [Nat.ble_eq, lenL_eq] at hKl
  simp only [lenL_eq, appL_eq] at hc hab ho
  rw [getL_eq] at hab
  rw [setL_eq] at ho
  have hmn := H.n
  obtain ⟨csC, hev, hcs⟩ := calleeFn_sound hT hcal
  obtain ⟨w2, m2, hen, H2, hle2, hn2, hρ2, hρ1, hB2⟩ := enter_sound (P := E.P) hT H fr.fn ps asg body
  have hargs : All2 (VR m2) (.e (.one (.yld (h.length + 1))) :: avs) (#[Value.func (.yield (w.heap.size + 1)) #[] #[]] ++ csC).toList := by
    rw [Array.toList_append]
    refine ⟨⟨by omega, by rw [hρ2]⟩, ?_⟩
    exact hcs.imp fun _ _ => VR.mono hle2
  have hcall := hc m2 base w2 _ hargs H2 (G.below hB2)
  obtain ⟨e, w', fr', ⟨y, rfl, m', hp⟩, hsteps, _, hleave⟩ := hcall (FR { fr with defers := [{ target := .collected w.heap.size, args := #[] }] ++ fr.defers } t (.inRangeFunc (w.heap.size + 1) :: k) :: cs)
  have hent := (hp.heap.ent _ a hab).2
  rw [hx] at hent
  obtain ⟨fn', t2, D', hw', hT2⟩ := hent
  have hb2 : h.length + 1 < m2.n := by omega
  rw [hp.le.ρ _ hb2, hρ2] at hw'
  have hEnd := run_endLoop (P := E.P) hw' hst
  have hlt := (Array.getElem?_eq_some_iff.1 hw').1
  have hlvl := H.lvlLe
  have hbl := (List.getElem?_eq_some_iff.1 hab).1
  have hown := hp.heap.own (h.length + 1) (by omega) hbl
  rw [hp.le.ρ _ hb2, hρ2] at hown
  have e1 : marksC m' [h.length] = [{ target := .collected w.heap.size, args := #[] }] := by
    simp only [marksC, List.map_cons, List.map_nil]
    rw [hp.le.ρ _ (by omega), hρ1]
  have hnb : ¬ fn.body = none := fun e => by simp [e] at hbd
  have hnum : ¬ fn.name = "runtime.NumGoroutine" := by simpa using hE.num g fn hfn
  have hst1 := stepF_rangeFunc (P := E.P) (fr := fr) (t := t) (cs := cs) (w := w) (k := k) (f := f) (ps := ps) (asg := asg) (body := body) (g := g) (args := #[Value.func (.yield (w.heap.size + 1)) #[] #[]] ++ csC) (d := { target := .fn (.func g) csC, args := #[Value.func (.yield (w.heap.size + 1)) #[] #[]] })
    (by rw [hR]; exact hen) (by
      have hcv : ∀ v : Value, evC t (.const v) = v := fun _ => rfl
      simp [resolve, hev, Deferred.ofValue, hcv]) (by simp [invoke, callFunc, hfn, hnb, hnum])
  have hsteps1 := Steps.head hst1 (Steps.trans hsteps (.head (step_leave_returned hleave) (.one (stepF_endLoop hEnd))))
  have H3 : HR m' base lvl (h2.set (h.length + 1) (some { a with ext := .loop .exhausted pd tm' ps' asg' bo' })) (w'.putObj (w.heap.size + 1) (.loop { state := .exhausted, pending := pd, fn := fn', tmps := t2, params := ps', assign := asg', body := bo', defers := D' })) := by
    refine hp.heap.putEnt hab (by omega) (by simp) (fun k hk => World.putObj_heap_other (by rw [hp.le.ρ _ hb2, hρ2] at hk; exact hk)) ⟨fun hx => by simp at hx, fn', t2, D', ?_, hT2⟩
    rw [hp.le.ρ _ hb2, hρ2]
    exact World.putObj_heap_same hlt
  have hleA : M.leG base m m' := (hle2.g base).trans hp.le
  have hBA : Below base w _ := (hB2.trans hp.below).trans (below_putObj hown (.loop { state := .exhausted, pending := pd, fn := fn', tmps := t2, params := ps', assign := asg', body := bo', defers := D' }))
  have hn1 : h.length + 1 ≤ m'.n := by have := hp.le.n; omega
  obtain ⟨q, hq, t', todo'', w3, m3, g1, g2, g3, g4, g5, g6, g7⟩ := ho { fr with defers := [{ target := .collected w.heap.size, args := #[] }] ++ fr.defers } t cs _ m' base (show fr.roundOf = none from hR) (hT.monoG hleA) H3 (G.below hBA) hn1
  refine ⟨_, hq, t', todo'', w3, m3, Steps.trans hsteps1 ?_, g2, g3, (M.leK.of_le hK hleA).trans ⟨by have := g4.n; omega, fun b hb => g4.ρ b (by omega), fun b hb => g4.κ b (by omega), g4.lo, g4.F, g4.fresh⟩, hBA.trans g5, g6, ?_⟩
  · have e : marksC m3 (q.marks ++ [h.length]) ++ fr.defers = marksC m3 q.marks ++ ([{ target := .collected w.heap.size, args := #[] }] ++ fr.defers) := by
      rw [← e1]
      simp only [marksC, List.map_append, List.map_cons, List.map_nil, List.append_assoc]
      rw [g4.ρ _ (by omega)]
    simp only [e]
    exact g1
  · intro b hb
    simp only [List.mem_append, List.mem_singleton] at hb
    rcases hb with hb | rfl
    · exact g7 b hb
    · have := g4.n; omega

/-- how a frame with loops behind it must end -/
def EndsM (E : Env) (lvl : Nat) (fn : Func) (v : AV) (hout : Heap) (q : Res) : Prop := fellOrRet q.jump = true ∧ dropMarks lvl q.heap q.marks = some hout ∧ resultsA E fn q.tm hout = some v
/-- A contract out of the run of a frame with loops. -/
theorem cOut_startM {f : FuncId} {fn : Func} (hf : E.P.funcs[f]? = some fn) (hb : fn.body.isSome = true) {hin hout : Heap} {args : List AV} {v : AV} (ho : OutK E lvl (lenL hin) (startK fn hin args) (EndsM E lvl fn v hout)) : COut E lvl hin f args v hout := by
  cases hc : fn.body with
  | none => rw [hc] at hb; simp at hb
  | some c =>
  have e : bodyOf fn = c := by simp [bodyOf, hc]
  unfold startK at ho
  rw [e, lenL_eq] at ho
  intro m base w argsC ha H G cs
  let fr0 : Frame := Frame.enter E.P f argsC .normal
  have hT : TR m (appL args (List.replicate (fn.ntmps - lenL args) (.tup []))) (argsC ++ Array.replicate (fn.ntmps - argsC.size) undef) := by
    unfold TR
    rw [appL_eq, lenL_eq, Array.toList_append, Array.toList_replicate]
    have hl : args.length = argsC.size := by have := ha.length; simpa using this
    rw [hl]
    exact ha.append (all2_undef m _)
  have he : fr0 = FR fr0 (argsC ++ Array.replicate (fn.ntmps - argsC.size) undef) [.code c] := by
    simp [fr0, Frame.enter, FR, hf, hc]
  have hround : fr0.roundOf = none := rfl
  obtain ⟨q, ⟨hj, hdm, hv⟩, t', todo', w1, m', hst, hT', H', hle, hB, hend, _⟩ := ho fr0 _ cs w m base hround hT H G (by rw [H.n]; exact Nat.le_refl _)
  have hleG : M.leG base m m' := leG_of_leK H.n.symm hle
  have hd0 : fr0.defers = [] := rfl
  rw [hd0, List.append_nil] at hst
  have fin : ∃ todo'', Steps E.P (lone (FR { fr0 with defers := marksC m' q.marks } t' todo') cs w1) (lone { FR { fr0 with defers := marksC m' q.marks } t' todo'' with mode := .returning } cs w1) := by
    cases hjj : q.jump with
    | fell =>
      rw [hjj] at hend
      have : todo' = [] := hend
      subst this
      exact ⟨[], .one (stepF_end hround)⟩
    | ret =>
      rw [hjj] at hend
      obtain ⟨k, rfl⟩ := hend
      exact ⟨.code .ret :: k, .one (stepF_ret hround)⟩
    | exit id => rw [hjj] at hj; simp [fellOrRet] at hj
  obtain ⟨todo'', hfin⟩ := fin
  obtain ⟨w', hdr, H2, hB2⟩ := dropMarks_sound E.P q.marks _ _ _ H' hdm { FR { fr0 with defers := marksC m' q.marks } t' todo'' with mode := .returning } cs (by simp) rfl
  obtain ⟨y, hy, hvr⟩ := resultsA_sound (E := E) hT' H2 ((G.below hB).below hB2) hv
  refine ⟨.returned y, w', { FR fr0 t' todo'' with mode := .returning }, ⟨y, rfl, m', hleG, hvr, H2, hB.trans hB2⟩, ?_, rfl, ?_⟩
  · show Steps E.P (lone fr0 cs w) _
    rw [he]
    exact Steps.trans hst (Steps.trans hfin hdr)
  · exact ⟨rfl, rfl, rfl, fn, hf, hy⟩
end
end Go.Ev

end

/-! SePb -/
section
open Go Go.Ev
namespace Go.Proofs.YtdjjpjahlhdjnaaGreatDoor
noncomputable section
set_option maxRecDepth 100000
set_option maxHeartbeats 20000000
open Ieee
/-- a list without elements, nil or not -/
theorem cOut_nil2 {f : FuncId} {args : List AV} {h : Heap} {x : AE} {p : Option Addr} {c : Nat} (sz : Nat) (hc : COut E 0 [] f args (.tup [.one (.v (.slice p 0 c)), x]) h) : COut E 0 [] f args (.tup [.one (.dp (.s [] 0 sz)), x]) h := by
  intro m base w argsC ha H G
  refine (hc m base w argsC ha H G).mono fun en w' ⟨y, hy, m1, hp⟩ => ⟨y, hy, m1, hp.le, ?_, hp.heap, hp.below⟩
  obtain ⟨vs, e, hv⟩ := hp.val
  refine ⟨vs, e, ?_⟩
  revert hv
  generalize vs.toList = l
  intro hv
  match l, hv with
  | [a, b], hv => exact ⟨.inl ⟨rfl, p, c, hv.1⟩, hv.2.1, trivial⟩
theorem bnd {ws : List Nat} {k : Nat} (hc : ∀ b ∈ ws, chkW 1024 b = 0) (h : k < ws.length) : (ww ws k).natAbs ≤ 16384 := by
  have g := (chk_zero (hc _ (memW h))).2.2
  unfold ww
  omega
theorem sm1 {m : Nat} (h : m ≤ 4096) : small (m + 1) 1 8 = true := by simp [small]; omega
/-- windows: a function over the windows -/
theorem K92 (hE : EnvOk E) (C : List DT) (n : Nat) : COut E 0 [] 92 [.e (.one (.dp (.s C n 1)))] (.e (.one (.clo 155 [] [.one (.ptr 0 0)]))) [some ⟨[.dp (.s C n 1)], 1, 42, true, .cells⟩] :=
  cOut_start Tryz.func92 rfl (p92 hE C n (fun j => outK_ret (ends_ret (by kernel_rfl))) fun _ => undef)
end
end Go.Proofs.YtdjjpjahlhdjnaaGreatDoor

end

/-! SePd -/
section
open Go Go.Ev
namespace Go.Proofs.YtdjjpjahlhdjnaaGreatDoor
noncomputable section
set_option maxRecDepth 100000
set_option maxHeartbeats 20000000
def s81 (C : List DT) (n _i : Nat) (_x _y _u : Int) (_j : Nat → Value) : St := startK Tryz.f81 [] [(.e (.one (.dp (.s C n 1))))]
def s15 (C : List DT) (n _i : Nat) (_x _y _u : Int) (_j : Nat → Value) : St := startK Tryz.f15 [] [(.e (.one (.dp (.s C n 1))))]
def s66 (C : List DT) (n _i : Nat) (_x _y _u : Int) (_j : Nat → Value) : St := startK Tryz.f66 [] [(.e (.one (.dp (.s C n 1)))), (.e (.one (.dp (.s C n 1))))]
def s96 (C : List DT) (n i _k _b : Nat) (f _w _e1 _e2 _u _v _x _y _re _im _re2 _im2 : Int) (_j : Nat → Value) : St := startK Tryz.f96 [] [(.e (.one (.dp (.s C n 1)))), (iI (Int.ofNat i)), iI f]
def q81 (C : List DT) (n i : Nat) (_x _y _u : Int) (j : Nat → Value) : St := ⟨[], [(.code (atC [1, 0, 1, 0, 0] (bodyOf Tryz.f81))), (.inLoop (atC [1, 0, 1, 0, 0] (bodyOf Tryz.f81))), (.inBlock 0), (.code (atC [1, 1] (bodyOf Tryz.f81)))], mkT j [(0, (.e (.one (.dp (.s (C) (n) 1))))), (3, (iI (Int.ofNat i)))] 19 0⟩
def q66 (C : List DT) (n i : Nat) (_x _y _u : Int) (j : Nat → Value) : St := ⟨[], [(.code (atC [1, 1, 0, 1, 0, 0] (bodyOf Tryz.f66))), (.inLoop (atC [1, 1, 0, 1, 0, 0] (bodyOf Tryz.f66))), (.inBlock 0), (.code (atC [1, 1, 1] (bodyOf Tryz.f66)))], mkT j [(0, (.e (.one (.dp (.s (C) (n) 1))))), (1, (.e (.one (.dp (.s (C) (n) 1))))), (5, (iI (Int.ofNat i)))] 26 0⟩
def q96 (C : List DT) (n i k _b : Nat) (f _w _e1 _e2 _u _v _x _y re im _re2 _im2 : Int) (j : Nat → Value) : St := ⟨[(.some ⟨[(.v (.int .i64 0)), (.v (.int .i64 0))], 2, 160, true, .cells⟩), (.some ⟨[(.v (.int .i64 re)), (.v (.int .i64 im))], 2, 160, true, .cells⟩)], [(.code (atC [1, 1, 0, 1, 0, 0] (bodyOf Tryz.f96))), (.inLoop (atC [1, 1, 0, 1, 0, 0] (bodyOf Tryz.f96))), (.inBlock 0), (.code (atC [1, 1, 1] (bodyOf Tryz.f96)))], mkT j [(0, (.e (.one (.dp (.s (C) (n) 1))))), (1, (iI (Int.ofNat i))), (2, (iI (f))), (6, (.e (.one (.ptr 0 0)))), (7, (.e (.one (.ptr 1 0)))), (8, (iI (Int.ofNat k)))] 32 0⟩
def p81a_end (C : List DT) (n _i : Nat) (_x _y _u : Int) (j : Nat → Value) : St := ⟨[], [(.code (atC [1, 0, 1, 0, 0] (bodyOf Tryz.f81))), (.inLoop (atC [1, 0, 1, 0, 0] (bodyOf Tryz.f81))), (.inBlock 0), (.code (atC [1, 1] (bodyOf Tryz.f81)))], mkT j [(0, (.e (.one (.dp (.s (C) (n) 1))))), (3, (iI 0))] 19 0⟩
theorem p81a (hE : EnvOk E) (C : List DT) (n i : Nat) (x y u : Int)  {Φ : Res → Prop} (ho : ∀ j, OutK E 0 0 (p81a_end C n i x y u j) Φ) (j : Nat → Value) : OutK E 0 0 (s81 C n i x y u j) Φ :=
  outK_seg hE (R0_ok hE) [.run 7] [0, 3] (ps := []) (fun j => by kernel_rfl) trivial
    ho
def p66a_end (C : List DT) (n _i : Nat) (_x _y _u : Int) (j : Nat → Value) : St := ⟨[], [(.code (atC [1, 1, 0, 1, 0, 0] (bodyOf Tryz.f66))), (.inLoop (atC [1, 1, 0, 1, 0, 0] (bodyOf Tryz.f66))), (.inBlock 0), (.code (atC [1, 1, 1] (bodyOf Tryz.f66)))], mkT j [(0, (.e (.one (.dp (.s (C) (n) 1))))), (1, (.e (.one (.dp (.s (C) (n) 1))))), (5, (iI 0))] 26 0⟩
theorem p66a (hE : EnvOk E) (C : List DT) (n i : Nat) (x y u : Int) (h0 : ((↑n : Int) != (↑n : Int) : Bool) = false) {Φ : Res → Prop} (ho : ∀ j, OutK E 0 0 (p66a_end C n i x y u j) Φ) (j : Nat → Value) : OutK E 0 0 (s66 C n i x y u j) Φ :=
  outK_seg hE (R0_ok hE) [.run 4, (.ops [(1, (.d .len)), (3, (.d .len))] []), (.cond false), .run 6] [0, 1, 5] (fun j => by kernel_rfl) (aP h0 <| aZ)
    ho
def p15_end (_C : List DT) (_n _i : Nat) (x _y _u : Int) (j : Nat → Value) : St := ⟨[], [(.code .ret)], mkT j [(2, (iI (x)))] 5 0⟩
theorem p15 (hE : EnvOk E) (C : List DT) (n i : Nat) (x y u : Int) (h0 : COut E 0 [] 81 [(.e (.one (.dp (.s (C) (n) 1))))] (iI (x)) []) {Φ : Res → Prop} (ho : ∀ j, OutK E 0 0 (p15_end C n i x y u j) Φ) (j : Nat → Value) : OutK E 0 0 (s15 C n i x y u j) Φ :=
  outK_seg hE (R0_ok hE) [.run 3, (.ops [(1, (.c0 (iI (x))))] [])] [2] (fun j => by kernel_rfl) (aP h0 <| aN <| aZ)
    ho
def p96a_end (C : List DT) (n i _k _b : Nat) (f _w _e1 _e2 _u _v _x _y _re _im _re2 _im2 : Int) (j : Nat → Value) : St := ⟨[(.some ⟨[(.v (.int .i64 0)), (.v (.int .i64 0))], 2, 160, true, .cells⟩), (.some ⟨[(.v (.int .i64 0)), (.v (.int .i64 0))], 2, 160, true, .cells⟩)], [(.code (atC [1, 1, 0, 1, 0, 0] (bodyOf Tryz.f96))), (.inLoop (atC [1, 1, 0, 1, 0, 0] (bodyOf Tryz.f96))), (.inBlock 0), (.code (atC [1, 1, 1] (bodyOf Tryz.f96)))], mkT j [(0, (.e (.one (.dp (.s (C) (n) 1))))), (1, (iI (Int.ofNat i))), (2, (iI (f))), (6, (.e (.one (.ptr 0 0)))), (7, (.e (.one (.ptr 1 0)))), (8, (iI 0))] 32 0⟩
theorem p96a (hE : EnvOk E) (C : List DT) (n i k b : Nat) (f w e1 e2 u v x y re im re2 im2 : Int)  {Φ : Res → Prop} (ho : ∀ j, OutK E 0 0 (p96a_end C n i k b f w e1 e2 u v x y re im re2 im2 j) Φ) (j : Nat → Value) : OutK E 0 0 (s96 C n i k b f w e1 e2 u v x y re im re2 im2 j) Φ :=
  outK_seg hE (R0_ok hE) [.run 9] [0, 1, 2, 6, 7, 8] (ps := []) (fun j => by kernel_rfl) trivial
    ho
def p81s_end (C : List DT) (n i : Nat) (_x _y _u : Int) (j : Nat → Value) : St := ⟨[], [(.code (atC [1, 0, 1, 0, 0] (bodyOf Tryz.f81))), (.inLoop (atC [1, 0, 1, 0, 0] (bodyOf Tryz.f81))), (.inBlock 0), (.code (atC [1, 1] (bodyOf Tryz.f81)))], mkT j [(0, (.e (.one (.dp (.s (C) (n) 1))))), (3, (iI (Int.ofNat (i + 1))))] 19 0⟩
theorem p81s (hE : EnvOk E) (C : List DT) (n i : Nat) (x y u : Int) (h0 : (decide (Int.ofNat i < (↑n : Int)) : Bool) = true) (h1 : (0 : Int) ≤ Int.ofNat i ∧ Int.ofNat i < (↑n : Int)) (h2 : ((Int.ofNat i).toNat * nat_lit 1 : Nat) = i) (h3 : (getL C i : Option DT) = (.some (.v (.int .i64 (x))))) (h4 : (x != (0 : Int) : Bool) = false) (h5 : ((iI (wrapF IntKind.i64 (Int.ofNat i + (1 : Int)))) : AV) = (iI (Int.ofNat (i + 1)))) {Φ : Res → Prop} (ho : ∀ j, OutK E 0 0 (p81s_end C n i x y u j) Φ) (j : Nat → Value) : OutK E 0 0 (q81 C n i x y u j) Φ :=
  outK_seg hE (R0_ok hE) [.run 2, (.ops [(2, (.d .len))] []), (.cond true), .run 4, (.ops [(3, (.d (.ld (.v (.int .i64 (x)))))), (2, (.d (.ix (i))))] []), (.cond false), .run 2, (.ops [(1, (.rn (iI (Int.ofNat (i + 1)))))] []), .run 1] [0, 3] (fun j => by kernel_rfl) (aP h0 <| aP h1 <| aP h2 <| aP h3 <| aP h4 <| aP h5 <| aZ)
    ho
def p81e_end (_C : List DT) (_n _i : Nat) (x _y _u : Int) (j : Nat → Value) : St := ⟨[], [(.code .ret), (.inBlock 1), (.code (atC [1, 0, 1, 0, 0, 1, 1] (bodyOf Tryz.f81))), (.inLoop (atC [1, 0, 1, 0, 0] (bodyOf Tryz.f81))), (.inBlock 0), (.code (atC [1, 1] (bodyOf Tryz.f81)))], mkT j [(2, (iI (x)))] 19 0⟩
theorem p81e (hE : EnvOk E) (C : List DT) (n i : Nat) (x y u : Int) (h0 : (decide (Int.ofNat i < (↑n : Int)) : Bool) = true) (h1 : (0 : Int) ≤ Int.ofNat i ∧ Int.ofNat i < (↑n : Int)) (h2 : ((Int.ofNat i).toNat * nat_lit 1 : Nat) = i) (h3 : (getL C i : Option DT) = (.some (.v (.int .i64 (x))))) (h4 : (x != (0 : Int) : Bool) = true) (h5 : (0 : Int) ≤ Int.ofNat i ∧ Int.ofNat i < (↑n : Int)) (h6 : ((Int.ofNat i).toNat * nat_lit 1 : Nat) = i) (h7 : (getL C i : Option DT) = (.some (.v (.int .i64 (x))))) {Φ : Res → Prop} (ho : ∀ j, OutK E 0 0 (p81e_end C n i x y u j) Φ) (j : Nat → Value) : OutK E 0 0 (q81 C n i x y u j) Φ :=
  outK_seg hE (R0_ok hE) [.run 2, (.ops [(2, (.d .len))] []), (.cond true), .run 4, (.ops [(3, (.d (.ld (.v (.int .i64 (x)))))), (2, (.d (.ix (i))))] []), (.cond true), .run 1, (.ops [(3, (.d (.ld (.v (.int .i64 (x)))))), (2, (.d (.ix (i))))] [])] [2] (fun j => by kernel_rfl) (aP h0 <| aP h1 <| aP h2 <| aP h3 <| aP h4 <| aP h5 <| aP h6 <| aP h7 <| aZ)
    ho
def p81x_end (_C : List DT) (_n _i : Nat) (_x _y _u : Int) (j : Nat → Value) : St := ⟨[], [(.code .ret)], mkT j [(2, (iI 0))] 19 0⟩
theorem p81x (hE : EnvOk E) (C : List DT) (n i : Nat) (x y u : Int) (h0 : (decide (Int.ofNat i < (↑n : Int)) : Bool) = false) {Φ : Res → Prop} (ho : ∀ j, OutK E 0 0 (p81x_end C n i x y u j) Φ) (j : Nat → Value) : OutK E 0 0 (q81 C n i x y u j) Φ :=
  outK_seg hE (R0_ok hE) [.run 2, (.ops [(2, (.d .len))] []), (.cond false), .run 3] [2] (fun j => by kernel_rfl) (aP h0 <| aZ)
    ho
def p66s_end (C : List DT) (n i : Nat) (_x _y _u : Int) (j : Nat → Value) : St := ⟨[], [(.code (atC [1, 1, 0, 1, 0, 0] (bodyOf Tryz.f66))), (.inLoop (atC [1, 1, 0, 1, 0, 0] (bodyOf Tryz.f66))), (.inBlock 0), (.code (atC [1, 1, 1] (bodyOf Tryz.f66)))], mkT j [(0, (.e (.one (.dp (.s (C) (n) 1))))), (1, (.e (.one (.dp (.s (C) (n) 1))))), (5, (iI (Int.ofNat (i + 1))))] 26 0⟩
theorem p66s (hE : EnvOk E) (C : List DT) (n i : Nat) (x y u : Int) (h0 : (decide (Int.ofNat i < (↑n : Int)) : Bool) = true) (h1 : (0 : Int) ≤ Int.ofNat i ∧ Int.ofNat i < (↑n : Int)) (h2 : ((Int.ofNat i).toNat * nat_lit 1 : Nat) = i) (h3 : (getL C i : Option DT) = (.some (.v (.int .i64 (x))))) (h4 : (0 : Int) ≤ Int.ofNat i ∧ Int.ofNat i < (↑n : Int)) (h5 : ((Int.ofNat i).toNat * nat_lit 1 : Nat) = i) (h6 : (getL C i : Option DT) = (.some (.v (.int .i64 (x))))) (h8 : (x != x : Bool) = false) (h9 : ((iI (wrapF IntKind.i64 (Int.ofNat i + (1 : Int)))) : AV) = (iI (Int.ofNat (i + 1)))) {Φ : Res → Prop} (ho : ∀ j, OutK E 0 0 (p66s_end C n i x y u j) Φ) (j : Nat → Value) : OutK E 0 0 (q66 C n i x y u j) Φ :=
  outK_seg hE (R0_ok hE) [.run 2, (.ops [(2, (.d .len))] []), (.cond true), .run 4, (.ops [(3, (.d (.ld (.v (.int .i64 (x)))))), (7, (.d (.ld (.v (.int .i64 (x)))))), (2, (.d (.ix (i)))), (6, (.d (.ix (i))))] []), (.cond false), .run 2, (.ops [(1, (.rn (iI (Int.ofNat (i + 1)))))] []), .run 1] [0, 1, 5] (fun j => by kernel_rfl) (aP h0 <| aP h1 <| aP h2 <| aP h3 <| aP h4 <| aP h5 <| aP h6 <| aP (rfl : (true : Bool) = true) <| aP h8 <| aP h9 <| aZ)
    ho
def p66x_end (_C : List DT) (_n _i : Nat) (_x _y _u : Int) (j : Nat → Value) : St := ⟨[], [(.code .ret)], mkT j [(4, (iB true))] 26 0⟩
theorem p66x (hE : EnvOk E) (C : List DT) (n i : Nat) (x y u : Int) (h0 : (decide (Int.ofNat i < (↑n : Int)) : Bool) = false) {Φ : Res → Prop} (ho : ∀ j, OutK E 0 0 (p66x_end C n i x y u j) Φ) (j : Nat → Value) : OutK E 0 0 (q66 C n i x y u j) Φ :=
  outK_seg hE (R0_ok hE) [.run 2, (.ops [(2, (.d .len))] []), (.cond false), .run 3] [4] (fun j => by kernel_rfl) (aP h0 <| aZ)
    ho
def p96s_end (C : List DT) (n i k _b : Nat) (f _w _e1 _e2 _u _v _x _y _re _im re2 im2 : Int) (j : Nat → Value) : St := ⟨[(.some ⟨[(.v (.int .i64 0)), (.v (.int .i64 0))], 2, 160, true, .cells⟩), (.some ⟨[(.v (.int .i64 (re2))), (.v (.int .i64 (im2)))], 2, 160, true, .cells⟩)], [(.code (atC [1, 1, 0, 1, 0, 0] (bodyOf Tryz.f96))), (.inLoop (atC [1, 1, 0, 1, 0, 0] (bodyOf Tryz.f96))), (.inBlock 0), (.code (atC [1, 1, 1] (bodyOf Tryz.f96)))], mkT j [(0, (.e (.one (.dp (.s (C) (n) 1))))), (1, (iI (Int.ofNat i))), (2, (iI (f))), (6, (.e (.one (.ptr 0 0)))), (7, (.e (.one (.ptr 1 0)))), (8, (iI (Int.ofNat (k + 1))))] 32 0⟩
theorem p96s (hE : EnvOk E) (C : List DT) (n i k b : Nat) (f w e1 e2 u v x y re im re2 im2 : Int) (h0 : (decide (Int.ofNat k < (4 : Int)) : Bool) = true) (h1 : ((iI (wrapF IntKind.i64 ((4 : Int) * Int.ofNat i))) : AV) = (iI (Int.ofNat ((4 : Nat) * i)))) (h2 : ((iI (wrapF IntKind.i64 (Int.ofNat ((4 : Nat) * i) + Int.ofNat k))) : AV) = (iI (Int.ofNat ((4 : Nat) * i + k)))) (h3 : (0 : Int) ≤ Int.ofNat ((4 : Nat) * i + k) ∧ Int.ofNat ((4 : Nat) * i + k) < (↑n : Int)) (h4 : ((Int.ofNat ((4 : Nat) * i + k)).toNat * nat_lit 1 : Nat) = (4 : Nat) * i + k) (h5 : (getL C ((4 : Nat) * i + k) : Option DT) = (.some (.v (.float .f32 (b))))) (h6 : COut E 0 [] 65 [(.e (.one (.v (.float .f32 (b)))))] (iI (w)) []) (h8 : ((iI (wrapF IntKind.i64 ((3 : Int) * f))) : AV) = (iI (e1))) (h9 : ((iI (wrapF IntKind.i64 (e1 * Int.ofNat k))) : AV) = (iI (e2))) (h10 : COut E 0 [] 109 [(iI (e2))] (.e (.agg [(.v (.int .i64 (u))), (.v (.int .i64 (v)))])) []) (h12 : COut E 0 [] 108 [(.e (.agg [(.v (.int .i64 (w))), (.v (.int .i64 0))])), (.e (.agg [(.v (.int .i64 (u))), (.v (.int .i64 (v)))]))] (.e (.agg [(.v (.int .i64 (x))), (.v (.int .i64 (y)))])) []) (h15 : COut E 0 [] 107 [(.e (.agg [(.v (.int .i64 (re))), (.v (.int .i64 (im)))])), (.e (.agg [(.v (.int .i64 (x))), (.v (.int .i64 (y)))]))] (.e (.agg [(.v (.int .i64 (re2))), (.v (.int .i64 (im2)))])) []) (h17 : ((iI (wrapF IntKind.i64 (Int.ofNat k + (1 : Int)))) : AV) = (iI (Int.ofNat (k + 1)))) {Φ : Res → Prop} (ho : ∀ j, OutK E 0 0 (p96s_end C n i k b f w e1 e2 u v x y re im re2 im2 j) Φ) (j : Nat → Value) : OutK E 0 0 (q96 C n i k b f w e1 e2 u v x y re im re2 im2 j) Φ :=
  outK_seg hE (R0_ok hE) [.run 3, (.cond true), .run 3, (.ops [(3, (.rn (iI (Int.ofNat ((4 : Nat) * i))))), (5, (.rn (iI (Int.ofNat ((4 : Nat) * i + k))))), (7, (.d (.ld (.v (.float .f32 (b)))))), (8, (.c0 (iI (w)))), (11, (.rn (iI (e1)))), (13, (.rn (iI (e2)))), (14, (.c0 (.e (.agg [(.v (.int .i64 (u))), (.v (.int .i64 (v)))])))), (15, (.c0 (.e (.agg [(.v (.int .i64 (x))), (.v (.int .i64 (y)))])))), (16, (.c0 (.e (.agg [(.v (.int .i64 (re2))), (.v (.int .i64 (im2)))])))), (6, (.d (.ix ((4 : Nat) * i + k))))] []), .run 1, (.ops [(1, (.rn (iI (Int.ofNat (k + 1)))))] []), .run 1] [0, 1, 2, 6, 7, 8] (fun j => by kernel_rfl) (aP h0 <| aP h1 <| aP h2 <| aP h3 <| aP h4 <| aP h5 <| aP h6 <| aN <| aP h8 <| aP h9 <| aP h10 <| aN <| aP h12 <| aN <| aP (rfl : (true : Bool) = true) <| aP h15 <| aN <| aP h17 <| aZ)
    ho
def p96x_end (_C : List DT) (_n _i _k _b : Nat) (_f _w _e1 _e2 _u _v _x _y re im _re2 _im2 : Int) (j : Nat → Value) : St := ⟨[(.some ⟨[(.v (.int .i64 (re))), (.v (.int .i64 (im)))], 2, 160, true, .cells⟩)], [(.code .ret)], mkT j [(6, (.e (.one (.ptr 0 0))))] 32 0⟩
theorem p96x (hE : EnvOk E) (C : List DT) (n i k b : Nat) (f w e1 e2 u v x y re im re2 im2 : Int) (h0 : (decide (Int.ofNat k < (4 : Int)) : Bool) = false) {Φ : Res → Prop} (ho : ∀ j, OutK E 0 0 (p96x_end C n i k b f w e1 e2 u v x y re im re2 im2 j) Φ) (j : Nat → Value) : OutK E 0 0 (q96 C n i k b f w e1 e2 u v x y re im re2 im2 j) Φ :=
  outK_seg hE (R0_ok hE) [.run 3, (.cond false), .run 3] [6] (s' := fun j => ⟨[(.some ⟨[(.v (.int .i64 (re))), (.v (.int .i64 (im)))], 2, 160, true, .cells⟩), (.some ⟨[(.v (.int .i64 (re))), (.v (.int .i64 (im)))], 2, 160, true, .cells⟩)], [(.code .ret)], mkT j [(6, (.e (.one (.ptr 0 0))))] 32 0⟩) (fun j => by kernel_rfl) (aP h0 <| aZ)
    fun j => outK_gc [0] (by decide) (by kernel_rfl) (by kernel_rfl) (by kernel_rfl) (ho j)
open Ieee
theorem getI {xs : List Int} {i : Nat} {x : Int} (h : xs[i]? = some x) : getL (iD xs) i = some (.v (.int .i64 x)) := by rw [getL_eq, List.getElem?_map, h]; rfl
abbrev dI (xs : List Int) : AV := .e (.one (.dp (.s (iD xs) xs.length 1)))
theorem addN {a b : Nat} (h : a + b ≤ 100000) : wrapF IntKind.i64 (Int.ofNat a + Int.ofNat b) = Int.ofNat (a + b) := by
  rw [wrap_id (by simp only [Int.ofNat_eq_natCast]; omega) (by simp only [Int.ofNat_eq_natCast]; omega)]
  simp only [Int.ofNat_eq_natCast]; omega

theorem l81 (hE : EnvOk E) (xs : List Int) (hm : xs.length ≤ 4000000) :
    ∀ m i, m + i = xs.length → ∀ x j, OutK E 0 0 (q81 (iD xs) xs.length i x 0 0 j) (Go.Ev.Ends E Tryz.f81 (iI (firstI (xs.drop i))) [])
  | 0, i, hk, x, j => by
    have e1 : xs.drop i = [] := List.drop_eq_nil_of_le (by omega)
    rw [e1]
    exact p81x hE _ _ i x 0 0 (decide_eq_false (by simp only [Int.ofNat_eq_natCast]; omega)) (fun j => outK_ret (ends_ret (by kernel_rfl))) j
  | m + 1, i, hk, _, j => by
    have hlt : i < xs.length := by omega
    have hx : xs[i]? = some xs[i] := List.getElem?_eq_getElem hlt
    have e1 : xs.drop i = xs[i] :: xs.drop (i + 1) := List.drop_eq_getElem_cons hlt
    rw [e1]
    generalize xs[i] = x at hx e1
    have hd : decide (Int.ofNat i < (xs.length : Int)) = true := decide_eq_true (by simp only [Int.ofNat_eq_natCast]; omega)
    have hb : (0 : Int) ≤ Int.ofNat i ∧ Int.ofNat i < (xs.length : Int) := by simp only [Int.ofNat_eq_natCast]; omega
    by_cases h0 : x = 0
    · have e2 : firstI (x :: xs.drop (i + 1)) = firstI (xs.drop (i + 1)) := by simp [firstI, h0]
      rw [e2]
      exact p81s hE _ _ i x 0 0 hd hb (by simp) (getI hx) (by simp [h0]) (iIn i (by omega)) (l81 hE xs hm m (i + 1) (by omega) 0) j
    · have e2 : firstI (x :: xs.drop (i + 1)) = x := by simp [firstI, h0]
      rw [e2]
      exact p81e hE _ _ i x 0 0 hd hb (by simp) (getI hx) (by simp [h0]) hb (by simp) (getI hx) (fun j => outK_ret (ends_ret (by kernel_rfl))) j
theorem K81 (hE : EnvOk E) (xs : List Int) (hm : xs.length ≤ 4000000) : COut E 0 [] 81 [dI xs] (iI (firstI xs)) [] :=
  cOut_start Tryz.func81 rfl (p81a hE _ _ 0 0 0 0 (l81 hE xs hm xs.length 0 (by omega) 0) fun _ => undef)

theorem K15 (hE : EnvOk E) (xs : List Int) (hm : xs.length ≤ 4000000) : COut E 0 [] 15 [dI xs] (iI (firstI xs)) [] :=
  cOut_start Tryz.func15 rfl (p15 hE _ _ 0 _ 0 0 (K81 hE xs hm) (fun j => outK_ret (ends_ret (by kernel_rfl))) fun _ => undef)
theorem l66 (hE : EnvOk E) (xs : List Int) (hm : xs.length ≤ 4000000) :
    ∀ m i, m + i = xs.length → ∀ x j, OutK E 0 0 (q66 (iD xs) xs.length i x 0 0 j) (Go.Ev.Ends E Tryz.f66 (iB true) [])
  | 0, i, hk, x, j => p66x hE _ _ i x 0 0 (decide_eq_false (by simp only [Int.ofNat_eq_natCast]; omega)) (fun j => outK_ret (ends_ret (by kernel_rfl))) j
  | m + 1, i, hk, _, j => by
    have hlt : i < xs.length := by omega
    have hb : (0 : Int) ≤ Int.ofNat i ∧ Int.ofNat i < (xs.length : Int) := by simp only [Int.ofNat_eq_natCast]; omega
    exact p66s hE _ _ i xs[i] 0 0 (decide_eq_true (by simp only [Int.ofNat_eq_natCast]; omega)) hb (by simp) (getI (List.getElem?_eq_getElem hlt)) hb (by simp) (getI (List.getElem?_eq_getElem hlt)) (by simp) (iIn i (by omega)) (l66 hE xs hm m (i + 1) (by omega) 0) j
theorem K66 (hE : EnvOk E) (xs : List Int) (hm : xs.length ≤ 4000000) : COut E 0 [] 66 [dI xs, dI xs] (iB true) [] :=
  cOut_start Tryz.func66 rfl (p66a hE _ _ 0 0 0 0 (by simp) (l66 hE xs hm xs.length 0 (by omega) 0) fun _ => undef)
theorem K96_1 (hE : EnvOk E) {ws : List Nat} {i : Nat} (hc : ∀ b ∈ ws, chkW 1024 b = 0) (h : 4 * i + 4 ≤ ws.length) (hi : i ≤ 4096) : COut E 0 [] 96 [.e (.one (dF ws).ac), iI (Int.ofNat i), iI 1] (let w0 := ww ws (4 * i); let w1 := ww ws (4 * i + 1); let w2 := ww ws (4 * i + 2); let w3 := ww ws (4 * i + 3); gA (w0 + (-w2)) ((-w1) + w3)) [] := by
  have h0 := bnd hc (k := 4 * i) (by omega)
  have h1 := bnd hc (k := 4 * i + 1) (by omega)
  have h2 := bnd hc (k := 4 * i + 2) (by omega)
  have h3 := bnd hc (k := 4 * i + 3) (by omega)
  have g0 : COut E 0 [] 65 [.e (.one (fC (bw ws (4 * i + 0))))] (iI (ww ws (4 * i))) [] := k65 hE (L := 1024) (by decide) (hc _ (memW (by omega)))
  have g1 : COut E 0 [] 65 [.e (.one (fC (bw ws (4 * i + 1))))] (iI (ww ws (4 * i + 1))) [] := k65 hE (L := 1024) (by decide) (hc _ (memW (by omega)))
  have g2 : COut E 0 [] 65 [.e (.one (fC (bw ws (4 * i + 2))))] (iI (ww ws (4 * i + 2))) [] := k65 hE (L := 1024) (by decide) (hc _ (memW (by omega)))
  have g3 : COut E 0 [] 65 [.e (.one (fC (bw ws (4 * i + 3))))] (iI (ww ws (4 * i + 3))) [] := k65 hE (L := 1024) (by decide) (hc _ (memW (by omega)))
  generalize ww ws (4 * i) = w0 at *
  generalize ww ws (4 * i + 1) = w1 at *
  generalize ww ws (4 * i + 2) = w2 at *
  generalize ww ws (4 * i + 3) = w3 at *
  exact cOut_clear (cOut_start Tryz.func96 rfl (p96a hE (fDT ws) ws.length i 0 0 1 0 0 0 0 0 0 0 0 0 0 0 (fun j => p96s hE (fDT ws) ws.length i 0 (bw ws (4 * i + 0)) 1 w0 3 0 1 0 w0 0 0 0 w0 0 (by decide) (iIe (mul4 (by omega))) (iIe (addN (by omega))) ⟨by simp only [Int.ofNat_eq_natCast]; omega, by simp only [Int.ofNat_eq_natCast]; omega⟩ (Nat.mul_one _) (getDF (getW (by omega))) g0 rfl rfl (K109_0 hE (by decide)) (K108 hE (by unfold Sm; omega) (by unfold Sm; omega) (by unfold Sm; omega) (by unfold Sm; omega) (by omega) (by omega)) (K107 hE (by omega) (by omega) (by omega) (by omega) (by omega) (by omega)) (iIn 0 (by decide)) (fun j => p96s hE (fDT ws) ws.length i 1 (bw ws (4 * i + 1)) 1 w1 3 3 0 (-1) 0 (-w1) w0 0 w0 (-w1) (by decide) (iIe (mul4 (by omega))) (iIe (addN (by omega))) ⟨by simp only [Int.ofNat_eq_natCast]; omega, by simp only [Int.ofNat_eq_natCast]; omega⟩ (Nat.mul_one _) (getDF (getW (by omega))) g1 rfl rfl (K109_3 hE (by decide)) (K108 hE (by unfold Sm; omega) (by unfold Sm; omega) (by unfold Sm; omega) (by unfold Sm; omega) (by omega) (by omega)) (K107 hE (by omega) (by omega) (by omega) (by omega) (by omega) (by omega)) (iIn 1 (by decide)) (fun j => p96s hE (fDT ws) ws.length i 2 (bw ws (4 * i + 2)) 1 w2 3 6 (-1) 0 (-w2) 0 w0 (-w1) (w0 + (-w2)) (-w1) (by decide) (iIe (mul4 (by omega))) (iIe (addN (by omega))) ⟨by simp only [Int.ofNat_eq_natCast]; omega, by simp only [Int.ofNat_eq_natCast]; omega⟩ (Nat.mul_one _) (getDF (getW (by omega))) g2 rfl rfl (K109_2 hE (by decide)) (K108 hE (by unfold Sm; omega) (by unfold Sm; omega) (by unfold Sm; omega) (by unfold Sm; omega) (by omega) (by omega)) (K107 hE (by omega) (by omega) (by omega) (by omega) (by omega) (by omega)) (iIn 2 (by decide)) (fun j => p96s hE (fDT ws) ws.length i 3 (bw ws (4 * i + 3)) 1 w3 3 9 0 1 0 w3 (w0 + (-w2)) (-w1) (w0 + (-w2)) ((-w1) + w3) (by decide) (iIe (mul4 (by omega))) (iIe (addN (by omega))) ⟨by simp only [Int.ofNat_eq_natCast]; omega, by simp only [Int.ofNat_eq_natCast]; omega⟩ (Nat.mul_one _) (getDF (getW (by omega))) g3 rfl rfl (K109_1 hE (by decide)) (K108 hE (by unfold Sm; omega) (by unfold Sm; omega) (by unfold Sm; omega) (by unfold Sm; omega) (by omega) (by omega)) (K107 hE (by omega) (by omega) (by omega) (by omega) (by omega) (by omega)) (iIn 3 (by decide)) (fun j => p96x hE (fDT ws) ws.length i 4 0 1 0 0 0 0 0 0 0 (w0 + (-w2)) ((-w1) + w3) 0 0 (by decide) (fun j => outK_ret (ends_ret (by kernel_rfl))) j) j) j) j) j) fun _ => undef)) rfl
end
end Go.Proofs.YtdjjpjahlhdjnaaGreatDoor

end

/-! SePe -/
section
open Go Go.Ev
namespace Go.Proofs.YtdjjpjahlhdjnaaGreatDoor
noncomputable section
set_option maxRecDepth 100000
set_option maxHeartbeats 20000000


open Ieee
theorem chkQ_zero {ws : List Nat} (h : chkQ ws = 0) : ∃ k, ws.length = 4 * k ∧ k ≤ 1024 ∧ ∀ b ∈ ws, chkW 1024 b = 0 := by
  unfold chkQ at h
  rw [firstI2] at h
  unfold chkS at h
  by_cases h1 : 4096 < ws.length
  · simp [h1] at h
  · rw [if_neg h1] at h
    by_cases h2 : chkL ws = 0
    · rw [if_pos h2] at h
      by_cases h3 : ws.length % 4 = 0
      · exact ⟨ws.length / 4, by omega, by omega, chk_mem h2⟩
      · rw [if_pos h3] at h; omega
    · rw [if_neg h2] at h; exact (h2 h).elim
theorem lend2 (lv : Nat) (_hE : EnvOk E) (f : FuncId) (xs : List Int) (r : Int) (ty : Nat) (fl : Bool) (hc : COut E 0 [] f [dI xs] (iI r) []) (h : Heap) (i : Nat) (hh : getL h i = some (some ⟨(iD xs).map DT.ac, xs.length, ty, fl, .cells⟩)) : COut E lv h f [.e (.one (.slc i 0 xs.length 1 xs.length true))] (iI r) h :=
  cOut_lend h hc ⟨.inr ⟨i, 0, xs.length, 1, xs.length, true, iD xs, iD xs, xs.length, ty, fl, rfl, rfl, hh, by rw [takeL_eq, dropL_eq, List.drop_zero, if_pos (by simp), List.take_of_length_le (by simp)]⟩, trivial⟩ rfl rfl
end
end Go.Proofs.YtdjjpjahlhdjnaaGreatDoor

end

/-! SeEqF -/
section
open Go Go.Ev Go.RowKit
namespace Go.Proofs.YtdjjpjahlhdjnaaGreatDoor
noncomputable section
section
variable {P : Program} (w : World)
end
theorem some_of {α β : Type} {o : Option α} {f : α → β} {b : β} (h : o.map f = some b) : ∃ a, o = some a ∧ f a = b := by
  cases o with
  | none => simp at h
  | some a => exact ⟨a, rfl, by simpa using h⟩
/-- words of numbers equal themselves -/
def Own (b : Nat) : Prop := Op.floatEq .f32 b b = true
theorem own_smp {n : Int} (h : n.natAbs < 2 ^ 24) : Own (Ieee.smpW n) := by
  show (Ieee.single.order (Ieee.smpW n) (Ieee.smpW n) == some .eq) = true
  rw [Ieee.smp_order h h, cmp_eq]
  rfl
end
end Go.Proofs.YtdjjpjahlhdjnaaGreatDoor

end

/-! SePf -/
section
open Go Go.Ev
namespace Go.Proofs.YtdjjpjahlhdjnaaGreatDoor
noncomputable section
set_option maxRecDepth 100000
set_option maxHeartbeats 20000000
def s17 (_C : List DT) (_n : Nat) (z a b _e _f : Int) (_j : Nat → Value) : St := startK Tryz.f17 [] [iI z, iI a, iI b]
def s66n (_C : List DT) (_n : Nat) (_z _a _b _e _f : Int) (_j : Nat → Value) : St := startK Tryz.f66 [] [(.e (.one (.dp (.s [] 0 1)))), (.e (.one (.v (.slice none 0 0))))]
def s21n (_C : List DT) (_n : Nat) (_z _a _b e _f : Int) (_j : Nat → Value) : St := startK Tryz.f21 [] [(.e (.one (.dp (.s [] 0 1)))), iI e, iI e, (.e (.one (.v (.slice none 0 0))))]
def s21 (C : List DT) (n : Nat) (_z _a _b _e _f : Int) (_j : Nat → Value) : St := startK Tryz.f21 [] [(.e (.one (.dp (.s C n 1)))), iI 0, iI 0, (.e (.one (.dp (.s C n 1))))]
def p17a_end (_C : List DT) (_n : Nat) (_z _a _b e _f : Int) (j : Nat → Value) : St := ⟨[], [(.code .ret)], mkT j [(6, (iI (e)))] 16 0⟩
theorem p17a (hE : EnvOk E) (C : List DT) (n : Nat) (z a b e f : Int) (h0 : (decide (z < a) == false : Bool) = (nat_lit 4, false).snd) (h1 : (decide (z < a) == false : Bool) = (nat_lit 5, false).snd) (h2 : (decide (z < a) == false : Bool) = (nat_lit 6, false).snd) (h3 : (decide (z < a) : Bool) = true) (h4 : COut E 0 [] 82 [(iB true), (iI 3)] (iI (e)) []) {Φ : Res → Prop} (ho : ∀ j, OutK E 0 0 (p17a_end C n z a b e f j) Φ) (j : Nat → Value) : OutK E 0 0 (s17 C n z a b e f j) Φ :=
  outK_seg hE (R0_ok hE) [.run 3, (.ops [(8, (.c0 (iI (e)))), (7, (.pk true))] [(4, false), (5, false), (6, false)])] [6] (fun j => by kernel_rfl) (aP h0 <| aP h1 <| aP h2 <| aP h3 <| aP h4 <| aN <| aZ)
    ho
def p17b_end (_C : List DT) (_n : Nat) (_z _a _b e _f : Int) (j : Nat → Value) : St := ⟨[], [(.code .ret)], mkT j [(6, (iI (e)))] 16 0⟩
theorem p17b (hE : EnvOk E) (C : List DT) (n : Nat) (z a b e f : Int) (h0 : (decide (z < a) == false : Bool) = (nat_lit 4, true).snd) (h1 : (decide (z < a) == false : Bool) = (nat_lit 5, true).snd) (h2 : (decide (z < a) == false : Bool) = (nat_lit 6, true).snd) (h3 : (decide (z < a) : Bool) = false) (h4 : COut E 0 [] 82 [(iB (decide (z > b))), (iI 3)] (iI (e)) []) {Φ : Res → Prop} (ho : ∀ j, OutK E 0 0 (p17b_end C n z a b e f j) Φ) (j : Nat → Value) : OutK E 0 0 (s17 C n z a b e f j) Φ :=
  outK_seg hE (R0_ok hE) [.run 3, (.ops [(8, (.c0 (iI (e)))), (7, (.pk false))] [(4, true), (5, true), (6, true)])] [6] (fun j => by kernel_rfl) (aP h0 <| aP h1 <| aP h2 <| aP h3 <| aP h4 <| aN <| aZ)
    ho
def p66n_end (_C : List DT) (_n : Nat) (_z _a _b _e _f : Int) (j : Nat → Value) : St := ⟨[], [(.code .ret)], mkT j [(4, (iB true))] 26 0⟩
theorem p66n (hE : EnvOk E) (C : List DT) (n : Nat) (z a b e f : Int)  {Φ : Res → Prop} (ho : ∀ j, OutK E 0 0 (p66n_end C n z a b e f j) Φ) (j : Nat → Value) : OutK E 0 0 (s66n C n z a b e f j) Φ :=
  outK_seg hE (R0_ok hE) [.run 4, (.ops [(1, (.d .len))] []), .run 9, (.ops [(2, (.d .len))] []), .run 4] [4] (ps := []) (fun j => by kernel_rfl) trivial
    ho
def p21n_end (_C : List DT) (_n : Nat) (_z _a _b e _f : Int) (j : Nat → Value) : St := ⟨[], [(.code .ret)], mkT j [(8, (iB (e == e)))] 19 0⟩
theorem p21n (hE : EnvOk E) (C : List DT) (n : Nat) (z a b e f : Int) (h0 : (e != (0 : Int) : Bool) = true) (h1 : COut E 0 [] 66 [(.e (.one (.dp (.s [] 0 1)))), (.e (.one (.v (.slice none 0 0))))] (iB true) []) {Φ : Res → Prop} (ho : ∀ j, OutK E 0 0 (p21n_end C n z a b e f j) Φ) (j : Nat → Value) : OutK E 0 0 (s21n C n z a b e f j) Φ :=
  outK_seg hE (R0_ok hE) [.run 5, (.cond true), .run 2, (.ops [(2, (.c0 (iB true)))] [])] [8] (fun j => by kernel_rfl) (aP h0 <| aP h1 <| aN <| aZ)
    ho
def p21_end (_C : List DT) (_n : Nat) (_z _a _b _e _f : Int) (j : Nat → Value) : St := ⟨[], [(.code .ret)], mkT j [(8, (iB true))] 19 0⟩
theorem p21 (hE : EnvOk E) (C : List DT) (n : Nat) (z a b e f : Int) (h0 : COut E 0 [] 66 [(.e (.one (.dp (.s (C) (n) 1)))), (.e (.one (.dp (.s (C) (n) 1))))] (iB true) []) {Φ : Res → Prop} (ho : ∀ j, OutK E 0 0 (p21_end C n z a b e f j) Φ) (j : Nat → Value) : OutK E 0 0 (s21 C n z a b e f j) Φ :=
  outK_seg hE (R0_ok hE) [.run 8, (.ops [(2, (.c0 (iB true)))] [])] [8] (fun j => by kernel_rfl) (aP h0 <| aN <| aZ)
    ho
open Ieee
theorem K26 (hE : EnvOk E) (C : List DT) (n : Nat) : COut E 0 [] 26 [.e (.one (.dp (.s C n 1)))] (iB (decide (n ≤ 160) || decide (n = 4097))) [] := by
  by_cases h : n ≤ 160
  · have h1 : decide ((n : Int) ≤ 160) = true := decide_eq_true (by omega)
    rw [decide_eq_true h, Bool.true_or]
    exact cOut_start Tryz.func26 rfl (p26a hE C n (by rw [h1]; rfl) (by rw [h1]; rfl) (by rw [h1]; rfl) h1 (fun j => outK_ret (ends_ret (by kernel_rfl))) fun _ => undef)
  · have h1 : decide ((n : Int) ≤ 160) = false := decide_eq_false (by omega)
    have e : ((n : Int) == 4097) = (decide (n ≤ 160) || decide (n = 4097)) := by
      rw [decide_eq_false h, Bool.false_or]
      by_cases h2 : n = 4097
      · subst h2; rfl
      · rw [decide_eq_false h2]; simp; omega
    rw [← e]
    exact cOut_start Tryz.func26 rfl (p26b hE C n (by rw [h1]; rfl) (by rw [h1]; rfl) (by rw [h1]; rfl) h1 (fun j => outK_ret (ends_ret (by kernel_rfl))) fun _ => undef)
/-- floats: a copy of a list -/
theorem K28 (hE : EnvOk E) (ws : List Nat) (hm : ws.length ≤ 1000000) : COut E 0 [] 28 [.e (.one (dF ws).ac)] (.e (.one (dF ws).ac)) [] := by
  have hfl : FlatC ((fDT ws).map DT.ac) := by
    intro c hc
    simp only [List.map_map, List.mem_map] at hc
    obtain ⟨x, _, rfl⟩ := hc
    exact ⟨_, rfl⟩
  have h1 : ((fDT ws).map DT.ac).all AC.isOne = true := by simp [List.all_map, DT.ac, AC.isOne]
  have hc1 : COut E 0 [] 28 [.e (.one (dF ws).ac)] (.e (.one (.slc 0 0 ws.length 1 ws.length (decide (ws.length = 0))))) [some ⟨(fDT ws).map DT.ac, ws.length, 23, decide (ws.length = 0), .cells⟩] := by
    refine cOut_start Tryz.func28 rfl (p28 hE (fDT ws) ws.length ((fDT ws).map DT.ac) (decide (ws.length = 0)) ?_ (Nat.mul_one _) hfl (fun j => outK_ret (ends_ret (by kernel_rfl))) fun _ => undef)
    by_cases h0 : ws.length = 0
    · exact .inl ⟨decide_eq_true h0, h0, by simp [List.eq_nil_of_length_eq_zero h0], _, _, by rw [h0]⟩
    · exact .inr (.inl ⟨decide_eq_false h0, by omega, by simp [small]; omega, h1, _, rfl, rfl, by simp⟩)
  exact cOut_clear (cOut_freeze 0 hc1 rfl (Nat.zero_le _) (ds := fDT ws) (.inr ⟨0, ws.length, 1, ws.length, _, fDT ws, rfl, rfl, by rw [takeL_eq, dropL_eq, List.drop_zero, if_pos (by simp), List.take_of_length_le (by simp)]⟩)) rfl
theorem K17 (hE : EnvOk E) (z a b : Int) : COut E 0 [] 17 [iI z, iI a, iI b] (iI (rngI a b z)) [] := by
  by_cases h : z < a
  · have e : rngI a b z = 3 := by simp [rngI, h]
    have h1 : decide (z < a) = true := decide_eq_true h
    rw [e]
    exact cOut_start Tryz.func17 rfl (p17a hE [] 0 z a b 3 0 (by rw [h1]; rfl) (by rw [h1]; rfl) (by rw [h1]; rfl) h1 (k60 hE true 3) (fun j => outK_ret (ends_ret (by kernel_rfl))) fun _ => undef)
  · have h1 : decide (z < a) = false := decide_eq_false h
    have h2 := k60 hE (decide (z > b)) 3
    have e : rngI a b z = if decide (z > b) = true then 3 else 0 := by
      unfold rngI
      by_cases g : b < z
      · rw [if_pos (.inr g), if_pos (decide_eq_true g)]
      · rw [if_neg (by omega), if_neg (by simp; omega)]
    rw [e]
    exact cOut_start Tryz.func17 rfl (p17b hE [] 0 z a b _ 0 (by rw [h1]; rfl) (by rw [h1]; rfl) (by rw [h1]; rfl) h1 h2 (fun j => outK_ret (ends_ret (by kernel_rfl))) fun _ => undef)
theorem K66n (hE : EnvOk E) : COut E 0 [] 66 [.e (.one (.dp (.s [] 0 1))), .e (.one (.v (.slice none 0 0)))] (iB true) [] :=
  cOut_start Tryz.func66 rfl (p66n hE [] 0 0 0 0 0 0 (fun j => outK_ret (ends_ret (by kernel_rfl))) fun _ => undef)
theorem K21n (hE : EnvOk E) {e : Int} (h : e ≠ 0) : COut E 0 [] 21 [.e (.one (.dp (.s [] 0 1))), iI e, iI e, .e (.one (.v (.slice none 0 0)))] (iB true) [] := by
  have h1 : (e == e) = true := by simp
  have hc := cOut_start Tryz.func21 rfl (v := iB (e == e)) (hout := []) (p21n hE [] 0 0 0 0 e 0 (bne_iff_ne.2 h) (K66n hE) (fun j => outK_ret (ends_ret (by kernel_rfl))) fun _ => undef)
  rw [h1] at hc
  exact hc
theorem K21 (hE : EnvOk E) (xs : List Int) (hm : xs.length ≤ 4000000) : COut E 0 [] 21 [dI xs, iI 0, iI 0, dI xs] (iB true) [] :=
  cOut_start Tryz.func21 rfl (p21 hE _ _ 0 0 0 0 0 (K66 hE xs hm) (fun j => outK_ret (ends_ret (by kernel_rfl))) fun _ => undef)
end
end Go.Proofs.YtdjjpjahlhdjnaaGreatDoor

end
