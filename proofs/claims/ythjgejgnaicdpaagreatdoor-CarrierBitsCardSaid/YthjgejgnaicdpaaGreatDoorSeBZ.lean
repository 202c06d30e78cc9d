/-
  Part of the proof: SeBZ.
-/
import Derived.Test.YthjgejgnaicdpaaGreatDoorSeBG
open Go Go.Ev
namespace Go.Proofs.YthjgejgnaicdpaaGreatDoor
noncomputable section
set_option maxRecDepth 100000
set_option maxHeartbeats 20000000
def st55z (C : List AC) (N ty : Nat) (fl : Bool) (p : Option Addr) (c : Nat) (_j : Nat → Value) : St := startK Tryz.f55 [some ⟨C, N, ty, fl, .cells⟩] [.e (.one (.v (.slice p 0 c)))]
def c55z_end (C : List AC) (N : Nat) (ty : Nat) (fl : Bool) (_p : Option Addr) (_c : Nat) (j : Nat → Value) : St := ⟨[(.some ⟨(C), (N), (ty), (fl), .cells⟩), (.some ⟨[], 0, 5, true, .cells⟩)], [(.code .ret)], mkT j [(2, (.e (.one (.slc 1 0 0 1 0 true))))] 6 0⟩
theorem c55z (hE : EnvOk E) (C : List AC) (N : Nat) (ty : Nat) (fl : Bool) (p : Option Addr) (c : Nat)  {Φ : Res → Prop} (ho : ∀ j, OutK E 1 1 (c55z_end C N ty fl p c j) Φ) (j : Nat → Value) : OutK E 1 1 (st55z C N ty fl p c j) Φ :=
  outK_seg hE (Go.Proofs.YthjgejgnaicdpaaGreatDoor.R0_ok hE) [.run 3, (.ops [(2, .apz)] [])] [2] (s' := fun j => ⟨[(.some ⟨(C), (N), (ty), (fl), .cells⟩), (.some ⟨[], 0, 5, true, .cells⟩)], [(.code .ret)], mkT j [(2, (.e (.one (.slc 1 0 0 1 0 true))))] 6 0⟩) (ps := []) (fun j => by kernel_rfl) trivial
    ho
end
end Go.Proofs.YthjgejgnaicdpaaGreatDoor
