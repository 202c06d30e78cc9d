/-
  Words for the contracts of this seat.
-/
import Derived.Test.YtgplabfjldndgaaGreatDoorSeEnv
import Derived.KernelRfl
open Go Go.Ev
namespace Go.Proofs.YtgplabfjldndgaaGreatDoor
noncomputable section
def R0 : RunT := rec0
theorem R0_ok {E : Env} (_ : EnvOk E) : RecOk E R0 := rec0_ok E
def R4 : RunT := run E 4000
theorem R4_ok (hE : EnvOk E) : RecOk E R4 := run_sound hE 4000

theorem wrap_id {n : Int} (h0 : -9223372036854775808 ≤ n) (h1 : n ≤ 9223372036854775807) : wrapF .i64 n = n := by
  rw [wrapF_eq]
  exact IntWalk.i64_in n (by omega)
theorem iI_eq {a b : Int} (h : a = b) : AV.of (Value.int IntKind.i64 a) = iI b := by rw [h]; rfl
end
end Go.Proofs.YtgplabfjldndgaaGreatDoor
