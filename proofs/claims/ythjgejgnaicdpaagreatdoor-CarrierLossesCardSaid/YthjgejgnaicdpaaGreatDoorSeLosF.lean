/-
  The closed facts of the row of CarrierLosses.
-/
import Derived.Test.YthjgejgnaicdpaaGreatDoorRows
import Derived.JoinedOf
import Derived.KernelRfl
open Go
namespace Go.Proofs.YthjgejgnaicdpaaGreatDoor
set_option maxRecDepth 100000
set_option maxHeartbeats 20000000
theorem lossFacts : joinedFacts Tryz.prog 11 Tryz.f11 Rows.carrierLossesSpec Rows.carrierLossesRow = true := by
  unfold joinedFacts
  simp only [Bool.and_eq_true]
  repeat' apply And.intro
  all_goals as_aux_lemma => kernel_rfl
end Go.Proofs.YthjgejgnaicdpaaGreatDoor
