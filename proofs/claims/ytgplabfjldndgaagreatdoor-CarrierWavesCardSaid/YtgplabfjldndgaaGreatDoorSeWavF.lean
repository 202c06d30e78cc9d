/-
  The closed facts of the row of CarrierWaves.
-/
import Derived.Test.YtgplabfjldndgaaGreatDoorRows
import Derived.JoinedOf
import Derived.KernelRfl
open Go
namespace Go.Proofs.YtgplabfjldndgaaGreatDoor
set_option maxRecDepth 100000
set_option maxHeartbeats 20000000
theorem wavFacts : joinedFacts Tryz.prog 5 Tryz.f5 Rows.carrierWavesSpec Rows.carrierWavesRow = true := by
  unfold joinedFacts
  simp only [Bool.and_eq_true]
  repeat' apply And.intro
  all_goals as_aux_lemma => kernel_rfl
end Go.Proofs.YtgplabfjldndgaaGreatDoor
