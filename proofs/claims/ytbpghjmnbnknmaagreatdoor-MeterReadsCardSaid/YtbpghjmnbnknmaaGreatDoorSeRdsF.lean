/-
  Part of the proof: SeRdsF.
-/
import Derived.Test.YtbpghjmnbnknmaaGreatDoorSeZJ
import Derived.JoinedOf
import Derived.KernelRfl
import Derived.Test.YtbpghjmnbnknmaaGreatDoorRows

/-! SeRdsF -/
section
open Go
namespace Go.Proofs.YtbpghjmnbnknmaaGreatDoor
set_option maxRecDepth 100000
set_option maxHeartbeats 20000000
theorem rdsFacts : joinedFacts Tryz.prog 6 Tryz.f6 Rows.meterReadsSpec Rows.meterReadsRow = true := by
  unfold joinedFacts
  simp only [Bool.and_eq_true]
  repeat' apply And.intro
  all_goals as_aux_lemma => kernel_rfl
end Go.Proofs.YtbpghjmnbnknmaaGreatDoor

end
