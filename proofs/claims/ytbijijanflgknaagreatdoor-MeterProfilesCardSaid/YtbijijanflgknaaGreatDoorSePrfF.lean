/-
  Part of the proof: SePrfF.
-/
import Derived.Test.YtbijijanflgknaaGreatDoorSeZJ
import Derived.JoinedOf
import Derived.KernelRfl
import Derived.Test.YtbijijanflgknaaGreatDoorRows

/-! SePrfF -/
section
open Go
namespace Go.Proofs.YtbijijanflgknaaGreatDoor
set_option maxRecDepth 100000
set_option maxHeartbeats 20000000
theorem prfFacts : joinedFacts Tryz.prog 5 Tryz.f5 Rows.meterProfilesSpec Rows.meterProfilesRow = true := by
  unfold joinedFacts
  simp only [Bool.and_eq_true]
  repeat' apply And.intro
  all_goals as_aux_lemma => kernel_rfl
end Go.Proofs.YtbijijanflgknaaGreatDoor

end
