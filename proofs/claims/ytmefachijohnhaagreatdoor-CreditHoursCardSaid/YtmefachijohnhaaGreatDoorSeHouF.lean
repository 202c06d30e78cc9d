/-
  Part of the proof: SeHouF.
-/
import Derived.Test.YtmefachijohnhaaGreatDoorSeZL
import Derived.JoinedOf
import Derived.KernelRfl
import Derived.Test.YtmefachijohnhaaGreatDoorRows

/-! SeHouF -/
section
open Go
namespace Go.Proofs.YtmefachijohnhaaGreatDoor
set_option maxRecDepth 100000
set_option maxHeartbeats 20000000
theorem houFacts : joinedFacts Tryz.prog 6 Tryz.f6 Rows.creditHoursSpec Rows.creditHoursRow = true := by
 unfold joinedFacts
 simp only [Bool.and_eq_true]
 repeat' apply And.intro
 all_goals as_aux_lemma => kernel_rfl
end Go.Proofs.YtmefachijohnhaaGreatDoor
end
