/-
  Part of the proof: SeStpF.
-/
import Derived.Test.YtnhabbponbpmfaaGreatDoorSeZM
import Derived.JoinedOf
import Derived.KernelRfl
import Derived.Test.YtnhabbponbpmfaaGreatDoorRows

/-! SeStpF -/
section
open Go
namespace Go.Proofs.YtnhabbponbpmfaaGreatDoor
set_option maxRecDepth 100000
set_option maxHeartbeats 20000000
theorem stpFacts : joinedFacts Tryz.prog 4 Tryz.f4 Rows.linkStepsSpec Rows.linkStepsRow = true := by
 unfold joinedFacts
 simp only [Bool.and_eq_true]
 repeat' apply And.intro
 all_goals as_aux_lemma => kernel_rfl
end Go.Proofs.YtnhabbponbpmfaaGreatDoor
end
