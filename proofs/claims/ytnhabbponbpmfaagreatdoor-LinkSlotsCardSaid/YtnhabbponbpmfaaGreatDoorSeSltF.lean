/-
  Part of the proof: SeSltF.
-/
import Derived.Test.YtnhabbponbpmfaaGreatDoorSeZN
import Derived.JoinedOf
import Derived.KernelRfl
import Derived.Test.YtnhabbponbpmfaaGreatDoorRows

/-! SeSltF -/
section
open Go
namespace Go.Proofs.YtnhabbponbpmfaaGreatDoor
set_option maxRecDepth 100000
set_option maxHeartbeats 20000000
theorem sltFacts : joinedFacts Tryz.prog 6 Tryz.f6 Rows.linkSlotsSpec Rows.linkSlotsRow = true := by
 unfold joinedFacts
 simp only [Bool.and_eq_true]
 repeat' apply And.intro
 all_goals as_aux_lemma => kernel_rfl
end Go.Proofs.YtnhabbponbpmfaaGreatDoor
end
