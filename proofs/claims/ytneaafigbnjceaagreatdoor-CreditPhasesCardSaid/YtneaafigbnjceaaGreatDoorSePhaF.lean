/-
  Part of the proof: SePhaF.
-/
import Derived.Test.YtneaafigbnjceaaGreatDoorSeZL
import Derived.JoinedOf
import Derived.KernelRfl
import Derived.Test.YtneaafigbnjceaaGreatDoorRows

/-! SePhaF -/
section
open Go
namespace Go.Proofs.YtneaafigbnjceaaGreatDoor
set_option maxRecDepth 100000
set_option maxHeartbeats 20000000
theorem phaFacts : joinedFacts Tryz.prog 4 Tryz.f4 Rows.creditPhasesSpec Rows.creditPhasesRow = true := by
 unfold joinedFacts
 simp only [Bool.and_eq_true]
 repeat' apply And.intro
 all_goals as_aux_lemma => kernel_rfl
end Go.Proofs.YtneaafigbnjceaaGreatDoor
end
