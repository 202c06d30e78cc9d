/-
  Part of the proof: SeGuaF.
-/
import Derived.Test.YtneaafigbnjceaaGreatDoorSeZN
import Derived.JoinedOf
import Derived.KernelRfl
import Derived.Test.YtneaafigbnjceaaGreatDoorRows

/-! SeGuaF -/
section
open Go
namespace Go.Proofs.YtneaafigbnjceaaGreatDoor
set_option maxRecDepth 100000
set_option maxHeartbeats 20000000
theorem guaFacts : joinedFacts Tryz.prog 5 Tryz.f5 Rows.creditGuardedSpec Rows.creditGuardedRow = true := by
 unfold joinedFacts
 simp only [Bool.and_eq_true]
 repeat' apply And.intro
 all_goals as_aux_lemma => kernel_rfl
end Go.Proofs.YtneaafigbnjceaaGreatDoor
end
