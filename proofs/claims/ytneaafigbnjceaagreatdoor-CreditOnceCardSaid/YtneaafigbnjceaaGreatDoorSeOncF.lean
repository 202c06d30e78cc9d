/-
  Part of the proof: SeOncF.
-/
import Derived.Test.YtneaafigbnjceaaGreatDoorSeZN
import Derived.JoinedOf
import Derived.KernelRfl
import Derived.Test.YtneaafigbnjceaaGreatDoorRows

/-! SeOncF -/
section
open Go
namespace Go.Proofs.YtneaafigbnjceaaGreatDoor
set_option maxRecDepth 100000
set_option maxHeartbeats 20000000
theorem oncFacts : joinedFacts Tryz.prog 3 Tryz.f3 Rows.creditOnceSpec Rows.creditOnceRow = true := by
 unfold joinedFacts
 simp only [Bool.and_eq_true]
 repeat' apply And.intro
 all_goals as_aux_lemma => kernel_rfl
end Go.Proofs.YtneaafigbnjceaaGreatDoor
end
