/-
  Part of the proof: SeOrdF.
-/
import Derived.Test.YtmefachijohnhaaGreatDoorSeZN
import Derived.JoinedOf
import Derived.KernelRfl
import Derived.Test.YtmefachijohnhaaGreatDoorRows

/-! SeOrdF -/
section
open Go
namespace Go.Proofs.YtmefachijohnhaaGreatDoor
set_option maxRecDepth 100000
set_option maxHeartbeats 20000000
theorem ordFacts : joinedFacts Tryz.prog 7 Tryz.f7 Rows.creditOrdersSpec Rows.creditOrdersRow = true := by
 unfold joinedFacts
 simp only [Bool.and_eq_true]
 repeat' apply And.intro
 all_goals as_aux_lemma => kernel_rfl
end Go.Proofs.YtmefachijohnhaaGreatDoor
end
