/-
  Part of the proof: SeAccF.
-/
import Derived.Test.YtmefachijohnhaaGreatDoorSeZI
import Derived.JoinedOf
import Derived.KernelRfl
import Derived.Test.YtmefachijohnhaaGreatDoorRows

/-! SeAccF -/
section
open Go
namespace Go.Proofs.YtmefachijohnhaaGreatDoor
set_option maxRecDepth 100000
set_option maxHeartbeats 20000000
theorem accFacts : joinedFacts Tryz.prog 3 Tryz.f3 Rows.creditAccountsSpec Rows.creditAccountsRow = true := by
 unfold joinedFacts
 simp only [Bool.and_eq_true]
 repeat' apply And.intro
 all_goals as_aux_lemma => kernel_rfl
end Go.Proofs.YtmefachijohnhaaGreatDoor
end
