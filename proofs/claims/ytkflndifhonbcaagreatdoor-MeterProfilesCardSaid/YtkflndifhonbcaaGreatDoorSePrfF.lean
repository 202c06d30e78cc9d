/-
  Part of the proof: SePrfF.
-/
import Derived.Test.YtkflndifhonbcaaGreatDoorSeZI
import Derived.JoinedOf
import Derived.KernelRfl
import Derived.Test.YtkflndifhonbcaaGreatDoorRows

/-! SePrfF -/
section
open Go
namespace Go.Proofs.YtkflndifhonbcaaGreatDoor
set_option maxRecDepth 100000
set_option maxHeartbeats 20000000
theorem prfFacts : joinedFacts Tryz.prog 5 Tryz.f5 Rows.meterProfilesSpec Rows.meterProfilesRow = true := by
 unfold joinedFacts
 simp only [Bool.and_eq_true]
 repeat' apply And.intro
 all_goals as_aux_lemma => kernel_rfl
end Go.Proofs.YtkflndifhonbcaaGreatDoor
end
