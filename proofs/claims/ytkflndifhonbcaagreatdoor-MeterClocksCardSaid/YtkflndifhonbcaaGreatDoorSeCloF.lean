/-
  Part of the proof: SeCloF.
-/
import Derived.Test.YtkflndifhonbcaaGreatDoorSeZH
import Derived.JoinedOf
import Derived.KernelRfl
import Derived.Test.YtkflndifhonbcaaGreatDoorRows

/-! SeCloF -/
section
open Go
namespace Go.Proofs.YtkflndifhonbcaaGreatDoor
set_option maxRecDepth 100000
set_option maxHeartbeats 20000000
theorem cloFacts : joinedFacts Tryz.prog 8 Tryz.f8 Rows.meterClocksSpec Rows.meterClocksRow = true := by
 unfold joinedFacts
 simp only [Bool.and_eq_true]
 repeat' apply And.intro
 all_goals as_aux_lemma => kernel_rfl
end Go.Proofs.YtkflndifhonbcaaGreatDoor
end
