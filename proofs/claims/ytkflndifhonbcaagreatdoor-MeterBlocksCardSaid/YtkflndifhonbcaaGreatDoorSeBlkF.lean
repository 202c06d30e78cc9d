/-
  Part of the proof: SeBlkF.
-/
import Derived.Test.YtkflndifhonbcaaGreatDoorSeZI
import Derived.JoinedOf
import Derived.KernelRfl
import Derived.Test.YtkflndifhonbcaaGreatDoorRows

/-! SeBlkF -/
section
open Go
namespace Go.Proofs.YtkflndifhonbcaaGreatDoor
set_option maxRecDepth 100000
set_option maxHeartbeats 20000000
theorem blkFacts : joinedFacts Tryz.prog 7 Tryz.f7 Rows.meterBlocksSpec Rows.meterBlocksRow = true := by
 unfold joinedFacts
 simp only [Bool.and_eq_true]
 repeat' apply And.intro
 all_goals as_aux_lemma => kernel_rfl
end Go.Proofs.YtkflndifhonbcaaGreatDoor
end
