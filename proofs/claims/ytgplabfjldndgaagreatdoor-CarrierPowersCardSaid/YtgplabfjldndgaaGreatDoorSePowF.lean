/-
  Part of the proof: SePowF.
-/
import Derived.Test.YtgplabfjldndgaaGreatDoorSeZL
import Derived.JoinedOf
import Derived.KernelRfl
import Derived.Test.YtgplabfjldndgaaGreatDoorRows

/-! SePowF -/
section
open Go
namespace Go.Proofs.YtgplabfjldndgaaGreatDoor
set_option maxRecDepth 100000
set_option maxHeartbeats 20000000
theorem powFacts : joinedFacts Tryz.prog 4 Tryz.f4 Rows.carrierPowersSpec Rows.carrierPowersRow = true := by
  unfold joinedFacts
  simp only [Bool.and_eq_true]
  repeat' apply And.intro
  all_goals as_aux_lemma => kernel_rfl
end Go.Proofs.YtgplabfjldndgaaGreatDoor

end
