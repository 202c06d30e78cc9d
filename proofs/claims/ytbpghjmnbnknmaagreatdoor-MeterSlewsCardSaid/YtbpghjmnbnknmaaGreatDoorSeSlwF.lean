/-
  Part of the proof: SeSlwF.
-/
import Derived.Test.YtbpghjmnbnknmaaGreatDoorSeZI
import Derived.JoinedOf
import Derived.KernelRfl
import Derived.Test.YtbpghjmnbnknmaaGreatDoorRows

/-! SeSlwF -/
section
open Go
namespace Go.Proofs.YtbpghjmnbnknmaaGreatDoor
set_option maxRecDepth 100000
set_option maxHeartbeats 20000000
theorem slwFacts : joinedFacts Tryz.prog 12 Tryz.f12 Rows.meterSlewsSpec Rows.meterSlewsRow = true := by
  unfold joinedFacts
  simp only [Bool.and_eq_true]
  repeat' apply And.intro
  all_goals as_aux_lemma => kernel_rfl
end Go.Proofs.YtbpghjmnbnknmaaGreatDoor

end
