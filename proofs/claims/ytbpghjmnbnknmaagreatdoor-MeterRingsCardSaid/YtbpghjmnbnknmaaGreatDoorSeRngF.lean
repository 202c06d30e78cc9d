/-
  Part of the proof: SeRngF.
-/
import Derived.Test.YtbpghjmnbnknmaaGreatDoorSeZJ
import Derived.JoinedOf
import Derived.KernelRfl
import Derived.Test.YtbpghjmnbnknmaaGreatDoorRows

/-! SeRngF -/
section
open Go
namespace Go.Proofs.YtbpghjmnbnknmaaGreatDoor
set_option maxRecDepth 100000
set_option maxHeartbeats 20000000
theorem rngFacts : joinedFacts Tryz.prog 11 Tryz.f11 Rows.meterRingsSpec Rows.meterRingsRow = true := by
  unfold joinedFacts
  simp only [Bool.and_eq_true]
  repeat' apply And.intro
  all_goals as_aux_lemma => kernel_rfl
end Go.Proofs.YtbpghjmnbnknmaaGreatDoor

end
