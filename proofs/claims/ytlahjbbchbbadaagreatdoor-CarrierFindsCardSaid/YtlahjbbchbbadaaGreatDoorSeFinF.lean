/-
  Part of the proof: SeFinF.
-/
import Derived.Test.YtlahjbbchbbadaaGreatDoorSeZJ
import Derived.JoinedOf
import Derived.KernelRfl
import Derived.Test.YtlahjbbchbbadaaGreatDoorRows

/-! SeFinF -/
section
open Go
namespace Go.Proofs.YtlahjbbchbbadaaGreatDoor
set_option maxRecDepth 100000
set_option maxHeartbeats 20000000
theorem finFacts : joinedFacts Tryz.prog 7 Tryz.f7 Rows.carrierFindsSpec Rows.carrierFindsRow = true := by
  unfold joinedFacts
  simp only [Bool.and_eq_true]
  repeat' apply And.intro
  all_goals as_aux_lemma => kernel_rfl
end Go.Proofs.YtlahjbbchbbadaaGreatDoor

end
