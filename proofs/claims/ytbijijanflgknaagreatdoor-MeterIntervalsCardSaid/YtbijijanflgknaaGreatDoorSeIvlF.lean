/-
  Part of the proof: SeIvlF.
-/
import Derived.Test.YtbijijanflgknaaGreatDoorSeZJ
import Derived.JoinedOf
import Derived.KernelRfl
import Derived.Test.YtbijijanflgknaaGreatDoorRows

/-! SeIvlF -/
section
open Go
namespace Go.Proofs.YtbijijanflgknaaGreatDoor
set_option maxRecDepth 100000
set_option maxHeartbeats 20000000
theorem ivlFacts : joinedFacts Tryz.prog 9 Tryz.f9 Rows.meterIntervalsSpec Rows.meterIntervalsRow = true := by
  unfold joinedFacts
  simp only [Bool.and_eq_true]
  repeat' apply And.intro
  all_goals as_aux_lemma => kernel_rfl
end Go.Proofs.YtbijijanflgknaaGreatDoor

end
