/-
  Part of the proof: SeBarF.
-/
import Derived.Test.YtmefachijohnhaaGreatDoorSeZO
import Derived.JoinedOf
import Derived.KernelRfl
import Derived.Test.YtmefachijohnhaaGreatDoorRows

/-! SeBarF -/
section
open Go
namespace Go.Proofs.YtmefachijohnhaaGreatDoor
set_option maxRecDepth 100000
set_option maxHeartbeats 20000000
theorem barFacts : joinedFacts Tryz.prog 8 Tryz.f8 Rows.creditBarriersSpec Rows.creditBarriersRow = true := by
 unfold joinedFacts
 simp only [Bool.and_eq_true]
 repeat' apply And.intro
 all_goals as_aux_lemma => kernel_rfl
end Go.Proofs.YtmefachijohnhaaGreatDoor
end
