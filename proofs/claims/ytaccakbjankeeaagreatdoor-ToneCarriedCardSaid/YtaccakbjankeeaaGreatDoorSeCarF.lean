/-
  Part of the proof: SeCarF.
-/
import Derived.Test.YtaccakbjankeeaaGreatDoorSeZN
import Derived.JoinedOf
import Derived.KernelRfl
import Derived.Test.YtaccakbjankeeaaGreatDoorRows

/-! SeCarF -/
section
open Go
namespace Go.Proofs.YtaccakbjankeeaaGreatDoor
set_option maxRecDepth 100000
set_option maxHeartbeats 20000000
theorem carFacts : joinedFacts Tryz.prog 8 Tryz.f8 Rows.toneCarriedSpec Rows.toneCarriedRow = true := by
 unfold joinedFacts
 simp only [Bool.and_eq_true]
 repeat' apply And.intro
 all_goals as_aux_lemma => kernel_rfl
end Go.Proofs.YtaccakbjankeeaaGreatDoor
end
