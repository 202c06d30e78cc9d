/-
  Part of the proof: SeAgrF.
-/
import Derived.Test.YtigdchbjmnbjlaaGreatDoorSeZN
import Derived.JoinedOf
import Derived.KernelRfl
import Derived.Test.YtigdchbjmnbjlaaGreatDoorRows

/-! SeAgrF -/
section
open Go
namespace Go.Proofs.YtigdchbjmnbjlaaGreatDoor
set_option maxRecDepth 100000
set_option maxHeartbeats 20000000
theorem agrFacts : joinedFacts Tryz.prog 9 Tryz.f9 Rows.toneAgreesSpec Rows.toneAgreesRow = true := by
 unfold joinedFacts
 simp only [Bool.and_eq_true]
 repeat' apply And.intro
 all_goals as_aux_lemma => kernel_rfl
end Go.Proofs.YtigdchbjmnbjlaaGreatDoor
end
