/-
  Part of the proof: SeGttF.
-/
import Derived.Test.YtigdchbjmnbjlaaGreatDoorSeZM
import Derived.JoinedOf
import Derived.KernelRfl
import Derived.Test.YtigdchbjmnbjlaaGreatDoorRows

/-! SeGttF -/
section
open Go
namespace Go.Proofs.YtigdchbjmnbjlaaGreatDoor
set_option maxRecDepth 100000
set_option maxHeartbeats 20000000
theorem gttFacts : joinedFacts Tryz.prog 8 Tryz.f8 Rows.toneGreatestSpec Rows.toneGreatestRow = true := by
 unfold joinedFacts
 simp only [Bool.and_eq_true]
 repeat' apply And.intro
 all_goals as_aux_lemma => kernel_rfl
end Go.Proofs.YtigdchbjmnbjlaaGreatDoor
end
