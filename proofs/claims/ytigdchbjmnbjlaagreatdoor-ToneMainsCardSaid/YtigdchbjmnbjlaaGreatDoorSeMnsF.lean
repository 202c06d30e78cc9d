/-
  Part of the proof.
-/
import Derived.Test.YtigdchbjmnbjlaaGreatDoorSeZO
import Derived.JoinedOf
import Derived.KernelRfl
import Derived.Test.YtigdchbjmnbjlaaGreatDoorRows
section
open Go
namespace Go.Proofs.YtigdchbjmnbjlaaGreatDoor
set_option maxRecDepth 100000
set_option maxHeartbeats 20000000
theorem mnsFacts : joinedFacts Tryz.prog 3 Tryz.f3 Rows.toneMainsSpec Rows.toneMainsRow = true := by
 unfold joinedFacts
 simp only [Bool.and_eq_true]
 repeat' apply And.intro
 all_goals as_aux_lemma => kernel_rfl
end Go.Proofs.YtigdchbjmnbjlaaGreatDoor
end
