/-
  Part of the proof: SeRcvF.
-/
import Derived.Test.YtaccakbjankeeaaGreatDoorSeZM
import Derived.JoinedOf
import Derived.KernelRfl
import Derived.Test.YtaccakbjankeeaaGreatDoorRows

/-! SeRcvF -/
section
open Go
namespace Go.Proofs.YtaccakbjankeeaaGreatDoor
set_option maxRecDepth 100000
set_option maxHeartbeats 20000000
theorem rcvFacts : joinedFacts Tryz.prog 7 Tryz.f7 Rows.toneReceiversSpec Rows.toneReceiversRow = true := by
 unfold joinedFacts
 simp only [Bool.and_eq_true]
 repeat' apply And.intro
 all_goals as_aux_lemma => kernel_rfl
end Go.Proofs.YtaccakbjankeeaaGreatDoor
end
