/-
  Part of the proof: SeVotF.
-/
import Derived.Test.YtaccakbjankeeaaGreatDoorSeZK
import Derived.JoinedOf
import Derived.KernelRfl
import Derived.Test.YtaccakbjankeeaaGreatDoorRows

/-! SeVotF -/
section
open Go
namespace Go.Proofs.YtaccakbjankeeaaGreatDoor
set_option maxRecDepth 100000
set_option maxHeartbeats 20000000
theorem votFacts : joinedFacts Tryz.prog 5 Tryz.f5 Rows.toneVotesSpec Rows.toneVotesRow = true := by
 unfold joinedFacts
 simp only [Bool.and_eq_true]
 repeat' apply And.intro
 all_goals as_aux_lemma => kernel_rfl
end Go.Proofs.YtaccakbjankeeaaGreatDoor
end
