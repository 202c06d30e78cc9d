/-
  Part of the proof: SeSndF.
-/
import Derived.Test.YtaccakbjankeeaaGreatDoorSeZL
import Derived.JoinedOf
import Derived.KernelRfl
import Derived.Test.YtaccakbjankeeaaGreatDoorRows

/-! SeSndF -/
section
open Go
namespace Go.Proofs.YtaccakbjankeeaaGreatDoor
set_option maxRecDepth 100000
set_option maxHeartbeats 20000000
theorem sndFacts : joinedFacts Tryz.prog 6 Tryz.f6 Rows.toneSendersSpec Rows.toneSendersRow = true := by
 unfold joinedFacts
 simp only [Bool.and_eq_true]
 repeat' apply And.intro
 all_goals as_aux_lemma => kernel_rfl
end Go.Proofs.YtaccakbjankeeaaGreatDoor
end
