/-
  Part of the proof: SeTonF.
-/
import Derived.Test.YtaccakbjankeeaaGreatDoorSeZM
import Derived.JoinedOf
import Derived.KernelRfl
import Derived.Test.YtaccakbjankeeaaGreatDoorRows

/-! SeTonF -/
section
open Go
namespace Go.Proofs.YtaccakbjankeeaaGreatDoor
set_option maxRecDepth 100000
set_option maxHeartbeats 20000000
theorem tonFacts : joinedFacts Tryz.prog 3 Tryz.f3 Rows.toneTonesSpec Rows.toneTonesRow = true := by
 unfold joinedFacts
 simp only [Bool.and_eq_true]
 repeat' apply And.intro
 all_goals as_aux_lemma => kernel_rfl
end Go.Proofs.YtaccakbjankeeaaGreatDoor
end
