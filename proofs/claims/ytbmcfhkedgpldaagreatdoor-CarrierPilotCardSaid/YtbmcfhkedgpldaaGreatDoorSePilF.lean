/-
  Part of the proof: SePilF.
-/
import Derived.Test.YtbmcfhkedgpldaaGreatDoorSeZK
import Derived.JoinedOf
import Derived.KernelRfl
import Derived.Test.YtbmcfhkedgpldaaGreatDoorRows

/-! SePilF -/
section
open Go
namespace Go.Proofs.YtbmcfhkedgpldaaGreatDoor
set_option maxRecDepth 100000
set_option maxHeartbeats 20000000
theorem pilFacts : joinedFacts Tryz.prog 11 Tryz.f11 Rows.carrierPilotSpec Rows.carrierPilotRow = true := by
 unfold joinedFacts
 simp only [Bool.and_eq_true]
 repeat' apply And.intro
 all_goals as_aux_lemma => kernel_rfl
end Go.Proofs.YtbmcfhkedgpldaaGreatDoor
end
