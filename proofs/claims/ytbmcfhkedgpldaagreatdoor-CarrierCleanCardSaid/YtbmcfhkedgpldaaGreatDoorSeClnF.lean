/-
  Part of the proof: SeClnF.
-/
import Derived.Test.YtbmcfhkedgpldaaGreatDoorSeZN
import Derived.JoinedOf
import Derived.KernelRfl
import Derived.Test.YtbmcfhkedgpldaaGreatDoorRows

/-! SeClnF -/
section
open Go
namespace Go.Proofs.YtbmcfhkedgpldaaGreatDoor
set_option maxRecDepth 100000
set_option maxHeartbeats 20000000
theorem clnFacts : joinedFacts Tryz.prog 10 Tryz.f10 Rows.carrierCleanSpec Rows.carrierCleanRow = true := by
 unfold joinedFacts
 simp only [Bool.and_eq_true]
 repeat' apply And.intro
 all_goals as_aux_lemma => kernel_rfl
end Go.Proofs.YtbmcfhkedgpldaaGreatDoor
end
