/-
  Part of the proof: SeModF.
-/
import Derived.Test.YtdjjpjahlhdjnaaGreatDoorSeZN
import Derived.JoinedOf
import Derived.KernelRfl
import Derived.Test.YtdjjpjahlhdjnaaGreatDoorRows

/-! SeModF -/
section
open Go
namespace Go.Proofs.YtdjjpjahlhdjnaaGreatDoor
set_option maxRecDepth 100000
set_option maxHeartbeats 20000000
theorem modFacts : joinedFacts Tryz.prog 6 Tryz.f6 Rows.carrierModulatesSpec Rows.carrierModulatesRow = true := by
  unfold joinedFacts
  simp only [Bool.and_eq_true]
  repeat' apply And.intro
  all_goals as_aux_lemma => kernel_rfl
end Go.Proofs.YtdjjpjahlhdjnaaGreatDoor

end
