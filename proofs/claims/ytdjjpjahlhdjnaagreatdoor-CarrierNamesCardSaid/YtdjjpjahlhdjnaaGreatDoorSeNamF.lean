/-
  Part of the proof: SeNamF.
-/
import Derived.Test.YtdjjpjahlhdjnaaGreatDoorSeZJ
import Derived.JoinedOf
import Derived.KernelRfl
import Derived.Test.YtdjjpjahlhdjnaaGreatDoorRows

/-! SeNamF -/
section
open Go
namespace Go.Proofs.YtdjjpjahlhdjnaaGreatDoor
set_option maxRecDepth 100000
set_option maxHeartbeats 20000000
theorem namFacts : joinedFacts Tryz.prog 3 Tryz.f3 Rows.carrierNamesSpec Rows.carrierNamesRow = true := by
  unfold joinedFacts
  simp only [Bool.and_eq_true]
  repeat' apply And.intro
  all_goals as_aux_lemma => kernel_rfl
end Go.Proofs.YtdjjpjahlhdjnaaGreatDoor

end
