/-
  Part of the proof: SeTokF.
-/
import Derived.Test.YtpnkginbmoniiaaGreatDoorSeZN
import Derived.JoinedOf
import Derived.KernelRfl
import Derived.Test.YtpnkginbmoniiaaGreatDoorRows

/-! SeTokF -/
section
open Go
namespace Go.Proofs.YtpnkginbmoniiaaGreatDoor
set_option maxRecDepth 100000
set_option maxHeartbeats 20000000
theorem tokFacts : joinedFacts Tryz.prog 4 Tryz.f4 Rows.creditTokensSpec Rows.creditTokensRow = true := by
 unfold joinedFacts
 simp only [Bool.and_eq_true]
 repeat' apply And.intro
 all_goals as_aux_lemma => kernel_rfl
end Go.Proofs.YtpnkginbmoniiaaGreatDoor
end
