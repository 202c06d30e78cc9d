/-
  Part of the proof: SeKeyF.
-/
import Derived.Test.YtpnkginbmoniiaaGreatDoorSeZL
import Derived.JoinedOf
import Derived.KernelRfl
import Derived.Test.YtpnkginbmoniiaaGreatDoorRows

/-! SeKeyF -/
section
open Go
namespace Go.Proofs.YtpnkginbmoniiaaGreatDoor
set_option maxRecDepth 100000
set_option maxHeartbeats 20000000
theorem keyFacts : joinedFacts Tryz.prog 5 Tryz.f5 Rows.creditKeysSpec Rows.creditKeysRow = true := by
 unfold joinedFacts
 simp only [Bool.and_eq_true]
 repeat' apply And.intro
 all_goals as_aux_lemma => kernel_rfl
end Go.Proofs.YtpnkginbmoniiaaGreatDoor
end
