/-
  The closed facts of the row of CarrierAltered.
-/
import Derived.Test.YtaaioijpbkcmdaaDoorRows
import Derived.JoinedOf
import Derived.KernelRfl
open Go
namespace Go.Proofs.YtaaioijpbkcmdaaDoor
set_option maxRecDepth 100000
set_option maxHeartbeats 20000000
theorem altFacts : joinedFacts Tryd.prog 3 Tryd.f3 Rows.carrierAlteredSpec Rows.carrierAlteredRow = true := by
  unfold joinedFacts
  simp only [Bool.and_eq_true]
  repeat' apply And.intro
  all_goals as_aux_lemma => kernel_rfl
end Go.Proofs.YtaaioijpbkcmdaaDoor
