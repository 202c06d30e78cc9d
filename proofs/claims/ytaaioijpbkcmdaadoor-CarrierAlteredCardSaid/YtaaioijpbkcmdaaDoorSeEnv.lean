/-
  The seat's program for the open runs.
-/
import Derived.Test.YtaaioijpbkcmdaaDoorSyP
import Derived.Test.YtaaioijpbkcmdaaDoorProg
open Go Go.Ev
namespace Go.Proofs.YtaaioijpbkcmdaaDoor
noncomputable section
def tabTurns : List Value := [.int .i64 1, .int .i64 0, .int .i64 0, .int .i64 1, .int .i64 (-1), .int .i64 0, .int .i64 0, .int .i64 (-1)]
def tabPairs : List Value := [.int .i64 0, .int .i64 1, .int .i64 3, .int .i64 2]
def tabPow : List Value := (List.range 20).map fun i => Value.int .u64 (Int.ofNat (10 ^ i))
def writers : FuncId → Bool := fun f => [45, 60, 56, 54, 68, 59, 91].contains f
def hooks : FuncId → Hook := fun f => if f = 74 then .copyCheck else .none
def E : Env := Env.mk Tryd.prog [(1, tabTurns), (0, tabPairs), (3, tabPow)] writers hooks 117
end
end Go.Proofs.YtaaioijpbkcmdaaDoor
