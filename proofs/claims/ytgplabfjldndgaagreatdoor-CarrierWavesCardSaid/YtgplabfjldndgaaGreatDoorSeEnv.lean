/-
  The seat's program for the open runs.
-/
import Derived.Test.YtgplabfjldndgaaGreatDoorSyP
import Derived.Test.YtgplabfjldndgaaGreatDoorProg
open Go Go.Ev
namespace Go.Proofs.YtgplabfjldndgaaGreatDoor
noncomputable section
def tabTurns : List Value := [.int .i64 1, .int .i64 0, .int .i64 0, .int .i64 1, .int .i64 (-1), .int .i64 0, .int .i64 0, .int .i64 (-1)]
def tabPairs : List Value := [.int .i64 0, .int .i64 1, .int .i64 3, .int .i64 2]
def tabPow : List Value := (List.range 20).map fun i => Value.int .u64 (Int.ofNat (10 ^ i))
def writers : FuncId → Bool := fun f => [112, 147, 122, 133, 120, 155, 135, 195].contains f
def hooks : FuncId → Hook := fun f => if f = 162 then .copyCheck else .none
def E : Env := Env.mk Tryz.prog [(0, tabTurns), (1, tabPairs), (4, tabPow)] writers hooks 194
end
end Go.Proofs.YtgplabfjldndgaaGreatDoor
