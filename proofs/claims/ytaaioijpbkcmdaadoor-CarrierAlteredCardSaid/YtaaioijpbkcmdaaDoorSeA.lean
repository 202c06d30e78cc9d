/-
  Part of the proof: SeA.
-/
import Derived.Test.YtaaioijpbkcmdaaDoorSeH
open Go Go.Ev
namespace Go.Proofs.YtaaioijpbkcmdaaDoor
noncomputable section
set_option maxRecDepth 100000
def c104e_end (C : List AC) (N : Nat) (ty : Nat) (_o : Nat) (_n : Nat) (_cap : Nat) (fl : Bool) (_ex : Bool) (_k : Nat) (j : Nat → Value) : St := ⟨[(.some ⟨(C), (N), (ty), (fl), .cells⟩)], [(.code .ret)], mkT j [(2, (iI 0))] 19 0⟩
def firstI : List Int → Int
  | [] => 0
  | x :: l => if x = 0 then firstI l else x

end
end Go.Proofs.YtaaioijpbkcmdaaDoor
