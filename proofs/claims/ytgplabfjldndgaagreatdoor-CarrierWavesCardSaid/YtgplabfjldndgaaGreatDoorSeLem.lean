/-
  Small facts for the contracts.
-/
import Derived.Test.YtgplabfjldndgaaGreatDoorSeB
open Go Go.Ev
namespace Go.Proofs.YtgplabfjldndgaaGreatDoor
noncomputable section
theorem wrap_u8 (n : Int) : wrapF .u8 n = n % 256 := by rw [wrapF_eq, IntKind.wrap_u8]
theorem flat_u8c (l : List UInt8) : FlatC (l.map u8c) := fun c hc => by
  obtain ⟨x, _, rfl⟩ := List.mem_map.1 hc
  exact ⟨_, rfl⟩
theorem flat_app {l m : List AC} (h : FlatC l) (h' : FlatC m) : FlatC (l ++ m) := fun c hc => by
  rcases List.mem_append.1 hc with hc | hc
  · exact h c hc
  · exact h' c hc
theorem iUe {a b : Int} (h : a = b) : (iU a : AV) = iU b := by rw [h]
theorem u8_lt (x : UInt8) : x.toNat < 256 := x.toNat_lt
theorem iIn (i : Nat) (h : i ≤ 4000000) : (iI (wrapF IntKind.i64 (Int.ofNat i + (1 : Int))) : AV) = iI (Int.ofNat (i + 1)) :=
  iIe (by rw [wrap_id (by simp only [Int.ofNat_eq_natCast]; omega) (by simp only [Int.ofNat_eq_natCast]; omega)]; simp)
end
end Go.Proofs.YtgplabfjldndgaaGreatDoor
