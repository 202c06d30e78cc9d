/-
  Part of the proof: SeD.
-/
import Derived.Test.YtaaioijpbkcmdaaDoorSeC
open Go Go.Ev
namespace Go.Proofs.YtaaioijpbkcmdaaDoor
noncomputable section
set_option maxRecDepth 100000
--DEFS
def c72x_end (_KA : List AC) (a0 a1 a2 a3 a4 a5 a6 a7 : UInt8) (C : List AC) (N ty _o _n _cap : Nat) (fl _ex : Bool) (j : Nat → Value) : St := ⟨[(.some ⟨(C), (N), (ty), (fl), .cells⟩), (.some ⟨[u8c a0, u8c a1, u8c a2, u8c a3, u8c a4, u8c a5, u8c a6, u8c a7], 8, 23, true, .cells⟩)], [(.code .ret)], mkT j [(4, (.e (.one (.ptr 1 0))))] 43 0⟩
def sealH (i : Nat) (ks bs : List UInt8) : List UInt8 := ks.mapIdx fun m x => if m < i then sealX m x bs else 0
theorem sealH_zero (ks bs : List UInt8) (h : ks.length = 8) : (sealH 0 ks bs).map u8c = Z8 := by
  obtain ⟨a0, a1, a2, a3, a4, a5, a6, a7, rfl⟩ := len8 h
  rfl
theorem sealH_all (ks bs : List UInt8) : sealH ks.length ks bs = sealK ks bs := by
  apply List.ext_getElem?
  intro i
  simp only [sealH, sealK, List.getElem?_mapIdx]
  cases h : ks[i]? with
  | none => rfl
  | some x =>
    have := (List.getElem?_eq_some_iff.1 h).1
    simp [this]
theorem sealH_set (ks bs : List UInt8) (i : Nat) (x : UInt8) (h : ks[i]? = some x) : overL [u8c (sealX i x bs)] ((sealH i ks bs).map u8c) i = (sealH (i + 1) ks bs).map u8c := by
  have hlt := (List.getElem?_eq_some_iff.1 h).1
  show setL ((sealH i ks bs).map u8c) i (u8c (sealX i x bs)) = _
  rw [setL_eq]
  apply List.ext_getElem?
  intro m
  simp only [sealH, List.getElem?_set, List.getElem?_map, List.getElem?_mapIdx, List.length_map, List.length_mapIdx]
  by_cases hm : i = m
  · subst hm
    obtain ⟨_, rfl⟩ := List.getElem?_eq_some_iff.1 h
    simp [hlt]
  · simp only [hm, if_false]
    cases hk : ks[m]? with
    | none => rfl
    | some y =>
      have : (m < i) = (m < i + 1) := by apply propext; omega
      simp [this]

theorem ref_step (i : Nat) (hi : i < 8) (x b : UInt8) :
    (wrapF IntKind.i64 (wrapF IntKind.i64 (wrapF IntKind.i64 (wrapF IntKind.i64 (wrapF IntKind.i64 (2 * Int.ofNat i) + 3) * Int.ofNat x.toNat) + IntKind.i64.wrap ↑b.toNat) + Int.ofNat i)).tmod 256 = ↑(sealB i x b).toNat := by
  have hx := u8_lt x
  have hb := u8_lt b
  simp only [Int.ofNat_eq_natCast]
  have e3 : (2 * (i : Int) + 3) * (x.toNat : Int) = (((2 * i + 3) * x.toNat : Nat) : Int) := by push_cast; rfl
  have hle : (2 * i + 3) * x.toNat ≤ 17 * 255 := Nat.mul_le_mul (by omega) (by omega)
  rw [wrap_id (n := 2 * (i : Int)) (by omega) (by omega), wrap_id (n := 2 * (i : Int) + 3) (by omega) (by omega), e3, wrap_id (n := (((2 * i + 3) * x.toNat : Nat) : Int)) (by omega) (by omega), IntWalk.i64_in (b.toNat : Int) (by omega), wrap_id (n := (((2 * i + 3) * x.toNat : Nat) : Int) + (b.toNat : Int)) (by omega) (by omega), wrap_id (n := (((2 * i + 3) * x.toNat : Nat) : Int) + (b.toNat : Int) + (i : Int)) (by omega) (by omega)]
  rw [Int.tmod_eq_emod_of_nonneg (by omega)]
  simp only [sealB, UInt8.toNat_ofNat']
  omega

end
end Go.Proofs.YtaaioijpbkcmdaaDoor
