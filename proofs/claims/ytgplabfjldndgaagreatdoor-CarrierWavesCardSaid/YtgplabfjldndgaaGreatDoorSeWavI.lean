/-
  CarrierWaves holds: whatever samples and parts of a panel come in, the law returns true.
-/
import Derived.Test.YtgplabfjldndgaaGreatDoorSeFf
import Derived.Test.YtgplabfjldndgaaGreatDoorSeAw
import Derived.Test.YtgplabfjldndgaaGreatDoorSeRd
import Derived.Test.YtgplabfjldndgaaGreatDoorSeWavL
open Go Go.Ev Go.RowKit Go.ChangeShapes Go.WideShapes
namespace Go.Proofs.YtgplabfjldndgaaGreatDoor
set_option maxRecDepth 100000
set_option maxHeartbeats 20000000

theorem v23 : Tryz.prog.underlying 23 = some (.float .f32) := by kernel_rfl
theorem v56 : Tryz.prog.underlying 56 = some (.array 4 23) := by kernel_rfl
theorem v57 : Tryz.prog.underlying 57 = some (.array 8 23) := by kernel_rfl
theorem len4 {l : List Nat} (h : l.length = 4) : ∃ a b c d, l = [a, b, c, d] := by
  match l, h with
  | [a, b, c, d], _ => exact ⟨a, b, c, d, rfl⟩
theorem len8 {l : List Nat} (h : l.length = 8) : ∃ a b c d e f g i, l = [a, b, c, d, e, f, g, i] := by
  match l, h with
  | [a, b, c, d, e, f, g, i], _ => exact ⟨a, b, c, d, e, f, g, i, rfl⟩

theorem wavCore : WavCore := by
  intro H enc W v0 v1 d0 d1 p0 p1 hL h0 h1 ⟨base, w0, w1⟩
  have hblk : ∃ c ty fz, W.heap[4]? = some (.cells c ty fz) := by
    obtain ⟨_, c, t, fz, h, _⟩ := tables (base := 5) (Nat.le_refl _) hL 4 tabPow rfl
    exact ⟨c, t, fz, h⟩
  have hsz : 5 ≤ W.heap.size := by
    obtain ⟨c, t, fz, h⟩ := hblk
    have := (Array.getElem?_eq_some_iff.1 h).1
    omega
  have hG : GR E.gl W.heap.size W := tables hsz hL
  obtain ⟨k0, rfl⟩ : ∃ cs, v0 = .agg cs := by
    simp only [Value.okWide, v56] at w0
    obtain ⟨cs, h1, _⟩ := w0
    exact ⟨cs, h1⟩
  obtain ⟨k1, rfl⟩ : ∃ cs, v1 = .agg cs := by
    simp only [Value.okWide, v57] at w1
    obtain ⟨cs, h1, _⟩ := w1
    exact ⟨cs, h1⟩
  obtain ⟨f0, h0⟩ := h0
  obtain ⟨f1, h1⟩ := h1
  obtain ⟨ls, hl, _, hlv⟩ := read_floats v56 v23 (by kernel_rfl) (by kernel_rfl) h0
  obtain ⟨ps, hp, _, hpv⟩ := read_floats v57 v23 (by kernel_rfl) (by kernel_rfl) h1
  obtain ⟨l0, l1, l2, l3, rfl⟩ := len4 hl
  obtain ⟨q0, q1, q2, q3, q4, q5, q6, q7, rfl⟩ := len8 hp
  have hk := wavRun envOk (kAw envOk) l0 l1 l2 l3 q0 q1 q2 q3 q4 q5 q6 q7
  let m : M := { n := 0, ρ := fun _ => 0, κ := fun _ => 0, lo := 0, F := [] }
  have hH : HR m W.heap.size 0 [] W := ⟨rfl, Nat.le_refl _, Nat.le_refl _, fun b a hb => by simp at hb, fun b _ hb => by simp at hb, fun b b' hb => by simp at hb, Nat.le_refl _, fun p hp => by simp [m] at hp⟩
  have hargs : All2 (VR m) [.e (.agg (fL l0 l1 l2 l3)), .e (.agg [fC q0, fC q1, fC q2, fC q3, fC q4, fC q5, fC q6, fC q7])] (#[.agg k0, .agg k1] : Array Value).toList := by
    refine ⟨⟨k0, rfl, ?_⟩, ⟨k1, rfl, ?_⟩, trivial⟩
    · have e : k0.toList = [l0, l1, l2, l3].map fun b => Value.float .f32 b := hlv
      rw [e]
      exact all2_f [l0, l1, l2, l3]
    · have e : k1.toList = [q0, q1, q2, q3, q4, q5, q6, q7].map fun b => Value.float .f32 b := hpv
      rw [e]
      exact all2_f [q0, q1, q2, q3, q4, q5, q6, q7]
  exact (hk _ _ _ _ hargs hH hG).mono fun e W' ⟨y, he, m', hp⟩ => ⟨by
    have hy : y = .bool true := hp.val
    rw [he, hy], hp.below⟩

/-- IT HOLDS: the law CarrierWaves returns true, whatever samples and parts come in. -/
theorem carrierWaves : Rows.CarrierWavesCardSaid := wav_card wavCore
end Go.Proofs.YtgplabfjldndgaaGreatDoor
