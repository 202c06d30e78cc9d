/-
  Part of the proof: SeFinI.
-/
import Derived.Test.YtlahjbbchbbadaaGreatDoorSeFinL

/-! SeFinI -/
section
open Go Go.Ev Go.RowKit Go.ChangeShapes Go.WideShapes Ieee
namespace Go.Proofs.YtlahjbbchbbadaaGreatDoor
set_option maxRecDepth 100000
set_option maxHeartbeats 20000000

theorem v42 : Tryz.prog.underlying 42 = some (.slice 23) := by kernel_rfl
theorem v23 : Tryz.prog.underlying 23 = some (.float .f32) := by kernel_rfl
theorem finCore : FinCore := by
  intro H enc W v0 v1 d0 d1 p0 p1 hL h0 h1 ⟨base, w0, w1⟩
  have hblk : ∃ c ty fz, W.heap[4]? = some (.cells c ty fz) := by
    obtain ⟨_, c, t, fz, h, _⟩ := tables (base := 5) (Nat.le_refl _) hL 4 tabPow rfl
    exact ⟨c, t, fz, h⟩
  have hsz : 5 ≤ W.heap.size := by
    obtain ⟨c, t, fz, h⟩ := hblk
    have := (Array.getElem?_eq_some_iff.1 h).1
    omega
  have hG : GR E.gl W.heap.size W := tables hsz hL
  obtain ⟨a1, l1, c1, rfl⟩ := okWide_slice v42 w0
  obtain ⟨a2, l2, c2, rfl⟩ := okWide_slice v42 w1
  obtain ⟨f0, h0⟩ := h0
  obtain ⟨f1, h1⟩ := h1
  obtain ⟨F1, ds1, hF1, hRl1, _, ws, _, _, rfl⟩ := rd_floats v42 v23 (by kernel_rfl) ⟨a1, l1, c1, rfl⟩ h0
  obtain ⟨F2, ds2, hF2, hRl2, _, ps, _, _, rfl⟩ := rd_floats v42 v23 (by kernel_rfl) ⟨a2, l2, c2, rfl⟩ h1
  have one : ∀ {F : List (Nat × List Value)} {d : DT} {v : Value}, DT.Rl F [d] [v] → DT.R F d v := by
    intro F d v h
    simp only [DT.Rl] at h
    obtain ⟨y, r, e, hy, _⟩ := h
    have e2 : y = v := (List.cons.inj e).1.symm
    rw [← e2]; exact hy
  have hR2 : DT.R (F1 ++ F2) (dF ps) (.slice a2 l2 c2) := DT.R.mono (fun p hp => List.mem_append_right _ hp) _ _ (one hRl2)
  have hR1 : DT.R (F1 ++ F2) (dF ws) (.slice a1 l1 c1) := DT.R.mono (fun p hp => List.mem_append_left _ hp) _ _ (one hRl1)
  have hk := fndRun envOk (kAw envOk) ws ps
  let m : M := { n := 0, ρ := fun _ => 0, κ := fun _ => 0, lo := 0, F := F1 ++ F2 }
  have hH : HR m W.heap.size 0 [] W := ⟨rfl, Nat.le_refl _, Nat.le_refl _, fun b a hb => by simp at hb, fun b _ hb => by simp at hb, fun b b' hb => by simp at hb, Nat.le_refl _, fun p hp => ⟨(hF1.app hF2) p hp, fun b a _ hb => by simp at hb⟩⟩
  have hargs : All2 (VR m) [.e (.one (dF ws).ac), .e (.one (dF ps).ac)] (#[.slice a1 l1 c1, .slice a2 l2 c2] : Array Value).toList := ⟨hR1, hR2, trivial⟩
  exact (hk _ _ _ _ hargs hH hG).mono fun e W' ⟨y, he, m', hp⟩ => ⟨by
    have hy : y = .bool true := hp.val
    rw [he, hy], hp.below⟩
/-- IT HOLDS: the law CarrierFinds returns true, whatever samples and pilot come in. -/
theorem carrierFinds : Rows.CarrierFindsCardSaid := fin_card finCore
end Go.Proofs.YtlahjbbchbbadaaGreatDoor

end
