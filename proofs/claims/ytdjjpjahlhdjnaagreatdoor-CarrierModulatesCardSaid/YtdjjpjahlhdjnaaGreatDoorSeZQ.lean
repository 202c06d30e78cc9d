/-
  Part of the proof: SeModI.
-/
import Derived.Test.YtdjjpjahlhdjnaaGreatDoorSeModL

/-! SeModI -/
section
open Go Go.Ev Go.RowKit Go.ChangeShapes Go.WideShapes
namespace Go.Proofs.YtdjjpjahlhdjnaaGreatDoor
set_option maxRecDepth 100000
set_option maxHeartbeats 20000000

theorem v3 : Tryz.prog.underlying 3 = some (.int .i64) := by kernel_rfl
theorem v23 : Tryz.prog.underlying 23 = some (.float .f32) := by kernel_rfl
theorem v42 : Tryz.prog.underlying 42 = some (.slice 23) := by kernel_rfl
theorem v25 : Tryz.prog.underlying 25 = some (.slice 3) := by kernel_rfl
theorem modCore : ModCore := by
  intro H enc W v0 v1 v2 d0 d1 d2 p0 p1 p2 hL h0 h1 h2 ⟨base, w0, w1, w2⟩
  have hblk : ∃ c ty fz, W.heap[4]? = some (.cells c ty fz) := by
    obtain ⟨_, c, t, fz, h, _⟩ := tables (base := 5) (Nat.le_refl _) hL 4 tabPow rfl
    exact ⟨c, t, fz, h⟩
  have hsz : 5 ≤ W.heap.size := by
    obtain ⟨c, t, fz, h⟩ := hblk
    have := (Array.getElem?_eq_some_iff.1 h).1
    omega
  have hG : GR E.gl W.heap.size W := tables hsz hL
  obtain ⟨a1, l1, c1, rfl⟩ := okWide_slice v25 w1
  obtain ⟨a2, l2, c2, rfl⟩ := okWide_slice v42 w2
  obtain ⟨f0, h0⟩ := h0
  obtain ⟨f1, h1⟩ := h1
  obtain ⟨f2, h2⟩ := h2
  obtain ⟨z, hz, _⟩ := DataW.trod_int v3 h0
  obtain rfl : v0 = .int .i64 z := by
    simp only [Value.okWide, v3] at w0
    cases v0 <;> simp_all [Value.cells, Cell.okWide, Cell.ok]
  obtain ⟨F1, ds1, hF1, hRl1, _, xs, _, _, hd1⟩ := rd_ints v25 v3 (by kernel_rfl) ⟨a1, l1, c1, rfl⟩ h1
  obtain ⟨F2, ds2, hF2, hRl2, _, ws, _, _, rfl⟩ := rd_floats v42 v23 (by kernel_rfl) ⟨a2, l2, c2, rfl⟩ h2
  have one : ∀ {F : List (Nat × List Value)} {d : DT} {v : Value}, DT.Rl F [d] [v] → DT.R F d v := by
    intro F d v h
    simp only [DT.Rl] at h
    obtain ⟨y, r, e, hy, _⟩ := h
    have e2 : y = v := (List.cons.inj e).1.symm
    rw [← e2]; exact hy
  have hR2 : DT.R (F1 ++ F2) (dF ws) (.slice a2 l2 c2) := DT.R.mono (fun p hp => List.mem_append_right _ hp) _ _ (one hRl2)
  have hR1 : DT.R (F1 ++ F2) (.s (iD xs) xs.length 1) (.slice a1 l1 c1) := by
    subst hd1
    exact DT.R.mono (fun p hp => List.mem_append_left _ hp) _ _ (one hRl1)
  have hk := modRun envOk (kAw envOk) z xs ws
  let m : M := { n := 0, ρ := fun _ => 0, κ := fun _ => 0, lo := 0, F := F1 ++ F2 }
  have hH : HR m W.heap.size 0 [] W := ⟨rfl, Nat.le_refl _, Nat.le_refl _, fun b a hb => by simp at hb, fun b _ hb => by simp at hb, fun b b' hb => by simp at hb, Nat.le_refl _, fun p hp => ⟨(hF1.app hF2) p hp, fun b a _ hb => by simp at hb⟩⟩
  have hargs : All2 (VR m) [iI z, dI xs, .e (.one (dF ws).ac)] (#[.int .i64 z, .slice a1 l1 c1, .slice a2 l2 c2] : Array Value).toList := ⟨rfl, hR1, hR2, trivial⟩
  exact (hk _ _ _ _ hargs hH hG).mono fun e W' ⟨y, he, m', hp⟩ => ⟨by
    have hy : y = .bool true := hp.val
    rw [he, hy], hp.below⟩

/-- IT HOLDS: the law CarrierModulates returns true, whatever level, phases and samples come in. -/
theorem carrierModulates : Rows.CarrierModulatesCardSaid := mod_card modCore
end Go.Proofs.YtdjjpjahlhdjnaaGreatDoor

end
