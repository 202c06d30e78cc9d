/-
  Part of the proof: SeBarI.
-/
import Derived.Test.YtmefachijohnhaaGreatDoorSeBarL

/-! SeBarI -/
section
open Go Go.Ev Go.RowKit Go.ChangeShapes Go.WideShapes
namespace Go.Proofs.YtmefachijohnhaaGreatDoor
set_option maxRecDepth 100000
set_option maxHeartbeats 20000000
theorem arr_of {W : World} {b t n e : Nat} {v : Value} (hu : Tryz.prog.underlying t = some (.array n e)) (h : Value.okWide Tryz.prog W .any b t v) : ∃ cs, v = .agg cs := by
 cases v with
 | agg cs => exact ⟨cs, rfl⟩
 | _ => simp [Value.okWide, hu] at h
theorem barCore : BarCore := by
 intro H enc W v0 v1 v2 d0 d1 d2 p0 p1 p2 hL h0 h1 h2 ⟨base, w0, w1, w2⟩
 obtain ⟨hsz, hG⟩ := met_tables hL
 obtain ⟨f0, h0⟩ := h0
 obtain ⟨f1, h1⟩ := h1
 obtain ⟨f2, h2⟩ := h2
 obtain ⟨q0, rfl⟩ := agg_of v98 w0
 obtain ⟨q2, rfl⟩ := arr_of v82 w2
 obtain ⟨t, c, hq⟩ := rd_i2 h2
 have hq : q2 = #[.int .i64 t, .int .i64 c] := by rw [← Array.toList_inj]; exact hq
 subst hq
 obtain ⟨p, ln, cp, hs⟩ := sl_of v81 h1
 obtain rfl : v1 = .slice p ln cp := by
  simp only [Value.okWide, v81] at w1
  cases v1 <;> simp_all [Value.cells, Cell.okWide, Cell.ok]
 obtain ⟨F0, e0, a0, r0, l0, a, b, L, hLm, rfl⟩ := rd_sw h0
 obtain ⟨F1, e1, a1, r1, l1, R, hRm, rfl⟩ := rd_hrs h1
 have hk := barriersRun envOk (kAw envOk) a b L R t c hLm
 have hv1 : VR (m0 (F0 ++ F1)) (dHr R) (.slice p ln cp) := by
  have h9 := DT.Rl.ac (m := m0 (F0 ++ F1)) (DT.Rl.mono (fun p hp => List.mem_append_right _ hp) _ _ r1)
  exact h9.1
 have hargs : All2 (VR (m0 (F0 ++ F1))) [.e (.agg [.v (.bool a), .v (.bool b), .dp (.s (odD L) L.length 2)]), dHr R, .e (.agg [.v (.int .i64 t), .v (.int .i64 c)])] (#[.agg q0, .slice p ln cp, .agg #[.int .i64 t, .int .i64 c]] : Array Value).toList :=
  ⟨agg_in (fun p hp => List.mem_append_left _ hp) r0 l0, hv1, ⟨_, rfl, rfl, rfl, trivial⟩, trivial⟩
 exact (hk _ _ _ _ hargs (hr0 W (a0.app a1)) hG).mono fun e W' ⟨y, he, m', hp⟩ => ⟨by
  have hy : y = .bool true := hp.val
  rw [he, hy], hp.below⟩
theorem creditBarriers : Rows.CreditBarriersCardSaid := bar_card barCore
end Go.Proofs.YtmefachijohnhaaGreatDoor
end
