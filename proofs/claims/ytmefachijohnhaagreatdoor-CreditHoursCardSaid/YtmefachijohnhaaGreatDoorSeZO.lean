/-
  Part of the proof: SeHouI.
-/
import Derived.Test.YtmefachijohnhaaGreatDoorSeHouL

/-! SeHouI -/
section
open Go Go.Ev Go.RowKit Go.ChangeShapes Go.WideShapes
namespace Go.Proofs.YtmefachijohnhaaGreatDoor
set_option maxRecDepth 100000
set_option maxHeartbeats 20000000
theorem arr_of {W : World} {b t n e : Nat} {v : Value} (hu : Tryz.prog.underlying t = some (.array n e)) (h : Value.okWide Tryz.prog W .any b t v) : ∃ cs, v = .agg cs := by
 cases v with
 | agg cs => exact ⟨cs, rfl⟩
 | _ => simp [Value.okWide, hu] at h
theorem houCore : HouCore := by
 intro H enc W v0 v1 v2 d0 d1 d2 p0 p1 p2 hL h0 h1 h2 ⟨base, w0, w1, w2⟩
 obtain ⟨hsz, hG⟩ := met_tables hL
 obtain ⟨f0, h0⟩ := h0
 obtain ⟨f1, h1⟩ := h1
 obtain ⟨f2, h2⟩ := h2
 obtain ⟨q0, rfl⟩ := agg_of v26 w0
 obtain ⟨q2, rfl⟩ := arr_of v82 w2
 obtain ⟨t, u, hq⟩ := rd_i2 h2
 have hq : q2 = #[.int .i64 t, .int .i64 u] := by rw [← Array.toList_inj]; exact hq
 subst hq
 obtain ⟨p, ln, cp, hs⟩ := sl_of v81 h1
 obtain rfl : v1 = .slice p ln cp := by
  simp only [Value.okWide, v81] at w1
  cases v1 <;> simp_all [Value.cells, Cell.okWide, Cell.ok]
 obtain ⟨F0, us, y, c, b, d, s, e, kk0, kk1, kk2, kk3, kk4, kk5, kk6, kk7, mm0, mm1, mm2, mm3, mm4, mm5, mm6, mm7, a0, hR, e0⟩ := rd_account h0
 obtain ⟨F1, e1, a1, r1, l1, R, hRm, rfl⟩ := rd_hrs h1
 have hk := hoursRun envOk (kAw envOk) ⟨b, d, s, e, kk0, kk1, kk2, kk3, kk4, kk5, kk6, kk7, mm0, mm1, mm2, mm3, mm4, mm5, mm6, mm7⟩ us us.length c rfl R t u hRm
 have hv1 : VR (m0 (F0 ++ F1)) (dHr R) (.slice p ln cp) := by
  have h9 := DT.Rl.ac (m := m0 (F0 ++ F1)) (DT.Rl.mono (fun p hp => List.mem_append_right _ hp) _ _ r1)
  exact h9.1
 have hR : DT.R (F0 ++ F1) (.s (iD us) us.length 1) y := DT.R.mono (fun p hp => List.mem_append_left _ hp) _ _ hR
 have hargs : All2 (VR (m0 (F0 ++ F1))) [Bk.accA ⟨b, d, s, e, kk0, kk1, kk2, kk3, kk4, kk5, kk6, kk7, mm0, mm1, mm2, mm3, mm4, mm5, mm6, mm7⟩ us us.length c, dHr R, .e (.agg [.v (.int .i64 t), .v (.int .i64 u)])] (#[.agg q0, .slice p ln cp, .agg #[.int .i64 t, .int .i64 u]] : Array Value).toList := by
  refine ⟨⟨q0, rfl, ?_⟩, hv1, ⟨_, rfl, rfl, rfl, trivial⟩, trivial⟩
  have e3 : q0.toList = [.int .i64 b, .int .i64 d, .int .i64 s, .int .i64 e, .int .u8 kk0, .int .u8 kk1, .int .u8 kk2, .int .u8 kk3, .int .u8 kk4, .int .u8 kk5, .int .u8 kk6, .int .u8 kk7, .int .u8 mm0, .int .u8 mm1, .int .u8 mm2, .int .u8 mm3, .int .u8 mm4, .int .u8 mm5, .int .u8 mm6, .int .u8 mm7, .bool c, y] := e0
  rw [e3]
  exact ⟨rfl, rfl, rfl, rfl, rfl, rfl, rfl, rfl, rfl, rfl, rfl, rfl, rfl, rfl, rfl, rfl, rfl, rfl, rfl, rfl, rfl, hR, trivial⟩
 exact (hk _ _ _ _ hargs (hr0 W (a0.app a1)) hG).mono fun e W' ⟨y, he, m', hp⟩ => ⟨by
  have hy : y = .bool true := hp.val
  rw [he, hy], hp.below⟩
theorem creditHours : Rows.CreditHoursCardSaid := hou_card houCore
end Go.Proofs.YtmefachijohnhaaGreatDoor
end
