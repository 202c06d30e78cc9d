/-
  Part of the proof: SeGuaI.
-/
import Derived.Test.YtneaafigbnjceaaGreatDoorSeGuaL

/-! SeGuaI -/
section
open Go Go.Ev Go.RowKit Go.ChangeShapes Go.WideShapes
namespace Go.Proofs.YtneaafigbnjceaaGreatDoor
set_option maxRecDepth 100000
set_option maxHeartbeats 20000000
theorem v66 : Tryz.prog.underlying 66 = some (.array 3 65) := by kernel_rfl
theorem v65 : Tryz.prog.underlying 65 = some (.int .u32) := by kernel_rfl
theorem c65_ : Tryz.prog.cellsOf 65 = 1 := by kernel_rfl
theorem arr_of {W : World} {b t n e : Nat} {v : Value} (hu : Tryz.prog.underlying t = some (.array n e)) (h : Value.okWide Tryz.prog W .any b t v) : ∃ cs, v = .agg cs := by
 cases v with
 | agg cs => exact ⟨cs, rfl⟩
 | _ => simp [Value.okWide, hu] at h
theorem rd_u3 {H : Type} {enc : TypeId × Value → H} {W : World} {fuel : Nat} {held : Bool} {cs : List Value} {x : DataW H × List MemPlace} (h : DataW.trod enc Tryz.prog W 0 (fun _ => true) held fuel 66 cs = some x) : ∃ a b c : Int, cs = [.int .u32 a, .int .u32 b, .int .u32 c] ∧ (0 ≤ a ∧ a < 4294967296) ∧ (0 ≤ b ∧ b < 4294967296) ∧ (0 ≤ c ∧ c < 4294967296) := by
 obtain ⟨xs, m, rfl, _, hlen, hn, hel⟩ := DataW.trod_array v66 h
 rw [show Tryz.prog.cellsOf 66 = 3 by kernel_rfl] at hlen
 rw [c65_] at hel
 have e3 : IntKind.u32.min = 0 := by decide
 have e4 : IntKind.u32.max = 4294967295 := by decide
 match cs, hlen with
 | [a, b, c], _ =>
  have one : ∀ i (hi : i < 3) z, (([a, b, c] : List Value).drop (i * 1)).take 1 = [z] → ∃ r : Int, z = .int .u32 r ∧ 0 ≤ r ∧ r < 4294967296 := fun i hi z hz => by
   have h1 := hel i hi
   rw [hz, List.getElem?_eq_getElem (by omega)] at h1
   obtain ⟨r, hr, _, hw⟩ := DataW.trod_int v65 h1
   have hw' : decide (IntKind.u32.min ≤ r) && decide (r ≤ IntKind.u32.max) := hw
   rw [Bool.and_eq_true, decide_eq_true_eq, decide_eq_true_eq] at hw'
   exact ⟨r, by simpa using hr, by omega, by omega⟩
  obtain ⟨p, rfl, hp⟩ := one 0 (by omega) a rfl
  obtain ⟨q, rfl, hq⟩ := one 1 (by omega) b rfl
  obtain ⟨r, rfl, hr⟩ := one 2 (by omega) c rfl
  exact ⟨p, q, r, rfl, hp, hq, hr⟩
theorem guaCore : GuaCore := by
 intro H enc W v0 v1 v2 d0 d1 d2 p0 p1 p2 hL h0 h1 h2 ⟨base, w0, w1, w2⟩
 obtain ⟨hsz, hG⟩ := met_tables hL
 obtain ⟨f0, h0⟩ := h0
 obtain ⟨f1, h1⟩ := h1
 obtain ⟨f2, h2⟩ := h2
 obtain ⟨q0, rfl⟩ := agg_of v26 w0
 obtain ⟨q2, rfl⟩ := arr_of v66 w2
 obtain ⟨n0, n1, n2, hq, b0, b1, b2⟩ := rd_u3 h2
 have hq : q2 = #[.int .u32 n0, .int .u32 n1, .int .u32 n2] := by rw [← Array.toList_inj]; exact hq
 subst hq
 obtain ⟨p, ln, cp, hs⟩ := sl_of v81 h1
 obtain rfl : v1 = .slice p ln cp := by
  simp only [Value.okWide, v81] at w1
  cases v1 <;> simp_all [Value.cells, Cell.okWide, Cell.ok]
 obtain ⟨F0, us, y, c, b, d, s, e, kk0, kk1, kk2, kk3, kk4, kk5, kk6, kk7, mm0, mm1, mm2, mm3, mm4, mm5, mm6, mm7, a0, hR, e0⟩ := rd_account h0
 obtain ⟨F1, e1, a1, r1, l1, R, hRm, rfl⟩ := rd_hrs h1
 have hk := guardedRun envOk (kAw envOk) ⟨b, d, s, e, kk0, kk1, kk2, kk3, kk4, kk5, kk6, kk7, mm0, mm1, mm2, mm3, mm4, mm5, mm6, mm7⟩ us us.length c rfl R n0 n1 n2 b0 b1 b2
 have hv1 : VR (m0 (F0 ++ F1)) (dHr R) (.slice p ln cp) := by
  have h9 := DT.Rl.ac (m := m0 (F0 ++ F1)) (DT.Rl.mono (fun p hp => List.mem_append_right _ hp) _ _ r1)
  exact h9.1
 have hR : DT.R (F0 ++ F1) (.s (iD us) us.length 1) y := DT.R.mono (fun p hp => List.mem_append_left _ hp) _ _ hR
 have hargs : All2 (VR (m0 (F0 ++ F1))) [Bk.accA ⟨b, d, s, e, kk0, kk1, kk2, kk3, kk4, kk5, kk6, kk7, mm0, mm1, mm2, mm3, mm4, mm5, mm6, mm7⟩ us us.length c, dHr R, .e (.agg [.v (.int .u32 n0), .v (.int .u32 n1), .v (.int .u32 n2)])] (#[.agg q0, .slice p ln cp, .agg #[.int .u32 n0, .int .u32 n1, .int .u32 n2]] : Array Value).toList := by
  refine ⟨⟨q0, rfl, ?_⟩, hv1, ⟨_, rfl, rfl, rfl, rfl, trivial⟩, trivial⟩
  have e3 : q0.toList = [.int .i64 b, .int .i64 d, .int .i64 s, .int .i64 e, .int .u8 kk0, .int .u8 kk1, .int .u8 kk2, .int .u8 kk3, .int .u8 kk4, .int .u8 kk5, .int .u8 kk6, .int .u8 kk7, .int .u8 mm0, .int .u8 mm1, .int .u8 mm2, .int .u8 mm3, .int .u8 mm4, .int .u8 mm5, .int .u8 mm6, .int .u8 mm7, .bool c, y] := e0
  rw [e3]
  exact ⟨rfl, rfl, rfl, rfl, rfl, rfl, rfl, rfl, rfl, rfl, rfl, rfl, rfl, rfl, rfl, rfl, rfl, rfl, rfl, rfl, rfl, hR, trivial⟩
 exact (hk _ _ _ _ hargs (hr0 W (a0.app a1)) hG).mono fun e W' ⟨y, he, m', hp⟩ => ⟨by
  have hy : y = .bool true := hp.val
  rw [he, hy], hp.below⟩
theorem creditGuarded : Rows.CreditGuardedCardSaid := gua_card guaCore
end Go.Proofs.YtneaafigbnjceaaGreatDoor
end
