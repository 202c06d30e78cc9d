/-
  Part of the proof: SePhaI.
-/
import Derived.Test.YtneaafigbnjceaaGreatDoorSePhaL

/-! SePhaI -/
section
open Go Go.Ev Go.RowKit Go.ChangeShapes Go.WideShapes
namespace Go.Proofs.YtneaafigbnjceaaGreatDoor
set_option maxRecDepth 100000
set_option maxHeartbeats 20000000
theorem rd_accB {H : Type} {enc : TypeId × Value → H} {W : World} {fuel : Nat} {held : Bool} {cs : List Value} {x : DataW H × List MemPlace} (h : DataW.trod enc Tryz.prog W 0 (fun _ => true) held fuel 26 cs = some x) :
  ∃ (F : List (Nat × List Value)) (us : List Int) (y : Value) (c : Bool) (b d s e kk0 kk1 kk2 kk3 kk4 kk5 kk6 kk7 mm0 mm1 mm2 mm3 mm4 mm5 mm6 mm7 : Int), Bk.KeyB ⟨b, d, s, e, kk0, kk1, kk2, kk3, kk4, kk5, kk6, kk7, mm0, mm1, mm2, mm3, mm4, mm5, mm6, mm7⟩ ∧ AtRest W F ∧ DT.R F (.s (iD us) us.length 1) y ∧ cs = [.int .i64 b, .int .i64 d, .int .i64 s, .int .i64 e, .int .u8 kk0, .int .u8 kk1, .int .u8 kk2, .int .u8 kk3, .int .u8 kk4, .int .u8 kk5, .int .u8 kk6, .int .u8 kk7, .int .u8 mm0, .int .u8 mm1, .int .u8 mm2, .int .u8 mm3, .int .u8 mm4, .int .u8 mm5, .int .u8 mm6, .int .u8 mm7, .bool c, y] := by
 obtain ⟨hlen, m, fld⟩ := trod_fields v26 [(3, 0), (3, 1), (3, 2), (3, 3), (23, 4), (23, 12), (4, 20), (24, 21)] (by kernel_rfl) h
 rw [show Tryz.prog.cellsOf 26 = 22 by kernel_rfl] at hlen
 obtain ⟨c0, c1, c2, c3, c4, c5, c6, c7, c8, c9, c10, c11, c12, c13, c14, c15, c16, c17, c18, c19, c20, c21, rfl⟩ := len22 hlen
 have one : ∀ (i o : Nat) (z : Value), [(3, 0), (3, 1), (3, 2), (3, 3), (23, 4), (23, 12), (4, 20), (24, 21)][i]? = some ((3 : Nat), o) → ([c0, c1, c2, c3, c4, c5, c6, c7, c8, c9, c10, c11, c12, c13, c14, c15, c16, c17, c18, c19, c20, c21].drop o).take 1 = [z] → ∃ r : Int, z = .int .i64 r := by
  intro i o z hi hz
  obtain ⟨y, hy⟩ := fld i _ hi
  have hy : DataW.trod enc Tryz.prog W 0 (fun _ => true) held m 3 (([c0, c1, c2, c3, c4, c5, c6, c7, c8, c9, c10, c11, c12, c13, c14, c15, c16, c17, c18, c19, c20, c21].drop o).take (Tryz.prog.cellsOf 3)) = some y := hy
  rw [c3_, hz] at hy
  obtain ⟨r, hr, _⟩ := DataW.trod_int u3_ hy
  exact ⟨r, by simpa using hr⟩
 obtain ⟨b, rfl⟩ := one 0 0 c0 rfl rfl
 obtain ⟨d, rfl⟩ := one 1 1 c1 rfl rfl
 obtain ⟨s, rfl⟩ := one 2 2 c2 rfl rfl
 obtain ⟨e, rfl⟩ := one 3 3 c3 rfl rfl
 obtain ⟨y4, h4⟩ := fld 4 _ rfl
 obtain ⟨y5, h5⟩ := fld 5 _ rfl
 obtain ⟨y6, h6⟩ := fld 6 _ rfl
 obtain ⟨y7, h7⟩ := fld 7 _ rfl
 obtain ⟨lk, hk, ek, bk⟩ := read_bytes (n := 8) u23_ u5_ (by kernel_rfl) (by kernel_rfl) h4
 obtain ⟨lm, hm, em, bm⟩ := read_bytes (n := 8) u23_ u5_ (by kernel_rfl) (by kernel_rfl) h5
 obtain ⟨kk0, kk1, kk2, kk3, kk4, kk5, kk6, kk7, rfl⟩ := len8i hk
 obtain ⟨mm0, mm1, mm2, mm3, mm4, mm5, mm6, mm7, rfl⟩ := len8i hm
 have ek : [c4, c5, c6, c7, c8, c9, c10, c11] = [Value.int .u8 kk0, Value.int .u8 kk1, Value.int .u8 kk2, Value.int .u8 kk3, Value.int .u8 kk4, Value.int .u8 kk5, Value.int .u8 kk6, Value.int .u8 kk7] := ek
 have em : [c12, c13, c14, c15, c16, c17, c18, c19] = [Value.int .u8 mm0, Value.int .u8 mm1, Value.int .u8 mm2, Value.int .u8 mm3, Value.int .u8 mm4, Value.int .u8 mm5, Value.int .u8 mm6, Value.int .u8 mm7] := em
 simp only [List.cons.injEq, and_true] at ek em
 obtain ⟨rfl, rfl, rfl, rfl, rfl, rfl, rfl, rfl⟩ := ek
 obtain ⟨rfl, rfl, rfl, rfl, rfl, rfl, rfl, rfl⟩ := em
 obtain ⟨c, hc, _⟩ := DataW.trod_bool v4 h6
 have hc : [c20] = [Value.bool c] := hc
 obtain rfl := (List.cons.inj hc).1
 have h7 : DataW.trod enc Tryz.prog W 0 (fun _ => true) held m 24 [c21] = some y7 := h7
 have hsl : ∃ a len cap, [c21] = [Value.slice a len cap] := by
  rcases DataW.trod_slice v24 h7 with ⟨e, _⟩ | ⟨a, len, cap, _, _, _, _, e, _⟩
  ·exact ⟨_, _, _, e⟩
  ·exact ⟨_, _, _, e⟩
 obtain ⟨F, ds, g1, g2, _, us, _, _, rfl⟩ := rd_ints v24 u3_ c3_ hsl h7
 simp only [DT.Rl] at g2
 obtain ⟨y, rest, e', hy, _⟩ := g2
 have ey : c21 = y := (List.cons.inj e').1
 exact ⟨F, us, c21, c, b, d, s, e, kk0, kk1, kk2, kk3, kk4, kk5, kk6, kk7, mm0, mm1, mm2, mm3, mm4, mm5, mm6, mm7, ⟨bk kk0 (by simp), bk kk1 (by simp), bk kk2 (by simp), bk kk3 (by simp), bk kk4 (by simp), bk kk5 (by simp), bk kk6 (by simp), bk kk7 (by simp), bm mm0 (by simp), bm mm1 (by simp), bm mm2 (by simp), bm mm3 (by simp), bm mm4 (by simp), bm mm5 (by simp), bm mm6 (by simp), bm mm7 (by simp)⟩, g1, by rw [ey]; exact hy, rfl⟩
theorem u32_ : Tryz.prog.underlying 32 = some (.int .u16) := by kernel_rfl
theorem arr_of {W : World} {b t n e : Nat} {v : Value} (hu : Tryz.prog.underlying t = some (.array n e)) (h : Value.okWide Tryz.prog W .any b t v) : ∃ cs, v = .agg cs := by
 cases v with
 | agg cs => exact ⟨cs, rfl⟩
 | _ => simp [Value.okWide, hu] at h
theorem phaCore : PhaCore := by
 intro H enc W v0 v1 v2 d0 d1 d2 p0 p1 p2 hL h0 h1 h2 ⟨base, w0, w1, w2⟩
 obtain ⟨hsz, hG⟩ := met_tables hL
 obtain ⟨f0, h0⟩ := h0
 obtain ⟨f1, h1⟩ := h1
 obtain ⟨f2, h2⟩ := h2
 obtain ⟨q0, rfl⟩ := agg_of v26 w0
 obtain ⟨q1, rfl⟩ := arr_of u23_ w1
 obtain ⟨lk, hk, ek, bk⟩ := read_bytes (n := 8) u23_ u5_ (by kernel_rfl) (by kernel_rfl) h1
 obtain ⟨s0, s1, s2, s3, s4, s5, s6, s7, rfl⟩ := len8i hk
 have hq : q1 = #[.int .u8 s0, .int .u8 s1, .int .u8 s2, .int .u8 s3, .int .u8 s4, .int .u8 s5, .int .u8 s6, .int .u8 s7] := by rw [← Array.toList_inj]; exact ek
 subst hq
 obtain ⟨a, hcell, _, hw⟩ := DataW.trod_int u32_ h2
 have hw' : decide (IntKind.u16.min ≤ a) && decide (a ≤ IntKind.u16.max) := hw
 rw [Bool.and_eq_true, decide_eq_true_eq, decide_eq_true_eq] at hw'
 have e3 : IntKind.u16.min = 0 := by decide
 have e4 : IntKind.u16.max = 65535 := by decide
 obtain rfl : v2 = .int .u16 a := by
  simp only [Value.okWide, u32_] at w2
  cases v2 <;> simp_all [Value.cells, Cell.okWide, Cell.ok]
 obtain ⟨F, us, y, c, b, d, s, e, kk0, kk1, kk2, kk3, kk4, kk5, kk6, kk7, mm0, mm1, mm2, mm3, mm4, mm5, mm6, mm7, kb, a0, hR, e0⟩ := rd_accB h0
 have hk := phasesRun envOk (kAw envOk) ⟨b, d, s, e, kk0, kk1, kk2, kk3, kk4, kk5, kk6, kk7, mm0, mm1, mm2, mm3, mm4, mm5, mm6, mm7⟩ us c s0 s1 s2 s3 s4 s5 s6 s7 a kb ⟨bk s0 (by simp), bk s1 (by simp), bk s2 (by simp), bk s3 (by simp), bk s4 (by simp), bk s5 (by simp), bk s6 (by simp), bk s7 (by simp)⟩ (by omega)
 have hargs : All2 (VR (m0 F)) [Bk.accA ⟨b, d, s, e, kk0, kk1, kk2, kk3, kk4, kk5, kk6, kk7, mm0, mm1, mm2, mm3, mm4, mm5, mm6, mm7⟩ us us.length c, Bk.keyA s0 s1 s2 s3 s4 s5 s6 s7, .e (.one (.v (.int .u16 a)))] (#[.agg q0, .agg #[.int .u8 s0, .int .u8 s1, .int .u8 s2, .int .u8 s3, .int .u8 s4, .int .u8 s5, .int .u8 s6, .int .u8 s7], .int .u16 a] : Array Value).toList := by
  refine ⟨⟨q0, rfl, ?_⟩, ⟨_, rfl, rfl, rfl, rfl, rfl, rfl, rfl, rfl, rfl, trivial⟩, rfl, trivial⟩
  have e3 : q0.toList = [.int .i64 b, .int .i64 d, .int .i64 s, .int .i64 e, .int .u8 kk0, .int .u8 kk1, .int .u8 kk2, .int .u8 kk3, .int .u8 kk4, .int .u8 kk5, .int .u8 kk6, .int .u8 kk7, .int .u8 mm0, .int .u8 mm1, .int .u8 mm2, .int .u8 mm3, .int .u8 mm4, .int .u8 mm5, .int .u8 mm6, .int .u8 mm7, .bool c, y] := e0
  rw [e3]
  exact ⟨rfl, rfl, rfl, rfl, rfl, rfl, rfl, rfl, rfl, rfl, rfl, rfl, rfl, rfl, rfl, rfl, rfl, rfl, rfl, rfl, rfl, hR, trivial⟩
 exact (hk _ _ _ _ hargs (hr0 W a0) hG).mono fun e W' ⟨y, he, m', hp⟩ => ⟨by
  have hy : y = .bool true := hp.val
  rw [he, hy], hp.below⟩
theorem creditPhases : Rows.CreditPhasesCardSaid := pha_card phaCore
end Go.Proofs.YtneaafigbnjceaaGreatDoor
end
