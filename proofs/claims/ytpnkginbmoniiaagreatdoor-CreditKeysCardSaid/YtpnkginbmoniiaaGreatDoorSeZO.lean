/-
  Part of the proof: SeKeyI.
-/
import Derived.Test.YtpnkginbmoniiaaGreatDoorSeKeyL

/-! SeKeyI -/
section
open Go Go.Ev Go.RowKit Go.ChangeShapes Go.WideShapes
namespace Go.Proofs.YtpnkginbmoniiaaGreatDoor
set_option maxRecDepth 100000
set_option maxHeartbeats 20000000
theorem v66 : Tryz.prog.underlying 66 = some (.struct (Tryz.prog.fieldsOf 66)) := by kernel_rfl
theorem len24 {l : List Value} (h : l.length = 24) : ∃ c0 c1 c2 c3 c4 c5 c6 c7 c8 c9 c10 c11 c12 c13 c14 c15 c16 c17 c18 c19 c20 c21 c22 c23, l = [c0, c1, c2, c3, c4, c5, c6, c7, c8, c9, c10, c11, c12, c13, c14, c15, c16, c17, c18, c19, c20, c21, c22, c23] := by
 match l, h with
 | [c0, c1, c2, c3, c4, c5, c6, c7, c8, c9, c10, c11, c12, c13, c14, c15, c16, c17, c18, c19, c20, c21, c22, c23], _ => exact ⟨c0, c1, c2, c3, c4, c5, c6, c7, c8, c9, c10, c11, c12, c13, c14, c15, c16, c17, c18, c19, c20, c21, c22, c23, rfl⟩
theorem len10 {l : List Value} (h : l.length = 10) : ∃ c0 c1 c2 c3 c4 c5 c6 c7 c8 c9, l = [c0, c1, c2, c3, c4, c5, c6, c7, c8, c9] := by
 match l, h with
 | [c0, c1, c2, c3, c4, c5, c6, c7, c8, c9], _ => exact ⟨c0, c1, c2, c3, c4, c5, c6, c7, c8, c9, rfl⟩
theorem len16i {l : List Int} (h : l.length = 16) : ∃ z0 z1 z2 z3 z4 z5 z6 z7 z8 z9 z10 z11 z12 z13 z14 z15, l = [z0, z1, z2, z3, z4, z5, z6, z7, z8, z9, z10, z11, z12, z13, z14, z15] := by
 match l, h with
 | [z0, z1, z2, z3, z4, z5, z6, z7, z8, z9, z10, z11, z12, z13, z14, z15], _ => exact ⟨z0, z1, z2, z3, z4, z5, z6, z7, z8, z9, z10, z11, z12, z13, z14, z15, rfl⟩
theorem rd_paper {H : Type} {enc : TypeId × Value → H} {W : World} {fuel : Nat} {held : Bool} {cs : List Value} {x : DataW H × List MemPlace} (h : DataW.trod enc Tryz.prog W 0 (fun _ => true) held fuel 66 cs = some x) :
  ∃ (s0 s1 s2 s3 s4 s5 s6 s7 z0 z1 z2 z3 z4 z5 z6 z7 z8 z9 z10 z11 z12 z13 z14 z15 : Int), (0 ≤ s0 ∧ s0 < 256) ∧ (0 ≤ s1 ∧ s1 < 256) ∧ (0 ≤ s2 ∧ s2 < 256) ∧ (0 ≤ s3 ∧ s3 < 256) ∧ (0 ≤ s4 ∧ s4 < 256) ∧ (0 ≤ s5 ∧ s5 < 256) ∧ (0 ≤ s6 ∧ s6 < 256) ∧ (0 ≤ s7 ∧ s7 < 256) ∧ (0 ≤ z0 ∧ z0 < 256) ∧ (0 ≤ z1 ∧ z1 < 256) ∧ (0 ≤ z2 ∧ z2 < 256) ∧ (0 ≤ z3 ∧ z3 < 256) ∧ (0 ≤ z4 ∧ z4 < 256) ∧ (0 ≤ z5 ∧ z5 < 256) ∧ (0 ≤ z6 ∧ z6 < 256) ∧ (0 ≤ z7 ∧ z7 < 256) ∧ cs = [.int .u8 s0, .int .u8 s1, .int .u8 s2, .int .u8 s3, .int .u8 s4, .int .u8 s5, .int .u8 s6, .int .u8 s7, .int .u8 z0, .int .u8 z1, .int .u8 z2, .int .u8 z3, .int .u8 z4, .int .u8 z5, .int .u8 z6, .int .u8 z7, .int .u8 z8, .int .u8 z9, .int .u8 z10, .int .u8 z11, .int .u8 z12, .int .u8 z13, .int .u8 z14, .int .u8 z15] := by
 obtain ⟨hlen, m, fld⟩ := trod_fields v66 [(23, 0), (64, 8)] (by kernel_rfl) h
 rw [show Tryz.prog.cellsOf 66 = 24 by kernel_rfl] at hlen
 obtain ⟨c0, c1, c2, c3, c4, c5, c6, c7, c8, c9, c10, c11, c12, c13, c14, c15, c16, c17, c18, c19, c20, c21, c22, c23, rfl⟩ := len24 hlen
 obtain ⟨y0, h0⟩ := fld 0 _ rfl
 obtain ⟨y1, h1⟩ := fld 1 _ rfl
 obtain ⟨lk, hk, ek, bk⟩ := read_bytes (n := 8) u23_ u5_ (by kernel_rfl) (by kernel_rfl) h0
 obtain ⟨lz, hz, ez, bz⟩ := read_bytes (n := 16) u64_ u5_ (by kernel_rfl) (by kernel_rfl) h1
 obtain ⟨s0, s1, s2, s3, s4, s5, s6, s7, rfl⟩ := len8i hk
 obtain ⟨z0, z1, z2, z3, z4, z5, z6, z7, z8, z9, z10, z11, z12, z13, z14, z15, rfl⟩ := len16i hz
 have ek : [c0, c1, c2, c3, c4, c5, c6, c7] = [Value.int .u8 s0, Value.int .u8 s1, Value.int .u8 s2, Value.int .u8 s3, Value.int .u8 s4, Value.int .u8 s5, Value.int .u8 s6, Value.int .u8 s7] := ek
 have ez : [c8, c9, c10, c11, c12, c13, c14, c15, c16, c17, c18, c19, c20, c21, c22, c23] = [Value.int .u8 z0, Value.int .u8 z1, Value.int .u8 z2, Value.int .u8 z3, Value.int .u8 z4, Value.int .u8 z5, Value.int .u8 z6, Value.int .u8 z7, Value.int .u8 z8, Value.int .u8 z9, Value.int .u8 z10, Value.int .u8 z11, Value.int .u8 z12, Value.int .u8 z13, Value.int .u8 z14, Value.int .u8 z15] := ez
 simp only [List.cons.injEq, and_true] at ek ez
 obtain ⟨rfl, rfl, rfl, rfl, rfl, rfl, rfl, rfl⟩ := ek
 obtain ⟨rfl, rfl, rfl, rfl, rfl, rfl, rfl, rfl, rfl, rfl, rfl, rfl, rfl, rfl, rfl, rfl⟩ := ez
 exact ⟨s0, s1, s2, s3, s4, s5, s6, s7, z0, z1, z2, z3, z4, z5, z6, z7, z8, z9, z10, z11, z12, z13, z14, z15, bk s0 (by simp), bk s1 (by simp), bk s2 (by simp), bk s3 (by simp), bk s4 (by simp), bk s5 (by simp), bk s6 (by simp), bk s7 (by simp), bz z0 (by simp), bz z1 (by simp), bz z2 (by simp), bz z3 (by simp), bz z4 (by simp), bz z5 (by simp), bz z6 (by simp), bz z7 (by simp), rfl⟩
theorem rd_token {H : Type} {enc : TypeId × Value → H} {W : World} {fuel : Nat} {held : Bool} {cs : List Value} {x : DataW H × List MemPlace} (h : DataW.trod enc Tryz.prog W 0 (fun _ => true) held fuel 48 cs = some x) :
  ∃ (t m v0 v1 v2 v3 v4 v5 v6 v7 : Int), cs = [.int .i64 t, .int .i64 m, .int .u8 v0, .int .u8 v1, .int .u8 v2, .int .u8 v3, .int .u8 v4, .int .u8 v5, .int .u8 v6, .int .u8 v7] := by
 obtain ⟨hlen, m, fld⟩ := trod_fields u48_ [(3, 0), (3, 1), (23, 2)] (by kernel_rfl) h
 rw [show Tryz.prog.cellsOf 48 = 10 by kernel_rfl] at hlen
 obtain ⟨c0, c1, c2, c3, c4, c5, c6, c7, c8, c9, rfl⟩ := len10 hlen
 have one : ∀ (i o : Nat) (z : Value), [(3, 0), (3, 1), (23, 2)][i]? = some ((3 : Nat), o) → ([c0, c1, c2, c3, c4, c5, c6, c7, c8, c9].drop o).take 1 = [z] → ∃ r : Int, z = .int .i64 r := by
  intro i o z hi hz
  obtain ⟨y, hy⟩ := fld i _ hi
  have hy : DataW.trod enc Tryz.prog W 0 (fun _ => true) held m 3 (([c0, c1, c2, c3, c4, c5, c6, c7, c8, c9].drop o).take (Tryz.prog.cellsOf 3)) = some y := hy
  rw [c3_, hz] at hy
  obtain ⟨r, hr, _⟩ := DataW.trod_int u3_ hy
  exact ⟨r, by simpa using hr⟩
 obtain ⟨t, rfl⟩ := one 0 0 c0 rfl rfl
 obtain ⟨q, rfl⟩ := one 1 1 c1 rfl rfl
 obtain ⟨y2, h2⟩ := fld 2 _ rfl
 obtain ⟨lk, hk, ek, _⟩ := read_bytes (n := 8) u23_ u5_ (by kernel_rfl) (by kernel_rfl) h2
 obtain ⟨kk0, kk1, kk2, kk3, kk4, kk5, kk6, kk7, rfl⟩ := len8i hk
 have ek : [c2, c3, c4, c5, c6, c7, c8, c9] = [Value.int .u8 kk0, Value.int .u8 kk1, Value.int .u8 kk2, Value.int .u8 kk3, Value.int .u8 kk4, Value.int .u8 kk5, Value.int .u8 kk6, Value.int .u8 kk7] := ek
 simp only [List.cons.injEq, and_true] at ek
 obtain ⟨rfl, rfl, rfl, rfl, rfl, rfl, rfl, rfl⟩ := ek
 exact ⟨t, q, kk0, kk1, kk2, kk3, kk4, kk5, kk6, kk7, rfl⟩
theorem keyCore : KeyCore := by
 intro H enc W v0 v1 v2 d0 d1 d2 p0 p1 p2 hL h0 h1 h2 ⟨base, w0, w1, w2⟩
 obtain ⟨hsz, hG⟩ := met_tables hL
 obtain ⟨f0, h0⟩ := h0
 obtain ⟨f1, h1⟩ := h1
 obtain ⟨f2, h2⟩ := h2
 obtain ⟨q0, rfl⟩ := agg_of v26 w0
 obtain ⟨q1, rfl⟩ := agg_of v66 w1
 obtain ⟨q2, rfl⟩ := agg_of u48_ w2
 obtain ⟨F, us, y, c, b, d, s, e, kk0, kk1, kk2, kk3, kk4, kk5, kk6, kk7, mm0, mm1, mm2, mm3, mm4, mm5, mm6, mm7, hF, hR, e0⟩ := rd_account h0
 obtain ⟨s0, s1, s2, s3, s4, s5, s6, s7, z0, z1, z2, z3, z4, z5, z6, z7, z8, z9, z10, z11, z12, z13, z14, z15, g0, g1, g2, g3, g4, g5, g6, g7, x0, x1, x2, x3, x4, x5, x6, x7, e1⟩ := rd_paper h1
 obtain ⟨t, m, v0, v1, v2, v3, v4, v5, v6, v7, e2⟩ := rd_token h2
 have hk := keyRun envOk (kAw envOk) ⟨b, d, s, e, kk0, kk1, kk2, kk3, kk4, kk5, kk6, kk7, mm0, mm1, mm2, mm3, mm4, mm5, mm6, mm7⟩ us us.length c rfl s0 s1 s2 s3 s4 s5 s6 s7 g0 g1 g2 g3 g4 g5 g6 g7 z0 z1 z2 z3 z4 z5 z6 z7 z8 z9 z10 z11 z12 z13 z14 z15 x0 x1 x2 x3 x4 x5 x6 x7 t m v0 v1 v2 v3 v4 v5 v6 v7
 have hargs : All2 (VR (m0 F)) [accA ⟨b, d, s, e, kk0, kk1, kk2, kk3, kk4, kk5, kk6, kk7, mm0, mm1, mm2, mm3, mm4, mm5, mm6, mm7⟩ us us.length c, .e (.agg [.v (.int .u8 s0), .v (.int .u8 s1), .v (.int .u8 s2), .v (.int .u8 s3), .v (.int .u8 s4), .v (.int .u8 s5), .v (.int .u8 s6), .v (.int .u8 s7), .v (.int .u8 z0), .v (.int .u8 z1), .v (.int .u8 z2), .v (.int .u8 z3), .v (.int .u8 z4), .v (.int .u8 z5), .v (.int .u8 z6), .v (.int .u8 z7), .v (.int .u8 z8), .v (.int .u8 z9), .v (.int .u8 z10), .v (.int .u8 z11), .v (.int .u8 z12), .v (.int .u8 z13), .v (.int .u8 z14), .v (.int .u8 z15)]), tokA t m v0 v1 v2 v3 v4 v5 v6 v7] (#[.agg q0, .agg q1, .agg q2] : Array Value).toList := by
  refine ⟨⟨q0, rfl, ?_⟩, ⟨q1, rfl, ?_⟩, ⟨q2, rfl, ?_⟩, trivial⟩
  ·have e3 : q0.toList = [.int .i64 b, .int .i64 d, .int .i64 s, .int .i64 e, .int .u8 kk0, .int .u8 kk1, .int .u8 kk2, .int .u8 kk3, .int .u8 kk4, .int .u8 kk5, .int .u8 kk6, .int .u8 kk7, .int .u8 mm0, .int .u8 mm1, .int .u8 mm2, .int .u8 mm3, .int .u8 mm4, .int .u8 mm5, .int .u8 mm6, .int .u8 mm7, .bool c, y] := e0
   rw [e3]
   exact ⟨rfl, rfl, rfl, rfl, rfl, rfl, rfl, rfl, rfl, rfl, rfl, rfl, rfl, rfl, rfl, rfl, rfl, rfl, rfl, rfl, rfl, hR, trivial⟩
  ·have e3 : q1.toList = [.int .u8 s0, .int .u8 s1, .int .u8 s2, .int .u8 s3, .int .u8 s4, .int .u8 s5, .int .u8 s6, .int .u8 s7, .int .u8 z0, .int .u8 z1, .int .u8 z2, .int .u8 z3, .int .u8 z4, .int .u8 z5, .int .u8 z6, .int .u8 z7, .int .u8 z8, .int .u8 z9, .int .u8 z10, .int .u8 z11, .int .u8 z12, .int .u8 z13, .int .u8 z14, .int .u8 z15] := e1
   rw [e3]
   exact ⟨rfl, rfl, rfl, rfl, rfl, rfl, rfl, rfl, rfl, rfl, rfl, rfl, rfl, rfl, rfl, rfl, rfl, rfl, rfl, rfl, rfl, rfl, rfl, rfl, trivial⟩
  ·have e3 : q2.toList = [.int .i64 t, .int .i64 m, .int .u8 v0, .int .u8 v1, .int .u8 v2, .int .u8 v3, .int .u8 v4, .int .u8 v5, .int .u8 v6, .int .u8 v7] := e2
   rw [e3]
   exact ⟨rfl, rfl, rfl, rfl, rfl, rfl, rfl, rfl, rfl, rfl, trivial⟩
 exact (hk _ _ _ _ hargs (hr0 W hF) hG).mono fun e W' ⟨y, he, m', hp⟩ => ⟨by
  have hy : y = .bool true := hp.val
  rw [he, hy], hp.below⟩
theorem creditKeys : Rows.CreditKeysCardSaid := key_card keyCore
end Go.Proofs.YtpnkginbmoniiaaGreatDoor
end
