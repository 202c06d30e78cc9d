/-
  Part of the proof: SeTokI.
-/
import Derived.Test.YtpnkginbmoniiaaGreatDoorSeTokL

/-! SeTokI -/
section
open Go Go.Ev Go.RowKit Go.ChangeShapes Go.WideShapes
namespace Go.Proofs.YtpnkginbmoniiaaGreatDoor
set_option maxRecDepth 100000
set_option maxHeartbeats 20000000
theorem len10 {l : List Value} (h : l.length = 10) : ∃ c0 c1 c2 c3 c4 c5 c6 c7 c8 c9, l = [c0, c1, c2, c3, c4, c5, c6, c7, c8, c9] := by
 match l, h with
 | [c0, c1, c2, c3, c4, c5, c6, c7, c8, c9], _ => exact ⟨c0, c1, c2, c3, c4, c5, c6, c7, c8, c9, rfl⟩
theorem rd_accountK {H : Type} {enc : TypeId × Value → H} {W : World} {fuel : Nat} {held : Bool} {cs : List Value} {x : DataW H × List MemPlace} (h : DataW.trod enc Tryz.prog W 0 (fun _ => true) held fuel 26 cs = some x) :
  ∃ (F : List (Nat × List Value)) (us : List Int) (y : Value) (c : Bool) (b d s e kk0 kk1 kk2 kk3 kk4 kk5 kk6 kk7 mm0 mm1 mm2 mm3 mm4 mm5 mm6 mm7 : Int), KeyB ⟨b, d, s, e, kk0, kk1, kk2, kk3, kk4, kk5, kk6, kk7, mm0, mm1, mm2, mm3, mm4, mm5, mm6, mm7⟩ ∧ AtRest W F ∧ DT.R F (.s (iD us) us.length 1) y ∧ cs = [.int .i64 b, .int .i64 d, .int .i64 s, .int .i64 e, .int .u8 kk0, .int .u8 kk1, .int .u8 kk2, .int .u8 kk3, .int .u8 kk4, .int .u8 kk5, .int .u8 kk6, .int .u8 kk7, .int .u8 mm0, .int .u8 mm1, .int .u8 mm2, .int .u8 mm3, .int .u8 mm4, .int .u8 mm5, .int .u8 mm6, .int .u8 mm7, .bool c, y] := by
 obtain ⟨hlen, m, fld⟩ := trod_fields v26 [(3, 0), (3, 1), (3, 2), (3, 3), (23, 4), (23, 12), (4, 20), (24, 21)] (by kernel_rfl) h
 rw [show Tryz.prog.cellsOf 26 = 22 by kernel_rfl] at hlen
 obtain ⟨c0, c1, c2, c3, c4, c5, c6, c7, c8, c9, c10, c11, c12, c13, c14, c15, c16, c17, c18, c19, c20, c21, rfl⟩ := len22 hlen
 have one : ∀ (i o : Nat) (z : Value), [(3, 0), (3, 1), (3, 2), (3, 3), (23, 4), (23, 12), (4, 20), (24, 21)][i]? = some ((3 : Nat), o) → ([c0, c1, c2, c3, c4, c5, c6, c7, c8, c9, c10, c11, c12, c13, c14, c15, c16, c17, c18, c19, c20, c21].drop o).take 1 = [z] → ∃ r : Int, z = .int .i64 r := by
  intro i o z hi hz
  obtain ⟨y, hy⟩ := fld i _ hi
  have hy : DataW.trod enc Tryz.prog W 0 (fun _ => true) held m 3 (([c0, c1, c2, c3, c4, c5, c6, c7, c8, c9, c10, c11, c12, c13, c14, c15, c16, c17, c18, c19, c20, c21].drop o).take (Tryz.prog.cellsOf 3)) = some y := hy
  rw [c3_, hz] at hy
  obtain ⟨r, hr, _⟩ := DataW.trod_int u3_ hy
  exact ⟨r, by simpa using hr⟩
 obtain ⟨b, rfl⟩ := one 0 0 c0 rfl rfl
 obtain ⟨d, rfl⟩ := one 1 1 c1 rfl rfl
 obtain ⟨s, rfl⟩ := one 2 2 c2 rfl rfl
 obtain ⟨e, rfl⟩ := one 3 3 c3 rfl rfl
 obtain ⟨y4, h4⟩ := fld 4 _ rfl
 obtain ⟨y5, h5⟩ := fld 5 _ rfl
 obtain ⟨y6, h6⟩ := fld 6 _ rfl
 obtain ⟨y7, h7⟩ := fld 7 _ rfl
 obtain ⟨lk, hk, ek, bk⟩ := read_bytes (n := 8) u23_ u5_ (by kernel_rfl) (by kernel_rfl) h4
 obtain ⟨lm, hm, em, bm⟩ := read_bytes (n := 8) u23_ u5_ (by kernel_rfl) (by kernel_rfl) h5
 obtain ⟨kk0, kk1, kk2, kk3, kk4, kk5, kk6, kk7, rfl⟩ := len8i hk
 obtain ⟨mm0, mm1, mm2, mm3, mm4, mm5, mm6, mm7, rfl⟩ := len8i hm
 have ek : [c4, c5, c6, c7, c8, c9, c10, c11] = [Value.int .u8 kk0, Value.int .u8 kk1, Value.int .u8 kk2, Value.int .u8 kk3, Value.int .u8 kk4, Value.int .u8 kk5, Value.int .u8 kk6, Value.int .u8 kk7] := ek
 have em : [c12, c13, c14, c15, c16, c17, c18, c19] = [Value.int .u8 mm0, Value.int .u8 mm1, Value.int .u8 mm2, Value.int .u8 mm3, Value.int .u8 mm4, Value.int .u8 mm5, Value.int .u8 mm6, Value.int .u8 mm7] := em
 simp only [List.cons.injEq, and_true] at ek em
 obtain ⟨rfl, rfl, rfl, rfl, rfl, rfl, rfl, rfl⟩ := ek
 obtain ⟨rfl, rfl, rfl, rfl, rfl, rfl, rfl, rfl⟩ := em
 obtain ⟨c, hc, _⟩ := DataW.trod_bool v4 h6
 have hc : [c20] = [Value.bool c] := hc
 obtain rfl := (List.cons.inj hc).1
 have h7 : DataW.trod enc Tryz.prog W 0 (fun _ => true) held m 24 [c21] = some y7 := h7
 have hsl : ∃ a len cap, [c21] = [Value.slice a len cap] := by
  rcases DataW.trod_slice v24 h7 with ⟨e, _⟩ | ⟨a, len, cap, _, _, _, _, e, _⟩
  ·exact ⟨_, _, _, e⟩
  ·exact ⟨_, _, _, e⟩
 obtain ⟨F, ds, g1, g2, _, us, _, _, rfl⟩ := rd_ints v24 u3_ c3_ hsl h7
 simp only [DT.Rl] at g2
 obtain ⟨y, rest, e', hy, _⟩ := g2
 have ey : c21 = y := (List.cons.inj e').1
 exact ⟨F, us, c21, c, b, d, s, e, kk0, kk1, kk2, kk3, kk4, kk5, kk6, kk7, mm0, mm1, mm2, mm3, mm4, mm5, mm6, mm7, ⟨bk kk0 (by simp), bk kk1 (by simp), bk kk2 (by simp), bk kk3 (by simp), bk kk4 (by simp), bk kk5 (by simp), bk kk6 (by simp), bk kk7 (by simp), bm mm0 (by simp), bm mm1 (by simp), bm mm2 (by simp), bm mm3 (by simp), bm mm4 (by simp), bm mm5 (by simp), bm mm6 (by simp), bm mm7 (by simp)⟩, g1, by rw [ey]; exact hy, rfl⟩
theorem rd_token {H : Type} {enc : TypeId × Value → H} {W : World} {fuel : Nat} {held : Bool} {cs : List Value} {x : DataW H × List MemPlace} (h : DataW.trod enc Tryz.prog W 0 (fun _ => true) held fuel 48 cs = some x) :
  ∃ (t m v0 v1 v2 v3 v4 v5 v6 v7 : Int), cs = [.int .i64 t, .int .i64 m, .int .u8 v0, .int .u8 v1, .int .u8 v2, .int .u8 v3, .int .u8 v4, .int .u8 v5, .int .u8 v6, .int .u8 v7] := by
 obtain ⟨hlen, m, fld⟩ := trod_fields u48_ [(3, 0), (3, 1), (23, 2)] (by kernel_rfl) h
 rw [show Tryz.prog.cellsOf 48 = 10 by kernel_rfl] at hlen
 obtain ⟨c0, c1, c2, c3, c4, c5, c6, c7, c8, c9, rfl⟩ := len10 hlen
 have one : ∀ (i o : Nat) (z : Value), [(3, 0), (3, 1), (23, 2)][i]? = some ((3 : Nat), o) → ([c0, c1, c2, c3, c4, c5, c6, c7, c8, c9].drop o).take 1 = [z] → ∃ r : Int, z = .int .i64 r := by
  intro i o z hi hz
  obtain ⟨y, hy⟩ := fld i _ hi
  have hy : DataW.trod enc Tryz.prog W 0 (fun _ => true) held m 3 (([c0, c1, c2, c3, c4, c5, c6, c7, c8, c9].drop o).take (Tryz.prog.cellsOf 3)) = some y := hy
  rw [c3_, hz] at hy
  obtain ⟨r, hr, _⟩ := DataW.trod_int u3_ hy
  exact ⟨r, by simpa using hr⟩
 obtain ⟨t, rfl⟩ := one 0 0 c0 rfl rfl
 obtain ⟨q, rfl⟩ := one 1 1 c1 rfl rfl
 obtain ⟨y2, h2⟩ := fld 2 _ rfl
 obtain ⟨lk, hk, ek, _⟩ := read_bytes (n := 8) u23_ u5_ (by kernel_rfl) (by kernel_rfl) h2
 obtain ⟨kk0, kk1, kk2, kk3, kk4, kk5, kk6, kk7, rfl⟩ := len8i hk
 have ek : [c2, c3, c4, c5, c6, c7, c8, c9] = [Value.int .u8 kk0, Value.int .u8 kk1, Value.int .u8 kk2, Value.int .u8 kk3, Value.int .u8 kk4, Value.int .u8 kk5, Value.int .u8 kk6, Value.int .u8 kk7] := ek
 simp only [List.cons.injEq, and_true] at ek
 obtain ⟨rfl, rfl, rfl, rfl, rfl, rfl, rfl, rfl⟩ := ek
 exact ⟨t, q, kk0, kk1, kk2, kk3, kk4, kk5, kk6, kk7, rfl⟩
theorem Rl_v {F : List (Nat × List Value)} {x : Value} {l : List DT} {r : List Value} (h : DT.Rl F l r) : DT.Rl F (.v x :: l) (x :: r) := by
 simp only [DT.Rl]
 exact ⟨x, r, rfl, by simp [DT.R], h⟩
theorem v49 : Tryz.prog.underlying 49 = some (.slice 48) := by kernel_rfl
theorem rd_tok {H : Type} {enc : TypeId × Value → H} {W : World} {fuel : Nat} {held : Bool} {cs : List Value} {x : DataW H × List MemPlace} (h : DataW.trod enc Tryz.prog W 0 (fun _ => true) held fuel 48 cs = some x) : Rd W cs fun ds => ∃ x : TokP, ds = x.d := by
 obtain ⟨t, m, v0, v1, v2, v3, v4, v5, v6, v7, rfl⟩ := rd_token h
 exact ⟨[], TokP.d ⟨t, m, v0, v1, v2, v3, v4, v5, v6, v7⟩, AtRest.nil W, Rl_v (Rl_v (Rl_v (Rl_v (Rl_v (Rl_v (Rl_v (Rl_v (Rl_v (Rl_v (by simp [DT.Rl])))))))))), rfl, _, rfl⟩
theorem toks_flatten : ∀ {rows : List (List DT)}, (∀ r ∈ rows, r.length = 10 ∧ ∃ x : TokP, r = x.d) → ∃ l : List TokP, l.length = rows.length ∧ rows.flatten = tkD l
 | [], _ => ⟨[], rfl, rfl⟩
 | r :: rows, h => by
  obtain ⟨l, h1, h2⟩ := toks_flatten (fun s hs => h s (List.mem_cons_of_mem _ hs))
  obtain ⟨_, x, rfl⟩ := h r (List.mem_cons_self ..)
  exact ⟨x :: l, by simp [h1], by rw [List.flatten_cons, h2]; rfl⟩
theorem tokCore : TokCore := by
 intro H enc W v0 v1 v2 d0 d1 d2 p0 p1 p2 hL h0 h1 h2 ⟨base, w0, w1, w2⟩
 obtain ⟨hsz, hG⟩ := met_tables hL
 obtain ⟨f0, h0⟩ := h0
 obtain ⟨f1, h1⟩ := h1
 obtain ⟨f2, h2⟩ := h2
 obtain ⟨q0, rfl⟩ := agg_of v26 w0
 obtain ⟨q1, rfl⟩ := agg_of u48_ w1
 obtain ⟨a2, l2, c2, rfl⟩ := okWide_slice v49 w2
 obtain ⟨F, us, y, c, b, d, s, e, kk0, kk1, kk2, kk3, kk4, kk5, kk6, kk7, mm0, mm1, mm2, mm3, mm4, mm5, mm6, mm7, hK, hF, hR, e0⟩ := rd_accountK h0
 obtain ⟨t, m, v0, v1, v2, v3, v4, v5, v6, v7, e1⟩ := rd_token h1
 obtain ⟨F2, ds, hF2, hRl, _, rows, _, h5, rfl⟩ := rd_slice (Q := fun ds => ∃ x : TokP, ds = x.d) v49 (by kernel_rfl : Tryz.prog.cellsOf 48 = 10) (by omega) (fun {_ _ _} hh => rd_tok hh) ⟨a2, l2, c2, rfl⟩ h2
 obtain ⟨l, g1, g2⟩ := toks_flatten h5
 rw [g2] at hRl
 have hR2 : DT.R F2 (.s (tkD l) l.length 10) (.slice a2 l2 c2) := by
  simp only [DT.Rl] at hRl
  obtain ⟨y, r, e, hy, _⟩ := hRl
  have e2 : y = .slice a2 l2 c2 := (List.cons.inj e).1.symm
  rw [← e2, g1]; exact hy
 have hk := tokRun envOk (kAw envOk) ⟨b, d, s, e, kk0, kk1, kk2, kk3, kk4, kk5, kk6, kk7, mm0, mm1, mm2, mm3, mm4, mm5, mm6, mm7⟩ hK us us.length c rfl ⟨t, m, v0, v1, v2, v3, v4, v5, v6, v7⟩ l
 have hargs : All2 (VR (m0 (F ++ F2))) [accA ⟨b, d, s, e, kk0, kk1, kk2, kk3, kk4, kk5, kk6, kk7, mm0, mm1, mm2, mm3, mm4, mm5, mm6, mm7⟩ us us.length c, tokA t m v0 v1 v2 v3 v4 v5 v6 v7, .e (.one (.dp (.s (tkD l) l.length 10)))] (#[.agg q0, .agg q1, .slice a2 l2 c2] : Array Value).toList := by
  refine ⟨⟨q0, rfl, ?_⟩, ⟨q1, rfl, ?_⟩, DT.R.mono (fun p hp => List.mem_append_right F hp) _ _ hR2, trivial⟩
  ·have e3 : q0.toList = [.int .i64 b, .int .i64 d, .int .i64 s, .int .i64 e, .int .u8 kk0, .int .u8 kk1, .int .u8 kk2, .int .u8 kk3, .int .u8 kk4, .int .u8 kk5, .int .u8 kk6, .int .u8 kk7, .int .u8 mm0, .int .u8 mm1, .int .u8 mm2, .int .u8 mm3, .int .u8 mm4, .int .u8 mm5, .int .u8 mm6, .int .u8 mm7, .bool c, y] := e0
   rw [e3]
   exact ⟨rfl, rfl, rfl, rfl, rfl, rfl, rfl, rfl, rfl, rfl, rfl, rfl, rfl, rfl, rfl, rfl, rfl, rfl, rfl, rfl, rfl, DT.R.mono (fun p hp => List.mem_append_left F2 hp) _ _ hR, trivial⟩
  ·have e3 : q1.toList = [.int .i64 t, .int .i64 m, .int .u8 v0, .int .u8 v1, .int .u8 v2, .int .u8 v3, .int .u8 v4, .int .u8 v5, .int .u8 v6, .int .u8 v7] := e1
   rw [e3]
   exact ⟨rfl, rfl, rfl, rfl, rfl, rfl, rfl, rfl, rfl, rfl, trivial⟩
 exact (hk _ _ _ _ hargs (hr0 W (hF.app hF2)) hG).mono fun e W' ⟨y, he, m', hp⟩ => ⟨by
  have hy : y = .bool true := hp.val
  rw [he, hy], hp.below⟩
theorem creditTokens : Rows.CreditTokensCardSaid := tok_card tokCore
end Go.Proofs.YtpnkginbmoniiaaGreatDoor
end
