/-
  Part of the proof: SeOncI.
-/
import Derived.Test.YtneaafigbnjceaaGreatDoorSeOncL

/-! SeOncI -/
section
open Go Go.Ev Go.RowKit Go.ChangeShapes Go.WideShapes
namespace Go.Proofs.YtneaafigbnjceaaGreatDoor
set_option maxRecDepth 100000
set_option maxHeartbeats 20000000
theorem rd_accB {H : Type} {enc : TypeId × Value → H} {W : World} {fuel : Nat} {held : Bool} {cs : List Value} {x : DataW H × List MemPlace} (h : DataW.trod enc Tryz.prog W 0 (fun _ => true) held fuel 26 cs = some x) :
  ∃ (F : List (Nat × List Value)) (us : List Int) (y : Value) (c : Bool) (b d s e kk0 kk1 kk2 kk3 kk4 kk5 kk6 kk7 mm0 mm1 mm2 mm3 mm4 mm5 mm6 mm7 : Int), Bk.KeyB ⟨b, d, s, e, kk0, kk1, kk2, kk3, kk4, kk5, kk6, kk7, mm0, mm1, mm2, mm3, mm4, mm5, mm6, mm7⟩ ∧ AtRest W F ∧ DT.R F (.s (iD us) us.length 1) y ∧ cs = [.int .i64 b, .int .i64 d, .int .i64 s, .int .i64 e, .int .u8 kk0, .int .u8 kk1, .int .u8 kk2, .int .u8 kk3, .int .u8 kk4, .int .u8 kk5, .int .u8 kk6, .int .u8 kk7, .int .u8 mm0, .int .u8 mm1, .int .u8 mm2, .int .u8 mm3, .int .u8 mm4, .int .u8 mm5, .int .u8 mm6, .int .u8 mm7, .bool c, y] := by
 obtain ⟨hlen, m, fld⟩ := trod_fields v26 [(3, 0), (3, 1), (3, 2), (3, 3), (23, 4), (23, 12), (4, 20), (24, 21)] (by kernel_rfl) h
 rw [show Tryz.prog.cellsOf 26 = 22 by kernel_rfl] at hlen
 obtain ⟨c0, c1, c2, c3, c4, c5, c6, c7, c8, c9, c10, c11, c12, c13, c14, c15, c16, c17, c18, c19, c20, c21, rfl⟩ := len22 hlen
 have one : ∀ (i o : Nat) (z : Value), [(3, 0), (3, 1), (3, 2), (3, 3), (23, 4), (23, 12), (4, 20), (24, 21)][i]? = some ((3 : Nat), o) → ([c0, c1, c2, c3, c4, c5, c6, c7, c8, c9, c10, c11, c12, c13, c14, c15, c16, c17, c18, c19, c20, c21].drop o).take 1 = [z] → ∃ r : Int, z = .int .i64 r := by
  intro i o z hi hz
  obtain ⟨y, hy⟩ := fld i _ hi
  have hy : DataW.trod enc Tryz.prog W 0 (fun _ => true) held m 3 (([c0, c1, c2, c3, c4, c5, c6, c7, c8, c9, c10, c11, c12, c13, c14, c15, c16, c17, c18, c19, c20, c21].drop o).take (Tryz.prog.cellsOf 3)) = some y := hy
  rw [c3_, hz] at hy
  obtain ⟨r, hr, _⟩ := DataW.trod_int u3_ hy
  exact ⟨r, by simpa using hr⟩
 obtain ⟨b, rfl⟩ := one 0 0 c0 rfl rfl
 obtain ⟨d, rfl⟩ := one 1 1 c1 rfl rfl
 obtain ⟨s, rfl⟩ := one 2 2 c2 rfl rfl
 obtain ⟨e, rfl⟩ := one 3 3 c3 rfl rfl
 obtain ⟨y4, h4⟩ := fld 4 _ rfl
 obtain ⟨y5, h5⟩ := fld 5 _ rfl
 obtain ⟨y6, h6⟩ := fld 6 _ rfl
 obtain ⟨y7, h7⟩ := fld 7 _ rfl
 obtain ⟨lk, hk, ek, bk⟩ := read_bytes (n := 8) u23_ u5_ (by kernel_rfl) (by kernel_rfl) h4
 obtain ⟨lm, hm, em, bm⟩ := read_bytes (n := 8) u23_ u5_ (by kernel_rfl) (by kernel_rfl) h5
 obtain ⟨kk0, kk1, kk2, kk3, kk4, kk5, kk6, kk7, rfl⟩ := len8i hk
 obtain ⟨mm0, mm1, mm2, mm3, mm4, mm5, mm6, mm7, rfl⟩ := len8i hm
 have ek : [c4, c5, c6, c7, c8, c9, c10, c11] = [Value.int .u8 kk0, Value.int .u8 kk1, Value.int .u8 kk2, Value.int .u8 kk3, Value.int .u8 kk4, Value.int .u8 kk5, Value.int .u8 kk6, Value.int .u8 kk7] := ek
 have em : [c12, c13, c14, c15, c16, c17, c18, c19] = [Value.int .u8 mm0, Value.int .u8 mm1, Value.int .u8 mm2, Value.int .u8 mm3, Value.int .u8 mm4, Value.int .u8 mm5, Value.int .u8 mm6, Value.int .u8 mm7] := em
 simp only [List.cons.injEq, and_true] at ek em
 obtain ⟨rfl, rfl, rfl, rfl, rfl, rfl, rfl, rfl⟩ := ek
 obtain ⟨rfl, rfl, rfl, rfl, rfl, rfl, rfl, rfl⟩ := em
 obtain ⟨c, hc, _⟩ := DataW.trod_bool v4 h6
 have hc : [c20] = [Value.bool c] := hc
 obtain rfl := (List.cons.inj hc).1
 have h7 : DataW.trod enc Tryz.prog W 0 (fun _ => true) held m 24 [c21] = some y7 := h7
 have hsl : ∃ a len cap, [c21] = [Value.slice a len cap] := by
  rcases DataW.trod_slice v24 h7 with ⟨e, _⟩ | ⟨a, len, cap, _, _, _, _, e, _⟩
  ·exact ⟨_, _, _, e⟩
  ·exact ⟨_, _, _, e⟩
 obtain ⟨F, ds, g1, g2, _, us, _, _, rfl⟩ := rd_ints v24 u3_ c3_ hsl h7
 simp only [DT.Rl] at g2
 obtain ⟨y, rest, e', hy, _⟩ := g2
 have ey : c21 = y := (List.cons.inj e').1
 exact ⟨F, us, c21, c, b, d, s, e, kk0, kk1, kk2, kk3, kk4, kk5, kk6, kk7, mm0, mm1, mm2, mm3, mm4, mm5, mm6, mm7, ⟨bk kk0 (by simp), bk kk1 (by simp), bk kk2 (by simp), bk kk3 (by simp), bk kk4 (by simp), bk kk5 (by simp), bk kk6 (by simp), bk kk7 (by simp), bm mm0 (by simp), bm mm1 (by simp), bm mm2 (by simp), bm mm3 (by simp), bm mm4 (by simp), bm mm5 (by simp), bm mm6 (by simp), bm mm7 (by simp)⟩, g1, by rw [ey]; exact hy, rfl⟩
theorem v27o : Tryz.prog.underlying 27 = some (.slice 33) := by kernel_rfl
theorem v28o : Tryz.prog.underlying 28 = some (.array 3 5) := by kernel_rfl
theorem v33o : Tryz.prog.underlying 33 = some (.array 2 32) := by kernel_rfl
theorem v32o : Tryz.prog.underlying 32 = some (.int .u16) := by kernel_rfl
theorem arr_of {W : World} {b t n e : Nat} {v : Value} (hu : Tryz.prog.underlying t = some (.array n e)) (h : Value.okWide Tryz.prog W .any b t v) : ∃ cs, v = .agg cs := by
 cases v with
 | agg cs => exact ⟨cs, rfl⟩
 | _ => simp [Value.okWide, hu] at h
theorem read_u16 {H : Type} {enc : TypeId × Value → H} {P : Program} {W : World} {t e n : Nat} {fuel : Nat} {held : Bool} {base : Nat} {sp : Nat → Bool} {cs : List Value} {x : DataW H × List MemPlace} (ht : P.underlying t = some (.array n e)) (he : P.underlying e = some (.int .u16)) (hc : P.cellsOf e = 1) (hct : P.cellsOf t = n)
  (h : DataW.trod enc P W base sp held fuel t cs = some x) : ∃ l : List Int, l.length = n ∧ cs = l.map (.int .u16) ∧ ∀ b ∈ l, 0 ≤ b ∧ b < 65536 := by
 obtain ⟨xs, m, rfl, _, hlen, hn, hel⟩ := DataW.trod_array ht h
 rw [hct] at hlen
 have one : ∀ i, i < n → ∃ b : Int, cs[i]? = some (.int .u16 b) ∧ 0 ≤ b ∧ b < 65536 := fun i hi => by
  have h1 := hel i (by omega)
  rw [hc, Nat.mul_one, List.getElem?_eq_getElem (by omega)] at h1
  obtain ⟨b, hcell, _, hw⟩ := DataW.trod_int he h1
  have e2 : ((cs.drop i).take 1)[0]? = some (.int .u16 b) := by rw [hcell]; rfl
  rw [List.getElem?_take, if_pos (by omega), List.getElem?_drop] at e2
  have hw' : decide (IntKind.u16.min ≤ b) && decide (b ≤ IntKind.u16.max) := hw
  rw [Bool.and_eq_true, decide_eq_true_eq, decide_eq_true_eq] at hw'
  have e3 : IntKind.u16.min = 0 := by decide
  have e4 : IntKind.u16.max = 65535 := by decide
  exact ⟨b, by simpa using e2, by omega, by omega⟩
 have gen : ∀ (l : List Value) (n : Nat), l.length = n → (∀ i, i < n → ∃ b : Int, l[i]? = some (.int .u16 b) ∧ 0 ≤ b ∧ b < 65536) → ∃ z : List Int, z.length = n ∧ l = z.map (.int .u16) ∧ ∀ b ∈ z, 0 ≤ b ∧ b < 65536 := by
  intro l
  induction l with
  | nil => intro n hn _; exact ⟨[], hn, rfl, by simp⟩
  | cons v l ih =>
   intro n hn one
   obtain ⟨b, hb, hr⟩ := one 0 (by simp at hn; omega)
   obtain ⟨z, h1, h2, h3⟩ := ih l.length rfl (fun i hi => one (i + 1) (by simp at hn; omega))
   refine ⟨b :: z, by simp at hn ⊢; omega, ?_, fun c hc => ?_⟩
   ·rw [List.map_cons, ← h2, show v = .int .u16 b by simpa using hb]
   ·rcases List.mem_cons.1 hc with rfl | hc
    ·exact hr
    ·exact h3 c hc
 exact gen cs n hlen one
theorem Rl_u16 (F : List (Nat × List Value)) : ∀ l : List Int, DT.Rl F (l.map fun z => .v (.int .u16 z)) (l.map (.int .u16))
 | [] => by simp [DT.Rl]
 | x :: l => by
  simp only [List.map_cons, DT.Rl]
  exact ⟨_, _, rfl, by simp [DT.R], Rl_u16 F l⟩
theorem rd_seed {H : Type} {enc : TypeId × Value → H} {W : World} {fuel : Nat} {held : Bool} {cs : List Value} {x : DataW H × List MemPlace} (h : DataW.trod enc Tryz.prog W 0 (fun _ => true) held fuel 33 cs = some x) :
  Rd W cs fun ds => ∃ x : Int × Int, Bk.Sd x ∧ ds = [.v (.int .u16 x.1), .v (.int .u16 x.2)] := by
 obtain ⟨l, hl, rfl, hb⟩ := read_u16 v33o v32o (by kernel_rfl) (by kernel_rfl) h
 obtain ⟨a, b, rfl⟩ : ∃ a b, l = [a, b] := by
  match l, hl with
  | [a, b], _ => exact ⟨a, b, rfl⟩
 exact ⟨[], [.v (.int .u16 a), .v (.int .u16 b)], AtRest.nil W, Rl_u16 [] [a, b], rfl, (a, b), ⟨hb a (by simp), hb b (by simp)⟩, rfl⟩
theorem seeds_flatten : ∀ {rows : List (List DT)}, (∀ r ∈ rows, r.length = 2 ∧ ∃ x : Int × Int, Bk.Sd x ∧ r = [.v (.int .u16 x.1), .v (.int .u16 x.2)]) → ∃ L : List (Int × Int), L.length = rows.length ∧ rows.flatten = sdD L ∧ ∀ x ∈ L, Bk.Sd x
 | [], _ => ⟨[], rfl, rfl, by simp⟩
 | r :: rows, h => by
  obtain ⟨L, h1, h2, h3⟩ := seeds_flatten (fun s hs => h s (List.mem_cons_of_mem _ hs))
  obtain ⟨_, x, hx, rfl⟩ := h r (List.mem_cons_self ..)
  refine ⟨x :: L, by simp [h1], by rw [List.flatten_cons, h2]; rfl, fun b hm => ?_⟩
  rcases List.mem_cons.1 hm with rfl | hm
  ·exact hx
  ·exact h3 b hm
theorem oncCore : OncCore := by
 intro H enc W v0 v1 v2 d0 d1 d2 p0 p1 p2 hL h0 h1 h2 ⟨base, w0, w1, w2⟩
 obtain ⟨hsz, hG⟩ := met_tables hL
 obtain ⟨f0, h0⟩ := h0
 obtain ⟨f1, h1⟩ := h1
 obtain ⟨f2, h2⟩ := h2
 obtain ⟨q0, rfl⟩ := agg_of v26 w0
 obtain ⟨q2, rfl⟩ := arr_of v28o w2
 obtain ⟨lk, hk, ek, bk⟩ := read_bytes (n := 3) v28o u5_ (by kernel_rfl) (by kernel_rfl) h2
 obtain ⟨n0, n1, n2, rfl⟩ : ∃ a b c, lk = [a, b, c] := by
  match lk, hk with
  | [a, b, c], _ => exact ⟨a, b, c, rfl⟩
 have hq : q2 = #[.int .u8 n0, .int .u8 n1, .int .u8 n2] := by rw [← Array.toList_inj]; exact ek
 subst hq
 obtain ⟨p, ln, cp, rfl⟩ : ∃ p ln cp, v1 = .slice p ln cp := by
  simp only [Value.okWide, v27o] at w1
  cases v1 <;> simp_all [Value.cells, Cell.okWide, Cell.ok]
 obtain ⟨F0, us, y, c, b, d, s, e, kk0, kk1, kk2, kk3, kk4, kk5, kk6, kk7, mm0, mm1, mm2, mm3, mm4, mm5, mm6, mm7, kb, a0, hR, e0⟩ := rd_accB h0
 obtain ⟨F1, ds, a1, hRl, _, rows, _, h5, rfl⟩ := rd_slice (Q := fun ds => ∃ x : Int × Int, Bk.Sd x ∧ ds = [.v (.int .u16 x.1), .v (.int .u16 x.2)]) v27o (by kernel_rfl : Tryz.prog.cellsOf 33 = 2) (by omega) (fun {_ _ _} hh => rd_seed hh) ⟨p, ln, cp, rfl⟩ h1
 obtain ⟨L, g1, g2, g3⟩ := seeds_flatten h5
 rw [g2, ← g1] at hRl
 have hk := onceRun envOk (kAw envOk) ⟨b, d, s, e, kk0, kk1, kk2, kk3, kk4, kk5, kk6, kk7, mm0, mm1, mm2, mm3, mm4, mm5, mm6, mm7⟩ us c L n0 n1 n2 kb g3 (bk n0 (by simp)) (bk n1 (by simp)) (bk n2 (by simp))
 have hv1 : VR (m0 (F0 ++ F1)) (.e (.one (.dp (.s (sdD L) L.length 2)))) (.slice p ln cp) := by
  have h9 := DT.Rl.ac (m := m0 (F0 ++ F1)) (DT.Rl.mono (fun p hp => List.mem_append_right _ hp) _ _ hRl)
  exact h9.1
 have hR : DT.R (F0 ++ F1) (.s (iD us) us.length 1) y := DT.R.mono (fun p hp => List.mem_append_left _ hp) _ _ hR
 have hargs : All2 (VR (m0 (F0 ++ F1))) [Bk.accA ⟨b, d, s, e, kk0, kk1, kk2, kk3, kk4, kk5, kk6, kk7, mm0, mm1, mm2, mm3, mm4, mm5, mm6, mm7⟩ us us.length c, .e (.one (.dp (.s (sdD L) L.length 2))), .e (.agg [.v (.int .u8 n0), .v (.int .u8 n1), .v (.int .u8 n2)])] (#[.agg q0, .slice p ln cp, .agg #[.int .u8 n0, .int .u8 n1, .int .u8 n2]] : Array Value).toList := by
  refine ⟨⟨q0, rfl, ?_⟩, hv1, ⟨_, rfl, rfl, rfl, rfl, trivial⟩, trivial⟩
  have e3 : q0.toList = [.int .i64 b, .int .i64 d, .int .i64 s, .int .i64 e, .int .u8 kk0, .int .u8 kk1, .int .u8 kk2, .int .u8 kk3, .int .u8 kk4, .int .u8 kk5, .int .u8 kk6, .int .u8 kk7, .int .u8 mm0, .int .u8 mm1, .int .u8 mm2, .int .u8 mm3, .int .u8 mm4, .int .u8 mm5, .int .u8 mm6, .int .u8 mm7, .bool c, y] := e0
  rw [e3]
  exact ⟨rfl, rfl, rfl, rfl, rfl, rfl, rfl, rfl, rfl, rfl, rfl, rfl, rfl, rfl, rfl, rfl, rfl, rfl, rfl, rfl, rfl, hR, trivial⟩
 exact (hk _ _ _ _ hargs (hr0 W (a0.app a1)) hG).mono fun e W' ⟨y, he, m', hp⟩ => ⟨by
  have hy : y = .bool true := hp.val
  rw [he, hy], hp.below⟩
theorem creditOnce : Rows.CreditOnceCardSaid := onc_card oncCore
end Go.Proofs.YtneaafigbnjceaaGreatDoor
end
