/-
  Part of the proof: SeSltI.
-/
import Derived.Test.YtnhabbponbpmfaaGreatDoorSeSltL

/-! SeSltI -/
section
open Go Go.Ev Go.RowKit Go.ChangeShapes Go.WideShapes
namespace Go.Proofs.YtnhabbponbpmfaaGreatDoor
set_option maxRecDepth 100000
set_option maxHeartbeats 20000000
theorem rd_cat {W : World} {c1 c2 : List Value} {Q1 Q2 Q : List DT → Prop} (h1 : Rd W c1 Q1) (h2 : Rd W c2 Q2) (hQ : ∀ a b, Q1 a → Q2 b → Q (a ++ b)) : Rd W (c1 ++ c2) Q := by
 obtain ⟨F, a, f1, r1, l1, q1⟩ := h1
 obtain ⟨G, b, f2, r2, l2, q2⟩ := h2
 exact ⟨F ++ G, a ++ b, f1.app f2, Rl_append r1 l1 r2, by simp [l1, l2], hQ a b q1 q2⟩
theorem v9 : Tryz.prog.underlying 9 = some .string := by kernel_rfl
theorem v4 : Tryz.prog.underlying 4 = some .bool := by kernel_rfl
theorem v104 : Tryz.prog.underlying 104 = some (.slice 136) := by kernel_rfl
theorem v105 : Tryz.prog.underlying 105 = some (.slice 4) := by kernel_rfl
theorem v106 : Tryz.prog.underlying 106 = some (.array 3 3) := by kernel_rfl
theorem v136 : Tryz.prog.underlying 136 = some (.struct (Tryz.prog.fieldsOf 136)) := by kernel_rfl
theorem sl_of {H : Type} {enc : TypeId × Value → H} {W : World} {t e : Nat} {fuel : Nat} {held : Bool} {cs : List Value} {x : DataW H × List MemPlace} (ht : Tryz.prog.underlying t = some (.slice e)) (h : DataW.trod enc Tryz.prog W 0 (fun _ => true) held fuel t cs = some x) : ∃ a len cap, cs = [.slice a len cap] := by
 rcases DataW.trod_slice ht h with ⟨e, _⟩ | ⟨a, len, cap, _, _, _, _, e, _⟩
 ·exact ⟨_, _, _, e⟩
 ·exact ⟨_, _, _, e⟩
section
variable {H : Type} {enc : TypeId × Value → H} {W : World} {fuel : Nat} {held : Bool} {cs : List Value} {x : DataW H × List MemPlace}
theorem rd_i (h : DataW.trod enc Tryz.prog W 0 (fun _ => true) held fuel 3 cs = some x) : Rd W cs fun ds => ∃ z : Int, ds = [.v (.int .i64 z)] := by
 obtain ⟨F, ds, h1, h2, h3, z, _, h5⟩ := rd_int u3_ h
 exact ⟨F, ds, h1, h2, h3, z, h5⟩
theorem rd_s (h : DataW.trod enc Tryz.prog W 0 (fun _ => true) held fuel 9 cs = some x) : Rd W cs fun ds => ∃ s : ByteArray, ds = [.v (.string s)] := by
 obtain ⟨F, ds, h1, h2, h3, z, _, h5⟩ := rd_string v9 h
 exact ⟨F, ds, h1, h2, h3, z, h5⟩
theorem rd_b (h : DataW.trod enc Tryz.prog W 0 (fun _ => true) held fuel 4 cs = some x) : Rd W cs fun ds => ∃ b : Bool, ds = [.v (.bool b)] := rd_bool v4 h
theorem rd_sn (h : DataW.trod enc Tryz.prog W 0 (fun _ => true) held fuel 136 cs = some x) : Rd W cs fun ds => ∃ f : Sn, ds = f.d := by
 obtain ⟨hlen, m, fld⟩ := trod_fields v136 [(9, 0), (3, 1), (3, 2), (3, 3)] (by kernel_rfl) h
 rw [show Tryz.prog.cellsOf 136 = 4 by kernel_rfl] at hlen
 match cs, hlen with
 | [a, b, c, d], _ =>
  obtain ⟨_, h0⟩ := fld 0 _ rfl
  obtain ⟨_, h1⟩ := fld 1 _ rfl
  obtain ⟨_, h2⟩ := fld 2 _ rfl
  obtain ⟨_, h3⟩ := fld 3 _ rfl
  simp only [c3_, show Tryz.prog.cellsOf 9 = 1 by kernel_rfl] at h0 h1 h2 h3
  exact rd_cat (c1 := [a]) (rd_s h0) (rd_cat (c1 := [b]) (rd_i h1) (rd_cat (c1 := [c]) (rd_i h2) (rd_i h3) (Q := fun ds => ∃ y z : Int, ds = [.v (.int .i64 y), .v (.int .i64 z)]) (by
   rintro _ _ ⟨y, rfl⟩ ⟨z, rfl⟩
   exact ⟨y, z, rfl⟩)) (Q := fun ds => ∃ x y z : Int, ds = [.v (.int .i64 x), .v (.int .i64 y), .v (.int .i64 z)]) (by
   rintro _ _ ⟨x, rfl⟩ ⟨y, z, rfl⟩
   exact ⟨x, y, z, rfl⟩)) (by
   rintro _ _ ⟨o, rfl⟩ ⟨x, y, z, rfl⟩
   exact ⟨⟨o, x, y, z⟩, rfl⟩)
theorem sns_flatten : ∀ {rows : List (List DT)}, (∀ r ∈ rows, r.length = 4 ∧ ∃ f : Sn, r = f.d) → ∃ l : List Sn, l.length = rows.length ∧ rows.flatten = snD l
 | [], _ => ⟨[], rfl, rfl⟩
 | r :: rows, h => by
  obtain ⟨l, h1, h2⟩ := sns_flatten (fun s hs => h s (List.mem_cons_of_mem _ hs))
  obtain ⟨_, f, rfl⟩ := h r (List.mem_cons_self ..)
  exact ⟨f :: l, by simp [h1], by rw [List.flatten_cons, h2]; rfl⟩
theorem rd_sns (h : DataW.trod enc Tryz.prog W 0 (fun _ => true) held fuel 104 cs = some x) : Rd W cs fun ds => ∃ l : List Sn, l.length ≤ maxLen ∧ ds = [.s (snD l) l.length 4] := by
 obtain ⟨F, ds, h1, h2, h3, rows, h4, h5, h6⟩ := rd_slice (Q := fun ds => ∃ f : Sn, ds = f.d) v104 (by kernel_rfl : Tryz.prog.cellsOf 136 = 4) (by omega) (fun {_ _ _} hh => rd_sn hh) (sl_of v104 h) h
 obtain ⟨l, k1, k2⟩ := sns_flatten h5
 exact ⟨F, ds, h1, h2, h3, l, by omega, by rw [h6, k2, k1]⟩
theorem bls_flatten : ∀ {rows : List (List DT)}, (∀ r ∈ rows, r.length = 1 ∧ ∃ b : Bool, r = [.v (.bool b)]) → ∃ l : List Bool, l.length = rows.length ∧ rows.flatten = bbD l
 | [], _ => ⟨[], rfl, rfl⟩
 | r :: rows, h => by
  obtain ⟨l, h1, h2⟩ := bls_flatten (fun s hs => h s (List.mem_cons_of_mem _ hs))
  obtain ⟨_, b, rfl⟩ := h r (List.mem_cons_self ..)
  exact ⟨b :: l, by simp [h1], by rw [List.flatten_cons, h2]; rfl⟩
theorem rd_bls (h : DataW.trod enc Tryz.prog W 0 (fun _ => true) held fuel 105 cs = some x) : Rd W cs fun ds => ∃ l : List Bool, ds = [.s (bbD l) l.length 1] := by
 obtain ⟨F, ds, h1, h2, h3, rows, h4, h5, h6⟩ := rd_slice (Q := fun ds => ∃ b : Bool, ds = [.v (.bool b)]) v105 (by kernel_rfl : Tryz.prog.cellsOf 4 = 1) (by omega) (fun {_ _ _} hh => rd_b hh) (sl_of v105 h) h
 obtain ⟨l, k1, k2⟩ := bls_flatten h5
 exact ⟨F, ds, h1, h2, h3, l, by rw [h6, k2, k1]⟩
theorem rd_i3 (h : DataW.trod enc Tryz.prog W 0 (fun _ => true) held fuel 106 cs = some x) : ∃ a b c : Int, cs = [.int .i64 a, .int .i64 b, .int .i64 c] := by
 obtain ⟨xs, m, rfl, _, hlen, hn, hel⟩ := DataW.trod_array v106 h
 rw [show Tryz.prog.cellsOf 106 = 3 by kernel_rfl] at hlen
 rw [c3_] at hel
 match cs, hlen with
 | [a, b, c], _ =>
  have one : ∀ i (hi : i < 3) z, (([a, b, c] : List Value).drop (i * 1)).take 1 = [z] → ∃ r : Int, z = .int .i64 r := fun i hi z hz => by
   have h1 := hel i hi
   rw [hz, List.getElem?_eq_getElem (by omega)] at h1
   obtain ⟨r, hr, _⟩ := DataW.trod_int u3_ h1
   exact ⟨r, by simpa using hr⟩
  obtain ⟨p, rfl⟩ := one 0 (by omega) a rfl
  obtain ⟨q, rfl⟩ := one 1 (by omega) b rfl
  obtain ⟨r, rfl⟩ := one 2 (by omega) c rfl
  exact ⟨p, q, r, rfl⟩
end
theorem arr_of {W : World} {b t n e : Nat} {v : Value} (hu : Tryz.prog.underlying t = some (.array n e)) (h : Value.okWide Tryz.prog W .any b t v) : ∃ cs, v = .agg cs := by
 cases v with
 | agg cs => exact ⟨cs, rfl⟩
 | _ => simp [Value.okWide, hu] at h
theorem sltCore : SltCore := by
 intro H enc W v0 v1 v2 d0 d1 d2 p0 p1 p2 hL h0 h1 h2 ⟨base, w0, w1, w2⟩
 obtain ⟨hsz, hG⟩ := met_tables hL
 obtain ⟨f0, h0⟩ := h0
 obtain ⟨f1, h1⟩ := h1
 obtain ⟨f2, h2⟩ := h2
 obtain ⟨q2, rfl⟩ := arr_of v106 w2
 obtain ⟨n0, n1, n2, hq⟩ := rd_i3 h2
 have hq : q2 = #[.int .i64 n0, .int .i64 n1, .int .i64 n2] := by rw [← Array.toList_inj]; exact hq
 subst hq
 obtain ⟨p, ln, cp, hs⟩ := sl_of v104 h0
 obtain rfl : v0 = .slice p ln cp := by
  simp only [Value.okWide, v104] at w0
  cases v0 <;> simp_all [Value.cells, Cell.okWide, Cell.ok]
 obtain ⟨p1, ln1, cp1, hs1⟩ := sl_of v105 h1
 obtain rfl : v1 = .slice p1 ln1 cp1 := by
  simp only [Value.okWide, v105] at w1
  cases v1 <;> simp_all [Value.cells, Cell.okWide, Cell.ok]
 obtain ⟨F0, e0, a0, r0, l0, L, hLm, rfl⟩ := rd_sns h0
 obtain ⟨F1, e1, a1, r1, l1, c, rfl⟩ := rd_bls h1
 have hk := slotsRun envOk (kAw envOk) L c n0 n1 n2 hLm
 have hv0 : VR (m0 (F0 ++ F1)) (dSn L) (.slice p ln cp) := by
  have h9 := DT.Rl.ac (m := m0 (F0 ++ F1)) (DT.Rl.mono (fun p hp => List.mem_append_left _ hp) _ _ r0)
  exact h9.1
 have hv1 : VR (m0 (F0 ++ F1)) (dB c) (.slice p1 ln1 cp1) := by
  have h9 := DT.Rl.ac (m := m0 (F0 ++ F1)) (DT.Rl.mono (fun p hp => List.mem_append_right _ hp) _ _ r1)
  exact h9.1
 have hargs : All2 (VR (m0 (F0 ++ F1))) [dSn L, dB c, .e (.agg [.v (.int .i64 n0), .v (.int .i64 n1), .v (.int .i64 n2)])] (#[.slice p ln cp, .slice p1 ln1 cp1, .agg #[.int .i64 n0, .int .i64 n1, .int .i64 n2]] : Array Value).toList :=
  ⟨hv0, hv1, ⟨_, rfl, rfl, rfl, rfl, trivial⟩, trivial⟩
 exact (hk _ _ _ _ hargs (hr0 W (a0.app a1)) hG).mono fun e W' ⟨y, he, m', hp⟩ => ⟨by
  have hy : y = .bool true := hp.val
  rw [he, hy], hp.below⟩
theorem linkSlots : Rows.LinkSlotsCardSaid := slt_card sltCore
end Go.Proofs.YtnhabbponbpmfaaGreatDoor
end
