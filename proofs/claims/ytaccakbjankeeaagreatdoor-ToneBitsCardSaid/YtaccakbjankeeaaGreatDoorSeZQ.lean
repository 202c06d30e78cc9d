/-
  Part of the proof: SeBitI.
-/
import Derived.Test.YtaccakbjankeeaaGreatDoorSeBitL

/-! SeBitI -/
section
open Go Go.Ev Go.RowKit Go.ChangeShapes Go.WideShapes
namespace Go.Proofs.YtaccakbjankeeaaGreatDoor
set_option maxRecDepth 100000
set_option maxHeartbeats 20000000
theorem v23b : Tryz.prog.underlying 23 = some (.slice 22) := by kernel_rfl
theorem v49b : Tryz.prog.underlying 49 = some (.slice 4) := by kernel_rfl
theorem v4b : Tryz.prog.underlying 4 = some .bool := by kernel_rfl
theorem v51b : Tryz.prog.underlying 51 = some (.struct (Tryz.prog.fieldsOf 51)) := by kernel_rfl
theorem rows_flat : ∀ {rows : List (List DT)}, (∀ r ∈ rows, r.length = 1 ∧ ∃ us : List Int, r = [.s (iD us) us.length 1]) → ∃ L : List (List Int), L.length = rows.length ∧ rows.flatten = rD L
 | [], _ => ⟨[], rfl, rfl⟩
 | r :: rows, h => by
  obtain ⟨L, h1, h2⟩ := rows_flat (fun s hs => h s (List.mem_cons_of_mem _ hs))
  obtain ⟨_, us, rfl⟩ := h r (List.mem_cons_self ..)
  exact ⟨us :: L, by simp [h1], by rw [List.flatten_cons, h2]; rfl⟩
theorem rd_LLb {H : Type} {enc : TypeId × Value → H} {W : World} {fuel : Nat} {held : Bool} {c : Value} {x : DataW H × List MemPlace} (h : DataW.trod enc Tryz.prog W 0 (fun _ => true) held fuel 23 [c] = some x) : ∃ (F : List (Nat × List Value)) (L : List (List Int)), L.length ≤ maxLen ∧ AtRest W F ∧ DT.R F (.s (rD L) L.length 1) c := by
 obtain ⟨F, ds, g1, g2, _, rows, g3, h5, rfl⟩ := rd_slice (Q := fun ds => ∃ us : List Int, ds = [.s (iD us) us.length 1]) v23b (by kernel_rfl : Tryz.prog.cellsOf 22 = 1) (by omega) (fun {_ _ _} hh => by
  obtain ⟨F, ds, g1, g2, g3, us, _, _, g4⟩ := rd_ints v22_ u3T c3_ (sl_of v22_ hh) hh
  exact ⟨F, ds, g1, g2, g3, us, g4⟩) (sl_of v23b h) h
 obtain ⟨L, k1, k2⟩ := rows_flat h5
 rw [k2, ← k1] at g2
 simp only [DT.Rl] at g2
 obtain ⟨y, rest, e', hy, _⟩ := g2
 have ey : c = y := (List.cons.inj e').1
 exact ⟨F, L, by omega, g1, by rw [ey]; exact hy⟩
theorem bools_flat : ∀ {rows : List (List DT)}, (∀ r ∈ rows, r.length = 1 ∧ ∃ b : Bool, r = [.v (.bool b)]) → ∃ l : List Bool, l.length = rows.length ∧ rows.flatten = bbD l
 | [], _ => ⟨[], rfl, rfl⟩
 | r :: rows, h => by
  obtain ⟨l, h1, h2⟩ := bools_flat (fun s hs => h s (List.mem_cons_of_mem _ hs))
  obtain ⟨_, b, rfl⟩ := h r (List.mem_cons_self ..)
  exact ⟨b :: l, by simp [h1], by rw [List.flatten_cons, h2]; rfl⟩
theorem rd_BB {H : Type} {enc : TypeId × Value → H} {W : World} {fuel : Nat} {held : Bool} {c : Value} {x : DataW H × List MemPlace} (h : DataW.trod enc Tryz.prog W 0 (fun _ => true) held fuel 49 [c] = some x) : ∃ (F : List (Nat × List Value)) (l : List Bool), AtRest W F ∧ DT.R F (.s (bbD l) l.length 1) c := by
 obtain ⟨F, ds, g1, g2, _, rows, _, h5, rfl⟩ := rd_slice (Q := fun ds => ∃ b : Bool, ds = [.v (.bool b)]) v49b (by kernel_rfl : Tryz.prog.cellsOf 4 = 1) (by omega) (fun {_ _ _} hh => rd_bool v4b hh) (sl_of v49b h) h
 obtain ⟨l, k1, k2⟩ := bools_flat h5
 rw [k2, ← k1] at g2
 simp only [DT.Rl] at g2
 obtain ⟨y, rest, e', hy, _⟩ := g2
 have ey : c = y := (List.cons.inj e').1
 exact ⟨F, l, g1, by rw [ey]; exact hy⟩
theorem twoV {l : List Value} (h : l.length = 2) : ∃ a b, l = [a, b] := by
 match l, h with
 | [a, b], _ => exact ⟨a, b, rfl⟩
theorem rd_sent {H : Type} {enc : TypeId × Value → H} {W : World} {fuel : Nat} {held : Bool} {cs : List Value} {x : DataW H × List MemPlace} (h : DataW.trod enc Tryz.prog W 0 (fun _ => true) held fuel 51 cs = some x) :
  ∃ (F : List (Nat × List Value)) (L : List (List Int)) (z : Int) (y : Value), L.length ≤ maxLen ∧ AtRest W F ∧ cs = [y, .int .i64 z] ∧ DT.R F (.s (rD L) L.length 1) y := by
 obtain ⟨hlen, m, fld⟩ := trod_fields v51b [(23, 0), (3, 1)] (by kernel_rfl) h
 rw [show Tryz.prog.cellsOf 51 = 2 by kernel_rfl] at hlen
 obtain ⟨c0, c1, rfl⟩ := twoV hlen
 have e23 : Tryz.prog.cellsOf 23 = 1 := by kernel_rfl
 obtain ⟨z0, h0⟩ := fld 0 _ rfl
 obtain ⟨z1, h1⟩ := fld 1 _ rfl
 have h0 : DataW.trod enc Tryz.prog W 0 (fun _ => true) held m 23 ([c0, c1].take (Tryz.prog.cellsOf 23)) = some z0 := h0
 have h1 : DataW.trod enc Tryz.prog W 0 (fun _ => true) held m 3 ([c1].take (Tryz.prog.cellsOf 3)) = some z1 := h1
 rw [e23] at h0
 rw [c3_] at h1
 obtain ⟨n, hn, _⟩ := DataW.trod_int u3T h1
 have en : c1 = .int .i64 n := by simpa using hn
 obtain ⟨F, L, hl, a1, r1⟩ := rd_LLb (c := c0) h0
 exact ⟨F, L, n, c0, hl, a1, by rw [en], r1⟩
theorem bitCore : BitCore := by
 intro H enc W v0 v1 v2 d0 d1 d2 p0 p1 p2 hL h0 h1 h2 ⟨base, w0, w1, w2⟩
 obtain ⟨hsz, hG⟩ := met_tables hL
 obtain ⟨f0, h0⟩ := h0
 obtain ⟨f1, h1⟩ := h1
 obtain ⟨f2, h2⟩ := h2
 obtain ⟨q2, rfl⟩ := agg_of v51b w2
 obtain ⟨p, ln, cp, hs⟩ := sl_of v22_ h0
 obtain rfl : v0 = .slice p ln cp := by
  simp only [Value.okWide, v22_] at w0
  cases v0 <;> simp_all [Value.cells, Cell.okWide, Cell.ok]
 obtain ⟨p', ln', cp', hs'⟩ := sl_of v49b h1
 obtain rfl : v1 = .slice p' ln' cp' := by
  simp only [Value.okWide, v49b] at w1
  cases v1 <;> simp_all [Value.cells, Cell.okWide, Cell.ok]
 obtain ⟨F0, xs, a0, r0⟩ := rd_I (c := .slice p ln cp) h0
 obtain ⟨F1, l, a1, r1⟩ := rd_BB (c := .slice p' ln' cp') h1
 obtain ⟨F2, L, z, y, hl, a2, e2, r2⟩ := rd_sent h2
 have hk := bitsRun envOk (kAw envOk) xs l L hl z
 have hargs : All2 (VR (m0 (F0 ++ (F1 ++ F2)))) [dI xs, dB l, .e (.agg [.dp (.s (rD L) L.length 1), .v (.int .i64 z)])] (#[.slice p ln cp, .slice p' ln' cp', .agg q2] : Array Value).toList := by
  refine ⟨DT.R.mono (fun p hp => List.mem_append_left _ hp) _ _ r0, DT.R.mono (fun p hp => List.mem_append_right _ (List.mem_append_left _ hp)) _ _ r1, ⟨q2, rfl, ?_⟩, trivial⟩
  have e3 : q2.toList = [y, .int .i64 z] := e2
  rw [e3]
  exact ⟨DT.R.mono (fun p hp => List.mem_append_right _ (List.mem_append_right _ hp)) _ _ r2, rfl, trivial⟩
 exact (hk _ _ _ _ hargs (hr0 W (a0.app (a1.app a2))) hG).mono fun e W' ⟨y, he, m', hp⟩ => ⟨by
  have hy : y = .bool true := hp.val
  rw [he, hy], hp.below⟩
theorem toneBits : Rows.ToneBitsCardSaid := bit_card bitCore
end Go.Proofs.YtaccakbjankeeaaGreatDoor
end
