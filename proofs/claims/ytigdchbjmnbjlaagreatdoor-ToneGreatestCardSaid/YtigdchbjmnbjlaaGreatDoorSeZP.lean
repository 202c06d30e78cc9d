/-
  Part of the proof: SeGttI.
-/
import Derived.Test.YtigdchbjmnbjlaaGreatDoorSeGttL

/-! SeGttI -/
section
open Go Go.Ev Go.RowKit Go.ChangeShapes Go.WideShapes
namespace Go.Proofs.YtigdchbjmnbjlaaGreatDoor
set_option maxRecDepth 100000
set_option maxHeartbeats 20000000
theorem v69t : Tryz.prog.underlying 69 = some (.slice 30) := by kernel_rfl
theorem v71t : Tryz.prog.underlying 71 = some (.struct (Tryz.prog.fieldsOf 71)) := by kernel_rfl
theorem v73t : Tryz.prog.underlying 73 = some (.struct (Tryz.prog.fieldsOf 73)) := by kernel_rfl
theorem rows_flat_t : ∀ {rows : List (List DT)}, (∀ r ∈ rows, r.length = 1 ∧ ∃ us : List Int, r = [.s (iD us) us.length 1]) → ∃ L : List (List Int), L.length = rows.length ∧ rows.flatten = rD L
 | [], _ => ⟨[], rfl, rfl⟩
 | r :: rows, h => by
  obtain ⟨L, h1, h2⟩ := rows_flat_t (fun s hs => h s (List.mem_cons_of_mem _ hs))
  obtain ⟨_, us, rfl⟩ := h r (List.mem_cons_self ..)
  exact ⟨us :: L, by simp [h1], by rw [List.flatten_cons, h2]; rfl⟩
theorem rd_LLt {H : Type} {enc : TypeId × Value → H} {W : World} {fuel : Nat} {held : Bool} {c : Value} {x : DataW H × List MemPlace} (h : DataW.trod enc Tryz.prog W 0 (fun _ => true) held fuel 69 [c] = some x) : ∃ (F : List (Nat × List Value)) (L : List (List Int)), L.length ≤ maxLen ∧ AtRest W F ∧ DT.R F (.s (rD L) L.length 1) c := by
 obtain ⟨F, ds, g1, g2, _, rows, g3, h5, rfl⟩ := rd_slice (Q := fun ds => ∃ us : List Int, ds = [.s (iD us) us.length 1]) v69t (by kernel_rfl : Tryz.prog.cellsOf 30 = 1) (by omega) (fun {_ _ _} hh => by
  obtain ⟨F, ds, g1, g2, g3, us, _, _, g4⟩ := rd_ints v22_ u3T c3_ (sl_of v22_ hh) hh
  exact ⟨F, ds, g1, g2, g3, us, g4⟩) (sl_of v69t h) h
 obtain ⟨L, k1, k2⟩ := rows_flat_t h5
 rw [k2, ← k1] at g2
 simp only [DT.Rl] at g2
 obtain ⟨y, rest, e', hy, _⟩ := g2
 have ey : c = y := (List.cons.inj e').1
 exact ⟨F, L, by omega, g1, by rw [ey]; exact hy⟩
theorem fiveV {l : List Value} (h : l.length = 5) : ∃ a b c d e, l = [a, b, c, d, e] := by
 match l, h with
 | [a, b, c, d, e], _ => exact ⟨a, b, c, d, e, rfl⟩
theorem rd_tones {H : Type} {enc : TypeId × Value → H} {W : World} {fuel : Nat} {held : Bool} {cs : List Value} {x : DataW H × List MemPlace} (h : DataW.trod enc Tryz.prog W 0 (fun _ => true) held fuel 71 cs = some x) :
  ∃ (F : List (Nat × List Value)) (sg : List Int) (ns : List (List Int)) (mg ms : Int) (nt : List Int) (y0 y1 y4 : Value), ns.length ≤ maxLen ∧ AtRest W F ∧ cs = [y0, y1, .int .i64 mg, .int .i64 ms, y4] ∧ DT.R F (.s (iD sg) sg.length 1) y0 ∧ DT.R F (.s (rD ns) ns.length 1) y1 ∧ DT.R F (.s (iD nt) nt.length 1) y4 := by
 obtain ⟨hlen, m, fld⟩ := trod_fields v71t [(30, 0), (69, 1), (3, 2), (3, 3), (30, 4)] (by kernel_rfl) h
 rw [show Tryz.prog.cellsOf 71 = 5 by kernel_rfl] at hlen
 obtain ⟨c0, c1, c2, c3, c4, rfl⟩ := fiveV hlen
 have e22 : Tryz.prog.cellsOf 30 = 1 := by kernel_rfl
 have e23 : Tryz.prog.cellsOf 69 = 1 := by kernel_rfl
 obtain ⟨z0, h0⟩ := fld 0 _ rfl
 obtain ⟨z1, h1⟩ := fld 1 _ rfl
 obtain ⟨z2, h2⟩ := fld 2 _ rfl
 obtain ⟨z3, h3⟩ := fld 3 _ rfl
 obtain ⟨z4, h4⟩ := fld 4 _ rfl
 have h0 : DataW.trod enc Tryz.prog W 0 (fun _ => true) held m 30 ([c0, c1, c2, c3, c4].take (Tryz.prog.cellsOf 30)) = some z0 := h0
 have h1 : DataW.trod enc Tryz.prog W 0 (fun _ => true) held m 69 ([c1, c2, c3, c4].take (Tryz.prog.cellsOf 69)) = some z1 := h1
 have h2 : DataW.trod enc Tryz.prog W 0 (fun _ => true) held m 3 ([c2, c3, c4].take (Tryz.prog.cellsOf 3)) = some z2 := h2
 have h3 : DataW.trod enc Tryz.prog W 0 (fun _ => true) held m 3 ([c3, c4].take (Tryz.prog.cellsOf 3)) = some z3 := h3
 have h4 : DataW.trod enc Tryz.prog W 0 (fun _ => true) held m 30 ([c4].take (Tryz.prog.cellsOf 30)) = some z4 := h4
 rw [c3_] at h2 h3
 rw [e22] at h0 h4
 rw [e23] at h1
 obtain ⟨n2, hn2, _⟩ := DataW.trod_int u3T h2
 have en2 : c2 = .int .i64 n2 := by simpa using hn2
 obtain ⟨n3, hn3, _⟩ := DataW.trod_int u3T h3
 have en3 : c3 = .int .i64 n3 := by simpa using hn3
 obtain ⟨F0, sg, a0, r0⟩ := rd_I (c := c0) h0
 obtain ⟨F1, ns, hl, a1, r1⟩ := rd_LLt (c := c1) h1
 obtain ⟨F4, nt, a4, r4⟩ := rd_I (c := c4) h4
 exact ⟨F0 ++ (F1 ++ F4), sg, ns, n2, n3, nt, c0, c1, c4, hl, a0.app (a1.app a4), by rw [en2, en3], DT.R.mono (fun p hp => List.mem_append_left _ hp) _ _ r0, DT.R.mono (fun p hp => List.mem_append_right _ (List.mem_append_left _ hp)) _ _ r1, DT.R.mono (fun p hp => List.mem_append_right _ (List.mem_append_right _ hp)) _ _ r4⟩
theorem fourV {l : List Value} (h : l.length = 4) : ∃ a b c d, l = [a, b, c, d] := by
 match l, h with
 | [a, b, c, d], _ => exact ⟨a, b, c, d, rfl⟩
theorem rd_offer {H : Type} {enc : TypeId × Value → H} {W : World} {fuel : Nat} {held : Bool} {cs : List Value} {x : DataW H × List MemPlace} (h : DataW.trod enc Tryz.prog W 0 (fun _ => true) held fuel 73 cs = some x) :
  ∃ (F : List (Nat × List Value)) (p : Int) (us : List Int) (y z : Int) (y1 : Value), AtRest W F ∧ cs = [.int .i64 p, y1, .int .i64 y, .int .i64 z] ∧ DT.R F (.s (iD us) us.length 1) y1 := by
 obtain ⟨hlen, m, fld⟩ := trod_fields v73t [(3, 0), (30, 1), (3, 2), (3, 3)] (by kernel_rfl) h
 rw [show Tryz.prog.cellsOf 73 = 4 by kernel_rfl] at hlen
 obtain ⟨c0, c1, c2, c3, rfl⟩ := fourV hlen
 have e30 : Tryz.prog.cellsOf 30 = 1 := by kernel_rfl
 obtain ⟨z0, h0⟩ := fld 0 _ rfl
 obtain ⟨z1, h1⟩ := fld 1 _ rfl
 obtain ⟨z2, h2⟩ := fld 2 _ rfl
 obtain ⟨z3, h3⟩ := fld 3 _ rfl
 have h0 : DataW.trod enc Tryz.prog W 0 (fun _ => true) held m 3 ([c0, c1, c2, c3].take (Tryz.prog.cellsOf 3)) = some z0 := h0
 have h1 : DataW.trod enc Tryz.prog W 0 (fun _ => true) held m 30 ([c1, c2, c3].take (Tryz.prog.cellsOf 30)) = some z1 := h1
 have h2 : DataW.trod enc Tryz.prog W 0 (fun _ => true) held m 3 ([c2, c3].take (Tryz.prog.cellsOf 3)) = some z2 := h2
 have h3 : DataW.trod enc Tryz.prog W 0 (fun _ => true) held m 3 ([c3].take (Tryz.prog.cellsOf 3)) = some z3 := h3
 rw [c3_] at h0 h2 h3
 rw [e30] at h1
 obtain ⟨n0, hn0, _⟩ := DataW.trod_int u3T h0
 have en0 : c0 = .int .i64 n0 := by simpa using hn0
 obtain ⟨n2, hn2, _⟩ := DataW.trod_int u3T h2
 have en2 : c2 = .int .i64 n2 := by simpa using hn2
 obtain ⟨n3, hn3, _⟩ := DataW.trod_int u3T h3
 have en3 : c3 = .int .i64 n3 := by simpa using hn3
 obtain ⟨F1, us, a1, r1⟩ := rd_I (c := c1) h1
 exact ⟨F1, n0, us, n2, n3, c1, a1, by rw [en0, en2, en3], r1⟩
theorem gttCore : GttCore := by
 intro H enc W v0 v1 d0 d1 p0 p1 hL h0 h1 ⟨base, w0, w1⟩
 obtain ⟨hsz, hG⟩ := met_tables hL
 obtain ⟨f0, h0⟩ := h0
 obtain ⟨f1, h1⟩ := h1
 obtain ⟨q0, rfl⟩ := agg_of v71t w0
 obtain ⟨q1, rfl⟩ := agg_of v73t w1
 obtain ⟨F, sg, ns, mg, ms, nt, y0, y1, y4, hl, a0, e0, r0, r1, r4⟩ := rd_tones h0
 obtain ⟨F1, x, us, y, z, b1, a1, e1, s1⟩ := rd_offer h1
 have hk := grRun envOk (kAw envOk) sg ns mg ms nt x us y z hl
 have hargs : All2 (VR (m0 (F ++ F1))) [aR sg ns mg ms nt, .e (.agg [.v (.int .i64 x), .dp (.s (iD us) us.length 1), .v (.int .i64 y), .v (.int .i64 z)])] (#[.agg q0, .agg q1] : Array Value).toList := by
  refine ⟨⟨q0, rfl, ?_⟩, ⟨q1, rfl, ?_⟩, trivial⟩
  ·have e3 : q0.toList = [y0, y1, .int .i64 mg, .int .i64 ms, y4] := e0
   rw [e3]
   exact ⟨DT.R.mono (fun p hp => List.mem_append_left _ hp) _ _ r0, DT.R.mono (fun p hp => List.mem_append_left _ hp) _ _ r1, rfl, rfl, DT.R.mono (fun p hp => List.mem_append_left _ hp) _ _ r4, trivial⟩
  ·have e3 : q1.toList = [.int .i64 x, b1, .int .i64 y, .int .i64 z] := e1
   rw [e3]
   exact ⟨rfl, DT.R.mono (fun p hp => List.mem_append_right _ hp) _ _ s1, rfl, rfl, trivial⟩
 exact (hk _ _ _ _ hargs (hr0 W (a0.app a1)) hG).mono fun e W' ⟨y, he, m', hp⟩ => ⟨by
  have hy : y = .bool true := hp.val
  rw [he, hy], hp.below⟩
theorem toneGreatest : Rows.ToneGreatestCardSaid := gtt_card gttCore
end Go.Proofs.YtigdchbjmnbjlaaGreatDoor
end
