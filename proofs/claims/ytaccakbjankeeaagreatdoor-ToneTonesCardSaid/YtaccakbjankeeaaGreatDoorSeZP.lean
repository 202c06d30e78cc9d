/-
  Part of the proof: SeTonI.
-/
import Derived.Test.YtaccakbjankeeaaGreatDoorSeTonL

/-! SeTonI -/
section
open Go Go.Ev Go.RowKit Go.ChangeShapes Go.WideShapes
namespace Go.Proofs.YtaccakbjankeeaaGreatDoor
set_option maxRecDepth 100000
set_option maxHeartbeats 20000000
theorem v23t : Tryz.prog.underlying 23 = some (.slice 22) := by kernel_rfl
theorem v25t : Tryz.prog.underlying 25 = some (.struct (Tryz.prog.fieldsOf 25)) := by kernel_rfl
theorem v26t : Tryz.prog.underlying 26 = some (.array 3 3) := by kernel_rfl
theorem rows_flat_t : ∀ {rows : List (List DT)}, (∀ r ∈ rows, r.length = 1 ∧ ∃ us : List Int, r = [.s (iD us) us.length 1]) → ∃ L : List (List Int), L.length = rows.length ∧ rows.flatten = rD L
 | [], _ => ⟨[], rfl, rfl⟩
 | r :: rows, h => by
  obtain ⟨L, h1, h2⟩ := rows_flat_t (fun s hs => h s (List.mem_cons_of_mem _ hs))
  obtain ⟨_, us, rfl⟩ := h r (List.mem_cons_self ..)
  exact ⟨us :: L, by simp [h1], by rw [List.flatten_cons, h2]; rfl⟩
theorem rd_LLt {H : Type} {enc : TypeId × Value → H} {W : World} {fuel : Nat} {held : Bool} {c : Value} {x : DataW H × List MemPlace} (h : DataW.trod enc Tryz.prog W 0 (fun _ => true) held fuel 23 [c] = some x) : ∃ (F : List (Nat × List Value)) (L : List (List Int)), L.length ≤ maxLen ∧ AtRest W F ∧ DT.R F (.s (rD L) L.length 1) c := by
 obtain ⟨F, ds, g1, g2, _, rows, g3, h5, rfl⟩ := rd_slice (Q := fun ds => ∃ us : List Int, ds = [.s (iD us) us.length 1]) v23t (by kernel_rfl : Tryz.prog.cellsOf 22 = 1) (by omega) (fun {_ _ _} hh => by
  obtain ⟨F, ds, g1, g2, g3, us, _, _, g4⟩ := rd_ints v22_ u3T c3_ (sl_of v22_ hh) hh
  exact ⟨F, ds, g1, g2, g3, us, g4⟩) (sl_of v23t h) h
 obtain ⟨L, k1, k2⟩ := rows_flat_t h5
 rw [k2, ← k1] at g2
 simp only [DT.Rl] at g2
 obtain ⟨y, rest, e', hy, _⟩ := g2
 have ey : c = y := (List.cons.inj e').1
 exact ⟨F, L, by omega, g1, by rw [ey]; exact hy⟩
theorem fiveV {l : List Value} (h : l.length = 5) : ∃ a b c d e, l = [a, b, c, d, e] := by
 match l, h with
 | [a, b, c, d, e], _ => exact ⟨a, b, c, d, e, rfl⟩
theorem rd_tones {H : Type} {enc : TypeId × Value → H} {W : World} {fuel : Nat} {held : Bool} {cs : List Value} {x : DataW H × List MemPlace} (h : DataW.trod enc Tryz.prog W 0 (fun _ => true) held fuel 25 cs = some x) :
  ∃ (F : List (Nat × List Value)) (sg : List Int) (ns : List (List Int)) (mg ms : Int) (nt : List Int) (y0 y1 y4 : Value), ns.length ≤ maxLen ∧ AtRest W F ∧ cs = [y0, y1, .int .i64 mg, .int .i64 ms, y4] ∧ DT.R F (.s (iD sg) sg.length 1) y0 ∧ DT.R F (.s (rD ns) ns.length 1) y1 ∧ DT.R F (.s (iD nt) nt.length 1) y4 := by
 obtain ⟨hlen, m, fld⟩ := trod_fields v25t [(22, 0), (23, 1), (3, 2), (3, 3), (22, 4)] (by kernel_rfl) h
 rw [show Tryz.prog.cellsOf 25 = 5 by kernel_rfl] at hlen
 obtain ⟨c0, c1, c2, c3, c4, rfl⟩ := fiveV hlen
 have e22 : Tryz.prog.cellsOf 22 = 1 := by kernel_rfl
 have e23 : Tryz.prog.cellsOf 23 = 1 := by kernel_rfl
 obtain ⟨z0, h0⟩ := fld 0 _ rfl
 obtain ⟨z1, h1⟩ := fld 1 _ rfl
 obtain ⟨z2, h2⟩ := fld 2 _ rfl
 obtain ⟨z3, h3⟩ := fld 3 _ rfl
 obtain ⟨z4, h4⟩ := fld 4 _ rfl
 have h0 : DataW.trod enc Tryz.prog W 0 (fun _ => true) held m 22 ([c0, c1, c2, c3, c4].take (Tryz.prog.cellsOf 22)) = some z0 := h0
 have h1 : DataW.trod enc Tryz.prog W 0 (fun _ => true) held m 23 ([c1, c2, c3, c4].take (Tryz.prog.cellsOf 23)) = some z1 := h1
 have h2 : DataW.trod enc Tryz.prog W 0 (fun _ => true) held m 3 ([c2, c3, c4].take (Tryz.prog.cellsOf 3)) = some z2 := h2
 have h3 : DataW.trod enc Tryz.prog W 0 (fun _ => true) held m 3 ([c3, c4].take (Tryz.prog.cellsOf 3)) = some z3 := h3
 have h4 : DataW.trod enc Tryz.prog W 0 (fun _ => true) held m 22 ([c4].take (Tryz.prog.cellsOf 22)) = some z4 := h4
 rw [c3_] at h2 h3
 rw [e22] at h0 h4
 rw [e23] at h1
 obtain ⟨n2, hn2, _⟩ := DataW.trod_int u3T h2
 have en2 : c2 = .int .i64 n2 := by simpa using hn2
 obtain ⟨n3, hn3, _⟩ := DataW.trod_int u3T h3
 have en3 : c3 = .int .i64 n3 := by simpa using hn3
 obtain ⟨F0, sg, a0, r0⟩ := rd_I (c := c0) h0
 obtain ⟨F1, ns, hl, a1, r1⟩ := rd_LLt (c := c1) h1
 obtain ⟨F4, nt, a4, r4⟩ := rd_I (c := c4) h4
 exact ⟨F0 ++ (F1 ++ F4), sg, ns, n2, n3, nt, c0, c1, c4, hl, a0.app (a1.app a4), by rw [en2, en3], DT.R.mono (fun p hp => List.mem_append_left _ hp) _ _ r0, DT.R.mono (fun p hp => List.mem_append_right _ (List.mem_append_left _ hp)) _ _ r1, DT.R.mono (fun p hp => List.mem_append_right _ (List.mem_append_right _ hp)) _ _ r4⟩
theorem arr_of {W : World} {b t n e : Nat} {v : Value} (hu : Tryz.prog.underlying t = some (.array n e)) (h : Value.okWide Tryz.prog W .any b t v) : ∃ cs, v = .agg cs := by
 cases v with
 | agg cs => exact ⟨cs, rfl⟩
 | _ => simp [Value.okWide, hu] at h
theorem rd_i3 {H : Type} {enc : TypeId × Value → H} {W : World} {fuel : Nat} {held : Bool} {cs : List Value} {x : DataW H × List MemPlace} (h : DataW.trod enc Tryz.prog W 0 (fun _ => true) held fuel 26 cs = some x) : ∃ a b c : Int, cs = [.int .i64 a, .int .i64 b, .int .i64 c] := by
 obtain ⟨xs, m, rfl, _, hlen, hn, hel⟩ := DataW.trod_array v26t h
 rw [show Tryz.prog.cellsOf 26 = 3 by kernel_rfl] at hlen
 rw [c3_] at hel
 match cs, hlen with
 | [a, b, c], _ =>
  have one : ∀ i (hi : i < 3) z, (([a, b, c] : List Value).drop (i * 1)).take 1 = [z] → ∃ r : Int, z = .int .i64 r := fun i hi z hz => by
   have h1 := hel i hi
   rw [hz, List.getElem?_eq_getElem (by omega)] at h1
   obtain ⟨r, hr, _⟩ := DataW.trod_int u3T h1
   exact ⟨r, by simpa using hr⟩
  obtain ⟨p, rfl⟩ := one 0 (by omega) a rfl
  obtain ⟨q, rfl⟩ := one 1 (by omega) b rfl
  obtain ⟨r, rfl⟩ := one 2 (by omega) c rfl
  exact ⟨p, q, r, rfl⟩
theorem tonCore : TonCore := by
 intro H enc W v0 v1 d0 d1 p0 p1 hL h0 h1 ⟨base, w0, w1⟩
 obtain ⟨hsz, hG⟩ := met_tables hL
 obtain ⟨f0, h0⟩ := h0
 obtain ⟨f1, h1⟩ := h1
 obtain ⟨q0, rfl⟩ := agg_of v25t w0
 obtain ⟨q1, rfl⟩ := arr_of v26t w1
 obtain ⟨F, sg, ns, mg, ms, nt, y0, y1, y4, hl, a0, e0, r0, r1, r4⟩ := rd_tones h0
 obtain ⟨x, y, w, e1⟩ := rd_i3 h1
 have hk := tonRun envOk (kAw envOk) sg ns mg ms nt x y w hl
 have hargs : All2 (VR (m0 F)) [aR sg ns mg ms nt, .e (.agg [.v (.int .i64 x), .v (.int .i64 y), .v (.int .i64 w)])] (#[.agg q0, .agg q1] : Array Value).toList := by
  refine ⟨⟨q0, rfl, ?_⟩, ⟨q1, rfl, ?_⟩, trivial⟩
  ·have e3 : q0.toList = [y0, y1, .int .i64 mg, .int .i64 ms, y4] := e0
   rw [e3]
   exact ⟨r0, r1, rfl, rfl, r4, trivial⟩
  ·have e3 : q1.toList = [.int .i64 x, .int .i64 y, .int .i64 w] := e1
   rw [e3]
   exact ⟨rfl, rfl, rfl, trivial⟩
 exact (hk _ _ _ _ hargs (hr0 W a0) hG).mono fun e W' ⟨y, he, m', hp⟩ => ⟨by
  have hy : y = .bool true := hp.val
  rw [he, hy], hp.below⟩
theorem toneTones : Rows.ToneTonesCardSaid := ton_card tonCore
end Go.Proofs.YtaccakbjankeeaaGreatDoor
end
