/-
  Part of the proof: SePrfI.
-/
import Derived.Test.YtkflndifhonbcaaGreatDoorSePrfL

/-! SePrfI -/
section
open Go Go.Ev Go.RowKit Go.ChangeShapes Go.WideShapes
namespace Go.Proofs.YtkflndifhonbcaaGreatDoor
set_option maxRecDepth 100000
set_option maxHeartbeats 20000000
theorem v58 : Tryz.prog.underlying 58 = some (.struct (Tryz.prog.fieldsOf 58)) := by kernel_rfl
theorem v60 : Tryz.prog.underlying 60 = some (.struct (Tryz.prog.fieldsOf 60)) := by kernel_rfl
theorem v56 : Tryz.prog.underlying 56 = some (.slice 60) := by kernel_rfl
theorem twoV {l : List Value} (h : l.length = 2) : ∃ a b, l = [a, b] := by
 match l, h with
 | [a, b], _ => exact ⟨a, b, rfl⟩
theorem Rl_iD (F : List (Nat × List Value)) : ∀ l : List Int, DT.Rl F (iD l) (l.map (.int .i64))
 | [] => by simp [DT.Rl]
 | x :: l => by
  simp only [iD, List.map_cons, DT.Rl]
  exact ⟨_, _, rfl, by simp [DT.R], Rl_iD F l⟩
theorem rd_entry {H : Type} {enc : TypeId × Value → H} {W : World} {fuel : Nat} {held : Bool} {cs : List Value} {x : DataW H × List MemPlace} (h : DataW.trod enc Tryz.prog W 0 (fun _ => true) held fuel 60 cs = some x) : Rd W cs fun ds => ∃ l : List Int, l.length = 5 ∧ ds = iD l := by
 obtain ⟨l, hl, rfl⟩ := read_struct (n := 5) v60 u3_ c3_ (by kernel_rfl) (by kernel_rfl) h
 exact ⟨[], iD l, AtRest.nil W, Rl_iD _ l, by simp, l, hl, rfl⟩
theorem fives_flatten : ∀ {rows : List (List DT)}, (∀ r ∈ rows, r.length = 5 ∧ ∃ l : List Int, l.length = 5 ∧ r = iD l) → ∃ L : List Int, L.length = rows.length * 5 ∧ rows.flatten = iD L
 | [], _ => ⟨[], rfl, rfl⟩
 | r :: rows, h => by
  obtain ⟨L, h1, h2⟩ := fives_flatten (fun s hs => h s (List.mem_cons_of_mem _ hs))
  obtain ⟨_, l, hl, rfl⟩ := h r (List.mem_cons_self ..)
  exact ⟨l ++ L, by rw [List.length_append, hl, h1, List.length_cons]; omega, by rw [List.flatten_cons, h2]; simp⟩
theorem rd_entries {H : Type} {enc : TypeId × Value → H} {W : World} {fuel : Nat} {held : Bool} {cs : List Value} {x : DataW H × List MemPlace} (h : DataW.trod enc Tryz.prog W 0 (fun _ => true) held fuel 56 cs = some x) :
  Rd W cs fun ds => ∃ (L : List Int) (n : Nat), L.length = n * 5 ∧ ds = [.s (iD L) n 5] := by
 have hc : ∃ a len cap, cs = [.slice a len cap] := by
  rcases DataW.trod_slice v56 h with ⟨e, _⟩ | ⟨a, len, cap, _, _, _, _, e, _⟩
  ·exact ⟨_, _, _, e⟩
  ·exact ⟨_, _, _, e⟩
 obtain ⟨F, ds, h1, h2, h3, rows, h4, h5, h6⟩ := rd_slice (Q := fun ds => ∃ l : List Int, l.length = 5 ∧ ds = iD l) v56 (by kernel_rfl : Tryz.prog.cellsOf 60 = 5) (by omega) (fun {_ _ _} hh => rd_entry hh) hc h
 obtain ⟨L, k1, k2⟩ := fives_flatten h5
 exact ⟨F, ds, h1, h2, h3, L, rows.length, k1, by rw [h6, k2]⟩
theorem rd_profile {H : Type} {enc : TypeId × Value → H} {W : World} {fuel : Nat} {held : Bool} {cs : List Value} {x : DataW H × List MemPlace} (h : DataW.trod enc Tryz.prog W 0 (fun _ => true) held fuel 58 cs = some x) :
  ∃ (F : List (Nat × List Value)) (r : Int) (L : List Int) (n : Nat) (y : Value), AtRest W F ∧ L.length = n * 5 ∧ cs = [.int .i64 r, y] ∧ DT.R F (.s (iD L) n 5) y := by
 obtain ⟨xs, m, rfl, _, hlen, hn, hel⟩ := DataW.trod_struct v58 h
 have hct : Tryz.prog.cellsOf 58 = 2 := by kernel_rfl
 have hfs : (Tryz.prog.fieldsOf 58).toList.map (fun f => (f.type, f.offset)) = [(3, 0), (56, 1)] := by kernel_rfl
 rw [hct] at hlen
 obtain ⟨c0, c1, rfl⟩ := twoV hlen
 generalize Tryz.prog.fieldsOf 58 = fs at hfs hn hel
 have hfl : fs.size = 2 := by have := congrArg List.length hfs; simpa using this
 have hxl : xs.length = 2 := by omega
 have fld : ∀ i (hi : i < 2), ∃ y, DataW.trod enc Tryz.prog W 0 (fun _ => true) held m (([(3, 0), (56, 1)] : List (Nat × Nat))[i]'(by simpa using hi)).1 (([c0, c1].drop (([(3, 0), (56, 1)] : List (Nat × Nat))[i]'(by simpa using hi)).2).take (Tryz.prog.cellsOf (([(3, 0), (56, 1)] : List (Nat × Nat))[i]'(by simpa using hi)).1)) = some y := fun i hi => by
  have hf : fs[i]? = some fs[i] := Array.getElem?_eq_getElem (by omega)
  have e : (fs.toList.map (fun f => (f.type, f.offset)))[i]? = some (([(3, 0), (56, 1)] : List (Nat × Nat))[i]'(by simpa using hi)) := by rw [hfs]; exact List.getElem?_eq_getElem _
  rw [List.getElem?_map, show fs.toList[i]? = some fs[i] by rw [← hf]; simp] at e
  simp only [Option.map_some, Option.some.injEq] at e
  have h1 := hel i fs[i] hf
  rw [List.getElem?_eq_getElem (by omega)] at h1
  rw [← e]
  exact ⟨_, h1⟩
 obtain ⟨y0, h0⟩ := fld 0 (by omega)
 obtain ⟨y1, h1⟩ := fld 1 (by omega)
 have e3 : Tryz.prog.cellsOf 56 = 1 := by kernel_rfl
 have h0 : DataW.trod enc Tryz.prog W 0 (fun _ => true) held m 3 ([c0, c1].take (Tryz.prog.cellsOf 3)) = some y0 := h0
 have h1 : DataW.trod enc Tryz.prog W 0 (fun _ => true) held m 56 ([c1].take (Tryz.prog.cellsOf 56)) = some y1 := h1
 rw [c3_] at h0
 rw [e3] at h1
 obtain ⟨r, hr, _⟩ := DataW.trod_int u3_ h0
 have er : c0 = .int .i64 r := by simpa using hr
 obtain ⟨F, ds, k1, k2, _, L, n, k4, rfl⟩ := rd_entries h1
 simp only [DT.Rl] at k2
 obtain ⟨y, rest, e, hy, _⟩ := k2
 have ey : c1 = y := (List.cons.inj e).1
 exact ⟨F, r, L, n, c1, k1, k4, by rw [er], by rw [ey]; exact hy⟩
theorem prfCore : PrfCore := by
 intro H enc W v0 v1 d0 d1 p0 p1 hL h0 h1 ⟨base, w0, w1⟩
 obtain ⟨hsz, hG⟩ := met_tables hL
 obtain ⟨f0, h0⟩ := h0
 obtain ⟨f1, h1⟩ := h1
 obtain ⟨k0, rfl⟩ := agg_of v58 w0
 obtain ⟨k1, rfl⟩ := agg_of v60 w1
 obtain ⟨F, r, L, n, yv, hF, hLn, e0, hR⟩ := rd_profile h0
 obtain ⟨l1, hl1, e1⟩ := read_struct (n := 5) v60 u3_ c3_ (by kernel_rfl) (by kernel_rfl) h1
 obtain ⟨a, b, c, d, e, rfl⟩ := five hl1
 have hk := prfRun envOk (kAw envOk) r L n hLn a b c d e
 have hargs : All2 (VR (m0 F)) [.e (.agg [.v (.int .i64 r), .dp (.s (iD L) n 5)]), .e (.agg [.v (.int .i64 a), .v (.int .i64 b), .v (.int .i64 c), .v (.int .i64 d), .v (.int .i64 e)])] (#[.agg k0, .agg k1] : Array Value).toList := by
  refine ⟨⟨k0, rfl, ?_⟩, ⟨k1, rfl, ?_⟩, trivial⟩
  ·have e : k0.toList = [.int .i64 r, yv] := e0
   rw [e]
   exact ⟨rfl, hR, trivial⟩
  ·have e' : k1.toList = [.int .i64 a, .int .i64 b, .int .i64 c, .int .i64 d, .int .i64 e] := e1
   rw [e']
   exact ⟨rfl, rfl, rfl, rfl, rfl, trivial⟩
 exact (hk _ _ _ _ hargs (hr0 W hF) hG).mono fun e W' ⟨y, he, m', hp⟩ => ⟨by
  have hy : y = .bool true := hp.val
  rw [he, hy], hp.below⟩
theorem meterProfiles : Rows.MeterProfilesCardSaid := prf_card prfCore
end Go.Proofs.YtkflndifhonbcaaGreatDoor
end
