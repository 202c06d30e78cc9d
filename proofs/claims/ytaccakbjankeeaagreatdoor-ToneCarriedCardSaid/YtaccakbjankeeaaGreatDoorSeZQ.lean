/-
  Part of the proof: SeCarI.
-/
import Derived.Test.YtaccakbjankeeaaGreatDoorSeCarL

/-! SeCarI -/
section
open Go Go.Ev Go.RowKit Go.ChangeShapes Go.WideShapes
namespace Go.Proofs.YtaccakbjankeeaaGreatDoor
set_option maxRecDepth 100000
set_option maxHeartbeats 20000000
theorem v49b : Tryz.prog.underlying 49 = some (.slice 4) := by kernel_rfl
theorem v4b : Tryz.prog.underlying 4 = some .bool := by kernel_rfl
theorem bools_flat : ∀ {rows : List (List DT)}, (∀ r ∈ rows, r.length = 1 ∧ ∃ b : Bool, r = [.v (.bool b)]) → ∃ l : List Bool, l.length = rows.length ∧ rows.flatten = bbD l
 | [], _ => ⟨[], rfl, rfl⟩
 | r :: rows, h => by
  obtain ⟨l, h1, h2⟩ := bools_flat (fun s hs => h s (List.mem_cons_of_mem _ hs))
  obtain ⟨_, b, rfl⟩ := h r (List.mem_cons_self ..)
  exact ⟨b :: l, by simp [h1], by rw [List.flatten_cons, h2]; rfl⟩
theorem rd_BB {H : Type} {enc : TypeId × Value → H} {W : World} {fuel : Nat} {held : Bool} {c : Value} {x : DataW H × List MemPlace} (h : DataW.trod enc Tryz.prog W 0 (fun _ => true) held fuel 49 [c] = some x) : ∃ (F : List (Nat × List Value)) (l : List Bool), AtRest W F ∧ DT.R F (.s (bbD l) l.length 1) c := by
 obtain ⟨F, ds, g1, g2, _, rows, _, h5, rfl⟩ := rd_slice (Q := fun ds => ∃ b : Bool, ds = [.v (.bool b)]) v49b (by kernel_rfl : Tryz.prog.cellsOf 4 = 1) (by omega) (fun {_ _ _} hh => rd_bool v4b hh) (sl_of v49b h) h
 obtain ⟨l, k1, k2⟩ := bools_flat h5
 rw [k2, ← k1] at g2
 simp only [DT.Rl] at g2
 obtain ⟨y, rest, e', hy, _⟩ := g2
 have ey : c = y := (List.cons.inj e').1
 exact ⟨F, l, g1, by rw [ey]; exact hy⟩
theorem v103c : Tryz.prog.underlying 103 = some (.array 3 5) := by kernel_rfl
theorem v5c : Tryz.prog.underlying 5 = some (.int .u8) := by kernel_rfl
theorem c5c : Tryz.prog.cellsOf 5 = 1 := by kernel_rfl
theorem agg_arr {W : World} {b t n el : Nat} {v : Value} (hu : Tryz.prog.underlying t = some (.array n el)) (h : Value.okWide Tryz.prog W .any b t v) : ∃ cs, v = .agg cs := by
 simp only [Value.okWide, hu] at h
 obtain ⟨cs, h1, _⟩ := h
 exact ⟨cs, h1⟩
theorem rd_u3 {H : Type} {enc : TypeId × Value → H} {W : World} {fuel : Nat} {held : Bool} {cs : List Value} {x : DataW H × List MemPlace} (h : DataW.trod enc Tryz.prog W 0 (fun _ => true) held fuel 103 cs = some x) : ∃ p q r : Int, cs = [.int .u8 p, .int .u8 q, .int .u8 r] ∧ (0 ≤ p ∧ p ≤ 255) ∧ (0 ≤ q ∧ q ≤ 255) ∧ 0 ≤ r ∧ r ≤ 255 := by
 obtain ⟨xs, m, rfl, _, hlen, hn, hel⟩ := DataW.trod_array v103c h
 rw [show Tryz.prog.cellsOf 103 = 3 by kernel_rfl] at hlen
 rw [c5c] at hel
 have e3 : IntKind.u8.min = 0 := by decide
 have e4 : IntKind.u8.max = 255 := by decide
 match cs, hlen with
 | [a, b, c], _ =>
  have one : ∀ i (hi : i < 3) z, (([a, b, c] : List Value).drop (i * 1)).take 1 = [z] → ∃ r : Int, z = .int .u8 r ∧ 0 ≤ r ∧ r ≤ 255 := fun i hi z hz => by
   have h1 := hel i hi
   rw [hz, List.getElem?_eq_getElem (by omega)] at h1
   obtain ⟨r, hr, _, hw⟩ := DataW.trod_int v5c h1
   have hw' : decide (IntKind.u8.min ≤ r) && decide (r ≤ IntKind.u8.max) := hw
   rw [Bool.and_eq_true, decide_eq_true_eq, decide_eq_true_eq] at hw'
   exact ⟨r, by simpa using hr, by omega, by omega⟩
  obtain ⟨p, rfl, hp⟩ := one 0 (by omega) a rfl
  obtain ⟨q, rfl, hq⟩ := one 1 (by omega) b rfl
  obtain ⟨r, rfl, hr⟩ := one 2 (by omega) c rfl
  exact ⟨p, q, r, rfl, hp, hq, hr⟩
theorem carCore : CarCore := by
 intro H enc W v0 v1 v2 d0 d1 d2 p0 p1 p2 hL h0 h1 h2 ⟨base, w0, w1, w2⟩
 obtain ⟨hsz, hG⟩ := met_tables hL
 obtain ⟨f0, h0⟩ := h0
 obtain ⟨f1, h1⟩ := h1
 obtain ⟨f2, h2⟩ := h2
 obtain ⟨q2, rfl⟩ := agg_arr v103c w2
 obtain ⟨p, ln, cp, hs⟩ := sl_of v22_ h0
 obtain rfl : v0 = .slice p ln cp := by
  simp only [Value.okWide, v22_] at w0
  cases v0 <;> simp_all [Value.cells, Cell.okWide, Cell.ok]
 obtain ⟨p', ln', cp', hs'⟩ := sl_of v49b h1
 obtain rfl : v1 = .slice p' ln' cp' := by
  simp only [Value.okWide, v49b] at w1
  cases v1 <;> simp_all [Value.cells, Cell.okWide, Cell.ok]
 obtain ⟨F0, xs, a0, r0⟩ := rd_I (c := .slice p ln cp) h0
 obtain ⟨F1, l, a1, r1⟩ := rd_BB (c := .slice p' ln' cp') h1
 obtain ⟨xa, xb, xc, e2, ha, hb, hc⟩ := rd_u3 h2
 have hk := carRun envOk (kAw envOk) xa xb xc xs l ha hb hc
 have hargs : All2 (VR (m0 (F0 ++ F1))) [dI xs, dB l, .e (.agg [.v (.int .u8 xa), .v (.int .u8 xb), .v (.int .u8 xc)])] (#[.slice p ln cp, .slice p' ln' cp', .agg q2] : Array Value).toList := by
  refine ⟨DT.R.mono (fun p hp => List.mem_append_left _ hp) _ _ r0, DT.R.mono (fun p hp => List.mem_append_right _ hp) _ _ r1, ⟨q2, rfl, ?_⟩, trivial⟩
  have e3 : q2.toList = [.int .u8 xa, .int .u8 xb, .int .u8 xc] := e2
  rw [e3]
  exact ⟨rfl, rfl, rfl, trivial⟩
 exact (hk _ _ _ _ hargs (hr0 W (a0.app a1)) hG).mono fun e W' ⟨y, he, m', hp⟩ => ⟨by
  have hy : y = .bool true := hp.val
  rw [he, hy], hp.below⟩
theorem toneCarried : Rows.ToneCarriedCardSaid := car_card carCore
end Go.Proofs.YtaccakbjankeeaaGreatDoor
end
