/-
  Part of the proof: SePowI.
-/
import Derived.Test.YtgplabfjldndgaaGreatDoorSePowL

/-! SePowI -/
section
open Go Go.Ev Go.RowKit Go.ChangeShapes Go.WideShapes
namespace Go.Proofs.YtgplabfjldndgaaGreatDoor
set_option maxRecDepth 100000
set_option maxHeartbeats 20000000

theorem v3 : Tryz.prog.underlying 3 = some (.int .i64) := by kernel_rfl
theorem v4 : Tryz.prog.underlying 4 = some .bool := by kernel_rfl
theorem v23 : Tryz.prog.underlying 23 = some (.float .f32) := by kernel_rfl
theorem v42 : Tryz.prog.underlying 42 = some (.slice 23) := by kernel_rfl
theorem v43 : Tryz.prog.underlying 43 = some (.array 3 4) := by kernel_rfl
theorem len3v {l : List Value} (h : l.length = 3) : ∃ a b c, l = [a, b, c] := by
  match l, h with
  | [a, b, c], _ => exact ⟨a, b, c, rfl⟩
/-- three bools -/
theorem read_bools {H : Type} {enc : TypeId × Value → H} {P : Program} {W : World} {t e : TypeId} {fuel : Nat} {held : Bool} {base : Nat} {sp : Nat → Bool} {cs : List Value} {x : DataW H × List MemPlace} (ht : P.underlying t = some (.array 3 e)) (he : P.underlying e = some .bool) (hc : P.cellsOf e = 1) (hct : P.cellsOf t = 3)
    (h : DataW.trod enc P W base sp held fuel t cs = some x) : ∃ a b c : Bool, cs = [.bool a, .bool b, .bool c] := by
  obtain ⟨xs, m, rfl, _, hlen, hn, hel⟩ := DataW.trod_array ht h
  rw [hct] at hlen
  have one : ∀ i, i < 3 → ∃ b : Bool, cs[i]? = some (.bool b) := fun i hi => by
    have h1 := hel i (by omega)
    rw [hc, Nat.mul_one, List.getElem?_eq_getElem (by omega)] at h1
    obtain ⟨b, hcell, _⟩ := DataW.trod_bool he h1
    have e2 : ((cs.drop i).take 1)[0]? = some (.bool b) := by rw [hcell]; rfl
    rw [List.getElem?_take, if_pos (by omega), List.getElem?_drop] at e2
    exact ⟨b, by simpa using e2⟩
  obtain ⟨a, h0⟩ := one 0 (by omega)
  obtain ⟨b, h1⟩ := one 1 (by omega)
  obtain ⟨c, h2⟩ := one 2 (by omega)
  obtain ⟨x, y, z, rfl⟩ := len3v hlen
  have e0 : x = .bool a := by simpa using h0
  have e1 : y = .bool b := by simpa using h1
  have e2 : z = .bool c := by simpa using h2
  exact ⟨a, b, c, by rw [e0, e1, e2]⟩

theorem powCore : PowCore := by
  intro H enc W v0 v1 v2 d0 d1 d2 p0 p1 p2 hL h0 h1 h2 ⟨base, w0, w1, w2⟩
  have hblk : ∃ c ty fz, W.heap[4]? = some (.cells c ty fz) := by
    obtain ⟨_, c, t, fz, h, _⟩ := tables (base := 5) (Nat.le_refl _) hL 4 tabPow rfl
    exact ⟨c, t, fz, h⟩
  have hsz : 5 ≤ W.heap.size := by
    obtain ⟨c, t, fz, h⟩ := hblk
    have := (Array.getElem?_eq_some_iff.1 h).1
    omega
  have hG : GR E.gl W.heap.size W := tables hsz hL
  obtain ⟨a0, l0, c0, rfl⟩ := okWide_slice v42 w0
  obtain ⟨k1, rfl⟩ : ∃ cs, v1 = .agg cs := by
    simp only [Value.okWide, v43] at w1
    obtain ⟨cs, h1, _⟩ := w1
    exact ⟨cs, h1⟩
  obtain ⟨f0, h0⟩ := h0
  obtain ⟨f1, h1⟩ := h1
  obtain ⟨f2, h2⟩ := h2
  obtain ⟨z, hz, _⟩ := DataW.trod_int v3 h2
  obtain rfl : v2 = .int .i64 z := by
    simp only [Value.okWide, v3] at w2
    cases v2 <;> simp_all [Value.cells, Cell.okWide, Cell.ok]
  obtain ⟨F, ds, hF, hRl, _, ws, _, _, rfl⟩ := rd_floats v42 v23 (by kernel_rfl) ⟨a0, l0, c0, rfl⟩ h0
  have hR : DT.R F (dF ws) (.slice a0 l0 c0) := by
    simp only [DT.Rl] at hRl
    obtain ⟨y, r, e, hy, _⟩ := hRl
    have e2 : y = .slice a0 l0 c0 := (List.cons.inj e).1.symm
    rw [← e2]; exact hy
  obtain ⟨m0, m1, m2, hmv⟩ := read_bools v43 v4 (by kernel_rfl) (by kernel_rfl) h1
  have hk := powRun envOk (kAw envOk) ws m0 m1 m2 z
  let m : M := { n := 0, ρ := fun _ => 0, κ := fun _ => 0, lo := 0, F := F }
  have hH : HR m W.heap.size 0 [] W := ⟨rfl, Nat.le_refl _, Nat.le_refl _, fun b a hb => by simp at hb, fun b _ hb => by simp at hb, fun b b' hb => by simp at hb, Nat.le_refl _, fun p hp => ⟨hF p hp, fun b a _ hb => by simp at hb⟩⟩
  have hargs : All2 (VR m) [.e (.one (dF ws).ac), .e (.agg [.v (.bool m0), .v (.bool m1), .v (.bool m2)]), iI z] (#[.slice a0 l0 c0, .agg k1, .int .i64 z] : Array Value).toList := by
    refine ⟨hR, ⟨k1, rfl, ?_⟩, rfl, trivial⟩
    have e : k1.toList = [.bool m0, .bool m1, .bool m2] := hmv
    rw [e]
    exact ⟨rfl, rfl, rfl, trivial⟩
  exact (hk _ _ _ _ hargs hH hG).mono fun e W' ⟨y, he, m', hp⟩ => ⟨by
    have hy : y = .bool true := hp.val
    rw [he, hy], hp.below⟩

/-- IT HOLDS: the law CarrierPowers returns true, whatever samples, mask and limit come in. -/
theorem carrierPowers : Rows.CarrierPowersCardSaid := pow_card powCore
end Go.Proofs.YtgplabfjldndgaaGreatDoor

end
