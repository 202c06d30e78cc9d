/-
  Part of the proof: SeNamI.
-/
import Derived.Test.YtdjjpjahlhdjnaaGreatDoorSeNamL

/-! SeNamI -/
section
open Go Go.Ev Go.RowKit Go.ChangeShapes Go.WideShapes
namespace Go.Proofs.YtdjjpjahlhdjnaaGreatDoor
set_option maxRecDepth 100000
set_option maxHeartbeats 20000000

theorem v3 : Tryz.prog.underlying 3 = some (.int .i64) := by kernel_rfl
theorem v9 : Tryz.prog.underlying 9 = some .string := by kernel_rfl
theorem v22 : Tryz.prog.underlying 22 = some (.array 4 3) := by kernel_rfl
theorem v23 : Tryz.prog.underlying 23 = some (.float .f32) := by kernel_rfl
theorem len4v {l : List Value} (h : l.length = 4) : ∃ a b c d, l = [a, b, c, d] := by
  match l, h with
  | [a, b, c, d], _ => exact ⟨a, b, c, d, rfl⟩
/-- four integers -/
theorem read_ints4 {H : Type} {enc : TypeId × Value → H} {P : Program} {W : World} {t e : TypeId} {fuel : Nat} {held : Bool} {base : Nat} {sp : Nat → Bool} {cs : List Value} {x : DataW H × List MemPlace} (ht : P.underlying t = some (.array 4 e)) (he : P.underlying e = some (.int .i64)) (hc : P.cellsOf e = 1) (hct : P.cellsOf t = 4)
    (h : DataW.trod enc P W base sp held fuel t cs = some x) : ∃ a b c d : Int, cs = [.int .i64 a, .int .i64 b, .int .i64 c, .int .i64 d] := by
  obtain ⟨xs, m, rfl, _, hlen, hn, hel⟩ := DataW.trod_array ht h
  rw [hct] at hlen
  have one : ∀ i, i < 4 → ∃ b : Int, cs[i]? = some (.int .i64 b) := fun i hi => by
    have h1 := hel i (by omega)
    rw [hc, Nat.mul_one, List.getElem?_eq_getElem (by omega)] at h1
    obtain ⟨b, hcell, _⟩ := DataW.trod_int he h1
    have e2 : ((cs.drop i).take 1)[0]? = some (.int .i64 b) := by rw [hcell]; rfl
    rw [List.getElem?_take, if_pos (by omega), List.getElem?_drop] at e2
    exact ⟨b, by simpa using e2⟩
  obtain ⟨a, h0⟩ := one 0 (by omega)
  obtain ⟨b, h1⟩ := one 1 (by omega)
  obtain ⟨c, h2⟩ := one 2 (by omega)
  obtain ⟨d, h3⟩ := one 3 (by omega)
  obtain ⟨x, y, z, u, rfl⟩ := len4v hlen
  have e0 : x = .int .i64 a := by simpa using h0
  have e1 : y = .int .i64 b := by simpa using h1
  have e2 : z = .int .i64 c := by simpa using h2
  have e3 : u = .int .i64 d := by simpa using h3
  exact ⟨a, b, c, d, by rw [e0, e1, e2, e3]⟩

theorem namCore : NamCore := by
  intro H enc W v0 v1 v2 d0 d1 d2 p0 p1 p2 hL h0 h1 h2 ⟨base, w0, w1, w2⟩
  have hblk : ∃ c ty fz, W.heap[4]? = some (.cells c ty fz) := by
    obtain ⟨_, c, t, fz, h, _⟩ := tables (base := 5) (Nat.le_refl _) hL 4 tabPow rfl
    exact ⟨c, t, fz, h⟩
  have hsz : 5 ≤ W.heap.size := by
    obtain ⟨c, t, fz, h⟩ := hblk
    have := (Array.getElem?_eq_some_iff.1 h).1
    omega
  have hG : GR E.gl W.heap.size W := tables hsz hL
  obtain ⟨k1, rfl⟩ : ∃ cs, v1 = .agg cs := by
    simp only [Value.okWide, v22] at w1
    obtain ⟨cs, h1, _⟩ := w1
    exact ⟨cs, h1⟩
  obtain ⟨f0, h0⟩ := h0
  obtain ⟨f1, h1⟩ := h1
  obtain ⟨f2, h2⟩ := h2
  obtain ⟨s, hs, _, _⟩ := DataW.trod_string v9 h0
  obtain rfl : v0 = .string s := by
    simp only [Value.okWide, v9] at w0
    cases v0 <;> simp_all [Value.cells, Cell.okWide, Cell.ok]
  obtain ⟨b, hb, _⟩ := trod_float v23 h2
  obtain rfl : v2 = .float .f32 b := by
    simp only [Value.okWide, v23] at w2
    cases v2 <;> simp_all [Value.cells, Cell.okWide, Cell.ok]
  obtain ⟨n0, n1, n2, n3, hmv⟩ := read_ints4 v22 v3 (by kernel_rfl) (by kernel_rfl) h1
  have hk := namRun envOk (kAw envOk) s n0 n1 n2 n3 b
  let m : M := { n := 0, ρ := fun _ => 0, κ := fun _ => 0, lo := 0, F := [] }
  have hH : HR m W.heap.size 0 [] W := ⟨rfl, Nat.le_refl _, Nat.le_refl _, fun b a hb => by simp at hb, fun b _ hb => by simp at hb, fun b b' hb => by simp at hb, Nat.le_refl _, fun p hp => by simp [m] at hp⟩
  have hargs : All2 (VR m) [.e (.one (.v (.string s))), .e (.agg [.v (.int .i64 n0), .v (.int .i64 n1), .v (.int .i64 n2), .v (.int .i64 n3)]), .e (.one (.v (.float .f32 b)))] (#[.string s, .agg k1, .float .f32 b] : Array Value).toList := by
    refine ⟨rfl, ⟨k1, rfl, ?_⟩, rfl, trivial⟩
    have e : k1.toList = [.int .i64 n0, .int .i64 n1, .int .i64 n2, .int .i64 n3] := hmv
    rw [e]
    exact ⟨rfl, rfl, rfl, rfl, trivial⟩
  exact (hk _ _ _ _ hargs hH hG).mono fun e W' ⟨y, he, m', hp⟩ => ⟨by
    have hy : y = .bool true := hp.val
    rw [he, hy], hp.below⟩

/-- IT HOLDS: the law CarrierNames returns true, whatever string, numbers and sample come in. -/
theorem carrierNames : Rows.CarrierNamesCardSaid := nam_card namCore
end Go.Proofs.YtdjjpjahlhdjnaaGreatDoor

end
