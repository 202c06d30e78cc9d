/-
  Part of the proof: SeSlwI.
-/
import Derived.Test.YtbpghjmnbnknmaaGreatDoorSeSlwL

/-! SeSlwI -/
section
open Go Go.Ev Go.RowKit Go.ChangeShapes Go.WideShapes
namespace Go.Proofs.YtbpghjmnbnknmaaGreatDoor
set_option maxRecDepth 100000
set_option maxHeartbeats 20000000

theorem v131 : Tryz.prog.underlying 131 = some (.array 4 129) := by kernel_rfl
theorem v129 : Tryz.prog.underlying 129 = some (.int .u16) := by kernel_rfl
theorem len4v {l : List Value} (h : l.length = 4) : ∃ a b c d, l = [a, b, c, d] := by
  match l, h with
  | [a, b, c, d], _ => exact ⟨a, b, c, d, rfl⟩
/-- four numbers of two bytes -/
theorem read_u16s {H : Type} {enc : TypeId × Value → H} {P : Program} {W : World} {t e : TypeId} {fuel : Nat} {held : Bool} {base : Nat} {sp : Nat → Bool} {cs : List Value} {x : DataW H × List MemPlace} (ht : P.underlying t = some (.array 4 e)) (he : P.underlying e = some (.int .u16)) (hc : P.cellsOf e = 1) (hct : P.cellsOf t = 4)
    (h : DataW.trod enc P W base sp held fuel t cs = some x) : ∃ a b c d : Int, cs = [.int .u16 a, .int .u16 b, .int .u16 c, .int .u16 d] ∧ (0 ≤ a ∧ a < 65536) ∧ (0 ≤ b ∧ b < 65536) ∧ (0 ≤ c ∧ c < 65536) ∧ (0 ≤ d ∧ d < 65536) := by
  obtain ⟨xs, m, rfl, _, hlen, hn, hel⟩ := DataW.trod_array ht h
  rw [hct] at hlen
  have one : ∀ i, i < 4 → ∃ b : Int, cs[i]? = some (.int .u16 b) ∧ 0 ≤ b ∧ b < 65536 := fun i hi => by
    have h1 := hel i (by omega)
    rw [hc, Nat.mul_one, List.getElem?_eq_getElem (by omega)] at h1
    obtain ⟨b, hcell, _, hw⟩ := DataW.trod_int he h1
    have e2 : ((cs.drop i).take 1)[0]? = some (.int .u16 b) := by rw [hcell]; rfl
    rw [List.getElem?_take, if_pos (by omega), List.getElem?_drop] at e2
    have hw' : decide (IntKind.u16.min ≤ b) && decide (b ≤ IntKind.u16.max) := hw
    rw [Bool.and_eq_true, decide_eq_true_eq, decide_eq_true_eq] at hw'
    have e3 : IntKind.u16.min = 0 := by decide
    have e4 : IntKind.u16.max = 65535 := by decide
    exact ⟨b, by simpa using e2, by omega, by omega⟩
  obtain ⟨a, h0, ra⟩ := one 0 (by omega)
  obtain ⟨b, h1, rb⟩ := one 1 (by omega)
  obtain ⟨c, h2, rc⟩ := one 2 (by omega)
  obtain ⟨d, h3, rd⟩ := one 3 (by omega)
  obtain ⟨x, y, z, u, rfl⟩ := len4v hlen
  have e0 : x = .int .u16 a := by simpa using h0
  have e1 : y = .int .u16 b := by simpa using h1
  have e2 : z = .int .u16 c := by simpa using h2
  have e3 : u = .int .u16 d := by simpa using h3
  exact ⟨a, b, c, d, by rw [e0, e1, e2, e3], ra, rb, rc, rd⟩

theorem slwCore : SlwCore := by
  intro H enc W v0 v1 d0 d1 p0 p1 hL h0 h1 ⟨base, w0, w1⟩
  obtain ⟨hsz, hG⟩ := met_tables hL
  obtain ⟨f0, h0⟩ := h0
  obtain ⟨f1, h1⟩ := h1
  obtain ⟨k0, rfl⟩ := agg_of v102 w0
  obtain ⟨k1, rfl⟩ : ∃ cs, v1 = .agg cs := by
    simp only [Value.okWide, v131] at w1
    obtain ⟨cs, h1, _⟩ := w1
    exact ⟨cs, h1⟩
  obtain ⟨l0, hl0, e0⟩ := read_struct (n := 4) v102 u3_ c3_ (by kernel_rfl) (by kernel_rfl) h0
  obtain ⟨n0, n1, n2, n3, e1, g0, g1, g2, g3⟩ := read_u16s v131 v129 (by kernel_rfl) (by kernel_rfl) h1
  obtain ⟨s, o, l, v, rfl⟩ := four hl0
  have hk := slwRun envOk (kAw envOk) s o l v n0 n1 n2 n3 g0 g1 g2 g3
  have hargs : All2 (VR (m0 [])) [clA s o l v, .e (.agg [.v (.int .u16 n0), .v (.int .u16 n1), .v (.int .u16 n2), .v (.int .u16 n3)])] (#[.agg k0, .agg k1] : Array Value).toList := by
    refine ⟨⟨k0, rfl, ?_⟩, ⟨k1, rfl, ?_⟩, trivial⟩
    · have e : k0.toList = [.int .i64 s, .int .i64 o, .int .i64 l, .int .i64 v] := e0
      rw [e]
      exact ⟨rfl, rfl, rfl, rfl, trivial⟩
    · have e : k1.toList = [.int .u16 n0, .int .u16 n1, .int .u16 n2, .int .u16 n3] := e1
      rw [e]
      exact ⟨rfl, rfl, rfl, rfl, trivial⟩
  exact (hk _ _ _ _ hargs (hr0 W (fun p hp => by simp at hp)) hG).mono fun e W' ⟨y, he, m', hp⟩ => ⟨by
    have hy : y = .bool true := hp.val
    rw [he, hy], hp.below⟩

/-- IT HOLDS: the law MeterSlews returns true, whatever clock and numbers come in. -/
theorem meterSlews : Rows.MeterSlewsCardSaid := slw_card slwCore
end Go.Proofs.YtbpghjmnbnknmaaGreatDoor

end
