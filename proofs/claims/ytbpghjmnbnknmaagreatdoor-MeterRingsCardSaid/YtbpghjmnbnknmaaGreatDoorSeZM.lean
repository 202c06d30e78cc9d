/-
  Part of the proof: SeRngI.
-/
import Derived.Test.YtbpghjmnbnknmaaGreatDoorSeRngL

/-! SeRngI -/
section
open Go Go.Ev Go.RowKit Go.ChangeShapes Go.WideShapes
namespace Go.Proofs.YtbpghjmnbnknmaaGreatDoor
set_option maxRecDepth 100000
set_option maxHeartbeats 20000000

theorem v128 : Tryz.prog.underlying 128 = some (.slice 131) := by kernel_rfl
theorem v129 : Tryz.prog.underlying 129 = some (.int .u16) := by kernel_rfl
theorem v130 : Tryz.prog.underlying 130 = some (.array 3 129) := by kernel_rfl
theorem v131 : Tryz.prog.underlying 131 = some (.array 4 129) := by kernel_rfl
theorem Rl_uD (F : List (Nat × List Value)) : ∀ l : List Int, DT.Rl F (uD l) (l.map (.int .u16))
  | [] => by simp [DT.Rl, uD]
  | x :: l => by
    simp only [uD, List.map_cons, DT.Rl]
    exact ⟨_, _, rfl, by simp [DT.R], Rl_uD F l⟩
/-- numbers of two bytes -/
theorem read_u16 {H : Type} {enc : TypeId × Value → H} {P : Program} {W : World} {t e n : Nat} {fuel : Nat} {held : Bool} {base : Nat} {sp : Nat → Bool} {cs : List Value} {x : DataW H × List MemPlace} (ht : P.underlying t = some (.array n e)) (he : P.underlying e = some (.int .u16)) (hc : P.cellsOf e = 1) (hct : P.cellsOf t = n)
    (h : DataW.trod enc P W base sp held fuel t cs = some x) : ∃ l : List Int, l.length = n ∧ cs = l.map (.int .u16) ∧ ∀ b ∈ l, 0 ≤ b ∧ b < 65536 := by
  obtain ⟨xs, m, rfl, _, hlen, hn, hel⟩ := DataW.trod_array ht h
  rw [hct] at hlen
  have one : ∀ i, i < n → ∃ b : Int, cs[i]? = some (.int .u16 b) ∧ 0 ≤ b ∧ b < 65536 := fun i hi => by
    have h1 := hel i (by omega)
    rw [hc, Nat.mul_one, List.getElem?_eq_getElem (by omega)] at h1
    obtain ⟨b, hcell, _, hw⟩ := DataW.trod_int he h1
    have e2 : ((cs.drop i).take 1)[0]? = some (.int .u16 b) := by rw [hcell]; rfl
    rw [List.getElem?_take, if_pos (by omega), List.getElem?_drop] at e2
    have hw' : decide (IntKind.u16.min ≤ b) && decide (b ≤ IntKind.u16.max) := hw
    rw [Bool.and_eq_true, decide_eq_true_eq, decide_eq_true_eq] at hw'
    have e3 : IntKind.u16.min = 0 := by decide
    have e4 : IntKind.u16.max = 65535 := by decide
    exact ⟨b, by simpa using e2, by omega, by omega⟩
  have gen : ∀ (l : List Value) (n : Nat), l.length = n → (∀ i, i < n → ∃ b : Int, l[i]? = some (.int .u16 b) ∧ 0 ≤ b ∧ b < 65536) → ∃ z : List Int, z.length = n ∧ l = z.map (.int .u16) ∧ ∀ b ∈ z, 0 ≤ b ∧ b < 65536 := by
    intro l
    induction l with
    | nil => intro n hn _; exact ⟨[], hn, rfl, by simp⟩
    | cons v l ih =>
      intro n hn one
      obtain ⟨b, hb, hr⟩ := one 0 (by simp at hn; omega)
      obtain ⟨z, h1, h2, h3⟩ := ih l.length rfl (fun i hi => one (i + 1) (by simp at hn; omega))
      refine ⟨b :: z, by simp at hn ⊢; omega, ?_, fun c hc => ?_⟩
      · rw [List.map_cons, ← h2, show v = .int .u16 b by simpa using hb]
      · rcases List.mem_cons.1 hc with rfl | hc
        · exact hr
        · exact h3 c hc
  exact gen cs n hlen one
/-- a row of four -/
theorem rd_row {H : Type} {enc : TypeId × Value → H} {W : World} {fuel : Nat} {held : Bool} {cs : List Value} {x : DataW H × List MemPlace} (h : DataW.trod enc Tryz.prog W 0 (fun _ => true) held fuel 131 cs = some x) :
    Rd W cs fun ds => ∃ l : List Int, l.length = 4 ∧ ds = uD l ∧ ∀ b ∈ l, 0 ≤ b ∧ b < 65536 := by
  obtain ⟨l, hl, rfl, hb⟩ := read_u16 v131 v129 (by kernel_rfl) (by kernel_rfl) h
  exact ⟨[], uD l, AtRest.nil W, Rl_uD _ l, by simp [uD], l, hl, rfl, hb⟩
theorem fours_flatten : ∀ {rows : List (List DT)}, (∀ r ∈ rows, r.length = 4 ∧ ∃ l : List Int, l.length = 4 ∧ r = uD l ∧ ∀ b ∈ l, 0 ≤ b ∧ b < 65536) → ∃ L : List Int, L.length = rows.length * 4 ∧ rows.flatten = uD L ∧ ∀ b ∈ L, 0 ≤ b ∧ b < 65536
  | [], _ => ⟨[], rfl, rfl, by simp⟩
  | r :: rows, h => by
    obtain ⟨L, h1, h2, h3⟩ := fours_flatten (fun s hs => h s (List.mem_cons_of_mem _ hs))
    obtain ⟨_, l, hl, rfl, hb⟩ := h r (List.mem_cons_self ..)
    refine ⟨l ++ L, by rw [List.length_append, hl, h1, List.length_cons]; omega, by rw [List.flatten_cons, h2]; simp [uD], fun b hm => ?_⟩
    rcases List.mem_append.1 hm with hm | hm
    · exact hb b hm
    · exact h3 b hm

theorem rngCore : RngCore := by
  intro H enc W v0 v1 d0 d1 p0 p1 hL h0 h1 ⟨base, w0, w1⟩
  obtain ⟨hsz, hG⟩ := met_tables hL
  obtain ⟨f0, h0⟩ := h0
  obtain ⟨f1, h1⟩ := h1
  obtain ⟨a0, l0, c0, rfl⟩ := okWide_slice v128 w0
  obtain ⟨k1, rfl⟩ : ∃ cs, v1 = .agg cs := by
    simp only [Value.okWide, v130] at w1
    obtain ⟨cs, h1, _⟩ := w1
    exact ⟨cs, h1⟩
  obtain ⟨F, ds, hF, hRl, _, rows, _, h5, rfl⟩ := rd_slice (Q := fun ds => ∃ l : List Int, l.length = 4 ∧ ds = uD l ∧ ∀ b ∈ l, 0 ≤ b ∧ b < 65536) v128 (by kernel_rfl : Tryz.prog.cellsOf 131 = 4) (by omega) (fun {_ _ _} hh => rd_row hh) ⟨a0, l0, c0, rfl⟩ h0
  obtain ⟨L, g1, g2, g3⟩ := fours_flatten h5
  rw [g2] at hRl
  have hR : DT.R F (.s (uD L) rows.length 4) (.slice a0 l0 c0) := by
    simp only [DT.Rl] at hRl
    obtain ⟨y, r, e, hy, _⟩ := hRl
    have e2 : y = .slice a0 l0 c0 := (List.cons.inj e).1.symm
    rw [← e2]; exact hy
  obtain ⟨l, hl, e1, hb⟩ := read_u16 v130 v129 (by kernel_rfl) (by kernel_rfl) h1
  obtain ⟨n0, n1, n2, rfl⟩ : ∃ a b c, l = [a, b, c] := by
    match l, hl with
    | [a, b, c], _ => exact ⟨a, b, c, rfl⟩
  have hk := rgRun envOk (kAw envOk) L rows.length g1 g3 n0 n1 n2 (hb _ (by simp)) (hb _ (by simp)) (hb _ (by simp))
  have hargs : All2 (VR (m0 F)) [.e (.one (.dp (.s (uD L) rows.length 4))), .e (.agg [.v (.int .u16 n0), .v (.int .u16 n1), .v (.int .u16 n2)])] (#[.slice a0 l0 c0, .agg k1] : Array Value).toList := by
    refine ⟨hR, ⟨k1, rfl, ?_⟩, trivial⟩
    have e : k1.toList = [.int .u16 n0, .int .u16 n1, .int .u16 n2] := e1
    rw [e]
    exact ⟨rfl, rfl, rfl, trivial⟩
  exact (hk _ _ _ _ hargs (hr0 W hF) hG).mono fun e W' ⟨y, he, m', hp⟩ => ⟨by
    have hy : y = .bool true := hp.val
    rw [he, hy], hp.below⟩

/-- IT HOLDS: the law MeterRings returns true, whatever rows and numbers come in. -/
theorem meterRings : Rows.MeterRingsCardSaid := rng_card rngCore
end Go.Proofs.YtbpghjmnbnknmaaGreatDoor

end
