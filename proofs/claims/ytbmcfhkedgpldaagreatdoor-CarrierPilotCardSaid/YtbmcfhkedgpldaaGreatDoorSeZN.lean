/-
  Part of the proof: SePilI.
-/
import Derived.Test.YtbmcfhkedgpldaaGreatDoorSePilL

/-! SePilI -/
section
open Go Go.Ev Go.RowKit Go.ChangeShapes Go.WideShapes Ieee
namespace Go.Proofs.YtbmcfhkedgpldaaGreatDoor
set_option maxRecDepth 100000
set_option maxHeartbeats 20000000
theorem v42 : Tryz.prog.underlying 42 = some (.slice 23) := by kernel_rfl
theorem v23 : Tryz.prog.underlying 23 = some (.float .f32) := by kernel_rfl
theorem v115 : Tryz.prog.underlying 115 = some (.array 2 5) := by kernel_rfl
theorem v5 : Tryz.prog.underlying 5 = some (.int .u8) := by kernel_rfl
theorem two_of {l : List Int} (h : l.length = 2) : ∃ x y, l = [x, y] := by
 match l, h with
 | [x, y], _ => exact ⟨x, y, rfl⟩
theorem read_bytes {H : Type} {enc : TypeId × Value → H} {P : Program} {W : World} {t e n : Nat} {fuel : Nat} {held : Bool} {base : Nat} {sp : Nat → Bool} {cs : List Value} {x : DataW H × List MemPlace} (ht : P.underlying t = some (.array n e)) (he : P.underlying e = some (.int .u8)) (hc : P.cellsOf e = 1) (hct : P.cellsOf t = n)
  (h : DataW.trod enc P W base sp held fuel t cs = some x) : ∃ l : List Int, l.length = n ∧ cs = l.map (.int .u8) ∧ ∀ b ∈ l, 0 ≤ b ∧ b < 256 := by
 obtain ⟨xs, m, rfl, _, hlen, hn, hel⟩ := DataW.trod_array ht h
 rw [hct] at hlen
 have one : ∀ i, i < n → ∃ b : Int, cs[i]? = some (.int .u8 b) ∧ 0 ≤ b ∧ b < 256 := fun i hi => by
  have h1 := hel i (by omega)
  rw [hc, Nat.mul_one, List.getElem?_eq_getElem (by omega)] at h1
  obtain ⟨b, hcell, _, hw⟩ := DataW.trod_int he h1
  have e2 : ((cs.drop i).take 1)[0]? = some (.int .u8 b) := by rw [hcell]; rfl
  rw [List.getElem?_take, if_pos (by omega), List.getElem?_drop] at e2
  have hw' : decide (IntKind.u8.min ≤ b) && decide (b ≤ IntKind.u8.max) := hw
  rw [Bool.and_eq_true, decide_eq_true_eq, decide_eq_true_eq] at hw'
  have e3 : IntKind.u8.min = 0 := by decide
  have e4 : IntKind.u8.max = 255 := by decide
  exact ⟨b, by simpa using e2, by omega, by omega⟩
 have key : ∀ (n : Nat) (cs : List Value), cs.length = n → (∀ i, i < n → ∃ b : Int, cs[i]? = some (.int .u8 b) ∧ 0 ≤ b ∧ b < 256) → ∃ l : List Int, l.length = n ∧ cs = l.map (.int .u8) ∧ ∀ b ∈ l, 0 ≤ b ∧ b < 256 := by
  intro n
  induction n with
  | zero => intro cs hl _; exact ⟨[], rfl, by rw [List.eq_nil_of_length_eq_zero hl]; rfl, by simp⟩
  | succ n ih =>
   intro cs hl hh
   match cs, hl with
   | c :: cs, hl =>
    obtain ⟨b, hb, hr⟩ := hh 0 (by omega)
    obtain ⟨l, h1, h2, h3⟩ := ih cs (by simpa using hl) fun i hi => by have := hh (i + 1) (by omega); simpa using this
    refine ⟨b :: l, by simp [h1], ?_, fun a ha => ?_⟩
    ·have : c = .int .u8 b := by simpa using hb
     rw [this, h2]; rfl
    ·rcases List.mem_cons.1 ha with rfl | ha
     ·exact hr
     ·exact h3 a ha
 exact key n cs hlen one
theorem pilCore : PilCore := by
 intro H enc W v0 v1 d0 d1 p0 p1 hL h0 h1 ⟨base, w0, w1⟩
 have hblk : ∃ c ty fz, W.heap[4]? = some (.cells c ty fz) := by
  obtain ⟨_, c, t, fz, h, _⟩ := tables (base := 5) (Nat.le_refl _) hL 4 tabPow rfl
  exact ⟨c, t, fz, h⟩
 have hsz : 5 ≤ W.heap.size := by
  obtain ⟨c, t, fz, h⟩ := hblk
  have := (Array.getElem?_eq_some_iff.1 h).1
  omega
 have hG : GR E.gl W.heap.size W := tables hsz hL
 obtain ⟨a1, l1', c1, rfl⟩ := okWide_slice v42 w0
 obtain ⟨k1, rfl⟩ : ∃ cs, v1 = .agg cs := by
  simp only [Value.okWide, v115] at w1
  obtain ⟨cs, h1, _⟩ := w1
  exact ⟨cs, h1⟩
 obtain ⟨f0, h0⟩ := h0
 obtain ⟨f1, h1⟩ := h1
 obtain ⟨F1, ds1, hF1, hRl1, _, ws, _, _, rfl⟩ := rd_floats v42 v23 (by kernel_rfl) ⟨a1, l1', c1, rfl⟩ h0
 obtain ⟨l1, hl1, e1, hb⟩ := read_bytes (n := 2) v115 v5 (by kernel_rfl) (by kernel_rfl) h1
 obtain ⟨x, y, rfl⟩ := two_of hl1
 have one : ∀ {F : List (Nat × List Value)} {d : DT} {v : Value}, DT.Rl F [d] [v] → DT.R F d v := by
  intro F d v h
  simp only [DT.Rl] at h
  obtain ⟨y, r, e, hy, _⟩ := h
  have e2 : y = v := (List.cons.inj e).1.symm
  rw [← e2]; exact hy
 have hk := pilRun envOk (kAw envOk) ws rfl x y (hb x (by simp)) (hb y (by simp))
 let m : M := { n := 0, ρ := fun _ => 0, κ := fun _ => 0, lo := 0, F := F1 }
 have hH : HR m W.heap.size 0 [] W := ⟨rfl, Nat.le_refl _, Nat.le_refl _, fun b a hb => by simp at hb, fun b _ hb => by simp at hb, fun b b' hb => by simp at hb, Nat.le_refl _, fun p hp => ⟨hF1 p hp, fun b a _ hb => by simp at hb⟩⟩
 have hargs : All2 (VR m) [.e (.one (dF ws).ac), .e (.agg [.v (.int .u8 x), .v (.int .u8 y)])] (#[.slice a1 l1' c1, .agg k1] : Array Value).toList := by
  refine ⟨one hRl1, ⟨k1, rfl, ?_⟩, trivial⟩
  have e : k1.toList = [.int .u8 x, .int .u8 y] := e1
  rw [e]
  exact ⟨rfl, rfl, trivial⟩
 exact (hk _ _ _ _ hargs hH hG).mono fun e W' ⟨y, he, m', hp⟩ => ⟨by
  have hy : y = .bool true := hp.val
  rw [he, hy], hp.below⟩
theorem carrierPilot : Rows.CarrierPilotCardSaid := pil_card pilCore
end Go.Proofs.YtbmcfhkedgpldaaGreatDoor
end
