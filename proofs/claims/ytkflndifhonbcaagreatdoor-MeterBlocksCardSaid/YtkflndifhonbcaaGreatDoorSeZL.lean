/-
  Part of the proof: SeBlkI.
-/
import Derived.Test.YtkflndifhonbcaaGreatDoorSeBlkL

/-! SeBlkI -/
section
open Go Go.Ev Go.RowKit Go.ChangeShapes Go.WideShapes
namespace Go.Proofs.YtkflndifhonbcaaGreatDoor
set_option maxRecDepth 100000
set_option maxHeartbeats 20000000
theorem v60 : Tryz.prog.underlying 60 = some (.struct (Tryz.prog.fieldsOf 60)) := by kernel_rfl
theorem v92 : Tryz.prog.underlying 92 = some (.array 16 5) := by kernel_rfl
theorem fiveI {l : List Int} (h : l.length = 5) : ∃ a b c d e, l = [a, b, c, d, e] := by
 match l, h with
 | [a, b, c, d, e], _ => exact ⟨a, b, c, d, e, rfl⟩
theorem sixteen {l : List Int} (h : l.length = 16) : ∃ x0 x1 x2 x3 x4 x5 x6 x7 x8 x9 x10 x11 x12 x13 x14 x15, l = [x0, x1, x2, x3, x4, x5, x6, x7, x8, x9, x10, x11, x12, x13, x14, x15] := by
 match l, h with
 | [x0, x1, x2, x3, x4, x5, x6, x7, x8, x9, x10, x11, x12, x13, x14, x15], _ => exact ⟨x0, x1, x2, x3, x4, x5, x6, x7, x8, x9, x10, x11, x12, x13, x14, x15, rfl⟩
theorem read_bytes {H : Type} {enc : TypeId × Value → H} {P : Program} {W : World} {t e n : Nat} {fuel : Nat} {held : Bool} {base : Nat} {sp : Nat → Bool} {cs : List Value} {x : DataW H × List MemPlace} (ht : P.underlying t = some (.array n e)) (he : P.underlying e = some (.int .u8)) (hc : P.cellsOf e = 1) (hct : P.cellsOf t = n)
  (h : DataW.trod enc P W base sp held fuel t cs = some x) : ∃ l : List Int, l.length = n ∧ cs = l.map (.int .u8) ∧ ∀ b ∈ l, 0 ≤ b ∧ b < 256 := by
 obtain ⟨xs, m, rfl, _, hlen, hn, hel⟩ := DataW.trod_array ht h
 rw [hct] at hlen
 have one : ∀ i, i < n → ∃ b : Int, cs[i]? = some (.int .u8 b) ∧ 0 ≤ b ∧ b < 256 := fun i hi => by
  have h1 := hel i (by omega)
  rw [hc, Nat.mul_one, List.getElem?_eq_getElem (by omega)] at h1
  obtain ⟨b, hcell, _, hw⟩ := DataW.trod_int he h1
  have e2 : ((cs.drop i).take 1)[0]? = some (.int .u8 b) := by rw [hcell]; rfl
  rw [List.getElem?_take, if_pos (by omega), List.getElem?_drop] at e2
  have hw' : decide (IntKind.u8.min ≤ b) && decide (b ≤ IntKind.u8.max) := hw
  rw [Bool.and_eq_true, decide_eq_true_eq, decide_eq_true_eq] at hw'
  have e3 : IntKind.u8.min = 0 := by decide
  have e4 : IntKind.u8.max = 255 := by decide
  exact ⟨b, by simpa using e2, by omega, by omega⟩
 have key : ∀ (n : Nat) (cs : List Value), cs.length = n → (∀ i, i < n → ∃ b : Int, cs[i]? = some (.int .u8 b) ∧ 0 ≤ b ∧ b < 256) → ∃ l : List Int, l.length = n ∧ cs = l.map (.int .u8) ∧ ∀ b ∈ l, 0 ≤ b ∧ b < 256 := by
  intro n
  induction n with
  | zero => intro cs hl _; exact ⟨[], rfl, by rw [List.eq_nil_of_length_eq_zero hl]; rfl, by simp⟩
  | succ n ih =>
   intro cs hl hh
   match cs, hl with
   | c :: cs, hl =>
    obtain ⟨b, hb, hr⟩ := hh 0 (by omega)
    obtain ⟨l, h1, h2, h3⟩ := ih cs (by simpa using hl) fun i hi => by have := hh (i + 1) (by omega); simpa using this
    refine ⟨b :: l, by simp [h1], ?_, fun a ha => ?_⟩
    ·have : c = .int .u8 b := by simpa using hb
     rw [this, h2]; rfl
    ·rcases List.mem_cons.1 ha with rfl | ha
     ·exact hr
     ·exact h3 a ha
 exact key n cs hlen one
theorem blkCore : BlkCore := by
 intro H enc W v0 v1 d0 d1 p0 p1 hL h0 h1 ⟨base, w0, w1⟩
 obtain ⟨hsz, hG⟩ := met_tables hL
 obtain ⟨f0, h0⟩ := h0
 obtain ⟨f1, h1⟩ := h1
 obtain ⟨k0, rfl⟩ := agg_of v60 w0
 obtain ⟨k1, rfl⟩ : ∃ cs, v1 = .agg cs := by
  simp only [Value.okWide, v92] at w1
  obtain ⟨cs, h1, _⟩ := w1
  exact ⟨cs, h1⟩
 obtain ⟨l0, hl0, e0⟩ := read_struct (n := 5) v60 u3_ c3_ (by kernel_rfl) (by kernel_rfl) h0
 obtain ⟨l1, hl1, e1, hb⟩ := read_bytes (n := 16) v92 u5_ (by kernel_rfl) (by kernel_rfl) h1
 obtain ⟨n0, n1, n2, n3, n4, rfl⟩ := fiveI hl0
 obtain ⟨x0, x1, x2, x3, x4, x5, x6, x7, x8, x9, x10, x11, x12, x13, x14, x15, rfl⟩ := sixteen hl1
 have hk := blkRun envOk (kAw envOk) n0 n1 n2 n3 n4 x0 x1 x2 x3 x4 x5 x6 x7 x8 x9 x10 x11 x12 x13 x14 x15 (hb x0 (by simp)) (hb x1 (by simp)) (hb x2 (by simp)) (hb x3 (by simp)) (hb x4 (by simp)) (hb x5 (by simp)) (hb x6 (by simp)) (hb x7 (by simp)) (hb x8 (by simp)) (hb x9 (by simp)) (hb x10 (by simp)) (hb x11 (by simp)) (hb x12 (by simp)) (hb x13 (by simp)) (hb x14 (by simp))
 have hargs : All2 (VR (m0 [])) [enA n0 n1 n2 n3 n4, bkA x0 x1 x2 x3 x4 x5 x6 x7 x8 x9 x10 x11 x12 x13 x14 x15] (#[.agg k0, .agg k1] : Array Value).toList := by
  refine ⟨⟨k0, rfl, ?_⟩, ⟨k1, rfl, ?_⟩, trivial⟩
  ·have e : k0.toList = [.int .i64 n0, .int .i64 n1, .int .i64 n2, .int .i64 n3, .int .i64 n4] := e0
   rw [e]
   exact ⟨rfl, rfl, rfl, rfl, rfl, trivial⟩
  ·have e : k1.toList = [.int .u8 x0, .int .u8 x1, .int .u8 x2, .int .u8 x3, .int .u8 x4, .int .u8 x5, .int .u8 x6, .int .u8 x7, .int .u8 x8, .int .u8 x9, .int .u8 x10, .int .u8 x11, .int .u8 x12, .int .u8 x13, .int .u8 x14, .int .u8 x15] := e1
   rw [e]
   exact ⟨rfl, rfl, rfl, rfl, rfl, rfl, rfl, rfl, rfl, rfl, rfl, rfl, rfl, rfl, rfl, rfl, trivial⟩
 exact (hk _ _ _ _ hargs (hr0 W (fun p hp => by simp at hp)) hG).mono fun e W' ⟨y, he, m', hp⟩ => ⟨by
  have hy : y = .bool true := hp.val
  rw [he, hy], hp.below⟩
theorem meterBlocks : Rows.MeterBlocksCardSaid := blk_card blkCore
end Go.Proofs.YtkflndifhonbcaaGreatDoor
end
