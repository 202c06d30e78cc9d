/-
  Floats: where nothing is rounded, what is written is read again.
-/
import Ieee.Arith
namespace Ieee

theorem pow_pos2 (k : Nat) : 0 < 2 ^ k := Nat.two_pow_pos k
theorem log2_mul_pow {a : Nat} (h : a ≠ 0) (k : Nat) : (a * 2 ^ k).log2 = a.log2 + k := by
  have hp := pow_pos2 k
  have hne : a * 2 ^ k ≠ 0 := Nat.mul_ne_zero h (by omega)
  apply Nat.le_antisymm
  · have h1 : a < 2 ^ (a.log2 + 1) := Nat.lt_log2_self
    have h2 : a * 2 ^ k < 2 ^ (a.log2 + k + 1) := by
      rw [show a.log2 + k + 1 = (a.log2 + 1) + k by omega, Nat.pow_add]
      exact Nat.mul_lt_mul_of_pos_right h1 hp
    have := (Nat.log2_lt hne).2 h2
    omega
  · have h1 : 2 ^ a.log2 ≤ a := Nat.log2_self_le h
    have h2 : 2 ^ (a.log2 + k) ≤ a * 2 ^ k := by
      rw [Nat.pow_add]
      exact Nat.mul_le_mul_right _ h1
    exact (Nat.le_log2 hne).2 h2

theorem cut_exact (way : Toward) (neg : Bool) (a drop : Nat) : way.cut neg (a * 2 ^ drop) drop = a := by
  unfold Toward.cut
  by_cases ha : a = 0
  · subst ha
    have hg : 0 < 1 <<< min drop (Nat.log2 (0 * 2 ^ drop) + 2) := by rw [Nat.one_shiftLeft]; exact pow_pos2 _
    simp only [Nat.zero_mul, Nat.zero_div, Nat.zero_mod] at hg ⊢
    cases way <;> simp <;> omega
  · have hl : min drop ((a * 2 ^ drop).log2 + 2) = drop := by rw [log2_mul_pow ha]; omega
    have hp := pow_pos2 drop
    rw [hl, Nat.one_shiftLeft]
    have h1 : a * 2 ^ drop / 2 ^ drop = a := Nat.mul_div_cancel _ hp
    have h2 : a * 2 ^ drop % 2 ^ drop = 0 := Nat.mul_mod_left ..
    simp only [h1, h2]
    cases way <;> simp <;> omega

namespace Format
variable (f : Format)

/-- the last place that is kept of a * 2 ^ q -/
def lastOf (a : Nat) (q : Int) : Int := max (q + a.log2 - f.fractionBits) f.leastPlace
/-- and what is kept -/
def keptOf (a : Nat) (q : Int) : Nat := a * 2 ^ (q - f.lastOf a q).toNat

theorem nearest_exact (neg : Bool) {a : Nat} (ha : a ≠ 0) (k : Nat) (place : Int) (hF : a.log2 ≤ f.fractionBits) (hq : f.leastPlace ≤ place + k) :
    f.nearest neg (a * 2 ^ k) place = f.word neg (min ((f.lastOf a (place + k) - f.leastPlace).toNat * f.binade + f.keptOf a (place + k)) f.infRung) := by
  have hp := pow_pos2 k
  have hne : a * 2 ^ k ≠ 0 := Nat.mul_ne_zero ha (by omega)
  unfold nearest
  rw [if_neg hne]
  have hl : place + ((a * 2 ^ k).log2 : Int) - f.fractionBits = (place + k) + (a.log2 : Int) - f.fractionBits := by rw [log2_mul_pow ha]; omega
  simp only [hl]
  have e : max ((place + k) + (a.log2 : Int) - f.fractionBits) f.leastPlace = f.lastOf a (place + k) := rfl
  rw [e]
  have hle : f.lastOf a (place + k) ≤ place + k := by unfold lastOf; omega
  unfold keptOf
  generalize f.lastOf a (place + k) = last at hle ⊢
  congr 3
  by_cases h : last ≤ place
  · have d0 : (last - place).toNat = 0 := by omega
    rw [d0]
    have := cut_exact .even neg ((a * 2 ^ k) <<< (place - last).toNat) 0
    rw [Nat.pow_zero, Nat.mul_one] at this
    rw [this, Nat.shiftLeft_eq, Nat.mul_assoc, ← Nat.pow_add]
    congr 2
    omega
  · have d0 : (place - last).toNat = 0 := by omega
    rw [d0, Nat.shiftLeft_zero]
    have hk : k = (place + k - last).toNat + (last - place).toNat := by omega
    have : a * 2 ^ k = (a * 2 ^ (place + k - last).toNat) * 2 ^ (last - place).toNat := by
      rw [Nat.mul_assoc, ← Nat.pow_add, ← hk]
    rw [this, cut_exact]

theorem kept_lt {a : Nat} (ha : a ≠ 0) (q : Int) (hF : a.log2 ≤ f.fractionBits) (_hq : f.leastPlace ≤ q) : f.keptOf a q < 2 ^ (f.fractionBits + 1) := by
  have hp := pow_pos2 (q - f.lastOf a q).toNat
  have hne : f.keptOf a q ≠ 0 := Nat.mul_ne_zero ha (by omega)
  apply (Nat.log2_lt hne).1
  unfold keptOf
  rw [log2_mul_pow ha]
  unfold lastOf
  omega
theorem kept_ge {a : Nat} (ha : a ≠ 0) (q : Int) (hF : a.log2 ≤ f.fractionBits) (_hq : f.leastPlace ≤ q) (h : f.leastPlace < f.lastOf a q) : 2 ^ f.fractionBits ≤ f.keptOf a q := by
  have hp := pow_pos2 (q - f.lastOf a q).toNat
  have hne : f.keptOf a q ≠ 0 := Nat.mul_ne_zero ha (by omega)
  apply (Nat.le_log2 hne).1
  unfold keptOf
  rw [log2_mul_pow ha]
  unfold lastOf at h ⊢
  omega

theorem read_word (neg : Bool) {r : Nat} (hr : r < f.signWeight) : f.read (f.word neg r) =
    (if r < f.binade then .number neg r f.leastPlace else if r < f.infRung then .number neg (f.binade + r % f.binade) (f.leastPlace + (r / f.binade - 1 : Nat)) else if r = f.infRung then .infinity neg else .nan neg (r - f.infRung)) := by
  have h0 : 0 < f.signWeight := pow_pos2 _
  unfold read word
  cases neg with
  | false =>
    have h1 : r / f.signWeight = 0 := Nat.div_eq_of_lt hr
    have h2 : r % f.signWeight = r := Nat.mod_eq_of_lt hr
    simp [h1, h2]
  | true =>
    have h1 : (f.signWeight + r) / f.signWeight = 1 := by rw [Nat.add_div_left _ h0, Nat.div_eq_of_lt hr]
    have h2 : (f.signWeight + r) % f.signWeight = r := by rw [Nat.add_mod_left, Nat.mod_eq_of_lt hr]
    simp [h1, h2]

/-- What is written exactly is read again. -/
theorem read_nearest (neg : Bool) {a : Nat} (ha : a ≠ 0) (k : Nat) (place : Int) (hF : a.log2 ≤ f.fractionBits) (hq : f.leastPlace ≤ place + k)
    (hr : (f.lastOf a (place + k) - f.leastPlace).toNat * f.binade + f.keptOf a (place + k) < f.infRung) :
    f.read (f.nearest neg (a * 2 ^ k) place) = .number neg (f.keptOf a (place + k)) (f.lastOf a (place + k)) := by
  rw [nearest_exact f neg ha k place hF hq, Nat.min_eq_left (by omega)]
  have hin : f.infRung < f.signWeight := by
    unfold infRung signWeight binade
    rw [Nat.pow_add]
    have h1 := pow_pos2 f.exponentBits
    have h2 := pow_pos2 f.fractionBits
    exact Nat.mul_lt_mul_of_pos_right (by omega) h2
  rw [read_word f neg (by omega)]
  have hlt := kept_lt f ha (place + k) hF hq
  have hge := kept_ge f ha (place + k) hF hq
  have hle : f.leastPlace ≤ f.lastOf a (place + k) := by unfold lastOf; omega
  have hb : f.binade = 2 ^ f.fractionBits := rfl
  have hp := pow_pos2 f.fractionBits
  rw [Nat.pow_succ, ← hb] at hlt
  rw [← hb] at hge hp
  generalize f.keptOf a (place + k) = kept at *
  generalize f.lastOf a (place + k) = last at *
  by_cases h : kept < f.binade
  · have hl : last = f.leastPlace := by
      rcases Int.lt_or_le f.leastPlace last with h1 | h1
      · have := hge h1; omega
      · omega
    subst hl
    simp [h]
  · have e : (last - f.leastPlace).toNat * f.binade + kept = ((last - f.leastPlace).toNat + 1) * f.binade + (kept - f.binade) := by rw [Nat.succ_mul]; omega
    have hd : ((last - f.leastPlace).toNat * f.binade + kept) / f.binade = (last - f.leastPlace).toNat + 1 := by
      rw [e, Nat.mul_comm, Nat.mul_add_div hp, Nat.div_eq_of_lt (by omega), Nat.add_zero]
    have hm : ((last - f.leastPlace).toNat * f.binade + kept) % f.binade = kept - f.binade := by
      rw [e, Nat.mul_comm, Nat.mul_add_mod, Nat.mod_eq_of_lt (by omega)]
    rw [if_neg (by
      have : f.binade ≤ kept := by omega
      have := Nat.le_add_left kept ((last - f.leastPlace).toNat * f.binade)
      omega), if_pos hr, hd, hm]
    congr 1 <;> omega
end Format
end Ieee
