/-
  Part of the proof: FlA, FlB, FlC, SeFl, SeFa, SeFb, SeFc, SePa, SePc, SyL, SePb, SePd, SePe, SeEqF, SePf, SeNm.
-/
import Derived.Test.YtdjjpjahlhdjnaaGreatDoorSeZE
import Derived.Laws.Bits64
import Derived.Laws.Externs
import Derived.Stop.BytesEq
import Ieee.Arith

/-! FlA -/
section
namespace Ieee

theorem pow_pos2 (k : Nat) : 0 < 2 ^ k := Nat.two_pow_pos k
theorem log2_mul_pow {a : Nat} (h : a ≠ 0) (k : Nat) : (a * 2 ^ k).log2 = a.log2 + k := by
  have hp := pow_pos2 k
  have hne : a * 2 ^ k ≠ 0 := Nat.mul_ne_zero h (by omega)
  apply Nat.le_antisymm
  · have h1 : a < 2 ^ (a.log2 + 1) := Nat.lt_log2_self
    have h2 : a * 2 ^ k < 2 ^ (a.log2 + k + 1) := by
      rw [show a.log2 + k + 1 = (a.log2 + 1) + k by omega, Nat.pow_add]
      exact Nat.mul_lt_mul_of_pos_right h1 hp
    have := (Nat.log2_lt hne).2 h2
    omega
  · have h1 : 2 ^ a.log2 ≤ a := Nat.log2_self_le h
    have h2 : 2 ^ (a.log2 + k) ≤ a * 2 ^ k := by
      rw [Nat.pow_add]
      exact Nat.mul_le_mul_right _ h1
    exact (Nat.le_log2 hne).2 h2

theorem cut_exact (way : Toward) (neg : Bool) (a drop : Nat) : way.cut neg (a * 2 ^ drop) drop = a := by
  unfold Toward.cut
  by_cases ha : a = 0
  · subst ha
    have hg : 0 < 1 <<< min drop (Nat.log2 (0 * 2 ^ drop) + 2) := by rw [Nat.one_shiftLeft]; exact pow_pos2 _
    simp only [Nat.zero_mul, Nat.zero_div, Nat.zero_mod] at hg ⊢
    cases way <;> simp <;> omega
  · have hl : min drop ((a * 2 ^ drop).log2 + 2) = drop := by rw [log2_mul_pow ha]; omega
    have hp := pow_pos2 drop
    rw [hl, Nat.one_shiftLeft]
    have h1 : a * 2 ^ drop / 2 ^ drop = a := Nat.mul_div_cancel _ hp
    have h2 : a * 2 ^ drop % 2 ^ drop = 0 := Nat.mul_mod_left ..
    simp only [h1, h2]
    cases way <;> simp <;> omega

namespace Format
variable (f : Format)

/-- the last place that is kept of a * 2 ^ q -/
def lastOf (a : Nat) (q : Int) : Int := max (q + a.log2 - f.fractionBits) f.leastPlace
/-- and what is kept -/
def keptOf (a : Nat) (q : Int) : Nat := a * 2 ^ (q - f.lastOf a q).toNat

theorem nearest_exact (neg : Bool) {a : Nat} (ha : a ≠ 0) (k : Nat) (place : Int) (hF : a.log2 ≤ f.fractionBits) (hq : f.leastPlace ≤ place + k) :
    f.nearest neg (a * 2 ^ k) place = f.word neg (min ((f.lastOf a (place + k) - f.leastPlace).toNat * f.binade + f.keptOf a (place + k)) f.infRung) := by
  have hp := pow_pos2 k
  have hne : a * 2 ^ k ≠ 0 := Nat.mul_ne_zero ha (by omega)
  unfold nearest
  rw [if_neg hne]
  have hl : place + ((a * 2 ^ k).log2 : Int) - f.fractionBits = (place + k) + (a.log2 : Int) - f.fractionBits := by rw [log2_mul_pow ha]; omega
  simp only [hl]
  have e : max ((place + k) + (a.log2 : Int) - f.fractionBits) f.leastPlace = f.lastOf a (place + k) := rfl
  rw [e]
  have hle : f.lastOf a (place + k) ≤ place + k := by unfold lastOf; omega
  unfold keptOf
  generalize f.lastOf a (place + k) = last at hle ⊢
  congr 3
  by_cases h : last ≤ place
  · have d0 : (last - place).toNat = 0 := by omega
    rw [d0]
    have := cut_exact .even neg ((a * 2 ^ k) <<< (place - last).toNat) 0
    rw [Nat.pow_zero, Nat.mul_one] at this
    rw [this, Nat.shiftLeft_eq, Nat.mul_assoc, ← Nat.pow_add]
    congr 2
    omega
  · have d0 : (place - last).toNat = 0 := by omega
    rw [d0, Nat.shiftLeft_zero]
    have hk : k = (place + k - last).toNat + (last - place).toNat := by omega
    have : a * 2 ^ k = (a * 2 ^ (place + k - last).toNat) * 2 ^ (last - place).toNat := by
      rw [Nat.mul_assoc, ← Nat.pow_add, ← hk]
    rw [this, cut_exact]

theorem kept_lt {a : Nat} (ha : a ≠ 0) (q : Int) (hF : a.log2 ≤ f.fractionBits) (_hq : f.leastPlace ≤ q) : f.keptOf a q < 2 ^ (f.fractionBits + 1) := by
  have hp := pow_pos2 (q - f.lastOf a q).toNat
  have hne : f.keptOf a q ≠ 0 := Nat.mul_ne_zero ha (by omega)
  apply (Nat.log2_lt hne).1
  unfold keptOf
  rw [log2_mul_pow ha]
  unfold lastOf
  omega
theorem kept_ge {a : Nat} (ha : a ≠ 0) (q : Int) (hF : a.log2 ≤ f.fractionBits) (_hq : f.leastPlace ≤ q) (h : f.leastPlace < f.lastOf a q) : 2 ^ f.fractionBits ≤ f.keptOf a q := by
  have hp := pow_pos2 (q - f.lastOf a q).toNat
  have hne : f.keptOf a q ≠ 0 := Nat.mul_ne_zero ha (by omega)
  apply (Nat.le_log2 hne).1
  unfold keptOf
  rw [log2_mul_pow ha]
  unfold lastOf at h ⊢
  omega

theorem read_word (neg : Bool) {r : Nat} (hr : r < f.signWeight) : f.read (f.word neg r) =
    (if r < f.binade then .number neg r f.leastPlace else if r < f.infRung then .number neg (f.binade + r % f.binade) (f.leastPlace + (r / f.binade - 1 : Nat)) else if r = f.infRung then .infinity neg else .nan neg (r - f.infRung)) := by
  have h0 : 0 < f.signWeight := pow_pos2 _
  unfold read word
  cases neg with
  | false =>
    have h1 : r / f.signWeight = 0 := Nat.div_eq_of_lt hr
    have h2 : r % f.signWeight = r := Nat.mod_eq_of_lt hr
    simp [h1, h2]
  | true =>
    have h1 : (f.signWeight + r) / f.signWeight = 1 := by rw [Nat.add_div_left _ h0, Nat.div_eq_of_lt hr]
    have h2 : (f.signWeight + r) % f.signWeight = r := by rw [Nat.add_mod_left, Nat.mod_eq_of_lt hr]
    simp [h1, h2]

/-- What is written exactly is read again. -/
theorem read_nearest (neg : Bool) {a : Nat} (ha : a ≠ 0) (k : Nat) (place : Int) (hF : a.log2 ≤ f.fractionBits) (hq : f.leastPlace ≤ place + k)
    (hr : (f.lastOf a (place + k) - f.leastPlace).toNat * f.binade + f.keptOf a (place + k) < f.infRung) :
    f.read (f.nearest neg (a * 2 ^ k) place) = .number neg (f.keptOf a (place + k)) (f.lastOf a (place + k)) := by
  rw [nearest_exact f neg ha k place hF hq, Nat.min_eq_left (by omega)]
  have hin : f.infRung < f.signWeight := by
    unfold infRung signWeight binade
    rw [Nat.pow_add]
    have h1 := pow_pos2 f.exponentBits
    have h2 := pow_pos2 f.fractionBits
    exact Nat.mul_lt_mul_of_pos_right (by omega) h2
  rw [read_word f neg (by omega)]
  have hlt := kept_lt f ha (place + k) hF hq
  have hge := kept_ge f ha (place + k) hF hq
  have hle : f.leastPlace ≤ f.lastOf a (place + k) := by unfold lastOf; omega
  have hb : f.binade = 2 ^ f.fractionBits := rfl
  have hp := pow_pos2 f.fractionBits
  rw [Nat.pow_succ, ← hb] at hlt
  rw [← hb] at hge hp
  generalize f.keptOf a (place + k) = kept at *
  generalize f.lastOf a (place + k) = last at *
  by_cases h : kept < f.binade
  · have hl : last = f.leastPlace := by
      rcases Int.lt_or_le f.leastPlace last with h1 | h1
      · have := hge h1; omega
      · omega
    subst hl
    simp [h]
  · have e : (last - f.leastPlace).toNat * f.binade + kept = ((last - f.leastPlace).toNat + 1) * f.binade + (kept - f.binade) := by rw [Nat.succ_mul]; omega
    have hd : ((last - f.leastPlace).toNat * f.binade + kept) / f.binade = (last - f.leastPlace).toNat + 1 := by
      rw [e, Nat.mul_comm, Nat.mul_add_div hp, Nat.div_eq_of_lt (by omega), Nat.add_zero]
    have hm : ((last - f.leastPlace).toNat * f.binade + kept) % f.binade = kept - f.binade := by
      rw [e, Nat.mul_comm, Nat.mul_add_mod, Nat.mod_eq_of_lt (by omega)]
    rw [if_neg (by
      have : f.binade ≤ kept := by omega
      have := Nat.le_add_left kept ((last - f.leastPlace).toNat * f.binade)
      omega), if_pos hr, hd, hm]
    congr 1 <;> omega
end Format
end Ieee

end

/-! FlB -/
section
namespace Ieee

/-- enough of them -/
def EX : Nat := 1300
theorem EX_eq : EX = 1300 := rfl
/-- the units of a one -/
def KK : Nat := 2 ^ EX
theorem KK_pos : 0 < KK := pow_pos2 _
theorem KK_eq : KK = 2 ^ EX := rfl
attribute [irreducible] EX KK
def sg (s : Bool) (n : Nat) : Int := if s then -(n : Int) else n
theorem signed_eq (s : Bool) (m u : Nat) : signed s m u = sg s (m * 2 ^ u) := by unfold signed sg; rw [Nat.shiftLeft_eq]
theorem sg_mul (s : Bool) (n c : Nat) : sg s (n * c) = sg s n * c := by cases s <;> simp [sg, Int.neg_mul]
theorem sg_natAbs (s : Bool) (n : Nat) : (sg s n).natAbs = n := by cases s <;> simp [sg]

def Num (f : Format) (b : Nat) (V : Int) : Prop := ∃ s m e, f.read b = .number s m e ∧ f.leastPlace ≤ e ∧ m < 2 ^ (f.fractionBits + 1) ∧ V = sg s (m * 2 ^ (e + EX).toNat)
/-- what both formats have -/
structure Fit (f : Format) : Prop where
  lo : -1074 ≤ f.leastPlace
  le0 : f.leastPlace ≤ -140
  F : 2 ≤ f.fractionBits
  hi : f.leastPlace + f.fractionBits ≤ -120
theorem fit_single : Fit single := ⟨by decide, by decide, by decide, by decide⟩
theorem fit_double : Fit double := ⟨by decide, by decide, by decide, by decide⟩

theorem compare_mul (a b : Int) {c : Int} (hc : 0 < c) : compare (a * c) (b * c) = compare a b := by
  simp only [compare, compareOfLessAndEq]
  by_cases h : a < b
  · rw [if_pos h, if_pos (Int.mul_lt_mul_of_pos_right h hc)]
  · rw [if_neg h, if_neg fun h' => h (Int.lt_of_mul_lt_mul_right h' (Int.le_of_lt hc))]
    by_cases e : a = b
    · rw [if_pos e, if_pos (by rw [e])]
    · rw [if_neg e, if_neg fun h' => e (Int.eq_of_mul_eq_mul_right (by omega) h')]

theorem Num.order {f : Format} (hf : Fit f) {x y : Nat} {V W : Int} (hx : Num f x V) (hy : Num f y W) : f.order x y = some (compare V W) := by
  obtain ⟨s, m, i, h1, h2, _, rfl⟩ := hx
  obtain ⟨t, n, j, k1, k2, _, rfl⟩ := hy
  have := hf.lo
  have hX := EX_eq
  unfold Format.order Datum.order
  rw [h1, k1]
  simp only [signed_eq]
  have hX := EX_eq
  have e1 : (i + EX).toNat = (i - min i j).toNat + (min i j + EX).toNat := by omega
  have e2 : (j + EX).toNat = (j - min i j).toNat + (min i j + EX).toNat := by omega
  rw [e1, e2, Nat.pow_add, Nat.pow_add, ← Nat.mul_assoc, ← Nat.mul_assoc, sg_mul s (m * _), sg_mul t (n * _), compare_mul]
  have := pow_pos2 (min i j + EX).toNat
  omega

/-- the greatest place of a number's last digit -/
def Format.top (f : Format) : Int := f.leastPlace + (2 ^ f.exponentBits - 3 : Nat)
theorem top_single : single.top = 104 := by decide
theorem zero_read (f : Format) (s : Bool) : f.read (f.word s 0) = .number s 0 f.leastPlace := by
  rw [Format.read_word f s (pow_pos2 _), if_pos (show 0 < f.binade from pow_pos2 _)]

/-- A number that is written exactly. -/
theorem num_nearest {f : Format} (hf : Fit f) (hE : 3 ≤ 2 ^ f.exponentBits) (s : Bool) {a k : Nat} {e : Int} (hF : a < 2 ^ (f.fractionBits + 1)) (hq : f.leastPlace ≤ e + k) (he : -(EX : Int) ≤ e) (hov : a = 0 ∨ e + k + a.log2 - f.fractionBits ≤ f.top) :
    Num f (f.nearest s (a * 2 ^ k) e) (sg s (a * 2 ^ k * 2 ^ (e + EX).toNat)) := by
  have hlo := hf.lo
  have hX := EX_eq
  by_cases ha : a = 0
  · subst ha
    refine ⟨s, 0, f.leastPlace, ?_, Int.le_refl _, pow_pos2 _, by simp⟩
    unfold Format.nearest
    rw [if_pos (by simp), zero_read]
  · have hov := hov.resolve_left ha
    have hl : a.log2 ≤ f.fractionBits := by have := (Nat.log2_lt ha).2 hF; omega
    have hkl := Format.kept_lt f ha (e + k) hl hq
    have hlast : f.lastOf a (e + k) ≤ e + k := by unfold Format.lastOf; omega
    have hlast2 : f.leastPlace ≤ f.lastOf a (e + k) := by unfold Format.lastOf; omega
    have hlast3 : f.lastOf a (e + k) ≤ f.top := by
      unfold Format.lastOf
      have : f.leastPlace ≤ f.top := by unfold Format.top; omega
      omega
    have hr : (f.lastOf a (e + k) - f.leastPlace).toNat * f.binade + f.keptOf a (e + k) < f.infRung := by
      have h1 : (f.lastOf a (e + k) - f.leastPlace).toNat ≤ 2 ^ f.exponentBits - 3 := by unfold Format.top at hlast3; omega
      have h2 : f.infRung = (2 ^ f.exponentBits - 3) * f.binade + 2 * f.binade := by
        unfold Format.infRung
        rw [← Nat.add_mul]
        congr 1
        omega
      have h3 : 2 ^ (f.fractionBits + 1) = 2 * f.binade := by unfold Format.binade; rw [Nat.pow_succ, Nat.mul_comm]
      have h4 := Nat.mul_le_mul_right f.binade h1
      omega
    refine ⟨s, _, _, Format.read_nearest f s ha k e hl hq hr, hlast2, hkl, ?_⟩
    congr 1
    unfold Format.keptOf
    rw [Nat.mul_assoc, ← Nat.pow_add, Nat.mul_assoc, ← Nat.pow_add]
    congr 2
    omega

theorem log_le {m n : Nat} (hm : m ≠ 0) (h : m < 2 ^ n) : m.log2 < n := (Nat.log2_lt hm).2 h

/-- A word is one of four. -/
theorem read_cases {f : Format} (b : Nat) : (∃ s t, f.read b = .nan s t) ∨ (∃ s, f.read b = .infinity s) ∨ ∃ V, Num f b V := by
  have hp : 0 < f.binade := pow_pos2 _
  unfold Num
  cases h : f.read b with
  | nan s t => exact .inl ⟨_, _, rfl⟩
  | infinity s => exact .inr (.inl ⟨_, rfl⟩)
  | number s m e =>
    refine .inr (.inr ⟨_, s, m, e, rfl, ?_, ?_, rfl⟩)
    · unfold Format.read at h
      simp only at h
      split at h
      · simp only [Datum.number.injEq] at h; omega
      · split at h
        · simp only [Datum.number.injEq] at h; omega
        · split at h <;> simp at h
    · have h2 : 2 ^ (f.fractionBits + 1) = 2 * f.binade := by unfold Format.binade; rw [Nat.pow_succ, Nat.mul_comm]
      unfold Format.read at h
      simp only at h
      split at h
      · simp only [Datum.number.injEq] at h; omega
      · split at h
        · simp only [Datum.number.injEq] at h
          have := Nat.mod_lt (b % f.signWeight) hp
          omega
        · split at h <;> simp at h

/-- a number's magnitude, by its value -/
theorem mag_lt {m : Nat} {e : Int} {n : Nat} (hm : m ≠ 0) (he : -(EX : Int) ≤ e) (h : m * 2 ^ (e + EX).toNat < 2 ^ n) : m.log2 + e + EX < n := by
  have hX := EX_eq
  have hne : m * 2 ^ (e + EX).toNat ≠ 0 := Nat.mul_ne_zero hm (by have := pow_pos2 (e + EX).toNat; omega)
  have := log_le hne h
  rw [log2_mul_pow hm] at this
  omega

theorem pow_mono {a b : Nat} (h : a ≤ b) : 2 ^ a ≤ 2 ^ b := Nat.pow_le_pow_right (by omega) h
theorem nearest_zero (f : Format) (s : Bool) (e e' : Int) : f.nearest s 0 e = f.nearest s 0 e' := by simp [Format.nearest]
/-- whatever zero -/
theorem num_zero {f : Format} (hf : Fit f) (hE : 3 ≤ 2 ^ f.exponentBits) (s : Bool) (e : Int) : Num f (f.nearest s 0 e) 0 := by
  have hlo := hf.lo
  have hX := EX_eq
  have := num_nearest hf hE s (a := 0) (k := 0) (e := f.leastPlace) (pow_pos2 _) (by omega) (by omega) (.inl rfl)
  simp only [Nat.zero_mul] at this
  rw [nearest_zero f s e f.leastPlace]
  cases s <;> simpa [sg] using this

/-- 16 times a number. -/
theorem Num.mul16 {f : Format} (hf : Fit f) (hE : 3 ≤ 2 ^ f.exponentBits) {c x : Nat} {V : Int} (hc : f.read c = .number false (2 ^ f.fractionBits) (4 - f.fractionBits)) (hF : f.fractionBits ≤ 100) (hx : Num f x V) {n : Nat} (hb : V.natAbs < 2 ^ n) (hn : (n : Int) ≤ 1297 + f.top + f.fractionBits) :
    ∃ r, f.mul c x = some r ∧ Num f r (16 * V) := by
  obtain ⟨s, m, e, h2, h3, h4, rfl⟩ := hx
  have hlo := hf.lo
  have hX := EX_eq
  unfold Format.mul Datum.product
  rw [hc, h2]
  simp only [Option.map_some, Format.write, Bool.false_xor]
  refine ⟨_, rfl, ?_⟩
  rw [Nat.mul_comm (2 ^ f.fractionBits) m]
  by_cases hm : m = 0
  · subst hm
    have := num_zero hf hE s (4 - f.fractionBits + e)
    simpa [sg] using this
  · rw [sg_natAbs] at hb
    have hl := mag_lt hm (by omega) hb
    have hk := num_nearest hf hE s (a := m) (k := f.fractionBits) (e := 4 - f.fractionBits + e) h4 (by omega) (by omega) (.inr (by omega))
    have e1 : sg s (m * 2 ^ f.fractionBits * 2 ^ (4 - (f.fractionBits : Int) + e + EX).toNat) = 16 * sg s (m * 2 ^ (e + EX).toNat) := by
      rw [Nat.mul_assoc, ← Nat.pow_add, show f.fractionBits + (4 - (f.fractionBits : Int) + e + EX).toNat = (e + EX).toNat + 4 by omega, Nat.pow_add, ← Nat.mul_assoc, sg_mul, Int.mul_comm]
      rfl
    rw [e1] at hk
    exact hk

/-- A number in a format with more digits. -/
theorem Num.widen {f g : Format} (hf : Fit f) (hg : Fit g) (hE : 3 ≤ 2 ^ g.exponentBits) (hF : f.fractionBits ≤ g.fractionBits) (hl : g.leastPlace ≤ f.leastPlace) {x : Nat} {V : Int} (hx : Num f x V) {n : Nat} (hb : V.natAbs < 2 ^ n) (hn : (n : Int) ≤ 1301 + g.top + g.fractionBits) :
    ∃ s m e, f.read x = .number s m e ∧ Num g (g.nearest s m e) V := by
  obtain ⟨s, m, e, h2, h3, h4, rfl⟩ := hx
  have hlo := hf.lo
  have hX := EX_eq
  refine ⟨s, m, e, h2, ?_⟩
  by_cases hm : m = 0
  · subst hm
    have := num_zero hg hE s e
    simpa [sg] using this
  · rw [sg_natAbs] at hb
    have hl := mag_lt hm (by omega) hb
    have hk := num_nearest hg hE s (a := m) (k := 0) (e := e) (Nat.lt_of_lt_of_le h4 (pow_mono (by omega))) (by omega) (by omega) (.inr (by omega))
    simpa using hk

theorem cut_zero (s : Bool) (n d : Nat) : Toward.cut .zero s n d = n / 2 ^ d := by
  unfold Toward.cut
  simp only [Bool.toNat_false, Nat.add_zero, Nat.one_shiftLeft]
  by_cases h : d ≤ n.log2 + 2
  · rw [Nat.min_eq_left h]
  · rw [Nat.min_eq_right (by omega)]
    have h1 : n < 2 ^ (n.log2 + 2) := Nat.lt_of_lt_of_le Nat.lt_log2_self (pow_mono (by omega))
    rw [Nat.div_eq_of_lt h1, Nat.div_eq_of_lt (Nat.lt_of_lt_of_le h1 (pow_mono (by omega)))]
/-- what is left of the fraction -/
theorem whole_eq (m : Nat) {e : Int} (he : -(EX : Int) ≤ e) : (m * 2 ^ e.toNat) / 2 ^ (-e).toNat = m * 2 ^ (e + EX).toNat / KK := by
  have hX := EX_eq
  rw [KK_eq]
  by_cases h : 0 ≤ e
  · have h1 : (-e).toNat = 0 := by omega
    have h2 : (e + EX).toNat = e.toNat + EX := by omega
    rw [h1, h2, Nat.pow_zero, Nat.div_one, Nat.pow_add, ← Nat.mul_assoc, Nat.mul_div_cancel _ (pow_pos2 _)]
  · have h1 : e.toNat = 0 := by omega
    have h2 : EX = (e + EX).toNat + (-e).toNat := by omega
    rw [h1, Nat.pow_zero, Nat.mul_one]
    conv => rhs; rw [show (2 : Nat) ^ EX = 2 ^ (-e).toNat * 2 ^ (e + EX).toNat by rw [← Nat.pow_add]; congr 1; omega]
    rw [Nat.mul_div_mul_right _ _ (pow_pos2 _)]
theorem sg_tdiv (s : Bool) (n c : Nat) : (sg s n).tdiv c = sg s (n / c) := by
  cases s
  · simp [sg]
  · simp [sg, Int.neg_tdiv]
theorem Num.toInt {f : Format} (hf : Fit f) {x : Nat} {V : Int} (hx : Num f x V) : (f.read x).toInt .zero = some (V.tdiv KK) := by
  obtain ⟨s, m, e, h2, h3, h4, rfl⟩ := hx
  have hlo := hf.lo
  have hX := EX_eq
  rw [h2]
  simp only [Datum.toInt, Datum.integral, signed_eq, cut_zero, Nat.shiftLeft_eq, Nat.pow_zero, Nat.mul_one]
  rw [whole_eq m (by omega), sg_tdiv]
/-- The whole part of a number. -/
theorem Num.whole {f : Format} (hf : Fit f) (hE : 3 ≤ 2 ^ f.exponentBits) {x : Nat} {V : Int} (hx : Num f x V) (ht : (f.fractionBits : Int) ≤ f.top) {n : Nat} (hb : V.natAbs < 2 ^ n) (hn : (n : Int) ≤ 1301 + f.top + f.fractionBits) : Num f (f.write ((f.read x).integral .zero)) (V.tdiv KK * KK) := by
  obtain ⟨s, m, e, h2, h3, h4, rfl⟩ := hx
  have hlo := hf.lo
  have hX := EX_eq
  rw [h2]
  simp only [Datum.integral, Format.write, cut_zero, Nat.shiftLeft_eq]
  rw [sg_tdiv, ← whole_eq m (by omega : -(EX : Int) ≤ e), ← sg_mul]
  by_cases h : 0 ≤ e
  · have h1 : (-e).toNat = 0 := by omega
    rw [h1, Nat.pow_zero, Nat.div_one]
    have hle := hf.le0
    by_cases hm : m = 0
    · subst hm
      simpa [sg] using num_zero hf hE s 0
    · rw [sg_natAbs] at hb
      have hl := mag_lt hm (by omega) hb
      have := num_nearest hf hE s (a := m) (k := e.toNat) (e := 0) h4 (by omega) (by omega) (.inr (by omega))
      rw [KK_eq]
      simpa using this
  · have h1 : e.toNat = 0 := by omega
    rw [h1, Nat.pow_zero, Nat.mul_one]
    generalize hi : m / 2 ^ (-e).toNat = i
    have hlt : i < 2 ^ (f.fractionBits + 1) := by rw [← hi]; exact Nat.lt_of_le_of_lt (Nat.div_le_self _ _) h4
    have hle := hf.le0
    by_cases hm : i = 0
    · subst hm
      simpa [sg] using num_zero hf hE s 0
    · have := (Nat.log2_lt hm).2 hlt
      have := num_nearest hf hE s (a := i) (k := 0) (e := 0) hlt (by omega) (by omega) (.inr (by omega))
      rw [KK_eq]
      simpa using this

/-- An integer as a number. -/
theorem num_int {f : Format} (hf : Fit f) (hE : 3 ≤ 2 ^ f.exponentBits) (ht : (f.fractionBits : Int) ≤ f.top) (n : Int) (hn : n.natAbs < 2 ^ (f.fractionBits + 1)) : Num f (f.write (.number (n < 0) n.natAbs 0)) (n * KK) := by
  simp only [Format.write]
  have hle := hf.le0
  have e1 : sg (decide (n < 0)) n.natAbs = n := by
    unfold sg
    by_cases h : n < 0
    · simp [h]; omega
    · simp [h]; omega
  by_cases hm : n.natAbs = 0
  · have : n = 0 := by omega
    subst this
    simpa using num_zero hf hE false 0
  · have := (Nat.log2_lt hm).2 hn
    have := num_nearest hf hE (decide (n < 0)) (a := n.natAbs) (k := 0) (e := 0) hn (by omega) (by omega) (.inr (by omega))
    simp only [Nat.pow_zero, Nat.mul_one] at this
    rw [sg_mul, e1] at this
    rw [KK_eq]
    simpa using this

end Ieee

end

/-! FlC -/
section
namespace Ieee

theorem word_lt (f : Format) (_hE : 1 ≤ f.exponentBits) (s : Bool) {r : Nat} (hr : r < f.signWeight) : f.word s r < 2 * f.signWeight := by
  unfold Format.word
  split <;> omega
theorem inf_lt (f : Format) : f.infRung + f.binade ≤ f.signWeight := by
  unfold Format.infRung Format.signWeight Format.binade
  rw [Nat.pow_add, Nat.sub_mul, Nat.one_mul]
  have := pow_pos2 f.exponentBits
  have := Nat.mul_le_mul_right (2 ^ f.fractionBits) this
  omega
theorem write_lt (f : Format) (hE : 1 ≤ f.exponentBits) (d : Datum) : f.write d < 2 * f.signWeight := by
  have h1 := inf_lt f
  have h2 : 0 < f.binade := pow_pos2 _
  unfold Format.write
  cases d with
  | number s m e =>
    simp only
    unfold Format.nearest
    split
    · exact word_lt f hE s (by omega)
    · exact word_lt f hE s (by omega)
  | infinity s => exact word_lt f hE s (by omega)
  | nan s t =>
    have := Nat.mod_lt t h2
    exact word_lt f hE s (by omega)
theorem mul_lt {f : Format} (hE : 1 ≤ f.exponentBits) {a b r : Nat} (h : f.mul a b = some r) : r < 2 * f.signWeight := by
  unfold Format.mul at h
  obtain ⟨d, _, rfl⟩ := Option.map_eq_some_iff.1 h
  exact write_lt f hE d

/-- Words of numbers: how great they may be. -/
theorem read_bound {f : Format} (hf : Fit f) (hE : 3 ≤ 2 ^ f.exponentBits) {b : Nat} {V : Int} (h : Num f b V) : V.natAbs ≤ (2 ^ (f.fractionBits + 1) - 1) * 2 ^ (f.top + EX).toNat := by
  obtain ⟨s, m, e, h1, h2, h3, rfl⟩ := h
  have hX := EX_eq
  have hlo := hf.lo
  rw [sg_natAbs]
  have he : e ≤ f.top := by
    have hp : 0 < f.binade := pow_pos2 _
    unfold Format.read at h1
    simp only at h1
    split at h1
    · simp only [Datum.number.injEq] at h1
      unfold Format.top
      omega
    · split at h1
      · rename_i hr
        simp only [Datum.number.injEq] at h1
        have h4 : b % f.signWeight / f.binade < 2 ^ f.exponentBits - 1 := by
          apply Nat.div_lt_of_lt_mul
          unfold Format.infRung at hr
          rw [Nat.mul_comm]
          exact hr
        unfold Format.top
        omega
      · split at h1 <;> simp at h1
  exact Nat.mul_le_mul (by omega) (pow_mono (by omega))

theorem Num.abs {f : Format} {b : Nat} {V : Int} (h : Num f b V) : Num f (b % f.signWeight) V.natAbs := by
  obtain ⟨s, m, e, h1, h2, h3, rfl⟩ := h
  have h0 : 0 < f.signWeight := pow_pos2 _
  refine ⟨false, m, e, ?_, h2, h3, by rw [sg_natAbs]; rfl⟩
  unfold Format.read at h1 ⊢
  have e1 : b % f.signWeight / f.signWeight = 0 := Nat.div_eq_of_lt (Nat.mod_lt _ h0)
  simp only [e1, Nat.mod_mod] at h1 ⊢
  split at h1
  · rename_i hr
    rw [if_pos hr]
    simp only [Datum.number.injEq] at h1 ⊢
    exact ⟨rfl, h1.2⟩
  · rename_i hr
    rw [if_neg hr]
    split at h1
    · rename_i hr2
      rw [if_pos hr2]
      simp only [Datum.number.injEq] at h1 ⊢
      exact ⟨rfl, h1.2⟩
    · split at h1 <;> simp at h1
theorem Num.notNaN {f : Format} {b : Nat} {V : Int} (h : Num f b V) : (f.read b).isNaN = false := by
  obtain ⟨s, m, e, h1, _⟩ := h
  rw [h1]; rfl
theorem Num.same {f : Format} {b : Nat} {V W : Int} (h : Num f b V) (k : Num f b W) : V = W := by
  obtain ⟨s, m, e, h1, _, _, rfl⟩ := h
  obtain ⟨t, n, d, k1, _, _, rfl⟩ := k
  rw [h1] at k1
  simp only [Datum.number.injEq] at k1
  obtain ⟨rfl, rfl, rfl⟩ := k1
  rfl

/-- is it a number? -/
def finW (b : Nat) : Int := match single.read b with
  | .number .. => 0
  | _ => 1
/-- the value of a word -/
def valW (b : Nat) : Int := match single.read b with
  | .number s m e => sg s (m * 2 ^ (e + EX).toNat)
  | _ => 0
/-- is it a multiple of a sixteenth, and not too great? -/
def mulW (L : Nat) (b : Nat) : Int := if finW b = 0 ∧ (16 * valW b) % KK = 0 ∧ (valW b).natAbs ≤ L * KK then 0 else 3
def chkW (L : Nat) (b : Nat) : Int := if finW b = 0 then mulW L b else 1
/-- the integer of a sample -/
def intW (b : Nat) : Int := (16 * valW b).tdiv KK

theorem finW_num {b : Nat} {V : Int} (h : Num single b V) : finW b = 0 ∧ valW b = V := by
  obtain ⟨s, m, e, h1, _, _, rfl⟩ := h
  unfold finW valW
  rw [h1]
  exact ⟨rfl, rfl⟩
theorem num_finW {b : Nat} (h : finW b = 0) : Num single b (valW b) := by
  rcases read_cases (f := single) b with ⟨s, t, h1⟩ | ⟨s, h1⟩ | ⟨V, h1⟩
  · unfold finW at h; rw [h1] at h; simp at h
  · unfold finW at h; rw [h1] at h; simp at h
  · rw [(finW_num h1).2]; exact h1
theorem finW_or (b : Nat) : finW b = 0 ∨ finW b = 1 := by
  unfold finW
  split <;> simp
theorem KK_pow (n : Nat) {e : Nat} (he : n < 2 ^ e) : n * KK < 2 ^ (e + EX) := by
  rw [KK_eq, Nat.pow_add]
  exact Nat.mul_lt_mul_of_pos_right he (pow_pos2 _)
end Ieee

end

/-! SeFl -/
section
open Go Go.Ev
namespace Go.Proofs.YtdjjpjahlhdjnaaGreatDoor
noncomputable section
abbrev fC (b : Nat) : AC := .v (.float .f32 b)
abbrev dC (b : Nat) : AC := .v (.float .f64 b)
def nanP (k : FloatKind) (y : Value) : Prop := ∃ b, y = .float k b ∧ (k.format.read b).isNaN = true
def nanD : AC := .any (nanP .f64)

theorem cr_nan {m : M} {b : Nat} (h : (Ieee.double.read b).isNaN = true) : CR m nanD (.float .f64 b) := ⟨⟨b, rfl, h⟩, rfl, fun _ h => by cases h⟩
theorem nan_of {m : M} {p : Value} (h : CR m nanD p) : ∃ b, p = .float .f64 b ∧ (Ieee.double.read b).isNaN = true := h.1
theorem isNaN_order {f : Ieee.Format} {x y : Nat} (h : (f.read x).isNaN = true) : f.order x y = none := by
  unfold Ieee.Format.order
  cases hx : f.read x <;> rw [hx] at h <;> simp [Ieee.Datum.isNaN] at h
  simp [Ieee.Datum.order]
theorem isNaN_product {d e : Ieee.Datum} (h : e.isNaN = true) : d.product e = none := by
  cases e <;> simp [Ieee.Datum.isNaN] at h
  cases d <;> simp [Ieee.Datum.product]

/-- what the tape may say of a NaN -/
theorem chosen_nan (t : Nat) : (Ieee.double.read ((t % 2) * 2 ^ 63 + 0x7ff0000000000000 + 1 + (t / 2) % (2 ^ 52 - 1))).isNaN = true := by
  have h1 : t % 2 < 2 := Nat.mod_lt _ (by omega)
  have h2 : t / 2 % (2 ^ 52 - 1) < 2 ^ 52 - 1 := Nat.mod_lt _ (by omega)
  generalize t / 2 % (2 ^ 52 - 1) = q at h2
  generalize t % 2 = s at h1
  have e1 : Ieee.double.signWeight = 9223372036854775808 := by decide
  have e2 : Ieee.double.binade = 4503599627370496 := by decide
  have e3 : Ieee.double.infRung = 9218868437227405312 := by decide
  have hm : (s * 2 ^ 63 + 0x7ff0000000000000 + 1 + q) % Ieee.double.signWeight = 9218868437227405313 + q := by rw [e1]; omega
  unfold Ieee.Format.read
  rw [hm, e2, e3]
  simp only
  rw [if_neg (by omega), if_neg (by omega), if_neg (by omega)]
  rfl
theorem run_choose {P : Program} {q : Question} {w : World} (hq : q.forced = false) : (choose q).run P w = .ok (q.cut (w.tape w.drawn q)) { w with drawn := w.drawn + 1 } := by
  simp [choose, Sem.run, hq]

/-- a conversion to float64 -/
theorem run_conv64 {P : Program} {s d : TypeId} (hs : P.underlying s = some (.float .f32)) (hd : P.underlying d = some (.float .f64)) (b : Nat) (w : World) : (convert s d (.float .f32 b)).run P w = (Conv.floatToFloat .f32 b .f64).run P w := by
  simp only [convert, Sem.run_bind, run_underlying hs, run_underlying hd, Result.andThen_ok]
theorem conv_nan {P : Program} {s d : TypeId} (hs : P.underlying s = some (.float .f32)) (hd : P.underlying d = some (.float .f64)) {b : Nat} (h : (Ieee.single.read b).isNaN = true) : ConvOk P s d (fC b) nanD := by
  intro m p w hp
  obtain rfl : p = .float .f32 b := hp
  refine ⟨_, w.drawn + 1, ?_, cr_nan (chosen_nan (w.tape w.drawn (.nanConv .f64 b)))⟩
  rw [run_conv64 hs hd]
  unfold Conv.floatToFloat
  rw [if_neg (by decide)]
  have hx : ∃ u t, FloatKind.f32.decode b = .nan u t := by
    show ∃ u t, Ieee.single.read b = .nan u t
    cases hx : Ieee.single.read b <;> rw [hx] at h <;> simp [Ieee.Datum.isNaN] at h
    exact ⟨_, _, rfl⟩
  obtain ⟨u, t, hx⟩ := hx
  rw [hx]
  simp only [Sem.run_bind, run_choose (q := .nanConv .f64 b) rfl, Result.andThen_ok]
  rfl
theorem conv_inf {P : Program} {s d : TypeId} (hs : P.underlying s = some (.float .f32)) (hd : P.underlying d = some (.float .f64)) {b : Nat} {u : Bool} (h : Ieee.single.read b = .infinity u) : ConvOk P s d (fC b) (dC (Ieee.double.word u Ieee.double.infRung)) := by
  intro m p w hp
  obtain rfl : p = .float .f32 b := hp
  refine ⟨_, w.drawn, ?_, rfl⟩
  rw [run_conv64 hs hd]
  unfold Conv.floatToFloat
  rw [if_neg (by decide), show FloatKind.f32.decode b = .infinity u from h]
  rfl
/-! Products with 16. -/
theorem c16_double : Ieee.double.read 4625196817309499392 = .number false (2 ^ Ieee.double.fractionBits) (4 - Ieee.double.fractionBits) := by decide
theorem c16_single : Ieee.single.read 1098907648 = .number false (2 ^ Ieee.single.fractionBits) (4 - Ieee.single.fractionBits) := by decide
theorem run_mul {P : Program} {t : TypeId} {x z : Operand} {k : FloatKind} {a b : Nat} (w : World) : (do eqGuard .mul t x z (.float k a) (.float k b); binOp .mul t (.float k a) (.float k b) : Sem Value).run P w = (Op.floatArith .mul k a b).run P w := by
  simp [eqGuard, binOp]
theorem mul_nan {P : Program} {t : TypeId} {x z : Operand} {a : Nat} : BinOk P .mul t x z (dC a) nanD nanD := by
  intro m p q w hp hq
  obtain rfl : p = .float .f64 a := hp
  obtain ⟨b, rfl, h⟩ := nan_of hq
  refine ⟨_, w.drawn + 1, ?_, cr_nan (chosen_nan (w.tape w.drawn (.nanBits .f64 a b)))⟩
  rw [run_mul]
  have h1 : FloatKind.f64.format.mul a b = none := by
    show Ieee.Format.mul Ieee.double a b = none
    unfold Ieee.Format.mul
    rw [isNaN_product h]
    rfl
  simp only [Op.floatArith, pure_bind, h1]
  simp only [Sem.run_bind, run_choose (q := .nanBits .f64 a b) rfl, Result.andThen_ok]
  rfl
theorem mul_ok {P : Program} {t : TypeId} {x z : Operand} {k : FloatKind} {a b r : Nat} (h : k.format.mul a b = some r) : BinOk P .mul t x z (.v (.float k a)) (.v (.float k b)) (.v (.float k r)) := by
  intro m p q w hp hq
  obtain rfl : p = .float k a := hp
  obtain rfl : q = .float k b := hq
  refine ⟨_, w.drawn, ?_, rfl⟩
  rw [run_mul]
  simp only [Op.floatArith, pure_bind, h]
  rfl
theorem neq_nan {P : Program} {t : TypeId} {x z : Operand} : BinOk P .neq t x z nanD nanD (.v (.bool true)) := by
  intro m p q w hp hq
  obtain ⟨a, rfl, h⟩ := nan_of hp
  obtain ⟨b, rfl, _⟩ := nan_of hq
  refine ⟨_, w.drawn, ?_, rfl⟩
  have ho : FloatKind.f64.format.order a b = none := isNaN_order (f := Ieee.double) h
  simp [eqGuard, binOp, Op.floatCmp, ho]
theorem andNot_ok {P : Program} {t : TypeId} {x z : Operand} {r : Nat} (h : r < 2 ^ 64) : BinOk P .andNot t x z (.v (.int .u64 r)) (.v (.int .u64 9223372036854775808)) (.v (.int .u64 (Int.ofNat (r % 2 ^ 63)))) := by
  intro m p q w hp hq
  obtain rfl : p = .int .u64 r := hp
  obtain rfl : q = .int .u64 9223372036854775808 := hq
  refine ⟨_, w.drawn, ?_, rfl⟩
  have e1 : (do eqGuard .andNot t x z (.int .u64 r) (.int .u64 9223372036854775808); binOp .andNot t (.int .u64 r) (.int .u64 9223372036854775808) : Sem Value) = Op.intBits .andNot .u64 r 9223372036854775808 := by simp [eqGuard, binOp]
  have e2 : (BitVec.ofInt 64 (r : Int) &&& ~~~ BitVec.ofInt 64 9223372036854775808).toNat = r % 2 ^ 63 := by
    have h2 : ~~~ BitVec.ofInt 64 9223372036854775808 = BitVec.ofNat 64 (2 ^ 63 - 1) := by decide
    have h3 : 2 ^ 63 - 1 < (2 : Nat) ^ 64 := by decide
    rw [h2, BitVec.toNat_and, BitVec.ofInt_natCast, BitVec.toNat_ofNat, BitVec.toNat_ofNat, Nat.mod_eq_of_lt h, Nat.mod_eq_of_lt h3]
    exact Nat.and_two_pow_sub_one_eq_mod r 63
  rw [e1]
  show Result.ok (Value.int .u64 (IntKind.wrap .u64 ((BitVec.ofInt 64 (r : Int) &&& ~~~ BitVec.ofInt 64 9223372036854775808).toNat : Int))) w = _
  rw [e2]
  have h4 : r % 2 ^ 63 < 2 ^ 63 := Nat.mod_lt _ (by decide)
  have e3 : IntKind.wrap .u64 ((r % 2 ^ 63 : Nat) : Int) = ((r % 2 ^ 63 : Nat) : Int) := by
    rw [IntKind.wrap_u64]
    omega
  rw [e3]
  rfl
/-- an integer as a float -/
theorem conv_int {P : Program} {s d : TypeId} {k : FloatKind} {j : IntKind} (hs : P.underlying s = some (.int j)) (hd : P.underlying d = some (.float k)) (n : Int) : ConvOk P s d (.v (.int j n)) (.v (.float k (k.nearest n))) := by
  intro m p w hp
  obtain rfl : p = .int j n := hp
  refine ⟨_, w.drawn, ?_, rfl⟩
  simp only [convert, Sem.run_bind, run_underlying hs, run_underlying hd, Result.andThen_ok]
  rfl
/-- a float as an integer -/
theorem conv_toInt {P : Program} {s d : TypeId} {k : FloatKind} (hs : P.underlying s = some (.float k)) (hd : P.underlying d = some (.int .i64)) {b : Nat} {n : Int} (h : (k.format.read b).toInt .zero = some n) (h0 : -9223372036854775808 ≤ n) (h1 : n ≤ 9223372036854775807) : ConvOk P s d (.v (.float k b)) (.v (.int .i64 n)) := by
  intro m p w hp
  obtain rfl : p = .float k b := hp
  refine ⟨_, w.drawn, ?_, rfl⟩
  simp only [convert, Sem.run_bind, run_underlying hs, run_underlying hd, Result.andThen_ok, Conv.floatToInt]
  rw [show (k.decode b).toInt .zero = some n from h]
  simp only
  rw [if_pos ⟨h0, h1⟩]
  rfl

/-! math.archTrunc -/
theorem ext_trunc (ps : Array Value) (w : World) : (callFunc 170 ps).run E.P w = ((Extern.MathFloor.toIntegral "math.archTrunc" .zero ps).run E.P w).andThen fun v w' => .ok (.value v) w' :=
  run_callFunc_extern Tryz.func170 (by kernel_rfl) (by kernel_rfl) (by kernel_rfl) (e := Extern.MathFloor.toIntegral "math.archTrunc" .zero) (by kernel_rfl) ps w
theorem toIntegral_eq (n : String) (way : Ieee.Toward) (b : Nat) : Extern.MathFloor.toIntegral n way #[.float .f64 b] = (match FloatKind.f64.decode b with
    | .nan s t =>
      if FloatKind.f64.format.quiet t = t then pure (.float .f64 b) else do
      let kept ← choose (.extern "math.Floor,Ceil,Trunc,RoundToEven.signallingNaN kept" 2)
      pure (.float .f64 (if kept == 1 then b else FloatKind.f64.encode (.nan s (FloatKind.f64.format.quiet t))))
    | d => pure (.float .f64 (FloatKind.f64.encode (d.integral way)))) := rfl
theorem args_one {m : M} {x : AC} {ps : Array Value} (h : All2 (VR m) [.e (.one x)] ps.toList) : ∃ y, ps = #[y] ∧ CR m x y := by
  obtain ⟨l⟩ := ps
  match l, h with
  | [y], h => exact ⟨y, rfl, h.1⟩
theorem quiet_nan {b : Nat} {u : Bool} {t : Nat} (h : Ieee.double.read b = .nan u t) : (Ieee.double.read (Ieee.double.write (.nan u (Ieee.double.quiet t)))).isNaN = true := by
  have hb : t < 2 ^ 52 := by
    unfold Ieee.Format.read at h
    simp only at h
    split at h
    · simp at h
    · split at h
      · simp at h
      · split at h
        · simp at h
        · simp only [Ieee.Datum.nan.injEq] at h
          have e1 : Ieee.double.signWeight = 9223372036854775808 := by decide
          have e3 : Ieee.double.infRung = 9218868437227405312 := by decide
          have := Nat.mod_lt b (show 0 < Ieee.double.signWeight by rw [e1]; omega)
          rw [e1] at this h
          rw [e3] at h
          omega
  have hq : Ieee.double.quiet t < 2 ^ 52 := Nat.or_lt_two_pow hb (by decide)
  have hq0 : 2 ^ 51 ≤ Ieee.double.quiet t := Nat.right_le_or
  show (Ieee.double.read (Ieee.double.word u (Ieee.double.infRung + Ieee.double.quiet t % Ieee.double.binade))).isNaN = true
  have e1 : Ieee.double.signWeight = 9223372036854775808 := by decide
  have e2 : Ieee.double.binade = 4503599627370496 := by decide
  have e3 : Ieee.double.infRung = 9218868437227405312 := by decide
  generalize Ieee.double.quiet t = q at hq hq0
  rw [e2, Nat.mod_eq_of_lt (by omega), Ieee.Format.read_word _ _ (by rw [e1, e3]; omega), e2, e3, if_neg (by omega), if_neg (by omega), if_neg (by omega)]
  rfl
theorem trunc_nan : ExtOk E.P 170 [.e (.one nanD)] nanD := by
  intro m ps w h
  obtain ⟨y, rfl, hy⟩ := args_one h
  obtain ⟨b, rfl, hb⟩ := nan_of hy
  have hx : ∃ u t, FloatKind.f64.decode b = .nan u t := by
    show ∃ u t, Ieee.double.read b = .nan u t
    cases hx : Ieee.double.read b <;> rw [hx] at hb <;> simp [Ieee.Datum.isNaN] at hb
    exact ⟨_, _, rfl⟩
  obtain ⟨u, t, hx⟩ := hx
  rw [ext_trunc, toIntegral_eq, hx]
  simp only
  by_cases hq : FloatKind.f64.format.quiet t = t
  · rw [if_pos hq]
    exact ⟨_, w.drawn, rfl, cr_nan hb⟩
  · rw [if_neg hq]
    simp only [Sem.run_bind, run_choose (q := .extern "math.Floor,Ceil,Trunc,RoundToEven.signallingNaN kept" 2) rfl, Result.andThen_ok]
    refine ⟨_, w.drawn + 1, rfl, ?_⟩
    split
    · exact cr_nan hb
    · exact cr_nan (quiet_nan hx)
theorem trunc_ok {b : Nat} (h : (Ieee.double.read b).isNaN = false) : ExtOk E.P 170 [.e (.one (dC b))] (dC (Ieee.double.write ((Ieee.double.read b).integral .zero))) := by
  intro m ps w hp
  obtain ⟨y, rfl, hy⟩ := args_one hp
  obtain rfl : y = .float .f64 b := hy
  rw [ext_trunc, toIntegral_eq, show FloatKind.f64.decode b = Ieee.double.read b from rfl]
  refine ⟨_, w.drawn, ?_, rfl⟩
  cases hd : Ieee.double.read b with
  | nan u t => rw [hd] at h; simp [Ieee.Datum.isNaN] at h
  | infinity u => rfl
  | number u g e => rfl
end
end Go.Proofs.YtdjjpjahlhdjnaaGreatDoor

end

/-! SeFa -/
section
open Go Go.Ev
namespace Go.Proofs.YtdjjpjahlhdjnaaGreatDoor
noncomputable section
set_option maxRecDepth 100000
set_option maxHeartbeats 20000000
def st151n  (_j : Nat → Value) : St := startK Tryz.f151 [] [.e (.one nanD)]
def st151 (r : Nat) (_e : Bool) (_j : Nat → Value) : St := startK Tryz.f151 [] [.e (.one (dC r))]
def st154 (r _a : Nat) (_j : Nat → Value) : St := startK Tryz.f154 [] [.e (.one (dC r))]
def st152 (r _a : Nat) (_e : Bool) (_j : Nat → Value) : St := startK Tryz.f152 [] [.e (.one (dC r)), iI 0]
def st153 (x _y : AC) (_j : Nat → Value) : St := startK Tryz.f153 [] [.e (.one x)]
def st88 (b _r : Nat) (_e : Int) (_j : Nat → Value) : St := startK Tryz.f88 [] [.e (.one (fC b))]
def st89 (b _r _y _z _a _l : Nat) (L _e : Int) (_j : Nat → Value) : St := startK Tryz.f89 [] [.e (.one (fC b)), iI L]
def st24 (b : Nat) (_f _g _e : Int) (_j : Nat → Value) : St := startK Tryz.f24 [] [.e (.one (fC b))]
def st90_1024 (b _r _q : Nat) (_n _e : Int) (_j : Nat → Value) : St := startK Tryz.f90 [] [.e (.one (fC b)), iI 1024]
def st25 (b : Nat) (_e : Int) (_j : Nat → Value) : St := startK Tryz.f25 [] [.e (.one (fC b))]
def c151n_end  (j : Nat → Value) : St := ⟨[], [(.code .ret)], mkT j [(2, (iB true))] 6 0⟩
theorem c151n (hE : EnvOk E)  (h0 : BinOk E.P BinOp.neq (219 : Nat) (Operand.tmp (3 : Nat)) (Operand.tmp (4 : Nat)) (AC.any (nanP FloatKind.f64)) (AC.any (nanP FloatKind.f64)) (AC.v (Value.bool true))) {Φ : Res → Prop} (ho : ∀ j, OutK E 0 0 (c151n_end  j) Φ) (j : Nat → Value) : OutK E 0 0 (st151n  j) Φ :=
  outK_seg hE (R0_ok hE) [.run 3, (.ops [(2, (.fb (.v (.bool true))))] [])] [2] (fun j => by kernel_rfl) (aP h0 <| aZ)
    ho
def c151_end (_r : Nat) (e : Bool) (j : Nat → Value) : St := ⟨[], [(.code .ret)], mkT j [(2, (iB (e)))] 6 0⟩
theorem c151 (hE : EnvOk E) (r : Nat) (e : Bool) (h0 : ((iB (FloatKind.f64.format.order r r != some Ordering.eq)) : AV) = (iB (e))) {Φ : Res → Prop} (ho : ∀ j, OutK E 0 0 (c151_end r e j) Φ) (j : Nat → Value) : OutK E 0 0 (st151 r e j) Φ :=
  outK_seg hE (R0_ok hE) [.run 3, (.ops [(2, (.rn (iB (e))))] [])] [2] (fun j => by kernel_rfl) (aP h0 <| aZ)
    ho
def c154_end (_r a : Nat) (j : Nat → Value) : St := ⟨[], [(.code .ret)], mkT j [(2, (.e (.one (.v (.float .f64 (a))))))] 7 0⟩
theorem c154 (hE : EnvOk E) (r a : Nat) (h0 : BinOk E.P BinOp.andNot (239 : Nat) (Operand.tmp (4 : Nat)) (Operand.const (Value.int IntKind.u64 (9223372036854775808 : Int))) (AC.v (Value.int IntKind.u64 (↑r : Int))) (AC.v (Value.int IntKind.u64 (9223372036854775808 : Int))) (AC.v (Value.int IntKind.u64 (Int.ofNat a)))) (h1 : ((.e (.one (.v (.float .f64 ((Int.ofNat a).toNat))))) : AV) = (.e (.one (.v (.float .f64 (a)))))) {Φ : Res → Prop} (ho : ∀ j, OutK E 0 0 (c154_end r a j) Φ) (j : Nat → Value) : OutK E 0 0 (st154 r a j) Φ :=
  outK_seg hE (R0_ok hE) [.run 3, (.ops [(2, (.fb (.v (.int .u64 (Int.ofNat a))))), (3, (.rn (.e (.one (.v (.float .f64 (a)))))))] [])] [2] (fun j => by kernel_rfl) (aP h0 <| aP h1 <| aZ)
    ho
def c152_end (_r _a : Nat) (e : Bool) (j : Nat → Value) : St := ⟨[], [(.code .ret)], mkT j [(4, (iB (e)))] 15 0⟩
theorem c152 (hE : EnvOk E) (r a : Nat) (e : Bool) (h0 : COut E 0 [] 154 [(.e (.one (.v (.float .f64 (r)))))] (.e (.one (.v (.float .f64 (a))))) []) (h2 : ((iB (FloatKind.f64.format.order a (9218868437227405311 : Nat) == some Ordering.gt)) : AV) = (iB (e))) {Φ : Res → Prop} (ho : ∀ j, OutK E 0 0 (c152_end r a e j) Φ) (j : Nat → Value) : OutK E 0 0 (st152 r a e j) Φ :=
  outK_seg hE (R0_ok hE) [.run 6, (.ops [(1, (.c0 (.e (.one (.v (.float .f64 (a)))))))] []), .run 1, (.ops [(1, (.rn (iB (e))))] [])] [4] (fun j => by kernel_rfl) (aP h0 <| aN <| aP h2 <| aZ)
    ho
def c153_end (_x y : AC) (j : Nat → Value) : St := ⟨[], [(.code .ret), (.code (atC [1, 1] (bodyOf Tryz.f153)))], mkT j [(2, (.e (.one (y))))] 7 0⟩
theorem c153 (hE : EnvOk E) (x y : AC) (h0 : ExtOk E.P 170 [(.e (.one (x)))] y) {Φ : Res → Prop} (ho : ∀ j, OutK E 0 0 (c153_end x y j) Φ) (j : Nat → Value) : OutK E 0 0 (st153 x y j) Φ :=
  outK_seg hE (R0_ok hE) [.run 5, (.ops [(0, .go), (1, (.fx (y)))] [])] [2] (fun j => by kernel_rfl) (aP h0 <| aZ)
    ho
def c88n_end (_b _r : Nat) (e : Int) (j : Nat → Value) : St := ⟨[], [(.code .ret)], mkT j [(2, (iI (e)))] 13 0⟩
theorem c88n (hE : EnvOk E) (b r : Nat) (e : Int) (h0 : ConvOk E.P (23 : Nat) (219 : Nat) (AC.v (Value.float FloatKind.f32 b)) nanD) (h1 : COut E 0 [] 151 [(.e (.one (.any (nanP FloatKind.f64))))] (iB true) []) (h3 : COut E 0 [] 85 [(iB true), (iI 1)] (iI (e)) []) {Φ : Res → Prop} (ho : ∀ j, OutK E 0 0 (c88n_end b r e j) Φ) (j : Nat → Value) : OutK E 0 0 (st88 b r e j) Φ :=
  outK_seg hE (R0_ok hE) [.run 3, (.ops [(1, (.fc (.any (nanP FloatKind.f64))))] []), .run 1, (.ops [(1, (.c0 (iB true))), (6, (.c0 (iI (e))))] [])] [2] (fun j => by kernel_rfl) (aP h0 <| aP h1 <| aN <| aP h3 <| aN <| aZ)
    ho
def c88f_end (_b _r : Nat) (e : Int) (j : Nat → Value) : St := ⟨[], [(.code .ret)], mkT j [(2, (iI (e)))] 13 0⟩
theorem c88f (hE : EnvOk E) (b r : Nat) (e : Int) (h0 : ConvOk E.P (23 : Nat) (219 : Nat) (AC.v (Value.float FloatKind.f32 b)) (dC r)) (h1 : COut E 0 [] 151 [(.e (.one (.v (.float .f64 (r)))))] (iB false) []) (h3 : COut E 0 [] 152 [(.e (.one (.v (.float .f64 (r))))), (iI 0)] (iB false) []) (h5 : COut E 0 [] 85 [(iB false), (iI 1)] (iI (e)) []) {Φ : Res → Prop} (ho : ∀ j, OutK E 0 0 (c88f_end b r e j) Φ) (j : Nat → Value) : OutK E 0 0 (st88 b r e j) Φ :=
  outK_seg hE (R0_ok hE) [.run 3, (.ops [(1, (.fc (.v (.float .f64 (r)))))] []), .run 1, (.ops [(1, (.c0 (iB false))), (4, (.c0 (iB false))), (6, (.c0 (iI (e))))] [])] [2] (fun j => by kernel_rfl) (aP h0 <| aP h1 <| aN <| aP h3 <| aN <| aP h5 <| aN <| aZ)
    ho
def c88i_end (_b _r : Nat) (e : Int) (j : Nat → Value) : St := ⟨[], [(.code .ret)], mkT j [(2, (iI (e)))] 13 0⟩
theorem c88i (hE : EnvOk E) (b r : Nat) (e : Int) (h0 : ConvOk E.P (23 : Nat) (219 : Nat) (AC.v (Value.float FloatKind.f32 b)) (dC r)) (h1 : COut E 0 [] 151 [(.e (.one (.v (.float .f64 (r)))))] (iB false) []) (h3 : COut E 0 [] 152 [(.e (.one (.v (.float .f64 (r))))), (iI 0)] (iB true) []) (h5 : COut E 0 [] 85 [(iB true), (iI 1)] (iI (e)) []) {Φ : Res → Prop} (ho : ∀ j, OutK E 0 0 (c88i_end b r e j) Φ) (j : Nat → Value) : OutK E 0 0 (st88 b r e j) Φ :=
  outK_seg hE (R0_ok hE) [.run 3, (.ops [(1, (.fc (.v (.float .f64 (r)))))] []), .run 1, (.ops [(1, (.c0 (iB false))), (4, (.c0 (iB true))), (6, (.c0 (iI (e))))] [])] [2] (fun j => by kernel_rfl) (aP h0 <| aP h1 <| aN <| aP h3 <| aN <| aP h5 <| aN <| aZ)
    ho
def c89n_end (_b _r _y _z _a _l : Nat) (_L e : Int) (j : Nat → Value) : St := ⟨[], [(.code .ret)], mkT j [(4, (iI (e)))] 22 0⟩
theorem c89n (hE : EnvOk E) (b r y z a l : Nat) (L e : Int) (h0 : ConvOk E.P (23 : Nat) (219 : Nat) (AC.v (Value.float FloatKind.f32 b)) nanD) (h1 : BinOk E.P BinOp.mul (219 : Nat) (Operand.const (Value.float FloatKind.f64 (4625196817309499392 : Nat))) (Operand.tmp (7 : Nat)) (AC.v (Value.float FloatKind.f64 (4625196817309499392 : Nat))) nanD nanD) (h2 : COut E 0 [] 153 [(.e (.one (.any (nanP FloatKind.f64))))] (.e (.one (.any (nanP FloatKind.f64)))) []) (h4 : BinOk E.P BinOp.neq (219 : Nat) (Operand.tmp (9 : Nat)) (Operand.tmp (11 : Nat)) (AC.any (nanP FloatKind.f64)) nanD (AC.v (Value.bool true))) (h5 : COut E 0 [] 85 [(iB true), (iI 3)] (iI (e)) []) {Φ : Res → Prop} (ho : ∀ j, OutK E 0 0 (c89n_end b r y z a l L e j) Φ) (j : Nat → Value) : OutK E 0 0 (st89 b r y z a l L e j) Φ :=
  outK_seg hE (R0_ok hE) [.run 3, (.ops [(1, (.fc (.any (nanP FloatKind.f64)))), (2, (.fb (.any (nanP FloatKind.f64))))] []), .run 1, (.ops [(2, (.c0 (.e (.one (.any (nanP FloatKind.f64)))))), (3, (.fb (.v (.bool true)))), (12, (.c0 (iI (e))))] [])] [4] (fun j => by kernel_rfl) (aP h0 <| aP h1 <| aP h2 <| aN <| aP h4 <| aP h5 <| aN <| aZ)
    ho
def c89t_end (_b _r _y _z _a _l : Nat) (_L e : Int) (j : Nat → Value) : St := ⟨[], [(.code .ret)], mkT j [(4, (iI (e)))] 22 0⟩
theorem c89t (hE : EnvOk E) (b r y z a l : Nat) (L e : Int) (h0 : ConvOk E.P (23 : Nat) (219 : Nat) (AC.v (Value.float FloatKind.f32 b)) (dC r)) (h1 : BinOk E.P BinOp.mul (219 : Nat) (Operand.const (Value.float FloatKind.f64 (4625196817309499392 : Nat))) (Operand.tmp (7 : Nat)) (AC.v (Value.float FloatKind.f64 (4625196817309499392 : Nat))) (dC r) (dC y)) (h2 : COut E 0 [] 153 [(.e (.one (.v (.float .f64 (y)))))] (.e (.one (.v (.float .f64 (z))))) []) (h4 : ((iB (FloatKind.f64.format.order y z != some Ordering.eq)) : AV) = (iB true)) (h5 : COut E 0 [] 85 [(iB true), (iI 3)] (iI (e)) []) {Φ : Res → Prop} (ho : ∀ j, OutK E 0 0 (c89t_end b r y z a l L e j) Φ) (j : Nat → Value) : OutK E 0 0 (st89 b r y z a l L e j) Φ :=
  outK_seg hE (R0_ok hE) [.run 3, (.ops [(1, (.fc (.v (.float .f64 (r))))), (2, (.fb (.v (.float .f64 (y)))))] []), .run 1, (.ops [(2, (.c0 (.e (.one (.v (.float .f64 (z))))))), (3, (.rn (iB true))), (12, (.c0 (iI (e))))] [])] [4] (fun j => by kernel_rfl) (aP h0 <| aP h1 <| aP h2 <| aN <| aP h4 <| aP h5 <| aN <| aZ)
    ho
def c89f_end (_b _r _y _z _a _l : Nat) (_L e : Int) (j : Nat → Value) : St := ⟨[], [(.code .ret)], mkT j [(4, (iI (e)))] 22 0⟩
theorem c89f (hE : EnvOk E) (b r y z a l : Nat) (L e : Int) (h0 : ConvOk E.P (23 : Nat) (219 : Nat) (AC.v (Value.float FloatKind.f32 b)) (dC r)) (h1 : BinOk E.P BinOp.mul (219 : Nat) (Operand.const (Value.float FloatKind.f64 (4625196817309499392 : Nat))) (Operand.tmp (7 : Nat)) (AC.v (Value.float FloatKind.f64 (4625196817309499392 : Nat))) (dC r) (dC y)) (h2 : COut E 0 [] 153 [(.e (.one (.v (.float .f64 (y)))))] (.e (.one (.v (.float .f64 (z))))) []) (h4 : ((iB (FloatKind.f64.format.order y z != some Ordering.eq)) : AV) = (iB false)) (h5 : COut E 0 [] 154 [(.e (.one (.v (.float .f64 (y)))))] (.e (.one (.v (.float .f64 (a))))) []) (h7 : ((iI (wrapF IntKind.i64 ((16 : Int) * L))) : AV) = (iI ((16 : Int) * L))) (h8 : ConvOk E.P (3 : Nat) (219 : Nat) (AC.v (Value.int IntKind.i64 ((16 : Int) * L))) (dC l)) (h9 : COut E 0 [] 85 [(iB (FloatKind.f64.format.order a l == some Ordering.gt)), (iI 3)] (iI (e)) []) {Φ : Res → Prop} (ho : ∀ j, OutK E 0 0 (c89f_end b r y z a l L e j) Φ) (j : Nat → Value) : OutK E 0 0 (st89 b r y z a l L e j) Φ :=
  outK_seg hE (R0_ok hE) [.run 3, (.ops [(1, (.fc (.v (.float .f64 (r))))), (2, (.fb (.v (.float .f64 (y)))))] []), .run 1, (.ops [(2, (.c0 (.e (.one (.v (.float .f64 (z))))))), (3, (.rn (iB false))), (6, (.c0 (.e (.one (.v (.float .f64 (a))))))), (8, (.rn (iI ((16 : Int) * L)))), (9, (.fc (.v (.float .f64 (l))))), (12, (.c0 (iI (e))))] [])] [4] (fun j => by kernel_rfl) (aP h0 <| aP h1 <| aP h2 <| aN <| aP h4 <| aP h5 <| aN <| aP h7 <| aP h8 <| aP h9 <| aN <| aZ)
    ho
def c24_end (_b : Nat) (_f _g e : Int) (j : Nat → Value) : St := ⟨[], [(.code .ret)], mkT j [(2, (iI (e)))] 9 0⟩
theorem c24 (hE : EnvOk E) (b : Nat) (f g e : Int) (h0 : COut E 0 [] 88 [(.e (.one (.v (.float .f32 (b)))))] (iI (f)) []) (h2 : COut E 0 [] 89 [(.e (.one (.v (.float .f32 (b))))), (iI 1024)] (iI (g)) []) (h4 : COut E 1 [(.some ⟨[(.v (.int .i64 (f))), (.v (.int .i64 (g)))], 2, 26, true, .cells⟩)] 79 [(.e (.one (.slc 0 0 2 1 2 true)))] (iI (e)) [(.some ⟨[(.v (.int .i64 (f))), (.v (.int .i64 (g)))], 2, 26, true, .cells⟩)]) {Φ : Res → Prop} (ho : ∀ j, OutK E 0 0 (c24_end b f g e j) Φ) (j : Nat → Value) : OutK E 0 0 (st24 b f g e j) Φ :=
  outK_seg hE (R0_ok hE) [.run 3, (.ops [(1, (.c0 (iI (f)))), (3, (.c0 (iI (g)))), (5, (.d (.c1 (iI (e)))))] [])] [2] (s' := fun j => ⟨[(.some ⟨[(.v (.int .i64 (f))), (.v (.int .i64 (g)))], 2, 26, true, .cells⟩)], [(.code .ret)], mkT j [(2, (iI (e)))] 9 0⟩) (fun j => by kernel_rfl) (aP h0 <| aN <| aP h2 <| aN <| aP h4 <| aN <| aZ)
    fun j => outK_gc [] (by decide) (by kernel_rfl) (by kernel_rfl) (by kernel_rfl) (ho j)
def c90n_1024_end (_b _r _q : Nat) (_n _e : Int) (j : Nat → Value) : St := ⟨[], [(.code .ret), (.code (atC [1, 1] (bodyOf Tryz.f90)))], mkT j [(4, (iI 1))] 35 0⟩
theorem c90n_1024 (hE : EnvOk E) (b r q : Nat) (n e : Int) (h0 : ((iB (FloatKind.f32.format.order b b != some Ordering.eq)) : AV) = (iB true)) {Φ : Res → Prop} (ho : ∀ j, OutK E 0 0 (c90n_1024_end b r q n e j) Φ) (j : Nat → Value) : OutK E 0 0 (st90_1024 b r q n e j) Φ :=
  outK_seg hE (R0_ok hE) [.run 4, (.ops [(2, (.rn (iB true)))] []), .run 3] [4] (fun j => by kernel_rfl) (aP h0 <| aZ)
    ho
def c90p_1024_end (_b _r _q : Nat) (_n _e : Int) (j : Nat → Value) : St := ⟨[], [(.code .ret), (.code (atC [1, 1] (bodyOf Tryz.f90)))], mkT j [(4, (iI 1))] 35 0⟩
theorem c90p_1024 (hE : EnvOk E) (b r q : Nat) (n e : Int) (h0 : ((iB (FloatKind.f32.format.order b b != some Ordering.eq)) : AV) = (iB false)) (h1 : ((iB (FloatKind.f32.format.order b (2139095039 : Nat) == some Ordering.gt)) : AV) = (iB true)) {Φ : Res → Prop} (ho : ∀ j, OutK E 0 0 (c90p_1024_end b r q n e j) Φ) (j : Nat → Value) : OutK E 0 0 (st90_1024 b r q n e j) Φ :=
  outK_seg hE (R0_ok hE) [.run 4, (.ops [(2, (.rn (iB false))), (5, (.rn (iB true)))] []), .run 3] [4] (fun j => by kernel_rfl) (aP h0 <| aP h1 <| aZ)
    ho
def c90m_1024_end (_b _r _q : Nat) (_n _e : Int) (j : Nat → Value) : St := ⟨[], [(.code .ret), (.code (atC [1, 1] (bodyOf Tryz.f90)))], mkT j [(4, (iI 1))] 35 0⟩
theorem c90m_1024 (hE : EnvOk E) (b r q : Nat) (n e : Int) (h0 : ((iB (FloatKind.f32.format.order b b != some Ordering.eq)) : AV) = (iB false)) (h1 : ((iB (FloatKind.f32.format.order b (2139095039 : Nat) == some Ordering.gt)) : AV) = (iB false)) (h2 : ((iB (FloatKind.f32.format.order b (4286578687 : Nat) == some Ordering.lt)) : AV) = (iB true)) {Φ : Res → Prop} (ho : ∀ j, OutK E 0 0 (c90m_1024_end b r q n e j) Φ) (j : Nat → Value) : OutK E 0 0 (st90_1024 b r q n e j) Φ :=
  outK_seg hE (R0_ok hE) [.run 4, (.ops [(2, (.rn (iB false))), (5, (.rn (iB false))), (9, (.rn (iB true)))] []), .run 3] [4] (fun j => by kernel_rfl) (aP h0 <| aP h1 <| aP h2 <| aZ)
    ho
def c90g_1024_end (_b _r _q : Nat) (_n _e : Int) (j : Nat → Value) : St := ⟨[], [(.code .ret), (.code (atC [1, 1, 1] (bodyOf Tryz.f90)))], mkT j [(4, (iI 3))] 35 0⟩
theorem c90g_1024 (hE : EnvOk E) (b r q : Nat) (n e : Int) (h0 : ((iB (FloatKind.f32.format.order b b != some Ordering.eq)) : AV) = (iB false)) (h1 : ((iB (FloatKind.f32.format.order b (2139095039 : Nat) == some Ordering.gt)) : AV) = (iB false)) (h2 : ((iB (FloatKind.f32.format.order b (4286578687 : Nat) == some Ordering.lt)) : AV) = (iB false)) (h3 : ((iB (FloatKind.f32.format.order b (1149239296 : Nat) == some Ordering.gt)) : AV) = (iB true)) {Φ : Res → Prop} (ho : ∀ j, OutK E 0 0 (c90g_1024_end b r q n e j) Φ) (j : Nat → Value) : OutK E 0 0 (st90_1024 b r q n e j) Φ :=
  outK_seg hE (R0_ok hE) [.run 4, (.ops [(2, (.rn (iB false))), (5, (.rn (iB false))), (9, (.rn (iB false)))] []), .run 4, (.ops [(3, (.rn (iB true)))] []), .run 3] [4] (fun j => by kernel_rfl) (aP h0 <| aP h1 <| aP h2 <| aP h3 <| aZ)
    ho
def c90l_1024_end (_b _r _q : Nat) (_n _e : Int) (j : Nat → Value) : St := ⟨[], [(.code .ret), (.code (atC [1, 1, 1] (bodyOf Tryz.f90)))], mkT j [(4, (iI 3))] 35 0⟩
theorem c90l_1024 (hE : EnvOk E) (b r q : Nat) (n e : Int) (h0 : ((iB (FloatKind.f32.format.order b b != some Ordering.eq)) : AV) = (iB false)) (h1 : ((iB (FloatKind.f32.format.order b (2139095039 : Nat) == some Ordering.gt)) : AV) = (iB false)) (h2 : ((iB (FloatKind.f32.format.order b (4286578687 : Nat) == some Ordering.lt)) : AV) = (iB false)) (h3 : ((iB (FloatKind.f32.format.order b (1149239296 : Nat) == some Ordering.gt)) : AV) = (iB false)) (h4 : ((iB (FloatKind.f32.format.order b (3296722944 : Nat) == some Ordering.lt)) : AV) = (iB true)) {Φ : Res → Prop} (ho : ∀ j, OutK E 0 0 (c90l_1024_end b r q n e j) Φ) (j : Nat → Value) : OutK E 0 0 (st90_1024 b r q n e j) Φ :=
  outK_seg hE (R0_ok hE) [.run 4, (.ops [(2, (.rn (iB false))), (5, (.rn (iB false))), (9, (.rn (iB false)))] []), .run 4, (.ops [(3, (.rn (iB false))), (9, (.rn (iB true)))] []), .run 3] [4] (fun j => by kernel_rfl) (aP h0 <| aP h1 <| aP h2 <| aP h3 <| aP h4 <| aZ)
    ho
def c90f_1024_end (_b _r _q : Nat) (_n e : Int) (j : Nat → Value) : St := ⟨[], [(.code .ret)], mkT j [(4, (iI (e)))] 35 0⟩
theorem c90f_1024 (hE : EnvOk E) (b r q : Nat) (n e : Int) (h0 : ((iB (FloatKind.f32.format.order b b != some Ordering.eq)) : AV) = (iB false)) (h1 : ((iB (FloatKind.f32.format.order b (2139095039 : Nat) == some Ordering.gt)) : AV) = (iB false)) (h2 : ((iB (FloatKind.f32.format.order b (4286578687 : Nat) == some Ordering.lt)) : AV) = (iB false)) (h3 : ((iB (FloatKind.f32.format.order b (1149239296 : Nat) == some Ordering.gt)) : AV) = (iB false)) (h4 : ((iB (FloatKind.f32.format.order b (3296722944 : Nat) == some Ordering.lt)) : AV) = (iB false)) (h5 : BinOk E.P BinOp.mul (23 : Nat) (Operand.const (Value.float FloatKind.f32 (1098907648 : Nat))) (Operand.tmp (27 : Nat)) (AC.v (Value.float FloatKind.f32 (1098907648 : Nat))) (AC.v (Value.float FloatKind.f32 b)) (fC r)) (h6 : ConvOk E.P (23 : Nat) (3 : Nat) (fC r) (AC.v (Value.int IntKind.i64 n))) (h7 : ConvOk E.P (3 : Nat) (23 : Nat) (AC.v (Value.int IntKind.i64 n)) (fC q)) (h8 : BinOk E.P BinOp.mul (23 : Nat) (Operand.const (Value.float FloatKind.f32 (1098907648 : Nat))) (Operand.tmp (31 : Nat)) (AC.v (Value.float FloatKind.f32 (1098907648 : Nat))) (AC.v (Value.float FloatKind.f32 b)) (fC r)) (h9 : COut E 0 [] 82 [(iB (FloatKind.f32.format.order q r != some Ordering.eq)), (iI 3)] (iI (e)) []) {Φ : Res → Prop} (ho : ∀ j, OutK E 0 0 (c90f_1024_end b r q n e j) Φ) (j : Nat → Value) : OutK E 0 0 (st90_1024 b r q n e j) Φ :=
  outK_seg hE (R0_ok hE) [.run 4, (.ops [(2, (.rn (iB false))), (5, (.rn (iB false))), (9, (.rn (iB false)))] []), .run 4, (.ops [(3, (.rn (iB false))), (9, (.rn (iB false)))] []), .run 3, (.ops [(1, (.fb (.v (.float .f32 (r))))), (2, (.fc (.v (.int .i64 (n))))), (3, (.fc (.v (.float .f32 (q))))), (5, (.fb (.v (.float .f32 (r))))), (7, (.c0 (iI (e))))] [])] [4] (fun j => by kernel_rfl) (aP h0 <| aP h1 <| aP h2 <| aP h3 <| aP h4 <| aP h5 <| aP h6 <| aP h7 <| aP h8 <| aP h9 <| aN <| aZ)
    ho
def c25_end (_b : Nat) (e : Int) (j : Nat → Value) : St := ⟨[], [(.code .ret)], mkT j [(2, (iI (e)))] 5 0⟩
theorem c25 (hE : EnvOk E) (b : Nat) (e : Int) (h0 : COut E 0 [] 90 [(.e (.one (.v (.float .f32 (b))))), (iI 1024)] (iI (e)) []) {Φ : Res → Prop} (ho : ∀ j, OutK E 0 0 (c25_end b e j) Φ) (j : Nat → Value) : OutK E 0 0 (st25 b e j) Φ :=
  outK_seg hE (R0_ok hE) [.run 3, (.ops [(1, (.c0 (iI (e))))] [])] [2] (fun j => by kernel_rfl) (aP h0 <| aN <| aZ)
    ho
open Ieee
theorem iBe {a b : Bool} (h : a = b) : (iB a : AV) = iB b := by rw [h]
theorem u23 : E.P.underlying 23 = some (.float .f32) := by kernel_rfl
theorem u219 : E.P.underlying 219 = some (.float .f64) := by kernel_rfl
theorem u3 : E.P.underlying 3 = some (.int .i64) := by kernel_rfl
theorem cmp_eq (V : Int) : compare V V = .eq := by simp [compare, compareOfLessAndEq]
theorem cmp_eq_iff {V W : Int} : (some (compare V W) == some Ordering.eq) = decide (V = W) := by
  simp only [compare, compareOfLessAndEq]
  by_cases h : V < W
  · simp [h]; omega
  · by_cases e : V = W
    · simp [e]
    · simp [h, e]
theorem cmp_gt_iff {V W : Int} : (some (compare V W) == some Ordering.gt) = decide (W < V) := by
  simp only [compare, compareOfLessAndEq]
  by_cases h : V < W
  · simp [h]; omega
  · by_cases e : V = W
    · simp [e]
    · simp [h, e]; omega
theorem cmp_lt_iff {V W : Int} : (some (compare V W) == some Ordering.lt) = decide (V < W) := by
  simp only [compare, compareOfLessAndEq]
  by_cases h : V < W
  · simp [h]
  · by_cases e : V = W
    · simp [e]
    · simp [h, e]

/-! math -/
theorem k151n (hE : EnvOk E) : COut E 0 [] 151 [.e (.one nanD)] (iB true) [] :=
  cOut_start Tryz.func151 rfl (c151n hE neq_nan (fun j => outK_ret (ends_ret (by kernel_rfl))) fun _ => undef)
theorem k151 (hE : EnvOk E) {r : Nat} (h : double.order r r = some .eq) : COut E 0 [] 151 [.e (.one (dC r))] (iB false) [] :=
  cOut_start Tryz.func151 rfl (c151 hE r false (iBe (by show (double.order r r != some Ordering.eq) = false; rw [h]; rfl)) (fun j => outK_ret (ends_ret (by kernel_rfl))) fun _ => undef)
theorem k154 (hE : EnvOk E) {r : Nat} (h : r < 2 ^ 64) : COut E 0 [] 154 [.e (.one (dC r))] (.e (.one (dC (r % 2 ^ 63)))) [] :=
  cOut_start Tryz.func154 rfl (c154 hE r (r % 2 ^ 63) (andNot_ok h) (by rw [show (Int.ofNat (r % 2 ^ 63)).toNat = r % 2 ^ 63 from rfl]) (fun j => outK_ret (ends_ret (by kernel_rfl))) fun _ => undef)
theorem k152 (hE : EnvOk E) {r : Nat} (h : r < 2 ^ 64) {e : Bool} (he : (double.order (r % 2 ^ 63) 9218868437227405311 == some .gt) = e) : COut E 0 [] 152 [.e (.one (dC r)), iI 0] (iB e) [] :=
  cOut_start Tryz.func152 rfl (c152 hE r (r % 2 ^ 63) e (k154 hE h) (iBe he) (fun j => outK_ret (ends_ret (by kernel_rfl))) fun _ => undef)
theorem k153n (hE : EnvOk E) : COut E 0 [] 153 [.e (.one nanD)] (.e (.one nanD)) [] :=
  cOut_start Tryz.func153 rfl (c153 hE nanD nanD trunc_nan (fun j => outK_ret (ends_ret (by kernel_rfl))) fun _ => undef)
theorem k153 (hE : EnvOk E) {r : Nat} (h : (double.read r).isNaN = false) : COut E 0 [] 153 [.e (.one (dC r))] (.e (.one (dC (double.write ((double.read r).integral .zero))))) [] :=
  cOut_start Tryz.func153 rfl (c153 hE (dC r) _ (trunc_ok h) (fun j => outK_ret (ends_ret (by kernel_rfl))) fun _ => undef)

theorem fin_num {b : Nat} (h : Num single b (valW b)) : (valW b).natAbs < 2 ^ (128 + EX) := by
  have h1 := read_bound fit_single (by decide) h
  have hX := EX_eq
  have e1 : (single.top + (EX : Int)).toNat = 104 + EX := by rw [top_single]; omega
  rw [e1] at h1
  refine Nat.lt_of_le_of_lt h1 ?_
  rw [show 128 + EX = 24 + (104 + EX) by omega, Nat.pow_add 2 24]
  exact Nat.mul_lt_mul_of_pos_right (by decide) (pow_pos2 _)
theorem num_max : Num double 9218868437227405311 ((2 ^ 53 - 1 : Nat) * 2 ^ (971 + EX) : Nat) := by
  refine ⟨false, 2 ^ 53 - 1, 971, by decide, by decide, by decide, ?_⟩
  have hX := EX_eq
  have : ((971 : Int) + (EX : Int)).toNat = 971 + EX := by omega
  rw [this]
  rfl
theorem ord_max {r : Nat} {V : Int} (h : Num double r V) (hV : 0 ≤ V) (hb : V.natAbs < 2 ^ (128 + EX)) : (double.order r 9218868437227405311 == some .gt) = false := by
  rw [h.order fit_double num_max, cmp_gt_iff]
  apply decide_eq_false
  have hX := EX_eq
  have h1 : (2 : Nat) ^ (128 + EX) ≤ (2 ^ 53 - 1) * 2 ^ (971 + EX) := by
    refine Nat.le_trans (pow_mono (show 128 + EX ≤ 971 + EX by omega)) ?_
    exact Nat.le_mul_of_pos_left _ (by decide)
  omega
theorem inf_word (u : Bool) : double.word u double.infRung < 2 ^ 64 := by cases u <;> decide
theorem word_lt64 {s : Bool} {m : Nat} {e : Int} : double.nearest s m e < 2 ^ 64 := write_lt double (by decide) (.number s m e)
theorem lt64 {a b r : Nat} (h : double.mul a b = some r) : r < 2 ^ 64 := mul_lt (f := double) (by decide) h
theorem conv_num' {P : Program} {s d : TypeId} (hs : P.underlying s = some (.float .f32)) (hd : P.underlying d = some (.float .f64)) {b : Nat} (h : finW b = 0) : ∃ r, Num double r (valW b) ∧ r < 2 ^ 64 ∧ ConvOk P s d (fC b) (dC r) := by
  have hn := num_finW h
  obtain ⟨u, g, e, h1, h2⟩ := hn.widen fit_single fit_double (by decide) (by decide) (by decide) (fin_num hn) (by rw [EX_eq]; decide)
  refine ⟨_, h2, word_lt64, ?_⟩
  intro m p w hp
  obtain rfl : p = .float .f32 b := hp
  refine ⟨_, w.drawn, ?_, rfl⟩
  rw [run_conv64 hs hd]
  unfold Conv.floatToFloat
  rw [if_neg (by decide), show FloatKind.f32.decode b = .number u g e from h1]
  have hi : (FloatKind.f64.decode (FloatKind.f64.encode (.number u g e))).isInfinity = false := by
    obtain ⟨u', g', e', k1, _⟩ := h2
    show (double.read (double.nearest u g e)).isInfinity = false
    rw [k1]
    rfl
  simp only [hi, if_false, Bool.false_eq_true]
  rfl
theorem not_fin {b : Nat} (h : finW b ≠ 0) : (single.read b).isNaN = true ∨ ∃ u, single.read b = .infinity u := by
  rcases read_cases (f := single) b with ⟨s, t, h1⟩ | ⟨s, h1⟩ | ⟨V, h1⟩
  · exact .inl (by rw [h1]; rfl)
  · exact .inr ⟨s, h1⟩
  · exact absurd (finW_num h1).1 h
theorem finW_one {b : Nat} (h : finW b ≠ 0) : finW b = 1 := (finW_or b).resolve_left h

/-- carrier.checkFinite -/
theorem k88 (hE : EnvOk E) (b : Nat) : COut E 0 [] 88 [.e (.one (fC b))] (iI (finW b)) [] := by
  by_cases h : finW b = 0
  · obtain ⟨r, hr, hl, hc⟩ := conv_num' (P := E.P) u23 u219 h
    rw [h]
    have ha : Num double (r % 2 ^ 63) (valW b).natAbs := hr.abs
    refine cOut_start Tryz.func88 rfl (c88f hE b r 0 hc (k151 hE (by rw [hr.order fit_double hr, cmp_eq])) (k152 hE hl (ord_max ha (by omega) (by have := fin_num (num_finW h); omega))) (k107 hE false 1) (fun j => outK_ret (ends_ret (by kernel_rfl))) fun _ => undef)
  · rw [finW_one h]
    rcases not_fin h with h1 | ⟨u, h1⟩
    · exact cOut_start Tryz.func88 rfl (c88n hE b 0 1 (conv_nan u23 u219 h1) (k151n hE) (k107 hE true 1) (fun j => outK_ret (ends_ret (by kernel_rfl))) fun _ => undef)
    · refine cOut_start Tryz.func88 rfl (c88i hE b _ 1 (conv_inf u23 u219 h1) (k151 hE (by cases u <;> decide)) (k152 hE (inf_word u) (by cases u <;> decide)) (k107 hE true 1) (fun j => outK_ret (ends_ret (by kernel_rfl))) fun _ => undef)

theorem num_of_int {k : FloatKind} (hf : Fit k.format) (hE : 3 ≤ 2 ^ k.format.exponentBits) (ht : (k.format.fractionBits : Int) ≤ k.format.top) {n : Int} (hn : n.natAbs < 2 ^ (k.format.fractionBits + 1)) : Num k.format (k.nearest n) (n * KK) := num_int hf hE ht n hn
theorem whole_iff {V : Int} : (V = V.tdiv KK * KK) ↔ V % KK = 0 := by
  have hk := KK_pos
  constructor
  · intro h
    rw [h]
    exact Int.mul_emod_left _ _
  · intro h
    rw [Int.mul_comm]
    exact (Int.mul_tdiv_cancel' (Int.dvd_of_emod_eq_zero h)).symm
/-- carrier.checkMultiple -/
theorem k89 (hE : EnvOk E) (b : Nat) {L : Nat} (hL : L ≤ 65536) : COut E 0 [] 89 [.e (.one (fC b)), iI (Int.ofNat L)] (iI (mulW L b)) [] := by
  by_cases h : finW b = 0
  · obtain ⟨r, hr, hl, hc⟩ := conv_num' (P := E.P) u23 u219 h
    have hb := fin_num (num_finW h)
    obtain ⟨y, hy, hn⟩ := hr.mul16 fit_double (by decide) (c := 4625196817309499392) c16_double (by decide) hb (by rw [EX_eq]; decide)
    have hyl := lt64 hy
    have hb16 : (16 * valW b).natAbs < 2 ^ (132 + EX) := by
      rw [Int.natAbs_mul, show (2 : Nat) ^ (132 + EX) = 16 * 2 ^ (128 + EX) by rw [show (16 : Nat) = 2 ^ 4 from rfl, ← Nat.pow_add]; congr 1; omega]
      have : (16 : Int).natAbs = 16 := rfl
      rw [this]
      omega
    have hz := hn.whole fit_double (by decide) (by decide) hb16 (by rw [EX_eq]; decide)
    have hzk := k153 hE hn.notNaN
    generalize double.write ((double.read y).integral .zero) = z at hz hzk
    by_cases h0 : (16 * valW b) % KK = 0
    · have ha : Num double (y % 2 ^ 63) (16 * valW b).natAbs := hn.abs
      have hLn : Num double (FloatKind.f64.nearest (16 * Int.ofNat L)) (16 * Int.ofNat L * KK) := num_of_int (k := .f64) fit_double (by decide) (by decide) (by
        show (16 * Int.ofNat L).natAbs < 2 ^ 53
        simp only [Int.ofNat_eq_natCast]
        omega)
      have hcmp : (FloatKind.f64.format.order (y % 2 ^ 63) (FloatKind.f64.nearest (16 * Int.ofNat L)) == some Ordering.gt) = decide (¬ (valW b).natAbs ≤ L * KK) := by
        show (double.order (y % 2 ^ 63) (FloatKind.f64.nearest (16 * Int.ofNat L)) == some Ordering.gt) = _
        rw [ha.order fit_double hLn, cmp_gt_iff]
        apply decide_eq_decide.2
        rw [Int.natAbs_mul, Int.ofNat_eq_natCast, Int.mul_assoc, show (16 : Int).natAbs = 16 from rfl, ← Int.natCast_mul]
        omega
      have he : mulW L b = if decide (¬ (valW b).natAbs ≤ L * KK) = true then 3 else 0 := by
        unfold mulW
        by_cases h5 : (valW b).natAbs ≤ L * KK
        · rw [if_pos ⟨h, h0, h5⟩]; simp [h5]
        · rw [if_neg fun h6 => h5 h6.2.2]; simp [h5]
      rw [he]
      refine cOut_start Tryz.func89 rfl (c89f hE b r y z (y % 2 ^ 63) (FloatKind.f64.nearest (16 * Int.ofNat L)) (Int.ofNat L) _ hc (mul_ok hy) hzk (iBe ?_) (k154 hE hyl) (iIe (wrap_id (by simp only [Int.ofNat_eq_natCast]; omega) (by simp only [Int.ofNat_eq_natCast]; omega))) (conv_int u3 u219 _) (by rw [hcmp]; exact k107 hE _ 3) (fun j => outK_ret (ends_ret (by kernel_rfl))) fun _ => undef)
      show (double.order y z != some Ordering.eq) = false
      rw [hn.order fit_double hz]
      have := @cmp_eq_iff (16 * valW b) ((16 * valW b).tdiv KK * KK)
      rw [bne, this]
      simpa using whole_iff.2 h0
    · have he : mulW L b = 3 := by unfold mulW; rw [if_neg fun h6 => h0 h6.2.1]
      rw [he]
      refine cOut_start Tryz.func89 rfl (c89t hE b r y z 0 0 (Int.ofNat L) 3 hc (mul_ok hy) hzk (iBe ?_) (k107 hE true 3) (fun j => outK_ret (ends_ret (by kernel_rfl))) fun _ => undef)
      show (double.order y z != some Ordering.eq) = true
      rw [hn.order fit_double hz]
      have := @cmp_eq_iff (16 * valW b) ((16 * valW b).tdiv KK * KK)
      rw [bne, this]
      have h7 : ¬ (16 * valW b = (16 * valW b).tdiv KK * KK) := fun h8 => h0 (whole_iff.1 h8)
      simpa using h7
  · have he : mulW L b = 3 := by unfold mulW; rw [if_neg fun h6 => h h6.1]
    rw [he]
    rcases not_fin h with h1 | ⟨u, h1⟩
    · exact cOut_start Tryz.func89 rfl (c89n hE b 0 0 0 0 0 (Int.ofNat L) 3 (conv_nan u23 u219 h1) mul_nan (k153n hE) neq_nan (k107 hE true 3) (fun j => outK_ret (ends_ret (by kernel_rfl))) fun _ => undef)
    · have hz : double.write ((double.read (double.word u double.infRung)).integral .zero) = double.word u double.infRung := by cases u <;> decide
      have hzk := k153 hE (r := double.word u double.infRung) (by cases u <;> decide)
      rw [hz] at hzk
      have hmul : double.mul 4625196817309499392 (double.word u double.infRung) = some (double.word u double.infRung) := by cases u <;> decide
      have hLn : Num double (FloatKind.f64.nearest (16 * Int.ofNat L)) (16 * Int.ofNat L * KK) := num_of_int (k := .f64) fit_double (by decide) (by decide) (by
        show (16 * Int.ofNat L).natAbs < 2 ^ 53
        simp only [Int.ofNat_eq_natCast]
        omega)
      have hcmp : (FloatKind.f64.format.order (double.word u double.infRung % 2 ^ 63) (FloatKind.f64.nearest (16 * Int.ofNat L)) == some Ordering.gt) = true := by
        have e1 : double.word u double.infRung % 2 ^ 63 = 9218868437227405312 := by cases u <;> decide
        rw [e1]
        obtain ⟨s, m, e, h2, _⟩ := hLn
        show (double.order _ _ == _) = _
        unfold Format.order
        rw [h2, show double.read 9218868437227405312 = .infinity false by decide]
        rfl
      exact cOut_start Tryz.func89 rfl (c89f hE b (double.word u double.infRung) (double.word u double.infRung) (double.word u double.infRung) (double.word u double.infRung % 2 ^ 63) (FloatKind.f64.nearest (16 * Int.ofNat L)) (Int.ofNat L) 3 (conv_inf u23 u219 h1) (mul_ok hmul) hzk (iBe (by cases u <;> decide)) (k154 hE (inf_word u)) (iIe (wrap_id (by simp only [Int.ofNat_eq_natCast]; omega) (by simp only [Int.ofNat_eq_natCast]; omega))) (conv_int u3 u219 _) (by rw [hcmp]; exact k107 hE true 3) (fun j => outK_ret (ends_ret (by kernel_rfl))) fun _ => undef)

theorem firstI2 (f g : Int) : firstI [f, g] = if f = 0 then g else f := by
  unfold firstI firstI firstI
  by_cases h : f = 0
  · by_cases h2 : g = 0 <;> simp [h, h2]
  · simp [h]
theorem chk_first (L b : Nat) : chkW L b = firstI [finW b, mulW L b] := by
  rw [firstI2]
  unfold chkW
  rcases finW_or b with h | h <;> simp [h]
theorem get2 {f g : Int} : ∀ (k : Nat) (x : Int), [f, g][k]? = some x → getL [AC.v (.int .i64 f), AC.v (.int .i64 g)] (0 + k) = some (.v (.int .i64 x)) := by
  intro k x h
  match k, h with
  | 0, h => simp at h; subst h; rfl
  | 1, h => simp at h; subst h; rfl
  | k + 2, h => simp at h
/-- carrier.CheckSample -/
theorem k24 (hE : EnvOk E) (b : Nat) : COut E 0 [] 24 [.e (.one (fC b))] (iI (chkW 1024 b)) [] := by
  rw [chk_first]
  exact cOut_start Tryz.func24 rfl (c24 hE b _ _ _ (k88 hE b) (k89 hE b (L := 1024) (by decide)) (k102 hE [finW b, mulW 1024 b] rfl (by decide) get2) (fun j => outK_ret (ends_ret (by kernel_rfl))) fun _ => undef)

theorem num_max1 : Num single 2139095039 ((2 ^ 24 - 1 : Nat) * 2 ^ (104 + EX) : Nat) := by
  refine ⟨false, 2 ^ 24 - 1, 104, by decide, by decide, by decide, ?_⟩
  have hX := EX_eq
  rw [show ((104 : Int) + (EX : Int)).toNat = 104 + EX by omega]
  rfl
theorem num_min1 : Num single 4286578687 (-((2 ^ 24 - 1 : Nat) * 2 ^ (104 + EX) : Nat)) := by
  refine ⟨true, 2 ^ 24 - 1, 104, by decide, by decide, by decide, ?_⟩
  have hX := EX_eq
  rw [show ((104 : Int) + (EX : Int)).toNat = 104 + EX by omega]
  rfl
theorem fin_max {b : Nat} (h : Num single b (valW b)) : (valW b).natAbs ≤ (2 ^ 24 - 1) * 2 ^ (104 + EX) := by
  have h1 := read_bound fit_single (by decide) h
  have hX := EX_eq
  rwa [show (single.top + (EX : Int)).toNat = 104 + EX by rw [top_single]; omega] at h1
/-- what CheckPart finds first: a number is neither a NaN nor infinite -/
theorem fin_tests {b : Nat} (h : finW b = 0) : (FloatKind.f32.format.order b b != some Ordering.eq) = false ∧ (FloatKind.f32.format.order b 2139095039 == some Ordering.gt) = false ∧ (FloatKind.f32.format.order b 4286578687 == some Ordering.lt) = false := by
  have hn := num_finW h
  have hm := fin_max hn
  refine ⟨?_, ?_, ?_⟩
  · show (single.order b b != some Ordering.eq) = false
    rw [hn.order fit_single hn, cmp_eq]; rfl
  · show (single.order b 2139095039 == some Ordering.gt) = false
    rw [hn.order fit_single num_max1, cmp_gt_iff]
    exact decide_eq_false (by omega)
  · show (single.order b 4286578687 == some Ordering.lt) = false
    rw [hn.order fit_single num_min1, cmp_lt_iff]
    exact decide_eq_false (by omega)
theorem val_pow {b L : Nat} (hL : L ≤ 4096) (h : (valW b).natAbs ≤ L * KK) : (valW b).natAbs < 2 ^ (13 + EX) := Nat.lt_of_le_of_lt h (KK_pow L (by omega))
theorem int_bound {b L : Nat} (h : (valW b).natAbs ≤ L * KK) : (intW b).natAbs ≤ 16 * L := by
  unfold intW
  have hk := KK_pos
  rw [Int.natAbs_tdiv, Int.natAbs_mul, show (16 : Int).natAbs = 16 from rfl, show (KK : Int).natAbs = KK from rfl]
  apply Nat.div_le_of_le_mul
  rw [Nat.mul_comm KK, Nat.mul_assoc]
  exact Nat.mul_le_mul_left 16 h

/-- CheckPart of the reference -/
theorem k90_1024 (hE : EnvOk E) (b : Nat) : COut E 0 [] 90 [.e (.one (fC b)), iI 1024] (iI (chkW 1024 b)) [] := by
  by_cases h : finW b = 0
  · obtain ⟨h1, h2, h3⟩ := fin_tests h
    have hn := num_finW h
    have hk := KK_pos
    have hp : Num single 1149239296 (1024 * KK) := by
      have := num_of_int (k := .f32) fit_single (by decide) (by decide) (n := 1024) (by decide)
      rwa [show FloatKind.f32.nearest 1024 = 1149239296 by decide] at this
    have hm : Num single 3296722944 (-1024 * KK) := by
      have := num_of_int (k := .f32) fit_single (by decide) (by decide) (n := -1024) (by decide)
      rwa [show FloatKind.f32.nearest (-1024) = 3296722944 by decide] at this
    have e1 : (FloatKind.f32.format.order b 1149239296 == some Ordering.gt) = decide (1024 * KK < valW b) := by
      show (single.order b 1149239296 == some Ordering.gt) = _
      rw [hn.order fit_single hp, cmp_gt_iff]
    have e2 : (FloatKind.f32.format.order b 3296722944 == some Ordering.lt) = decide (valW b < -1024 * KK) := by
      show (single.order b 3296722944 == some Ordering.lt) = _
      rw [hn.order fit_single hm, cmp_lt_iff]
    have ec : chkW 1024 b = mulW 1024 b := by unfold chkW; rw [if_pos h]
    by_cases g1 : 1024 * (KK : Int) < valW b
    · have : chkW 1024 b = 3 := by rw [ec]; unfold mulW; rw [if_neg fun h6 => by have := h6.2.2; omega]
      rw [this]
      exact cOut_start Tryz.func90 rfl (c90g_1024 hE b 0 0 0 0 (iBe h1) (iBe h2) (iBe h3) (iBe (by rw [e1]; exact decide_eq_true g1)) (fun j => outK_ret (ends_ret (by kernel_rfl))) fun _ => undef)
    · by_cases g2 : valW b < -1024 * (KK : Int)
      · have : chkW 1024 b = 3 := by rw [ec]; unfold mulW; rw [if_neg fun h6 => by have := h6.2.2; omega]
        rw [this]
        exact cOut_start Tryz.func90 rfl (c90l_1024 hE b 0 0 0 0 (iBe h1) (iBe h2) (iBe h3) (iBe (by rw [e1]; exact decide_eq_false g1)) (iBe (by rw [e2]; exact decide_eq_true g2)) (fun j => outK_ret (ends_ret (by kernel_rfl))) fun _ => undef)
      · have hab : (valW b).natAbs ≤ 1024 * KK := by omega
        obtain ⟨r, hr, hrn⟩ := hn.mul16 fit_single (by decide) (c := 1098907648) c16_single (by decide) (val_pow (by decide) hab) (by rw [EX_eq]; decide)
        have hi := int_bound hab
        have hq := num_of_int (k := .f32) fit_single (by decide) (by decide) (n := intW b) (by show _ < 2 ^ 24; omega)
        have hto : (single.read r).toInt .zero = some (intW b) := hrn.toInt fit_single
        have ex : (FloatKind.f32.format.order (FloatKind.f32.nearest (intW b)) r != some Ordering.eq) = decide (¬ (16 * valW b) % KK = 0) := by
          show (single.order (FloatKind.f32.nearest (intW b)) r != some Ordering.eq) = _
          rw [show single.order (FloatKind.f32.nearest (intW b)) r = _ from Num.order fit_single hq hrn, bne, cmp_eq_iff]
          have hw := @whole_iff (16 * valW b)
          have : (intW b * (KK : Int) = 16 * valW b) ↔ (16 * valW b) % KK = 0 := ⟨fun e => hw.1 e.symm, fun e => (hw.2 e).symm⟩
          simp [this]
        have he : chkW 1024 b = if decide (¬ (16 * valW b) % KK = 0) = true then 3 else 0 := by
          rw [ec]
          unfold mulW
          by_cases h5 : (16 * valW b) % KK = 0
          · rw [if_pos ⟨h, h5, hab⟩]; simp [h5]
          · rw [if_neg fun h6 => h5 h6.2.1]; simp [h5]
        rw [he]
        exact cOut_start Tryz.func90 rfl (c90f_1024 hE b r (FloatKind.f32.nearest (intW b)) (intW b) _ (iBe h1) (iBe h2) (iBe h3) (iBe (by rw [e1]; exact decide_eq_false g1)) (iBe (by rw [e2]; exact decide_eq_false g2)) (mul_ok hr) (conv_toInt u23 u3 hto (by omega) (by omega)) (conv_int u3 u23 _) (mul_ok hr) (by rw [ex]; exact k60 hE _ 3) (fun j => outK_ret (ends_ret (by kernel_rfl))) fun _ => undef)
  · have : chkW 1024 b = 1 := by unfold chkW; rw [if_neg h]
    rw [this]
    rcases not_fin h with h1 | ⟨u, h1⟩
    · exact cOut_start Tryz.func90 rfl (c90n_1024 hE b 0 0 0 0 (iBe (by show (single.order b b != some Ordering.eq) = true; rw [isNaN_order h1]; rfl)) (fun j => outK_ret (ends_ret (by kernel_rfl))) fun _ => undef)
    · have e0 : (FloatKind.f32.format.order b b != some Ordering.eq) = false := by
        show (single.order b b != some Ordering.eq) = false
        unfold Format.order
        rw [h1]
        cases u <;> rfl
      cases u with
      | false => exact cOut_start Tryz.func90 rfl (c90p_1024 hE b 0 0 0 0 (iBe e0) (iBe (by show (single.order b 2139095039 == some Ordering.gt) = true; unfold Format.order; rw [h1, show single.read 2139095039 = .number false 16777215 104 by decide]; rfl)) (fun j => outK_ret (ends_ret (by kernel_rfl))) fun _ => undef)
      | true => exact cOut_start Tryz.func90 rfl (c90m_1024 hE b 0 0 0 0 (iBe e0) (iBe (by show (single.order b 2139095039 == some Ordering.gt) = false; unfold Format.order; rw [h1, show single.read 2139095039 = .number false 16777215 104 by decide]; rfl)) (iBe (by show (single.order b 4286578687 == some Ordering.lt) = true; unfold Format.order; rw [h1, show single.read 4286578687 = .number true 16777215 104 by decide]; rfl)) (fun j => outK_ret (ends_ret (by kernel_rfl))) fun _ => undef)

theorem k25 (hE : EnvOk E) (b : Nat) : COut E 0 [] 25 [.e (.one (fC b))] (iI (chkW 1024 b)) [] :=
  cOut_start Tryz.func25 rfl (c25 hE b _ (k90_1024 hE b) (fun j => outK_ret (ends_ret (by kernel_rfl))) fun _ => undef)
end
end Go.Proofs.YtdjjpjahlhdjnaaGreatDoor

end

/-! SeFb -/
section
open Go Go.Ev
namespace Go.Proofs.YtdjjpjahlhdjnaaGreatDoor
noncomputable section
set_option maxRecDepth 100000
set_option maxHeartbeats 20000000
def s80 (n lo hi _e : Int) (_j : Nat → Value) : St := startK Tryz.f80 [] [iI n, iI lo, iI hi]
def p80a_end (_n _lo _hi e : Int) (j : Nat → Value) : St := ⟨[], [(.code .ret)], mkT j [(6, (iI (e)))] 16 0⟩
theorem p80a (hE : EnvOk E) (n lo hi e : Int) (h0 : (decide (n < lo) == false : Bool) = (nat_lit 4, false).snd) (h1 : (decide (n < lo) == false : Bool) = (nat_lit 5, false).snd) (h2 : (decide (n < lo) == false : Bool) = (nat_lit 6, false).snd) (h3 : (decide (n < lo) : Bool) = true) (h4 : COut E 0 [] 85 [(iB true), (iI 3)] (iI (e)) []) {Φ : Res → Prop} (ho : ∀ j, OutK E 0 0 (p80a_end n lo hi e j) Φ) (j : Nat → Value) : OutK E 0 0 (s80 n lo hi e j) Φ :=
  outK_seg hE (R0_ok hE) [.run 3, (.ops [(8, (.c0 (iI (e)))), (7, (.pk true))] [(4, false), (5, false), (6, false)])] [6] (fun j => by kernel_rfl) (aP h0 <| aP h1 <| aP h2 <| aP h3 <| aP h4 <| aN <| aZ)
    ho
def p80b_end (_n _lo _hi e : Int) (j : Nat → Value) : St := ⟨[], [(.code .ret)], mkT j [(6, (iI (e)))] 16 0⟩
theorem p80b (hE : EnvOk E) (n lo hi e : Int) (h0 : (decide (n < lo) == false : Bool) = (nat_lit 4, true).snd) (h1 : (decide (n < lo) == false : Bool) = (nat_lit 5, true).snd) (h2 : (decide (n < lo) == false : Bool) = (nat_lit 6, true).snd) (h3 : (decide (n < lo) : Bool) = false) (h4 : COut E 0 [] 85 [(iB (decide (n > hi))), (iI 3)] (iI (e)) []) {Φ : Res → Prop} (ho : ∀ j, OutK E 0 0 (p80b_end n lo hi e j) Φ) (j : Nat → Value) : OutK E 0 0 (s80 n lo hi e j) Φ :=
  outK_seg hE (R0_ok hE) [.run 3, (.ops [(8, (.c0 (iI (e)))), (7, (.pk false))] [(4, true), (5, true), (6, true)])] [6] (fun j => by kernel_rfl) (aP h0 <| aP h1 <| aP h2 <| aP h3 <| aP h4 <| aN <| aZ)
    ho
open Ieee
theorem cOut_clear {f : FuncId} {args : List AV} {v : AV} {h : Heap} (hc : COut E 0 [] f args v h) (hv : v.refs = []) : COut E 0 [] f args v [] :=
  cOut_gc (h' := []) [] (Nat.zero_le _) hc rfl rfl (AV.ren_id hv)
/-! complex integers -/
def Sm (z : Int) : Prop := z.natAbs ≤ 2 ^ 30
theorem Sm.mul {a b : Int} (h : Sm a) (g : Sm b) : (a * b).natAbs ≤ 2 ^ 60 := by
  unfold Sm at h g
  rw [Int.natAbs_mul]
  exact Nat.le_trans (Nat.mul_le_mul h g) (by decide)
def rngI (a b z : Int) : Int := if z < a ∨ b < z then 3 else 0
theorem K80 (hE : EnvOk E) (z a b : Int) : COut E 0 [] 80 [iI z, iI a, iI b] (iI (rngI a b z)) [] := by
  by_cases h : z < a
  · have e : rngI a b z = 3 := by simp [rngI, h]
    rw [e]
    exact cOut_start Tryz.func80 rfl (p80a hE z a b 3 (by simp [h]) (by simp [h]) (by simp [h]) (by simp [h]) (k107 hE true 3) (fun j => outK_ret (ends_ret (by kernel_rfl))) fun _ => undef)
  · have e : rngI a b z = (if decide (z > b) = true then 3 else 0) := by simp [rngI, h]
    rw [e]
    exact cOut_start Tryz.func80 rfl (p80b hE z a b _ (by simp; omega) (by simp; omega) (by simp; omega) (by simp; omega) (k107 hE _ 3) (fun j => outK_ret (ends_ret (by kernel_rfl))) fun _ => undef)
end
end Go.Proofs.YtdjjpjahlhdjnaaGreatDoor

end

/-! SeFc -/
section
open Go Go.Ev
namespace Go.Proofs.YtdjjpjahlhdjnaaGreatDoor
noncomputable section
set_option maxRecDepth 100000
set_option maxHeartbeats 20000000
open Ieee
end
end Go.Proofs.YtdjjpjahlhdjnaaGreatDoor

end

/-! SePa -/
section
open Go Go.Ev
namespace Go.Proofs.YtdjjpjahlhdjnaaGreatDoor
noncomputable section
set_option maxRecDepth 100000
set_option maxHeartbeats 20000000
open Ieee
end
end Go.Proofs.YtdjjpjahlhdjnaaGreatDoor

end

/-! SePc -/
section
open Go Go.Ev
namespace Go.Proofs.YtdjjpjahlhdjnaaGreatDoor
noncomputable section
set_option maxRecDepth 100000
set_option maxHeartbeats 20000000
abbrev lpV (T : Tm) (ps : Array Tmp) (asg bod : Code) : Option AB := some (loopEnt .ready none T ps asg bod)
open Ieee
/-! The windows of a list of samples. -/
abbrev fDT (ws : List Nat) : List DT := ws.map fun b => .v (.float .f32 b)
/-- a list of integers, as cells -/
abbrev iD (l : List Int) : List DT := l.map fun x => .v (.int .i64 x)
abbrev iC (l : List Int) : List AC := (iD l).map DT.ac
theorem flat_iC (l : List Int) : FlatC (iC l) := by
  intro c hc
  simp only [iC, iD, List.map_map, List.mem_map] at hc
  obtain ⟨x, _, rfl⟩ := hc
  exact ⟨_, rfl⟩
/-- the slots of the loop's frame -/
abbrev T29 (z : Nat → Value) : Tm := mkT z [(4, .e (.one (.ptr 0 0))), (5, .e (.one (.ptr 1 0))), (9, .e (.one (.ptr 2 0))), (10, .tup []), (11, .tup []), (22, .e (.one (.clo 155 [] [(.one (.ptr 3 0))]))), (23, .tup []), (24, .tup [])] 35 0

def hB (z : Nat → Value) (asg bod : Code) (ws : List Nat) (mm0 mm1 mm2 : Bool) (L : Int) : List Int → Heap
  | [] => [some ⟨[.v (.bool mm0), .v (.bool mm1), .v (.bool mm2)], 3, 43, true, .cells⟩, some ⟨[.v (.int .i64 L)], 1, 3, true, .cells⟩, some ⟨[.v (.slice none 0 0)], 1, 25, true, .cells⟩, some ⟨[.dp (.s (fDT ws) ws.length 1)], 1, 42, true, .cells⟩, some markEnt, lpV (T29 z) #[23, 24] asg bod]
  | x :: l => [some ⟨[.v (.bool mm0), .v (.bool mm1), .v (.bool mm2)], 3, 43, true, .cells⟩, some ⟨[.v (.int .i64 L)], 1, 3, true, .cells⟩, some ⟨[.slc 6 0 (l.length + 1) 1 (l.length + 1) false], 1, 25, true, .cells⟩, some ⟨[.dp (.s (fDT ws) ws.length 1)], 1, 42, true, .cells⟩, some markEnt, lpV (T29 z) #[23, 24] asg bod, some ⟨(iC (x :: l)), (l.length + 1), 3, false, .cells⟩]
end
end Go.Proofs.YtdjjpjahlhdjnaaGreatDoor

end

/-! SyL -/
section
namespace Go.Ev
open Go.RowKit
noncomputable section
variable {E : Env} {rec : RunT} {lvl K : Nat} {r : Res → Prop} {rd : Option Nat}

end
end Go.Ev

end

/-! SePb -/
section
open Go Go.Ev
namespace Go.Proofs.YtdjjpjahlhdjnaaGreatDoor
noncomputable section
set_option maxRecDepth 100000
set_option maxHeartbeats 20000000
open Ieee
/-- a list without elements, nil or not -/
theorem cOut_nil2 {f : FuncId} {args : List AV} {h : Heap} {x : AE} {p : Option Addr} {c : Nat} (sz : Nat) (hc : COut E 0 [] f args (.tup [.one (.v (.slice p 0 c)), x]) h) : COut E 0 [] f args (.tup [.one (.dp (.s [] 0 sz)), x]) h := by
  intro m base w argsC ha H G
  refine (hc m base w argsC ha H G).mono fun en w' ⟨y, hy, m1, hp⟩ => ⟨y, hy, m1, hp.le, ?_, hp.heap, hp.below⟩
  obtain ⟨vs, e, hv⟩ := hp.val
  refine ⟨vs, e, ?_⟩
  revert hv
  generalize vs.toList = l
  intro hv
  match l, hv with
  | [a, b], hv => exact ⟨.inl ⟨rfl, p, c, hv.1⟩, hv.2.1, trivial⟩
end
end Go.Proofs.YtdjjpjahlhdjnaaGreatDoor

end

/-! SePd -/
section
open Go Go.Ev
namespace Go.Proofs.YtdjjpjahlhdjnaaGreatDoor
noncomputable section
set_option maxRecDepth 100000
set_option maxHeartbeats 20000000
def s79 (C : List DT) (n _i : Nat) (_x _y _u : Int) (_j : Nat → Value) : St := startK Tryz.f79 [] [(.e (.one (.dp (.s C n 1))))]
def s81 (C : List DT) (n _i : Nat) (_x _y _u : Int) (_j : Nat → Value) : St := startK Tryz.f81 [] [(.e (.one (.dp (.s C n 1))))]
def s15 (C : List DT) (n _i : Nat) (_x _y _u : Int) (_j : Nat → Value) : St := startK Tryz.f15 [] [(.e (.one (.dp (.s C n 1))))]
def s66 (C : List DT) (n _i : Nat) (_x _y _u : Int) (_j : Nat → Value) : St := startK Tryz.f66 [] [(.e (.one (.dp (.s C n 1)))), (.e (.one (.dp (.s C n 1))))]
def q79 (C : List DT) (n i : Nat) (_x _y _u : Int) (j : Nat → Value) : St := ⟨[], [(.code (atC [1, 0, 1, 0, 0] (bodyOf Tryz.f79))), (.inLoop (atC [1, 0, 1, 0, 0] (bodyOf Tryz.f79))), (.inBlock 0), (.code (atC [1, 1] (bodyOf Tryz.f79)))], mkT j [(5, (.e (.one (.dp (.s (C) (n) 1))))), (6, (iI (Int.ofNat n))), (7, (iI (Int.ofNat i)))] 15 0⟩
def q81 (C : List DT) (n i : Nat) (_x _y _u : Int) (j : Nat → Value) : St := ⟨[], [(.code (atC [1, 0, 1, 0, 0] (bodyOf Tryz.f81))), (.inLoop (atC [1, 0, 1, 0, 0] (bodyOf Tryz.f81))), (.inBlock 0), (.code (atC [1, 1] (bodyOf Tryz.f81)))], mkT j [(0, (.e (.one (.dp (.s (C) (n) 1))))), (3, (iI (Int.ofNat i)))] 19 0⟩
def q66 (C : List DT) (n i : Nat) (_x _y _u : Int) (j : Nat → Value) : St := ⟨[], [(.code (atC [1, 1, 0, 1, 0, 0] (bodyOf Tryz.f66))), (.inLoop (atC [1, 1, 0, 1, 0, 0] (bodyOf Tryz.f66))), (.inBlock 0), (.code (atC [1, 1, 1] (bodyOf Tryz.f66)))], mkT j [(0, (.e (.one (.dp (.s (C) (n) 1))))), (1, (.e (.one (.dp (.s (C) (n) 1))))), (5, (iI (Int.ofNat i)))] 26 0⟩
def p79a_end (C : List DT) (n _i : Nat) (_x _y _u : Int) (j : Nat → Value) : St := ⟨[], [(.code (atC [1, 0, 1, 0, 0] (bodyOf Tryz.f79))), (.inLoop (atC [1, 0, 1, 0, 0] (bodyOf Tryz.f79))), (.inBlock 0), (.code (atC [1, 1] (bodyOf Tryz.f79)))], mkT j [(5, (.e (.one (.dp (.s (C) (n) 1))))), (6, (iI (Int.ofNat n))), (7, (iI 0))] 15 0⟩
theorem p79a (hE : EnvOk E) (C : List DT) (n i : Nat) (x y u : Int)  {Φ : Res → Prop} (ho : ∀ j, OutK E 0 0 (p79a_end C n i x y u j) Φ) (j : Nat → Value) : OutK E 0 0 (s79 C n i x y u j) Φ :=
  outK_seg hE (R0_ok hE) [.run 4, (.ops [(1, (.d .len))] []), .run 2] [5, 6, 7] (ps := []) (fun j => by kernel_rfl) trivial
    ho
def p81a_end (C : List DT) (n _i : Nat) (_x _y _u : Int) (j : Nat → Value) : St := ⟨[], [(.code (atC [1, 0, 1, 0, 0] (bodyOf Tryz.f81))), (.inLoop (atC [1, 0, 1, 0, 0] (bodyOf Tryz.f81))), (.inBlock 0), (.code (atC [1, 1] (bodyOf Tryz.f81)))], mkT j [(0, (.e (.one (.dp (.s (C) (n) 1))))), (3, (iI 0))] 19 0⟩
theorem p81a (hE : EnvOk E) (C : List DT) (n i : Nat) (x y u : Int)  {Φ : Res → Prop} (ho : ∀ j, OutK E 0 0 (p81a_end C n i x y u j) Φ) (j : Nat → Value) : OutK E 0 0 (s81 C n i x y u j) Φ :=
  outK_seg hE (R0_ok hE) [.run 7] [0, 3] (ps := []) (fun j => by kernel_rfl) trivial
    ho
def p66a_end (C : List DT) (n _i : Nat) (_x _y _u : Int) (j : Nat → Value) : St := ⟨[], [(.code (atC [1, 1, 0, 1, 0, 0] (bodyOf Tryz.f66))), (.inLoop (atC [1, 1, 0, 1, 0, 0] (bodyOf Tryz.f66))), (.inBlock 0), (.code (atC [1, 1, 1] (bodyOf Tryz.f66)))], mkT j [(0, (.e (.one (.dp (.s (C) (n) 1))))), (1, (.e (.one (.dp (.s (C) (n) 1))))), (5, (iI 0))] 26 0⟩
theorem p66a (hE : EnvOk E) (C : List DT) (n i : Nat) (x y u : Int) (h0 : ((↑n : Int) != (↑n : Int) : Bool) = false) {Φ : Res → Prop} (ho : ∀ j, OutK E 0 0 (p66a_end C n i x y u j) Φ) (j : Nat → Value) : OutK E 0 0 (s66 C n i x y u j) Φ :=
  outK_seg hE (R0_ok hE) [.run 4, (.ops [(1, (.d .len)), (3, (.d .len))] []), (.cond false), .run 6] [0, 1, 5] (fun j => by kernel_rfl) (aP h0 <| aZ)
    ho
def p15_end (_C : List DT) (_n _i : Nat) (x _y _u : Int) (j : Nat → Value) : St := ⟨[], [(.code .ret)], mkT j [(2, (iI (x)))] 5 0⟩
theorem p15 (hE : EnvOk E) (C : List DT) (n i : Nat) (x y u : Int) (h0 : COut E 0 [] 81 [(.e (.one (.dp (.s (C) (n) 1))))] (iI (x)) []) {Φ : Res → Prop} (ho : ∀ j, OutK E 0 0 (p15_end C n i x y u j) Φ) (j : Nat → Value) : OutK E 0 0 (s15 C n i x y u j) Φ :=
  outK_seg hE (R0_ok hE) [.run 3, (.ops [(1, (.c0 (iI (x))))] [])] [2] (fun j => by kernel_rfl) (aP h0 <| aN <| aZ)
    ho
def p79s_end (C : List DT) (n i : Nat) (_x _y _u : Int) (j : Nat → Value) : St := ⟨[], [(.code (atC [1, 0, 1, 0, 0] (bodyOf Tryz.f79))), (.inLoop (atC [1, 0, 1, 0, 0] (bodyOf Tryz.f79))), (.inBlock 0), (.code (atC [1, 1] (bodyOf Tryz.f79)))], mkT j [(5, (.e (.one (.dp (.s (C) (n) 1))))), (6, (iI (Int.ofNat n))), (7, (iI (Int.ofNat (i + 1))))] 15 0⟩
theorem p79s (hE : EnvOk E) (C : List DT) (n i : Nat) (x y u : Int) (h0 : (decide (Int.ofNat i < Int.ofNat n) : Bool) = true) (h1 : (0 : Int) ≤ Int.ofNat i ∧ Int.ofNat i < (↑n : Int)) (h2 : ((Int.ofNat i).toNat * nat_lit 1 : Nat) = i) (h3 : (getL C i : Option DT) = (.some (.v (.int .i64 (x))))) (h4 : (x != (0 : Int) : Bool) = false) (h5 : ((iI (wrapF IntKind.i64 (Int.ofNat i + (1 : Int)))) : AV) = (iI (Int.ofNat (i + 1)))) {Φ : Res → Prop} (ho : ∀ j, OutK E 0 0 (p79s_end C n i x y u j) Φ) (j : Nat → Value) : OutK E 0 0 (q79 C n i x y u j) Φ :=
  outK_seg hE (R0_ok hE) [.run 3, (.cond true), .run 4, (.ops [(1, (.d (.ld (.v (.int .i64 (x)))))), (0, (.d (.ix (i))))] []), .run 2, (.cond false), .run 2, (.ops [(0, (.rn (iI (Int.ofNat (i + 1)))))] []), .run 1] [5, 6, 7] (fun j => by kernel_rfl) (aP h0 <| aP h1 <| aP h2 <| aP h3 <| aP h4 <| aP h5 <| aZ)
    ho
def p79e_end (_C : List DT) (_n _i : Nat) (x _y _u : Int) (j : Nat → Value) : St := ⟨[], [(.code .ret), (.inBlock 1), (.code (atC [1, 0, 1, 0, 0, 1, 1, 1] (bodyOf Tryz.f79))), (.inLoop (atC [1, 0, 1, 0, 0] (bodyOf Tryz.f79))), (.inBlock 0), (.code (atC [1, 1] (bodyOf Tryz.f79)))], mkT j [(2, (iI (x)))] 15 0⟩
theorem p79e (hE : EnvOk E) (C : List DT) (n i : Nat) (x y u : Int) (h0 : (decide (Int.ofNat i < Int.ofNat n) : Bool) = true) (h1 : (0 : Int) ≤ Int.ofNat i ∧ Int.ofNat i < (↑n : Int)) (h2 : ((Int.ofNat i).toNat * nat_lit 1 : Nat) = i) (h3 : (getL C i : Option DT) = (.some (.v (.int .i64 (x))))) (h4 : (x != (0 : Int) : Bool) = true) {Φ : Res → Prop} (ho : ∀ j, OutK E 0 0 (p79e_end C n i x y u j) Φ) (j : Nat → Value) : OutK E 0 0 (q79 C n i x y u j) Φ :=
  outK_seg hE (R0_ok hE) [.run 3, (.cond true), .run 4, (.ops [(1, (.d (.ld (.v (.int .i64 (x)))))), (0, (.d (.ix (i))))] []), .run 2, (.cond true), .run 2] [2] (fun j => by kernel_rfl) (aP h0 <| aP h1 <| aP h2 <| aP h3 <| aP h4 <| aZ)
    ho
def p79x_end (_C : List DT) (_n _i : Nat) (_x _y _u : Int) (j : Nat → Value) : St := ⟨[], [(.code .ret)], mkT j [(2, (iI 0))] 15 0⟩
theorem p79x (hE : EnvOk E) (C : List DT) (n i : Nat) (x y u : Int) (h0 : (decide (Int.ofNat i < Int.ofNat n) : Bool) = false) {Φ : Res → Prop} (ho : ∀ j, OutK E 0 0 (p79x_end C n i x y u j) Φ) (j : Nat → Value) : OutK E 0 0 (q79 C n i x y u j) Φ :=
  outK_seg hE (R0_ok hE) [.run 3, (.cond false), .run 3] [2] (fun j => by kernel_rfl) (aP h0 <| aZ)
    ho
def p81s_end (C : List DT) (n i : Nat) (_x _y _u : Int) (j : Nat → Value) : St := ⟨[], [(.code (atC [1, 0, 1, 0, 0] (bodyOf Tryz.f81))), (.inLoop (atC [1, 0, 1, 0, 0] (bodyOf Tryz.f81))), (.inBlock 0), (.code (atC [1, 1] (bodyOf Tryz.f81)))], mkT j [(0, (.e (.one (.dp (.s (C) (n) 1))))), (3, (iI (Int.ofNat (i + 1))))] 19 0⟩
theorem p81s (hE : EnvOk E) (C : List DT) (n i : Nat) (x y u : Int) (h0 : (decide (Int.ofNat i < (↑n : Int)) : Bool) = true) (h1 : (0 : Int) ≤ Int.ofNat i ∧ Int.ofNat i < (↑n : Int)) (h2 : ((Int.ofNat i).toNat * nat_lit 1 : Nat) = i) (h3 : (getL C i : Option DT) = (.some (.v (.int .i64 (x))))) (h4 : (x != (0 : Int) : Bool) = false) (h5 : ((iI (wrapF IntKind.i64 (Int.ofNat i + (1 : Int)))) : AV) = (iI (Int.ofNat (i + 1)))) {Φ : Res → Prop} (ho : ∀ j, OutK E 0 0 (p81s_end C n i x y u j) Φ) (j : Nat → Value) : OutK E 0 0 (q81 C n i x y u j) Φ :=
  outK_seg hE (R0_ok hE) [.run 2, (.ops [(2, (.d .len))] []), (.cond true), .run 4, (.ops [(3, (.d (.ld (.v (.int .i64 (x)))))), (2, (.d (.ix (i))))] []), (.cond false), .run 2, (.ops [(1, (.rn (iI (Int.ofNat (i + 1)))))] []), .run 1] [0, 3] (fun j => by kernel_rfl) (aP h0 <| aP h1 <| aP h2 <| aP h3 <| aP h4 <| aP h5 <| aZ)
    ho
def p81e_end (_C : List DT) (_n _i : Nat) (x _y _u : Int) (j : Nat → Value) : St := ⟨[], [(.code .ret), (.inBlock 1), (.code (atC [1, 0, 1, 0, 0, 1, 1] (bodyOf Tryz.f81))), (.inLoop (atC [1, 0, 1, 0, 0] (bodyOf Tryz.f81))), (.inBlock 0), (.code (atC [1, 1] (bodyOf Tryz.f81)))], mkT j [(2, (iI (x)))] 19 0⟩
theorem p81e (hE : EnvOk E) (C : List DT) (n i : Nat) (x y u : Int) (h0 : (decide (Int.ofNat i < (↑n : Int)) : Bool) = true) (h1 : (0 : Int) ≤ Int.ofNat i ∧ Int.ofNat i < (↑n : Int)) (h2 : ((Int.ofNat i).toNat * nat_lit 1 : Nat) = i) (h3 : (getL C i : Option DT) = (.some (.v (.int .i64 (x))))) (h4 : (x != (0 : Int) : Bool) = true) (h5 : (0 : Int) ≤ Int.ofNat i ∧ Int.ofNat i < (↑n : Int)) (h6 : ((Int.ofNat i).toNat * nat_lit 1 : Nat) = i) (h7 : (getL C i : Option DT) = (.some (.v (.int .i64 (x))))) {Φ : Res → Prop} (ho : ∀ j, OutK E 0 0 (p81e_end C n i x y u j) Φ) (j : Nat → Value) : OutK E 0 0 (q81 C n i x y u j) Φ :=
  outK_seg hE (R0_ok hE) [.run 2, (.ops [(2, (.d .len))] []), (.cond true), .run 4, (.ops [(3, (.d (.ld (.v (.int .i64 (x)))))), (2, (.d (.ix (i))))] []), (.cond true), .run 1, (.ops [(3, (.d (.ld (.v (.int .i64 (x)))))), (2, (.d (.ix (i))))] [])] [2] (fun j => by kernel_rfl) (aP h0 <| aP h1 <| aP h2 <| aP h3 <| aP h4 <| aP h5 <| aP h6 <| aP h7 <| aZ)
    ho
def p81x_end (_C : List DT) (_n _i : Nat) (_x _y _u : Int) (j : Nat → Value) : St := ⟨[], [(.code .ret)], mkT j [(2, (iI 0))] 19 0⟩
theorem p81x (hE : EnvOk E) (C : List DT) (n i : Nat) (x y u : Int) (h0 : (decide (Int.ofNat i < (↑n : Int)) : Bool) = false) {Φ : Res → Prop} (ho : ∀ j, OutK E 0 0 (p81x_end C n i x y u j) Φ) (j : Nat → Value) : OutK E 0 0 (q81 C n i x y u j) Φ :=
  outK_seg hE (R0_ok hE) [.run 2, (.ops [(2, (.d .len))] []), (.cond false), .run 3] [2] (fun j => by kernel_rfl) (aP h0 <| aZ)
    ho
def p66s_end (C : List DT) (n i : Nat) (_x _y _u : Int) (j : Nat → Value) : St := ⟨[], [(.code (atC [1, 1, 0, 1, 0, 0] (bodyOf Tryz.f66))), (.inLoop (atC [1, 1, 0, 1, 0, 0] (bodyOf Tryz.f66))), (.inBlock 0), (.code (atC [1, 1, 1] (bodyOf Tryz.f66)))], mkT j [(0, (.e (.one (.dp (.s (C) (n) 1))))), (1, (.e (.one (.dp (.s (C) (n) 1))))), (5, (iI (Int.ofNat (i + 1))))] 26 0⟩
theorem p66s (hE : EnvOk E) (C : List DT) (n i : Nat) (x y u : Int) (h0 : (decide (Int.ofNat i < (↑n : Int)) : Bool) = true) (h1 : (0 : Int) ≤ Int.ofNat i ∧ Int.ofNat i < (↑n : Int)) (h2 : ((Int.ofNat i).toNat * nat_lit 1 : Nat) = i) (h3 : (getL C i : Option DT) = (.some (.v (.int .i64 (x))))) (h4 : (0 : Int) ≤ Int.ofNat i ∧ Int.ofNat i < (↑n : Int)) (h5 : ((Int.ofNat i).toNat * nat_lit 1 : Nat) = i) (h6 : (getL C i : Option DT) = (.some (.v (.int .i64 (x))))) (h8 : (x != x : Bool) = false) (h9 : ((iI (wrapF IntKind.i64 (Int.ofNat i + (1 : Int)))) : AV) = (iI (Int.ofNat (i + 1)))) {Φ : Res → Prop} (ho : ∀ j, OutK E 0 0 (p66s_end C n i x y u j) Φ) (j : Nat → Value) : OutK E 0 0 (q66 C n i x y u j) Φ :=
  outK_seg hE (R0_ok hE) [.run 2, (.ops [(2, (.d .len))] []), (.cond true), .run 4, (.ops [(3, (.d (.ld (.v (.int .i64 (x)))))), (7, (.d (.ld (.v (.int .i64 (x)))))), (2, (.d (.ix (i)))), (6, (.d (.ix (i))))] []), (.cond false), .run 2, (.ops [(1, (.rn (iI (Int.ofNat (i + 1)))))] []), .run 1] [0, 1, 5] (fun j => by kernel_rfl) (aP h0 <| aP h1 <| aP h2 <| aP h3 <| aP h4 <| aP h5 <| aP h6 <| aP (rfl : (true : Bool) = true) <| aP h8 <| aP h9 <| aZ)
    ho
def p66x_end (_C : List DT) (_n _i : Nat) (_x _y _u : Int) (j : Nat → Value) : St := ⟨[], [(.code .ret)], mkT j [(4, (iB true))] 26 0⟩
theorem p66x (hE : EnvOk E) (C : List DT) (n i : Nat) (x y u : Int) (h0 : (decide (Int.ofNat i < (↑n : Int)) : Bool) = false) {Φ : Res → Prop} (ho : ∀ j, OutK E 0 0 (p66x_end C n i x y u j) Φ) (j : Nat → Value) : OutK E 0 0 (q66 C n i x y u j) Φ :=
  outK_seg hE (R0_ok hE) [.run 2, (.ops [(2, (.d .len))] []), (.cond false), .run 3] [4] (fun j => by kernel_rfl) (aP h0 <| aZ)
    ho
open Ieee
theorem getI {xs : List Int} {i : Nat} {x : Int} (h : xs[i]? = some x) : getL (iD xs) i = some (.v (.int .i64 x)) := by rw [getL_eq, List.getElem?_map, h]; rfl
abbrev dI (xs : List Int) : AV := .e (.one (.dp (.s (iD xs) xs.length 1)))
/-- a list without elements, nil or not -/
theorem cOut_nil1 {f : FuncId} {args : List AV} {h : Heap} {p : Option Addr} {c : Nat} (sz : Nat) (hc : COut E 0 [] f args (.e (.one (.v (.slice p 0 c)))) h) : COut E 0 [] f args (.e (.one (.dp (.s [] 0 sz)))) h := by
  intro m base w argsC ha H G
  exact (hc m base w argsC ha H G).mono fun en w' ⟨y, hy, m1, hp⟩ => ⟨y, hy, m1, hp.le, .inl ⟨rfl, p, c, hp.val⟩, hp.heap, hp.below⟩
theorem l79 (hE : EnvOk E) (xs : List Int) (hm : xs.length ≤ 4000000) :
    ∀ m i, m + i = xs.length → ∀ x j, OutK E 0 0 (q79 (iD xs) xs.length i x 0 0 j) (Go.Ev.Ends E Tryz.f79 (iI (firstI (xs.drop i))) [])
  | 0, i, hk, x, j => by
    have e1 : xs.drop i = [] := List.drop_eq_nil_of_le (by omega)
    rw [e1]
    exact p79x hE _ _ i x 0 0 (decide_eq_false (by simp only [Int.ofNat_eq_natCast]; omega)) (fun j => outK_ret (ends_ret (by kernel_rfl))) j
  | m + 1, i, hk, _, j => by
    have hlt : i < xs.length := by omega
    have hx : xs[i]? = some xs[i] := List.getElem?_eq_getElem hlt
    have e1 : xs.drop i = xs[i] :: xs.drop (i + 1) := List.drop_eq_getElem_cons hlt
    rw [e1]
    generalize xs[i] = x at hx e1
    have hd : decide (Int.ofNat i < Int.ofNat xs.length) = true := decide_eq_true (by simp only [Int.ofNat_eq_natCast]; omega)
    have hb : (0 : Int) ≤ Int.ofNat i ∧ Int.ofNat i < (xs.length : Int) := by simp only [Int.ofNat_eq_natCast]; omega
    by_cases h0 : x = 0
    · have e2 : firstI (x :: xs.drop (i + 1)) = firstI (xs.drop (i + 1)) := by simp [firstI, h0]
      rw [e2]
      exact p79s hE _ _ i x 0 0 hd hb (by simp) (getI hx) (by simp [h0]) (iIn i (by omega)) (l79 hE xs hm m (i + 1) (by omega) 0) j
    · have e2 : firstI (x :: xs.drop (i + 1)) = x := by simp [firstI, h0]
      rw [e2]
      exact p79e hE _ _ i x 0 0 hd hb (by simp) (getI hx) (by simp [h0])  (fun j => outK_ret (ends_ret (by kernel_rfl))) j
theorem K79 (hE : EnvOk E) (xs : List Int) (hm : xs.length ≤ 4000000) : COut E 0 [] 79 [dI xs] (iI (firstI xs)) [] :=
  cOut_start Tryz.func79 rfl (p79a hE _ _ 0 0 0 0 (l79 hE xs hm xs.length 0 (by omega) 0) fun _ => undef)

theorem l81 (hE : EnvOk E) (xs : List Int) (hm : xs.length ≤ 4000000) :
    ∀ m i, m + i = xs.length → ∀ x j, OutK E 0 0 (q81 (iD xs) xs.length i x 0 0 j) (Go.Ev.Ends E Tryz.f81 (iI (firstI (xs.drop i))) [])
  | 0, i, hk, x, j => by
    have e1 : xs.drop i = [] := List.drop_eq_nil_of_le (by omega)
    rw [e1]
    exact p81x hE _ _ i x 0 0 (decide_eq_false (by simp only [Int.ofNat_eq_natCast]; omega)) (fun j => outK_ret (ends_ret (by kernel_rfl))) j
  | m + 1, i, hk, _, j => by
    have hlt : i < xs.length := by omega
    have hx : xs[i]? = some xs[i] := List.getElem?_eq_getElem hlt
    have e1 : xs.drop i = xs[i] :: xs.drop (i + 1) := List.drop_eq_getElem_cons hlt
    rw [e1]
    generalize xs[i] = x at hx e1
    have hd : decide (Int.ofNat i < (xs.length : Int)) = true := decide_eq_true (by simp only [Int.ofNat_eq_natCast]; omega)
    have hb : (0 : Int) ≤ Int.ofNat i ∧ Int.ofNat i < (xs.length : Int) := by simp only [Int.ofNat_eq_natCast]; omega
    by_cases h0 : x = 0
    · have e2 : firstI (x :: xs.drop (i + 1)) = firstI (xs.drop (i + 1)) := by simp [firstI, h0]
      rw [e2]
      exact p81s hE _ _ i x 0 0 hd hb (by simp) (getI hx) (by simp [h0]) (iIn i (by omega)) (l81 hE xs hm m (i + 1) (by omega) 0) j
    · have e2 : firstI (x :: xs.drop (i + 1)) = x := by simp [firstI, h0]
      rw [e2]
      exact p81e hE _ _ i x 0 0 hd hb (by simp) (getI hx) (by simp [h0]) hb (by simp) (getI hx) (fun j => outK_ret (ends_ret (by kernel_rfl))) j
theorem K81 (hE : EnvOk E) (xs : List Int) (hm : xs.length ≤ 4000000) : COut E 0 [] 81 [dI xs] (iI (firstI xs)) [] :=
  cOut_start Tryz.func81 rfl (p81a hE _ _ 0 0 0 0 (l81 hE xs hm xs.length 0 (by omega) 0) fun _ => undef)

theorem K15 (hE : EnvOk E) (xs : List Int) (hm : xs.length ≤ 4000000) : COut E 0 [] 15 [dI xs] (iI (firstI xs)) [] :=
  cOut_start Tryz.func15 rfl (p15 hE _ _ 0 _ 0 0 (K81 hE xs hm) (fun j => outK_ret (ends_ret (by kernel_rfl))) fun _ => undef)
theorem l66 (hE : EnvOk E) (xs : List Int) (hm : xs.length ≤ 4000000) :
    ∀ m i, m + i = xs.length → ∀ x j, OutK E 0 0 (q66 (iD xs) xs.length i x 0 0 j) (Go.Ev.Ends E Tryz.f66 (iB true) [])
  | 0, i, hk, x, j => p66x hE _ _ i x 0 0 (decide_eq_false (by simp only [Int.ofNat_eq_natCast]; omega)) (fun j => outK_ret (ends_ret (by kernel_rfl))) j
  | m + 1, i, hk, _, j => by
    have hlt : i < xs.length := by omega
    have hb : (0 : Int) ≤ Int.ofNat i ∧ Int.ofNat i < (xs.length : Int) := by simp only [Int.ofNat_eq_natCast]; omega
    exact p66s hE _ _ i xs[i] 0 0 (decide_eq_true (by simp only [Int.ofNat_eq_natCast]; omega)) hb (by simp) (getI (List.getElem?_eq_getElem hlt)) hb (by simp) (getI (List.getElem?_eq_getElem hlt)) (by simp) (iIn i (by omega)) (l66 hE xs hm m (i + 1) (by omega) 0) j
theorem K66 (hE : EnvOk E) (xs : List Int) (hm : xs.length ≤ 4000000) : COut E 0 [] 66 [dI xs, dI xs] (iB true) [] :=
  cOut_start Tryz.func66 rfl (p66a hE _ _ 0 0 0 0 (by simp) (l66 hE xs hm xs.length 0 (by omega) 0) fun _ => undef)
end
end Go.Proofs.YtdjjpjahlhdjnaaGreatDoor

end

/-! SePe -/
section
open Go Go.Ev
namespace Go.Proofs.YtdjjpjahlhdjnaaGreatDoor
noncomputable section
set_option maxRecDepth 100000
set_option maxHeartbeats 20000000


open Ieee
theorem lend2 (lv : Nat) (_hE : EnvOk E) (f : FuncId) (xs : List Int) (r : Int) (ty : Nat) (fl : Bool) (hc : COut E 0 [] f [dI xs] (iI r) []) (h : Heap) (i : Nat) (hh : getL h i = some (some ⟨(iD xs).map DT.ac, xs.length, ty, fl, .cells⟩)) : COut E lv h f [.e (.one (.slc i 0 xs.length 1 xs.length true))] (iI r) h :=
  cOut_lend h hc ⟨.inr ⟨i, 0, xs.length, 1, xs.length, true, iD xs, iD xs, xs.length, ty, fl, rfl, rfl, hh, by rw [takeL_eq, dropL_eq, List.drop_zero, if_pos (by simp), List.take_of_length_le (by simp)]⟩, trivial⟩ rfl rfl
end
end Go.Proofs.YtdjjpjahlhdjnaaGreatDoor

end

/-! SeEqF -/
section
open Go Go.Ev Go.RowKit
namespace Go.Proofs.YtdjjpjahlhdjnaaGreatDoor
noncomputable section
section
variable {P : Program} (w : World)
end
theorem some_of {α β : Type} {o : Option α} {f : α → β} {b : β} (h : o.map f = some b) : ∃ a, o = some a ∧ f a = b := by
  cases o with
  | none => simp at h
  | some a => exact ⟨a, rfl, by simpa using h⟩
end
end Go.Proofs.YtdjjpjahlhdjnaaGreatDoor

end

/-! SePf -/
section
open Go Go.Ev
namespace Go.Proofs.YtdjjpjahlhdjnaaGreatDoor
noncomputable section
set_option maxRecDepth 100000
set_option maxHeartbeats 20000000
def s17 (_C : List DT) (_n : Nat) (z a b _e _f : Int) (_j : Nat → Value) : St := startK Tryz.f17 [] [iI z, iI a, iI b]
def s66n (_C : List DT) (_n : Nat) (_z _a _b _e _f : Int) (_j : Nat → Value) : St := startK Tryz.f66 [] [(.e (.one (.dp (.s [] 0 1)))), (.e (.one (.v (.slice none 0 0))))]
def s21n (_C : List DT) (_n : Nat) (_z _a _b e _f : Int) (_j : Nat → Value) : St := startK Tryz.f21 [] [(.e (.one (.dp (.s [] 0 1)))), iI e, iI e, (.e (.one (.v (.slice none 0 0))))]
def s21 (C : List DT) (n : Nat) (_z _a _b _e _f : Int) (_j : Nat → Value) : St := startK Tryz.f21 [] [(.e (.one (.dp (.s C n 1)))), iI 0, iI 0, (.e (.one (.dp (.s C n 1))))]
def p17a_end (_C : List DT) (_n : Nat) (_z _a _b e _f : Int) (j : Nat → Value) : St := ⟨[], [(.code .ret)], mkT j [(6, (iI (e)))] 16 0⟩
theorem p17a (hE : EnvOk E) (C : List DT) (n : Nat) (z a b e f : Int) (h0 : (decide (z < a) == false : Bool) = (nat_lit 4, false).snd) (h1 : (decide (z < a) == false : Bool) = (nat_lit 5, false).snd) (h2 : (decide (z < a) == false : Bool) = (nat_lit 6, false).snd) (h3 : (decide (z < a) : Bool) = true) (h4 : COut E 0 [] 82 [(iB true), (iI 3)] (iI (e)) []) {Φ : Res → Prop} (ho : ∀ j, OutK E 0 0 (p17a_end C n z a b e f j) Φ) (j : Nat → Value) : OutK E 0 0 (s17 C n z a b e f j) Φ :=
  outK_seg hE (R0_ok hE) [.run 3, (.ops [(8, (.c0 (iI (e)))), (7, (.pk true))] [(4, false), (5, false), (6, false)])] [6] (fun j => by kernel_rfl) (aP h0 <| aP h1 <| aP h2 <| aP h3 <| aP h4 <| aN <| aZ)
    ho
def p17b_end (_C : List DT) (_n : Nat) (_z _a _b e _f : Int) (j : Nat → Value) : St := ⟨[], [(.code .ret)], mkT j [(6, (iI (e)))] 16 0⟩
theorem p17b (hE : EnvOk E) (C : List DT) (n : Nat) (z a b e f : Int) (h0 : (decide (z < a) == false : Bool) = (nat_lit 4, true).snd) (h1 : (decide (z < a) == false : Bool) = (nat_lit 5, true).snd) (h2 : (decide (z < a) == false : Bool) = (nat_lit 6, true).snd) (h3 : (decide (z < a) : Bool) = false) (h4 : COut E 0 [] 82 [(iB (decide (z > b))), (iI 3)] (iI (e)) []) {Φ : Res → Prop} (ho : ∀ j, OutK E 0 0 (p17b_end C n z a b e f j) Φ) (j : Nat → Value) : OutK E 0 0 (s17 C n z a b e f j) Φ :=
  outK_seg hE (R0_ok hE) [.run 3, (.ops [(8, (.c0 (iI (e)))), (7, (.pk false))] [(4, true), (5, true), (6, true)])] [6] (fun j => by kernel_rfl) (aP h0 <| aP h1 <| aP h2 <| aP h3 <| aP h4 <| aN <| aZ)
    ho
def p66n_end (_C : List DT) (_n : Nat) (_z _a _b _e _f : Int) (j : Nat → Value) : St := ⟨[], [(.code .ret)], mkT j [(4, (iB true))] 26 0⟩
theorem p66n (hE : EnvOk E) (C : List DT) (n : Nat) (z a b e f : Int)  {Φ : Res → Prop} (ho : ∀ j, OutK E 0 0 (p66n_end C n z a b e f j) Φ) (j : Nat → Value) : OutK E 0 0 (s66n C n z a b e f j) Φ :=
  outK_seg hE (R0_ok hE) [.run 4, (.ops [(1, (.d .len))] []), .run 9, (.ops [(2, (.d .len))] []), .run 4] [4] (ps := []) (fun j => by kernel_rfl) trivial
    ho
def p21n_end (_C : List DT) (_n : Nat) (_z _a _b e _f : Int) (j : Nat → Value) : St := ⟨[], [(.code .ret)], mkT j [(8, (iB (e == e)))] 19 0⟩
theorem p21n (hE : EnvOk E) (C : List DT) (n : Nat) (z a b e f : Int) (h0 : (e != (0 : Int) : Bool) = true) (h1 : COut E 0 [] 66 [(.e (.one (.dp (.s [] 0 1)))), (.e (.one (.v (.slice none 0 0))))] (iB true) []) {Φ : Res → Prop} (ho : ∀ j, OutK E 0 0 (p21n_end C n z a b e f j) Φ) (j : Nat → Value) : OutK E 0 0 (s21n C n z a b e f j) Φ :=
  outK_seg hE (R0_ok hE) [.run 5, (.cond true), .run 2, (.ops [(2, (.c0 (iB true)))] [])] [8] (fun j => by kernel_rfl) (aP h0 <| aP h1 <| aN <| aZ)
    ho
def p21_end (_C : List DT) (_n : Nat) (_z _a _b _e _f : Int) (j : Nat → Value) : St := ⟨[], [(.code .ret)], mkT j [(8, (iB true))] 19 0⟩
theorem p21 (hE : EnvOk E) (C : List DT) (n : Nat) (z a b e f : Int) (h0 : COut E 0 [] 66 [(.e (.one (.dp (.s (C) (n) 1)))), (.e (.one (.dp (.s (C) (n) 1))))] (iB true) []) {Φ : Res → Prop} (ho : ∀ j, OutK E 0 0 (p21_end C n z a b e f j) Φ) (j : Nat → Value) : OutK E 0 0 (s21 C n z a b e f j) Φ :=
  outK_seg hE (R0_ok hE) [.run 8, (.ops [(2, (.c0 (iB true)))] [])] [8] (fun j => by kernel_rfl) (aP h0 <| aN <| aZ)
    ho
open Ieee
theorem K17 (hE : EnvOk E) (z a b : Int) : COut E 0 [] 17 [iI z, iI a, iI b] (iI (rngI a b z)) [] := by
  by_cases h : z < a
  · have e : rngI a b z = 3 := by simp [rngI, h]
    have h1 : decide (z < a) = true := decide_eq_true h
    rw [e]
    exact cOut_start Tryz.func17 rfl (p17a hE [] 0 z a b 3 0 (by rw [h1]; rfl) (by rw [h1]; rfl) (by rw [h1]; rfl) h1 (k60 hE true 3) (fun j => outK_ret (ends_ret (by kernel_rfl))) fun _ => undef)
  · have h1 : decide (z < a) = false := decide_eq_false h
    have h2 := k60 hE (decide (z > b)) 3
    have e : rngI a b z = if decide (z > b) = true then 3 else 0 := by
      unfold rngI
      by_cases g : b < z
      · rw [if_pos (.inr g), if_pos (decide_eq_true g)]
      · rw [if_neg (by omega), if_neg (by simp; omega)]
    rw [e]
    exact cOut_start Tryz.func17 rfl (p17b hE [] 0 z a b _ 0 (by rw [h1]; rfl) (by rw [h1]; rfl) (by rw [h1]; rfl) h1 h2 (fun j => outK_ret (ends_ret (by kernel_rfl))) fun _ => undef)
theorem K66n (hE : EnvOk E) : COut E 0 [] 66 [.e (.one (.dp (.s [] 0 1))), .e (.one (.v (.slice none 0 0)))] (iB true) [] :=
  cOut_start Tryz.func66 rfl (p66n hE [] 0 0 0 0 0 0 (fun j => outK_ret (ends_ret (by kernel_rfl))) fun _ => undef)
theorem K21n (hE : EnvOk E) {e : Int} (h : e ≠ 0) : COut E 0 [] 21 [.e (.one (.dp (.s [] 0 1))), iI e, iI e, .e (.one (.v (.slice none 0 0)))] (iB true) [] := by
  have h1 : (e == e) = true := by simp
  have hc := cOut_start Tryz.func21 rfl (v := iB (e == e)) (hout := []) (p21n hE [] 0 0 0 0 e 0 (bne_iff_ne.2 h) (K66n hE) (fun j => outK_ret (ends_ret (by kernel_rfl))) fun _ => undef)
  rw [h1] at hc
  exact hc
theorem K21 (hE : EnvOk E) (xs : List Int) (hm : xs.length ≤ 4000000) : COut E 0 [] 21 [dI xs, iI 0, iI 0, dI xs] (iB true) [] :=
  cOut_start Tryz.func21 rfl (p21 hE _ _ 0 0 0 0 0 (K66 hE xs hm) (fun j => outK_ret (ends_ret (by kernel_rfl))) fun _ => undef)
end
end Go.Proofs.YtdjjpjahlhdjnaaGreatDoor

end

/-! SeNm -/
section
open Go Go.Ev
namespace Go.Proofs.YtdjjpjahlhdjnaaGreatDoor
theorem get_bang {s : ByteArray} {k : Nat} {b : UInt8} (h : s[k]? = some b) : s.get! k = b := by
  have hk : k < s.size := by
    by_cases c : k < s.size
    · exact c
    · rw [getElem?_neg s k c] at h; cases h
  rw [getElem?_pos s k hk] at h
  have h := Option.some.inj h
  rw [← h]
  show s.data[k]! = s.data[k]
  exact getElem!_pos s.data k hk
theorem dec_lo {s : ByteArray} {k : Nat} {b : UInt8} (h : s[k]? = some b) (hb : b.toNat < 128) : Utf8.decode s k = (b.toNat, 1) := by
  unfold Utf8.decode
  simp only [Nat.add_zero, get_bang h]
  rw [if_pos hb]
theorem dec_hi {s : ByteArray} {k : Nat} {b : UInt8} (h : s[k]? = some b) (hb : 128 ≤ b.toNat) : 128 ≤ (Utf8.decode s k).1 := by
  unfold Utf8.decode
  simp only [Nat.add_zero, get_bang h]
  rw [if_neg (by omega)]
  have hr : (128 : Nat) ≤ (Utf8.runeError, 1).1 := by decide
  split
  · split
    · rename_i hc; exact hc
    · exact hr
  · split
    · split
      · rename_i hc; simp only [Bool.and_eq_true, decide_eq_true_eq] at hc; exact Nat.le_trans (by decide) hc.1
      · exact hr
    · split
      · split
        · rename_i hc; simp only [Bool.and_eq_true, decide_eq_true_eq] at hc; exact Nat.le_trans (by decide) hc.1
        · exact hr
      · exact hr
/-- letters and digits, by their numbers -/
def ltrI (r : Int) : Bool := (decide (65 ≤ r) && decide (r ≤ 90)) || (decide (97 ≤ r) && decide (r ≤ 122))
def digI (r : Int) : Bool := decide (48 ≤ r) && decide (r ≤ 57)
def okI (r : Int) (i : Nat) : Bool := ltrI r || (!(decide (i = 0)) && (digI r || decide (r = 95)))
/-- the bytes from one on -/
def nmL : List UInt8 → Nat → Bool
  | [], _ => true
  | b :: l, i => okI (Int.ofNat b.toNat) i && nmL l (i + 1)
def nameB (s : ByteArray) : Bool := decide (0 < s.size) && decide (s.size ≤ 24) && nmL s.data.toList 0
theorem bytes_drop {s : ByteArray} {k : Nat} {b : UInt8} (h : s[k]? = some b) : s.data.toList.drop k = b :: s.data.toList.drop (k + 1) := by
  have hk : k < s.size := by
    by_cases c : k < s.size
    · exact c
    · rw [getElem?_neg s k c] at h; cases h
  rw [getElem?_pos s k hk] at h
  have h := Option.some.inj h
  have hk2 : k < s.data.toList.length := by simpa using hk
  rw [List.drop_eq_getElem_cons hk2]
  congr 1
theorem byte_at {s : ByteArray} {k : Nat} (hk : k < s.size) : ∃ b, s[k]? = some b := ⟨_, getElem?_pos s k hk⟩
theorem hi_bad {r : Int} (h : 128 ≤ r) (i : Nat) : okI r i = false := by
  have h1 : ltrI r = false := by simp only [ltrI, Bool.or_eq_false_iff, Bool.and_eq_false_iff, decide_eq_false_iff_not]; omega
  have h2 : digI r = false := by simp only [digI, Bool.and_eq_false_iff, decide_eq_false_iff_not]; omega
  have h3 : decide (r = 95) = false := decide_eq_false (by omega)
  simp [okI, h1, h2, h3]
/-! The permutation. -/
def swapL (l : List Int) (i k : Nat) : List Int := (l.set i (l.getD k 0)).set k (l.getD i 0)
/-- what is still to be done for the indices from i down to 1 -/
def drawL : Nat → Nat → List Int → List Int
  | 0, _, l => l
  | i + 1, x, l => drawL i (630360016 * x % 2147483647) (swapL l (i + 1) (630360016 * x % 2147483647 % (i + 1 + 1)))
def idL (n : Nat) : List Int := (List.range n).map Int.ofNat
def drawn (x n : Nat) : List Int := drawL (n - 1) x (idL n)
theorem swapL_len (l : List Int) (i k : Nat) : (swapL l i k).length = l.length := by simp [swapL]
theorem drawL_len : ∀ (i x : Nat) (l : List Int), (drawL i x l).length = l.length
  | 0, _, _ => rfl
  | i + 1, x, l => by simp only [drawL]; rw [drawL_len i, swapL_len]
theorem idL_len (n : Nat) : (idL n).length = n := by simp [idL]
theorem drawn_len (x n : Nat) : (drawn x n).length = n := by unfold drawn; rw [drawL_len, idL_len]
theorem idL_succ (n : Nat) : idL (n + 1) = idL n ++ [Int.ofNat n] := by simp [idL, List.range_succ]
theorem swapL_alt (l : List Int) (i k : Nat) : (l.set k (l.getD i 0)).set i (l.getD k 0) = swapL l i k := by
  unfold swapL
  by_cases h : i = k
  · subst h; rfl
  · rw [List.set_comm _ _ (fun e => h e.symm)]
def fillL (i n : Nat) : List Int := idL i ++ List.replicate (n - i) 0
theorem fillL_len {i n : Nat} (h : i ≤ n) : (fillL i n).length = n := by simp [fillL, idL_len]; omega
theorem fillL_set {i n : Nat} (h : i < n) : (fillL i n).set i (Int.ofNat i) = fillL (i + 1) n := by
  unfold fillL
  rw [List.set_append_right _ _ (by rw [idL_len]; exact Nat.le_refl _), idL_len, Nat.sub_self, idL_succ, List.append_assoc]
  congr 1
  rw [show n - i = (n - (i + 1)) + 1 by omega, List.replicate_succ]
  rfl
theorem fillL_end (n : Nat) : fillL n n = idL n := by simp [fillL]
end Go.Proofs.YtdjjpjahlhdjnaaGreatDoor

end
