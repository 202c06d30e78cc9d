/-
  Floats as whole numbers: a word's value in units of 2 ^ -1300, and what the operations make of it where nothing is rounded.
-/
import Derived.Test.YtgplabfjldndgaaGreatDoorFlA
namespace Ieee

/-- enough of them -/
def EX : Nat := 1300
theorem EX_eq : EX = 1300 := rfl
/-- the units of a one -/
def KK : Nat := 2 ^ EX
theorem KK_pos : 0 < KK := pow_pos2 _
theorem KK_eq : KK = 2 ^ EX := rfl
attribute [irreducible] EX KK
def sg (s : Bool) (n : Nat) : Int := if s then -(n : Int) else n
theorem signed_eq (s : Bool) (m u : Nat) : signed s m u = sg s (m * 2 ^ u) := by unfold signed sg; rw [Nat.shiftLeft_eq]
theorem sg_mul (s : Bool) (n c : Nat) : sg s (n * c) = sg s n * c := by cases s <;> simp [sg, Int.neg_mul]
theorem sg_natAbs (s : Bool) (n : Nat) : (sg s n).natAbs = n := by cases s <;> simp [sg]

def Num (f : Format) (b : Nat) (V : Int) : Prop := ∃ s m e, f.read b = .number s m e ∧ f.leastPlace ≤ e ∧ m < 2 ^ (f.fractionBits + 1) ∧ V = sg s (m * 2 ^ (e + EX).toNat)
/-- what both formats have -/
structure Fit (f : Format) : Prop where
  lo : -1074 ≤ f.leastPlace
  le0 : f.leastPlace ≤ -140
  F : 2 ≤ f.fractionBits
  hi : f.leastPlace + f.fractionBits ≤ -120
theorem fit_single : Fit single := ⟨by decide, by decide, by decide, by decide⟩
theorem fit_double : Fit double := ⟨by decide, by decide, by decide, by decide⟩

theorem compare_mul (a b : Int) {c : Int} (hc : 0 < c) : compare (a * c) (b * c) = compare a b := by
  simp only [compare, compareOfLessAndEq]
  by_cases h : a < b
  · rw [if_pos h, if_pos (Int.mul_lt_mul_of_pos_right h hc)]
  · rw [if_neg h, if_neg fun h' => h (Int.lt_of_mul_lt_mul_right h' (Int.le_of_lt hc))]
    by_cases e : a = b
    · rw [if_pos e, if_pos (by rw [e])]
    · rw [if_neg e, if_neg fun h' => e (Int.eq_of_mul_eq_mul_right (by omega) h')]

theorem Num.order {f : Format} (hf : Fit f) {x y : Nat} {V W : Int} (hx : Num f x V) (hy : Num f y W) : f.order x y = some (compare V W) := by
  obtain ⟨s, m, i, h1, h2, _, rfl⟩ := hx
  obtain ⟨t, n, j, k1, k2, _, rfl⟩ := hy
  have := hf.lo
  have hX := EX_eq
  unfold Format.order Datum.order
  rw [h1, k1]
  simp only [signed_eq]
  have hX := EX_eq
  have e1 : (i + EX).toNat = (i - min i j).toNat + (min i j + EX).toNat := by omega
  have e2 : (j + EX).toNat = (j - min i j).toNat + (min i j + EX).toNat := by omega
  rw [e1, e2, Nat.pow_add, Nat.pow_add, ← Nat.mul_assoc, ← Nat.mul_assoc, sg_mul s (m * _), sg_mul t (n * _), compare_mul]
  have := pow_pos2 (min i j + EX).toNat
  omega

/-- the greatest place of a number's last digit -/
def Format.top (f : Format) : Int := f.leastPlace + (2 ^ f.exponentBits - 3 : Nat)
theorem top_single : single.top = 104 := by decide
theorem top_double : double.top = 971 := by decide

theorem zero_read (f : Format) (s : Bool) : f.read (f.word s 0) = .number s 0 f.leastPlace := by
  rw [Format.read_word f s (pow_pos2 _), if_pos (show 0 < f.binade from pow_pos2 _)]

/-- A number that is written exactly. -/
theorem num_nearest {f : Format} (hf : Fit f) (hE : 3 ≤ 2 ^ f.exponentBits) (s : Bool) {a k : Nat} {e : Int} (hF : a < 2 ^ (f.fractionBits + 1)) (hq : f.leastPlace ≤ e + k) (he : -(EX : Int) ≤ e) (hov : a = 0 ∨ e + k + a.log2 - f.fractionBits ≤ f.top) :
    Num f (f.nearest s (a * 2 ^ k) e) (sg s (a * 2 ^ k * 2 ^ (e + EX).toNat)) := by
  have hlo := hf.lo
  have hX := EX_eq
  by_cases ha : a = 0
  · subst ha
    refine ⟨s, 0, f.leastPlace, ?_, Int.le_refl _, pow_pos2 _, by simp⟩
    unfold Format.nearest
    rw [if_pos (by simp), zero_read]
  · have hov := hov.resolve_left ha
    have hl : a.log2 ≤ f.fractionBits := by have := (Nat.log2_lt ha).2 hF; omega
    have hkl := Format.kept_lt f ha (e + k) hl hq
    have hlast : f.lastOf a (e + k) ≤ e + k := by unfold Format.lastOf; omega
    have hlast2 : f.leastPlace ≤ f.lastOf a (e + k) := by unfold Format.lastOf; omega
    have hlast3 : f.lastOf a (e + k) ≤ f.top := by
      unfold Format.lastOf
      have : f.leastPlace ≤ f.top := by unfold Format.top; omega
      omega
    have hr : (f.lastOf a (e + k) - f.leastPlace).toNat * f.binade + f.keptOf a (e + k) < f.infRung := by
      have h1 : (f.lastOf a (e + k) - f.leastPlace).toNat ≤ 2 ^ f.exponentBits - 3 := by unfold Format.top at hlast3; omega
      have h2 : f.infRung = (2 ^ f.exponentBits - 3) * f.binade + 2 * f.binade := by
        unfold Format.infRung
        rw [← Nat.add_mul]
        congr 1
        omega
      have h3 : 2 ^ (f.fractionBits + 1) = 2 * f.binade := by unfold Format.binade; rw [Nat.pow_succ, Nat.mul_comm]
      have h4 := Nat.mul_le_mul_right f.binade h1
      omega
    refine ⟨s, _, _, Format.read_nearest f s ha k e hl hq hr, hlast2, hkl, ?_⟩
    congr 1
    unfold Format.keptOf
    rw [Nat.mul_assoc, ← Nat.pow_add, Nat.mul_assoc, ← Nat.pow_add]
    congr 2
    omega

theorem log_le {m n : Nat} (hm : m ≠ 0) (h : m < 2 ^ n) : m.log2 < n := (Nat.log2_lt hm).2 h

/-- A word is one of four. -/
theorem read_cases {f : Format} (b : Nat) : (∃ s t, f.read b = .nan s t) ∨ (∃ s, f.read b = .infinity s) ∨ ∃ V, Num f b V := by
  have hp : 0 < f.binade := pow_pos2 _
  unfold Num
  cases h : f.read b with
  | nan s t => exact .inl ⟨_, _, rfl⟩
  | infinity s => exact .inr (.inl ⟨_, rfl⟩)
  | number s m e =>
    refine .inr (.inr ⟨_, s, m, e, rfl, ?_, ?_, rfl⟩)
    · unfold Format.read at h
      simp only at h
      split at h
      · simp only [Datum.number.injEq] at h; omega
      · split at h
        · simp only [Datum.number.injEq] at h; omega
        · split at h <;> simp at h
    · have h2 : 2 ^ (f.fractionBits + 1) = 2 * f.binade := by unfold Format.binade; rw [Nat.pow_succ, Nat.mul_comm]
      unfold Format.read at h
      simp only at h
      split at h
      · simp only [Datum.number.injEq] at h; omega
      · split at h
        · simp only [Datum.number.injEq] at h
          have := Nat.mod_lt (b % f.signWeight) hp
          omega
        · split at h <;> simp at h

/-- a number's magnitude, by its value -/
theorem mag_lt {m : Nat} {e : Int} {n : Nat} (hm : m ≠ 0) (he : -(EX : Int) ≤ e) (h : m * 2 ^ (e + EX).toNat < 2 ^ n) : m.log2 + e + EX < n := by
  have hX := EX_eq
  have hne : m * 2 ^ (e + EX).toNat ≠ 0 := Nat.mul_ne_zero hm (by have := pow_pos2 (e + EX).toNat; omega)
  have := log_le hne h
  rw [log2_mul_pow hm] at this
  omega

theorem pow_mono {a b : Nat} (h : a ≤ b) : 2 ^ a ≤ 2 ^ b := Nat.pow_le_pow_right (by omega) h
theorem nearest_zero (f : Format) (s : Bool) (e e' : Int) : f.nearest s 0 e = f.nearest s 0 e' := by simp [Format.nearest]
/-- whatever zero -/
theorem num_zero {f : Format} (hf : Fit f) (hE : 3 ≤ 2 ^ f.exponentBits) (s : Bool) (e : Int) : Num f (f.nearest s 0 e) 0 := by
  have hlo := hf.lo
  have hX := EX_eq
  have := num_nearest hf hE s (a := 0) (k := 0) (e := f.leastPlace) (pow_pos2 _) (by omega) (by omega) (.inl rfl)
  simp only [Nat.zero_mul] at this
  rw [nearest_zero f s e f.leastPlace]
  cases s <;> simpa [sg] using this

/-- 16 times a number. -/
theorem Num.mul16 {f : Format} (hf : Fit f) (hE : 3 ≤ 2 ^ f.exponentBits) {c x : Nat} {V : Int} (hc : f.read c = .number false (2 ^ f.fractionBits) (4 - f.fractionBits)) (hF : f.fractionBits ≤ 100) (hx : Num f x V) {n : Nat} (hb : V.natAbs < 2 ^ n) (hn : (n : Int) ≤ 1297 + f.top + f.fractionBits) :
    ∃ r, f.mul c x = some r ∧ Num f r (16 * V) := by
  obtain ⟨s, m, e, h2, h3, h4, rfl⟩ := hx
  have hlo := hf.lo
  have hX := EX_eq
  unfold Format.mul Datum.product
  rw [hc, h2]
  simp only [Option.map_some, Format.write, Bool.false_xor]
  refine ⟨_, rfl, ?_⟩
  rw [Nat.mul_comm (2 ^ f.fractionBits) m]
  by_cases hm : m = 0
  · subst hm
    have := num_zero hf hE s (4 - f.fractionBits + e)
    simpa [sg] using this
  · rw [sg_natAbs] at hb
    have hl := mag_lt hm (by omega) hb
    have hk := num_nearest hf hE s (a := m) (k := f.fractionBits) (e := 4 - f.fractionBits + e) h4 (by omega) (by omega) (.inr (by omega))
    have e1 : sg s (m * 2 ^ f.fractionBits * 2 ^ (4 - (f.fractionBits : Int) + e + EX).toNat) = 16 * sg s (m * 2 ^ (e + EX).toNat) := by
      rw [Nat.mul_assoc, ← Nat.pow_add, show f.fractionBits + (4 - (f.fractionBits : Int) + e + EX).toNat = (e + EX).toNat + 4 by omega, Nat.pow_add, ← Nat.mul_assoc, sg_mul, Int.mul_comm]
      rfl
    rw [e1] at hk
    exact hk

/-- A number in a format with more digits. -/
theorem Num.widen {f g : Format} (hf : Fit f) (hg : Fit g) (hE : 3 ≤ 2 ^ g.exponentBits) (hF : f.fractionBits ≤ g.fractionBits) (hl : g.leastPlace ≤ f.leastPlace) {x : Nat} {V : Int} (hx : Num f x V) {n : Nat} (hb : V.natAbs < 2 ^ n) (hn : (n : Int) ≤ 1301 + g.top + g.fractionBits) :
    ∃ s m e, f.read x = .number s m e ∧ Num g (g.nearest s m e) V := by
  obtain ⟨s, m, e, h2, h3, h4, rfl⟩ := hx
  have hlo := hf.lo
  have hX := EX_eq
  refine ⟨s, m, e, h2, ?_⟩
  by_cases hm : m = 0
  · subst hm
    have := num_zero hg hE s e
    simpa [sg] using this
  · rw [sg_natAbs] at hb
    have hl := mag_lt hm (by omega) hb
    have hk := num_nearest hg hE s (a := m) (k := 0) (e := e) (Nat.lt_of_lt_of_le h4 (pow_mono (by omega))) (by omega) (by omega) (.inr (by omega))
    simpa using hk

theorem cut_zero (s : Bool) (n d : Nat) : Toward.cut .zero s n d = n / 2 ^ d := by
  unfold Toward.cut
  simp only [Bool.toNat_false, Nat.add_zero, Nat.one_shiftLeft]
  by_cases h : d ≤ n.log2 + 2
  · rw [Nat.min_eq_left h]
  · rw [Nat.min_eq_right (by omega)]
    have h1 : n < 2 ^ (n.log2 + 2) := Nat.lt_of_lt_of_le Nat.lt_log2_self (pow_mono (by omega))
    rw [Nat.div_eq_of_lt h1, Nat.div_eq_of_lt (Nat.lt_of_lt_of_le h1 (pow_mono (by omega)))]
/-- what is left of the fraction -/
theorem whole_eq (m : Nat) {e : Int} (he : -(EX : Int) ≤ e) : (m * 2 ^ e.toNat) / 2 ^ (-e).toNat = m * 2 ^ (e + EX).toNat / KK := by
  have hX := EX_eq
  rw [KK_eq]
  by_cases h : 0 ≤ e
  · have h1 : (-e).toNat = 0 := by omega
    have h2 : (e + EX).toNat = e.toNat + EX := by omega
    rw [h1, h2, Nat.pow_zero, Nat.div_one, Nat.pow_add, ← Nat.mul_assoc, Nat.mul_div_cancel _ (pow_pos2 _)]
  · have h1 : e.toNat = 0 := by omega
    have h2 : EX = (e + EX).toNat + (-e).toNat := by omega
    rw [h1, Nat.pow_zero, Nat.mul_one]
    conv => rhs; rw [show (2 : Nat) ^ EX = 2 ^ (-e).toNat * 2 ^ (e + EX).toNat by rw [← Nat.pow_add]; congr 1; omega]
    rw [Nat.mul_div_mul_right _ _ (pow_pos2 _)]
theorem sg_tdiv (s : Bool) (n c : Nat) : (sg s n).tdiv c = sg s (n / c) := by
  cases s
  · simp [sg]
  · simp [sg, Int.neg_tdiv]
theorem Num.toInt {f : Format} (hf : Fit f) {x : Nat} {V : Int} (hx : Num f x V) : (f.read x).toInt .zero = some (V.tdiv KK) := by
  obtain ⟨s, m, e, h2, h3, h4, rfl⟩ := hx
  have hlo := hf.lo
  have hX := EX_eq
  rw [h2]
  simp only [Datum.toInt, Datum.integral, signed_eq, cut_zero, Nat.shiftLeft_eq, Nat.pow_zero, Nat.mul_one]
  rw [whole_eq m (by omega), sg_tdiv]
/-- The whole part of a number. -/
theorem Num.whole {f : Format} (hf : Fit f) (hE : 3 ≤ 2 ^ f.exponentBits) {x : Nat} {V : Int} (hx : Num f x V) (ht : (f.fractionBits : Int) ≤ f.top) {n : Nat} (hb : V.natAbs < 2 ^ n) (hn : (n : Int) ≤ 1301 + f.top + f.fractionBits) : Num f (f.write ((f.read x).integral .zero)) (V.tdiv KK * KK) := by
  obtain ⟨s, m, e, h2, h3, h4, rfl⟩ := hx
  have hlo := hf.lo
  have hX := EX_eq
  rw [h2]
  simp only [Datum.integral, Format.write, cut_zero, Nat.shiftLeft_eq]
  rw [sg_tdiv, ← whole_eq m (by omega : -(EX : Int) ≤ e), ← sg_mul]
  by_cases h : 0 ≤ e
  · have h1 : (-e).toNat = 0 := by omega
    rw [h1, Nat.pow_zero, Nat.div_one]
    have hle := hf.le0
    by_cases hm : m = 0
    · subst hm
      simpa [sg] using num_zero hf hE s 0
    · rw [sg_natAbs] at hb
      have hl := mag_lt hm (by omega) hb
      have := num_nearest hf hE s (a := m) (k := e.toNat) (e := 0) h4 (by omega) (by omega) (.inr (by omega))
      rw [KK_eq]
      simpa using this
  · have h1 : e.toNat = 0 := by omega
    rw [h1, Nat.pow_zero, Nat.mul_one]
    generalize hi : m / 2 ^ (-e).toNat = i
    have hlt : i < 2 ^ (f.fractionBits + 1) := by rw [← hi]; exact Nat.lt_of_le_of_lt (Nat.div_le_self _ _) h4
    have hle := hf.le0
    by_cases hm : i = 0
    · subst hm
      simpa [sg] using num_zero hf hE s 0
    · have := (Nat.log2_lt hm).2 hlt
      have := num_nearest hf hE s (a := i) (k := 0) (e := 0) hlt (by omega) (by omega) (.inr (by omega))
      rw [KK_eq]
      simpa using this

/-- An integer as a number. -/
theorem num_int {f : Format} (hf : Fit f) (hE : 3 ≤ 2 ^ f.exponentBits) (ht : (f.fractionBits : Int) ≤ f.top) (n : Int) (hn : n.natAbs < 2 ^ (f.fractionBits + 1)) : Num f (f.write (.number (n < 0) n.natAbs 0)) (n * KK) := by
  simp only [Format.write]
  have hle := hf.le0
  have e1 : sg (decide (n < 0)) n.natAbs = n := by
    unfold sg
    by_cases h : n < 0
    · simp [h]; omega
    · simp [h]; omega
  by_cases hm : n.natAbs = 0
  · have : n = 0 := by omega
    subst this
    simpa using num_zero hf hE false 0
  · have := (Nat.log2_lt hm).2 hn
    have := num_nearest hf hE (decide (n < 0)) (a := n.natAbs) (k := 0) (e := 0) hn (by omega) (by omega) (.inr (by omega))
    simp only [Nat.pow_zero, Nat.mul_one] at this
    rw [sg_mul, e1] at this
    rw [KK_eq]
    simpa using this

/-- A sixteenth of a number that is no small one. -/
theorem Num.div16 {f : Format} (hf : Fit f) (hE : 3 ≤ 2 ^ f.exponentBits) {c x : Nat} {V W : Int} (hc : f.read c = .number false (2 ^ f.fractionBits) (4 - f.fractionBits)) (hF : f.fractionBits ≤ 100) (hx : Num f x V) (hV : V = 16 * W) (hs : V ≠ 0 → 2 ^ (EX - 10) < V.natAbs) (_ht : (f.fractionBits : Int) ≤ f.top) {n : Nat} (hb : V.natAbs < 2 ^ n) (hn : (n : Int) ≤ 1305 + f.top + f.fractionBits) :
    ∃ r, f.div x c = some r ∧ Num f r W := by
  obtain ⟨s, m, e, h2, h3, h4, hVe⟩ := hx
  have hlo := hf.lo
  have hX := EX_eq
  have hhi := hf.hi
  have hle := hf.le0
  have hF2 := hf.F
  unfold Format.div Datum.quotient
  rw [hc, h2]
  have hp := pow_pos2 f.fractionBits
  have hpn : (2 : Nat) ^ f.fractionBits ≠ 0 := by omega
  simp only [if_neg hpn, Option.map_some, Bool.xor_false, Format.write, Nat.log2_two_pow, Nat.shiftLeft_eq]
  refine ⟨_, rfl, ?_⟩
  by_cases hm : m = 0
  · subst hm
    have hV0 : V = 0 := by rw [hVe]; cases s <;> simp [sg]
    have hW : W = 0 := by omega
    subst hW
    simpa using num_zero hf hE s _
  · have hVa : V.natAbs = m * 2 ^ (e + EX).toNat := by rw [hVe, sg_natAbs]
    have hV0 : V ≠ 0 := by
      intro h
      rw [h] at hVa
      have h1 : m * 2 ^ (e + EX).toNat ≠ 0 := Nat.mul_ne_zero hm (by have := pow_pos2 (e + EX).toNat; omega)
      exact h1 hVa.symm
    have hl := mag_lt hm (show -(EX : Int) ≤ e by omega) (by rw [← hVa]; exact hb)
    have hml := (Nat.log2_lt hm).2 h4
    have hlow : (EX - 10 : Nat) ≤ m.log2 + e + EX := by
      have h1 := hs hV0
      rw [hVa] at h1
      have h2 : m * 2 ^ (e + EX).toNat < 2 ^ (m.log2 + 1 + (e + EX).toNat) := by
        rw [Nat.pow_add]
        exact Nat.mul_lt_mul_of_pos_right Nat.lt_log2_self (pow_pos2 _)
      have h3 := (Nat.pow_lt_pow_iff_right (a := 2) (by omega)).1 (Nat.lt_trans h1 h2)
      omega
    have e1 : m * 2 ^ (f.fractionBits + 2 + f.fractionBits - m.log2) / 2 ^ f.fractionBits = m * 2 ^ (f.fractionBits + 2 - m.log2) := by
      rw [show f.fractionBits + 2 + f.fractionBits - m.log2 = (f.fractionBits + 2 - m.log2) + f.fractionBits by omega, Nat.pow_add, ← Nat.mul_assoc, Nat.mul_div_cancel _ hp]
    have e2 : m * 2 ^ (f.fractionBits + 2 + f.fractionBits - m.log2) % 2 ^ f.fractionBits = 0 := by
      rw [show f.fractionBits + 2 + f.fractionBits - m.log2 = (f.fractionBits + 2 - m.log2) + f.fractionBits by omega, Nat.pow_add, ← Nat.mul_assoc, Nat.mul_mod_left]
    rw [e1, e2]
    have e3 : 2 * (m * 2 ^ (f.fractionBits + 2 - m.log2)) + ((0 : Nat) != 0).toNat = m * 2 ^ (f.fractionBits + 3 - m.log2) := by
      rw [show f.fractionBits + 3 - m.log2 = (f.fractionBits + 2 - m.log2) + 1 by omega, Nat.pow_succ]
      simp
      rw [Nat.mul_left_comm, Nat.mul_comm 2 (2 ^ _)]
    rw [e3]
    have hk := num_nearest hf hE s (a := m) (k := f.fractionBits + 3 - m.log2) (e := e - (4 - (f.fractionBits : Int)) - ((f.fractionBits + 2 + f.fractionBits - m.log2 : Nat) : Int) - 1) h4 (by omega) (by omega) (.inr (by omega))
    have hW : sg s (m * 2 ^ (f.fractionBits + 3 - m.log2) * 2 ^ (e - (4 - (f.fractionBits : Int)) - ((f.fractionBits + 2 + f.fractionBits - m.log2 : Nat) : Int) - 1 + EX).toNat) = W := by
      have h16 : 16 * sg s (m * 2 ^ (f.fractionBits + 3 - m.log2) * 2 ^ (e - (4 - (f.fractionBits : Int)) - ((f.fractionBits + 2 + f.fractionBits - m.log2 : Nat) : Int) - 1 + EX).toNat) = 16 * W := by
        rw [← hV, hVe, Nat.mul_assoc, ← Nat.pow_add, show (e + EX).toNat = (f.fractionBits + 3 - m.log2 + (e - (4 - (f.fractionBits : Int)) - ((f.fractionBits + 2 + f.fractionBits - m.log2 : Nat) : Int) - 1 + EX).toNat) + 4 by omega, Nat.pow_add (n := 4), ← Nat.mul_assoc, sg_mul s (m * _) (2 ^ 4), Int.mul_comm]
        rfl
      omega
    rw [hW] at hk
    exact hk
end Ieee
