/-
  Samples: words of single floats, and their integers.
-/
import Derived.Test.YtgplabfjldndgaaGreatDoorFlB
namespace Ieee

theorem word_lt (f : Format) (_hE : 1 ≤ f.exponentBits) (s : Bool) {r : Nat} (hr : r < f.signWeight) : f.word s r < 2 * f.signWeight := by
  unfold Format.word
  split <;> omega
theorem inf_lt (f : Format) : f.infRung + f.binade ≤ f.signWeight := by
  unfold Format.infRung Format.signWeight Format.binade
  rw [Nat.pow_add, Nat.sub_mul, Nat.one_mul]
  have := pow_pos2 f.exponentBits
  have := Nat.mul_le_mul_right (2 ^ f.fractionBits) this
  omega
theorem write_lt (f : Format) (hE : 1 ≤ f.exponentBits) (d : Datum) : f.write d < 2 * f.signWeight := by
  have h1 := inf_lt f
  have h2 : 0 < f.binade := pow_pos2 _
  unfold Format.write
  cases d with
  | number s m e =>
    simp only
    unfold Format.nearest
    split
    · exact word_lt f hE s (by omega)
    · exact word_lt f hE s (by omega)
  | infinity s => exact word_lt f hE s (by omega)
  | nan s t =>
    have := Nat.mod_lt t h2
    exact word_lt f hE s (by omega)
theorem mul_lt {f : Format} (hE : 1 ≤ f.exponentBits) {a b r : Nat} (h : f.mul a b = some r) : r < 2 * f.signWeight := by
  unfold Format.mul at h
  obtain ⟨d, _, rfl⟩ := Option.map_eq_some_iff.1 h
  exact write_lt f hE d

/-- Words of numbers: how great they may be. -/
theorem read_bound {f : Format} (hf : Fit f) (hE : 3 ≤ 2 ^ f.exponentBits) {b : Nat} {V : Int} (h : Num f b V) : V.natAbs ≤ (2 ^ (f.fractionBits + 1) - 1) * 2 ^ (f.top + EX).toNat := by
  obtain ⟨s, m, e, h1, h2, h3, rfl⟩ := h
  have hX := EX_eq
  have hlo := hf.lo
  rw [sg_natAbs]
  have he : e ≤ f.top := by
    have hp : 0 < f.binade := pow_pos2 _
    unfold Format.read at h1
    simp only at h1
    split at h1
    · simp only [Datum.number.injEq] at h1
      unfold Format.top
      omega
    · split at h1
      · rename_i hr
        simp only [Datum.number.injEq] at h1
        have h4 : b % f.signWeight / f.binade < 2 ^ f.exponentBits - 1 := by
          apply Nat.div_lt_of_lt_mul
          unfold Format.infRung at hr
          rw [Nat.mul_comm]
          exact hr
        unfold Format.top
        omega
      · split at h1 <;> simp at h1
  exact Nat.mul_le_mul (by omega) (pow_mono (by omega))

theorem Num.abs {f : Format} {b : Nat} {V : Int} (h : Num f b V) : Num f (b % f.signWeight) V.natAbs := by
  obtain ⟨s, m, e, h1, h2, h3, rfl⟩ := h
  have h0 : 0 < f.signWeight := pow_pos2 _
  refine ⟨false, m, e, ?_, h2, h3, by rw [sg_natAbs]; rfl⟩
  unfold Format.read at h1 ⊢
  have e1 : b % f.signWeight / f.signWeight = 0 := Nat.div_eq_of_lt (Nat.mod_lt _ h0)
  simp only [e1, Nat.mod_mod] at h1 ⊢
  split at h1
  · rename_i hr
    rw [if_pos hr]
    simp only [Datum.number.injEq] at h1 ⊢
    exact ⟨rfl, h1.2⟩
  · rename_i hr
    rw [if_neg hr]
    split at h1
    · rename_i hr2
      rw [if_pos hr2]
      simp only [Datum.number.injEq] at h1 ⊢
      exact ⟨rfl, h1.2⟩
    · split at h1 <;> simp at h1
theorem Num.notNaN {f : Format} {b : Nat} {V : Int} (h : Num f b V) : (f.read b).isNaN = false := by
  obtain ⟨s, m, e, h1, _⟩ := h
  rw [h1]; rfl
theorem Num.same {f : Format} {b : Nat} {V W : Int} (h : Num f b V) (k : Num f b W) : V = W := by
  obtain ⟨s, m, e, h1, _, _, rfl⟩ := h
  obtain ⟨t, n, d, k1, _, _, rfl⟩ := k
  rw [h1] at k1
  simp only [Datum.number.injEq] at k1
  obtain ⟨rfl, rfl, rfl⟩ := k1
  rfl

/-- is it a number? -/
def finW (b : Nat) : Int := match single.read b with
  | .number .. => 0
  | _ => 1
/-- the value of a word -/
def valW (b : Nat) : Int := match single.read b with
  | .number s m e => sg s (m * 2 ^ (e + EX).toNat)
  | _ => 0
/-- is it a multiple of a sixteenth, and not too great? -/
def mulW (L : Nat) (b : Nat) : Int := if finW b = 0 ∧ (16 * valW b) % KK = 0 ∧ (valW b).natAbs ≤ L * KK then 0 else 3
def chkW (L : Nat) (b : Nat) : Int := if finW b = 0 then mulW L b else 1
/-- the integer of a sample -/
def intW (b : Nat) : Int := (16 * valW b).tdiv KK

theorem finW_num {b : Nat} {V : Int} (h : Num single b V) : finW b = 0 ∧ valW b = V := by
  obtain ⟨s, m, e, h1, _, _, rfl⟩ := h
  unfold finW valW
  rw [h1]
  exact ⟨rfl, rfl⟩
theorem num_finW {b : Nat} (h : finW b = 0) : Num single b (valW b) := by
  rcases read_cases (f := single) b with ⟨s, t, h1⟩ | ⟨s, h1⟩ | ⟨V, h1⟩
  · unfold finW at h; rw [h1] at h; simp at h
  · unfold finW at h; rw [h1] at h; simp at h
  · rw [(finW_num h1).2]; exact h1
theorem finW_or (b : Nat) : finW b = 0 ∨ finW b = 1 := by
  unfold finW
  split <;> simp
theorem mulW_or (L b : Nat) : mulW L b = 0 ∨ mulW L b = 3 := by
  unfold mulW
  split <;> simp
theorem chk_zero {L b : Nat} (h : chkW L b = 0) : Num single b (valW b) ∧ 16 * valW b = intW b * KK ∧ (intW b).natAbs ≤ 16 * L := by
  unfold chkW at h
  split at h
  · rename_i hf
    unfold mulW at h
    split at h
    · rename_i hm
      obtain ⟨_, h1, h2⟩ := hm
      have hk := KK_pos
      have he : 16 * valW b = intW b * KK := by
        unfold intW
        rw [Int.mul_comm _ (KK : Int)]
        exact (Int.mul_tdiv_cancel' (Int.dvd_of_emod_eq_zero h1)).symm
      refine ⟨num_finW hf, he, ?_⟩
      have h3 : 16 * (valW b).natAbs = (intW b).natAbs * KK := by
        have := congrArg Int.natAbs he
        rw [Int.natAbs_mul, Int.natAbs_mul] at this
        simpa using this
      have h4 : (intW b).natAbs * KK ≤ (16 * L) * KK := by
        rw [← h3, Nat.mul_assoc]
        exact Nat.mul_le_mul_left 16 h2
      exact Nat.le_of_mul_le_mul_right h4 hk
    · simp at h
  · simp at h

theorem KK_pow (n : Nat) {e : Nat} (he : n < 2 ^ e) : n * KK < 2 ^ (e + EX) := by
  rw [KK_eq, Nat.pow_add]
  exact Nat.mul_lt_mul_of_pos_right he (pow_pos2 _)
/-- the integer of a sample, computed -/
theorem mul_int {L b : Nat} (hL : L ≤ 2 ^ 20) (h : chkW L b = 0) : ∃ r, single.mul 1098907648 b = some r ∧ (single.read r).toInt .zero = some (intW b) ∧ Num single r (intW b * KK) := by
  obtain ⟨h1, h2, h3⟩ := chk_zero h
  have hX := EX_eq
  have hb : (valW b).natAbs < 2 ^ (25 + EX) := by
    have e : 16 * (valW b).natAbs = (intW b).natAbs * KK := by
      have := congrArg Int.natAbs h2
      rw [Int.natAbs_mul, Int.natAbs_mul] at this
      simpa using this
    have := KK_pow (intW b).natAbs (e := 25) (by omega)
    omega
  obtain ⟨r, hr, hn⟩ := h1.mul16 fit_single (by decide) (c := 1098907648) (by decide) (by decide) hb (by rw [top_single, hX]; decide)
  rw [h2] at hn
  refine ⟨r, hr, ?_, hn⟩
  rw [hn.toInt fit_single]
  have hk := KK_pos
  rw [Int.mul_tdiv_cancel _ (by omega)]

/-- the sample with an integer -/
def smpW (n : Int) : Nat := (single.div (single.write (.number (n < 0) n.natAbs 0)) 1098907648).getD 0
theorem smp_num {n : Int} (hn : n.natAbs < 2 ^ 24) : ∃ W : Int, 16 * W = n * KK ∧ single.div (single.write (.number (n < 0) n.natAbs 0)) 1098907648 = some (smpW n) ∧ Num single (smpW n) W := by
  have hX := EX_eq
  have hk := KK_pos
  have h1 := num_int fit_single (by decide) (by decide) n hn
  have hK16 : ∃ q, KK = 16 * q ∧ 2 ^ (EX - 10) < 16 * q := by
    refine ⟨2 ^ (EX - 4), ?_, ?_⟩
    · rw [KK_eq, show (16 : Nat) = 2 ^ 4 from rfl, ← Nat.pow_add]
      congr 1
      omega
    · rw [show (16 : Nat) = 2 ^ 4 from rfl, ← Nat.pow_add]
      exact Nat.pow_lt_pow_right (by omega) (by omega)
  obtain ⟨q, hq, hq2⟩ := hK16
  have hb : (n * (KK : Int)).natAbs < 2 ^ (24 + EX) := by
    rw [Int.natAbs_mul]
    exact KK_pow n.natAbs hn
  have e16 : n * (KK : Int) = 16 * (n * (q : Int)) := by
    rw [hq]
    push_cast
    rw [Int.mul_left_comm]
  obtain ⟨r, hr, hW⟩ := h1.div16 fit_single (by decide) (c := 1098907648) (W := n * (q : Int)) (by decide) (by decide) e16 (fun h0 => by
    rw [Int.natAbs_mul]
    have hn0 : n ≠ 0 := fun e => by rw [e] at h0; simp at h0
    have : 1 ≤ n.natAbs := by omega
    have := Nat.mul_le_mul_right KK this
    show 2 ^ (EX - 10) < n.natAbs * KK
    omega) (by decide) hb (by rw [top_single, hX]; decide)
  have e : smpW n = r := by unfold smpW; rw [hr]; rfl
  rw [e]
  exact ⟨_, e16.symm, hr, hW⟩
theorem smp_order {a b : Int} (ha : a.natAbs < 2 ^ 24) (hb : b.natAbs < 2 ^ 24) : single.order (smpW a) (smpW b) = some (compare a b) := by
  obtain ⟨V, h1, _, h2⟩ := smp_num ha
  obtain ⟨W, k1, _, k2⟩ := smp_num hb
  have hk := KK_pos
  rw [h2.order fit_single k2]
  congr 1
  rw [← compare_mul V W (c := 16) (by omega), Int.mul_comm V, Int.mul_comm W, h1, k1, compare_mul _ _ (by omega)]
theorem smp_chk {n : Int} {L : Nat} (hn : n.natAbs ≤ 16 * L) (hL : L ≤ 2 ^ 19) : chkW L (smpW n) = 0 ∧ intW (smpW n) = n := by
  obtain ⟨V, h1, _, h2⟩ := smp_num (n := n) (by omega)
  obtain ⟨e1, e2⟩ := finW_num h2
  have hk := KK_pos
  have hi : intW (smpW n) = n := by
    unfold intW
    rw [e2, h1, Int.mul_tdiv_cancel _ (by omega)]
  refine ⟨?_, hi⟩
  unfold chkW mulW
  rw [if_pos e1, if_pos]
  refine ⟨e1, ?_, ?_⟩
  · rw [e2, h1]; exact Int.mul_emod_left _ _
  · rw [e2]
    have e : 16 * V.natAbs = n.natAbs * KK := by
      have := congrArg Int.natAbs h1
      rw [Int.natAbs_mul, Int.natAbs_mul] at this
      simpa using this
    have := Nat.mul_le_mul_right KK hn
    rw [Nat.mul_assoc] at this
    omega
end Ieee
