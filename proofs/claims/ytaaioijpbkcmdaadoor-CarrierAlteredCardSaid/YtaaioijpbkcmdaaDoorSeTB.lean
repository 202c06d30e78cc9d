/-
  Part of the proof: SeTB.
-/
import Derived.Test.YtaaioijpbkcmdaaDoorSeTA
import Derived.Test.YtaaioijpbkcmdaaDoorSyList
open Go Go.Ev
namespace Go.Proofs.YtaaioijpbkcmdaaDoor
noncomputable section
set_option maxRecDepth 100000
set_option maxHeartbeats 20000000
def rngT (a b z : Int) : Int := if z < a ∨ b < z then 3 else 0
def c19a_end (_z _a _b e : Int) (j : Nat → Value) : St := ⟨[], [(.code .ret)], mkT j [(6, (iI (e)))] 16 0⟩
def c19b_end (_z _a _b e : Int) (j : Nat → Value) : St := ⟨[], [(.code .ret)], mkT j [(6, (iI (e)))] 16 0⟩
def c78_end (_s _c _d : Int) (_p0 _p1 _p2 _p3 _p4 _p5 _p6 _p7 _p8 _p9 _p10 _p11 _p12 _p13 _p14 _p15 : UInt8) (_e0 _e1 _e2 e : Int) (j : Nat → Value) : St := ⟨[], [(.code .ret)], mkT j [(2, (iI (e)))] 14 0⟩
def c67g_end (C C' : List AC) (N ty _o _n _cap N' ty' _o' _m _cap' : Nat) (fl _ex fl' _ex' : Bool) (_xs : List UInt8) (_ys : List UInt8) (t : Bool) (j : Nat → Value) : St := ⟨[(.some ⟨(C), (N), (ty), (fl), .cells⟩), (.some ⟨(C'), (N'), (ty'), (fl'), .cells⟩)], [(.code .ret)], mkT j [(4, (iB (t)))] 10 0⟩
def c153a_end (b0 b1 b2 b3 b4 b5 b6 b7 b8 b9 b10 b11 b12 b13 b14 b15 b16 b17 b18 b19 b20 b21 b22 b23 b24 b25 b26 b27 b28 b29 b30 b31 : UInt8) (_s1 s : Int) (j : Nat → Value) : St := ⟨[(.some ⟨[u8c b0, u8c b1, u8c b2, u8c b3, u8c b4, u8c b5, u8c b6, u8c b7, u8c b8, u8c b9, u8c b10, u8c b11, u8c b12, u8c b13, u8c b14, u8c b15, u8c b16, u8c b17, u8c b18, u8c b19, u8c b20, u8c b21, u8c b22, u8c b23, u8c b24, u8c b25, u8c b26, u8c b27, u8c b28, u8c b29, u8c b30, u8c b31], 32, 41, true, .cells⟩)], [(.code .ret)], mkT j [(2, (iI (s)))] 20 0⟩
def c153b_end (b0 b1 b2 b3 b4 b5 b6 b7 b8 b9 b10 b11 b12 b13 b14 b15 b16 b17 b18 b19 b20 b21 b22 b23 b24 b25 b26 b27 b28 b29 b30 b31 : UInt8) (_s1 s : Int) (j : Nat → Value) : St := ⟨[(.some ⟨[u8c b0, u8c b1, u8c b2, u8c b3, u8c b4, u8c b5, u8c b6, u8c b7, u8c b8, u8c b9, u8c b10, u8c b11, u8c b12, u8c b13, u8c b14, u8c b15, u8c b16, u8c b17, u8c b18, u8c b19, u8c b20, u8c b21, u8c b22, u8c b23, u8c b24, u8c b25, u8c b26, u8c b27, u8c b28, u8c b29, u8c b30, u8c b31], 32, 41, true, .cells⟩)], [(.code .ret)], mkT j [(2, (iI (s)))] 20 0⟩
def c152_end (_z : Int) (y0 y1 : UInt8) (j : Nat → Value) : St := ⟨[(.some ⟨[u8c y0, u8c y1], 2, 5, false, .cells⟩)], [(.code .ret)], mkT j [(4, (.e (.one (.slc 0 0 2 1 2 false))))] 30 0⟩
def telR (s c d : Int) : Int := firstI [rngT 0 65535 s, rngT 0 65535 c, rngT 0 255 d]
theorem telR_eq (s c d : Int) : telR s c d = telE s c d := by
  unfold telR telE rngT
  have h1 : (s % 65536 == s) = !decide (s < 0 ∨ 65535 < s) := by
    by_cases h : s < 0 ∨ 65535 < s <;> simp [h] <;> omega
  have h2 : (c % 65536 == c) = !decide (c < 0 ∨ 65535 < c) := by
    by_cases h : c < 0 ∨ 65535 < c <;> simp [h] <;> omega
  have h3 : (d % 256 == d) = !decide (d < 0 ∨ 255 < d) := by
    by_cases h : d < 0 ∨ 255 < d <;> simp [h] <;> omega
  rw [h1, h2, h3]
  by_cases h1 : s < 0 ∨ 65535 < s <;> by_cases h2 : c < 0 ∨ 65535 < c <;> by_cases h3 : d < 0 ∨ 255 < d <;> simp [firstI, h1, h2, h3]
theorem strEq (xs ys : List UInt8) : (iB ({ data := xs.toArray : ByteArray }.toList == { data := ys.toArray : ByteArray }.toList) : AV) = iB (xs == ys) := by
  rw [← beq_toListBytes]
  have : (({ data := xs.toArray : ByteArray } : ByteArray) == { data := ys.toArray : ByteArray }) = (xs == ys) := by
    show (xs.toArray == ys.toArray) = (xs == ys)
    simp
  rw [this]
theorem wN (x : UInt8) {a : Int} (n : Int) (ha : 0 ≤ a) (hb : a ≤ 100000) (h : n = 256 * a + x.toNat) : (iI (wrapF IntKind.i64 (wrapF IntKind.i64 ((256 : Int) * a) + IntKind.i64.wrap (Int.ofNat x.toNat))) : AV) = iI n := by
  have hx := u8_lt x
  refine iIe ?_
  rw [← wrapF_eq, wrap_id (n := Int.ofNat x.toNat) (by simp) (by simp only [Int.ofNat_eq_natCast]; omega), wrap_id (n := 256 * a) (by omega) (by omega), wrap_id (by simp only [Int.ofNat_eq_natCast]; omega) (by simp only [Int.ofNat_eq_natCast]; omega), h]
  rfl
def refBad (ks bs : List UInt8) : Bool := !(sealK ks (bs.take 24) == bs.drop 24) || (nthB bs 22 != inv8 (nthB bs 1)) || (nthB bs 23 != inv8 (nthB bs 2))
theorem n8 (x y : UInt8) : (Int.ofNat x.toNat != Int.ofNat y.toNat) = (x != y) := by
  by_cases h : x = y
  · subst h; simp
  · have : Int.ofNat x.toNat ≠ Int.ofNat y.toNat := fun e => h (by
      rw [← UInt8.toNat_inj]
      exact Int.ofNat.inj e)
    rw [bne_iff_ne.2 this, bne_iff_ne.2 h]
theorem back_eq {ks bs : List UInt8} (hk : ks.length = 8) (hb : bs.length = 32) (h : (nthB bs 0 == 105) = true) : (backL ks bs == bs) = !refBad ks bs := by
  obtain ⟨b0, b1, b2, b3, b4, b5, b6, b7, b8, b9, b10, b11, b12, b13, b14, b15, b16, b17, b18, b19, b20, b21, b22, b23, b24, b25, b26, b27, b28, b29, b30, b31, rfl⟩ := len32 hb
  have h : b0 = 105 := by simpa using (show (b0 == 105) = true from h)
  subst h
  have key : ∀ x y : UInt8, by8 ((256 * (x.toNat : Int) + (y.toNat : Int)) / 256) = x ∧ by8 (256 * (x.toNat : Int) + (y.toNat : Int)) = y := by
    intro x y
    have hx := u8_lt x
    have hy := u8_lt y
    refine ⟨?_, ?_⟩
    · have : (256 * (x.toNat : Int) + (y.toNat : Int)) / 256 = x.toNat := by omega
      rw [this, by8_toNat]
    · have e : ((256 * (x.toNat : Int) + (y.toNat : Int)) % 256).toNat = y.toNat := by omega
      rw [by8, e, UInt8.ofNat_toNat]
  have hh : headL (telS (105 :: [b1, b2, b3, b4, b5, b6, b7, b8, b9, b10, b11, b12, b13, b14, b15, b16, b17, b18, b19, b20, b21, b22, b23, b24, b25, b26, b27, b28, b29, b30, b31])) (telO (105 :: [b1, b2, b3, b4, b5, b6, b7, b8, b9, b10, b11, b12, b13, b14, b15, b16, b17, b18, b19, b20, b21, b22, b23, b24, b25, b26, b27, b28, b29, b30, b31])) (telD (105 :: [b1, b2, b3, b4, b5, b6, b7, b8, b9, b10, b11, b12, b13, b14, b15, b16, b17, b18, b19, b20, b21, b22, b23, b24, b25, b26, b27, b28, b29, b30, b31])) (telP (105 :: [b1, b2, b3, b4, b5, b6, b7, b8, b9, b10, b11, b12, b13, b14, b15, b16, b17, b18, b19, b20, b21, b22, b23, b24, b25, b26, b27, b28, b29, b30, b31])) = 105 :: [b1, b2, b3, b4, b5, b6, b7, b8, b9, b10, b11, b12, b13, b14, b15, b16, b17, b18, b19, b20, b21, inv8 b1, inv8 b2] := by
    show headL (256 * (b1.toNat : Int) + (b2.toNat : Int)) (256 * (b3.toNat : Int) + (b4.toNat : Int)) (b5.toNat : Int) [b6, b7, b8, b9, b10, b11, b12, b13, b14, b15, b16, b17, b18, b19, b20, b21] = _
    unfold headL
    rw [(key b1 b2).1, (key b1 b2).2, (key b3 b4).1, (key b3 b4).2, by8_toNat]
    rfl
  unfold backL frameL refBad
  rw [hh]
  show (105 :: [b1, b2, b3, b4, b5, b6, b7, b8, b9, b10, b11, b12, b13, b14, b15, b16, b17, b18, b19, b20, b21, inv8 b1, inv8 b2] ++ _ == 105 :: [b1, b2, b3, b4, b5, b6, b7, b8, b9, b10, b11, b12, b13, b14, b15, b16, b17, b18, b19, b20, b21, b22, b23, b24, b25, b26, b27, b28, b29, b30, b31]) = !(!(sealK ks (105 :: [b1, b2, b3, b4, b5, b6, b7, b8, b9, b10, b11, b12, b13, b14, b15, b16, b17, b18, b19, b20, b21, b22, b23]) == [b24, b25, b26, b27, b28, b29, b30, b31]) || (b22 != inv8 b1) || (b23 != inv8 b2))
  by_cases e1 : inv8 b1 = b22
  · by_cases e2 : inv8 b2 = b23
    · rw [e1, e2]
      have hl : (sealK ks (105 :: [b1, b2, b3, b4, b5, b6, b7, b8, b9, b10, b11, b12, b13, b14, b15, b16, b17, b18, b19, b20, b21, b22, b23])).length = 8 := by rw [sealK_length]; exact hk
      generalize sealK ks (105 :: [b1, b2, b3, b4, b5, b6, b7, b8, b9, b10, b11, b12, b13, b14, b15, b16, b17, b18, b19, b20, b21, b22, b23]) = gs at hl ⊢
      obtain ⟨g0, g1, g2, g3, g4, g5, g6, g7, rfl⟩ := len8 hl
      simp
    · have : (b23 != inv8 b2) = true := by simpa using fun e : b23 = inv8 b2 => e2 e.symm
      simp [this, e2]
  · have : (b22 != inv8 b1) = true := by simpa using fun e : b22 = inv8 b1 => e1 e.symm
    simp [this, e1]
end
end Go.Proofs.YtaaioijpbkcmdaaDoor
