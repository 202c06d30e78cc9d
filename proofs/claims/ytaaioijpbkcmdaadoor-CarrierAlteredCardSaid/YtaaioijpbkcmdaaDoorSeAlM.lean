/-
  Seals of bytes, chains and frames that differ in one byte: what CarrierAltered leans on.
-/
import Derived.Test.YtaaioijpbkcmdaaDoorSeTC
import Derived.Test.YtaaioijpbkcmdaaDoorSeJ
open Go Go.Ev
namespace Go.Proofs.YtaaioijpbkcmdaaDoor
noncomputable section
set_option maxRecDepth 100000
set_option maxHeartbeats 4000000

theorem u8_ext {a b : UInt8} (h : a.toNat = b.toNat) : a = b := UInt8.toNat_inj.1 h
theorem sealB_val (i : Nat) (x b : UInt8) : (sealB i x b).toNat = ((2 * i + 3) * x.toNat + b.toNat + i) % 256 := by
  unfold sealB
  rw [UInt8.toNat_ofNat']
theorem sealB_x {i : Nat} (hi : i < 8) {x y b : UInt8} (h : sealB i x b = sealB i y b) : x = y := by
  have h1 := congrArg UInt8.toNat h
  rw [sealB_val, sealB_val] at h1
  have hx := u8_lt x
  have hy := u8_lt y
  apply u8_ext
  have : i = 0 ∨ i = 1 ∨ i = 2 ∨ i = 3 ∨ i = 4 ∨ i = 5 ∨ i = 6 ∨ i = 7 := by omega
  rcases this with rfl | rfl | rfl | rfl | rfl | rfl | rfl | rfl <;> omega
theorem sealB_b {i : Nat} {x b c : UInt8} (h : sealB i x b = sealB i x c) : b = c := by
  have h1 := congrArg UInt8.toNat h
  rw [sealB_val, sealB_val] at h1
  have hb := u8_lt b
  have hc := u8_lt c
  apply u8_ext
  generalize (2 * i + 3) * x.toNat = z at h1
  omega
theorem sealX_inj {i : Nat} (hi : i < 8) : ∀ (bs : List UInt8) {x y : UInt8}, sealX i x bs = sealX i y bs → x = y
  | [], _, _, h => h
  | b :: bs, x, y, h => sealB_x hi (sealX_inj hi bs (x := sealB i x b) (y := sealB i y b) h)
theorem sealX_byte {i : Nat} (hi : i < 8) (x : UInt8) (A B : List UInt8) {b c : UInt8} (h : b ≠ c) : sealX i x (A ++ b :: B) ≠ sealX i x (A ++ c :: B) := by
  intro he
  unfold sealX at he
  rw [List.foldl_append, List.foldl_append, List.foldl_cons, List.foldl_cons] at he
  exact h (sealB_b (sealX_inj hi B he))
theorem sealK_get (ks bs : List UInt8) (m : Nat) : (sealK ks bs)[m]? = (ks[m]?).map fun x => sealX m x bs := by
  unfold sealK
  rw [List.getElem?_mapIdx]
theorem sealK_byte {ks : List UInt8} (hk : ks.length = 8) (A B : List UInt8) {b c : UInt8} (h : b ≠ c) : sealK ks (A ++ b :: B) ≠ sealK ks (A ++ c :: B) := by
  intro he
  have h0 := congrArg (fun l : List UInt8 => l[0]?) he
  simp only [sealK_get] at h0
  obtain ⟨k0, k1, k2, k3, k4, k5, k6, k7, rfl⟩ := len8 hk
  simp only [List.getElem?_cons_zero, Option.map_some, Option.some.injEq] at h0
  exact sealX_byte (by omega) _ A B h h0
theorem sealK_key {ks ks' : List UInt8} (hk : ks.length = 8) (hk' : ks'.length = 8) (bs : List UInt8) (h : ks ≠ ks') : sealK ks bs ≠ sealK ks' bs := by
  intro he
  apply h
  apply List.ext_getElem?
  intro m
  have h0 := congrArg (fun l : List UInt8 => l[m]?) he
  simp only [sealK_get] at h0
  by_cases hm : m < 8
  · rw [List.getElem?_eq_getElem (by omega), List.getElem?_eq_getElem (by omega)] at h0 ⊢
    simp only [Option.map_some, Option.some.injEq] at h0
    rw [sealX_inj hm bs h0]
  · rw [List.getElem?_eq_none (by omega), List.getElem?_eq_none (by omega)]

/-! Chains. -/
theorem chainK_app : ∀ (P : List (List UInt8)) (R : List (List UInt8)) (ks : List UInt8), chainK ks (P ++ R) = chainK ks P ++ chainK (chainE ks P) R
  | [], R, ks => rfl
  | b :: P, R, ks => by
    show sealK ks b :: chainK (sealK ks b) (P ++ R) = sealK ks b :: (chainK (sealK ks b) P ++ chainK (chainE (sealK ks b) P) R)
    rw [chainK_app P R]
theorem cmpR_same : ∀ (l : List (List UInt8)) (i : Nat), cmpR i l l = (0, 0)
  | [], _ => rfl
  | f :: l, i => by
    have : (f == f) = true := beq_self_eq_true f
    unfold cmpR
    rw [if_pos this]
    exact cmpR_same l (i + 1)
theorem cmpR_at : ∀ (P F S : List (List UInt8)) (i : Nat) {f s : List UInt8}, f ≠ s → cmpR i (P ++ f :: F) (P ++ s :: S) = (((i + P.length : Nat) : Int), 27)
  | [], F, S, i, f, s, h => by
    show cmpR i (f :: F) (s :: S) = _
    unfold cmpR
    rw [if_neg (by simpa using h)]
    rfl
  | p :: P, F, S, i, f, s, h => by
    show cmpR i (p :: (P ++ f :: F)) (p :: (P ++ s :: S)) = _
    unfold cmpR
    rw [if_pos (beq_self_eq_true p), cmpR_at P F S (i + 1) h, List.length_cons]
    congr 2
    omega
/-- with a byte of a block changed, the chain differs first at this block -/
theorem chain_changed {ks : List UInt8} (hk : ks.length = 8) (P R _A : List (List UInt8)) (X Y : List UInt8) {b c : UInt8} (h : b ≠ c) (_i : Nat) :
    cmpR 0 (chainK ks (P ++ (X ++ c :: Y) :: R)) (chainK ks (P ++ (X ++ b :: Y) :: R)) = ((P.length : Int), 27) := by
  rw [chainK_app, chainK_app]
  have hne : sealK (chainE ks P) (X ++ c :: Y) ≠ sealK (chainE ks P) (X ++ b :: Y) := sealK_byte (by rw [chainE_length]; exact hk) X Y (Ne.symm h)
  have := cmpR_at (chainK ks P) (chainK (sealK (chainE ks P) (X ++ c :: Y)) R) (chainK (sealK (chainE ks P) (X ++ b :: Y)) R) 0 hne
  rw [chainK_length, Nat.zero_add] at this
  exact this
/-- with a seal changed, it differs there -/
theorem chain_seal (P S : List (List UInt8)) {f s : List UInt8} (h : f ≠ s) : cmpR 0 (P ++ f :: S) (P ++ s :: S) = ((P.length : Int), 27) := by
  have := cmpR_at P S S 0 h
  rwa [Nat.zero_add] at this

/-! Frames. -/
theorem frame_head (ks : List UInt8) (s c d : Int) (ps : List UInt8) : nthB (frameL ks s c d ps) 0 = 105 := rfl
theorem back_frame (ks ks' : List UInt8) {s c d : Int} {ps : List UInt8} (hp : ps.length = 16) (hs : 0 ≤ s ∧ s ≤ 65535) (hc : 0 ≤ c ∧ c ≤ 65535) (hd : 0 ≤ d ∧ d ≤ 255) : backL ks' (frameL ks s c d ps) = frameL ks' s c d ps := by
  unfold backL
  rw [telS_frame, telO_frame, telD_frame, telP_frame _ _ _ _ hp, Int.emod_eq_of_lt hs.1 (by omega), Int.emod_eq_of_lt hc.1 (by omega), Int.emod_eq_of_lt hd.1 (by omega)]
theorem decE_own (ks : List UInt8) {s c d : Int} {ps : List UInt8} (hp : ps.length = 16) (hs : 0 ≤ s ∧ s ≤ 65535) (hc : 0 ≤ c ∧ c ≤ 65535) (hd : 0 ≤ d ∧ d ≤ 255) : decE ks (frameL ks s c d ps) = 0 := by
  unfold decE
  rw [frame_head, back_frame ks ks hp hs hc hd]
  simp
theorem decE_other {ks ks' : List UInt8} (hk : ks.length = 8) (hk' : ks'.length = 8) (h : ks ≠ ks') {s c d : Int} {ps : List UInt8} (hp : ps.length = 16) (hs : 0 ≤ s ∧ s ≤ 65535) (hc : 0 ≤ c ∧ c ≤ 65535) (hd : 0 ≤ d ∧ d ≤ 255) : decE ks' (frameL ks s c d ps) = 27 := by
  unfold decE
  rw [frame_head, back_frame ks ks' hp hs hc hd]
  have hne : frameL ks' s c d ps ≠ frameL ks s c d ps := by
    intro he
    unfold frameL at he
    exact sealK_key hk' hk _ (Ne.symm h) (List.append_cancel_left he)
  have : (frameL ks' s c d ps == frameL ks s c d ps) = false := by simpa using hne
  rw [this]
  rfl
/-- a frame with a byte changed is no frame -/
theorem decE_broken {ks : List UInt8} (hk : ks.length = 8) {s c d : Int} {ps : List UInt8} (hp : ps.length = 16) (A B : List UInt8) {x y : UInt8} (hf : frameL ks s c d ps = A ++ x :: B) (h : x ≠ y) : decE ks (A ++ y :: B) = 1 ∨ decE ks (A ++ y :: B) = 27 := by
  unfold decE
  split
  · right
    rw [if_neg]
    intro he
    have he : backL ks (A ++ y :: B) = A ++ y :: B := by simpa using he
    have hl : (frameL ks s c d ps).length = 32 := frameL_len s c d hk hp
    have hl2 : (A ++ y :: B).length = 32 := by
      rw [hf] at hl
      simp only [List.length_append, List.length_cons] at hl ⊢
      omega
    -- both are a head with its seal
    obtain ⟨H, hH, e1⟩ : ∃ H, H.length = 24 ∧ A ++ x :: B = H ++ sealK ks H := ⟨headL s c d ps, headL_len s c d hp, by rw [← hf]; rfl⟩
    obtain ⟨H', hH', e2⟩ : ∃ H', H'.length = 24 ∧ A ++ y :: B = H' ++ sealK ks H' := ⟨headL (telS (A ++ y :: B)) (telO (A ++ y :: B)) (telD (A ++ y :: B)) (telP (A ++ y :: B)), headL_len _ _ _ (telP_len hl2), by
      conv => lhs; rw [← he]
      rfl⟩
    have hs : ∀ G : List UInt8, G.length = 24 → (G ++ sealK ks G).take 24 = G ∧ (G ++ sealK ks G).drop 24 = sealK ks G := fun G hG =>
      ⟨by rw [List.take_append_of_le_length (by omega), List.take_of_length_le (by omega)], by rw [List.drop_append_of_le_length (by omega), List.drop_of_length_le (by omega), List.nil_append]⟩
    have t1 := congrArg (List.take 24) e1
    have t2 := congrArg (List.take 24) e2
    have d1 := congrArg (List.drop 24) e1
    have d2 := congrArg (List.drop 24) e2
    rw [(hs H hH).1] at t1
    rw [(hs H' hH').1] at t2
    rw [(hs H hH).2] at d1
    rw [(hs H' hH').2] at d2
    by_cases hA : A.length < 24
    · have g : ∀ z : UInt8, (A ++ z :: B).take 24 = A ++ z :: B.take (23 - A.length) := fun z => by
        rw [List.take_append, List.take_of_length_le (by omega), show 24 - A.length = (23 - A.length) + 1 by omega, List.take_succ_cons]
      have g2 : ∀ z : UInt8, (A ++ z :: B).drop 24 = B.drop (23 - A.length) := fun z => by
        rw [List.drop_append, List.drop_of_length_le (by omega), show 24 - A.length = (23 - A.length) + 1 by omega, List.drop_succ_cons, List.nil_append]
      rw [g] at t1 t2
      rw [g2] at d1 d2
      rw [← t1] at d1
      rw [← t2] at d2
      exact sealK_byte hk _ _ h (d1.symm.trans d2)
    · rw [List.take_append_of_le_length (by omega)] at t1 t2
      have eH : H = H' := t1.symm.trans t2
      have := (e1.trans (by rw [eH])).trans e2.symm
      have := List.append_cancel_left this
      exact h (List.cons.inj this).1
  · left; rfl
end
end Go.Proofs.YtaaioijpbkcmdaaDoor
