/-
  Part of the proof: SeTF.
-/
import Derived.Test.YthjgejgnaicdpaaGreatDoorSeTD
open Go Go.Ev
namespace Go.Proofs.YthjgejgnaicdpaaGreatDoor
noncomputable section
set_option maxRecDepth 100000
set_option maxHeartbeats 20000000


abbrev spR (p : Nat × Nat) : List AC := [icA (Int.ofNat p.1), icA (Int.ofNat p.2)]
def spF (S : List (Nat × Nat)) : List (List AC) := S.map spR
/-- one more byte is skipped -/
def addS (S : List (Nat × Nat)) (a : Nat) : List (Nat × Nat) :=
  match S.getLast? with
  | some p => if p.2 = a then S.dropLast ++ [(p.1, a + 1)] else S ++ [(a, a + 1)]
  | none => [(a, a + 1)]
theorem addS_app (I : List (Nat × Nat)) (f t a : Nat) : addS (I ++ [(f, t)]) a = if t = a then I ++ [(f, a + 1)] else I ++ [(f, t)] ++ [(a, a + 1)] := by simp [addS]
theorem addS_len (S : List (Nat × Nat)) (a : Nat) : (addS S a).length ≤ S.length + 1 := by
  rcases List.eq_nil_or_concat S with h | ⟨I, ⟨f, t⟩, h⟩
  · subst h; simp [addS]
  · rw [List.concat_eq_append] at h; subst h; rw [addS_app]; split <;> simp
theorem spF_len : ∀ (S : List (Nat × Nat)), (spF S).flatten.length = S.length * 2
  | [] => rfl
  | p :: S => by
    have := spF_len S
    simp only [spF, List.map_cons, List.flatten_cons, List.length_append, List.length_cons, List.length_nil] at this ⊢
    rw [this]; omega
theorem spF_app (I : List (Nat × Nat)) (f t : Nat) : (spF (I ++ [(f, t)])).flatten = (spF I).flatten ++ [icA (Int.ofNat f), icA (Int.ofNat t)] := by simp [spF]
theorem spF_flat (S : List (Nat × Nat)) : ∀ r ∈ spF S, FlatC r := by
  intro r hr
  simp only [spF, List.mem_map] at hr
  obtain ⟨p, _, rfl⟩ := hr
  intro c hc
  simp only [spR, List.mem_cons, List.not_mem_nil, or_false] at hc
  rcases hc with rfl | rfl <;> exact ⟨_, rfl⟩
theorem flat_flatten {R : List (List AC)} (h : ∀ r ∈ R, FlatC r) : FlatC R.flatten := fun c hc => by
  obtain ⟨l, hl, hcl⟩ := List.mem_flatten.1 hc
  exact h l hl c hcl
theorem lstB_ne {sz ty : Nat} {R : List (List AC)} (h : R ≠ []) : lstB sz ty R = some ⟨R.flatten, R.length * sz, ty, false, .cells⟩ := by
  cases R with
  | nil => exact absurd rfl h
  | cons r R => rfl
theorem lstX_ne {b sz : Nat} {R : List (List AC)} (h : R ≠ []) : lstX b sz R = .slc b 0 R.length sz R.length false := by
  cases R with
  | nil => exact absurd rfl h
  | cons r R => rfl
theorem sp_lstB (I : List (Nat × Nat)) (f t : Nat) : lstB 2 220 (spF (I ++ [(f, t)])) = some ⟨(spF I).flatten ++ [icA (Int.ofNat f), icA (Int.ofNat t)], (I.length + 1) * 2, 220, false, .cells⟩ := by
  rw [lstB_ne (by simp [spF]), spF_app]; simp [spF]
theorem sp_lstX (I : List (Nat × Nat)) (f t : Nat) : lstX 3 2 (spF (I ++ [(f, t)])) = .slc 3 0 (I.length + 1) 2 (I.length + 1) false := by
  rw [lstX_ne (by simp [spF])]; simp [spF]
theorem sp_get (S : List (Nat × Nat)) (x y : AC) : getL ((spF S).flatten ++ [x, y]) (S.length * 2 + 1) = some y := by
  rw [getL_eq, List.getElem?_append_right (by rw [spF_len]; omega), spF_len, show S.length * 2 + 1 - S.length * 2 = 1 by omega]; rfl
theorem sp_over (S : List (Nat × Nat)) (x y z : AC) : overL [z] ((spF S).flatten ++ [x, y]) (S.length * 2 + 1) = (spF S).flatten ++ [x, z] := by
  have hl := spF_len S
  rw [overL_eq _ _ _ (by simp [hl])]
  generalize (spF S).flatten = A at hl ⊢
  rw [← hl]
  simp [List.take_append, List.drop_append, List.take_of_length_le, List.drop_of_length_le, show A.length + 1 + 1 - A.length = 2 by omega]
theorem nI1 (n : Nat) (h : n ≤ 4000000) : (iI (wrapF IntKind.i64 (Int.ofNat (n + 1) - (1 : Int))) : AV) = iI (Int.ofNat n) := iIe (by rw [wrap_id (by simp only [Int.ofNat_eq_natCast]; omega) (by simp only [Int.ofNat_eq_natCast]; omega)]; simp only [Int.ofNat_eq_natCast]; omega)
theorem aI1 (n : Nat) (h : n ≤ 4000000) : (iI (wrapF IntKind.i64 (Int.ofNat n + (1 : Int))) : AV) = iI (Int.ofNat (n + 1)) := iIe (by rw [wrap_id (by simp only [Int.ofNat_eq_natCast]; omega) (by simp only [Int.ofNat_eq_natCast]; omega)]; rfl)
theorem k151n (hE : EnvOk E) (b0 b1 b2 b4 : Option AB) {a : Nat} (ha : a ≤ 20000) : COut E 1 [b0, b1, b2, none, b4] 151 [.e (.one (.v (.slice none 0 0))), iI (Int.ofNat a)] (.e (.one (.slc 6 0 1 2 1 false))) [b0, b1, b2, none, b4, some ⟨spR (a, a + 1), 2, 220, true, .cells⟩, some ⟨spR (a, a + 1), 2, 220, false, .cells⟩] :=
  cOut_start Tryz.func151 rfl (c151n hE b0 b1 b2 b4 a (aI1 a (by omega)) (fun j => outK_ret (ends_ret (by kernel_rfl))) fun _ => undef)
theorem tg (n : Nat) : decide (Int.ofNat (n + 1) > (0 : Int)) = true := decide_eq_true (by simp only [Int.ofNat_eq_natCast]; omega)
theorem tgb (n : Nat) : (decide (Int.ofNat (n + 1) > (0 : Int)) == true) = true := by rw [tg]; rfl
theorem k151e (hE : EnvOk E) (b0 b1 b2 b4 : Option AB) {a : Nat} (ha : a ≤ 20000) (I : List (Nat × Nat)) (f : Nat) (hI : I.length ≤ 20000) : COut E 1 [b0, b1, b2, some ⟨(spF I).flatten ++ [icA (Int.ofNat f), icA (Int.ofNat a)], (I.length + 1) * 2, 220, false, .cells⟩, b4] 151 [.e (.one (.slc 3 0 (I.length + 1) 2 (I.length + 1) false)), iI (Int.ofNat a)] (.e (.one (.slc 3 0 (I.length + 1) 2 (I.length + 1) false))) [b0, b1, b2, some ⟨(spF I).flatten ++ [icA (Int.ofNat f), icA (Int.ofNat (a + 1))], (I.length + 1) * 2, 220, false, .cells⟩, b4] :=
  cOut_start Tryz.func151 rfl (c151e hE b0 b1 b2 b4 a ((spF I).flatten ++ [icA (Int.ofNat f), icA (Int.ofNat a)]) ((I.length + 1) * 2) (I.length + 1) I.length (Int.ofNat a) true ((spF I).flatten ++ [icA (Int.ofNat f), icA (Int.ofNat (a + 1))]) 0
    (tgb _) (tgb _) (tgb _) (nI1 _ (by omega)) (tgb _) (by simp only [Int.ofNat_eq_natCast]; omega) (by simp) (tgb _) (tgb _) (sp_get _ _ _) (tgb _) (tgb _) (by simp) (tg _) rfl (nI1 _ (by omega)) (by simp only [Int.ofNat_eq_natCast]; omega) (by simp) (sp_get _ _ _) (aI1 _ (by omega)) (by simp only [Int.ofNat_eq_natCast]; omega) (by simp) (by omega) (sp_over _ _ _ _)
    (fun j => outK_ret (ends_ret (by kernel_rfl))) fun _ => undef)
theorem k151a (hE : EnvOk E) (b0 b1 b2 b4 : Option AB) {a : Nat} (ha : a ≤ 20000) (I : List (Nat × Nat)) (f t : Nat) (ht : t ≠ a) (hI : I.length ≤ 20000) : COut E 1 [b0, b1, b2, some ⟨(spF I).flatten ++ [icA (Int.ofNat f), icA (Int.ofNat t)], (I.length + 1) * 2, 220, false, .cells⟩, b4] 151 [.e (.one (.slc 3 0 (I.length + 1) 2 (I.length + 1) false)), iI (Int.ofNat a)] (.e (.one (.slc 6 0 (I.length + 1 + 1) 2 (I.length + 1 + 1) false))) [b0, b1, b2, none, b4, some ⟨spR (a, a + 1), 2, 220, true, .cells⟩, some ⟨((spF I).flatten ++ [icA (Int.ofNat f), icA (Int.ofNat t)]) ++ [icA (Int.ofNat a), icA (Int.ofNat (a + 1))], (I.length + 1 + 1) * 2, 220, false, .cells⟩] :=
  cOut_start Tryz.func151 rfl (c151a hE b0 b1 b2 b4 a ((spF I).flatten ++ [icA (Int.ofNat f), icA (Int.ofNat t)]) ((I.length + 1) * 2) (I.length + 1) I.length (Int.ofNat t) false (((spF I).flatten ++ [icA (Int.ofNat f), icA (Int.ofNat t)]) ++ [icA (Int.ofNat a), icA (Int.ofNat (a + 1))]) ((I.length + 1 + 1) * 2)
    (tgb _) (tgb _) (tgb _) (nI1 _ (by omega)) (tgb _) (by simp only [Int.ofNat_eq_natCast]; omega) (by simp) (tgb _) (tgb _) (sp_get _ _ _) (tgb _) (tgb _) (by rw [show (Int.ofNat t == Int.ofNat a) = false by simp; omega]) (tg _) rfl (aI1 _ (by omega)) (by omega) (by unfold small; simp; omega) rfl (appL_eq _ _) rfl
    (fun j => outK_ret (ends_ret (by kernel_rfl))) fun _ => undef)
theorem skip77 (hE : EnvOk E) {C : List AC} {N ty o n cap : Nat} {fl ex : Bool} (hf : FlatC C) {a : Nat} (hn : a < n) (hcap : n ≤ cap) (hm : n ≤ 16384)
    (T : List (List AC)) (S : List (Nat × Nat)) (hT : ∀ r ∈ T, FlatC r) (hl : S.length ≤ a) {Φ : Res → Prop} (k0 k1 k2 k3 k4 k5 k6 k7 : UInt8)
    (h150 : COut E 1 [some ⟨C, N, ty, fl, .cells⟩] 150 [.e (.agg (([k0, k1, k2, k3, k4, k5, k6, k7] : List UInt8).map u8c)), .e (.one (.slc 0 (o + a * 1) (n - a) 1 (cap - a) ex))] (.tup [.agg zTel, .one (.v (.bool false))]) [some ⟨C, N, ty, fl, .cells⟩])
    (ho : ∀ j, OutK E 1 1 (H77 k0 k1 k2 k3 k4 k5 k6 k7 C N ty o n cap fl ex (lstB 19 128 T) (lstB 2 220 (spF (addS S a))) (lstX 2 19 T) (lstX 3 2 (spF (addS S a))) (a + 1) j) Φ) : ∀ j, OutK E 1 1 (H77 k0 k1 k2 k3 k4 k5 k6 k7 C N ty o n cap fl ex (lstB 19 128 T) (lstB 2 220 (spF S)) (lstX 2 19 T) (lstX 3 2 (spF S)) a j) Φ := by
  intro j
  have hlt : decide (Int.ofNat a < (n : Int)) = true := decide_eq_true (by simp only [Int.ofNat_eq_natCast]; omega)
  rcases List.eq_nil_or_concat S with h | ⟨I, ⟨f, t⟩, h⟩
  · subst h
    have ho' : ∀ j, OutK E 1 1 (H77 k0 k1 k2 k3 k4 k5 k6 k7 C N ty o n cap fl ex (lstB 19 128 T) (some ⟨spR (a, a + 1), 2, 220, false, .cells⟩) (lstX 2 19 T) (.slc 3 0 1 2 1 false) (a + 1) j) Φ := ho
    exact c77sn hE k0 k1 k2 k3 k4 k5 k6 k7 C N ty o n cap fl ex (lstB 19 128 T) none (some ⟨spR (a, a + 1), 2, 220, false, .cells⟩) (some ⟨spR (a, a + 1), 2, 220, true, .cells⟩) (lstX 2 19 T) (.v (.slice none 0 0)) a (o + a * 1) (n - a) (cap - a) 1 hlt (by omega) rfl rfl rfl h150 ⟨hf, trivial⟩ trivial (k151n hE _ _ _ _ (by omega)) (aI1 a (by omega)) (fun j =>
      outK_gcOP [0, 1, 2, 6] [true, true, true, true] [(7, .e (.one (lstX 2 19 T)))] (h' := [some ⟨C, N, ty, fl, .cells⟩, some ⟨([k0, k1, k2, k3, k4, k5, k6, k7] : List UInt8).map u8c, 8, 105, true, .cells⟩, lstB 19 128 T, some ⟨spR (a, a + 1), 2, 220, false, .cells⟩])
        (tm' := mkT j [(1, .e (.one (.slc 0 o n 1 cap ex))), (2, .e (.one (.ptr 1 0))), (7, .e (.one (lstX 2 19 T))), (8, .e (.one (.slc 3 0 1 2 1 false))), (9, iI (Int.ofNat (a + 1)))] 41 0)
        (Nat.le_refl _) (by kernel_rfl) ⟨rfl, rfl, lstB_plain .., rfl, trivial⟩ (by kernel_rfl) (fun _ => ⟨flatO_fix (o := some ⟨C, N, ty, fl, .cells⟩) hf _, flatO_fix (o := some ⟨([k0, k1, k2, k3, k4, k5, k6, k7] : List UInt8).map u8c, 8, 105, true, .cells⟩) (flat_u8c _) _, flatO_fix (lstB_flat hT) _, flatO_fix (o := some ⟨spR (a, a + 1), 2, 220, false, .cells⟩) (spF_flat [(a, a + 1)] _ (List.mem_cons_self ..)) _, trivial⟩)
        (by kernel_rfl) (by kernel_rfl) (fun _ => ⟨lstX_ren 2 19 T _ rfl, trivial⟩) (ho' j)) j
  · rw [List.concat_eq_append] at h; subst h
    rw [List.length_append] at hl
    have hl : I.length + 1 ≤ a := hl
    rw [sp_lstB, sp_lstX]
    rw [addS_app] at ho
    by_cases hta : t = a
    · subst hta
      rw [if_pos rfl] at ho
      rw [sp_lstB, sp_lstX] at ho
      have ho' := ho
      have hfl : FlatC ((spF I).flatten ++ [icA (Int.ofNat f), icA (Int.ofNat (t + 1))]) := by rw [← spF_app]; exact flat_flatten (spF_flat _)
      exact c77se hE k0 k1 k2 k3 k4 k5 k6 k7 C N ty o n cap fl ex (lstB 19 128 T) (some ⟨(spF I).flatten ++ [icA (Int.ofNat f), icA (Int.ofNat t)], (I.length + 1) * 2, 220, false, .cells⟩) (some ⟨(spF I).flatten ++ [icA (Int.ofNat f), icA (Int.ofNat (t + 1))], (I.length + 1) * 2, 220, false, .cells⟩) none (lstX 2 19 T) (.slc 3 0 (I.length + 1) 2 (I.length + 1) false) t (o + t * 1) (n - t) (cap - t) (I.length + 1) hlt (by omega) rfl rfl rfl h150 ⟨hf, trivial⟩ trivial (k151e hE _ _ _ _ (by omega) I f (by omega)) (aI1 t (by omega)) (fun j =>
      outK_gcOP [0, 1, 2, 3] [true, true, true, true] [(7, .e (.one (lstX 2 19 T)))] (h' := [some ⟨C, N, ty, fl, .cells⟩, some ⟨([k0, k1, k2, k3, k4, k5, k6, k7] : List UInt8).map u8c, 8, 105, true, .cells⟩, lstB 19 128 T, some ⟨(spF I).flatten ++ [icA (Int.ofNat f), icA (Int.ofNat (t + 1))], (I.length + 1) * 2, 220, false, .cells⟩])
        (tm' := mkT j [(1, .e (.one (.slc 0 o n 1 cap ex))), (2, .e (.one (.ptr 1 0))), (7, .e (.one (lstX 2 19 T))), (8, .e (.one (.slc 3 0 (I.length + 1) 2 (I.length + 1) false))), (9, iI (Int.ofNat (t + 1)))] 41 0)
        (Nat.le_refl _) (by kernel_rfl) ⟨rfl, rfl, lstB_plain .., rfl, trivial⟩ (by kernel_rfl) (fun _ => ⟨flatO_fix (o := some ⟨C, N, ty, fl, .cells⟩) hf _, flatO_fix (o := some ⟨([k0, k1, k2, k3, k4, k5, k6, k7] : List UInt8).map u8c, 8, 105, true, .cells⟩) (flat_u8c _) _, flatO_fix (lstB_flat hT) _, flatO_fix (o := some ⟨(spF I).flatten ++ [icA (Int.ofNat f), icA (Int.ofNat (t + 1))], (I.length + 1) * 2, 220, false, .cells⟩) hfl _, trivial⟩)
        (by kernel_rfl) (by kernel_rfl) (fun _ => ⟨lstX_ren 2 19 T _ rfl, trivial⟩) (ho' j)) j
    · rw [if_neg hta] at ho
      rw [show I ++ [(f, t)] ++ [(a, a + 1)] = (I ++ [(f, t)]) ++ [(a, a + 1)] from rfl, sp_lstB, sp_lstX, spF_app] at ho
      have hle : (I ++ [(f, t)]).length = I.length + 1 := by simp
      rw [hle] at ho
      have ho' := ho
      have hfl : FlatC (((spF I).flatten ++ [icA (Int.ofNat f), icA (Int.ofNat t)]) ++ [icA (Int.ofNat a), icA (Int.ofNat (a + 1))]) := by rw [← spF_app, ← spF_app]; exact flat_flatten (spF_flat _)
      exact c77sn hE k0 k1 k2 k3 k4 k5 k6 k7 C N ty o n cap fl ex (lstB 19 128 T) (some ⟨(spF I).flatten ++ [icA (Int.ofNat f), icA (Int.ofNat t)], (I.length + 1) * 2, 220, false, .cells⟩) (some ⟨((spF I).flatten ++ [icA (Int.ofNat f), icA (Int.ofNat t)]) ++ [icA (Int.ofNat a), icA (Int.ofNat (a + 1))], (I.length + 1 + 1) * 2, 220, false, .cells⟩) (some ⟨spR (a, a + 1), 2, 220, true, .cells⟩) (lstX 2 19 T) (.slc 3 0 (I.length + 1) 2 (I.length + 1) false) a (o + a * 1) (n - a) (cap - a) (I.length + 1 + 1) hlt (by omega) rfl rfl rfl h150 ⟨hf, trivial⟩ trivial (k151a hE _ _ _ _ (by omega) I f t hta (by omega)) (aI1 a (by omega)) (fun j =>
      outK_gcOP [0, 1, 2, 6] [true, true, true, true] [(7, .e (.one (lstX 2 19 T)))] (h' := [some ⟨C, N, ty, fl, .cells⟩, some ⟨([k0, k1, k2, k3, k4, k5, k6, k7] : List UInt8).map u8c, 8, 105, true, .cells⟩, lstB 19 128 T, some ⟨((spF I).flatten ++ [icA (Int.ofNat f), icA (Int.ofNat t)]) ++ [icA (Int.ofNat a), icA (Int.ofNat (a + 1))], (I.length + 1 + 1) * 2, 220, false, .cells⟩])
        (tm' := mkT j [(1, .e (.one (.slc 0 o n 1 cap ex))), (2, .e (.one (.ptr 1 0))), (7, .e (.one (lstX 2 19 T))), (8, .e (.one (.slc 3 0 (I.length + 1 + 1) 2 (I.length + 1 + 1) false))), (9, iI (Int.ofNat (a + 1)))] 41 0)
        (Nat.le_refl _) (by kernel_rfl) ⟨rfl, rfl, lstB_plain .., rfl, trivial⟩ (by kernel_rfl) (fun _ => ⟨flatO_fix (o := some ⟨C, N, ty, fl, .cells⟩) hf _, flatO_fix (o := some ⟨([k0, k1, k2, k3, k4, k5, k6, k7] : List UInt8).map u8c, 8, 105, true, .cells⟩) (flat_u8c _) _, flatO_fix (lstB_flat hT) _, flatO_fix (o := some ⟨((spF I).flatten ++ [icA (Int.ofNat f), icA (Int.ofNat t)]) ++ [icA (Int.ofNat a), icA (Int.ofNat (a + 1))], (I.length + 1 + 1) * 2, 220, false, .cells⟩) hfl _, trivial⟩)
        (by kernel_rfl) (by kernel_rfl) (fun _ => ⟨lstX_ren 2 19 T _ rfl, trivial⟩) (ho' j)) j
/-- the telegrams of a stream, and the spans of what is skipped -/
def recvL (ks X : List UInt8) : Nat → Nat → List (List AC) → List (Nat × Nat) → List (List AC) × List (Nat × Nat)
  | 0, _, T, S => (T, S)
  | q + 1, a, T, S =>
    if a < X.length then
      (if a + 32 ≤ X.length ∧ decOk ks ((X.drop a).take 32) = true then recvL ks X q (a + 32) (T ++ [decT ks ((X.drop a).take 32)]) S else recvL ks X q (a + 1) T (addS S a))
    else (T, S)
theorem recvL_tel (ks X : List UInt8) : ∀ q a T S, (∀ r ∈ T, isTel r) → ∀ r ∈ (recvL ks X q a T S).1, isTel r
  | 0, a, T, S, h => h
  | q + 1, a, T, S, h => by
    unfold recvL
    split
    · split
      · rename_i h2
        refine recvL_tel ks X q _ _ _ fun r hr => ?_
        rcases List.mem_append.1 hr with hr | hr
        · exact h r hr
        · rw [List.mem_singleton.1 hr]; exact decT_tel (by rw [List.length_take, List.length_drop]; omega)
      · exact recvL_tel ks X q _ _ _ h
    · exact h
theorem isTel_flat {r : List AC} (h : isTel r) : FlatC r := by
  obtain ⟨s, c, d, ps, _, rfl⟩ := h
  exact flat_tel s c d ps
theorem l77 (hE : EnvOk E) {C : List AC} {N ty o n cap : Nat} {fl ex : Bool} (hf : FlatC C) {ks X : List UInt8} (hk : ks.length = 8) (hX : X.length = n) (hcap : n ≤ cap) (hm : n ≤ 16384) (hC : ∀ a l, a + l ≤ n → takeL (dropL C (o + a)) l = some (((X.drop a).take l).map u8c)) {Φ : Res → Prop}
    (k0 k1 k2 k3 k4 k5 k6 k7 : UInt8) (hks : ks = [k0, k1, k2, k3, k4, k5, k6, k7]) : ∀ q a T S, n - a < q → T.length ≤ a → S.length ≤ a → (∀ r ∈ T, isTel r) →
    (∀ b, n ≤ b → ∀ j, OutK E 1 1 (H77 k0 k1 k2 k3 k4 k5 k6 k7 C N ty o n cap fl ex (lstB 19 128 (recvL ks X q a T S).1) (lstB 2 220 (spF (recvL ks X q a T S).2)) (lstX 2 19 (recvL ks X q a T S).1) (lstX 3 2 (spF (recvL ks X q a T S).2)) b j) Φ) → ∀ j, OutK E 1 1 (H77 k0 k1 k2 k3 k4 k5 k6 k7 C N ty o n cap fl ex (lstB 19 128 T) (lstB 2 220 (spF S)) (lstX 2 19 T) (lstX 3 2 (spF S)) a j) Φ
  | 0, a, T, S, hq, _, _, _, _ => by omega
  | q + 1, a, T, S, hq, hTl, hSl, hT, hx => by
    have hF : ∀ r ∈ T, FlatC r := fun r hr => isTel_flat (hT r hr)
    unfold recvL at hx
    by_cases hlt : a < n
    · rw [if_pos (by omega)] at hx
      have hl32 : a + 32 ≤ n → ((X.drop a).take 32).length = 32 := fun h => by rw [List.length_take, List.length_drop]; omega
      by_cases hd : a + 32 ≤ X.length ∧ decOk ks ((X.drop a).take 32) = true
      · rw [if_pos hd] at hx
        have h1 : a + 32 ≤ n := by omega
        refine take77 hE hf hk (hl32 h1) h1 hcap hm (hC a 32 h1) hd.2 T (spF S) hF (spF_flat S) hTl k0 k1 k2 k3 k4 k5 k6 k7 hks ?_
        refine l77 hE hf hk hX hcap hm hC k0 k1 k2 k3 k4 k5 k6 k7 hks q (a + 32) (T ++ [decT ks ((X.drop a).take 32)]) S (by omega) (by rw [List.length_append]; simp; omega) (by omega) (fun r hr => ?_) hx
        rcases List.mem_append.1 hr with hr | hr
        · exact hT r hr
        · rw [List.mem_singleton.1 hr]; exact decT_tel (hl32 h1)
      · rw [if_neg hd] at hx
        refine skip77 hE hf hlt hcap hm T S hF hSl k0 k1 k2 k3 k4 k5 k6 k7 ?_ (l77 hE hf hk hX hcap hm hC k0 k1 k2 k3 k4 k5 k6 k7 hks q (a + 1) T (addS S a) (by omega) (by omega) (by have := addS_len S a; omega) hT hx)
        rw [← hks]
        by_cases h1 : a + 32 ≤ n
        · have hd0 : decOk ks ((X.drop a).take 32) = false := by
            cases h : decOk ks ((X.drop a).take 32) with
            | false => rfl
            | true => exact absurd ⟨by omega, h⟩ hd
          have := k150 hE (o := o + a * 1) (n := n - a) (cap := cap - a) (N := N) (ty := ty) (fl := fl) (ex := ex) hf hk (hl32 h1) (by omega) (by rw [Nat.mul_one]; exact hC a 32 h1)
          rw [hd0] at this
          have hz : decT ks ((X.drop a).take 32) = zTel := by simp [decT, hd0]
          rwa [hz] at this
        · exact k150s hE (ex := ex) (o := o + a * 1) (cap := cap - a) hf hk (by omega)
    · rw [if_neg (by omega)] at hx
      exact hx a (by omega)
theorem k77 (hE : EnvOk E) {C : List AC} {N ty o n cap : Nat} {fl ex : Bool} (hf : FlatC C) {ks X : List UInt8} (hk : ks.length = 8) (hX : X.length = n) (hcap : n ≤ cap) (hm : n ≤ 16384) (hC : ∀ a l, a + l ≤ n → takeL (dropL C (o + a)) l = some (((X.drop a).take l).map u8c)) :
    COut E 1 [some ⟨C, N, ty, fl, .cells⟩] 77 [.e (.agg (ks.map u8c)), .e (.one (.slc 0 o n 1 cap ex))] (.tup [.one (lstX 1 19 (recvL ks X (n + 1) 0 [] []).1), .one (lstX 2 2 (spF (recvL ks X (n + 1) 0 [] []).2)), .one (.v (.int .i64 0))]) [some ⟨C, N, ty, fl, .cells⟩, lstB 19 128 (recvL ks X (n + 1) 0 [] []).1, lstB 2 220 (spF (recvL ks X (n + 1) 0 [] []).2)] := by
  have hT := recvL_tel ks X (n + 1) 0 [] [] (by simp)
  have hl := fun k0 k1 k2 k3 k4 k5 k6 k7 hks Φ hx => l77 hE (N := N) (ty := ty) (fl := fl) (ex := ex) hf hk hX hcap hm hC (Φ := Φ) k0 k1 k2 k3 k4 k5 k6 k7 hks (n + 1) 0 [] [] (by omega) (Nat.zero_le _) (Nat.zero_le _) (by simp) hx
  generalize hR : recvL ks X (n + 1) 0 [] [] = R at hl hT ⊢
  obtain ⟨T, S⟩ := R
  have hF : ∀ r ∈ T, FlatC r := fun r hr => isTel_flat (hT r hr)
  have hG := spF_flat S
  obtain ⟨k0, k1, k2, k3, k4, k5, k6, k7, rfl⟩ := len8 hk
  have hc : COut E 1 [some ⟨C, N, ty, fl, .cells⟩] 77 [.e (.agg (([k0, k1, k2, k3, k4, k5, k6, k7] : List UInt8).map u8c)), .e (.one (.slc 0 o n 1 cap ex))] (.tup [.one (lstX 2 19 T), .one (lstX 3 2 (spF S)), .one (.v (.int .i64 0))]) [some ⟨C, N, ty, fl, .cells⟩, some ⟨([k0, k1, k2, k3, k4, k5, k6, k7] : List UInt8).map u8c, 8, 105, true, .cells⟩, lstB 19 128 T, lstB 2 220 (spF S)] :=
    cOut_start Tryz.func77 rfl (c77a hE k0 k1 k2 k3 k4 k5 k6 k7 C N ty o n cap fl ex (decide_eq_false (by omega)) (fun j => outK_pad (outK_pad (hl k0 k1 k2 k3 k4 k5 k6 k7 rfl _ (fun a ha => c77x hE k0 k1 k2 k3 k4 k5 k6 k7 C N ty o n cap fl ex (lstB 19 128 T) (lstB 2 220 (spF S)) (lstX 2 19 T) (lstX 3 2 (spF S)) a (decide_eq_false (by simp only [Int.ofNat_eq_natCast]; omega)) (fun j => outK_ret (ends_ret (by kernel_rfl)))) j))) fun _ => undef)
  generalize spF S = U at hc hG ⊢
  cases T with
  | nil =>
    cases U with
    | nil => exact cOut_gcF [0, 2, 3] [true, true, true] (h' := [some ⟨C, N, ty, fl, .cells⟩, none, none]) (Nat.le_refl _) hc (by kernel_rfl) (by kernel_rfl) ⟨hf, trivial, trivial, trivial⟩ (by kernel_rfl)
    | cons u U =>
      have h2 : FlatC (u :: U).flatten := flat_flatten hG
      exact cOut_gcF [0, 2, 3] [true, true, true] (h' := [some ⟨C, N, ty, fl, .cells⟩, none, some ⟨(u :: U).flatten, (U.length + 1) * 2, 220, false, .cells⟩]) (Nat.le_refl _) hc (by kernel_rfl) (by kernel_rfl) ⟨hf, trivial, h2, trivial⟩ (by kernel_rfl)
  | cons r T =>
    have h1 : FlatC (r :: T).flatten := flat_flatten hF
    cases U with
    | nil => exact cOut_gcF [0, 2, 3] [true, true, true] (h' := [some ⟨C, N, ty, fl, .cells⟩, some ⟨(r :: T).flatten, (T.length + 1) * 19, 128, false, .cells⟩, none]) (Nat.le_refl _) hc (by kernel_rfl) (by kernel_rfl) ⟨hf, h1, trivial, trivial⟩ (by kernel_rfl)
    | cons u U =>
      have h2 : FlatC (u :: U).flatten := flat_flatten hG
      exact cOut_gcF [0, 2, 3] [true, true, true] (h' := [some ⟨C, N, ty, fl, .cells⟩, some ⟨(r :: T).flatten, (T.length + 1) * 19, 128, false, .cells⟩, some ⟨(u :: U).flatten, (U.length + 1) * 2, 220, false, .cells⟩]) (Nat.le_refl _) hc (by kernel_rfl) (by kernel_rfl) ⟨hf, h1, h2, trivial⟩ (by kernel_rfl)
theorem k77l (hE : EnvOk E) {C : List AC} {N ty o n cap : Nat} {fl ex : Bool} (hf : FlatC C) {ks : List UInt8} (hk : ks.length = 8) (hm : 16384 < n) :
    COut E 1 [some ⟨C, N, ty, fl, .cells⟩] 77 [.e (.agg (ks.map u8c)), .e (.one (.slc 0 o n 1 cap ex))] (.tup [.one (.v (.slice none 0 0)), .one (.v (.slice none 0 0)), .one (.v (.int .i64 26))]) [some ⟨C, N, ty, fl, .cells⟩] := by
  obtain ⟨k0, k1, k2, k3, k4, k5, k6, k7, rfl⟩ := len8 hk
  exact cOut_start Tryz.func77 rfl (c77l hE k0 k1 k2 k3 k4 k5 k6 k7 C N ty o n cap fl ex (decide_eq_true (by omega)) hf (fun j => outK_ret (ends_ret (by kernel_rfl))) fun _ => undef)
end
end Go.Proofs.YthjgejgnaicdpaaGreatDoor
