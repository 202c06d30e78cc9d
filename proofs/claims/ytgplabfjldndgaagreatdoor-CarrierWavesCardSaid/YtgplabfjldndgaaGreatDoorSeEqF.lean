/-
  Whether two arrays of floats, or of complex numbers, are equal.
-/
import Derived.Test.YtgplabfjldndgaaGreatDoorSeFa
import Derived.Stop.BytesEq
open Go Go.Ev Go.RowKit
namespace Go.Proofs.YtgplabfjldndgaaGreatDoor
noncomputable section
section
variable {P : Program} (w : World)
theorem run_equalIn_cells (d : Nat) (t e : TypeId) (n : Nat) {u : TypeDesc} (hag : isAggD u = false) (ht : P.underlying t = some (.array n e)) (he : P.underlying e = some u) (hsz : ∀ w, (sizeOf e).run P w = .ok 1 w)
    (xs ys : List Value) (hx : xs.length = n) (hy : ys.length = n) (q : Nat → Bool) (hq : ∀ i x y, xs[i]? = some x → ys[i]? = some y → (Op.equalIn (d + 1) e x y).run P w = .ok (q i) w) :
    (Op.equalIn (d + 2) t (.agg xs.toArray) (.agg ys.toArray)).run P w = .ok ((List.range n).all q) w := by
  rw [List.range_eq_range', Op.equalIn]
  simp only [Sem.run_bind, run_underlying ht, Result.andThen_ok, hsz, Std.Legacy.Range.forIn_eq_forIn_range', Std.Legacy.Range.size, Nat.sub_zero, Nat.add_sub_cancel, Nat.div_one]
  have hl : ∀ i ∈ List.range' 0 n 1, i < n := fun i hi => by simpa using (List.mem_range'_1.1 hi).2
  generalize List.range' 0 n 1 = l at hl ⊢
  induction l with
  | nil => simp
  | cons i l ih =>
    have hi : i < n := hl i (by simp)
    have gx : xs[i]? = some xs[i] := List.getElem?_eq_getElem (show i < xs.length by omega)
    have gy : ys[i]? = some ys[i] := List.getElem?_eq_getElem (show i < ys.length by omega)
    have part_one : ∀ (zs : List Value) (z : Value), zs[i]? = some z → (part e zs.toArray (i * 1)).run P w = .ok z w := by
      intro zs z hz
      have : (isAgg e).run P w = .ok false w := by
        simp only [isAgg, Sem.run_bind, run_underlying he, Result.andThen_ok]
        cases u <;> simp_all [isAggD]
      simp [part, this, hz]
    simp only [List.forIn_cons, Sem.run_bind, part_one xs _ gx, part_one ys _ gy, hq i _ _ gx gy, Result.andThen_ok, List.all_cons]
    cases hb : q i
    · simp
    · simp only [Bool.not_true, Bool.false_eq_true, if_false, Sem.run_pure, Result.andThen_ok, Bool.true_and]
      exact ih fun j hj => hl j (by simp [hj])
theorem run_equalIn_float (d : Nat) {e : TypeId} {k : FloatKind} (he : P.underlying e = some (.float k)) (a b : Nat) : (Op.equalIn (d + 1) e (.float k a) (.float k b)).run P w = .ok (Op.floatEq k a b) w := by
  simp [Op.equalIn, run_underlying he]
theorem run_equalIn_complex (d : Nat) {e : TypeId} {k : FloatKind} (he : P.underlying e = some (.complex k)) (a b a' b' : Nat) : (Op.equalIn (d + 1) e (.complex k a b) (.complex k a' b')).run P w = .ok (Op.floatEq k a a' && Op.floatEq k b b') w := by
  simp [Op.equalIn, run_underlying he]
end
theorem cells_of {m : M} : ∀ {l : List Value} {cs : List Value}, All2 (CR m) (l.map AC.v) cs → cs = l
  | [], [], _ => rfl
  | [], _ :: _, h => h.elim
  | _ :: _, [], h => h.elim
  | x :: l, c :: cs, h => by
    obtain ⟨h1, h2⟩ := h
    rw [cells_of h2, show c = x from h1]
theorem some_of {α β : Type} {o : Option α} {f : α → β} {b : β} (h : o.map f = some b) : ∃ a, o = some a ∧ f a = b := by
  cases o with
  | none => simp at h
  | some a => exact ⟨a, rfl, by simpa using h⟩
theorem size1 {e : TypeId} (h : (Tryz.prog.info? e).map (·.size) = some 1) (w : World) : (sizeOf e).run Tryz.prog w = .ok 1 w := by
  obtain ⟨i, hi, hz⟩ := some_of h
  rw [Go.Ev.run_sizeOf hi w, hz]
theorem eqArr {t e n : Nat} {u : TypeDesc} (hag : isAggD u = false) (ht : Tryz.prog.underlying t = some (.array n e)) (he : Tryz.prog.underlying e = some u) (hsz : (Tryz.prog.info? e).map (·.size) = some 1)
    {xs ys : List Value} (hx : xs.length = n) (hy : ys.length = n) (q : Nat → Bool) (hq : ∀ (w : World) i x y, xs[i]? = some x → ys[i]? = some y → (Op.equalIn 9999 e x y).run Tryz.prog w = .ok (q i) w) : EqOk E t (xs.map AC.v) (ys.map AC.v) ((List.range n).all q) := by
  intro m c1 c2 w h1 h2
  have e1 : c1 = xs.toArray := by rw [← Array.toList_inj]; exact cells_of h1
  have e2 : c2 = ys.toArray := by rw [← Array.toList_inj]; exact cells_of h2
  subst e1 e2
  show (Op.equalIn 10000 t _ _).run Tryz.prog w = _
  exact run_equalIn_cells w 9998 t e n hag ht he (size1 hsz) xs ys hx hy q (hq w)
/-- words of numbers equal themselves -/
def Own (b : Nat) : Prop := Op.floatEq .f32 b b = true
theorem eqF56 {a0 a1 a2 a3 : Nat} (h0 : Own a0) (h1 : Own a1) (h2 : Own a2) (h3 : Own a3) : EqOk E 56 [fC a0, fC a1, fC a2, fC a3] [fC a0, fC a1, fC a2, fC a3] true :=
  eqArr (t := 56) (e := 23) (n := 4) (u := .float .f32) rfl (by kernel_rfl) (by kernel_rfl) (by kernel_rfl) (xs := [.float .f32 a0, .float .f32 a1, .float .f32 a2, .float .f32 a3]) (ys := [.float .f32 a0, .float .f32 a1, .float .f32 a2, .float .f32 a3]) rfl rfl (fun _ => true) (fun w i x y hx hy => by
    rw [show (9999 : Nat) = 9998 + 1 from rfl]
    have hxy : x = y := by rw [hx] at hy; exact Option.some.inj hy
    subst hxy
    have : ∃ a, x = .float .f32 a ∧ Own a := by
      match i, hx with
      | 0, hx => simp at hx; exact ⟨_, hx.symm, h0⟩
      | 1, hx => simp at hx; exact ⟨_, hx.symm, h1⟩
      | 2, hx => simp at hx; exact ⟨_, hx.symm, h2⟩
      | 3, hx => simp at hx; exact ⟨_, hx.symm, h3⟩
      | i + 4, hx => simp at hx
    obtain ⟨a, rfl, ha⟩ := this
    rw [run_equalIn_float w 9998 (by kernel_rfl) a a, ha])
theorem eqC59 {a0 b0 a1 b1 a2 b2 a3 b3 : Nat} (h0 : Own a0) (h1 : Own a1) (h2 : Own a2) (h3 : Own a3) (g0 : Own b0) (g1 : Own b1) (g2 : Own b2) (g3 : Own b3) :
    EqOk E 59 [.v (.complex .f32 a0 b0), .v (.complex .f32 a1 b1), .v (.complex .f32 a2 b2), .v (.complex .f32 a3 b3)] [.v (.complex .f32 a0 b0), .v (.complex .f32 a1 b1), .v (.complex .f32 a2 b2), .v (.complex .f32 a3 b3)] true :=
  eqArr (t := 59) (e := 58) (n := 4) (u := .complex .f32) rfl (by kernel_rfl) (by kernel_rfl) (by kernel_rfl) (xs := [.complex .f32 a0 b0, .complex .f32 a1 b1, .complex .f32 a2 b2, .complex .f32 a3 b3]) (ys := [.complex .f32 a0 b0, .complex .f32 a1 b1, .complex .f32 a2 b2, .complex .f32 a3 b3]) rfl rfl (fun _ => true) (fun w i x y hx hy => by
    rw [show (9999 : Nat) = 9998 + 1 from rfl]
    have hxy : x = y := by rw [hx] at hy; exact Option.some.inj hy
    subst hxy
    have : ∃ a b, x = .complex .f32 a b ∧ Own a ∧ Own b := by
      match i, hx with
      | 0, hx => simp at hx; exact ⟨_, _, hx.symm, h0, g0⟩
      | 1, hx => simp at hx; exact ⟨_, _, hx.symm, h1, g1⟩
      | 2, hx => simp at hx; exact ⟨_, _, hx.symm, h2, g2⟩
      | 3, hx => simp at hx; exact ⟨_, _, hx.symm, h3, g3⟩
      | i + 4, hx => simp at hx
    obtain ⟨a, b, rfl, ha, hb⟩ := this
    rw [run_equalIn_complex w 9998 (by kernel_rfl) a b a b, ha, hb]
    rfl)
theorem own_smp {n : Int} (h : n.natAbs < 2 ^ 24) : Own (Ieee.smpW n) := by
  show (Ieee.single.order (Ieee.smpW n) (Ieee.smpW n) == some .eq) = true
  rw [Ieee.smp_order h h, cmp_eq]
  rfl
theorem own_zero : Own 0 := by unfold Own; decide
end
end Go.Proofs.YtgplabfjldndgaaGreatDoor
