/-
  What came in, as what lies deep.
-/
import Derived.Test.YtgplabfjldndgaaGreatDoorSyK
import Derived.Test.YtgplabfjldndgaaGreatDoorSyArg
import Derived.Test.YtgplabfjldndgaaGreatDoorSyList
namespace Go.Ev
open Go.RowKit Go.WideShapes Go.ChangeShapes
noncomputable section

def AtRest (W : World) (F : List (Nat × List Value)) : Prop := ∀ p ∈ F, ∃ (c : Array Value) (t : TypeId) (fz : Nat × Nat), W.heap[p.1]? = some (.cells c t fz) ∧ c.toList = p.2
theorem AtRest.nil (W : World) : AtRest W [] := fun p hp => by simp at hp
theorem AtRest.app {W : World} {F G : List (Nat × List Value)} (h : AtRest W F) (k : AtRest W G) : AtRest W (F ++ G) := fun p hp => (List.mem_append.1 hp).elim (h p) (k p)
theorem AtRest.cons {W : World} {F : List (Nat × List Value)} {b : Nat} {c : Array Value} {t : TypeId} {fz : Nat × Nat} (h : AtRest W F) (hb : W.heap[b]? = some (.cells c t fz)) : AtRest W ((b, c.toList) :: F) := fun p hp => by
  rcases List.mem_cons.1 hp with rfl | hp
  · exact ⟨c, t, fz, hb, rfl⟩
  · exact h p hp

/-- cells that came in, as what lies deep -/
def Rd (W : World) (cs : List Value) (Q : List DT → Prop) : Prop := ∃ (F : List (Nat × List Value)) (ds : List DT), AtRest W F ∧ DT.Rl F ds cs ∧ ds.length = cs.length ∧ Q ds

section
variable {H : Type} {enc : TypeId × Value → H} {P : Program} {W : World}

theorem rd_int {e : TypeId} {k : IntKind} {fuel : Nat} {held : Bool} {sp : Nat → Bool} {cs : List Value} {x : DataW H × List MemPlace} (he : P.underlying e = some (.int k)) (h : DataW.trod enc P W 0 sp held fuel e cs = some x) :
    Rd W cs fun ds => ∃ z : Int, (Lit.int k z).wf = true ∧ ds = [.v (.int k z)] := by
  obtain ⟨z, rfl, _, hw⟩ := DataW.trod_int he h
  exact ⟨[], [.v (.int k z)], AtRest.nil W, ⟨_, [], rfl, by simp [DT.R], by simp [DT.Rl]⟩, rfl, z, hw, rfl⟩
theorem rd_bool {e : TypeId} {fuel : Nat} {held : Bool} {sp : Nat → Bool} {cs : List Value} {x : DataW H × List MemPlace} (he : P.underlying e = some .bool) (h : DataW.trod enc P W 0 sp held fuel e cs = some x) :
    Rd W cs fun ds => ∃ b : Bool, ds = [.v (.bool b)] := by
  obtain ⟨b, rfl, _⟩ := DataW.trod_bool he h
  exact ⟨[], [.v (.bool b)], AtRest.nil W, ⟨_, [], rfl, by simp [DT.R], by simp [DT.Rl]⟩, rfl, b, rfl⟩
theorem rd_string {e : TypeId} {fuel : Nat} {held : Bool} {sp : Nat → Bool} {cs : List Value} {x : DataW H × List MemPlace} (he : P.underlying e = some .string) (h : DataW.trod enc P W 0 sp held fuel e cs = some x) :
    Rd W cs fun ds => ∃ s : ByteArray, s.size ≤ maxLen ∧ ds = [.v (.string s)] := by
  obtain ⟨s, rfl, _, hs⟩ := DataW.trod_string he h
  exact ⟨[], [.v (.string s)], AtRest.nil W, ⟨_, [], rfl, by simp [DT.R], by simp [DT.Rl]⟩, rfl, s, hs, rfl⟩

theorem Rl_append {F G : List (Nat × List Value)} : ∀ {l l' : List DT} {ys zs : List Value}, DT.Rl F l ys → l.length = ys.length → DT.Rl G l' zs → DT.Rl (F ++ G) (l ++ l') (ys ++ zs)
  | [], l', [], zs, _, _, h => DT.Rl.mono (fun p hp => List.mem_append_right _ hp) _ _ h
  | [], _, _ :: _, _, _, h, _ => by simp at h
  | d :: l, l', ys, zs, h, hl, h' => by
    simp only [DT.Rl] at h
    obtain ⟨y, r, rfl, h1, h2⟩ := h
    show DT.Rl (F ++ G) (d :: (l ++ l')) (y :: (r ++ zs))
    simp only [DT.Rl]
    exact ⟨y, r ++ zs, rfl, DT.R.mono (fun p hp => List.mem_append_left _ hp) _ _ h1, Rl_append h2 (by simpa using hl) h'⟩

/-- rows, one behind the other -/
theorem rd_rows {c : List Value} {sz : Nat} {Q : List DT → Prop} : ∀ (n o : Nat), o + n * sz ≤ c.length → (∀ i, i < n → Rd W ((c.drop (o + i * sz)).take sz) Q) →
    ∃ (F : List (Nat × List Value)) (rows : List (List DT)), AtRest W F ∧ rows.length = n ∧ (∀ r ∈ rows, r.length = sz ∧ Q r) ∧ DT.Rl F rows.flatten ((c.drop o).take (n * sz))
  | 0, o, _, _ => ⟨[], [], AtRest.nil W, rfl, by simp, by simp [DT.Rl]⟩
  | n + 1, o, hl, h => by
    rw [Nat.succ_mul] at hl
    obtain ⟨F0, d0, a0, r0, l0, q0⟩ := h 0 (by omega)
    rw [Nat.zero_mul, Nat.add_zero] at r0 l0
    have hlen : ((c.drop o).take sz).length = sz := by rw [List.length_take, List.length_drop]; omega
    rw [hlen] at l0
    obtain ⟨F1, rows, a1, rl, rq, r1⟩ := rd_rows (c := c) (sz := sz) (Q := Q) n (o + sz) (by omega) (fun i hi => by
      have := h (i + 1) (by omega)
      rw [Nat.succ_mul] at this
      rw [show o + sz + i * sz = o + (i * sz + sz) by omega]
      exact this)
    refine ⟨F0 ++ F1, d0 :: rows, a0.app a1, by simp [rl], fun r hr => ?_, ?_⟩
    · rcases List.mem_cons.1 hr with rfl | hr
      · exact ⟨l0, q0⟩
      · exact rq r hr
    · have e : (c.drop o).take ((n + 1) * sz) = (c.drop o).take sz ++ (c.drop (o + sz)).take (n * sz) := by
        rw [show (n + 1) * sz = sz + n * sz by rw [Nat.succ_mul]; omega, List.take_add, List.drop_drop]
      rw [e, List.flatten_cons]
      exact Rl_append r0 (by rw [l0, hlen]) r1

/-- A slice that came in. -/
theorem rd_slice {t e : TypeId} {sz fuel : Nat} {held : Bool} {cs : List Value} {x : DataW H × List MemPlace} {Q : List DT → Prop} (ht : P.underlying t = some (.slice e)) (hsz : P.cellsOf e = sz) (h0 : 0 < sz)
    (rd : ∀ {fuel : Nat} {cs : List Value} {x : DataW H × List MemPlace}, DataW.trod enc P W 0 (fun _ => true) held fuel e cs = some x → Rd W cs Q)
    (hc : ∃ a len cap, cs = [.slice a len cap]) (h : DataW.trod enc P W 0 (fun _ => true) held fuel t cs = some x) :
    Rd W cs fun ds => ∃ rows : List (List DT), rows.length ≤ maxLen ∧ (∀ r ∈ rows, r.length = sz ∧ Q r) ∧ ds = [.s rows.flatten rows.length sz] := by
  obtain ⟨a, len, cap, rfl⟩ := hc
  rcases read_slice ht hsz h0 h with rfl | ⟨b, o, c, ty, fz, n, rfl, hl0, hlc, hcm, hb, hsize, hel⟩
  · refine ⟨[], [.s [] 0 sz], AtRest.nil W, ⟨_, [], rfl, ?_, by simp [DT.Rl]⟩, rfl, [], by simp, by simp, rfl⟩
    simp only [DT.R]
    exact .inl ⟨trivial, a, cap, rfl⟩
  · have hmul : len * sz ≤ cap * sz := Nat.mul_le_mul_right _ hlc
    obtain ⟨F, rows, aF, rl, rq, rr⟩ := rd_rows (W := W) (c := c.toList) (sz := sz) (Q := Q) len o (by simp; omega) (fun i hi => by
      obtain ⟨y, hy⟩ := hel i hi
      exact rd hy)
    have hfl : rows.flatten.length = len * sz := by
      rw [← rl]
      clear rr rl hmul
      induction rows with
      | nil => simp
      | cons r rows ih =>
        rw [List.flatten_cons, List.length_append, ih (fun s hs => rq s (List.mem_cons_of_mem _ hs)), (rq r (List.mem_cons_self ..)).1, List.length_cons, Nat.succ_mul]
        omega
    refine ⟨(b, c.toList) :: F, [.s rows.flatten rows.length sz], aF.cons hb, ⟨_, [], rfl, ?_, by simp [DT.Rl]⟩, rfl, rows, by omega, rq, rfl⟩
    simp only [DT.R]
    rw [rl]
    refine .inr ⟨hl0, b, o, cap, c.toList, rfl, hlc, hcm, List.mem_cons_self .., by simpa using hsize, hfl, ?_⟩
    have := (rr.mono (fun p hp => List.mem_cons_of_mem (b, c.toList) hp)).more (zs := (c.toList.drop o).drop (len * sz))
    rwa [List.take_append_drop] at this

/-! Lists of integers, of lists of integers. -/
def dI (z : Int) : DT := .v (.int .i64 z)
def dL (zs : List Int) : DT := .s (zs.map dI) zs.length 1
def dR (rows : List (List Int)) : DT := .s (rows.map dL) rows.length 1
def Word64 (z : Int) : Prop := -9223372036854775808 ≤ z ∧ z ≤ 9223372036854775807

theorem ones_flatten {Q : Int → Prop} : ∀ {rows : List (List DT)}, (∀ r ∈ rows, r.length = 1 ∧ ∃ z : Int, Q z ∧ r = [dI z]) → ∃ zs : List Int, (∀ z ∈ zs, Q z) ∧ rows.flatten = zs.map dI ∧ zs.length = rows.length
  | [], _ => ⟨[], by simp, rfl, rfl⟩
  | r :: rows, h => by
    obtain ⟨zs, h1, h2, h3⟩ := ones_flatten (fun s hs => h s (List.mem_cons_of_mem _ hs))
    obtain ⟨_, z, hq, rfl⟩ := h r (List.mem_cons_self ..)
    exact ⟨z :: zs, by simpa [hq] using h1, by rw [List.flatten_cons, h2]; rfl, by simp [h3]⟩
theorem rd_ints {t e : TypeId} {fuel : Nat} {held : Bool} {cs : List Value} {x : DataW H × List MemPlace} (ht : P.underlying t = some (.slice e)) (he : P.underlying e = some (.int .i64)) (hsz : P.cellsOf e = 1)
    (hc : ∃ a len cap, cs = [.slice a len cap]) (h : DataW.trod enc P W 0 (fun _ => true) held fuel t cs = some x) :
    Rd W cs fun ds => ∃ zs : List Int, (∀ z ∈ zs, Word64 z) ∧ zs.length ≤ maxLen ∧ ds = [dL zs] := by
  obtain ⟨F, ds, h1, h2, h3, rows, h4, h5, h6⟩ := rd_slice (Q := fun ds => ∃ z : Int, Word64 z ∧ ds = [dI z]) ht hsz (by omega) (fun {_ _ _} hh => by
    obtain ⟨F, ds, h1, h2, h3, z, h4, h5⟩ := rd_int he hh
    exact ⟨F, ds, h1, h2, h3, z, bounds_i64 h4, h5⟩) hc h
  obtain ⟨zs, k1, k2, k3⟩ := ones_flatten h5
  exact ⟨F, ds, h1, h2, h3, zs, k1, by omega, by rw [h6, k2, ← k3]; rfl⟩
end
end
end Go.Ev
