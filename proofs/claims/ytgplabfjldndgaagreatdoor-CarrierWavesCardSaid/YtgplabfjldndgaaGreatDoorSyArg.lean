/-
  What came in, as the open runs have it: slices whose elements are rows of bytes.
-/
import Derived.Test.YtgplabfjldndgaaGreatDoorSyG
import Derived.OpenShut
import Derived.WideShapes
import Derived.ChangeArms
namespace Go.Ev
open Go.RowKit Go.WideShapes Go.ChangeShapes
noncomputable section

theorem cells_block {W : World} {b o n : Nat} {vs : List Value} (h : W.cells? 0 ⟨b, o, none⟩ n = some vs) (h0 : 0 < n) :
    ∃ (c : Array Value) (ty : TypeId) (fz : Nat × Nat), W.heap[b]? = some (.cells c ty fz) ∧ o + n ≤ c.size ∧ vs = (c.toList.drop o).take n := by
  unfold World.cells? at h
  rw [if_pos (Nat.zero_le _)] at h
  have hl : vs.length = n := by simpa using mapM_some_length h
  have hg : ∀ i, i < n → W.cell? ⟨b, o + i, none⟩ = vs[i]? := fun i hi => by
    have := mapM_some_get h i i (by simp [hi])
    rwa [add_plain] at this
  have h1 := hg 0 h0
  rw [List.getElem?_eq_getElem (by omega)] at h1
  unfold World.cell? at h1
  split at h1
  · rename_i c ty fz hc
    have hg' : ∀ i, i < n → c[o + i]? = vs[i]? := fun i hi => by
      have := hg i hi
      simpa [World.cell?, hc] using this
    have hlast := hg' (n - 1) (by omega)
    rw [List.getElem?_eq_getElem (by omega)] at hlast
    have hsz : o + (n - 1) < c.size := by
      rcases Nat.lt_or_ge (o + (n - 1)) c.size with hh | hh
      · exact hh
      · rw [Array.getElem?_eq_none hh] at hlast; simp at hlast
    refine ⟨c, ty, fz, hc, by omega, ?_⟩
    apply List.ext_getElem?
    intro i
    by_cases hi : i < n
    · rw [← hg' i hi, List.getElem?_take, if_pos hi, List.getElem?_drop, Array.getElem?_toList]
    · rw [List.getElem?_eq_none (by omega), List.getElem?_take, if_neg hi]
  · simp at h1

section
variable {H : Type} {enc : TypeId × Value → H} {P : Program} {W : World}

/-- A slice that came in: without elements, or cells of a block. -/
theorem read_slice {t e : TypeId} {sz fuel : Nat} {held : Bool} {a : Option Addr} {len cap : Nat} {x : DataW H × List MemPlace} (ht : P.underlying t = some (.slice e)) (hsz : P.cellsOf e = sz) (h0 : 0 < sz)
    (h : DataW.trod enc P W 0 (fun _ => true) held fuel t [.slice a len cap] = some x) :
    len = 0 ∨ ∃ (b o : Nat) (c : Array Value) (ty : TypeId) (fz : Nat × Nat) (n : Nat), a = some ⟨b, o, none⟩ ∧ 0 < len ∧ len ≤ cap ∧ cap ≤ maxLen ∧ W.heap[b]? = some (.cells c ty fz) ∧ o + cap * sz ≤ c.size ∧
      ∀ i, i < len → ∃ y, DataW.trod enc P W 0 (fun _ => true) held n e ((c.toList.drop (o + i * sz)).take sz) = some y := by
  rcases DataW.trod_slice ht h with ⟨h1, _⟩ | ⟨a', len', cap', elems, rest, n, _, h1, _, hb, hl, hm, hlen, hel, hsp, _⟩
  · simp only [List.cons.injEq, Value.slice.injEq, and_true] at h1
    exact .inl h1.2.1
  simp only [List.cons.injEq, Value.slice.injEq, and_true] at h1
  obtain ⟨rfl, rfl, rfl⟩ := h1
  by_cases hz : len = 0
  · exact .inl hz
  obtain ⟨hrl, hr⟩ := hsp rfl
  rw [hsz] at hel hr
  have all : ∀ i, i < cap → ∃ vs y, W.cells? 0 (a'.add (i * sz)) sz = some vs ∧ DataW.trod enc P W 0 (fun _ => true) held n e vs = some y := fun i hi => by
    by_cases hil : i < len
    · have := hel i hil
      rw [List.getElem?_eq_getElem (by omega)] at this
      obtain ⟨vs, h2, h3⟩ := Option.bind_eq_some_iff.1 this
      exact ⟨vs, _, h2, h3⟩
    · have := hr (i - len) (by omega)
      rw [List.getElem?_eq_getElem (by omega), show len + (i - len) = i by omega] at this
      obtain ⟨vs, h2, h3⟩ := Option.bind_eq_some_iff.1 this
      exact ⟨vs, _, h2, h3⟩
  obtain ⟨b, o, spot⟩ := a'
  have hspot : spot = none := by
    obtain ⟨vs, _, h2, _⟩ := all 0 (by omega)
    unfold World.cells? at h2
    rw [if_pos (Nat.zero_le _)] at h2
    have hl2 : vs.length = sz := by simpa using mapM_some_length h2
    have h3 := mapM_some_get h2 0 0 (by simp [h0])
    rw [List.getElem?_eq_getElem (by omega)] at h3
    simpa [Addr.add] using World.cell?_spot h3
  subst hspot
  obtain ⟨vs0, _, h2, _⟩ := all 0 (by omega)
  rw [add_plain] at h2
  obtain ⟨c, ty, fz, hc, _, _⟩ := cells_block h2 h0
  refine .inr ⟨b, o, c, ty, fz, n, rfl, by omega, hl, hm, hc, ?_, fun i hi => ?_⟩
  · obtain ⟨vs1, _, h3, _⟩ := all (cap - 1) (by omega)
    rw [add_plain] at h3
    obtain ⟨c', ty', fz', hc', hle, _⟩ := cells_block h3 h0
    rw [hc] at hc'
    simp only [Option.some.injEq, Obj.cells.injEq] at hc'
    obtain ⟨rfl, _⟩ := hc'
    have : (cap - 1) * sz + sz = cap * sz := by rw [← Nat.succ_mul, Nat.succ_eq_add_one, show cap - 1 + 1 = cap by omega]
    omega
  · obtain ⟨vs1, y, h3, h4⟩ := all i (by omega)
    rw [add_plain] at h3
    obtain ⟨c', ty', fz', hc', _, rfl⟩ := cells_block h3 h0
    rw [hc] at hc'
    simp only [Option.some.injEq, Obj.cells.injEq] at hc'
    obtain ⟨rfl, _⟩ := hc'
    exact ⟨y, h4⟩

theorem byte_of_wf {z : Int} (h : (Lit.int .u8 z).wf = true) : ∃ b : UInt8, z = b.toNat := by
  have := bounds_u8 h
  refine ⟨UInt8.ofNat z.toNat, ?_⟩
  rw [UInt8.toNat_ofNat']
  omega

theorem bytes_list : ∀ (cs : List Value), (∀ i, i < cs.length → ∃ b : UInt8, cs[i]? = some (.int .u8 b.toNat)) → ∃ l : List UInt8, l.length = cs.length ∧ cs = l.map fun b => Value.int .u8 b.toNat
  | [], _ => ⟨[], rfl, rfl⟩
  | v :: cs, h => by
    obtain ⟨b, hb⟩ := h 0 (by simp)
    simp only [List.getElem?_cons_zero, Option.some.injEq] at hb
    obtain ⟨l, h1, h2⟩ := bytes_list cs (fun i hi => by
      obtain ⟨b, hb⟩ := h (i + 1) (by simp; omega)
      exact ⟨b, by simpa using hb⟩)
    exact ⟨b :: l, by simp [h1], by rw [List.map_cons, ← h2, hb]⟩

/-- an array of bytes that came in -/
theorem read_bytes {t e : TypeId} {n fuel : Nat} {held : Bool} {base : Nat} {sp : Nat → Bool} {cs : List Value} {x : DataW H × List MemPlace} (ht : P.underlying t = some (.array n e)) (he : P.underlying e = some (.int .u8)) (hc : P.cellsOf e = 1) (hct : P.cellsOf t = n)
    (h : DataW.trod enc P W base sp held fuel t cs = some x) : ∃ l : List UInt8, l.length = n ∧ cs = l.map fun b => Value.int .u8 b.toNat := by
  obtain ⟨xs, m, rfl, _, hlen, hn, hel⟩ := DataW.trod_array ht h
  rw [hct] at hlen
  obtain ⟨l, h1, h2⟩ := bytes_list cs (fun i hi => by
    have h1 := hel i (by omega)
    rw [hc, Nat.mul_one, List.getElem?_eq_getElem (by omega)] at h1
    obtain ⟨z, hcell, _, hw⟩ := DataW.trod_int he h1
    obtain ⟨b, rfl⟩ := byte_of_wf hw
    have e2 : ((cs.drop i).take 1)[0]? = some (.int .u8 b.toNat) := by rw [hcell]; rfl
    rw [List.getElem?_take, if_pos (by omega), List.getElem?_drop] at e2
    exact ⟨b, by simpa using e2⟩)
  exact ⟨l, by omega, h2⟩

/-- a byte that came in, as a row of one cell -/
theorem read_byte {e : TypeId} {fuel : Nat} {held : Bool} {base : Nat} {sp : Nat → Bool} {cs : List Value} {x : DataW H × List MemPlace} (he : P.underlying e = some (.int .u8))
    (h : DataW.trod enc P W base sp held fuel e cs = some x) : ∃ l : List UInt8, l.length = 1 ∧ cs = l.map fun b => Value.int .u8 b.toNat := by
  obtain ⟨z, rfl, _, hw⟩ := DataW.trod_int he h
  obtain ⟨b, rfl⟩ := byte_of_wf hw
  exact ⟨[b], rfl, rfl⟩
end

/-! Rows of bytes in a list of cells. -/
def ElemsAt (C : List AC) (o w : Nat) (xs : List (List UInt8)) : Prop := ∀ k x, xs[k]? = some x → x.length = w ∧ takeL (dropL C (o + k * w)) w = some (x.map u8c)

/-- a slice of rows of bytes: block b, or without elements -/
def SlOk (b sz : Nat) (C : List AC) (x : AC) (n : Nat) (xs : List (List UInt8)) : Prop :=
  xs.length = n ∧ (∀ y ∈ xs, y.length = sz) ∧ ((n = 0 ∧ ∃ p c, x = .v (.slice p 0 c)) ∨ (0 < n ∧ ∃ o cap ex, x = .slc b o n sz cap ex ∧ ElemsAt C o sz xs))

theorem SlOk.lenIs {b sz n : Nat} {C : List AC} {x : AC} {xs : List (List UInt8)} (h : SlOk b sz C x n xs) : LenIs (.e (.one x)) n := by
  obtain ⟨_, _, ⟨rfl, p, c, rfl⟩ | ⟨_, o, cap, ex, rfl, _⟩⟩ := h
  · exact .inr ⟨p, c, rfl⟩
  · exact .inl ⟨b, o, sz, cap, ex, rfl⟩
theorem SlOk.opq {b sz n K : Nat} {C : List AC} {x : AC} {xs : List (List UInt8)} (h : SlOk b sz C x n xs) (hK : b < K) : OpqC K x := by
  obtain ⟨_, _, ⟨rfl, p, c, rfl⟩ | ⟨_, o, cap, ex, rfl, _⟩⟩ := h
  · intro k hk; simp [AC.refs] at hk
  · intro k hk; simp [AC.refs] at hk; omega
theorem SlOk.below {b sz n K : Nat} {C : List AC} {x : AC} {xs : List (List UInt8)} (h : SlOk b sz C x n xs) (hK : b < K) : refsBelow K (AV.refs (.e (.one x))) = true := by
  have := h.opq hK
  simpa [refsBelow, AV.refs, AE.refs, OpqC] using this

theorem elems_take : ∀ {xs : List (List UInt8)} {C : List AC} {o w : Nat}, ElemsAt C o w xs → xs ≠ [] ∨ o ≤ C.length → takeL (dropL C o) (xs.length * w) = some (xs.flatten.map u8c)
  | [], C, o, w, _, _ => by simp [takeL_eq]
  | x :: xs, C, o, w, h, _ => by
    obtain ⟨hw, hx⟩ := h 0 x rfl
    rw [takeL_eq, dropL_eq, Nat.zero_mul, Nat.add_zero] at hx
    split at hx
    · rename_i hle
      simp only [Option.some.injEq, List.length_drop] at hx hle
      by_cases hw0 : w = 0
      · subst hw0
        have hall : ∀ y ∈ xs, y = [] := fun y hy => by
          obtain ⟨k, hk⟩ := List.getElem?_of_mem hy
          have := (h (k + 1) y (by simpa using hk)).1
          exact List.eq_nil_of_length_eq_zero this
        have hx0 : x = [] := List.eq_nil_of_length_eq_zero hw
        have : (x :: xs).flatten = [] := by
          rw [List.flatten_eq_nil_iff]
          intro l hl
          rcases List.mem_cons.1 hl with rfl | hl
          · exact hx0
          · exact hall l hl
        rw [this, takeL_eq]
        simp
      · have ih := elems_take (xs := xs) (C := C) (o := o + w) (w := w) (fun k y hk => by
          have := h (k + 1) y (by simpa using hk)
          rwa [show o + (k + 1) * w = o + w + k * w by rw [Nat.succ_mul]; omega] at this) (.inr (by omega))
        rw [takeL_eq, dropL_eq] at ih ⊢
        split at ih
        · rename_i hle2
          simp only [Option.some.injEq, List.length_drop] at ih hle2
          have e : (x :: xs).length * w = w + xs.length * w := by rw [List.length_cons, Nat.succ_mul]; omega
          rw [e, if_pos (by rw [List.length_drop]; omega), List.take_add, hx, List.drop_drop, ih, List.flatten_cons, List.map_append]
        · simp at ih
    · simp at hx

theorem blk_some {h : Heap} {b : Nat} {C : List AC} {N : Nat} {ty : TypeId} {fl : Bool} (hb : getL h b = some (some ⟨C, N, ty, fl, .cells⟩)) : blk h b = some ⟨C, N, ty, fl, .cells⟩ := by
  unfold blk
  rw [hb]

theorem all_isOne (l : List UInt8) : (l.map u8c).all AC.isOne = true := by
  rw [List.all_eq_true]
  intro c hc
  obtain ⟨x, _, rfl⟩ := List.mem_map.1 hc
  rfl

theorem SlOk.copy {b sz bytes n : Nat} {C : List AC} {x : AC} {xs : List (List UInt8)} (hs : SlOk b sz C x n xs) {h : Heap} {N : Nat} {ty : TypeId} {fl : Bool} (hb : getL h b = some (some ⟨C, N, ty, fl, .cells⟩)) (hm : small (0 + n) sz bytes = true) :
    CopyOk h sz bytes (.e (.one x)) n (xs.flatten.map u8c) (decide (n = 0)) := by
  obtain ⟨hl, _, ⟨rfl, p, c, rfl⟩ | ⟨h0, o, cap, ex, rfl, hC⟩⟩ := hs
  · have : xs = [] := List.eq_nil_of_length_eq_zero hl
    subst this
    exact .inr (.inr (.inl ⟨rfl, rfl, rfl, p, c, rfl⟩))
  · refine .inr (.inr (.inr ⟨decide_eq_false (by omega), h0, hm, all_isOne _, b, o, cap, ex, _, rfl, blk_some hb, ?_⟩))
    have := elems_take hC (.inl (by intro e; subst e; simp at hl; omega))
    rwa [hl] at this

/-! From what came in to the open run's heap. -/
theorem br_all {m : M} {W : World} {b : Nat} {c : Array Value} {ty : TypeId} {fz : Nat × Nat} (h : W.heap[m.ρ b]? = some (.cells c ty fz)) (hk : c.size = m.κ b) (hlo : b < m.lo) : EntR m W b ⟨c.toList.map AC.v, c.size, ty, false, .cells⟩ := by
  refine ⟨fun _ => ⟨by simp, fun hf => by simp at hf, c, fz, h, hk, fun hh => by omega, Nat.le_refl _, ?_⟩, trivial⟩
  rw [List.take_of_length_le (by simp)]
  generalize c.toList = l
  induction l with
  | nil => trivial
  | cons v l ih => exact ⟨rfl, ih⟩

theorem flat_v (l : List Value) : FlatC (l.map AC.v) := fun c hc => by
  obtain ⟨x, _, rfl⟩ := List.mem_map.1 hc
  exact ⟨x, rfl⟩

section
variable {H : Type} {enc : TypeId × Value → H} {P : Program} {W : World}

/-- A slice of rows of bytes that came in. -/
theorem read_rows (k : Nat) {t e : TypeId} {sz fuel : Nat} {held : Bool} {a : Option Addr} {len cap : Nat} {x : DataW H × List MemPlace} (ht : P.underlying t = some (.slice e)) (hsz : P.cellsOf e = sz) (h0 : 0 < sz)
    (hrow : ∀ n cs y, DataW.trod enc P W 0 (fun _ => true) held n e cs = some y → ∃ l : List UInt8, l.length = sz ∧ cs = l.map fun b => Value.int .u8 b.toNat)
    (h : DataW.trod enc P W 0 (fun _ => true) held fuel t [.slice a len cap] = some x) (hd : ∃ (b : Nat) (c : Array Value) (ty : TypeId) (fz : Nat × Nat), W.heap[b]? = some (.cells c ty fz)) :
    ∃ (b : Nat) (c : Array Value) (ty : TypeId) (fz : Nat × Nat) (y : AC) (n : Nat) (xs : List (List UInt8)), W.heap[b]? = some (.cells c ty fz) ∧ SlOk k sz (c.toList.map AC.v) y n xs ∧
      ∀ m : M, m.ρ k = b → m.κ k = c.size → k < m.n → CR m y (.slice a len cap) := by
  rcases read_slice ht hsz h0 h with rfl | ⟨b, o, c, ty, fz, n, rfl, hl0, hlc, hcm, hb, hsize, hel⟩
  · obtain ⟨b, c, ty, fz, hb⟩ := hd
    exact ⟨b, c, ty, fz, .v (.slice a 0 cap), 0, [], hb, ⟨rfl, by simp, .inl ⟨rfl, a, cap, rfl⟩⟩, fun m _ _ _ => rfl⟩
  · have rows : ∀ i, i < len → ∃ l : List UInt8, l.length = sz ∧ (c.toList.drop (o + i * sz)).take sz = l.map fun b => Value.int .u8 b.toNat := fun i hi => by
      obtain ⟨y, hy⟩ := hel i hi
      exact hrow _ _ _ hy
    let f : Nat → List UInt8 := fun i => if hi : i < len then Classical.choose (rows i hi) else []
    have hf : ∀ i, i < len → (f i).length = sz ∧ (c.toList.drop (o + i * sz)).take sz = (f i).map fun b => Value.int .u8 b.toNat := fun i hi => by
      simp only [f, hi, dif_pos]
      exact Classical.choose_spec (rows i hi)
    refine ⟨b, c, ty, fz, .slc k o len sz len false, len, (List.range len).map f, hb, ⟨by simp, fun y hy => ?_, .inr ⟨hl0, o, len, false, rfl, fun i y hi => ?_⟩⟩, fun m h1 h2 h3 => ?_⟩
    · obtain ⟨i, hi, rfl⟩ := List.mem_map.1 hy
      exact (hf i (List.mem_range.1 hi)).1
    · have hil : i < len := by
        have := (List.getElem?_eq_some_iff.1 hi).1
        simpa using this
      rw [List.getElem?_map, List.getElem?_range hil, Option.map_some, Option.some.injEq] at hi
      subst hi
      refine ⟨(hf i hil).1, ?_⟩
      have hle : (i + 1) * sz ≤ cap * sz := Nat.mul_le_mul_right _ (by omega)
      rw [Nat.succ_mul] at hle
      rw [takeL_eq, dropL_eq, ← List.map_drop, if_pos (by simp; omega), ← List.map_take, (hf i hil).2, List.map_map]
      rfl
    · exact ⟨h3, cap, o, by rw [h1], .inl rfl, Nat.le_refl _, hlc, hcm, by rw [h2]; exact hsize, fun hh => by simp at hh⟩

/-- A world as the heap of a run whose first blocks came in. -/
theorem hr_args {W : World} {k base : Nat} {ρ κ : Nat → Nat} {F : List (Nat × List Value)} {h : Heap} (hl : h.length = k) (hb : base ≤ W.heap.size) (hF : ∀ p ∈ F, ∃ (c : Array Value) (t : TypeId) (fz : Nat × Nat), W.heap[p.1]? = some (.cells c t fz) ∧ c.toList = p.2) (he : ∀ i a, h[i]? = some (some a) → EntR ⟨k, ρ, κ, k, F⟩ W i a) : HR ⟨k, ρ, κ, k, F⟩ base k h W :=
  ⟨hl.symm, by omega, hb, he, fun b h1 h2 => by omega, fun b b' h1 h2 _ _ h3 _ => by
    have h3' : k ≤ b ∨ k ≤ b' := h3
    omega, Nat.le_refl _, fun p hp => ⟨hF p hp, fun b a h1 h2 => by
      have := (List.getElem?_eq_some_iff.1 h2).1
      omega⟩⟩
end

end
end Go.Ev
