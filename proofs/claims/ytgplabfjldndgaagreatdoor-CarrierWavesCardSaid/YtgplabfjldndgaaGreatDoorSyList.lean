/-
  Slices of one cell an element, as the laws' arguments and the runs' lists.
-/
import Derived.Test.YtgplabfjldndgaaGreatDoorSyArg
namespace Go.Ev
open Go.RowKit Go.WideShapes Go.ChangeShapes
noncomputable section

/-- the cell of an integer -/
def i64c (z : Int) : AC := .v (.int .i64 z)
theorem flat_i64c (l : List Int) : FlatC (l.map i64c) := fun c hc => by
  obtain ⟨x, _, rfl⟩ := List.mem_map.1 hc
  exact ⟨_, rfl⟩
theorem one_i64c (l : List Int) : (l.map i64c).all AC.isOne = true := by
  rw [List.all_eq_true]
  intro c hc
  obtain ⟨x, _, rfl⟩ := List.mem_map.1 hc
  rfl

/-- a slice of cells: block b, or without elements -/
def S1 (b : Nat) (C : List AC) (x : AC) (n : Nat) (cs : List AC) : Prop :=
  cs.length = n ∧ ((n = 0 ∧ ∃ p c, x = .v (.slice p 0 c)) ∨ (0 < n ∧ ∃ o cap ex, x = .slc b o n 1 cap ex ∧ takeL (dropL C o) n = some cs))

theorem S1.lenIs {b n : Nat} {C cs : List AC} {x : AC} (h : S1 b C x n cs) : LenIs (.e (.one x)) n := by
  obtain ⟨_, ⟨rfl, p, c, rfl⟩ | ⟨_, o, cap, ex, rfl, _⟩⟩ := h
  · exact .inr ⟨p, c, rfl⟩
  · exact .inl ⟨b, o, 1, cap, ex, rfl⟩
theorem S1.opq {b n K : Nat} {C cs : List AC} {x : AC} (h : S1 b C x n cs) (hK : b < K) : OpqC K x := by
  obtain ⟨_, ⟨rfl, p, c, rfl⟩ | ⟨_, o, cap, ex, rfl, _⟩⟩ := h
  · intro k hk; simp [AC.refs] at hk
  · intro k hk; simp [AC.refs] at hk; omega
theorem S1.below {b n K : Nat} {C cs : List AC} {x : AC} (h : S1 b C x n cs) (hK : b < K) : refsBelow K (AV.refs (.e (.one x))) = true := by
  have := h.opq hK
  simpa [refsBelow, AV.refs, AE.refs, OpqC] using this
theorem take_get {C cs : List AC} {o n k : Nat} {c : AC} (h : takeL (dropL C o) n = some cs) (hk : cs[k]? = some c) : getL C (o + k) = some c := by
  rw [takeL_eq, dropL_eq] at h
  split at h
  · simp only [Option.some.injEq] at h
    subst h
    rw [List.getElem?_take] at hk
    split at hk
    · rw [List.getElem?_drop] at hk
      rw [getL_eq]; exact hk
    · simp at hk
  · simp at h
/-- a list's cells, as a loop reads them -/
def GetAt (C : List AC) (o : Nat) (cs : List AC) : Prop := ∀ (k : Nat) (c : AC), cs[k]? = some c → getL C (o + k) = some c
theorem getAt_of {C cs : List AC} {o n : Nat} (h : takeL (dropL C o) n = some cs) : GetAt C o cs := fun _ _ hk => take_get h hk
theorem getAt_self (cs : List AC) : GetAt cs 0 cs := fun k c hk => by rw [getL_eq, Nat.zero_add]; exact hk
theorem takeL_self (cs : List AC) : takeL (dropL cs 0) cs.length = some cs := by rw [takeL_eq, dropL_eq]; simp

theorem s1_of_rows {b n : Nat} {C : List AC} {x : AC} {xs : List (List UInt8)} (h : SlOk b 1 C x n xs) : S1 b C x n (xs.flatten.map u8c) := by
  obtain ⟨hl, hw, h⟩ := h
  have hfl : xs.flatten.length = n := by
    rw [← hl]
    clear hl h
    induction xs with
    | nil => rfl
    | cons y ys ih =>
      rw [List.flatten_cons, List.length_append, ih (fun z hz => hw z (List.mem_cons_of_mem _ hz)), hw y (List.mem_cons_self ..), List.length_cons]; omega
  refine ⟨by simp only [List.length_map]; exact hfl, ?_⟩
  rcases h with ⟨h0, hp⟩ | ⟨h0, o, cap, ex, rfl, hC⟩
  · exact .inl ⟨h0, hp⟩
  · have ht := elems_take hC (.inl (by intro e; subst e; simp at hl; omega))
    rw [hl, Nat.mul_one] at ht
    exact .inr ⟨h0, o, cap, ex, rfl, ht⟩

/-- a copy of a slice of cells -/
theorem S1.copy {b bytes n : Nat} {C cs : List AC} {x : AC} (hs : S1 b C x n cs) (h1 : cs.all AC.isOne = true) {h : Heap} {N : Nat} {ty : TypeId} {fl : Bool} (hb : getL h b = some (some ⟨C, N, ty, fl, .cells⟩)) (hm : small (0 + n) 1 bytes = true) :
    CopyOk h 1 bytes (.e (.one x)) n cs (decide (n = 0)) := by
  obtain ⟨hl, ⟨rfl, p, c, rfl⟩ | ⟨h0, o, cap, ex, rfl, hC⟩⟩ := hs
  · have : cs = [] := List.eq_nil_of_length_eq_zero hl
    subst this
    exact .inr (.inr (.inl ⟨rfl, rfl, rfl, p, c, rfl⟩))
  · exact .inr (.inr (.inr ⟨decide_eq_false (by omega), h0, hm, h1, b, o, cap, ex, _, rfl, blk_some hb, by rw [Nat.mul_one]; exact hC⟩))
theorem S1.ren0 {x : AC} {n : Nat} {C cs : List AC} (h : S1 0 C x n cs) (l : Nat) : AC.ren (nthE [0] l 1) x = x := by
  obtain ⟨_, ⟨rfl, p, c, rfl⟩ | ⟨_, o, cap, ex, rfl, _⟩⟩ := h <;> rfl

section
variable {H : Type} {enc : TypeId × Value → H} {P : Program} {W : World}
/-- an integer that came in, as a row of one cell -/
theorem read_int {e : TypeId} {k : IntKind} {fuel : Nat} {held : Bool} {base : Nat} {sp : Nat → Bool} {cs : List Value} {x : DataW H × List MemPlace} (he : P.underlying e = some (.int k))
    (h : DataW.trod enc P W base sp held fuel e cs = some x) : ∃ z : Int, (Lit.int k z).wf = true ∧ cs = [Value.int k z] := by
  obtain ⟨z, rfl, _, hw⟩ := DataW.trod_int he h
  exact ⟨z, hw, rfl⟩

/-- A slice of integers that came in. -/
theorem read_ints (k : Nat) {t e : TypeId} {fuel : Nat} {held : Bool} {a : Option Addr} {len cap : Nat} {x : DataW H × List MemPlace} (ht : P.underlying t = some (.slice e)) (he : P.underlying e = some (.int .i64)) (hsz : P.cellsOf e = 1)
    (h : DataW.trod enc P W 0 (fun _ => true) held fuel t [.slice a len cap] = some x) (hd : ∃ (b : Nat) (c : Array Value) (ty : TypeId) (fz : Nat × Nat), W.heap[b]? = some (.cells c ty fz)) :
    ∃ (b : Nat) (c : Array Value) (ty : TypeId) (fz : Nat × Nat) (y : AC) (n : Nat) (zs : List Int), W.heap[b]? = some (.cells c ty fz) ∧ S1 k (c.toList.map AC.v) y n (zs.map i64c) ∧ (∀ z ∈ zs, -9223372036854775808 ≤ z ∧ z ≤ 9223372036854775807) ∧
      ∀ m : M, m.ρ k = b → m.κ k = c.size → k < m.n → CR m y (.slice a len cap) := by
  rcases read_slice ht hsz (by omega) h with rfl | ⟨b, o, c, ty, fz, n, rfl, hl0, hlc, hcm, hb, hsize, hel⟩
  · obtain ⟨b, c, ty, fz, hb⟩ := hd
    exact ⟨b, c, ty, fz, .v (.slice a 0 cap), 0, [], hb, ⟨rfl, .inl ⟨rfl, a, cap, rfl⟩⟩, by simp, fun m _ _ _ => rfl⟩
  · have rows : ∀ i, i < len → ∃ z : Int, (Lit.int .i64 z).wf = true ∧ (c.toList.drop (o + i * 1)).take 1 = [Value.int .i64 z] := fun i hi => by
      obtain ⟨y, hy⟩ := hel i hi
      exact read_int he hy
    let f : Nat → Int := fun i => if hi : i < len then Classical.choose (rows i hi) else 0
    have hf : ∀ i, i < len → (Lit.int .i64 (f i)).wf = true ∧ (c.toList.drop (o + i * 1)).take 1 = [Value.int .i64 (f i)] := fun i hi => by
      simp only [f, hi, dif_pos]
      exact Classical.choose_spec (rows i hi)
    refine ⟨b, c, ty, fz, .slc k o len 1 len false, len, (List.range len).map f, hb, ⟨by simp, .inr ⟨hl0, o, len, false, rfl, ?_⟩⟩, fun z hz => ?_, fun m h1 h2 h3 => ?_⟩
    · rw [takeL_eq, dropL_eq, if_pos (by simp; omega)]
      congr 1
      apply List.ext_getElem?
      intro i
      by_cases hi : i < len
      · have e2 : ((c.toList.drop (o + i * 1)).take 1)[0]? = some (Value.int .i64 (f i)) := by rw [(hf i hi).2]; rfl
        rw [List.getElem?_take, if_pos (by omega), List.getElem?_drop] at e2
        rw [List.getElem?_take, if_pos hi, List.getElem?_drop, List.getElem?_map, show o + i = o + i * 1 + 0 by omega, e2, List.getElem?_map, List.getElem?_map, List.getElem?_range hi]
        rfl
      · rw [List.getElem?_take, if_neg hi, List.getElem?_eq_none (by simp; omega)]
    · obtain ⟨i, hi, rfl⟩ := List.mem_map.1 hz
      exact bounds_i64 (hf i (List.mem_range.1 hi)).1
    · exact ⟨h3, cap, o, by rw [h1], .inl rfl, Nat.le_refl _, hlc, hcm, by rw [h2]; exact hsize, fun hh => by simp at hh⟩
end
end
end Go.Ev
