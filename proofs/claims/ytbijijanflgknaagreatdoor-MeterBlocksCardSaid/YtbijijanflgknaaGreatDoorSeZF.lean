/-
  Part of the proof: SyO, SyArg, SyList, SyRd, SeEqI, SeGen, SeCk, SeCl, SeBk.
-/
import Derived.Test.YtbijijanflgknaaGreatDoorSeZE
import Derived.ChangeArms
import Derived.OpenShut
import Derived.Stop.BytesEq
import Derived.WideShapes

/-! SyO -/
section
namespace Go.Ev
open Go.RowKit
noncomputable section

section
variable {E : Env} {lvl K : Nat} {rd : Option Nat} {Φ : Res → Prop}

theorem all2_set {α β : Type} {R : α → β → Prop} : ∀ {l : List α} {ys : List β} {k : Nat} {x : α}, All2 R l ys → (∀ y, ys[k]? = some y → R x y) → All2 R (l.set k x) ys
  | [], [], _, _, _, _ => trivial
  | _ :: _, _ :: _, 0, _, h, hx => ⟨hx _ rfl, h.2⟩
  | _ :: _, _ :: _, k + 1, _, h, hx => ⟨h.1, all2_set h.2 fun y hy => hx y (by simpa using hy)⟩

/-- The capacity of a slice: it is as large as is known, or larger. -/
theorem outK_cap (k : Nat) {b o len sz cap : Nat} {h : Heap} {todo : List Item} {tm : Tm} (hk : getL tm k = some (.e (.one (.slc b o len sz cap false))))
    (h1 : OutK E lvl K ⟨h, todo, setL tm k (.e (.one (.slc b o len sz cap true)))⟩ Φ rd)
    (h2 : OutK E lvl K ⟨h, todo, setL tm k (.e (.one (.slc b o len sz (cap + 1) false)))⟩ Φ rd) : OutK E lvl K ⟨h, todo, tm⟩ Φ rd := by
  intro fr t cs w m base hR hT H G hK
  rw [getL_eq] at hk
  obtain ⟨y, hy, hr⟩ := All2.get hT hk
  obtain ⟨hb, cc, o', rfl, g0, g1, g1', g2, g3, g4⟩ : CR m (.slc b o len sz cap false) y := hr
  by_cases hcc : cc = cap
  · subst hcc
    refine h1 fr t cs w m base hR ?_ H G hK
    rw [setL_eq]
    refine all2_set hT fun y' hy' => ?_
    rw [hy] at hy'
    obtain rfl := Option.some.inj hy'
    exact ⟨hb, cc, o', rfl, g0, g1, Nat.le_refl _, g2, g3, fun _ => rfl⟩
  · refine h2 fr t cs w m base hR ?_ H G hK
    rw [setL_eq]
    refine all2_set hT fun y' hy' => ?_
    rw [hy] at hy'
    obtain rfl := Option.some.inj hy'
    exact ⟨hb, cc, o', rfl, g0, by omega, by omega, g2, g3, fun hh => by simp at hh⟩

/-- what leads to the block that comes to rest is turned, in slots and in other blocks -/
def FrzB (i : Nat) (ds : List DT) : Option AB → Option AB → Prop
  | none, none => True
  | some a, some a' => a' = a ∨ (a.ext = .cells ∧ a'.ext = .cells ∧ a'.n = a.n ∧ a'.elem = a.elem ∧ a'.full = a.full ∧ All2 (FrzC i ds) a.cells a'.cells)
  | _, _ => False
theorem all2_len {α β : Type} {R : α → β → Prop} : ∀ {l : List α} {ys : List β}, All2 R l ys → l.length = ys.length
  | [], [], _ => rfl
  | _ :: _, _ :: _, h => by simp [all2_len h.2]

theorem outK_freeze (i : Nat) {ds : List DT} {N el : Nat} {fl : Bool} {h h' : Heap} {todo : List Item} {tm tm' : Tm} (hi : getL h i = some (some ⟨ds.map DT.ac, N, el, fl, .cells⟩)) (hl : lvl ≤ i)
    (hh : All2 (FrzB i ds) (setL h i none) h') (ht : All2 (FrzV i ds) tm tm') (ho : OutK E lvl K ⟨h', todo, tm'⟩ Φ rd) : OutK E lvl K ⟨h, todo, tm⟩ Φ rd := by
  rw [getL_eq] at hi
  rw [setL_eq] at hh
  refine .before (s' := ⟨h', todo, tm'⟩) (fun fr t cs w m base hT H G => ?_) ho
  obtain ⟨m2, H2, hle, hn, hρ, hκ, hV, hC⟩ := HR.freeze H hi hl
  have hlen := all2_len hh
  have back : ∀ (b : Nat) (a' : AB), h'[b]? = some (some a') → ∃ a : AB, (h.set i none)[b]? = some (some a) ∧ (a' = a ∨ (a.ext = .cells ∧ a'.ext = .cells ∧ a'.n = a.n ∧ a'.elem = a.elem ∧ a'.full = a.full ∧ All2 (FrzC i ds) a.cells a'.cells)) := by
    intro b a' hb
    obtain ⟨x, hx, hr⟩ := hh.get' hb
    cases x with
    | none => exact hr.elim
    | some a => exact ⟨a, hx, hr⟩
  have hxm : ∀ {x x' : AC} {y : Value}, FrzC i ds x x' → CR m2 x y → CR m x y ∨ CR m2 x' y := fun {x x' y} hf hy => by
    rcases hf with rfl | _
    · exact .inr hy
    · left
      rename_i hf
      obtain ⟨o, len, sz, cap, ex, r, rfl, rfl, hr⟩ := hf
      obtain ⟨hb, c, o', hy', rest⟩ := hy
      exact ⟨by rw [← hn]; exact hb, c, o', by rw [← hρ]; exact hy', by rw [← hκ]; exact rest⟩
  refine ⟨t, w, m2, .refl _ _, all2_map (R := VR m) (T := FrzV i ds) (S := VR m2) (fun a b c h0 h3 => hV a c b h0 h3) ht hT, ⟨by rw [H2.n, hlen], by rw [← hlen]; exact H2.lvlLe, H2.baseLe, fun b a' hb => ?_, fun b hb hb2 => H2.own b hb (by rw [hlen]; exact hb2), ?_, H2.lo, fun p hp => ⟨(H2.tab p hp).1, fun b a' hb ha => ?_⟩⟩, hle, Below.refl _ _⟩
  · obtain ⟨a, ha, hr⟩ := back b a' hb
    rcases hr with rfl | ⟨r1, r2, r3, r4, r5, r6⟩
    · exact H2.ent b a' ha
    · obtain ⟨B, _⟩ := H2.ent b a ha
      obtain ⟨b1, b2, c, fz, b3, b4, b5, b6, b7⟩ := B r1
      refine ⟨fun _ => ⟨by rw [← all2_len r6, b1, r3], fun hf => by rw [r3]; exact b2 (by rw [← r5]; exact hf), c, fz, by rw [r4]; exact b3, b4, b5, by rw [r3]; exact b6, ?_⟩, by rw [r2]; trivial⟩
      rw [r3]
      exact all2_map (R := CR m2) (T := FrzC i ds) (S := CR m2) (fun x y x' h0 h3 => (hxm h0 h3).elim (fun h => hC x x' y h0 h) id) r6 b7
  · intro b b' hb hb' h1 h2 h3 h4
    refine H2.inj b b' (by rw [hlen]; exact hb) (by rw [hlen]; exact hb') ?_ ?_ h3 h4
    · obtain ⟨a, ha⟩ := h1; obtain ⟨a0, h0, _⟩ := back b a ha; exact ⟨a0, h0⟩
    · obtain ⟨a, ha⟩ := h2; obtain ⟨a0, h0, _⟩ := back b' a ha; exact ⟨a0, h0⟩
  · obtain ⟨a, ha0, _⟩ := back b a' ha
    exact (H2.tab p hp).2 b a hb ha0
end

end
end Go.Ev

end

/-! SyArg -/
section
namespace Go.Ev
open Go.RowKit Go.WideShapes Go.ChangeShapes
noncomputable section

section
variable {H : Type} {enc : TypeId × Value → H} {P : Program} {W : World}

theorem byte_of_wf {z : Int} (h : (Lit.int .u8 z).wf = true) : ∃ b : UInt8, z = b.toNat := by
  have := bounds_u8 h
  refine ⟨UInt8.ofNat z.toNat, ?_⟩
  rw [UInt8.toNat_ofNat']
  omega

theorem bytes_list : ∀ (cs : List Value), (∀ i, i < cs.length → ∃ b : UInt8, cs[i]? = some (.int .u8 b.toNat)) → ∃ l : List UInt8, l.length = cs.length ∧ cs = l.map fun b => Value.int .u8 b.toNat
  | [], _ => ⟨[], rfl, rfl⟩
  | v :: cs, h => by
    obtain ⟨b, hb⟩ := h 0 (by simp)
    simp only [List.getElem?_cons_zero, Option.some.injEq] at hb
    obtain ⟨l, h1, h2⟩ := bytes_list cs (fun i hi => by
      obtain ⟨b, hb⟩ := h (i + 1) (by simp; omega)
      exact ⟨b, by simpa using hb⟩)
    exact ⟨b :: l, by simp [h1], by rw [List.map_cons, ← h2, hb]⟩

/-- an array of bytes that came in -/
theorem read_bytes {t e : TypeId} {n fuel : Nat} {held : Bool} {base : Nat} {sp : Nat → Bool} {cs : List Value} {x : DataW H × List MemPlace} (ht : P.underlying t = some (.array n e)) (he : P.underlying e = some (.int .u8)) (hc : P.cellsOf e = 1) (hct : P.cellsOf t = n)
    (h : DataW.trod enc P W base sp held fuel t cs = some x) : ∃ l : List UInt8, l.length = n ∧ cs = l.map fun b => Value.int .u8 b.toNat := by
  obtain ⟨xs, m, rfl, _, hlen, hn, hel⟩ := DataW.trod_array ht h
  rw [hct] at hlen
  obtain ⟨l, h1, h2⟩ := bytes_list cs (fun i hi => by
    have h1 := hel i (by omega)
    rw [hc, Nat.mul_one, List.getElem?_eq_getElem (by omega)] at h1
    obtain ⟨z, hcell, _, hw⟩ := DataW.trod_int he h1
    obtain ⟨b, rfl⟩ := byte_of_wf hw
    have e2 : ((cs.drop i).take 1)[0]? = some (.int .u8 b.toNat) := by rw [hcell]; rfl
    rw [List.getElem?_take, if_pos (by omega), List.getElem?_drop] at e2
    exact ⟨b, by simpa using e2⟩)
  exact ⟨l, by omega, h2⟩

end

/-! Rows of bytes in a list of cells. -/
def ElemsAt (C : List AC) (o w : Nat) (xs : List (List UInt8)) : Prop := ∀ k x, xs[k]? = some x → x.length = w ∧ takeL (dropL C (o + k * w)) w = some (x.map u8c)

/-- a slice of rows of bytes: block b, or without elements -/
def SlOk (b sz : Nat) (C : List AC) (x : AC) (n : Nat) (xs : List (List UInt8)) : Prop :=
  xs.length = n ∧ (∀ y ∈ xs, y.length = sz) ∧ ((n = 0 ∧ ∃ p c, x = .v (.slice p 0 c)) ∨ (0 < n ∧ ∃ o cap ex, x = .slc b o n sz cap ex ∧ ElemsAt C o sz xs))

theorem SlOk.opq {b sz n K : Nat} {C : List AC} {x : AC} {xs : List (List UInt8)} (h : SlOk b sz C x n xs) (hK : b < K) : OpqC K x := by
  obtain ⟨_, _, ⟨rfl, p, c, rfl⟩ | ⟨_, o, cap, ex, rfl, _⟩⟩ := h
  · intro k hk; simp [AC.refs] at hk
  · intro k hk; simp [AC.refs] at hk; omega
theorem SlOk.below {b sz n K : Nat} {C : List AC} {x : AC} {xs : List (List UInt8)} (h : SlOk b sz C x n xs) (hK : b < K) : refsBelow K (AV.refs (.e (.one x))) = true := by
  have := h.opq hK
  simpa [refsBelow, AV.refs, AE.refs, OpqC] using this

theorem elems_take : ∀ {xs : List (List UInt8)} {C : List AC} {o w : Nat}, ElemsAt C o w xs → xs ≠ [] ∨ o ≤ C.length → takeL (dropL C o) (xs.length * w) = some (xs.flatten.map u8c)
  | [], C, o, w, _, _ => by simp [takeL_eq]
  | x :: xs, C, o, w, h, _ => by
    obtain ⟨hw, hx⟩ := h 0 x rfl
    rw [takeL_eq, dropL_eq, Nat.zero_mul, Nat.add_zero] at hx
    split at hx
    · rename_i hle
      simp only [Option.some.injEq, List.length_drop] at hx hle
      by_cases hw0 : w = 0
      · subst hw0
        have hall : ∀ y ∈ xs, y = [] := fun y hy => by
          obtain ⟨k, hk⟩ := List.getElem?_of_mem hy
          have := (h (k + 1) y (by simpa using hk)).1
          exact List.eq_nil_of_length_eq_zero this
        have hx0 : x = [] := List.eq_nil_of_length_eq_zero hw
        have : (x :: xs).flatten = [] := by
          rw [List.flatten_eq_nil_iff]
          intro l hl
          rcases List.mem_cons.1 hl with rfl | hl
          · exact hx0
          · exact hall l hl
        rw [this, takeL_eq]
        simp
      · have ih := elems_take (xs := xs) (C := C) (o := o + w) (w := w) (fun k y hk => by
          have := h (k + 1) y (by simpa using hk)
          rwa [show o + (k + 1) * w = o + w + k * w by rw [Nat.succ_mul]; omega] at this) (.inr (by omega))
        rw [takeL_eq, dropL_eq] at ih ⊢
        split at ih
        · rename_i hle2
          simp only [Option.some.injEq, List.length_drop] at ih hle2
          have e : (x :: xs).length * w = w + xs.length * w := by rw [List.length_cons, Nat.succ_mul]; omega
          rw [e, if_pos (by rw [List.length_drop]; omega), List.take_add, hx, List.drop_drop, ih, List.flatten_cons, List.map_append]
        · simp at ih
    · simp at hx

theorem blk_some {h : Heap} {b : Nat} {C : List AC} {N : Nat} {ty : TypeId} {fl : Bool} (hb : getL h b = some (some ⟨C, N, ty, fl, .cells⟩)) : blk h b = some ⟨C, N, ty, fl, .cells⟩ := by
  unfold blk
  rw [hb]

theorem all_isOne (l : List UInt8) : (l.map u8c).all AC.isOne = true := by
  rw [List.all_eq_true]
  intro c hc
  obtain ⟨x, _, rfl⟩ := List.mem_map.1 hc
  rfl

theorem SlOk.copy {b sz bytes n : Nat} {C : List AC} {x : AC} {xs : List (List UInt8)} (hs : SlOk b sz C x n xs) {h : Heap} {N : Nat} {ty : TypeId} {fl : Bool} (hb : getL h b = some (some ⟨C, N, ty, fl, .cells⟩)) (hm : small (0 + n) sz bytes = true) :
    CopyOk h sz bytes (.e (.one x)) n (xs.flatten.map u8c) (decide (n = 0)) := by
  obtain ⟨hl, _, ⟨rfl, p, c, rfl⟩ | ⟨h0, o, cap, ex, rfl, hC⟩⟩ := hs
  · have : xs = [] := List.eq_nil_of_length_eq_zero hl
    subst this
    exact .inr (.inr (.inl ⟨rfl, rfl, rfl, p, c, rfl⟩))
  · refine .inr (.inr (.inr ⟨decide_eq_false (by omega), h0, hm, all_isOne _, b, o, cap, ex, _, rfl, blk_some hb, ?_⟩))
    have := elems_take hC (.inl (by intro e; subst e; simp at hl; omega))
    rwa [hl] at this

/-! From what came in to the open run's heap. -/
section
variable {H : Type} {enc : TypeId × Value → H} {P : Program} {W : World}

end

end
end Go.Ev

end

/-! SyList -/
section
namespace Go.Ev
open Go.RowKit Go.WideShapes Go.ChangeShapes
noncomputable section

/-- a slice of cells: block b, or without elements -/
def S1 (b : Nat) (C : List AC) (x : AC) (n : Nat) (cs : List AC) : Prop :=
  cs.length = n ∧ ((n = 0 ∧ ∃ p c, x = .v (.slice p 0 c)) ∨ (0 < n ∧ ∃ o cap ex, x = .slc b o n 1 cap ex ∧ takeL (dropL C o) n = some cs))

theorem S1.opq {b n K : Nat} {C cs : List AC} {x : AC} (h : S1 b C x n cs) (hK : b < K) : OpqC K x := by
  obtain ⟨_, ⟨rfl, p, c, rfl⟩ | ⟨_, o, cap, ex, rfl, _⟩⟩ := h
  · intro k hk; simp [AC.refs] at hk
  · intro k hk; simp [AC.refs] at hk; omega
theorem S1.below {b n K : Nat} {C cs : List AC} {x : AC} (h : S1 b C x n cs) (hK : b < K) : refsBelow K (AV.refs (.e (.one x))) = true := by
  have := h.opq hK
  simpa [refsBelow, AV.refs, AE.refs, OpqC] using this
/-- a copy of a slice of cells -/
theorem S1.copy {b bytes n : Nat} {C cs : List AC} {x : AC} (hs : S1 b C x n cs) (h1 : cs.all AC.isOne = true) {h : Heap} {N : Nat} {ty : TypeId} {fl : Bool} (hb : getL h b = some (some ⟨C, N, ty, fl, .cells⟩)) (hm : small (0 + n) 1 bytes = true) :
    CopyOk h 1 bytes (.e (.one x)) n cs (decide (n = 0)) := by
  obtain ⟨hl, ⟨rfl, p, c, rfl⟩ | ⟨h0, o, cap, ex, rfl, hC⟩⟩ := hs
  · have : cs = [] := List.eq_nil_of_length_eq_zero hl
    subst this
    exact .inr (.inr (.inl ⟨rfl, rfl, rfl, p, c, rfl⟩))
  · exact .inr (.inr (.inr ⟨decide_eq_false (by omega), h0, hm, h1, b, o, cap, ex, _, rfl, blk_some hb, by rw [Nat.mul_one]; exact hC⟩))
section
variable {H : Type} {enc : TypeId × Value → H} {P : Program} {W : World}
end
end
end Go.Ev

end

/-! SyRd -/
section
namespace Go.Ev
open Go.RowKit Go.WideShapes Go.ChangeShapes
noncomputable section

def AtRest (W : World) (F : List (Nat × List Value)) : Prop := ∀ p ∈ F, ∃ (c : Array Value) (t : TypeId) (fz : Nat × Nat), W.heap[p.1]? = some (.cells c t fz) ∧ c.toList = p.2
theorem AtRest.nil (W : World) : AtRest W [] := fun p hp => by simp at hp
theorem AtRest.app {W : World} {F G : List (Nat × List Value)} (h : AtRest W F) (k : AtRest W G) : AtRest W (F ++ G) := fun p hp => (List.mem_append.1 hp).elim (h p) (k p)
theorem AtRest.cons {W : World} {F : List (Nat × List Value)} {b : Nat} {c : Array Value} {t : TypeId} {fz : Nat × Nat} (h : AtRest W F) (hb : W.heap[b]? = some (.cells c t fz)) : AtRest W ((b, c.toList) :: F) := fun p hp => by
  rcases List.mem_cons.1 hp with rfl | hp
  · exact ⟨c, t, fz, hb, rfl⟩
  · exact h p hp

section
variable {H : Type} {enc : TypeId × Value → H} {P : Program} {W : World}

/-! Lists of integers, of lists of integers. -/
def dI (z : Int) : DT := .v (.int .i64 z)
end
end
end Go.Ev

end

/-! SeEqI -/
section
open Go Go.Ev Go.RowKit
open Extern.Stop
namespace Go.Proofs.YtbijijanflgknaaGreatDoor
noncomputable section
abbrev iD (l : List Int) : List DT := l.map fun x => .v (.int .i64 x)
abbrev iC (l : List Int) : List AC := (iD l).map DT.ac
abbrev iV (l : List Int) : List Value := l.map (.int .i64)
theorem flat_iC (l : List Int) : FlatC (iC l) := by
  intro c hc
  simp only [List.map_map, List.mem_map] at hc
  obtain ⟨x, _, rfl⟩ := hc
  exact ⟨_, rfl⟩
theorem iC_app (l r : List Int) : appL (iC l) (iC r) = iC (l ++ r) := by rw [appL_eq]; simp
theorem cells_of {m : M} : ∀ {l : List Value} {cs : List Value}, All2 (CR m) (l.map AC.v) cs → cs = l
  | [], [], _ => rfl
  | [], _ :: _, h => h.elim
  | _ :: _, [], h => h.elim
  | x :: l, c :: cs, h => by
    obtain ⟨h1, h2⟩ := h
    rw [cells_of h2, show c = x from h1]
theorem iC_v (l : List Int) : iC l = (iV l).map AC.v := by simp [DT.ac]
theorem u3_ : Tryz.prog.underlying 3 = some (.int .i64) := by kernel_rfl
theorem q3_ (w : World) (a b : Int) : (Op.equalIn 9999 3 (.int .i64 a) (.int .i64 b)).run Tryz.prog w = .ok (a == b) w := by
  rw [show (9999 : Nat) = 9998 + 1 from rfl]
  exact run_equalIn_int w 9998 3 .i64 .i64 a b u3_
theorem part3_ (w : World) (l : List Int) (k : Nat) {x : Int} (h : l[k]? = some x) : (part 3 (iV l).toArray k).run Tryz.prog w = .ok (.int .i64 x) w := by
  have : (iV l)[k]? = some (.int .i64 x) := by rw [List.getElem?_map, h]; rfl
  simp [part, isAgg, run_underlying u3_, this]
theorem eq_step (P : Program) (w : World) {d : Nat} {xs ys : Array Value} {f : Field} {fs : List Field} {t n : Nat} {a b : Value} {r : Bool} (h : f.name ≠ "_") (ht : f.type = t) (hn : f.offset = n) (h1 : (part t xs n).run P w = .ok a w) (h2 : (part t ys n).run P w = .ok b w) (h3 : (Op.equalIn d t a b).run P w = .ok r w) :
    (Op.eqFields d xs ys (f :: fs)).run P w = if r then (Op.eqFields d xs ys fs).run P w else .ok false w := by
  subst ht hn
  cases r <;> simp [Op.eqFields, h, h1, h2, h3]
theorem eq_nil (P : Program) (w : World) {d : Nat} {xs ys : Array Value} : (Op.eqFields d xs ys []).run P w = .ok true w := by simp [Op.eqFields]
theorem eqFs (w : World) (l l' : List Int) (hl : l.length = l'.length) : ∀ (fs : List Field) (i : Nat), i + fs.length = l.length → fs.map (fun f => (f.name == "_", f.type, f.offset)) = (List.range' i fs.length).map (fun k => (false, 3, k)) →
    (Op.eqFields 9999 (iV l).toArray (iV l').toArray fs).run Tryz.prog w = .ok (l.drop i == l'.drop i) w
  | [], i, hi, _ => by
    have e1 : l.drop i = [] := List.drop_eq_nil_of_le (by simp at hi; omega)
    have e2 : l'.drop i = [] := List.drop_eq_nil_of_le (by simp at hi; omega)
    rw [eq_nil, e1, e2]; rfl
  | f :: fs, i, hi, hf => by
    have hi' : i + fs.length + 1 = l.length := by simpa [Nat.add_assoc] using hi
    simp only [List.map_cons, List.length_cons, List.range'_succ, List.cons.injEq, Prod.mk.injEq] at hf
    obtain ⟨⟨a1, a2, a3⟩, hf⟩ := hf
    have ih := eqFs w l l' hl fs (i + 1) (by omega) hf
    have h1 : i < l.length := by omega
    have h2 : i < l'.length := by omega
    rw [eq_step Tryz.prog w (by simpa using a1) a2 a3 (part3_ w l i (List.getElem?_eq_getElem h1)) (part3_ w l' i (List.getElem?_eq_getElem h2)) (q3_ w _ _), ih, List.drop_eq_getElem_cons h1, List.drop_eq_getElem_cons h2, List.cons_beq_cons]
    cases l[i] == l'[i] <;> simp
/-- two structs of integers -/
theorem eqIs {t : TypeId} {n : Nat} (hu : Tryz.prog.underlying t = some (.struct (Tryz.prog.fieldsOf t))) (hst : Tryz.prog.stoodInHeld t = false)
    (hfs : (Tryz.prog.fieldsOf t).toList.map (fun f => (f.name == "_", f.type, f.offset)) = (List.range' 0 n).map (fun k => (false, 3, k))) (l l' : List Int) (h1 : l.length = n) (h2 : l'.length = n) : EqOk E t (iC l) (iC l') (l == l') := by
  intro m c1 c2 w g1 g2
  rw [iC_v] at g1 g2
  have e1 : c1 = (iV l).toArray := by rw [← Array.toList_inj]; exact cells_of g1
  have e2 : c2 = (iV l').toArray := by rw [← Array.toList_inj]; exact cells_of g2
  subst e1 e2
  show (Op.equalIn 10000 t _ _).run Tryz.prog w = _
  rw [show (10000 : Nat) = 9999 + 1 from rfl]
  rw [run_equalIn_struct w 9999 t _ _ hu hst]
  have hl : (Tryz.prog.fieldsOf t).toList.length = n := by have := congrArg List.length hfs; simpa using this
  have := eqFs w l l' (by omega) (Tryz.prog.fieldsOf t).toList 0 (by omega) (by rw [hl]; exact hfs)
  simpa using this
theorem row_of (w : Nat) (l : List Int) (n i : Nat) (hl : l.length = n * w) (hi : i < n) : takeL (dropL (iD l) (i * w)) w = some (iD ((l.drop (i * w)).take w)) := by
  have hlt : i * w + w ≤ l.length := by rw [hl, ← Nat.succ_mul]; exact Nat.mul_le_mul_right w hi
  rw [takeL_eq, dropL_eq, if_pos (by simp; omega)]; simp only [iD, List.map_take, List.map_drop]
theorem row_len (w : Nat) (l : List Int) (n i : Nat) (hl : l.length = n * w) (hi : i < n) : ((l.drop (i * w)).take w).length = w := by
  have hlt : i * w + w ≤ l.length := by rw [hl, ← Nat.succ_mul]; exact Nat.mul_le_mul_right w hi
  simp; omega
theorem take_succ_row (w : Nat) (l : List Int) (i : Nat) : l.take ((i + 1) * w) = l.take (i * w) ++ (l.drop (i * w)).take w := by
  rw [Nat.succ_mul, List.take_add]
end
end Go.Proofs.YtbijijanflgknaaGreatDoor

end

/-! SeGen -/
section
open Go Go.Ev
namespace Go.Proofs.YtbijijanflgknaaGreatDoor
noncomputable section
theorem cOut_clear {f : FuncId} {args : List AV} {v : AV} {h : Heap} (hc : COut E 0 [] f args v h) (hv : v.refs = []) : COut E 0 [] f args v [] :=
  cOut_gc (h' := []) [] (Nat.zero_le _) hc rfl rfl (AV.ren_id hv)
theorem getI {xs : List Int} {i : Nat} {x : Int} (h : xs[i]? = some x) : getL (iD xs) i = some (.v (.int .i64 x)) := by rw [getL_eq, List.getElem?_map, h]; rfl
abbrev dI (xs : List Int) : AV := .e (.one (.dp (.s (iD xs) xs.length 1)))
/-- a list without elements, nil or not -/
theorem cOut_nil1 {f : FuncId} {args : List AV} {h : Heap} {p : Option Addr} {c : Nat} (sz : Nat) (hc : COut E 0 [] f args (.e (.one (.v (.slice p 0 c)))) h) : COut E 0 [] f args (.e (.one (.dp (.s [] 0 sz)))) h := by
  intro m base w argsC ha H G
  exact (hc m base w argsC ha H G).mono fun en w' ⟨y, hy, m1, hp⟩ => ⟨y, hy, m1, hp.le, .inl ⟨rfl, p, c, hp.val⟩, hp.heap, hp.below⟩
theorem lend2 (lv : Nat) (_hE : EnvOk E) (f : FuncId) (xs : List Int) (r : Int) (ty : Nat) (fl : Bool) (hc : COut E 0 [] f [dI xs] (iI r) []) (h : Heap) (i : Nat) (hh : getL h i = some (some ⟨(iD xs).map DT.ac, xs.length, ty, fl, .cells⟩)) : COut E lv h f [.e (.one (.slc i 0 xs.length 1 xs.length true))] (iI r) h :=
  cOut_lend h hc ⟨.inr ⟨i, 0, xs.length, 1, xs.length, true, iD xs, iD xs, xs.length, ty, fl, rfl, rfl, hh, by rw [takeL_eq, dropL_eq, List.drop_zero, if_pos (by simp), List.take_of_length_le (by simp)]⟩, trivial⟩ rfl rfl
end
end Go.Proofs.YtbijijanflgknaaGreatDoor

end

/-! SeCk -/
section
open Go Go.Ev
namespace Go.Proofs.YtbijijanflgknaaGreatDoor
noncomputable section
set_option maxRecDepth 100000
set_option maxHeartbeats 20000000
def s68 (C : List DT) (n _i : Nat) (_x _y _u : Int) (_j : Nat → Value) : St := startK Tryz.f68 [] [(.e (.one (.dp (.s C n 1))))]
def s25 (C : List DT) (n _i : Nat) (_x _y _u : Int) (_j : Nat → Value) : St := startK Tryz.f25 [] [(.e (.one (.dp (.s C n 1))))]
def s75 (_s _o _l _v _t _x _y _z _d _q _r e _f _g _h _k _w _m : Int) (b : Bool) (_j : Nat → Value) : St := startK Tryz.f75 [] [iB b, iI e]
def s70 (_s _o _l _v _t _x _y _z _d _q _r e _f _g _h _k _w _m : Int) (b : Bool) (_j : Nat → Value) : St := startK Tryz.f70 [] [iB b, iI e]
def s27 (_s _o _l _v _t x y z _d _q _r _e _f _g _h _k _w _m : Int) (_b : Bool) (_j : Nat → Value) : St := startK Tryz.f27 [] [iI x, iI y, iI z]
def q68 (C : List DT) (n i : Nat) (_x _y _u : Int) (j : Nat → Value) : St := ⟨[], [(.code (atC [1, 0, 1, 0, 0] (bodyOf Tryz.f68))), (.inLoop (atC [1, 0, 1, 0, 0] (bodyOf Tryz.f68))), (.inBlock 0), (.code (atC [1, 1] (bodyOf Tryz.f68)))], mkT j [(5, (.e (.one (.dp (.s (C) (n) 1))))), (6, (iI (Int.ofNat n))), (7, (iI (Int.ofNat i)))] 15 0⟩
def q25 (C : List DT) (n i : Nat) (_x _y _u : Int) (j : Nat → Value) : St := ⟨[], [(.code (atC [1, 0, 1, 0, 0] (bodyOf Tryz.f25))), (.inLoop (atC [1, 0, 1, 0, 0] (bodyOf Tryz.f25))), (.inBlock 0), (.code (atC [1, 1] (bodyOf Tryz.f25)))], mkT j [(0, (.e (.one (.dp (.s (C) (n) 1))))), (3, (iI (Int.ofNat i)))] 19 0⟩
def p68a_end (C : List DT) (n _i : Nat) (_x _y _u : Int) (j : Nat → Value) : St := ⟨[], [(.code (atC [1, 0, 1, 0, 0] (bodyOf Tryz.f68))), (.inLoop (atC [1, 0, 1, 0, 0] (bodyOf Tryz.f68))), (.inBlock 0), (.code (atC [1, 1] (bodyOf Tryz.f68)))], mkT j [(5, (.e (.one (.dp (.s (C) (n) 1))))), (6, (iI (Int.ofNat n))), (7, (iI 0))] 15 0⟩
theorem p68a (hE : EnvOk E) (C : List DT) (n i : Nat) (x y u : Int)  {Φ : Res → Prop} (ho : ∀ j, OutK E 0 0 (p68a_end C n i x y u j) Φ) (j : Nat → Value) : OutK E 0 0 (s68 C n i x y u j) Φ :=
  outK_seg hE (R0_ok hE) [.run 4, (.ops [(1, (.d .len))] []), .run 2] [5, 6, 7] (ps := []) (fun j => by kernel_rfl) trivial
    ho
def p25a_end (C : List DT) (n _i : Nat) (_x _y _u : Int) (j : Nat → Value) : St := ⟨[], [(.code (atC [1, 0, 1, 0, 0] (bodyOf Tryz.f25))), (.inLoop (atC [1, 0, 1, 0, 0] (bodyOf Tryz.f25))), (.inBlock 0), (.code (atC [1, 1] (bodyOf Tryz.f25)))], mkT j [(0, (.e (.one (.dp (.s (C) (n) 1))))), (3, (iI 0))] 19 0⟩
theorem p25a (hE : EnvOk E) (C : List DT) (n i : Nat) (x y u : Int)  {Φ : Res → Prop} (ho : ∀ j, OutK E 0 0 (p25a_end C n i x y u j) Φ) (j : Nat → Value) : OutK E 0 0 (s25 C n i x y u j) Φ :=
  outK_seg hE (R0_ok hE) [.run 7] [0, 3] (ps := []) (fun j => by kernel_rfl) trivial
    ho
def p75t_end (_s _o _l _v _t _x _y _z _d _q _r e _f _g _h _k _w _m : Int) (_b : Bool) (j : Nat → Value) : St := ⟨[], [(.code .ret), (.code (atC [1, 1] (bodyOf Tryz.f75)))], mkT j [(4, (iI (e)))] 7 0⟩
theorem p75t (hE : EnvOk E) (s o l v t x y z d q r e f g h k w m : Int) (b : Bool) (h0 : (b : Bool) = true) {Φ : Res → Prop} (ho : ∀ j, OutK E 0 0 (p75t_end s o l v t x y z d q r e f g h k w m b j) Φ) (j : Nat → Value) : OutK E 0 0 (s75 s o l v t x y z d q r e f g h k w m b j) Φ :=
  outK_seg hE (R0_ok hE) [.run 5, (.cond true), .run 2] [4] (fun j => by kernel_rfl) (aP h0 <| aZ)
    ho
def p75f_end (_s _o _l _v _t _x _y _z _d _q _r _e _f _g _h _k _w _m : Int) (_b : Bool) (j : Nat → Value) : St := ⟨[], [(.code .ret)], mkT j [(4, (iI 0))] 7 0⟩
theorem p75f (hE : EnvOk E) (s o l v t x y z d q r e f g h k w m : Int) (b : Bool) (h0 : (b : Bool) = false) {Φ : Res → Prop} (ho : ∀ j, OutK E 0 0 (p75f_end s o l v t x y z d q r e f g h k w m b j) Φ) (j : Nat → Value) : OutK E 0 0 (s75 s o l v t x y z d q r e f g h k w m b j) Φ :=
  outK_seg hE (R0_ok hE) [.run 5, (.cond false), .run 3] [4] (fun j => by kernel_rfl) (aP h0 <| aZ)
    ho
def p70t_end (_s _o _l _v _t _x _y _z _d _q _r e _f _g _h _k _w _m : Int) (_b : Bool) (j : Nat → Value) : St := ⟨[], [(.code .ret), (.code (atC [1, 1] (bodyOf Tryz.f70)))], mkT j [(4, (iI (e)))] 7 0⟩
theorem p70t (hE : EnvOk E) (s o l v t x y z d q r e f g h k w m : Int) (b : Bool) (h0 : (b : Bool) = true) {Φ : Res → Prop} (ho : ∀ j, OutK E 0 0 (p70t_end s o l v t x y z d q r e f g h k w m b j) Φ) (j : Nat → Value) : OutK E 0 0 (s70 s o l v t x y z d q r e f g h k w m b j) Φ :=
  outK_seg hE (R0_ok hE) [.run 5, (.cond true), .run 2] [4] (fun j => by kernel_rfl) (aP h0 <| aZ)
    ho
def p70f_end (_s _o _l _v _t _x _y _z _d _q _r _e _f _g _h _k _w _m : Int) (_b : Bool) (j : Nat → Value) : St := ⟨[], [(.code .ret)], mkT j [(4, (iI 0))] 7 0⟩
theorem p70f (hE : EnvOk E) (s o l v t x y z d q r e f g h k w m : Int) (b : Bool) (h0 : (b : Bool) = false) {Φ : Res → Prop} (ho : ∀ j, OutK E 0 0 (p70f_end s o l v t x y z d q r e f g h k w m b j) Φ) (j : Nat → Value) : OutK E 0 0 (s70 s o l v t x y z d q r e f g h k w m b j) Φ :=
  outK_seg hE (R0_ok hE) [.run 5, (.cond false), .run 3] [4] (fun j => by kernel_rfl) (aP h0 <| aZ)
    ho
def p27a_end (_s _o _l _v _t _x _y _z _d _q _r e _f _g _h _k _w _m : Int) (_b : Bool) (j : Nat → Value) : St := ⟨[], [(.code .ret)], mkT j [(6, (iI (e)))] 16 0⟩
theorem p27a (hE : EnvOk E) (s o l v t x y z d q r e f g h k w m : Int) (b : Bool) (h0 : (decide (x < y) == false : Bool) = (nat_lit 4, false).snd) (h1 : (decide (x < y) == false : Bool) = (nat_lit 5, false).snd) (h2 : (decide (x < y) == false : Bool) = (nat_lit 6, false).snd) (h3 : (decide (x < y) : Bool) = true) (h4 : COut E 0 [] 75 [(iB true), (iI 3)] (iI (e)) []) {Φ : Res → Prop} (ho : ∀ j, OutK E 0 0 (p27a_end s o l v t x y z d q r e f g h k w m b j) Φ) (j : Nat → Value) : OutK E 0 0 (s27 s o l v t x y z d q r e f g h k w m b j) Φ :=
  outK_seg hE (R0_ok hE) [.run 3, (.ops [(8, (.c0 (iI (e)))), (7, (.pk true))] [(4, false), (5, false), (6, false)])] [6] (fun j => by kernel_rfl) (aP h0 <| aP h1 <| aP h2 <| aP h3 <| aP h4 <| aN <| aZ)
    ho
def p27b_end (_s _o _l _v _t _x _y _z _d _q _r e _f _g _h _k _w _m : Int) (_b : Bool) (j : Nat → Value) : St := ⟨[], [(.code .ret)], mkT j [(6, (iI (e)))] 16 0⟩
theorem p27b (hE : EnvOk E) (s o l v t x y z d q r e f g h k w m : Int) (b : Bool) (h0 : (decide (x < y) == false : Bool) = (nat_lit 4, true).snd) (h1 : (decide (x < y) == false : Bool) = (nat_lit 5, true).snd) (h2 : (decide (x < y) == false : Bool) = (nat_lit 6, true).snd) (h3 : (decide (x < y) : Bool) = false) (h4 : COut E 0 [] 75 [(iB (decide (x > z))), (iI 3)] (iI (e)) []) {Φ : Res → Prop} (ho : ∀ j, OutK E 0 0 (p27b_end s o l v t x y z d q r e f g h k w m b j) Φ) (j : Nat → Value) : OutK E 0 0 (s27 s o l v t x y z d q r e f g h k w m b j) Φ :=
  outK_seg hE (R0_ok hE) [.run 3, (.ops [(8, (.c0 (iI (e)))), (7, (.pk false))] [(4, true), (5, true), (6, true)])] [6] (fun j => by kernel_rfl) (aP h0 <| aP h1 <| aP h2 <| aP h3 <| aP h4 <| aN <| aZ)
    ho
def p68s_end (C : List DT) (n i : Nat) (_x _y _u : Int) (j : Nat → Value) : St := ⟨[], [(.code (atC [1, 0, 1, 0, 0] (bodyOf Tryz.f68))), (.inLoop (atC [1, 0, 1, 0, 0] (bodyOf Tryz.f68))), (.inBlock 0), (.code (atC [1, 1] (bodyOf Tryz.f68)))], mkT j [(5, (.e (.one (.dp (.s (C) (n) 1))))), (6, (iI (Int.ofNat n))), (7, (iI (Int.ofNat (i + 1))))] 15 0⟩
theorem p68s (hE : EnvOk E) (C : List DT) (n i : Nat) (x y u : Int) (h0 : (decide (Int.ofNat i < Int.ofNat n) : Bool) = true) (h1 : (0 : Int) ≤ Int.ofNat i ∧ Int.ofNat i < (↑n : Int)) (h2 : ((Int.ofNat i).toNat * nat_lit 1 : Nat) = i) (h3 : (getL C i : Option DT) = (.some (.v (.int .i64 (x))))) (h4 : (x != (0 : Int) : Bool) = false) (h5 : ((iI (wrapF IntKind.i64 (Int.ofNat i + (1 : Int)))) : AV) = (iI (Int.ofNat (i + 1)))) {Φ : Res → Prop} (ho : ∀ j, OutK E 0 0 (p68s_end C n i x y u j) Φ) (j : Nat → Value) : OutK E 0 0 (q68 C n i x y u j) Φ :=
  outK_seg hE (R0_ok hE) [.run 3, (.cond true), .run 4, (.ops [(1, (.d (.ld (.v (.int .i64 (x)))))), (0, (.d (.ix (i))))] []), .run 2, (.cond false), .run 2, (.ops [(0, (.rn (iI (Int.ofNat (i + 1)))))] []), .run 1] [5, 6, 7] (fun j => by kernel_rfl) (aP h0 <| aP h1 <| aP h2 <| aP h3 <| aP h4 <| aP h5 <| aZ)
    ho
def p68e_end (_C : List DT) (_n _i : Nat) (x _y _u : Int) (j : Nat → Value) : St := ⟨[], [(.code .ret), (.inBlock 1), (.code (atC [1, 0, 1, 0, 0, 1, 1, 1] (bodyOf Tryz.f68))), (.inLoop (atC [1, 0, 1, 0, 0] (bodyOf Tryz.f68))), (.inBlock 0), (.code (atC [1, 1] (bodyOf Tryz.f68)))], mkT j [(2, (iI (x)))] 15 0⟩
theorem p68e (hE : EnvOk E) (C : List DT) (n i : Nat) (x y u : Int) (h0 : (decide (Int.ofNat i < Int.ofNat n) : Bool) = true) (h1 : (0 : Int) ≤ Int.ofNat i ∧ Int.ofNat i < (↑n : Int)) (h2 : ((Int.ofNat i).toNat * nat_lit 1 : Nat) = i) (h3 : (getL C i : Option DT) = (.some (.v (.int .i64 (x))))) (h4 : (x != (0 : Int) : Bool) = true) {Φ : Res → Prop} (ho : ∀ j, OutK E 0 0 (p68e_end C n i x y u j) Φ) (j : Nat → Value) : OutK E 0 0 (q68 C n i x y u j) Φ :=
  outK_seg hE (R0_ok hE) [.run 3, (.cond true), .run 4, (.ops [(1, (.d (.ld (.v (.int .i64 (x)))))), (0, (.d (.ix (i))))] []), .run 2, (.cond true), .run 2] [2] (fun j => by kernel_rfl) (aP h0 <| aP h1 <| aP h2 <| aP h3 <| aP h4 <| aZ)
    ho
def p68x_end (_C : List DT) (_n _i : Nat) (_x _y _u : Int) (j : Nat → Value) : St := ⟨[], [(.code .ret)], mkT j [(2, (iI 0))] 15 0⟩
theorem p68x (hE : EnvOk E) (C : List DT) (n i : Nat) (x y u : Int) (h0 : (decide (Int.ofNat i < Int.ofNat n) : Bool) = false) {Φ : Res → Prop} (ho : ∀ j, OutK E 0 0 (p68x_end C n i x y u j) Φ) (j : Nat → Value) : OutK E 0 0 (q68 C n i x y u j) Φ :=
  outK_seg hE (R0_ok hE) [.run 3, (.cond false), .run 3] [2] (fun j => by kernel_rfl) (aP h0 <| aZ)
    ho
def p25s_end (C : List DT) (n i : Nat) (_x _y _u : Int) (j : Nat → Value) : St := ⟨[], [(.code (atC [1, 0, 1, 0, 0] (bodyOf Tryz.f25))), (.inLoop (atC [1, 0, 1, 0, 0] (bodyOf Tryz.f25))), (.inBlock 0), (.code (atC [1, 1] (bodyOf Tryz.f25)))], mkT j [(0, (.e (.one (.dp (.s (C) (n) 1))))), (3, (iI (Int.ofNat (i + 1))))] 19 0⟩
theorem p25s (hE : EnvOk E) (C : List DT) (n i : Nat) (x y u : Int) (h0 : (decide (Int.ofNat i < (↑n : Int)) : Bool) = true) (h1 : (0 : Int) ≤ Int.ofNat i ∧ Int.ofNat i < (↑n : Int)) (h2 : ((Int.ofNat i).toNat * nat_lit 1 : Nat) = i) (h3 : (getL C i : Option DT) = (.some (.v (.int .i64 (x))))) (h4 : (x != (0 : Int) : Bool) = false) (h5 : ((iI (wrapF IntKind.i64 (Int.ofNat i + (1 : Int)))) : AV) = (iI (Int.ofNat (i + 1)))) {Φ : Res → Prop} (ho : ∀ j, OutK E 0 0 (p25s_end C n i x y u j) Φ) (j : Nat → Value) : OutK E 0 0 (q25 C n i x y u j) Φ :=
  outK_seg hE (R0_ok hE) [.run 2, (.ops [(2, (.d .len))] []), (.cond true), .run 4, (.ops [(3, (.d (.ld (.v (.int .i64 (x)))))), (2, (.d (.ix (i))))] []), (.cond false), .run 2, (.ops [(1, (.rn (iI (Int.ofNat (i + 1)))))] []), .run 1] [0, 3] (fun j => by kernel_rfl) (aP h0 <| aP h1 <| aP h2 <| aP h3 <| aP h4 <| aP h5 <| aZ)
    ho
def p25e_end (_C : List DT) (_n _i : Nat) (x _y _u : Int) (j : Nat → Value) : St := ⟨[], [(.code .ret), (.inBlock 1), (.code (atC [1, 0, 1, 0, 0, 1, 1] (bodyOf Tryz.f25))), (.inLoop (atC [1, 0, 1, 0, 0] (bodyOf Tryz.f25))), (.inBlock 0), (.code (atC [1, 1] (bodyOf Tryz.f25)))], mkT j [(2, (iI (x)))] 19 0⟩
theorem p25e (hE : EnvOk E) (C : List DT) (n i : Nat) (x y u : Int) (h0 : (decide (Int.ofNat i < (↑n : Int)) : Bool) = true) (h1 : (0 : Int) ≤ Int.ofNat i ∧ Int.ofNat i < (↑n : Int)) (h2 : ((Int.ofNat i).toNat * nat_lit 1 : Nat) = i) (h3 : (getL C i : Option DT) = (.some (.v (.int .i64 (x))))) (h4 : (x != (0 : Int) : Bool) = true) (h5 : (0 : Int) ≤ Int.ofNat i ∧ Int.ofNat i < (↑n : Int)) (h6 : ((Int.ofNat i).toNat * nat_lit 1 : Nat) = i) (h7 : (getL C i : Option DT) = (.some (.v (.int .i64 (x))))) {Φ : Res → Prop} (ho : ∀ j, OutK E 0 0 (p25e_end C n i x y u j) Φ) (j : Nat → Value) : OutK E 0 0 (q25 C n i x y u j) Φ :=
  outK_seg hE (R0_ok hE) [.run 2, (.ops [(2, (.d .len))] []), (.cond true), .run 4, (.ops [(3, (.d (.ld (.v (.int .i64 (x)))))), (2, (.d (.ix (i))))] []), (.cond true), .run 1, (.ops [(3, (.d (.ld (.v (.int .i64 (x)))))), (2, (.d (.ix (i))))] [])] [2] (fun j => by kernel_rfl) (aP h0 <| aP h1 <| aP h2 <| aP h3 <| aP h4 <| aP h5 <| aP h6 <| aP h7 <| aZ)
    ho
def p25x_end (_C : List DT) (_n _i : Nat) (_x _y _u : Int) (j : Nat → Value) : St := ⟨[], [(.code .ret)], mkT j [(2, (iI 0))] 19 0⟩
theorem p25x (hE : EnvOk E) (C : List DT) (n i : Nat) (x y u : Int) (h0 : (decide (Int.ofNat i < (↑n : Int)) : Bool) = false) {Φ : Res → Prop} (ho : ∀ j, OutK E 0 0 (p25x_end C n i x y u j) Φ) (j : Nat → Value) : OutK E 0 0 (q25 C n i x y u j) Φ :=
  outK_seg hE (R0_ok hE) [.run 2, (.ops [(2, (.d .len))] []), (.cond false), .run 3] [2] (fun j => by kernel_rfl) (aP h0 <| aZ)
    ho

/-! The first error of several, ranges. -/
def firstI : List Int → Int
  | [] => 0
  | x :: r => if x = 0 then firstI r else x
def rngI (a b z : Int) : Int := if z < a ∨ b < z then 3 else 0
theorem first0 {l : List Int} (h : firstI l = 0) : ∀ x ∈ l, x = 0 := by
  induction l with
  | nil => intro x hx; cases hx
  | cons a l ih =>
    intro x hx
    simp only [firstI] at h
    by_cases h0 : a = 0
    · rw [if_pos h0] at h
      rcases List.mem_cons.1 hx with rfl | hx
      · exact h0
      · exact ih h x hx
    · rw [if_neg h0] at h
      exact (h0 h).elim
theorem rng0 {a b z : Int} (h : rngI a b z = 0) : a ≤ z ∧ z ≤ b := by
  unfold rngI at h
  by_cases c : z < a ∨ b < z
  · rw [if_pos c] at h; omega
  · omega
theorem l68 (hE : EnvOk E) (xs : List Int) (hm : xs.length ≤ 4000000) :
    ∀ m i, m + i = xs.length → ∀ x j, OutK E 0 0 (q68 (iD xs) xs.length i x 0 0 j) (Go.Ev.Ends E Tryz.f68 (iI (firstI (xs.drop i))) [])
  | 0, i, hk, x, j => by
    have e1 : xs.drop i = [] := List.drop_eq_nil_of_le (by omega)
    rw [e1]
    exact p68x hE _ _ i x 0 0 (decide_eq_false (by simp only [Int.ofNat_eq_natCast]; omega)) (fun j => outK_ret (ends_ret (by kernel_rfl))) j
  | m + 1, i, hk, _, j => by
    have hlt : i < xs.length := by omega
    have hx : xs[i]? = some xs[i] := List.getElem?_eq_getElem hlt
    have e1 : xs.drop i = xs[i] :: xs.drop (i + 1) := List.drop_eq_getElem_cons hlt
    rw [e1]
    generalize xs[i] = x at hx e1
    have hd : decide (Int.ofNat i < Int.ofNat xs.length) = true := decide_eq_true (by simp only [Int.ofNat_eq_natCast]; omega)
    have hb : (0 : Int) ≤ Int.ofNat i ∧ Int.ofNat i < (xs.length : Int) := (by simp only [Int.ofNat_eq_natCast]; omega)
    by_cases h0 : x = 0
    · have e2 : firstI (x :: xs.drop (i + 1)) = firstI (xs.drop (i + 1)) := by simp [firstI, h0]
      rw [e2]
      exact p68s hE _ _ i x 0 0 hd hb (by simp) (getI hx) (by simp [h0]) (iIn i (by omega)) (l68 hE xs hm m (i + 1) (by omega) 0) j
    · have e2 : firstI (x :: xs.drop (i + 1)) = x := by simp [firstI, h0]
      rw [e2]
      exact p68e hE _ _ i x 0 0 hd hb (by simp) (getI hx) (by simp [h0]) (fun j => outK_ret (ends_ret (by kernel_rfl))) j
theorem K68 (hE : EnvOk E) (xs : List Int) (hm : xs.length ≤ 4000000) : COut E 0 [] 68 [dI xs] (iI (firstI xs)) [] :=
  cOut_start Tryz.func68 rfl (p68a hE _ _ 0 0 0 0 (l68 hE xs hm xs.length 0 (by omega) 0) fun _ => undef)
theorem l25 (hE : EnvOk E) (xs : List Int) (hm : xs.length ≤ 4000000) :
    ∀ m i, m + i = xs.length → ∀ x j, OutK E 0 0 (q25 (iD xs) xs.length i x 0 0 j) (Go.Ev.Ends E Tryz.f25 (iI (firstI (xs.drop i))) [])
  | 0, i, hk, x, j => by
    have e1 : xs.drop i = [] := List.drop_eq_nil_of_le (by omega)
    rw [e1]
    exact p25x hE _ _ i x 0 0 (decide_eq_false (by simp only [Int.ofNat_eq_natCast]; omega)) (fun j => outK_ret (ends_ret (by kernel_rfl))) j
  | m + 1, i, hk, _, j => by
    have hlt : i < xs.length := by omega
    have hx : xs[i]? = some xs[i] := List.getElem?_eq_getElem hlt
    have e1 : xs.drop i = xs[i] :: xs.drop (i + 1) := List.drop_eq_getElem_cons hlt
    rw [e1]
    generalize xs[i] = x at hx e1
    have hd : decide (Int.ofNat i < (xs.length : Int)) = true := decide_eq_true (by simp only [Int.ofNat_eq_natCast]; omega)
    have hb : (0 : Int) ≤ Int.ofNat i ∧ Int.ofNat i < (xs.length : Int) := (by simp only [Int.ofNat_eq_natCast]; omega)
    by_cases h0 : x = 0
    · have e2 : firstI (x :: xs.drop (i + 1)) = firstI (xs.drop (i + 1)) := by simp [firstI, h0]
      rw [e2]
      exact p25s hE _ _ i x 0 0 hd hb (by simp) (getI hx) (by simp [h0]) (iIn i (by omega)) (l25 hE xs hm m (i + 1) (by omega) 0) j
    · have e2 : firstI (x :: xs.drop (i + 1)) = x := by simp [firstI, h0]
      rw [e2]
      exact p25e hE _ _ i x 0 0 hd hb (by simp) (getI hx) (by simp [h0]) hb (by simp) (getI hx) (fun j => outK_ret (ends_ret (by kernel_rfl))) j
theorem K25 (hE : EnvOk E) (xs : List Int) (hm : xs.length ≤ 4000000) : COut E 0 [] 25 [dI xs] (iI (firstI xs)) [] :=
  cOut_start Tryz.func25 rfl (p25a hE _ _ 0 0 0 0 (l25 hE xs hm xs.length 0 (by omega) 0) fun _ => undef)
theorem K75 (hE : EnvOk E) (b : Bool) (e : Int) : COut E 0 [] 75 [iB b, iI e] (iI (if b then e else 0)) [] := by
  cases b with
  | true => exact cOut_start Tryz.func75 rfl (p75t hE 0 0 0 0 0 0 0 0 0 0 0 (e) 0 0 0 0 0 0 true rfl (fun j => outK_ret (ends_ret (by kernel_rfl))) fun _ => undef)
  | false => exact cOut_start Tryz.func75 rfl (p75f hE 0 0 0 0 0 0 0 0 0 0 0 (e) 0 0 0 0 0 0 false rfl (fun j => outK_ret (ends_ret (by kernel_rfl))) fun _ => undef)
theorem K70 (hE : EnvOk E) (b : Bool) (e : Int) : COut E 0 [] 70 [iB b, iI e] (iI (if b then e else 0)) [] := by
  cases b with
  | true => exact cOut_start Tryz.func70 rfl (p70t hE 0 0 0 0 0 0 0 0 0 0 0 (e) 0 0 0 0 0 0 true rfl (fun j => outK_ret (ends_ret (by kernel_rfl))) fun _ => undef)
  | false => exact cOut_start Tryz.func70 rfl (p70f hE 0 0 0 0 0 0 0 0 0 0 0 (e) 0 0 0 0 0 0 false rfl (fun j => outK_ret (ends_ret (by kernel_rfl))) fun _ => undef)
theorem K27 (hE : EnvOk E) (z a b : Int) : COut E 0 [] 27 [iI z, iI a, iI b] (iI (rngI a b z)) [] := by
  by_cases h : z < a
  · have e : rngI a b z = 3 := by simp [rngI, h]
    have h1 : decide (z < a) = true := decide_eq_true h
    rw [e]
    exact cOut_start Tryz.func27 rfl (p27a hE 0 0 0 0 0 (z) (a) (b) 0 0 0 (3) 0 0 0 0 0 0 false (by rw [h1]; rfl) (by rw [h1]; rfl) (by rw [h1]; rfl) h1 (K75 hE true 3) (fun j => outK_ret (ends_ret (by kernel_rfl))) fun _ => undef)
  · have h1 : decide (z < a) = false := decide_eq_false h
    have h2 := K75 hE (decide (z > b)) 3
    have e : rngI a b z = if decide (z > b) = true then 3 else 0 := by
      unfold rngI
      by_cases g : b < z
      · rw [if_pos (.inr g), if_pos (decide_eq_true g)]
      · rw [if_neg (by omega), if_neg (by simp; omega)]
    rw [e]
    exact cOut_start Tryz.func27 rfl (p27b hE 0 0 0 0 0 (z) (a) (b) 0 0 0 (_) 0 0 0 0 0 0 false (by rw [h1]; rfl) (by rw [h1]; rfl) (by rw [h1]; rfl) h1 h2 (fun j => outK_ret (ends_ret (by kernel_rfl))) fun _ => undef)

/-! Clocks. -/
theorem wrapS {n : Int} (h0 : -9223372036854775808 ≤ n) (h1 : n ≤ 9223372036854775807) : IntKind.i64.wrap n = n := by
  have := wrap_id h0 h1
  rwa [wrapF_eq] at this
end
end Go.Proofs.YtbijijanflgknaaGreatDoor

end

/-! SeCl -/
section
open Go Go.Ev
namespace Go.Proofs.YtbijijanflgknaaGreatDoor
noncomputable section
set_option maxRecDepth 100000
set_option maxHeartbeats 20000000
/-! Set, Slewed, and what the reference says of both. -/
end
end Go.Proofs.YtbijijanflgknaaGreatDoor

end

/-! SeBk -/
section
open Go Go.Ev
namespace Go.Proofs.YtbijijanflgknaaGreatDoor
noncomputable section
set_option maxRecDepth 100000
set_option maxHeartbeats 20000000
def s90 (n0 n1 n2 n3 n4 _a0 _a1 _a2 _a3 _a4 _c0 _c1 _c2 _c3 _c4 _e _f _g _h _k _r _u : Int) (_j : Nat → Value) : St := startK Tryz.f90 [] [.e (.agg [.v (.int .i64 n0), .v (.int .i64 n1), .v (.int .i64 n2), .v (.int .i64 n3), .v (.int .i64 n4)])]
def s37 (n0 n1 n2 n3 n4 _a0 _a1 _a2 _a3 _a4 _c0 _c1 _c2 _c3 _c4 _e _f _g _h _k _r _u : Int) (_j : Nat → Value) : St := startK Tryz.f37 [] [.e (.agg [.v (.int .i64 n0), .v (.int .i64 n1), .v (.int .i64 n2), .v (.int .i64 n3), .v (.int .i64 n4)])]
def s35 (n0 n1 n2 n3 n4 _a0 _a1 _a2 _a3 _a4 _c0 _c1 _c2 _c3 _c4 _e _f _g _h _k _r _u : Int) (_j : Nat → Value) : St := startK Tryz.f35 [] [.e (.agg [.v (.int .i64 n0), .v (.int .i64 n1), .v (.int .i64 n2), .v (.int .i64 n3), .v (.int .i64 n4)])]
def s93 (n0 n1 n2 n3 n4 _x0 _x1 _x2 _x3 _x4 _x5 _x6 _x7 _x8 _x9 _x10 _x11 _x12 _x13 _x14 _x15 _y0 _y1 _y2 _y3 _y4 _y5 _y6 _y7 _y8 _y9 _y10 _y11 _y12 _y13 _y14 _y15 _z0 _z1 _z2 _z3 _z4 _z5 _z6 _z7 _z8 _z9 _z10 _z11 _z12 _z13 _z14 _z15 _n _e _f _g _u : Int) (_j : Nat → Value) : St := startK Tryz.f93 [] [.e (.agg [.v (.int .i64 n0), .v (.int .i64 n1), .v (.int .i64 n2), .v (.int .i64 n3), .v (.int .i64 n4)])]
def s94 (_n0 _n1 _n2 _n3 _n4 x0 x1 x2 x3 x4 x5 x6 x7 x8 x9 x10 x11 x12 x13 x14 x15 _y0 _y1 _y2 _y3 _y4 _y5 _y6 _y7 _y8 _y9 _y10 _y11 _y12 _y13 _y14 _y15 _z0 _z1 _z2 _z3 _z4 _z5 _z6 _z7 _z8 _z9 _z10 _z11 _z12 _z13 _z14 _z15 _n _e _f _g _u : Int) (_j : Nat → Value) : St := startK Tryz.f94 [] [.e (.agg [.v (.int .u8 x0), .v (.int .u8 x1), .v (.int .u8 x2), .v (.int .u8 x3), .v (.int .u8 x4), .v (.int .u8 x5), .v (.int .u8 x6), .v (.int .u8 x7), .v (.int .u8 x8), .v (.int .u8 x9), .v (.int .u8 x10), .v (.int .u8 x11), .v (.int .u8 x12), .v (.int .u8 x13), .v (.int .u8 x14), .v (.int .u8 x15)])]
def s95_0 (_n0 _n1 _n2 _n3 _n4 x0 x1 x2 x3 x4 x5 x6 x7 x8 x9 x10 x11 x12 x13 x14 x15 _y0 _y1 _y2 _y3 _y4 _y5 _y6 _y7 _y8 _y9 _y10 _y11 _y12 _y13 _y14 _y15 _z0 _z1 _z2 _z3 _z4 _z5 _z6 _z7 _z8 _z9 _z10 _z11 _z12 _z13 _z14 _z15 n _e _f _g _u : Int) (_j : Nat → Value) : St := startK Tryz.f95 [] [.e (.agg [.v (.int .u8 x0), .v (.int .u8 x1), .v (.int .u8 x2), .v (.int .u8 x3), .v (.int .u8 x4), .v (.int .u8 x5), .v (.int .u8 x6), .v (.int .u8 x7), .v (.int .u8 x8), .v (.int .u8 x9), .v (.int .u8 x10), .v (.int .u8 x11), .v (.int .u8 x12), .v (.int .u8 x13), .v (.int .u8 x14), .v (.int .u8 x15)]), iI 0, iI 4, iI n]
def s96_0 (_n0 _n1 _n2 _n3 _n4 x0 x1 x2 x3 x4 x5 x6 x7 x8 x9 x10 x11 x12 x13 x14 x15 _y0 _y1 _y2 _y3 _y4 _y5 _y6 _y7 _y8 _y9 _y10 _y11 _y12 _y13 _y14 _y15 _z0 _z1 _z2 _z3 _z4 _z5 _z6 _z7 _z8 _z9 _z10 _z11 _z12 _z13 _z14 _z15 _n _e _f _g _u : Int) (_j : Nat → Value) : St := startK Tryz.f96 [] [.e (.agg [.v (.int .u8 x0), .v (.int .u8 x1), .v (.int .u8 x2), .v (.int .u8 x3), .v (.int .u8 x4), .v (.int .u8 x5), .v (.int .u8 x6), .v (.int .u8 x7), .v (.int .u8 x8), .v (.int .u8 x9), .v (.int .u8 x10), .v (.int .u8 x11), .v (.int .u8 x12), .v (.int .u8 x13), .v (.int .u8 x14), .v (.int .u8 x15)]), iI 0, iI 4]
def s95_1 (_n0 _n1 _n2 _n3 _n4 x0 x1 x2 x3 x4 x5 x6 x7 x8 x9 x10 x11 x12 x13 x14 x15 _y0 _y1 _y2 _y3 _y4 _y5 _y6 _y7 _y8 _y9 _y10 _y11 _y12 _y13 _y14 _y15 _z0 _z1 _z2 _z3 _z4 _z5 _z6 _z7 _z8 _z9 _z10 _z11 _z12 _z13 _z14 _z15 n _e _f _g _u : Int) (_j : Nat → Value) : St := startK Tryz.f95 [] [.e (.agg [.v (.int .u8 x0), .v (.int .u8 x1), .v (.int .u8 x2), .v (.int .u8 x3), .v (.int .u8 x4), .v (.int .u8 x5), .v (.int .u8 x6), .v (.int .u8 x7), .v (.int .u8 x8), .v (.int .u8 x9), .v (.int .u8 x10), .v (.int .u8 x11), .v (.int .u8 x12), .v (.int .u8 x13), .v (.int .u8 x14), .v (.int .u8 x15)]), iI 4, iI 8, iI n]
def s96_1 (_n0 _n1 _n2 _n3 _n4 x0 x1 x2 x3 x4 x5 x6 x7 x8 x9 x10 x11 x12 x13 x14 x15 _y0 _y1 _y2 _y3 _y4 _y5 _y6 _y7 _y8 _y9 _y10 _y11 _y12 _y13 _y14 _y15 _z0 _z1 _z2 _z3 _z4 _z5 _z6 _z7 _z8 _z9 _z10 _z11 _z12 _z13 _z14 _z15 _n _e _f _g _u : Int) (_j : Nat → Value) : St := startK Tryz.f96 [] [.e (.agg [.v (.int .u8 x0), .v (.int .u8 x1), .v (.int .u8 x2), .v (.int .u8 x3), .v (.int .u8 x4), .v (.int .u8 x5), .v (.int .u8 x6), .v (.int .u8 x7), .v (.int .u8 x8), .v (.int .u8 x9), .v (.int .u8 x10), .v (.int .u8 x11), .v (.int .u8 x12), .v (.int .u8 x13), .v (.int .u8 x14), .v (.int .u8 x15)]), iI 4, iI 8]
def s95_2 (_n0 _n1 _n2 _n3 _n4 x0 x1 x2 x3 x4 x5 x6 x7 x8 x9 x10 x11 x12 x13 x14 x15 _y0 _y1 _y2 _y3 _y4 _y5 _y6 _y7 _y8 _y9 _y10 _y11 _y12 _y13 _y14 _y15 _z0 _z1 _z2 _z3 _z4 _z5 _z6 _z7 _z8 _z9 _z10 _z11 _z12 _z13 _z14 _z15 n _e _f _g _u : Int) (_j : Nat → Value) : St := startK Tryz.f95 [] [.e (.agg [.v (.int .u8 x0), .v (.int .u8 x1), .v (.int .u8 x2), .v (.int .u8 x3), .v (.int .u8 x4), .v (.int .u8 x5), .v (.int .u8 x6), .v (.int .u8 x7), .v (.int .u8 x8), .v (.int .u8 x9), .v (.int .u8 x10), .v (.int .u8 x11), .v (.int .u8 x12), .v (.int .u8 x13), .v (.int .u8 x14), .v (.int .u8 x15)]), iI 8, iI 11, iI n]
def s96_2 (_n0 _n1 _n2 _n3 _n4 x0 x1 x2 x3 x4 x5 x6 x7 x8 x9 x10 x11 x12 x13 x14 x15 _y0 _y1 _y2 _y3 _y4 _y5 _y6 _y7 _y8 _y9 _y10 _y11 _y12 _y13 _y14 _y15 _z0 _z1 _z2 _z3 _z4 _z5 _z6 _z7 _z8 _z9 _z10 _z11 _z12 _z13 _z14 _z15 _n _e _f _g _u : Int) (_j : Nat → Value) : St := startK Tryz.f96 [] [.e (.agg [.v (.int .u8 x0), .v (.int .u8 x1), .v (.int .u8 x2), .v (.int .u8 x3), .v (.int .u8 x4), .v (.int .u8 x5), .v (.int .u8 x6), .v (.int .u8 x7), .v (.int .u8 x8), .v (.int .u8 x9), .v (.int .u8 x10), .v (.int .u8 x11), .v (.int .u8 x12), .v (.int .u8 x13), .v (.int .u8 x14), .v (.int .u8 x15)]), iI 8, iI 11]
def s95_3 (_n0 _n1 _n2 _n3 _n4 x0 x1 x2 x3 x4 x5 x6 x7 x8 x9 x10 x11 x12 x13 x14 x15 _y0 _y1 _y2 _y3 _y4 _y5 _y6 _y7 _y8 _y9 _y10 _y11 _y12 _y13 _y14 _y15 _z0 _z1 _z2 _z3 _z4 _z5 _z6 _z7 _z8 _z9 _z10 _z11 _z12 _z13 _z14 _z15 n _e _f _g _u : Int) (_j : Nat → Value) : St := startK Tryz.f95 [] [.e (.agg [.v (.int .u8 x0), .v (.int .u8 x1), .v (.int .u8 x2), .v (.int .u8 x3), .v (.int .u8 x4), .v (.int .u8 x5), .v (.int .u8 x6), .v (.int .u8 x7), .v (.int .u8 x8), .v (.int .u8 x9), .v (.int .u8 x10), .v (.int .u8 x11), .v (.int .u8 x12), .v (.int .u8 x13), .v (.int .u8 x14), .v (.int .u8 x15)]), iI 11, iI 14, iI n]
def s96_3 (_n0 _n1 _n2 _n3 _n4 x0 x1 x2 x3 x4 x5 x6 x7 x8 x9 x10 x11 x12 x13 x14 x15 _y0 _y1 _y2 _y3 _y4 _y5 _y6 _y7 _y8 _y9 _y10 _y11 _y12 _y13 _y14 _y15 _z0 _z1 _z2 _z3 _z4 _z5 _z6 _z7 _z8 _z9 _z10 _z11 _z12 _z13 _z14 _z15 _n _e _f _g _u : Int) (_j : Nat → Value) : St := startK Tryz.f96 [] [.e (.agg [.v (.int .u8 x0), .v (.int .u8 x1), .v (.int .u8 x2), .v (.int .u8 x3), .v (.int .u8 x4), .v (.int .u8 x5), .v (.int .u8 x6), .v (.int .u8 x7), .v (.int .u8 x8), .v (.int .u8 x9), .v (.int .u8 x10), .v (.int .u8 x11), .v (.int .u8 x12), .v (.int .u8 x13), .v (.int .u8 x14), .v (.int .u8 x15)]), iI 11, iI 14]
def s95_4 (_n0 _n1 _n2 _n3 _n4 x0 x1 x2 x3 x4 x5 x6 x7 x8 x9 x10 x11 x12 x13 x14 x15 _y0 _y1 _y2 _y3 _y4 _y5 _y6 _y7 _y8 _y9 _y10 _y11 _y12 _y13 _y14 _y15 _z0 _z1 _z2 _z3 _z4 _z5 _z6 _z7 _z8 _z9 _z10 _z11 _z12 _z13 _z14 _z15 n _e _f _g _u : Int) (_j : Nat → Value) : St := startK Tryz.f95 [] [.e (.agg [.v (.int .u8 x0), .v (.int .u8 x1), .v (.int .u8 x2), .v (.int .u8 x3), .v (.int .u8 x4), .v (.int .u8 x5), .v (.int .u8 x6), .v (.int .u8 x7), .v (.int .u8 x8), .v (.int .u8 x9), .v (.int .u8 x10), .v (.int .u8 x11), .v (.int .u8 x12), .v (.int .u8 x13), .v (.int .u8 x14), .v (.int .u8 x15)]), iI 14, iI 15, iI n]
def s96_4 (_n0 _n1 _n2 _n3 _n4 x0 x1 x2 x3 x4 x5 x6 x7 x8 x9 x10 x11 x12 x13 x14 x15 _y0 _y1 _y2 _y3 _y4 _y5 _y6 _y7 _y8 _y9 _y10 _y11 _y12 _y13 _y14 _y15 _z0 _z1 _z2 _z3 _z4 _z5 _z6 _z7 _z8 _z9 _z10 _z11 _z12 _z13 _z14 _z15 _n _e _f _g _u : Int) (_j : Nat → Value) : St := startK Tryz.f96 [] [.e (.agg [.v (.int .u8 x0), .v (.int .u8 x1), .v (.int .u8 x2), .v (.int .u8 x3), .v (.int .u8 x4), .v (.int .u8 x5), .v (.int .u8 x6), .v (.int .u8 x7), .v (.int .u8 x8), .v (.int .u8 x9), .v (.int .u8 x10), .v (.int .u8 x11), .v (.int .u8 x12), .v (.int .u8 x13), .v (.int .u8 x14), .v (.int .u8 x15)]), iI 14, iI 15]
def p90_end (_n0 _n1 _n2 _n3 _n4 _a0 _a1 _a2 _a3 _a4 c0 c1 c2 c3 c4 _e _f _g _h _k _r _u : Int) (j : Nat → Value) : St := ⟨[(.some ⟨[(.v (.int .i64 (c0))), (.v (.int .i64 (c1))), (.v (.int .i64 (c2))), (.v (.int .i64 (c3))), (.v (.int .i64 (c4)))], 5, 68, true, .cells⟩)], [(.code .ret)], mkT j [(2, (.e (.one (.ptr 0 0))))] 24 0⟩
theorem p90 (hE : EnvOk E) (n0 n1 n2 n3 n4 a0 a1 a2 a3 a4 c0 c1 c2 c3 c4 e f g h k r u : Int) (h0 : ((iI (if (0 : Int) > n0 then (0 : Int) else n0)) : AV) = (iI (a0))) (h2 : ((iI (if Int.ofNat (nat_lit 999999999) < a0 then Int.ofNat (nat_lit 999999999) else a0)) : AV) = (iI (c0))) (h3 : ((iI (if (0 : Int) > n1 then (0 : Int) else n1)) : AV) = (iI (a1))) (h5 : ((iI (if Int.ofNat (nat_lit 100000000) < a1 then Int.ofNat (nat_lit 100000000) else a1)) : AV) = (iI (c1))) (h6 : ((iI (if (0 : Int) > n2 then (0 : Int) else n2)) : AV) = (iI (a2))) (h8 : ((iI (if Int.ofNat (nat_lit 999999) < a2 then Int.ofNat (nat_lit 999999) else a2)) : AV) = (iI (c2))) (h9 : ((iI (if (0 : Int) > n3 then (0 : Int) else n3)) : AV) = (iI (a3))) (h11 : ((iI (if Int.ofNat (nat_lit 999999) < a3 then Int.ofNat (nat_lit 999999) else a3)) : AV) = (iI (c3))) (h12 : ((iI (if (0 : Int) > n4 then (0 : Int) else n4)) : AV) = (iI (a4))) (h14 : ((iI (if Int.ofNat (nat_lit 7) < a4 then Int.ofNat (nat_lit 7) else a4)) : AV) = (iI (c4))) {Φ : Res → Prop} (ho : ∀ j, OutK E 0 0 (p90_end n0 n1 n2 n3 n4 a0 a1 a2 a3 a4 c0 c1 c2 c3 c4 e f g h k r u j) Φ) (j : Nat → Value) : OutK E 0 0 (s90 n0 n1 n2 n3 n4 a0 a1 a2 a3 a4 c0 c1 c2 c3 c4 e f g h k r u j) Φ :=
  outK_seg hE (R4_ok hE) [.run 18, (.ops [(4, (.rn (iI (a0)))), (7, (.rn (iI (c0))))] []), .run 14, (.ops [(4, (.rn (iI (a1)))), (7, (.rn (iI (c1))))] []), .run 14, (.ops [(4, (.rn (iI (a2)))), (7, (.rn (iI (c2))))] []), .run 14, (.ops [(4, (.rn (iI (a3)))), (7, (.rn (iI (c3))))] []), .run 14, (.ops [(4, (.rn (iI (a4)))), (7, (.rn (iI (c4))))] []), .run 10] [2] (s' := fun j => ⟨[(.some ⟨[(.v (.int .i64 (c0))), (.v (.int .i64 (c1))), (.v (.int .i64 (c2))), (.v (.int .i64 (c3))), (.v (.int .i64 (c4)))], 5, 68, true, .cells⟩), (.some ⟨[(.v (.int .i64 (c0))), (.v (.int .i64 (c1))), (.v (.int .i64 (c2))), (.v (.int .i64 (c3))), (.v (.int .i64 (c4)))], 5, 68, true, .cells⟩), (.some ⟨[(.v (.func (.func 143) #[] #[])), (.v (.int .i64 999999999)), (.v (.int .i64 0)), (.v (.int .i64 4))], 4, 212, true, .cells⟩), (.some ⟨[(.v (.func (.func 144) #[] #[])), (.v (.int .i64 100000000)), (.v (.int .i64 4)), (.v (.int .i64 8))], 4, 212, true, .cells⟩), (.some ⟨[(.v (.func (.func 145) #[] #[])), (.v (.int .i64 999999)), (.v (.int .i64 8)), (.v (.int .i64 11))], 4, 212, true, .cells⟩), (.some ⟨[(.v (.func (.func 146) #[] #[])), (.v (.int .i64 999999)), (.v (.int .i64 11)), (.v (.int .i64 14))], 4, 212, true, .cells⟩), (.some ⟨[(.v (.func (.func 147) #[] #[])), (.v (.int .i64 7)), (.v (.int .i64 14)), (.v (.int .i64 15))], 4, 212, true, .cells⟩)], [(.code .ret)], mkT j [(2, (.e (.one (.ptr 1 0))))] 24 0⟩) (fun j => by kernel_rfl) (aP h0 <| aP (rfl : (true : Bool) = true) <| aP h2 <| aP h3 <| aP (rfl : (true : Bool) = true) <| aP h5 <| aP h6 <| aP (rfl : (true : Bool) = true) <| aP h8 <| aP h9 <| aP (rfl : (true : Bool) = true) <| aP h11 <| aP h12 <| aP (rfl : (true : Bool) = true) <| aP h14 <| aZ)
    fun j => outK_gc [1] (by decide) (by kernel_rfl) (by kernel_rfl) (by kernel_rfl) (ho j)
def p37t_end (_n0 _n1 _n2 _n3 _n4 _a0 _a1 _a2 _a3 _a4 _c0 _c1 _c2 _c3 _c4 e _f _g _h _k _r _u : Int) (j : Nat → Value) : St := ⟨[], [(.code .ret)], mkT j [(2, (iI (e)))] 8 0⟩
theorem p37t (hE : EnvOk E) (n0 n1 n2 n3 n4 a0 a1 a2 a3 a4 c0 c1 c2 c3 c4 e f g h k r u : Int) (h0 : COut E 0 [] 90 [(.e (.agg [(.v (.int .i64 (n0))), (.v (.int .i64 (n1))), (.v (.int .i64 (n2))), (.v (.int .i64 (n3))), (.v (.int .i64 (n4)))]))] (.e (.agg [(.v (.int .i64 (c0))), (.v (.int .i64 (c1))), (.v (.int .i64 (c2))), (.v (.int .i64 (c3))), (.v (.int .i64 (c4)))])) []) (h3 : EqOk E 68 [(.v (.int .i64 (n0))), (.v (.int .i64 (n1))), (.v (.int .i64 (n2))), (.v (.int .i64 (n3))), (.v (.int .i64 (n4)))] [(.v (.int .i64 (c0))), (.v (.int .i64 (c1))), (.v (.int .i64 (c2))), (.v (.int .i64 (c3))), (.v (.int .i64 (c4)))] false) (h4 : COut E 0 [] 70 [(iB true), (iI 3)] (iI (e)) []) {Φ : Res → Prop} (ho : ∀ j, OutK E 0 0 (p37t_end n0 n1 n2 n3 n4 a0 a1 a2 a3 a4 c0 c1 c2 c3 c4 e f g h k r u j) Φ) (j : Nat → Value) : OutK E 0 0 (s37 n0 n1 n2 n3 n4 a0 a1 a2 a3 a4 c0 c1 c2 c3 c4 e f g h k r u j) Φ :=
  outK_seg hE (R0_ok hE) [.run 3, (.ops [(2, (.c0 (.e (.agg [(.v (.int .i64 (c0))), (.v (.int .i64 (c1))), (.v (.int .i64 (c2))), (.v (.int .i64 (c3))), (.v (.int .i64 (c4)))])))), (3, (.eqs true)), (4, (.c0 (iI (e))))] [])] [2] (s' := fun j => ⟨[(.some ⟨[(.v (.int .i64 (n0))), (.v (.int .i64 (n1))), (.v (.int .i64 (n2))), (.v (.int .i64 (n3))), (.v (.int .i64 (n4)))], 5, 68, true, .cells⟩)], [(.code .ret)], mkT j [(2, (iI (e)))] 8 0⟩) (fun j => by kernel_rfl) (aP h0 <| aN <| aP (rfl : (true : Bool) = true) <| aP h3 <| aP h4 <| aN <| aZ)
    fun j => outK_gc [] (by decide) (by kernel_rfl) (by kernel_rfl) (by kernel_rfl) (ho j)
def p37f_end (_n0 _n1 _n2 _n3 _n4 _a0 _a1 _a2 _a3 _a4 _c0 _c1 _c2 _c3 _c4 e _f _g _h _k _r _u : Int) (j : Nat → Value) : St := ⟨[], [(.code .ret)], mkT j [(2, (iI (e)))] 8 0⟩
theorem p37f (hE : EnvOk E) (n0 n1 n2 n3 n4 a0 a1 a2 a3 a4 c0 c1 c2 c3 c4 e f g h k r u : Int) (h0 : COut E 0 [] 90 [(.e (.agg [(.v (.int .i64 (n0))), (.v (.int .i64 (n1))), (.v (.int .i64 (n2))), (.v (.int .i64 (n3))), (.v (.int .i64 (n4)))]))] (.e (.agg [(.v (.int .i64 (c0))), (.v (.int .i64 (c1))), (.v (.int .i64 (c2))), (.v (.int .i64 (c3))), (.v (.int .i64 (c4)))])) []) (h3 : EqOk E 68 [(.v (.int .i64 (n0))), (.v (.int .i64 (n1))), (.v (.int .i64 (n2))), (.v (.int .i64 (n3))), (.v (.int .i64 (n4)))] [(.v (.int .i64 (c0))), (.v (.int .i64 (c1))), (.v (.int .i64 (c2))), (.v (.int .i64 (c3))), (.v (.int .i64 (c4)))] true) (h4 : COut E 0 [] 70 [(iB false), (iI 3)] (iI (e)) []) {Φ : Res → Prop} (ho : ∀ j, OutK E 0 0 (p37f_end n0 n1 n2 n3 n4 a0 a1 a2 a3 a4 c0 c1 c2 c3 c4 e f g h k r u j) Φ) (j : Nat → Value) : OutK E 0 0 (s37 n0 n1 n2 n3 n4 a0 a1 a2 a3 a4 c0 c1 c2 c3 c4 e f g h k r u j) Φ :=
  outK_seg hE (R0_ok hE) [.run 3, (.ops [(2, (.c0 (.e (.agg [(.v (.int .i64 (c0))), (.v (.int .i64 (c1))), (.v (.int .i64 (c2))), (.v (.int .i64 (c3))), (.v (.int .i64 (c4)))])))), (3, (.eqs false)), (4, (.c0 (iI (e))))] [])] [2] (s' := fun j => ⟨[(.some ⟨[(.v (.int .i64 (n0))), (.v (.int .i64 (n1))), (.v (.int .i64 (n2))), (.v (.int .i64 (n3))), (.v (.int .i64 (n4)))], 5, 68, true, .cells⟩)], [(.code .ret)], mkT j [(2, (iI (e)))] 8 0⟩) (fun j => by kernel_rfl) (aP h0 <| aN <| aP (rfl : (true : Bool) = true) <| aP h3 <| aP h4 <| aN <| aZ)
    fun j => outK_gc [] (by decide) (by kernel_rfl) (by kernel_rfl) (by kernel_rfl) (ho j)
def p35_end (_n0 _n1 _n2 _n3 _n4 _a0 _a1 _a2 _a3 _a4 _c0 _c1 _c2 _c3 _c4 _e _f _g _h _k r _u : Int) (j : Nat → Value) : St := ⟨[], [(.code .ret)], mkT j [(2, (iI (r)))] 20 0⟩
theorem p35 (hE : EnvOk E) (n0 n1 n2 n3 n4 a0 a1 a2 a3 a4 c0 c1 c2 c3 c4 e f g h k r u : Int) (h0 : COut E 0 [] 27 [(iI (n0)), (iI 0), (iI 999999999)] (iI (e)) []) (h2 : COut E 0 [] 27 [(iI (n1)), (iI 0), (iI 100000000)] (iI (f)) []) (h4 : COut E 0 [] 27 [(iI (n2)), (iI 0), (iI 999999)] (iI (g)) []) (h6 : COut E 0 [] 27 [(iI (n3)), (iI 0), (iI 999999)] (iI (h)) []) (h9 : COut E 0 [] 27 [(iI (n4)), (iI 0), (iI 7)] (iI (k)) []) (h11 : COut E 2 [(.some ⟨[(.v (.int .i64 (n0))), (.v (.int .i64 (n1))), (.v (.int .i64 (n2))), (.v (.int .i64 (n3))), (.v (.int .i64 (n4)))], 5, 60, true, .cells⟩), (.some ⟨[(.v (.int .i64 (e))), (.v (.int .i64 (f))), (.v (.int .i64 (g))), (.v (.int .i64 (h))), (.v (.int .i64 (k)))], 5, 3, true, .cells⟩)] 25 [(.e (.one (.slc 1 0 5 1 5 true)))] (iI (r)) [(.some ⟨[(.v (.int .i64 (n0))), (.v (.int .i64 (n1))), (.v (.int .i64 (n2))), (.v (.int .i64 (n3))), (.v (.int .i64 (n4)))], 5, 60, true, .cells⟩), (.some ⟨[(.v (.int .i64 (e))), (.v (.int .i64 (f))), (.v (.int .i64 (g))), (.v (.int .i64 (h))), (.v (.int .i64 (k)))], 5, 3, true, .cells⟩)]) {Φ : Res → Prop} (ho : ∀ j, OutK E 0 0 (p35_end n0 n1 n2 n3 n4 a0 a1 a2 a3 a4 c0 c1 c2 c3 c4 e f g h k r u j) Φ) (j : Nat → Value) : OutK E 0 0 (s35 n0 n1 n2 n3 n4 a0 a1 a2 a3 a4 c0 c1 c2 c3 c4 e f g h k r u j) Φ :=
  outK_seg hE (R0_ok hE) [.run 3, (.ops [(2, (.c0 (iI (e)))), (5, (.c0 (iI (f)))), (8, (.c0 (iI (g)))), (11, (.c0 (iI (h)))), (14, (.c0 (iI (k)))), (16, (.d (.c1 (iI (r)))))] [])] [2] (s' := fun j => ⟨[(.some ⟨[(.v (.int .i64 (n0))), (.v (.int .i64 (n1))), (.v (.int .i64 (n2))), (.v (.int .i64 (n3))), (.v (.int .i64 (n4)))], 5, 60, true, .cells⟩), (.some ⟨[(.v (.int .i64 (e))), (.v (.int .i64 (f))), (.v (.int .i64 (g))), (.v (.int .i64 (h))), (.v (.int .i64 (k)))], 5, 3, true, .cells⟩)], [(.code .ret)], mkT j [(2, (iI (r)))] 20 0⟩) (fun j => by kernel_rfl) (aP h0 <| aN <| aP h2 <| aN <| aP h4 <| aN <| aP h6 <| aN <| aP (rfl : (true : Bool) = true) <| aP h9 <| aN <| aP h11 <| aN <| aZ)
    fun j => outK_gc [] (by decide) (by kernel_rfl) (by kernel_rfl) (by kernel_rfl) (ho j)
def p93_end (_n0 _n1 _n2 _n3 _n4 x0 x1 x2 x3 x4 x5 x6 x7 x8 x9 x10 x11 x12 x13 x14 _x15 _y0 _y1 _y2 _y3 _y4 _y5 _y6 _y7 _y8 _y9 _y10 _y11 _y12 _y13 _y14 _y15 _z0 _z1 _z2 _z3 _z4 _z5 _z6 _z7 _z8 _z9 _z10 _z11 _z12 _z13 _z14 _z15 _n _e _f _g _u : Int) (j : Nat → Value) : St := ⟨[(.some ⟨[(.v (.int .u8 (x0))), (.v (.int .u8 (x1))), (.v (.int .u8 (x2))), (.v (.int .u8 (x3))), (.v (.int .u8 (x4))), (.v (.int .u8 (x5))), (.v (.int .u8 (x6))), (.v (.int .u8 (x7))), (.v (.int .u8 (x8))), (.v (.int .u8 (x9))), (.v (.int .u8 (x10))), (.v (.int .u8 (x11))), (.v (.int .u8 (x12))), (.v (.int .u8 (x13))), (.v (.int .u8 (x14))), (.v (.int .u8 0))], 16, 92, true, .cells⟩)], [(.code .ret)], mkT j [(2, (.e (.one (.ptr 0 0))))] 34 0⟩
theorem p93 (hE : EnvOk E) (n0 n1 n2 n3 n4 x0 x1 x2 x3 x4 x5 x6 x7 x8 x9 x10 x11 x12 x13 x14 x15 y0 y1 y2 y3 y4 y5 y6 y7 y8 y9 y10 y11 y12 y13 y14 y15 z0 z1 z2 z3 z4 z5 z6 z7 z8 z9 z10 z11 z12 z13 z14 z15 n e f g u : Int) (h0 : ((iU (IntKind.u8.wrap n0)) : AV) = (iU (x3))) (h1 : ((iI (n0.fdiv ((2 : Int) ^ (8 : Nat)))) : AV) = (iI (y3))) (h2 : ((iU (IntKind.u8.wrap y3)) : AV) = (iU (x2))) (h3 : ((iI (y3.fdiv ((2 : Int) ^ (8 : Nat)))) : AV) = (iI (y2))) (h4 : ((iU (IntKind.u8.wrap y2)) : AV) = (iU (x1))) (h5 : ((iI (y2.fdiv ((2 : Int) ^ (8 : Nat)))) : AV) = (iI (y1))) (h6 : ((iU (IntKind.u8.wrap y1)) : AV) = (iU (x0))) (h7 : ((iI (y1.fdiv ((2 : Int) ^ (8 : Nat)))) : AV) = (iI (y0))) (h8 : ((iU (IntKind.u8.wrap n1)) : AV) = (iU (x7))) (h9 : ((iI (n1.fdiv ((2 : Int) ^ (8 : Nat)))) : AV) = (iI (y7))) (h10 : ((iU (IntKind.u8.wrap y7)) : AV) = (iU (x6))) (h11 : ((iI (y7.fdiv ((2 : Int) ^ (8 : Nat)))) : AV) = (iI (y6))) (h12 : ((iU (IntKind.u8.wrap y6)) : AV) = (iU (x5))) (h13 : ((iI (y6.fdiv ((2 : Int) ^ (8 : Nat)))) : AV) = (iI (y5))) (h14 : ((iU (IntKind.u8.wrap y5)) : AV) = (iU (x4))) (h15 : ((iI (y5.fdiv ((2 : Int) ^ (8 : Nat)))) : AV) = (iI (y4))) (h16 : ((iU (IntKind.u8.wrap n2)) : AV) = (iU (x10))) (h17 : ((iI (n2.fdiv ((2 : Int) ^ (8 : Nat)))) : AV) = (iI (y10))) (h18 : ((iU (IntKind.u8.wrap y10)) : AV) = (iU (x9))) (h19 : ((iI (y10.fdiv ((2 : Int) ^ (8 : Nat)))) : AV) = (iI (y9))) (h20 : ((iU (IntKind.u8.wrap y9)) : AV) = (iU (x8))) (h21 : ((iI (y9.fdiv ((2 : Int) ^ (8 : Nat)))) : AV) = (iI (y8))) (h22 : ((iU (IntKind.u8.wrap n3)) : AV) = (iU (x13))) (h23 : ((iI (n3.fdiv ((2 : Int) ^ (8 : Nat)))) : AV) = (iI (y13))) (h24 : ((iU (IntKind.u8.wrap y13)) : AV) = (iU (x12))) (h25 : ((iI (y13.fdiv ((2 : Int) ^ (8 : Nat)))) : AV) = (iI (y12))) (h26 : ((iU (IntKind.u8.wrap y12)) : AV) = (iU (x11))) (h27 : ((iI (y12.fdiv ((2 : Int) ^ (8 : Nat)))) : AV) = (iI (y11))) (h28 : ((iU (IntKind.u8.wrap n4)) : AV) = (iU (x14))) (h29 : ((iI (n4.fdiv ((2 : Int) ^ (8 : Nat)))) : AV) = (iI (y14))) {Φ : Res → Prop} (ho : ∀ j, OutK E 0 0 (p93_end n0 n1 n2 n3 n4 x0 x1 x2 x3 x4 x5 x6 x7 x8 x9 x10 x11 x12 x13 x14 x15 y0 y1 y2 y3 y4 y5 y6 y7 y8 y9 y10 y11 y12 y13 y14 y15 z0 z1 z2 z3 z4 z5 z6 z7 z8 z9 z10 z11 z12 z13 z14 z15 n e f g u j) Φ) (j : Nat → Value) : OutK E 0 0 (s93 n0 n1 n2 n3 n4 x0 x1 x2 x3 x4 x5 x6 x7 x8 x9 x10 x11 x12 x13 x14 x15 y0 y1 y2 y3 y4 y5 y6 y7 y8 y9 y10 y11 y12 y13 y14 y15 z0 z1 z2 z3 z4 z5 z6 z7 z8 z9 z10 z11 z12 z13 z14 z15 n e f g u j) Φ :=
  outK_seg hE (R4_ok hE) [.run 32, (.ops [(2, (.rn (iU (x3))))] []), (.ops [(1, (.rn (iI (y3))))] []), .run 11, (.ops [(2, (.rn (iU (x2))))] []), (.ops [(1, (.rn (iI (y2))))] []), .run 11, (.ops [(2, (.rn (iU (x1))))] []), (.ops [(1, (.rn (iI (y1))))] []), .run 11, (.ops [(2, (.rn (iU (x0))))] []), (.ops [(1, (.rn (iI (y0))))] []), .run 34, (.ops [(2, (.rn (iU (x7))))] []), (.ops [(1, (.rn (iI (y7))))] []), .run 11, (.ops [(2, (.rn (iU (x6))))] []), (.ops [(1, (.rn (iI (y6))))] []), .run 11, (.ops [(2, (.rn (iU (x5))))] []), (.ops [(1, (.rn (iI (y5))))] []), .run 11, (.ops [(2, (.rn (iU (x4))))] []), (.ops [(1, (.rn (iI (y4))))] []), .run 34, (.ops [(2, (.rn (iU (x10))))] []), (.ops [(1, (.rn (iI (y10))))] []), .run 11, (.ops [(2, (.rn (iU (x9))))] []), (.ops [(1, (.rn (iI (y9))))] []), .run 11, (.ops [(2, (.rn (iU (x8))))] []), (.ops [(1, (.rn (iI (y8))))] []), .run 34, (.ops [(2, (.rn (iU (x13))))] []), (.ops [(1, (.rn (iI (y13))))] []), .run 11, (.ops [(2, (.rn (iU (x12))))] []), (.ops [(1, (.rn (iI (y12))))] []), .run 11, (.ops [(2, (.rn (iU (x11))))] []), (.ops [(1, (.rn (iI (y11))))] []), .run 34, (.ops [(2, (.rn (iU (x14))))] []), (.ops [(1, (.rn (iI (y14))))] []), .run 18] [2] (s' := fun j => ⟨[(.some ⟨[(.v (.int .i64 (n0))), (.v (.int .i64 (n1))), (.v (.int .i64 (n2))), (.v (.int .i64 (n3))), (.v (.int .i64 (n4)))], 5, 68, true, .cells⟩), (.some ⟨[(.v (.int .u8 (x0))), (.v (.int .u8 (x1))), (.v (.int .u8 (x2))), (.v (.int .u8 (x3))), (.v (.int .u8 (x4))), (.v (.int .u8 (x5))), (.v (.int .u8 (x6))), (.v (.int .u8 (x7))), (.v (.int .u8 (x8))), (.v (.int .u8 (x9))), (.v (.int .u8 (x10))), (.v (.int .u8 (x11))), (.v (.int .u8 (x12))), (.v (.int .u8 (x13))), (.v (.int .u8 (x14))), (.v (.int .u8 0))], 16, 92, true, .cells⟩), (.some ⟨[(.v (.int .u8 (x0))), (.v (.int .u8 (x1))), (.v (.int .u8 (x2))), (.v (.int .u8 (x3))), (.v (.int .u8 (x4))), (.v (.int .u8 (x5))), (.v (.int .u8 (x6))), (.v (.int .u8 (x7))), (.v (.int .u8 (x8))), (.v (.int .u8 (x9))), (.v (.int .u8 (x10))), (.v (.int .u8 (x11))), (.v (.int .u8 (x12))), (.v (.int .u8 (x13))), (.v (.int .u8 (x14))), (.v (.int .u8 0))], 16, 92, true, .cells⟩), (.some ⟨[(.v (.func (.func 143) #[] #[])), (.v (.int .i64 999999999)), (.v (.int .i64 0)), (.v (.int .i64 4))], 4, 212, true, .cells⟩), (.some ⟨[(.v (.func (.func 144) #[] #[])), (.v (.int .i64 100000000)), (.v (.int .i64 4)), (.v (.int .i64 8))], 4, 212, true, .cells⟩), (.some ⟨[(.v (.func (.func 145) #[] #[])), (.v (.int .i64 999999)), (.v (.int .i64 8)), (.v (.int .i64 11))], 4, 212, true, .cells⟩), (.some ⟨[(.v (.func (.func 146) #[] #[])), (.v (.int .i64 999999)), (.v (.int .i64 11)), (.v (.int .i64 14))], 4, 212, true, .cells⟩), (.some ⟨[(.v (.func (.func 147) #[] #[])), (.v (.int .i64 7)), (.v (.int .i64 14)), (.v (.int .i64 15))], 4, 212, true, .cells⟩)], [(.code .ret)], mkT j [(2, (.e (.one (.ptr 1 0))))] 34 0⟩) (fun j => by kernel_rfl) (aP h0 <| aP h1 <| aP h2 <| aP h3 <| aP h4 <| aP h5 <| aP h6 <| aP h7 <| aP h8 <| aP h9 <| aP h10 <| aP h11 <| aP h12 <| aP h13 <| aP h14 <| aP h15 <| aP h16 <| aP h17 <| aP h18 <| aP h19 <| aP h20 <| aP h21 <| aP h22 <| aP h23 <| aP h24 <| aP h25 <| aP h26 <| aP h27 <| aP h28 <| aP h29 <| aZ)
    fun j => outK_gc [1] (by decide) (by kernel_rfl) (by kernel_rfl) (by kernel_rfl) (ho j)
def p94_end (_n0 _n1 _n2 _n3 _n4 _x0 _x1 _x2 _x3 _x4 _x5 _x6 _x7 _x8 _x9 _x10 _x11 _x12 _x13 _x14 _x15 _y0 _y1 _y2 _y3 _y4 _y5 _y6 _y7 _y8 _y9 _y10 _y11 _y12 _y13 _y14 _y15 _z0 _z1 _z2 z3 _z4 _z5 _z6 z7 _z8 _z9 z10 _z11 _z12 z13 z14 _z15 _n _e _f _g _u : Int) (j : Nat → Value) : St := ⟨[(.some ⟨[(.v (.int .i64 (z3))), (.v (.int .i64 (z7))), (.v (.int .i64 (z10))), (.v (.int .i64 (z13))), (.v (.int .i64 (z14)))], 5, 68, true, .cells⟩)], [(.code .ret)], mkT j [(2, (.e (.one (.ptr 0 0))))] 38 0⟩
theorem p94 (hE : EnvOk E) (n0 n1 n2 n3 n4 x0 x1 x2 x3 x4 x5 x6 x7 x8 x9 x10 x11 x12 x13 x14 x15 y0 y1 y2 y3 y4 y5 y6 y7 y8 y9 y10 y11 y12 y13 y14 y15 z0 z1 z2 z3 z4 z5 z6 z7 z8 z9 z10 z11 z12 z13 z14 z15 n e f g u : Int) (h0 : ((iI 0) : AV) = (iI (y0))) (h1 : ((iI (IntKind.i64.wrap x0)) : AV) = (iI (x0))) (h2 : ((iI (IntKind.i64.wrap (↑(BitVec.ofInt (64 : Nat) y0 ||| BitVec.ofInt (64 : Nat) x0).toNat : Int))) : AV) = (iI (z0))) (h3 : ((iI (IntKind.i64.wrap (z0 * (2 : Int) ^ (8 : Nat)))) : AV) = (iI (y1))) (h4 : ((iI (IntKind.i64.wrap x1)) : AV) = (iI (x1))) (h5 : ((iI (IntKind.i64.wrap (↑(BitVec.ofInt (64 : Nat) y1 ||| BitVec.ofInt (64 : Nat) x1).toNat : Int))) : AV) = (iI (z1))) (h6 : ((iI (IntKind.i64.wrap (z1 * (2 : Int) ^ (8 : Nat)))) : AV) = (iI (y2))) (h7 : ((iI (IntKind.i64.wrap x2)) : AV) = (iI (x2))) (h8 : ((iI (IntKind.i64.wrap (↑(BitVec.ofInt (64 : Nat) y2 ||| BitVec.ofInt (64 : Nat) x2).toNat : Int))) : AV) = (iI (z2))) (h9 : ((iI (IntKind.i64.wrap (z2 * (2 : Int) ^ (8 : Nat)))) : AV) = (iI (y3))) (h10 : ((iI (IntKind.i64.wrap x3)) : AV) = (iI (x3))) (h11 : ((iI (IntKind.i64.wrap (↑(BitVec.ofInt (64 : Nat) y3 ||| BitVec.ofInt (64 : Nat) x3).toNat : Int))) : AV) = (iI (z3))) (h12 : ((iI 0) : AV) = (iI (y4))) (h13 : ((iI (IntKind.i64.wrap x4)) : AV) = (iI (x4))) (h14 : ((iI (IntKind.i64.wrap (↑(BitVec.ofInt (64 : Nat) y4 ||| BitVec.ofInt (64 : Nat) x4).toNat : Int))) : AV) = (iI (z4))) (h15 : ((iI (IntKind.i64.wrap (z4 * (2 : Int) ^ (8 : Nat)))) : AV) = (iI (y5))) (h16 : ((iI (IntKind.i64.wrap x5)) : AV) = (iI (x5))) (h17 : ((iI (IntKind.i64.wrap (↑(BitVec.ofInt (64 : Nat) y5 ||| BitVec.ofInt (64 : Nat) x5).toNat : Int))) : AV) = (iI (z5))) (h18 : ((iI (IntKind.i64.wrap (z5 * (2 : Int) ^ (8 : Nat)))) : AV) = (iI (y6))) (h19 : ((iI (IntKind.i64.wrap x6)) : AV) = (iI (x6))) (h20 : ((iI (IntKind.i64.wrap (↑(BitVec.ofInt (64 : Nat) y6 ||| BitVec.ofInt (64 : Nat) x6).toNat : Int))) : AV) = (iI (z6))) (h21 : ((iI (IntKind.i64.wrap (z6 * (2 : Int) ^ (8 : Nat)))) : AV) = (iI (y7))) (h22 : ((iI (IntKind.i64.wrap x7)) : AV) = (iI (x7))) (h23 : ((iI (IntKind.i64.wrap (↑(BitVec.ofInt (64 : Nat) y7 ||| BitVec.ofInt (64 : Nat) x7).toNat : Int))) : AV) = (iI (z7))) (h24 : ((iI 0) : AV) = (iI (y8))) (h25 : ((iI (IntKind.i64.wrap x8)) : AV) = (iI (x8))) (h26 : ((iI (IntKind.i64.wrap (↑(BitVec.ofInt (64 : Nat) y8 ||| BitVec.ofInt (64 : Nat) x8).toNat : Int))) : AV) = (iI (z8))) (h27 : ((iI (IntKind.i64.wrap (z8 * (2 : Int) ^ (8 : Nat)))) : AV) = (iI (y9))) (h28 : ((iI (IntKind.i64.wrap x9)) : AV) = (iI (x9))) (h29 : ((iI (IntKind.i64.wrap (↑(BitVec.ofInt (64 : Nat) y9 ||| BitVec.ofInt (64 : Nat) x9).toNat : Int))) : AV) = (iI (z9))) (h30 : ((iI (IntKind.i64.wrap (z9 * (2 : Int) ^ (8 : Nat)))) : AV) = (iI (y10))) (h31 : ((iI (IntKind.i64.wrap x10)) : AV) = (iI (x10))) (h32 : ((iI (IntKind.i64.wrap (↑(BitVec.ofInt (64 : Nat) y10 ||| BitVec.ofInt (64 : Nat) x10).toNat : Int))) : AV) = (iI (z10))) (h33 : ((iI 0) : AV) = (iI (y11))) (h34 : ((iI (IntKind.i64.wrap x11)) : AV) = (iI (x11))) (h35 : ((iI (IntKind.i64.wrap (↑(BitVec.ofInt (64 : Nat) y11 ||| BitVec.ofInt (64 : Nat) x11).toNat : Int))) : AV) = (iI (z11))) (h36 : ((iI (IntKind.i64.wrap (z11 * (2 : Int) ^ (8 : Nat)))) : AV) = (iI (y12))) (h37 : ((iI (IntKind.i64.wrap x12)) : AV) = (iI (x12))) (h38 : ((iI (IntKind.i64.wrap (↑(BitVec.ofInt (64 : Nat) y12 ||| BitVec.ofInt (64 : Nat) x12).toNat : Int))) : AV) = (iI (z12))) (h39 : ((iI (IntKind.i64.wrap (z12 * (2 : Int) ^ (8 : Nat)))) : AV) = (iI (y13))) (h40 : ((iI (IntKind.i64.wrap x13)) : AV) = (iI (x13))) (h41 : ((iI (IntKind.i64.wrap (↑(BitVec.ofInt (64 : Nat) y13 ||| BitVec.ofInt (64 : Nat) x13).toNat : Int))) : AV) = (iI (z13))) (h42 : ((iI 0) : AV) = (iI (y14))) (h43 : ((iI (IntKind.i64.wrap x14)) : AV) = (iI (x14))) (h44 : ((iI (IntKind.i64.wrap (↑(BitVec.ofInt (64 : Nat) y14 ||| BitVec.ofInt (64 : Nat) x14).toNat : Int))) : AV) = (iI (z14))) {Φ : Res → Prop} (ho : ∀ j, OutK E 0 0 (p94_end n0 n1 n2 n3 n4 x0 x1 x2 x3 x4 x5 x6 x7 x8 x9 x10 x11 x12 x13 x14 x15 y0 y1 y2 y3 y4 y5 y6 y7 y8 y9 y10 y11 y12 y13 y14 y15 z0 z1 z2 z3 z4 z5 z6 z7 z8 z9 z10 z11 z12 z13 z14 z15 n e f g u j) Φ) (j : Nat → Value) : OutK E 0 0 (s94 n0 n1 n2 n3 n4 x0 x1 x2 x3 x4 x5 x6 x7 x8 x9 x10 x11 x12 x13 x14 x15 y0 y1 y2 y3 y4 y5 y6 y7 y8 y9 y10 y11 y12 y13 y14 y15 z0 z1 z2 z3 z4 z5 z6 z7 z8 z9 z10 z11 z12 z13 z14 z15 n e f g u j) Φ :=
  outK_seg hE (R4_ok hE) [.run 33, (.ops [(4, (.rn (iI (y0)))), (6, (.rn (iI (x0)))), (7, (.rn (iI (z0))))] []), .run 12, (.ops [(4, (.rn (iI (y1)))), (6, (.rn (iI (x1)))), (7, (.rn (iI (z1))))] []), .run 12, (.ops [(4, (.rn (iI (y2)))), (6, (.rn (iI (x2)))), (7, (.rn (iI (z2))))] []), .run 12, (.ops [(4, (.rn (iI (y3)))), (6, (.rn (iI (x3)))), (7, (.rn (iI (z3))))] []), .run 35, (.ops [(4, (.rn (iI (y4)))), (6, (.rn (iI (x4)))), (7, (.rn (iI (z4))))] []), .run 12, (.ops [(4, (.rn (iI (y5)))), (6, (.rn (iI (x5)))), (7, (.rn (iI (z5))))] []), .run 12, (.ops [(4, (.rn (iI (y6)))), (6, (.rn (iI (x6)))), (7, (.rn (iI (z6))))] []), .run 12, (.ops [(4, (.rn (iI (y7)))), (6, (.rn (iI (x7)))), (7, (.rn (iI (z7))))] []), .run 35, (.ops [(4, (.rn (iI (y8)))), (6, (.rn (iI (x8)))), (7, (.rn (iI (z8))))] []), .run 12, (.ops [(4, (.rn (iI (y9)))), (6, (.rn (iI (x9)))), (7, (.rn (iI (z9))))] []), .run 12, (.ops [(4, (.rn (iI (y10)))), (6, (.rn (iI (x10)))), (7, (.rn (iI (z10))))] []), .run 35, (.ops [(4, (.rn (iI (y11)))), (6, (.rn (iI (x11)))), (7, (.rn (iI (z11))))] []), .run 12, (.ops [(4, (.rn (iI (y12)))), (6, (.rn (iI (x12)))), (7, (.rn (iI (z12))))] []), .run 12, (.ops [(4, (.rn (iI (y13)))), (6, (.rn (iI (x13)))), (7, (.rn (iI (z13))))] []), .run 35, (.ops [(4, (.rn (iI (y14)))), (6, (.rn (iI (x14)))), (7, (.rn (iI (z14))))] []), .run 18] [2] (s' := fun j => ⟨[(.some ⟨[(.v (.int .u8 (x0))), (.v (.int .u8 (x1))), (.v (.int .u8 (x2))), (.v (.int .u8 (x3))), (.v (.int .u8 (x4))), (.v (.int .u8 (x5))), (.v (.int .u8 (x6))), (.v (.int .u8 (x7))), (.v (.int .u8 (x8))), (.v (.int .u8 (x9))), (.v (.int .u8 (x10))), (.v (.int .u8 (x11))), (.v (.int .u8 (x12))), (.v (.int .u8 (x13))), (.v (.int .u8 (x14))), (.v (.int .u8 (x15)))], 16, 92, true, .cells⟩), (.some ⟨[(.v (.int .i64 (z3))), (.v (.int .i64 (z7))), (.v (.int .i64 (z10))), (.v (.int .i64 (z13))), (.v (.int .i64 (z14)))], 5, 68, true, .cells⟩), (.some ⟨[(.v (.int .i64 (z3))), (.v (.int .i64 (z7))), (.v (.int .i64 (z10))), (.v (.int .i64 (z13))), (.v (.int .i64 (z14)))], 5, 68, true, .cells⟩), (.some ⟨[(.v (.func (.func 143) #[] #[])), (.v (.int .i64 999999999)), (.v (.int .i64 0)), (.v (.int .i64 4))], 4, 212, true, .cells⟩), (.some ⟨[(.v (.func (.func 144) #[] #[])), (.v (.int .i64 100000000)), (.v (.int .i64 4)), (.v (.int .i64 8))], 4, 212, true, .cells⟩), (.some ⟨[(.v (.func (.func 145) #[] #[])), (.v (.int .i64 999999)), (.v (.int .i64 8)), (.v (.int .i64 11))], 4, 212, true, .cells⟩), (.some ⟨[(.v (.func (.func 146) #[] #[])), (.v (.int .i64 999999)), (.v (.int .i64 11)), (.v (.int .i64 14))], 4, 212, true, .cells⟩), (.some ⟨[(.v (.func (.func 147) #[] #[])), (.v (.int .i64 7)), (.v (.int .i64 14)), (.v (.int .i64 15))], 4, 212, true, .cells⟩)], [(.code .ret)], mkT j [(2, (.e (.one (.ptr 1 0))))] 38 0⟩) (fun j => by kernel_rfl) (aP h0 <| aP h1 <| aP h2 <| aP h3 <| aP h4 <| aP h5 <| aP h6 <| aP h7 <| aP h8 <| aP h9 <| aP h10 <| aP h11 <| aP h12 <| aP h13 <| aP h14 <| aP h15 <| aP h16 <| aP h17 <| aP h18 <| aP h19 <| aP h20 <| aP h21 <| aP h22 <| aP h23 <| aP h24 <| aP h25 <| aP h26 <| aP h27 <| aP h28 <| aP h29 <| aP h30 <| aP h31 <| aP h32 <| aP h33 <| aP h34 <| aP h35 <| aP h36 <| aP h37 <| aP h38 <| aP h39 <| aP h40 <| aP h41 <| aP h42 <| aP h43 <| aP h44 <| aZ)
    fun j => outK_gc [1] (by decide) (by kernel_rfl) (by kernel_rfl) (by kernel_rfl) (ho j)
def p95_0_end (_n0 _n1 _n2 _n3 _n4 _x0 _x1 _x2 _x3 x4 x5 x6 x7 x8 x9 x10 x11 x12 x13 x14 x15 _y0 _y1 _y2 _y3 _y4 _y5 _y6 _y7 _y8 _y9 _y10 _y11 _y12 _y13 _y14 _y15 z0 z1 z2 z3 _z4 _z5 _z6 _z7 _z8 _z9 _z10 _z11 _z12 _z13 _z14 _z15 _n _e _f _g _u : Int) (j : Nat → Value) : St := ⟨[(.some ⟨[(.v (.int .u8 (z0))), (.v (.int .u8 (z1))), (.v (.int .u8 (z2))), (.v (.int .u8 (z3))), (.v (.int .u8 (x4))), (.v (.int .u8 (x5))), (.v (.int .u8 (x6))), (.v (.int .u8 (x7))), (.v (.int .u8 (x8))), (.v (.int .u8 (x9))), (.v (.int .u8 (x10))), (.v (.int .u8 (x11))), (.v (.int .u8 (x12))), (.v (.int .u8 (x13))), (.v (.int .u8 (x14))), (.v (.int .u8 (x15)))], 16, 92, true, .cells⟩)], [(.code .ret)], mkT j [(8, (.e (.one (.ptr 0 0))))] 25 0⟩
theorem p95_0 (hE : EnvOk E) (n0 n1 n2 n3 n4 x0 x1 x2 x3 x4 x5 x6 x7 x8 x9 x10 x11 x12 x13 x14 x15 y0 y1 y2 y3 y4 y5 y6 y7 y8 y9 y10 y11 y12 y13 y14 y15 z0 z1 z2 z3 z4 z5 z6 z7 z8 z9 z10 z11 z12 z13 z14 z15 n e f g u : Int) (h0 : ((256 : Int) : Int) ≠ (0 : Int)) (h1 : (n.tmod (256 : Int) : Int) = z3) (h2 : ((iU (IntKind.u8.wrap z3)) : AV) = (iU (z3))) (h3 : ((256 : Int) : Int) ≠ (0 : Int)) (h4 : (wrapF IntKind.i64 (n.tdiv (256 : Int)) : Int) = y3) (h5 : ((256 : Int) : Int) ≠ (0 : Int)) (h6 : (y3.tmod (256 : Int) : Int) = z2) (h7 : ((iU (IntKind.u8.wrap z2)) : AV) = (iU (z2))) (h8 : ((256 : Int) : Int) ≠ (0 : Int)) (h9 : (wrapF IntKind.i64 (y3.tdiv (256 : Int)) : Int) = y2) (h10 : ((256 : Int) : Int) ≠ (0 : Int)) (h11 : (y2.tmod (256 : Int) : Int) = z1) (h12 : ((iU (IntKind.u8.wrap z1)) : AV) = (iU (z1))) (h13 : ((256 : Int) : Int) ≠ (0 : Int)) (h14 : (wrapF IntKind.i64 (y2.tdiv (256 : Int)) : Int) = y1) (h15 : ((256 : Int) : Int) ≠ (0 : Int)) (h16 : (y1.tmod (256 : Int) : Int) = z0) (h17 : ((iU (IntKind.u8.wrap z0)) : AV) = (iU (z0))) (h18 : ((256 : Int) : Int) ≠ (0 : Int)) (h19 : (wrapF IntKind.i64 (y1.tdiv (256 : Int)) : Int) = y0) {Φ : Res → Prop} (ho : ∀ j, OutK E 0 0 (p95_0_end n0 n1 n2 n3 n4 x0 x1 x2 x3 x4 x5 x6 x7 x8 x9 x10 x11 x12 x13 x14 x15 y0 y1 y2 y3 y4 y5 y6 y7 y8 y9 y10 y11 y12 y13 y14 y15 z0 z1 z2 z3 z4 z5 z6 z7 z8 z9 z10 z11 z12 z13 z14 z15 n e f g u j) Φ) (j : Nat → Value) : OutK E 0 0 (s95_0 n0 n1 n2 n3 n4 x0 x1 x2 x3 x4 x5 x6 x7 x8 x9 x10 x11 x12 x13 x14 x15 y0 y1 y2 y3 y4 y5 y6 y7 y8 y9 y10 y11 y12 y13 y14 y15 z0 z1 z2 z3 z4 z5 z6 z7 z8 z9 z10 z11 z12 z13 z14 z15 n e f g u j) Φ :=
  outK_seg hE (R0_ok hE) [.run 15, (.ops [(2, (.quo (z3))), (3, (.rn (iU (z3))))] []), (.ops [(1, (.quo (y3)))] []), .run 11, (.ops [(2, (.quo (z2))), (3, (.rn (iU (z2))))] []), (.ops [(1, (.quo (y2)))] []), .run 11, (.ops [(2, (.quo (z1))), (3, (.rn (iU (z1))))] []), (.ops [(1, (.quo (y1)))] []), .run 11, (.ops [(2, (.quo (z0))), (3, (.rn (iU (z0))))] []), (.ops [(1, (.quo (y0)))] []), .run 10] [8] (s' := fun j => ⟨[(.some ⟨[(.v (.int .u8 (z0))), (.v (.int .u8 (z1))), (.v (.int .u8 (z2))), (.v (.int .u8 (z3))), (.v (.int .u8 (x4))), (.v (.int .u8 (x5))), (.v (.int .u8 (x6))), (.v (.int .u8 (x7))), (.v (.int .u8 (x8))), (.v (.int .u8 (x9))), (.v (.int .u8 (x10))), (.v (.int .u8 (x11))), (.v (.int .u8 (x12))), (.v (.int .u8 (x13))), (.v (.int .u8 (x14))), (.v (.int .u8 (x15)))], 16, 92, true, .cells⟩), (.some ⟨[(.v (.int .u8 (z0))), (.v (.int .u8 (z1))), (.v (.int .u8 (z2))), (.v (.int .u8 (z3))), (.v (.int .u8 (x4))), (.v (.int .u8 (x5))), (.v (.int .u8 (x6))), (.v (.int .u8 (x7))), (.v (.int .u8 (x8))), (.v (.int .u8 (x9))), (.v (.int .u8 (x10))), (.v (.int .u8 (x11))), (.v (.int .u8 (x12))), (.v (.int .u8 (x13))), (.v (.int .u8 (x14))), (.v (.int .u8 (x15)))], 16, 92, true, .cells⟩)], [(.code .ret)], mkT j [(8, (.e (.one (.ptr 1 0))))] 25 0⟩) (fun j => by kernel_rfl) (aP h0 <| aP h1 <| aP h2 <| aP h3 <| aP h4 <| aP h5 <| aP h6 <| aP h7 <| aP h8 <| aP h9 <| aP h10 <| aP h11 <| aP h12 <| aP h13 <| aP h14 <| aP h15 <| aP h16 <| aP h17 <| aP h18 <| aP h19 <| aZ)
    fun j => outK_gc [1] (by decide) (by kernel_rfl) (by kernel_rfl) (by kernel_rfl) (ho j)
def p96_0_end (_n0 _n1 _n2 _n3 _n4 _x0 _x1 _x2 _x3 _x4 _x5 _x6 _x7 _x8 _x9 _x10 _x11 _x12 _x13 _x14 _x15 _y0 _y1 _y2 _y3 _y4 _y5 _y6 _y7 _y8 _y9 _y10 _y11 _y12 _y13 _y14 _y15 _z0 _z1 _z2 z3 _z4 _z5 _z6 _z7 _z8 _z9 _z10 _z11 _z12 _z13 _z14 _z15 _n _e _f _g _u : Int) (j : Nat → Value) : St := ⟨[], [(.code .ret)], mkT j [(6, (iI (z3)))] 23 0⟩
theorem p96_0 (hE : EnvOk E) (n0 n1 n2 n3 n4 x0 x1 x2 x3 x4 x5 x6 x7 x8 x9 x10 x11 x12 x13 x14 x15 y0 y1 y2 y3 y4 y5 y6 y7 y8 y9 y10 y11 y12 y13 y14 y15 z0 z1 z2 z3 z4 z5 z6 z7 z8 z9 z10 z11 z12 z13 z14 z15 n e f g u : Int) (h0 : ((iI 0) : AV) = (iI (y0))) (h1 : ((iI (IntKind.i64.wrap x0)) : AV) = (iI (x0))) (h2 : ((iI (wrapF IntKind.i64 (y0 + x0))) : AV) = (iI (z0))) (h3 : ((iI (wrapF IntKind.i64 ((256 : Int) * z0))) : AV) = (iI (y1))) (h4 : ((iI (IntKind.i64.wrap x1)) : AV) = (iI (x1))) (h5 : ((iI (wrapF IntKind.i64 (y1 + x1))) : AV) = (iI (z1))) (h6 : ((iI (wrapF IntKind.i64 ((256 : Int) * z1))) : AV) = (iI (y2))) (h7 : ((iI (IntKind.i64.wrap x2)) : AV) = (iI (x2))) (h8 : ((iI (wrapF IntKind.i64 (y2 + x2))) : AV) = (iI (z2))) (h9 : ((iI (wrapF IntKind.i64 ((256 : Int) * z2))) : AV) = (iI (y3))) (h10 : ((iI (IntKind.i64.wrap x3)) : AV) = (iI (x3))) (h11 : ((iI (wrapF IntKind.i64 (y3 + x3))) : AV) = (iI (z3))) {Φ : Res → Prop} (ho : ∀ j, OutK E 0 0 (p96_0_end n0 n1 n2 n3 n4 x0 x1 x2 x3 x4 x5 x6 x7 x8 x9 x10 x11 x12 x13 x14 x15 y0 y1 y2 y3 y4 y5 y6 y7 y8 y9 y10 y11 y12 y13 y14 y15 z0 z1 z2 z3 z4 z5 z6 z7 z8 z9 z10 z11 z12 z13 z14 z15 n e f g u j) Φ) (j : Nat → Value) : OutK E 0 0 (s96_0 n0 n1 n2 n3 n4 x0 x1 x2 x3 x4 x5 x6 x7 x8 x9 x10 x11 x12 x13 x14 x15 y0 y1 y2 y3 y4 y5 y6 y7 y8 y9 y10 y11 y12 y13 y14 y15 z0 z1 z2 z3 z4 z5 z6 z7 z8 z9 z10 z11 z12 z13 z14 z15 n e f g u j) Φ :=
  outK_seg hE (R0_ok hE) [.run 16, (.ops [(1, (.rn (iI (y0)))), (5, (.rn (iI (x0)))), (6, (.rn (iI (z0))))] []), .run 10, (.ops [(1, (.rn (iI (y1)))), (5, (.rn (iI (x1)))), (6, (.rn (iI (z1))))] []), .run 10, (.ops [(1, (.rn (iI (y2)))), (5, (.rn (iI (x2)))), (6, (.rn (iI (z2))))] []), .run 10, (.ops [(1, (.rn (iI (y3)))), (5, (.rn (iI (x3)))), (6, (.rn (iI (z3))))] []), .run 10] [6] (s' := fun j => ⟨[(.some ⟨[(.v (.int .u8 (x0))), (.v (.int .u8 (x1))), (.v (.int .u8 (x2))), (.v (.int .u8 (x3))), (.v (.int .u8 (x4))), (.v (.int .u8 (x5))), (.v (.int .u8 (x6))), (.v (.int .u8 (x7))), (.v (.int .u8 (x8))), (.v (.int .u8 (x9))), (.v (.int .u8 (x10))), (.v (.int .u8 (x11))), (.v (.int .u8 (x12))), (.v (.int .u8 (x13))), (.v (.int .u8 (x14))), (.v (.int .u8 (x15)))], 16, 92, true, .cells⟩)], [(.code .ret)], mkT j [(6, (iI (z3)))] 23 0⟩) (fun j => by kernel_rfl) (aP h0 <| aP h1 <| aP h2 <| aP h3 <| aP h4 <| aP h5 <| aP h6 <| aP h7 <| aP h8 <| aP h9 <| aP h10 <| aP h11 <| aZ)
    fun j => outK_gc [] (by decide) (by kernel_rfl) (by kernel_rfl) (by kernel_rfl) (ho j)
def p95_1_end (_n0 _n1 _n2 _n3 _n4 x0 x1 x2 x3 _x4 _x5 _x6 _x7 x8 x9 x10 x11 x12 x13 x14 x15 _y0 _y1 _y2 _y3 _y4 _y5 _y6 _y7 _y8 _y9 _y10 _y11 _y12 _y13 _y14 _y15 _z0 _z1 _z2 _z3 z4 z5 z6 z7 _z8 _z9 _z10 _z11 _z12 _z13 _z14 _z15 _n _e _f _g _u : Int) (j : Nat → Value) : St := ⟨[(.some ⟨[(.v (.int .u8 (x0))), (.v (.int .u8 (x1))), (.v (.int .u8 (x2))), (.v (.int .u8 (x3))), (.v (.int .u8 (z4))), (.v (.int .u8 (z5))), (.v (.int .u8 (z6))), (.v (.int .u8 (z7))), (.v (.int .u8 (x8))), (.v (.int .u8 (x9))), (.v (.int .u8 (x10))), (.v (.int .u8 (x11))), (.v (.int .u8 (x12))), (.v (.int .u8 (x13))), (.v (.int .u8 (x14))), (.v (.int .u8 (x15)))], 16, 92, true, .cells⟩)], [(.code .ret)], mkT j [(8, (.e (.one (.ptr 0 0))))] 25 0⟩
theorem p95_1 (hE : EnvOk E) (n0 n1 n2 n3 n4 x0 x1 x2 x3 x4 x5 x6 x7 x8 x9 x10 x11 x12 x13 x14 x15 y0 y1 y2 y3 y4 y5 y6 y7 y8 y9 y10 y11 y12 y13 y14 y15 z0 z1 z2 z3 z4 z5 z6 z7 z8 z9 z10 z11 z12 z13 z14 z15 n e f g u : Int) (h0 : ((256 : Int) : Int) ≠ (0 : Int)) (h1 : (n.tmod (256 : Int) : Int) = z7) (h2 : ((iU (IntKind.u8.wrap z7)) : AV) = (iU (z7))) (h3 : ((256 : Int) : Int) ≠ (0 : Int)) (h4 : (wrapF IntKind.i64 (n.tdiv (256 : Int)) : Int) = y7) (h5 : ((256 : Int) : Int) ≠ (0 : Int)) (h6 : (y7.tmod (256 : Int) : Int) = z6) (h7 : ((iU (IntKind.u8.wrap z6)) : AV) = (iU (z6))) (h8 : ((256 : Int) : Int) ≠ (0 : Int)) (h9 : (wrapF IntKind.i64 (y7.tdiv (256 : Int)) : Int) = y6) (h10 : ((256 : Int) : Int) ≠ (0 : Int)) (h11 : (y6.tmod (256 : Int) : Int) = z5) (h12 : ((iU (IntKind.u8.wrap z5)) : AV) = (iU (z5))) (h13 : ((256 : Int) : Int) ≠ (0 : Int)) (h14 : (wrapF IntKind.i64 (y6.tdiv (256 : Int)) : Int) = y5) (h15 : ((256 : Int) : Int) ≠ (0 : Int)) (h16 : (y5.tmod (256 : Int) : Int) = z4) (h17 : ((iU (IntKind.u8.wrap z4)) : AV) = (iU (z4))) (h18 : ((256 : Int) : Int) ≠ (0 : Int)) (h19 : (wrapF IntKind.i64 (y5.tdiv (256 : Int)) : Int) = y4) {Φ : Res → Prop} (ho : ∀ j, OutK E 0 0 (p95_1_end n0 n1 n2 n3 n4 x0 x1 x2 x3 x4 x5 x6 x7 x8 x9 x10 x11 x12 x13 x14 x15 y0 y1 y2 y3 y4 y5 y6 y7 y8 y9 y10 y11 y12 y13 y14 y15 z0 z1 z2 z3 z4 z5 z6 z7 z8 z9 z10 z11 z12 z13 z14 z15 n e f g u j) Φ) (j : Nat → Value) : OutK E 0 0 (s95_1 n0 n1 n2 n3 n4 x0 x1 x2 x3 x4 x5 x6 x7 x8 x9 x10 x11 x12 x13 x14 x15 y0 y1 y2 y3 y4 y5 y6 y7 y8 y9 y10 y11 y12 y13 y14 y15 z0 z1 z2 z3 z4 z5 z6 z7 z8 z9 z10 z11 z12 z13 z14 z15 n e f g u j) Φ :=
  outK_seg hE (R0_ok hE) [.run 15, (.ops [(2, (.quo (z7))), (3, (.rn (iU (z7))))] []), (.ops [(1, (.quo (y7)))] []), .run 11, (.ops [(2, (.quo (z6))), (3, (.rn (iU (z6))))] []), (.ops [(1, (.quo (y6)))] []), .run 11, (.ops [(2, (.quo (z5))), (3, (.rn (iU (z5))))] []), (.ops [(1, (.quo (y5)))] []), .run 11, (.ops [(2, (.quo (z4))), (3, (.rn (iU (z4))))] []), (.ops [(1, (.quo (y4)))] []), .run 10] [8] (s' := fun j => ⟨[(.some ⟨[(.v (.int .u8 (x0))), (.v (.int .u8 (x1))), (.v (.int .u8 (x2))), (.v (.int .u8 (x3))), (.v (.int .u8 (z4))), (.v (.int .u8 (z5))), (.v (.int .u8 (z6))), (.v (.int .u8 (z7))), (.v (.int .u8 (x8))), (.v (.int .u8 (x9))), (.v (.int .u8 (x10))), (.v (.int .u8 (x11))), (.v (.int .u8 (x12))), (.v (.int .u8 (x13))), (.v (.int .u8 (x14))), (.v (.int .u8 (x15)))], 16, 92, true, .cells⟩), (.some ⟨[(.v (.int .u8 (x0))), (.v (.int .u8 (x1))), (.v (.int .u8 (x2))), (.v (.int .u8 (x3))), (.v (.int .u8 (z4))), (.v (.int .u8 (z5))), (.v (.int .u8 (z6))), (.v (.int .u8 (z7))), (.v (.int .u8 (x8))), (.v (.int .u8 (x9))), (.v (.int .u8 (x10))), (.v (.int .u8 (x11))), (.v (.int .u8 (x12))), (.v (.int .u8 (x13))), (.v (.int .u8 (x14))), (.v (.int .u8 (x15)))], 16, 92, true, .cells⟩)], [(.code .ret)], mkT j [(8, (.e (.one (.ptr 1 0))))] 25 0⟩) (fun j => by kernel_rfl) (aP h0 <| aP h1 <| aP h2 <| aP h3 <| aP h4 <| aP h5 <| aP h6 <| aP h7 <| aP h8 <| aP h9 <| aP h10 <| aP h11 <| aP h12 <| aP h13 <| aP h14 <| aP h15 <| aP h16 <| aP h17 <| aP h18 <| aP h19 <| aZ)
    fun j => outK_gc [1] (by decide) (by kernel_rfl) (by kernel_rfl) (by kernel_rfl) (ho j)
def p96_1_end (_n0 _n1 _n2 _n3 _n4 _x0 _x1 _x2 _x3 _x4 _x5 _x6 _x7 _x8 _x9 _x10 _x11 _x12 _x13 _x14 _x15 _y0 _y1 _y2 _y3 _y4 _y5 _y6 _y7 _y8 _y9 _y10 _y11 _y12 _y13 _y14 _y15 _z0 _z1 _z2 _z3 _z4 _z5 _z6 z7 _z8 _z9 _z10 _z11 _z12 _z13 _z14 _z15 _n _e _f _g _u : Int) (j : Nat → Value) : St := ⟨[], [(.code .ret)], mkT j [(6, (iI (z7)))] 23 0⟩
theorem p96_1 (hE : EnvOk E) (n0 n1 n2 n3 n4 x0 x1 x2 x3 x4 x5 x6 x7 x8 x9 x10 x11 x12 x13 x14 x15 y0 y1 y2 y3 y4 y5 y6 y7 y8 y9 y10 y11 y12 y13 y14 y15 z0 z1 z2 z3 z4 z5 z6 z7 z8 z9 z10 z11 z12 z13 z14 z15 n e f g u : Int) (h0 : ((iI 0) : AV) = (iI (y4))) (h1 : ((iI (IntKind.i64.wrap x4)) : AV) = (iI (x4))) (h2 : ((iI (wrapF IntKind.i64 (y4 + x4))) : AV) = (iI (z4))) (h3 : ((iI (wrapF IntKind.i64 ((256 : Int) * z4))) : AV) = (iI (y5))) (h4 : ((iI (IntKind.i64.wrap x5)) : AV) = (iI (x5))) (h5 : ((iI (wrapF IntKind.i64 (y5 + x5))) : AV) = (iI (z5))) (h6 : ((iI (wrapF IntKind.i64 ((256 : Int) * z5))) : AV) = (iI (y6))) (h7 : ((iI (IntKind.i64.wrap x6)) : AV) = (iI (x6))) (h8 : ((iI (wrapF IntKind.i64 (y6 + x6))) : AV) = (iI (z6))) (h9 : ((iI (wrapF IntKind.i64 ((256 : Int) * z6))) : AV) = (iI (y7))) (h10 : ((iI (IntKind.i64.wrap x7)) : AV) = (iI (x7))) (h11 : ((iI (wrapF IntKind.i64 (y7 + x7))) : AV) = (iI (z7))) {Φ : Res → Prop} (ho : ∀ j, OutK E 0 0 (p96_1_end n0 n1 n2 n3 n4 x0 x1 x2 x3 x4 x5 x6 x7 x8 x9 x10 x11 x12 x13 x14 x15 y0 y1 y2 y3 y4 y5 y6 y7 y8 y9 y10 y11 y12 y13 y14 y15 z0 z1 z2 z3 z4 z5 z6 z7 z8 z9 z10 z11 z12 z13 z14 z15 n e f g u j) Φ) (j : Nat → Value) : OutK E 0 0 (s96_1 n0 n1 n2 n3 n4 x0 x1 x2 x3 x4 x5 x6 x7 x8 x9 x10 x11 x12 x13 x14 x15 y0 y1 y2 y3 y4 y5 y6 y7 y8 y9 y10 y11 y12 y13 y14 y15 z0 z1 z2 z3 z4 z5 z6 z7 z8 z9 z10 z11 z12 z13 z14 z15 n e f g u j) Φ :=
  outK_seg hE (R0_ok hE) [.run 16, (.ops [(1, (.rn (iI (y4)))), (5, (.rn (iI (x4)))), (6, (.rn (iI (z4))))] []), .run 10, (.ops [(1, (.rn (iI (y5)))), (5, (.rn (iI (x5)))), (6, (.rn (iI (z5))))] []), .run 10, (.ops [(1, (.rn (iI (y6)))), (5, (.rn (iI (x6)))), (6, (.rn (iI (z6))))] []), .run 10, (.ops [(1, (.rn (iI (y7)))), (5, (.rn (iI (x7)))), (6, (.rn (iI (z7))))] []), .run 10] [6] (s' := fun j => ⟨[(.some ⟨[(.v (.int .u8 (x0))), (.v (.int .u8 (x1))), (.v (.int .u8 (x2))), (.v (.int .u8 (x3))), (.v (.int .u8 (x4))), (.v (.int .u8 (x5))), (.v (.int .u8 (x6))), (.v (.int .u8 (x7))), (.v (.int .u8 (x8))), (.v (.int .u8 (x9))), (.v (.int .u8 (x10))), (.v (.int .u8 (x11))), (.v (.int .u8 (x12))), (.v (.int .u8 (x13))), (.v (.int .u8 (x14))), (.v (.int .u8 (x15)))], 16, 92, true, .cells⟩)], [(.code .ret)], mkT j [(6, (iI (z7)))] 23 0⟩) (fun j => by kernel_rfl) (aP h0 <| aP h1 <| aP h2 <| aP h3 <| aP h4 <| aP h5 <| aP h6 <| aP h7 <| aP h8 <| aP h9 <| aP h10 <| aP h11 <| aZ)
    fun j => outK_gc [] (by decide) (by kernel_rfl) (by kernel_rfl) (by kernel_rfl) (ho j)
def p95_2_end (_n0 _n1 _n2 _n3 _n4 x0 x1 x2 x3 x4 x5 x6 x7 _x8 _x9 _x10 x11 x12 x13 x14 x15 _y0 _y1 _y2 _y3 _y4 _y5 _y6 _y7 _y8 _y9 _y10 _y11 _y12 _y13 _y14 _y15 _z0 _z1 _z2 _z3 _z4 _z5 _z6 _z7 z8 z9 z10 _z11 _z12 _z13 _z14 _z15 _n _e _f _g _u : Int) (j : Nat → Value) : St := ⟨[(.some ⟨[(.v (.int .u8 (x0))), (.v (.int .u8 (x1))), (.v (.int .u8 (x2))), (.v (.int .u8 (x3))), (.v (.int .u8 (x4))), (.v (.int .u8 (x5))), (.v (.int .u8 (x6))), (.v (.int .u8 (x7))), (.v (.int .u8 (z8))), (.v (.int .u8 (z9))), (.v (.int .u8 (z10))), (.v (.int .u8 (x11))), (.v (.int .u8 (x12))), (.v (.int .u8 (x13))), (.v (.int .u8 (x14))), (.v (.int .u8 (x15)))], 16, 92, true, .cells⟩)], [(.code .ret)], mkT j [(8, (.e (.one (.ptr 0 0))))] 25 0⟩
theorem p95_2 (hE : EnvOk E) (n0 n1 n2 n3 n4 x0 x1 x2 x3 x4 x5 x6 x7 x8 x9 x10 x11 x12 x13 x14 x15 y0 y1 y2 y3 y4 y5 y6 y7 y8 y9 y10 y11 y12 y13 y14 y15 z0 z1 z2 z3 z4 z5 z6 z7 z8 z9 z10 z11 z12 z13 z14 z15 n e f g u : Int) (h0 : ((256 : Int) : Int) ≠ (0 : Int)) (h1 : (n.tmod (256 : Int) : Int) = z10) (h2 : ((iU (IntKind.u8.wrap z10)) : AV) = (iU (z10))) (h3 : ((256 : Int) : Int) ≠ (0 : Int)) (h4 : (wrapF IntKind.i64 (n.tdiv (256 : Int)) : Int) = y10) (h5 : ((256 : Int) : Int) ≠ (0 : Int)) (h6 : (y10.tmod (256 : Int) : Int) = z9) (h7 : ((iU (IntKind.u8.wrap z9)) : AV) = (iU (z9))) (h8 : ((256 : Int) : Int) ≠ (0 : Int)) (h9 : (wrapF IntKind.i64 (y10.tdiv (256 : Int)) : Int) = y9) (h10 : ((256 : Int) : Int) ≠ (0 : Int)) (h11 : (y9.tmod (256 : Int) : Int) = z8) (h12 : ((iU (IntKind.u8.wrap z8)) : AV) = (iU (z8))) (h13 : ((256 : Int) : Int) ≠ (0 : Int)) (h14 : (wrapF IntKind.i64 (y9.tdiv (256 : Int)) : Int) = y8) {Φ : Res → Prop} (ho : ∀ j, OutK E 0 0 (p95_2_end n0 n1 n2 n3 n4 x0 x1 x2 x3 x4 x5 x6 x7 x8 x9 x10 x11 x12 x13 x14 x15 y0 y1 y2 y3 y4 y5 y6 y7 y8 y9 y10 y11 y12 y13 y14 y15 z0 z1 z2 z3 z4 z5 z6 z7 z8 z9 z10 z11 z12 z13 z14 z15 n e f g u j) Φ) (j : Nat → Value) : OutK E 0 0 (s95_2 n0 n1 n2 n3 n4 x0 x1 x2 x3 x4 x5 x6 x7 x8 x9 x10 x11 x12 x13 x14 x15 y0 y1 y2 y3 y4 y5 y6 y7 y8 y9 y10 y11 y12 y13 y14 y15 z0 z1 z2 z3 z4 z5 z6 z7 z8 z9 z10 z11 z12 z13 z14 z15 n e f g u j) Φ :=
  outK_seg hE (R0_ok hE) [.run 15, (.ops [(2, (.quo (z10))), (3, (.rn (iU (z10))))] []), (.ops [(1, (.quo (y10)))] []), .run 11, (.ops [(2, (.quo (z9))), (3, (.rn (iU (z9))))] []), (.ops [(1, (.quo (y9)))] []), .run 11, (.ops [(2, (.quo (z8))), (3, (.rn (iU (z8))))] []), (.ops [(1, (.quo (y8)))] []), .run 10] [8] (s' := fun j => ⟨[(.some ⟨[(.v (.int .u8 (x0))), (.v (.int .u8 (x1))), (.v (.int .u8 (x2))), (.v (.int .u8 (x3))), (.v (.int .u8 (x4))), (.v (.int .u8 (x5))), (.v (.int .u8 (x6))), (.v (.int .u8 (x7))), (.v (.int .u8 (z8))), (.v (.int .u8 (z9))), (.v (.int .u8 (z10))), (.v (.int .u8 (x11))), (.v (.int .u8 (x12))), (.v (.int .u8 (x13))), (.v (.int .u8 (x14))), (.v (.int .u8 (x15)))], 16, 92, true, .cells⟩), (.some ⟨[(.v (.int .u8 (x0))), (.v (.int .u8 (x1))), (.v (.int .u8 (x2))), (.v (.int .u8 (x3))), (.v (.int .u8 (x4))), (.v (.int .u8 (x5))), (.v (.int .u8 (x6))), (.v (.int .u8 (x7))), (.v (.int .u8 (z8))), (.v (.int .u8 (z9))), (.v (.int .u8 (z10))), (.v (.int .u8 (x11))), (.v (.int .u8 (x12))), (.v (.int .u8 (x13))), (.v (.int .u8 (x14))), (.v (.int .u8 (x15)))], 16, 92, true, .cells⟩)], [(.code .ret)], mkT j [(8, (.e (.one (.ptr 1 0))))] 25 0⟩) (fun j => by kernel_rfl) (aP h0 <| aP h1 <| aP h2 <| aP h3 <| aP h4 <| aP h5 <| aP h6 <| aP h7 <| aP h8 <| aP h9 <| aP h10 <| aP h11 <| aP h12 <| aP h13 <| aP h14 <| aZ)
    fun j => outK_gc [1] (by decide) (by kernel_rfl) (by kernel_rfl) (by kernel_rfl) (ho j)
def p96_2_end (_n0 _n1 _n2 _n3 _n4 _x0 _x1 _x2 _x3 _x4 _x5 _x6 _x7 _x8 _x9 _x10 _x11 _x12 _x13 _x14 _x15 _y0 _y1 _y2 _y3 _y4 _y5 _y6 _y7 _y8 _y9 _y10 _y11 _y12 _y13 _y14 _y15 _z0 _z1 _z2 _z3 _z4 _z5 _z6 _z7 _z8 _z9 z10 _z11 _z12 _z13 _z14 _z15 _n _e _f _g _u : Int) (j : Nat → Value) : St := ⟨[], [(.code .ret)], mkT j [(6, (iI (z10)))] 23 0⟩
theorem p96_2 (hE : EnvOk E) (n0 n1 n2 n3 n4 x0 x1 x2 x3 x4 x5 x6 x7 x8 x9 x10 x11 x12 x13 x14 x15 y0 y1 y2 y3 y4 y5 y6 y7 y8 y9 y10 y11 y12 y13 y14 y15 z0 z1 z2 z3 z4 z5 z6 z7 z8 z9 z10 z11 z12 z13 z14 z15 n e f g u : Int) (h0 : ((iI 0) : AV) = (iI (y8))) (h1 : ((iI (IntKind.i64.wrap x8)) : AV) = (iI (x8))) (h2 : ((iI (wrapF IntKind.i64 (y8 + x8))) : AV) = (iI (z8))) (h3 : ((iI (wrapF IntKind.i64 ((256 : Int) * z8))) : AV) = (iI (y9))) (h4 : ((iI (IntKind.i64.wrap x9)) : AV) = (iI (x9))) (h5 : ((iI (wrapF IntKind.i64 (y9 + x9))) : AV) = (iI (z9))) (h6 : ((iI (wrapF IntKind.i64 ((256 : Int) * z9))) : AV) = (iI (y10))) (h7 : ((iI (IntKind.i64.wrap x10)) : AV) = (iI (x10))) (h8 : ((iI (wrapF IntKind.i64 (y10 + x10))) : AV) = (iI (z10))) {Φ : Res → Prop} (ho : ∀ j, OutK E 0 0 (p96_2_end n0 n1 n2 n3 n4 x0 x1 x2 x3 x4 x5 x6 x7 x8 x9 x10 x11 x12 x13 x14 x15 y0 y1 y2 y3 y4 y5 y6 y7 y8 y9 y10 y11 y12 y13 y14 y15 z0 z1 z2 z3 z4 z5 z6 z7 z8 z9 z10 z11 z12 z13 z14 z15 n e f g u j) Φ) (j : Nat → Value) : OutK E 0 0 (s96_2 n0 n1 n2 n3 n4 x0 x1 x2 x3 x4 x5 x6 x7 x8 x9 x10 x11 x12 x13 x14 x15 y0 y1 y2 y3 y4 y5 y6 y7 y8 y9 y10 y11 y12 y13 y14 y15 z0 z1 z2 z3 z4 z5 z6 z7 z8 z9 z10 z11 z12 z13 z14 z15 n e f g u j) Φ :=
  outK_seg hE (R0_ok hE) [.run 16, (.ops [(1, (.rn (iI (y8)))), (5, (.rn (iI (x8)))), (6, (.rn (iI (z8))))] []), .run 10, (.ops [(1, (.rn (iI (y9)))), (5, (.rn (iI (x9)))), (6, (.rn (iI (z9))))] []), .run 10, (.ops [(1, (.rn (iI (y10)))), (5, (.rn (iI (x10)))), (6, (.rn (iI (z10))))] []), .run 10] [6] (s' := fun j => ⟨[(.some ⟨[(.v (.int .u8 (x0))), (.v (.int .u8 (x1))), (.v (.int .u8 (x2))), (.v (.int .u8 (x3))), (.v (.int .u8 (x4))), (.v (.int .u8 (x5))), (.v (.int .u8 (x6))), (.v (.int .u8 (x7))), (.v (.int .u8 (x8))), (.v (.int .u8 (x9))), (.v (.int .u8 (x10))), (.v (.int .u8 (x11))), (.v (.int .u8 (x12))), (.v (.int .u8 (x13))), (.v (.int .u8 (x14))), (.v (.int .u8 (x15)))], 16, 92, true, .cells⟩)], [(.code .ret)], mkT j [(6, (iI (z10)))] 23 0⟩) (fun j => by kernel_rfl) (aP h0 <| aP h1 <| aP h2 <| aP h3 <| aP h4 <| aP h5 <| aP h6 <| aP h7 <| aP h8 <| aZ)
    fun j => outK_gc [] (by decide) (by kernel_rfl) (by kernel_rfl) (by kernel_rfl) (ho j)
def p95_3_end (_n0 _n1 _n2 _n3 _n4 x0 x1 x2 x3 x4 x5 x6 x7 x8 x9 x10 _x11 _x12 _x13 x14 x15 _y0 _y1 _y2 _y3 _y4 _y5 _y6 _y7 _y8 _y9 _y10 _y11 _y12 _y13 _y14 _y15 _z0 _z1 _z2 _z3 _z4 _z5 _z6 _z7 _z8 _z9 _z10 z11 z12 z13 _z14 _z15 _n _e _f _g _u : Int) (j : Nat → Value) : St := ⟨[(.some ⟨[(.v (.int .u8 (x0))), (.v (.int .u8 (x1))), (.v (.int .u8 (x2))), (.v (.int .u8 (x3))), (.v (.int .u8 (x4))), (.v (.int .u8 (x5))), (.v (.int .u8 (x6))), (.v (.int .u8 (x7))), (.v (.int .u8 (x8))), (.v (.int .u8 (x9))), (.v (.int .u8 (x10))), (.v (.int .u8 (z11))), (.v (.int .u8 (z12))), (.v (.int .u8 (z13))), (.v (.int .u8 (x14))), (.v (.int .u8 (x15)))], 16, 92, true, .cells⟩)], [(.code .ret)], mkT j [(8, (.e (.one (.ptr 0 0))))] 25 0⟩
theorem p95_3 (hE : EnvOk E) (n0 n1 n2 n3 n4 x0 x1 x2 x3 x4 x5 x6 x7 x8 x9 x10 x11 x12 x13 x14 x15 y0 y1 y2 y3 y4 y5 y6 y7 y8 y9 y10 y11 y12 y13 y14 y15 z0 z1 z2 z3 z4 z5 z6 z7 z8 z9 z10 z11 z12 z13 z14 z15 n e f g u : Int) (h0 : ((256 : Int) : Int) ≠ (0 : Int)) (h1 : (n.tmod (256 : Int) : Int) = z13) (h2 : ((iU (IntKind.u8.wrap z13)) : AV) = (iU (z13))) (h3 : ((256 : Int) : Int) ≠ (0 : Int)) (h4 : (wrapF IntKind.i64 (n.tdiv (256 : Int)) : Int) = y13) (h5 : ((256 : Int) : Int) ≠ (0 : Int)) (h6 : (y13.tmod (256 : Int) : Int) = z12) (h7 : ((iU (IntKind.u8.wrap z12)) : AV) = (iU (z12))) (h8 : ((256 : Int) : Int) ≠ (0 : Int)) (h9 : (wrapF IntKind.i64 (y13.tdiv (256 : Int)) : Int) = y12) (h10 : ((256 : Int) : Int) ≠ (0 : Int)) (h11 : (y12.tmod (256 : Int) : Int) = z11) (h12 : ((iU (IntKind.u8.wrap z11)) : AV) = (iU (z11))) (h13 : ((256 : Int) : Int) ≠ (0 : Int)) (h14 : (wrapF IntKind.i64 (y12.tdiv (256 : Int)) : Int) = y11) {Φ : Res → Prop} (ho : ∀ j, OutK E 0 0 (p95_3_end n0 n1 n2 n3 n4 x0 x1 x2 x3 x4 x5 x6 x7 x8 x9 x10 x11 x12 x13 x14 x15 y0 y1 y2 y3 y4 y5 y6 y7 y8 y9 y10 y11 y12 y13 y14 y15 z0 z1 z2 z3 z4 z5 z6 z7 z8 z9 z10 z11 z12 z13 z14 z15 n e f g u j) Φ) (j : Nat → Value) : OutK E 0 0 (s95_3 n0 n1 n2 n3 n4 x0 x1 x2 x3 x4 x5 x6 x7 x8 x9 x10 x11 x12 x13 x14 x15 y0 y1 y2 y3 y4 y5 y6 y7 y8 y9 y10 y11 y12 y13 y14 y15 z0 z1 z2 z3 z4 z5 z6 z7 z8 z9 z10 z11 z12 z13 z14 z15 n e f g u j) Φ :=
  outK_seg hE (R0_ok hE) [.run 15, (.ops [(2, (.quo (z13))), (3, (.rn (iU (z13))))] []), (.ops [(1, (.quo (y13)))] []), .run 11, (.ops [(2, (.quo (z12))), (3, (.rn (iU (z12))))] []), (.ops [(1, (.quo (y12)))] []), .run 11, (.ops [(2, (.quo (z11))), (3, (.rn (iU (z11))))] []), (.ops [(1, (.quo (y11)))] []), .run 10] [8] (s' := fun j => ⟨[(.some ⟨[(.v (.int .u8 (x0))), (.v (.int .u8 (x1))), (.v (.int .u8 (x2))), (.v (.int .u8 (x3))), (.v (.int .u8 (x4))), (.v (.int .u8 (x5))), (.v (.int .u8 (x6))), (.v (.int .u8 (x7))), (.v (.int .u8 (x8))), (.v (.int .u8 (x9))), (.v (.int .u8 (x10))), (.v (.int .u8 (z11))), (.v (.int .u8 (z12))), (.v (.int .u8 (z13))), (.v (.int .u8 (x14))), (.v (.int .u8 (x15)))], 16, 92, true, .cells⟩), (.some ⟨[(.v (.int .u8 (x0))), (.v (.int .u8 (x1))), (.v (.int .u8 (x2))), (.v (.int .u8 (x3))), (.v (.int .u8 (x4))), (.v (.int .u8 (x5))), (.v (.int .u8 (x6))), (.v (.int .u8 (x7))), (.v (.int .u8 (x8))), (.v (.int .u8 (x9))), (.v (.int .u8 (x10))), (.v (.int .u8 (z11))), (.v (.int .u8 (z12))), (.v (.int .u8 (z13))), (.v (.int .u8 (x14))), (.v (.int .u8 (x15)))], 16, 92, true, .cells⟩)], [(.code .ret)], mkT j [(8, (.e (.one (.ptr 1 0))))] 25 0⟩) (fun j => by kernel_rfl) (aP h0 <| aP h1 <| aP h2 <| aP h3 <| aP h4 <| aP h5 <| aP h6 <| aP h7 <| aP h8 <| aP h9 <| aP h10 <| aP h11 <| aP h12 <| aP h13 <| aP h14 <| aZ)
    fun j => outK_gc [1] (by decide) (by kernel_rfl) (by kernel_rfl) (by kernel_rfl) (ho j)
def p96_3_end (_n0 _n1 _n2 _n3 _n4 _x0 _x1 _x2 _x3 _x4 _x5 _x6 _x7 _x8 _x9 _x10 _x11 _x12 _x13 _x14 _x15 _y0 _y1 _y2 _y3 _y4 _y5 _y6 _y7 _y8 _y9 _y10 _y11 _y12 _y13 _y14 _y15 _z0 _z1 _z2 _z3 _z4 _z5 _z6 _z7 _z8 _z9 _z10 _z11 _z12 z13 _z14 _z15 _n _e _f _g _u : Int) (j : Nat → Value) : St := ⟨[], [(.code .ret)], mkT j [(6, (iI (z13)))] 23 0⟩
theorem p96_3 (hE : EnvOk E) (n0 n1 n2 n3 n4 x0 x1 x2 x3 x4 x5 x6 x7 x8 x9 x10 x11 x12 x13 x14 x15 y0 y1 y2 y3 y4 y5 y6 y7 y8 y9 y10 y11 y12 y13 y14 y15 z0 z1 z2 z3 z4 z5 z6 z7 z8 z9 z10 z11 z12 z13 z14 z15 n e f g u : Int) (h0 : ((iI 0) : AV) = (iI (y11))) (h1 : ((iI (IntKind.i64.wrap x11)) : AV) = (iI (x11))) (h2 : ((iI (wrapF IntKind.i64 (y11 + x11))) : AV) = (iI (z11))) (h3 : ((iI (wrapF IntKind.i64 ((256 : Int) * z11))) : AV) = (iI (y12))) (h4 : ((iI (IntKind.i64.wrap x12)) : AV) = (iI (x12))) (h5 : ((iI (wrapF IntKind.i64 (y12 + x12))) : AV) = (iI (z12))) (h6 : ((iI (wrapF IntKind.i64 ((256 : Int) * z12))) : AV) = (iI (y13))) (h7 : ((iI (IntKind.i64.wrap x13)) : AV) = (iI (x13))) (h8 : ((iI (wrapF IntKind.i64 (y13 + x13))) : AV) = (iI (z13))) {Φ : Res → Prop} (ho : ∀ j, OutK E 0 0 (p96_3_end n0 n1 n2 n3 n4 x0 x1 x2 x3 x4 x5 x6 x7 x8 x9 x10 x11 x12 x13 x14 x15 y0 y1 y2 y3 y4 y5 y6 y7 y8 y9 y10 y11 y12 y13 y14 y15 z0 z1 z2 z3 z4 z5 z6 z7 z8 z9 z10 z11 z12 z13 z14 z15 n e f g u j) Φ) (j : Nat → Value) : OutK E 0 0 (s96_3 n0 n1 n2 n3 n4 x0 x1 x2 x3 x4 x5 x6 x7 x8 x9 x10 x11 x12 x13 x14 x15 y0 y1 y2 y3 y4 y5 y6 y7 y8 y9 y10 y11 y12 y13 y14 y15 z0 z1 z2 z3 z4 z5 z6 z7 z8 z9 z10 z11 z12 z13 z14 z15 n e f g u j) Φ :=
  outK_seg hE (R0_ok hE) [.run 16, (.ops [(1, (.rn (iI (y11)))), (5, (.rn (iI (x11)))), (6, (.rn (iI (z11))))] []), .run 10, (.ops [(1, (.rn (iI (y12)))), (5, (.rn (iI (x12)))), (6, (.rn (iI (z12))))] []), .run 10, (.ops [(1, (.rn (iI (y13)))), (5, (.rn (iI (x13)))), (6, (.rn (iI (z13))))] []), .run 10] [6] (s' := fun j => ⟨[(.some ⟨[(.v (.int .u8 (x0))), (.v (.int .u8 (x1))), (.v (.int .u8 (x2))), (.v (.int .u8 (x3))), (.v (.int .u8 (x4))), (.v (.int .u8 (x5))), (.v (.int .u8 (x6))), (.v (.int .u8 (x7))), (.v (.int .u8 (x8))), (.v (.int .u8 (x9))), (.v (.int .u8 (x10))), (.v (.int .u8 (x11))), (.v (.int .u8 (x12))), (.v (.int .u8 (x13))), (.v (.int .u8 (x14))), (.v (.int .u8 (x15)))], 16, 92, true, .cells⟩)], [(.code .ret)], mkT j [(6, (iI (z13)))] 23 0⟩) (fun j => by kernel_rfl) (aP h0 <| aP h1 <| aP h2 <| aP h3 <| aP h4 <| aP h5 <| aP h6 <| aP h7 <| aP h8 <| aZ)
    fun j => outK_gc [] (by decide) (by kernel_rfl) (by kernel_rfl) (by kernel_rfl) (ho j)
def p95_4_end (_n0 _n1 _n2 _n3 _n4 x0 x1 x2 x3 x4 x5 x6 x7 x8 x9 x10 x11 x12 x13 _x14 x15 _y0 _y1 _y2 _y3 _y4 _y5 _y6 _y7 _y8 _y9 _y10 _y11 _y12 _y13 _y14 _y15 _z0 _z1 _z2 _z3 _z4 _z5 _z6 _z7 _z8 _z9 _z10 _z11 _z12 _z13 z14 _z15 _n _e _f _g _u : Int) (j : Nat → Value) : St := ⟨[(.some ⟨[(.v (.int .u8 (x0))), (.v (.int .u8 (x1))), (.v (.int .u8 (x2))), (.v (.int .u8 (x3))), (.v (.int .u8 (x4))), (.v (.int .u8 (x5))), (.v (.int .u8 (x6))), (.v (.int .u8 (x7))), (.v (.int .u8 (x8))), (.v (.int .u8 (x9))), (.v (.int .u8 (x10))), (.v (.int .u8 (x11))), (.v (.int .u8 (x12))), (.v (.int .u8 (x13))), (.v (.int .u8 (z14))), (.v (.int .u8 (x15)))], 16, 92, true, .cells⟩)], [(.code .ret)], mkT j [(8, (.e (.one (.ptr 0 0))))] 25 0⟩
theorem p95_4 (hE : EnvOk E) (n0 n1 n2 n3 n4 x0 x1 x2 x3 x4 x5 x6 x7 x8 x9 x10 x11 x12 x13 x14 x15 y0 y1 y2 y3 y4 y5 y6 y7 y8 y9 y10 y11 y12 y13 y14 y15 z0 z1 z2 z3 z4 z5 z6 z7 z8 z9 z10 z11 z12 z13 z14 z15 n e f g u : Int) (h0 : ((256 : Int) : Int) ≠ (0 : Int)) (h1 : (n.tmod (256 : Int) : Int) = z14) (h2 : ((iU (IntKind.u8.wrap z14)) : AV) = (iU (z14))) (h3 : ((256 : Int) : Int) ≠ (0 : Int)) (h4 : (wrapF IntKind.i64 (n.tdiv (256 : Int)) : Int) = y14) {Φ : Res → Prop} (ho : ∀ j, OutK E 0 0 (p95_4_end n0 n1 n2 n3 n4 x0 x1 x2 x3 x4 x5 x6 x7 x8 x9 x10 x11 x12 x13 x14 x15 y0 y1 y2 y3 y4 y5 y6 y7 y8 y9 y10 y11 y12 y13 y14 y15 z0 z1 z2 z3 z4 z5 z6 z7 z8 z9 z10 z11 z12 z13 z14 z15 n e f g u j) Φ) (j : Nat → Value) : OutK E 0 0 (s95_4 n0 n1 n2 n3 n4 x0 x1 x2 x3 x4 x5 x6 x7 x8 x9 x10 x11 x12 x13 x14 x15 y0 y1 y2 y3 y4 y5 y6 y7 y8 y9 y10 y11 y12 y13 y14 y15 z0 z1 z2 z3 z4 z5 z6 z7 z8 z9 z10 z11 z12 z13 z14 z15 n e f g u j) Φ :=
  outK_seg hE (R0_ok hE) [.run 15, (.ops [(2, (.quo (z14))), (3, (.rn (iU (z14))))] []), (.ops [(1, (.quo (y14)))] []), .run 10] [8] (s' := fun j => ⟨[(.some ⟨[(.v (.int .u8 (x0))), (.v (.int .u8 (x1))), (.v (.int .u8 (x2))), (.v (.int .u8 (x3))), (.v (.int .u8 (x4))), (.v (.int .u8 (x5))), (.v (.int .u8 (x6))), (.v (.int .u8 (x7))), (.v (.int .u8 (x8))), (.v (.int .u8 (x9))), (.v (.int .u8 (x10))), (.v (.int .u8 (x11))), (.v (.int .u8 (x12))), (.v (.int .u8 (x13))), (.v (.int .u8 (z14))), (.v (.int .u8 (x15)))], 16, 92, true, .cells⟩), (.some ⟨[(.v (.int .u8 (x0))), (.v (.int .u8 (x1))), (.v (.int .u8 (x2))), (.v (.int .u8 (x3))), (.v (.int .u8 (x4))), (.v (.int .u8 (x5))), (.v (.int .u8 (x6))), (.v (.int .u8 (x7))), (.v (.int .u8 (x8))), (.v (.int .u8 (x9))), (.v (.int .u8 (x10))), (.v (.int .u8 (x11))), (.v (.int .u8 (x12))), (.v (.int .u8 (x13))), (.v (.int .u8 (z14))), (.v (.int .u8 (x15)))], 16, 92, true, .cells⟩)], [(.code .ret)], mkT j [(8, (.e (.one (.ptr 1 0))))] 25 0⟩) (fun j => by kernel_rfl) (aP h0 <| aP h1 <| aP h2 <| aP h3 <| aP h4 <| aZ)
    fun j => outK_gc [1] (by decide) (by kernel_rfl) (by kernel_rfl) (by kernel_rfl) (ho j)
def p96_4_end (_n0 _n1 _n2 _n3 _n4 _x0 _x1 _x2 _x3 _x4 _x5 _x6 _x7 _x8 _x9 _x10 _x11 _x12 _x13 _x14 _x15 _y0 _y1 _y2 _y3 _y4 _y5 _y6 _y7 _y8 _y9 _y10 _y11 _y12 _y13 _y14 _y15 _z0 _z1 _z2 _z3 _z4 _z5 _z6 _z7 _z8 _z9 _z10 _z11 _z12 _z13 z14 _z15 _n _e _f _g _u : Int) (j : Nat → Value) : St := ⟨[], [(.code .ret)], mkT j [(6, (iI (z14)))] 23 0⟩
theorem p96_4 (hE : EnvOk E) (n0 n1 n2 n3 n4 x0 x1 x2 x3 x4 x5 x6 x7 x8 x9 x10 x11 x12 x13 x14 x15 y0 y1 y2 y3 y4 y5 y6 y7 y8 y9 y10 y11 y12 y13 y14 y15 z0 z1 z2 z3 z4 z5 z6 z7 z8 z9 z10 z11 z12 z13 z14 z15 n e f g u : Int) (h0 : ((iI 0) : AV) = (iI (y14))) (h1 : ((iI (IntKind.i64.wrap x14)) : AV) = (iI (x14))) (h2 : ((iI (wrapF IntKind.i64 (y14 + x14))) : AV) = (iI (z14))) {Φ : Res → Prop} (ho : ∀ j, OutK E 0 0 (p96_4_end n0 n1 n2 n3 n4 x0 x1 x2 x3 x4 x5 x6 x7 x8 x9 x10 x11 x12 x13 x14 x15 y0 y1 y2 y3 y4 y5 y6 y7 y8 y9 y10 y11 y12 y13 y14 y15 z0 z1 z2 z3 z4 z5 z6 z7 z8 z9 z10 z11 z12 z13 z14 z15 n e f g u j) Φ) (j : Nat → Value) : OutK E 0 0 (s96_4 n0 n1 n2 n3 n4 x0 x1 x2 x3 x4 x5 x6 x7 x8 x9 x10 x11 x12 x13 x14 x15 y0 y1 y2 y3 y4 y5 y6 y7 y8 y9 y10 y11 y12 y13 y14 y15 z0 z1 z2 z3 z4 z5 z6 z7 z8 z9 z10 z11 z12 z13 z14 z15 n e f g u j) Φ :=
  outK_seg hE (R0_ok hE) [.run 16, (.ops [(1, (.rn (iI (y14)))), (5, (.rn (iI (x14)))), (6, (.rn (iI (z14))))] []), .run 10] [6] (s' := fun j => ⟨[(.some ⟨[(.v (.int .u8 (x0))), (.v (.int .u8 (x1))), (.v (.int .u8 (x2))), (.v (.int .u8 (x3))), (.v (.int .u8 (x4))), (.v (.int .u8 (x5))), (.v (.int .u8 (x6))), (.v (.int .u8 (x7))), (.v (.int .u8 (x8))), (.v (.int .u8 (x9))), (.v (.int .u8 (x10))), (.v (.int .u8 (x11))), (.v (.int .u8 (x12))), (.v (.int .u8 (x13))), (.v (.int .u8 (x14))), (.v (.int .u8 (x15)))], 16, 92, true, .cells⟩)], [(.code .ret)], mkT j [(6, (iI (z14)))] 23 0⟩) (fun j => by kernel_rfl) (aP h0 <| aP h1 <| aP h2 <| aZ)
    fun j => outK_gc [] (by decide) (by kernel_rfl) (by kernel_rfl) (by kernel_rfl) (ho j)

abbrev enA (n0 n1 n2 n3 n4 : Int) : AV := .e (.agg [.v (.int .i64 n0), .v (.int .i64 n1), .v (.int .i64 n2), .v (.int .i64 n3), .v (.int .i64 n4)])
def clm (m n : Int) : Int := if m < (if (0 : Int) > n then 0 else n) then m else if (0 : Int) > n then 0 else n
theorem clm_iff (m n : Int) (hm : 0 ≤ m) : clm m n = n ↔ rngI 0 m n = 0 := by
  unfold clm rngI
  constructor
  · intro h
    rw [if_neg]
    intro hc
    split at h <;> split at h <;> omega
  · intro h
    have hc : ¬ (n < 0 ∨ m < n) := fun hc => by rw [if_pos hc] at h; omega
    rw [if_neg (show ¬ (0 : Int) > n by omega), if_neg (by omega)]
theorem K90 (hE : EnvOk E) (n0 n1 n2 n3 n4 : Int) : COut E 0 [] 90 [enA n0 n1 n2 n3 n4] (enA (clm 999999999 n0) (clm 100000000 n1) (clm 999999 n2) (clm 999999 n3) (clm 7 n4)) [] :=
  cOut_clear (cOut_start Tryz.func90 rfl (p90 hE (n0) (n1) (n2) (n3) (n4) ((if (0 : Int) > n0 then (0 : Int) else n0)) ((if (0 : Int) > n1 then (0 : Int) else n1)) ((if (0 : Int) > n2 then (0 : Int) else n2)) ((if (0 : Int) > n3 then (0 : Int) else n3)) ((if (0 : Int) > n4 then (0 : Int) else n4)) (clm 999999999 n0) (clm 100000000 n1) (clm 999999 n2) (clm 999999 n3) (clm 7 n4) 0 0 0 0 0 0 0 rfl rfl rfl rfl rfl rfl rfl rfl rfl rfl (fun j => outK_ret (ends_ret (by kernel_rfl))) fun _ => undef)) rfl
/-- the error of an entry -/
def chkE (n0 n1 n2 n3 n4 : Int) : Int := firstI [rngI 0 999999999 n0, rngI 0 100000000 n1, rngI 0 999999 n2, rngI 0 999999 n3, rngI 0 7 n4]
theorem rng_or (a b z : Int) : rngI a b z = 0 ∨ rngI a b z = 3 := by
  unfold rngI
  split <;> simp
theorem chkE_or (n0 n1 n2 n3 n4 : Int) : chkE n0 n1 n2 n3 n4 = if [n0, n1, n2, n3, n4] == [clm 999999999 n0, clm 100000000 n1, clm 999999 n2, clm 999999 n3, clm 7 n4] then 0 else 3 := by
  have h0 := clm_iff 999999999 n0 (by decide)
  have h1 := clm_iff 100000000 n1 (by decide)
  have h2 := clm_iff 999999 n2 (by decide)
  have h3 := clm_iff 999999 n3 (by decide)
  have h4 := clm_iff 7 n4 (by decide)
  have hb : ([n0, n1, n2, n3, n4] == [clm 999999999 n0, clm 100000000 n1, clm 999999 n2, clm 999999 n3, clm 7 n4]) = decide (rngI 0 999999999 n0 = 0 ∧ rngI 0 100000000 n1 = 0 ∧ rngI 0 999999 n2 = 0 ∧ rngI 0 999999 n3 = 0 ∧ rngI 0 7 n4 = 0) := by
    rw [Bool.eq_iff_iff, decide_eq_true_iff, beq_iff_eq]
    simp only [List.cons.injEq, and_true]
    constructor
    · intro ⟨a, b, c, d, e⟩
      exact ⟨h0.mp a.symm, h1.mp b.symm, h2.mp c.symm, h3.mp d.symm, h4.mp e.symm⟩
    · intro ⟨a, b, c, d, e⟩
      exact ⟨(h0.mpr a).symm, (h1.mpr b).symm, (h2.mpr c).symm, (h3.mpr d).symm, (h4.mpr e).symm⟩
  rw [hb]
  unfold chkE
  have g0 := rng_or 0 999999999 n0
  have g1 := rng_or 0 100000000 n1
  have g2 := rng_or 0 999999 n2
  have g3 := rng_or 0 999999 n3
  have g4 := rng_or 0 7 n4
  rcases g0 with g0 | g0 <;> rcases g1 with g1 | g1 <;> rcases g2 with g2 | g2 <;> rcases g3 with g3 | g3 <;> rcases g4 with g4 | g4 <;> rw [g0, g1, g2, g3, g4] <;> rfl
theorem eq5 (l l' : List Int) (h1 : l.length = 5) (h2 : l'.length = 5) : EqOk E 68 (iC l) (iC l') (l == l') :=
  eqIs (t := 68) (n := 5) (by kernel_rfl) (by kernel_rfl) (by kernel_rfl) l l' h1 h2
theorem K37 (hE : EnvOk E) (n0 n1 n2 n3 n4 : Int) : COut E 0 [] 37 [enA n0 n1 n2 n3 n4] (iI (chkE n0 n1 n2 n3 n4)) [] := by
  have he := eq5 [n0, n1, n2, n3, n4] [clm 999999999 n0, clm 100000000 n1, clm 999999 n2, clm 999999 n3, clm 7 n4] rfl rfl
  rw [chkE_or]
  cases hb : ([n0, n1, n2, n3, n4] == [clm 999999999 n0, clm 100000000 n1, clm 999999 n2, clm 999999 n3, clm 7 n4]) with
  | true =>
    rw [hb] at he
    exact cOut_start Tryz.func37 rfl (p37f hE (n0) (n1) (n2) (n3) (n4) 0 0 0 0 0 (clm 999999999 n0) (clm 100000000 n1) (clm 999999 n2) (clm 999999 n3) (clm 7 n4) (0) 0 0 0 0 0 0 (K90 hE _ _ _ _ _) he (K70 hE false 3) (fun j => outK_ret (ends_ret (by kernel_rfl))) fun _ => undef)
  | false =>
    rw [hb] at he
    exact cOut_start Tryz.func37 rfl (p37t hE (n0) (n1) (n2) (n3) (n4) 0 0 0 0 0 (clm 999999999 n0) (clm 100000000 n1) (clm 999999 n2) (clm 999999 n3) (clm 7 n4) (3) 0 0 0 0 0 0 (K90 hE _ _ _ _ _) he (K70 hE true 3) (fun j => outK_ret (ends_ret (by kernel_rfl))) fun _ => undef)
theorem K35 (hE : EnvOk E) (n0 n1 n2 n3 n4 : Int) : COut E 0 [] 35 [enA n0 n1 n2 n3 n4] (iI (chkE n0 n1 n2 n3 n4)) [] :=
  cOut_start Tryz.func35 rfl (p35 hE (n0) (n1) (n2) (n3) (n4) 0 0 0 0 0 0 0 0 0 0 _ _ _ _ _ _ 0 (K27 hE _ _ _) (K27 hE _ _ _) (K27 hE _ _ _) (K27 hE _ _ _) (K27 hE _ _ _) (lend2 _ hE 25 [rngI 0 999999999 n0, rngI 0 100000000 n1, rngI 0 999999 n2, rngI 0 999999 n3, rngI 0 7 n4] _ _ _ (K25 hE _ (by simp)) _ 1 rfl) (fun j => outK_ret (ends_ret (by kernel_rfl))) fun _ => undef)
theorem chkE0 {n0 n1 n2 n3 n4 : Int} (h : chkE n0 n1 n2 n3 n4 = 0) : (0 ≤ n0 ∧ n0 ≤ 999999999) ∧ (0 ≤ n1 ∧ n1 ≤ 100000000) ∧ (0 ≤ n2 ∧ n2 ≤ 999999) ∧ (0 ≤ n3 ∧ n3 ≤ 999999) ∧ 0 ≤ n4 ∧ n4 ≤ 7 := by
  have := first0 h
  exact ⟨rng0 (this _ (by simp)), rng0 (this _ (by simp)), rng0 (this _ (by simp)), rng0 (this _ (by simp)), rng0 (this _ (by simp))⟩
/-! Bytes of numbers. -/
def sh (n : Int) : Nat → Int
  | 0 => n
  | k + 1 => sh n k / 256
def by8 (n : Int) (k : Nat) : Int := sh n k % 256
theorem fdiv8 (n : Int) : n.fdiv ((2 : Int) ^ 8) = n / 256 := by
  rw [Int.fdiv_eq_ediv_of_nonneg _ (by decide)]
  rfl
theorem wrap8 (n : Int) : IntKind.u8.wrap n = n % 256 := IntKind.wrap_u8 n
theorem sh_nn {n : Int} (h : 0 ≤ n) : ∀ k, 0 ≤ sh n k ∧ sh n k ≤ n
  | 0 => ⟨h, Int.le_refl _⟩
  | k + 1 => by
    have := sh_nn h k
    show 0 ≤ sh n k / 256 ∧ sh n k / 256 ≤ n
    omega
/-- the block of an entry -/
abbrev bkA (x0 x1 x2 x3 x4 x5 x6 x7 x8 x9 x10 x11 x12 x13 x14 x15 : Int) : AV := .e (.agg [.v (.int .u8 (x0)), .v (.int .u8 (x1)), .v (.int .u8 (x2)), .v (.int .u8 (x3)), .v (.int .u8 (x4)), .v (.int .u8 (x5)), .v (.int .u8 (x6)), .v (.int .u8 (x7)), .v (.int .u8 (x8)), .v (.int .u8 (x9)), .v (.int .u8 (x10)), .v (.int .u8 (x11)), .v (.int .u8 (x12)), .v (.int .u8 (x13)), .v (.int .u8 (x14)), .v (.int .u8 (x15))])
theorem K93 (hE : EnvOk E) (n0 n1 n2 n3 n4 : Int) : COut E 0 [] 93 [enA n0 n1 n2 n3 n4] (.e (.agg [.v (.int .u8 (by8 n0 3)), .v (.int .u8 (by8 n0 2)), .v (.int .u8 (by8 n0 1)), .v (.int .u8 (by8 n0 0)), .v (.int .u8 (by8 n1 3)), .v (.int .u8 (by8 n1 2)), .v (.int .u8 (by8 n1 1)), .v (.int .u8 (by8 n1 0)), .v (.int .u8 (by8 n2 2)), .v (.int .u8 (by8 n2 1)), .v (.int .u8 (by8 n2 0)), .v (.int .u8 (by8 n3 2)), .v (.int .u8 (by8 n3 1)), .v (.int .u8 (by8 n3 0)), .v (.int .u8 (by8 n4 0)), .v (.int .u8 (0))])) [] :=
  cOut_clear (cOut_start Tryz.func93 rfl (p93 hE (n0) (n1) (n2) (n3) (n4) (by8 n0 3) (by8 n0 2) (by8 n0 1) (by8 n0 0) (by8 n1 3) (by8 n1 2) (by8 n1 1) (by8 n1 0) (by8 n2 2) (by8 n2 1) (by8 n2 0) (by8 n3 2) (by8 n3 1) (by8 n3 0) (by8 n4 0) 0 (sh n0 4) (sh n0 3) (sh n0 2) (sh n0 1) (sh n1 4) (sh n1 3) (sh n1 2) (sh n1 1) (sh n2 3) (sh n2 2) (sh n2 1) (sh n3 3) (sh n3 2) (sh n3 1) (sh n4 1) 0 0 0 0 0 0 0 0 0 0 0 0 0 0 0 0 0 0 0 0 0 0 (iUe (wrap8 _)) (iIe (fdiv8 _)) (iUe (wrap8 _)) (iIe (fdiv8 _)) (iUe (wrap8 _)) (iIe (fdiv8 _)) (iUe (wrap8 _)) (iIe (fdiv8 _)) (iUe (wrap8 _)) (iIe (fdiv8 _)) (iUe (wrap8 _)) (iIe (fdiv8 _)) (iUe (wrap8 _)) (iIe (fdiv8 _)) (iUe (wrap8 _)) (iIe (fdiv8 _)) (iUe (wrap8 _)) (iIe (fdiv8 _)) (iUe (wrap8 _)) (iIe (fdiv8 _)) (iUe (wrap8 _)) (iIe (fdiv8 _)) (iUe (wrap8 _)) (iIe (fdiv8 _)) (iUe (wrap8 _)) (iIe (fdiv8 _)) (iUe (wrap8 _)) (iIe (fdiv8 _)) (iUe (wrap8 _)) (iIe (fdiv8 _)) (fun j => outK_ret (ends_ret (by kernel_rfl))) fun _ => undef)) rfl
theorem tm256 {n : Int} (h : 0 ≤ n) : n.tmod 256 = n % 256 := Int.tmod_eq_emod_of_nonneg h
theorem td256 {n m : Int} (h : 0 ≤ n ∧ n ≤ m) (hb : m ≤ 4000000000) : wrapF .i64 (n.tdiv 256) = n / 256 := by rw [Int.tdiv_eq_ediv_of_nonneg h.1]; exact wrap_id (by omega) (by omega)
theorem K95_0 (hE : EnvOk E) (x0 x1 x2 x3 x4 x5 x6 x7 x8 x9 x10 x11 x12 x13 x14 x15 n : Int) (h : 0 ≤ n) (hb : n ≤ 4000000000) : COut E 0 [] 95 [bkA x0 x1 x2 x3 x4 x5 x6 x7 x8 x9 x10 x11 x12 x13 x14 x15, iI 0, iI 4, iI n] (bkA (by8 n 3) (by8 n 2) (by8 n 1) (by8 n 0) x4 x5 x6 x7 x8 x9 x10 x11 x12 x13 x14 x15) [] :=
  cOut_clear (cOut_start Tryz.func95 rfl (p95_0 hE 0 0 0 0 0 (x0) (x1) (x2) (x3) (x4) (x5) (x6) (x7) (x8) (x9) (x10) (x11) (x12) (x13) (x14) (x15) (sh n 4) (sh n 3) (sh n 2) (sh n 1) 0 0 0 0 0 0 0 0 0 0 0 0 (by8 n 3) (by8 n 2) (by8 n 1) (by8 n 0) 0 0 0 0 0 0 0 0 0 0 0 0 (n) 0 0 0 0 (by decide) (tm256 (sh_nn h 0).1) (iUe (by rw [wrap8, by8, Int.emod_emod])) (by decide) (td256 (sh_nn h 0) hb) (by decide) (tm256 (sh_nn h 1).1) (iUe (by rw [wrap8, by8, Int.emod_emod])) (by decide) (td256 (sh_nn h 1) hb) (by decide) (tm256 (sh_nn h 2).1) (iUe (by rw [wrap8, by8, Int.emod_emod])) (by decide) (td256 (sh_nn h 2) hb) (by decide) (tm256 (sh_nn h 3).1) (iUe (by rw [wrap8, by8, Int.emod_emod])) (by decide) (td256 (sh_nn h 3) hb) (fun j => outK_ret (ends_ret (by kernel_rfl))) fun _ => undef)) rfl


theorem K95_1 (hE : EnvOk E) (x0 x1 x2 x3 x4 x5 x6 x7 x8 x9 x10 x11 x12 x13 x14 x15 n : Int) (h : 0 ≤ n) (hb : n ≤ 4000000000) : COut E 0 [] 95 [bkA x0 x1 x2 x3 x4 x5 x6 x7 x8 x9 x10 x11 x12 x13 x14 x15, iI 4, iI 8, iI n] (bkA x0 x1 x2 x3 (by8 n 3) (by8 n 2) (by8 n 1) (by8 n 0) x8 x9 x10 x11 x12 x13 x14 x15) [] :=
  cOut_clear (cOut_start Tryz.func95 rfl (p95_1 hE 0 0 0 0 0 (x0) (x1) (x2) (x3) (x4) (x5) (x6) (x7) (x8) (x9) (x10) (x11) (x12) (x13) (x14) (x15) 0 0 0 0 (sh n 4) (sh n 3) (sh n 2) (sh n 1) 0 0 0 0 0 0 0 0 0 0 0 0 (by8 n 3) (by8 n 2) (by8 n 1) (by8 n 0) 0 0 0 0 0 0 0 0 (n) 0 0 0 0 (by decide) (tm256 (sh_nn h 0).1) (iUe (by rw [wrap8, by8, Int.emod_emod])) (by decide) (td256 (sh_nn h 0) hb) (by decide) (tm256 (sh_nn h 1).1) (iUe (by rw [wrap8, by8, Int.emod_emod])) (by decide) (td256 (sh_nn h 1) hb) (by decide) (tm256 (sh_nn h 2).1) (iUe (by rw [wrap8, by8, Int.emod_emod])) (by decide) (td256 (sh_nn h 2) hb) (by decide) (tm256 (sh_nn h 3).1) (iUe (by rw [wrap8, by8, Int.emod_emod])) (by decide) (td256 (sh_nn h 3) hb) (fun j => outK_ret (ends_ret (by kernel_rfl))) fun _ => undef)) rfl


theorem K95_2 (hE : EnvOk E) (x0 x1 x2 x3 x4 x5 x6 x7 x8 x9 x10 x11 x12 x13 x14 x15 n : Int) (h : 0 ≤ n) (hb : n ≤ 4000000000) : COut E 0 [] 95 [bkA x0 x1 x2 x3 x4 x5 x6 x7 x8 x9 x10 x11 x12 x13 x14 x15, iI 8, iI 11, iI n] (bkA x0 x1 x2 x3 x4 x5 x6 x7 (by8 n 2) (by8 n 1) (by8 n 0) x11 x12 x13 x14 x15) [] :=
  cOut_clear (cOut_start Tryz.func95 rfl (p95_2 hE 0 0 0 0 0 (x0) (x1) (x2) (x3) (x4) (x5) (x6) (x7) (x8) (x9) (x10) (x11) (x12) (x13) (x14) (x15) 0 0 0 0 0 0 0 0 (sh n 3) (sh n 2) (sh n 1) 0 0 0 0 0 0 0 0 0 0 0 0 0 (by8 n 2) (by8 n 1) (by8 n 0) 0 0 0 0 0 (n) 0 0 0 0 (by decide) (tm256 (sh_nn h 0).1) (iUe (by rw [wrap8, by8, Int.emod_emod])) (by decide) (td256 (sh_nn h 0) hb) (by decide) (tm256 (sh_nn h 1).1) (iUe (by rw [wrap8, by8, Int.emod_emod])) (by decide) (td256 (sh_nn h 1) hb) (by decide) (tm256 (sh_nn h 2).1) (iUe (by rw [wrap8, by8, Int.emod_emod])) (by decide) (td256 (sh_nn h 2) hb) (fun j => outK_ret (ends_ret (by kernel_rfl))) fun _ => undef)) rfl


theorem K95_3 (hE : EnvOk E) (x0 x1 x2 x3 x4 x5 x6 x7 x8 x9 x10 x11 x12 x13 x14 x15 n : Int) (h : 0 ≤ n) (hb : n ≤ 4000000000) : COut E 0 [] 95 [bkA x0 x1 x2 x3 x4 x5 x6 x7 x8 x9 x10 x11 x12 x13 x14 x15, iI 11, iI 14, iI n] (bkA x0 x1 x2 x3 x4 x5 x6 x7 x8 x9 x10 (by8 n 2) (by8 n 1) (by8 n 0) x14 x15) [] :=
  cOut_clear (cOut_start Tryz.func95 rfl (p95_3 hE 0 0 0 0 0 (x0) (x1) (x2) (x3) (x4) (x5) (x6) (x7) (x8) (x9) (x10) (x11) (x12) (x13) (x14) (x15) 0 0 0 0 0 0 0 0 0 0 0 (sh n 3) (sh n 2) (sh n 1) 0 0 0 0 0 0 0 0 0 0 0 0 0 (by8 n 2) (by8 n 1) (by8 n 0) 0 0 (n) 0 0 0 0 (by decide) (tm256 (sh_nn h 0).1) (iUe (by rw [wrap8, by8, Int.emod_emod])) (by decide) (td256 (sh_nn h 0) hb) (by decide) (tm256 (sh_nn h 1).1) (iUe (by rw [wrap8, by8, Int.emod_emod])) (by decide) (td256 (sh_nn h 1) hb) (by decide) (tm256 (sh_nn h 2).1) (iUe (by rw [wrap8, by8, Int.emod_emod])) (by decide) (td256 (sh_nn h 2) hb) (fun j => outK_ret (ends_ret (by kernel_rfl))) fun _ => undef)) rfl


theorem K95_4 (hE : EnvOk E) (x0 x1 x2 x3 x4 x5 x6 x7 x8 x9 x10 x11 x12 x13 x14 x15 n : Int) (h : 0 ≤ n) (hb : n ≤ 4000000000) : COut E 0 [] 95 [bkA x0 x1 x2 x3 x4 x5 x6 x7 x8 x9 x10 x11 x12 x13 x14 x15, iI 14, iI 15, iI n] (bkA x0 x1 x2 x3 x4 x5 x6 x7 x8 x9 x10 x11 x12 x13 (by8 n 0) x15) [] :=
  cOut_clear (cOut_start Tryz.func95 rfl (p95_4 hE 0 0 0 0 0 (x0) (x1) (x2) (x3) (x4) (x5) (x6) (x7) (x8) (x9) (x10) (x11) (x12) (x13) (x14) (x15) 0 0 0 0 0 0 0 0 0 0 0 0 0 0 (sh n 1) 0 0 0 0 0 0 0 0 0 0 0 0 0 0 0 (by8 n 0) 0 (n) 0 0 0 0 (by decide) (tm256 (sh_nn h 0).1) (iUe (by rw [wrap8, by8, Int.emod_emod])) (by decide) (td256 (sh_nn h 0) hb) (fun j => outK_ret (ends_ret (by kernel_rfl))) fun _ => undef)) rfl

def nm (l : List Int) : Int := l.foldl (fun n x => 256 * n + x) 0
theorem orI {z x : Int} (h0 : 0 ≤ z) (h1 : z ≤ 100000000000) (g0 : 0 ≤ x) (g1 : x < 256) : IntKind.i64.wrap ((BitVec.ofInt 64 (z * 256) ||| BitVec.ofInt 64 x).toNat : Int) = 256 * z + x := by
  obtain ⟨a, rfl⟩ : ∃ a : Nat, z = (a : Int) := ⟨z.toNat, by omega⟩
  obtain ⟨b, rfl⟩ : ∃ b : Nat, x = (b : Int) := ⟨x.toNat, by omega⟩
  have e : ((a : Int) * 256) = ((a * 256 : Nat) : Int) := by omega
  rw [e, BitVec.ofInt_natCast, BitVec.ofInt_natCast, BitVec.toNat_or, BitVec.toNat_ofNat, BitVec.toNat_ofNat, Nat.mod_eq_of_lt (by omega), Nat.mod_eq_of_lt (by omega)]
  have h := Nat.shiftLeft_add_eq_or_of_lt (b := b) (i := 8) (by omega) a
  rw [Nat.shiftLeft_eq] at h
  rw [← h, wrapS (by omega) (by omega)]
  omega
theorem shlI {z : Int} (h0 : 0 ≤ z) (h1 : z ≤ 100000000000) : IntKind.i64.wrap (z * (2 : Int) ^ 8) = z * 256 := by
  rw [show ((2 : Int) ^ 8) = 256 from rfl]
  exact wrapS (by omega) (by omega)
theorem K94 (hE : EnvOk E) (x0 x1 x2 x3 x4 x5 x6 x7 x8 x9 x10 x11 x12 x13 x14 x15 : Int) (h0 : 0 ≤ x0 ∧ x0 < 256) (h1 : 0 ≤ x1 ∧ x1 < 256) (h2 : 0 ≤ x2 ∧ x2 < 256) (h3 : 0 ≤ x3 ∧ x3 < 256) (h4 : 0 ≤ x4 ∧ x4 < 256) (h5 : 0 ≤ x5 ∧ x5 < 256) (h6 : 0 ≤ x6 ∧ x6 < 256) (h7 : 0 ≤ x7 ∧ x7 < 256) (h8 : 0 ≤ x8 ∧ x8 < 256) (h9 : 0 ≤ x9 ∧ x9 < 256) (h10 : 0 ≤ x10 ∧ x10 < 256) (h11 : 0 ≤ x11 ∧ x11 < 256) (h12 : 0 ≤ x12 ∧ x12 < 256) (h13 : 0 ≤ x13 ∧ x13 < 256) (h14 : 0 ≤ x14 ∧ x14 < 256) : COut E 0 [] 94 [bkA x0 x1 x2 x3 x4 x5 x6 x7 x8 x9 x10 x11 x12 x13 x14 x15] (enA (nm [x0, x1, x2, x3]) (nm [x4, x5, x6, x7]) (nm [x8, x9, x10]) (nm [x11, x12, x13]) (nm [x14])) [] := by
  have z0_ : 0 ≤ nm [x0] ∧ nm [x0] ≤ 255 := by simp only [nm, List.foldl_cons, List.foldl_nil]; omega
  have z1_ : 0 ≤ nm [x0, x1] ∧ nm [x0, x1] ≤ 65535 := by simp only [nm, List.foldl_cons, List.foldl_nil]; omega
  have z2_ : 0 ≤ nm [x0, x1, x2] ∧ nm [x0, x1, x2] ≤ 16777215 := by simp only [nm, List.foldl_cons, List.foldl_nil]; omega
  have z3_ : 0 ≤ nm [x0, x1, x2, x3] ∧ nm [x0, x1, x2, x3] ≤ 4294967295 := by simp only [nm, List.foldl_cons, List.foldl_nil]; omega
  have z4_ : 0 ≤ nm [x4] ∧ nm [x4] ≤ 255 := by simp only [nm, List.foldl_cons, List.foldl_nil]; omega
  have z5_ : 0 ≤ nm [x4, x5] ∧ nm [x4, x5] ≤ 65535 := by simp only [nm, List.foldl_cons, List.foldl_nil]; omega
  have z6_ : 0 ≤ nm [x4, x5, x6] ∧ nm [x4, x5, x6] ≤ 16777215 := by simp only [nm, List.foldl_cons, List.foldl_nil]; omega
  have z7_ : 0 ≤ nm [x4, x5, x6, x7] ∧ nm [x4, x5, x6, x7] ≤ 4294967295 := by simp only [nm, List.foldl_cons, List.foldl_nil]; omega
  have z8_ : 0 ≤ nm [x8] ∧ nm [x8] ≤ 255 := by simp only [nm, List.foldl_cons, List.foldl_nil]; omega
  have z9_ : 0 ≤ nm [x8, x9] ∧ nm [x8, x9] ≤ 65535 := by simp only [nm, List.foldl_cons, List.foldl_nil]; omega
  have z10_ : 0 ≤ nm [x8, x9, x10] ∧ nm [x8, x9, x10] ≤ 16777215 := by simp only [nm, List.foldl_cons, List.foldl_nil]; omega
  have z11_ : 0 ≤ nm [x11] ∧ nm [x11] ≤ 255 := by simp only [nm, List.foldl_cons, List.foldl_nil]; omega
  have z12_ : 0 ≤ nm [x11, x12] ∧ nm [x11, x12] ≤ 65535 := by simp only [nm, List.foldl_cons, List.foldl_nil]; omega
  have z13_ : 0 ≤ nm [x11, x12, x13] ∧ nm [x11, x12, x13] ≤ 16777215 := by simp only [nm, List.foldl_cons, List.foldl_nil]; omega
  have z14_ : 0 ≤ nm [x14] ∧ nm [x14] ≤ 255 := by simp only [nm, List.foldl_cons, List.foldl_nil]; omega
  exact cOut_clear (cOut_start Tryz.func94 rfl (p94 hE 0 0 0 0 0 (x0) (x1) (x2) (x3) (x4) (x5) (x6) (x7) (x8) (x9) (x10) (x11) (x12) (x13) (x14) (x15) (0) (nm [x0] * 256) (nm [x0, x1] * 256) (nm [x0, x1, x2] * 256) (0) (nm [x4] * 256) (nm [x4, x5] * 256) (nm [x4, x5, x6] * 256) (0) (nm [x8] * 256) (nm [x8, x9] * 256) (0) (nm [x11] * 256) (nm [x11, x12] * 256) (0) 0 (nm [x0]) (nm [x0, x1]) (nm [x0, x1, x2]) (nm [x0, x1, x2, x3]) (nm [x4]) (nm [x4, x5]) (nm [x4, x5, x6]) (nm [x4, x5, x6, x7]) (nm [x8]) (nm [x8, x9]) (nm [x8, x9, x10]) (nm [x11]) (nm [x11, x12]) (nm [x11, x12, x13]) (nm [x14]) 0 0 0 0 0 0 rfl (iIe (wrapS (by omega) (by omega))) (iIe (by have e := orI (z := 0) (x := x0) (by decide) (by decide) (by omega) (by omega); rw [Int.zero_mul] at e; rw [e]; simp only [nm, List.foldl_cons, List.foldl_nil])) (iIe (shlI z0_.1 (by omega))) (iIe (wrapS (by omega) (by omega))) (iIe (by rw [orI z0_.1 (by omega) (by omega) (by omega)]; simp only [nm, List.foldl_cons, List.foldl_nil])) (iIe (shlI z1_.1 (by omega))) (iIe (wrapS (by omega) (by omega))) (iIe (by rw [orI z1_.1 (by omega) (by omega) (by omega)]; simp only [nm, List.foldl_cons, List.foldl_nil])) (iIe (shlI z2_.1 (by omega))) (iIe (wrapS (by omega) (by omega))) (iIe (by rw [orI z2_.1 (by omega) (by omega) (by omega)]; simp only [nm, List.foldl_cons, List.foldl_nil])) rfl (iIe (wrapS (by omega) (by omega))) (iIe (by have e := orI (z := 0) (x := x4) (by decide) (by decide) (by omega) (by omega); rw [Int.zero_mul] at e; rw [e]; simp only [nm, List.foldl_cons, List.foldl_nil])) (iIe (shlI z4_.1 (by omega))) (iIe (wrapS (by omega) (by omega))) (iIe (by rw [orI z4_.1 (by omega) (by omega) (by omega)]; simp only [nm, List.foldl_cons, List.foldl_nil])) (iIe (shlI z5_.1 (by omega))) (iIe (wrapS (by omega) (by omega))) (iIe (by rw [orI z5_.1 (by omega) (by omega) (by omega)]; simp only [nm, List.foldl_cons, List.foldl_nil])) (iIe (shlI z6_.1 (by omega))) (iIe (wrapS (by omega) (by omega))) (iIe (by rw [orI z6_.1 (by omega) (by omega) (by omega)]; simp only [nm, List.foldl_cons, List.foldl_nil])) rfl (iIe (wrapS (by omega) (by omega))) (iIe (by have e := orI (z := 0) (x := x8) (by decide) (by decide) (by omega) (by omega); rw [Int.zero_mul] at e; rw [e]; simp only [nm, List.foldl_cons, List.foldl_nil])) (iIe (shlI z8_.1 (by omega))) (iIe (wrapS (by omega) (by omega))) (iIe (by rw [orI z8_.1 (by omega) (by omega) (by omega)]; simp only [nm, List.foldl_cons, List.foldl_nil])) (iIe (shlI z9_.1 (by omega))) (iIe (wrapS (by omega) (by omega))) (iIe (by rw [orI z9_.1 (by omega) (by omega) (by omega)]; simp only [nm, List.foldl_cons, List.foldl_nil])) rfl (iIe (wrapS (by omega) (by omega))) (iIe (by have e := orI (z := 0) (x := x11) (by decide) (by decide) (by omega) (by omega); rw [Int.zero_mul] at e; rw [e]; simp only [nm, List.foldl_cons, List.foldl_nil])) (iIe (shlI z11_.1 (by omega))) (iIe (wrapS (by omega) (by omega))) (iIe (by rw [orI z11_.1 (by omega) (by omega) (by omega)]; simp only [nm, List.foldl_cons, List.foldl_nil])) (iIe (shlI z12_.1 (by omega))) (iIe (wrapS (by omega) (by omega))) (iIe (by rw [orI z12_.1 (by omega) (by omega) (by omega)]; simp only [nm, List.foldl_cons, List.foldl_nil])) rfl (iIe (wrapS (by omega) (by omega))) (iIe (by have e := orI (z := 0) (x := x14) (by decide) (by decide) (by omega) (by omega); rw [Int.zero_mul] at e; rw [e]; simp only [nm, List.foldl_cons, List.foldl_nil])) (fun j => outK_ret (ends_ret (by kernel_rfl))) fun _ => undef)) rfl
theorem K96_0 (hE : EnvOk E) (x0 x1 x2 x3 x4 x5 x6 x7 x8 x9 x10 x11 x12 x13 x14 x15 : Int) (h0 : 0 ≤ x0 ∧ x0 < 256) (h1 : 0 ≤ x1 ∧ x1 < 256) (h2 : 0 ≤ x2 ∧ x2 < 256) (h3 : 0 ≤ x3 ∧ x3 < 256) : COut E 0 [] 96 [bkA x0 x1 x2 x3 x4 x5 x6 x7 x8 x9 x10 x11 x12 x13 x14 x15, iI 0, iI 4] (iI (nm [x0, x1, x2, x3])) [] := by
  have z0_ : 0 ≤ nm [x0] ∧ nm [x0] ≤ 255 := by simp only [nm, List.foldl_cons, List.foldl_nil]; omega
  have z1_ : 0 ≤ nm [x0, x1] ∧ nm [x0, x1] ≤ 65535 := by simp only [nm, List.foldl_cons, List.foldl_nil]; omega
  have z2_ : 0 ≤ nm [x0, x1, x2] ∧ nm [x0, x1, x2] ≤ 16777215 := by simp only [nm, List.foldl_cons, List.foldl_nil]; omega
  have z3_ : 0 ≤ nm [x0, x1, x2, x3] ∧ nm [x0, x1, x2, x3] ≤ 4294967295 := by simp only [nm, List.foldl_cons, List.foldl_nil]; omega
  exact cOut_start Tryz.func96 rfl (p96_0 hE 0 0 0 0 0 (x0) (x1) (x2) (x3) (x4) (x5) (x6) (x7) (x8) (x9) (x10) (x11) (x12) (x13) (x14) (x15) (0) (256 * nm [x0]) (256 * nm [x0, x1]) (256 * nm [x0, x1, x2]) 0 0 0 0 0 0 0 0 0 0 0 0 (nm [x0]) (nm [x0, x1]) (nm [x0, x1, x2]) (nm [x0, x1, x2, x3]) 0 0 0 0 0 0 0 0 0 0 0 0 0 0 0 0 0 rfl (iIe (wrapS (by omega) (by omega))) (iIe (by rw [wrap_id (by omega) (by omega)]; simp only [nm, List.foldl_cons, List.foldl_nil]; omega)) (iIe (wrap_id (by omega) (by omega))) (iIe (wrapS (by omega) (by omega))) (iIe (by rw [wrap_id (by omega) (by omega)]; simp only [nm, List.foldl_cons, List.foldl_nil])) (iIe (wrap_id (by omega) (by omega))) (iIe (wrapS (by omega) (by omega))) (iIe (by rw [wrap_id (by omega) (by omega)]; simp only [nm, List.foldl_cons, List.foldl_nil])) (iIe (wrap_id (by omega) (by omega))) (iIe (wrapS (by omega) (by omega))) (iIe (by rw [wrap_id (by omega) (by omega)]; simp only [nm, List.foldl_cons, List.foldl_nil])) (fun j => outK_ret (ends_ret (by kernel_rfl))) fun _ => undef)
theorem K96_1 (hE : EnvOk E) (x0 x1 x2 x3 x4 x5 x6 x7 x8 x9 x10 x11 x12 x13 x14 x15 : Int) (h4 : 0 ≤ x4 ∧ x4 < 256) (h5 : 0 ≤ x5 ∧ x5 < 256) (h6 : 0 ≤ x6 ∧ x6 < 256) (h7 : 0 ≤ x7 ∧ x7 < 256) : COut E 0 [] 96 [bkA x0 x1 x2 x3 x4 x5 x6 x7 x8 x9 x10 x11 x12 x13 x14 x15, iI 4, iI 8] (iI (nm [x4, x5, x6, x7])) [] := by
  have z4_ : 0 ≤ nm [x4] ∧ nm [x4] ≤ 255 := by simp only [nm, List.foldl_cons, List.foldl_nil]; omega
  have z5_ : 0 ≤ nm [x4, x5] ∧ nm [x4, x5] ≤ 65535 := by simp only [nm, List.foldl_cons, List.foldl_nil]; omega
  have z6_ : 0 ≤ nm [x4, x5, x6] ∧ nm [x4, x5, x6] ≤ 16777215 := by simp only [nm, List.foldl_cons, List.foldl_nil]; omega
  have z7_ : 0 ≤ nm [x4, x5, x6, x7] ∧ nm [x4, x5, x6, x7] ≤ 4294967295 := by simp only [nm, List.foldl_cons, List.foldl_nil]; omega
  exact cOut_start Tryz.func96 rfl (p96_1 hE 0 0 0 0 0 (x0) (x1) (x2) (x3) (x4) (x5) (x6) (x7) (x8) (x9) (x10) (x11) (x12) (x13) (x14) (x15) 0 0 0 0 (0) (256 * nm [x4]) (256 * nm [x4, x5]) (256 * nm [x4, x5, x6]) 0 0 0 0 0 0 0 0 0 0 0 0 (nm [x4]) (nm [x4, x5]) (nm [x4, x5, x6]) (nm [x4, x5, x6, x7]) 0 0 0 0 0 0 0 0 0 0 0 0 0 rfl (iIe (wrapS (by omega) (by omega))) (iIe (by rw [wrap_id (by omega) (by omega)]; simp only [nm, List.foldl_cons, List.foldl_nil]; omega)) (iIe (wrap_id (by omega) (by omega))) (iIe (wrapS (by omega) (by omega))) (iIe (by rw [wrap_id (by omega) (by omega)]; simp only [nm, List.foldl_cons, List.foldl_nil])) (iIe (wrap_id (by omega) (by omega))) (iIe (wrapS (by omega) (by omega))) (iIe (by rw [wrap_id (by omega) (by omega)]; simp only [nm, List.foldl_cons, List.foldl_nil])) (iIe (wrap_id (by omega) (by omega))) (iIe (wrapS (by omega) (by omega))) (iIe (by rw [wrap_id (by omega) (by omega)]; simp only [nm, List.foldl_cons, List.foldl_nil])) (fun j => outK_ret (ends_ret (by kernel_rfl))) fun _ => undef)
theorem K96_2 (hE : EnvOk E) (x0 x1 x2 x3 x4 x5 x6 x7 x8 x9 x10 x11 x12 x13 x14 x15 : Int) (h8 : 0 ≤ x8 ∧ x8 < 256) (h9 : 0 ≤ x9 ∧ x9 < 256) (h10 : 0 ≤ x10 ∧ x10 < 256) : COut E 0 [] 96 [bkA x0 x1 x2 x3 x4 x5 x6 x7 x8 x9 x10 x11 x12 x13 x14 x15, iI 8, iI 11] (iI (nm [x8, x9, x10])) [] := by
  have z8_ : 0 ≤ nm [x8] ∧ nm [x8] ≤ 255 := by simp only [nm, List.foldl_cons, List.foldl_nil]; omega
  have z9_ : 0 ≤ nm [x8, x9] ∧ nm [x8, x9] ≤ 65535 := by simp only [nm, List.foldl_cons, List.foldl_nil]; omega
  have z10_ : 0 ≤ nm [x8, x9, x10] ∧ nm [x8, x9, x10] ≤ 16777215 := by simp only [nm, List.foldl_cons, List.foldl_nil]; omega
  exact cOut_start Tryz.func96 rfl (p96_2 hE 0 0 0 0 0 (x0) (x1) (x2) (x3) (x4) (x5) (x6) (x7) (x8) (x9) (x10) (x11) (x12) (x13) (x14) (x15) 0 0 0 0 0 0 0 0 (0) (256 * nm [x8]) (256 * nm [x8, x9]) 0 0 0 0 0 0 0 0 0 0 0 0 0 (nm [x8]) (nm [x8, x9]) (nm [x8, x9, x10]) 0 0 0 0 0 0 0 0 0 0 rfl (iIe (wrapS (by omega) (by omega))) (iIe (by rw [wrap_id (by omega) (by omega)]; simp only [nm, List.foldl_cons, List.foldl_nil]; omega)) (iIe (wrap_id (by omega) (by omega))) (iIe (wrapS (by omega) (by omega))) (iIe (by rw [wrap_id (by omega) (by omega)]; simp only [nm, List.foldl_cons, List.foldl_nil])) (iIe (wrap_id (by omega) (by omega))) (iIe (wrapS (by omega) (by omega))) (iIe (by rw [wrap_id (by omega) (by omega)]; simp only [nm, List.foldl_cons, List.foldl_nil])) (fun j => outK_ret (ends_ret (by kernel_rfl))) fun _ => undef)
theorem K96_3 (hE : EnvOk E) (x0 x1 x2 x3 x4 x5 x6 x7 x8 x9 x10 x11 x12 x13 x14 x15 : Int) (h11 : 0 ≤ x11 ∧ x11 < 256) (h12 : 0 ≤ x12 ∧ x12 < 256) (h13 : 0 ≤ x13 ∧ x13 < 256) : COut E 0 [] 96 [bkA x0 x1 x2 x3 x4 x5 x6 x7 x8 x9 x10 x11 x12 x13 x14 x15, iI 11, iI 14] (iI (nm [x11, x12, x13])) [] := by
  have z11_ : 0 ≤ nm [x11] ∧ nm [x11] ≤ 255 := by simp only [nm, List.foldl_cons, List.foldl_nil]; omega
  have z12_ : 0 ≤ nm [x11, x12] ∧ nm [x11, x12] ≤ 65535 := by simp only [nm, List.foldl_cons, List.foldl_nil]; omega
  have z13_ : 0 ≤ nm [x11, x12, x13] ∧ nm [x11, x12, x13] ≤ 16777215 := by simp only [nm, List.foldl_cons, List.foldl_nil]; omega
  exact cOut_start Tryz.func96 rfl (p96_3 hE 0 0 0 0 0 (x0) (x1) (x2) (x3) (x4) (x5) (x6) (x7) (x8) (x9) (x10) (x11) (x12) (x13) (x14) (x15) 0 0 0 0 0 0 0 0 0 0 0 (0) (256 * nm [x11]) (256 * nm [x11, x12]) 0 0 0 0 0 0 0 0 0 0 0 0 0 (nm [x11]) (nm [x11, x12]) (nm [x11, x12, x13]) 0 0 0 0 0 0 0 rfl (iIe (wrapS (by omega) (by omega))) (iIe (by rw [wrap_id (by omega) (by omega)]; simp only [nm, List.foldl_cons, List.foldl_nil]; omega)) (iIe (wrap_id (by omega) (by omega))) (iIe (wrapS (by omega) (by omega))) (iIe (by rw [wrap_id (by omega) (by omega)]; simp only [nm, List.foldl_cons, List.foldl_nil])) (iIe (wrap_id (by omega) (by omega))) (iIe (wrapS (by omega) (by omega))) (iIe (by rw [wrap_id (by omega) (by omega)]; simp only [nm, List.foldl_cons, List.foldl_nil])) (fun j => outK_ret (ends_ret (by kernel_rfl))) fun _ => undef)
theorem K96_4 (hE : EnvOk E) (x0 x1 x2 x3 x4 x5 x6 x7 x8 x9 x10 x11 x12 x13 x14 x15 : Int) (h14 : 0 ≤ x14 ∧ x14 < 256) : COut E 0 [] 96 [bkA x0 x1 x2 x3 x4 x5 x6 x7 x8 x9 x10 x11 x12 x13 x14 x15, iI 14, iI 15] (iI (nm [x14])) [] := by
  have z14_ : 0 ≤ nm [x14] ∧ nm [x14] ≤ 255 := by simp only [nm, List.foldl_cons, List.foldl_nil]; omega
  exact cOut_start Tryz.func96 rfl (p96_4 hE 0 0 0 0 0 (x0) (x1) (x2) (x3) (x4) (x5) (x6) (x7) (x8) (x9) (x10) (x11) (x12) (x13) (x14) (x15) 0 0 0 0 0 0 0 0 0 0 0 0 0 0 (0) 0 0 0 0 0 0 0 0 0 0 0 0 0 0 0 (nm [x14]) 0 0 0 0 0 0 rfl (iIe (wrapS (by omega) (by omega))) (iIe (by rw [wrap_id (by omega) (by omega)]; simp only [nm, List.foldl_cons, List.foldl_nil]; omega)) (fun j => outK_ret (ends_ret (by kernel_rfl))) fun _ => undef)
end
end Go.Proofs.YtbijijanflgknaaGreatDoor

end
