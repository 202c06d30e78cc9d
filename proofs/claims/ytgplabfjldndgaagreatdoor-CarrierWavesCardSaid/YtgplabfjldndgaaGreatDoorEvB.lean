/-
  What the evaluator's values and heaps stand for in a world, and plain facts about the lists that it uses.
-/
import Derived.Test.YtgplabfjldndgaaGreatDoorEvA
import Derived.Below
import Derived.Orders
import Derived.Laws.Append
import Derived.Laws.CopyRow
import Derived.Great.BuildSlice
import Derived.Laws.MakeOwn
namespace Go.Ev
open Go.RowKit

section lists
variable {α β : Type}
theorem getL_eq (l : List α) : ∀ n, getL l n = l[n]? := by
  induction l with
  | nil => intro n; rfl
  | cons h t ih => intro n; cases n with
    | zero => rfl
    | succ n => show getL t n = _; rw [ih]; rfl
theorem setL_eq (l : List α) : ∀ n a, setL l n a = l.set n a := by
  induction l with
  | nil => intro n a; rfl
  | cons h t ih => intro n a; cases n with
    | zero => rfl
    | succ n => show h :: setL t n a = _; rw [ih]; rfl
theorem appL_eq (l m : List α) : appL l m = l ++ m := by
  induction l with
  | nil => rfl
  | cons h t ih => show h :: appL t m = _; rw [ih]; rfl
theorem dropL_eq (l : List α) : ∀ n, dropL l n = l.drop n := by
  induction l with
  | nil => intro n; cases n <;> rfl
  | cons h t ih => intro n; cases n with
    | zero => rfl
    | succ n => show dropL t n = _; rw [ih]; rfl
theorem takeL_eq (l : List α) : ∀ n, takeL l n = if n ≤ l.length then some (l.take n) else none := by
  induction l with
  | nil => intro n; cases n <;> rfl
  | cons h t ih => intro n; cases n with
    | zero => rfl
    | succ n =>
      show (takeL t n).map (h :: ·) = _
      rw [ih]
      by_cases hn : n ≤ t.length <;> simp [hn]
theorem takeL_some {l r : List α} {n : Nat} (h : takeL l n = some r) : n ≤ l.length ∧ r = l.take n := by
  rw [takeL_eq] at h
  split at h
  · simp at h; exact ⟨by assumption, h.symm⟩
  · simp at h
theorem lenL_eq (l : List α) : lenL l = l.length := by
  induction l with
  | nil => rfl
  | cons h t ih => show Nat.succ (lenL t) = _; rw [ih]; rfl
theorem overL_length (xs : List α) : ∀ (l : List α) o, (overL xs l o).length = l.length := by
  induction xs with
  | nil => intro l o; rfl
  | cons x r ih => intro l o; show (overL r (setL l o x) (o + 1)).length = _; rw [ih, setL_eq]; simp
theorem overL_eq (xs : List α) : ∀ (l : List α) o, o + xs.length ≤ l.length → overL xs l o = l.take o ++ xs ++ l.drop (o + xs.length) := by
  induction xs with
  | nil => intro l o _; show l = _; simp
  | cons x r ih =>
    intro l o h
    show overL r (setL l o x) (o + 1) = _
    simp only [List.length_cons] at h
    rw [ih _ _ (by rw [setL_eq]; simp; omega), setL_eq]
    apply List.ext_getElem?
    intro i
    simp only [List.getElem?_append, List.length_append, List.length_take, List.length_set, List.getElem?_take, List.getElem?_set, List.getElem?_drop, List.length_cons]
    have e1 : min (o + 1) l.length = o + 1 := by omega
    have e2 : min o l.length = o := by omega
    rw [e1, e2]
    rcases Nat.lt_trichotomy i o with hi | hi | hi
    · have : i < o + 1 := by omega
      simp [hi, this, show i < o + 1 + r.length by omega, show i < o + (r.length + 1) by omega, show o ≠ i by omega]
    · subst hi
      simp [show i < i + 1 + r.length by omega, show i < l.length by omega]
    · by_cases h2 : i < o + 1 + r.length
      · have a1 : ¬ i < o + 1 := by omega
        have a2 : ¬ i < o := by omega
        obtain ⟨j, hj⟩ : ∃ j, i - o = j + 1 := ⟨i - o - 1, by omega⟩
        have hj' : i - (o + 1) = j := by omega
        simp [h2, a1, a2, show i < o + (r.length + 1) by omega, hj, hj']
      · have a1 : ¬ i < o + (r.length + 1) := by omega
        simp only [h2, a1, if_false]
        have : ¬ o = o + 1 + r.length + (i - (o + 1 + r.length)) := by omega
        simp only [this, if_false]
        congr 1
        omega
theorem allSome_eq {l : List (Option α)} : ∀ {r : List α}, allSome l = some r → l = r.map some := by
  induction l with
  | nil => intro r h; simp [allSome] at h; subst h; rfl
  | cons a t ih =>
    intro r h
    cases a with
    | none => simp [allSome] at h
    | some a =>
      have h' : (match allSome t with | some r => some (a :: r) | none => none) = some r := h
      cases ht : allSome t with
      | none => rw [ht] at h'; simp at h'
      | some r' => rw [ht] at h'; simp at h'; subst h'; rw [ih ht]; rfl
end lists

def All2 {α β : Type} (R : α → β → Prop) : List α → List β → Prop
  | [], [] => True
  | a :: l, b :: m => R a b ∧ All2 R l m
  | _, _ => False

namespace All2
variable {α β : Type} {R : α → β → Prop}
theorem length : ∀ {l : List α} {m : List β}, All2 R l m → l.length = m.length
  | [], [], _ => rfl
  | _ :: l, _ :: m, h => by simp [length (l := l) (m := m) h.2]
theorem get : ∀ {l : List α} {m : List β}, All2 R l m → ∀ {i : Nat} {a : α}, l[i]? = some a → ∃ b, m[i]? = some b ∧ R a b
  | [], [], _, i, a, h => by simp at h
  | x :: l, y :: m, h, i, a, hi => by
    cases i with
    | zero => simp at hi; subst hi; exact ⟨y, rfl, h.1⟩
    | succ i => simp at hi; simpa using get h.2 hi
theorem get' : ∀ {l : List α} {m : List β}, All2 R l m → ∀ {i : Nat} {b : β}, m[i]? = some b → ∃ a, l[i]? = some a ∧ R a b
  | [], [], _, i, b, h => by simp at h
  | x :: l, y :: m, h, i, b, hi => by
    cases i with
    | zero => simp at hi; subst hi; exact ⟨x, rfl, h.1⟩
    | succ i => simp at hi; simpa using get' h.2 hi
theorem of_get : ∀ {l : List α} {m : List β}, l.length = m.length → (∀ (i : Nat) (a : α) (b : β), l[i]? = some a → m[i]? = some b → R a b) → All2 R l m
  | [], [], _, _ => trivial
  | x :: l, y :: m, h, hg => ⟨hg 0 x y rfl rfl, of_get (by simpa using h) fun i a b ha hb => hg (i + 1) a b (by simpa using ha) (by simpa using hb)⟩
theorem imp {S : α → β → Prop} (hi : ∀ a b, R a b → S a b) : ∀ {l : List α} {m : List β}, All2 R l m → All2 S l m
  | [], [], _ => trivial
  | _ :: _, _ :: _, h => ⟨hi _ _ h.1, imp hi h.2⟩
theorem append : ∀ {l : List α} {m : List β} {l' m'}, All2 R l m → All2 R l' m' → All2 R (l ++ l') (m ++ m')
  | [], [], _, _, _, h => h
  | _ :: _, _ :: _, _, _, h, h' => ⟨h.1, append h.2 h'⟩
theorem set {l : List α} {m : List β} (h : All2 R l m) {i : Nat} {a : α} {b : β} (hab : R a b) : All2 R (l.set i a) (m.set i b) := by
  apply of_get
  · simp [h.length]
  · intro j x y hx hy
    rw [List.getElem?_set] at hx hy
    by_cases hj : i = j
    · simp only [hj, if_true] at hx hy
      split at hx <;> split at hy <;> simp_all
    · simp only [hj, if_false] at hx hy
      obtain ⟨b', hb', hr⟩ := h.get hx
      rw [hy] at hb'; cases hb'; exact hr
theorem take {l : List α} {m : List β} (h : All2 R l m) (n : Nat) : All2 R (l.take n) (m.take n) := by
  apply of_get
  · simp [h.length]
  · intro j x y hx hy
    rw [List.getElem?_take] at hx hy
    split at hx
    · rename_i hj; rw [if_pos hj] at hy
      obtain ⟨b', hb', hr⟩ := h.get hx
      rw [hy] at hb'; cases hb'; exact hr
    · simp at hx
theorem drop {l : List α} {m : List β} (h : All2 R l m) (n : Nat) : All2 R (l.drop n) (m.drop n) := by
  apply of_get
  · simp [h.length]
  · intro j x y hx hy
    rw [List.getElem?_drop] at hx hy
    obtain ⟨b', hb', hr⟩ := h.get hx
    rw [hy] at hb'; cases hb'; exact hr
theorem over {l xs : List α} {m ys : List β} (h : All2 R l m) (hx : All2 R xs ys) (o : Nat) (hf : o + xs.length ≤ l.length) : All2 R (overL xs l o) (m.take o ++ ys ++ m.drop (o + ys.length)) := by
  rw [overL_eq xs l o hf, ← hx.length]
  exact ((h.take o).append hx).append (h.drop _)
end All2

/-- Where the evaluator's blocks lie: how many there are, the block of the world, how many cells it has there. -/
structure M where
  n : Nat
  ρ : Nat → Nat
  κ : Nat → Nat
  /-- blocks below this number may lie in one place -/
  lo : Nat := 0
  /-- blocks of the world that nobody writes any more, and what lies in them -/
  F : List (Nat × List Value) := []

structure M.le (m m' : M) : Prop where
  n : m.n ≤ m'.n
  ρ : ∀ b, b < m.n → m'.ρ b = m.ρ b
  κ : ∀ b, b < m.n → m'.κ b = m.κ b
  lo : m'.lo = m.lo
  F : m'.F = m.F

theorem M.le.refl (m : M) : m.le m := ⟨Nat.le_refl _, fun _ _ => rfl, fun _ _ => rfl, rfl, rfl⟩
theorem M.le.trans {a b c : M} (h : a.le b) (k : b.le c) : a.le c :=
  ⟨Nat.le_trans h.n k.n, fun i hi => (k.ρ i (Nat.lt_of_lt_of_le hi h.n)).trans (h.ρ i hi), fun i hi => (k.κ i (Nat.lt_of_lt_of_le hi h.n)).trans (h.κ i hi), k.lo.trans h.lo, k.F.trans h.F⟩

/-- As M.le, but more blocks have come to rest, none of them below base that was not at rest before. -/
structure M.leG (base : Nat) (m m' : M) : Prop where
  n : m.n ≤ m'.n
  ρ : ∀ b, b < m.n → m'.ρ b = m.ρ b
  κ : ∀ b, b < m.n → m'.κ b = m.κ b
  lo : m'.lo = m.lo
  F : ∀ p ∈ m.F, p ∈ m'.F
  fresh : ∀ p ∈ m'.F, p ∈ m.F ∨ base ≤ p.1
theorem M.le.g {m m' : M} (h : m.le m') (base : Nat) : M.leG base m m' := ⟨h.n, h.ρ, h.κ, h.lo, fun p hp => by rw [h.F]; exact hp, fun p hp => .inl (by rw [← h.F]; exact hp)⟩
theorem M.leG.refl (base : Nat) (m : M) : M.leG base m m := (M.le.refl m).g base
theorem M.leG.trans {base : Nat} {a b c : M} (h : M.leG base a b) (k : M.leG base b c) : M.leG base a c :=
  ⟨Nat.le_trans h.n k.n, fun i hi => (k.ρ i (Nat.lt_of_lt_of_le hi h.n)).trans (h.ρ i hi), fun i hi => (k.κ i (Nat.lt_of_lt_of_le hi h.n)).trans (h.κ i hi), k.lo.trans h.lo, fun p hp => k.F p (h.F p hp),
    fun p hp => (k.fresh p hp).elim (h.fresh p) .inr⟩
theorem M.leG.down {base base' : Nat} {a b : M} (h : M.leG base a b) (hb : base' ≤ base) : M.leG base' a b := ⟨h.n, h.ρ, h.κ, h.lo, h.F, fun p hp => (h.fresh p hp).imp_right (Nat.le_trans hb)⟩

/-! What lies deep. -/
mutual
def DT.R (F : List (Nat × List Value)) : DT → Value → Prop
  | .v x, y => y = x
  | .s cells n sz, y => (n = 0 ∧ ∃ p c, y = .slice p 0 c) ∨ (0 < n ∧ ∃ b o c cs, y = .slice (some ⟨b, o, none⟩) n c ∧ n ≤ c ∧ c ≤ maxLen ∧ (b, cs) ∈ F ∧ o + c * sz ≤ cs.length ∧ cells.length = n * sz ∧ DT.Rl F cells (cs.drop o))
def DT.Rl (F : List (Nat × List Value)) : List DT → List Value → Prop
  | [], _ => True
  | d :: l, ys => ∃ y r, ys = y :: r ∧ DT.R F d y ∧ DT.Rl F l r
end
def DV.R (F : List (Nat × List Value)) : DV → Value → Prop
  | .s cells n sz, y => DT.R F (.s cells n sz) y
  | .p cells o, y => ∃ b o' cs, y = .pointer (some ⟨b, o' + o, none⟩) ∧ (b, cs) ∈ F ∧ o' ≤ cs.length ∧ DT.Rl F cells (cs.drop o')
  | .z, y => ∃ p, y = .slice p 0 0

mutual
theorem DT.R.mono {F F' : List (Nat × List Value)} (h : ∀ p ∈ F, p ∈ F') : ∀ (d : DT) (y : Value), DT.R F d y → DT.R F' d y
  | .v _, _, r => by simpa [DT.R] using r
  | .s cells n sz, y, r => by
    simp only [DT.R] at r ⊢
    rcases r with r | ⟨h0, b, o, c, cs, h1, h2, h3, h4, h5, h6, h7⟩
    · exact .inl r
    · exact .inr ⟨h0, b, o, c, cs, h1, h2, h3, h _ h4, h5, h6, DT.Rl.mono h cells _ h7⟩
theorem DT.Rl.mono {F F' : List (Nat × List Value)} (h : ∀ p ∈ F, p ∈ F') : ∀ (l : List DT) (ys : List Value), DT.Rl F l ys → DT.Rl F' l ys
  | [], _, _ => by simp [DT.Rl]
  | d :: l, ys, r => by
    simp only [DT.Rl] at r ⊢
    obtain ⟨y, r', h1, h2, h3⟩ := r
    exact ⟨y, r', h1, DT.R.mono h d y h2, DT.Rl.mono h l r' h3⟩
end
theorem DV.R.mono {F F' : List (Nat × List Value)} (h : ∀ p ∈ F, p ∈ F') {d : DV} {y : Value} (r : DV.R F d y) : DV.R F' d y := by
  cases d with
  | s cells n sz => exact DT.R.mono h _ _ r
  | p cells o =>
    obtain ⟨b, o', cs, h1, h2, h3, h4⟩ := r
    exact ⟨b, o', cs, h1, h _ h2, h3, DT.Rl.mono h _ _ h4⟩
  | z => exact r

theorem DV.R.shape {F : List (Nat × List Value)} {d : DV} {y : Value} (r : DV.R F d y) : (∃ p n, ∃ c, y = .slice p n c) ∨ ∃ b o, y = .pointer (some ⟨b, o, none⟩) := by
  cases d with
  | s cells n sz =>
    simp only [DV.R, DT.R] at r
    rcases r with ⟨_, p, c, rfl⟩ | ⟨_, b, o, c, _, rfl, _⟩
    · exact .inl ⟨_, _, _, rfl⟩
    · exact .inl ⟨_, _, _, rfl⟩
  | p cells o =>
    obtain ⟨b, o', cs, rfl, _⟩ := r
    exact .inr ⟨_, _, rfl⟩
  | z =>
    obtain ⟨p, rfl⟩ := r
    exact .inl ⟨_, _, _, rfl⟩

def CA.R (m : M) : CA → Value → Prop
  | .v x, y => y = x
  | .mp b, y => b < m.n ∧ y = .map (some (m.ρ b))
  | .dp d, y => DV.R m.F d y
  | .ptr b o, y => b < m.n ∧ y = .pointer (some ⟨m.ρ b, o, none⟩)
  | .slc b o len sz cap ex, y => b < m.n ∧ ∃ c o', y = .slice (some ⟨m.ρ b, o', none⟩) len c ∧ (o' = o ∨ c = 0) ∧ len ≤ cap ∧ cap ≤ c ∧ c ≤ maxLen ∧ o + c * sz ≤ m.κ b ∧ (ex = true → c = cap)
def CE.R (m : M) : CE → Value → Prop
  | .one x, y => CA.R m x y
  | .agg l, y => ∃ cs : Array Value, y = .agg cs ∧ All2 (CA.R m) l cs.toList

def CR (m : M) : AC → Value → Prop
  | .v x, y => y = x
  | .mp b, y => b < m.n ∧ y = .map (some (m.ρ b))
  | .dp d, y => DV.R m.F d y
  | .ptr b o, y => b < m.n ∧ y = .pointer (some ⟨m.ρ b, o, none⟩)
  | .slc b o len sz cap ex, y => b < m.n ∧ ∃ c o', y = .slice (some ⟨m.ρ b, o', none⟩) len c ∧ (o' = o ∨ c = 0) ∧ len ≤ cap ∧ cap ≤ c ∧ c ≤ maxLen ∧ o + c * sz ≤ m.κ b ∧ (ex = true → c = cap)
  | .clo f fs cs, y => ∃ vf vc : Array Value, y = .func (.func f) vf vc ∧ All2 (CE.R m) fs vf.toList ∧ All2 (CE.R m) cs vc.toList
  | .yld b, y => b < m.n ∧ y = .func (.yield (m.ρ b)) #[] #[]
  | .any p, y => p y ∧ y.oneCell' = true ∧ ∀ b, y ≠ .bool b

def ER (m : M) : AE → Value → Prop
  | .one x, y => CR m x y
  | .agg l, y => ∃ cs : Array Value, y = .agg cs ∧ All2 (CR m) l cs.toList

def VR (m : M) : AV → Value → Prop
  | .e x, y => ER m x y
  | .tup l, y => ∃ vs : Array Value, y = .tuple vs ∧ All2 (ER m) l vs.toList

def AC.rank : AC → Nat
  | .clo _ _ _ => 1
  | _ => 0
theorem CA.rank_ac (c : CA) : c.ac.rank = 0 := by cases c <;> rfl
theorem CA.R_ac {m : M} {c : CA} {y : Value} : CR m c.ac y ↔ CA.R m c y := by cases c <;> exact Iff.rfl
theorem CA.refs_ac (c : CA) : c.ac.refs = c.refs := by cases c <;> rfl
theorem CA.ren_ac (f : Nat → Nat) (c : CA) : (c.ren f).ac = c.ac.ren f := by cases c <;> rfl
theorem CA.flat_ac (c : CA) : c.ac.flat = c.flat := by cases c <;> rfl
theorem all2_g {α β : Type} {R S : α → β → Prop} {g : α → α} : ∀ {l : List α} {ys : List β}, (∀ a ∈ l, ∀ b, R a b → S (g a) b) → All2 R l ys → All2 S (l.map g) ys
  | [], [], _, _ => trivial
  | _ :: _, _ :: _, hg, h => ⟨hg _ (by simp) _ h.1, all2_g (fun a ha => hg a (by simp [ha])) h.2⟩
theorem all2_ug {α β : Type} {R S : α → β → Prop} {g : α → α} : ∀ {l : List α} {ys : List β}, (∀ a ∈ l, ∀ b, S (g a) b → R a b) → All2 S (l.map g) ys → All2 R l ys
  | [], [], _, _ => trivial
  | _ :: _, _ :: _, hg, h => ⟨hg _ (by simp) _ h.1, all2_ug (fun a ha => hg a (by simp [ha])) h.2⟩
theorem CEs.tr {m m' : M} {g : CA → CA} {l : List CE} {ys : List Value} (K : ∀ e ∈ l, ∀ c ∈ e.atoms, ∀ y, CR m c.ac y → CR m' (g c).ac y) : All2 (CE.R m) l ys → All2 (CE.R m') (l.map (CE.map g)) ys :=
  all2_g fun e he y h => by
    cases e with
    | one x => exact CA.R_ac.1 (K _ he x (by simp [CE.atoms]) y (CA.R_ac.2 h))
    | agg cs =>
      obtain ⟨vs, hy, ha⟩ := h
      exact ⟨vs, hy, all2_g (fun a ha' b hb => CA.R_ac.1 (K _ he a ha' b (CA.R_ac.2 hb))) ha⟩
theorem CE.map_id : ∀ (l : List CE), l.map (CE.map fun c => c) = l
  | [] => rfl
  | e :: l => by rw [List.map_cons, CE.map_id l]; cases e <;> simp [CE.map]
theorem CEs.to {m m' : M} {l : List CE} {ys : List Value} (K : ∀ e ∈ l, ∀ c ∈ e.atoms, ∀ y, CR m c.ac y → CR m' c.ac y) (h : All2 (CE.R m) l ys) : All2 (CE.R m') l ys := by
  have := CEs.tr (g := fun c => c) K h
  rwa [CE.map_id] at this
theorem CEs.un {m m' : M} {g : CA → CA} {l : List CE} {ys : List Value} (K : ∀ e ∈ l, ∀ c ∈ e.atoms, ∀ y, CR m' (g c).ac y → CR m c.ac y) : All2 (CE.R m') (l.map (CE.map g)) ys → All2 (CE.R m) l ys :=
  all2_ug fun e he y h => by
    cases e with
    | one x => exact CA.R_ac.1 (K _ he x (by simp [CE.atoms]) y (CA.R_ac.2 h))
    | agg cs =>
      obtain ⟨vs, hy, ha⟩ := h
      exact ⟨vs, hy, all2_ug (fun a ha' b hb => CA.R_ac.1 (K _ he a ha' b (CA.R_ac.2 hb))) ha⟩
theorem CE.R_ae {m : M} {e : CE} {y : Value} (h : CE.R m e y) : ER m e.ae y := by
  cases e with
  | one x => exact CA.R_ac.2 h
  | agg l =>
    obtain ⟨vs, hy, ha⟩ := h
    refine ⟨vs, hy, ?_⟩
    generalize vs.toList = ys at ha
    induction l generalizing ys with
    | nil => cases ys <;> simp_all [All2]
    | cons c l ih => cases ys with
      | nil => exact ha.elim
      | cons y ys => exact ⟨CA.R_ac.2 ha.1, ih _ ha.2⟩
theorem CEs.av {m : M} : ∀ {l : List CE} {ys : List Value}, All2 (CE.R m) l ys → All2 (VR m) (l.map CE.av) ys
  | [], [], _ => trivial
  | _ :: _, _ :: _, h => ⟨CE.R_ae h.1, CEs.av h.2⟩
theorem AC.ca_sound {m : M} {a : AC} {c : CA} {y : Value} (h : a.ca? = some c) (hr : CR m a y) : CA.R m c y := by
  cases a <;> simp [AC.ca?] at h <;> subst h <;> exact hr
theorem ca_all {m : M} : ∀ {l : List AC} {cs : List CA} {ys : List Value}, l.map AC.ca? = cs.map some → All2 (CR m) l ys → All2 (CA.R m) cs ys
  | [], [], ys, _, h => by cases ys <;> simp_all [All2]
  | a :: l, c :: cs, [], _, h => h.elim
  | a :: l, c :: cs, y :: ys, e, h => by
    simp only [List.map_cons, List.cons.injEq] at e
    exact ⟨AC.ca_sound e.1 h.1, ca_all e.2 h.2⟩
  | [], _ :: _, _, e, _ => by simp at e
  | _ :: _, [], _, e, _ => by simp at e
theorem CE.mem_refs {l : List CE} {e : CE} (he : e ∈ l) {c : CA} (hc : c ∈ e.atoms) {b : Nat} (hb : b ∈ c.ac.refs) : b ∈ l.flatMap CE.refs :=
  List.mem_flatMap.2 ⟨e, he, List.mem_flatMap.2 ⟨c, hc, by rw [← CA.refs_ac]; exact hb⟩⟩
theorem CE.of_refs {l : List CE} {b : Nat} (h : b ∈ l.flatMap CE.refs) : ∃ e ∈ l, ∃ c ∈ e.atoms, b ∈ c.ac.refs := by
  obtain ⟨e, he, h⟩ := List.mem_flatMap.1 h
  obtain ⟨c, hc, h⟩ := List.mem_flatMap.1 h
  exact ⟨e, he, c, hc, by rw [CA.refs_ac]; exact h⟩
theorem CEs.mem {m : M} : ∀ {l : List CE} {ys : List Value}, All2 (CE.R m) l ys → ∀ e ∈ l, ∀ c ∈ e.atoms, ∃ y, CR m c.ac y
  | [], _, _, e, he => by simp at he
  | e' :: l, [], h, _, _ => h.elim
  | e' :: l, y :: ys, h, e, he => by
    rcases List.mem_cons.1 he with rfl | he
    · intro c hc
      cases e with
      | one x => simp [CE.atoms] at hc; subst hc; exact ⟨y, CA.R_ac.2 h.1⟩
      | agg cs =>
        obtain ⟨vs, _, ha⟩ := h.1
        have : ∀ {l : List CA} {ys : List Value}, All2 (CA.R m) l ys → ∀ c ∈ l, ∃ y, CR m c.ac y := by
          intro l
          induction l with
          | nil => intro _ _ c hc; simp at hc
          | cons a l ih =>
            intro ys h c hc
            cases ys with
            | nil => exact h.elim
            | cons y ys =>
              rcases List.mem_cons.1 hc with rfl | hc
              · exact ⟨y, CA.R_ac.2 h.1⟩
              · exact ih h.2 c hc
        exact this ha c hc
    · exact CEs.mem h.2 e he

theorem DT.R.ac {m : M} {d : DT} {y : Value} (r : DT.R m.F d y) : CR m d.ac y := by
  cases d with
  | v x => simpa [DT.R, DT.ac, CR] using r
  | s c n sz => exact r
theorem DT.Rl.take {F : List (Nat × List Value)} : ∀ {l : List DT} {ys : List Value}, DT.Rl F l ys → l.length ≤ ys.length
  | [], _, _ => Nat.zero_le _
  | d :: l, ys, r => by
    simp only [DT.Rl] at r
    obtain ⟨y, r', rfl, _, h⟩ := r
    have := h.take
    simp; omega
theorem DT.Rl.ac {m : M} : ∀ {l : List DT} {ys : List Value}, DT.Rl m.F l ys → All2 (CR m) (l.map DT.ac) (ys.take l.length)
  | [], _, _ => trivial
  | d :: l, ys, r => by
    simp only [DT.Rl] at r
    obtain ⟨y, r', rfl, h1, h2⟩ := r
    exact ⟨h1.ac, DT.Rl.ac h2⟩
theorem DT.Rl.drop {F : List (Nat × List Value)} : ∀ {l : List DT} {ys : List Value}, DT.Rl F l ys → ∀ k, DT.Rl F (l.drop k) (ys.drop k)
  | [], _, _, k => by simp [DT.Rl]
  | d :: l, ys, r, 0 => r
  | d :: l, ys, r, k + 1 => by
    simp only [DT.Rl] at r
    obtain ⟨y, r', rfl, h1, h2⟩ := r
    exact DT.Rl.drop h2 k
theorem DT.Rl.pre {F : List (Nat × List Value)} : ∀ {l : List DT} {ys : List Value}, DT.Rl F l ys → ∀ k, DT.Rl F (l.take k) ys
  | [], _, _, k => by simp [DT.Rl]
  | d :: l, ys, r, 0 => by simp [DT.Rl]
  | d :: l, ys, r, k + 1 => by
    simp only [DT.Rl] at r
    obtain ⟨y, r', rfl, h1, h2⟩ := r
    exact ⟨y, r', rfl, h1, DT.Rl.pre h2 k⟩
theorem CR.monoG {base : Nat} {m m' : M} (h : M.leG base m m') : ∀ {x y}, CR m x y → CR m' x y
  | .v _, _, r => r
  | .mp b, _, r => ⟨Nat.lt_of_lt_of_le r.1 h.n, by rw [h.ρ b r.1]; exact r.2⟩
  | .dp _, _, r => DV.R.mono h.F r
  | .any _, _, r => r
  | .ptr b o, _, r => ⟨Nat.lt_of_lt_of_le r.1 h.n, by rw [h.ρ b r.1]; exact r.2⟩
  | .yld b, _, r => ⟨Nat.lt_of_lt_of_le r.1 h.n, by rw [h.ρ b r.1]; exact r.2⟩
  | .slc b o len sz cap ex, _, r => by
    obtain ⟨hb, c, o', hy, h0, h1, h1', h2, h3, h4⟩ := r
    exact ⟨Nat.lt_of_lt_of_le hb h.n, c, o', by rw [h.ρ b hb]; exact hy, h0, h1, h1', h2, by rw [h.κ b hb]; exact h3, h4⟩
  | .clo f fs cs, _, r => by
    obtain ⟨vf, vc, hy, h1, h2⟩ := r
    exact ⟨vf, vc, hy, CEs.to (fun _ _ c _ _ hr => CR.monoG h hr) h1, CEs.to (fun _ _ c _ _ hr => CR.monoG h hr) h2⟩
termination_by x => x.rank
decreasing_by all_goals (rw [CA.rank_ac]; exact Nat.one_pos)
theorem CR.mono {m m' : M} (h : m.le m') {x : AC} {y : Value} : CR m x y → CR m' x y := CR.monoG (h.g 0)
theorem ER.monoG {base : Nat} {m m' : M} (h : M.leG base m m') : ∀ {x y}, ER m x y → ER m' x y
  | .one _, _, r => CR.monoG h r
  | .agg _, _, r => let ⟨cs, hy, ha⟩ := r; ⟨cs, hy, ha.imp fun _ _ => CR.monoG h⟩
theorem ER.mono {m m' : M} (h : m.le m') {x : AE} {y : Value} : ER m x y → ER m' x y := ER.monoG (h.g 0)
theorem VR.monoG {base : Nat} {m m' : M} (h : M.leG base m m') : ∀ {x y}, VR m x y → VR m' x y
  | .e _, _, r => ER.monoG h r
  | .tup _, _, r => let ⟨cs, hy, ha⟩ := r; ⟨cs, hy, ha.imp fun _ _ => ER.monoG h⟩
theorem VR.mono {m m' : M} (h : m.le m') {x : AV} {y : Value} : VR m x y → VR m' x y := VR.monoG (h.g 0)

theorem AC.val_sound {m : M} {a : AC} {x y : Value} (h : CR m a y) (hv : a.val? = some x) : y = x := by
  cases a <;> simp [AC.val?] at hv
  subst hv; exact h
theorem AE.val_sound {m : M} {a : AE} {x y : Value} (h : ER m a y) (hv : a.val? = some x) : y = x := by
  cases a with
  | one a => exact AC.val_sound h hv
  | agg l =>
    obtain ⟨cs, rfl, ha⟩ := h
    simp only [AE.val?] at hv
    split at hv
    · rename_i r hr
      simp at hv; subst hv
      have e := allSome_eq hr
      congr 1
      apply Array.toList_inj.1
      simp only
      apply List.ext_getElem?
      intro i
      cases hc : cs.toList[i]? with
      | none =>
        have h1 : cs.toList.length ≤ i := by simpa using hc
        have h2 : r.length = l.length := by have := congrArg List.length e; simp at this; exact this.symm
        rw [List.getElem?_eq_none (by rw [h2, ha.length]; exact h1)]
      | some c =>
        obtain ⟨a, hla, hr'⟩ := ha.get' hc
        have : (l.map AC.val?)[i]? = some a.val? := by simp [hla]
        rw [e] at this
        simp at this
        obtain ⟨v, hv1, hv2⟩ := this
        rw [AC.val_sound hr' hv2.symm, hv1]
    · simp at hv
theorem AV.val_sound {m : M} {a : AV} {x y : Value} (h : VR m a y) (hv : a.val? = some x) : y = x := by
  cases a with
  | e a => exact AE.val_sound h hv
  | tup l =>
    obtain ⟨cs, rfl, ha⟩ := h
    simp only [AV.val?] at hv
    split at hv
    · rename_i r hr
      simp at hv; subst hv
      have e := allSome_eq hr
      congr 1
      apply Array.toList_inj.1
      simp only
      apply List.ext_getElem?
      intro i
      cases hc : cs.toList[i]? with
      | none =>
        have h1 : cs.toList.length ≤ i := by simpa using hc
        have h2 : r.length = l.length := by have := congrArg List.length e; simp at this; exact this.symm
        rw [List.getElem?_eq_none (by rw [h2, ha.length]; exact h1)]
      | some c =>
        obtain ⟨a, hla, hr'⟩ := ha.get' hc
        have : (l.map AE.val?)[i]? = some a.val? := by simp [hla]
        rw [e] at this
        simp at this
        obtain ⟨v, hv1, hv2⟩ := this
        rw [AE.val_sound hr' hv2.symm, hv1]
    · simp at hv

theorem all2_v (m : M) : ∀ l : List Value, All2 (CR m) (l.map AC.v) l
  | [] => trivial
  | _ :: l => ⟨rfl, all2_v m l⟩
theorem AE.of_sound (m : M) (x : Value) : ER m (AE.of x) x := by
  unfold AE.of
  split
  · exact ⟨_, rfl, all2_v m _⟩
  · rfl
theorem all2_of (m : M) : ∀ l : List Value, All2 (ER m) (l.map AE.of) l
  | [] => trivial
  | x :: l => ⟨AE.of_sound m x, all2_of m l⟩
theorem AV.of_sound (m : M) (x : Value) : VR m (AV.of x) x := by
  unfold AV.of
  split
  · exact ⟨_, rfl, all2_of m _⟩
  · exact AE.of_sound m x

theorem cells_sound {m : M} {a : AE} {l : List AC} {y : Value} (h : ER m a y) (hc : a.cells? = some l) : All2 (CR m) l y.cells.toList := by
  unfold AE.cells? at hc
  split at hc
  · simp at hc
  · rename_i x hx
    simp at hc; subst hc
    have hy : y.cells = #[y] := by
      have h' : CR m x y := h
      cases x with
      | v x =>
        simp only [CR] at h'; subst h'
        cases y <;> first | rfl | exact absurd rfl (hx _)
      | ptr b o => obtain ⟨_, rfl⟩ := h'; rfl
      | slc b o len sz cap ex => obtain ⟨_, _, _, rfl, _⟩ := h'; rfl
      | clo f fs cs => obtain ⟨_, _, rfl, _⟩ := h'; rfl
      | yld b => obtain ⟨_, rfl⟩ := h'; rfl
      | mp b => obtain ⟨_, rfl⟩ := h'; rfl
      | dp d => obtain (⟨_, _, _, rfl⟩ | ⟨_, _, rfl⟩) := DV.R.shape h' <;> rfl
      | any p => obtain ⟨_, h1, _⟩ := h'; cases y <;> first | rfl | simp [Value.oneCell'] at h1
    rw [hy]
    exact ⟨h, trivial⟩
  · simp at hc; subst hc
    obtain ⟨cs, rfl, ha⟩ := h
    exact ha
theorem isOne_sound {m : M} {a : AC} {y : Value} (h : CR m a y) (ho : a.isOne = true) : y.oneCell' = true := by
  cases a with
  | v x => simp only [CR] at h; subst h; cases y <;> simp_all [AC.isOne, Value.oneCell']
  | ptr b o => obtain ⟨_, rfl⟩ := h; rfl
  | slc b o len sz cap ex => obtain ⟨_, _, _, rfl, _⟩ := h; rfl
  | clo f fs cs => obtain ⟨_, _, rfl, _⟩ := h; rfl
  | yld b => obtain ⟨_, rfl⟩ := h; rfl
  | mp b => obtain ⟨_, rfl⟩ := h; rfl
  | dp d => obtain (⟨_, _, _, rfl⟩ | ⟨_, _, rfl⟩) := DV.R.shape h <;> rfl
  | any p => exact h.2.1

/-- Nothing of a row's n cells is frozen. -/
def FzOk (n : Nat) (fz : Nat × Nat) : Prop := fz.1 = fz.2 ∨ n ≤ fz.1
theorem FzOk.free {n : Nat} {fz : Nat × Nat} (h : FzOk n fz) : ∀ i, i < n → ¬ (fz.1 ≤ i ∧ i < fz.2) := fun i hi => by
  rcases h with h | h <;> omega

/-- One block of the evaluator's in a world. -/
structure BR (m : M) (w : World) (b : Nat) (a : AB) : Prop where
  n : a.cells.length = a.n
  full : a.full = true → a.n = m.κ b
  at_ : ∃ c : Array Value, ∃ fz : Nat × Nat, w.heap[m.ρ b]? = some (.cells c a.elem fz) ∧ c.size = m.κ b ∧ (m.lo ≤ b → FzOk c.size fz) ∧ a.n ≤ c.size ∧ All2 (CR m) a.cells (c.toList.take a.n)

/-- What else may lie in a block. -/
def LR (m : M) (w : World) (b : Nat) : AX → Prop
  | .cells => True
  | .loop st pend tm ps asg body => ∃ (fn : FuncId) (t : Array Value) (D : Nat), w.heap[m.ρ b]? = some (.loop { state := st, pending := pend, fn, tmps := t, params := ps, assign := asg, body, defers := D }) ∧ All2 (VR m) tm t.toList
  | .mark => w.heap[m.ρ b]? = some (.deferred (some []))
  | .iter s pos => w.heap[m.ρ b]? = some (.stringIter s pos)
  | .map kv => ∃ (es : Array MapEntry) (c : Nat), w.heap[m.ρ b]? = some (.map es c) ∧ es.toList.map (fun e => (e.key, e.val)) = kv

def EntR (m : M) (w : World) (b : Nat) (a : AB) : Prop := (a.ext = .cells → BR m w b a) ∧ LR m w b a.ext

/-- The evaluator's heap in a world: its blocks from lvl on are new ones, from base on. -/
structure HR (m : M) (base lvl : Nat) (h : Heap) (w : World) : Prop where
  n : m.n = h.length
  lvlLe : lvl ≤ h.length
  baseLe : base ≤ w.heap.size
  ent : ∀ b a, h[b]? = some (some a) → EntR m w b a
  own : ∀ b, lvl ≤ b → b < h.length → base ≤ m.ρ b
  inj : ∀ b b', b < h.length → b' < h.length → (∃ a, h[b]? = some (some a)) → (∃ a, h[b']? = some (some a)) → m.lo ≤ b ∨ m.lo ≤ b' → m.ρ b = m.ρ b' → b = b'
  lo : m.lo ≤ lvl
  tab : ∀ p ∈ m.F, (∃ (c : Array Value) (t : TypeId) (fz : Nat × Nat), w.heap[p.1]? = some (.cells c t fz) ∧ c.toList = p.2) ∧ ∀ b a, lvl ≤ b → h[b]? = some (some a) → m.ρ b ≠ p.1

theorem HR.blk {m : M} {base lvl : Nat} {h : Heap} {w : World} (H : HR m base lvl h w) (b : Nat) (a : AB) (hb : h[b]? = some (some a)) (hx : a.ext = .cells) : BR m w b a := (H.ent b a hb).1 hx

/-- The tables. -/
def GR (gl : List (Nat × List Value)) (base : Nat) (w : World) : Prop :=
  ∀ g cs, lookG gl g = some cs → g < base ∧ ∃ (c : Array Value) (t : TypeId) (fz : Nat × Nat), w.heap[g]? = some (.cells c t fz) ∧ c.toList = cs

def TR (m : M) (tm : Tm) (tmps : Array Value) : Prop := All2 (VR m) tm tmps.toList

theorem TR.monoG {base : Nat} {m m' : M} (h : M.leG base m m') {tm : Tm} {t : Array Value} (ht : TR m tm t) : TR m' tm t := All2.imp (fun _ _ => VR.monoG h) ht
theorem TR.mono {m m' : M} (h : m.le m') {tm : Tm} {t : Array Value} (ht : TR m tm t) : TR m' tm t := All2.imp (fun _ _ => VR.mono h) ht

theorem GR.below {gl : List (Nat × List Value)} {base : Nat} {w w' : World} (h : GR gl base w) (hb : Below base w w') : GR gl base w' := by
  intro g cs hg
  obtain ⟨h1, c, t, fz, h2, h3⟩ := h g cs hg
  exact ⟨h1, c, t, fz, by rw [hb.block g h1]; exact h2, h3⟩

theorem blk_spec {h : Heap} {b : Nat} {a : AB} (hb : blk h b = some a) : h[b]? = some (some a) ∧ a.ext = .cells := by
  unfold blk at hb
  rw [getL_eq] at hb
  split at hb
  · rename_i a' ha
    split at hb
    · rename_i hx; simp at hb; subst hb; exact ⟨ha, hx⟩
    · simp at hb
  · simp at hb
theorem blk_eq {h : Heap} {b : Nat} {a : AB} (hb : blk h b = some a) : h[b]? = some (some a) := (blk_spec hb).1
theorem blk_ext {h : Heap} {b : Nat} {a : AB} (hb : blk h b = some a) : a.ext = .cells := (blk_spec hb).2

end Go.Ev
