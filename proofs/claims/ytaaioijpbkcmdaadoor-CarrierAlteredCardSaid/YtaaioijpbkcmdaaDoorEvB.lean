/-
  What the evaluator's values and heaps stand for in a world, and plain facts about the lists that it uses.
-/
import Derived.Test.YtaaioijpbkcmdaaDoorEvA
import Derived.Below
import Derived.Orders
import Derived.Laws.Append
import Derived.Laws.CopyRow
import Derived.Great.BuildSlice
import Derived.Laws.MakeOwn
namespace Go.Ev
open Go.RowKit

section lists
variable {α β : Type}
theorem getL_eq (l : List α) : ∀ n, getL l n = l[n]? := by
  induction l with
  | nil => intro n; rfl
  | cons h t ih => intro n; cases n with
    | zero => rfl
    | succ n => show getL t n = _; rw [ih]; rfl
theorem setL_eq (l : List α) : ∀ n a, setL l n a = l.set n a := by
  induction l with
  | nil => intro n a; rfl
  | cons h t ih => intro n a; cases n with
    | zero => rfl
    | succ n => show h :: setL t n a = _; rw [ih]; rfl
theorem appL_eq (l m : List α) : appL l m = l ++ m := by
  induction l with
  | nil => rfl
  | cons h t ih => show h :: appL t m = _; rw [ih]; rfl
theorem dropL_eq (l : List α) : ∀ n, dropL l n = l.drop n := by
  induction l with
  | nil => intro n; cases n <;> rfl
  | cons h t ih => intro n; cases n with
    | zero => rfl
    | succ n => show dropL t n = _; rw [ih]; rfl
theorem takeL_eq (l : List α) : ∀ n, takeL l n = if n ≤ l.length then some (l.take n) else none := by
  induction l with
  | nil => intro n; cases n <;> rfl
  | cons h t ih => intro n; cases n with
    | zero => rfl
    | succ n =>
      show (takeL t n).map (h :: ·) = _
      rw [ih]
      by_cases hn : n ≤ t.length <;> simp [hn]
theorem takeL_some {l r : List α} {n : Nat} (h : takeL l n = some r) : n ≤ l.length ∧ r = l.take n := by
  rw [takeL_eq] at h
  split at h
  · simp at h; exact ⟨by assumption, h.symm⟩
  · simp at h
theorem lenL_eq (l : List α) : lenL l = l.length := by
  induction l with
  | nil => rfl
  | cons h t ih => show Nat.succ (lenL t) = _; rw [ih]; rfl
theorem overL_length (xs : List α) : ∀ (l : List α) o, (overL xs l o).length = l.length := by
  induction xs with
  | nil => intro l o; rfl
  | cons x r ih => intro l o; show (overL r (setL l o x) (o + 1)).length = _; rw [ih, setL_eq]; simp
theorem overL_eq (xs : List α) : ∀ (l : List α) o, o + xs.length ≤ l.length → overL xs l o = l.take o ++ xs ++ l.drop (o + xs.length) := by
  induction xs with
  | nil => intro l o _; show l = _; simp
  | cons x r ih =>
    intro l o h
    show overL r (setL l o x) (o + 1) = _
    simp only [List.length_cons] at h
    rw [ih _ _ (by rw [setL_eq]; simp; omega), setL_eq]
    apply List.ext_getElem?
    intro i
    simp only [List.getElem?_append, List.length_append, List.length_take, List.length_set, List.getElem?_take, List.getElem?_set, List.getElem?_drop, List.length_cons]
    have e1 : min (o + 1) l.length = o + 1 := by omega
    have e2 : min o l.length = o := by omega
    rw [e1, e2]
    rcases Nat.lt_trichotomy i o with hi | hi | hi
    · have : i < o + 1 := by omega
      simp [hi, this, show i < o + 1 + r.length by omega, show i < o + (r.length + 1) by omega, show o ≠ i by omega]
    · subst hi
      simp [show i < i + 1 + r.length by omega, show i < l.length by omega]
    · by_cases h2 : i < o + 1 + r.length
      · have a1 : ¬ i < o + 1 := by omega
        have a2 : ¬ i < o := by omega
        obtain ⟨j, hj⟩ : ∃ j, i - o = j + 1 := ⟨i - o - 1, by omega⟩
        have hj' : i - (o + 1) = j := by omega
        simp [h2, a1, a2, show i < o + (r.length + 1) by omega, hj, hj']
      · have a1 : ¬ i < o + (r.length + 1) := by omega
        simp only [h2, a1, if_false]
        have : ¬ o = o + 1 + r.length + (i - (o + 1 + r.length)) := by omega
        simp only [this, if_false]
        congr 1
        omega
theorem allSome_eq {l : List (Option α)} : ∀ {r : List α}, allSome l = some r → l = r.map some := by
  induction l with
  | nil => intro r h; simp [allSome] at h; subst h; rfl
  | cons a t ih =>
    intro r h
    cases a with
    | none => simp [allSome] at h
    | some a =>
      have h' : (match allSome t with | some r => some (a :: r) | none => none) = some r := h
      cases ht : allSome t with
      | none => rw [ht] at h'; simp at h'
      | some r' => rw [ht] at h'; simp at h'; subst h'; rw [ih ht]; rfl
end lists

def All2 {α β : Type} (R : α → β → Prop) : List α → List β → Prop
  | [], [] => True
  | a :: l, b :: m => R a b ∧ All2 R l m
  | _, _ => False

namespace All2
variable {α β : Type} {R : α → β → Prop}
theorem length : ∀ {l : List α} {m : List β}, All2 R l m → l.length = m.length
  | [], [], _ => rfl
  | _ :: l, _ :: m, h => by simp [length (l := l) (m := m) h.2]
theorem get : ∀ {l : List α} {m : List β}, All2 R l m → ∀ {i : Nat} {a : α}, l[i]? = some a → ∃ b, m[i]? = some b ∧ R a b
  | [], [], _, i, a, h => by simp at h
  | x :: l, y :: m, h, i, a, hi => by
    cases i with
    | zero => simp at hi; subst hi; exact ⟨y, rfl, h.1⟩
    | succ i => simp at hi; simpa using get h.2 hi
theorem get' : ∀ {l : List α} {m : List β}, All2 R l m → ∀ {i : Nat} {b : β}, m[i]? = some b → ∃ a, l[i]? = some a ∧ R a b
  | [], [], _, i, b, h => by simp at h
  | x :: l, y :: m, h, i, b, hi => by
    cases i with
    | zero => simp at hi; subst hi; exact ⟨x, rfl, h.1⟩
    | succ i => simp at hi; simpa using get' h.2 hi
theorem of_get : ∀ {l : List α} {m : List β}, l.length = m.length → (∀ (i : Nat) (a : α) (b : β), l[i]? = some a → m[i]? = some b → R a b) → All2 R l m
  | [], [], _, _ => trivial
  | x :: l, y :: m, h, hg => ⟨hg 0 x y rfl rfl, of_get (by simpa using h) fun i a b ha hb => hg (i + 1) a b (by simpa using ha) (by simpa using hb)⟩
theorem imp {S : α → β → Prop} (hi : ∀ a b, R a b → S a b) : ∀ {l : List α} {m : List β}, All2 R l m → All2 S l m
  | [], [], _ => trivial
  | _ :: _, _ :: _, h => ⟨hi _ _ h.1, imp hi h.2⟩
theorem append : ∀ {l : List α} {m : List β} {l' m'}, All2 R l m → All2 R l' m' → All2 R (l ++ l') (m ++ m')
  | [], [], _, _, _, h => h
  | _ :: _, _ :: _, _, _, h, h' => ⟨h.1, append h.2 h'⟩
theorem set {l : List α} {m : List β} (h : All2 R l m) {i : Nat} {a : α} {b : β} (hab : R a b) : All2 R (l.set i a) (m.set i b) := by
  apply of_get
  · simp [h.length]
  · intro j x y hx hy
    rw [List.getElem?_set] at hx hy
    by_cases hj : i = j
    · simp only [hj, if_true] at hx hy
      split at hx <;> split at hy <;> simp_all
    · simp only [hj, if_false] at hx hy
      obtain ⟨b', hb', hr⟩ := h.get hx
      rw [hy] at hb'; cases hb'; exact hr
theorem take {l : List α} {m : List β} (h : All2 R l m) (n : Nat) : All2 R (l.take n) (m.take n) := by
  apply of_get
  · simp [h.length]
  · intro j x y hx hy
    rw [List.getElem?_take] at hx hy
    split at hx
    · rename_i hj; rw [if_pos hj] at hy
      obtain ⟨b', hb', hr⟩ := h.get hx
      rw [hy] at hb'; cases hb'; exact hr
    · simp at hx
theorem drop {l : List α} {m : List β} (h : All2 R l m) (n : Nat) : All2 R (l.drop n) (m.drop n) := by
  apply of_get
  · simp [h.length]
  · intro j x y hx hy
    rw [List.getElem?_drop] at hx hy
    obtain ⟨b', hb', hr⟩ := h.get hx
    rw [hy] at hb'; cases hb'; exact hr
theorem over {l xs : List α} {m ys : List β} (h : All2 R l m) (hx : All2 R xs ys) (o : Nat) (hf : o + xs.length ≤ l.length) : All2 R (overL xs l o) (m.take o ++ ys ++ m.drop (o + ys.length)) := by
  rw [overL_eq xs l o hf, ← hx.length]
  exact ((h.take o).append hx).append (h.drop _)
end All2

/-- Where the evaluator's blocks lie: how many there are, the block of the world, how many cells it has there. -/
structure M where
  n : Nat
  ρ : Nat → Nat
  κ : Nat → Nat
  /-- blocks below this number may lie in one place -/
  lo : Nat := 0

structure M.le (m m' : M) : Prop where
  n : m.n ≤ m'.n
  ρ : ∀ b, b < m.n → m'.ρ b = m.ρ b
  κ : ∀ b, b < m.n → m'.κ b = m.κ b
  lo : m'.lo = m.lo

theorem M.le.refl (m : M) : m.le m := ⟨Nat.le_refl _, fun _ _ => rfl, fun _ _ => rfl, rfl⟩
theorem M.le.trans {a b c : M} (h : a.le b) (k : b.le c) : a.le c :=
  ⟨Nat.le_trans h.n k.n, fun i hi => (k.ρ i (Nat.lt_of_lt_of_le hi h.n)).trans (h.ρ i hi), fun i hi => (k.κ i (Nat.lt_of_lt_of_le hi h.n)).trans (h.κ i hi), k.lo.trans h.lo⟩

def CR (m : M) : AC → Value → Prop
  | .v x, y => y = x
  | .ptr b o, y => b < m.n ∧ y = .pointer (some ⟨m.ρ b, o, none⟩)
  | .slc b o len sz cap ex, y => b < m.n ∧ ∃ c o', y = .slice (some ⟨m.ρ b, o', none⟩) len c ∧ (o' = o ∨ c = 0) ∧ len ≤ cap ∧ cap ≤ c ∧ c ≤ maxLen ∧ o + c * sz ≤ m.κ b ∧ (ex = true → c = cap)
  | .clo f l, y => (∀ p ∈ l, p.1 < m.n) ∧ y = .func (.func f) #[] (l.map fun p => Value.pointer (some ⟨m.ρ p.1, p.2, none⟩)).toArray
  | .yld b, y => b < m.n ∧ y = .func (.yield (m.ρ b)) #[] #[]

def ER (m : M) : AE → Value → Prop
  | .one x, y => CR m x y
  | .agg l, y => ∃ cs : Array Value, y = .agg cs ∧ All2 (CR m) l cs.toList

def VR (m : M) : AV → Value → Prop
  | .e x, y => ER m x y
  | .tup l, y => ∃ vs : Array Value, y = .tuple vs ∧ All2 (ER m) l vs.toList

theorem CR.mono {m m' : M} (h : m.le m') : ∀ {x y}, CR m x y → CR m' x y
  | .v _, _, r => r
  | .ptr b o, _, r => ⟨Nat.lt_of_lt_of_le r.1 h.n, by rw [h.ρ b r.1]; exact r.2⟩
  | .yld b, _, r => ⟨Nat.lt_of_lt_of_le r.1 h.n, by rw [h.ρ b r.1]; exact r.2⟩
  | .slc b o len sz cap ex, _, r => by
    obtain ⟨hb, c, o', hy, h0, h1, h1', h2, h3, h4⟩ := r
    exact ⟨Nat.lt_of_lt_of_le hb h.n, c, o', by rw [h.ρ b hb]; exact hy, h0, h1, h1', h2, by rw [h.κ b hb]; exact h3, h4⟩
  | .clo f l, _, r => by
    refine ⟨fun p hp => Nat.lt_of_lt_of_le (r.1 p hp) h.n, ?_⟩
    rw [r.2]
    congr 2
    apply List.map_congr_left
    intro p hp
    rw [h.ρ p.1 (r.1 p hp)]
theorem ER.mono {m m' : M} (h : m.le m') : ∀ {x y}, ER m x y → ER m' x y
  | .one _, _, r => CR.mono h r
  | .agg _, _, r => let ⟨cs, hy, ha⟩ := r; ⟨cs, hy, ha.imp fun _ _ => CR.mono h⟩
theorem VR.mono {m m' : M} (h : m.le m') : ∀ {x y}, VR m x y → VR m' x y
  | .e _, _, r => ER.mono h r
  | .tup _, _, r => let ⟨cs, hy, ha⟩ := r; ⟨cs, hy, ha.imp fun _ _ => ER.mono h⟩

theorem AC.val_sound {m : M} {a : AC} {x y : Value} (h : CR m a y) (hv : a.val? = some x) : y = x := by
  cases a <;> simp [AC.val?] at hv
  subst hv; exact h
theorem AE.val_sound {m : M} {a : AE} {x y : Value} (h : ER m a y) (hv : a.val? = some x) : y = x := by
  cases a with
  | one a => exact AC.val_sound h hv
  | agg l =>
    obtain ⟨cs, rfl, ha⟩ := h
    simp only [AE.val?] at hv
    split at hv
    · rename_i r hr
      simp at hv; subst hv
      have e := allSome_eq hr
      congr 1
      apply Array.toList_inj.1
      simp only
      apply List.ext_getElem?
      intro i
      cases hc : cs.toList[i]? with
      | none =>
        have h1 : cs.toList.length ≤ i := by simpa using hc
        have h2 : r.length = l.length := by have := congrArg List.length e; simp at this; exact this.symm
        rw [List.getElem?_eq_none (by rw [h2, ha.length]; exact h1)]
      | some c =>
        obtain ⟨a, hla, hr'⟩ := ha.get' hc
        have : (l.map AC.val?)[i]? = some a.val? := by simp [hla]
        rw [e] at this
        simp at this
        obtain ⟨v, hv1, hv2⟩ := this
        rw [AC.val_sound hr' hv2.symm, hv1]
    · simp at hv
theorem AV.val_sound {m : M} {a : AV} {x y : Value} (h : VR m a y) (hv : a.val? = some x) : y = x := by
  cases a with
  | e a => exact AE.val_sound h hv
  | tup l =>
    obtain ⟨cs, rfl, ha⟩ := h
    simp only [AV.val?] at hv
    split at hv
    · rename_i r hr
      simp at hv; subst hv
      have e := allSome_eq hr
      congr 1
      apply Array.toList_inj.1
      simp only
      apply List.ext_getElem?
      intro i
      cases hc : cs.toList[i]? with
      | none =>
        have h1 : cs.toList.length ≤ i := by simpa using hc
        have h2 : r.length = l.length := by have := congrArg List.length e; simp at this; exact this.symm
        rw [List.getElem?_eq_none (by rw [h2, ha.length]; exact h1)]
      | some c =>
        obtain ⟨a, hla, hr'⟩ := ha.get' hc
        have : (l.map AE.val?)[i]? = some a.val? := by simp [hla]
        rw [e] at this
        simp at this
        obtain ⟨v, hv1, hv2⟩ := this
        rw [AE.val_sound hr' hv2.symm, hv1]
    · simp at hv

theorem all2_v (m : M) : ∀ l : List Value, All2 (CR m) (l.map AC.v) l
  | [] => trivial
  | _ :: l => ⟨rfl, all2_v m l⟩
theorem AE.of_sound (m : M) (x : Value) : ER m (AE.of x) x := by
  unfold AE.of
  split
  · exact ⟨_, rfl, all2_v m _⟩
  · rfl
theorem all2_of (m : M) : ∀ l : List Value, All2 (ER m) (l.map AE.of) l
  | [] => trivial
  | x :: l => ⟨AE.of_sound m x, all2_of m l⟩
theorem AV.of_sound (m : M) (x : Value) : VR m (AV.of x) x := by
  unfold AV.of
  split
  · exact ⟨_, rfl, all2_of m _⟩
  · exact AE.of_sound m x

theorem cells_sound {m : M} {a : AE} {l : List AC} {y : Value} (h : ER m a y) (hc : a.cells? = some l) : All2 (CR m) l y.cells.toList := by
  unfold AE.cells? at hc
  split at hc
  · simp at hc
  · rename_i x hx
    simp at hc; subst hc
    have hy : y.cells = #[y] := by
      have h' : CR m x y := h
      cases x with
      | v x =>
        simp only [CR] at h'; subst h'
        cases y <;> first | rfl | exact absurd rfl (hx _)
      | ptr b o => obtain ⟨_, rfl⟩ := h'; rfl
      | slc b o len sz cap ex => obtain ⟨_, _, _, rfl, _⟩ := h'; rfl
      | clo f l => obtain ⟨_, rfl⟩ := h'; rfl
      | yld b => obtain ⟨_, rfl⟩ := h'; rfl
    rw [hy]
    exact ⟨h, trivial⟩
  · simp at hc; subst hc
    obtain ⟨cs, rfl, ha⟩ := h
    exact ha
theorem isOne_sound {m : M} {a : AC} {y : Value} (h : CR m a y) (ho : a.isOne = true) : y.oneCell' = true := by
  cases a with
  | v x => simp only [CR] at h; subst h; cases y <;> simp_all [AC.isOne, Value.oneCell']
  | ptr b o => obtain ⟨_, rfl⟩ := h; rfl
  | slc b o len sz cap ex => obtain ⟨_, _, _, rfl, _⟩ := h; rfl
  | clo f l => obtain ⟨_, rfl⟩ := h; rfl
  | yld b => obtain ⟨_, rfl⟩ := h; rfl

/-- Nothing of a row's n cells is frozen. -/
def FzOk (n : Nat) (fz : Nat × Nat) : Prop := fz.1 = fz.2 ∨ n ≤ fz.1
theorem FzOk.free {n : Nat} {fz : Nat × Nat} (h : FzOk n fz) : ∀ i, i < n → ¬ (fz.1 ≤ i ∧ i < fz.2) := fun i hi => by
  rcases h with h | h <;> omega

/-- One block of the evaluator's in a world. -/
structure BR (m : M) (w : World) (b : Nat) (a : AB) : Prop where
  n : a.cells.length = a.n
  full : a.full = true → a.n = m.κ b
  at_ : ∃ c : Array Value, ∃ fz : Nat × Nat, w.heap[m.ρ b]? = some (.cells c a.elem fz) ∧ c.size = m.κ b ∧ (m.lo ≤ b → FzOk c.size fz) ∧ a.n ≤ c.size ∧ All2 (CR m) a.cells (c.toList.take a.n)

/-- What else may lie in a block. -/
def LR (m : M) (w : World) (b : Nat) : AX → Prop
  | .cells => True
  | .loop st pend tm ps asg body => ∃ (fn : FuncId) (t : Array Value) (D : Nat), w.heap[m.ρ b]? = some (.loop { state := st, pending := pend, fn, tmps := t, params := ps, assign := asg, body, defers := D }) ∧ All2 (VR m) tm t.toList
  | .mark => w.heap[m.ρ b]? = some (.deferred (some []))

def EntR (m : M) (w : World) (b : Nat) (a : AB) : Prop := (a.ext = .cells → BR m w b a) ∧ LR m w b a.ext

/-- The evaluator's heap in a world: its blocks from lvl on are new ones, from base on. -/
structure HR (m : M) (base lvl : Nat) (h : Heap) (w : World) : Prop where
  n : m.n = h.length
  lvlLe : lvl ≤ h.length
  baseLe : base ≤ w.heap.size
  ent : ∀ b a, h[b]? = some (some a) → EntR m w b a
  own : ∀ b, lvl ≤ b → b < h.length → base ≤ m.ρ b
  inj : ∀ b b', b < h.length → b' < h.length → (∃ a, h[b]? = some (some a)) → (∃ a, h[b']? = some (some a)) → m.lo ≤ b ∨ m.lo ≤ b' → m.ρ b = m.ρ b' → b = b'
  lo : m.lo ≤ lvl

theorem HR.blk {m : M} {base lvl : Nat} {h : Heap} {w : World} (H : HR m base lvl h w) (b : Nat) (a : AB) (hb : h[b]? = some (some a)) (hx : a.ext = .cells) : BR m w b a := (H.ent b a hb).1 hx

/-- The tables. -/
def GR (gl : List (Nat × List Value)) (base : Nat) (w : World) : Prop :=
  ∀ g cs, lookG gl g = some cs → g < base ∧ ∃ (c : Array Value) (t : TypeId) (fz : Nat × Nat), w.heap[g]? = some (.cells c t fz) ∧ c.toList = cs

def TR (m : M) (tm : Tm) (tmps : Array Value) : Prop := All2 (VR m) tm tmps.toList

theorem TR.mono {m m' : M} (h : m.le m') {tm : Tm} {t : Array Value} (ht : TR m tm t) : TR m' tm t := All2.imp (fun _ _ => VR.mono h) ht

theorem GR.below {gl : List (Nat × List Value)} {base : Nat} {w w' : World} (h : GR gl base w) (hb : Below base w w') : GR gl base w' := by
  intro g cs hg
  obtain ⟨h1, c, t, fz, h2, h3⟩ := h g cs hg
  exact ⟨h1, c, t, fz, by rw [hb.block g h1]; exact h2, h3⟩

theorem blk_spec {h : Heap} {b : Nat} {a : AB} (hb : blk h b = some a) : h[b]? = some (some a) ∧ a.ext = .cells := by
  unfold blk at hb
  rw [getL_eq] at hb
  split at hb
  · rename_i a' ha
    split at hb
    · rename_i hx; simp at hb; subst hb; exact ⟨ha, hx⟩
    · simp at hb
  · simp at hb
theorem blk_eq {h : Heap} {b : Nat} {a : AB} (hb : blk h b = some a) : h[b]? = some (some a) := (blk_spec hb).1
theorem blk_ext {h : Heap} {b : Nat} {a : AB} (hb : blk h b = some a) : a.ext = .cells := (blk_spec hb).2

end Go.Ev
