/-
  What an operation of the evaluator says holds of the model's operation, in every world.
-/
import Derived.Test.YtgplabfjldndgaaGreatDoorEvB
import Derived.IntWalk
namespace Go.Ev
open Go.RowKit

def evC (t : Array Value) : Operand → Value
  | .tmp i => t.getD i undef
  | .const x => x
  | .global g => .pointer (some ⟨g, 0, none⟩)
  | .func f => .func (.func f) #[] #[]

theorem getT_sound {m : M} {tm : Tm} {t : Array Value} (h : TR m tm t) (i : Nat) : VR m (getT tm i) (t.getD i undef) := by
  unfold getT
  rw [getL_eq]
  cases hi : tm[i]? with
  | some x =>
    obtain ⟨y, hy, hr⟩ := All2.get h hi
    have : t[i]? = some y := by simpa using hy
    simp only [Array.getD_eq_getD_getElem?, this]
    exact hr
  | none =>
    have h1 : tm.length ≤ i := by simpa using hi
    rw [All2.length h] at h1
    have : t[i]? = none := by simpa using h1
    simp only [Array.getD_eq_getD_getElem?, this]
    exact ⟨#[], rfl, trivial⟩

theorem evA_sound {m : M} {tm : Tm} {t : Array Value} (h : TR m tm t) (x : Operand) : VR m (evA tm x) (evC t x) := by
  cases x with
  | tmp i => exact getT_sound h i
  | const x => exact AV.of_sound m x
  | global g => exact rfl
  | func f => exact rfl

theorem putT_sound {m : M} {tm : Tm} {t : Array Value} (h : TR m tm t) (d : Option Nat) {x : AV} {y : Value} (hr : VR m x y) :
    TR m (putT tm d x) (match d with | some d => t.setIfInBounds d y | none => t) := by
  cases d with
  | none => exact h
  | some d =>
    unfold putT TR
    simp only [setL_eq, Array.toList_setIfInBounds]
    exact All2.set h hr

theorem pureRun_sound {α : Type} (P : Program) (s : Sem α) : ∀ a, pureRun P s = some a → ∀ w, s.run P w = .ok a w := by
  induction s with
  | pure a => intro a' h w; simp [pureRun] at h; subst h; rfl
  | program k ih => intro a' h w; exact ih P a' h w
  | mark m k ih => intro a' h w; exact ih a' h w
  | _ => intro a' h w; simp [pureRun] at h

theorem wrapF_eq (k : IntKind) (n : Int) : wrapF k n = k.wrap n := by
  unfold wrapF
  split
  · split
    · rename_i m h
      have hm : m ≤ 9223372036854775807 := Nat.le_of_ble_eq_true h
      exact (IntWalk.i64_in (m : Int) (by omega)).symm
    · rfl
  · split
    · rename_i m h
      have hm : m ≤ 9223372036854775807 := Nat.le_of_ble_eq_true h
      exact (IntWalk.i64_in (Int.negSucc m) (by omega)).symm
    · rfl
  · rfl

theorem intBin_sound (P : Program) (op : BinOp) (k : IntKind) (a b : Int) (t : TypeId) (x y : Operand) (v : Value) (h : intBin op k a b = some v) (w : World) :
    (do eqGuard op t x y (.int k a) (.int k b); binOp op t (.int k a) (.int k b) : Sem Value).run P w = .ok v w := by
  cases op <;> simp only [intBin, wrapF_eq] at h
  all_goals first
    | (simp at h; done)
    | (simp only [Option.some.injEq] at h; subst h; simp [eqGuard, binOp, Op.intArith, Op.intCmp]; done)
    | (split at h; · simp at h
       · simp only [Option.some.injEq] at h; subst h; rename_i hb; simp [eqGuard, binOp, Op.intDiv, hb])

theorem binA_sound (P : Program) (op : BinOp) (t : TypeId) (x y : Operand) (p q v : Value) (h : binA P op t x y p q = some v) (w : World) :
    (do eqGuard op t x y p q; binOp op t p q : Sem Value).run P w = .ok v w := by
  unfold binA at h
  split at h
  · split at h
    · rename_i hk
      have hk' := of_decide_eq_true hk
      subst hk'
      split at h
      · rename_i hv; simp at h; subst h; exact intBin_sound P op _ _ _ t x y _ hv w
      · exact pureRun_sound P _ _ h w
    · exact pureRun_sound P _ _ h w
  · exact pureRun_sound P _ _ h w

/-- The operation, carried out: it hands back a value, or nothing. -/
def Does (P : Program) (t : Array Value) (o : Oper) (w : World) (y : Value) (w' : World) : Prop :=
  (execOp (evC t) o).run P w = .ok (.value y) w' ∨ ((execOp (evC t) o).run P w = .ok .skip w' ∧ y = undef)

/-- What a call leaves: memory may have come to rest. -/
structure PostG (m : M) (base lvl : Nat) (w : World) (x : AV) (h' : Heap) (y : Value) (w' : World) (m' : M) : Prop where
  le : M.leG base m m'
  val : VR m' x y
  heap : HR m' base lvl h' w'
  below : Below base w w'

structure Post (m : M) (base lvl : Nat) (w : World) (x : AV) (h' : Heap) (y : Value) (w' : World) (m' : M) : Prop where
  le : m.le m'
  val : VR m' x y
  heap : HR m' base lvl h' w'
  below : Below base w w'

theorem Post.g {m : M} {base lvl : Nat} {w : World} {x : AV} {h' : Heap} {y : Value} {w' : World} {m' : M} (p : Post m base lvl w x h' y w' m') : PostG m base lvl w x h' y w' m' := ⟨p.le.g base, p.val, p.heap, p.below⟩
theorem Post.same {m : M} {base lvl : Nat} {h : Heap} {w : World} {x : AV} {y : Value} (H : HR m base lvl h w) (hv : VR m x y) : Post m base lvl w x h y w m :=
  ⟨M.le.refl m, hv, H, Below.refl _ _⟩

theorem pureOp_sound {E : Env} {m : M} {tm : Tm} {t : Array Value} {o : Oper} {x : AV} (hT : TR m tm t) (h : pureOp E tm o = some x) (w : World) :
    ∃ y, Does E.P t o w y w ∧ VR m x y := by
  unfold pureOp at h
  split at h
  · rename_i hc
    simp only [Bool.and_eq_true] at hc
    obtain ⟨hs, hc⟩ := hc
    split at h
    · rename_i v hv
      simp at h; subst h
      refine ⟨v, .inl ?_, AV.of_sound m v⟩
      have he : execOp (evC t) o = execOp (concEv tm) o := by
        refine execOp_congr o (fun cs b hb => by rw [hb] at hs; simp [notSelect] at hs) fun x hx => ?_
        have h1 : ((evA tm x).val?).isSome = true := by
          have := List.all_eq_true.1 hc x (by simpa using hx)
          simpa using this
        obtain ⟨v', hv'⟩ := Option.isSome_iff_exists.1 h1
        rw [AV.val_sound (evA_sound hT x) hv']
        simp [concEv, hv']
      rw [he]
      exact pureRun_sound E.P _ _ hv w
    · simp at h
  · simp at h

section heap
variable {m : M} {base lvl : Nat} {h : Heap} {w : World}

theorem BR.world {w' : World} {b : Nat} {a : AB} (h : BR m w b a) (hw : w'.heap[m.ρ b]? = w.heap[m.ρ b]?) : BR m w' b a := by
  obtain ⟨h1, h2, c, fz, h3, h4⟩ := h
  exact ⟨h1, h2, c, fz, by rw [hw]; exact h3, h4⟩
theorem BR.monoG {m' : M} {bs b : Nat} {a : AB} (hm : M.leG bs m m') (hb : b < m.n) (h : BR m w b a) : BR m' w b a := by
  obtain ⟨h1, h2, c, fz, h3, h4, h5, h6, h7⟩ := h
  exact ⟨h1, by rw [hm.κ b hb]; exact h2, c, fz, by rw [hm.ρ b hb]; exact h3, by rw [hm.κ b hb]; exact h4, fun hlo => h5 (by rw [← hm.lo]; exact hlo), h6, h7.imp fun _ _ => CR.monoG hm⟩
theorem BR.mono {m' : M} {b : Nat} {a : AB} (hm : m.le m') (hb : b < m.n) (h : BR m w b a) : BR m' w b a := h.monoG (hm.g 0) hb
theorem BR.lt {b : Nat} {a : AB} (h : BR m w b a) : m.ρ b < w.heap.size := by
  obtain ⟨_, _, c, fz, h3, _⟩ := h
  exact (Array.getElem?_eq_some_iff.1 h3).1

theorem LR.world {w' : World} {b : Nat} {x : AX} (h : LR m w b x) (hw : w'.heap[m.ρ b]? = w.heap[m.ρ b]?) : LR m w' b x := by
  cases x with
  | cells => trivial
  | loop => obtain ⟨fn, t, D, h1, h2⟩ := h; exact ⟨fn, t, D, by rw [hw]; exact h1, h2⟩
  | mark => show w'.heap[m.ρ b]? = _; rw [hw]; exact h
  | map kv => obtain ⟨es, c, h1, h2⟩ := h; exact ⟨es, c, by rw [hw]; exact h1, h2⟩
  | iter s p => show w'.heap[m.ρ b]? = _; rw [hw]; exact h
theorem LR.monoG {m' : M} {bs b : Nat} {x : AX} (hm : M.leG bs m m') (hb : b < m.n) (h : LR m w b x) : LR m' w b x := by
  cases x with
  | cells => trivial
  | loop => obtain ⟨fn, t, D, h1, h2⟩ := h; exact ⟨fn, t, D, by rw [hm.ρ b hb]; exact h1, h2.imp fun _ _ => VR.monoG hm⟩
  | mark => show w.heap[m'.ρ b]? = _; rw [hm.ρ b hb]; exact h
  | map kv => obtain ⟨es, c, h1, h2⟩ := h; exact ⟨es, c, by rw [hm.ρ b hb]; exact h1, h2⟩
  | iter s p => show w.heap[m'.ρ b]? = _; rw [hm.ρ b hb]; exact h
theorem LR.mono {m' : M} {b : Nat} {x : AX} (hm : m.le m') (hb : b < m.n) (h : LR m w b x) : LR m' w b x := h.monoG (hm.g 0) hb
theorem EntR.world {w' : World} {b : Nat} {a : AB} (h : EntR m w b a) (hw : w'.heap[m.ρ b]? = w.heap[m.ρ b]?) : EntR m w' b a := ⟨fun hx => (h.1 hx).world hw, h.2.world hw⟩
theorem EntR.monoG {m' : M} {bs b : Nat} {a : AB} (hm : M.leG bs m m') (hb : b < m.n) (h : EntR m w b a) : EntR m' w b a := ⟨fun hx => (h.1 hx).monoG hm hb, h.2.monoG hm hb⟩
theorem EntR.mono {m' : M} {b : Nat} {a : AB} (hm : m.le m') (hb : b < m.n) (h : EntR m w b a) : EntR m' w b a := ⟨fun hx => (h.1 hx).mono hm hb, h.2.mono hm hb⟩
theorem EntR.lt {b : Nat} {a : AB} (h : EntR m w b a) : m.ρ b < w.heap.size := by
  cases hx : a.ext with
  | cells => exact (h.1 hx).lt
  | loop =>
    have h2 := h.2
    rw [hx] at h2
    obtain ⟨_, _, _, h3, _⟩ := h2
    exact (Array.getElem?_eq_some_iff.1 h3).1
  | mark =>
    have h2 := h.2
    rw [hx] at h2
    have h3 : w.heap[m.ρ b]? = some (.deferred (some [])) := h2
    exact (Array.getElem?_eq_some_iff.1 h3).1
  | map kv =>
    have h2 := h.2
    rw [hx] at h2
    obtain ⟨es, c, h3, _⟩ := h2
    exact (Array.getElem?_eq_some_iff.1 h3).1
  | iter s p =>
    have h2 := h.2
    rw [hx] at h2
    have h3 : w.heap[m.ρ b]? = some (.stringIter s p) := h2
    exact (Array.getElem?_eq_some_iff.1 h3).1

def M.push (m : M) (r k : Nat) : M := { n := m.n + 1, ρ := fun b => if b < m.n then m.ρ b else r, κ := fun b => if b < m.n then m.κ b else k, lo := m.lo, F := m.F }
theorem M.le_push (m : M) (r k : Nat) : m.le (m.push r k) := ⟨Nat.le_succ _, fun b hb => by simp [M.push, hb], fun b hb => by simp [M.push, hb], rfl, rfl⟩
@[simp] theorem M.push_n (m : M) (r k : Nat) : (m.push r k).n = m.n + 1 := rfl
theorem M.push_ρ (m : M) (r k : Nat) : (m.push r k).ρ m.n = r := by simp [M.push]
theorem M.push_κ (m : M) (r k : Nat) : (m.push r k).κ m.n = k := by simp [M.push]

theorem HR.tabLt (H : HR m base lvl h w) {p : Nat × List Value} (hp : p ∈ m.F) : p.1 < w.heap.size := by
  obtain ⟨⟨c, t, fz, h1, _⟩, _⟩ := H.tab p hp
  exact (Array.getElem?_eq_some_iff.1 h1).1
/-- The tables, in a world that has them still. -/
theorem HR.tabs (H : HR m base lvl h w) {w' : World} (hw : ∀ p ∈ m.F, w'.heap[p.1]? = w.heap[p.1]?) : ∀ p ∈ m.F, ∃ (c : Array Value) (t : TypeId) (fz : Nat × Nat), w'.heap[p.1]? = some (.cells c t fz) ∧ c.toList = p.2 := fun p hp => by
  rw [hw p hp]; exact (H.tab p hp).1

/-- The same, for one who may write none of the blocks that are there. -/
theorem HR.shut (H : HR m base lvl h w) : HR m w.heap.size h.length h w :=
  ⟨H.n, Nat.le_refl _, Nat.le_refl _, H.ent, fun b h1 h2 => by omega, H.inj, Nat.le_trans H.lo H.lvlLe, fun p hp => ⟨(H.tab p hp).1, fun b a hb ha => by
    have := (List.getElem?_eq_some_iff.1 ha).1
    omega⟩⟩

/-- A new block, whatever lies in it. -/
theorem HR.newEnt (H : HR m base lvl h w) {w' : World} {ob : Obj} (hw : w'.heap = w.heap.push ob) {a0 : AB} {k : Nat} (he : EntR (m.push w.heap.size k) w' m.n a0) : HR (m.push w.heap.size k) base lvl (h ++ [some a0]) w' := by
  have hm := H.n
  have old : ∀ b, b < w.heap.size → w'.heap[b]? = w.heap[b]? := fun b hb => by rw [hw, Array.getElem?_push, if_neg (by omega)]
  refine ⟨by simp [hm], by have := H.lvlLe; simp; omega, by rw [hw]; have := H.baseLe; simp; omega, ?_, ?_, ?_, H.lo, ?_⟩
  · intro b a hb
    rw [List.getElem?_append] at hb
    split at hb
    · rename_i hlt
      have B := H.ent b a hb
      have B' := B.mono (M.le_push m w.heap.size k) (by omega)
      exact B'.world (by rw [(M.le_push m w.heap.size k).ρ b (by omega)]; exact old _ B.lt)
    · rename_i hge
      have hb0 : b - h.length = 0 := by
        rcases Nat.eq_zero_or_pos (b - h.length) with h0 | h0
        · exact h0
        · rw [List.getElem?_eq_none (by simp; omega)] at hb; simp at hb
      rw [hb0] at hb
      simp at hb
      subst hb
      have hbn : b = m.n := by omega
      subst hbn
      exact he
  · intro b h1 h2
    simp at h2
    by_cases hlt : b < m.n
    · rw [(M.le_push m w.heap.size k).ρ b hlt]
      exact H.own b h1 (by omega)
    · have hbn : b = m.n := by omega
      subst hbn
      rw [M.push_ρ]
      exact H.baseLe
  · intro b b' h1 h2 ⟨a, ha⟩ ⟨a', ha'⟩ hlo he
    simp at h1 h2
    have key : ∀ b a, (h ++ [some a0])[b]? = some (some a) → b < m.n → m.ρ b < w.heap.size ∧ h[b]? = some (some a) := by
      intro b a hb hlt
      rw [List.getElem?_append, if_pos (by omega)] at hb
      exact ⟨(H.ent b a hb).lt, hb⟩
    by_cases hb : b < m.n <;> by_cases hb' : b' < m.n
    · rw [(M.le_push m w.heap.size k).ρ b hb, (M.le_push m w.heap.size k).ρ b' hb'] at he
      exact H.inj b b' (by omega) (by omega) ⟨a, (key b a ha hb).2⟩ ⟨a', (key b' a' ha' hb').2⟩ hlo he
    · have : b' = m.n := by omega
      subst this
      rw [(M.le_push m w.heap.size k).ρ b hb, M.push_ρ] at he
      have := (key b a ha hb).1
      omega
    · have : b = m.n := by omega
      subst this
      rw [(M.le_push m w.heap.size k).ρ b' hb', M.push_ρ] at he
      have := (key b' a' ha' hb').1
      omega
    · omega
  · intro p hp
    have hlt := H.tabLt hp
    refine ⟨H.tabs (fun q hq => old q.1 (H.tabLt hq)) p hp, fun b a hb ha => ?_⟩
    rw [List.getElem?_append] at ha
    split at ha
    · rename_i hlt'
      rw [(M.le_push m w.heap.size k).ρ b (by omega)]
      exact (H.tab p hp).2 b a hb ha
    · rename_i hge
      have hb0 : b - h.length = 0 := by
        rcases Nat.eq_zero_or_pos (b - h.length) with h0 | h0
        · exact h0
        · rw [List.getElem?_eq_none (by simp; omega)] at ha; simp at ha
      have hbn : b = m.n := by omega
      subst hbn
      rw [M.push_ρ]
      omega

/-- A new block of cells. -/
theorem HR.new (H : HR m base lvl h w) {w' : World} {c : Array Value} {t : TypeId} {fz : Nat × Nat} (hw : w'.heap = w.heap.push (.cells c t fz))
    {cells : List AC} {n : Nat} {full : Bool} (hn : cells.length = n) (hf : full = true → n = c.size) (hle : n ≤ c.size) (hz : FzOk c.size fz)
    (hr : All2 (CR m) cells (c.toList.take n)) : HR (m.push w.heap.size c.size) base lvl (h ++ [some ⟨cells, n, t, full, .cells⟩]) w' :=
  H.newEnt hw ⟨fun _ => ⟨hn, fun hh => by rw [M.push_κ]; exact hf hh, c, fz, by rw [M.push_ρ, hw]; simp, by rw [M.push_κ], fun _ => hz, hle, hr.imp fun _ _ => CR.mono (M.le_push m _ _)⟩, trivial⟩

/-- The world has turned where none of its blocks lies. -/
theorem HR.world (H : HR m base lvl h w) {w' : World} (hs : w.heap.size ≤ w'.heap.size) (hw : ∀ b, b < w.heap.size → w'.heap[b]? = w.heap[b]?) : HR m base lvl h w' :=
  ⟨H.n, H.lvlLe, Nat.le_trans H.baseLe hs, fun b a hb => (H.ent b a hb).world (hw _ (H.ent b a hb).lt), H.own, H.inj, H.lo, fun p hp => ⟨H.tabs (fun q hq => hw q.1 (H.tabLt hq)) p hp, (H.tab p hp).2⟩⟩

/-- A block turns, whatever lies in it. -/
theorem HR.putEnt (H : HR m base lvl h w) {b : Nat} {a a1 : AB} (hb : h[b]? = some (some a)) (hlb : lvl ≤ b) {w' : World} (hs : w'.heap.size = w.heap.size) (hother : ∀ k, k ≠ m.ρ b → w'.heap[k]? = w.heap[k]?) (he : EntR m w' b a1) :
    HR m base lvl (h.set b (some a1)) w' := by
  have hbl : b < h.length := (List.getElem?_eq_some_iff.1 hb).1
  have some_of : ∀ (k : Nat) (a' : AB), (h.set b (some a1))[k]? = some (some a') → ∃ a'' : AB, h[k]? = some (some a'') := by
    intro k a' hk
    rw [List.getElem?_set] at hk
    split at hk
    · rename_i e; subst e; exact ⟨a, hb⟩
    · exact ⟨a', hk⟩
  refine ⟨by simp [H.n], by simpa using H.lvlLe, by rw [hs]; exact H.baseLe, ?_, by simpa using H.own, ?_, H.lo, fun p hp => ⟨H.tabs (fun q hq => hother _ fun e => (H.tab q hq).2 b a hlb hb e.symm) p hp, fun k a' hk ha' => ?_⟩⟩
  · intro k a' hk'
    rw [List.getElem?_set] at hk'
    by_cases e : b = k
    · subst e
      simp only [if_true, hbl] at hk'
      simp at hk'
      subst hk'
      exact he
    · simp only [e, if_false] at hk'
      have B := H.ent k a' hk'
      refine B.world (hother _ fun e' => e ?_)
      exact (H.inj k b (List.getElem?_eq_some_iff.1 hk').1 hbl ⟨a', hk'⟩ ⟨a, hb⟩ (.inr (Nat.le_trans H.lo hlb)) e').symm
  · intro k k' h1 h2 ⟨a1, ha1⟩ ⟨a2, ha2⟩ hlo he
    exact H.inj k k' (by simpa using h1) (by simpa using h2) (some_of k a1 ha1) (some_of k' a2 ha2) hlo he
  · obtain ⟨a'', ha''⟩ := some_of k a' ha'
    exact (H.tab p hp).2 k a'' hk ha''

/-- A block that may be written turns. -/
theorem HR.put (H : HR m base lvl h w) {b : Nat} {a : AB} (hb : h[b]? = some (some a)) (hlb : lvl ≤ b) (hx : a.ext = .cells) {c c' : Array Value} {fz : Nat × Nat} (hc : w.heap[m.ρ b]? = some (.cells c a.elem fz))
    (hfz : m.lo ≤ b → FzOk c.size fz) (hs : c'.size = c.size) (hk : c.size = m.κ b) (hle : a.n ≤ c.size) {cells : List AC} (hl : cells.length = a.n) (hr : All2 (CR m) cells (c'.toList.take a.n)) :
    HR m base lvl (h.set b (some { a with cells := cells })) (w.setRow (m.ρ b) c') := by
  have B := H.blk b a hb hx
  refine H.putEnt hb hlb (by simp) (fun k hk => setRow_other w _ _ _ hk) ⟨fun _ => ⟨hl, B.full, c', fz, setRow_heap w _ c c' _ fz hc, by rw [hs]; exact hk, by rw [hs]; exact hfz, by rw [hs]; exact hle, hr⟩, ?_⟩
  simp only [hx]
  trivial

/-- A block is given up. -/
theorem HR.kill (H : HR m base lvl h w) (b : Nat) : HR m base lvl (h.set b none) w := by
  have some_of : ∀ (k : Nat) (a' : AB), (h.set b none)[k]? = some (some a') → h[k]? = some (some a') := by
    intro k a' hk
    rw [List.getElem?_set] at hk
    split at hk
    · split at hk <;> simp at hk
    · exact hk
  exact ⟨by simp [H.n], by simpa using H.lvlLe, H.baseLe, fun k a hk => H.ent k a (some_of k a hk), by simpa using H.own,
    fun k k' h1 h2 ⟨a1, ha1⟩ ⟨a2, ha2⟩ hlo he => H.inj k k' (by simpa using h1) (by simpa using h2) ⟨a1, some_of k a1 ha1⟩ ⟨a2, some_of k' a2 ha2⟩ hlo he, H.lo, fun p hp => ⟨(H.tab p hp).1, fun k a hk ha => (H.tab p hp).2 k a hk (some_of k a ha)⟩⟩
end heap

end Go.Ev
