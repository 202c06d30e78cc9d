/-
  Regions and pieces of frames of an open run.
-/
import Derived.Test.YtgplabfjldndgaaGreatDoorSyC
namespace Go.Ev
open Go.RowKit
noncomputable section

section
variable {E : Env} {rec : RunT} {lvl : Nat} {ops : Array Oper}

theorem wantV_sound {tm : Tm} {o : Oper} {g : Option Bool} {b : Bool} {q : List Prop} (h : wantV ops tm o g = (b, q)) (hq : AllP q) : wantedA ops tm o = b := by
  unfold wantV at h
  split at h
  · simp only [Prod.mk.injEq] at h; exact h.1
  · unfold wantedA
    split at h
    · rename_i hg
      simp only [Prod.mk.injEq] at h
      simp only [hg]; exact h.1
    · rename_i j want hg
      simp only [hg]
      split at h
      · rename_i d hd
        simp only [hd]
        split at h
        · rename_i c hc
          simp only [Prod.mk.injEq] at h
          obtain ⟨rfl, rfl⟩ := h
          simp only [hc]
          exact hq.1
        · rename_i hne
          simp only [Prod.mk.injEq] at h
          obtain ⟨rfl, rfl⟩ := h
          split
          · rename_i c hc; exact absurd hc (hne c)
          · rfl
      · rename_i hd
        simp only [Prod.mk.injEq] at h
        obtain ⟨rfl, rfl⟩ := h
        simp only [hd]

open Classical in
/-- What the answers say of an operation, if what they owe holds. -/
def sigV (E : Env) (rec : RunT) (a : List (Nat × Ans)) : StepT := fun lvl h tm i o => match valV E rec lvl h tm o (ansOf a i) with
  | some (x, h', ps) => if AllP ps then some (x, h') else none
  | none => none

theorem sigV_of {a : List (Nat × Ans)} {h h' : Heap} {tm : Tm} {i : Nat} {o : Oper} {x : AV} {ps : List Prop} (hv : valV E rec lvl h tm o (ansOf a i) = some (x, h', ps)) (hp : AllP ps) : sigV E rec a lvl h tm i o = some (x, h') := by
  simp only [sigV, hv, if_pos hp]

theorem sigV_some {a : List (Nat × Ans)} {h h' : Heap} {tm : Tm} {i : Nat} {o : Oper} {x : AV} (hs : sigV E rec a lvl h tm i o = some (x, h')) : ∃ ps, valV E rec lvl h tm o (ansOf a i) = some (x, h', ps) ∧ AllP ps := by
  unfold sigV at hs
  split at hs
  · rename_i x1 h1 ps hv
    split at hs
    · rename_i hp
      simp only [Option.some.injEq, Prod.mk.injEq] at hs
      obtain ⟨rfl, rfl⟩ := hs
      exact ⟨ps, hv, hp⟩
    · simp at hs
  · simp at hs

theorem blind_op {i : Nat} {o : Oper} (ho : ops[i]? = some o) (hb : blindAt ops i = true) : (∃ x, o.op = .move x) ∨ (∃ x, o.op = .assign x) ∨ (∃ b t x y yt, o.op = .binOp b t x y yt) ∨ (∃ t x y, o.op = .index t x y) ∨ (∃ x n, o.op = .extract x n) := by
  unfold blindAt at hb
  rw [ho] at hb
  simp only at hb
  split at hb
  · rename_i hop; exact .inl ⟨_, hop⟩
  · rename_i hop; exact .inr (.inl ⟨_, hop⟩)
  · rename_i hop; exact .inr (.inr (.inl ⟨_, _, _, _, _, hop⟩))
  · rename_i hop; exact .inr (.inr (.inr (.inl ⟨_, _, _, hop⟩)))
  · rename_i hop; exact .inr (.inr (.inr (.inr ⟨_, _, hop⟩)))
  · simp at hb

theorem blindV {i : Nat} {o : Oper} (ho : ops[i]? = some o) (hb : blindAt ops i = true) {lvl lvl' : Nat} {h h1 h' : Heap} {tm : Tm} {x : AV} {a : Ans} {ps : List Prop} (hs : valV E rec lvl h tm o a = some (x, h', ps)) :
    valV E rec lvl' h1 tm o a = some (x, h1, ps) := by
  cases a with
  | go =>
    simp only [valV] at hs ⊢
    split at hs
    · rename_i x1 h2 hst
      simp only [Option.some.injEq, Prod.mk.injEq] at hs
      obtain ⟨rfl, rfl, rfl⟩ := hs
      rw [blind_spec ho hb hst]
    · simp at hs
  | fw =>
    rcases blind_op ho hb with ⟨p, hop⟩ | ⟨p, hop⟩ | ⟨p, q, r, s, u, hop⟩ | ⟨p, q, r, hop⟩ | ⟨p, q, hop⟩
    · simp [valV, hop, opA] at hs
    · simp [valV, hop, opA] at hs
    · simp [valV, hop, opA] at hs
    · simp [valV, hop, opA] at hs
    · simp only [valV, hop, opA] at hs ⊢
      cases he : evA tm p with
      | e _ => simp [he] at hs
      | tup l =>
        cases hg : getL l q with
        | none => simp [he, hg] at hs
        | some a =>
          simp [he, hg] at hs ⊢
          exact ⟨hs.1, hs.2.2⟩
  | fwq =>
    rcases blind_op ho hb with ⟨p, hop⟩ | ⟨p, hop⟩ | ⟨p, q, r, s, u, hop⟩ | ⟨p, q, r, hop⟩ | ⟨p, q, hop⟩
    · simp [valV, hop, opA] at hs
    · simp [valV, hop, opA] at hs
    · simp [valV, hop, opA] at hs
    · simp [valV, hop, opA] at hs
    · simp only [valV, hop, opA] at hs ⊢
      cases he : evA tm p with
      | e _ => simp [he] at hs
      | tup l =>
        cases hg : getL l q with
        | none => simp [he, hg] at hs
        | some a =>
          simp [he, hg] at hs ⊢
          exact ⟨hs.1, hs.2.2⟩
  | oq =>
    simp only [valV] at hs ⊢
    split at hs
    · rename_i x1 h2 hst
      simp only [Option.some.injEq, Prod.mk.injEq] at hs
      obtain ⟨rfl, rfl, rfl⟩ := hs
      rw [blind_spec ho hb hst]
    · simp at hs
  | rn y =>
    simp only [valV] at hs ⊢
    split at hs
    · rename_i x1 h2 hst
      simp only [Option.some.injEq, Prod.mk.injEq] at hs
      obtain ⟨rfl, rfl, rfl⟩ := hs
      rw [blind_spec ho hb hst]
    · simp at hs
  | quo r =>
    simp only [valV] at hs ⊢
    split at hs
    · split at hs
      · split at hs
        · simp only [Option.some.injEq, Prod.mk.injEq] at hs ⊢
          exact ⟨hs.1, trivial, hs.2.2⟩
        · simp only [Option.some.injEq, Prod.mk.injEq] at hs ⊢
          exact ⟨hs.1, trivial, hs.2.2⟩
        · simp at hs
      · simp at hs
    · simp at hs
  | el c =>
    simp only [valV] at hs ⊢
    split at hs
    · split at hs
      · split at hs
        · split at hs
          · simp only [Option.some.injEq, Prod.mk.injEq] at hs ⊢
            exact ⟨hs.1, trivial, hs.2.2⟩
          · simp at hs
        · simp at hs
      · simp at hs
    · simp at hs
  | cmp b xs ys =>
    simp only [valV] at hs ⊢
    split at hs
    · split at hs
      · split at hs
        · split at hs
          · simp only [Option.some.injEq, Prod.mk.injEq] at hs ⊢
            exact ⟨hs.1, trivial, hs.2.2⟩
          · simp only [Option.some.injEq, Prod.mk.injEq] at hs ⊢
            exact ⟨hs.1, trivial, hs.2.2⟩
          · simp at hs
        · simp at hs
      · simp at hs
    · simp at hs
  | eqs b =>
    simp only [valV] at hs ⊢
    split at hs
    · split at hs
      · simp only [Option.some.injEq, Prod.mk.injEq] at hs ⊢
        exact ⟨hs.1, trivial, hs.2.2⟩
      · simp only [Option.some.injEq, Prod.mk.injEq] at hs ⊢
        exact ⟨hs.1, trivial, hs.2.2⟩
      · simp at hs
    · simp at hs
  | fb c =>
    simp only [valV] at hs ⊢
    split at hs
    · split at hs
      · simp only [Option.some.injEq, Prod.mk.injEq] at hs ⊢
        exact ⟨hs.1, trivial, hs.2.2⟩
      · simp at hs
    · simp at hs
  | d a =>
    rcases blind_op ho hb with ⟨p, hop⟩ | ⟨p, hop⟩ | ⟨p, q, r, s, u, hop⟩ | ⟨p, q, r, hop⟩ | ⟨p, q, hop⟩ <;> cases a <;> simp [valV, dV, hop] at hs
  | _ =>
    rcases blind_op ho hb with ⟨p, hop⟩ | ⟨p, hop⟩ | ⟨p, q, r, s, u, hop⟩ | ⟨p, q, r, hop⟩ | ⟨p, q, hop⟩ <;> simp [valV, hop] at hs

theorem sigV_ok (hE : EnvOk E) (hrec : RecOk E rec) (a : List (Nat × Ans)) : StepOk E (sigV E rec a) :=
  ⟨fun hT H G _ _ hs => by
    obtain ⟨ps, hv, hp⟩ := sigV_some hs
    exact valV_sound hE hrec hT H G hv hp,
  fun ho hb _ _ _ _ _ _ _ hs => by
    obtain ⟨ps, hv, hp⟩ := sigV_some hs
    exact sigV_of (blindV ho hb hv) hp⟩

theorem opsV_sim {a : List (Nat × Ans)} {g : List (Nat × Bool)} : ∀ (l : List Oper) (i : Nat) {h h2 : Heap} {tm tm2 : Tm} {qs : List Prop}, opsV E rec a g lvl ops l i h tm = some (h2, tm2, qs) → AllP qs → stepOps (sigV E rec a) lvl ops l i h tm = some (h2, tm2)
  | [], i, h, h2, tm, tm2, qs, hs, hq => by
    simp only [opsV, Option.some.injEq, Prod.mk.injEq] at hs
    obtain ⟨rfl, rfl, rfl⟩ := hs
    rfl
  | o :: l, i, h, h2, tm, tm2, qs, hs, hq => by
    have hs' : (match wantV ops tm o (boolAt g i) with
      | (true, q) => (match valV E rec lvl h tm o (ansOf a i) with
        | some (x, h', ps) => (match opsV E rec a g lvl ops l (i + 1) h' (putT tm o.dst x) with
          | some (h2, tm2, qs) => some (h2, tm2, q ++ (ps ++ qs))
          | none => none)
        | none => none)
      | (false, q) => (match opsV E rec a g lvl ops l (i + 1) h (putT tm o.dst (.tup [])) with
          | some (h2, tm2, qs) => some (h2, tm2, q ++ qs)
          | none => none)) = some (h2, tm2, qs) := hs
    show (if wantedA ops tm o then match sigV E rec a lvl h tm i o with
      | some (x, h') => stepOps (sigV E rec a) lvl ops l (i + 1) h' (putT tm o.dst x)
      | none => none
    else stepOps (sigV E rec a) lvl ops l (i + 1) h (putT tm o.dst (.tup []))) = _
    split at hs'
    · rename_i q hw
      split at hs'
      · rename_i x h' ps hv
        split at hs'
        · rename_i h3 tm3 qs3 hr
          simp only [Option.some.injEq, Prod.mk.injEq] at hs'
          obtain ⟨rfl, rfl, rfl⟩ := hs'
          obtain ⟨k1, k2⟩ := allP_append.1 hq
          obtain ⟨k2, k3⟩ := allP_append.1 k2
          rw [wantV_sound hw k1, if_pos rfl, sigV_of hv k2]
          exact opsV_sim l (i + 1) hr k3
        · simp at hs'
      · simp at hs'
    · rename_i q hw
      split at hs'
      · rename_i h3 tm3 qs3 hr
        simp only [Option.some.injEq, Prod.mk.injEq] at hs'
        obtain ⟨rfl, rfl, rfl⟩ := hs'
        obtain ⟨k1, k2⟩ := allP_append.1 hq
        rw [wantV_sound hw k1, if_neg (by simp)]
        exact opsV_sim l (i + 1) hr k2
      · simp at hs'

theorem passBV_sim {a : List (Nat × Ans)} {g : List (Nat × Bool)} {lvl : Nat} : ∀ (l : List Nat) {h h2 : Heap} {tm tm2 : Tm} {qs : List Prop}, passBV E rec a g lvl ops l h tm = some (h2, tm2, qs) → AllP qs → passB (sigV E rec a) lvl ops l h tm = some (h2, tm2)
  | [], h, h2, tm, tm2, qs, hs, hq => by
    simp only [passBV, Option.some.injEq, Prod.mk.injEq] at hs
    obtain ⟨rfl, rfl, rfl⟩ := hs
    rfl
  | i :: l, h, h2, tm, tm2, qs, hs, hq => by
    have hs' : (match ops[i]? with
    | some o => (match wantV ops tm o (boolAt g i) with
      | (true, q) => (match valV E rec lvl h tm o (ansOf a i) with
        | some (x, h', ps) => (match passBV E rec a g lvl ops l h' (putT tm o.dst x) with
          | some (h2, tm2, qs) => some (h2, tm2, q ++ (ps ++ qs))
          | none => none)
        | none => none)
      | (false, q) => (match passBV E rec a g lvl ops l h (putT tm o.dst (.tup [])) with
          | some (h2, tm2, qs) => some (h2, tm2, q ++ qs)
          | none => none))
    | none => none) = some (h2, tm2, qs) := hs
    show (match ops[i]? with
      | some o => if wantedA ops tm o then (match sigV E rec a lvl h tm i o with
          | some (x, h1) => passB (sigV E rec a) lvl ops l h1 (putT tm o.dst x)
          | none => none) else passB (sigV E rec a) lvl ops l h (putT tm o.dst (.tup []))
      | none => none) = _
    cases ho : ops[i]? with
    | none => rw [ho] at hs'; simp at hs'
    | some o =>
      rw [ho] at hs'
      simp only at hs' ⊢
      split at hs'
      · rename_i q hw
        split at hs'
        · rename_i x h' ps hv
          split at hs'
          · rename_i h3 tm3 qs3 hr
            simp only [Option.some.injEq, Prod.mk.injEq] at hs'
            obtain ⟨rfl, rfl, rfl⟩ := hs'
            obtain ⟨k1, k2⟩ := allP_append.1 hq
            obtain ⟨k2, k3⟩ := allP_append.1 k2
            rw [wantV_sound hw k1, if_pos rfl, sigV_of hv k2]
            exact passBV_sim l hr k3
          · simp at hs'
        · simp at hs'
      · rename_i q hw
        split at hs'
        · rename_i h3 tm3 qs3 hr
          simp only [Option.some.injEq, Prod.mk.injEq] at hs'
          obtain ⟨rfl, rfl, rfl⟩ := hs'
          obtain ⟨k1, k2⟩ := allP_append.1 hq
          rw [wantV_sound hw k1, if_neg (by simp)]
          exact passBV_sim l hr k2
        · simp at hs'

theorem passAV_sim {a : List (Nat × Ans)} {g : List (Nat × Bool)} {h : Heap} : ∀ (l : List Nat) {tm tm2 : Tm} {qs : List Prop}, passAV E rec a g ops h l tm = some (tm2, qs) → AllP qs → passA (sigV E rec a) ops h l tm = some tm2
  | [], tm, tm2, qs, hs, hq => by
    simp only [passAV, Option.some.injEq, Prod.mk.injEq] at hs
    obtain ⟨rfl, rfl⟩ := hs
    rfl
  | i :: l, tm, tm2, qs, hs, hq => by
    have hs' : (match ops[i]? with
    | some o => (match wantV ops tm o (boolAt g i) with
      | (true, q) => (match valV E rec (lenL h) h tm o (ansOf a i) with
        | some (x, _, ps) => (match isOq (ansOf a i) with
          | true => (match passAV E rec a g ops h l (putT tm o.dst x) with
            | some (tm2, qs) => some (tm2, q ++ (ps ++ (((refsBelow (lenL h) x.refs && (!callV o || x.flat)) = true) :: qs)))
            | none => none)
          | false => if refsBelow (lenL h) x.refs && (!callV o || x.flat) then (match passAV E rec a g ops h l (putT tm o.dst x) with
            | some (tm2, qs) => some (tm2, q ++ (ps ++ qs))
            | none => none) else none)
        | none => none)
      | (false, q) => (match passAV E rec a g ops h l (putT tm o.dst (.tup [])) with
          | some (tm2, qs) => some (tm2, q ++ qs)
          | none => none))
    | none => none) = some (tm2, qs) := hs
    show (match ops[i]? with
      | some o => if wantedA ops tm o then (match sigV E rec a (lenL h) h tm i o with
          | some (x, _) => if refsBelow (lenL h) x.refs && (!callV o || x.flat) then passA (sigV E rec a) ops h l (putT tm o.dst x) else none
          | none => none) else passA (sigV E rec a) ops h l (putT tm o.dst (.tup []))
      | none => none) = _
    cases ho : ops[i]? with
    | none => rw [ho] at hs'; simp at hs'
    | some o =>
      rw [ho] at hs'
      simp only at hs' ⊢
      split at hs'
      · rename_i q hw
        split at hs'
        · rename_i x h' ps hv
          split at hs'
          · split at hs'
            · rename_i tm3 qs3 hr
              simp only [Option.some.injEq, Prod.mk.injEq] at hs'
              obtain ⟨rfl, rfl⟩ := hs'
              obtain ⟨k1, k2⟩ := allP_append.1 hq
              obtain ⟨k2, k3⟩ := allP_append.1 k2
              rw [wantV_sound hw k1, if_pos rfl, sigV_of hv k2]
              simp only [show (refsBelow (lenL h) x.refs && (!callV o || x.flat)) = true from k3.1, if_true]
              exact passAV_sim l hr k3.2
            · simp at hs'
          · split at hs'
            · rename_i hrb
              split at hs'
              · rename_i tm3 qs3 hr
                simp only [Option.some.injEq, Prod.mk.injEq] at hs'
                obtain ⟨rfl, rfl⟩ := hs'
                obtain ⟨k1, k2⟩ := allP_append.1 hq
                obtain ⟨k2, k3⟩ := allP_append.1 k2
                rw [wantV_sound hw k1, if_pos rfl, sigV_of hv k2]
                simp only [hrb, if_true]
                exact passAV_sim l hr k3
              · simp at hs'
            · simp at hs'
        · simp at hs'
      · rename_i q hw
        split at hs'
        · rename_i tm3 qs3 hr
          simp only [Option.some.injEq, Prod.mk.injEq] at hs'
          obtain ⟨rfl, rfl⟩ := hs'
          obtain ⟨k1, k2⟩ := allP_append.1 hq
          rw [wantV_sound hw k1, if_neg (by simp)]
          exact passAV_sim l hr k2
        · simp at hs'

theorem segsV_sim {a : List (Nat × Ans)} {g : List (Nat × Bool)} : ∀ (l : List Seg) {h h2 : Heap} {tm tm2 : Tm} {qs : List Prop}, segsV E rec a g lvl ops l h tm = some (h2, tm2, qs) → AllP qs → segsA (sigV E rec a) lvl ops l h tm = some (h2, tm2)
  | [], h, h2, tm, tm2, qs, hs, _ => by
    simp only [segsV, Option.some.injEq, Prod.mk.injEq] at hs
    obtain ⟨rfl, rfl, rfl⟩ := hs
    rfl
  | p :: l, h, h2, tm, tm2, qs, hs, hq => by
    have hs' : (match passAV E rec a g ops h p.a tm with
    | some (tm1, q1) => match passBV E rec a g (lenL h) ops p.b1 h tm1 with
      | some (h2, tm2, q2) => match passBV E rec a g lvl ops p.b2 h2 tm2 with
        | some (h3, tm3, q3) => (match segsV E rec a g lvl ops l h3 tm3 with
          | some (h4, tm4, q4) => some (h4, tm4, q1 ++ (q2 ++ ((aliveLe h h2 = true) :: (q3 ++ q4))))
          | none => none)
        | none => none
      | none => none
    | none => none) = some (h2, tm2, qs) := hs
    show (match passA (sigV E rec a) ops h p.a tm with
      | some tm1 => match passB (sigV E rec a) (lenL h) ops p.b1 h tm1 with
        | some (h2, tm2) => (match aliveLe h h2, passB (sigV E rec a) lvl ops p.b2 h2 tm2 with
          | true, some (h3, tm3) => segsA (sigV E rec a) lvl ops l h3 tm3
          | _, _ => none)
        | none => none
      | none => none) = _
    split at hs'
    · rename_i tm1 q1 hA
      split at hs'
      · rename_i h3 tm3 q2 hB1
        split at hs'
        · rename_i h4 tm4 q3 hB2
          split at hs'
          · rename_i h5 tm5 q4 hr
            simp only [Option.some.injEq, Prod.mk.injEq] at hs'
            obtain ⟨rfl, rfl, rfl⟩ := hs'
            obtain ⟨k1, k2⟩ := allP_append.1 hq
            obtain ⟨k2, k3⟩ := allP_append.1 k2
            obtain ⟨kal, k3⟩ := k3
            obtain ⟨k3, k4⟩ := allP_append.1 k3
            simp only [passAV_sim _ hA k1, passBV_sim _ hB1 k2, passBV_sim _ hB2 k3, show aliveLe h h3 = true from kal]
            exact segsV_sim l hr k4
          · simp at hs'
        · simp at hs'
      · simp at hs'
    · simp at hs'

theorem drawV_sim {a : List (Nat × Ans)} {g : List (Nat × Bool)} {h h2 : Heap} {tm tm2 : Tm} {qs : List Prop} (hs : drawV E rec a g lvl ops h tm = some (h2, tm2, qs)) (hq : AllP qs) : drawOps E (sigV E rec a) lvl ops h tm = some (h2, tm2) := by
  unfold drawV at hs
  unfold drawOps
  split at hs
  · rename_i l hpl
    simp only [hpl]
    exact segsV_sim l hs hq
  · simp at hs

end

section
variable {E : Env} {rec : RunT} {lvl K : Nat}

theorem M.leK.of_le {base : Nat} {m m' : M} (hK : K ≤ m.n) (h : M.leG base m m') : M.leK base K m m' := ⟨Nat.le_trans hK h.n, fun b hb => h.ρ b (by omega), fun b hb => h.κ b (by omega), h.lo, h.F, h.fresh⟩
theorem M.leK.trans {base : Nat} {a b c : M} (h : M.leK base K a b) (k : M.leK base K b c) : M.leK base K a c := ⟨k.n, fun i hi => (k.ρ i hi).trans (h.ρ i hi), fun i hi => (k.κ i hi).trans (h.κ i hi), k.lo.trans h.lo, fun p hp => k.F p (h.F p hp), fun p hp => (k.fresh p hp).elim (h.fresh p) .inr⟩

theorem outK_fell {h : Heap} {tm : Tm} {Φ : Res → Prop} (hp : Φ ⟨.fell, tm, h, []⟩) : OutK E lvl K ⟨h, [], tm⟩ Φ := fun fr t cs w m base _ hT H _ hK => ⟨_, hp, t, [], w, m, .refl _ _, hT, H, .of_le hK (M.leG.refl _ m), Below.refl _ _, rfl, by simp⟩
theorem outK_ret {h : Heap} {tm : Tm} {k : List Item} {Φ : Res → Prop} (hp : Φ ⟨.ret, tm, h, []⟩) : OutK E lvl K ⟨h, .code .ret :: k, tm⟩ Φ := fun fr t cs w m base _ hT H _ hK => ⟨_, hp, t, _, w, m, .refl _ _, hT, H, .of_le hK (M.leG.refl _ m), Below.refl _ _, ⟨_, rfl⟩, by simp⟩

/-- what has been walked lies before what is left -/
theorem OutK.before {s s' : St} {r : Res → Prop}
    (h : ∀ (fr : Frame) (t : Array Value) (cs : List Frame) (w : World) (m : M) (base : Nat), RoundOk m none fr → TR m s.tm t → HR m base lvl s.heap w → GR E.gl base w →
      ∃ t1 w1 m1, Steps E.P (lone (FR fr t s.todo) cs w) (lone (FR fr t1 s'.todo) cs w1) ∧ TR m1 s'.tm t1 ∧ HR m1 base lvl s'.heap w1 ∧ M.leG base m m1 ∧ Below base w w1)
    (ho : OutK E lvl K s' r) : OutK E lvl K s r := by
  intro fr t cs w m base hR hT H G hK
  obtain ⟨t1, w1, m1, hst, hT1, H1, hle, hB⟩ := h fr t cs w m base hR hT H G
  obtain ⟨q, hq, t', todo', w', m', g1, g2, g3, g4, g5, g6⟩ := ho fr t1 cs w1 m1 base (hR.mono hle) hT1 H1 (G.below hB) (Nat.le_trans hK hle.n)
  exact ⟨q, hq, t', todo', w', m', Steps.trans hst g1, g2, g3, (M.leK.of_le hK hle).trans g4, hB.trans g5, g6⟩

/-- what one item does -/
def Walk (E : Env) (lvl : Nat) (s s' : St) : Prop :=
  ∀ (fr : Frame) (t : Array Value) (cs : List Frame) (w : World) (m : M) (base : Nat), RoundOk m none fr → TR m s.tm t → HR m base lvl s.heap w → GR E.gl base w →
      ∃ t1 w1 m1, Steps E.P (lone (FR fr t s.todo) cs w) (lone (FR fr t1 s'.todo) cs w1) ∧ TR m1 s'.tm t1 ∧ HR m1 base lvl s'.heap w1 ∧ M.leG base m m1 ∧ Below base w w1

theorem Walk.refl (s : St) : Walk E lvl s s := fun _fr t _cs w m _base _ hT H _ => ⟨t, w, m, .refl _ _, hT, H, M.leG.refl _ m, Below.refl _ _⟩
theorem Walk.trans {a b c : St} (h : Walk E lvl a b) (k : Walk E lvl b c) : Walk E lvl a c := by
  intro fr t cs w m base hR hT H G
  obtain ⟨t1, w1, m1, hst, hT1, H1, hle, hB⟩ := h fr t cs w m base hR hT H G
  obtain ⟨t2, w2, m2, g1, g2, g3, g4, g5⟩ := k fr t1 cs w1 m1 base (hR.mono hle) hT1 H1 (G.below hB)
  exact ⟨t2, w2, m2, Steps.trans hst g1, g2, g3, hle.trans g4, hB.trans g5⟩

theorem walk_one {h : Heap} {tm : Tm} {todo todo' : List Item} (hst : ∀ (fr : Frame) (t : Array Value) (cs : List Frame) (w : World) (m : M), TR m tm t → step E.P (lone (FR fr t todo) cs w) = .next (lone (FR fr t todo') cs w)) : Walk E lvl ⟨h, todo, tm⟩ ⟨h, todo', tm⟩ :=
  fun fr t cs w m _base _ hT H _ => ⟨t, w, m, .one (hst fr t cs w m hT), hT, H, M.leG.refl _ m, Below.refl _ _⟩

theorem walk_ops {S : StepT} (hS : StepOk E S) {h h1 : Heap} {tm tm1 : Tm} {ops : Array Oper} {id : Nat} {k : List Item} (hso : stepOps S lvl ops ops.toList 0 h tm = some (h1, tm1)) : Walk E lvl ⟨h, .code (.region id ops false) :: k, tm⟩ ⟨h1, k, tm1⟩ := by
  intro fr t cs w m base hR hT H G
  obtain ⟨t1, w1, m1, hst, hT1, H1, hle1, hB1⟩ := stepOps_sound hS ops ops.toList 0 (by simp) hT H G hso fr cs k
  refine ⟨t1, w1, m1, .head stepF_region ?_, hT1, H1, hle1, hB1⟩
  have e : List.range ops.size = List.range' 0 ops.toList.length := by rw [List.range_eq_range', Array.length_toList]
  rw [e]
  exact hst

theorem walk_draw {S : StepT} (hS : StepOk E S) (hmx : E.P.follows .mixedOrders = true) {h h1 : Heap} {tm tm1 : Tm} {ops : Array Oper} {id : Nat} {k : List Item} (hso : drawOps E S lvl ops h tm = some (h1, tm1)) : Walk E lvl ⟨h, .code (.region id ops true) :: k, tm⟩ ⟨h1, k, tm1⟩ := by
  intro fr t cs w m base hR hT H G
  have hB0 : Below base w { w with drawn := w.drawn + 1 } := ⟨rfl, rfl, rfl, Nat.le_refl _, fun _ _ => rfl⟩
  have H0 : HR m base lvl h { w with drawn := w.drawn + 1 } := H.world (Nat.le_refl _) fun _ _ => rfl
  obtain ⟨t1, w1, m1, hst, hT1, H1, hle1, hB1⟩ := drawOps_sound hS hmx hT H0 (G.below hB0) hso (w.tape w.drawn (.order fr.fn id)) fr cs k
  exact ⟨t1, w1, m1, .head stepF_regionDraw hst, hT1, H1, hle1, hB0.trans hB1⟩

theorem stepS_walk (hE : EnvOk E) (hrec : RecOk E rec) {s s' : St} (hs : stepS E rec lvl s = some s') : Walk E lvl s s' := by
  obtain ⟨h, todo, tm⟩ := s
  have go : ∀ {todo' : List Item}, (∀ (fr : Frame) (t : Array Value) (cs : List Frame) (w : World) (m : M), TR m tm t → step E.P (lone (FR fr t todo) cs w) = .next (lone (FR fr t todo') cs w)) → some (⟨h, todo', tm⟩ : St) = some s' → Walk E lvl ⟨h, todo, tm⟩ s' := by
    intro todo' hst hr
    simp only [Option.some.injEq] at hr
    subst hr
    exact walk_one hst
  unfold stepS at hs
  simp only at hs
  split at hs
  · exact go (fun _ _ _ _ _ _ => stepF_skip) hs
  · exact go (fun _ _ _ _ _ _ => stepF_label) hs
  · exact go (fun _ _ _ _ _ _ => stepF_inBlock) hs
  · exact go (fun _ _ _ _ _ _ => stepF_inScope) hs
  · exact go (fun _ _ _ _ _ _ => stepF_seq) hs
  · rename_i c a b k
    split at hs
    · rename_i tt hc
      refine go (fun fr t cs w m hT => ?_) hs
      have hv := evA_sound hT c
      rw [hc] at hv
      exact stepF_cond (show evC t c = .bool tt from hv)
    · simp at hs
  · exact go (fun _ _ _ _ _ _ => stepF_block) hs
  · exact go (fun _ _ _ _ _ _ => stepF_loop) hs
  · exact go (fun _ _ _ _ _ _ => stepF_inLoop) hs
  · exact go (fun _ _ _ _ _ _ => stepF_scope) hs
  · rename_i id k
    split at hs
    · rename_i k' hk
      exact go (fun _ _ _ _ _ _ => stepF_exit hk) hs
    · simp at hs
  · rename_i id ops draw k
    cases draw with
    | false =>
      simp only [Bool.false_eq_true, if_false] at hs
      split at hs
      · rename_i h1 tm1 hso
        simp only [Option.some.injEq] at hs
        subst hs
        exact walk_ops (stdS_ok hE hrec) hso
      · simp at hs
    | true =>
      simp only [if_true] at hs
      split at hs
      · rename_i h1 tm1 hso
        simp only [Option.some.injEq] at hs
        subst hs
        exact walk_draw (stdS_ok hE hrec) hE.mixed hso
      · simp at hs
  · simp at hs

theorem stepsS_walk (hE : EnvOk E) (hrec : RecOk E rec) : ∀ (n : Nat) {s s' : St}, stepsS E rec lvl n s = some s' → Walk E lvl s s'
  | 0, s, s', h => by
    have h' : some s = some s' := h
    simp only [Option.some.injEq] at h'
    subst h'; exact .refl s
  | n + 1, s, s', h => by
    have h' : (match stepS E rec lvl s with | some s1 => stepsS E rec lvl n s1 | none => none) = some s' := h
    split at h'
    · rename_i s1 hs1
      exact (stepS_walk hE hrec hs1).trans (stepsS_walk hE hrec n h')
    · simp at h'

theorem stepV_walk (hE : EnvOk E) (hrec : RecOk E rec) {a : SAns} {s s' : St} {ps : List Prop} (hs : stepV E rec lvl a s = some (s', ps)) (hp : AllP ps) : Walk E lvl s s' := by
  obtain ⟨h, todo, tm⟩ := s
  unfold stepV at hs
  simp only at hs
  split at hs
  · split at hs
    · rename_i n s1 hs1
      simp only [Option.some.injEq, Prod.mk.injEq] at hs
      obtain ⟨rfl, rfl⟩ := hs
      exact stepsS_walk hE hrec _ hs1
    · simp at hs
  · split at hs
    · rename_i b _ c x y k
      split at hs
      · rename_i t hc
        simp only [Option.some.injEq, Prod.mk.injEq] at hs
        obtain ⟨rfl, rfl⟩ := hs
        obtain ⟨rfl, _⟩ : t = b ∧ True := hp
        refine walk_one fun fr tt cs w m hT => ?_
        have hv := evA_sound hT c
        rw [hc] at hv
        have := stepF_cond (P := E.P) (fr := fr) (cs := cs) (w := w) (k := k) (a := x) (b := y) (show evC tt c = .bool t from hv)
        rw [this]
        cases t <;> rfl
      · simp at hs
    · simp at hs
  · split at hs
    · rename_i l g _ id ops draw k
      split at hs
      · rename_i h1 tm1 ps1 hr
        simp only [Option.some.injEq, Prod.mk.injEq] at hs
        obtain ⟨rfl, rfl⟩ := hs
        cases draw with
        | true => exact walk_draw (sigV_ok hE hrec l) hE.mixed (drawV_sim hr hp)
        | false => exact walk_ops (sigV_ok hE hrec l) (opsV_sim _ _ hr hp)
      · simp at hs
    · simp at hs

theorem chainV_walk (hE : EnvOk E) (hrec : RecOk E rec) : ∀ (l : List SAns) {s s' : St} {ps : List Prop}, chainV E rec lvl l s = some (s', ps) → AllP ps → Walk E lvl s s'
  | [], s, s', ps, h, _ => by
    simp only [chainV, Option.some.injEq, Prod.mk.injEq] at h
    obtain ⟨rfl, rfl⟩ := h
    exact .refl s
  | a :: l, s, s', ps, h, hp => by
    have h' : (match stepV E rec lvl a s with
      | some (s1, ps) => (match chainV E rec lvl l s1 with
        | some (s2, qs) => some (s2, ps ++ qs)
        | none => none)
      | none => none) = some (s', ps) := h
    split at h'
    · rename_i s1 p1 hs1
      split at h'
      · rename_i s2 q2 hs2
        simp only [Option.some.injEq, Prod.mk.injEq] at h'
        obtain ⟨rfl, rfl⟩ := h'
        obtain ⟨k1, k2⟩ := allP_append.1 hp
        exact (stepV_walk hE hrec hs1 k1).trans (chainV_walk hE hrec l hs2 k2)
      · simp at h'
    · simp at h'

/-- A piece of a frame by an open run. -/
theorem outK_chain (hE : EnvOk E) (hrec : RecOk E rec) (l : List SAns) {s s' : St} {ps : List Prop} {r : Res → Prop} (h : chainV E rec lvl l s = some (s', ps)) (hp : AllP ps) (ho : OutK E lvl K s' r) : OutK E lvl K s r :=
  .before (chainV_walk hE hrec l h hp) ho

end
end
end Go.Ev
