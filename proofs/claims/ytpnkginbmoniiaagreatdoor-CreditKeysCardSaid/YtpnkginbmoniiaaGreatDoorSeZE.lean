/-
  Part of the proof: SyD, SyE, SyF, EvQ, SyG, SyP, SeEnv, SeH, SeLem, SyK, SyL, SyO, SyArg, SyList, SyRd, SeEqI, SeGen, SeAcc.
-/
import Derived.Test.YtpnkginbmoniiaaGreatDoorSeZD
import Derived.ChangeArms
import Derived.KernelRfl
import Derived.OpenShut
import Derived.Stop.BytesEq
import Derived.Test.YtpnkginbmoniiaaGreatDoorProg
import Derived.WideShapes

/-! SyD -/
section
namespace Go.Ev
open Go.RowKit
noncomputable section
section
variable {E : Env} {rec : RunT} {lvl : Nat} {ops : Array Oper}
theorem wantV_sound {tm : Tm} {o : Oper} {g : Option Bool} {b : Bool} {q : List Prop} (h : wantV ops tm o g = (b, q)) (hq : AllP q) : wantedA ops tm o = b := by
 unfold wantV at h
 split at h
 ·simp only [Prod.mk.injEq] at h; exact h.1
 ·unfold wantedA
  split at h
  ·rename_i hg
   simp only [Prod.mk.injEq] at h
   simp only [hg]; exact h.1
  ·rename_i j want hg
   simp only [hg]
   split at h
   ·rename_i d hd
    simp only [hd]
    split at h
    ·rename_i c hc
     simp only [Prod.mk.injEq] at h
     obtain ⟨rfl, rfl⟩ := h
     simp only [hc]
     exact hq.1
    ·rename_i hne
     simp only [Prod.mk.injEq] at h
     obtain ⟨rfl, rfl⟩ := h
     split
     ·rename_i c hc; exact absurd hc (hne c)
     ·rfl
   ·rename_i hd
    simp only [Prod.mk.injEq] at h
    obtain ⟨rfl, rfl⟩ := h
    simp only [hd]
open Classical in
def sigV (E : Env) (rec : RunT) (a : List (Nat × Ans)) : StepT := fun lvl h tm i o => match valV E rec lvl h tm o (ansOf a i) with
 | some (x, h', ps) => if AllP ps then some (x, h') else none
 | none => none
theorem sigV_of {a : List (Nat × Ans)} {h h' : Heap} {tm : Tm} {i : Nat} {o : Oper} {x : AV} {ps : List Prop} (hv : valV E rec lvl h tm o (ansOf a i) = some (x, h', ps)) (hp : AllP ps) : sigV E rec a lvl h tm i o = some (x, h') := by
 simp only [sigV, hv, if_pos hp]
theorem sigV_some {a : List (Nat × Ans)} {h h' : Heap} {tm : Tm} {i : Nat} {o : Oper} {x : AV} (hs : sigV E rec a lvl h tm i o = some (x, h')) : ∃ ps, valV E rec lvl h tm o (ansOf a i) = some (x, h', ps) ∧ AllP ps := by
 unfold sigV at hs
 split at hs
 ·rename_i x1 h1 ps hv
  split at hs
  ·rename_i hp
   simp only [Option.some.injEq, Prod.mk.injEq] at hs
   obtain ⟨rfl, rfl⟩ := hs
   exact ⟨ps, hv, hp⟩
  ·simp at hs
 ·simp at hs
theorem blind_op {i : Nat} {o : Oper} (ho : ops[i]? = some o) (hb : blindAt ops i = true) : (∃ x, o.op = .move x) ∨ (∃ x, o.op = .assign x) ∨ (∃ b t x y yt, o.op = .binOp b t x y yt) ∨ (∃ t x y, o.op = .index t x y) ∨ (∃ x n, o.op = .extract x n) := by
 unfold blindAt at hb
 rw [ho] at hb
 simp only at hb
 split at hb
 ·rename_i hop; exact .inl ⟨_, hop⟩
 ·rename_i hop; exact .inr (.inl ⟨_, hop⟩)
 ·rename_i hop; exact .inr (.inr (.inl ⟨_, _, _, _, _, hop⟩))
 ·rename_i hop; exact .inr (.inr (.inr (.inl ⟨_, _, _, hop⟩)))
 ·rename_i hop; exact .inr (.inr (.inr (.inr ⟨_, _, hop⟩)))
 ·simp at hb
theorem blindV {i : Nat} {o : Oper} (ho : ops[i]? = some o) (hb : blindAt ops i = true) {lvl lvl' : Nat} {h h1 h' : Heap} {tm : Tm} {x : AV} {a : Ans} {ps : List Prop} (hs : valV E rec lvl h tm o a = some (x, h', ps)) :
  valV E rec lvl' h1 tm o a = some (x, h1, ps) := by
 cases a with
 | go =>
  simp only [valV] at hs ⊢
  split at hs
  ·rename_i x1 h2 hst
   simp only [Option.some.injEq, Prod.mk.injEq] at hs
   obtain ⟨rfl, rfl, rfl⟩ := hs
   rw [blind_spec ho hb hst]
  ·simp at hs
 | fw =>
  rcases blind_op ho hb with ⟨p, hop⟩ | ⟨p, hop⟩ | ⟨p, q, r, s, u, hop⟩ | ⟨p, q, r, hop⟩ | ⟨p, q, hop⟩
  ·simp [valV, hop, opA] at hs
  ·simp [valV, hop, opA] at hs
  ·simp [valV, hop, opA] at hs
  ·simp [valV, hop, opA] at hs
  ·simp only [valV, hop, opA] at hs ⊢
   cases he : evA tm p with
   | e _ => simp [he] at hs
   | tup l =>
    cases hg : getL l q with
    | none => simp [he, hg] at hs
    | some a =>
     simp [he, hg] at hs ⊢
     exact ⟨hs.1, hs.2.2⟩
 | fwq =>
  rcases blind_op ho hb with ⟨p, hop⟩ | ⟨p, hop⟩ | ⟨p, q, r, s, u, hop⟩ | ⟨p, q, r, hop⟩ | ⟨p, q, hop⟩
  ·simp [valV, hop, opA] at hs
  ·simp [valV, hop, opA] at hs
  ·simp [valV, hop, opA] at hs
  ·simp [valV, hop, opA] at hs
  ·simp only [valV, hop, opA] at hs ⊢
   cases he : evA tm p with
   | e _ => simp [he] at hs
   | tup l =>
    cases hg : getL l q with
    | none => simp [he, hg] at hs
    | some a =>
     simp [he, hg] at hs ⊢
     exact ⟨hs.1, hs.2.2⟩
 | oq =>
  simp only [valV] at hs ⊢
  split at hs
  ·rename_i x1 h2 hst
   simp only [Option.some.injEq, Prod.mk.injEq] at hs
   obtain ⟨rfl, rfl, rfl⟩ := hs
   rw [blind_spec ho hb hst]
  ·simp at hs
 | rn y =>
  simp only [valV] at hs ⊢
  split at hs
  ·rename_i x1 h2 hst
   simp only [Option.some.injEq, Prod.mk.injEq] at hs
   obtain ⟨rfl, rfl, rfl⟩ := hs
   rw [blind_spec ho hb hst]
  ·simp at hs
 | quo r =>
  simp only [valV] at hs ⊢
  split at hs
  ·split at hs
   ·split at hs
    ·simp only [Option.some.injEq, Prod.mk.injEq] at hs ⊢
     exact ⟨hs.1, trivial, hs.2.2⟩
    ·simp only [Option.some.injEq, Prod.mk.injEq] at hs ⊢
     exact ⟨hs.1, trivial, hs.2.2⟩
    ·simp at hs
   ·simp at hs
  ·simp at hs
 | el c =>
  simp only [valV] at hs ⊢
  split at hs
  ·split at hs
   ·split at hs
    ·split at hs
     ·simp only [Option.some.injEq, Prod.mk.injEq] at hs ⊢
      exact ⟨hs.1, trivial, hs.2.2⟩
     ·simp at hs
    ·simp at hs
   ·simp at hs
  ·simp at hs
 | cmp b xs ys =>
  simp only [valV] at hs ⊢
  split at hs
  ·split at hs
   ·split at hs
    ·split at hs
     ·simp only [Option.some.injEq, Prod.mk.injEq] at hs ⊢
      exact ⟨hs.1, trivial, hs.2.2⟩
     ·simp only [Option.some.injEq, Prod.mk.injEq] at hs ⊢
      exact ⟨hs.1, trivial, hs.2.2⟩
     ·simp at hs
    ·simp at hs
   ·simp at hs
  ·simp at hs
 | eqs b =>
  simp only [valV] at hs ⊢
  split at hs
  ·split at hs
   ·simp only [Option.some.injEq, Prod.mk.injEq] at hs ⊢
    exact ⟨hs.1, trivial, hs.2.2⟩
   ·simp only [Option.some.injEq, Prod.mk.injEq] at hs ⊢
    exact ⟨hs.1, trivial, hs.2.2⟩
   ·simp at hs
  ·simp at hs
 | fb c =>
  simp only [valV] at hs ⊢
  split at hs
  ·split at hs
   ·simp only [Option.some.injEq, Prod.mk.injEq] at hs ⊢
    exact ⟨hs.1, trivial, hs.2.2⟩
   ·simp at hs
  ·simp at hs
 | si b =>
  simp only [valV] at hs ⊢
  split at hs
  ·split at hs
   ·simp only [Option.some.injEq, Prod.mk.injEq] at hs ⊢
    exact ⟨hs.1, trivial, hs.2.2⟩
   ·simp at hs
  ·simp at hs
 | d a =>
  rcases blind_op ho hb with ⟨p, hop⟩ | ⟨p, hop⟩ | ⟨p, q, r, s, u, hop⟩ | ⟨p, q, r, hop⟩ | ⟨p, q, hop⟩ <;> cases a <;> simp [valV, dV, hop] at hs
  simp only [valV, dV, hop]
  split at hs
  ·simp only [Option.some.injEq, Prod.mk.injEq] at hs ⊢
   exact ⟨hs.1, trivial, hs.2.2⟩
  ·simp at hs
 | _ =>
  rcases blind_op ho hb with ⟨p, hop⟩ | ⟨p, hop⟩ | ⟨p, q, r, s, u, hop⟩ | ⟨p, q, r, hop⟩ | ⟨p, q, hop⟩ <;> simp [valV, hop] at hs
theorem sigV_ok (hE : EnvOk E) (hrec : RecOk E rec) (a : List (Nat × Ans)) : StepOk E (sigV E rec a) :=
 ⟨fun hT H G _ _ hs => by
  obtain ⟨ps, hv, hp⟩ := sigV_some hs
  exact valV_sound hE hrec hT H G hv hp,
 fun ho hb _ _ _ _ _ _ _ hs => by
  obtain ⟨ps, hv, hp⟩ := sigV_some hs
  exact sigV_of (blindV ho hb hv) hp⟩
theorem opsV_sim {a : List (Nat × Ans)} {g : List (Nat × Bool)} : ∀ (l : List Oper) (i : Nat) {h h2 : Heap} {tm tm2 : Tm} {qs : List Prop}, opsV E rec a g lvl ops l i h tm = some (h2, tm2, qs) → AllP qs → stepOps (sigV E rec a) lvl ops l i h tm = some (h2, tm2)
 | [], i, h, h2, tm, tm2, qs, hs, hq => by
  simp only [opsV, Option.some.injEq, Prod.mk.injEq] at hs
  obtain ⟨rfl, rfl, rfl⟩ := hs
  rfl
 | o :: l, i, h, h2, tm, tm2, qs, hs, hq => by
  have hs' : (match wantV ops tm o (boolAt g i) with
   | (true, q) => (match valV E rec lvl h tm o (ansOf a i) with
    | some (x, h', ps) => (match opsV E rec a g lvl ops l (i + 1) h' (putT tm o.dst x) with
     | some (h2, tm2, qs) => some (h2, tm2, q ++ (ps ++ qs))
     | none => none)
    | none => none)
   | (false, q) => (match opsV E rec a g lvl ops l (i + 1) h (putT tm o.dst (.tup [])) with
     | some (h2, tm2, qs) => some (h2, tm2, q ++ qs)
     | none => none)) = some (h2, tm2, qs) := hs
  show (if wantedA ops tm o then match sigV E rec a lvl h tm i o with
   | some (x, h') => stepOps (sigV E rec a) lvl ops l (i + 1) h' (putT tm o.dst x)
   | none => none
  else stepOps (sigV E rec a) lvl ops l (i + 1) h (putT tm o.dst (.tup []))) = _
  split at hs'
  ·rename_i q hw
   split at hs'
   ·rename_i x h' ps hv
    split at hs'
    ·rename_i h3 tm3 qs3 hr
     simp only [Option.some.injEq, Prod.mk.injEq] at hs'
     obtain ⟨rfl, rfl, rfl⟩ := hs'
     obtain ⟨k1, k2⟩ := allP_append.1 hq
     obtain ⟨k2, k3⟩ := allP_append.1 k2
     rw [wantV_sound hw k1, if_pos rfl, sigV_of hv k2]
     exact opsV_sim l (i + 1) hr k3
    ·simp at hs'
   ·simp at hs'
  ·rename_i q hw
   split at hs'
   ·rename_i h3 tm3 qs3 hr
    simp only [Option.some.injEq, Prod.mk.injEq] at hs'
    obtain ⟨rfl, rfl, rfl⟩ := hs'
    obtain ⟨k1, k2⟩ := allP_append.1 hq
    rw [wantV_sound hw k1, if_neg (by simp)]
    exact opsV_sim l (i + 1) hr k2
   ·simp at hs'
theorem passBV_sim {a : List (Nat × Ans)} {g : List (Nat × Bool)} {lvl : Nat} : ∀ (l : List Nat) {h h2 : Heap} {tm tm2 : Tm} {qs : List Prop}, passBV E rec a g lvl ops l h tm = some (h2, tm2, qs) → AllP qs → passB (sigV E rec a) lvl ops l h tm = some (h2, tm2)
 | [], h, h2, tm, tm2, qs, hs, hq => by
  simp only [passBV, Option.some.injEq, Prod.mk.injEq] at hs
  obtain ⟨rfl, rfl, rfl⟩ := hs
  rfl
 | i :: l, h, h2, tm, tm2, qs, hs, hq => by
  have hs' : (match ops[i]? with
  | some o => (match wantV ops tm o (boolAt g i) with
   | (true, q) => (match valV E rec lvl h tm o (ansOf a i) with
    | some (x, h', ps) => (match passBV E rec a g lvl ops l h' (putT tm o.dst x) with
     | some (h2, tm2, qs) => some (h2, tm2, q ++ (ps ++ qs))
     | none => none)
    | none => none)
   | (false, q) => (match passBV E rec a g lvl ops l h (putT tm o.dst (.tup [])) with
     | some (h2, tm2, qs) => some (h2, tm2, q ++ qs)
     | none => none))
  | none => none) = some (h2, tm2, qs) := hs
  show (match ops[i]? with
   | some o => if wantedA ops tm o then (match sigV E rec a lvl h tm i o with
     | some (x, h1) => passB (sigV E rec a) lvl ops l h1 (putT tm o.dst x)
     | none => none) else passB (sigV E rec a) lvl ops l h (putT tm o.dst (.tup []))
   | none => none) = _
  cases ho : ops[i]? with
  | none => rw [ho] at hs'; simp at hs'
  | some o =>
   rw [ho] at hs'
   simp only at hs' ⊢
   split at hs'
   ·rename_i q hw
    split at hs'
    ·rename_i x h' ps hv
     split at hs'
     ·rename_i h3 tm3 qs3 hr
      simp only [Option.some.injEq, Prod.mk.injEq] at hs'
      obtain ⟨rfl, rfl, rfl⟩ := hs'
      obtain ⟨k1, k2⟩ := allP_append.1 hq
      obtain ⟨k2, k3⟩ := allP_append.1 k2
      rw [wantV_sound hw k1, if_pos rfl, sigV_of hv k2]
      exact passBV_sim l hr k3
     ·simp at hs'
    ·simp at hs'
   ·rename_i q hw
    split at hs'
    ·rename_i h3 tm3 qs3 hr
     simp only [Option.some.injEq, Prod.mk.injEq] at hs'
     obtain ⟨rfl, rfl, rfl⟩ := hs'
     obtain ⟨k1, k2⟩ := allP_append.1 hq
     rw [wantV_sound hw k1, if_neg (by simp)]
     exact passBV_sim l hr k2
    ·simp at hs'
theorem passAV_sim {a : List (Nat × Ans)} {g : List (Nat × Bool)} {h : Heap} : ∀ (l : List Nat) {tm tm2 : Tm} {qs : List Prop}, passAV E rec a g ops h l tm = some (tm2, qs) → AllP qs → passA (sigV E rec a) ops h l tm = some tm2
 | [], tm, tm2, qs, hs, hq => by
  simp only [passAV, Option.some.injEq, Prod.mk.injEq] at hs
  obtain ⟨rfl, rfl⟩ := hs
  rfl
 | i :: l, tm, tm2, qs, hs, hq => by
  have hs' : (match ops[i]? with
  | some o => (match wantV ops tm o (boolAt g i) with
   | (true, q) => (match valV E rec (lenL h) h tm o (ansOf a i) with
    | some (x, _, ps) => (match isOq (ansOf a i) with
     | true => (match passAV E rec a g ops h l (putT tm o.dst x) with
      | some (tm2, qs) => some (tm2, q ++ (ps ++ (((refsBelow (lenL h) x.refs && (!callV o || x.flat)) = true) :: qs)))
      | none => none)
     | false => if refsBelow (lenL h) x.refs && (!callV o || x.flat) then (match passAV E rec a g ops h l (putT tm o.dst x) with
      | some (tm2, qs) => some (tm2, q ++ (ps ++ qs))
      | none => none) else none)
    | none => none)
   | (false, q) => (match passAV E rec a g ops h l (putT tm o.dst (.tup [])) with
     | some (tm2, qs) => some (tm2, q ++ qs)
     | none => none))
  | none => none) = some (tm2, qs) := hs
  show (match ops[i]? with
   | some o => if wantedA ops tm o then (match sigV E rec a (lenL h) h tm i o with
     | some (x, _) => if refsBelow (lenL h) x.refs && (!callV o || x.flat) then passA (sigV E rec a) ops h l (putT tm o.dst x) else none
     | none => none) else passA (sigV E rec a) ops h l (putT tm o.dst (.tup []))
   | none => none) = _
  cases ho : ops[i]? with
  | none => rw [ho] at hs'; simp at hs'
  | some o =>
   rw [ho] at hs'
   simp only at hs' ⊢
   split at hs'
   ·rename_i q hw
    split at hs'
    ·rename_i x h' ps hv
     split at hs'
     ·split at hs'
      ·rename_i tm3 qs3 hr
       simp only [Option.some.injEq, Prod.mk.injEq] at hs'
       obtain ⟨rfl, rfl⟩ := hs'
       obtain ⟨k1, k2⟩ := allP_append.1 hq
       obtain ⟨k2, k3⟩ := allP_append.1 k2
       rw [wantV_sound hw k1, if_pos rfl, sigV_of hv k2]
       simp only [show (refsBelow (lenL h) x.refs && (!callV o || x.flat)) = true from k3.1, if_true]
       exact passAV_sim l hr k3.2
      ·simp at hs'
     ·split at hs'
      ·rename_i hrb
       split at hs'
       ·rename_i tm3 qs3 hr
        simp only [Option.some.injEq, Prod.mk.injEq] at hs'
        obtain ⟨rfl, rfl⟩ := hs'
        obtain ⟨k1, k2⟩ := allP_append.1 hq
        obtain ⟨k2, k3⟩ := allP_append.1 k2
        rw [wantV_sound hw k1, if_pos rfl, sigV_of hv k2]
        simp only [hrb, if_true]
        exact passAV_sim l hr k3
       ·simp at hs'
      ·simp at hs'
    ·simp at hs'
   ·rename_i q hw
    split at hs'
    ·rename_i tm3 qs3 hr
     simp only [Option.some.injEq, Prod.mk.injEq] at hs'
     obtain ⟨rfl, rfl⟩ := hs'
     obtain ⟨k1, k2⟩ := allP_append.1 hq
     rw [wantV_sound hw k1, if_neg (by simp)]
     exact passAV_sim l hr k2
    ·simp at hs'
theorem segsV_sim {a : List (Nat × Ans)} {g : List (Nat × Bool)} : ∀ (l : List Seg) {h h2 : Heap} {tm tm2 : Tm} {qs : List Prop}, segsV E rec a g lvl ops l h tm = some (h2, tm2, qs) → AllP qs → segsA (sigV E rec a) lvl ops l h tm = some (h2, tm2)
 | [], h, h2, tm, tm2, qs, hs, _ => by
  simp only [segsV, Option.some.injEq, Prod.mk.injEq] at hs
  obtain ⟨rfl, rfl, rfl⟩ := hs
  rfl
 | p :: l, h, h2, tm, tm2, qs, hs, hq => by
  have hs' : (match passAV E rec a g ops h p.a tm with
  | some (tm1, q1) => match passBV E rec a g (lenL h) ops p.b1 h tm1 with
   | some (h2, tm2, q2) => match passBV E rec a g lvl ops p.b2 h2 tm2 with
    | some (h3, tm3, q3) => (match segsV E rec a g lvl ops l h3 tm3 with
     | some (h4, tm4, q4) => some (h4, tm4, q1 ++ (q2 ++ ((aliveLe h h2 = true) :: (q3 ++ q4))))
     | none => none)
    | none => none
   | none => none
  | none => none) = some (h2, tm2, qs) := hs
  show (match passA (sigV E rec a) ops h p.a tm with
   | some tm1 => match passB (sigV E rec a) (lenL h) ops p.b1 h tm1 with
    | some (h2, tm2) => (match aliveLe h h2, passB (sigV E rec a) lvl ops p.b2 h2 tm2 with
     | true, some (h3, tm3) => segsA (sigV E rec a) lvl ops l h3 tm3
     | _, _ => none)
    | none => none
   | none => none) = _
  split at hs'
  ·rename_i tm1 q1 hA
   split at hs'
   ·rename_i h3 tm3 q2 hB1
    split at hs'
    ·rename_i h4 tm4 q3 hB2
     split at hs'
     ·rename_i h5 tm5 q4 hr
      simp only [Option.some.injEq, Prod.mk.injEq] at hs'
      obtain ⟨rfl, rfl, rfl⟩ := hs'
      obtain ⟨k1, k2⟩ := allP_append.1 hq
      obtain ⟨k2, k3⟩ := allP_append.1 k2
      obtain ⟨kal, k3⟩ := k3
      obtain ⟨k3, k4⟩ := allP_append.1 k3
      simp only [passAV_sim _ hA k1, passBV_sim _ hB1 k2, passBV_sim _ hB2 k3, show aliveLe h h3 = true from kal]
      exact segsV_sim l hr k4
     ·simp at hs'
    ·simp at hs'
   ·simp at hs'
  ·simp at hs'
theorem drawV_sim {a : List (Nat × Ans)} {g : List (Nat × Bool)} {h h2 : Heap} {tm tm2 : Tm} {qs : List Prop} (hs : drawV E rec a g lvl ops h tm = some (h2, tm2, qs)) (hq : AllP qs) : drawOps E (sigV E rec a) lvl ops h tm = some (h2, tm2) := by
 unfold drawV at hs
 unfold drawOps
 split at hs
 ·rename_i l hpl
  simp only [hpl]
  exact segsV_sim l hs hq
 ·simp at hs
end
section
variable {E : Env} {rec : RunT} {lvl K : Nat}
theorem M.leK.of_le {base : Nat} {m m' : M} (hK : K ≤ m.n) (h : M.leG base m m') : M.leK base K m m' := ⟨Nat.le_trans hK h.n, fun b hb => h.ρ b (by omega), fun b hb => h.κ b (by omega), h.lo, h.F, h.fresh⟩
theorem M.leK.trans {base : Nat} {a b c : M} (h : M.leK base K a b) (k : M.leK base K b c) : M.leK base K a c := ⟨k.n, fun i hi => (k.ρ i hi).trans (h.ρ i hi), fun i hi => (k.κ i hi).trans (h.κ i hi), k.lo.trans h.lo, fun p hp => k.F p (h.F p hp), fun p hp => (k.fresh p hp).elim (h.fresh p) .inr⟩
theorem RdOk.leK {base : Nat} {m m' : M} {rd : Option Nat} {fr : Frame} (h : RdOk m K rd fr) (hle : M.leK base K m m') : RdOk m' K rd fr := by
 cases rd with
 | none => exact h
 | some b => obtain ⟨h1, h2, h3⟩ := h; exact ⟨h1, by rw [hle.ρ b h1]; exact h2, h3⟩
theorem RdOk.leG {base : Nat} {m m' : M} {rd : Option Nat} {fr : Frame} (h : RdOk m K rd fr) (hK : K ≤ m.n) (hle : M.leG base m m') : RdOk m' K rd fr := h.leK (M.leK.of_le hK hle)
variable {rd : Option Nat}
theorem outK_ret {h : Heap} {tm : Tm} {k : List Item} {Φ : Res → Prop} (hp : Φ ⟨.ret, tm, h, []⟩) : OutK E lvl K ⟨h, .code .ret :: k, tm⟩ Φ rd := fun fr t cs w m base _ hT H _ hK => ⟨_, hp, t, _, w, m, .refl _ _, hT, H, .of_le hK (M.leG.refl _ m), Below.refl _ _, ⟨_, rfl⟩, by simp⟩
theorem OutK.before {s s' : St} {r : Res → Prop}
  (h : ∀ (fr : Frame) (t : Array Value) (cs : List Frame) (w : World) (m : M) (base : Nat), TR m s.tm t → HR m base lvl s.heap w → GR E.gl base w →
   ∃ t1 w1 m1, Steps E.P (lone (FR fr t s.todo) cs w) (lone (FR fr t1 s'.todo) cs w1) ∧ TR m1 s'.tm t1 ∧ HR m1 base lvl s'.heap w1 ∧ M.leG base m m1 ∧ Below base w w1)
  (ho : OutK E lvl K s' r rd) : OutK E lvl K s r rd := by
 intro fr t cs w m base hR hT H G hK
 obtain ⟨t1, w1, m1, hst, hT1, H1, hle, hB⟩ := h fr t cs w m base hT H G
 obtain ⟨q, hq, t', todo', w', m', g1, g2, g3, g4, g5, g6⟩ := ho fr t1 cs w1 m1 base (hR.leG hK hle) hT1 H1 (G.below hB) (Nat.le_trans hK hle.n)
 exact ⟨q, hq, t', todo', w', m', Steps.trans hst g1, g2, g3, (M.leK.of_le hK hle).trans g4, hB.trans g5, g6⟩
def Walk (E : Env) (lvl : Nat) (s s' : St) : Prop :=
 ∀ (fr : Frame) (t : Array Value) (cs : List Frame) (w : World) (m : M) (base : Nat), TR m s.tm t → HR m base lvl s.heap w → GR E.gl base w →
   ∃ t1 w1 m1, Steps E.P (lone (FR fr t s.todo) cs w) (lone (FR fr t1 s'.todo) cs w1) ∧ TR m1 s'.tm t1 ∧ HR m1 base lvl s'.heap w1 ∧ M.leG base m m1 ∧ Below base w w1
theorem Walk.refl (s : St) : Walk E lvl s s := fun _fr t _cs w m _base hT H _ => ⟨t, w, m, .refl _ _, hT, H, M.leG.refl _ m, Below.refl _ _⟩
theorem Walk.trans {a b c : St} (h : Walk E lvl a b) (k : Walk E lvl b c) : Walk E lvl a c := by
 intro fr t cs w m base hT H G
 obtain ⟨t1, w1, m1, hst, hT1, H1, hle, hB⟩ := h fr t cs w m base hT H G
 obtain ⟨t2, w2, m2, g1, g2, g3, g4, g5⟩ := k fr t1 cs w1 m1 base hT1 H1 (G.below hB)
 exact ⟨t2, w2, m2, Steps.trans hst g1, g2, g3, hle.trans g4, hB.trans g5⟩
theorem walk_one {h : Heap} {tm : Tm} {todo todo' : List Item} (hst : ∀ (fr : Frame) (t : Array Value) (cs : List Frame) (w : World) (m : M), TR m tm t → step E.P (lone (FR fr t todo) cs w) = .next (lone (FR fr t todo') cs w)) : Walk E lvl ⟨h, todo, tm⟩ ⟨h, todo', tm⟩ :=
 fun fr t cs w m _base hT H _ => ⟨t, w, m, .one (hst fr t cs w m hT), hT, H, M.leG.refl _ m, Below.refl _ _⟩
theorem walk_ops {S : StepT} (hS : StepOk E S) {h h1 : Heap} {tm tm1 : Tm} {ops : Array Oper} {id : Nat} {k : List Item} (hso : stepOps S lvl ops ops.toList 0 h tm = some (h1, tm1)) : Walk E lvl ⟨h, .code (.region id ops false) :: k, tm⟩ ⟨h1, k, tm1⟩ := by
 intro fr t cs w m base hT H G
 obtain ⟨t1, w1, m1, hst, hT1, H1, hle1, hB1⟩ := stepOps_sound hS ops ops.toList 0 (by simp) hT H G hso fr cs k
 refine ⟨t1, w1, m1, .head stepF_region ?_, hT1, H1, hle1, hB1⟩
 have e : List.range ops.size = List.range' 0 ops.toList.length := by rw [List.range_eq_range', Array.length_toList]
 rw [e]
 exact hst
theorem walk_draw {S : StepT} (hS : StepOk E S) (hmx : E.P.follows .mixedOrders = true) {h h1 : Heap} {tm tm1 : Tm} {ops : Array Oper} {id : Nat} {k : List Item} (hso : drawOps E S lvl ops h tm = some (h1, tm1)) : Walk E lvl ⟨h, .code (.region id ops true) :: k, tm⟩ ⟨h1, k, tm1⟩ := by
 intro fr t cs w m base hT H G
 have hB0 : Below base w { w with drawn := w.drawn + 1 } := ⟨rfl, rfl, rfl, Nat.le_refl _, fun _ _ => rfl⟩
 have H0 : HR m base lvl h { w with drawn := w.drawn + 1 } := H.world (Nat.le_refl _) fun _ _ => rfl
 obtain ⟨t1, w1, m1, hst, hT1, H1, hle1, hB1⟩ := drawOps_sound hS hmx hT H0 (G.below hB0) hso (w.tape w.drawn (.order fr.fn id)) fr cs k
 exact ⟨t1, w1, m1, .head stepF_regionDraw hst, hT1, H1, hle1, hB0.trans hB1⟩
theorem stepS_walk (hE : EnvOk E) (hrec : RecOk E rec) {s s' : St} (hs : stepS E rec lvl s = some s') : Walk E lvl s s' := by
 obtain ⟨h, todo, tm⟩ := s
 have go : ∀ {todo' : List Item}, (∀ (fr : Frame) (t : Array Value) (cs : List Frame) (w : World) (m : M), TR m tm t → step E.P (lone (FR fr t todo) cs w) = .next (lone (FR fr t todo') cs w)) → some (⟨h, todo', tm⟩ : St) = some s' → Walk E lvl ⟨h, todo, tm⟩ s' := by
  intro todo' hst hr
  simp only [Option.some.injEq] at hr
  subst hr
  exact walk_one hst
 unfold stepS at hs
 simp only at hs
 split at hs
 ·exact go (fun _ _ _ _ _ _ => stepF_skip) hs
 ·exact go (fun _ _ _ _ _ _ => stepF_label) hs
 ·exact go (fun _ _ _ _ _ _ => stepF_inBlock) hs
 ·exact go (fun _ _ _ _ _ _ => stepF_inScope) hs
 ·exact go (fun _ _ _ _ _ _ => stepF_seq) hs
 ·rename_i c a b k
  split at hs
  ·rename_i tt hc
   refine go (fun fr t cs w m hT => ?_) hs
   have hv := evA_sound hT c
   rw [hc] at hv
   exact stepF_cond (show evC t c = .bool tt from hv)
  ·simp at hs
 ·exact go (fun _ _ _ _ _ _ => stepF_block) hs
 ·exact go (fun _ _ _ _ _ _ => stepF_loop) hs
 ·exact go (fun _ _ _ _ _ _ => stepF_inLoop) hs
 ·exact go (fun _ _ _ _ _ _ => stepF_scope) hs
 ·rename_i id k
  split at hs
  ·rename_i k' hk
   exact go (fun _ _ _ _ _ _ => stepF_exit hk) hs
  ·simp at hs
 ·rename_i id ops draw k
  cases draw with
  | false =>
   simp only [Bool.false_eq_true, if_false] at hs
   split at hs
   ·rename_i h1 tm1 hso
    simp only [Option.some.injEq] at hs
    subst hs
    exact walk_ops (stdS_ok hE hrec) hso
   ·simp at hs
  | true =>
   simp only [if_true] at hs
   split at hs
   ·rename_i h1 tm1 hso
    simp only [Option.some.injEq] at hs
    subst hs
    exact walk_draw (stdS_ok hE hrec) hE.mixed hso
   ·simp at hs
 ·simp at hs
theorem stepsS_walk (hE : EnvOk E) (hrec : RecOk E rec) : ∀ (n : Nat) {s s' : St}, stepsS E rec lvl n s = some s' → Walk E lvl s s'
 | 0, s, s', h => by
  have h' : some s = some s' := h
  simp only [Option.some.injEq] at h'
  subst h'; exact .refl s
 | n + 1, s, s', h => by
  have h' : (match stepS E rec lvl s with | some s1 => stepsS E rec lvl n s1 | none => none) = some s' := h
  split at h'
  ·rename_i s1 hs1
   exact (stepS_walk hE hrec hs1).trans (stepsS_walk hE hrec n h')
  ·simp at h'
theorem stepV_walk (hE : EnvOk E) (hrec : RecOk E rec) {a : SAns} {s s' : St} {ps : List Prop} (hs : stepV E rec lvl a s = some (s', ps)) (hp : AllP ps) : Walk E lvl s s' := by
 obtain ⟨h, todo, tm⟩ := s
 unfold stepV at hs
 simp only at hs
 split at hs
 ·split at hs
  ·rename_i n s1 hs1
   simp only [Option.some.injEq, Prod.mk.injEq] at hs
   obtain ⟨rfl, rfl⟩ := hs
   exact stepsS_walk hE hrec _ hs1
  ·simp at hs
 ·split at hs
  ·rename_i b _ c x y k
   split at hs
   ·rename_i t hc
    simp only [Option.some.injEq, Prod.mk.injEq] at hs
    obtain ⟨rfl, rfl⟩ := hs
    obtain ⟨rfl, _⟩ : t = b ∧ True := hp
    refine walk_one fun fr tt cs w m hT => ?_
    have hv := evA_sound hT c
    rw [hc] at hv
    have := stepF_cond (P := E.P) (fr := fr) (cs := cs) (w := w) (k := k) (a := x) (b := y) (show evC tt c = .bool t from hv)
    rw [this]
    cases t <;> rfl
   ·simp at hs
  ·simp at hs
 ·split at hs
  ·rename_i l g _ id ops draw k
   split at hs
   ·rename_i h1 tm1 ps1 hr
    simp only [Option.some.injEq, Prod.mk.injEq] at hs
    obtain ⟨rfl, rfl⟩ := hs
    cases draw with
    | true => exact walk_draw (sigV_ok hE hrec l) hE.mixed (drawV_sim hr hp)
    | false => exact walk_ops (sigV_ok hE hrec l) (opsV_sim _ _ hr hp)
   ·simp at hs
  ·simp at hs
theorem chainV_walk (hE : EnvOk E) (hrec : RecOk E rec) : ∀ (l : List SAns) {s s' : St} {ps : List Prop}, chainV E rec lvl l s = some (s', ps) → AllP ps → Walk E lvl s s'
 | [], s, s', ps, h, _ => by
  simp only [chainV, Option.some.injEq, Prod.mk.injEq] at h
  obtain ⟨rfl, rfl⟩ := h
  exact .refl s
 | a :: l, s, s', ps, h, hp => by
  have h' : (match stepV E rec lvl a s with
   | some (s1, ps) => (match chainV E rec lvl l s1 with
    | some (s2, qs) => some (s2, ps ++ qs)
    | none => none)
   | none => none) = some (s', ps) := h
  split at h'
  ·rename_i s1 p1 hs1
   split at h'
   ·rename_i s2 q2 hs2
    simp only [Option.some.injEq, Prod.mk.injEq] at h'
    obtain ⟨rfl, rfl⟩ := h'
    obtain ⟨k1, k2⟩ := allP_append.1 hp
    exact (stepV_walk hE hrec hs1 k1).trans (chainV_walk hE hrec l hs2 k2)
   ·simp at h'
  ·simp at h'
theorem outK_chain (hE : EnvOk E) (hrec : RecOk E rec) (l : List SAns) {s s' : St} {ps : List Prop} {r : Res → Prop} (h : chainV E rec lvl l s = some (s', ps)) (hp : AllP ps) (ho : OutK E lvl K s' r rd) : OutK E lvl K s r rd :=
 .before (chainV_walk hE hrec l h hp) ho
end
end
end Go.Ev
end

/-! SyE -/
section
namespace Go.Ev
open Go.RowKit
noncomputable section
def memN (l : List Nat) (i : Nat) : Bool := List.rec (motive := fun _ => Bool) false (fun a _ ih => if Nat.beq a i then true else ih) l
def forgetT (ks : List Nat) (j : Nat → Value) (tm : Tm) : Nat → Tm :=
 List.rec (motive := fun _ => Nat → Tm) (fun _ => []) (fun x _ ih i => (if memN ks i then x else .e (.one (.v (j i)))) :: ih (Nat.succ i)) tm
variable {E : Env} {rec : RunT} {lvl K : Nat} {r : Res → Prop} {rd : Option Nat}
theorem forgetT_sound {m : M} {ks : List Nat} {t : Array Value} : ∀ (tm : Tm) (i : Nat), (∀ k a, tm[k]? = some a → VR m a (t.getD (i + k) undef)) → ∀ k a, (forgetT ks (fun i => t.getD i undef) tm i)[k]? = some a → VR m a (t.getD (i + k) undef)
 | [], i, _, k, a, h => by simp [forgetT] at h
 | x :: tm, i, hT, k, a, h => by
  have h' : ((if memN ks i then x else .e (.one (.v (t.getD i undef)))) :: forgetT ks (fun i => t.getD i undef) tm (i + 1))[k]? = some a := h
  cases k with
  | zero =>
   simp only [List.getElem?_cons_zero, Option.some.injEq] at h'
   subst h'
   split
   ·exact hT 0 x rfl
   ·exact rfl
  | succ k =>
   simp only [List.getElem?_cons_succ] at h'
   have := forgetT_sound tm (i + 1) (fun k a h => by have := hT (k + 1) a h; rwa [show i + 1 + k = i + (k + 1) by omega]) k a h'
   rwa [show i + 1 + k = i + (k + 1) by omega] at this
theorem forgetT_length (ks : List Nat) (j : Nat → Value) : ∀ (tm : Tm) (i : Nat), (forgetT ks j tm i).length = tm.length
 | [], _ => rfl
 | _ :: tm, i => by show (forgetT ks j tm (i + 1)).length + 1 = _; rw [forgetT_length]; rfl
theorem TR.forget {m : M} {tm : Tm} {t : Array Value} (hT : TR m tm t) (ks : List Nat) : TR m (forgetT ks (fun i => t.getD i undef) tm 0) t := by
 have hl := hT.length
 refine All2.of_get (by rw [forgetT_length]; exact hl) fun i a b ha hb => ?_
 have := forgetT_sound (m := m) (ks := ks) (t := t) tm 0 (fun k a h => by
  obtain ⟨y, hy, hr⟩ := hT.get h
  have : t.getD (0 + k) undef = y := by
   rw [Nat.zero_add, Array.getD_eq_getD_getElem?]
   simp only [Array.getElem?_toList] at hy
   rw [hy]; rfl
  rw [this]; exact hr) i a ha
 have e : t.getD (0 + i) undef = b := by
  rw [Nat.zero_add, Array.getD_eq_getD_getElem?]
  simp only [Array.getElem?_toList] at hb
  rw [hb]; rfl
 rwa [e] at this
theorem outK_forget (ks : List Nat) {h : Heap} {todo : List Item} {tm : Tm} (ho : ∀ j : Nat → Value, OutK E lvl K ⟨h, todo, forgetT ks j tm 0⟩ r rd) : OutK E lvl K ⟨h, todo, tm⟩ r rd :=
 fun fr t cs w m base hR hT H G hK => ho (fun i => t.getD i undef) fr t cs w m base hR (TR.forget hT ks) H G hK
def okX (K : Nat) : Option AB → Bool
 | none => true
 | some a => match a.ext with
  | .loop _ _ tm _ _ _ => tm.all fun x => x.refs.all fun b => Nat.blt b K
  | _ => true
theorem HR.sel {m : M} {base lvl K : Nat} {h h' : Heap} {w : World} (H : HR m base lvl h w) {e : List Nat} (hlK : lvl ≤ K) (hl : e.length = h'.length) (hK : ∀ i, i < K → e[i]? = some i) (hnd : e.Nodup) (hlt : ∀ b ∈ e, b < h.length) (hge : ∀ b ∈ e.drop K, K ≤ b) (hKe : K ≤ e.length)
  (hp : ∀ b ∈ h', okX K b = true) (h2 : e.map (fun b => h[b]?) = h'.map (fun b => some (b.map (AB.ren (nthE e h.length e.length))))) :
  ∃ m2 : M, HR m2 base lvl h' w ∧ M.leK base K m m2 ∧ m2.n = e.length ∧ (∀ b, b < e.length → m.ρ (nthE e h.length e.length b) = m2.ρ b) ∧ (∀ b, b < e.length → m.κ (nthE e h.length e.length b) = m2.κ b) ∧ (∀ b, nthE e h.length e.length b < m.n → b < e.length) ∧ m2.F = m.F := by
 have hmn := H.n
 let m2 : M := { n := e.length, ρ := fun i => m.ρ (getD0 e i), κ := fun i => m.κ (getD0 e i), lo := m.lo, F := m.F }
 have hg : ∀ i, i < e.length → ∃ b, e[i]? = some b ∧ getD0 e i = b ∧ b < h.length := fun i hi => by
  refine ⟨e[i], List.getElem?_eq_getElem hi, ?_, hlt _ (List.getElem_mem hi)⟩
  rw [getD0_eq, List.getD_eq_getElem?_getD, List.getElem?_eq_getElem hi]; rfl
 have hnth : ∀ i, i < e.length → nthE e h.length e.length i = getD0 e i := fun i hi => by simp [nthE, hi]
 have hnth2 : ∀ i, ¬ i < e.length → nthE e h.length e.length i = h.length + (i - e.length) := fun i hi => by simp [nthE, hi]
 have hback : ∀ i, nthE e h.length e.length i < m.n → i < e.length := fun i hi => by
  by_cases hlt : i < e.length
  ·exact hlt
  ·rw [hnth2 i hlt] at hi; omega
 have hρ : ∀ b, b < e.length → m.ρ (nthE e h.length e.length b) = m2.ρ b := fun b hb => by rw [hnth b hb]
 have hκ : ∀ b, b < e.length → m.κ (nthE e h.length e.length b) = m2.κ b := fun b hb => by rw [hnth b hb]
 have hKi : ∀ i, i < K → getD0 e i = i := fun i hi => by
  rw [getD0_eq, List.getD_eq_getElem?_getD, hK i hi]; rfl
 have hKg : ∀ i, K ≤ i → i < e.length → K ≤ getD0 e i := fun i h1 h2 => by
  obtain ⟨b, g1, g2, _⟩ := hg i h2
  rw [g2]
  refine hge b (List.mem_of_getElem? (i := i - K) ?_)
  rw [List.getElem?_drop, show K + (i - K) = i by omega, g1]
 have hx : ∀ i a, h'[i]? = some (some a) → i < e.length ∧ h[getD0 e i]? = some (some (a.ren (nthE e h.length e.length))) ∧ okX K (some a) = true := by
  intro i a hi
  have hil : i < e.length := by rw [hl]; exact (List.getElem?_eq_some_iff.1 hi).1
  obtain ⟨b, g1, g2, _⟩ := hg i hil
  refine ⟨hil, ?_, ?_⟩
  ·rw [g2]
   have e1 : (e.map (fun b => h[b]?))[i]? = some h[b]? := by rw [List.getElem?_map, g1]; rfl
   rw [h2, List.getElem?_map, hi] at e1
   simpa using e1.symm
  ·exact hp _ (List.mem_of_getElem? hi)
 refine ⟨m2, ⟨hl, by omega, H.baseLe, fun i a hi => ?_, fun b h1 h2 => ?_, fun b b' h1 h2 ⟨a, ha⟩ ⟨a', ha'⟩ hlo he => ?_, H.lo, fun p hp => ⟨(H.tab p hp).1, fun b a hb ha => ?_⟩⟩, ⟨hKe, fun b hb => by simp only [m2, hKi b hb], fun b hb => by simp only [m2, hKi b hb], rfl, fun _ hp => hp, fun _ hp => .inl hp⟩, rfl, hρ, hκ, hback, rfl⟩
 ·obtain ⟨hil, g1, g2⟩ := hx i a hi
  have hLR : LR m2 w i a.ext := by
   have h0 : LR m w (getD0 e i) a.ext := (H.ent _ _ g1).2
   cases hxe : a.ext with
   | cells => trivial
   | mark => rw [hxe] at h0; exact h0
   | iter s pos => rw [hxe] at h0; exact h0
   | map kv => rw [hxe] at h0; exact h0
   | loop st pend tm ps asg body =>
    rw [hxe] at h0
    obtain ⟨fn, t, D, k1, k2⟩ := h0
    simp only [okX, hxe, List.all_eq_true, Nat.blt_eq] at g2
    have hKm : K ≤ m.n := by
     have : ∀ j, j < K → j < h.length := fun j hj => hlt j (List.mem_of_getElem? (hK j hj))
     rcases Nat.eq_zero_or_pos K with hz | hz
     ·omega
     ·have := this (K - 1) (by omega); omega
    let m0 : M := { n := K, ρ := m.ρ, κ := m.κ, lo := m.lo, F := m.F }
    have hle0 : M.leG base m0 m := ⟨hKm, fun _ _ => rfl, fun _ _ => rfl, rfl, fun _ hp => hp, fun _ hp => .inl hp⟩
    have hle2 : M.leG base m0 m2 := ⟨hKe, fun b hb => by simp only [m2, m0, hKi b hb], fun b hb => by simp only [m2, m0, hKi b hb], rfl, fun _ hp => hp, fun _ hp => .inl hp⟩
    exact ⟨fn, t, D, k1, all2_down (fun x hx' y hy => VR.monoG hle2 (VR.downG hle0 (.inr rfl) (fun b hb => g2 x hx' b hb) hy)) k2⟩
  refine ⟨fun hcells => ?_, hLR⟩
  obtain ⟨b1, b2, c, fz, b3, b4, b5, b6, b7⟩ := H.blk _ _ g1 (by simpa [AB.ren] using hcells)
  have hloK := Nat.le_trans H.lo hlK
  have hlo : m.lo ≤ i → m.lo ≤ getD0 e i := fun h0 => by
   by_cases hb : i < K
   ·rw [hKi i hb]; exact h0
   ·have := hKg i (by omega) hil; omega
  refine ⟨by simpa [AB.ren] using b1, b2, c, fz, b3, b4, fun h0 => b5 (hlo h0), b6, ?_⟩
  have b7' : All2 (CR m) (a.cells.map (AC.ren (nthE e h.length e.length))) (c.toList.take a.n) := b7
  refine all2_unren (fun x _ y hy => CR.unren (m1 := m2) (m2 := m) (fun _ hp => hp) rfl hρ hκ (fun k hk => hback k (CR.refs_lt hy _ ?_)) hy) b7'
  rw [AC.refs_ren]
  exact List.mem_map_of_mem hk
 ·show base ≤ m.ρ (getD0 e b)
  obtain ⟨k, _, g2, g3⟩ := hg b (by omega)
  refine H.own _ ?_ (by omega)
  by_cases hb : b < K
  ·rw [hKi b hb]; exact h1
  ·have := hKg b (by omega) (by omega); omega
 ·obtain ⟨i1, g1, _⟩ := hx b a ha
  obtain ⟨i2, g2, _⟩ := hx b' a' ha'
  have hlo' : m.lo ≤ getD0 e b ∨ m.lo ≤ getD0 e b' := by
   have hloK := Nat.le_trans H.lo hlK
   have key : ∀ i, i < e.length → m.lo ≤ i → m.lo ≤ getD0 e i := fun i hi h0 => by
    by_cases hb : i < K
    ·rw [hKi i hb]; exact h0
    ·have := hKg i (by omega) hi; omega
   exact hlo.imp (key b i1) (key b' i2)
  have := H.inj _ _ (List.getElem?_eq_some_iff.1 g1).1 (List.getElem?_eq_some_iff.1 g2).1 ⟨_, g1⟩ ⟨_, g2⟩ hlo' he
  obtain ⟨k, k1, k2, _⟩ := hg b i1
  obtain ⟨k', k1', k2', _⟩ := hg b' i2
  rw [k2, k2'] at this
  subst this
  exact (List.getElem?_inj i1 hnd).1 (k1.trans k1'.symm)
 ·obtain ⟨i1, g1, _⟩ := hx b a ha
  refine (H.tab p hp).2 _ _ ?_ g1
  by_cases hb' : b < K
  ·rw [hKi b hb']; exact hb
  ·have := hKg b (by omega) i1; omega
def selOk (e : List Nat) (L K L' : Nat) (h' : Heap) : Bool :=
 Nat.beq (lenL e) L' && nodupB e && (e.all fun b => Nat.blt b L) && ((dropL e K).all fun b => Nat.ble K b) && Nat.ble K (lenL e) && (List.range K).all (fun i => Nat.beq (getD0 e i) i) && h'.all (okX K)
theorem nodupB_spec : ∀ {l : List Nat}, nodupB l = true → l.Nodup
 | [], _ => List.nodup_nil
 | x :: l, h => by
  simp only [nodupB, Bool.and_eq_true, Bool.not_eq_true', List.contains_eq_mem, decide_eq_false_iff_not] at h
  exact List.nodup_cons.2 ⟨h.1, nodupB_spec h.2⟩
theorem HR.sel' {m : M} {base lvl K : Nat} {h h' : Heap} {w : World} (H : HR m base lvl h w) {e : List Nat} (hlK : lvl ≤ K) (hok : selOk e (lenL h) K (lenL h') h' = true)
  (h2 : e.map (getL h) = h'.map (fun b => some (b.map (AB.ren (nthE e (lenL h) (lenL e)))))) :
  ∃ m2 : M, HR m2 base lvl h' w ∧ M.leK base K m m2 ∧ m2.n = e.length ∧ (∀ b, b < e.length → m.ρ (nthE e h.length e.length b) = m2.ρ b) ∧ (∀ b, b < e.length → m.κ (nthE e h.length e.length b) = m2.κ b) ∧ (∀ b, nthE e h.length e.length b < m.n → b < e.length) ∧ m2.F = m.F := by
 simp only [selOk, Bool.and_eq_true, List.all_eq_true, Nat.blt_eq, Nat.ble_eq] at hok
 obtain ⟨⟨⟨⟨⟨⟨c1, c2⟩, c3⟩, c4⟩, c5⟩, c6⟩, c7⟩ := hok
 have c1 := Nat.eq_of_beq_eq_true c1
 have hgl : getL h = fun b : Nat => h[b]? := funext fun b => getL_eq h b
 simp only [lenL_eq, dropL_eq, hgl] at c1 c3 c4 c5 h2
 refine H.sel hlK c1 (fun i hi => ?_) (nodupB_spec c2) c3 c4 c5 c7 h2
 have := Nat.eq_of_beq_eq_true (c6 i (by simpa using hi))
 rw [getD0_eq, List.getD_eq_getElem?_getD, List.getElem?_eq_getElem (by omega)] at this
 rw [List.getElem?_eq_getElem (by omega)]
 simpa using this
theorem outK_gc (e : List Nat) {h h' : Heap} {todo : List Item} {tm tm' : Tm} (hlK : lvl ≤ K) (hok : selOk e (lenL h) K (lenL h') h' = true)
  (h2 : e.map (getL h) = h'.map (fun b => some (b.map (AB.ren (nthE e (lenL h) (lenL e)))))) (h1 : tm'.map (AV.ren (nthE e (lenL h) (lenL e))) = tm)
  (ho : OutK E lvl K ⟨h', todo, tm'⟩ r rd) : OutK E lvl K ⟨h, todo, tm⟩ r rd := by
 intro fr t cs w m base hR hT H G hK
 obtain ⟨m2, H2, hle, hn, hρ, hκ, hback, hmF⟩ := H.sel' hlK hok h2
 simp only [lenL_eq] at h1
 have hT2 : TR m2 tm' t := by
  have hT' : All2 (VR m) tm t.toList := hT
  rw [← h1] at hT'
  refine all2_unren (fun a _ y hy => VR.unren (by rw [hmF]; exact fun _ hp => hp) hn hρ hκ (fun b hb => hback b (VR.refs_lt hy _ ?_)) hy) hT'
  rw [AV.refs_ren]
  exact List.mem_map_of_mem hb
 obtain ⟨q, hq, t', todo', w', m', g1, g2, g3, g4, g5, g6⟩ := ho fr t cs w m2 base (hR.leK hle) hT2 H2 G hle.n
 exact ⟨q, hq, t', todo', w', m', g1, g2, g3, hle.trans g4, g5, g6⟩
theorem outK_gcF (e : List Nat) (fl : List Bool) {h h' : Heap} {todo : List Item} {tm tm' : Tm} (hlK : lvl ≤ K) (hok : (selOk e (lenL h) K (lenL h') h' && Nat.beq (lenL fl) (lenL h')) = true)
  (h2 : e.map (getL h) = renFl (nthE e (lenL h) (lenL e)) fl h') (hf : flatP fl h') (h1 : tm'.map (AV.ren (nthE e (lenL h) (lenL e))) = tm)
  (ho : OutK E lvl K ⟨h', todo, tm'⟩ r rd) : OutK E lvl K ⟨h, todo, tm⟩ r rd := by
 rw [Bool.and_eq_true] at hok
 have hl := Nat.eq_of_beq_eq_true hok.2
 rw [lenL_eq, lenL_eq] at hl
 rw [renFl_eq _ hl hf] at h2
 exact outK_gc e hlK hok.1 h2 h1 ho
def Ends (E : Env) (fn : Func) (v : AV) (hout : Heap) (r : Res) : Prop := fellOrRet r.jump = true ∧ r.marks = [] ∧ r.heap = hout ∧ resultsA E fn r.tm hout = some v
theorem cOut_of {f : FuncId} {fn : Func} {c : Code} (hf : E.P.funcs[f]? = some fn) (hc : fn.body = some c) {lvl : Nat} {hin : Heap} {args : List AV} {hout : Heap} {v : AV}
  (ho : OutK E lvl hin.length ⟨hin, [.code c], appL args (List.replicate (fn.ntmps - lenL args) (.tup []))⟩ (Ends E fn v hout)) : COut E lvl hin f args v hout := by
 intro m base w argsC ha H G
 classical
 have hbody : ∀ cs : List Frame, True := fun _ => trivial
 intro cs
 let fr0 : Frame := Frame.enter E.P f argsC .normal
 have hT : TR m (appL args (List.replicate (fn.ntmps - lenL args) (.tup []))) (argsC ++ Array.replicate (fn.ntmps - argsC.size) undef) := by
  unfold TR
  rw [appL_eq, lenL_eq, Array.toList_append, Array.toList_replicate]
  have hl : args.length = argsC.size := by have := ha.length; simpa using this
  rw [hl]
  exact ha.append (all2_undef m _)
 have he : fr0 = FR fr0 (argsC ++ Array.replicate (fn.ntmps - argsC.size) undef) [.code c] := by
  simp [fr0, Frame.enter, FR, hf, hc]
 have hround : fr0.roundOf = none := rfl
 obtain ⟨r, ⟨hj, hm, hh, hv⟩, t', todo', w1, m', hst, hT', H', hle, hB, hend, _⟩ := ho fr0 _ cs w m base hround hT H G (by rw [H.n]; exact Nat.le_refl _)
 have hd0 : fr0.defers = [] := rfl
 rw [hd0, hm] at hst
 have hmk : marksC m' [] ++ [] = fr0.defers := rfl
 rw [hmk] at hst
 have hfr : ({ fr0 with defers := fr0.defers } : Frame) = fr0 := rfl
 rw [hfr] at hst
 have fin : ∃ todo'', Steps E.P (lone (FR fr0 t' todo') cs w1) (lone { FR fr0 t' todo'' with mode := .returning } cs w1) := by
  cases hjj : r.jump with
  | fell =>
   rw [hjj] at hend
   have : todo' = [] := hend
   subst this
   exact ⟨[], .one (stepF_end hround)⟩
  | ret =>
   rw [hjj] at hend
   obtain ⟨k, rfl⟩ := hend
   exact ⟨.code .ret :: k, .one (stepF_ret hround)⟩
  | exit id => rw [hjj] at hj; simp [fellOrRet] at hj
 obtain ⟨todo'', hfin⟩ := fin
 obtain ⟨y, hy, hvr⟩ := resultsA_sound (E := E) hT' H' (G.below hB) (by rw [hh]; exact hv)
 have hmn := H.n
 rw [hh] at H'
 refine ⟨.returned y, w1, { FR fr0 t' todo'' with mode := .returning }, ⟨y, rfl, m', ⟨by rw [hmn]; exact hle.n, fun b hb => hle.ρ b (by omega), fun b hb => hle.κ b (by omega), hle.lo, hle.F, hle.fresh⟩, hvr, H', hB⟩, ?_, rfl, ?_⟩
 ·show Steps E.P (lone fr0 cs w) _
  rw [he]
  exact Steps.trans hst hfin
 ·exact ⟨rfl, rfl, rfl, fn, hf, hy⟩
theorem cOut_gc {f : FuncId} {lvl : Nat} {hin : Heap} {args : List AV} {v v' : AV} {h h' : Heap} (e : List Nat) (hlK : lvl ≤ hin.length) (hc : COut E lvl hin f args v h) (hok : selOk e (lenL h) hin.length (lenL h') h' = true)
  (h2 : e.map (getL h) = h'.map (fun b => some (b.map (AB.ren (nthE e (lenL h) (lenL e)))))) (h1 : v'.ren (nthE e (lenL h) (lenL e)) = v) : COut E lvl hin f args v' h' := by
 intro m base w argsC ha H G
 refine (hc m base w argsC ha H G).mono fun en w' ⟨y, hy, m1, hp⟩ => ⟨y, hy, ?_⟩
 obtain ⟨m2, H2, hle, hn, hρ, hκ, hback, hmF⟩ := hp.heap.sel' hlK hok h2
 simp only [lenL_eq] at h1
 have hmn := H.n
 refine ⟨m2, ⟨by rw [hmn]; exact hle.n, fun b hb => by rw [hle.ρ b (by omega), hp.le.ρ b hb], fun b hb => by rw [hle.κ b (by omega), hp.le.κ b hb], hle.lo.trans hp.le.lo, fun p h0 => hle.F p (hp.le.F p h0), fun p h0 => (hle.fresh p h0).elim (hp.le.fresh p) .inr⟩, ?_, H2, hp.below⟩
 have hval := hp.val
 rw [← h1] at hval
 refine VR.unren (by rw [hmF]; exact fun _ hp => hp) hn hρ hκ (fun b hb => hback b (VR.refs_lt hval _ ?_)) hval
 rw [AV.refs_ren]
 exact List.mem_map_of_mem hb
end
end Go.Ev
end

/-! SyF -/
section
namespace Go.Ev
open Go.RowKit
noncomputable section
def sub1 (i : Nat) : Code → Code
 | .seq a b => Nat.rec (motive := fun _ => Code) a (fun _ _ => b) i
 | .cond _ a b => Nat.rec (motive := fun _ => Code) a (fun _ _ => b) i
 | .block _ a => a
 | .loop a => a
 | .scope a => a
 | .rangeFunc _ _ a b => Nat.rec (motive := fun _ => Code) a (fun _ _ => b) i
 | c => c
def atC (p : List Nat) : Code → Code := List.rec (motive := fun _ => Code → Code) (fun c => c) (fun i _ ih c => ih (sub1 i c)) p
def bodyOf (f : Func) : Code := match f.body with | some c => c | none => .skip
def lookT (l : List (Nat × AV)) (i : Nat) : Option AV := List.rec (motive := fun _ => Option AV) none (fun p _ ih => if Nat.beq p.1 i then some p.2 else ih) l
def mkT (j : Nat → Value) (l : List (Nat × AV)) (n : Nat) : Nat → Tm :=
 Nat.rec (motive := fun _ => Nat → Tm) (fun _ => []) (fun _ ih i => (match lookT l i with | some x => x | none => .e (.one (.v (j i)))) :: ih (Nat.succ i)) n
abbrev iI (n : Int) : AV := .e (.one (.v (.int .i64 n)))
abbrev iU (n : Int) : AV := .e (.one (.v (.int .u8 n)))
abbrev iB (b : Bool) : AV := .e (.one (.v (.bool b)))
variable {E : Env} {rec : RunT} {lvl K : Nat} {r : Res → Prop} {rd : Option Nat}
def segV (E : Env) (rec : RunT) (lvl : Nat) (l : List SAns) (ks : List Nat) (j : Nat → Value) (s : St) : Option (St × List Prop) :=
 match chainV E rec lvl l s with
 | some (s1, ps) => some (⟨s1.heap, s1.todo, forgetT ks j s1.tm 0⟩, ps)
 | none => none
theorem outK_seg (hE : EnvOk E) (hrec : RecOk E rec) (l : List SAns) (ks : List Nat) {s : St} {s' : (Nat → Value) → St} {ps : List Prop} (h : ∀ j, segV E rec lvl l ks j s = some (s' j, ps)) (hp : AllP ps) (ho : ∀ j, OutK E lvl K (s' j) r rd) : OutK E lvl K s r rd := by
 cases hc : chainV E rec lvl l s with
 | none => have := h (fun _ => undef); simp [segV, hc] at this
 | some p =>
  obtain ⟨⟨h1, t1, tm1⟩, qs⟩ := p
  have hq : qs = ps := by have := h (fun _ => undef); simp [segV, hc] at this; exact this.2
  subst hq
  refine outK_chain hE hrec l hc hp (outK_forget ks fun j => ?_)
  have := h j
  simp only [segV, hc, Option.some.injEq, Prod.mk.injEq] at this
  rw [this.1]
  exact ho j
def startK (f : Func) (hin : Heap) (args : List AV) : St := ⟨hin, [.code (bodyOf f)], appL args (List.replicate (f.ntmps - lenL args) (.tup []))⟩
theorem cOut_start {f : FuncId} {fn : Func} (hf : E.P.funcs[f]? = some fn) (hb : fn.body.isSome = true) {hin hout : Heap} {args : List AV} {v : AV} (ho : OutK E lvl (lenL hin) (startK fn hin args) (Ends E fn v hout)) : COut E lvl hin f args v hout := by
 cases hc : fn.body with
 | none => rw [hc] at hb; simp at hb
 | some c =>
  have e : bodyOf fn = c := by simp [bodyOf, hc]
  rw [lenL_eq] at ho
  unfold startK at ho
  rw [e] at ho
  exact cOut_of hf hc ho
theorem OpqC.ren {K : Nat} {x : AC} (h : OpqC K x) {f : Nat → Nat} (hf : ∀ b, b < K → f b = b) : x.ren f = x := by
 cases x with
 | v _ => rfl
 | ptr b o => simp only [AC.ren]; rw [hf b (h b (by simp [AC.refs]))]
 | slc b o len sz cap ex => simp only [AC.ren]; rw [hf b (h b (by simp [AC.refs]))]
 | yld b => simp only [AC.ren]; rw [hf b (h b (by simp [AC.refs]))]
 | mp b => simp only [AC.ren]; rw [hf b (h b (by simp [AC.refs]))]
 | dp _ => rfl
 | any _ => rfl
 | clo g fs cs =>
  simp only [AC.ren]
  rw [CE.ren_fix fun b hb => hf b (h b (List.mem_append_left _ hb)), CE.ren_fix fun b hb => hf b (h b (List.mem_append_right _ hb))]
theorem ends_ret {fn : Func} {tm : Tm} {h : Heap} {v : AV} (hv : resultsA E fn tm h = some v) : Ends E fn v h ⟨.ret, tm, h, []⟩ := ⟨rfl, rfl, rfl, hv⟩
end
end Go.Ev
end

/-! EvQ -/
section
namespace Go.Ev
open Go.RowKit
noncomputable section
def posL (l : List Nat) (j : Nat) : Nat := List.rec (motive := fun _ => Nat) 0 (fun a _ ih => if Nat.beq a j then 0 else Nat.succ ih) l
def virtEdges (π : List Nat) (X : List (Nat × Nat)) (j : Nat) (es : List Edge) : List Edge :=
 (es.filter bindsB).map (fun e => Edge.mk (posL π e.on) .data) ++ (X.filter fun p : Nat × Nat => Nat.beq p.2 j).map fun p : Nat × Nat => Edge.mk (posL π p.1) .data
def virtOps (π : List Nat) (X : List (Nat × Nat)) (ops : Array Oper) : Array Oper :=
 (π.map fun j => match ops[j]? with
  | some o => { o with after := (virtEdges π X j o.after.toList).toArray, guard := none }
  | none => { dst := none, op := .move (.const undef), type := 0, pos := "", after := #[], guard := none }).toArray
def okVirt (π : List Nat) (ops : Array Oper) : Bool :=
 Nat.beq (lenL π) (lenL ops.toList) && (List.range (lenL π)).all (fun k => Nat.beq (posL π (getD0 π k)) k && Nat.blt (getD0 π k) (lenL π)) && (List.range (lenL π)).all (fun j => Nat.beq (getD0 π (posL π j)) j && Nat.blt (posL π j) (lenL π)) &&
  (List.range (lenL π)).all (fun i => match ops[i]? with
   | some o => (match o.guard with | none => true | some _ => false) && o.after.toList.all fun e => !bindsB e || Nat.blt e.on i
   | none => false)
structure VirtOk (π : List Nat) (ops : Array Oper) : Prop where
 len : π.length = ops.size
 back : ∀ k, k < ops.size → posL π (getD0 π k) = k ∧ getD0 π k < ops.size
 forth : ∀ j, j < ops.size → getD0 π (posL π j) = j ∧ posL π j < ops.size
 free : ∀ (i : Nat) (o : Oper), ops[i]? = some o → o.guard = none ∧ ∀ e ∈ o.after, bindsB e = true → e.on < i
theorem okVirt_spec {π : List Nat} {ops : Array Oper} (h : okVirt π ops = true) : VirtOk π ops := by
 simp only [okVirt, Bool.and_eq_true, List.all_eq_true, lenL_eq] at h
 obtain ⟨⟨⟨h1, h2⟩, h3⟩, h4⟩ := h
 have h1 := Nat.eq_of_beq_eq_true h1
 have hl : π.length = ops.size := by simpa using h1
 rw [hl] at h2 h3 h4
 refine ⟨hl, fun k hk => ?_, fun j hj => ?_, fun i o ho => ?_⟩
 ·obtain ⟨a, b⟩ := h2 k (List.mem_range.2 hk)
  exact ⟨Nat.eq_of_beq_eq_true a, by simpa [Nat.blt_eq] using b⟩
 ·obtain ⟨a, b⟩ := h3 j (List.mem_range.2 hj)
  exact ⟨Nat.eq_of_beq_eq_true a, by simpa [Nat.blt_eq] using b⟩
 ·have hi := (Array.getElem?_eq_some_iff.1 ho).1
  have := h4 i (List.mem_range.2 hi)
  rw [ho] at this
  simp only [Bool.and_eq_true, List.all_eq_true, Bool.or_eq_true, Bool.not_eq_true', Nat.blt_eq] at this
  obtain ⟨a, b⟩ := this
  refine ⟨?_, fun e he hb => ?_⟩
  ·split at a
   ·assumption
   ·simp at a
  ·rcases b e (by simpa using he) with h | h
   ·rw [hb] at h; simp at h
   ·exact h
theorem getD0_get {π : List Nat} {k : Nat} (h : k < π.length) : π[k]? = some (getD0 π k) := by
 rw [getD0_eq, List.getD_eq_getElem?_getD, List.getElem?_eq_getElem h]; rfl
theorem virt_get {π : List Nat} {X : List (Nat × Nat)} {ops : Array Oper} (hv : VirtOk π ops) {k : Nat} {o : Oper} (ho : (virtOps π X ops)[k]? = some o) : ∃ o0, k < ops.size ∧ ops[getD0 π k]? = some o0 ∧
  o = { o0 with after := (virtEdges π X (getD0 π k) o0.after.toList).toArray, guard := none } := by
 have hk : k < π.length := by
  have := (Array.getElem?_eq_some_iff.1 ho).1
  simpa [virtOps] using this
 have hk' : k < ops.size := by rw [← hv.len]; exact hk
 obtain ⟨_, hlt⟩ := hv.back k hk'
 refine ⟨ops[getD0 π k], hk', Array.getElem?_eq_getElem hlt, ?_⟩
 simp only [virtOps, List.getElem?_toArray, List.getElem?_map, getD0_get hk, Option.map_some, Array.getElem?_eq_getElem hlt, Option.some.injEq] at ho
 exact ho.symm
theorem virt_virt {π : List Nat} {X : List (Nat × Nat)} {ops : Array Oper} (hv : VirtOk π ops) : Virt (virtOps π X ops) ops (getD0 π) := fun k o ho => by
 obtain ⟨o0, _, h1, rfl⟩ := virt_get hv ho
 refine ⟨o0.after, o0.guard, h1, fun t => ?_⟩
 have hg := (hv.free _ o0 h1).1
 simp [Region.wanted, hg]
def RespL (X : List (Nat × Nat)) : Array Bool → List Nat → Prop
 | _, [] => True
 | listed, j :: l => (∀ p ∈ X, p.2 = j → listed.getD p.1 false = true) ∧ RespL X (listed.setIfInBounds j true) l
theorem resp_done {a b : Nat} : ∀ (l : List Nat) (listed : Array Bool), listed.getD a false = true → RespL [(a, b)] listed l
 | [], _, _ => trivial
 | j :: l, listed, h => ⟨fun p hp _ => by rw [List.mem_singleton.1 hp]; exact h, resp_done l _ (by
   by_cases hj : j < listed.size
   ·exact (set_listed hj).2 (.inr h)
   ·rw [Array.setIfInBounds_eq_of_size_le (by omega)]; exact h)⟩
theorem resp_either {ops : Array Oper} {a b : Nat} (hab : a ≠ b) : ∀ (l : List Nat) (listed : Array Bool), listed.size = ops.size → ValidL ops listed l → RespL [(a, b)] listed l ∨ RespL [(b, a)] listed l
 | [], _, _, _ => .inl trivial
 | j :: l, listed, hs, hv => by
  have hj : j < listed.size := by
   obtain ⟨_, o, h2, _⟩ := mem_ready.1 hv.1
   rw [hs]; exact (Array.getElem?_eq_some_iff.1 h2).1
  by_cases h1 : j = a
  ·subst h1
   exact .inl ⟨fun p hp he => by rw [List.mem_singleton.1 hp] at he; exact absurd he.symm hab, resp_done l _ ((set_listed hj).2 (.inl rfl))⟩
  ·by_cases h2 : j = b
   ·subst h2
    exact .inr ⟨fun p hp he => by rw [List.mem_singleton.1 hp] at he; exact absurd he hab, resp_done l _ ((set_listed hj).2 (.inl rfl))⟩
   ·rcases resp_either hab l (listed.setIfInBounds j true) (by simpa using hs) hv.2 with h | h
    ·exact .inl ⟨fun p hp he => by rw [List.mem_singleton.1 hp] at he; exact absurd he.symm h2, h⟩
    ·exact .inr ⟨fun p hp he => by rw [List.mem_singleton.1 hp] at he; exact absurd he.symm h1, h⟩
theorem resp_cons {p : Nat × Nat} {X : List (Nat × Nat)} : ∀ (l : List Nat) (listed : Array Bool), RespL [p] listed l → RespL X listed l → RespL (p :: X) listed l
 | [], _, _, _ => trivial
 | _ :: l, _, h1, h2 => ⟨fun q hq he => by
   rcases List.mem_cons.1 hq with rfl | hq
   ·exact h1.1 q (List.mem_singleton.2 rfl) he
   ·exact h2.1 q hq he, resp_cons l _ h1.2 h2.2⟩
theorem resp_nil : ∀ (l : List Nat) (listed : Array Bool), RespL [] listed l
 | [], _ => trivial
 | _ :: l, _ => ⟨fun _ hq => by simp at hq, resp_nil l _⟩
theorem ready_nil_all {ops : Array Oper} (hfree : ∀ (i : Nat) (o : Oper), ops[i]? = some o → ∀ e ∈ o.after, bindsB e = true → e.on < i) {listed : Array Bool} (hs : listed.size = ops.size) (h : Region.ready .any ops listed = []) : ∀ i, i < ops.size → listed.getD i false = true := by
 intro i
 induction i using Nat.strongRecOn with
 | _ i ih =>
  intro hi
  cases hl : listed.getD i false with
  | true => rfl
  | false =>
   exfalso
   have hl' : listed.getD i true = false := by
    have hb : i < listed.size := by omega
    simp [hb] at hl ⊢
    exact hl
   have : i ∈ Region.ready .any ops listed := mem_ready.2 ⟨hl', ops[i], Array.getElem?_eq_getElem hi, fun e he hb => by
    rw [binds_any] at hb
    have hlt := hfree i ops[i] (Array.getElem?_eq_getElem hi) e he hb
    exact ih e.on hlt (by omega)⟩
   rw [h] at this
   simp at this
theorem valid_virt {π : List Nat} {X : List (Nat × Nat)} {ops : Array Oper} (hv : VirtOk π ops) (hX : ∀ p ∈ X, p.1 < ops.size) : ∀ (l : List Nat) (l0 l1 : Array Bool), l0.size = ops.size → l1.size = ops.size → (∀ j, j < ops.size → l1.getD (posL π j) false = l0.getD j false) →
  ValidL ops l0 l → RespL X l0 l → ∃ l', l = l'.map (getD0 π) ∧ ValidL (virtOps π X ops) l1 l'
 | [], l0, l1, hs0, hs1, he, hl, _ => by
  refine ⟨[], rfl, ?_⟩
  have hall := ready_nil_all (fun i o ho => (hv.free i o ho).2) hs0 hl
  apply List.eq_nil_iff_forall_not_mem.2
  intro k hk
  obtain ⟨h1, o, h2, _⟩ := mem_ready.1 hk
  obtain ⟨_, hk', _, _⟩ := virt_get hv h2
  obtain ⟨b1, b2⟩ := hv.back k hk'
  have := he _ b2
  rw [b1, hall _ b2] at this
  have hb : k < l1.size := by omega
  simp [hb] at h1 this
  rw [h1] at this
  simp at this
 | j :: l, l0, l1, hs0, hs1, he, hl, hr => by
  obtain ⟨hm, hl⟩ := hl
  obtain ⟨hr1, hr⟩ := hr
  obtain ⟨h1, o, h2, h3⟩ := mem_ready.1 hm
  have hj := (Array.getElem?_eq_some_iff.1 h2).1
  obtain ⟨f1, f2⟩ := hv.forth j hj
  have hset : ∀ i, i < ops.size → (l1.setIfInBounds (posL π j) true).getD (posL π i) false = (l0.setIfInBounds j true).getD i false := fun i hi => by
   by_cases hij : i = j
   ·subst hij
    rw [(set_listed (by omega)).2 (.inl rfl), (set_listed (by omega)).2 (.inl rfl)]
   ·have : posL π i ≠ posL π j := fun e => hij (by rw [← (hv.forth i hi).1, e, f1])
    rw [set_unlisted this, set_unlisted hij]
    exact he i hi
  obtain ⟨l', hl1, hl2⟩ := valid_virt hv hX l (l0.setIfInBounds j true) (l1.setIfInBounds (posL π j) true) (by simpa using hs0) (by simpa using hs1) hset hl hr
  refine ⟨posL π j :: l', by simp only [List.map_cons, f1, hl1], mem_ready.2 ⟨?_, ?_⟩, hl2⟩
  ·have := he j hj
   have hb : posL π j < l1.size := by omega
   have hb0 : j < l0.size := by omega
   simp [hb, hb0] at this h1 ⊢
   rw [this]; exact h1
  ·have hsz : posL π j < (virtOps π X ops).size := by simp [virtOps, hv.len]; exact f2
   refine ⟨(virtOps π X ops)[posL π j], Array.getElem?_eq_getElem hsz, fun e hmem hb => ?_⟩
   obtain ⟨o0, _, g1, g2⟩ := virt_get (X := X) hv (Array.getElem?_eq_getElem hsz)
   rw [f1, h2] at g1
   cases g1
   rw [g2] at hmem
   simp only [virtEdges, f1, List.mem_toArray, List.mem_append, List.mem_map, List.mem_filter, Array.mem_toList_iff] at hmem
   rcases hmem with ⟨e0, ⟨k1, k2⟩, rfl⟩ | ⟨p, ⟨k1, k2⟩, rfl⟩
   ·have hlt := (hv.free j o h2).2 e0 k1 k2
    show l1.getD (posL π e0.on) false = true
    rw [he e0.on (by omega)]
    exact h3 e0 k1 (by rw [binds_any]; exact k2)
   ·show l1.getD (posL π p.1) false = true
    rw [he p.1 (hX p k1)]
    exact hr1 p k1 (Nat.eq_of_beq_eq_true k2)
end
end Go.Ev
end

/-! SyG -/
section
namespace Go.Ev
open Go.RowKit
noncomputable section
variable {E : Env} {rec : RunT} {lvl K : Nat} {r : Res → Prop}
def OutR (E : Env) (lvl K : Nat) (ops : Array Oper) (X : List (Nat × Nat)) (h : Heap) (todo : List Item) (tm : Tm) (r : Res → Prop) : Prop :=
 ∀ (fr : Frame) (t : Array Value) (cs : List Frame) (w : World) (m : M) (base : Nat) (L : List Nat), RdOk m K none fr → TR m tm t → HR m base lvl h w → GR E.gl base w → K ≤ m.n → ValidL ops (Array.replicate ops.size false) L → RespL X (Array.replicate ops.size false) L →
  ∃ q, r q ∧ ∃ t' todo' w' m', Steps E.P (lone (FR fr t (.inRegion ops L :: todo)) cs w) (lone (FR { fr with defers := marksC m' q.marks ++ fr.defers } t' todo') cs w') ∧ TR m' q.tm t' ∧ HR m' base lvl q.heap w' ∧ M.leK base K m m' ∧ Below base w w' ∧ EndOk q.jump todo' ∧ ∀ b ∈ q.marks, b < m'.n
theorem outR_leaf (hE : EnvOk E) (hrec : RecOk E rec) {ops : Array Oper} {X : List (Nat × Nat)} (π : List Nat) (a : List (Nat × Ans)) (g : List (Nat × Bool)) {h h1 : Heap} {tm tm1 : Tm} {ps : List Prop} (hok : (okVirt π ops && X.all fun p => Nat.blt p.1 (lenL ops.toList)) = true)
  (hd : drawV E rec a g lvl (virtOps π X ops) h tm = some (h1, tm1, ps)) (hp : AllP ps) {todo : List Item} (ho : OutK E lvl K ⟨h1, todo, tm1⟩ r) : OutR E lvl K ops X h todo tm r := by
 simp only [Bool.and_eq_true, List.all_eq_true, lenL_eq, Nat.blt_eq] at hok
 have hv := okVirt_spec hok.1
 have hX : ∀ p ∈ X, p.1 < ops.size := fun p hp => by simpa using hok.2 p hp
 intro fr t cs w m base L hR hT H G hK hL hr
 have hsz : (virtOps π X ops).size = ops.size := by simp [virtOps, hv.len]
 obtain ⟨L', rfl, hL'⟩ := valid_virt hv hX L (Array.replicate ops.size false) (Array.replicate (virtOps π X ops).size false) (by simp) (by simp [hsz]) (fun j hj => by
  have := (hv.forth j hj).2
  rw [hsz]
  simp [hj, this]) hL hr
 obtain ⟨t1, w1, m1, hst, hT1, H1, hle, hB⟩ := drawList_sound (sigV_ok hE hrec a) (virt_virt (X := X) hv) hL' hT H G (drawV_sim hd hp) fr cs todo
 obtain ⟨q, hq, t', todo', w', m', g1, g2, g3, g4, g5, g6⟩ := ho fr t1 cs w1 m1 base (hR.leG hK hle) hT1 H1 (G.below hB) (Nat.le_trans hK hle.n)
 exact ⟨q, hq, t', todo', w', m', Steps.trans hst g1, g2, g3, (M.leK.of_le hK hle).trans g4, hB.trans g5, g6⟩
theorem outR_split {ops : Array Oper} {X : List (Nat × Nat)} (a b : Nat) (hab : Nat.beq a b = false) {h : Heap} {todo : List Item} {tm : Tm} (h1 : OutR E lvl K ops ((a, b) :: X) h todo tm r) (h2 : OutR E lvl K ops ((b, a) :: X) h todo tm r) : OutR E lvl K ops X h todo tm r := by
 intro fr t cs w m base L hR hT H G hK hL hr
 rcases resp_either (a := a) (b := b) (fun e => by subst e; simp at hab) L _ (by simp) hL with h | h
 ·exact h1 fr t cs w m base L hR hT H G hK hL (resp_cons L _ h hr)
 ·exact h2 fr t cs w m base L hR hT H G hK hL (resp_cons L _ h hr)
theorem outK_draw (hE : EnvOk E) {ops : Array Oper} {h : Heap} {tm : Tm} {id : Nat} {todo : List Item} (ho : OutR E lvl K ops [] h todo tm r) : OutK E lvl K ⟨h, .code (.region id ops true) :: todo, tm⟩ r := by
 intro fr t cs w m base hR hT H G hK
 have hB0 : Below base w { w with drawn := w.drawn + 1 } := ⟨rfl, rfl, rfl, Nat.le_refl _, fun _ _ => rfl⟩
 have H0 : HR m base lvl h { w with drawn := w.drawn + 1 } := H.world (Nat.le_refl _) fun _ _ => rfl
 have hv := go_valid (ops := ops) ops.size (w.tape w.drawn (.order fr.fn id)) (Array.replicate ops.size false) (List.range ops.size) (fun i hi _ => List.mem_range.2 hi) (by simp)
 have e : Region.schedule (E.P.follows .mixedOrders) ops (w.tape w.drawn (.order fr.fn id)) = Region.linearise.go .any ops ops.size (w.tape w.drawn (.order fr.fn id)) (Array.replicate ops.size false) [] := by
  simp only [Region.schedule, hE.mixed, Bool.true_or, if_true]
  rfl
 rw [← e] at hv
 have first : Steps E.P (lone (FR fr t (.code (.region id ops true) :: todo)) cs w) (lone (FR fr t (.inRegion ops (Region.schedule (E.P.follows .mixedOrders) ops (w.tape w.drawn (.order fr.fn id))) :: todo)) cs { w with drawn := w.drawn + 1 }) := .one stepF_regionDraw
 obtain ⟨q, hq, t', todo', w', m', j1, j2, j3, j4, j5, j6⟩ := ho fr t cs { w with drawn := w.drawn + 1 } m base _ hR hT H0 (G.below hB0) hK hv (resp_nil _ _)
 exact ⟨q, hq, t', todo', w', m', Steps.trans first j1, j2, j3, j4, hB0.trans j5, j6⟩
def segD (E : Env) (rec : RunT) (lvl : Nat) (a : List (Nat × Ans)) (g : List (Nat × Bool)) (ops : Array Oper) (ks : List Nat) (j : Nat → Value) (h : Heap) (todo : List Item) (tm : Tm) : Option (St × List Prop) :=
 match drawV E rec a g lvl ops h tm with
 | some (h1, tm1, ps) => some (⟨h1, todo, forgetT ks j tm1 0⟩, ps)
 | none => none
theorem outR_seg (hE : EnvOk E) (hrec : RecOk E rec) {ops : Array Oper} {X : List (Nat × Nat)} (π : List Nat) (a : List (Nat × Ans)) (g : List (Nat × Bool)) (ks : List Nat) {h : Heap} {tm : Tm} {s' : (Nat → Value) → St} {ps : List Prop} {todo : List Item} (hok : (okVirt π ops && X.all fun p => Nat.blt p.1 (lenL ops.toList)) = true)
  (hd : ∀ j, segD E rec lvl a g (virtOps π X ops) ks j h todo tm = some (s' j, ps)) (hp : AllP ps) (ho : ∀ j, OutK E lvl K (s' j) r) : OutR E lvl K ops X h todo tm r := by
 cases hc : drawV E rec a g lvl (virtOps π X ops) h tm with
 | none => have := hd (fun _ => undef); simp [segD, hc] at this
 | some p =>
  obtain ⟨h1, tm1, qs⟩ := p
  have hq : qs = ps := by have := hd (fun _ => undef); simp [segD, hc] at this; exact this.2
  subst hq
  refine outR_leaf hE hrec π a g hok hc hp (outK_forget ks fun j => ?_)
  have := hd j
  simp only [segD, hc, Option.some.injEq, Prod.mk.injEq] at this
  rw [this.1]
  exact ho j
theorem outK_draw' (hE : EnvOk E) {ops : Array Oper} {h : Heap} {tm : Tm} {id : Nat} {todo : List Item} {s : St} (hs : s = ⟨h, .code (.region id ops true) :: todo, tm⟩) (ho : OutR E lvl K ops [] h todo tm r) : OutK E lvl K s r := by
 subst hs
 exact outK_draw hE ho
def opsOf : Code → Array Oper
 | .region _ ops _ => ops
 | _ => #[]
def idOf : Code → Nat
 | .region n _ _ => n
 | _ => 0
end
end Go.Ev
end

/-! SyP -/
section
namespace Go.Ev
open Go.RowKit
noncomputable section
variable {E : Env} {rec : RunT} {lvl K : Nat} {r : Res → Prop} {rd : Option Nat}
end
end Go.Ev
end

/-! SeEnv -/
section
open Go Go.Ev
namespace Go.Proofs.YtpnkginbmoniiaaGreatDoor
noncomputable section
def tabPow : List Value := (List.range 20).map fun i => Value.int .u64 (Int.ofNat (10 ^ i))
def writers : FuncId → Bool := fun f => [86, 87, 121, 122, 136, 137, 141, 151, 157, 158, 161, 173, 174, 175, 176, 177, 178, 179, 180, 182, 183, 191, 193, 194, 195, 199, 201].contains f
def hooks : FuncId → Hook := fun f => if f = 173 then .copyCheck else if f = 134 then .join else .none
def E : Env := Env.mk Tryz.prog [(1, tabPow)] writers hooks 229
end
end Go.Proofs.YtpnkginbmoniiaaGreatDoor
end

/-! SeH -/
section
open Go Go.Ev
namespace Go.Proofs.YtpnkginbmoniiaaGreatDoor
noncomputable section
def R0 : RunT := rec0
theorem R0_ok {E : Env} (_ : EnvOk E) : RecOk E R0 := rec0_ok E
def R4 : RunT := run E 4000
theorem R4_ok (hE : EnvOk E) : RecOk E R4 := run_sound hE 4000
theorem wrap_id {n : Int} (h0 : -9223372036854775808 ≤ n) (h1 : n ≤ 9223372036854775807) : wrapF .i64 n = n := by
 rw [wrapF_eq]
 exact IntWalk.i64_in n (by omega)
theorem aP {p : Prop} {l : List Prop} (h : p) (t : AllP l) : AllP (p :: l) := ⟨h, t⟩
theorem aN {l : List Prop} (t : AllP l) : AllP ((([] : List Nat) = []) :: l) := ⟨rfl, t⟩
theorem aZ : AllP [] := trivial
abbrev Sg (l K : Nat) (a b : (Nat → Value) → St) : Prop := ∀ {Φ : Res → Prop}, (∀ j, OutK E l K (b j) Φ) → ∀ j, OutK E l K (a j) Φ
end
end Go.Proofs.YtpnkginbmoniiaaGreatDoor
end

/-! SeLem -/
section
open Go Go.Ev
namespace Go.Proofs.YtpnkginbmoniiaaGreatDoor
noncomputable section
theorem iIe {a b : Int} (h : a = b) : (iI a : AV) = iI b := by rw [h]
theorem wrap_u8 (n : Int) : wrapF .u8 n = n % 256 := by rw [wrapF_eq, IntKind.wrap_u8]
theorem iUe {a b : Int} (h : a = b) : (iU a : AV) = iU b := by rw [h]
end
end Go.Proofs.YtpnkginbmoniiaaGreatDoor
end

/-! SyK -/
section
namespace Go.Ev
open Go.RowKit
noncomputable section
section
variable {E : Env} {lvl : Nat}
def FrzC (i : Nat) (ds : List DT) (x x' : AC) : Prop := x' = x ∨ ∃ o len sz cap ex r, x = .slc i o len sz cap ex ∧ x' = .dp (.s r len sz) ∧ takeL (dropL ds o) (len * sz) = some r
def FrzE (i : Nat) (ds : List DT) : AE → AE → Prop
 | .one x, .one x' => FrzC i ds x x'
 | .agg l, .agg l' => All2 (FrzC i ds) l l'
 | _, _ => False
def FrzV (i : Nat) (ds : List DT) : AV → AV → Prop
 | .e x, .e x' => FrzE i ds x x'
 | .tup l, .tup l' => All2 (FrzE i ds) l l'
 | _, _ => False
theorem DT.Rl.of_all2 {m : M} : ∀ {ds : List DT} {ys : List Value}, All2 (CR m) (ds.map DT.ac) ys → DT.Rl m.F ds ys
 | [], _, _ => by simp [DT.Rl]
 | d :: ds, [], h => h.elim
 | d :: ds, y :: ys, h => by
  simp only [DT.Rl]
  refine ⟨y, ys, rfl, ?_, DT.Rl.of_all2 h.2⟩
  have h1 : CR m d.ac y := h.1
  cases d with
  | v x => simpa [DT.R, DT.ac, CR] using h1
  | s c n sz => exact h1
theorem DT.Rl.more {F : List (Nat × List Value)} : ∀ {l : List DT} {ys zs : List Value}, DT.Rl F l ys → DT.Rl F l (ys ++ zs)
 | [], _, _, _ => by simp [DT.Rl]
 | d :: l, ys, zs, r => by
  simp only [DT.Rl] at r ⊢
  obtain ⟨y, r', rfl, h1, h2⟩ := r
  exact ⟨y, r' ++ zs, rfl, h1, DT.Rl.more h2⟩
theorem CR.rest {m m2 : M} {w : World} {i : Nat} {ds : List DT} {N el : Nat} {fl : Bool} (B : BR m w i ⟨ds.map DT.ac, N, el, fl, .cells⟩) {c : Array Value} {fz : Nat × Nat} (hc : w.heap[m.ρ i]? = some (.cells c el fz)) (hF : ∀ p ∈ m.F, p ∈ m2.F) (hp : (m.ρ i, c.toList) ∈ m2.F)
  {o len sz cap : Nat} {ex : Bool} {r : List DT} (hr : takeL (dropL ds o) (len * sz) = some r) {y : Value} (hy : CR m (.slc i o len sz cap ex) y) : DV.R m2.F (.s r len sz) y := by
 obtain ⟨hb, cc, o', rfl, g0, g1, g1', g2, g3, g4⟩ := hy
 obtain ⟨b1, b2, c', fz', b3, b4, b5, b6, b7⟩ := B
 have b3 : w.heap[m.ρ i]? = some (.cells c' el fz') := b3
 rw [hc] at b3
 simp only [Option.some.injEq, Obj.cells.injEq] at b3
 obtain ⟨rfl, _, _⟩ := b3
 show DT.R m2.F (.s r len sz) _
 simp only [DT.R]
 rcases Nat.eq_zero_or_pos len with rfl | h0
 ·exact .inl ⟨rfl, _, _, rfl⟩
 ·obtain rfl : o' = o := by rcases g0 with g0 | g0 <;> omega
  obtain ⟨t1, rfl⟩ := takeL_some hr
  rw [dropL_eq] at t1
  have hsz : c.toList.length = m.κ i := by simpa using b4
  refine .inr ⟨h0, m.ρ i, o', cc, c.toList, rfl, by omega, g2, hp, by omega, by rw [dropL_eq, List.length_take]; omega, ?_⟩
  have hR := ((DT.Rl.of_all2 (m := m) b7).mono hF).more (zs := c.toList.drop N)
  rw [List.take_append_drop] at hR
  rw [dropL_eq]
  exact (hR.drop o').pre (len * sz)
theorem FrzC.sound {m m2 : M} {w : World} {i : Nat} {ds : List DT} {N el : Nat} {fl : Bool} (B : BR m w i ⟨ds.map DT.ac, N, el, fl, .cells⟩) {c : Array Value} {fz : Nat × Nat} (hc : w.heap[m.ρ i]? = some (.cells c el fz)) {bs : Nat} (hle : M.leG bs m m2) (hp : (m.ρ i, c.toList) ∈ m2.F)
  {x x' : AC} {y : Value} (h : FrzC i ds x x') (hy : CR m x y) : CR m2 x' y := by
 rcases h with rfl | ⟨o, len, sz, cap, ex, r, rfl, rfl, hr⟩
 ·exact CR.monoG hle hy
 ·exact CR.rest B hc hle.F hp hr hy
theorem all2_map {α β γ : Type} {R : α → β → Prop} {T : α → γ → Prop} {S : γ → β → Prop} (hi : ∀ a b c, T a c → R a b → S c b) : ∀ {l : List α} {l' : List γ} {ys : List β}, All2 T l l' → All2 R l ys → All2 S l' ys
 | [], [], [], _, _ => trivial
 | _ :: _, _ :: _, _ :: _, h1, h2 => ⟨hi _ _ _ h1.1 h2.1, all2_map hi h1.2 h2.2⟩
 | [], [], _ :: _, _, h => h.elim
 | [], _ :: _, _, h, _ => h.elim
 | _ :: _, [], _, h, _ => h.elim
 | _ :: _, _ :: _, [], _, h => h.elim
theorem FrzE.sound {m m2 : M} {w : World} {i : Nat} {ds : List DT} {N el : Nat} {fl : Bool} (B : BR m w i ⟨ds.map DT.ac, N, el, fl, .cells⟩) {c : Array Value} {fz : Nat × Nat} (hc : w.heap[m.ρ i]? = some (.cells c el fz)) {bs : Nat} (hle : M.leG bs m m2) (hp : (m.ρ i, c.toList) ∈ m2.F) :
  ∀ {x x' : AE} {y : Value}, FrzE i ds x x' → ER m x y → ER m2 x' y
 | .one _, .one _, _, h, hy => FrzC.sound B hc hle hp h hy
 | .agg _, .agg _, _, h, hy => by
  obtain ⟨cs, h1, h2⟩ := hy
  exact ⟨cs, h1, all2_map (R := CR m) (T := FrzC i ds) (S := CR m2) (fun a b c' h0 h3 => FrzC.sound B hc hle hp h0 h3) (show All2 (FrzC i ds) _ _ from h) h2⟩
 | .one _, .agg _, _, h, _ => h.elim
 | .agg _, .one _, _, h, _ => h.elim
theorem FrzV.sound {m m2 : M} {w : World} {i : Nat} {ds : List DT} {N el : Nat} {fl : Bool} (B : BR m w i ⟨ds.map DT.ac, N, el, fl, .cells⟩) {c : Array Value} {fz : Nat × Nat} (hc : w.heap[m.ρ i]? = some (.cells c el fz)) {bs : Nat} (hle : M.leG bs m m2) (hp : (m.ρ i, c.toList) ∈ m2.F) :
  ∀ {x x' : AV} {y : Value}, FrzV i ds x x' → VR m x y → VR m2 x' y
 | .e _, .e _, _, h, hy => FrzE.sound B hc hle hp h hy
 | .tup _, .tup _, _, h, hy => by
  obtain ⟨cs, h1, h2⟩ := hy
  exact ⟨cs, h1, all2_map (R := ER m) (T := FrzE i ds) (S := ER m2) (fun a b c' h0 h3 => FrzE.sound B hc hle hp h0 h3) (show All2 (FrzE i ds) _ _ from h) h2⟩
 | .e _, .tup _, _, h, _ => h.elim
 | .tup _, .e _, _, h, _ => h.elim
theorem HR.freeze {m : M} {base : Nat} {h : Heap} {w : World} (H : HR m base lvl h w) {i : Nat} {ds : List DT} {N el : Nat} {fl : Bool} (hi : h[i]? = some (some ⟨ds.map DT.ac, N, el, fl, .cells⟩)) (hl : lvl ≤ i) :
  ∃ m2, HR m2 base lvl (h.set i none) w ∧ M.leG base m m2 ∧ m2.n = m.n ∧ m2.ρ = m.ρ ∧ m2.κ = m.κ ∧ (∀ x x' y, FrzV i ds x x' → VR m x y → VR m2 x' y) ∧ (∀ x x' y, FrzC i ds x x' → CR m x y → CR m2 x' y) := by
 have B := H.blk i _ hi rfl
 obtain ⟨b1, b2, c, fz, b3, b4, b5, b6, b7⟩ := id B
 have hil := (List.getElem?_eq_some_iff.1 hi).1
 let m2 : M := { n := m.n, ρ := m.ρ, κ := m.κ, lo := m.lo, F := (m.ρ i, c.toList) :: m.F }
 have hle : M.leG base m m2 := ⟨Nat.le_refl _, fun _ _ => rfl, fun _ _ => rfl, rfl, fun p hp => List.mem_cons_of_mem _ hp, fun p hp => by
  rcases List.mem_cons.1 hp with rfl | hp
  ·exact .inr (H.own i hl hil)
  ·exact .inl hp⟩
 have hK := H.kill i
 refine ⟨m2, ⟨hK.n, hK.lvlLe, hK.baseLe, fun b a hb => (hK.ent b a hb).monoG hle (by rw [hK.n]; exact (List.getElem?_eq_some_iff.1 hb).1), hK.own, hK.inj, hK.lo, fun p hp => ?_⟩, hle, rfl, rfl, rfl,
  fun x x' y hx hy => FrzV.sound B b3 hle (List.mem_cons_self ..) hx hy, fun x x' y hx hy => FrzC.sound B b3 hle (List.mem_cons_self ..) hx hy⟩
 rcases List.mem_cons.1 hp with rfl | hp
 ·refine ⟨⟨c, el, fz, b3, rfl⟩, fun b a hb ha he => ?_⟩
  have ha' := alive_set ha
  exact ha'.2 (H.inj b i (List.getElem?_eq_some_iff.1 ha'.1).1 hil ⟨a, ha'.1⟩ ⟨_, hi⟩ (.inr (Nat.le_trans H.lo hl)) he)
 ·exact hK.tab p hp
theorem cOut_freeze {f : FuncId} {hin : Heap} {args : List AV} {v v' : AV} {hout : Heap} (i : Nat) {ds : List DT} {N el : Nat} {fl : Bool} (hc : COut E lvl hin f args v hout) (hi : getL hout i = some (some ⟨ds.map DT.ac, N, el, fl, .cells⟩)) (hl : lvl ≤ i) (hv : FrzV i ds v v') :
  COut E lvl hin f args v' (setL hout i none) := by
 rw [getL_eq] at hi
 rw [setL_eq]
 intro m base w argsC ha H G
 refine (hc m base w argsC ha H G).mono fun e w' ⟨y, hy, m1, hp⟩ => ⟨y, hy, ?_⟩
 obtain ⟨m2, H2, hle, hn, hρ, hκ, hV, _⟩ := hp.heap.freeze hi hl
 exact ⟨m2, hp.le.trans hle, hV _ _ _ hv hp.val, H2, hp.below⟩
def LendC (h : Heap) (x x' : AC) : Prop := (x' = x ∧ x.refs = []) ∨ ∃ i o len sz cap ex r ds N el fl, x = .slc i o len sz cap ex ∧ x' = .dp (.s r len sz) ∧ getL h i = some (some ⟨ds.map DT.ac, N, el, fl, .cells⟩) ∧ takeL (dropL ds o) (len * sz) = some r
def LendE (h : Heap) : AE → AE → Prop
 | .one x, .one x' => LendC h x x'
 | .agg l, .agg l' => All2 (LendC h) l l'
 | _, _ => False
def LendV (h : Heap) : AV → AV → Prop
 | .e x, .e x' => LendE h x x'
 | _, _ => False
theorem lendTabs {m : M} {base : Nat} {w : World} : ∀ (h : Heap), (∀ b a, h[b]? = some (some a) → EntR m w b a) → ∀ k, k ≤ h.length → ∃ F : List (Nat × List Value), (∀ p ∈ F, ∃ (c : Array Value) (t : TypeId) (fz : Nat × Nat), w.heap[p.1]? = some (.cells c t fz) ∧ c.toList = p.2) ∧
  ∀ i a, i < k → h[i]? = some (some a) → a.ext = .cells → ∃ (c : Array Value) (fz : Nat × Nat), w.heap[m.ρ i]? = some (.cells c a.elem fz) ∧ (m.ρ i, c.toList) ∈ F
 | h, hent, 0, _ => ⟨[], by simp, fun i a hi => by omega⟩
 | h, hent, k + 1, hk => by
  obtain ⟨F, h1, h2⟩ := lendTabs (base := base) h hent k (by omega)
  by_cases hx : ∃ a, h[k]? = some (some a) ∧ a.ext = .cells
  ·obtain ⟨a, ha, hc⟩ := hx
   obtain ⟨b1, b2, c, fz, b3, _⟩ := (hent k a ha).1 hc
   refine ⟨(m.ρ k, c.toList) :: F, fun p hp => ?_, fun i a' hi ha' hc' => ?_⟩
   ·rcases List.mem_cons.1 hp with rfl | hp
    ·exact ⟨c, a.elem, fz, b3, rfl⟩
    ·exact h1 p hp
   ·by_cases hik : i = k
    ·subst hik
     rw [ha] at ha'
     simp only [Option.some.injEq] at ha'
     subst ha'
     exact ⟨c, fz, b3, List.mem_cons_self ..⟩
    ·obtain ⟨c', fz', g1, g2⟩ := h2 i a' (by omega) ha' hc'
     exact ⟨c', fz', g1, List.mem_cons_of_mem _ g2⟩
  ·refine ⟨F, h1, fun i a' hi ha' hc' => ?_⟩
   by_cases hik : i = k
   ·subst hik; exact absurd ⟨a', ha', hc'⟩ hx
   ·exact h2 i a' (by omega) ha' hc'
theorem cOut_lend {f : FuncId} {args args' : List AV} {v : AV} (h : Heap) (hc : COut E 0 [] f args' v []) (ha : All2 (LendV h) args args') (hv : v.refs = []) (hf : v.flat = true) : COut E lvl h f args v h := by
 intro m base w argsC hA H G
 obtain ⟨F, h1, h2⟩ := lendTabs (base := base) h H.ent h.length (Nat.le_refl _)
 let mc : M := { n := 0, ρ := m.ρ, κ := m.κ, lo := 0, F := F ++ m.F }
 have Hc : HR mc w.heap.size 0 [] w := ⟨rfl, Nat.le_refl _, Nat.le_refl _, fun b a hb => by simp at hb, fun b _ hb => by simp at hb, fun b b' hb => by simp at hb, Nat.le_refl _, fun p hp => ⟨by
  rcases List.mem_append.1 hp with hp | hp
  ·exact h1 p hp
  ·exact (H.tab p hp).1, fun b a _ hb => by simp at hb⟩⟩
 let mg : M := { n := m.n, ρ := m.ρ, κ := m.κ, lo := m.lo, F := F ++ m.F }
 have lc : ∀ x x' y, LendC h x x' → CR m x y → CR mc x' y := by
  intro x x' y hx hy
  rcases hx with ⟨rfl, hr⟩ | ⟨i, o, len, sz, cap, ex, r, ds, N, el, fl, rfl, rfl, hi, hr⟩
  ·exact CR.free (m1 := m) (m2 := mc) (fun p hp => List.mem_append_right _ hp) hr hy
  ·rw [getL_eq] at hi
   obtain ⟨c, fz, g1, g2⟩ := h2 i _ (List.getElem?_eq_some_iff.1 hi).1 hi rfl
   exact CR.rest (m2 := mc) (H.blk i _ hi rfl) g1 (fun p hp => List.mem_append_right _ hp) (List.mem_append_left _ g2) hr hy
 have lv : ∀ x y x', LendV h x x' → VR m x y → VR mc x' y := by
  intro x y x' hx hy
  match x, x', hx with
  | .e (.one x), .e (.one x'), hx => exact lc x x' y hx hy
  | .e (.agg l), .e (.agg l'), hx =>
   obtain ⟨cs, k1, k2⟩ := hy
   exact ⟨cs, k1, all2_map (R := CR m) (T := LendC h) (S := CR mc) (fun a b c' h0 h3 => lc a c' b h0 h3) (show All2 (LendC h) _ _ from hx) k2⟩
 have hA' : All2 (VR mc) args' argsC.toList := all2_map (R := VR m) (T := LendV h) (S := VR mc) (fun a b c' h0 h3 => lv a b c' h0 h3) ha hA
 refine (hc mc w.heap.size w argsC hA' Hc (G.up H.baseLe)).mono fun e w' ⟨y, hy, m1, hp⟩ => ⟨y, hy, m, M.leG.refl _ m, ?_, H.world hp.below.size hp.below.block, hp.below.mono H.baseLe⟩
 have hd := VR.downG hp.le (.inl hf) (fun b hb => by rw [hv] at hb; simp at hb) hp.val
 -- nothing in it leads anywhere
 have flatC : ∀ (x : AC) (y : Value), x.flat = true → x.refs = [] → CR mc x y → CR m x y := fun x y hf hr h => by
  cases x with
  | v _ => exact h
  | any _ => exact h
  | dp _ => simp [AC.flat] at hf
  | ptr => simp [AC.refs] at hr
  | slc => simp [AC.refs] at hr
  | yld => simp [AC.refs] at hr
  | mp => simp [AC.refs] at hr
  | clo g fs cs =>
   simp only [AC.refs, List.append_eq_nil_iff] at hr
   simp only [AC.flat, Bool.and_eq_true] at hf
   obtain ⟨vf, vc, hy, h1, h2⟩ := h
   have key : ∀ {l : List CE}, l.flatMap CE.refs = [] → (l.all fun e => e.atoms.all CA.flat) = true → ∀ e ∈ l, ∀ c ∈ e.atoms, ∀ y, CR mc c.ac y → CR m c.ac y := fun {l} hl hfl e he c hc y hr' => by
    have h0 : c.refs = [] := List.flatMap_eq_nil_iff.1 (List.flatMap_eq_nil_iff.1 hl e he) c hc
    have h3 := List.all_eq_true.1 (List.all_eq_true.1 hfl e he) c hc
    cases c with
    | v _ => exact hr'
    | dp _ => simp [CA.flat] at h3
    | _ => simp [CA.refs] at h0
   exact ⟨vf, vc, hy, CEs.to (key hr.1 hf.1) h1, CEs.to (key hr.2 hf.2) h2⟩
 have flatE : ∀ (x : AE) (y : Value), x.flat = true → x.refs = [] → ER mc x y → ER m x y := fun x y hf hr h => by
  cases x with
  | one x => exact flatC x y hf hr h
  | agg l =>
   obtain ⟨cs, k1, k2⟩ := h
   simp only [AE.refs, List.flatMap_eq_nil_iff] at hr
   exact ⟨cs, k1, all2_free (fun a ha b hb => flatC a b (List.all_eq_true.1 hf a ha) (hr a ha) hb) k2⟩
 cases v with
 | e x => exact flatE x y hf hv hd
 | tup l =>
  obtain ⟨cs, k1, k2⟩ := hd
  simp only [AV.refs, List.flatMap_eq_nil_iff] at hv
  exact ⟨cs, k1, all2_free (fun a ha b hb => flatE a b (List.all_eq_true.1 hf a ha) (hv a ha) hb) k2⟩
end
end
end Go.Ev
end

/-! SyL -/
section
namespace Go.Ev
open Go.RowKit
noncomputable section
variable {E : Env} {rec : RunT} {lvl K : Nat} {r : Res → Prop} {rd : Option Nat}
end
end Go.Ev
end

/-! SyO -/
section
namespace Go.Ev
open Go.RowKit
noncomputable section
section
variable {E : Env} {lvl K : Nat} {rd : Option Nat} {Φ : Res → Prop}
end
end
end Go.Ev
end

/-! SyArg -/
section
namespace Go.Ev
open Go.RowKit Go.WideShapes Go.ChangeShapes
noncomputable section
theorem cells_block {W : World} {b o n : Nat} {vs : List Value} (h : W.cells? 0 ⟨b, o, none⟩ n = some vs) (h0 : 0 < n) :
  ∃ (c : Array Value) (ty : TypeId) (fz : Nat × Nat), W.heap[b]? = some (.cells c ty fz) ∧ o + n ≤ c.size ∧ vs = (c.toList.drop o).take n := by
 unfold World.cells? at h
 rw [if_pos (Nat.zero_le _)] at h
 have hl : vs.length = n := by simpa using mapM_some_length h
 have hg : ∀ i, i < n → W.cell? ⟨b, o + i, none⟩ = vs[i]? := fun i hi => by
  have := mapM_some_get h i i (by simp [hi])
  rwa [add_plain] at this
 have h1 := hg 0 h0
 rw [List.getElem?_eq_getElem (by omega)] at h1
 unfold World.cell? at h1
 split at h1
 ·rename_i c ty fz hc
  have hg' : ∀ i, i < n → c[o + i]? = vs[i]? := fun i hi => by
   have := hg i hi
   simpa [World.cell?, hc] using this
  have hlast := hg' (n - 1) (by omega)
  rw [List.getElem?_eq_getElem (by omega)] at hlast
  have hsz : o + (n - 1) < c.size := by
   rcases Nat.lt_or_ge (o + (n - 1)) c.size with hh | hh
   ·exact hh
   ·rw [Array.getElem?_eq_none hh] at hlast; simp at hlast
  refine ⟨c, ty, fz, hc, by omega, ?_⟩
  apply List.ext_getElem?
  intro i
  by_cases hi : i < n
  ·rw [← hg' i hi, List.getElem?_take, if_pos hi, List.getElem?_drop, Array.getElem?_toList]
  ·rw [List.getElem?_eq_none (by omega), List.getElem?_take, if_neg hi]
 ·simp at h1
section
variable {H : Type} {enc : TypeId × Value → H} {P : Program} {W : World}
theorem read_slice {t e : TypeId} {sz fuel : Nat} {held : Bool} {a : Option Addr} {len cap : Nat} {x : DataW H × List MemPlace} (ht : P.underlying t = some (.slice e)) (hsz : P.cellsOf e = sz) (h0 : 0 < sz)
  (h : DataW.trod enc P W 0 (fun _ => true) held fuel t [.slice a len cap] = some x) :
  len = 0 ∨ ∃ (b o : Nat) (c : Array Value) (ty : TypeId) (fz : Nat × Nat) (n : Nat), a = some ⟨b, o, none⟩ ∧ 0 < len ∧ len ≤ cap ∧ cap ≤ maxLen ∧ W.heap[b]? = some (.cells c ty fz) ∧ o + cap * sz ≤ c.size ∧
   ∀ i, i < len → ∃ y, DataW.trod enc P W 0 (fun _ => true) held n e ((c.toList.drop (o + i * sz)).take sz) = some y := by
 rcases DataW.trod_slice ht h with ⟨h1, _⟩ | ⟨a', len', cap', elems, rest, n, _, h1, _, hb, hl, hm, hlen, hel, hsp, _⟩
 ·simp only [List.cons.injEq, Value.slice.injEq, and_true] at h1
  exact .inl h1.2.1
 simp only [List.cons.injEq, Value.slice.injEq, and_true] at h1
 obtain ⟨rfl, rfl, rfl⟩ := h1
 by_cases hz : len = 0
 ·exact .inl hz
 obtain ⟨hrl, hr⟩ := hsp rfl
 rw [hsz] at hel hr
 have all : ∀ i, i < cap → ∃ vs y, W.cells? 0 (a'.add (i * sz)) sz = some vs ∧ DataW.trod enc P W 0 (fun _ => true) held n e vs = some y := fun i hi => by
  by_cases hil : i < len
  ·have := hel i hil
   rw [List.getElem?_eq_getElem (by omega)] at this
   obtain ⟨vs, h2, h3⟩ := Option.bind_eq_some_iff.1 this
   exact ⟨vs, _, h2, h3⟩
  ·have := hr (i - len) (by omega)
   rw [List.getElem?_eq_getElem (by omega), show len + (i - len) = i by omega] at this
   obtain ⟨vs, h2, h3⟩ := Option.bind_eq_some_iff.1 this
   exact ⟨vs, _, h2, h3⟩
 obtain ⟨b, o, spot⟩ := a'
 have hspot : spot = none := by
  obtain ⟨vs, _, h2, _⟩ := all 0 (by omega)
  unfold World.cells? at h2
  rw [if_pos (Nat.zero_le _)] at h2
  have hl2 : vs.length = sz := by simpa using mapM_some_length h2
  have h3 := mapM_some_get h2 0 0 (by simp [h0])
  rw [List.getElem?_eq_getElem (by omega)] at h3
  simpa [Addr.add] using World.cell?_spot h3
 subst hspot
 obtain ⟨vs0, _, h2, _⟩ := all 0 (by omega)
 rw [add_plain] at h2
 obtain ⟨c, ty, fz, hc, _, _⟩ := cells_block h2 h0
 refine .inr ⟨b, o, c, ty, fz, n, rfl, by omega, hl, hm, hc, ?_, fun i hi => ?_⟩
 ·obtain ⟨vs1, _, h3, _⟩ := all (cap - 1) (by omega)
  rw [add_plain] at h3
  obtain ⟨c', ty', fz', hc', hle, _⟩ := cells_block h3 h0
  rw [hc] at hc'
  simp only [Option.some.injEq, Obj.cells.injEq] at hc'
  obtain ⟨rfl, _⟩ := hc'
  have : (cap - 1) * sz + sz = cap * sz := by rw [← Nat.succ_mul, Nat.succ_eq_add_one, show cap - 1 + 1 = cap by omega]
  omega
 ·obtain ⟨vs1, y, h3, h4⟩ := all i (by omega)
  rw [add_plain] at h3
  obtain ⟨c', ty', fz', hc', _, rfl⟩ := cells_block h3 h0
  rw [hc] at hc'
  simp only [Option.some.injEq, Obj.cells.injEq] at hc'
  obtain ⟨rfl, _⟩ := hc'
  exact ⟨y, h4⟩
theorem byte_of_wf {z : Int} (h : (Lit.int .u8 z).wf = true) : ∃ b : UInt8, z = b.toNat := by
 have := bounds_u8 h
 refine ⟨UInt8.ofNat z.toNat, ?_⟩
 rw [UInt8.toNat_ofNat']
 omega
theorem bytes_list : ∀ (cs : List Value), (∀ i, i < cs.length → ∃ b : UInt8, cs[i]? = some (.int .u8 b.toNat)) → ∃ l : List UInt8, l.length = cs.length ∧ cs = l.map fun b => Value.int .u8 b.toNat
 | [], _ => ⟨[], rfl, rfl⟩
 | v :: cs, h => by
  obtain ⟨b, hb⟩ := h 0 (by simp)
  simp only [List.getElem?_cons_zero, Option.some.injEq] at hb
  obtain ⟨l, h1, h2⟩ := bytes_list cs (fun i hi => by
   obtain ⟨b, hb⟩ := h (i + 1) (by simp; omega)
   exact ⟨b, by simpa using hb⟩)
  exact ⟨b :: l, by simp [h1], by rw [List.map_cons, ← h2, hb]⟩
theorem read_bytes {t e : TypeId} {n fuel : Nat} {held : Bool} {base : Nat} {sp : Nat → Bool} {cs : List Value} {x : DataW H × List MemPlace} (ht : P.underlying t = some (.array n e)) (he : P.underlying e = some (.int .u8)) (hc : P.cellsOf e = 1) (hct : P.cellsOf t = n)
  (h : DataW.trod enc P W base sp held fuel t cs = some x) : ∃ l : List UInt8, l.length = n ∧ cs = l.map fun b => Value.int .u8 b.toNat := by
 obtain ⟨xs, m, rfl, _, hlen, hn, hel⟩ := DataW.trod_array ht h
 rw [hct] at hlen
 obtain ⟨l, h1, h2⟩ := bytes_list cs (fun i hi => by
  have h1 := hel i (by omega)
  rw [hc, Nat.mul_one, List.getElem?_eq_getElem (by omega)] at h1
  obtain ⟨z, hcell, _, hw⟩ := DataW.trod_int he h1
  obtain ⟨b, rfl⟩ := byte_of_wf hw
  have e2 : ((cs.drop i).take 1)[0]? = some (.int .u8 b.toNat) := by rw [hcell]; rfl
  rw [List.getElem?_take, if_pos (by omega), List.getElem?_drop] at e2
  exact ⟨b, by simpa using e2⟩)
 exact ⟨l, by omega, h2⟩
end
def ElemsAt (C : List AC) (o w : Nat) (xs : List (List UInt8)) : Prop := ∀ k x, xs[k]? = some x → x.length = w ∧ takeL (dropL C (o + k * w)) w = some (x.map u8c)
def SlOk (b sz : Nat) (C : List AC) (x : AC) (n : Nat) (xs : List (List UInt8)) : Prop :=
 xs.length = n ∧ (∀ y ∈ xs, y.length = sz) ∧ ((n = 0 ∧ ∃ p c, x = .v (.slice p 0 c)) ∨ (0 < n ∧ ∃ o cap ex, x = .slc b o n sz cap ex ∧ ElemsAt C o sz xs))
theorem SlOk.opq {b sz n K : Nat} {C : List AC} {x : AC} {xs : List (List UInt8)} (h : SlOk b sz C x n xs) (hK : b < K) : OpqC K x := by
 obtain ⟨_, _, ⟨rfl, p, c, rfl⟩ | ⟨_, o, cap, ex, rfl, _⟩⟩ := h
 ·intro k hk; simp [AC.refs] at hk
 ·intro k hk; simp [AC.refs] at hk; omega
theorem SlOk.below {b sz n K : Nat} {C : List AC} {x : AC} {xs : List (List UInt8)} (h : SlOk b sz C x n xs) (hK : b < K) : refsBelow K (AV.refs (.e (.one x))) = true := by
 have := h.opq hK
 simpa [refsBelow, AV.refs, AE.refs, OpqC] using this
theorem elems_take : ∀ {xs : List (List UInt8)} {C : List AC} {o w : Nat}, ElemsAt C o w xs → xs ≠ [] ∨ o ≤ C.length → takeL (dropL C o) (xs.length * w) = some (xs.flatten.map u8c)
 | [], C, o, w, _, _ => by simp [takeL_eq]
 | x :: xs, C, o, w, h, _ => by
  obtain ⟨hw, hx⟩ := h 0 x rfl
  rw [takeL_eq, dropL_eq, Nat.zero_mul, Nat.add_zero] at hx
  split at hx
  ·rename_i hle
   simp only [Option.some.injEq, List.length_drop] at hx hle
   by_cases hw0 : w = 0
   ·subst hw0
    have hall : ∀ y ∈ xs, y = [] := fun y hy => by
     obtain ⟨k, hk⟩ := List.getElem?_of_mem hy
     have := (h (k + 1) y (by simpa using hk)).1
     exact List.eq_nil_of_length_eq_zero this
    have hx0 : x = [] := List.eq_nil_of_length_eq_zero hw
    have : (x :: xs).flatten = [] := by
     rw [List.flatten_eq_nil_iff]
     intro l hl
     rcases List.mem_cons.1 hl with rfl | hl
     ·exact hx0
     ·exact hall l hl
    rw [this, takeL_eq]
    simp
   ·have ih := elems_take (xs := xs) (C := C) (o := o + w) (w := w) (fun k y hk => by
     have := h (k + 1) y (by simpa using hk)
     rwa [show o + (k + 1) * w = o + w + k * w by rw [Nat.succ_mul]; omega] at this) (.inr (by omega))
    rw [takeL_eq, dropL_eq] at ih ⊢
    split at ih
    ·rename_i hle2
     simp only [Option.some.injEq, List.length_drop] at ih hle2
     have e : (x :: xs).length * w = w + xs.length * w := by rw [List.length_cons, Nat.succ_mul]; omega
     rw [e, if_pos (by rw [List.length_drop]; omega), List.take_add, hx, List.drop_drop, ih, List.flatten_cons, List.map_append]
    ·simp at ih
  ·simp at hx
theorem blk_some {h : Heap} {b : Nat} {C : List AC} {N : Nat} {ty : TypeId} {fl : Bool} (hb : getL h b = some (some ⟨C, N, ty, fl, .cells⟩)) : blk h b = some ⟨C, N, ty, fl, .cells⟩ := by
 unfold blk
 rw [hb]
theorem all_isOne (l : List UInt8) : (l.map u8c).all AC.isOne = true := by
 rw [List.all_eq_true]
 intro c hc
 obtain ⟨x, _, rfl⟩ := List.mem_map.1 hc
 rfl
theorem SlOk.copy {b sz bytes n : Nat} {C : List AC} {x : AC} {xs : List (List UInt8)} (hs : SlOk b sz C x n xs) {h : Heap} {N : Nat} {ty : TypeId} {fl : Bool} (hb : getL h b = some (some ⟨C, N, ty, fl, .cells⟩)) (hm : small (0 + n) sz bytes = true) :
  CopyOk h sz bytes (.e (.one x)) n (xs.flatten.map u8c) (decide (n = 0)) := by
 obtain ⟨hl, _, ⟨rfl, p, c, rfl⟩ | ⟨h0, o, cap, ex, rfl, hC⟩⟩ := hs
 ·have : xs = [] := List.eq_nil_of_length_eq_zero hl
  subst this
  exact .inr (.inr (.inl ⟨rfl, rfl, rfl, p, c, rfl⟩))
 ·refine .inr (.inr (.inr ⟨decide_eq_false (by omega), h0, hm, all_isOne _, b, o, cap, ex, _, rfl, blk_some hb, ?_⟩))
  have := elems_take hC (.inl (by intro e; subst e; simp at hl; omega))
  rwa [hl] at this
section
variable {H : Type} {enc : TypeId × Value → H} {P : Program} {W : World}
end
end
end Go.Ev
end

/-! SyList -/
section
namespace Go.Ev
open Go.RowKit Go.WideShapes Go.ChangeShapes
noncomputable section
def S1 (b : Nat) (C : List AC) (x : AC) (n : Nat) (cs : List AC) : Prop :=
 cs.length = n ∧ ((n = 0 ∧ ∃ p c, x = .v (.slice p 0 c)) ∨ (0 < n ∧ ∃ o cap ex, x = .slc b o n 1 cap ex ∧ takeL (dropL C o) n = some cs))
theorem S1.opq {b n K : Nat} {C cs : List AC} {x : AC} (h : S1 b C x n cs) (hK : b < K) : OpqC K x := by
 obtain ⟨_, ⟨rfl, p, c, rfl⟩ | ⟨_, o, cap, ex, rfl, _⟩⟩ := h
 ·intro k hk; simp [AC.refs] at hk
 ·intro k hk; simp [AC.refs] at hk; omega
theorem S1.below {b n K : Nat} {C cs : List AC} {x : AC} (h : S1 b C x n cs) (hK : b < K) : refsBelow K (AV.refs (.e (.one x))) = true := by
 have := h.opq hK
 simpa [refsBelow, AV.refs, AE.refs, OpqC] using this
theorem S1.copy {b bytes n : Nat} {C cs : List AC} {x : AC} (hs : S1 b C x n cs) (h1 : cs.all AC.isOne = true) {h : Heap} {N : Nat} {ty : TypeId} {fl : Bool} (hb : getL h b = some (some ⟨C, N, ty, fl, .cells⟩)) (hm : small (0 + n) 1 bytes = true) :
  CopyOk h 1 bytes (.e (.one x)) n cs (decide (n = 0)) := by
 obtain ⟨hl, ⟨rfl, p, c, rfl⟩ | ⟨h0, o, cap, ex, rfl, hC⟩⟩ := hs
 ·have : cs = [] := List.eq_nil_of_length_eq_zero hl
  subst this
  exact .inr (.inr (.inl ⟨rfl, rfl, rfl, p, c, rfl⟩))
 ·exact .inr (.inr (.inr ⟨decide_eq_false (by omega), h0, hm, h1, b, o, cap, ex, _, rfl, blk_some hb, by rw [Nat.mul_one]; exact hC⟩))
section
variable {H : Type} {enc : TypeId × Value → H} {P : Program} {W : World}
end
end
end Go.Ev
end

/-! SyRd -/
section
namespace Go.Ev
open Go.RowKit Go.WideShapes Go.ChangeShapes
noncomputable section
def AtRest (W : World) (F : List (Nat × List Value)) : Prop := ∀ p ∈ F, ∃ (c : Array Value) (t : TypeId) (fz : Nat × Nat), W.heap[p.1]? = some (.cells c t fz) ∧ c.toList = p.2
theorem AtRest.nil (W : World) : AtRest W [] := fun p hp => by simp at hp
theorem AtRest.app {W : World} {F G : List (Nat × List Value)} (h : AtRest W F) (k : AtRest W G) : AtRest W (F ++ G) := fun p hp => (List.mem_append.1 hp).elim (h p) (k p)
theorem AtRest.cons {W : World} {F : List (Nat × List Value)} {b : Nat} {c : Array Value} {t : TypeId} {fz : Nat × Nat} (h : AtRest W F) (hb : W.heap[b]? = some (.cells c t fz)) : AtRest W ((b, c.toList) :: F) := fun p hp => by
 rcases List.mem_cons.1 hp with rfl | hp
 ·exact ⟨c, t, fz, hb, rfl⟩
 ·exact h p hp
def Rd (W : World) (cs : List Value) (Q : List DT → Prop) : Prop := ∃ (F : List (Nat × List Value)) (ds : List DT), AtRest W F ∧ DT.Rl F ds cs ∧ ds.length = cs.length ∧ Q ds
section
variable {H : Type} {enc : TypeId × Value → H} {P : Program} {W : World}
theorem rd_int {e : TypeId} {k : IntKind} {fuel : Nat} {held : Bool} {sp : Nat → Bool} {cs : List Value} {x : DataW H × List MemPlace} (he : P.underlying e = some (.int k)) (h : DataW.trod enc P W 0 sp held fuel e cs = some x) :
  Rd W cs fun ds => ∃ z : Int, (Lit.int k z).wf = true ∧ ds = [.v (.int k z)] := by
 obtain ⟨z, rfl, _, hw⟩ := DataW.trod_int he h
 exact ⟨[], [.v (.int k z)], AtRest.nil W, ⟨_, [], rfl, by simp [DT.R], by simp [DT.Rl]⟩, rfl, z, hw, rfl⟩
theorem Rl_append {F G : List (Nat × List Value)} : ∀ {l l' : List DT} {ys zs : List Value}, DT.Rl F l ys → l.length = ys.length → DT.Rl G l' zs → DT.Rl (F ++ G) (l ++ l') (ys ++ zs)
 | [], l', [], zs, _, _, h => DT.Rl.mono (fun p hp => List.mem_append_right _ hp) _ _ h
 | [], _, _ :: _, _, _, h, _ => by simp at h
 | d :: l, l', ys, zs, h, hl, h' => by
  simp only [DT.Rl] at h
  obtain ⟨y, r, rfl, h1, h2⟩ := h
  show DT.Rl (F ++ G) (d :: (l ++ l')) (y :: (r ++ zs))
  simp only [DT.Rl]
  exact ⟨y, r ++ zs, rfl, DT.R.mono (fun p hp => List.mem_append_left _ hp) _ _ h1, Rl_append h2 (by simpa using hl) h'⟩
theorem rd_rows {c : List Value} {sz : Nat} {Q : List DT → Prop} : ∀ (n o : Nat), o + n * sz ≤ c.length → (∀ i, i < n → Rd W ((c.drop (o + i * sz)).take sz) Q) →
  ∃ (F : List (Nat × List Value)) (rows : List (List DT)), AtRest W F ∧ rows.length = n ∧ (∀ r ∈ rows, r.length = sz ∧ Q r) ∧ DT.Rl F rows.flatten ((c.drop o).take (n * sz))
 | 0, o, _, _ => ⟨[], [], AtRest.nil W, rfl, by simp, by simp [DT.Rl]⟩
 | n + 1, o, hl, h => by
  rw [Nat.succ_mul] at hl
  obtain ⟨F0, d0, a0, r0, l0, q0⟩ := h 0 (by omega)
  rw [Nat.zero_mul, Nat.add_zero] at r0 l0
  have hlen : ((c.drop o).take sz).length = sz := by rw [List.length_take, List.length_drop]; omega
  rw [hlen] at l0
  obtain ⟨F1, rows, a1, rl, rq, r1⟩ := rd_rows (c := c) (sz := sz) (Q := Q) n (o + sz) (by omega) (fun i hi => by
   have := h (i + 1) (by omega)
   rw [Nat.succ_mul] at this
   rw [show o + sz + i * sz = o + (i * sz + sz) by omega]
   exact this)
  refine ⟨F0 ++ F1, d0 :: rows, a0.app a1, by simp [rl], fun r hr => ?_, ?_⟩
  ·rcases List.mem_cons.1 hr with rfl | hr
   ·exact ⟨l0, q0⟩
   ·exact rq r hr
  ·have e : (c.drop o).take ((n + 1) * sz) = (c.drop o).take sz ++ (c.drop (o + sz)).take (n * sz) := by
    rw [show (n + 1) * sz = sz + n * sz by rw [Nat.succ_mul]; omega, List.take_add, List.drop_drop]
   rw [e, List.flatten_cons]
   exact Rl_append r0 (by rw [l0, hlen]) r1
theorem rd_slice {t e : TypeId} {sz fuel : Nat} {held : Bool} {cs : List Value} {x : DataW H × List MemPlace} {Q : List DT → Prop} (ht : P.underlying t = some (.slice e)) (hsz : P.cellsOf e = sz) (h0 : 0 < sz)
  (rd : ∀ {fuel : Nat} {cs : List Value} {x : DataW H × List MemPlace}, DataW.trod enc P W 0 (fun _ => true) held fuel e cs = some x → Rd W cs Q)
  (hc : ∃ a len cap, cs = [.slice a len cap]) (h : DataW.trod enc P W 0 (fun _ => true) held fuel t cs = some x) :
  Rd W cs fun ds => ∃ rows : List (List DT), rows.length ≤ maxLen ∧ (∀ r ∈ rows, r.length = sz ∧ Q r) ∧ ds = [.s rows.flatten rows.length sz] := by
 obtain ⟨a, len, cap, rfl⟩ := hc
 rcases read_slice ht hsz h0 h with rfl | ⟨b, o, c, ty, fz, n, rfl, hl0, hlc, hcm, hb, hsize, hel⟩
 ·refine ⟨[], [.s [] 0 sz], AtRest.nil W, ⟨_, [], rfl, ?_, by simp [DT.Rl]⟩, rfl, [], by simp, by simp, rfl⟩
  simp only [DT.R]
  exact .inl ⟨trivial, a, cap, rfl⟩
 ·have hmul : len * sz ≤ cap * sz := Nat.mul_le_mul_right _ hlc
  obtain ⟨F, rows, aF, rl, rq, rr⟩ := rd_rows (W := W) (c := c.toList) (sz := sz) (Q := Q) len o (by simp; omega) (fun i hi => by
   obtain ⟨y, hy⟩ := hel i hi
   exact rd hy)
  have hfl : rows.flatten.length = len * sz := by
   rw [← rl]
   clear rr rl hmul
   induction rows with
   | nil => simp
   | cons r rows ih =>
    rw [List.flatten_cons, List.length_append, ih (fun s hs => rq s (List.mem_cons_of_mem _ hs)), (rq r (List.mem_cons_self ..)).1, List.length_cons, Nat.succ_mul]
    omega
  refine ⟨(b, c.toList) :: F, [.s rows.flatten rows.length sz], aF.cons hb, ⟨_, [], rfl, ?_, by simp [DT.Rl]⟩, rfl, rows, by omega, rq, rfl⟩
  simp only [DT.R]
  rw [rl]
  refine .inr ⟨hl0, b, o, cap, c.toList, rfl, hlc, hcm, List.mem_cons_self .., by simpa using hsize, hfl, ?_⟩
  have := (rr.mono (fun p hp => List.mem_cons_of_mem (b, c.toList) hp)).more (zs := (c.toList.drop o).drop (len * sz))
  rwa [List.take_append_drop] at this
def dI (z : Int) : DT := .v (.int .i64 z)
def dL (zs : List Int) : DT := .s (zs.map dI) zs.length 1
def Word64 (z : Int) : Prop := -9223372036854775808 ≤ z ∧ z ≤ 9223372036854775807
theorem ones_flatten {Q : Int → Prop} : ∀ {rows : List (List DT)}, (∀ r ∈ rows, r.length = 1 ∧ ∃ z : Int, Q z ∧ r = [dI z]) → ∃ zs : List Int, (∀ z ∈ zs, Q z) ∧ rows.flatten = zs.map dI ∧ zs.length = rows.length
 | [], _ => ⟨[], by simp, rfl, rfl⟩
 | r :: rows, h => by
  obtain ⟨zs, h1, h2, h3⟩ := ones_flatten (fun s hs => h s (List.mem_cons_of_mem _ hs))
  obtain ⟨_, z, hq, rfl⟩ := h r (List.mem_cons_self ..)
  exact ⟨z :: zs, by simpa [hq] using h1, by rw [List.flatten_cons, h2]; rfl, by simp [h3]⟩
theorem rd_ints {t e : TypeId} {fuel : Nat} {held : Bool} {cs : List Value} {x : DataW H × List MemPlace} (ht : P.underlying t = some (.slice e)) (he : P.underlying e = some (.int .i64)) (hsz : P.cellsOf e = 1)
  (hc : ∃ a len cap, cs = [.slice a len cap]) (h : DataW.trod enc P W 0 (fun _ => true) held fuel t cs = some x) :
  Rd W cs fun ds => ∃ zs : List Int, (∀ z ∈ zs, Word64 z) ∧ zs.length ≤ maxLen ∧ ds = [dL zs] := by
 obtain ⟨F, ds, h1, h2, h3, rows, h4, h5, h6⟩ := rd_slice (Q := fun ds => ∃ z : Int, Word64 z ∧ ds = [dI z]) ht hsz (by omega) (fun {_ _ _} hh => by
  obtain ⟨F, ds, h1, h2, h3, z, h4, h5⟩ := rd_int he hh
  exact ⟨F, ds, h1, h2, h3, z, bounds_i64 h4, h5⟩) hc h
 obtain ⟨zs, k1, k2, k3⟩ := ones_flatten h5
 exact ⟨F, ds, h1, h2, h3, zs, k1, by omega, by rw [h6, k2, ← k3]; rfl⟩
end
end
end Go.Ev
end

/-! SeEqI -/
section
open Go Go.Ev Go.RowKit
open Extern.Stop
namespace Go.Proofs.YtpnkginbmoniiaaGreatDoor
noncomputable section
abbrev iD (l : List Int) : List DT := l.map fun x => .v (.int .i64 x)
abbrev iC (l : List Int) : List AC := (iD l).map DT.ac
theorem flat_iC (l : List Int) : FlatC (iC l) := by
 intro c hc
 simp only [List.map_map, List.mem_map] at hc
 obtain ⟨x, _, rfl⟩ := hc
 exact ⟨_, rfl⟩
theorem cells_of {m : M} : ∀ {l : List Value} {cs : List Value}, All2 (CR m) (l.map AC.v) cs → cs = l
 | [], [], _ => rfl
 | [], _ :: _, h => h.elim
 | _ :: _, [], h => h.elim
 | x :: l, c :: cs, h => by
  obtain ⟨h1, h2⟩ := h
  rw [cells_of h2, show c = x from h1]
theorem u3_ : Tryz.prog.underlying 3 = some (.int .i64) := by kernel_rfl
theorem q3_ (w : World) (a b : Int) : (Op.equalIn 9999 3 (.int .i64 a) (.int .i64 b)).run Tryz.prog w = .ok (a == b) w := by
 rw [show (9999 : Nat) = 9998 + 1 from rfl]
 exact run_equalIn_int w 9998 3 .i64 .i64 a b u3_
theorem eq_step (P : Program) (w : World) {d : Nat} {xs ys : Array Value} {f : Field} {fs : List Field} {t n : Nat} {a b : Value} {r : Bool} (h : f.name ≠ "_") (ht : f.type = t) (hn : f.offset = n) (h1 : (part t xs n).run P w = .ok a w) (h2 : (part t ys n).run P w = .ok b w) (h3 : (Op.equalIn d t a b).run P w = .ok r w) :
  (Op.eqFields d xs ys (f :: fs)).run P w = if r then (Op.eqFields d xs ys fs).run P w else .ok false w := by
 subst ht hn
 cases r <;> simp [Op.eqFields, h, h1, h2, h3]
theorem eq_nil (P : Program) (w : World) {d : Nat} {xs ys : Array Value} : (Op.eqFields d xs ys []).run P w = .ok true w := by simp [Op.eqFields]
end
end Go.Proofs.YtpnkginbmoniiaaGreatDoor
end

/-! SeGen -/
section
open Go Go.Ev
namespace Go.Proofs.YtpnkginbmoniiaaGreatDoor
noncomputable section
theorem cOut_clear {f : FuncId} {args : List AV} {v : AV} {h : Heap} (hc : COut E 0 [] f args v h) (hv : v.refs = []) : COut E 0 [] f args v [] :=
 cOut_gc (h' := []) [] (Nat.zero_le _) hc rfl rfl (AV.ren_id hv)
theorem getI {xs : List Int} {i : Nat} {x : Int} (h : xs[i]? = some x) : getL (iD xs) i = some (.v (.int .i64 x)) := by rw [getL_eq, List.getElem?_map, h]; rfl
abbrev dI (xs : List Int) : AV := .e (.one (.dp (.s (iD xs) xs.length 1)))
theorem lend2 (lv : Nat) (_hE : EnvOk E) (f : FuncId) (xs : List Int) (r : Int) (ty : Nat) (fl : Bool) (hc : COut E 0 [] f [dI xs] (iI r) []) (h : Heap) (i : Nat) (hh : getL h i = some (some ⟨(iD xs).map DT.ac, xs.length, ty, fl, .cells⟩)) : COut E lv h f [.e (.one (.slc i 0 xs.length 1 xs.length true))] (iI r) h :=
 cOut_lend h hc ⟨.inr ⟨i, 0, xs.length, 1, xs.length, true, iD xs, iD xs, xs.length, ty, fl, rfl, rfl, hh, by rw [takeL_eq, dropL_eq, List.drop_zero, if_pos (by simp), List.take_of_length_le (by simp)]⟩, trivial⟩ rfl rfl
end
end Go.Proofs.YtpnkginbmoniiaaGreatDoor
end

/-! SeAcc -/
section
open Go Go.Ev
namespace Go.Proofs.YtpnkginbmoniiaaGreatDoor
structure AccP where
 b : Int
 d : Int
 s : Int
 e : Int
 k0 : Int
 k1 : Int
 k2 : Int
 k3 : Int
 k4 : Int
 k5 : Int
 k6 : Int
 k7 : Int
 m0 : Int
 m1 : Int
 m2 : Int
 m3 : Int
 m4 : Int
 m5 : Int
 m6 : Int
 m7 : Int
abbrev accN (V : AccP) (r : List AC) : List AC := .v (.int .i64 V.b) :: .v (.int .i64 V.d) :: .v (.int .i64 V.s) :: .v (.int .i64 V.e) :: .v (.int .u8 V.k0) :: .v (.int .u8 V.k1) :: .v (.int .u8 V.k2) :: .v (.int .u8 V.k3) :: .v (.int .u8 V.k4) :: .v (.int .u8 V.k5) :: .v (.int .u8 V.k6) :: .v (.int .u8 V.k7) :: .v (.int .u8 V.m0) :: .v (.int .u8 V.m1) :: .v (.int .u8 V.m2) :: .v (.int .u8 V.m3) :: .v (.int .u8 V.m4) :: .v (.int .u8 V.m5) :: .v (.int .u8 V.m6) :: .v (.int .u8 V.m7) :: r
abbrev accZ (r : List AC) : List AC := .v (.int .i64 0) :: .v (.int .i64 0) :: .v (.int .i64 0) :: .v (.int .i64 0) :: .v (.int .u8 0) :: .v (.int .u8 0) :: .v (.int .u8 0) :: .v (.int .u8 0) :: .v (.int .u8 0) :: .v (.int .u8 0) :: .v (.int .u8 0) :: .v (.int .u8 0) :: .v (.int .u8 0) :: .v (.int .u8 0) :: .v (.int .u8 0) :: .v (.int .u8 0) :: .v (.int .u8 0) :: .v (.int .u8 0) :: .v (.int .u8 0) :: .v (.int .u8 0) :: r
def vZ : AccP := ⟨0, 0, 0, 0, 0, 0, 0, 0, 0, 0, 0, 0, 0, 0, 0, 0, 0, 0, 0, 0⟩
abbrev zB8 (a b c d e f g h : Int) : List AC := [.v (.int .u8 a), .v (.int .u8 b), .v (.int .u8 c), .v (.int .u8 d), .v (.int .u8 e), .v (.int .u8 f), .v (.int .u8 g), .v (.int .u8 h)]
abbrev zTk (t m a b c d e f g h : Int) : List AC := [.v (.int .i64 t), .v (.int .i64 m), .v (.int .u8 a), .v (.int .u8 b), .v (.int .u8 c), .v (.int .u8 d), .v (.int .u8 e), .v (.int .u8 f), .v (.int .u8 g), .v (.int .u8 h)]
abbrev zU (l : List Int) : List AC := l.map fun x => .v (.int .u8 x)
abbrev zI2 (a b : Int) : List AC := [.v (.int .i64 a), .v (.int .i64 b)]
abbrev zAc (V : AccP) (c : Bool) (U : List DT) (n : Nat) : List AC := accN V [.v (.bool c), .dp (.s U n 1)]
abbrev zAz : List AC := accZ [.v (.bool false), .v (.slice none 0 0)]
abbrev zBk (c : List AC) (n t : Nat) : Option AB := some ⟨c, n, t, true, .cells⟩
abbrev zBf (c : List AC) (n t : Nat) : Option AB := some ⟨c, n, t, false, .cells⟩
end Go.Proofs.YtpnkginbmoniiaaGreatDoor
end
