/-
  A frame's run in pieces: each piece is one run of the kernel, from a state that is written out to the next one.
-/
import Derived.Test.YtgplabfjldndgaaGreatDoorEvO
namespace Go.Ev
open Go.RowKit
noncomputable section

/-- where a frame is: the heap, what is left to do, the slots -/
structure St where
  heap : Heap
  todo : List Item
  tm : Tm

/-- one item of a frame that stands in no round -/
def stepS (E : Env) (rc : RunT) (lvl : Nat) (s : St) : Option St :=
  match s.todo with
  | .code .skip :: k | .code (.label _) :: k | .inBlock _ :: k | .inScope _ :: k => some ⟨s.heap, k, s.tm⟩
  | .code (.seq a b) :: k => some ⟨s.heap, .code a :: .code b :: k, s.tm⟩
  | .code (.cond c a b) :: k => match evA s.tm c with
    | .e (.one (.v (.bool t))) => some ⟨s.heap, .code (if t then a else b) :: k, s.tm⟩
    | _ => none
  | .code (.block id body) :: k => some ⟨s.heap, .code body :: .inBlock id :: k, s.tm⟩
  | .code (.loop body) :: k | .inLoop body :: k => some ⟨s.heap, .code body :: .inLoop body :: k, s.tm⟩
  | .code (.scope body) :: k => some ⟨s.heap, .code body :: .inScope body :: k, s.tm⟩
  | .code (.exit id) :: k => match exitTo id k with
    | some k' => some ⟨s.heap, k', s.tm⟩
    | none => none
  | .code (.region _ ops draw) :: k => match (if draw then drawOps E (stdS E rc) lvl ops s.heap s.tm else stepOps (stdS E rc) lvl ops ops.toList 0 s.heap s.tm) with
    | some (h', tm') => some ⟨h', k, tm'⟩
    | none => none
  | _ => none

def stepsS (E : Env) (rc : RunT) (lvl : Nat) (n : Nat) : St → Option St :=
  Nat.rec (motive := fun _ => St → Option St) (fun s => some s) (fun _ ih s => match stepS E rc lvl s with | some s' => ih s' | none => none) n

/-- what a frame comes to, from a state on -/
def Out (E : Env) (lvl : Nat) (s : St) (r : Res) : Prop :=
  ∀ (fr : Frame) (t : Array Value) (cs : List Frame) (w : World) (m : M) (base : Nat), RoundOk m none fr → TR m s.tm t → HR m base lvl s.heap w → GR E.gl base w →
    ∃ t' todo' w' m', Steps E.P (lone (FR fr t s.todo) cs w) (lone (FR { fr with defers := marksC m' r.marks ++ fr.defers } t' todo') cs w') ∧ TR m' r.tm t' ∧ HR m' base lvl r.heap w' ∧ M.leG base m m' ∧ Below base w w' ∧ EndOk r.jump todo' ∧ ∀ b ∈ r.marks, b < m'.n

variable {E : Env} {rc : RunT}

theorem out_of_run (hr : RecOk E rc) {lvl : Nat} {s : St} {r : Res} (h : rc none lvl s.heap s.todo s.tm = some r) : Out E lvl s r := hr none lvl s.heap s.todo s.tm r h

theorem stepS_sound (hE : EnvOk E) (hrc : RecOk E rc) {lvl : Nat} {s s' : St} {r : Res} (hs : stepS E rc lvl s = some s') (ho : Out E lvl s' r) : Out E lvl s r := by
  intro fr t cs w m base hR hT H G
  obtain ⟨h, todo, tm⟩ := s
  have go : ∀ {todo' : List Item}, step E.P (lone (FR fr t todo) cs w) = .next (lone (FR fr t todo') cs w) → some (⟨h, todo', tm⟩ : St) = some s' →
      ∃ t' todo'' w' m', Steps E.P (lone (FR fr t todo) cs w) (lone (FR { fr with defers := marksC m' r.marks ++ fr.defers } t' todo'') cs w') ∧ TR m' r.tm t' ∧ HR m' base lvl r.heap w' ∧ M.leG base m m' ∧ Below base w w' ∧ EndOk r.jump todo'' ∧ ∀ b ∈ r.marks, b < m'.n := by
    intro todo' hst hr
    simp only [Option.some.injEq] at hr
    subst hr
    obtain ⟨t', todo'', w', m', h1, h2⟩ := ho fr t cs w m base hR hT H G
    exact ⟨t', todo'', w', m', .head hst h1, h2⟩
  unfold stepS at hs
  simp only at hs
  split at hs
  · exact go stepF_skip hs
  · exact go stepF_label hs
  · exact go stepF_inBlock hs
  · exact go stepF_inScope hs
  · exact go stepF_seq hs
  · rename_i c a b k
    split at hs
    · rename_i tt hc
      have hv := evA_sound hT c
      rw [hc] at hv
      exact go (stepF_cond (show evC t c = .bool tt from hv)) hs
    · simp at hs
  · exact go stepF_block hs
  · exact go stepF_loop hs
  · exact go stepF_inLoop hs
  · exact go stepF_scope hs
  · rename_i id k
    split at hs
    · rename_i k' hk
      exact go (stepF_exit hk) hs
    · simp at hs
  · rename_i id ops draw k
    cases draw with
    | false =>
      simp only [Bool.false_eq_true, if_false] at hs
      split at hs
      · rename_i h1 tm1 hso
        obtain ⟨t1, w1, m1, hst, hT1, H1, hle1, hB1⟩ := stepOps_sound (stdS_ok hE hrc) ops ops.toList 0 (by simp) hT H G hso fr cs k
        simp only [Option.some.injEq] at hs
        subst hs
        obtain ⟨t', todo'', w', m', g1, g2, g3, g4, g5, g6⟩ := ho fr t1 cs w1 m1 base (hR.mono hle1) hT1 H1 (G.below hB1)
        refine ⟨t', todo'', w', m', .head stepF_region (Steps.trans ?_ g1), g2, g3, hle1.trans g4, hB1.trans g5, g6⟩
        have e : List.range ops.size = List.range' 0 ops.toList.length := by rw [List.range_eq_range', Array.length_toList]
        rw [e]
        exact hst
      · simp at hs
    | true =>
      simp only [if_true] at hs
      split at hs
      · rename_i h1 tm1 hso
        have hB0 : Below base w { w with drawn := w.drawn + 1 } := ⟨rfl, rfl, rfl, Nat.le_refl _, fun _ _ => rfl⟩
        have H0 : HR m base lvl h { w with drawn := w.drawn + 1 } := H.world (Nat.le_refl _) fun _ _ => rfl
        obtain ⟨t1, w1, m1, hst, hT1, H1, hle1, hB1⟩ := drawOps_sound (stdS_ok hE hrc) hE.mixed hT H0 (G.below hB0) hso (w.tape w.drawn (.order fr.fn id)) fr cs k
        simp only [Option.some.injEq] at hs
        subst hs
        obtain ⟨t', todo'', w', m', g1, g2, g3, g4, g5, g6⟩ := ho fr t1 cs w1 m1 base (hR.mono hle1) hT1 H1 ((G.below hB0).below hB1)
        exact ⟨t', todo'', w', m', .head stepF_regionDraw (Steps.trans hst g1), g2, g3, hle1.trans g4, (hB0.trans hB1).trans g5, g6⟩
      · simp at hs
  · simp at hs

theorem stepsS_sound (hE : EnvOk E) (hrc : RecOk E rc) {lvl : Nat} {r : Res} : ∀ (n : Nat) {s s' : St}, stepsS E rc lvl n s = some s' → Out E lvl s' r → Out E lvl s r
  | 0, s, s', h, ho => by
    have h' : some s = some s' := h
    simp only [Option.some.injEq] at h'
    subst h'; exact ho
  | n + 1, s, s', h, ho => by
    have h' : (match stepS E rc lvl s with | some s1 => stepsS E rc lvl n s1 | none => none) = some s' := h
    split at h'
    · rename_i s1 hs1
      exact stepS_sound hE hrc hs1 (stepsS_sound hE hrc n h' ho)
    · simp at h'

/-- the first state of a call -/
def startS (c : Code) (ntmps : Nat) (args : List AV) : St := ⟨[], [.code c], appL args (List.replicate (ntmps - lenL args) (.tup []))⟩

/-- A closed call whose run was followed piece by piece. -/
theorem closed_pieces (_hE : EnvOk E) {f : FuncId} {fn : Func} {c : Code} (hf : E.P.funcs[f]? = some fn) (hc : fn.body = some c) (hrw : E.rw f = false) {args : List AV} {argsC : Array Value} {r : Res} (ho : Out E 0 (startS c fn.ntmps args) r)
    (hj : fellOrRet r.jump = true) (hm : r.marks = []) {v : AV} (hv : resultsA E fn r.tm r.heap = some v) {v' : AV} {h' : Heap} (hb : bring [] r.heap v = some (v', h'))
    (w : World) (ha : All2 (VR { n := 0, ρ := id, κ := id }) args argsC.toList) (G : GR E.gl w.heap.size w) :
    Calls E.P f argsC w fun e w' => ∃ y, e = .returned y ∧ (∃ m', VR m' v' y) ∧ Below w.heap.size w w' := by
  classical
  have hrec : RecOk E (fun rd lvl h todo tm => if rd = none ∧ lvl = 0 ∧ (⟨h, todo, tm⟩ : St) = startS c fn.ntmps args then some r else none) := by
    intro rd lvl h todo tm r' hs fr t cs w m base
    simp only at hs
    split at hs
    · rename_i hcd
      obtain ⟨rfl, rfl, he⟩ := hcd
      simp only [Option.some.injEq] at hs
      subst hs
      have := ho fr t cs w m base
      rw [← he] at this
      exact this
    · simp at hs
  have H : HR { n := 0, ρ := id, κ := id } w.heap.size 0 [] w := ⟨rfl, Nat.le_refl _, Nat.le_refl _, fun b a h => by simp at h, fun b _ h => by simp at h, fun b b' h => by simp at h, Nat.le_refl _, fun p hp => by simp at hp⟩
  refine (callA_sound (v := v') (h' := h') hrec ha H G ?_).mono fun e w' ⟨y, hy, m', hp⟩ => ⟨y, hy, ⟨m', hp.val⟩, hp.below⟩
  have hl : lenL ([] : Heap) = 0 := rfl
  have hd : dropMarks 0 r.heap r.marks = some r.heap := by rw [hm]; rfl
  simp only [callA, hf, hc, hrw, callBody, hl, startS, and_self, if_true, hj, hd, hv, hb, Bool.false_eq_true, if_false]

end
end Go.Ev
