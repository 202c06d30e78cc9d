/-
  A region in which two operations come in either order: both orders must come to what is asked.
-/
import Derived.Test.YtgplabfjldndgaaGreatDoorSyF
import Derived.Test.YtgplabfjldndgaaGreatDoorEvQ
namespace Go.Ev
open Go.RowKit
noncomputable section

variable {E : Env} {rec : RunT} {lvl K : Nat} {r : Res → Prop}

/-- What comes of a region from a state on, in an order that keeps to some edges. -/
def OutR (E : Env) (lvl K : Nat) (ops : Array Oper) (X : List (Nat × Nat)) (h : Heap) (todo : List Item) (tm : Tm) (r : Res → Prop) : Prop :=
  ∀ (fr : Frame) (t : Array Value) (cs : List Frame) (w : World) (m : M) (base : Nat) (L : List Nat), RoundOk m none fr → TR m tm t → HR m base lvl h w → GR E.gl base w → K ≤ m.n → ValidL ops (Array.replicate ops.size false) L → RespL X (Array.replicate ops.size false) L →
    ∃ q, r q ∧ ∃ t' todo' w' m', Steps E.P (lone (FR fr t (.inRegion ops L :: todo)) cs w) (lone (FR { fr with defers := marksC m' q.marks ++ fr.defers } t' todo') cs w') ∧ TR m' q.tm t' ∧ HR m' base lvl q.heap w' ∧ M.leK base K m m' ∧ Below base w w' ∧ EndOk q.jump todo' ∧ ∀ b ∈ q.marks, b < m'.n

theorem outR_leaf (hE : EnvOk E) (hrec : RecOk E rec) {ops : Array Oper} {X : List (Nat × Nat)} (π : List Nat) (a : List (Nat × Ans)) (g : List (Nat × Bool)) {h h1 : Heap} {tm tm1 : Tm} {ps : List Prop} (hok : (okVirt π ops && X.all fun p => Nat.blt p.1 (lenL ops.toList)) = true)
    (hd : drawV E rec a g lvl (virtOps π X ops) h tm = some (h1, tm1, ps)) (hp : AllP ps) {todo : List Item} (ho : OutK E lvl K ⟨h1, todo, tm1⟩ r) : OutR E lvl K ops X h todo tm r := by
  simp only [Bool.and_eq_true, List.all_eq_true, lenL_eq, Nat.blt_eq] at hok
  have hv := okVirt_spec hok.1
  have hX : ∀ p ∈ X, p.1 < ops.size := fun p hp => by simpa using hok.2 p hp
  intro fr t cs w m base L hR hT H G hK hL hr
  have hsz : (virtOps π X ops).size = ops.size := by simp [virtOps, hv.len]
  obtain ⟨L', rfl, hL'⟩ := valid_virt hv hX L (Array.replicate ops.size false) (Array.replicate (virtOps π X ops).size false) (by simp) (by simp [hsz]) (fun j hj => by
    have := (hv.forth j hj).2
    rw [hsz]
    simp [hj, this]) hL hr
  obtain ⟨t1, w1, m1, hst, hT1, H1, hle, hB⟩ := drawList_sound (sigV_ok hE hrec a) (virt_virt (X := X) hv) hL' hT H G (drawV_sim hd hp) fr cs todo
  obtain ⟨q, hq, t', todo', w', m', g1, g2, g3, g4, g5, g6⟩ := ho fr t1 cs w1 m1 base (hR.mono hle) hT1 H1 (G.below hB) (Nat.le_trans hK hle.n)
  exact ⟨q, hq, t', todo', w', m', Steps.trans hst g1, g2, g3, (M.leK.of_le hK hle).trans g4, hB.trans g5, g6⟩

/-- One of two operations comes first. -/
theorem outR_split {ops : Array Oper} {X : List (Nat × Nat)} (a b : Nat) (hab : Nat.beq a b = false) {h : Heap} {todo : List Item} {tm : Tm} (h1 : OutR E lvl K ops ((a, b) :: X) h todo tm r) (h2 : OutR E lvl K ops ((b, a) :: X) h todo tm r) : OutR E lvl K ops X h todo tm r := by
  intro fr t cs w m base L hR hT H G hK hL hr
  rcases resp_either (a := a) (b := b) (fun e => by subst e; simp at hab) L _ (by simp) hL with h | h
  · exact h1 fr t cs w m base L hR hT H G hK hL (resp_cons L _ h hr)
  · exact h2 fr t cs w m base L hR hT H G hK hL (resp_cons L _ h hr)

theorem outK_draw (hE : EnvOk E) {ops : Array Oper} {h : Heap} {tm : Tm} {id : Nat} {todo : List Item} (ho : OutR E lvl K ops [] h todo tm r) : OutK E lvl K ⟨h, .code (.region id ops true) :: todo, tm⟩ r := by
  intro fr t cs w m base hR hT H G hK
  have hB0 : Below base w { w with drawn := w.drawn + 1 } := ⟨rfl, rfl, rfl, Nat.le_refl _, fun _ _ => rfl⟩
  have H0 : HR m base lvl h { w with drawn := w.drawn + 1 } := H.world (Nat.le_refl _) fun _ _ => rfl
  have hv := go_valid (ops := ops) ops.size (w.tape w.drawn (.order fr.fn id)) (Array.replicate ops.size false) (List.range ops.size) (fun i hi _ => List.mem_range.2 hi) (by simp)
  have e : Region.schedule (E.P.follows .mixedOrders) ops (w.tape w.drawn (.order fr.fn id)) = Region.linearise.go .any ops ops.size (w.tape w.drawn (.order fr.fn id)) (Array.replicate ops.size false) [] := by
    simp only [Region.schedule, hE.mixed, Bool.true_or, if_true]
    rfl
  rw [← e] at hv
  have first : Steps E.P (lone (FR fr t (.code (.region id ops true) :: todo)) cs w) (lone (FR fr t (.inRegion ops (Region.schedule (E.P.follows .mixedOrders) ops (w.tape w.drawn (.order fr.fn id))) :: todo)) cs { w with drawn := w.drawn + 1 }) := .one stepF_regionDraw
  obtain ⟨q, hq, t', todo', w', m', j1, j2, j3, j4, j5, j6⟩ := ho fr t cs { w with drawn := w.drawn + 1 } m base _ hR hT H0 (G.below hB0) hK hv (resp_nil _ _)
  exact ⟨q, hq, t', todo', w', m', Steps.trans first j1, j2, j3, j4, hB0.trans j5, j6⟩

def segD (E : Env) (rec : RunT) (lvl : Nat) (a : List (Nat × Ans)) (g : List (Nat × Bool)) (ops : Array Oper) (ks : List Nat) (j : Nat → Value) (h : Heap) (todo : List Item) (tm : Tm) : Option (St × List Prop) :=
  match drawV E rec a g lvl ops h tm with
  | some (h1, tm1, ps) => some (⟨h1, todo, forgetT ks j tm1 0⟩, ps)
  | none => none
theorem outR_seg (hE : EnvOk E) (hrec : RecOk E rec) {ops : Array Oper} {X : List (Nat × Nat)} (π : List Nat) (a : List (Nat × Ans)) (g : List (Nat × Bool)) (ks : List Nat) {h : Heap} {tm : Tm} {s' : (Nat → Value) → St} {ps : List Prop} {todo : List Item} (hok : (okVirt π ops && X.all fun p => Nat.blt p.1 (lenL ops.toList)) = true)
    (hd : ∀ j, segD E rec lvl a g (virtOps π X ops) ks j h todo tm = some (s' j, ps)) (hp : AllP ps) (ho : ∀ j, OutK E lvl K (s' j) r) : OutR E lvl K ops X h todo tm r := by
  cases hc : drawV E rec a g lvl (virtOps π X ops) h tm with
  | none => have := hd (fun _ => undef); simp [segD, hc] at this
  | some p =>
    obtain ⟨h1, tm1, qs⟩ := p
    have hq : qs = ps := by have := hd (fun _ => undef); simp [segD, hc] at this; exact this.2
    subst hq
    refine outR_leaf hE hrec π a g hok hc hp (outK_forget ks fun j => ?_)
    have := hd j
    simp only [segD, hc, Option.some.injEq, Prod.mk.injEq] at this
    rw [this.1]
    exact ho j
theorem outK_draw' (hE : EnvOk E) {ops : Array Oper} {h : Heap} {tm : Tm} {id : Nat} {todo : List Item} {s : St} (hs : s = ⟨h, .code (.region id ops true) :: todo, tm⟩) (ho : OutR E lvl K ops [] h todo tm r) : OutK E lvl K s r := by
  subst hs
  exact outK_draw hE ho

/-- the operations of a region -/
def opsOf : Code → Array Oper
  | .region _ ops _ => ops
  | _ => #[]
def idOf : Code → Nat
  | .region n _ _ => n
  | _ => 0

end
end Go.Ev
