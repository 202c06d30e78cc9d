/-
  The run of a frame, and calls: what the evaluator says, the machine does.
-/
import Derived.Test.YtgplabfjldndgaaGreatDoorEvI
import Derived.RangeFuncLeaves
import Derived.RangeFuncRecord
namespace Go.Ev
open Go.RowKit

def FR (fr : Frame) (t : Array Value) (todo : List Item) : Frame := { fr with tmps := t, todo := todo, mode := .run }

theorem FR_eval (fr : Frame) (t : Array Value) (todo : List Item) : (FR fr t todo).eval = evC t := by
  funext x; cases x <;> rfl

def EndOk : Jump → List Item → Prop
  | .fell, todo => todo = []
  | .ret, todo => ∃ k, todo = .code .ret :: k
  | .exit id, todo => ∃ k, todo = .code (.exit id) :: k ∧ exitTo id k = none

def RoundOk (m : M) (rd : Option Nat) (fr : Frame) : Prop := match rd with
  | none => fr.roundOf = none
  | some b => b < m.n ∧ fr.roundOf = some (m.ρ b) ∧ fr.kind = .normal

theorem RoundOk.mono {bs : Nat} {m m' : M} {rd : Option Nat} {fr : Frame} (h : M.leG bs m m') (hr : RoundOk m rd fr) : RoundOk m' rd fr := by
  cases rd with
  | none => exact hr
  | some b => obtain ⟨h1, h2, h3⟩ := hr; exact ⟨Nat.lt_of_lt_of_le h1 h.n, by rw [h.ρ b h1]; exact h2, h3⟩

def marksC (m : M) (l : List Nat) : List Deferred := l.map fun b => { target := .collected (m.ρ b), args := #[] }

def RecOk (E : Env) (rec : RunT) : Prop :=
  ∀ rd lvl h todo tm r, rec rd lvl h todo tm = some r → ∀ (fr : Frame) (t : Array Value) (cs : List Frame) (w : World) (m : M) (base : Nat), RoundOk m rd fr → TR m tm t → HR m base lvl h w → GR E.gl base w →
    ∃ t' todo' w' m', Steps E.P (lone (FR fr t todo) cs w) (lone (FR { fr with defers := marksC m' r.marks ++ fr.defers } t' todo') cs w') ∧ TR m' r.tm t' ∧ HR m' base lvl r.heap w' ∧ M.leG base m m' ∧ Below base w w' ∧ EndOk r.jump todo' ∧ ∀ b ∈ r.marks, b < m'.n

structure EnvOk (E : Env) : Prop where
  num : ∀ (f : Nat) (fn : Func), E.P.funcs[f]? = some fn → (fn.name == "runtime.NumGoroutine") = false
  mixed : E.P.follows .mixedOrders = true
  used : ∀ f, E.hk f = .copyCheck → ∀ (b : Nat) (w : World), w.cell? ⟨b, 0, none⟩ = some (.pointer (some ⟨b, 0, none⟩)) → Calls E.P f #[.pointer (some ⟨b, 0, none⟩)] w fun e w' => e = .returned (.tuple #[]) ∧ w' = w
  fresh : ∀ f, E.hk f = .copyCheck → ∀ (b : Nat) (w : World), w.cell? ⟨b, 0, none⟩ = some (.pointer none) → w.shape? b = some (E.bt, 2) → w.frozen? ⟨b, 0, none⟩ = false →
    Calls E.P f #[.pointer (some ⟨b, 0, none⟩)] w fun e w' => e = .returned (.tuple #[]) ∧ w' = w.setCell ⟨b, 0, none⟩ (.pointer (some ⟨b, 0, none⟩))
  join : ∀ f, E.hk f = .join → ∀ (bk o c : Nat) (xs : List ByteArray) (sep : ByteArray) (w : World), (∀ (j : Nat) x, xs[j]? = some x → w.cell? ⟨bk, o + j, none⟩ = some (.string x)) → bk < w.heap.size → xs.length ≤ 140737488355328 → xs.length ≤ c →
    (joinL sep.data.toList xs).length ≤ 281474976710656 → Calls E.P f #[.slice (some ⟨bk, o, none⟩) xs.length c, .string sep] w fun e w' => e = .returned (.string ⟨⟨joinL sep.data.toList xs⟩⟩) ∧ Below w.heap.size w w'

section
variable {P : Program} {fr : Frame} {t : Array Value} {cs : List Frame} {w : World} {k : List Item}

theorem stepF_skip : step P (lone (FR fr t (.code .skip :: k)) cs w) = .next (lone (FR fr t k) cs w) := step_lone_go (by simp [stepG, stepG.exec, FR])
theorem stepF_label {l : Nat} : step P (lone (FR fr t (.code (.label l) :: k)) cs w) = .next (lone (FR fr t k) cs w) := step_lone_go (by simp [stepG, stepG.exec, FR])
theorem stepF_inBlock {l : Nat} : step P (lone (FR fr t (.inBlock l :: k)) cs w) = .next (lone (FR fr t k) cs w) := step_lone_go (by simp [stepG, stepG.exec, FR])
theorem stepF_inScope {c : Code} : step P (lone (FR fr t (.inScope c :: k)) cs w) = .next (lone (FR fr t k) cs w) := step_lone_go (by simp [stepG, stepG.exec, FR])
theorem stepF_seq {a b : Code} : step P (lone (FR fr t (.code (.seq a b) :: k)) cs w) = .next (lone (FR fr t (.code a :: .code b :: k)) cs w) := step_lone_go (by simp [stepG, stepG.exec, FR])
theorem stepF_cond {c : Operand} {a b : Code} {tt : Bool} (hc : evC t c = .bool tt) : step P (lone (FR fr t (.code (.cond c a b) :: k)) cs w) = .next (lone (FR fr t (.code (if tt then a else b) :: k)) cs w) :=
  step_lone_go (by
    have := congrFun (FR_eval fr t (.code (.cond c a b) :: k)) c
    simp only [FR] at this
    simp [stepG, stepG.exec, FR, this, hc])
theorem stepF_block {id : Nat} {c : Code} : step P (lone (FR fr t (.code (.block id c) :: k)) cs w) = .next (lone (FR fr t (.code c :: .inBlock id :: k)) cs w) := step_lone_go (by simp [stepG, stepG.exec, FR])
theorem stepF_loop {c : Code} : step P (lone (FR fr t (.code (.loop c) :: k)) cs w) = .next (lone (FR fr t (.code c :: .inLoop c :: k)) cs w) := step_lone_go (by simp [stepG, stepG.exec, FR])
theorem stepF_inLoop {c : Code} : step P (lone (FR fr t (.inLoop c :: k)) cs w) = .next (lone (FR fr t (.code c :: .inLoop c :: k)) cs w) := step_lone_go (by simp [stepG, stepG.exec, FR])
theorem stepF_scope {c : Code} : step P (lone (FR fr t (.code (.scope c) :: k)) cs w) = .next (lone (FR fr t (.code c :: .inScope c :: k)) cs w) := step_lone_go (by simp [stepG, stepG.exec, FR])
theorem stepF_exit {id : Nat} {k' : List Item} (hk : exitTo id k = some k') : step P (lone (FR fr t (.code (.exit id) :: k)) cs w) = .next (lone (FR fr t k') cs w) := step_lone_go (by simp [stepG, stepG.exec, FR, hk])
theorem stepF_region {id : Nat} {ops : Array Oper} : step P (lone (FR fr t (.code (.region id ops false) :: k)) cs w) = .next (lone (FR fr t (.inRegion ops (List.range ops.size) :: k)) cs w) := step_lone_go (by simp [stepG, stepG.exec, FR])
theorem stepF_regionDraw {id : Nat} {ops : Array Oper} : step P (lone (FR fr t (.code (.region id ops true) :: k)) cs w) = .next (lone (FR fr t (.inRegion ops (Region.schedule (P.follows .mixedOrders) ops (w.tape w.drawn (.order fr.fn id))) :: k)) cs { w with drawn := w.drawn + 1 }) :=
  step_lone_go (by simp [stepG, stepG.exec, FR, choose, Sem.run, Question.forced, Question.cut])
theorem stepF_regionEnd {ops : Array Oper} : step P (lone (FR fr t (.inRegion ops [] :: k)) cs w) = .next (lone (FR fr t k) cs w) := step_lone_go (by simp [stepG, stepG.exec, FR])
theorem stepF_end (hr : fr.roundOf = none) : step P (lone (FR fr t []) cs w) = .next (lone { FR fr t [] with mode := .returning } cs w) := step_lone_go (by simp [stepG, stepG.exec, FR, hr])
theorem stepF_ret (hr : fr.roundOf = none) : step P (lone (FR fr t (.code .ret :: k)) cs w) = .next (lone { FR fr t (.code .ret :: k) with mode := .returning } cs w) := step_lone_go (by simp [stepG, stepG.exec, FR, hr])

theorem stepF_beginRound {l : Nat} {w' : World} (hb : fr.roundOf = some l) (hr : (Instr.beginRound l).run P w = .ok () w') : step P (lone (FR fr t (.beginRound :: k)) cs w) = .next (lone (FR fr t k) cs w') :=
  step_lone_go (by simp [stepG, stepG.exec, stepG.apply, FR, hb, Sem.runT_eq, hr, Result.andThen, Frame.finish])
theorem stepF_round_end {c : Frame} {l : Nat} {v : Value} {w' : World} (hb : fr.roundOf = some l) (hk : fr.kind = .normal) (hr : (Instr.endRound l none).run P w = .ok v w') :
    step P (lone (FR fr t []) (c :: cs) w) = .next (lone (c.finish v) cs w') :=
  step_lone_go (by simp [stepG, stepG.exec, FR, hb, hk, Sem.runT_eq, hr, doReturn])
theorem stepF_round_ret {c : Frame} {l : Nat} {v : Value} {w' : World} (hb : fr.roundOf = some l) (hk : fr.kind = .normal) (hr : (Instr.endRound l (some .ret)).run P w = .ok v w') :
    step P (lone (FR fr t (.code .ret :: k)) (c :: cs) w) = .next (lone (c.finish v) cs w') :=
  step_lone_go (by simp [stepG, stepG.exec, FR, hb, hk, Sem.runT_eq, hr, doReturn])
theorem stepF_round_exit {c : Frame} {l id : Nat} {v : Value} {w' : World} (hb : fr.roundOf = some l) (hk : fr.kind = .normal) (hx : exitTo id k = none) (hr : (Instr.endRound l (some (.exit id))).run P w = .ok v w') :
    step P (lone (FR fr t (.code (.exit id) :: k)) (c :: cs) w) = .next (lone (c.finish v) cs w') :=
  step_lone_go (by simp [stepG, stepG.exec, FR, hb, hk, hx, Sem.runT_eq, hr, doReturn])
theorem stepF_endLoop {l : Nat} {jump : Option Code} {w' : World} (hr : (Instr.endLoop l).run P w = .ok jump w') : step P (lone (FR fr t (.endRangeFunc l :: k)) cs w) = .next (lone (FR fr t ((jump.map Item.code).toList ++ k)) cs w') :=
  step_lone_go (by simp [stepG, stepG.exec, FR, Sem.runT_eq, hr])
theorem stepF_rangeFunc {f : Operand} {ps : Array Tmp} {asg body : Code} {l : Nat} {mark : List Deferred} {w1 : World} {g : FuncId} {args : Array Value} (he : (Instr.enterLoop fr.fn t ps asg body fr.roundOf).run P w = .ok (l, mark) w1)
    {d : Deferred} (hd : (resolve (evC t) { callee := .value f, args := #[.const (.func (.yield l) #[] #[])], argTypes := #[] } 0).run P w1 = .ok d w1) (hi : (invoke d.target d.args).run P w1 = .ok (.enter g args) w1) :
    step P (lone (FR fr t (.code (.rangeFunc f ps asg body) :: k)) cs w) = .next (lone (Frame.enter P g args .normal) (FR { fr with defers := mark ++ fr.defers } t (.inRangeFunc l :: k) :: cs) w1) :=
  step_lone_go (by
    have hev := FR_eval { fr with defers := mark ++ fr.defers } t (.inRangeFunc l :: k)
    simp only [FR] at hev
    simp [stepG, stepG.exec, stepG.apply, FR, Sem.runT_eq, he, hev, hd, hi, Result.andThen])

def putC (t : Array Value) (d : Option Nat) (y : Value) : Array Value := match d with | some d => t.setIfInBounds d y | none => t

variable {ops : Array Oper} {i : Nat} {rest : List Nat} {o : Oper}
theorem FR_finish (ho : ops[i]? = some o) (y : Value) : (FR fr t (.inRegion ops (i :: rest) :: k)).finish y = FR fr (putC t o.dst y) (.inRegion ops rest :: k) := by
  unfold putC
  cases hd : o.dst <;> simp [Frame.finish, FR, ho, hd]

theorem stepG_F (ho : ops[i]? = some o) (hw : Region.wanted o (yielded ops t) = true) (hd : ∀ c, o.op ≠ .defer c) :
    stepG P true { frame := FR fr t (.inRegion ops (i :: rest) :: k), callers := cs, status := .running, dying := none } w = stepG.apply P true (FR fr t (.inRegion ops (i :: rest) :: k)) cs none (execOp (evC t) o) w := by
  have he := FR_eval fr t (.inRegion ops (i :: rest) :: k)
  simp only [FR] at he
  simp [stepG, stepG.exec, stepG.oper, Frame.oper?, FR, ho, hw, he]
  split
  · rename_i c _ hop; exact absurd hop (hd c)
  · rfl

theorem stepF_value (ho : ops[i]? = some o) (hw : Region.wanted o (yielded ops t) = true) (hd : ∀ c, o.op ≠ .defer c) {y : Value} {w' : World} (hr : Does P t o w y w') :
    step P (lone (FR fr t (.inRegion ops (i :: rest) :: k)) cs w) = .next (lone (FR fr (putC t o.dst y) (.inRegion ops rest :: k)) cs w') := by
  rw [← FR_finish (fr := fr) ho]
  rcases hr with hr | ⟨hr, rfl⟩
  · exact step_lone_go (by rw [stepG_F ho hw hd]; simp [stepG.apply, hr])
  · exact step_lone_go (by rw [stepG_F ho hw hd]; simp [stepG.apply, hr])

theorem stepsF_enter (ho : ops[i]? = some o) (hw : Region.wanted o (yielded ops t) = true) (hd : ∀ c, o.op ≠ .defer c) {f : FuncId} {args : Array Value} (hr : (execOp (evC t) o).run P w = .ok (.enter f args) w)
    {R : Value → World → Prop} (hc : Calls P f args w fun e w' => ∃ y, e = .returned y ∧ R y w') :
    ∃ y w', Steps P (lone (FR fr t (.inRegion ops (i :: rest) :: k)) cs w) (lone (FR fr (putC t o.dst y) (.inRegion ops rest :: k)) cs w') ∧ R y w' := by
  obtain ⟨e, w', fr', ⟨y, rfl, hR⟩, hsteps, _, hleave⟩ := hc (FR fr t (.inRegion ops (i :: rest) :: k) :: cs)
  refine ⟨y, w', ?_, hR⟩
  rw [← FR_finish (fr := fr) ho]
  refine .head (step_lone_go (fr' := Frame.enter P f args .normal) (cs' := FR fr t (.inRegion ops (i :: rest) :: k) :: cs) (w' := w) ?_) (Steps.trans hsteps (.one (step_leave_returned hleave)))
  rw [stepG_F ho hw hd]
  simp [stepG.apply, hr, FR]

theorem stepF_pass (ho : ops[i]? = some o) (hw : Region.wanted o (yielded ops t) = false) :
    step P (lone (FR fr t (.inRegion ops (i :: rest) :: k)) cs w) = .next (lone (FR fr (putC t o.dst undef) (.inRegion ops rest :: k)) cs w) := by
  rw [← FR_finish (fr := fr) ho]
  exact step_lone_go (by simp [stepG, stepG.exec, FR, ho, hw])
end

theorem wanted_sound {m : M} {tm : Tm} {t : Array Value} (hT : TR m tm t) (ops : Array Oper) (o : Oper) : Region.wanted o (yielded ops t) = wantedA ops tm o := by
  unfold Region.wanted wantedA
  cases hg : o.guard with
  | none => rfl
  | some p =>
    obtain ⟨j, want⟩ := p
    simp only
    unfold yielded
    cases hd : (ops[j]?).bind (·.dst) with
    | none => simp
    | some d =>
      simp only [Option.bind_some]
      rw [getL_eq]
      cases ha : tm[d]? with
      | none =>
        have h1 : t[d]? = none := by
          have := hT.length
          simp at ha this ⊢
          omega
        simp [h1]
      | some a =>
        obtain ⟨y, hy, hr⟩ := hT.get ha
        have hy' : t[d]? = some y := by simpa using hy
        simp only [hy']
        split
        · rename_i b hb
          simp only [Option.some.injEq] at hb
          subst hb
          cases a with
          | tup l => obtain ⟨_, h, _⟩ := hr; simp at h
          | e a =>
            cases a with
            | agg l => obtain ⟨_, h, _⟩ := hr; simp at h
            | one a =>
              cases a with
              | v x =>
                have : Value.bool b = x := hr
                subst this
                cases b <;> cases want <;> rfl
              | ptr b o => obtain ⟨_, h⟩ := hr; simp at h
              | slc => obtain ⟨_, _, _, h, _⟩ := hr; simp at h
              | clo => obtain ⟨_, _, h, _⟩ := hr; simp at h
              | yld => obtain ⟨_, h⟩ := hr; simp at h
              | mp => obtain ⟨_, h⟩ := hr; simp at h
              | dp => rcases DV.R.shape hr with ⟨_, _, _, h⟩ | ⟨_, _, h⟩ <;> simp at h
              | any p => exact absurd rfl (hr.2.2 _)
        · rename_i hne
          split
          · rename_i b hb
            simp only [Option.some.injEq] at hb
            subst hb
            have : y = .bool b := hr
            exact absurd (by rw [this]) (hne b)
          · rfl

end Go.Ev
