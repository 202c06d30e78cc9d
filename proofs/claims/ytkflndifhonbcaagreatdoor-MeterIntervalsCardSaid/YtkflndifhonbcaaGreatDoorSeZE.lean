/-
  Part of the proof: SyF, EvQ, SyG, SyP, SeEnv, SeH, SeLem, SyK, SyL, SyO, SyArg, SyList, SyRd, SeEqI, SeGen, SeCk, SeCl.
-/
import Derived.Test.YtkflndifhonbcaaGreatDoorSeZD
import Derived.ChangeArms
import Derived.KernelRfl
import Derived.OpenShut
import Derived.Stop.BytesEq
import Derived.Test.YtkflndifhonbcaaGreatDoorProg
import Derived.WideShapes

/-! SyF -/
section
namespace Go.Ev
open Go.RowKit
noncomputable section
def sub1 (i : Nat) : Code → Code
 | .seq a b => Nat.rec (motive := fun _ => Code) a (fun _ _ => b) i
 | .cond _ a b => Nat.rec (motive := fun _ => Code) a (fun _ _ => b) i
 | .block _ a => a
 | .loop a => a
 | .scope a => a
 | .rangeFunc _ _ a b => Nat.rec (motive := fun _ => Code) a (fun _ _ => b) i
 | c => c
def atC (p : List Nat) : Code → Code := List.rec (motive := fun _ => Code → Code) (fun c => c) (fun i _ ih c => ih (sub1 i c)) p
def bodyOf (f : Func) : Code := match f.body with | some c => c | none => .skip
def lookT (l : List (Nat × AV)) (i : Nat) : Option AV := List.rec (motive := fun _ => Option AV) none (fun p _ ih => if Nat.beq p.1 i then some p.2 else ih) l
def mkT (j : Nat → Value) (l : List (Nat × AV)) (n : Nat) : Nat → Tm :=
 Nat.rec (motive := fun _ => Nat → Tm) (fun _ => []) (fun _ ih i => (match lookT l i with | some x => x | none => .e (.one (.v (j i)))) :: ih (Nat.succ i)) n
abbrev iI (n : Int) : AV := .e (.one (.v (.int .i64 n)))
abbrev iB (b : Bool) : AV := .e (.one (.v (.bool b)))
variable {E : Env} {rec : RunT} {lvl K : Nat} {r : Res → Prop} {rd : Option Nat}
def segV (E : Env) (rec : RunT) (lvl : Nat) (l : List SAns) (ks : List Nat) (j : Nat → Value) (s : St) : Option (St × List Prop) :=
 match chainV E rec lvl l s with
 | some (s1, ps) => some (⟨s1.heap, s1.todo, forgetT ks j s1.tm 0⟩, ps)
 | none => none
theorem outK_seg (hE : EnvOk E) (hrec : RecOk E rec) (l : List SAns) (ks : List Nat) {s : St} {s' : (Nat → Value) → St} {ps : List Prop} (h : ∀ j, segV E rec lvl l ks j s = some (s' j, ps)) (hp : AllP ps) (ho : ∀ j, OutK E lvl K (s' j) r rd) : OutK E lvl K s r rd := by
 cases hc : chainV E rec lvl l s with
 | none => have := h (fun _ => undef); simp [segV, hc] at this
 | some p =>
  obtain ⟨⟨h1, t1, tm1⟩, qs⟩ := p
  have hq : qs = ps := by have := h (fun _ => undef); simp [segV, hc] at this; exact this.2
  subst hq
  refine outK_chain hE hrec l hc hp (outK_forget ks fun j => ?_)
  have := h j
  simp only [segV, hc, Option.some.injEq, Prod.mk.injEq] at this
  rw [this.1]
  exact ho j
def startK (f : Func) (hin : Heap) (args : List AV) : St := ⟨hin, [.code (bodyOf f)], appL args (List.replicate (f.ntmps - lenL args) (.tup []))⟩
theorem cOut_start {f : FuncId} {fn : Func} (hf : E.P.funcs[f]? = some fn) (hb : fn.body.isSome = true) {hin hout : Heap} {args : List AV} {v : AV} (ho : OutK E lvl (lenL hin) (startK fn hin args) (Ends E fn v hout)) : COut E lvl hin f args v hout := by
 cases hc : fn.body with
 | none => rw [hc] at hb; simp at hb
 | some c =>
  have e : bodyOf fn = c := by simp [bodyOf, hc]
  rw [lenL_eq] at ho
  unfold startK at ho
  rw [e] at ho
  exact cOut_of hf hc ho
theorem lookT_mem : ∀ {os : List (Nat × AV)} {i : Nat} {x : AV}, lookT os i = some x → (i, x) ∈ os
 | [], _, _, h => by simp [lookT] at h
 | p :: os, i, x, h => by
  have h' : (if Nat.beq p.1 i then some p.2 else lookT os i) = some x := h
  split at h'
  ·rename_i he
   have he := Nat.eq_of_beq_eq_true he
   simp only [Option.some.injEq] at h'
   subst h' he
   exact List.mem_cons_self ..
  ·exact List.mem_cons_of_mem _ (lookT_mem h')
theorem OpqC.ren {K : Nat} {x : AC} (h : OpqC K x) {f : Nat → Nat} (hf : ∀ b, b < K → f b = b) : x.ren f = x := by
 cases x with
 | v _ => rfl
 | ptr b o => simp only [AC.ren]; rw [hf b (h b (by simp [AC.refs]))]
 | slc b o len sz cap ex => simp only [AC.ren]; rw [hf b (h b (by simp [AC.refs]))]
 | yld b => simp only [AC.ren]; rw [hf b (h b (by simp [AC.refs]))]
 | mp b => simp only [AC.ren]; rw [hf b (h b (by simp [AC.refs]))]
 | dp _ => rfl
 | any _ => rfl
 | clo g fs cs =>
  simp only [AC.ren]
  rw [CE.ren_fix fun b hb => hf b (h b (List.mem_append_left _ hb)), CE.ren_fix fun b hb => hf b (h b (List.mem_append_right _ hb))]
theorem ends_ret {fn : Func} {tm : Tm} {h : Heap} {v : AV} (hv : resultsA E fn tm h = some v) : Ends E fn v h ⟨.ret, tm, h, []⟩ := ⟨rfl, rfl, rfl, hv⟩
end
end Go.Ev
end

/-! EvQ -/
section
namespace Go.Ev
open Go.RowKit
noncomputable section
def posL (l : List Nat) (j : Nat) : Nat := List.rec (motive := fun _ => Nat) 0 (fun a _ ih => if Nat.beq a j then 0 else Nat.succ ih) l
def virtEdges (π : List Nat) (X : List (Nat × Nat)) (j : Nat) (es : List Edge) : List Edge :=
 (es.filter bindsB).map (fun e => Edge.mk (posL π e.on) .data) ++ (X.filter fun p : Nat × Nat => Nat.beq p.2 j).map fun p : Nat × Nat => Edge.mk (posL π p.1) .data
def virtOps (π : List Nat) (X : List (Nat × Nat)) (ops : Array Oper) : Array Oper :=
 (π.map fun j => match ops[j]? with
  | some o => { o with after := (virtEdges π X j o.after.toList).toArray, guard := none }
  | none => { dst := none, op := .move (.const undef), type := 0, pos := "", after := #[], guard := none }).toArray
def okVirt (π : List Nat) (ops : Array Oper) : Bool :=
 Nat.beq (lenL π) (lenL ops.toList) && (List.range (lenL π)).all (fun k => Nat.beq (posL π (getD0 π k)) k && Nat.blt (getD0 π k) (lenL π)) && (List.range (lenL π)).all (fun j => Nat.beq (getD0 π (posL π j)) j && Nat.blt (posL π j) (lenL π)) &&
  (List.range (lenL π)).all (fun i => match ops[i]? with
   | some o => (match o.guard with | none => true | some _ => false) && o.after.toList.all fun e => !bindsB e || Nat.blt e.on i
   | none => false)
structure VirtOk (π : List Nat) (ops : Array Oper) : Prop where
 len : π.length = ops.size
 back : ∀ k, k < ops.size → posL π (getD0 π k) = k ∧ getD0 π k < ops.size
 forth : ∀ j, j < ops.size → getD0 π (posL π j) = j ∧ posL π j < ops.size
 free : ∀ (i : Nat) (o : Oper), ops[i]? = some o → o.guard = none ∧ ∀ e ∈ o.after, bindsB e = true → e.on < i
theorem okVirt_spec {π : List Nat} {ops : Array Oper} (h : okVirt π ops = true) : VirtOk π ops := by
 simp only [okVirt, Bool.and_eq_true, List.all_eq_true, lenL_eq] at h
 obtain ⟨⟨⟨h1, h2⟩, h3⟩, h4⟩ := h
 have h1 := Nat.eq_of_beq_eq_true h1
 have hl : π.length = ops.size := by simpa using h1
 rw [hl] at h2 h3 h4
 refine ⟨hl, fun k hk => ?_, fun j hj => ?_, fun i o ho => ?_⟩
 ·obtain ⟨a, b⟩ := h2 k (List.mem_range.2 hk)
  exact ⟨Nat.eq_of_beq_eq_true a, by simpa [Nat.blt_eq] using b⟩
 ·obtain ⟨a, b⟩ := h3 j (List.mem_range.2 hj)
  exact ⟨Nat.eq_of_beq_eq_true a, by simpa [Nat.blt_eq] using b⟩
 ·have hi := (Array.getElem?_eq_some_iff.1 ho).1
  have := h4 i (List.mem_range.2 hi)
  rw [ho] at this
  simp only [Bool.and_eq_true, List.all_eq_true, Bool.or_eq_true, Bool.not_eq_true', Nat.blt_eq] at this
  obtain ⟨a, b⟩ := this
  refine ⟨?_, fun e he hb => ?_⟩
  ·split at a
   ·assumption
   ·simp at a
  ·rcases b e (by simpa using he) with h | h
   ·rw [hb] at h; simp at h
   ·exact h
theorem getD0_get {π : List Nat} {k : Nat} (h : k < π.length) : π[k]? = some (getD0 π k) := by
 rw [getD0_eq, List.getD_eq_getElem?_getD, List.getElem?_eq_getElem h]; rfl
theorem virt_get {π : List Nat} {X : List (Nat × Nat)} {ops : Array Oper} (hv : VirtOk π ops) {k : Nat} {o : Oper} (ho : (virtOps π X ops)[k]? = some o) : ∃ o0, k < ops.size ∧ ops[getD0 π k]? = some o0 ∧
  o = { o0 with after := (virtEdges π X (getD0 π k) o0.after.toList).toArray, guard := none } := by
 have hk : k < π.length := by
  have := (Array.getElem?_eq_some_iff.1 ho).1
  simpa [virtOps] using this
 have hk' : k < ops.size := by rw [← hv.len]; exact hk
 obtain ⟨_, hlt⟩ := hv.back k hk'
 refine ⟨ops[getD0 π k], hk', Array.getElem?_eq_getElem hlt, ?_⟩
 simp only [virtOps, List.getElem?_toArray, List.getElem?_map, getD0_get hk, Option.map_some, Array.getElem?_eq_getElem hlt, Option.some.injEq] at ho
 exact ho.symm
theorem virt_virt {π : List Nat} {X : List (Nat × Nat)} {ops : Array Oper} (hv : VirtOk π ops) : Virt (virtOps π X ops) ops (getD0 π) := fun k o ho => by
 obtain ⟨o0, _, h1, rfl⟩ := virt_get hv ho
 refine ⟨o0.after, o0.guard, h1, fun t => ?_⟩
 have hg := (hv.free _ o0 h1).1
 simp [Region.wanted, hg]
def RespL (X : List (Nat × Nat)) : Array Bool → List Nat → Prop
 | _, [] => True
 | listed, j :: l => (∀ p ∈ X, p.2 = j → listed.getD p.1 false = true) ∧ RespL X (listed.setIfInBounds j true) l
theorem resp_done {a b : Nat} : ∀ (l : List Nat) (listed : Array Bool), listed.getD a false = true → RespL [(a, b)] listed l
 | [], _, _ => trivial
 | j :: l, listed, h => ⟨fun p hp _ => by rw [List.mem_singleton.1 hp]; exact h, resp_done l _ (by
   by_cases hj : j < listed.size
   ·exact (set_listed hj).2 (.inr h)
   ·rw [Array.setIfInBounds_eq_of_size_le (by omega)]; exact h)⟩
theorem resp_either {ops : Array Oper} {a b : Nat} (hab : a ≠ b) : ∀ (l : List Nat) (listed : Array Bool), listed.size = ops.size → ValidL ops listed l → RespL [(a, b)] listed l ∨ RespL [(b, a)] listed l
 | [], _, _, _ => .inl trivial
 | j :: l, listed, hs, hv => by
  have hj : j < listed.size := by
   obtain ⟨_, o, h2, _⟩ := mem_ready.1 hv.1
   rw [hs]; exact (Array.getElem?_eq_some_iff.1 h2).1
  by_cases h1 : j = a
  ·subst h1
   exact .inl ⟨fun p hp he => by rw [List.mem_singleton.1 hp] at he; exact absurd he.symm hab, resp_done l _ ((set_listed hj).2 (.inl rfl))⟩
  ·by_cases h2 : j = b
   ·subst h2
    exact .inr ⟨fun p hp he => by rw [List.mem_singleton.1 hp] at he; exact absurd he hab, resp_done l _ ((set_listed hj).2 (.inl rfl))⟩
   ·rcases resp_either hab l (listed.setIfInBounds j true) (by simpa using hs) hv.2 with h | h
    ·exact .inl ⟨fun p hp he => by rw [List.mem_singleton.1 hp] at he; exact absurd he.symm h2, h⟩
    ·exact .inr ⟨fun p hp he => by rw [List.mem_singleton.1 hp] at he; exact absurd he.symm h1, h⟩
theorem resp_cons {p : Nat × Nat} {X : List (Nat × Nat)} : ∀ (l : List Nat) (listed : Array Bool), RespL [p] listed l → RespL X listed l → RespL (p :: X) listed l
 | [], _, _, _ => trivial
 | _ :: l, _, h1, h2 => ⟨fun q hq he => by
   rcases List.mem_cons.1 hq with rfl | hq
   ·exact h1.1 q (List.mem_singleton.2 rfl) he
   ·exact h2.1 q hq he, resp_cons l _ h1.2 h2.2⟩
theorem resp_nil : ∀ (l : List Nat) (listed : Array Bool), RespL [] listed l
 | [], _ => trivial
 | _ :: l, _ => ⟨fun _ hq => by simp at hq, resp_nil l _⟩
theorem ready_nil_all {ops : Array Oper} (hfree : ∀ (i : Nat) (o : Oper), ops[i]? = some o → ∀ e ∈ o.after, bindsB e = true → e.on < i) {listed : Array Bool} (hs : listed.size = ops.size) (h : Region.ready .any ops listed = []) : ∀ i, i < ops.size → listed.getD i false = true := by
 intro i
 induction i using Nat.strongRecOn with
 | _ i ih =>
  intro hi
  cases hl : listed.getD i false with
  | true => rfl
  | false =>
   exfalso
   have hl' : listed.getD i true = false := by
    have hb : i < listed.size := by omega
    simp [hb] at hl ⊢
    exact hl
   have : i ∈ Region.ready .any ops listed := mem_ready.2 ⟨hl', ops[i], Array.getElem?_eq_getElem hi, fun e he hb => by
    rw [binds_any] at hb
    have hlt := hfree i ops[i] (Array.getElem?_eq_getElem hi) e he hb
    exact ih e.on hlt (by omega)⟩
   rw [h] at this
   simp at this
theorem valid_virt {π : List Nat} {X : List (Nat × Nat)} {ops : Array Oper} (hv : VirtOk π ops) (hX : ∀ p ∈ X, p.1 < ops.size) : ∀ (l : List Nat) (l0 l1 : Array Bool), l0.size = ops.size → l1.size = ops.size → (∀ j, j < ops.size → l1.getD (posL π j) false = l0.getD j false) →
  ValidL ops l0 l → RespL X l0 l → ∃ l', l = l'.map (getD0 π) ∧ ValidL (virtOps π X ops) l1 l'
 | [], l0, l1, hs0, hs1, he, hl, _ => by
  refine ⟨[], rfl, ?_⟩
  have hall := ready_nil_all (fun i o ho => (hv.free i o ho).2) hs0 hl
  apply List.eq_nil_iff_forall_not_mem.2
  intro k hk
  obtain ⟨h1, o, h2, _⟩ := mem_ready.1 hk
  obtain ⟨_, hk', _, _⟩ := virt_get hv h2
  obtain ⟨b1, b2⟩ := hv.back k hk'
  have := he _ b2
  rw [b1, hall _ b2] at this
  have hb : k < l1.size := by omega
  simp [hb] at h1 this
  rw [h1] at this
  simp at this
 | j :: l, l0, l1, hs0, hs1, he, hl, hr => by
  obtain ⟨hm, hl⟩ := hl
  obtain ⟨hr1, hr⟩ := hr
  obtain ⟨h1, o, h2, h3⟩ := mem_ready.1 hm
  have hj := (Array.getElem?_eq_some_iff.1 h2).1
  obtain ⟨f1, f2⟩ := hv.forth j hj
  have hset : ∀ i, i < ops.size → (l1.setIfInBounds (posL π j) true).getD (posL π i) false = (l0.setIfInBounds j true).getD i false := fun i hi => by
   by_cases hij : i = j
   ·subst hij
    rw [(set_listed (by omega)).2 (.inl rfl), (set_listed (by omega)).2 (.inl rfl)]
   ·have : posL π i ≠ posL π j := fun e => hij (by rw [← (hv.forth i hi).1, e, f1])
    rw [set_unlisted this, set_unlisted hij]
    exact he i hi
  obtain ⟨l', hl1, hl2⟩ := valid_virt hv hX l (l0.setIfInBounds j true) (l1.setIfInBounds (posL π j) true) (by simpa using hs0) (by simpa using hs1) hset hl hr
  refine ⟨posL π j :: l', by simp only [List.map_cons, f1, hl1], mem_ready.2 ⟨?_, ?_⟩, hl2⟩
  ·have := he j hj
   have hb : posL π j < l1.size := by omega
   have hb0 : j < l0.size := by omega
   simp [hb, hb0] at this h1 ⊢
   rw [this]; exact h1
  ·have hsz : posL π j < (virtOps π X ops).size := by simp [virtOps, hv.len]; exact f2
   refine ⟨(virtOps π X ops)[posL π j], Array.getElem?_eq_getElem hsz, fun e hmem hb => ?_⟩
   obtain ⟨o0, _, g1, g2⟩ := virt_get (X := X) hv (Array.getElem?_eq_getElem hsz)
   rw [f1, h2] at g1
   cases g1
   rw [g2] at hmem
   simp only [virtEdges, f1, List.mem_toArray, List.mem_append, List.mem_map, List.mem_filter, Array.mem_toList_iff] at hmem
   rcases hmem with ⟨e0, ⟨k1, k2⟩, rfl⟩ | ⟨p, ⟨k1, k2⟩, rfl⟩
   ·have hlt := (hv.free j o h2).2 e0 k1 k2
    show l1.getD (posL π e0.on) false = true
    rw [he e0.on (by omega)]
    exact h3 e0 k1 (by rw [binds_any]; exact k2)
   ·show l1.getD (posL π p.1) false = true
    rw [he p.1 (hX p k1)]
    exact hr1 p k1 (Nat.eq_of_beq_eq_true k2)
end
end Go.Ev
end

/-! SyG -/
section
namespace Go.Ev
open Go.RowKit
noncomputable section
variable {E : Env} {rec : RunT} {lvl K : Nat} {r : Res → Prop}
def OutR (E : Env) (lvl K : Nat) (ops : Array Oper) (X : List (Nat × Nat)) (h : Heap) (todo : List Item) (tm : Tm) (r : Res → Prop) : Prop :=
 ∀ (fr : Frame) (t : Array Value) (cs : List Frame) (w : World) (m : M) (base : Nat) (L : List Nat), RdOk m K none fr → TR m tm t → HR m base lvl h w → GR E.gl base w → K ≤ m.n → ValidL ops (Array.replicate ops.size false) L → RespL X (Array.replicate ops.size false) L →
  ∃ q, r q ∧ ∃ t' todo' w' m', Steps E.P (lone (FR fr t (.inRegion ops L :: todo)) cs w) (lone (FR { fr with defers := marksC m' q.marks ++ fr.defers } t' todo') cs w') ∧ TR m' q.tm t' ∧ HR m' base lvl q.heap w' ∧ M.leK base K m m' ∧ Below base w w' ∧ EndOk q.jump todo' ∧ ∀ b ∈ q.marks, b < m'.n
theorem outR_leaf (hE : EnvOk E) (hrec : RecOk E rec) {ops : Array Oper} {X : List (Nat × Nat)} (π : List Nat) (a : List (Nat × Ans)) (g : List (Nat × Bool)) {h h1 : Heap} {tm tm1 : Tm} {ps : List Prop} (hok : (okVirt π ops && X.all fun p => Nat.blt p.1 (lenL ops.toList)) = true)
  (hd : drawV E rec a g lvl (virtOps π X ops) h tm = some (h1, tm1, ps)) (hp : AllP ps) {todo : List Item} (ho : OutK E lvl K ⟨h1, todo, tm1⟩ r) : OutR E lvl K ops X h todo tm r := by
 simp only [Bool.and_eq_true, List.all_eq_true, lenL_eq, Nat.blt_eq] at hok
 have hv := okVirt_spec hok.1
 have hX : ∀ p ∈ X, p.1 < ops.size := fun p hp => by simpa using hok.2 p hp
 intro fr t cs w m base L hR hT H G hK hL hr
 have hsz : (virtOps π X ops).size = ops.size := by simp [virtOps, hv.len]
 obtain ⟨L', rfl, hL'⟩ := valid_virt hv hX L (Array.replicate ops.size false) (Array.replicate (virtOps π X ops).size false) (by simp) (by simp [hsz]) (fun j hj => by
  have := (hv.forth j hj).2
  rw [hsz]
  simp [hj, this]) hL hr
 obtain ⟨t1, w1, m1, hst, hT1, H1, hle, hB⟩ := drawList_sound (sigV_ok hE hrec a) (virt_virt (X := X) hv) hL' hT H G (drawV_sim hd hp) fr cs todo
 obtain ⟨q, hq, t', todo', w', m', g1, g2, g3, g4, g5, g6⟩ := ho fr t1 cs w1 m1 base (hR.leG hK hle) hT1 H1 (G.below hB) (Nat.le_trans hK hle.n)
 exact ⟨q, hq, t', todo', w', m', Steps.trans hst g1, g2, g3, (M.leK.of_le hK hle).trans g4, hB.trans g5, g6⟩
theorem outR_split {ops : Array Oper} {X : List (Nat × Nat)} (a b : Nat) (hab : Nat.beq a b = false) {h : Heap} {todo : List Item} {tm : Tm} (h1 : OutR E lvl K ops ((a, b) :: X) h todo tm r) (h2 : OutR E lvl K ops ((b, a) :: X) h todo tm r) : OutR E lvl K ops X h todo tm r := by
 intro fr t cs w m base L hR hT H G hK hL hr
 rcases resp_either (a := a) (b := b) (fun e => by subst e; simp at hab) L _ (by simp) hL with h | h
 ·exact h1 fr t cs w m base L hR hT H G hK hL (resp_cons L _ h hr)
 ·exact h2 fr t cs w m base L hR hT H G hK hL (resp_cons L _ h hr)
theorem outK_draw (hE : EnvOk E) {ops : Array Oper} {h : Heap} {tm : Tm} {id : Nat} {todo : List Item} (ho : OutR E lvl K ops [] h todo tm r) : OutK E lvl K ⟨h, .code (.region id ops true) :: todo, tm⟩ r := by
 intro fr t cs w m base hR hT H G hK
 have hB0 : Below base w { w with drawn := w.drawn + 1 } := ⟨rfl, rfl, rfl, Nat.le_refl _, fun _ _ => rfl⟩
 have H0 : HR m base lvl h { w with drawn := w.drawn + 1 } := H.world (Nat.le_refl _) fun _ _ => rfl
 have hv := go_valid (ops := ops) ops.size (w.tape w.drawn (.order fr.fn id)) (Array.replicate ops.size false) (List.range ops.size) (fun i hi _ => List.mem_range.2 hi) (by simp)
 have e : Region.schedule (E.P.follows .mixedOrders) ops (w.tape w.drawn (.order fr.fn id)) = Region.linearise.go .any ops ops.size (w.tape w.drawn (.order fr.fn id)) (Array.replicate ops.size false) [] := by
  simp only [Region.schedule, hE.mixed, Bool.true_or, if_true]
  rfl
 rw [← e] at hv
 have first : Steps E.P (lone (FR fr t (.code (.region id ops true) :: todo)) cs w) (lone (FR fr t (.inRegion ops (Region.schedule (E.P.follows .mixedOrders) ops (w.tape w.drawn (.order fr.fn id))) :: todo)) cs { w with drawn := w.drawn + 1 }) := .one stepF_regionDraw
 obtain ⟨q, hq, t', todo', w', m', j1, j2, j3, j4, j5, j6⟩ := ho fr t cs { w with drawn := w.drawn + 1 } m base _ hR hT H0 (G.below hB0) hK hv (resp_nil _ _)
 exact ⟨q, hq, t', todo', w', m', Steps.trans first j1, j2, j3, j4, hB0.trans j5, j6⟩
def segD (E : Env) (rec : RunT) (lvl : Nat) (a : List (Nat × Ans)) (g : List (Nat × Bool)) (ops : Array Oper) (ks : List Nat) (j : Nat → Value) (h : Heap) (todo : List Item) (tm : Tm) : Option (St × List Prop) :=
 match drawV E rec a g lvl ops h tm with
 | some (h1, tm1, ps) => some (⟨h1, todo, forgetT ks j tm1 0⟩, ps)
 | none => none
theorem outR_seg (hE : EnvOk E) (hrec : RecOk E rec) {ops : Array Oper} {X : List (Nat × Nat)} (π : List Nat) (a : List (Nat × Ans)) (g : List (Nat × Bool)) (ks : List Nat) {h : Heap} {tm : Tm} {s' : (Nat → Value) → St} {ps : List Prop} {todo : List Item} (hok : (okVirt π ops && X.all fun p => Nat.blt p.1 (lenL ops.toList)) = true)
  (hd : ∀ j, segD E rec lvl a g (virtOps π X ops) ks j h todo tm = some (s' j, ps)) (hp : AllP ps) (ho : ∀ j, OutK E lvl K (s' j) r) : OutR E lvl K ops X h todo tm r := by
 cases hc : drawV E rec a g lvl (virtOps π X ops) h tm with
 | none => have := hd (fun _ => undef); simp [segD, hc] at this
 | some p =>
  obtain ⟨h1, tm1, qs⟩ := p
  have hq : qs = ps := by have := hd (fun _ => undef); simp [segD, hc] at this; exact this.2
  subst hq
  refine outR_leaf hE hrec π a g hok hc hp (outK_forget ks fun j => ?_)
  have := hd j
  simp only [segD, hc, Option.some.injEq, Prod.mk.injEq] at this
  rw [this.1]
  exact ho j
theorem outK_draw' (hE : EnvOk E) {ops : Array Oper} {h : Heap} {tm : Tm} {id : Nat} {todo : List Item} {s : St} (hs : s = ⟨h, .code (.region id ops true) :: todo, tm⟩) (ho : OutR E lvl K ops [] h todo tm r) : OutK E lvl K s r := by
 subst hs
 exact outK_draw hE ho
def opsOf : Code → Array Oper
 | .region _ ops _ => ops
 | _ => #[]
def idOf : Code → Nat
 | .region n _ _ => n
 | _ => 0
end
end Go.Ev
end

/-! SyP -/
section
namespace Go.Ev
open Go.RowKit
noncomputable section
variable {E : Env} {rec : RunT} {lvl K : Nat} {r : Res → Prop} {rd : Option Nat}
end
end Go.Ev
end

/-! SeEnv -/
section
open Go Go.Ev
namespace Go.Proofs.YtkflndifhonbcaaGreatDoor
noncomputable section
def tabNames : List Value := [.string ⟨#[105, 109, 112, 111, 114, 116]⟩, .string ⟨#[101, 120, 112, 111, 114, 116]⟩, .string ⟨#[113, 49]⟩, .string ⟨#[113, 50]⟩, .string ⟨#[113, 51]⟩, .string ⟨#[113, 52]⟩]
def tabPow : List Value := (List.range 20).map fun i => Value.int .u64 (Int.ofNat (10 ^ i))
def writers : FuncId → Bool := fun f => [111, 113, 116, 133, 181].contains f
def hooks : FuncId → Hook := fun f => if f = 133 then .copyCheck else if f = 136 then .join else .none
def E : Env := Env.mk Tryz.prog [(0, tabNames), (2, tabPow)] writers hooks 191
end
end Go.Proofs.YtkflndifhonbcaaGreatDoor
end

/-! SeH -/
section
open Go Go.Ev
namespace Go.Proofs.YtkflndifhonbcaaGreatDoor
noncomputable section
def R0 : RunT := rec0
theorem R0_ok {E : Env} (_ : EnvOk E) : RecOk E R0 := rec0_ok E
def R4 : RunT := run E 4000
theorem R4_ok (hE : EnvOk E) : RecOk E R4 := run_sound hE 4000
theorem wrap_id {n : Int} (h0 : -9223372036854775808 ≤ n) (h1 : n ≤ 9223372036854775807) : wrapF .i64 n = n := by
 rw [wrapF_eq]
 exact IntWalk.i64_in n (by omega)
theorem aP {p : Prop} {l : List Prop} (h : p) (t : AllP l) : AllP (p :: l) := ⟨h, t⟩
theorem aN {l : List Prop} (t : AllP l) : AllP ((([] : List Nat) = []) :: l) := ⟨rfl, t⟩
theorem aZ : AllP [] := trivial
end
end Go.Proofs.YtkflndifhonbcaaGreatDoor
end

/-! SeLem -/
section
open Go Go.Ev
namespace Go.Proofs.YtkflndifhonbcaaGreatDoor
noncomputable section
theorem iIe {a b : Int} (h : a = b) : (iI a : AV) = iI b := by rw [h]
theorem iIn (i : Nat) (h : i ≤ 4000000) : (iI (wrapF IntKind.i64 (Int.ofNat i + (1 : Int))) : AV) = iI (Int.ofNat (i + 1)) :=
 iIe (by rw [wrap_id (by simp only [Int.ofNat_eq_natCast]; omega) (by simp only [Int.ofNat_eq_natCast]; omega)]; simp)
end
end Go.Proofs.YtkflndifhonbcaaGreatDoor
end

/-! SyK -/
section
namespace Go.Ev
open Go.RowKit
noncomputable section
section
variable {E : Env} {lvl : Nat}
def FrzC (i : Nat) (ds : List DT) (x x' : AC) : Prop := x' = x ∨ ∃ o len sz cap ex r, x = .slc i o len sz cap ex ∧ x' = .dp (.s r len sz) ∧ takeL (dropL ds o) (len * sz) = some r
def FrzE (i : Nat) (ds : List DT) : AE → AE → Prop
 | .one x, .one x' => FrzC i ds x x'
 | .agg l, .agg l' => All2 (FrzC i ds) l l'
 | _, _ => False
def FrzV (i : Nat) (ds : List DT) : AV → AV → Prop
 | .e x, .e x' => FrzE i ds x x'
 | .tup l, .tup l' => All2 (FrzE i ds) l l'
 | _, _ => False
theorem DT.Rl.of_all2 {m : M} : ∀ {ds : List DT} {ys : List Value}, All2 (CR m) (ds.map DT.ac) ys → DT.Rl m.F ds ys
 | [], _, _ => by simp [DT.Rl]
 | d :: ds, [], h => h.elim
 | d :: ds, y :: ys, h => by
  simp only [DT.Rl]
  refine ⟨y, ys, rfl, ?_, DT.Rl.of_all2 h.2⟩
  have h1 : CR m d.ac y := h.1
  cases d with
  | v x => simpa [DT.R, DT.ac, CR] using h1
  | s c n sz => exact h1
theorem DT.Rl.more {F : List (Nat × List Value)} : ∀ {l : List DT} {ys zs : List Value}, DT.Rl F l ys → DT.Rl F l (ys ++ zs)
 | [], _, _, _ => by simp [DT.Rl]
 | d :: l, ys, zs, r => by
  simp only [DT.Rl] at r ⊢
  obtain ⟨y, r', rfl, h1, h2⟩ := r
  exact ⟨y, r' ++ zs, rfl, h1, DT.Rl.more h2⟩
theorem CR.rest {m m2 : M} {w : World} {i : Nat} {ds : List DT} {N el : Nat} {fl : Bool} (B : BR m w i ⟨ds.map DT.ac, N, el, fl, .cells⟩) {c : Array Value} {fz : Nat × Nat} (hc : w.heap[m.ρ i]? = some (.cells c el fz)) (hF : ∀ p ∈ m.F, p ∈ m2.F) (hp : (m.ρ i, c.toList) ∈ m2.F)
  {o len sz cap : Nat} {ex : Bool} {r : List DT} (hr : takeL (dropL ds o) (len * sz) = some r) {y : Value} (hy : CR m (.slc i o len sz cap ex) y) : DV.R m2.F (.s r len sz) y := by
 obtain ⟨hb, cc, o', rfl, g0, g1, g1', g2, g3, g4⟩ := hy
 obtain ⟨b1, b2, c', fz', b3, b4, b5, b6, b7⟩ := B
 have b3 : w.heap[m.ρ i]? = some (.cells c' el fz') := b3
 rw [hc] at b3
 simp only [Option.some.injEq, Obj.cells.injEq] at b3
 obtain ⟨rfl, _, _⟩ := b3
 show DT.R m2.F (.s r len sz) _
 simp only [DT.R]
 rcases Nat.eq_zero_or_pos len with rfl | h0
 ·exact .inl ⟨rfl, _, _, rfl⟩
 ·obtain rfl : o' = o := by rcases g0 with g0 | g0 <;> omega
  obtain ⟨t1, rfl⟩ := takeL_some hr
  rw [dropL_eq] at t1
  have hsz : c.toList.length = m.κ i := by simpa using b4
  refine .inr ⟨h0, m.ρ i, o', cc, c.toList, rfl, by omega, g2, hp, by omega, by rw [dropL_eq, List.length_take]; omega, ?_⟩
  have hR := ((DT.Rl.of_all2 (m := m) b7).mono hF).more (zs := c.toList.drop N)
  rw [List.take_append_drop] at hR
  rw [dropL_eq]
  exact (hR.drop o').pre (len * sz)
theorem FrzC.sound {m m2 : M} {w : World} {i : Nat} {ds : List DT} {N el : Nat} {fl : Bool} (B : BR m w i ⟨ds.map DT.ac, N, el, fl, .cells⟩) {c : Array Value} {fz : Nat × Nat} (hc : w.heap[m.ρ i]? = some (.cells c el fz)) {bs : Nat} (hle : M.leG bs m m2) (hp : (m.ρ i, c.toList) ∈ m2.F)
  {x x' : AC} {y : Value} (h : FrzC i ds x x') (hy : CR m x y) : CR m2 x' y := by
 rcases h with rfl | ⟨o, len, sz, cap, ex, r, rfl, rfl, hr⟩
 ·exact CR.monoG hle hy
 ·exact CR.rest B hc hle.F hp hr hy
theorem all2_map {α β γ : Type} {R : α → β → Prop} {T : α → γ → Prop} {S : γ → β → Prop} (hi : ∀ a b c, T a c → R a b → S c b) : ∀ {l : List α} {l' : List γ} {ys : List β}, All2 T l l' → All2 R l ys → All2 S l' ys
 | [], [], [], _, _ => trivial
 | _ :: _, _ :: _, _ :: _, h1, h2 => ⟨hi _ _ _ h1.1 h2.1, all2_map hi h1.2 h2.2⟩
 | [], [], _ :: _, _, h => h.elim
 | [], _ :: _, _, h, _ => h.elim
 | _ :: _, [], _, h, _ => h.elim
 | _ :: _, _ :: _, [], _, h => h.elim
theorem FrzE.sound {m m2 : M} {w : World} {i : Nat} {ds : List DT} {N el : Nat} {fl : Bool} (B : BR m w i ⟨ds.map DT.ac, N, el, fl, .cells⟩) {c : Array Value} {fz : Nat × Nat} (hc : w.heap[m.ρ i]? = some (.cells c el fz)) {bs : Nat} (hle : M.leG bs m m2) (hp : (m.ρ i, c.toList) ∈ m2.F) :
  ∀ {x x' : AE} {y : Value}, FrzE i ds x x' → ER m x y → ER m2 x' y
 | .one _, .one _, _, h, hy => FrzC.sound B hc hle hp h hy
 | .agg _, .agg _, _, h, hy => by
  obtain ⟨cs, h1, h2⟩ := hy
  exact ⟨cs, h1, all2_map (R := CR m) (T := FrzC i ds) (S := CR m2) (fun a b c' h0 h3 => FrzC.sound B hc hle hp h0 h3) (show All2 (FrzC i ds) _ _ from h) h2⟩
 | .one _, .agg _, _, h, _ => h.elim
 | .agg _, .one _, _, h, _ => h.elim
theorem FrzV.sound {m m2 : M} {w : World} {i : Nat} {ds : List DT} {N el : Nat} {fl : Bool} (B : BR m w i ⟨ds.map DT.ac, N, el, fl, .cells⟩) {c : Array Value} {fz : Nat × Nat} (hc : w.heap[m.ρ i]? = some (.cells c el fz)) {bs : Nat} (hle : M.leG bs m m2) (hp : (m.ρ i, c.toList) ∈ m2.F) :
  ∀ {x x' : AV} {y : Value}, FrzV i ds x x' → VR m x y → VR m2 x' y
 | .e _, .e _, _, h, hy => FrzE.sound B hc hle hp h hy
 | .tup _, .tup _, _, h, hy => by
  obtain ⟨cs, h1, h2⟩ := hy
  exact ⟨cs, h1, all2_map (R := ER m) (T := FrzE i ds) (S := ER m2) (fun a b c' h0 h3 => FrzE.sound B hc hle hp h0 h3) (show All2 (FrzE i ds) _ _ from h) h2⟩
 | .e _, .tup _, _, h, _ => h.elim
 | .tup _, .e _, _, h, _ => h.elim
theorem HR.freeze {m : M} {base : Nat} {h : Heap} {w : World} (H : HR m base lvl h w) {i : Nat} {ds : List DT} {N el : Nat} {fl : Bool} (hi : h[i]? = some (some ⟨ds.map DT.ac, N, el, fl, .cells⟩)) (hl : lvl ≤ i) :
  ∃ m2, HR m2 base lvl (h.set i none) w ∧ M.leG base m m2 ∧ m2.n = m.n ∧ m2.ρ = m.ρ ∧ m2.κ = m.κ ∧ (∀ x x' y, FrzV i ds x x' → VR m x y → VR m2 x' y) ∧ (∀ x x' y, FrzC i ds x x' → CR m x y → CR m2 x' y) := by
 have B := H.blk i _ hi rfl
 obtain ⟨b1, b2, c, fz, b3, b4, b5, b6, b7⟩ := id B
 have hil := (List.getElem?_eq_some_iff.1 hi).1
 let m2 : M := { n := m.n, ρ := m.ρ, κ := m.κ, lo := m.lo, F := (m.ρ i, c.toList) :: m.F }
 have hle : M.leG base m m2 := ⟨Nat.le_refl _, fun _ _ => rfl, fun _ _ => rfl, rfl, fun p hp => List.mem_cons_of_mem _ hp, fun p hp => by
  rcases List.mem_cons.1 hp with rfl | hp
  ·exact .inr (H.own i hl hil)
  ·exact .inl hp⟩
 have hK := H.kill i
 refine ⟨m2, ⟨hK.n, hK.lvlLe, hK.baseLe, fun b a hb => (hK.ent b a hb).monoG hle (by rw [hK.n]; exact (List.getElem?_eq_some_iff.1 hb).1), hK.own, hK.inj, hK.lo, fun p hp => ?_⟩, hle, rfl, rfl, rfl,
  fun x x' y hx hy => FrzV.sound B b3 hle (List.mem_cons_self ..) hx hy, fun x x' y hx hy => FrzC.sound B b3 hle (List.mem_cons_self ..) hx hy⟩
 rcases List.mem_cons.1 hp with rfl | hp
 ·refine ⟨⟨c, el, fz, b3, rfl⟩, fun b a hb ha he => ?_⟩
  have ha' := alive_set ha
  exact ha'.2 (H.inj b i (List.getElem?_eq_some_iff.1 ha'.1).1 hil ⟨a, ha'.1⟩ ⟨_, hi⟩ (.inr (Nat.le_trans H.lo hl)) he)
 ·exact hK.tab p hp
theorem cOut_freeze {f : FuncId} {hin : Heap} {args : List AV} {v v' : AV} {hout : Heap} (i : Nat) {ds : List DT} {N el : Nat} {fl : Bool} (hc : COut E lvl hin f args v hout) (hi : getL hout i = some (some ⟨ds.map DT.ac, N, el, fl, .cells⟩)) (hl : lvl ≤ i) (hv : FrzV i ds v v') :
  COut E lvl hin f args v' (setL hout i none) := by
 rw [getL_eq] at hi
 rw [setL_eq]
 intro m base w argsC ha H G
 refine (hc m base w argsC ha H G).mono fun e w' ⟨y, hy, m1, hp⟩ => ⟨y, hy, ?_⟩
 obtain ⟨m2, H2, hle, hn, hρ, hκ, hV, _⟩ := hp.heap.freeze hi hl
 exact ⟨m2, hp.le.trans hle, hV _ _ _ hv hp.val, H2, hp.below⟩
def LendC (h : Heap) (x x' : AC) : Prop := (x' = x ∧ x.refs = []) ∨ ∃ i o len sz cap ex r ds N el fl, x = .slc i o len sz cap ex ∧ x' = .dp (.s r len sz) ∧ getL h i = some (some ⟨ds.map DT.ac, N, el, fl, .cells⟩) ∧ takeL (dropL ds o) (len * sz) = some r
def LendE (h : Heap) : AE → AE → Prop
 | .one x, .one x' => LendC h x x'
 | .agg l, .agg l' => All2 (LendC h) l l'
 | _, _ => False
def LendV (h : Heap) : AV → AV → Prop
 | .e x, .e x' => LendE h x x'
 | _, _ => False
theorem lendTabs {m : M} {base : Nat} {w : World} : ∀ (h : Heap), (∀ b a, h[b]? = some (some a) → EntR m w b a) → ∀ k, k ≤ h.length → ∃ F : List (Nat × List Value), (∀ p ∈ F, ∃ (c : Array Value) (t : TypeId) (fz : Nat × Nat), w.heap[p.1]? = some (.cells c t fz) ∧ c.toList = p.2) ∧
  ∀ i a, i < k → h[i]? = some (some a) → a.ext = .cells → ∃ (c : Array Value) (fz : Nat × Nat), w.heap[m.ρ i]? = some (.cells c a.elem fz) ∧ (m.ρ i, c.toList) ∈ F
 | h, hent, 0, _ => ⟨[], by simp, fun i a hi => by omega⟩
 | h, hent, k + 1, hk => by
  obtain ⟨F, h1, h2⟩ := lendTabs (base := base) h hent k (by omega)
  by_cases hx : ∃ a, h[k]? = some (some a) ∧ a.ext = .cells
  ·obtain ⟨a, ha, hc⟩ := hx
   obtain ⟨b1, b2, c, fz, b3, _⟩ := (hent k a ha).1 hc
   refine ⟨(m.ρ k, c.toList) :: F, fun p hp => ?_, fun i a' hi ha' hc' => ?_⟩
   ·rcases List.mem_cons.1 hp with rfl | hp
    ·exact ⟨c, a.elem, fz, b3, rfl⟩
    ·exact h1 p hp
   ·by_cases hik : i = k
    ·subst hik
     rw [ha] at ha'
     simp only [Option.some.injEq] at ha'
     subst ha'
     exact ⟨c, fz, b3, List.mem_cons_self ..⟩
    ·obtain ⟨c', fz', g1, g2⟩ := h2 i a' (by omega) ha' hc'
     exact ⟨c', fz', g1, List.mem_cons_of_mem _ g2⟩
  ·refine ⟨F, h1, fun i a' hi ha' hc' => ?_⟩
   by_cases hik : i = k
   ·subst hik; exact absurd ⟨a', ha', hc'⟩ hx
   ·exact h2 i a' (by omega) ha' hc'
theorem cOut_lend {f : FuncId} {args args' : List AV} {v : AV} (h : Heap) (hc : COut E 0 [] f args' v []) (ha : All2 (LendV h) args args') (hv : v.refs = []) (hf : v.flat = true) : COut E lvl h f args v h := by
 intro m base w argsC hA H G
 obtain ⟨F, h1, h2⟩ := lendTabs (base := base) h H.ent h.length (Nat.le_refl _)
 let mc : M := { n := 0, ρ := m.ρ, κ := m.κ, lo := 0, F := F ++ m.F }
 have Hc : HR mc w.heap.size 0 [] w := ⟨rfl, Nat.le_refl _, Nat.le_refl _, fun b a hb => by simp at hb, fun b _ hb => by simp at hb, fun b b' hb => by simp at hb, Nat.le_refl _, fun p hp => ⟨by
  rcases List.mem_append.1 hp with hp | hp
  ·exact h1 p hp
  ·exact (H.tab p hp).1, fun b a _ hb => by simp at hb⟩⟩
 let mg : M := { n := m.n, ρ := m.ρ, κ := m.κ, lo := m.lo, F := F ++ m.F }
 have lc : ∀ x x' y, LendC h x x' → CR m x y → CR mc x' y := by
  intro x x' y hx hy
  rcases hx with ⟨rfl, hr⟩ | ⟨i, o, len, sz, cap, ex, r, ds, N, el, fl, rfl, rfl, hi, hr⟩
  ·exact CR.free (m1 := m) (m2 := mc) (fun p hp => List.mem_append_right _ hp) hr hy
  ·rw [getL_eq] at hi
   obtain ⟨c, fz, g1, g2⟩ := h2 i _ (List.getElem?_eq_some_iff.1 hi).1 hi rfl
   exact CR.rest (m2 := mc) (H.blk i _ hi rfl) g1 (fun p hp => List.mem_append_right _ hp) (List.mem_append_left _ g2) hr hy
 have lv : ∀ x y x', LendV h x x' → VR m x y → VR mc x' y := by
  intro x y x' hx hy
  match x, x', hx with
  | .e (.one x), .e (.one x'), hx => exact lc x x' y hx hy
  | .e (.agg l), .e (.agg l'), hx =>
   obtain ⟨cs, k1, k2⟩ := hy
   exact ⟨cs, k1, all2_map (R := CR m) (T := LendC h) (S := CR mc) (fun a b c' h0 h3 => lc a c' b h0 h3) (show All2 (LendC h) _ _ from hx) k2⟩
 have hA' : All2 (VR mc) args' argsC.toList := all2_map (R := VR m) (T := LendV h) (S := VR mc) (fun a b c' h0 h3 => lv a b c' h0 h3) ha hA
 refine (hc mc w.heap.size w argsC hA' Hc (G.up H.baseLe)).mono fun e w' ⟨y, hy, m1, hp⟩ => ⟨y, hy, m, M.leG.refl _ m, ?_, H.world hp.below.size hp.below.block, hp.below.mono H.baseLe⟩
 have hd := VR.downG hp.le (.inl hf) (fun b hb => by rw [hv] at hb; simp at hb) hp.val
 -- nothing in it leads anywhere
 have flatC : ∀ (x : AC) (y : Value), x.flat = true → x.refs = [] → CR mc x y → CR m x y := fun x y hf hr h => by
  cases x with
  | v _ => exact h
  | any _ => exact h
  | dp _ => simp [AC.flat] at hf
  | ptr => simp [AC.refs] at hr
  | slc => simp [AC.refs] at hr
  | yld => simp [AC.refs] at hr
  | mp => simp [AC.refs] at hr
  | clo g fs cs =>
   simp only [AC.refs, List.append_eq_nil_iff] at hr
   simp only [AC.flat, Bool.and_eq_true] at hf
   obtain ⟨vf, vc, hy, h1, h2⟩ := h
   have key : ∀ {l : List CE}, l.flatMap CE.refs = [] → (l.all fun e => e.atoms.all CA.flat) = true → ∀ e ∈ l, ∀ c ∈ e.atoms, ∀ y, CR mc c.ac y → CR m c.ac y := fun {l} hl hfl e he c hc y hr' => by
    have h0 : c.refs = [] := List.flatMap_eq_nil_iff.1 (List.flatMap_eq_nil_iff.1 hl e he) c hc
    have h3 := List.all_eq_true.1 (List.all_eq_true.1 hfl e he) c hc
    cases c with
    | v _ => exact hr'
    | dp _ => simp [CA.flat] at h3
    | _ => simp [CA.refs] at h0
   exact ⟨vf, vc, hy, CEs.to (key hr.1 hf.1) h1, CEs.to (key hr.2 hf.2) h2⟩
 have flatE : ∀ (x : AE) (y : Value), x.flat = true → x.refs = [] → ER mc x y → ER m x y := fun x y hf hr h => by
  cases x with
  | one x => exact flatC x y hf hr h
  | agg l =>
   obtain ⟨cs, k1, k2⟩ := h
   simp only [AE.refs, List.flatMap_eq_nil_iff] at hr
   exact ⟨cs, k1, all2_free (fun a ha b hb => flatC a b (List.all_eq_true.1 hf a ha) (hr a ha) hb) k2⟩
 cases v with
 | e x => exact flatE x y hf hv hd
 | tup l =>
  obtain ⟨cs, k1, k2⟩ := hd
  simp only [AV.refs, List.flatMap_eq_nil_iff] at hv
  exact ⟨cs, k1, all2_free (fun a ha b hb => flatE a b (List.all_eq_true.1 hf a ha) (hv a ha) hb) k2⟩
end
end
end Go.Ev
end

/-! SyL -/
section
namespace Go.Ev
open Go.RowKit
noncomputable section
variable {E : Env} {rec : RunT} {lvl K : Nat} {r : Res → Prop} {rd : Option Nat}
end
end Go.Ev
end

/-! SyO -/
section
namespace Go.Ev
open Go.RowKit
noncomputable section
section
variable {E : Env} {lvl K : Nat} {rd : Option Nat} {Φ : Res → Prop}
theorem all2_set {α β : Type} {R : α → β → Prop} : ∀ {l : List α} {ys : List β} {k : Nat} {x : α}, All2 R l ys → (∀ y, ys[k]? = some y → R x y) → All2 R (l.set k x) ys
 | [], [], _, _, _, _ => trivial
 | _ :: _, _ :: _, 0, _, h, hx => ⟨hx _ rfl, h.2⟩
 | _ :: _, _ :: _, k + 1, _, h, hx => ⟨h.1, all2_set h.2 fun y hy => hx y (by simpa using hy)⟩
theorem outK_cap (k : Nat) {b o len sz cap : Nat} {h : Heap} {todo : List Item} {tm : Tm} (hk : getL tm k = some (.e (.one (.slc b o len sz cap false))))
  (h1 : OutK E lvl K ⟨h, todo, setL tm k (.e (.one (.slc b o len sz cap true)))⟩ Φ rd)
  (h2 : OutK E lvl K ⟨h, todo, setL tm k (.e (.one (.slc b o len sz (cap + 1) false)))⟩ Φ rd) : OutK E lvl K ⟨h, todo, tm⟩ Φ rd := by
 intro fr t cs w m base hR hT H G hK
 rw [getL_eq] at hk
 obtain ⟨y, hy, hr⟩ := All2.get hT hk
 obtain ⟨hb, cc, o', rfl, g0, g1, g1', g2, g3, g4⟩ : CR m (.slc b o len sz cap false) y := hr
 by_cases hcc : cc = cap
 ·subst hcc
  refine h1 fr t cs w m base hR ?_ H G hK
  rw [setL_eq]
  refine all2_set hT fun y' hy' => ?_
  rw [hy] at hy'
  obtain rfl := Option.some.inj hy'
  exact ⟨hb, cc, o', rfl, g0, g1, Nat.le_refl _, g2, g3, fun _ => rfl⟩
 ·refine h2 fr t cs w m base hR ?_ H G hK
  rw [setL_eq]
  refine all2_set hT fun y' hy' => ?_
  rw [hy] at hy'
  obtain rfl := Option.some.inj hy'
  exact ⟨hb, cc, o', rfl, g0, by omega, by omega, g2, g3, fun hh => by simp at hh⟩
def FrzB (i : Nat) (ds : List DT) : Option AB → Option AB → Prop
 | none, none => True
 | some a, some a' => a' = a ∨ (a.ext = .cells ∧ a'.ext = .cells ∧ a'.n = a.n ∧ a'.elem = a.elem ∧ a'.full = a.full ∧ All2 (FrzC i ds) a.cells a'.cells)
 | _, _ => False
theorem all2_len {α β : Type} {R : α → β → Prop} : ∀ {l : List α} {ys : List β}, All2 R l ys → l.length = ys.length
 | [], [], _ => rfl
 | _ :: _, _ :: _, h => by simp [all2_len h.2]
theorem outK_freeze (i : Nat) {ds : List DT} {N el : Nat} {fl : Bool} {h h' : Heap} {todo : List Item} {tm tm' : Tm} (hi : getL h i = some (some ⟨ds.map DT.ac, N, el, fl, .cells⟩)) (hl : lvl ≤ i)
  (hh : All2 (FrzB i ds) (setL h i none) h') (ht : All2 (FrzV i ds) tm tm') (ho : OutK E lvl K ⟨h', todo, tm'⟩ Φ rd) : OutK E lvl K ⟨h, todo, tm⟩ Φ rd := by
 rw [getL_eq] at hi
 rw [setL_eq] at hh
 refine .before (s' := ⟨h', todo, tm'⟩) (fun fr t cs w m base hT H G => ?_) ho
 obtain ⟨m2, H2, hle, hn, hρ, hκ, hV, hC⟩ := HR.freeze H hi hl
 have hlen := all2_len hh
 have back : ∀ (b : Nat) (a' : AB), h'[b]? = some (some a') → ∃ a : AB, (h.set i none)[b]? = some (some a) ∧ (a' = a ∨ (a.ext = .cells ∧ a'.ext = .cells ∧ a'.n = a.n ∧ a'.elem = a.elem ∧ a'.full = a.full ∧ All2 (FrzC i ds) a.cells a'.cells)) := by
  intro b a' hb
  obtain ⟨x, hx, hr⟩ := hh.get' hb
  cases x with
  | none => exact hr.elim
  | some a => exact ⟨a, hx, hr⟩
 have hxm : ∀ {x x' : AC} {y : Value}, FrzC i ds x x' → CR m2 x y → CR m x y ∨ CR m2 x' y := fun {x x' y} hf hy => by
  rcases hf with rfl | _
  ·exact .inr hy
  ·left
   rename_i hf
   obtain ⟨o, len, sz, cap, ex, r, rfl, rfl, hr⟩ := hf
   obtain ⟨hb, c, o', hy', rest⟩ := hy
   exact ⟨by rw [← hn]; exact hb, c, o', by rw [← hρ]; exact hy', by rw [← hκ]; exact rest⟩
 refine ⟨t, w, m2, .refl _ _, all2_map (R := VR m) (T := FrzV i ds) (S := VR m2) (fun a b c h0 h3 => hV a c b h0 h3) ht hT, ⟨by rw [H2.n, hlen], by rw [← hlen]; exact H2.lvlLe, H2.baseLe, fun b a' hb => ?_, fun b hb hb2 => H2.own b hb (by rw [hlen]; exact hb2), ?_, H2.lo, fun p hp => ⟨(H2.tab p hp).1, fun b a' hb ha => ?_⟩⟩, hle, Below.refl _ _⟩
 ·obtain ⟨a, ha, hr⟩ := back b a' hb
  rcases hr with rfl | ⟨r1, r2, r3, r4, r5, r6⟩
  ·exact H2.ent b a' ha
  ·obtain ⟨B, _⟩ := H2.ent b a ha
   obtain ⟨b1, b2, c, fz, b3, b4, b5, b6, b7⟩ := B r1
   refine ⟨fun _ => ⟨by rw [← all2_len r6, b1, r3], fun hf => by rw [r3]; exact b2 (by rw [← r5]; exact hf), c, fz, by rw [r4]; exact b3, b4, b5, by rw [r3]; exact b6, ?_⟩, by rw [r2]; trivial⟩
   rw [r3]
   exact all2_map (R := CR m2) (T := FrzC i ds) (S := CR m2) (fun x y x' h0 h3 => (hxm h0 h3).elim (fun h => hC x x' y h0 h) id) r6 b7
 ·intro b b' hb hb' h1 h2 h3 h4
  refine H2.inj b b' (by rw [hlen]; exact hb) (by rw [hlen]; exact hb') ?_ ?_ h3 h4
  ·obtain ⟨a, ha⟩ := h1; obtain ⟨a0, h0, _⟩ := back b a ha; exact ⟨a0, h0⟩
  ·obtain ⟨a, ha⟩ := h2; obtain ⟨a0, h0, _⟩ := back b' a ha; exact ⟨a0, h0⟩
 ·obtain ⟨a, ha0, _⟩ := back b a' ha
  exact (H2.tab p hp).2 b a hb ha0
end
end
end Go.Ev
end

/-! SyArg -/
section
namespace Go.Ev
open Go.RowKit Go.WideShapes Go.ChangeShapes
noncomputable section
section
variable {H : Type} {enc : TypeId × Value → H} {P : Program} {W : World}
end
def ElemsAt (C : List AC) (o w : Nat) (xs : List (List UInt8)) : Prop := ∀ k x, xs[k]? = some x → x.length = w ∧ takeL (dropL C (o + k * w)) w = some (x.map u8c)
def SlOk (b sz : Nat) (C : List AC) (x : AC) (n : Nat) (xs : List (List UInt8)) : Prop :=
 xs.length = n ∧ (∀ y ∈ xs, y.length = sz) ∧ ((n = 0 ∧ ∃ p c, x = .v (.slice p 0 c)) ∨ (0 < n ∧ ∃ o cap ex, x = .slc b o n sz cap ex ∧ ElemsAt C o sz xs))
theorem SlOk.opq {b sz n K : Nat} {C : List AC} {x : AC} {xs : List (List UInt8)} (h : SlOk b sz C x n xs) (hK : b < K) : OpqC K x := by
 obtain ⟨_, _, ⟨rfl, p, c, rfl⟩ | ⟨_, o, cap, ex, rfl, _⟩⟩ := h
 ·intro k hk; simp [AC.refs] at hk
 ·intro k hk; simp [AC.refs] at hk; omega
theorem SlOk.below {b sz n K : Nat} {C : List AC} {x : AC} {xs : List (List UInt8)} (h : SlOk b sz C x n xs) (hK : b < K) : refsBelow K (AV.refs (.e (.one x))) = true := by
 have := h.opq hK
 simpa [refsBelow, AV.refs, AE.refs, OpqC] using this
theorem elems_take : ∀ {xs : List (List UInt8)} {C : List AC} {o w : Nat}, ElemsAt C o w xs → xs ≠ [] ∨ o ≤ C.length → takeL (dropL C o) (xs.length * w) = some (xs.flatten.map u8c)
 | [], C, o, w, _, _ => by simp [takeL_eq]
 | x :: xs, C, o, w, h, _ => by
  obtain ⟨hw, hx⟩ := h 0 x rfl
  rw [takeL_eq, dropL_eq, Nat.zero_mul, Nat.add_zero] at hx
  split at hx
  ·rename_i hle
   simp only [Option.some.injEq, List.length_drop] at hx hle
   by_cases hw0 : w = 0
   ·subst hw0
    have hall : ∀ y ∈ xs, y = [] := fun y hy => by
     obtain ⟨k, hk⟩ := List.getElem?_of_mem hy
     have := (h (k + 1) y (by simpa using hk)).1
     exact List.eq_nil_of_length_eq_zero this
    have hx0 : x = [] := List.eq_nil_of_length_eq_zero hw
    have : (x :: xs).flatten = [] := by
     rw [List.flatten_eq_nil_iff]
     intro l hl
     rcases List.mem_cons.1 hl with rfl | hl
     ·exact hx0
     ·exact hall l hl
    rw [this, takeL_eq]
    simp
   ·have ih := elems_take (xs := xs) (C := C) (o := o + w) (w := w) (fun k y hk => by
     have := h (k + 1) y (by simpa using hk)
     rwa [show o + (k + 1) * w = o + w + k * w by rw [Nat.succ_mul]; omega] at this) (.inr (by omega))
    rw [takeL_eq, dropL_eq] at ih ⊢
    split at ih
    ·rename_i hle2
     simp only [Option.some.injEq, List.length_drop] at ih hle2
     have e : (x :: xs).length * w = w + xs.length * w := by rw [List.length_cons, Nat.succ_mul]; omega
     rw [e, if_pos (by rw [List.length_drop]; omega), List.take_add, hx, List.drop_drop, ih, List.flatten_cons, List.map_append]
    ·simp at ih
  ·simp at hx
theorem blk_some {h : Heap} {b : Nat} {C : List AC} {N : Nat} {ty : TypeId} {fl : Bool} (hb : getL h b = some (some ⟨C, N, ty, fl, .cells⟩)) : blk h b = some ⟨C, N, ty, fl, .cells⟩ := by
 unfold blk
 rw [hb]
theorem all_isOne (l : List UInt8) : (l.map u8c).all AC.isOne = true := by
 rw [List.all_eq_true]
 intro c hc
 obtain ⟨x, _, rfl⟩ := List.mem_map.1 hc
 rfl
theorem SlOk.copy {b sz bytes n : Nat} {C : List AC} {x : AC} {xs : List (List UInt8)} (hs : SlOk b sz C x n xs) {h : Heap} {N : Nat} {ty : TypeId} {fl : Bool} (hb : getL h b = some (some ⟨C, N, ty, fl, .cells⟩)) (hm : small (0 + n) sz bytes = true) :
  CopyOk h sz bytes (.e (.one x)) n (xs.flatten.map u8c) (decide (n = 0)) := by
 obtain ⟨hl, _, ⟨rfl, p, c, rfl⟩ | ⟨h0, o, cap, ex, rfl, hC⟩⟩ := hs
 ·have : xs = [] := List.eq_nil_of_length_eq_zero hl
  subst this
  exact .inr (.inr (.inl ⟨rfl, rfl, rfl, p, c, rfl⟩))
 ·refine .inr (.inr (.inr ⟨decide_eq_false (by omega), h0, hm, all_isOne _, b, o, cap, ex, _, rfl, blk_some hb, ?_⟩))
  have := elems_take hC (.inl (by intro e; subst e; simp at hl; omega))
  rwa [hl] at this
section
variable {H : Type} {enc : TypeId × Value → H} {P : Program} {W : World}
end
end
end Go.Ev
end

/-! SyList -/
section
namespace Go.Ev
open Go.RowKit Go.WideShapes Go.ChangeShapes
noncomputable section
def S1 (b : Nat) (C : List AC) (x : AC) (n : Nat) (cs : List AC) : Prop :=
 cs.length = n ∧ ((n = 0 ∧ ∃ p c, x = .v (.slice p 0 c)) ∨ (0 < n ∧ ∃ o cap ex, x = .slc b o n 1 cap ex ∧ takeL (dropL C o) n = some cs))
theorem S1.opq {b n K : Nat} {C cs : List AC} {x : AC} (h : S1 b C x n cs) (hK : b < K) : OpqC K x := by
 obtain ⟨_, ⟨rfl, p, c, rfl⟩ | ⟨_, o, cap, ex, rfl, _⟩⟩ := h
 ·intro k hk; simp [AC.refs] at hk
 ·intro k hk; simp [AC.refs] at hk; omega
theorem S1.below {b n K : Nat} {C cs : List AC} {x : AC} (h : S1 b C x n cs) (hK : b < K) : refsBelow K (AV.refs (.e (.one x))) = true := by
 have := h.opq hK
 simpa [refsBelow, AV.refs, AE.refs, OpqC] using this
theorem S1.copy {b bytes n : Nat} {C cs : List AC} {x : AC} (hs : S1 b C x n cs) (h1 : cs.all AC.isOne = true) {h : Heap} {N : Nat} {ty : TypeId} {fl : Bool} (hb : getL h b = some (some ⟨C, N, ty, fl, .cells⟩)) (hm : small (0 + n) 1 bytes = true) :
  CopyOk h 1 bytes (.e (.one x)) n cs (decide (n = 0)) := by
 obtain ⟨hl, ⟨rfl, p, c, rfl⟩ | ⟨h0, o, cap, ex, rfl, hC⟩⟩ := hs
 ·have : cs = [] := List.eq_nil_of_length_eq_zero hl
  subst this
  exact .inr (.inr (.inl ⟨rfl, rfl, rfl, p, c, rfl⟩))
 ·exact .inr (.inr (.inr ⟨decide_eq_false (by omega), h0, hm, h1, b, o, cap, ex, _, rfl, blk_some hb, by rw [Nat.mul_one]; exact hC⟩))
section
variable {H : Type} {enc : TypeId × Value → H} {P : Program} {W : World}
end
end
end Go.Ev
end

/-! SyRd -/
section
namespace Go.Ev
open Go.RowKit Go.WideShapes Go.ChangeShapes
noncomputable section
def AtRest (W : World) (F : List (Nat × List Value)) : Prop := ∀ p ∈ F, ∃ (c : Array Value) (t : TypeId) (fz : Nat × Nat), W.heap[p.1]? = some (.cells c t fz) ∧ c.toList = p.2
theorem AtRest.nil (W : World) : AtRest W [] := fun p hp => by simp at hp
theorem AtRest.app {W : World} {F G : List (Nat × List Value)} (h : AtRest W F) (k : AtRest W G) : AtRest W (F ++ G) := fun p hp => (List.mem_append.1 hp).elim (h p) (k p)
theorem AtRest.cons {W : World} {F : List (Nat × List Value)} {b : Nat} {c : Array Value} {t : TypeId} {fz : Nat × Nat} (h : AtRest W F) (hb : W.heap[b]? = some (.cells c t fz)) : AtRest W ((b, c.toList) :: F) := fun p hp => by
 rcases List.mem_cons.1 hp with rfl | hp
 ·exact ⟨c, t, fz, hb, rfl⟩
 ·exact h p hp
section
variable {H : Type} {enc : TypeId × Value → H} {P : Program} {W : World}
def dI (z : Int) : DT := .v (.int .i64 z)
end
end
end Go.Ev
end

/-! SeEqI -/
section
open Go Go.Ev Go.RowKit
open Extern.Stop
namespace Go.Proofs.YtkflndifhonbcaaGreatDoor
noncomputable section
abbrev iD (l : List Int) : List DT := l.map fun x => .v (.int .i64 x)
abbrev iC (l : List Int) : List AC := (iD l).map DT.ac
abbrev iV (l : List Int) : List Value := l.map (.int .i64)
theorem flat_iC (l : List Int) : FlatC (iC l) := by
 intro c hc
 simp only [List.map_map, List.mem_map] at hc
 obtain ⟨x, _, rfl⟩ := hc
 exact ⟨_, rfl⟩
theorem iC_app (l r : List Int) : appL (iC l) (iC r) = iC (l ++ r) := by rw [appL_eq]; simp
theorem cells_of {m : M} : ∀ {l : List Value} {cs : List Value}, All2 (CR m) (l.map AC.v) cs → cs = l
 | [], [], _ => rfl
 | [], _ :: _, h => h.elim
 | _ :: _, [], h => h.elim
 | x :: l, c :: cs, h => by
  obtain ⟨h1, h2⟩ := h
  rw [cells_of h2, show c = x from h1]
theorem iC_v (l : List Int) : iC l = (iV l).map AC.v := by simp [DT.ac]
theorem u3_ : Tryz.prog.underlying 3 = some (.int .i64) := by kernel_rfl
theorem q3_ (w : World) (a b : Int) : (Op.equalIn 9999 3 (.int .i64 a) (.int .i64 b)).run Tryz.prog w = .ok (a == b) w := by
 rw [show (9999 : Nat) = 9998 + 1 from rfl]
 exact run_equalIn_int w 9998 3 .i64 .i64 a b u3_
theorem part3_ (w : World) (l : List Int) (k : Nat) {x : Int} (h : l[k]? = some x) : (part 3 (iV l).toArray k).run Tryz.prog w = .ok (.int .i64 x) w := by
 have : (iV l)[k]? = some (.int .i64 x) := by rw [List.getElem?_map, h]; rfl
 simp [part, isAgg, run_underlying u3_, this]
theorem eq_step (P : Program) (w : World) {d : Nat} {xs ys : Array Value} {f : Field} {fs : List Field} {t n : Nat} {a b : Value} {r : Bool} (h : f.name ≠ "_") (ht : f.type = t) (hn : f.offset = n) (h1 : (part t xs n).run P w = .ok a w) (h2 : (part t ys n).run P w = .ok b w) (h3 : (Op.equalIn d t a b).run P w = .ok r w) :
  (Op.eqFields d xs ys (f :: fs)).run P w = if r then (Op.eqFields d xs ys fs).run P w else .ok false w := by
 subst ht hn
 cases r <;> simp [Op.eqFields, h, h1, h2, h3]
theorem eq_nil (P : Program) (w : World) {d : Nat} {xs ys : Array Value} : (Op.eqFields d xs ys []).run P w = .ok true w := by simp [Op.eqFields]
theorem eqFs (w : World) (l l' : List Int) (hl : l.length = l'.length) : ∀ (fs : List Field) (i : Nat), i + fs.length = l.length → fs.map (fun f => (f.name == "_", f.type, f.offset)) = (List.range' i fs.length).map (fun k => (false, 3, k)) →
  (Op.eqFields 9999 (iV l).toArray (iV l').toArray fs).run Tryz.prog w = .ok (l.drop i == l'.drop i) w
 | [], i, hi, _ => by
  have e1 : l.drop i = [] := List.drop_eq_nil_of_le (by simp at hi; omega)
  have e2 : l'.drop i = [] := List.drop_eq_nil_of_le (by simp at hi; omega)
  rw [eq_nil, e1, e2]; rfl
 | f :: fs, i, hi, hf => by
  have hi' : i + fs.length + 1 = l.length := by simpa [Nat.add_assoc] using hi
  simp only [List.map_cons, List.length_cons, List.range'_succ, List.cons.injEq, Prod.mk.injEq] at hf
  obtain ⟨⟨a1, a2, a3⟩, hf⟩ := hf
  have ih := eqFs w l l' hl fs (i + 1) (by omega) hf
  have h1 : i < l.length := by omega
  have h2 : i < l'.length := by omega
  rw [eq_step Tryz.prog w (by simpa using a1) a2 a3 (part3_ w l i (List.getElem?_eq_getElem h1)) (part3_ w l' i (List.getElem?_eq_getElem h2)) (q3_ w _ _), ih, List.drop_eq_getElem_cons h1, List.drop_eq_getElem_cons h2, List.cons_beq_cons]
  cases l[i] == l'[i] <;> simp
theorem eqIs {t : TypeId} {n : Nat} (hu : Tryz.prog.underlying t = some (.struct (Tryz.prog.fieldsOf t))) (hst : Tryz.prog.stoodInHeld t = false)
  (hfs : (Tryz.prog.fieldsOf t).toList.map (fun f => (f.name == "_", f.type, f.offset)) = (List.range' 0 n).map (fun k => (false, 3, k))) (l l' : List Int) (h1 : l.length = n) (h2 : l'.length = n) : EqOk E t (iC l) (iC l') (l == l') := by
 intro m c1 c2 w g1 g2
 rw [iC_v] at g1 g2
 have e1 : c1 = (iV l).toArray := by rw [← Array.toList_inj]; exact cells_of g1
 have e2 : c2 = (iV l').toArray := by rw [← Array.toList_inj]; exact cells_of g2
 subst e1 e2
 show (Op.equalIn 10000 t _ _).run Tryz.prog w = _
 rw [show (10000 : Nat) = 9999 + 1 from rfl]
 rw [run_equalIn_struct w 9999 t _ _ hu hst]
 have hl : (Tryz.prog.fieldsOf t).toList.length = n := by have := congrArg List.length hfs; simpa using this
 have := eqFs w l l' (by omega) (Tryz.prog.fieldsOf t).toList 0 (by omega) (by rw [hl]; exact hfs)
 simpa using this
theorem row_of (w : Nat) (l : List Int) (n i : Nat) (hl : l.length = n * w) (hi : i < n) : takeL (dropL (iD l) (i * w)) w = some (iD ((l.drop (i * w)).take w)) := by
 have hlt : i * w + w ≤ l.length := by rw [hl, ← Nat.succ_mul]; exact Nat.mul_le_mul_right w hi
 rw [takeL_eq, dropL_eq, if_pos (by simp; omega)]; simp only [iD, List.map_take, List.map_drop]
theorem row_len (w : Nat) (l : List Int) (n i : Nat) (hl : l.length = n * w) (hi : i < n) : ((l.drop (i * w)).take w).length = w := by
 have hlt : i * w + w ≤ l.length := by rw [hl, ← Nat.succ_mul]; exact Nat.mul_le_mul_right w hi
 simp; omega
theorem take_succ_row (w : Nat) (l : List Int) (i : Nat) : l.take ((i + 1) * w) = l.take (i * w) ++ (l.drop (i * w)).take w := by
 rw [Nat.succ_mul, List.take_add]
end
end Go.Proofs.YtkflndifhonbcaaGreatDoor
end

/-! SeGen -/
section
open Go Go.Ev
namespace Go.Proofs.YtkflndifhonbcaaGreatDoor
noncomputable section
theorem cOut_clear {f : FuncId} {args : List AV} {v : AV} {h : Heap} (hc : COut E 0 [] f args v h) (hv : v.refs = []) : COut E 0 [] f args v [] :=
 cOut_gc (h' := []) [] (Nat.zero_le _) hc rfl rfl (AV.ren_id hv)
theorem getI {xs : List Int} {i : Nat} {x : Int} (h : xs[i]? = some x) : getL (iD xs) i = some (.v (.int .i64 x)) := by rw [getL_eq, List.getElem?_map, h]; rfl
abbrev dI (xs : List Int) : AV := .e (.one (.dp (.s (iD xs) xs.length 1)))
theorem cOut_nil1 {f : FuncId} {args : List AV} {h : Heap} {p : Option Addr} {c : Nat} (sz : Nat) (hc : COut E 0 [] f args (.e (.one (.v (.slice p 0 c)))) h) : COut E 0 [] f args (.e (.one (.dp (.s [] 0 sz)))) h := by
 intro m base w argsC ha H G
 exact (hc m base w argsC ha H G).mono fun en w' ⟨y, hy, m1, hp⟩ => ⟨y, hy, m1, hp.le, .inl ⟨rfl, p, c, hp.val⟩, hp.heap, hp.below⟩
theorem cOut_weak {f : FuncId} {args : List AV} {h : Heap} {v v' : AV} (hc : COut E 0 [] f args v h) (hw : ∀ (m : M) (y : Value), VR m v y → VR m v' y) : COut E 0 [] f args v' h := by
 intro m base w argsC ha H G
 exact (hc m base w argsC ha H G).mono fun en w' ⟨y, hy, m1, hp⟩ => ⟨y, hy, m1, hp.le, hw _ _ hp.val, hp.heap, hp.below⟩
theorem lend2 (lv : Nat) (_hE : EnvOk E) (f : FuncId) (xs : List Int) (r : Int) (ty : Nat) (fl : Bool) (hc : COut E 0 [] f [dI xs] (iI r) []) (h : Heap) (i : Nat) (hh : getL h i = some (some ⟨(iD xs).map DT.ac, xs.length, ty, fl, .cells⟩)) : COut E lv h f [.e (.one (.slc i 0 xs.length 1 xs.length true))] (iI r) h :=
 cOut_lend h hc ⟨.inr ⟨i, 0, xs.length, 1, xs.length, true, iD xs, iD xs, xs.length, ty, fl, rfl, rfl, hh, by rw [takeL_eq, dropL_eq, List.drop_zero, if_pos (by simp), List.take_of_length_le (by simp)]⟩, trivial⟩ rfl rfl
end
end Go.Proofs.YtkflndifhonbcaaGreatDoor
end

/-! SeCk -/
section
open Go Go.Ev
namespace Go.Proofs.YtkflndifhonbcaaGreatDoor
noncomputable section
set_option maxRecDepth 100000
set_option maxHeartbeats 20000000
def s68 (C : List DT) (n _i : Nat) (_x _y _u : Int) (_j : Nat → Value) : St := startK Tryz.f68 [] [(.e (.one (.dp (.s C n 1))))]
def s25 (C : List DT) (n _i : Nat) (_x _y _u : Int) (_j : Nat → Value) : St := startK Tryz.f25 [] [(.e (.one (.dp (.s C n 1))))]
def s75 (_s _o _l _v _t _x _y _z _d _q _r e _f _g _h _k _w _m : Int) (b : Bool) (_j : Nat → Value) : St := startK Tryz.f75 [] [iB b, iI e]
def s70 (_s _o _l _v _t _x _y _z _d _q _r e _f _g _h _k _w _m : Int) (b : Bool) (_j : Nat → Value) : St := startK Tryz.f70 [] [iB b, iI e]
def s81 (_s _o _l _v _t x y z _d _q _r _e _f _g _h _k _w _m : Int) (_b : Bool) (_j : Nat → Value) : St := startK Tryz.f81 [] [iI x, iI y, iI z]
def s27 (_s _o _l _v _t x y z _d _q _r _e _f _g _h _k _w _m : Int) (_b : Bool) (_j : Nat → Value) : St := startK Tryz.f27 [] [iI x, iI y, iI z]
def s99 (_s o _l _v _t _x _y _z _d _q _r e _f _g _h _k _w _m : Int) (_b : Bool) (_j : Nat → Value) : St := startK Tryz.f99 [] [iI o, iI e]
def s100 (_s _o _l _v _t x _y _z _d _q _r _e _f _g _h _k _w _m : Int) (_b : Bool) (_j : Nat → Value) : St := startK Tryz.f100 [] [iI x]
def s101 (_s _o _l _v _t x _y _z _d _q _r _e _f _g _h _k _w _m : Int) (_b : Bool) (_j : Nat → Value) : St := startK Tryz.f101 [] [iI x]
def s102 (_s _o _l _v _t x _y _z _d _q _r _e _f _g _h _k _w _m : Int) (_b : Bool) (_j : Nat → Value) : St := startK Tryz.f102 [] [iI x]
def s57 (s o l v _t _x _y _z _d _q _r _e _f _g _h _k _w _m : Int) (_b : Bool) (_j : Nat → Value) : St := startK Tryz.f57 [] [.e (.agg [.v (.int .i64 s), .v (.int .i64 o), .v (.int .i64 l), .v (.int .i64 v)])]
def s58 (s o l v _t _x _y _z _d _q _r _e _f _g _h _k _w _m : Int) (_b : Bool) (_j : Nat → Value) : St := startK Tryz.f58 [] [.e (.agg [.v (.int .i64 s), .v (.int .i64 o), .v (.int .i64 l), .v (.int .i64 v)])]
def s98 (s o l v t _x _y _z _d _q _r _e _f _g _h _k _w _m : Int) (_b : Bool) (_j : Nat → Value) : St := startK Tryz.f98 [] [.e (.agg [.v (.int .i64 s), .v (.int .i64 o), .v (.int .i64 l), .v (.int .i64 v)]), iI t]
def s55 (s o l v t _x _y _z _d _q _r _e _f _g _h _k _w _m : Int) (_b : Bool) (_j : Nat → Value) : St := startK Tryz.f55 [] [.e (.agg [.v (.int .i64 s), .v (.int .i64 o), .v (.int .i64 l), .v (.int .i64 v)]), iI t]
def q68 (C : List DT) (n i : Nat) (_x _y _u : Int) (j : Nat → Value) : St := ⟨[], [(.code (atC [1, 0, 1, 0, 0] (bodyOf Tryz.f68))), (.inLoop (atC [1, 0, 1, 0, 0] (bodyOf Tryz.f68))), (.inBlock 0), (.code (atC [1, 1] (bodyOf Tryz.f68)))], mkT j [(5, (.e (.one (.dp (.s (C) (n) 1))))), (6, (iI (Int.ofNat n))), (7, (iI (Int.ofNat i)))] 15 0⟩
def q25 (C : List DT) (n i : Nat) (_x _y _u : Int) (j : Nat → Value) : St := ⟨[], [(.code (atC [1, 0, 1, 0, 0] (bodyOf Tryz.f25))), (.inLoop (atC [1, 0, 1, 0, 0] (bodyOf Tryz.f25))), (.inBlock 0), (.code (atC [1, 1] (bodyOf Tryz.f25)))], mkT j [(0, (.e (.one (.dp (.s (C) (n) 1))))), (3, (iI (Int.ofNat i)))] 19 0⟩
def p68a_end (C : List DT) (n _i : Nat) (_x _y _u : Int) (j : Nat → Value) : St := ⟨[], [(.code (atC [1, 0, 1, 0, 0] (bodyOf Tryz.f68))), (.inLoop (atC [1, 0, 1, 0, 0] (bodyOf Tryz.f68))), (.inBlock 0), (.code (atC [1, 1] (bodyOf Tryz.f68)))], mkT j [(5, (.e (.one (.dp (.s (C) (n) 1))))), (6, (iI (Int.ofNat n))), (7, (iI 0))] 15 0⟩
theorem p68a (hE : EnvOk E) (C : List DT) (n i : Nat) (x y u : Int)  {Φ : Res → Prop} (ho : ∀ j, OutK E 0 0 (p68a_end C n i x y u j) Φ) (j : Nat → Value) : OutK E 0 0 (s68 C n i x y u j) Φ :=
 outK_seg hE (R0_ok hE) [.run 4, (.ops [(1, (.d .len))] []), .run 2] [5, 6, 7] (ps := []) (fun j => by kernel_rfl) trivial
  ho
def p25a_end (C : List DT) (n _i : Nat) (_x _y _u : Int) (j : Nat → Value) : St := ⟨[], [(.code (atC [1, 0, 1, 0, 0] (bodyOf Tryz.f25))), (.inLoop (atC [1, 0, 1, 0, 0] (bodyOf Tryz.f25))), (.inBlock 0), (.code (atC [1, 1] (bodyOf Tryz.f25)))], mkT j [(0, (.e (.one (.dp (.s (C) (n) 1))))), (3, (iI 0))] 19 0⟩
theorem p25a (hE : EnvOk E) (C : List DT) (n i : Nat) (x y u : Int)  {Φ : Res → Prop} (ho : ∀ j, OutK E 0 0 (p25a_end C n i x y u j) Φ) (j : Nat → Value) : OutK E 0 0 (s25 C n i x y u j) Φ :=
 outK_seg hE (R0_ok hE) [.run 7] [0, 3] (ps := []) (fun j => by kernel_rfl) trivial
  ho
def p75t_end (_s _o _l _v _t _x _y _z _d _q _r e _f _g _h _k _w _m : Int) (_b : Bool) (j : Nat → Value) : St := ⟨[], [(.code .ret), (.code (atC [1, 1] (bodyOf Tryz.f75)))], mkT j [(4, (iI (e)))] 7 0⟩
theorem p75t (hE : EnvOk E) (s o l v t x y z d q r e f g h k w m : Int) (b : Bool) (h0 : (b : Bool) = true) {Φ : Res → Prop} (ho : ∀ j, OutK E 0 0 (p75t_end s o l v t x y z d q r e f g h k w m b j) Φ) (j : Nat → Value) : OutK E 0 0 (s75 s o l v t x y z d q r e f g h k w m b j) Φ :=
 outK_seg hE (R0_ok hE) [.run 5, (.cond true), .run 2] [4] (fun j => by kernel_rfl) (aP h0 <| aZ)
  ho
def p75f_end (_s _o _l _v _t _x _y _z _d _q _r _e _f _g _h _k _w _m : Int) (_b : Bool) (j : Nat → Value) : St := ⟨[], [(.code .ret)], mkT j [(4, (iI 0))] 7 0⟩
theorem p75f (hE : EnvOk E) (s o l v t x y z d q r e f g h k w m : Int) (b : Bool) (h0 : (b : Bool) = false) {Φ : Res → Prop} (ho : ∀ j, OutK E 0 0 (p75f_end s o l v t x y z d q r e f g h k w m b j) Φ) (j : Nat → Value) : OutK E 0 0 (s75 s o l v t x y z d q r e f g h k w m b j) Φ :=
 outK_seg hE (R0_ok hE) [.run 5, (.cond false), .run 3] [4] (fun j => by kernel_rfl) (aP h0 <| aZ)
  ho
def p70t_end (_s _o _l _v _t _x _y _z _d _q _r e _f _g _h _k _w _m : Int) (_b : Bool) (j : Nat → Value) : St := ⟨[], [(.code .ret), (.code (atC [1, 1] (bodyOf Tryz.f70)))], mkT j [(4, (iI (e)))] 7 0⟩
theorem p70t (hE : EnvOk E) (s o l v t x y z d q r e f g h k w m : Int) (b : Bool) (h0 : (b : Bool) = true) {Φ : Res → Prop} (ho : ∀ j, OutK E 0 0 (p70t_end s o l v t x y z d q r e f g h k w m b j) Φ) (j : Nat → Value) : OutK E 0 0 (s70 s o l v t x y z d q r e f g h k w m b j) Φ :=
 outK_seg hE (R0_ok hE) [.run 5, (.cond true), .run 2] [4] (fun j => by kernel_rfl) (aP h0 <| aZ)
  ho
def p70f_end (_s _o _l _v _t _x _y _z _d _q _r _e _f _g _h _k _w _m : Int) (_b : Bool) (j : Nat → Value) : St := ⟨[], [(.code .ret)], mkT j [(4, (iI 0))] 7 0⟩
theorem p70f (hE : EnvOk E) (s o l v t x y z d q r e f g h k w m : Int) (b : Bool) (h0 : (b : Bool) = false) {Φ : Res → Prop} (ho : ∀ j, OutK E 0 0 (p70f_end s o l v t x y z d q r e f g h k w m b j) Φ) (j : Nat → Value) : OutK E 0 0 (s70 s o l v t x y z d q r e f g h k w m b j) Φ :=
 outK_seg hE (R0_ok hE) [.run 5, (.cond false), .run 3] [4] (fun j => by kernel_rfl) (aP h0 <| aZ)
  ho
def p81a_end (_s _o _l _v _t _x _y _z _d _q _r e _f _g _h _k _w _m : Int) (_b : Bool) (j : Nat → Value) : St := ⟨[], [(.code .ret)], mkT j [(6, (iI (e)))] 16 0⟩
theorem p81a (hE : EnvOk E) (s o l v t x y z d q r e f g h k w m : Int) (b : Bool) (h0 : (decide (x < y) == false : Bool) = (nat_lit 4, false).snd) (h1 : (decide (x < y) == false : Bool) = (nat_lit 5, false).snd) (h2 : (decide (x < y) == false : Bool) = (nat_lit 6, false).snd) (h3 : (decide (x < y) : Bool) = true) (h4 : COut E 0 [] 70 [(iB true), (iI 3)] (iI (e)) []) {Φ : Res → Prop} (ho : ∀ j, OutK E 0 0 (p81a_end s o l v t x y z d q r e f g h k w m b j) Φ) (j : Nat → Value) : OutK E 0 0 (s81 s o l v t x y z d q r e f g h k w m b j) Φ :=
 outK_seg hE (R0_ok hE) [.run 3, (.ops [(8, (.c0 (iI (e)))), (7, (.pk true))] [(4, false), (5, false), (6, false)])] [6] (fun j => by kernel_rfl) (aP h0 <| aP h1 <| aP h2 <| aP h3 <| aP h4 <| aN <| aZ)
  ho
def p81b_end (_s _o _l _v _t _x _y _z _d _q _r e _f _g _h _k _w _m : Int) (_b : Bool) (j : Nat → Value) : St := ⟨[], [(.code .ret)], mkT j [(6, (iI (e)))] 16 0⟩
theorem p81b (hE : EnvOk E) (s o l v t x y z d q r e f g h k w m : Int) (b : Bool) (h0 : (decide (x < y) == false : Bool) = (nat_lit 4, true).snd) (h1 : (decide (x < y) == false : Bool) = (nat_lit 5, true).snd) (h2 : (decide (x < y) == false : Bool) = (nat_lit 6, true).snd) (h3 : (decide (x < y) : Bool) = false) (h4 : COut E 0 [] 70 [(iB (decide (x > z))), (iI 3)] (iI (e)) []) {Φ : Res → Prop} (ho : ∀ j, OutK E 0 0 (p81b_end s o l v t x y z d q r e f g h k w m b j) Φ) (j : Nat → Value) : OutK E 0 0 (s81 s o l v t x y z d q r e f g h k w m b j) Φ :=
 outK_seg hE (R0_ok hE) [.run 3, (.ops [(8, (.c0 (iI (e)))), (7, (.pk false))] [(4, true), (5, true), (6, true)])] [6] (fun j => by kernel_rfl) (aP h0 <| aP h1 <| aP h2 <| aP h3 <| aP h4 <| aN <| aZ)
  ho
def p27a_end (_s _o _l _v _t _x _y _z _d _q _r e _f _g _h _k _w _m : Int) (_b : Bool) (j : Nat → Value) : St := ⟨[], [(.code .ret)], mkT j [(6, (iI (e)))] 16 0⟩
theorem p27a (hE : EnvOk E) (s o l v t x y z d q r e f g h k w m : Int) (b : Bool) (h0 : (decide (x < y) == false : Bool) = (nat_lit 4, false).snd) (h1 : (decide (x < y) == false : Bool) = (nat_lit 5, false).snd) (h2 : (decide (x < y) == false : Bool) = (nat_lit 6, false).snd) (h3 : (decide (x < y) : Bool) = true) (h4 : COut E 0 [] 75 [(iB true), (iI 3)] (iI (e)) []) {Φ : Res → Prop} (ho : ∀ j, OutK E 0 0 (p27a_end s o l v t x y z d q r e f g h k w m b j) Φ) (j : Nat → Value) : OutK E 0 0 (s27 s o l v t x y z d q r e f g h k w m b j) Φ :=
 outK_seg hE (R0_ok hE) [.run 3, (.ops [(8, (.c0 (iI (e)))), (7, (.pk true))] [(4, false), (5, false), (6, false)])] [6] (fun j => by kernel_rfl) (aP h0 <| aP h1 <| aP h2 <| aP h3 <| aP h4 <| aN <| aZ)
  ho
def p27b_end (_s _o _l _v _t _x _y _z _d _q _r e _f _g _h _k _w _m : Int) (_b : Bool) (j : Nat → Value) : St := ⟨[], [(.code .ret)], mkT j [(6, (iI (e)))] 16 0⟩
theorem p27b (hE : EnvOk E) (s o l v t x y z d q r e f g h k w m : Int) (b : Bool) (h0 : (decide (x < y) == false : Bool) = (nat_lit 4, true).snd) (h1 : (decide (x < y) == false : Bool) = (nat_lit 5, true).snd) (h2 : (decide (x < y) == false : Bool) = (nat_lit 6, true).snd) (h3 : (decide (x < y) : Bool) = false) (h4 : COut E 0 [] 75 [(iB (decide (x > z))), (iI 3)] (iI (e)) []) {Φ : Res → Prop} (ho : ∀ j, OutK E 0 0 (p27b_end s o l v t x y z d q r e f g h k w m b j) Φ) (j : Nat → Value) : OutK E 0 0 (s27 s o l v t x y z d q r e f g h k w m b j) Φ :=
 outK_seg hE (R0_ok hE) [.run 3, (.ops [(8, (.c0 (iI (e)))), (7, (.pk false))] [(4, true), (5, true), (6, true)])] [6] (fun j => by kernel_rfl) (aP h0 <| aP h1 <| aP h2 <| aP h3 <| aP h4 <| aN <| aZ)
  ho
def p99a_end (_s _o _l _v _t _x _y _z _d _q r _e _f _g _h _k _w _m : Int) (_b : Bool) (j : Nat → Value) : St := ⟨[], [(.code .ret)], mkT j [(4, (iI (r)))] 13 0⟩
theorem p99a (hE : EnvOk E) (s o l v t x y z d q r e f g h k w m : Int) (b : Bool) (h0 : (decide (o < (-1000000 : Int)) == false : Bool) = (nat_lit 3, false).snd) (h1 : (decide (o < (-1000000 : Int)) == false : Bool) = (nat_lit 4, false).snd) (h2 : (decide (o < (-1000000 : Int)) : Bool) = true) (h3 : COut E 0 [] 70 [(iB true), (iI (e))] (iI (r)) []) {Φ : Res → Prop} (ho : ∀ j, OutK E 0 0 (p99a_end s o l v t x y z d q r e f g h k w m b j) Φ) (j : Nat → Value) : OutK E 0 0 (s99 s o l v t x y z d q r e f g h k w m b j) Φ :=
 outK_seg hE (R0_ok hE) [.run 3, (.ops [(7, (.c0 (iI (r)))), (5, (.pk true))] [(3, false), (4, false)])] [4] (fun j => by kernel_rfl) (aP h0 <| aP h1 <| aP h2 <| aP h3 <| aN <| aZ)
  ho
def p99b_end (_s _o _l _v _t _x _y _z _d _q r _e _f _g _h _k _w _m : Int) (_b : Bool) (j : Nat → Value) : St := ⟨[], [(.code .ret)], mkT j [(4, (iI (r)))] 13 0⟩
theorem p99b (hE : EnvOk E) (s o l v t x y z d q r e f g h k w m : Int) (b : Bool) (h0 : (decide (o < (-1000000 : Int)) == false : Bool) = (nat_lit 3, true).snd) (h1 : (decide (o < (-1000000 : Int)) == false : Bool) = (nat_lit 4, true).snd) (h2 : (decide (o < (-1000000 : Int)) : Bool) = false) (h3 : COut E 0 [] 70 [(iB (decide (o > (1000000 : Int)))), (iI (e))] (iI (r)) []) {Φ : Res → Prop} (ho : ∀ j, OutK E 0 0 (p99b_end s o l v t x y z d q r e f g h k w m b j) Φ) (j : Nat → Value) : OutK E 0 0 (s99 s o l v t x y z d q r e f g h k w m b j) Φ :=
 outK_seg hE (R0_ok hE) [.run 3, (.ops [(7, (.c0 (iI (r)))), (5, (.pk false))] [(3, true), (4, true)])] [4] (fun j => by kernel_rfl) (aP h0 <| aP h1 <| aP h2 <| aP h3 <| aN <| aZ)
  ho
def p100_end (_s _o _l _v _t _x _y _z _d _q _r e _f _g _h _k _w _m : Int) (_b : Bool) (j : Nat → Value) : St := ⟨[], [(.code .ret)], mkT j [(2, (iI (e)))] 5 0⟩
theorem p100 (hE : EnvOk E) (s o l v t x y z d q r e f g h k w m : Int) (b : Bool) (h0 : COut E 0 [] 81 [(iI (x)), (iI (-1000)), (iI 1000)] (iI (e)) []) {Φ : Res → Prop} (ho : ∀ j, OutK E 0 0 (p100_end s o l v t x y z d q r e f g h k w m b j) Φ) (j : Nat → Value) : OutK E 0 0 (s100 s o l v t x y z d q r e f g h k w m b j) Φ :=
 outK_seg hE (R0_ok hE) [.run 3, (.ops [(1, (.c0 (iI (e))))] [])] [2] (fun j => by kernel_rfl) (aP h0 <| aN <| aZ)
  ho
def p101_end (_s _o _l _v _t _x _y _z _d _q _r e _f _g _h _k _w _m : Int) (_b : Bool) (j : Nat → Value) : St := ⟨[], [(.code .ret)], mkT j [(2, (iI (e)))] 5 0⟩
theorem p101 (hE : EnvOk E) (s o l v t x y z d q r e f g h k w m : Int) (b : Bool) (h0 : COut E 0 [] 81 [(iI (x)), (iI 2), (iI 1000)] (iI (e)) []) {Φ : Res → Prop} (ho : ∀ j, OutK E 0 0 (p101_end s o l v t x y z d q r e f g h k w m b j) Φ) (j : Nat → Value) : OutK E 0 0 (s101 s o l v t x y z d q r e f g h k w m b j) Φ :=
 outK_seg hE (R0_ok hE) [.run 3, (.ops [(1, (.c0 (iI (e))))] [])] [2] (fun j => by kernel_rfl) (aP h0 <| aN <| aZ)
  ho
def p102_end (_s _o _l _v _t _x _y _z _d _q _r e _f _g _h _k _w _m : Int) (_b : Bool) (j : Nat → Value) : St := ⟨[], [(.code .ret)], mkT j [(2, (iI (e)))] 5 0⟩
theorem p102 (hE : EnvOk E) (s o l v t x y z d q r e f g h k w m : Int) (b : Bool) (h0 : COut E 0 [] 81 [(iI (x)), (iI 0), (iI 100000000)] (iI (e)) []) {Φ : Res → Prop} (ho : ∀ j, OutK E 0 0 (p102_end s o l v t x y z d q r e f g h k w m b j) Φ) (j : Nat → Value) : OutK E 0 0 (s102 s o l v t x y z d q r e f g h k w m b j) Φ :=
 outK_seg hE (R0_ok hE) [.run 3, (.ops [(1, (.c0 (iI (e))))] [])] [2] (fun j => by kernel_rfl) (aP h0 <| aN <| aZ)
  ho
def p57_end (_s _o _l _v _t _x _y _z _d _q _r _e _f _g _h k _w _m : Int) (_b : Bool) (j : Nat → Value) : St := ⟨[], [(.code .ret)], mkT j [(2, (iI (k)))] 17 0⟩
theorem p57 (hE : EnvOk E) (s o l v t x y z d q r e f g h k w m : Int) (b : Bool) (h0 : COut E 0 [] 102 [(iI (s))] (iI (e)) []) (h2 : COut E 0 [] 99 [(iI (o)), (iI 3)] (iI (f)) []) (h4 : COut E 0 [] 100 [(iI (l))] (iI (g)) []) (h7 : COut E 0 [] 101 [(iI (v))] (iI (h)) []) (h9 : COut E 2 [(.some ⟨[(.v (.int .i64 (s))), (.v (.int .i64 (o))), (.v (.int .i64 (l))), (.v (.int .i64 (v)))], 4, 106, true, .cells⟩), (.some ⟨[(.v (.int .i64 (e))), (.v (.int .i64 (f))), (.v (.int .i64 (g))), (.v (.int .i64 (h)))], 4, 32, true, .cells⟩)] 68 [(.e (.one (.slc 1 0 4 1 4 true)))] (iI (k)) [(.some ⟨[(.v (.int .i64 (s))), (.v (.int .i64 (o))), (.v (.int .i64 (l))), (.v (.int .i64 (v)))], 4, 106, true, .cells⟩), (.some ⟨[(.v (.int .i64 (e))), (.v (.int .i64 (f))), (.v (.int .i64 (g))), (.v (.int .i64 (h)))], 4, 32, true, .cells⟩)]) {Φ : Res → Prop} (ho : ∀ j, OutK E 0 0 (p57_end s o l v t x y z d q r e f g h k w m b j) Φ) (j : Nat → Value) : OutK E 0 0 (s57 s o l v t x y z d q r e f g h k w m b j) Φ :=
 outK_seg hE (R0_ok hE) [.run 3, (.ops [(2, (.c0 (iI (e)))), (5, (.c0 (iI (f)))), (8, (.c0 (iI (g)))), (11, (.c0 (iI (h)))), (13, (.d (.c1 (iI (k)))))] [])] [2] (s' := fun j => ⟨[(.some ⟨[(.v (.int .i64 (s))), (.v (.int .i64 (o))), (.v (.int .i64 (l))), (.v (.int .i64 (v)))], 4, 106, true, .cells⟩), (.some ⟨[(.v (.int .i64 (e))), (.v (.int .i64 (f))), (.v (.int .i64 (g))), (.v (.int .i64 (h)))], 4, 32, true, .cells⟩)], [(.code .ret)], mkT j [(2, (iI (k)))] 17 0⟩) (fun j => by kernel_rfl) (aP h0 <| aN <| aP h2 <| aN <| aP h4 <| aN <| aP (rfl : (true : Bool) = true) <| aP h7 <| aN <| aP h9 <| aN <| aZ)
  fun j => outK_gc [] (by decide) (by kernel_rfl) (by kernel_rfl) (by kernel_rfl) (ho j)
def p58_end (_s _o _l _v _t _x _y _z _d _q _r _e _f _g _h k _w _m : Int) (_b : Bool) (j : Nat → Value) : St := ⟨[], [(.code .ret)], mkT j [(2, (iI (k)))] 17 0⟩
theorem p58 (hE : EnvOk E) (s o l v t x y z d q r e f g h k w m : Int) (b : Bool) (h0 : COut E 0 [] 27 [(iI (s)), (iI 0), (iI 100000000)] (iI (e)) []) (h2 : COut E 0 [] 27 [(iI (o)), (iI (-1000000)), (iI 1000000)] (iI (f)) []) (h4 : COut E 0 [] 27 [(iI (l)), (iI (-1000)), (iI 1000)] (iI (g)) []) (h7 : COut E 0 [] 27 [(iI (v)), (iI 2), (iI 1000)] (iI (h)) []) (h9 : COut E 2 [(.some ⟨[(.v (.int .i64 (s))), (.v (.int .i64 (o))), (.v (.int .i64 (l))), (.v (.int .i64 (v)))], 4, 102, true, .cells⟩), (.some ⟨[(.v (.int .i64 (e))), (.v (.int .i64 (f))), (.v (.int .i64 (g))), (.v (.int .i64 (h)))], 4, 3, true, .cells⟩)] 25 [(.e (.one (.slc 1 0 4 1 4 true)))] (iI (k)) [(.some ⟨[(.v (.int .i64 (s))), (.v (.int .i64 (o))), (.v (.int .i64 (l))), (.v (.int .i64 (v)))], 4, 102, true, .cells⟩), (.some ⟨[(.v (.int .i64 (e))), (.v (.int .i64 (f))), (.v (.int .i64 (g))), (.v (.int .i64 (h)))], 4, 3, true, .cells⟩)]) {Φ : Res → Prop} (ho : ∀ j, OutK E 0 0 (p58_end s o l v t x y z d q r e f g h k w m b j) Φ) (j : Nat → Value) : OutK E 0 0 (s58 s o l v t x y z d q r e f g h k w m b j) Φ :=
 outK_seg hE (R0_ok hE) [.run 3, (.ops [(2, (.c0 (iI (e)))), (5, (.c0 (iI (f)))), (8, (.c0 (iI (g)))), (11, (.c0 (iI (h)))), (13, (.d (.c1 (iI (k)))))] [])] [2] (s' := fun j => ⟨[(.some ⟨[(.v (.int .i64 (s))), (.v (.int .i64 (o))), (.v (.int .i64 (l))), (.v (.int .i64 (v)))], 4, 102, true, .cells⟩), (.some ⟨[(.v (.int .i64 (e))), (.v (.int .i64 (f))), (.v (.int .i64 (g))), (.v (.int .i64 (h)))], 4, 3, true, .cells⟩)], [(.code .ret)], mkT j [(2, (iI (k)))] 17 0⟩) (fun j => by kernel_rfl) (aP h0 <| aN <| aP h2 <| aN <| aP h4 <| aN <| aP (rfl : (true : Bool) = true) <| aP h7 <| aN <| aP h9 <| aN <| aZ)
  fun j => outK_gc [] (by decide) (by kernel_rfl) (by kernel_rfl) (by kernel_rfl) (ho j)
def p98_end (_s _o _l _v _t _x _y _z _d _q r _e _f _g _h _k _w _m : Int) (_b : Bool) (j : Nat → Value) : St := ⟨[], [(.code .ret)], mkT j [(4, (iI (r)))] 25 0⟩
theorem p98 (hE : EnvOk E) (s o l v t x y z d q r e f g h k w m : Int) (b : Bool) (h0 : ((iI (wrapF IntKind.i64 (t - s))) : AV) = (iI (d))) (h1 : (v : Int) ≠ (0 : Int)) (h2 : (wrapF IntKind.i64 (d.tdiv v) : Int) = q) (h3 : ((iI (wrapF IntKind.i64 (t + o))) : AV) = (iI (x))) (h4 : ((iI (IntKind.i64.wrap ((0 : Int) - q))) : AV) = (iI (y))) (h5 : ((iI (if y > l then y else l)) : AV) = (iI (z))) (h6 : ((iI (if q < z then q else z)) : AV) = (iI (m))) (h7 : ((iI (wrapF IntKind.i64 (x + m))) : AV) = (iI (r))) {Φ : Res → Prop} (ho : ∀ j, OutK E 0 0 (p98_end s o l v t x y z d q r e f g h k w m b j) Φ) (j : Nat → Value) : OutK E 0 0 (s98 s o l v t x y z d q r e f g h k w m b j) Φ :=
 outK_seg hE (R0_ok hE) [.run 3, (.ops [(3, (.rn (iI (d)))), (6, (.quo (q)))] []), .run 1, (.ops [(3, (.rn (iI (x)))), (7, (.rn (iI (y)))), (8, (.rn (iI (z)))), (10, (.rn (iI (m)))), (11, (.rn (iI (r))))] [])] [4] (s' := fun j => ⟨[(.some ⟨[(.v (.int .i64 (s))), (.v (.int .i64 (o))), (.v (.int .i64 (l))), (.v (.int .i64 (v)))], 4, 106, true, .cells⟩)], [(.code .ret)], mkT j [(4, (iI (r)))] 25 0⟩) (fun j => by kernel_rfl) (aP h0 <| aP h1 <| aP h2 <| aP h3 <| aP h4 <| aP h5 <| aP h6 <| aP h7 <| aZ)
  fun j => outK_gc [] (by decide) (by kernel_rfl) (by kernel_rfl) (by kernel_rfl) (ho j)
def p55n_end (_s _o _l _v _t _x _y _z _d _q r _e _f _g _h _k _w _m : Int) (_b : Bool) (j : Nat → Value) : St := ⟨[], [(.code .ret), (.code (atC [1, 1, 1] (bodyOf Tryz.f55)))], mkT j [(4, (iI (r)))] 35 0⟩
theorem p55n (hE : EnvOk E) (s o l v t x y z d q r e f g h k w m : Int) (b : Bool) (h0 : ((iI (wrapF IntKind.i64 (t - s))) : AV) = (iI (d))) (h1 : (v : Int) ≠ (0 : Int)) (h2 : (wrapF IntKind.i64 (d.tdiv v) : Int) = q) (h3 : (decide (l < (0 : Int)) : Bool) = true) (h4 : ((iI (wrapF IntKind.i64 (t + o))) : AV) = (iI (x))) (h5 : ((iI (wrapF IntKind.i64 ((0 : Int) - l))) : AV) = (iI (y))) (h6 : ((iI (if q < y then q else y)) : AV) = (iI (m))) (h7 : ((iI (wrapF IntKind.i64 (x - m))) : AV) = (iI (r))) {Φ : Res → Prop} (ho : ∀ j, OutK E 0 0 (p55n_end s o l v t x y z d q r e f g h k w m b j) Φ) (j : Nat → Value) : OutK E 0 0 (s55 s o l v t x y z d q r e f g h k w m b j) Φ :=
 outK_seg hE (R0_ok hE) [.run 3, (.ops [(3, (.rn (iI (d)))), (6, (.quo (q)))] []), .run 3, (.cond true), .run 1, (.ops [(3, (.rn (iI (x)))), (6, (.rn (iI (y)))), (8, (.rn (iI (m)))), (9, (.rn (iI (r))))] [])] [4] (s' := fun j => ⟨[(.some ⟨[(.v (.int .i64 (s))), (.v (.int .i64 (o))), (.v (.int .i64 (l))), (.v (.int .i64 (v)))], 4, 102, true, .cells⟩)], [(.code .ret), (.code (atC [1, 1, 1] (bodyOf Tryz.f55)))], mkT j [(4, (iI (r)))] 35 0⟩) (fun j => by kernel_rfl) (aP h0 <| aP h1 <| aP h2 <| aP h3 <| aP h4 <| aP h5 <| aP h6 <| aP h7 <| aZ)
  fun j => outK_gc [] (by decide) (by kernel_rfl) (by kernel_rfl) (by kernel_rfl) (ho j)
def p55p_end (_s _o _l _v _t _x _y _z _d _q r _e _f _g _h _k _w _m : Int) (_b : Bool) (j : Nat → Value) : St := ⟨[], [(.code .ret)], mkT j [(4, (iI (r)))] 35 0⟩
theorem p55p (hE : EnvOk E) (s o l v t x y z d q r e f g h k w m : Int) (b : Bool) (h0 : ((iI (wrapF IntKind.i64 (t - s))) : AV) = (iI (d))) (h1 : (v : Int) ≠ (0 : Int)) (h2 : (wrapF IntKind.i64 (d.tdiv v) : Int) = q) (h3 : (decide (l < (0 : Int)) : Bool) = false) (h4 : ((iI (wrapF IntKind.i64 (t + o))) : AV) = (iI (x))) (h5 : ((iI (if q < l then q else l)) : AV) = (iI (m))) (h6 : ((iI (wrapF IntKind.i64 (x + m))) : AV) = (iI (r))) {Φ : Res → Prop} (ho : ∀ j, OutK E 0 0 (p55p_end s o l v t x y z d q r e f g h k w m b j) Φ) (j : Nat → Value) : OutK E 0 0 (s55 s o l v t x y z d q r e f g h k w m b j) Φ :=
 outK_seg hE (R0_ok hE) [.run 3, (.ops [(3, (.rn (iI (d)))), (6, (.quo (q)))] []), .run 3, (.cond false), .run 2, (.ops [(3, (.rn (iI (x)))), (7, (.rn (iI (m)))), (8, (.rn (iI (r))))] [])] [4] (s' := fun j => ⟨[(.some ⟨[(.v (.int .i64 (s))), (.v (.int .i64 (o))), (.v (.int .i64 (l))), (.v (.int .i64 (v)))], 4, 102, true, .cells⟩)], [(.code .ret)], mkT j [(4, (iI (r)))] 35 0⟩) (fun j => by kernel_rfl) (aP h0 <| aP h1 <| aP h2 <| aP h3 <| aP h4 <| aP h5 <| aP h6 <| aZ)
  fun j => outK_gc [] (by decide) (by kernel_rfl) (by kernel_rfl) (by kernel_rfl) (ho j)
def p68s_end (C : List DT) (n i : Nat) (_x _y _u : Int) (j : Nat → Value) : St := ⟨[], [(.code (atC [1, 0, 1, 0, 0] (bodyOf Tryz.f68))), (.inLoop (atC [1, 0, 1, 0, 0] (bodyOf Tryz.f68))), (.inBlock 0), (.code (atC [1, 1] (bodyOf Tryz.f68)))], mkT j [(5, (.e (.one (.dp (.s (C) (n) 1))))), (6, (iI (Int.ofNat n))), (7, (iI (Int.ofNat (i + 1))))] 15 0⟩
theorem p68s (hE : EnvOk E) (C : List DT) (n i : Nat) (x y u : Int) (h0 : (decide (Int.ofNat i < Int.ofNat n) : Bool) = true) (h1 : (0 : Int) ≤ Int.ofNat i ∧ Int.ofNat i < (↑n : Int)) (h2 : ((Int.ofNat i).toNat * nat_lit 1 : Nat) = i) (h3 : (getL C i : Option DT) = (.some (.v (.int .i64 (x))))) (h4 : (x != (0 : Int) : Bool) = false) (h5 : ((iI (wrapF IntKind.i64 (Int.ofNat i + (1 : Int)))) : AV) = (iI (Int.ofNat (i + 1)))) {Φ : Res → Prop} (ho : ∀ j, OutK E 0 0 (p68s_end C n i x y u j) Φ) (j : Nat → Value) : OutK E 0 0 (q68 C n i x y u j) Φ :=
 outK_seg hE (R0_ok hE) [.run 3, (.cond true), .run 4, (.ops [(1, (.d (.ld (.v (.int .i64 (x)))))), (0, (.d (.ix (i))))] []), .run 2, (.cond false), .run 2, (.ops [(0, (.rn (iI (Int.ofNat (i + 1)))))] []), .run 1] [5, 6, 7] (fun j => by kernel_rfl) (aP h0 <| aP h1 <| aP h2 <| aP h3 <| aP h4 <| aP h5 <| aZ)
  ho
def p68e_end (_C : List DT) (_n _i : Nat) (x _y _u : Int) (j : Nat → Value) : St := ⟨[], [(.code .ret), (.inBlock 1), (.code (atC [1, 0, 1, 0, 0, 1, 1, 1] (bodyOf Tryz.f68))), (.inLoop (atC [1, 0, 1, 0, 0] (bodyOf Tryz.f68))), (.inBlock 0), (.code (atC [1, 1] (bodyOf Tryz.f68)))], mkT j [(2, (iI (x)))] 15 0⟩
theorem p68e (hE : EnvOk E) (C : List DT) (n i : Nat) (x y u : Int) (h0 : (decide (Int.ofNat i < Int.ofNat n) : Bool) = true) (h1 : (0 : Int) ≤ Int.ofNat i ∧ Int.ofNat i < (↑n : Int)) (h2 : ((Int.ofNat i).toNat * nat_lit 1 : Nat) = i) (h3 : (getL C i : Option DT) = (.some (.v (.int .i64 (x))))) (h4 : (x != (0 : Int) : Bool) = true) {Φ : Res → Prop} (ho : ∀ j, OutK E 0 0 (p68e_end C n i x y u j) Φ) (j : Nat → Value) : OutK E 0 0 (q68 C n i x y u j) Φ :=
 outK_seg hE (R0_ok hE) [.run 3, (.cond true), .run 4, (.ops [(1, (.d (.ld (.v (.int .i64 (x)))))), (0, (.d (.ix (i))))] []), .run 2, (.cond true), .run 2] [2] (fun j => by kernel_rfl) (aP h0 <| aP h1 <| aP h2 <| aP h3 <| aP h4 <| aZ)
  ho
def p68x_end (_C : List DT) (_n _i : Nat) (_x _y _u : Int) (j : Nat → Value) : St := ⟨[], [(.code .ret)], mkT j [(2, (iI 0))] 15 0⟩
theorem p68x (hE : EnvOk E) (C : List DT) (n i : Nat) (x y u : Int) (h0 : (decide (Int.ofNat i < Int.ofNat n) : Bool) = false) {Φ : Res → Prop} (ho : ∀ j, OutK E 0 0 (p68x_end C n i x y u j) Φ) (j : Nat → Value) : OutK E 0 0 (q68 C n i x y u j) Φ :=
 outK_seg hE (R0_ok hE) [.run 3, (.cond false), .run 3] [2] (fun j => by kernel_rfl) (aP h0 <| aZ)
  ho
def p25s_end (C : List DT) (n i : Nat) (_x _y _u : Int) (j : Nat → Value) : St := ⟨[], [(.code (atC [1, 0, 1, 0, 0] (bodyOf Tryz.f25))), (.inLoop (atC [1, 0, 1, 0, 0] (bodyOf Tryz.f25))), (.inBlock 0), (.code (atC [1, 1] (bodyOf Tryz.f25)))], mkT j [(0, (.e (.one (.dp (.s (C) (n) 1))))), (3, (iI (Int.ofNat (i + 1))))] 19 0⟩
theorem p25s (hE : EnvOk E) (C : List DT) (n i : Nat) (x y u : Int) (h0 : (decide (Int.ofNat i < (↑n : Int)) : Bool) = true) (h1 : (0 : Int) ≤ Int.ofNat i ∧ Int.ofNat i < (↑n : Int)) (h2 : ((Int.ofNat i).toNat * nat_lit 1 : Nat) = i) (h3 : (getL C i : Option DT) = (.some (.v (.int .i64 (x))))) (h4 : (x != (0 : Int) : Bool) = false) (h5 : ((iI (wrapF IntKind.i64 (Int.ofNat i + (1 : Int)))) : AV) = (iI (Int.ofNat (i + 1)))) {Φ : Res → Prop} (ho : ∀ j, OutK E 0 0 (p25s_end C n i x y u j) Φ) (j : Nat → Value) : OutK E 0 0 (q25 C n i x y u j) Φ :=
 outK_seg hE (R0_ok hE) [.run 2, (.ops [(2, (.d .len))] []), (.cond true), .run 4, (.ops [(3, (.d (.ld (.v (.int .i64 (x)))))), (2, (.d (.ix (i))))] []), (.cond false), .run 2, (.ops [(1, (.rn (iI (Int.ofNat (i + 1)))))] []), .run 1] [0, 3] (fun j => by kernel_rfl) (aP h0 <| aP h1 <| aP h2 <| aP h3 <| aP h4 <| aP h5 <| aZ)
  ho
def p25e_end (_C : List DT) (_n _i : Nat) (x _y _u : Int) (j : Nat → Value) : St := ⟨[], [(.code .ret), (.inBlock 1), (.code (atC [1, 0, 1, 0, 0, 1, 1] (bodyOf Tryz.f25))), (.inLoop (atC [1, 0, 1, 0, 0] (bodyOf Tryz.f25))), (.inBlock 0), (.code (atC [1, 1] (bodyOf Tryz.f25)))], mkT j [(2, (iI (x)))] 19 0⟩
theorem p25e (hE : EnvOk E) (C : List DT) (n i : Nat) (x y u : Int) (h0 : (decide (Int.ofNat i < (↑n : Int)) : Bool) = true) (h1 : (0 : Int) ≤ Int.ofNat i ∧ Int.ofNat i < (↑n : Int)) (h2 : ((Int.ofNat i).toNat * nat_lit 1 : Nat) = i) (h3 : (getL C i : Option DT) = (.some (.v (.int .i64 (x))))) (h4 : (x != (0 : Int) : Bool) = true) (h5 : (0 : Int) ≤ Int.ofNat i ∧ Int.ofNat i < (↑n : Int)) (h6 : ((Int.ofNat i).toNat * nat_lit 1 : Nat) = i) (h7 : (getL C i : Option DT) = (.some (.v (.int .i64 (x))))) {Φ : Res → Prop} (ho : ∀ j, OutK E 0 0 (p25e_end C n i x y u j) Φ) (j : Nat → Value) : OutK E 0 0 (q25 C n i x y u j) Φ :=
 outK_seg hE (R0_ok hE) [.run 2, (.ops [(2, (.d .len))] []), (.cond true), .run 4, (.ops [(3, (.d (.ld (.v (.int .i64 (x)))))), (2, (.d (.ix (i))))] []), (.cond true), .run 1, (.ops [(3, (.d (.ld (.v (.int .i64 (x)))))), (2, (.d (.ix (i))))] [])] [2] (fun j => by kernel_rfl) (aP h0 <| aP h1 <| aP h2 <| aP h3 <| aP h4 <| aP h5 <| aP h6 <| aP h7 <| aZ)
  ho
def p25x_end (_C : List DT) (_n _i : Nat) (_x _y _u : Int) (j : Nat → Value) : St := ⟨[], [(.code .ret)], mkT j [(2, (iI 0))] 19 0⟩
theorem p25x (hE : EnvOk E) (C : List DT) (n i : Nat) (x y u : Int) (h0 : (decide (Int.ofNat i < (↑n : Int)) : Bool) = false) {Φ : Res → Prop} (ho : ∀ j, OutK E 0 0 (p25x_end C n i x y u j) Φ) (j : Nat → Value) : OutK E 0 0 (q25 C n i x y u j) Φ :=
 outK_seg hE (R0_ok hE) [.run 2, (.ops [(2, (.d .len))] []), (.cond false), .run 3] [2] (fun j => by kernel_rfl) (aP h0 <| aZ)
  ho
def firstI : List Int → Int
 | [] => 0
 | x :: r => if x = 0 then firstI r else x
def rngI (a b z : Int) : Int := if z < a ∨ b < z then 3 else 0
theorem first0 {l : List Int} (h : firstI l = 0) : ∀ x ∈ l, x = 0 := by
 induction l with
 | nil => intro x hx; cases hx
 | cons a l ih =>
  intro x hx
  simp only [firstI] at h
  by_cases h0 : a = 0
  ·rw [if_pos h0] at h
   rcases List.mem_cons.1 hx with rfl | hx
   ·exact h0
   ·exact ih h x hx
  ·rw [if_neg h0] at h
   exact (h0 h).elim
theorem rng0 {a b z : Int} (h : rngI a b z = 0) : a ≤ z ∧ z ≤ b := by
 unfold rngI at h
 by_cases c : z < a ∨ b < z
 ·rw [if_pos c] at h; omega
 ·omega
theorem l68 (hE : EnvOk E) (xs : List Int) (hm : xs.length ≤ 4000000) :
  ∀ m i, m + i = xs.length → ∀ x j, OutK E 0 0 (q68 (iD xs) xs.length i x 0 0 j) (Go.Ev.Ends E Tryz.f68 (iI (firstI (xs.drop i))) [])
 | 0, i, hk, x, j => by
  have e1 : xs.drop i = [] := List.drop_eq_nil_of_le (by omega)
  rw [e1]
  exact p68x hE _ _ i x 0 0 (decide_eq_false (by simp only [Int.ofNat_eq_natCast]; omega)) (fun j => outK_ret (ends_ret (by kernel_rfl))) j
 | m + 1, i, hk, _, j => by
  have hlt : i < xs.length := by omega
  have hx : xs[i]? = some xs[i] := List.getElem?_eq_getElem hlt
  have e1 : xs.drop i = xs[i] :: xs.drop (i + 1) := List.drop_eq_getElem_cons hlt
  rw [e1]
  generalize xs[i] = x at hx e1
  have hd : decide (Int.ofNat i < Int.ofNat xs.length) = true := decide_eq_true (by simp only [Int.ofNat_eq_natCast]; omega)
  have hb : (0 : Int) ≤ Int.ofNat i ∧ Int.ofNat i < (xs.length : Int) := (by simp only [Int.ofNat_eq_natCast]; omega)
  by_cases h0 : x = 0
  ·have e2 : firstI (x :: xs.drop (i + 1)) = firstI (xs.drop (i + 1)) := by simp [firstI, h0]
   rw [e2]
   exact p68s hE _ _ i x 0 0 hd hb (by simp) (getI hx) (by simp [h0]) (iIn i (by omega)) (l68 hE xs hm m (i + 1) (by omega) 0) j
  ·have e2 : firstI (x :: xs.drop (i + 1)) = x := by simp [firstI, h0]
   rw [e2]
   exact p68e hE _ _ i x 0 0 hd hb (by simp) (getI hx) (by simp [h0]) (fun j => outK_ret (ends_ret (by kernel_rfl))) j
theorem K68 (hE : EnvOk E) (xs : List Int) (hm : xs.length ≤ 4000000) : COut E 0 [] 68 [dI xs] (iI (firstI xs)) [] :=
 cOut_start Tryz.func68 rfl (p68a hE _ _ 0 0 0 0 (l68 hE xs hm xs.length 0 (by omega) 0) fun _ => undef)
theorem l25 (hE : EnvOk E) (xs : List Int) (hm : xs.length ≤ 4000000) :
  ∀ m i, m + i = xs.length → ∀ x j, OutK E 0 0 (q25 (iD xs) xs.length i x 0 0 j) (Go.Ev.Ends E Tryz.f25 (iI (firstI (xs.drop i))) [])
 | 0, i, hk, x, j => by
  have e1 : xs.drop i = [] := List.drop_eq_nil_of_le (by omega)
  rw [e1]
  exact p25x hE _ _ i x 0 0 (decide_eq_false (by simp only [Int.ofNat_eq_natCast]; omega)) (fun j => outK_ret (ends_ret (by kernel_rfl))) j
 | m + 1, i, hk, _, j => by
  have hlt : i < xs.length := by omega
  have hx : xs[i]? = some xs[i] := List.getElem?_eq_getElem hlt
  have e1 : xs.drop i = xs[i] :: xs.drop (i + 1) := List.drop_eq_getElem_cons hlt
  rw [e1]
  generalize xs[i] = x at hx e1
  have hd : decide (Int.ofNat i < (xs.length : Int)) = true := decide_eq_true (by simp only [Int.ofNat_eq_natCast]; omega)
  have hb : (0 : Int) ≤ Int.ofNat i ∧ Int.ofNat i < (xs.length : Int) := (by simp only [Int.ofNat_eq_natCast]; omega)
  by_cases h0 : x = 0
  ·have e2 : firstI (x :: xs.drop (i + 1)) = firstI (xs.drop (i + 1)) := by simp [firstI, h0]
   rw [e2]
   exact p25s hE _ _ i x 0 0 hd hb (by simp) (getI hx) (by simp [h0]) (iIn i (by omega)) (l25 hE xs hm m (i + 1) (by omega) 0) j
  ·have e2 : firstI (x :: xs.drop (i + 1)) = x := by simp [firstI, h0]
   rw [e2]
   exact p25e hE _ _ i x 0 0 hd hb (by simp) (getI hx) (by simp [h0]) hb (by simp) (getI hx) (fun j => outK_ret (ends_ret (by kernel_rfl))) j
theorem K25 (hE : EnvOk E) (xs : List Int) (hm : xs.length ≤ 4000000) : COut E 0 [] 25 [dI xs] (iI (firstI xs)) [] :=
 cOut_start Tryz.func25 rfl (p25a hE _ _ 0 0 0 0 (l25 hE xs hm xs.length 0 (by omega) 0) fun _ => undef)
theorem K75 (hE : EnvOk E) (b : Bool) (e : Int) : COut E 0 [] 75 [iB b, iI e] (iI (if b then e else 0)) [] := by
 cases b with
 | true => exact cOut_start Tryz.func75 rfl (p75t hE 0 0 0 0 0 0 0 0 0 0 0 (e) 0 0 0 0 0 0 true rfl (fun j => outK_ret (ends_ret (by kernel_rfl))) fun _ => undef)
 | false => exact cOut_start Tryz.func75 rfl (p75f hE 0 0 0 0 0 0 0 0 0 0 0 (e) 0 0 0 0 0 0 false rfl (fun j => outK_ret (ends_ret (by kernel_rfl))) fun _ => undef)
theorem K70 (hE : EnvOk E) (b : Bool) (e : Int) : COut E 0 [] 70 [iB b, iI e] (iI (if b then e else 0)) [] := by
 cases b with
 | true => exact cOut_start Tryz.func70 rfl (p70t hE 0 0 0 0 0 0 0 0 0 0 0 (e) 0 0 0 0 0 0 true rfl (fun j => outK_ret (ends_ret (by kernel_rfl))) fun _ => undef)
 | false => exact cOut_start Tryz.func70 rfl (p70f hE 0 0 0 0 0 0 0 0 0 0 0 (e) 0 0 0 0 0 0 false rfl (fun j => outK_ret (ends_ret (by kernel_rfl))) fun _ => undef)
theorem K81 (hE : EnvOk E) (z a b : Int) : COut E 0 [] 81 [iI z, iI a, iI b] (iI (rngI a b z)) [] := by
 by_cases h : z < a
 ·have e : rngI a b z = 3 := by simp [rngI, h]
  have h1 : decide (z < a) = true := decide_eq_true h
  rw [e]
  exact cOut_start Tryz.func81 rfl (p81a hE 0 0 0 0 0 (z) (a) (b) 0 0 0 (3) 0 0 0 0 0 0 false (by rw [h1]; rfl) (by rw [h1]; rfl) (by rw [h1]; rfl) h1 (K70 hE true 3) (fun j => outK_ret (ends_ret (by kernel_rfl))) fun _ => undef)
 ·have h1 : decide (z < a) = false := decide_eq_false h
  have h2 := K70 hE (decide (z > b)) 3
  have e : rngI a b z = if decide (z > b) = true then 3 else 0 := by
   unfold rngI
   by_cases g : b < z
   ·rw [if_pos (.inr g), if_pos (decide_eq_true g)]
   ·rw [if_neg (by omega), if_neg (by simp; omega)]
  rw [e]
  exact cOut_start Tryz.func81 rfl (p81b hE 0 0 0 0 0 (z) (a) (b) 0 0 0 (_) 0 0 0 0 0 0 false (by rw [h1]; rfl) (by rw [h1]; rfl) (by rw [h1]; rfl) h1 h2 (fun j => outK_ret (ends_ret (by kernel_rfl))) fun _ => undef)
theorem K27 (hE : EnvOk E) (z a b : Int) : COut E 0 [] 27 [iI z, iI a, iI b] (iI (rngI a b z)) [] := by
 by_cases h : z < a
 ·have e : rngI a b z = 3 := by simp [rngI, h]
  have h1 : decide (z < a) = true := decide_eq_true h
  rw [e]
  exact cOut_start Tryz.func27 rfl (p27a hE 0 0 0 0 0 (z) (a) (b) 0 0 0 (3) 0 0 0 0 0 0 false (by rw [h1]; rfl) (by rw [h1]; rfl) (by rw [h1]; rfl) h1 (K75 hE true 3) (fun j => outK_ret (ends_ret (by kernel_rfl))) fun _ => undef)
 ·have h1 : decide (z < a) = false := decide_eq_false h
  have h2 := K75 hE (decide (z > b)) 3
  have e : rngI a b z = if decide (z > b) = true then 3 else 0 := by
   unfold rngI
   by_cases g : b < z
   ·rw [if_pos (.inr g), if_pos (decide_eq_true g)]
   ·rw [if_neg (by omega), if_neg (by simp; omega)]
  rw [e]
  exact cOut_start Tryz.func27 rfl (p27b hE 0 0 0 0 0 (z) (a) (b) 0 0 0 (_) 0 0 0 0 0 0 false (by rw [h1]; rfl) (by rw [h1]; rfl) (by rw [h1]; rfl) h1 h2 (fun j => outK_ret (ends_ret (by kernel_rfl))) fun _ => undef)
def offI (o e : Int) : Int := if o < -1000000 ∨ 1000000 < o then e else 0
theorem K99 (hE : EnvOk E) (o e : Int) : COut E 0 [] 99 [iI o, iI e] (iI (offI o e)) [] := by
 by_cases h : o < -1000000
 ·have e' : offI o e = e := by simp [offI, h]
  have h1 : decide (o < (-1000000 : Int)) = true := decide_eq_true h
  rw [e']
  exact cOut_start Tryz.func99 rfl (p99a hE 0 (o) 0 0 0 0 0 0 0 0 (e) (e) 0 0 0 0 0 0 false (by rw [h1]; rfl) (by rw [h1]; rfl) h1 (K70 hE true e) (fun j => outK_ret (ends_ret (by kernel_rfl))) fun _ => undef)
 ·have h1 : decide (o < (-1000000 : Int)) = false := decide_eq_false h
  have h2 := K70 hE (decide (o > 1000000)) e
  have e' : offI o e = if decide (o > 1000000) = true then e else 0 := by
   unfold offI
   by_cases g : 1000000 < o
   ·rw [if_pos (.inr g), if_pos (decide_eq_true g)]
   ·rw [if_neg (by omega), if_neg (by simp; omega)]
  rw [e']
  exact cOut_start Tryz.func99 rfl (p99b hE 0 (o) 0 0 0 0 0 0 0 0 (_) (e) 0 0 0 0 0 0 false (by rw [h1]; rfl) (by rw [h1]; rfl) h1 h2 (fun j => outK_ret (ends_ret (by kernel_rfl))) fun _ => undef)
theorem K100 (hE : EnvOk E) (x : Int) : COut E 0 [] 100 [iI x] (iI (rngI (-1000) 1000 x)) [] := cOut_start Tryz.func100 rfl (p100 hE 0 0 0 0 0 (x) 0 0 0 0 0 (_) 0 0 0 0 0 0 false (K81 hE _ _ _) (fun j => outK_ret (ends_ret (by kernel_rfl))) fun _ => undef)
theorem K101 (hE : EnvOk E) (x : Int) : COut E 0 [] 101 [iI x] (iI (rngI 2 1000 x)) [] := cOut_start Tryz.func101 rfl (p101 hE 0 0 0 0 0 (x) 0 0 0 0 0 (_) 0 0 0 0 0 0 false (K81 hE _ _ _) (fun j => outK_ret (ends_ret (by kernel_rfl))) fun _ => undef)
theorem K102 (hE : EnvOk E) (x : Int) : COut E 0 [] 102 [iI x] (iI (rngI 0 100000000 x)) [] := cOut_start Tryz.func102 rfl (p102 hE 0 0 0 0 0 (x) 0 0 0 0 0 (_) 0 0 0 0 0 0 false (K81 hE _ _ _) (fun j => outK_ret (ends_ret (by kernel_rfl))) fun _ => undef)
abbrev clA (s o l v : Int) : AV := .e (.agg [.v (.int .i64 s), .v (.int .i64 o), .v (.int .i64 l), .v (.int .i64 v)])
def chkC (s o l v : Int) : Int := firstI [rngI 0 100000000 s, rngI (-1000000) 1000000 o, rngI (-1000) 1000 l, rngI 2 1000 v]
def chkT (s o l v t : Int) : Int := firstI [chkC s o l v, rngI 0 100000000 t, if decide (t < s) = true then 11 else 0]
theorem K57 (hE : EnvOk E) (s o l v : Int) : COut E 0 [] 57 [clA s o l v] (iI (chkC s o l v)) [] :=
 cOut_start Tryz.func57 rfl (p57 hE (s) (o) (l) (v) 0 0 0 0 0 0 0 (_) (_) (_) (_) (_) 0 0 false (K102 hE _) (K99 hE o 3) (K100 hE _) (K101 hE _) (lend2 _ hE 68 [rngI 0 100000000 s, rngI (-1000000) 1000000 o, rngI (-1000) 1000 l, rngI 2 1000 v] _ _ _ (K68 hE _ (by simp)) _ 1 rfl) (fun j => outK_ret (ends_ret (by kernel_rfl))) fun _ => undef)
theorem K58 (hE : EnvOk E) (s o l v : Int) : COut E 0 [] 58 [clA s o l v] (iI (chkC s o l v)) [] :=
 cOut_start Tryz.func58 rfl (p58 hE (s) (o) (l) (v) 0 0 0 0 0 0 0 (_) (_) (_) (_) (_) 0 0 false (K27 hE _ _ _) (K27 hE _ _ _) (K27 hE _ _ _) (K27 hE _ _ _) (lend2 _ hE 25 [rngI 0 100000000 s, rngI (-1000000) 1000000 o, rngI (-1000) 1000 l, rngI 2 1000 v] _ _ _ (K25 hE _ (by simp)) _ 1 rfl) (fun j => outK_ret (ends_ret (by kernel_rfl))) fun _ => undef)
theorem chkC0 {s o l v : Int} (h : chkC s o l v = 0) : (0 ≤ s ∧ s ≤ 100000000) ∧ (-1000000 ≤ o ∧ o ≤ 1000000) ∧ (-1000 ≤ l ∧ l ≤ 1000) ∧ 2 ≤ v ∧ v ≤ 1000 := by
 have := first0 h
 exact ⟨rng0 (this _ (by simp)), rng0 (this _ (by simp)), rng0 (this _ (by simp)), rng0 (this _ (by simp))⟩
theorem chkT0 {s o l v t : Int} (h : chkT s o l v t = 0) : chkC s o l v = 0 ∧ (0 ≤ t ∧ t ≤ 100000000) ∧ s ≤ t := by
 have := first0 h
 refine ⟨this _ (by simp), rng0 (this _ (by simp)), ?_⟩
 have h3 := this (if decide (t < s) = true then 11 else 0) (by simp)
 by_cases c : t < s
 ·rw [if_pos (decide_eq_true c)] at h3; omega
 ·omega
def tmC (s o l v t : Int) : Int := if l < 0 then t + o - (if (t - s).tdiv v < -l then (t - s).tdiv v else -l) else t + o + (if (t - s).tdiv v < l then (t - s).tdiv v else l)
theorem wrapS {n : Int} (h0 : -9223372036854775808 ≤ n) (h1 : n ≤ 9223372036854775807) : IntKind.i64.wrap n = n := by
 have := wrap_id h0 h1
 rwa [wrapF_eq] at this
theorem stepsB {s t v : Int} (h : s ≤ t) (hs : 0 ≤ s) (ht : t ≤ 100000000) : 0 ≤ v → 0 ≤ (t - s).tdiv v ∧ (t - s).tdiv v ≤ 100000000 := fun hv => by
 rw [Int.tdiv_eq_ediv_of_nonneg (by omega)]
 have := Int.ediv_le_self v (show 0 ≤ t - s by omega)
 exact ⟨Int.ediv_nonneg (by omega) hv, by omega⟩
theorem K55 (hE : EnvOk E) {s o l v t : Int} (h : chkT s o l v t = 0) : COut E 0 [] 55 [clA s o l v, iI t] (iI (tmC s o l v t)) [] := by
 obtain ⟨hc, ht, hst⟩ := chkT0 h
 obtain ⟨hs, ho, hl, hv⟩ := chkC0 hc
 have hq := stepsB (v := v) hst hs.1 ht.2 (by omega)
 have e1 : wrapF .i64 (t - s) = t - s := wrap_id (by omega) (by omega)
 unfold tmC
 generalize hqq : (t - s).tdiv v = q at hq
 have e2 : wrapF .i64 ((t - s).tdiv v) = q := by rw [hqq]; exact wrap_id (by omega) (by omega)
 by_cases c : l < 0
 ·rw [if_pos c]
  have hm : (if q < -l then q else -l) ≤ 1000 ∧ 0 ≤ (if q < -l then q else -l) := by split <;> omega
  exact cOut_start Tryz.func55 rfl (p55n hE (s) (o) (l) (v) (t) (t + o) (-l) 0 (t - s) (q) (t + o - (if q < -l then q else -l)) 0 0 0 0 0 0 (if q < -l then q else -l) false (iIe e1) (by omega) e2 (decide_eq_true c) (iIe (wrap_id (by omega) (by omega))) (iIe (show _ = -l by rw [Int.zero_sub]; exact wrap_id (by omega) (by omega))) rfl (iIe (wrap_id (by omega) (by omega))) (fun j => outK_ret (ends_ret (by kernel_rfl))) fun _ => undef)
 ·rw [if_neg c]
  have hm : (if q < l then q else l) ≤ 1000 ∧ 0 ≤ (if q < l then q else l) := by split <;> omega
  exact cOut_start Tryz.func55 rfl (p55p hE (s) (o) (l) (v) (t) (t + o) 0 0 (t - s) (q) (t + o + (if q < l then q else l)) 0 0 0 0 0 0 (if q < l then q else l) false (iIe e1) (by omega) e2 (decide_eq_false c) (iIe (wrap_id (by omega) (by omega))) rfl (iIe (wrap_id (by omega) (by omega))) (fun j => outK_ret (ends_ret (by kernel_rfl))) fun _ => undef)
theorem K98 (hE : EnvOk E) {s o l v t : Int} (h : chkT s o l v t = 0) : COut E 0 [] 98 [clA s o l v, iI t] (iI (tmC s o l v t)) [] := by
 obtain ⟨hc, ht, hst⟩ := chkT0 h
 obtain ⟨hs, ho, hl, hv⟩ := chkC0 hc
 have hq := stepsB (v := v) hst hs.1 ht.2 (by omega)
 have e1 : wrapF .i64 (t - s) = t - s := wrap_id (by omega) (by omega)
 generalize hqq : (t - s).tdiv v = q at hq
 have e2 : wrapF .i64 ((t - s).tdiv v) = q := by rw [hqq]; exact wrap_id (by omega) (by omega)
 have hr : t + o + (if q < (if -q > l then -q else l) then q else (if -q > l then -q else l)) = tmC s o l v t := by
  unfold tmC
  rw [hqq]
  repeat' split
  all_goals omega
 have hb : -100000 ≤ tmC s o l v t + 2000000 ∧ tmC s o l v t ≤ 200000000 := by
  rw [← hr]
  repeat' split
  all_goals omega
 exact cOut_start Tryz.func98 rfl (p98 hE (s) (o) (l) (v) (t) (t + o) (-q) (if -q > l then -q else l) (t - s) (q) (tmC s o l v t) 0 0 0 0 0 0 (if q < (if -q > l then -q else l) then q else (if -q > l then -q else l)) false (iIe e1) (by omega) e2 (iIe (wrap_id (by omega) (by omega))) (iIe (show _ = -q by rw [Int.zero_sub]; exact wrapS (by omega) (by omega))) rfl rfl (iIe (by rw [hr]; exact wrap_id (by omega) (by omega))) (fun j => outK_ret (ends_ret (by kernel_rfl))) fun _ => undef)
end
end Go.Proofs.YtkflndifhonbcaaGreatDoor
end

/-! SeCl -/
section
open Go Go.Ev
namespace Go.Proofs.YtkflndifhonbcaaGreatDoor
noncomputable section
set_option maxRecDepth 100000
set_option maxHeartbeats 20000000
end
end Go.Proofs.YtkflndifhonbcaaGreatDoor
end
