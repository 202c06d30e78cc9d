/-
  Short words for the states of an open run, and pieces of it at whose end slots are forgotten.
-/
import Derived.Test.YtgplabfjldndgaaGreatDoorSyE
namespace Go.Ev
open Go.RowKit
noncomputable section

def sub1 (i : Nat) : Code → Code
  | .seq a b => Nat.rec (motive := fun _ => Code) a (fun _ _ => b) i
  | .cond _ a b => Nat.rec (motive := fun _ => Code) a (fun _ _ => b) i
  | .block _ a => a
  | .loop a => a
  | .scope a => a
  | .rangeFunc _ _ a b => Nat.rec (motive := fun _ => Code) a (fun _ _ => b) i
  | c => c
/-- the code at a place -/
def atC (p : List Nat) : Code → Code := List.rec (motive := fun _ => Code → Code) (fun c => c) (fun i _ ih c => ih (sub1 i c)) p
def bodyOf (f : Func) : Code := match f.body with | some c => c | none => .skip

def lookT (l : List (Nat × AV)) (i : Nat) : Option AV := List.rec (motive := fun _ => Option AV) none (fun p _ ih => if Nat.beq p.1 i then some p.2 else ih) l
/-- n slots from i on: some are told, the others hold whatever they like -/
def mkT (j : Nat → Value) (l : List (Nat × AV)) (n : Nat) : Nat → Tm :=
  Nat.rec (motive := fun _ => Nat → Tm) (fun _ => []) (fun _ ih i => (match lookT l i with | some x => x | none => .e (.one (.v (j i)))) :: ih (Nat.succ i)) n

abbrev iI (n : Int) : AV := .e (.one (.v (.int .i64 n)))
abbrev iU (n : Int) : AV := .e (.one (.v (.int .u8 n)))
abbrev iB (b : Bool) : AV := .e (.one (.v (.bool b)))
abbrev nilS : AV := .e (.one (.v (.slice none 0 0)))

variable {E : Env} {rec : RunT} {lvl K : Nat} {r : Res → Prop}

def segV (E : Env) (rec : RunT) (lvl : Nat) (l : List SAns) (ks : List Nat) (j : Nat → Value) (s : St) : Option (St × List Prop) :=
  match chainV E rec lvl l s with
  | some (s1, ps) => some (⟨s1.heap, s1.todo, forgetT ks j s1.tm 0⟩, ps)
  | none => none

theorem outK_seg (hE : EnvOk E) (hrec : RecOk E rec) (l : List SAns) (ks : List Nat) {s : St} {s' : (Nat → Value) → St} {ps : List Prop} (h : ∀ j, segV E rec lvl l ks j s = some (s' j, ps)) (hp : AllP ps) (ho : ∀ j, OutK E lvl K (s' j) r) : OutK E lvl K s r := by
  cases hc : chainV E rec lvl l s with
  | none => have := h (fun _ => undef); simp [segV, hc] at this
  | some p =>
    obtain ⟨⟨h1, t1, tm1⟩, qs⟩ := p
    have hq : qs = ps := by have := h (fun _ => undef); simp [segV, hc] at this; exact this.2
    subst hq
    refine outK_chain hE hrec l hc hp (outK_forget ks fun j => ?_)
    have := h j
    simp only [segV, hc, Option.some.injEq, Prod.mk.injEq] at this
    rw [this.1]
    exact ho j

/-- the first state of a call -/
def startK (f : Func) (hin : Heap) (args : List AV) : St := ⟨hin, [.code (bodyOf f)], appL args (List.replicate (f.ntmps - lenL args) (.tup []))⟩

theorem cOut_start {f : FuncId} {fn : Func} (hf : E.P.funcs[f]? = some fn) (hb : fn.body.isSome = true) {hin hout : Heap} {args : List AV} {v : AV} (ho : OutK E lvl (lenL hin) (startK fn hin args) (Ends E fn v hout)) : COut E lvl hin f args v hout := by
  cases hc : fn.body with
  | none => rw [hc] at hb; simp at hb
  | some c =>
    have e : bodyOf fn = c := by simp [bodyOf, hc]
    rw [lenL_eq] at ho
    unfold startK at ho
    rw [e] at ho
    exact cOut_of hf hc ho

/-- names, turned; some slots are given as they are -/
def renO (f : Nat → Nat) (os : List (Nat × AV)) (tm : Tm) : Nat → Tm :=
  List.rec (motive := fun _ => Nat → Tm) (fun _ => []) (fun x _ ih i => (match lookT os i with | some y => y | none => x.ren f) :: ih (Nat.succ i)) tm
def fixO (f : Nat → Nat) (os : List (Nat × AV)) : Prop := AllP (os.map fun p => p.2.ren f = p.2)
def fixP (f : Nat → Nat) : List Bool → Heap → Prop
  | true :: fs, b :: r => b.map (AB.ren f) = b ∧ fixP f fs r
  | false :: fs, _ :: r => fixP f fs r
  | _, _ => True

theorem lookT_mem : ∀ {os : List (Nat × AV)} {i : Nat} {x : AV}, lookT os i = some x → (i, x) ∈ os
  | [], _, _, h => by simp [lookT] at h
  | p :: os, i, x, h => by
    have h' : (if Nat.beq p.1 i then some p.2 else lookT os i) = some x := h
    split at h'
    · rename_i he
      have he := Nat.eq_of_beq_eq_true he
      simp only [Option.some.injEq] at h'
      subst h' he
      exact List.mem_cons_self ..
    · exact List.mem_cons_of_mem _ (lookT_mem h')
theorem allP_mem : ∀ {l : List Prop}, AllP l → ∀ p ∈ l, p
  | [], _, p, h => by simp at h
  | q :: l, hq, p, h => by
    rcases List.mem_cons.1 h with rfl | h
    · exact hq.1
    · exact allP_mem hq.2 p h
theorem renO_eq (f : Nat → Nat) {os : List (Nat × AV)} (h3 : fixO f os) : ∀ (tm : Tm) (i : Nat), (∀ k x, lookT os (i + k) = some x → ∀ y, tm[k]? = some y → y = x) → renO f os tm i = tm.map (AV.ren f)
  | [], _, _ => rfl
  | y :: tm, i, h => by
    show (match lookT os i with | some y => y | none => y.ren f) :: renO f os tm (i + 1) = y.ren f :: tm.map (AV.ren f)
    have hr := renO_eq f h3 tm (i + 1) (fun k x hx z hz => h (k + 1) x (by rwa [show i + (k + 1) = i + 1 + k by omega]) z (by simpa using hz))
    rw [hr]
    congr 1
    split
    · rename_i x hx
      have e := h 0 x (by simpa using hx) y rfl
      subst e
      exact (allP_mem h3 _ (List.mem_map.2 ⟨_, lookT_mem hx, rfl⟩)).symm
    · rfl
theorem renFl_fix (f : Nat → Nat) : ∀ {fl : List Bool} {h : Heap}, fl.length = h.length → fixP f fl h → renFl f fl h = h.map (fun b => some (b.map (AB.ren f)))
  | [], [], _, _ => rfl
  | true :: fs, b :: r, hl, hf => by
    simp only [renFl, List.map_cons]
    rw [renFl_fix f (by simpa using hl) hf.2, hf.1]
  | false :: fs, b :: r, hl, hf => by
    simp only [renFl, List.map_cons]
    rw [renFl_fix f (fl := fs) (h := r) (by simpa using hl) hf]
  | [], _ :: _, hl, _ => by simp at hl
  | _ :: _, [], hl, _ => by simp at hl

theorem OpqC.ren {K : Nat} {x : AC} (h : OpqC K x) {f : Nat → Nat} (hf : ∀ b, b < K → f b = b) : x.ren f = x := by
  cases x with
  | v _ => rfl
  | ptr b o => simp only [AC.ren]; rw [hf b (h b (by simp [AC.refs]))]
  | slc b o len sz cap ex => simp only [AC.ren]; rw [hf b (h b (by simp [AC.refs]))]
  | yld b => simp only [AC.ren]; rw [hf b (h b (by simp [AC.refs]))]
  | mp b => simp only [AC.ren]; rw [hf b (h b (by simp [AC.refs]))]
  | dp _ => rfl
  | any _ => rfl
  | clo g fs cs =>
    simp only [AC.ren]
    rw [CE.ren_fix fun b hb => hf b (h b (List.mem_append_left _ hb)), CE.ren_fix fun b hb => hf b (h b (List.mem_append_right _ hb))]

theorem flat_fix {cells : List AC} {n : Nat} {ty : TypeId} {fl : Bool} {x : AX} (h : FlatC cells) (f : Nat → Nat) : (some (AB.mk cells n ty fl x)).map (AB.ren f) = some (AB.mk cells n ty fl x) := by
  simp only [Option.map_some, AB.ren]
  rw [flat_ren h]

theorem selOk_fix {e : List Nat} {L K L' : Nat} {h' : Heap} (hok : selOk e L K L' h' = true) : ∀ b, b < K → nthE e L (lenL e) b = b := fun b hb => by
  simp only [selOk, Bool.and_eq_true, List.all_eq_true, Nat.blt_eq, Nat.ble_eq] at hok
  obtain ⟨⟨⟨⟨⟨⟨c1, c2⟩, c3⟩, c4⟩, c5⟩, c6⟩, c7⟩ := hok
  have h := Nat.eq_of_beq_eq_true (c6 b (by simpa using hb))
  simp only [nthE]
  rw [if_pos (by omega), h]

/-- As outK_gcF; some slots, and some blocks, hold what leads to the first blocks alone. -/
theorem outK_gcO (e : List Nat) (fl : List Bool) (os : List (Nat × AV)) {h h' : Heap} {todo : List Item} {tm tm' : Tm} (hlK : lvl ≤ K) (hok : (selOk e (lenL h) K (lenL h') h' && Nat.beq (lenL fl) (lenL h')) = true)
    (h2 : e.map (getL h) = renFl (nthE e (lenL h) (lenL e)) fl h') (hf : (∀ b, b < K → nthE e (lenL h) (lenL e) b = b) → fixP (nthE e (lenL h) (lenL e)) fl h') (h1 : renO (nthE e (lenL h) (lenL e)) os tm' 0 = tm)
    (h4 : os.map (fun p => getL tm' p.1) = os.map (fun p => some p.2)) (h3 : (∀ b, b < K → nthE e (lenL h) (lenL e) b = b) → fixO (nthE e (lenL h) (lenL e)) os) (ho : OutK E lvl K ⟨h', todo, tm'⟩ r) : OutK E lvl K ⟨h, todo, tm⟩ r := by
  rw [Bool.and_eq_true] at hok
  have hl := Nat.eq_of_beq_eq_true hok.2
  rw [lenL_eq, lenL_eq] at hl
  have hfx := selOk_fix hok.1
  rw [renFl_fix _ hl (hf hfx)] at h2
  rw [renO_eq _ (h3 hfx) tm' 0 (fun k x hx y hy => by
    rw [Nat.zero_add] at hx
    have hm := lookT_mem hx
    have : getL tm' k = some x := by
      have := List.map_inj_left.1 h4 _ hm
      exact this
    rw [getL_eq, hy] at this
    exact Option.some.inj this)] at h1
  exact outK_gc e hlK hok.1 h2 h1 ho

theorem ends_ret {fn : Func} {tm : Tm} {h : Heap} {v : AV} (hv : resultsA E fn tm h = some v) : Ends E fn v h ⟨.ret, tm, h, []⟩ := ⟨rfl, rfl, rfl, hv⟩
theorem ends_fell {fn : Func} {tm : Tm} {h : Heap} {v : AV} (hv : resultsA E fn tm h = some v) : Ends E fn v h ⟨.fell, tm, h, []⟩ := ⟨rfl, rfl, rfl, hv⟩

end
end Go.Ev
