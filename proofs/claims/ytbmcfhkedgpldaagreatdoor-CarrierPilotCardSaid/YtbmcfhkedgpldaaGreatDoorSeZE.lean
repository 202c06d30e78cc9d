/-
  Part of the proof: SyF, EvQ, SyG, SyP, SeEnv, SeH, SeA, SeB, SeLem, SyK, SyArg, SyList, SyRd, FlA, FlB, FlC, SeFl, SeFa.
-/
import Derived.Test.YtbmcfhkedgpldaaGreatDoorSeZD
import Derived.ChangeArms
import Derived.KernelRfl
import Derived.Laws.Bits64
import Derived.Laws.Externs
import Derived.OpenShut
import Derived.Test.YtbmcfhkedgpldaaGreatDoorProg
import Derived.WideShapes
import Ieee.Arith

/-! SyF -/
section
namespace Go.Ev
open Go.RowKit
noncomputable section
def sub1 (i : Nat) : Code → Code
 | .seq a b => Nat.rec (motive := fun _ => Code) a (fun _ _ => b) i
 | .cond _ a b => Nat.rec (motive := fun _ => Code) a (fun _ _ => b) i
 | .block _ a => a
 | .loop a => a
 | .scope a => a
 | .rangeFunc _ _ a b => Nat.rec (motive := fun _ => Code) a (fun _ _ => b) i
 | c => c
def atC (p : List Nat) : Code → Code := List.rec (motive := fun _ => Code → Code) (fun c => c) (fun i _ ih c => ih (sub1 i c)) p
def bodyOf (f : Func) : Code := match f.body with | some c => c | none => .skip
def lookT (l : List (Nat × AV)) (i : Nat) : Option AV := List.rec (motive := fun _ => Option AV) none (fun p _ ih => if Nat.beq p.1 i then some p.2 else ih) l
def mkT (j : Nat → Value) (l : List (Nat × AV)) (n : Nat) : Nat → Tm :=
 Nat.rec (motive := fun _ => Nat → Tm) (fun _ => []) (fun _ ih i => (match lookT l i with | some x => x | none => .e (.one (.v (j i)))) :: ih (Nat.succ i)) n
abbrev iI (n : Int) : AV := .e (.one (.v (.int .i64 n)))
abbrev iB (b : Bool) : AV := .e (.one (.v (.bool b)))
variable {E : Env} {rec : RunT} {lvl K : Nat} {r : Res → Prop} {rd : Option Nat}
def segV (E : Env) (rec : RunT) (lvl : Nat) (l : List SAns) (ks : List Nat) (j : Nat → Value) (s : St) : Option (St × List Prop) :=
 match chainV E rec lvl l s with
 | some (s1, ps) => some (⟨s1.heap, s1.todo, forgetT ks j s1.tm 0⟩, ps)
 | none => none
theorem outK_seg (hE : EnvOk E) (hrec : RecOk E rec) (l : List SAns) (ks : List Nat) {s : St} {s' : (Nat → Value) → St} {ps : List Prop} (h : ∀ j, segV E rec lvl l ks j s = some (s' j, ps)) (hp : AllP ps) (ho : ∀ j, OutK E lvl K (s' j) r rd) : OutK E lvl K s r rd := by
 cases hc : chainV E rec lvl l s with
 | none => have := h (fun _ => undef); simp [segV, hc] at this
 | some p =>
  obtain ⟨⟨h1, t1, tm1⟩, qs⟩ := p
  have hq : qs = ps := by have := h (fun _ => undef); simp [segV, hc] at this; exact this.2
  subst hq
  refine outK_chain hE hrec l hc hp (outK_forget ks fun j => ?_)
  have := h j
  simp only [segV, hc, Option.some.injEq, Prod.mk.injEq] at this
  rw [this.1]
  exact ho j
def startK (f : Func) (hin : Heap) (args : List AV) : St := ⟨hin, [.code (bodyOf f)], appL args (List.replicate (f.ntmps - lenL args) (.tup []))⟩
theorem cOut_start {f : FuncId} {fn : Func} (hf : E.P.funcs[f]? = some fn) (hb : fn.body.isSome = true) {hin hout : Heap} {args : List AV} {v : AV} (ho : OutK E lvl (lenL hin) (startK fn hin args) (Ends E fn v hout)) : COut E lvl hin f args v hout := by
 cases hc : fn.body with
 | none => rw [hc] at hb; simp at hb
 | some c =>
  have e : bodyOf fn = c := by simp [bodyOf, hc]
  rw [lenL_eq] at ho
  unfold startK at ho
  rw [e] at ho
  exact cOut_of hf hc ho
theorem OpqC.ren {K : Nat} {x : AC} (h : OpqC K x) {f : Nat → Nat} (hf : ∀ b, b < K → f b = b) : x.ren f = x := by
 cases x with
 | v _ => rfl
 | ptr b o => simp only [AC.ren]; rw [hf b (h b (by simp [AC.refs]))]
 | slc b o len sz cap ex => simp only [AC.ren]; rw [hf b (h b (by simp [AC.refs]))]
 | yld b => simp only [AC.ren]; rw [hf b (h b (by simp [AC.refs]))]
 | mp b => simp only [AC.ren]; rw [hf b (h b (by simp [AC.refs]))]
 | dp _ => rfl
 | any _ => rfl
 | clo g fs cs =>
  simp only [AC.ren]
  rw [CE.ren_fix fun b hb => hf b (h b (List.mem_append_left _ hb)), CE.ren_fix fun b hb => hf b (h b (List.mem_append_right _ hb))]
theorem ends_ret {fn : Func} {tm : Tm} {h : Heap} {v : AV} (hv : resultsA E fn tm h = some v) : Ends E fn v h ⟨.ret, tm, h, []⟩ := ⟨rfl, rfl, rfl, hv⟩
end
end Go.Ev
end

/-! EvQ -/
section
namespace Go.Ev
open Go.RowKit
noncomputable section
def posL (l : List Nat) (j : Nat) : Nat := List.rec (motive := fun _ => Nat) 0 (fun a _ ih => if Nat.beq a j then 0 else Nat.succ ih) l
structure VirtOk (π : List Nat) (ops : Array Oper) : Prop where
 len : π.length = ops.size
 back : ∀ k, k < ops.size → posL π (getD0 π k) = k ∧ getD0 π k < ops.size
 forth : ∀ j, j < ops.size → getD0 π (posL π j) = j ∧ posL π j < ops.size
 free : ∀ (i : Nat) (o : Oper), ops[i]? = some o → o.guard = none ∧ ∀ e ∈ o.after, bindsB e = true → e.on < i
end
end Go.Ev
end

/-! SyG -/
section
namespace Go.Ev
open Go.RowKit
noncomputable section
variable {E : Env} {rec : RunT} {lvl K : Nat} {r : Res → Prop}
end
end Go.Ev
end

/-! SyP -/
section
namespace Go.Ev
open Go.RowKit
noncomputable section
variable {E : Env} {rec : RunT} {lvl K : Nat} {r : Res → Prop} {rd : Option Nat}
end
end Go.Ev
end

/-! SeEnv -/
section
open Go Go.Ev
namespace Go.Proofs.YtbmcfhkedgpldaaGreatDoor
noncomputable section
def tabTurns : List Value := [.int .i64 1, .int .i64 0, .int .i64 0, .int .i64 1, .int .i64 (-1), .int .i64 0, .int .i64 0, .int .i64 (-1)]
def tabPairs : List Value := [.int .i64 0, .int .i64 1, .int .i64 3, .int .i64 2]
def tabPow : List Value := (List.range 20).map fun i => Value.int .u64 (Int.ofNat (10 ^ i))
def writers : FuncId → Bool := fun f => [112, 147, 122, 133, 120, 155, 135, 195].contains f
def hooks : FuncId → Hook := fun f => if f = 162 then .copyCheck else .none
def E : Env := Env.mk Tryz.prog [(0, tabTurns), (1, tabPairs), (4, tabPow)] writers hooks 194
end
end Go.Proofs.YtbmcfhkedgpldaaGreatDoor
end

/-! SeH -/
section
open Go Go.Ev
namespace Go.Proofs.YtbmcfhkedgpldaaGreatDoor
noncomputable section
def R0 : RunT := rec0
theorem R0_ok {E : Env} (_ : EnvOk E) : RecOk E R0 := rec0_ok E
def R4 : RunT := run E 4000
theorem R4_ok (hE : EnvOk E) : RecOk E R4 := run_sound hE 4000
theorem wrap_id {n : Int} (h0 : -9223372036854775808 ≤ n) (h1 : n ≤ 9223372036854775807) : wrapF .i64 n = n := by
 rw [wrapF_eq]
 exact IntWalk.i64_in n (by omega)
theorem aP {p : Prop} {l : List Prop} (h : p) (t : AllP l) : AllP (p :: l) := ⟨h, t⟩
theorem aN {l : List Prop} (t : AllP l) : AllP ((([] : List Nat) = []) :: l) := ⟨rfl, t⟩
theorem aZ : AllP [] := trivial
theorem iI_eq {a b : Int} (h : a = b) : AV.of (Value.int IntKind.i64 a) = iI b := by rw [h]; rfl
end
end Go.Proofs.YtbmcfhkedgpldaaGreatDoor
end

/-! SeA -/
section
open Go Go.Ev
namespace Go.Proofs.YtbmcfhkedgpldaaGreatDoor
noncomputable section
set_option maxRecDepth 100000
def st104 (C : List AC) (N ty o n cap : Nat) (fl ex : Bool) (_ : Nat → Value) : St := startK Tryz.f81 [some ⟨C, N, ty, fl, .cells⟩] [.e (.one (.slc 0 o n 1 cap ex))]
def h104 (C : List AC) (N ty o n cap : Nat) (fl ex : Bool) (k : Nat) (j : Nat → Value) : St := ⟨[(.some ⟨(C), (N), (ty), (fl), .cells⟩)], [(.code (atC [1, 0, 1, 0, 0] (bodyOf Tryz.f81))), (.inLoop (atC [1, 0, 1, 0, 0] (bodyOf Tryz.f81))), (.inBlock 0), (.code (atC [1, 1] (bodyOf Tryz.f81)))], mkT j [(0, (.e (.one (.slc 0 (o) (n) 1 (cap) (ex))))), (3, (iI k))] 19 0⟩
def h104' (C : List AC) (N ty o n cap : Nat) (fl ex : Bool) (k : Nat) (_x : Int) (j : Nat → Value) : St := h104 C N ty o n cap fl ex k j
def c104a_end (C : List AC) (N : Nat) (ty : Nat) (o : Nat) (n : Nat) (cap : Nat) (fl : Bool) (ex : Bool) (j : Nat → Value) : St := ⟨[(.some ⟨(C), (N), (ty), (fl), .cells⟩)], [(.code (atC [1, 0, 1, 0, 0] (bodyOf Tryz.f81))), (.inLoop (atC [1, 0, 1, 0, 0] (bodyOf Tryz.f81))), (.inBlock 0), (.code (atC [1, 1] (bodyOf Tryz.f81)))], mkT j [(0, (.e (.one (.slc 0 (o) (n) 1 (cap) (ex))))), (3, (iI 0))] 19 0⟩
theorem c104a (hE : EnvOk E) (C : List AC) (N : Nat) (ty : Nat) (o : Nat) (n : Nat) (cap : Nat) (fl : Bool) (ex : Bool)  {Φ : Res → Prop} (ho : ∀ j, OutK E 1 1 (c104a_end C N ty o n cap fl ex j) Φ) (j : Nat → Value) : OutK E 1 1 (st104 C N ty o n cap fl ex j) Φ :=
 outK_seg hE (Go.Proofs.YtbmcfhkedgpldaaGreatDoor.R0_ok hE) [.run 7] [0, 3] (ps := []) (fun j => by kernel_rfl) trivial
  ho
def c104e_end (C : List AC) (N : Nat) (ty : Nat) (_o : Nat) (_n : Nat) (_cap : Nat) (fl : Bool) (_ex : Bool) (_k : Nat) (j : Nat → Value) : St := ⟨[(.some ⟨(C), (N), (ty), (fl), .cells⟩)], [(.code .ret)], mkT j [(2, (iI 0))] 19 0⟩
theorem c104e (hE : EnvOk E) (C : List AC) (N : Nat) (ty : Nat) (o : Nat) (n : Nat) (cap : Nat) (fl : Bool) (ex : Bool) (k : Nat) (h0 : decide (Int.ofNat k < ↑n) = false) {Φ : Res → Prop} (ho : ∀ j, OutK E 1 1 (c104e_end C N ty o n cap fl ex k j) Φ) (j : Nat → Value) : OutK E 1 1 (h104 C N ty o n cap fl ex k j) Φ :=
 outK_seg hE (Go.Proofs.YtbmcfhkedgpldaaGreatDoor.R0_ok hE) [.run 3, (.cond false), .run 3] [2] (fun j => by kernel_rfl) (aP h0 <| aZ)
  ho
def c104f_end (C : List AC) (N : Nat) (ty : Nat) (o : Nat) (n : Nat) (cap : Nat) (fl : Bool) (ex : Bool) (k : Nat) (_x : Int) (j : Nat → Value) : St := ⟨[(.some ⟨(C), (N), (ty), (fl), .cells⟩)], [(.code (atC [1, 0, 1, 0, 0] (bodyOf Tryz.f81))), (.inLoop (atC [1, 0, 1, 0, 0] (bodyOf Tryz.f81))), (.inBlock 0), (.code (atC [1, 1] (bodyOf Tryz.f81)))], mkT j [(0, (.e (.one (.slc 0 (o) (n) 1 (cap) (ex))))), (3, (iI (Int.ofNat (k + 1))))] 19 0⟩
theorem c104f (hE : EnvOk E) (C : List AC) (N : Nat) (ty : Nat) (o : Nat) (n : Nat) (cap : Nat) (fl : Bool) (ex : Bool) (k : Nat) (x : Int) (h0 : decide (Int.ofNat k < ↑n) = true) (h1 : 0 ≤ Int.ofNat k ∧ Int.ofNat k < ↑n) (h2 : o + (Int.ofNat k).toNat * 1 = o + k) (h3 : getL C (o + k) = some (AC.v (Value.int IntKind.i64 x))) (h4 : (x != 0) = false) (h5 : AV.of (Value.int IntKind.i64 (wrapF IntKind.i64 (Int.ofNat k + 1))) = iI ↑(k + 1)) {Φ : Res → Prop} (ho : ∀ j, OutK E 1 1 (c104f_end C N ty o n cap fl ex k x j) Φ) (j : Nat → Value) : OutK E 1 1 (h104' C N ty o n cap fl ex k x j) Φ :=
 outK_seg hE (Go.Proofs.YtbmcfhkedgpldaaGreatDoor.R0_ok hE) [.run 3, (.cond true), .run 4, (.ops [(2, (.ix (o + k))), (3, (.ld (.v (.int .i64 (x)))))] []), (.cond false), .run 2, (.ops [(1, (.rn (iI (Int.ofNat (k + 1)))))] []), .run 1] [0, 3] (fun j => by kernel_rfl) (aP h0 <| aP h1 <| aP h2 <| aP h3 <| aP h4 <| aP h5 <| aZ)
  ho
def c104t_end (C : List AC) (N : Nat) (ty : Nat) (_o : Nat) (_n : Nat) (_cap : Nat) (fl : Bool) (_ex : Bool) (_k : Nat) (x : Int) (j : Nat → Value) : St := ⟨[(.some ⟨(C), (N), (ty), (fl), .cells⟩)], [(.code .ret), (.inBlock 1), (.code (atC [1, 0, 1, 0, 0, 1, 1] (bodyOf Tryz.f81))), (.inLoop (atC [1, 0, 1, 0, 0] (bodyOf Tryz.f81))), (.inBlock 0), (.code (atC [1, 1] (bodyOf Tryz.f81)))], mkT j [(2, (iI (x)))] 19 0⟩
theorem c104t (hE : EnvOk E) (C : List AC) (N : Nat) (ty : Nat) (o : Nat) (n : Nat) (cap : Nat) (fl : Bool) (ex : Bool) (k : Nat) (x : Int) (h0 : decide (Int.ofNat k < ↑n) = true) (h1 : 0 ≤ Int.ofNat k ∧ Int.ofNat k < ↑n) (h2 : o + (Int.ofNat k).toNat * 1 = o + k) (h3 : getL C (o + k) = some (AC.v (Value.int IntKind.i64 x))) (h4 : (x != 0) = true) (h5 : 0 ≤ Int.ofNat k ∧ Int.ofNat k < ↑n) (h6 : o + (Int.ofNat k).toNat * 1 = o + k) (h7 : getL C (o + k) = some (AC.v (Value.int IntKind.i64 x))) {Φ : Res → Prop} (ho : ∀ j, OutK E 1 1 (c104t_end C N ty o n cap fl ex k x j) Φ) (j : Nat → Value) : OutK E 1 1 (h104' C N ty o n cap fl ex k x j) Φ :=
 outK_seg hE (Go.Proofs.YtbmcfhkedgpldaaGreatDoor.R0_ok hE) [.run 3, (.cond true), .run 4, (.ops [(2, (.ix (o + k))), (3, (.ld (.v (.int .i64 (x)))))] []), (.cond true), .run 1, (.ops [(2, (.ix (o + k))), (3, (.ld (.v (.int .i64 (x)))))] [])] [2] (fun j => by kernel_rfl) (aP h0 <| aP h1 <| aP h2 <| aP h3 <| aP h4 <| aP h5 <| aP h6 <| aP h7 <| aZ)
  ho
def firstI : List Int → Int
 | [] => 0
 | x :: l => if x = 0 then firstI l else x
theorem l104 (hE : EnvOk E) {C : List AC} {N ty o n cap : Nat} {fl ex : Bool} (xs : List Int) (hn : xs.length = n) (hm : n ≤ 4000000) (hC : ∀ k x, xs[k]? = some x → getL C (o + k) = some (.v (.int .i64 x))) :
  ∀ m k, m + k = n → ∀ j, OutK E 1 1 (h104 C N ty o n cap fl ex k j) (Go.Ev.Ends E Tryz.f81 (iI (firstI (xs.drop k))) [some ⟨C, N, ty, fl, .cells⟩])
 | 0, k, hk, j => by
  have e : xs.drop k = [] := List.drop_eq_nil_of_le (by omega)
  rw [e]
  refine c104e hE _ _ _ _ _ _ _ _ _ (decide_eq_false (by simp only [Int.ofNat_eq_natCast]; omega)) (fun j => outK_ret (ends_ret ?_)) j
  kernel_rfl
 | m + 1, k, hk, j => by
  have hlt : k < xs.length := by omega
  have hx : xs[k]? = some xs[k] := List.getElem?_eq_getElem hlt
  have e : xs.drop k = xs[k] :: xs.drop (k + 1) := List.drop_eq_getElem_cons hlt
  rw [e]
  generalize xs[k] = x at hx e
  have hd : decide (Int.ofNat k < ↑n) = true := decide_eq_true (by simp only [Int.ofNat_eq_natCast]; omega)
  have hb : 0 ≤ Int.ofNat k ∧ Int.ofNat k < ↑n := by simp only [Int.ofNat_eq_natCast]; omega
  have ho : o + (Int.ofNat k).toNat * 1 = o + k := by simp
  by_cases h0 : x = 0
  ·subst h0
   exact c104f hE _ _ _ _ _ _ _ _ _ 0 hd hb ho (hC k 0 hx) rfl (iI_eq (by rw [wrap_id (by simp only [Int.ofNat_eq_natCast]; omega) (by simp only [Int.ofNat_eq_natCast]; omega)]; simp)) (l104 hE xs hn hm hC m (k + 1) (by omega)) j
  ·have e1 : firstI (x :: xs.drop (k + 1)) = x := by simp [firstI, h0]
   rw [e1]
   refine c104t hE _ _ _ _ _ _ _ _ _ x hd hb ho (hC k x hx) (by simpa using h0) hb ho (hC k x hx) (fun j => outK_ret (ends_ret ?_)) j
   kernel_rfl
theorem k104 (hE : EnvOk E) {C : List AC} {N ty o n cap : Nat} {fl ex : Bool} (xs : List Int) (hn : xs.length = n) (hm : n ≤ 4000000) (hC : ∀ k x, xs[k]? = some x → getL C (o + k) = some (.v (.int .i64 x))) :
  COut E 1 [some ⟨C, N, ty, fl, .cells⟩] 81 [.e (.one (.slc 0 o n 1 cap ex))] (iI (firstI xs)) [some ⟨C, N, ty, fl, .cells⟩] :=
 cOut_start Tryz.func81 rfl (c104a hE _ _ _ _ _ _ _ _ (l104 hE xs hn hm hC n 0 (by omega)) fun _ => undef)
end
end Go.Proofs.YtbmcfhkedgpldaaGreatDoor
end

/-! SeB -/
section
open Go Go.Ev
namespace Go.Proofs.YtbmcfhkedgpldaaGreatDoor
noncomputable section
set_option maxRecDepth 100000
--DEFS
def st60 (b : Bool) (e : Int) (_j : Nat → Value) : St := startK Tryz.f82 [] [iB b, iI e]
def st107 (b : Bool) (e : Int) (_j : Nat → Value) : St := startK Tryz.f85 [] [iB b, iI e]
def st102 (C : List AC) (N ty o n cap : Nat) (fl ex : Bool) (_j : Nat → Value) : St := startK Tryz.f79 [some ⟨C, N, ty, fl, .cells⟩] [.e (.one (.slc 0 o n 1 cap ex))]
def h102 (C : List AC) (N ty o n cap : Nat) (fl ex : Bool) (k : Nat) (j : Nat → Value) : St := ⟨[(.some ⟨C, N, ty, fl, .cells⟩)], [(.code (atC [1, 0, 1, 0, 0] (bodyOf Tryz.f79))), (.inLoop (atC [1, 0, 1, 0, 0] (bodyOf Tryz.f79))), (.inBlock 0), (.code (atC [1, 1] (bodyOf Tryz.f79)))], mkT j [(5, (.e (.one (.slc 0 o n 1 cap ex)))), (6, iI n), (7, iI k)] 15 0⟩
def h102' (C : List AC) (N ty o n cap : Nat) (fl ex : Bool) (k : Nat) (_x : Int) (j : Nat → Value) : St := h102 C N ty o n cap fl ex k j
def c60t_end (_b : Bool) (e : Int) (j : Nat → Value) : St := ⟨[], [(.code .ret), (.code (atC [1, 1] (bodyOf Tryz.f82)))], mkT j [(4, (iI (e)))] 7 0⟩
theorem c60t (hE : EnvOk E) (b : Bool) (e : Int) (h0 : b = true) {Φ : Res → Prop} (ho : ∀ j, OutK E 0 0 (c60t_end b e j) Φ) (j : Nat → Value) : OutK E 0 0 (st60 b e j) Φ :=
 outK_seg hE (Go.Proofs.YtbmcfhkedgpldaaGreatDoor.R0_ok hE) [.run 5, (.cond true), .run 2] [4] (fun j => by kernel_rfl) (aP h0 <| aZ)
  ho
def c60f_end (_b : Bool) (_e : Int) (j : Nat → Value) : St := ⟨[], [(.code .ret)], mkT j [(4, (iI 0))] 7 0⟩
theorem c60f (hE : EnvOk E) (b : Bool) (e : Int) (h0 : b = false) {Φ : Res → Prop} (ho : ∀ j, OutK E 0 0 (c60f_end b e j) Φ) (j : Nat → Value) : OutK E 0 0 (st60 b e j) Φ :=
 outK_seg hE (Go.Proofs.YtbmcfhkedgpldaaGreatDoor.R0_ok hE) [.run 5, (.cond false), .run 3] [4] (fun j => by kernel_rfl) (aP h0 <| aZ)
  ho
def c107t_end (_b : Bool) (e : Int) (j : Nat → Value) : St := ⟨[], [(.code .ret), (.code (atC [1, 1] (bodyOf Tryz.f85)))], mkT j [(4, (iI (e)))] 7 0⟩
theorem c107t (hE : EnvOk E) (b : Bool) (e : Int) (h0 : b = true) {Φ : Res → Prop} (ho : ∀ j, OutK E 0 0 (c107t_end b e j) Φ) (j : Nat → Value) : OutK E 0 0 (st107 b e j) Φ :=
 outK_seg hE (Go.Proofs.YtbmcfhkedgpldaaGreatDoor.R0_ok hE) [.run 5, (.cond true), .run 2] [4] (fun j => by kernel_rfl) (aP h0 <| aZ)
  ho
def c107f_end (_b : Bool) (_e : Int) (j : Nat → Value) : St := ⟨[], [(.code .ret)], mkT j [(4, (iI 0))] 7 0⟩
theorem c107f (hE : EnvOk E) (b : Bool) (e : Int) (h0 : b = false) {Φ : Res → Prop} (ho : ∀ j, OutK E 0 0 (c107f_end b e j) Φ) (j : Nat → Value) : OutK E 0 0 (st107 b e j) Φ :=
 outK_seg hE (Go.Proofs.YtbmcfhkedgpldaaGreatDoor.R0_ok hE) [.run 5, (.cond false), .run 3] [4] (fun j => by kernel_rfl) (aP h0 <| aZ)
  ho
def c102a_end (C : List AC) (N : Nat) (ty : Nat) (o : Nat) (n : Nat) (cap : Nat) (fl : Bool) (ex : Bool) (j : Nat → Value) : St := ⟨[(.some ⟨(C), (N), (ty), (fl), .cells⟩)], [(.code (atC [1, 0, 1, 0, 0] (bodyOf Tryz.f79))), (.inLoop (atC [1, 0, 1, 0, 0] (bodyOf Tryz.f79))), (.inBlock 0), (.code (atC [1, 1] (bodyOf Tryz.f79)))], mkT j [(5, (.e (.one (.slc 0 (o) (n) 1 (cap) (ex))))), (6, (iI (Int.ofNat n))), (7, (iI 0))] 15 0⟩
theorem c102a (hE : EnvOk E) (C : List AC) (N : Nat) (ty : Nat) (o : Nat) (n : Nat) (cap : Nat) (fl : Bool) (ex : Bool)  {Φ : Res → Prop} (ho : ∀ j, OutK E 1 1 (c102a_end C N ty o n cap fl ex j) Φ) (j : Nat → Value) : OutK E 1 1 (st102 C N ty o n cap fl ex j) Φ :=
 outK_seg hE (Go.Proofs.YtbmcfhkedgpldaaGreatDoor.R0_ok hE) [.run 7] [5, 6, 7] (ps := []) (fun j => by kernel_rfl) trivial
  ho
def c102e_end (C : List AC) (N : Nat) (ty : Nat) (_o : Nat) (_n : Nat) (_cap : Nat) (fl : Bool) (_ex : Bool) (_k : Nat) (j : Nat → Value) : St := ⟨[(.some ⟨(C), (N), (ty), (fl), .cells⟩)], [(.code .ret)], mkT j [(2, (iI 0))] 15 0⟩
theorem c102e (hE : EnvOk E) (C : List AC) (N : Nat) (ty : Nat) (o : Nat) (n : Nat) (cap : Nat) (fl : Bool) (ex : Bool) (k : Nat) (h0 : decide (Int.ofNat k < Int.ofNat n) = false) {Φ : Res → Prop} (ho : ∀ j, OutK E 1 1 (c102e_end C N ty o n cap fl ex k j) Φ) (j : Nat → Value) : OutK E 1 1 (h102 C N ty o n cap fl ex k j) Φ :=
 outK_seg hE (Go.Proofs.YtbmcfhkedgpldaaGreatDoor.R0_ok hE) [.run 3, (.cond false), .run 3] [2] (fun j => by kernel_rfl) (aP h0 <| aZ)
  ho
def c102f_end (C : List AC) (N : Nat) (ty : Nat) (o : Nat) (n : Nat) (cap : Nat) (fl : Bool) (ex : Bool) (k : Nat) (_x : Int) (j : Nat → Value) : St := ⟨[(.some ⟨(C), (N), (ty), (fl), .cells⟩)], [(.code (atC [1, 0, 1, 0, 0] (bodyOf Tryz.f79))), (.inLoop (atC [1, 0, 1, 0, 0] (bodyOf Tryz.f79))), (.inBlock 0), (.code (atC [1, 1] (bodyOf Tryz.f79)))], mkT j [(5, (.e (.one (.slc 0 (o) (n) 1 (cap) (ex))))), (6, (iI (Int.ofNat n))), (7, (iI (Int.ofNat (k + 1))))] 15 0⟩
theorem c102f (hE : EnvOk E) (C : List AC) (N : Nat) (ty : Nat) (o : Nat) (n : Nat) (cap : Nat) (fl : Bool) (ex : Bool) (k : Nat) (x : Int) (h0 : decide (Int.ofNat k < Int.ofNat n) = true) (h1 : 0 ≤ Int.ofNat k ∧ Int.ofNat k < ↑n) (h2 : o + (Int.ofNat k).toNat * 1 = o + k) (h3 : (getL C (o + k) : Option AC) = (.some (.v (.int .i64 (x))))) (h4 : (x != 0) = false) (h5 : ((iI (wrapF IntKind.i64 (Int.ofNat k + 1))) : AV) = (iI (Int.ofNat (k + 1)))) {Φ : Res → Prop} (ho : ∀ j, OutK E 1 1 (c102f_end C N ty o n cap fl ex k x j) Φ) (j : Nat → Value) : OutK E 1 1 (h102' C N ty o n cap fl ex k x j) Φ :=
 outK_seg hE (Go.Proofs.YtbmcfhkedgpldaaGreatDoor.R0_ok hE) [.run 3, (.cond true), .run 4, (.ops [(0, (.ix (o + k))), (1, (.ld (.v (.int .i64 (x)))))] []), .run 2, (.cond false), .run 2, (.ops [(0, (.rn (iI (Int.ofNat (k + 1)))))] []), .run 1] [5, 6, 7] (fun j => by kernel_rfl) (aP h0 <| aP h1 <| aP h2 <| aP h3 <| aP h4 <| aP h5 <| aZ)
  ho
def c102t_end (C : List AC) (N : Nat) (ty : Nat) (_o : Nat) (_n : Nat) (_cap : Nat) (fl : Bool) (_ex : Bool) (_k : Nat) (x : Int) (j : Nat → Value) : St := ⟨[(.some ⟨(C), (N), (ty), (fl), .cells⟩)], [(.code .ret), (.inBlock 1), (.code (atC [1, 0, 1, 0, 0, 1, 1, 1] (bodyOf Tryz.f79))), (.inLoop (atC [1, 0, 1, 0, 0] (bodyOf Tryz.f79))), (.inBlock 0), (.code (atC [1, 1] (bodyOf Tryz.f79)))], mkT j [(2, (iI (x)))] 15 0⟩
theorem c102t (hE : EnvOk E) (C : List AC) (N : Nat) (ty : Nat) (o : Nat) (n : Nat) (cap : Nat) (fl : Bool) (ex : Bool) (k : Nat) (x : Int) (h0 : decide (Int.ofNat k < Int.ofNat n) = true) (h1 : 0 ≤ Int.ofNat k ∧ Int.ofNat k < ↑n) (h2 : o + (Int.ofNat k).toNat * 1 = o + k) (h3 : (getL C (o + k) : Option AC) = (.some (.v (.int .i64 (x))))) (h4 : (x != 0) = true) {Φ : Res → Prop} (ho : ∀ j, OutK E 1 1 (c102t_end C N ty o n cap fl ex k x j) Φ) (j : Nat → Value) : OutK E 1 1 (h102' C N ty o n cap fl ex k x j) Φ :=
 outK_seg hE (Go.Proofs.YtbmcfhkedgpldaaGreatDoor.R0_ok hE) [.run 3, (.cond true), .run 4, (.ops [(0, (.ix (o + k))), (1, (.ld (.v (.int .i64 (x)))))] []), .run 2, (.cond true), .run 2] [2] (fun j => by kernel_rfl) (aP h0 <| aP h1 <| aP h2 <| aP h3 <| aP h4 <| aZ)
  ho
theorem iIe {a b : Int} (h : a = b) : (iI a : AV) = iI b := by rw [h]
theorem k60 (hE : EnvOk E) (b : Bool) (e : Int) : COut E 0 [] 82 [iB b, iI e] (iI (if b then e else 0)) [] := by
 cases b with
 | true => exact cOut_start Tryz.func82 rfl (c60t hE _ e rfl (fun j => outK_ret (ends_ret (by kernel_rfl))) fun _ => undef)
 | false => exact cOut_start Tryz.func82 rfl (c60f hE _ e rfl (fun j => outK_ret (ends_ret (by kernel_rfl))) fun _ => undef)
theorem k107 (hE : EnvOk E) (b : Bool) (e : Int) : COut E 0 [] 85 [iB b, iI e] (iI (if b then e else 0)) [] := by
 cases b with
 | true => exact cOut_start Tryz.func85 rfl (c107t hE _ e rfl (fun j => outK_ret (ends_ret (by kernel_rfl))) fun _ => undef)
 | false => exact cOut_start Tryz.func85 rfl (c107f hE _ e rfl (fun j => outK_ret (ends_ret (by kernel_rfl))) fun _ => undef)
theorem l102 (hE : EnvOk E) {C : List AC} {N ty o n cap : Nat} {fl ex : Bool} (xs : List Int) (hn : xs.length = n) (hm : n ≤ 4000000) (hC : ∀ k x, xs[k]? = some x → getL C (o + k) = some (.v (.int .i64 x))) :
  ∀ m k, m + k = n → ∀ j, OutK E 1 1 (h102 C N ty o n cap fl ex k j) (Go.Ev.Ends E Tryz.f79 (iI (firstI (xs.drop k))) [some ⟨C, N, ty, fl, .cells⟩])
 | 0, k, hk, j => by
  have e : xs.drop k = [] := List.drop_eq_nil_of_le (by omega)
  rw [e]
  refine c102e hE _ _ _ _ _ _ _ _ _ (decide_eq_false (by simp only [Int.ofNat_eq_natCast]; omega)) (fun j => outK_ret (ends_ret ?_)) j
  kernel_rfl
 | m + 1, k, hk, j => by
  have hlt : k < xs.length := by omega
  have hx : xs[k]? = some xs[k] := List.getElem?_eq_getElem hlt
  have e : xs.drop k = xs[k] :: xs.drop (k + 1) := List.drop_eq_getElem_cons hlt
  rw [e]
  generalize xs[k] = x at hx e
  have hd : decide (Int.ofNat k < Int.ofNat n) = true := decide_eq_true (by simp only [Int.ofNat_eq_natCast]; omega)
  have hb : 0 ≤ Int.ofNat k ∧ Int.ofNat k < ↑n := by simp only [Int.ofNat_eq_natCast]; omega
  have ho : o + (Int.ofNat k).toNat * 1 = o + k := by simp
  by_cases h0 : x = 0
  ·subst h0
   exact c102f hE _ _ _ _ _ _ _ _ _ 0 hd hb ho (hC k 0 hx) rfl (iIe (by rw [wrap_id (by simp only [Int.ofNat_eq_natCast]; omega) (by simp only [Int.ofNat_eq_natCast]; omega)]; simp)) (l102 hE xs hn hm hC m (k + 1) (by omega)) j
  ·have e1 : firstI (x :: xs.drop (k + 1)) = x := by simp [firstI, h0]
   rw [e1]
   refine c102t hE _ _ _ _ _ _ _ _ _ x hd hb ho (hC k x hx) (by simpa using h0) (fun j => outK_ret (ends_ret ?_)) j
   kernel_rfl
theorem k102 (hE : EnvOk E) {C : List AC} {N ty o n cap : Nat} {fl ex : Bool} (xs : List Int) (hn : xs.length = n) (hm : n ≤ 4000000) (hC : ∀ k x, xs[k]? = some x → getL C (o + k) = some (.v (.int .i64 x))) :
  COut E 1 [some ⟨C, N, ty, fl, .cells⟩] 79 [.e (.one (.slc 0 o n 1 cap ex))] (iI (firstI xs)) [some ⟨C, N, ty, fl, .cells⟩] :=
 cOut_start Tryz.func79 rfl (c102a hE _ _ _ _ _ _ _ _ (l102 hE xs hn hm hC n 0 (by omega)) fun _ => undef)
end
end Go.Proofs.YtbmcfhkedgpldaaGreatDoor
end

/-! SeLem -/
section
open Go Go.Ev
namespace Go.Proofs.YtbmcfhkedgpldaaGreatDoor
noncomputable section
theorem iIn (i : Nat) (h : i ≤ 4000000) : (iI (wrapF IntKind.i64 (Int.ofNat i + (1 : Int))) : AV) = iI (Int.ofNat (i + 1)) :=
 iIe (by rw [wrap_id (by simp only [Int.ofNat_eq_natCast]; omega) (by simp only [Int.ofNat_eq_natCast]; omega)]; simp)
end
end Go.Proofs.YtbmcfhkedgpldaaGreatDoor
end

/-! SyK -/
section
namespace Go.Ev
open Go.RowKit
noncomputable section
section
variable {E : Env} {lvl : Nat}
def FrzC (i : Nat) (ds : List DT) (x x' : AC) : Prop := x' = x ∨ ∃ o len sz cap ex r, x = .slc i o len sz cap ex ∧ x' = .dp (.s r len sz) ∧ takeL (dropL ds o) (len * sz) = some r
def FrzE (i : Nat) (ds : List DT) : AE → AE → Prop
 | .one x, .one x' => FrzC i ds x x'
 | .agg l, .agg l' => All2 (FrzC i ds) l l'
 | _, _ => False
def FrzV (i : Nat) (ds : List DT) : AV → AV → Prop
 | .e x, .e x' => FrzE i ds x x'
 | .tup l, .tup l' => All2 (FrzE i ds) l l'
 | _, _ => False
theorem DT.Rl.of_all2 {m : M} : ∀ {ds : List DT} {ys : List Value}, All2 (CR m) (ds.map DT.ac) ys → DT.Rl m.F ds ys
 | [], _, _ => by simp [DT.Rl]
 | d :: ds, [], h => h.elim
 | d :: ds, y :: ys, h => by
  simp only [DT.Rl]
  refine ⟨y, ys, rfl, ?_, DT.Rl.of_all2 h.2⟩
  have h1 : CR m d.ac y := h.1
  cases d with
  | v x => simpa [DT.R, DT.ac, CR] using h1
  | s c n sz => exact h1
theorem DT.Rl.more {F : List (Nat × List Value)} : ∀ {l : List DT} {ys zs : List Value}, DT.Rl F l ys → DT.Rl F l (ys ++ zs)
 | [], _, _, _ => by simp [DT.Rl]
 | d :: l, ys, zs, r => by
  simp only [DT.Rl] at r ⊢
  obtain ⟨y, r', rfl, h1, h2⟩ := r
  exact ⟨y, r' ++ zs, rfl, h1, DT.Rl.more h2⟩
theorem CR.rest {m m2 : M} {w : World} {i : Nat} {ds : List DT} {N el : Nat} {fl : Bool} (B : BR m w i ⟨ds.map DT.ac, N, el, fl, .cells⟩) {c : Array Value} {fz : Nat × Nat} (hc : w.heap[m.ρ i]? = some (.cells c el fz)) (hF : ∀ p ∈ m.F, p ∈ m2.F) (hp : (m.ρ i, c.toList) ∈ m2.F)
  {o len sz cap : Nat} {ex : Bool} {r : List DT} (hr : takeL (dropL ds o) (len * sz) = some r) {y : Value} (hy : CR m (.slc i o len sz cap ex) y) : DV.R m2.F (.s r len sz) y := by
 obtain ⟨hb, cc, o', rfl, g0, g1, g1', g2, g3, g4⟩ := hy
 obtain ⟨b1, b2, c', fz', b3, b4, b5, b6, b7⟩ := B
 have b3 : w.heap[m.ρ i]? = some (.cells c' el fz') := b3
 rw [hc] at b3
 simp only [Option.some.injEq, Obj.cells.injEq] at b3
 obtain ⟨rfl, _, _⟩ := b3
 show DT.R m2.F (.s r len sz) _
 simp only [DT.R]
 rcases Nat.eq_zero_or_pos len with rfl | h0
 ·exact .inl ⟨rfl, _, _, rfl⟩
 ·obtain rfl : o' = o := by rcases g0 with g0 | g0 <;> omega
  obtain ⟨t1, rfl⟩ := takeL_some hr
  rw [dropL_eq] at t1
  have hsz : c.toList.length = m.κ i := by simpa using b4
  refine .inr ⟨h0, m.ρ i, o', cc, c.toList, rfl, by omega, g2, hp, by omega, by rw [dropL_eq, List.length_take]; omega, ?_⟩
  have hR := ((DT.Rl.of_all2 (m := m) b7).mono hF).more (zs := c.toList.drop N)
  rw [List.take_append_drop] at hR
  rw [dropL_eq]
  exact (hR.drop o').pre (len * sz)
theorem FrzC.sound {m m2 : M} {w : World} {i : Nat} {ds : List DT} {N el : Nat} {fl : Bool} (B : BR m w i ⟨ds.map DT.ac, N, el, fl, .cells⟩) {c : Array Value} {fz : Nat × Nat} (hc : w.heap[m.ρ i]? = some (.cells c el fz)) {bs : Nat} (hle : M.leG bs m m2) (hp : (m.ρ i, c.toList) ∈ m2.F)
  {x x' : AC} {y : Value} (h : FrzC i ds x x') (hy : CR m x y) : CR m2 x' y := by
 rcases h with rfl | ⟨o, len, sz, cap, ex, r, rfl, rfl, hr⟩
 ·exact CR.monoG hle hy
 ·exact CR.rest B hc hle.F hp hr hy
theorem all2_map {α β γ : Type} {R : α → β → Prop} {T : α → γ → Prop} {S : γ → β → Prop} (hi : ∀ a b c, T a c → R a b → S c b) : ∀ {l : List α} {l' : List γ} {ys : List β}, All2 T l l' → All2 R l ys → All2 S l' ys
 | [], [], [], _, _ => trivial
 | _ :: _, _ :: _, _ :: _, h1, h2 => ⟨hi _ _ _ h1.1 h2.1, all2_map hi h1.2 h2.2⟩
 | [], [], _ :: _, _, h => h.elim
 | [], _ :: _, _, h, _ => h.elim
 | _ :: _, [], _, h, _ => h.elim
 | _ :: _, _ :: _, [], _, h => h.elim
theorem FrzE.sound {m m2 : M} {w : World} {i : Nat} {ds : List DT} {N el : Nat} {fl : Bool} (B : BR m w i ⟨ds.map DT.ac, N, el, fl, .cells⟩) {c : Array Value} {fz : Nat × Nat} (hc : w.heap[m.ρ i]? = some (.cells c el fz)) {bs : Nat} (hle : M.leG bs m m2) (hp : (m.ρ i, c.toList) ∈ m2.F) :
  ∀ {x x' : AE} {y : Value}, FrzE i ds x x' → ER m x y → ER m2 x' y
 | .one _, .one _, _, h, hy => FrzC.sound B hc hle hp h hy
 | .agg _, .agg _, _, h, hy => by
  obtain ⟨cs, h1, h2⟩ := hy
  exact ⟨cs, h1, all2_map (R := CR m) (T := FrzC i ds) (S := CR m2) (fun a b c' h0 h3 => FrzC.sound B hc hle hp h0 h3) (show All2 (FrzC i ds) _ _ from h) h2⟩
 | .one _, .agg _, _, h, _ => h.elim
 | .agg _, .one _, _, h, _ => h.elim
theorem FrzV.sound {m m2 : M} {w : World} {i : Nat} {ds : List DT} {N el : Nat} {fl : Bool} (B : BR m w i ⟨ds.map DT.ac, N, el, fl, .cells⟩) {c : Array Value} {fz : Nat × Nat} (hc : w.heap[m.ρ i]? = some (.cells c el fz)) {bs : Nat} (hle : M.leG bs m m2) (hp : (m.ρ i, c.toList) ∈ m2.F) :
  ∀ {x x' : AV} {y : Value}, FrzV i ds x x' → VR m x y → VR m2 x' y
 | .e _, .e _, _, h, hy => FrzE.sound B hc hle hp h hy
 | .tup _, .tup _, _, h, hy => by
  obtain ⟨cs, h1, h2⟩ := hy
  exact ⟨cs, h1, all2_map (R := ER m) (T := FrzE i ds) (S := ER m2) (fun a b c' h0 h3 => FrzE.sound B hc hle hp h0 h3) (show All2 (FrzE i ds) _ _ from h) h2⟩
 | .e _, .tup _, _, h, _ => h.elim
 | .tup _, .e _, _, h, _ => h.elim
theorem HR.freeze {m : M} {base : Nat} {h : Heap} {w : World} (H : HR m base lvl h w) {i : Nat} {ds : List DT} {N el : Nat} {fl : Bool} (hi : h[i]? = some (some ⟨ds.map DT.ac, N, el, fl, .cells⟩)) (hl : lvl ≤ i) :
  ∃ m2, HR m2 base lvl (h.set i none) w ∧ M.leG base m m2 ∧ m2.n = m.n ∧ m2.ρ = m.ρ ∧ m2.κ = m.κ ∧ (∀ x x' y, FrzV i ds x x' → VR m x y → VR m2 x' y) ∧ (∀ x x' y, FrzC i ds x x' → CR m x y → CR m2 x' y) := by
 have B := H.blk i _ hi rfl
 obtain ⟨b1, b2, c, fz, b3, b4, b5, b6, b7⟩ := id B
 have hil := (List.getElem?_eq_some_iff.1 hi).1
 let m2 : M := { n := m.n, ρ := m.ρ, κ := m.κ, lo := m.lo, F := (m.ρ i, c.toList) :: m.F }
 have hle : M.leG base m m2 := ⟨Nat.le_refl _, fun _ _ => rfl, fun _ _ => rfl, rfl, fun p hp => List.mem_cons_of_mem _ hp, fun p hp => by
  rcases List.mem_cons.1 hp with rfl | hp
  ·exact .inr (H.own i hl hil)
  ·exact .inl hp⟩
 have hK := H.kill i
 refine ⟨m2, ⟨hK.n, hK.lvlLe, hK.baseLe, fun b a hb => (hK.ent b a hb).monoG hle (by rw [hK.n]; exact (List.getElem?_eq_some_iff.1 hb).1), hK.own, hK.inj, hK.lo, fun p hp => ?_⟩, hle, rfl, rfl, rfl,
  fun x x' y hx hy => FrzV.sound B b3 hle (List.mem_cons_self ..) hx hy, fun x x' y hx hy => FrzC.sound B b3 hle (List.mem_cons_self ..) hx hy⟩
 rcases List.mem_cons.1 hp with rfl | hp
 ·refine ⟨⟨c, el, fz, b3, rfl⟩, fun b a hb ha he => ?_⟩
  have ha' := alive_set ha
  exact ha'.2 (H.inj b i (List.getElem?_eq_some_iff.1 ha'.1).1 hil ⟨a, ha'.1⟩ ⟨_, hi⟩ (.inr (Nat.le_trans H.lo hl)) he)
 ·exact hK.tab p hp
theorem cOut_freeze {f : FuncId} {hin : Heap} {args : List AV} {v v' : AV} {hout : Heap} (i : Nat) {ds : List DT} {N el : Nat} {fl : Bool} (hc : COut E lvl hin f args v hout) (hi : getL hout i = some (some ⟨ds.map DT.ac, N, el, fl, .cells⟩)) (hl : lvl ≤ i) (hv : FrzV i ds v v') :
  COut E lvl hin f args v' (setL hout i none) := by
 rw [getL_eq] at hi
 rw [setL_eq]
 intro m base w argsC ha H G
 refine (hc m base w argsC ha H G).mono fun e w' ⟨y, hy, m1, hp⟩ => ⟨y, hy, ?_⟩
 obtain ⟨m2, H2, hle, hn, hρ, hκ, hV, _⟩ := hp.heap.freeze hi hl
 exact ⟨m2, hp.le.trans hle, hV _ _ _ hv hp.val, H2, hp.below⟩
def LendC (h : Heap) (x x' : AC) : Prop := (x' = x ∧ x.refs = []) ∨ ∃ i o len sz cap ex r ds N el fl, x = .slc i o len sz cap ex ∧ x' = .dp (.s r len sz) ∧ getL h i = some (some ⟨ds.map DT.ac, N, el, fl, .cells⟩) ∧ takeL (dropL ds o) (len * sz) = some r
def LendE (h : Heap) : AE → AE → Prop
 | .one x, .one x' => LendC h x x'
 | .agg l, .agg l' => All2 (LendC h) l l'
 | _, _ => False
def LendV (h : Heap) : AV → AV → Prop
 | .e x, .e x' => LendE h x x'
 | _, _ => False
theorem lendTabs {m : M} {base : Nat} {w : World} : ∀ (h : Heap), (∀ b a, h[b]? = some (some a) → EntR m w b a) → ∀ k, k ≤ h.length → ∃ F : List (Nat × List Value), (∀ p ∈ F, ∃ (c : Array Value) (t : TypeId) (fz : Nat × Nat), w.heap[p.1]? = some (.cells c t fz) ∧ c.toList = p.2) ∧
  ∀ i a, i < k → h[i]? = some (some a) → a.ext = .cells → ∃ (c : Array Value) (fz : Nat × Nat), w.heap[m.ρ i]? = some (.cells c a.elem fz) ∧ (m.ρ i, c.toList) ∈ F
 | h, hent, 0, _ => ⟨[], by simp, fun i a hi => by omega⟩
 | h, hent, k + 1, hk => by
  obtain ⟨F, h1, h2⟩ := lendTabs (base := base) h hent k (by omega)
  by_cases hx : ∃ a, h[k]? = some (some a) ∧ a.ext = .cells
  ·obtain ⟨a, ha, hc⟩ := hx
   obtain ⟨b1, b2, c, fz, b3, _⟩ := (hent k a ha).1 hc
   refine ⟨(m.ρ k, c.toList) :: F, fun p hp => ?_, fun i a' hi ha' hc' => ?_⟩
   ·rcases List.mem_cons.1 hp with rfl | hp
    ·exact ⟨c, a.elem, fz, b3, rfl⟩
    ·exact h1 p hp
   ·by_cases hik : i = k
    ·subst hik
     rw [ha] at ha'
     simp only [Option.some.injEq] at ha'
     subst ha'
     exact ⟨c, fz, b3, List.mem_cons_self ..⟩
    ·obtain ⟨c', fz', g1, g2⟩ := h2 i a' (by omega) ha' hc'
     exact ⟨c', fz', g1, List.mem_cons_of_mem _ g2⟩
  ·refine ⟨F, h1, fun i a' hi ha' hc' => ?_⟩
   by_cases hik : i = k
   ·subst hik; exact absurd ⟨a', ha', hc'⟩ hx
   ·exact h2 i a' (by omega) ha' hc'
theorem cOut_lend {f : FuncId} {args args' : List AV} {v : AV} (h : Heap) (hc : COut E 0 [] f args' v []) (ha : All2 (LendV h) args args') (hv : v.refs = []) (hf : v.flat = true) : COut E lvl h f args v h := by
 intro m base w argsC hA H G
 obtain ⟨F, h1, h2⟩ := lendTabs (base := base) h H.ent h.length (Nat.le_refl _)
 let mc : M := { n := 0, ρ := m.ρ, κ := m.κ, lo := 0, F := F ++ m.F }
 have Hc : HR mc w.heap.size 0 [] w := ⟨rfl, Nat.le_refl _, Nat.le_refl _, fun b a hb => by simp at hb, fun b _ hb => by simp at hb, fun b b' hb => by simp at hb, Nat.le_refl _, fun p hp => ⟨by
  rcases List.mem_append.1 hp with hp | hp
  ·exact h1 p hp
  ·exact (H.tab p hp).1, fun b a _ hb => by simp at hb⟩⟩
 let mg : M := { n := m.n, ρ := m.ρ, κ := m.κ, lo := m.lo, F := F ++ m.F }
 have lc : ∀ x x' y, LendC h x x' → CR m x y → CR mc x' y := by
  intro x x' y hx hy
  rcases hx with ⟨rfl, hr⟩ | ⟨i, o, len, sz, cap, ex, r, ds, N, el, fl, rfl, rfl, hi, hr⟩
  ·exact CR.free (m1 := m) (m2 := mc) (fun p hp => List.mem_append_right _ hp) hr hy
  ·rw [getL_eq] at hi
   obtain ⟨c, fz, g1, g2⟩ := h2 i _ (List.getElem?_eq_some_iff.1 hi).1 hi rfl
   exact CR.rest (m2 := mc) (H.blk i _ hi rfl) g1 (fun p hp => List.mem_append_right _ hp) (List.mem_append_left _ g2) hr hy
 have lv : ∀ x y x', LendV h x x' → VR m x y → VR mc x' y := by
  intro x y x' hx hy
  match x, x', hx with
  | .e (.one x), .e (.one x'), hx => exact lc x x' y hx hy
  | .e (.agg l), .e (.agg l'), hx =>
   obtain ⟨cs, k1, k2⟩ := hy
   exact ⟨cs, k1, all2_map (R := CR m) (T := LendC h) (S := CR mc) (fun a b c' h0 h3 => lc a c' b h0 h3) (show All2 (LendC h) _ _ from hx) k2⟩
 have hA' : All2 (VR mc) args' argsC.toList := all2_map (R := VR m) (T := LendV h) (S := VR mc) (fun a b c' h0 h3 => lv a b c' h0 h3) ha hA
 refine (hc mc w.heap.size w argsC hA' Hc (G.up H.baseLe)).mono fun e w' ⟨y, hy, m1, hp⟩ => ⟨y, hy, m, M.leG.refl _ m, ?_, H.world hp.below.size hp.below.block, hp.below.mono H.baseLe⟩
 have hd := VR.downG hp.le (.inl hf) (fun b hb => by rw [hv] at hb; simp at hb) hp.val
 -- nothing in it leads anywhere
 have flatC : ∀ (x : AC) (y : Value), x.flat = true → x.refs = [] → CR mc x y → CR m x y := fun x y hf hr h => by
  cases x with
  | v _ => exact h
  | any _ => exact h
  | dp _ => simp [AC.flat] at hf
  | ptr => simp [AC.refs] at hr
  | slc => simp [AC.refs] at hr
  | yld => simp [AC.refs] at hr
  | mp => simp [AC.refs] at hr
  | clo g fs cs =>
   simp only [AC.refs, List.append_eq_nil_iff] at hr
   simp only [AC.flat, Bool.and_eq_true] at hf
   obtain ⟨vf, vc, hy, h1, h2⟩ := h
   have key : ∀ {l : List CE}, l.flatMap CE.refs = [] → (l.all fun e => e.atoms.all CA.flat) = true → ∀ e ∈ l, ∀ c ∈ e.atoms, ∀ y, CR mc c.ac y → CR m c.ac y := fun {l} hl hfl e he c hc y hr' => by
    have h0 : c.refs = [] := List.flatMap_eq_nil_iff.1 (List.flatMap_eq_nil_iff.1 hl e he) c hc
    have h3 := List.all_eq_true.1 (List.all_eq_true.1 hfl e he) c hc
    cases c with
    | v _ => exact hr'
    | dp _ => simp [CA.flat] at h3
    | _ => simp [CA.refs] at h0
   exact ⟨vf, vc, hy, CEs.to (key hr.1 hf.1) h1, CEs.to (key hr.2 hf.2) h2⟩
 have flatE : ∀ (x : AE) (y : Value), x.flat = true → x.refs = [] → ER mc x y → ER m x y := fun x y hf hr h => by
  cases x with
  | one x => exact flatC x y hf hr h
  | agg l =>
   obtain ⟨cs, k1, k2⟩ := h
   simp only [AE.refs, List.flatMap_eq_nil_iff] at hr
   exact ⟨cs, k1, all2_free (fun a ha b hb => flatC a b (List.all_eq_true.1 hf a ha) (hr a ha) hb) k2⟩
 cases v with
 | e x => exact flatE x y hf hv hd
 | tup l =>
  obtain ⟨cs, k1, k2⟩ := hd
  simp only [AV.refs, List.flatMap_eq_nil_iff] at hv
  exact ⟨cs, k1, all2_free (fun a ha b hb => flatE a b (List.all_eq_true.1 hf a ha) (hv a ha) hb) k2⟩
end
end
end Go.Ev
end

/-! SyArg -/
section
namespace Go.Ev
open Go.RowKit Go.WideShapes Go.ChangeShapes
noncomputable section
theorem cells_block {W : World} {b o n : Nat} {vs : List Value} (h : W.cells? 0 ⟨b, o, none⟩ n = some vs) (h0 : 0 < n) :
  ∃ (c : Array Value) (ty : TypeId) (fz : Nat × Nat), W.heap[b]? = some (.cells c ty fz) ∧ o + n ≤ c.size ∧ vs = (c.toList.drop o).take n := by
 unfold World.cells? at h
 rw [if_pos (Nat.zero_le _)] at h
 have hl : vs.length = n := by simpa using mapM_some_length h
 have hg : ∀ i, i < n → W.cell? ⟨b, o + i, none⟩ = vs[i]? := fun i hi => by
  have := mapM_some_get h i i (by simp [hi])
  rwa [add_plain] at this
 have h1 := hg 0 h0
 rw [List.getElem?_eq_getElem (by omega)] at h1
 unfold World.cell? at h1
 split at h1
 ·rename_i c ty fz hc
  have hg' : ∀ i, i < n → c[o + i]? = vs[i]? := fun i hi => by
   have := hg i hi
   simpa [World.cell?, hc] using this
  have hlast := hg' (n - 1) (by omega)
  rw [List.getElem?_eq_getElem (by omega)] at hlast
  have hsz : o + (n - 1) < c.size := by
   rcases Nat.lt_or_ge (o + (n - 1)) c.size with hh | hh
   ·exact hh
   ·rw [Array.getElem?_eq_none hh] at hlast; simp at hlast
  refine ⟨c, ty, fz, hc, by omega, ?_⟩
  apply List.ext_getElem?
  intro i
  by_cases hi : i < n
  ·rw [← hg' i hi, List.getElem?_take, if_pos hi, List.getElem?_drop, Array.getElem?_toList]
  ·rw [List.getElem?_eq_none (by omega), List.getElem?_take, if_neg hi]
 ·simp at h1
section
variable {H : Type} {enc : TypeId × Value → H} {P : Program} {W : World}
theorem read_slice {t e : TypeId} {sz fuel : Nat} {held : Bool} {a : Option Addr} {len cap : Nat} {x : DataW H × List MemPlace} (ht : P.underlying t = some (.slice e)) (hsz : P.cellsOf e = sz) (h0 : 0 < sz)
  (h : DataW.trod enc P W 0 (fun _ => true) held fuel t [.slice a len cap] = some x) :
  len = 0 ∨ ∃ (b o : Nat) (c : Array Value) (ty : TypeId) (fz : Nat × Nat) (n : Nat), a = some ⟨b, o, none⟩ ∧ 0 < len ∧ len ≤ cap ∧ cap ≤ maxLen ∧ W.heap[b]? = some (.cells c ty fz) ∧ o + cap * sz ≤ c.size ∧
   ∀ i, i < len → ∃ y, DataW.trod enc P W 0 (fun _ => true) held n e ((c.toList.drop (o + i * sz)).take sz) = some y := by
 rcases DataW.trod_slice ht h with ⟨h1, _⟩ | ⟨a', len', cap', elems, rest, n, _, h1, _, hb, hl, hm, hlen, hel, hsp, _⟩
 ·simp only [List.cons.injEq, Value.slice.injEq, and_true] at h1
  exact .inl h1.2.1
 simp only [List.cons.injEq, Value.slice.injEq, and_true] at h1
 obtain ⟨rfl, rfl, rfl⟩ := h1
 by_cases hz : len = 0
 ·exact .inl hz
 obtain ⟨hrl, hr⟩ := hsp rfl
 rw [hsz] at hel hr
 have all : ∀ i, i < cap → ∃ vs y, W.cells? 0 (a'.add (i * sz)) sz = some vs ∧ DataW.trod enc P W 0 (fun _ => true) held n e vs = some y := fun i hi => by
  by_cases hil : i < len
  ·have := hel i hil
   rw [List.getElem?_eq_getElem (by omega)] at this
   obtain ⟨vs, h2, h3⟩ := Option.bind_eq_some_iff.1 this
   exact ⟨vs, _, h2, h3⟩
  ·have := hr (i - len) (by omega)
   rw [List.getElem?_eq_getElem (by omega), show len + (i - len) = i by omega] at this
   obtain ⟨vs, h2, h3⟩ := Option.bind_eq_some_iff.1 this
   exact ⟨vs, _, h2, h3⟩
 obtain ⟨b, o, spot⟩ := a'
 have hspot : spot = none := by
  obtain ⟨vs, _, h2, _⟩ := all 0 (by omega)
  unfold World.cells? at h2
  rw [if_pos (Nat.zero_le _)] at h2
  have hl2 : vs.length = sz := by simpa using mapM_some_length h2
  have h3 := mapM_some_get h2 0 0 (by simp [h0])
  rw [List.getElem?_eq_getElem (by omega)] at h3
  simpa [Addr.add] using World.cell?_spot h3
 subst hspot
 obtain ⟨vs0, _, h2, _⟩ := all 0 (by omega)
 rw [add_plain] at h2
 obtain ⟨c, ty, fz, hc, _, _⟩ := cells_block h2 h0
 refine .inr ⟨b, o, c, ty, fz, n, rfl, by omega, hl, hm, hc, ?_, fun i hi => ?_⟩
 ·obtain ⟨vs1, _, h3, _⟩ := all (cap - 1) (by omega)
  rw [add_plain] at h3
  obtain ⟨c', ty', fz', hc', hle, _⟩ := cells_block h3 h0
  rw [hc] at hc'
  simp only [Option.some.injEq, Obj.cells.injEq] at hc'
  obtain ⟨rfl, _⟩ := hc'
  have : (cap - 1) * sz + sz = cap * sz := by rw [← Nat.succ_mul, Nat.succ_eq_add_one, show cap - 1 + 1 = cap by omega]
  omega
 ·obtain ⟨vs1, y, h3, h4⟩ := all i (by omega)
  rw [add_plain] at h3
  obtain ⟨c', ty', fz', hc', _, rfl⟩ := cells_block h3 h0
  rw [hc] at hc'
  simp only [Option.some.injEq, Obj.cells.injEq] at hc'
  obtain ⟨rfl, _⟩ := hc'
  exact ⟨y, h4⟩
theorem byte_of_wf {z : Int} (h : (Lit.int .u8 z).wf = true) : ∃ b : UInt8, z = b.toNat := by
 have := bounds_u8 h
 refine ⟨UInt8.ofNat z.toNat, ?_⟩
 rw [UInt8.toNat_ofNat']
 omega
theorem bytes_list : ∀ (cs : List Value), (∀ i, i < cs.length → ∃ b : UInt8, cs[i]? = some (.int .u8 b.toNat)) → ∃ l : List UInt8, l.length = cs.length ∧ cs = l.map fun b => Value.int .u8 b.toNat
 | [], _ => ⟨[], rfl, rfl⟩
 | v :: cs, h => by
  obtain ⟨b, hb⟩ := h 0 (by simp)
  simp only [List.getElem?_cons_zero, Option.some.injEq] at hb
  obtain ⟨l, h1, h2⟩ := bytes_list cs (fun i hi => by
   obtain ⟨b, hb⟩ := h (i + 1) (by simp; omega)
   exact ⟨b, by simpa using hb⟩)
  exact ⟨b :: l, by simp [h1], by rw [List.map_cons, ← h2, hb]⟩
theorem read_bytes {t e : TypeId} {n fuel : Nat} {held : Bool} {base : Nat} {sp : Nat → Bool} {cs : List Value} {x : DataW H × List MemPlace} (ht : P.underlying t = some (.array n e)) (he : P.underlying e = some (.int .u8)) (hc : P.cellsOf e = 1) (hct : P.cellsOf t = n)
  (h : DataW.trod enc P W base sp held fuel t cs = some x) : ∃ l : List UInt8, l.length = n ∧ cs = l.map fun b => Value.int .u8 b.toNat := by
 obtain ⟨xs, m, rfl, _, hlen, hn, hel⟩ := DataW.trod_array ht h
 rw [hct] at hlen
 obtain ⟨l, h1, h2⟩ := bytes_list cs (fun i hi => by
  have h1 := hel i (by omega)
  rw [hc, Nat.mul_one, List.getElem?_eq_getElem (by omega)] at h1
  obtain ⟨z, hcell, _, hw⟩ := DataW.trod_int he h1
  obtain ⟨b, rfl⟩ := byte_of_wf hw
  have e2 : ((cs.drop i).take 1)[0]? = some (.int .u8 b.toNat) := by rw [hcell]; rfl
  rw [List.getElem?_take, if_pos (by omega), List.getElem?_drop] at e2
  exact ⟨b, by simpa using e2⟩)
 exact ⟨l, by omega, h2⟩
end
def ElemsAt (C : List AC) (o w : Nat) (xs : List (List UInt8)) : Prop := ∀ k x, xs[k]? = some x → x.length = w ∧ takeL (dropL C (o + k * w)) w = some (x.map u8c)
def SlOk (b sz : Nat) (C : List AC) (x : AC) (n : Nat) (xs : List (List UInt8)) : Prop :=
 xs.length = n ∧ (∀ y ∈ xs, y.length = sz) ∧ ((n = 0 ∧ ∃ p c, x = .v (.slice p 0 c)) ∨ (0 < n ∧ ∃ o cap ex, x = .slc b o n sz cap ex ∧ ElemsAt C o sz xs))
theorem SlOk.opq {b sz n K : Nat} {C : List AC} {x : AC} {xs : List (List UInt8)} (h : SlOk b sz C x n xs) (hK : b < K) : OpqC K x := by
 obtain ⟨_, _, ⟨rfl, p, c, rfl⟩ | ⟨_, o, cap, ex, rfl, _⟩⟩ := h
 ·intro k hk; simp [AC.refs] at hk
 ·intro k hk; simp [AC.refs] at hk; omega
theorem SlOk.below {b sz n K : Nat} {C : List AC} {x : AC} {xs : List (List UInt8)} (h : SlOk b sz C x n xs) (hK : b < K) : refsBelow K (AV.refs (.e (.one x))) = true := by
 have := h.opq hK
 simpa [refsBelow, AV.refs, AE.refs, OpqC] using this
theorem elems_take : ∀ {xs : List (List UInt8)} {C : List AC} {o w : Nat}, ElemsAt C o w xs → xs ≠ [] ∨ o ≤ C.length → takeL (dropL C o) (xs.length * w) = some (xs.flatten.map u8c)
 | [], C, o, w, _, _ => by simp [takeL_eq]
 | x :: xs, C, o, w, h, _ => by
  obtain ⟨hw, hx⟩ := h 0 x rfl
  rw [takeL_eq, dropL_eq, Nat.zero_mul, Nat.add_zero] at hx
  split at hx
  ·rename_i hle
   simp only [Option.some.injEq, List.length_drop] at hx hle
   by_cases hw0 : w = 0
   ·subst hw0
    have hall : ∀ y ∈ xs, y = [] := fun y hy => by
     obtain ⟨k, hk⟩ := List.getElem?_of_mem hy
     have := (h (k + 1) y (by simpa using hk)).1
     exact List.eq_nil_of_length_eq_zero this
    have hx0 : x = [] := List.eq_nil_of_length_eq_zero hw
    have : (x :: xs).flatten = [] := by
     rw [List.flatten_eq_nil_iff]
     intro l hl
     rcases List.mem_cons.1 hl with rfl | hl
     ·exact hx0
     ·exact hall l hl
    rw [this, takeL_eq]
    simp
   ·have ih := elems_take (xs := xs) (C := C) (o := o + w) (w := w) (fun k y hk => by
     have := h (k + 1) y (by simpa using hk)
     rwa [show o + (k + 1) * w = o + w + k * w by rw [Nat.succ_mul]; omega] at this) (.inr (by omega))
    rw [takeL_eq, dropL_eq] at ih ⊢
    split at ih
    ·rename_i hle2
     simp only [Option.some.injEq, List.length_drop] at ih hle2
     have e : (x :: xs).length * w = w + xs.length * w := by rw [List.length_cons, Nat.succ_mul]; omega
     rw [e, if_pos (by rw [List.length_drop]; omega), List.take_add, hx, List.drop_drop, ih, List.flatten_cons, List.map_append]
    ·simp at ih
  ·simp at hx
theorem blk_some {h : Heap} {b : Nat} {C : List AC} {N : Nat} {ty : TypeId} {fl : Bool} (hb : getL h b = some (some ⟨C, N, ty, fl, .cells⟩)) : blk h b = some ⟨C, N, ty, fl, .cells⟩ := by
 unfold blk
 rw [hb]
theorem all_isOne (l : List UInt8) : (l.map u8c).all AC.isOne = true := by
 rw [List.all_eq_true]
 intro c hc
 obtain ⟨x, _, rfl⟩ := List.mem_map.1 hc
 rfl
theorem SlOk.copy {b sz bytes n : Nat} {C : List AC} {x : AC} {xs : List (List UInt8)} (hs : SlOk b sz C x n xs) {h : Heap} {N : Nat} {ty : TypeId} {fl : Bool} (hb : getL h b = some (some ⟨C, N, ty, fl, .cells⟩)) (hm : small (0 + n) sz bytes = true) :
  CopyOk h sz bytes (.e (.one x)) n (xs.flatten.map u8c) (decide (n = 0)) := by
 obtain ⟨hl, _, ⟨rfl, p, c, rfl⟩ | ⟨h0, o, cap, ex, rfl, hC⟩⟩ := hs
 ·have : xs = [] := List.eq_nil_of_length_eq_zero hl
  subst this
  exact .inr (.inr (.inl ⟨rfl, rfl, rfl, p, c, rfl⟩))
 ·refine .inr (.inr (.inr ⟨decide_eq_false (by omega), h0, hm, all_isOne _, b, o, cap, ex, _, rfl, blk_some hb, ?_⟩))
  have := elems_take hC (.inl (by intro e; subst e; simp at hl; omega))
  rwa [hl] at this
section
variable {H : Type} {enc : TypeId × Value → H} {P : Program} {W : World}
end
end
end Go.Ev
end

/-! SyList -/
section
namespace Go.Ev
open Go.RowKit Go.WideShapes Go.ChangeShapes
noncomputable section
def S1 (b : Nat) (C : List AC) (x : AC) (n : Nat) (cs : List AC) : Prop :=
 cs.length = n ∧ ((n = 0 ∧ ∃ p c, x = .v (.slice p 0 c)) ∨ (0 < n ∧ ∃ o cap ex, x = .slc b o n 1 cap ex ∧ takeL (dropL C o) n = some cs))
theorem S1.opq {b n K : Nat} {C cs : List AC} {x : AC} (h : S1 b C x n cs) (hK : b < K) : OpqC K x := by
 obtain ⟨_, ⟨rfl, p, c, rfl⟩ | ⟨_, o, cap, ex, rfl, _⟩⟩ := h
 ·intro k hk; simp [AC.refs] at hk
 ·intro k hk; simp [AC.refs] at hk; omega
theorem S1.below {b n K : Nat} {C cs : List AC} {x : AC} (h : S1 b C x n cs) (hK : b < K) : refsBelow K (AV.refs (.e (.one x))) = true := by
 have := h.opq hK
 simpa [refsBelow, AV.refs, AE.refs, OpqC] using this
theorem S1.copy {b bytes n : Nat} {C cs : List AC} {x : AC} (hs : S1 b C x n cs) (h1 : cs.all AC.isOne = true) {h : Heap} {N : Nat} {ty : TypeId} {fl : Bool} (hb : getL h b = some (some ⟨C, N, ty, fl, .cells⟩)) (hm : small (0 + n) 1 bytes = true) :
  CopyOk h 1 bytes (.e (.one x)) n cs (decide (n = 0)) := by
 obtain ⟨hl, ⟨rfl, p, c, rfl⟩ | ⟨h0, o, cap, ex, rfl, hC⟩⟩ := hs
 ·have : cs = [] := List.eq_nil_of_length_eq_zero hl
  subst this
  exact .inr (.inr (.inl ⟨rfl, rfl, rfl, p, c, rfl⟩))
 ·exact .inr (.inr (.inr ⟨decide_eq_false (by omega), h0, hm, h1, b, o, cap, ex, _, rfl, blk_some hb, by rw [Nat.mul_one]; exact hC⟩))
section
variable {H : Type} {enc : TypeId × Value → H} {P : Program} {W : World}
end
end
end Go.Ev
end

/-! SyRd -/
section
namespace Go.Ev
open Go.RowKit Go.WideShapes Go.ChangeShapes
noncomputable section
def AtRest (W : World) (F : List (Nat × List Value)) : Prop := ∀ p ∈ F, ∃ (c : Array Value) (t : TypeId) (fz : Nat × Nat), W.heap[p.1]? = some (.cells c t fz) ∧ c.toList = p.2
theorem AtRest.nil (W : World) : AtRest W [] := fun p hp => by simp at hp
theorem AtRest.app {W : World} {F G : List (Nat × List Value)} (h : AtRest W F) (k : AtRest W G) : AtRest W (F ++ G) := fun p hp => (List.mem_append.1 hp).elim (h p) (k p)
theorem AtRest.cons {W : World} {F : List (Nat × List Value)} {b : Nat} {c : Array Value} {t : TypeId} {fz : Nat × Nat} (h : AtRest W F) (hb : W.heap[b]? = some (.cells c t fz)) : AtRest W ((b, c.toList) :: F) := fun p hp => by
 rcases List.mem_cons.1 hp with rfl | hp
 ·exact ⟨c, t, fz, hb, rfl⟩
 ·exact h p hp
def Rd (W : World) (cs : List Value) (Q : List DT → Prop) : Prop := ∃ (F : List (Nat × List Value)) (ds : List DT), AtRest W F ∧ DT.Rl F ds cs ∧ ds.length = cs.length ∧ Q ds
section
variable {H : Type} {enc : TypeId × Value → H} {P : Program} {W : World}
theorem Rl_append {F G : List (Nat × List Value)} : ∀ {l l' : List DT} {ys zs : List Value}, DT.Rl F l ys → l.length = ys.length → DT.Rl G l' zs → DT.Rl (F ++ G) (l ++ l') (ys ++ zs)
 | [], l', [], zs, _, _, h => DT.Rl.mono (fun p hp => List.mem_append_right _ hp) _ _ h
 | [], _, _ :: _, _, _, h, _ => by simp at h
 | d :: l, l', ys, zs, h, hl, h' => by
  simp only [DT.Rl] at h
  obtain ⟨y, r, rfl, h1, h2⟩ := h
  show DT.Rl (F ++ G) (d :: (l ++ l')) (y :: (r ++ zs))
  simp only [DT.Rl]
  exact ⟨y, r ++ zs, rfl, DT.R.mono (fun p hp => List.mem_append_left _ hp) _ _ h1, Rl_append h2 (by simpa using hl) h'⟩
theorem rd_rows {c : List Value} {sz : Nat} {Q : List DT → Prop} : ∀ (n o : Nat), o + n * sz ≤ c.length → (∀ i, i < n → Rd W ((c.drop (o + i * sz)).take sz) Q) →
  ∃ (F : List (Nat × List Value)) (rows : List (List DT)), AtRest W F ∧ rows.length = n ∧ (∀ r ∈ rows, r.length = sz ∧ Q r) ∧ DT.Rl F rows.flatten ((c.drop o).take (n * sz))
 | 0, o, _, _ => ⟨[], [], AtRest.nil W, rfl, by simp, by simp [DT.Rl]⟩
 | n + 1, o, hl, h => by
  rw [Nat.succ_mul] at hl
  obtain ⟨F0, d0, a0, r0, l0, q0⟩ := h 0 (by omega)
  rw [Nat.zero_mul, Nat.add_zero] at r0 l0
  have hlen : ((c.drop o).take sz).length = sz := by rw [List.length_take, List.length_drop]; omega
  rw [hlen] at l0
  obtain ⟨F1, rows, a1, rl, rq, r1⟩ := rd_rows (c := c) (sz := sz) (Q := Q) n (o + sz) (by omega) (fun i hi => by
   have := h (i + 1) (by omega)
   rw [Nat.succ_mul] at this
   rw [show o + sz + i * sz = o + (i * sz + sz) by omega]
   exact this)
  refine ⟨F0 ++ F1, d0 :: rows, a0.app a1, by simp [rl], fun r hr => ?_, ?_⟩
  ·rcases List.mem_cons.1 hr with rfl | hr
   ·exact ⟨l0, q0⟩
   ·exact rq r hr
  ·have e : (c.drop o).take ((n + 1) * sz) = (c.drop o).take sz ++ (c.drop (o + sz)).take (n * sz) := by
    rw [show (n + 1) * sz = sz + n * sz by rw [Nat.succ_mul]; omega, List.take_add, List.drop_drop]
   rw [e, List.flatten_cons]
   exact Rl_append r0 (by rw [l0, hlen]) r1
theorem rd_slice {t e : TypeId} {sz fuel : Nat} {held : Bool} {cs : List Value} {x : DataW H × List MemPlace} {Q : List DT → Prop} (ht : P.underlying t = some (.slice e)) (hsz : P.cellsOf e = sz) (h0 : 0 < sz)
  (rd : ∀ {fuel : Nat} {cs : List Value} {x : DataW H × List MemPlace}, DataW.trod enc P W 0 (fun _ => true) held fuel e cs = some x → Rd W cs Q)
  (hc : ∃ a len cap, cs = [.slice a len cap]) (h : DataW.trod enc P W 0 (fun _ => true) held fuel t cs = some x) :
  Rd W cs fun ds => ∃ rows : List (List DT), rows.length ≤ maxLen ∧ (∀ r ∈ rows, r.length = sz ∧ Q r) ∧ ds = [.s rows.flatten rows.length sz] := by
 obtain ⟨a, len, cap, rfl⟩ := hc
 rcases read_slice ht hsz h0 h with rfl | ⟨b, o, c, ty, fz, n, rfl, hl0, hlc, hcm, hb, hsize, hel⟩
 ·refine ⟨[], [.s [] 0 sz], AtRest.nil W, ⟨_, [], rfl, ?_, by simp [DT.Rl]⟩, rfl, [], by simp, by simp, rfl⟩
  simp only [DT.R]
  exact .inl ⟨trivial, a, cap, rfl⟩
 ·have hmul : len * sz ≤ cap * sz := Nat.mul_le_mul_right _ hlc
  obtain ⟨F, rows, aF, rl, rq, rr⟩ := rd_rows (W := W) (c := c.toList) (sz := sz) (Q := Q) len o (by simp; omega) (fun i hi => by
   obtain ⟨y, hy⟩ := hel i hi
   exact rd hy)
  have hfl : rows.flatten.length = len * sz := by
   rw [← rl]
   clear rr rl hmul
   induction rows with
   | nil => simp
   | cons r rows ih =>
    rw [List.flatten_cons, List.length_append, ih (fun s hs => rq s (List.mem_cons_of_mem _ hs)), (rq r (List.mem_cons_self ..)).1, List.length_cons, Nat.succ_mul]
    omega
  refine ⟨(b, c.toList) :: F, [.s rows.flatten rows.length sz], aF.cons hb, ⟨_, [], rfl, ?_, by simp [DT.Rl]⟩, rfl, rows, by omega, rq, rfl⟩
  simp only [DT.R]
  rw [rl]
  refine .inr ⟨hl0, b, o, cap, c.toList, rfl, hlc, hcm, List.mem_cons_self .., by simpa using hsize, hfl, ?_⟩
  have := (rr.mono (fun p hp => List.mem_cons_of_mem (b, c.toList) hp)).more (zs := (c.toList.drop o).drop (len * sz))
  rwa [List.take_append_drop] at this
def dI (z : Int) : DT := .v (.int .i64 z)
end
end
end Go.Ev
end

/-! FlA -/
section
namespace Ieee
theorem pow_pos2 (k : Nat) : 0 < 2 ^ k := Nat.two_pow_pos k
theorem log2_mul_pow {a : Nat} (h : a ≠ 0) (k : Nat) : (a * 2 ^ k).log2 = a.log2 + k := by
 have hp := pow_pos2 k
 have hne : a * 2 ^ k ≠ 0 := Nat.mul_ne_zero h (by omega)
 apply Nat.le_antisymm
 ·have h1 : a < 2 ^ (a.log2 + 1) := Nat.lt_log2_self
  have h2 : a * 2 ^ k < 2 ^ (a.log2 + k + 1) := by
   rw [show a.log2 + k + 1 = (a.log2 + 1) + k by omega, Nat.pow_add]
   exact Nat.mul_lt_mul_of_pos_right h1 hp
  have := (Nat.log2_lt hne).2 h2
  omega
 ·have h1 : 2 ^ a.log2 ≤ a := Nat.log2_self_le h
  have h2 : 2 ^ (a.log2 + k) ≤ a * 2 ^ k := by
   rw [Nat.pow_add]
   exact Nat.mul_le_mul_right _ h1
  exact (Nat.le_log2 hne).2 h2
theorem cut_exact (way : Toward) (neg : Bool) (a drop : Nat) : way.cut neg (a * 2 ^ drop) drop = a := by
 unfold Toward.cut
 by_cases ha : a = 0
 ·subst ha
  have hg : 0 < 1 <<< min drop (Nat.log2 (0 * 2 ^ drop) + 2) := by rw [Nat.one_shiftLeft]; exact pow_pos2 _
  simp only [Nat.zero_mul, Nat.zero_div, Nat.zero_mod] at hg ⊢
  cases way <;> simp <;> omega
 ·have hl : min drop ((a * 2 ^ drop).log2 + 2) = drop := by rw [log2_mul_pow ha]; omega
  have hp := pow_pos2 drop
  rw [hl, Nat.one_shiftLeft]
  have h1 : a * 2 ^ drop / 2 ^ drop = a := Nat.mul_div_cancel _ hp
  have h2 : a * 2 ^ drop % 2 ^ drop = 0 := Nat.mul_mod_left ..
  simp only [h1, h2]
  cases way <;> simp <;> omega
namespace Format
variable (f : Format)
def lastOf (a : Nat) (q : Int) : Int := max (q + a.log2 - f.fractionBits) f.leastPlace
def keptOf (a : Nat) (q : Int) : Nat := a * 2 ^ (q - f.lastOf a q).toNat
theorem nearest_exact (neg : Bool) {a : Nat} (ha : a ≠ 0) (k : Nat) (place : Int) (hF : a.log2 ≤ f.fractionBits) (hq : f.leastPlace ≤ place + k) :
  f.nearest neg (a * 2 ^ k) place = f.word neg (min ((f.lastOf a (place + k) - f.leastPlace).toNat * f.binade + f.keptOf a (place + k)) f.infRung) := by
 have hp := pow_pos2 k
 have hne : a * 2 ^ k ≠ 0 := Nat.mul_ne_zero ha (by omega)
 unfold nearest
 rw [if_neg hne]
 have hl : place + ((a * 2 ^ k).log2 : Int) - f.fractionBits = (place + k) + (a.log2 : Int) - f.fractionBits := by rw [log2_mul_pow ha]; omega
 simp only [hl]
 have e : max ((place + k) + (a.log2 : Int) - f.fractionBits) f.leastPlace = f.lastOf a (place + k) := rfl
 rw [e]
 have hle : f.lastOf a (place + k) ≤ place + k := by unfold lastOf; omega
 unfold keptOf
 generalize f.lastOf a (place + k) = last at hle ⊢
 congr 3
 by_cases h : last ≤ place
 ·have d0 : (last - place).toNat = 0 := by omega
  rw [d0]
  have := cut_exact .even neg ((a * 2 ^ k) <<< (place - last).toNat) 0
  rw [Nat.pow_zero, Nat.mul_one] at this
  rw [this, Nat.shiftLeft_eq, Nat.mul_assoc, ← Nat.pow_add]
  congr 2
  omega
 ·have d0 : (place - last).toNat = 0 := by omega
  rw [d0, Nat.shiftLeft_zero]
  have hk : k = (place + k - last).toNat + (last - place).toNat := by omega
  have : a * 2 ^ k = (a * 2 ^ (place + k - last).toNat) * 2 ^ (last - place).toNat := by
   rw [Nat.mul_assoc, ← Nat.pow_add, ← hk]
  rw [this, cut_exact]
theorem kept_lt {a : Nat} (ha : a ≠ 0) (q : Int) (hF : a.log2 ≤ f.fractionBits) (_hq : f.leastPlace ≤ q) : f.keptOf a q < 2 ^ (f.fractionBits + 1) := by
 have hp := pow_pos2 (q - f.lastOf a q).toNat
 have hne : f.keptOf a q ≠ 0 := Nat.mul_ne_zero ha (by omega)
 apply (Nat.log2_lt hne).1
 unfold keptOf
 rw [log2_mul_pow ha]
 unfold lastOf
 omega
theorem kept_ge {a : Nat} (ha : a ≠ 0) (q : Int) (hF : a.log2 ≤ f.fractionBits) (_hq : f.leastPlace ≤ q) (h : f.leastPlace < f.lastOf a q) : 2 ^ f.fractionBits ≤ f.keptOf a q := by
 have hp := pow_pos2 (q - f.lastOf a q).toNat
 have hne : f.keptOf a q ≠ 0 := Nat.mul_ne_zero ha (by omega)
 apply (Nat.le_log2 hne).1
 unfold keptOf
 rw [log2_mul_pow ha]
 unfold lastOf at h ⊢
 omega
theorem read_word (neg : Bool) {r : Nat} (hr : r < f.signWeight) : f.read (f.word neg r) =
  (if r < f.binade then .number neg r f.leastPlace else if r < f.infRung then .number neg (f.binade + r % f.binade) (f.leastPlace + (r / f.binade - 1 : Nat)) else if r = f.infRung then .infinity neg else .nan neg (r - f.infRung)) := by
 have h0 : 0 < f.signWeight := pow_pos2 _
 unfold read word
 cases neg with
 | false =>
  have h1 : r / f.signWeight = 0 := Nat.div_eq_of_lt hr
  have h2 : r % f.signWeight = r := Nat.mod_eq_of_lt hr
  simp [h1, h2]
 | true =>
  have h1 : (f.signWeight + r) / f.signWeight = 1 := by rw [Nat.add_div_left _ h0, Nat.div_eq_of_lt hr]
  have h2 : (f.signWeight + r) % f.signWeight = r := by rw [Nat.add_mod_left, Nat.mod_eq_of_lt hr]
  simp [h1, h2]
theorem read_nearest (neg : Bool) {a : Nat} (ha : a ≠ 0) (k : Nat) (place : Int) (hF : a.log2 ≤ f.fractionBits) (hq : f.leastPlace ≤ place + k)
  (hr : (f.lastOf a (place + k) - f.leastPlace).toNat * f.binade + f.keptOf a (place + k) < f.infRung) :
  f.read (f.nearest neg (a * 2 ^ k) place) = .number neg (f.keptOf a (place + k)) (f.lastOf a (place + k)) := by
 rw [nearest_exact f neg ha k place hF hq, Nat.min_eq_left (by omega)]
 have hin : f.infRung < f.signWeight := by
  unfold infRung signWeight binade
  rw [Nat.pow_add]
  have h1 := pow_pos2 f.exponentBits
  have h2 := pow_pos2 f.fractionBits
  exact Nat.mul_lt_mul_of_pos_right (by omega) h2
 rw [read_word f neg (by omega)]
 have hlt := kept_lt f ha (place + k) hF hq
 have hge := kept_ge f ha (place + k) hF hq
 have hle : f.leastPlace ≤ f.lastOf a (place + k) := by unfold lastOf; omega
 have hb : f.binade = 2 ^ f.fractionBits := rfl
 have hp := pow_pos2 f.fractionBits
 rw [Nat.pow_succ, ← hb] at hlt
 rw [← hb] at hge hp
 generalize f.keptOf a (place + k) = kept at *
 generalize f.lastOf a (place + k) = last at *
 by_cases h : kept < f.binade
 ·have hl : last = f.leastPlace := by
   rcases Int.lt_or_le f.leastPlace last with h1 | h1
   ·have := hge h1; omega
   ·omega
  subst hl
  simp [h]
 ·have e : (last - f.leastPlace).toNat * f.binade + kept = ((last - f.leastPlace).toNat + 1) * f.binade + (kept - f.binade) := by rw [Nat.succ_mul]; omega
  have hd : ((last - f.leastPlace).toNat * f.binade + kept) / f.binade = (last - f.leastPlace).toNat + 1 := by
   rw [e, Nat.mul_comm, Nat.mul_add_div hp, Nat.div_eq_of_lt (by omega), Nat.add_zero]
  have hm : ((last - f.leastPlace).toNat * f.binade + kept) % f.binade = kept - f.binade := by
   rw [e, Nat.mul_comm, Nat.mul_add_mod, Nat.mod_eq_of_lt (by omega)]
  rw [if_neg (by
   have : f.binade ≤ kept := by omega
   have := Nat.le_add_left kept ((last - f.leastPlace).toNat * f.binade)
   omega), if_pos hr, hd, hm]
  congr 1 <;> omega
end Format
end Ieee
end

/-! FlB -/
section
namespace Ieee
def EX : Nat := 1300
theorem EX_eq : EX = 1300 := rfl
def KK : Nat := 2 ^ EX
theorem KK_pos : 0 < KK := pow_pos2 _
theorem KK_eq : KK = 2 ^ EX := rfl
attribute [irreducible] EX KK
def sg (s : Bool) (n : Nat) : Int := if s then -(n : Int) else n
theorem signed_eq (s : Bool) (m u : Nat) : signed s m u = sg s (m * 2 ^ u) := by unfold signed sg; rw [Nat.shiftLeft_eq]
theorem sg_mul (s : Bool) (n c : Nat) : sg s (n * c) = sg s n * c := by cases s <;> simp [sg, Int.neg_mul]
theorem sg_natAbs (s : Bool) (n : Nat) : (sg s n).natAbs = n := by cases s <;> simp [sg]
def Num (f : Format) (b : Nat) (V : Int) : Prop := ∃ s m e, f.read b = .number s m e ∧ f.leastPlace ≤ e ∧ m < 2 ^ (f.fractionBits + 1) ∧ V = sg s (m * 2 ^ (e + EX).toNat)
structure Fit (f : Format) : Prop where
 lo : -1074 ≤ f.leastPlace
 le0 : f.leastPlace ≤ -140
 F : 2 ≤ f.fractionBits
 hi : f.leastPlace + f.fractionBits ≤ -120
theorem fit_single : Fit single := ⟨by decide, by decide, by decide, by decide⟩
theorem fit_double : Fit double := ⟨by decide, by decide, by decide, by decide⟩
theorem compare_mul (a b : Int) {c : Int} (hc : 0 < c) : compare (a * c) (b * c) = compare a b := by
 simp only [compare, compareOfLessAndEq]
 by_cases h : a < b
 ·rw [if_pos h, if_pos (Int.mul_lt_mul_of_pos_right h hc)]
 ·rw [if_neg h, if_neg fun h' => h (Int.lt_of_mul_lt_mul_right h' (Int.le_of_lt hc))]
  by_cases e : a = b
  ·rw [if_pos e, if_pos (by rw [e])]
  ·rw [if_neg e, if_neg fun h' => e (Int.eq_of_mul_eq_mul_right (by omega) h')]
theorem Num.order {f : Format} (hf : Fit f) {x y : Nat} {V W : Int} (hx : Num f x V) (hy : Num f y W) : f.order x y = some (compare V W) := by
 obtain ⟨s, m, i, h1, h2, _, rfl⟩ := hx
 obtain ⟨t, n, j, k1, k2, _, rfl⟩ := hy
 have := hf.lo
 have hX := EX_eq
 unfold Format.order Datum.order
 rw [h1, k1]
 simp only [signed_eq]
 have hX := EX_eq
 have e1 : (i + EX).toNat = (i - min i j).toNat + (min i j + EX).toNat := by omega
 have e2 : (j + EX).toNat = (j - min i j).toNat + (min i j + EX).toNat := by omega
 rw [e1, e2, Nat.pow_add, Nat.pow_add, ← Nat.mul_assoc, ← Nat.mul_assoc, sg_mul s (m * _), sg_mul t (n * _), compare_mul]
 have := pow_pos2 (min i j + EX).toNat
 omega
def Format.top (f : Format) : Int := f.leastPlace + (2 ^ f.exponentBits - 3 : Nat)
theorem top_single : single.top = 104 := by decide
theorem zero_read (f : Format) (s : Bool) : f.read (f.word s 0) = .number s 0 f.leastPlace := by
 rw [Format.read_word f s (pow_pos2 _), if_pos (show 0 < f.binade from pow_pos2 _)]
theorem num_nearest {f : Format} (hf : Fit f) (hE : 3 ≤ 2 ^ f.exponentBits) (s : Bool) {a k : Nat} {e : Int} (hF : a < 2 ^ (f.fractionBits + 1)) (hq : f.leastPlace ≤ e + k) (he : -(EX : Int) ≤ e) (hov : a = 0 ∨ e + k + a.log2 - f.fractionBits ≤ f.top) :
  Num f (f.nearest s (a * 2 ^ k) e) (sg s (a * 2 ^ k * 2 ^ (e + EX).toNat)) := by
 have hlo := hf.lo
 have hX := EX_eq
 by_cases ha : a = 0
 ·subst ha
  refine ⟨s, 0, f.leastPlace, ?_, Int.le_refl _, pow_pos2 _, by simp⟩
  unfold Format.nearest
  rw [if_pos (by simp), zero_read]
 ·have hov := hov.resolve_left ha
  have hl : a.log2 ≤ f.fractionBits := by have := (Nat.log2_lt ha).2 hF; omega
  have hkl := Format.kept_lt f ha (e + k) hl hq
  have hlast : f.lastOf a (e + k) ≤ e + k := by unfold Format.lastOf; omega
  have hlast2 : f.leastPlace ≤ f.lastOf a (e + k) := by unfold Format.lastOf; omega
  have hlast3 : f.lastOf a (e + k) ≤ f.top := by
   unfold Format.lastOf
   have : f.leastPlace ≤ f.top := by unfold Format.top; omega
   omega
  have hr : (f.lastOf a (e + k) - f.leastPlace).toNat * f.binade + f.keptOf a (e + k) < f.infRung := by
   have h1 : (f.lastOf a (e + k) - f.leastPlace).toNat ≤ 2 ^ f.exponentBits - 3 := by unfold Format.top at hlast3; omega
   have h2 : f.infRung = (2 ^ f.exponentBits - 3) * f.binade + 2 * f.binade := by
    unfold Format.infRung
    rw [← Nat.add_mul]
    congr 1
    omega
   have h3 : 2 ^ (f.fractionBits + 1) = 2 * f.binade := by unfold Format.binade; rw [Nat.pow_succ, Nat.mul_comm]
   have h4 := Nat.mul_le_mul_right f.binade h1
   omega
  refine ⟨s, _, _, Format.read_nearest f s ha k e hl hq hr, hlast2, hkl, ?_⟩
  congr 1
  unfold Format.keptOf
  rw [Nat.mul_assoc, ← Nat.pow_add, Nat.mul_assoc, ← Nat.pow_add]
  congr 2
  omega
theorem log_le {m n : Nat} (hm : m ≠ 0) (h : m < 2 ^ n) : m.log2 < n := (Nat.log2_lt hm).2 h
theorem read_cases {f : Format} (b : Nat) : (∃ s t, f.read b = .nan s t) ∨ (∃ s, f.read b = .infinity s) ∨ ∃ V, Num f b V := by
 have hp : 0 < f.binade := pow_pos2 _
 unfold Num
 cases h : f.read b with
 | nan s t => exact .inl ⟨_, _, rfl⟩
 | infinity s => exact .inr (.inl ⟨_, rfl⟩)
 | number s m e =>
  refine .inr (.inr ⟨_, s, m, e, rfl, ?_, ?_, rfl⟩)
  ·unfold Format.read at h
   simp only at h
   split at h
   ·simp only [Datum.number.injEq] at h; omega
   ·split at h
    ·simp only [Datum.number.injEq] at h; omega
    ·split at h <;> simp at h
  ·have h2 : 2 ^ (f.fractionBits + 1) = 2 * f.binade := by unfold Format.binade; rw [Nat.pow_succ, Nat.mul_comm]
   unfold Format.read at h
   simp only at h
   split at h
   ·simp only [Datum.number.injEq] at h; omega
   ·split at h
    ·simp only [Datum.number.injEq] at h
     have := Nat.mod_lt (b % f.signWeight) hp
     omega
    ·split at h <;> simp at h
theorem mag_lt {m : Nat} {e : Int} {n : Nat} (hm : m ≠ 0) (he : -(EX : Int) ≤ e) (h : m * 2 ^ (e + EX).toNat < 2 ^ n) : m.log2 + e + EX < n := by
 have hX := EX_eq
 have hne : m * 2 ^ (e + EX).toNat ≠ 0 := Nat.mul_ne_zero hm (by have := pow_pos2 (e + EX).toNat; omega)
 have := log_le hne h
 rw [log2_mul_pow hm] at this
 omega
theorem pow_mono {a b : Nat} (h : a ≤ b) : 2 ^ a ≤ 2 ^ b := Nat.pow_le_pow_right (by omega) h
theorem nearest_zero (f : Format) (s : Bool) (e e' : Int) : f.nearest s 0 e = f.nearest s 0 e' := by simp [Format.nearest]
theorem num_zero {f : Format} (hf : Fit f) (hE : 3 ≤ 2 ^ f.exponentBits) (s : Bool) (e : Int) : Num f (f.nearest s 0 e) 0 := by
 have hlo := hf.lo
 have hX := EX_eq
 have := num_nearest hf hE s (a := 0) (k := 0) (e := f.leastPlace) (pow_pos2 _) (by omega) (by omega) (.inl rfl)
 simp only [Nat.zero_mul] at this
 rw [nearest_zero f s e f.leastPlace]
 cases s <;> simpa [sg] using this
theorem Num.mul16 {f : Format} (hf : Fit f) (hE : 3 ≤ 2 ^ f.exponentBits) {c x : Nat} {V : Int} (hc : f.read c = .number false (2 ^ f.fractionBits) (4 - f.fractionBits)) (hF : f.fractionBits ≤ 100) (hx : Num f x V) {n : Nat} (hb : V.natAbs < 2 ^ n) (hn : (n : Int) ≤ 1297 + f.top + f.fractionBits) :
  ∃ r, f.mul c x = some r ∧ Num f r (16 * V) := by
 obtain ⟨s, m, e, h2, h3, h4, rfl⟩ := hx
 have hlo := hf.lo
 have hX := EX_eq
 unfold Format.mul Datum.product
 rw [hc, h2]
 simp only [Option.map_some, Format.write, Bool.false_xor]
 refine ⟨_, rfl, ?_⟩
 rw [Nat.mul_comm (2 ^ f.fractionBits) m]
 by_cases hm : m = 0
 ·subst hm
  have := num_zero hf hE s (4 - f.fractionBits + e)
  simpa [sg] using this
 ·rw [sg_natAbs] at hb
  have hl := mag_lt hm (by omega) hb
  have hk := num_nearest hf hE s (a := m) (k := f.fractionBits) (e := 4 - f.fractionBits + e) h4 (by omega) (by omega) (.inr (by omega))
  have e1 : sg s (m * 2 ^ f.fractionBits * 2 ^ (4 - (f.fractionBits : Int) + e + EX).toNat) = 16 * sg s (m * 2 ^ (e + EX).toNat) := by
   rw [Nat.mul_assoc, ← Nat.pow_add, show f.fractionBits + (4 - (f.fractionBits : Int) + e + EX).toNat = (e + EX).toNat + 4 by omega, Nat.pow_add, ← Nat.mul_assoc, sg_mul, Int.mul_comm]
   rfl
  rw [e1] at hk
  exact hk
theorem Num.widen {f g : Format} (hf : Fit f) (hg : Fit g) (hE : 3 ≤ 2 ^ g.exponentBits) (hF : f.fractionBits ≤ g.fractionBits) (hl : g.leastPlace ≤ f.leastPlace) {x : Nat} {V : Int} (hx : Num f x V) {n : Nat} (hb : V.natAbs < 2 ^ n) (hn : (n : Int) ≤ 1301 + g.top + g.fractionBits) :
  ∃ s m e, f.read x = .number s m e ∧ Num g (g.nearest s m e) V := by
 obtain ⟨s, m, e, h2, h3, h4, rfl⟩ := hx
 have hlo := hf.lo
 have hX := EX_eq
 refine ⟨s, m, e, h2, ?_⟩
 by_cases hm : m = 0
 ·subst hm
  have := num_zero hg hE s e
  simpa [sg] using this
 ·rw [sg_natAbs] at hb
  have hl := mag_lt hm (by omega) hb
  have hk := num_nearest hg hE s (a := m) (k := 0) (e := e) (Nat.lt_of_lt_of_le h4 (pow_mono (by omega))) (by omega) (by omega) (.inr (by omega))
  simpa using hk
theorem cut_zero (s : Bool) (n d : Nat) : Toward.cut .zero s n d = n / 2 ^ d := by
 unfold Toward.cut
 simp only [Bool.toNat_false, Nat.add_zero, Nat.one_shiftLeft]
 by_cases h : d ≤ n.log2 + 2
 ·rw [Nat.min_eq_left h]
 ·rw [Nat.min_eq_right (by omega)]
  have h1 : n < 2 ^ (n.log2 + 2) := Nat.lt_of_lt_of_le Nat.lt_log2_self (pow_mono (by omega))
  rw [Nat.div_eq_of_lt h1, Nat.div_eq_of_lt (Nat.lt_of_lt_of_le h1 (pow_mono (by omega)))]
theorem whole_eq (m : Nat) {e : Int} (he : -(EX : Int) ≤ e) : (m * 2 ^ e.toNat) / 2 ^ (-e).toNat = m * 2 ^ (e + EX).toNat / KK := by
 have hX := EX_eq
 rw [KK_eq]
 by_cases h : 0 ≤ e
 ·have h1 : (-e).toNat = 0 := by omega
  have h2 : (e + EX).toNat = e.toNat + EX := by omega
  rw [h1, h2, Nat.pow_zero, Nat.div_one, Nat.pow_add, ← Nat.mul_assoc, Nat.mul_div_cancel _ (pow_pos2 _)]
 ·have h1 : e.toNat = 0 := by omega
  have h2 : EX = (e + EX).toNat + (-e).toNat := by omega
  rw [h1, Nat.pow_zero, Nat.mul_one]
  conv => rhs; rw [show (2 : Nat) ^ EX = 2 ^ (-e).toNat * 2 ^ (e + EX).toNat by rw [← Nat.pow_add]; congr 1; omega]
  rw [Nat.mul_div_mul_right _ _ (pow_pos2 _)]
theorem sg_tdiv (s : Bool) (n c : Nat) : (sg s n).tdiv c = sg s (n / c) := by
 cases s
 ·simp [sg]
 ·simp [sg, Int.neg_tdiv]
theorem Num.toInt {f : Format} (hf : Fit f) {x : Nat} {V : Int} (hx : Num f x V) : (f.read x).toInt .zero = some (V.tdiv KK) := by
 obtain ⟨s, m, e, h2, h3, h4, rfl⟩ := hx
 have hlo := hf.lo
 have hX := EX_eq
 rw [h2]
 simp only [Datum.toInt, Datum.integral, signed_eq, cut_zero, Nat.shiftLeft_eq, Nat.pow_zero, Nat.mul_one]
 rw [whole_eq m (by omega), sg_tdiv]
theorem Num.whole {f : Format} (hf : Fit f) (hE : 3 ≤ 2 ^ f.exponentBits) {x : Nat} {V : Int} (hx : Num f x V) (ht : (f.fractionBits : Int) ≤ f.top) {n : Nat} (hb : V.natAbs < 2 ^ n) (hn : (n : Int) ≤ 1301 + f.top + f.fractionBits) : Num f (f.write ((f.read x).integral .zero)) (V.tdiv KK * KK) := by
 obtain ⟨s, m, e, h2, h3, h4, rfl⟩ := hx
 have hlo := hf.lo
 have hX := EX_eq
 rw [h2]
 simp only [Datum.integral, Format.write, cut_zero, Nat.shiftLeft_eq]
 rw [sg_tdiv, ← whole_eq m (by omega : -(EX : Int) ≤ e), ← sg_mul]
 by_cases h : 0 ≤ e
 ·have h1 : (-e).toNat = 0 := by omega
  rw [h1, Nat.pow_zero, Nat.div_one]
  have hle := hf.le0
  by_cases hm : m = 0
  ·subst hm
   simpa [sg] using num_zero hf hE s 0
  ·rw [sg_natAbs] at hb
   have hl := mag_lt hm (by omega) hb
   have := num_nearest hf hE s (a := m) (k := e.toNat) (e := 0) h4 (by omega) (by omega) (.inr (by omega))
   rw [KK_eq]
   simpa using this
 ·have h1 : e.toNat = 0 := by omega
  rw [h1, Nat.pow_zero, Nat.mul_one]
  generalize hi : m / 2 ^ (-e).toNat = i
  have hlt : i < 2 ^ (f.fractionBits + 1) := by rw [← hi]; exact Nat.lt_of_le_of_lt (Nat.div_le_self _ _) h4
  have hle := hf.le0
  by_cases hm : i = 0
  ·subst hm
   simpa [sg] using num_zero hf hE s 0
  ·have := (Nat.log2_lt hm).2 hlt
   have := num_nearest hf hE s (a := i) (k := 0) (e := 0) hlt (by omega) (by omega) (.inr (by omega))
   rw [KK_eq]
   simpa using this
theorem num_int {f : Format} (hf : Fit f) (hE : 3 ≤ 2 ^ f.exponentBits) (ht : (f.fractionBits : Int) ≤ f.top) (n : Int) (hn : n.natAbs < 2 ^ (f.fractionBits + 1)) : Num f (f.write (.number (n < 0) n.natAbs 0)) (n * KK) := by
 simp only [Format.write]
 have hle := hf.le0
 have e1 : sg (decide (n < 0)) n.natAbs = n := by
  unfold sg
  by_cases h : n < 0
  ·simp [h]; omega
  ·simp [h]; omega
 by_cases hm : n.natAbs = 0
 ·have : n = 0 := by omega
  subst this
  simpa using num_zero hf hE false 0
 ·have := (Nat.log2_lt hm).2 hn
  have := num_nearest hf hE (decide (n < 0)) (a := n.natAbs) (k := 0) (e := 0) hn (by omega) (by omega) (.inr (by omega))
  simp only [Nat.pow_zero, Nat.mul_one] at this
  rw [sg_mul, e1] at this
  rw [KK_eq]
  simpa using this
theorem Num.div16 {f : Format} (hf : Fit f) (hE : 3 ≤ 2 ^ f.exponentBits) {c x : Nat} {V W : Int} (hc : f.read c = .number false (2 ^ f.fractionBits) (4 - f.fractionBits)) (hF : f.fractionBits ≤ 100) (hx : Num f x V) (hV : V = 16 * W) (hs : V ≠ 0 → 2 ^ (EX - 10) < V.natAbs) (_ht : (f.fractionBits : Int) ≤ f.top) {n : Nat} (hb : V.natAbs < 2 ^ n) (hn : (n : Int) ≤ 1305 + f.top + f.fractionBits) :
  ∃ r, f.div x c = some r ∧ Num f r W := by
 obtain ⟨s, m, e, h2, h3, h4, hVe⟩ := hx
 have hlo := hf.lo
 have hX := EX_eq
 have hhi := hf.hi
 have hle := hf.le0
 have hF2 := hf.F
 unfold Format.div Datum.quotient
 rw [hc, h2]
 have hp := pow_pos2 f.fractionBits
 have hpn : (2 : Nat) ^ f.fractionBits ≠ 0 := by omega
 simp only [if_neg hpn, Option.map_some, Bool.xor_false, Format.write, Nat.log2_two_pow, Nat.shiftLeft_eq]
 refine ⟨_, rfl, ?_⟩
 by_cases hm : m = 0
 ·subst hm
  have hV0 : V = 0 := by rw [hVe]; cases s <;> simp [sg]
  have hW : W = 0 := by omega
  subst hW
  simpa using num_zero hf hE s _
 ·have hVa : V.natAbs = m * 2 ^ (e + EX).toNat := by rw [hVe, sg_natAbs]
  have hV0 : V ≠ 0 := by
   intro h
   rw [h] at hVa
   have h1 : m * 2 ^ (e + EX).toNat ≠ 0 := Nat.mul_ne_zero hm (by have := pow_pos2 (e + EX).toNat; omega)
   exact h1 hVa.symm
  have hl := mag_lt hm (show -(EX : Int) ≤ e by omega) (by rw [← hVa]; exact hb)
  have hml := (Nat.log2_lt hm).2 h4
  have hlow : (EX - 10 : Nat) ≤ m.log2 + e + EX := by
   have h1 := hs hV0
   rw [hVa] at h1
   have h2 : m * 2 ^ (e + EX).toNat < 2 ^ (m.log2 + 1 + (e + EX).toNat) := by
    rw [Nat.pow_add]
    exact Nat.mul_lt_mul_of_pos_right Nat.lt_log2_self (pow_pos2 _)
   have h3 := (Nat.pow_lt_pow_iff_right (a := 2) (by omega)).1 (Nat.lt_trans h1 h2)
   omega
  have e1 : m * 2 ^ (f.fractionBits + 2 + f.fractionBits - m.log2) / 2 ^ f.fractionBits = m * 2 ^ (f.fractionBits + 2 - m.log2) := by
   rw [show f.fractionBits + 2 + f.fractionBits - m.log2 = (f.fractionBits + 2 - m.log2) + f.fractionBits by omega, Nat.pow_add, ← Nat.mul_assoc, Nat.mul_div_cancel _ hp]
  have e2 : m * 2 ^ (f.fractionBits + 2 + f.fractionBits - m.log2) % 2 ^ f.fractionBits = 0 := by
   rw [show f.fractionBits + 2 + f.fractionBits - m.log2 = (f.fractionBits + 2 - m.log2) + f.fractionBits by omega, Nat.pow_add, ← Nat.mul_assoc, Nat.mul_mod_left]
  rw [e1, e2]
  have e3 : 2 * (m * 2 ^ (f.fractionBits + 2 - m.log2)) + ((0 : Nat) != 0).toNat = m * 2 ^ (f.fractionBits + 3 - m.log2) := by
   rw [show f.fractionBits + 3 - m.log2 = (f.fractionBits + 2 - m.log2) + 1 by omega, Nat.pow_succ]
   simp
   rw [Nat.mul_left_comm, Nat.mul_comm 2 (2 ^ _)]
  rw [e3]
  have hk := num_nearest hf hE s (a := m) (k := f.fractionBits + 3 - m.log2) (e := e - (4 - (f.fractionBits : Int)) - ((f.fractionBits + 2 + f.fractionBits - m.log2 : Nat) : Int) - 1) h4 (by omega) (by omega) (.inr (by omega))
  have hW : sg s (m * 2 ^ (f.fractionBits + 3 - m.log2) * 2 ^ (e - (4 - (f.fractionBits : Int)) - ((f.fractionBits + 2 + f.fractionBits - m.log2 : Nat) : Int) - 1 + EX).toNat) = W := by
   have h16 : 16 * sg s (m * 2 ^ (f.fractionBits + 3 - m.log2) * 2 ^ (e - (4 - (f.fractionBits : Int)) - ((f.fractionBits + 2 + f.fractionBits - m.log2 : Nat) : Int) - 1 + EX).toNat) = 16 * W := by
    rw [← hV, hVe, Nat.mul_assoc, ← Nat.pow_add, show (e + EX).toNat = (f.fractionBits + 3 - m.log2 + (e - (4 - (f.fractionBits : Int)) - ((f.fractionBits + 2 + f.fractionBits - m.log2 : Nat) : Int) - 1 + EX).toNat) + 4 by omega, Nat.pow_add (n := 4), ← Nat.mul_assoc, sg_mul s (m * _) (2 ^ 4), Int.mul_comm]
    rfl
   omega
  rw [hW] at hk
  exact hk
end Ieee
end

/-! FlC -/
section
namespace Ieee
theorem word_lt (f : Format) (_hE : 1 ≤ f.exponentBits) (s : Bool) {r : Nat} (hr : r < f.signWeight) : f.word s r < 2 * f.signWeight := by
 unfold Format.word
 split <;> omega
theorem inf_lt (f : Format) : f.infRung + f.binade ≤ f.signWeight := by
 unfold Format.infRung Format.signWeight Format.binade
 rw [Nat.pow_add, Nat.sub_mul, Nat.one_mul]
 have := pow_pos2 f.exponentBits
 have := Nat.mul_le_mul_right (2 ^ f.fractionBits) this
 omega
theorem write_lt (f : Format) (hE : 1 ≤ f.exponentBits) (d : Datum) : f.write d < 2 * f.signWeight := by
 have h1 := inf_lt f
 have h2 : 0 < f.binade := pow_pos2 _
 unfold Format.write
 cases d with
 | number s m e =>
  simp only
  unfold Format.nearest
  split
  ·exact word_lt f hE s (by omega)
  ·exact word_lt f hE s (by omega)
 | infinity s => exact word_lt f hE s (by omega)
 | nan s t =>
  have := Nat.mod_lt t h2
  exact word_lt f hE s (by omega)
theorem mul_lt {f : Format} (hE : 1 ≤ f.exponentBits) {a b r : Nat} (h : f.mul a b = some r) : r < 2 * f.signWeight := by
 unfold Format.mul at h
 obtain ⟨d, _, rfl⟩ := Option.map_eq_some_iff.1 h
 exact write_lt f hE d
theorem read_bound {f : Format} (hf : Fit f) (hE : 3 ≤ 2 ^ f.exponentBits) {b : Nat} {V : Int} (h : Num f b V) : V.natAbs ≤ (2 ^ (f.fractionBits + 1) - 1) * 2 ^ (f.top + EX).toNat := by
 obtain ⟨s, m, e, h1, h2, h3, rfl⟩ := h
 have hX := EX_eq
 have hlo := hf.lo
 rw [sg_natAbs]
 have he : e ≤ f.top := by
  have hp : 0 < f.binade := pow_pos2 _
  unfold Format.read at h1
  simp only at h1
  split at h1
  ·simp only [Datum.number.injEq] at h1
   unfold Format.top
   omega
  ·split at h1
   ·rename_i hr
    simp only [Datum.number.injEq] at h1
    have h4 : b % f.signWeight / f.binade < 2 ^ f.exponentBits - 1 := by
     apply Nat.div_lt_of_lt_mul
     unfold Format.infRung at hr
     rw [Nat.mul_comm]
     exact hr
    unfold Format.top
    omega
   ·split at h1 <;> simp at h1
 exact Nat.mul_le_mul (by omega) (pow_mono (by omega))
theorem Num.abs {f : Format} {b : Nat} {V : Int} (h : Num f b V) : Num f (b % f.signWeight) V.natAbs := by
 obtain ⟨s, m, e, h1, h2, h3, rfl⟩ := h
 have h0 : 0 < f.signWeight := pow_pos2 _
 refine ⟨false, m, e, ?_, h2, h3, by rw [sg_natAbs]; rfl⟩
 unfold Format.read at h1 ⊢
 have e1 : b % f.signWeight / f.signWeight = 0 := Nat.div_eq_of_lt (Nat.mod_lt _ h0)
 simp only [e1, Nat.mod_mod] at h1 ⊢
 split at h1
 ·rename_i hr
  rw [if_pos hr]
  simp only [Datum.number.injEq] at h1 ⊢
  exact ⟨rfl, h1.2⟩
 ·rename_i hr
  rw [if_neg hr]
  split at h1
  ·rename_i hr2
   rw [if_pos hr2]
   simp only [Datum.number.injEq] at h1 ⊢
   exact ⟨rfl, h1.2⟩
  ·split at h1 <;> simp at h1
theorem Num.notNaN {f : Format} {b : Nat} {V : Int} (h : Num f b V) : (f.read b).isNaN = false := by
 obtain ⟨s, m, e, h1, _⟩ := h
 rw [h1]; rfl
theorem Num.same {f : Format} {b : Nat} {V W : Int} (h : Num f b V) (k : Num f b W) : V = W := by
 obtain ⟨s, m, e, h1, _, _, rfl⟩ := h
 obtain ⟨t, n, d, k1, _, _, rfl⟩ := k
 rw [h1] at k1
 simp only [Datum.number.injEq] at k1
 obtain ⟨rfl, rfl, rfl⟩ := k1
 rfl
def finW (b : Nat) : Int := match single.read b with
 | .number .. => 0
 | _ => 1
def valW (b : Nat) : Int := match single.read b with
 | .number s m e => sg s (m * 2 ^ (e + EX).toNat)
 | _ => 0
def mulW (L : Nat) (b : Nat) : Int := if finW b = 0 ∧ (16 * valW b) % KK = 0 ∧ (valW b).natAbs ≤ L * KK then 0 else 3
def chkW (L : Nat) (b : Nat) : Int := if finW b = 0 then mulW L b else 1
def intW (b : Nat) : Int := (16 * valW b).tdiv KK
theorem finW_num {b : Nat} {V : Int} (h : Num single b V) : finW b = 0 ∧ valW b = V := by
 obtain ⟨s, m, e, h1, _, _, rfl⟩ := h
 unfold finW valW
 rw [h1]
 exact ⟨rfl, rfl⟩
theorem num_finW {b : Nat} (h : finW b = 0) : Num single b (valW b) := by
 rcases read_cases (f := single) b with ⟨s, t, h1⟩ | ⟨s, h1⟩ | ⟨V, h1⟩
 ·unfold finW at h; rw [h1] at h; simp at h
 ·unfold finW at h; rw [h1] at h; simp at h
 ·rw [(finW_num h1).2]; exact h1
theorem finW_or (b : Nat) : finW b = 0 ∨ finW b = 1 := by
 unfold finW
 split <;> simp
theorem mulW_or (L b : Nat) : mulW L b = 0 ∨ mulW L b = 3 := by
 unfold mulW
 split <;> simp
theorem chk_zero {L b : Nat} (h : chkW L b = 0) : Num single b (valW b) ∧ 16 * valW b = intW b * KK ∧ (intW b).natAbs ≤ 16 * L := by
 unfold chkW at h
 split at h
 ·rename_i hf
  unfold mulW at h
  split at h
  ·rename_i hm
   obtain ⟨_, h1, h2⟩ := hm
   have hk := KK_pos
   have he : 16 * valW b = intW b * KK := by
    unfold intW
    rw [Int.mul_comm _ (KK : Int)]
    exact (Int.mul_tdiv_cancel' (Int.dvd_of_emod_eq_zero h1)).symm
   refine ⟨num_finW hf, he, ?_⟩
   have h3 : 16 * (valW b).natAbs = (intW b).natAbs * KK := by
    have := congrArg Int.natAbs he
    rw [Int.natAbs_mul, Int.natAbs_mul] at this
    simpa using this
   have h4 : (intW b).natAbs * KK ≤ (16 * L) * KK := by
    rw [← h3, Nat.mul_assoc]
    exact Nat.mul_le_mul_left 16 h2
   exact Nat.le_of_mul_le_mul_right h4 hk
  ·simp at h
 ·simp at h
theorem KK_pow (n : Nat) {e : Nat} (he : n < 2 ^ e) : n * KK < 2 ^ (e + EX) := by
 rw [KK_eq, Nat.pow_add]
 exact Nat.mul_lt_mul_of_pos_right he (pow_pos2 _)
theorem mul_int {L b : Nat} (hL : L ≤ 2 ^ 20) (h : chkW L b = 0) : ∃ r, single.mul 1098907648 b = some r ∧ (single.read r).toInt .zero = some (intW b) ∧ Num single r (intW b * KK) := by
 obtain ⟨h1, h2, h3⟩ := chk_zero h
 have hX := EX_eq
 have hb : (valW b).natAbs < 2 ^ (25 + EX) := by
  have e : 16 * (valW b).natAbs = (intW b).natAbs * KK := by
   have := congrArg Int.natAbs h2
   rw [Int.natAbs_mul, Int.natAbs_mul] at this
   simpa using this
  have := KK_pow (intW b).natAbs (e := 25) (by omega)
  omega
 obtain ⟨r, hr, hn⟩ := h1.mul16 fit_single (by decide) (c := 1098907648) (by decide) (by decide) hb (by rw [top_single, hX]; decide)
 rw [h2] at hn
 refine ⟨r, hr, ?_, hn⟩
 rw [hn.toInt fit_single]
 have hk := KK_pos
 rw [Int.mul_tdiv_cancel _ (by omega)]
def smpW (n : Int) : Nat := (single.div (single.write (.number (n < 0) n.natAbs 0)) 1098907648).getD 0
theorem smp_num {n : Int} (hn : n.natAbs < 2 ^ 24) : ∃ W : Int, 16 * W = n * KK ∧ single.div (single.write (.number (n < 0) n.natAbs 0)) 1098907648 = some (smpW n) ∧ Num single (smpW n) W := by
 have hX := EX_eq
 have hk := KK_pos
 have h1 := num_int fit_single (by decide) (by decide) n hn
 have hK16 : ∃ q, KK = 16 * q ∧ 2 ^ (EX - 10) < 16 * q := by
  refine ⟨2 ^ (EX - 4), ?_, ?_⟩
  ·rw [KK_eq, show (16 : Nat) = 2 ^ 4 from rfl, ← Nat.pow_add]
   congr 1
   omega
  ·rw [show (16 : Nat) = 2 ^ 4 from rfl, ← Nat.pow_add]
   exact Nat.pow_lt_pow_right (by omega) (by omega)
 obtain ⟨q, hq, hq2⟩ := hK16
 have hb : (n * (KK : Int)).natAbs < 2 ^ (24 + EX) := by
  rw [Int.natAbs_mul]
  exact KK_pow n.natAbs hn
 have e16 : n * (KK : Int) = 16 * (n * (q : Int)) := by
  rw [hq]
  push_cast
  rw [Int.mul_left_comm]
 obtain ⟨r, hr, hW⟩ := h1.div16 fit_single (by decide) (c := 1098907648) (W := n * (q : Int)) (by decide) (by decide) e16 (fun h0 => by
  rw [Int.natAbs_mul]
  have hn0 : n ≠ 0 := fun e => by rw [e] at h0; simp at h0
  have : 1 ≤ n.natAbs := by omega
  have := Nat.mul_le_mul_right KK this
  show 2 ^ (EX - 10) < n.natAbs * KK
  omega) (by decide) hb (by rw [top_single, hX]; decide)
 have e : smpW n = r := by unfold smpW; rw [hr]; rfl
 rw [e]
 exact ⟨_, e16.symm, hr, hW⟩
theorem smp_chk {n : Int} {L : Nat} (hn : n.natAbs ≤ 16 * L) (hL : L ≤ 2 ^ 19) : chkW L (smpW n) = 0 ∧ intW (smpW n) = n := by
 obtain ⟨V, h1, _, h2⟩ := smp_num (n := n) (by omega)
 obtain ⟨e1, e2⟩ := finW_num h2
 have hk := KK_pos
 have hi : intW (smpW n) = n := by
  unfold intW
  rw [e2, h1, Int.mul_tdiv_cancel _ (by omega)]
 refine ⟨?_, hi⟩
 unfold chkW mulW
 rw [if_pos e1, if_pos]
 refine ⟨e1, ?_, ?_⟩
 ·rw [e2, h1]; exact Int.mul_emod_left _ _
 ·rw [e2]
  have e : 16 * V.natAbs = n.natAbs * KK := by
   have := congrArg Int.natAbs h1
   rw [Int.natAbs_mul, Int.natAbs_mul] at this
   simpa using this
  have := Nat.mul_le_mul_right KK hn
  rw [Nat.mul_assoc] at this
  omega
end Ieee
end

/-! SeFl -/
section
open Go Go.Ev
namespace Go.Proofs.YtbmcfhkedgpldaaGreatDoor
noncomputable section
abbrev fC (b : Nat) : AC := .v (.float .f32 b)
abbrev dC (b : Nat) : AC := .v (.float .f64 b)
def nanP (k : FloatKind) (y : Value) : Prop := ∃ b, y = .float k b ∧ (k.format.read b).isNaN = true
def nanD : AC := .any (nanP .f64)
theorem cr_nan {m : M} {b : Nat} (h : (Ieee.double.read b).isNaN = true) : CR m nanD (.float .f64 b) := ⟨⟨b, rfl, h⟩, rfl, fun _ h => by cases h⟩
theorem nan_of {m : M} {p : Value} (h : CR m nanD p) : ∃ b, p = .float .f64 b ∧ (Ieee.double.read b).isNaN = true := h.1
theorem isNaN_order {f : Ieee.Format} {x y : Nat} (h : (f.read x).isNaN = true) : f.order x y = none := by
 unfold Ieee.Format.order
 cases hx : f.read x <;> rw [hx] at h <;> simp [Ieee.Datum.isNaN] at h
 simp [Ieee.Datum.order]
theorem isNaN_product {d e : Ieee.Datum} (h : e.isNaN = true) : d.product e = none := by
 cases e <;> simp [Ieee.Datum.isNaN] at h
 cases d <;> simp [Ieee.Datum.product]
theorem chosen_nan (t : Nat) : (Ieee.double.read ((t % 2) * 2 ^ 63 + 0x7ff0000000000000 + 1 + (t / 2) % (2 ^ 52 - 1))).isNaN = true := by
 have h1 : t % 2 < 2 := Nat.mod_lt _ (by omega)
 have h2 : t / 2 % (2 ^ 52 - 1) < 2 ^ 52 - 1 := Nat.mod_lt _ (by omega)
 generalize t / 2 % (2 ^ 52 - 1) = q at h2
 generalize t % 2 = s at h1
 have e1 : Ieee.double.signWeight = 9223372036854775808 := by decide
 have e2 : Ieee.double.binade = 4503599627370496 := by decide
 have e3 : Ieee.double.infRung = 9218868437227405312 := by decide
 have hm : (s * 2 ^ 63 + 0x7ff0000000000000 + 1 + q) % Ieee.double.signWeight = 9218868437227405313 + q := by rw [e1]; omega
 unfold Ieee.Format.read
 rw [hm, e2, e3]
 simp only
 rw [if_neg (by omega), if_neg (by omega), if_neg (by omega)]
 rfl
theorem run_choose {P : Program} {q : Question} {w : World} (hq : q.forced = false) : (choose q).run P w = .ok (q.cut (w.tape w.drawn q)) { w with drawn := w.drawn + 1 } := by
 simp [choose, Sem.run, hq]
theorem run_conv64 {P : Program} {s d : TypeId} (hs : P.underlying s = some (.float .f32)) (hd : P.underlying d = some (.float .f64)) (b : Nat) (w : World) : (convert s d (.float .f32 b)).run P w = (Conv.floatToFloat .f32 b .f64).run P w := by
 simp only [convert, Sem.run_bind, run_underlying hs, run_underlying hd, Result.andThen_ok]
theorem conv_nan {P : Program} {s d : TypeId} (hs : P.underlying s = some (.float .f32)) (hd : P.underlying d = some (.float .f64)) {b : Nat} (h : (Ieee.single.read b).isNaN = true) : ConvOk P s d (fC b) nanD := by
 intro m p w hp
 obtain rfl : p = .float .f32 b := hp
 refine ⟨_, w.drawn + 1, ?_, cr_nan (chosen_nan (w.tape w.drawn (.nanConv .f64 b)))⟩
 rw [run_conv64 hs hd]
 unfold Conv.floatToFloat
 rw [if_neg (by decide)]
 have hx : ∃ u t, FloatKind.f32.decode b = .nan u t := by
  show ∃ u t, Ieee.single.read b = .nan u t
  cases hx : Ieee.single.read b <;> rw [hx] at h <;> simp [Ieee.Datum.isNaN] at h
  exact ⟨_, _, rfl⟩
 obtain ⟨u, t, hx⟩ := hx
 rw [hx]
 simp only [Sem.run_bind, run_choose (q := .nanConv .f64 b) rfl, Result.andThen_ok]
 rfl
theorem conv_inf {P : Program} {s d : TypeId} (hs : P.underlying s = some (.float .f32)) (hd : P.underlying d = some (.float .f64)) {b : Nat} {u : Bool} (h : Ieee.single.read b = .infinity u) : ConvOk P s d (fC b) (dC (Ieee.double.word u Ieee.double.infRung)) := by
 intro m p w hp
 obtain rfl : p = .float .f32 b := hp
 refine ⟨_, w.drawn, ?_, rfl⟩
 rw [run_conv64 hs hd]
 unfold Conv.floatToFloat
 rw [if_neg (by decide), show FloatKind.f32.decode b = .infinity u from h]
 rfl
theorem c16_double : Ieee.double.read 4625196817309499392 = .number false (2 ^ Ieee.double.fractionBits) (4 - Ieee.double.fractionBits) := by decide
theorem c16_single : Ieee.single.read 1098907648 = .number false (2 ^ Ieee.single.fractionBits) (4 - Ieee.single.fractionBits) := by decide
theorem run_mul {P : Program} {t : TypeId} {x z : Operand} {k : FloatKind} {a b : Nat} (w : World) : (do eqGuard .mul t x z (.float k a) (.float k b); binOp .mul t (.float k a) (.float k b) : Sem Value).run P w = (Op.floatArith .mul k a b).run P w := by
 simp [eqGuard, binOp]
theorem mul_nan {P : Program} {t : TypeId} {x z : Operand} {a : Nat} : BinOk P .mul t x z (dC a) nanD nanD := by
 intro m p q w hp hq
 obtain rfl : p = .float .f64 a := hp
 obtain ⟨b, rfl, h⟩ := nan_of hq
 refine ⟨_, w.drawn + 1, ?_, cr_nan (chosen_nan (w.tape w.drawn (.nanBits .f64 a b)))⟩
 rw [run_mul]
 have h1 : FloatKind.f64.format.mul a b = none := by
  show Ieee.Format.mul Ieee.double a b = none
  unfold Ieee.Format.mul
  rw [isNaN_product h]
  rfl
 simp only [Op.floatArith, pure_bind, h1]
 simp only [Sem.run_bind, run_choose (q := .nanBits .f64 a b) rfl, Result.andThen_ok]
 rfl
theorem mul_ok {P : Program} {t : TypeId} {x z : Operand} {k : FloatKind} {a b r : Nat} (h : k.format.mul a b = some r) : BinOk P .mul t x z (.v (.float k a)) (.v (.float k b)) (.v (.float k r)) := by
 intro m p q w hp hq
 obtain rfl : p = .float k a := hp
 obtain rfl : q = .float k b := hq
 refine ⟨_, w.drawn, ?_, rfl⟩
 rw [run_mul]
 simp only [Op.floatArith, pure_bind, h]
 rfl
theorem quo_ok {P : Program} {t : TypeId} {x z : Operand} {k : FloatKind} {a b r : Nat} (h : k.format.div a b = some r) : BinOk P .quo t x z (.v (.float k a)) (.v (.float k b)) (.v (.float k r)) := by
 intro m p q w hp hq
 obtain rfl : p = .float k a := hp
 obtain rfl : q = .float k b := hq
 refine ⟨_, w.drawn, ?_, rfl⟩
 have : (do eqGuard .quo t x z (.float k a) (.float k b); binOp .quo t (.float k a) (.float k b) : Sem Value).run P w = (Op.floatArith .quo k a b).run P w := by simp [eqGuard, binOp]
 rw [this]
 simp only [Op.floatArith, pure_bind, h]
 rfl
theorem neq_nan {P : Program} {t : TypeId} {x z : Operand} : BinOk P .neq t x z nanD nanD (.v (.bool true)) := by
 intro m p q w hp hq
 obtain ⟨a, rfl, h⟩ := nan_of hp
 obtain ⟨b, rfl, _⟩ := nan_of hq
 refine ⟨_, w.drawn, ?_, rfl⟩
 have ho : FloatKind.f64.format.order a b = none := isNaN_order (f := Ieee.double) h
 simp [eqGuard, binOp, Op.floatCmp, ho]
theorem andNot_ok {P : Program} {t : TypeId} {x z : Operand} {r : Nat} (h : r < 2 ^ 64) : BinOk P .andNot t x z (.v (.int .u64 r)) (.v (.int .u64 9223372036854775808)) (.v (.int .u64 (Int.ofNat (r % 2 ^ 63)))) := by
 intro m p q w hp hq
 obtain rfl : p = .int .u64 r := hp
 obtain rfl : q = .int .u64 9223372036854775808 := hq
 refine ⟨_, w.drawn, ?_, rfl⟩
 have e1 : (do eqGuard .andNot t x z (.int .u64 r) (.int .u64 9223372036854775808); binOp .andNot t (.int .u64 r) (.int .u64 9223372036854775808) : Sem Value) = Op.intBits .andNot .u64 r 9223372036854775808 := by simp [eqGuard, binOp]
 have e2 : (BitVec.ofInt 64 (r : Int) &&& ~~~ BitVec.ofInt 64 9223372036854775808).toNat = r % 2 ^ 63 := by
  have h2 : ~~~ BitVec.ofInt 64 9223372036854775808 = BitVec.ofNat 64 (2 ^ 63 - 1) := by decide
  have h3 : 2 ^ 63 - 1 < (2 : Nat) ^ 64 := by decide
  rw [h2, BitVec.toNat_and, BitVec.ofInt_natCast, BitVec.toNat_ofNat, BitVec.toNat_ofNat, Nat.mod_eq_of_lt h, Nat.mod_eq_of_lt h3]
  exact Nat.and_two_pow_sub_one_eq_mod r 63
 rw [e1]
 show Result.ok (Value.int .u64 (IntKind.wrap .u64 ((BitVec.ofInt 64 (r : Int) &&& ~~~ BitVec.ofInt 64 9223372036854775808).toNat : Int))) w = _
 rw [e2]
 have h4 : r % 2 ^ 63 < 2 ^ 63 := Nat.mod_lt _ (by decide)
 have e3 : IntKind.wrap .u64 ((r % 2 ^ 63 : Nat) : Int) = ((r % 2 ^ 63 : Nat) : Int) := by
  rw [IntKind.wrap_u64]
  omega
 rw [e3]
 rfl
theorem conv_int {P : Program} {s d : TypeId} {k : FloatKind} {j : IntKind} (hs : P.underlying s = some (.int j)) (hd : P.underlying d = some (.float k)) (n : Int) : ConvOk P s d (.v (.int j n)) (.v (.float k (k.nearest n))) := by
 intro m p w hp
 obtain rfl : p = .int j n := hp
 refine ⟨_, w.drawn, ?_, rfl⟩
 simp only [convert, Sem.run_bind, run_underlying hs, run_underlying hd, Result.andThen_ok]
 rfl
theorem conv_toInt {P : Program} {s d : TypeId} {k : FloatKind} (hs : P.underlying s = some (.float k)) (hd : P.underlying d = some (.int .i64)) {b : Nat} {n : Int} (h : (k.format.read b).toInt .zero = some n) (h0 : -9223372036854775808 ≤ n) (h1 : n ≤ 9223372036854775807) : ConvOk P s d (.v (.float k b)) (.v (.int .i64 n)) := by
 intro m p w hp
 obtain rfl : p = .float k b := hp
 refine ⟨_, w.drawn, ?_, rfl⟩
 simp only [convert, Sem.run_bind, run_underlying hs, run_underlying hd, Result.andThen_ok, Conv.floatToInt]
 rw [show (k.decode b).toInt .zero = some n from h]
 simp only
 rw [if_pos ⟨h0, h1⟩]
 rfl
theorem ext_trunc (ps : Array Value) (w : World) : (callFunc 170 ps).run E.P w = ((Extern.MathFloor.toIntegral "math.archTrunc" .zero ps).run E.P w).andThen fun v w' => .ok (.value v) w' :=
 run_callFunc_extern Tryz.func170 (by kernel_rfl) (by kernel_rfl) (by kernel_rfl) (e := Extern.MathFloor.toIntegral "math.archTrunc" .zero) (by kernel_rfl) ps w
theorem toIntegral_eq (n : String) (way : Ieee.Toward) (b : Nat) : Extern.MathFloor.toIntegral n way #[.float .f64 b] = (match FloatKind.f64.decode b with
  | .nan s t =>
   if FloatKind.f64.format.quiet t = t then pure (.float .f64 b) else do
   let kept ← choose (.extern "math.Floor,Ceil,Trunc,RoundToEven.signallingNaN kept" 2)
   pure (.float .f64 (if kept == 1 then b else FloatKind.f64.encode (.nan s (FloatKind.f64.format.quiet t))))
  | d => pure (.float .f64 (FloatKind.f64.encode (d.integral way)))) := rfl
theorem args_one {m : M} {x : AC} {ps : Array Value} (h : All2 (VR m) [.e (.one x)] ps.toList) : ∃ y, ps = #[y] ∧ CR m x y := by
 obtain ⟨l⟩ := ps
 match l, h with
 | [y], h => exact ⟨y, rfl, h.1⟩
theorem quiet_nan {b : Nat} {u : Bool} {t : Nat} (h : Ieee.double.read b = .nan u t) : (Ieee.double.read (Ieee.double.write (.nan u (Ieee.double.quiet t)))).isNaN = true := by
 have hb : t < 2 ^ 52 := by
  unfold Ieee.Format.read at h
  simp only at h
  split at h
  ·simp at h
  ·split at h
   ·simp at h
   ·split at h
    ·simp at h
    ·simp only [Ieee.Datum.nan.injEq] at h
     have e1 : Ieee.double.signWeight = 9223372036854775808 := by decide
     have e3 : Ieee.double.infRung = 9218868437227405312 := by decide
     have := Nat.mod_lt b (show 0 < Ieee.double.signWeight by rw [e1]; omega)
     rw [e1] at this h
     rw [e3] at h
     omega
 have hq : Ieee.double.quiet t < 2 ^ 52 := Nat.or_lt_two_pow hb (by decide)
 have hq0 : 2 ^ 51 ≤ Ieee.double.quiet t := Nat.right_le_or
 show (Ieee.double.read (Ieee.double.word u (Ieee.double.infRung + Ieee.double.quiet t % Ieee.double.binade))).isNaN = true
 have e1 : Ieee.double.signWeight = 9223372036854775808 := by decide
 have e2 : Ieee.double.binade = 4503599627370496 := by decide
 have e3 : Ieee.double.infRung = 9218868437227405312 := by decide
 generalize Ieee.double.quiet t = q at hq hq0
 rw [e2, Nat.mod_eq_of_lt (by omega), Ieee.Format.read_word _ _ (by rw [e1, e3]; omega), e2, e3, if_neg (by omega), if_neg (by omega), if_neg (by omega)]
 rfl
theorem trunc_nan : ExtOk E.P 170 [.e (.one nanD)] nanD := by
 intro m ps w h
 obtain ⟨y, rfl, hy⟩ := args_one h
 obtain ⟨b, rfl, hb⟩ := nan_of hy
 have hx : ∃ u t, FloatKind.f64.decode b = .nan u t := by
  show ∃ u t, Ieee.double.read b = .nan u t
  cases hx : Ieee.double.read b <;> rw [hx] at hb <;> simp [Ieee.Datum.isNaN] at hb
  exact ⟨_, _, rfl⟩
 obtain ⟨u, t, hx⟩ := hx
 rw [ext_trunc, toIntegral_eq, hx]
 simp only
 by_cases hq : FloatKind.f64.format.quiet t = t
 ·rw [if_pos hq]
  exact ⟨_, w.drawn, rfl, cr_nan hb⟩
 ·rw [if_neg hq]
  simp only [Sem.run_bind, run_choose (q := .extern "math.Floor,Ceil,Trunc,RoundToEven.signallingNaN kept" 2) rfl, Result.andThen_ok]
  refine ⟨_, w.drawn + 1, rfl, ?_⟩
  split
  ·exact cr_nan hb
  ·exact cr_nan (quiet_nan hx)
theorem trunc_ok {b : Nat} (h : (Ieee.double.read b).isNaN = false) : ExtOk E.P 170 [.e (.one (dC b))] (dC (Ieee.double.write ((Ieee.double.read b).integral .zero))) := by
 intro m ps w hp
 obtain ⟨y, rfl, hy⟩ := args_one hp
 obtain rfl : y = .float .f64 b := hy
 rw [ext_trunc, toIntegral_eq, show FloatKind.f64.decode b = Ieee.double.read b from rfl]
 refine ⟨_, w.drawn, ?_, rfl⟩
 cases hd : Ieee.double.read b with
 | nan u t => rw [hd] at h; simp [Ieee.Datum.isNaN] at h
 | infinity u => rfl
 | number u g e => rfl
end
end Go.Proofs.YtbmcfhkedgpldaaGreatDoor
end

/-! SeFa -/
section
open Go Go.Ev
namespace Go.Proofs.YtbmcfhkedgpldaaGreatDoor
noncomputable section
set_option maxRecDepth 100000
set_option maxHeartbeats 20000000
def st151n  (_j : Nat → Value) : St := startK Tryz.f151 [] [.e (.one nanD)]
def st151 (r : Nat) (_e : Bool) (_j : Nat → Value) : St := startK Tryz.f151 [] [.e (.one (dC r))]
def st154 (r _a : Nat) (_j : Nat → Value) : St := startK Tryz.f154 [] [.e (.one (dC r))]
def st152 (r _a : Nat) (_e : Bool) (_j : Nat → Value) : St := startK Tryz.f152 [] [.e (.one (dC r)), iI 0]
def st153 (x _y : AC) (_j : Nat → Value) : St := startK Tryz.f153 [] [.e (.one x)]
def st88 (b _r : Nat) (_e : Int) (_j : Nat → Value) : St := startK Tryz.f88 [] [.e (.one (fC b))]
def st89 (b _r _y _z _a _l : Nat) (L _e : Int) (_j : Nat → Value) : St := startK Tryz.f89 [] [.e (.one (fC b)), iI L]
def st24 (b : Nat) (_f _g _e : Int) (_j : Nat → Value) : St := startK Tryz.f24 [] [.e (.one (fC b))]
def st90_1024 (b _r _q : Nat) (_n _e : Int) (_j : Nat → Value) : St := startK Tryz.f90 [] [.e (.one (fC b)), iI 1024]
def st25 (b : Nat) (_e : Int) (_j : Nat → Value) : St := startK Tryz.f25 [] [.e (.one (fC b))]
def st106 (b _r : Nat) (_n : Int) (_j : Nat → Value) : St := startK Tryz.f106 [] [.e (.one (fC b))]
def st65 (b _r : Nat) (_n : Int) (_j : Nat → Value) : St := startK Tryz.f65 [] [.e (.one (fC b))]
def st101 (n : Int) (_r _q : Nat) (_j : Nat → Value) : St := startK Tryz.f101 [] [iI n]
def c151n_end  (j : Nat → Value) : St := ⟨[], [(.code .ret)], mkT j [(2, (iB true))] 6 0⟩
theorem c151n (hE : EnvOk E)  (h0 : BinOk E.P BinOp.neq (219 : Nat) (Operand.tmp (3 : Nat)) (Operand.tmp (4 : Nat)) (AC.any (nanP FloatKind.f64)) (AC.any (nanP FloatKind.f64)) (AC.v (Value.bool true))) {Φ : Res → Prop} (ho : ∀ j, OutK E 0 0 (c151n_end  j) Φ) (j : Nat → Value) : OutK E 0 0 (st151n  j) Φ :=
 outK_seg hE (R0_ok hE) [.run 3, (.ops [(2, (.fb (.v (.bool true))))] [])] [2] (fun j => by kernel_rfl) (aP h0 <| aZ)
  ho
def c151_end (_r : Nat) (e : Bool) (j : Nat → Value) : St := ⟨[], [(.code .ret)], mkT j [(2, (iB (e)))] 6 0⟩
theorem c151 (hE : EnvOk E) (r : Nat) (e : Bool) (h0 : ((iB (FloatKind.f64.format.order r r != some Ordering.eq)) : AV) = (iB (e))) {Φ : Res → Prop} (ho : ∀ j, OutK E 0 0 (c151_end r e j) Φ) (j : Nat → Value) : OutK E 0 0 (st151 r e j) Φ :=
 outK_seg hE (R0_ok hE) [.run 3, (.ops [(2, (.rn (iB (e))))] [])] [2] (fun j => by kernel_rfl) (aP h0 <| aZ)
  ho
def c154_end (_r a : Nat) (j : Nat → Value) : St := ⟨[], [(.code .ret)], mkT j [(2, (.e (.one (.v (.float .f64 (a))))))] 7 0⟩
theorem c154 (hE : EnvOk E) (r a : Nat) (h0 : BinOk E.P BinOp.andNot (239 : Nat) (Operand.tmp (4 : Nat)) (Operand.const (Value.int IntKind.u64 (9223372036854775808 : Int))) (AC.v (Value.int IntKind.u64 (↑r : Int))) (AC.v (Value.int IntKind.u64 (9223372036854775808 : Int))) (AC.v (Value.int IntKind.u64 (Int.ofNat a)))) (h1 : ((.e (.one (.v (.float .f64 ((Int.ofNat a).toNat))))) : AV) = (.e (.one (.v (.float .f64 (a)))))) {Φ : Res → Prop} (ho : ∀ j, OutK E 0 0 (c154_end r a j) Φ) (j : Nat → Value) : OutK E 0 0 (st154 r a j) Φ :=
 outK_seg hE (R0_ok hE) [.run 3, (.ops [(2, (.fb (.v (.int .u64 (Int.ofNat a))))), (3, (.rn (.e (.one (.v (.float .f64 (a)))))))] [])] [2] (fun j => by kernel_rfl) (aP h0 <| aP h1 <| aZ)
  ho
def c152_end (_r _a : Nat) (e : Bool) (j : Nat → Value) : St := ⟨[], [(.code .ret)], mkT j [(4, (iB (e)))] 15 0⟩
theorem c152 (hE : EnvOk E) (r a : Nat) (e : Bool) (h0 : COut E 0 [] 154 [(.e (.one (.v (.float .f64 (r)))))] (.e (.one (.v (.float .f64 (a))))) []) (h2 : ((iB (FloatKind.f64.format.order a (9218868437227405311 : Nat) == some Ordering.gt)) : AV) = (iB (e))) {Φ : Res → Prop} (ho : ∀ j, OutK E 0 0 (c152_end r a e j) Φ) (j : Nat → Value) : OutK E 0 0 (st152 r a e j) Φ :=
 outK_seg hE (R0_ok hE) [.run 6, (.ops [(1, (.c0 (.e (.one (.v (.float .f64 (a)))))))] []), .run 1, (.ops [(1, (.rn (iB (e))))] [])] [4] (fun j => by kernel_rfl) (aP h0 <| aN <| aP h2 <| aZ)
  ho
def c153_end (_x y : AC) (j : Nat → Value) : St := ⟨[], [(.code .ret), (.code (atC [1, 1] (bodyOf Tryz.f153)))], mkT j [(2, (.e (.one (y))))] 7 0⟩
theorem c153 (hE : EnvOk E) (x y : AC) (h0 : ExtOk E.P 170 [(.e (.one (x)))] y) {Φ : Res → Prop} (ho : ∀ j, OutK E 0 0 (c153_end x y j) Φ) (j : Nat → Value) : OutK E 0 0 (st153 x y j) Φ :=
 outK_seg hE (R0_ok hE) [.run 5, (.ops [(0, .go), (1, (.fx (y)))] [])] [2] (fun j => by kernel_rfl) (aP h0 <| aZ)
  ho
def c88n_end (_b _r : Nat) (e : Int) (j : Nat → Value) : St := ⟨[], [(.code .ret)], mkT j [(2, (iI (e)))] 13 0⟩
theorem c88n (hE : EnvOk E) (b r : Nat) (e : Int) (h0 : ConvOk E.P (23 : Nat) (219 : Nat) (AC.v (Value.float FloatKind.f32 b)) nanD) (h1 : COut E 0 [] 151 [(.e (.one (.any (nanP FloatKind.f64))))] (iB true) []) (h3 : COut E 0 [] 85 [(iB true), (iI 1)] (iI (e)) []) {Φ : Res → Prop} (ho : ∀ j, OutK E 0 0 (c88n_end b r e j) Φ) (j : Nat → Value) : OutK E 0 0 (st88 b r e j) Φ :=
 outK_seg hE (R0_ok hE) [.run 3, (.ops [(1, (.fc (.any (nanP FloatKind.f64))))] []), .run 1, (.ops [(1, (.c0 (iB true))), (6, (.c0 (iI (e))))] [])] [2] (fun j => by kernel_rfl) (aP h0 <| aP h1 <| aN <| aP h3 <| aN <| aZ)
  ho
def c88f_end (_b _r : Nat) (e : Int) (j : Nat → Value) : St := ⟨[], [(.code .ret)], mkT j [(2, (iI (e)))] 13 0⟩
theorem c88f (hE : EnvOk E) (b r : Nat) (e : Int) (h0 : ConvOk E.P (23 : Nat) (219 : Nat) (AC.v (Value.float FloatKind.f32 b)) (dC r)) (h1 : COut E 0 [] 151 [(.e (.one (.v (.float .f64 (r)))))] (iB false) []) (h3 : COut E 0 [] 152 [(.e (.one (.v (.float .f64 (r))))), (iI 0)] (iB false) []) (h5 : COut E 0 [] 85 [(iB false), (iI 1)] (iI (e)) []) {Φ : Res → Prop} (ho : ∀ j, OutK E 0 0 (c88f_end b r e j) Φ) (j : Nat → Value) : OutK E 0 0 (st88 b r e j) Φ :=
 outK_seg hE (R0_ok hE) [.run 3, (.ops [(1, (.fc (.v (.float .f64 (r)))))] []), .run 1, (.ops [(1, (.c0 (iB false))), (4, (.c0 (iB false))), (6, (.c0 (iI (e))))] [])] [2] (fun j => by kernel_rfl) (aP h0 <| aP h1 <| aN <| aP h3 <| aN <| aP h5 <| aN <| aZ)
  ho
def c88i_end (_b _r : Nat) (e : Int) (j : Nat → Value) : St := ⟨[], [(.code .ret)], mkT j [(2, (iI (e)))] 13 0⟩
theorem c88i (hE : EnvOk E) (b r : Nat) (e : Int) (h0 : ConvOk E.P (23 : Nat) (219 : Nat) (AC.v (Value.float FloatKind.f32 b)) (dC r)) (h1 : COut E 0 [] 151 [(.e (.one (.v (.float .f64 (r)))))] (iB false) []) (h3 : COut E 0 [] 152 [(.e (.one (.v (.float .f64 (r))))), (iI 0)] (iB true) []) (h5 : COut E 0 [] 85 [(iB true), (iI 1)] (iI (e)) []) {Φ : Res → Prop} (ho : ∀ j, OutK E 0 0 (c88i_end b r e j) Φ) (j : Nat → Value) : OutK E 0 0 (st88 b r e j) Φ :=
 outK_seg hE (R0_ok hE) [.run 3, (.ops [(1, (.fc (.v (.float .f64 (r)))))] []), .run 1, (.ops [(1, (.c0 (iB false))), (4, (.c0 (iB true))), (6, (.c0 (iI (e))))] [])] [2] (fun j => by kernel_rfl) (aP h0 <| aP h1 <| aN <| aP h3 <| aN <| aP h5 <| aN <| aZ)
  ho
def c89n_end (_b _r _y _z _a _l : Nat) (_L e : Int) (j : Nat → Value) : St := ⟨[], [(.code .ret)], mkT j [(4, (iI (e)))] 22 0⟩
theorem c89n (hE : EnvOk E) (b r y z a l : Nat) (L e : Int) (h0 : ConvOk E.P (23 : Nat) (219 : Nat) (AC.v (Value.float FloatKind.f32 b)) nanD) (h1 : BinOk E.P BinOp.mul (219 : Nat) (Operand.const (Value.float FloatKind.f64 (4625196817309499392 : Nat))) (Operand.tmp (7 : Nat)) (AC.v (Value.float FloatKind.f64 (4625196817309499392 : Nat))) nanD nanD) (h2 : COut E 0 [] 153 [(.e (.one (.any (nanP FloatKind.f64))))] (.e (.one (.any (nanP FloatKind.f64)))) []) (h4 : BinOk E.P BinOp.neq (219 : Nat) (Operand.tmp (9 : Nat)) (Operand.tmp (11 : Nat)) (AC.any (nanP FloatKind.f64)) nanD (AC.v (Value.bool true))) (h5 : COut E 0 [] 85 [(iB true), (iI 3)] (iI (e)) []) {Φ : Res → Prop} (ho : ∀ j, OutK E 0 0 (c89n_end b r y z a l L e j) Φ) (j : Nat → Value) : OutK E 0 0 (st89 b r y z a l L e j) Φ :=
 outK_seg hE (R0_ok hE) [.run 3, (.ops [(1, (.fc (.any (nanP FloatKind.f64)))), (2, (.fb (.any (nanP FloatKind.f64))))] []), .run 1, (.ops [(2, (.c0 (.e (.one (.any (nanP FloatKind.f64)))))), (3, (.fb (.v (.bool true)))), (12, (.c0 (iI (e))))] [])] [4] (fun j => by kernel_rfl) (aP h0 <| aP h1 <| aP h2 <| aN <| aP h4 <| aP h5 <| aN <| aZ)
  ho
def c89t_end (_b _r _y _z _a _l : Nat) (_L e : Int) (j : Nat → Value) : St := ⟨[], [(.code .ret)], mkT j [(4, (iI (e)))] 22 0⟩
theorem c89t (hE : EnvOk E) (b r y z a l : Nat) (L e : Int) (h0 : ConvOk E.P (23 : Nat) (219 : Nat) (AC.v (Value.float FloatKind.f32 b)) (dC r)) (h1 : BinOk E.P BinOp.mul (219 : Nat) (Operand.const (Value.float FloatKind.f64 (4625196817309499392 : Nat))) (Operand.tmp (7 : Nat)) (AC.v (Value.float FloatKind.f64 (4625196817309499392 : Nat))) (dC r) (dC y)) (h2 : COut E 0 [] 153 [(.e (.one (.v (.float .f64 (y)))))] (.e (.one (.v (.float .f64 (z))))) []) (h4 : ((iB (FloatKind.f64.format.order y z != some Ordering.eq)) : AV) = (iB true)) (h5 : COut E 0 [] 85 [(iB true), (iI 3)] (iI (e)) []) {Φ : Res → Prop} (ho : ∀ j, OutK E 0 0 (c89t_end b r y z a l L e j) Φ) (j : Nat → Value) : OutK E 0 0 (st89 b r y z a l L e j) Φ :=
 outK_seg hE (R0_ok hE) [.run 3, (.ops [(1, (.fc (.v (.float .f64 (r))))), (2, (.fb (.v (.float .f64 (y)))))] []), .run 1, (.ops [(2, (.c0 (.e (.one (.v (.float .f64 (z))))))), (3, (.rn (iB true))), (12, (.c0 (iI (e))))] [])] [4] (fun j => by kernel_rfl) (aP h0 <| aP h1 <| aP h2 <| aN <| aP h4 <| aP h5 <| aN <| aZ)
  ho
def c89f_end (_b _r _y _z _a _l : Nat) (_L e : Int) (j : Nat → Value) : St := ⟨[], [(.code .ret)], mkT j [(4, (iI (e)))] 22 0⟩
theorem c89f (hE : EnvOk E) (b r y z a l : Nat) (L e : Int) (h0 : ConvOk E.P (23 : Nat) (219 : Nat) (AC.v (Value.float FloatKind.f32 b)) (dC r)) (h1 : BinOk E.P BinOp.mul (219 : Nat) (Operand.const (Value.float FloatKind.f64 (4625196817309499392 : Nat))) (Operand.tmp (7 : Nat)) (AC.v (Value.float FloatKind.f64 (4625196817309499392 : Nat))) (dC r) (dC y)) (h2 : COut E 0 [] 153 [(.e (.one (.v (.float .f64 (y)))))] (.e (.one (.v (.float .f64 (z))))) []) (h4 : ((iB (FloatKind.f64.format.order y z != some Ordering.eq)) : AV) = (iB false)) (h5 : COut E 0 [] 154 [(.e (.one (.v (.float .f64 (y)))))] (.e (.one (.v (.float .f64 (a))))) []) (h7 : ((iI (wrapF IntKind.i64 ((16 : Int) * L))) : AV) = (iI ((16 : Int) * L))) (h8 : ConvOk E.P (3 : Nat) (219 : Nat) (AC.v (Value.int IntKind.i64 ((16 : Int) * L))) (dC l)) (h9 : COut E 0 [] 85 [(iB (FloatKind.f64.format.order a l == some Ordering.gt)), (iI 3)] (iI (e)) []) {Φ : Res → Prop} (ho : ∀ j, OutK E 0 0 (c89f_end b r y z a l L e j) Φ) (j : Nat → Value) : OutK E 0 0 (st89 b r y z a l L e j) Φ :=
 outK_seg hE (R0_ok hE) [.run 3, (.ops [(1, (.fc (.v (.float .f64 (r))))), (2, (.fb (.v (.float .f64 (y)))))] []), .run 1, (.ops [(2, (.c0 (.e (.one (.v (.float .f64 (z))))))), (3, (.rn (iB false))), (6, (.c0 (.e (.one (.v (.float .f64 (a))))))), (8, (.rn (iI ((16 : Int) * L)))), (9, (.fc (.v (.float .f64 (l))))), (12, (.c0 (iI (e))))] [])] [4] (fun j => by kernel_rfl) (aP h0 <| aP h1 <| aP h2 <| aN <| aP h4 <| aP h5 <| aN <| aP h7 <| aP h8 <| aP h9 <| aN <| aZ)
  ho
def c24_end (_b : Nat) (_f _g e : Int) (j : Nat → Value) : St := ⟨[], [(.code .ret)], mkT j [(2, (iI (e)))] 9 0⟩
theorem c24 (hE : EnvOk E) (b : Nat) (f g e : Int) (h0 : COut E 0 [] 88 [(.e (.one (.v (.float .f32 (b)))))] (iI (f)) []) (h2 : COut E 0 [] 89 [(.e (.one (.v (.float .f32 (b))))), (iI 1024)] (iI (g)) []) (h4 : COut E 1 [(.some ⟨[(.v (.int .i64 (f))), (.v (.int .i64 (g)))], 2, 26, true, .cells⟩)] 79 [(.e (.one (.slc 0 0 2 1 2 true)))] (iI (e)) [(.some ⟨[(.v (.int .i64 (f))), (.v (.int .i64 (g)))], 2, 26, true, .cells⟩)]) {Φ : Res → Prop} (ho : ∀ j, OutK E 0 0 (c24_end b f g e j) Φ) (j : Nat → Value) : OutK E 0 0 (st24 b f g e j) Φ :=
 outK_seg hE (R0_ok hE) [.run 3, (.ops [(1, (.c0 (iI (f)))), (3, (.c0 (iI (g)))), (5, (.d (.c1 (iI (e)))))] [])] [2] (s' := fun j => ⟨[(.some ⟨[(.v (.int .i64 (f))), (.v (.int .i64 (g)))], 2, 26, true, .cells⟩)], [(.code .ret)], mkT j [(2, (iI (e)))] 9 0⟩) (fun j => by kernel_rfl) (aP h0 <| aN <| aP h2 <| aN <| aP h4 <| aN <| aZ)
  fun j => outK_gc [] (by decide) (by kernel_rfl) (by kernel_rfl) (by kernel_rfl) (ho j)
def c90n_1024_end (_b _r _q : Nat) (_n _e : Int) (j : Nat → Value) : St := ⟨[], [(.code .ret), (.code (atC [1, 1] (bodyOf Tryz.f90)))], mkT j [(4, (iI 1))] 35 0⟩
theorem c90n_1024 (hE : EnvOk E) (b r q : Nat) (n e : Int) (h0 : ((iB (FloatKind.f32.format.order b b != some Ordering.eq)) : AV) = (iB true)) {Φ : Res → Prop} (ho : ∀ j, OutK E 0 0 (c90n_1024_end b r q n e j) Φ) (j : Nat → Value) : OutK E 0 0 (st90_1024 b r q n e j) Φ :=
 outK_seg hE (R0_ok hE) [.run 4, (.ops [(2, (.rn (iB true)))] []), .run 3] [4] (fun j => by kernel_rfl) (aP h0 <| aZ)
  ho
def c90p_1024_end (_b _r _q : Nat) (_n _e : Int) (j : Nat → Value) : St := ⟨[], [(.code .ret), (.code (atC [1, 1] (bodyOf Tryz.f90)))], mkT j [(4, (iI 1))] 35 0⟩
theorem c90p_1024 (hE : EnvOk E) (b r q : Nat) (n e : Int) (h0 : ((iB (FloatKind.f32.format.order b b != some Ordering.eq)) : AV) = (iB false)) (h1 : ((iB (FloatKind.f32.format.order b (2139095039 : Nat) == some Ordering.gt)) : AV) = (iB true)) {Φ : Res → Prop} (ho : ∀ j, OutK E 0 0 (c90p_1024_end b r q n e j) Φ) (j : Nat → Value) : OutK E 0 0 (st90_1024 b r q n e j) Φ :=
 outK_seg hE (R0_ok hE) [.run 4, (.ops [(2, (.rn (iB false))), (5, (.rn (iB true)))] []), .run 3] [4] (fun j => by kernel_rfl) (aP h0 <| aP h1 <| aZ)
  ho
def c90m_1024_end (_b _r _q : Nat) (_n _e : Int) (j : Nat → Value) : St := ⟨[], [(.code .ret), (.code (atC [1, 1] (bodyOf Tryz.f90)))], mkT j [(4, (iI 1))] 35 0⟩
theorem c90m_1024 (hE : EnvOk E) (b r q : Nat) (n e : Int) (h0 : ((iB (FloatKind.f32.format.order b b != some Ordering.eq)) : AV) = (iB false)) (h1 : ((iB (FloatKind.f32.format.order b (2139095039 : Nat) == some Ordering.gt)) : AV) = (iB false)) (h2 : ((iB (FloatKind.f32.format.order b (4286578687 : Nat) == some Ordering.lt)) : AV) = (iB true)) {Φ : Res → Prop} (ho : ∀ j, OutK E 0 0 (c90m_1024_end b r q n e j) Φ) (j : Nat → Value) : OutK E 0 0 (st90_1024 b r q n e j) Φ :=
 outK_seg hE (R0_ok hE) [.run 4, (.ops [(2, (.rn (iB false))), (5, (.rn (iB false))), (9, (.rn (iB true)))] []), .run 3] [4] (fun j => by kernel_rfl) (aP h0 <| aP h1 <| aP h2 <| aZ)
  ho
def c90g_1024_end (_b _r _q : Nat) (_n _e : Int) (j : Nat → Value) : St := ⟨[], [(.code .ret), (.code (atC [1, 1, 1] (bodyOf Tryz.f90)))], mkT j [(4, (iI 3))] 35 0⟩
theorem c90g_1024 (hE : EnvOk E) (b r q : Nat) (n e : Int) (h0 : ((iB (FloatKind.f32.format.order b b != some Ordering.eq)) : AV) = (iB false)) (h1 : ((iB (FloatKind.f32.format.order b (2139095039 : Nat) == some Ordering.gt)) : AV) = (iB false)) (h2 : ((iB (FloatKind.f32.format.order b (4286578687 : Nat) == some Ordering.lt)) : AV) = (iB false)) (h3 : ((iB (FloatKind.f32.format.order b (1149239296 : Nat) == some Ordering.gt)) : AV) = (iB true)) {Φ : Res → Prop} (ho : ∀ j, OutK E 0 0 (c90g_1024_end b r q n e j) Φ) (j : Nat → Value) : OutK E 0 0 (st90_1024 b r q n e j) Φ :=
 outK_seg hE (R0_ok hE) [.run 4, (.ops [(2, (.rn (iB false))), (5, (.rn (iB false))), (9, (.rn (iB false)))] []), .run 4, (.ops [(3, (.rn (iB true)))] []), .run 3] [4] (fun j => by kernel_rfl) (aP h0 <| aP h1 <| aP h2 <| aP h3 <| aZ)
  ho
def c90l_1024_end (_b _r _q : Nat) (_n _e : Int) (j : Nat → Value) : St := ⟨[], [(.code .ret), (.code (atC [1, 1, 1] (bodyOf Tryz.f90)))], mkT j [(4, (iI 3))] 35 0⟩
theorem c90l_1024 (hE : EnvOk E) (b r q : Nat) (n e : Int) (h0 : ((iB (FloatKind.f32.format.order b b != some Ordering.eq)) : AV) = (iB false)) (h1 : ((iB (FloatKind.f32.format.order b (2139095039 : Nat) == some Ordering.gt)) : AV) = (iB false)) (h2 : ((iB (FloatKind.f32.format.order b (4286578687 : Nat) == some Ordering.lt)) : AV) = (iB false)) (h3 : ((iB (FloatKind.f32.format.order b (1149239296 : Nat) == some Ordering.gt)) : AV) = (iB false)) (h4 : ((iB (FloatKind.f32.format.order b (3296722944 : Nat) == some Ordering.lt)) : AV) = (iB true)) {Φ : Res → Prop} (ho : ∀ j, OutK E 0 0 (c90l_1024_end b r q n e j) Φ) (j : Nat → Value) : OutK E 0 0 (st90_1024 b r q n e j) Φ :=
 outK_seg hE (R0_ok hE) [.run 4, (.ops [(2, (.rn (iB false))), (5, (.rn (iB false))), (9, (.rn (iB false)))] []), .run 4, (.ops [(3, (.rn (iB false))), (9, (.rn (iB true)))] []), .run 3] [4] (fun j => by kernel_rfl) (aP h0 <| aP h1 <| aP h2 <| aP h3 <| aP h4 <| aZ)
  ho
def c90f_1024_end (_b _r _q : Nat) (_n e : Int) (j : Nat → Value) : St := ⟨[], [(.code .ret)], mkT j [(4, (iI (e)))] 35 0⟩
theorem c90f_1024 (hE : EnvOk E) (b r q : Nat) (n e : Int) (h0 : ((iB (FloatKind.f32.format.order b b != some Ordering.eq)) : AV) = (iB false)) (h1 : ((iB (FloatKind.f32.format.order b (2139095039 : Nat) == some Ordering.gt)) : AV) = (iB false)) (h2 : ((iB (FloatKind.f32.format.order b (4286578687 : Nat) == some Ordering.lt)) : AV) = (iB false)) (h3 : ((iB (FloatKind.f32.format.order b (1149239296 : Nat) == some Ordering.gt)) : AV) = (iB false)) (h4 : ((iB (FloatKind.f32.format.order b (3296722944 : Nat) == some Ordering.lt)) : AV) = (iB false)) (h5 : BinOk E.P BinOp.mul (23 : Nat) (Operand.const (Value.float FloatKind.f32 (1098907648 : Nat))) (Operand.tmp (27 : Nat)) (AC.v (Value.float FloatKind.f32 (1098907648 : Nat))) (AC.v (Value.float FloatKind.f32 b)) (fC r)) (h6 : ConvOk E.P (23 : Nat) (3 : Nat) (fC r) (AC.v (Value.int IntKind.i64 n))) (h7 : ConvOk E.P (3 : Nat) (23 : Nat) (AC.v (Value.int IntKind.i64 n)) (fC q)) (h8 : BinOk E.P BinOp.mul (23 : Nat) (Operand.const (Value.float FloatKind.f32 (1098907648 : Nat))) (Operand.tmp (31 : Nat)) (AC.v (Value.float FloatKind.f32 (1098907648 : Nat))) (AC.v (Value.float FloatKind.f32 b)) (fC r)) (h9 : COut E 0 [] 82 [(iB (FloatKind.f32.format.order q r != some Ordering.eq)), (iI 3)] (iI (e)) []) {Φ : Res → Prop} (ho : ∀ j, OutK E 0 0 (c90f_1024_end b r q n e j) Φ) (j : Nat → Value) : OutK E 0 0 (st90_1024 b r q n e j) Φ :=
 outK_seg hE (R0_ok hE) [.run 4, (.ops [(2, (.rn (iB false))), (5, (.rn (iB false))), (9, (.rn (iB false)))] []), .run 4, (.ops [(3, (.rn (iB false))), (9, (.rn (iB false)))] []), .run 3, (.ops [(1, (.fb (.v (.float .f32 (r))))), (2, (.fc (.v (.int .i64 (n))))), (3, (.fc (.v (.float .f32 (q))))), (5, (.fb (.v (.float .f32 (r))))), (7, (.c0 (iI (e))))] [])] [4] (fun j => by kernel_rfl) (aP h0 <| aP h1 <| aP h2 <| aP h3 <| aP h4 <| aP h5 <| aP h6 <| aP h7 <| aP h8 <| aP h9 <| aN <| aZ)
  ho
def c25_end (_b : Nat) (e : Int) (j : Nat → Value) : St := ⟨[], [(.code .ret)], mkT j [(2, (iI (e)))] 5 0⟩
theorem c25 (hE : EnvOk E) (b : Nat) (e : Int) (h0 : COut E 0 [] 90 [(.e (.one (.v (.float .f32 (b))))), (iI 1024)] (iI (e)) []) {Φ : Res → Prop} (ho : ∀ j, OutK E 0 0 (c25_end b e j) Φ) (j : Nat → Value) : OutK E 0 0 (st25 b e j) Φ :=
 outK_seg hE (R0_ok hE) [.run 3, (.ops [(1, (.c0 (iI (e))))] [])] [2] (fun j => by kernel_rfl) (aP h0 <| aN <| aZ)
  ho
def c106_end (_b _r : Nat) (n : Int) (j : Nat → Value) : St := ⟨[], [(.code .ret)], mkT j [(2, (iI (n)))] 6 0⟩
theorem c106 (hE : EnvOk E) (b r : Nat) (n : Int) (h0 : BinOk E.P BinOp.mul (23 : Nat) (Operand.const (Value.float FloatKind.f32 (1098907648 : Nat))) (Operand.tmp (3 : Nat)) (AC.v (Value.float FloatKind.f32 (1098907648 : Nat))) (AC.v (Value.float FloatKind.f32 b)) (fC r)) (h1 : ConvOk E.P (23 : Nat) (3 : Nat) (fC r) (AC.v (Value.int IntKind.i64 n))) {Φ : Res → Prop} (ho : ∀ j, OutK E 0 0 (c106_end b r n j) Φ) (j : Nat → Value) : OutK E 0 0 (st106 b r n j) Φ :=
 outK_seg hE (R0_ok hE) [.run 3, (.ops [(1, (.fb (.v (.float .f32 (r))))), (2, (.fc (.v (.int .i64 (n)))))] [])] [2] (fun j => by kernel_rfl) (aP h0 <| aP h1 <| aZ)
  ho
def c65_end (_b _r : Nat) (n : Int) (j : Nat → Value) : St := ⟨[], [(.code .ret)], mkT j [(2, (iI (n)))] 6 0⟩
theorem c65 (hE : EnvOk E) (b r : Nat) (n : Int) (h0 : BinOk E.P BinOp.mul (23 : Nat) (Operand.const (Value.float FloatKind.f32 (1098907648 : Nat))) (Operand.tmp (3 : Nat)) (AC.v (Value.float FloatKind.f32 (1098907648 : Nat))) (AC.v (Value.float FloatKind.f32 b)) (fC r)) (h1 : ConvOk E.P (23 : Nat) (3 : Nat) (fC r) (AC.v (Value.int IntKind.i64 n))) {Φ : Res → Prop} (ho : ∀ j, OutK E 0 0 (c65_end b r n j) Φ) (j : Nat → Value) : OutK E 0 0 (st65 b r n j) Φ :=
 outK_seg hE (R0_ok hE) [.run 3, (.ops [(1, (.fb (.v (.float .f32 (r))))), (2, (.fc (.v (.int .i64 (n)))))] [])] [2] (fun j => by kernel_rfl) (aP h0 <| aP h1 <| aZ)
  ho
def c101_end (_n : Int) (_r q : Nat) (j : Nat → Value) : St := ⟨[], [(.code .ret)], mkT j [(2, (.e (.one (.v (.float .f32 (q))))))] 6 0⟩
theorem c101 (hE : EnvOk E) (n : Int) (r q : Nat) (h0 : ConvOk E.P (3 : Nat) (23 : Nat) (AC.v (Value.int IntKind.i64 n)) (fC r)) (h1 : BinOk E.P BinOp.quo (23 : Nat) (Operand.tmp (4 : Nat)) (Operand.const (Value.float FloatKind.f32 (1098907648 : Nat))) (fC r) (AC.v (Value.float FloatKind.f32 (1098907648 : Nat))) (fC q)) {Φ : Res → Prop} (ho : ∀ j, OutK E 0 0 (c101_end n r q j) Φ) (j : Nat → Value) : OutK E 0 0 (st101 n r q j) Φ :=
 outK_seg hE (R0_ok hE) [.run 3, (.ops [(1, (.fc (.v (.float .f32 (r))))), (2, (.fb (.v (.float .f32 (q)))))] [])] [2] (fun j => by kernel_rfl) (aP h0 <| aP h1 <| aZ)
  ho
open Ieee
theorem iBe {a b : Bool} (h : a = b) : (iB a : AV) = iB b := by rw [h]
theorem u23 : E.P.underlying 23 = some (.float .f32) := by kernel_rfl
theorem u219 : E.P.underlying 219 = some (.float .f64) := by kernel_rfl
theorem u3 : E.P.underlying 3 = some (.int .i64) := by kernel_rfl
theorem cmp_eq (V : Int) : compare V V = .eq := by simp [compare, compareOfLessAndEq]
theorem cmp_eq_iff {V W : Int} : (some (compare V W) == some Ordering.eq) = decide (V = W) := by
 simp only [compare, compareOfLessAndEq]
 by_cases h : V < W
 ·simp [h]; omega
 ·by_cases e : V = W
  ·simp [e]
  ·simp [h, e]
theorem cmp_gt_iff {V W : Int} : (some (compare V W) == some Ordering.gt) = decide (W < V) := by
 simp only [compare, compareOfLessAndEq]
 by_cases h : V < W
 ·simp [h]; omega
 ·by_cases e : V = W
  ·simp [e]
  ·simp [h, e]; omega
theorem cmp_lt_iff {V W : Int} : (some (compare V W) == some Ordering.lt) = decide (V < W) := by
 simp only [compare, compareOfLessAndEq]
 by_cases h : V < W
 ·simp [h]
 ·by_cases e : V = W
  ·simp [e]
  ·simp [h, e]
theorem k151n (hE : EnvOk E) : COut E 0 [] 151 [.e (.one nanD)] (iB true) [] :=
 cOut_start Tryz.func151 rfl (c151n hE neq_nan (fun j => outK_ret (ends_ret (by kernel_rfl))) fun _ => undef)
theorem k151 (hE : EnvOk E) {r : Nat} (h : double.order r r = some .eq) : COut E 0 [] 151 [.e (.one (dC r))] (iB false) [] :=
 cOut_start Tryz.func151 rfl (c151 hE r false (iBe (by show (double.order r r != some Ordering.eq) = false; rw [h]; rfl)) (fun j => outK_ret (ends_ret (by kernel_rfl))) fun _ => undef)
theorem k154 (hE : EnvOk E) {r : Nat} (h : r < 2 ^ 64) : COut E 0 [] 154 [.e (.one (dC r))] (.e (.one (dC (r % 2 ^ 63)))) [] :=
 cOut_start Tryz.func154 rfl (c154 hE r (r % 2 ^ 63) (andNot_ok h) (by rw [show (Int.ofNat (r % 2 ^ 63)).toNat = r % 2 ^ 63 from rfl]) (fun j => outK_ret (ends_ret (by kernel_rfl))) fun _ => undef)
theorem k152 (hE : EnvOk E) {r : Nat} (h : r < 2 ^ 64) {e : Bool} (he : (double.order (r % 2 ^ 63) 9218868437227405311 == some .gt) = e) : COut E 0 [] 152 [.e (.one (dC r)), iI 0] (iB e) [] :=
 cOut_start Tryz.func152 rfl (c152 hE r (r % 2 ^ 63) e (k154 hE h) (iBe he) (fun j => outK_ret (ends_ret (by kernel_rfl))) fun _ => undef)
theorem k153n (hE : EnvOk E) : COut E 0 [] 153 [.e (.one nanD)] (.e (.one nanD)) [] :=
 cOut_start Tryz.func153 rfl (c153 hE nanD nanD trunc_nan (fun j => outK_ret (ends_ret (by kernel_rfl))) fun _ => undef)
theorem k153 (hE : EnvOk E) {r : Nat} (h : (double.read r).isNaN = false) : COut E 0 [] 153 [.e (.one (dC r))] (.e (.one (dC (double.write ((double.read r).integral .zero))))) [] :=
 cOut_start Tryz.func153 rfl (c153 hE (dC r) _ (trunc_ok h) (fun j => outK_ret (ends_ret (by kernel_rfl))) fun _ => undef)
theorem fin_num {b : Nat} (h : Num single b (valW b)) : (valW b).natAbs < 2 ^ (128 + EX) := by
 have h1 := read_bound fit_single (by decide) h
 have hX := EX_eq
 have e1 : (single.top + (EX : Int)).toNat = 104 + EX := by rw [top_single]; omega
 rw [e1] at h1
 refine Nat.lt_of_le_of_lt h1 ?_
 rw [show 128 + EX = 24 + (104 + EX) by omega, Nat.pow_add 2 24]
 exact Nat.mul_lt_mul_of_pos_right (by decide) (pow_pos2 _)
theorem num_max : Num double 9218868437227405311 ((2 ^ 53 - 1 : Nat) * 2 ^ (971 + EX) : Nat) := by
 refine ⟨false, 2 ^ 53 - 1, 971, by decide, by decide, by decide, ?_⟩
 have hX := EX_eq
 have : ((971 : Int) + (EX : Int)).toNat = 971 + EX := by omega
 rw [this]
 rfl
theorem ord_max {r : Nat} {V : Int} (h : Num double r V) (hV : 0 ≤ V) (hb : V.natAbs < 2 ^ (128 + EX)) : (double.order r 9218868437227405311 == some .gt) = false := by
 rw [h.order fit_double num_max, cmp_gt_iff]
 apply decide_eq_false
 have hX := EX_eq
 have h1 : (2 : Nat) ^ (128 + EX) ≤ (2 ^ 53 - 1) * 2 ^ (971 + EX) := by
  refine Nat.le_trans (pow_mono (show 128 + EX ≤ 971 + EX by omega)) ?_
  exact Nat.le_mul_of_pos_left _ (by decide)
 omega
theorem inf_word (u : Bool) : double.word u double.infRung < 2 ^ 64 := by cases u <;> decide
theorem word_lt64 {s : Bool} {m : Nat} {e : Int} : double.nearest s m e < 2 ^ 64 := write_lt double (by decide) (.number s m e)
theorem lt64 {a b r : Nat} (h : double.mul a b = some r) : r < 2 ^ 64 := mul_lt (f := double) (by decide) h
theorem conv_num' {P : Program} {s d : TypeId} (hs : P.underlying s = some (.float .f32)) (hd : P.underlying d = some (.float .f64)) {b : Nat} (h : finW b = 0) : ∃ r, Num double r (valW b) ∧ r < 2 ^ 64 ∧ ConvOk P s d (fC b) (dC r) := by
 have hn := num_finW h
 obtain ⟨u, g, e, h1, h2⟩ := hn.widen fit_single fit_double (by decide) (by decide) (by decide) (fin_num hn) (by rw [EX_eq]; decide)
 refine ⟨_, h2, word_lt64, ?_⟩
 intro m p w hp
 obtain rfl : p = .float .f32 b := hp
 refine ⟨_, w.drawn, ?_, rfl⟩
 rw [run_conv64 hs hd]
 unfold Conv.floatToFloat
 rw [if_neg (by decide), show FloatKind.f32.decode b = .number u g e from h1]
 have hi : (FloatKind.f64.decode (FloatKind.f64.encode (.number u g e))).isInfinity = false := by
  obtain ⟨u', g', e', k1, _⟩ := h2
  show (double.read (double.nearest u g e)).isInfinity = false
  rw [k1]
  rfl
 simp only [hi, if_false, Bool.false_eq_true]
 rfl
theorem not_fin {b : Nat} (h : finW b ≠ 0) : (single.read b).isNaN = true ∨ ∃ u, single.read b = .infinity u := by
 rcases read_cases (f := single) b with ⟨s, t, h1⟩ | ⟨s, h1⟩ | ⟨V, h1⟩
 ·exact .inl (by rw [h1]; rfl)
 ·exact .inr ⟨s, h1⟩
 ·exact absurd (finW_num h1).1 h
theorem finW_one {b : Nat} (h : finW b ≠ 0) : finW b = 1 := (finW_or b).resolve_left h
theorem k88 (hE : EnvOk E) (b : Nat) : COut E 0 [] 88 [.e (.one (fC b))] (iI (finW b)) [] := by
 by_cases h : finW b = 0
 ·obtain ⟨r, hr, hl, hc⟩ := conv_num' (P := E.P) u23 u219 h
  rw [h]
  have ha : Num double (r % 2 ^ 63) (valW b).natAbs := hr.abs
  refine cOut_start Tryz.func88 rfl (c88f hE b r 0 hc (k151 hE (by rw [hr.order fit_double hr, cmp_eq])) (k152 hE hl (ord_max ha (by omega) (by have := fin_num (num_finW h); omega))) (k107 hE false 1) (fun j => outK_ret (ends_ret (by kernel_rfl))) fun _ => undef)
 ·rw [finW_one h]
  rcases not_fin h with h1 | ⟨u, h1⟩
  ·exact cOut_start Tryz.func88 rfl (c88n hE b 0 1 (conv_nan u23 u219 h1) (k151n hE) (k107 hE true 1) (fun j => outK_ret (ends_ret (by kernel_rfl))) fun _ => undef)
  ·refine cOut_start Tryz.func88 rfl (c88i hE b _ 1 (conv_inf u23 u219 h1) (k151 hE (by cases u <;> decide)) (k152 hE (inf_word u) (by cases u <;> decide)) (k107 hE true 1) (fun j => outK_ret (ends_ret (by kernel_rfl))) fun _ => undef)
theorem num_of_int {k : FloatKind} (hf : Fit k.format) (hE : 3 ≤ 2 ^ k.format.exponentBits) (ht : (k.format.fractionBits : Int) ≤ k.format.top) {n : Int} (hn : n.natAbs < 2 ^ (k.format.fractionBits + 1)) : Num k.format (k.nearest n) (n * KK) := num_int hf hE ht n hn
theorem whole_iff {V : Int} : (V = V.tdiv KK * KK) ↔ V % KK = 0 := by
 have hk := KK_pos
 constructor
 ·intro h
  rw [h]
  exact Int.mul_emod_left _ _
 ·intro h
  rw [Int.mul_comm]
  exact (Int.mul_tdiv_cancel' (Int.dvd_of_emod_eq_zero h)).symm
theorem k89 (hE : EnvOk E) (b : Nat) {L : Nat} (hL : L ≤ 65536) : COut E 0 [] 89 [.e (.one (fC b)), iI (Int.ofNat L)] (iI (mulW L b)) [] := by
 by_cases h : finW b = 0
 ·obtain ⟨r, hr, hl, hc⟩ := conv_num' (P := E.P) u23 u219 h
  have hb := fin_num (num_finW h)
  obtain ⟨y, hy, hn⟩ := hr.mul16 fit_double (by decide) (c := 4625196817309499392) c16_double (by decide) hb (by rw [EX_eq]; decide)
  have hyl := lt64 hy
  have hb16 : (16 * valW b).natAbs < 2 ^ (132 + EX) := by
   rw [Int.natAbs_mul, show (2 : Nat) ^ (132 + EX) = 16 * 2 ^ (128 + EX) by rw [show (16 : Nat) = 2 ^ 4 from rfl, ← Nat.pow_add]; congr 1; omega]
   have : (16 : Int).natAbs = 16 := rfl
   rw [this]
   omega
  have hz := hn.whole fit_double (by decide) (by decide) hb16 (by rw [EX_eq]; decide)
  have hzk := k153 hE hn.notNaN
  generalize double.write ((double.read y).integral .zero) = z at hz hzk
  by_cases h0 : (16 * valW b) % KK = 0
  ·have ha : Num double (y % 2 ^ 63) (16 * valW b).natAbs := hn.abs
   have hLn : Num double (FloatKind.f64.nearest (16 * Int.ofNat L)) (16 * Int.ofNat L * KK) := num_of_int (k := .f64) fit_double (by decide) (by decide) (by
    show (16 * Int.ofNat L).natAbs < 2 ^ 53
    simp only [Int.ofNat_eq_natCast]
    omega)
   have hcmp : (FloatKind.f64.format.order (y % 2 ^ 63) (FloatKind.f64.nearest (16 * Int.ofNat L)) == some Ordering.gt) = decide (¬ (valW b).natAbs ≤ L * KK) := by
    show (double.order (y % 2 ^ 63) (FloatKind.f64.nearest (16 * Int.ofNat L)) == some Ordering.gt) = _
    rw [ha.order fit_double hLn, cmp_gt_iff]
    apply decide_eq_decide.2
    rw [Int.natAbs_mul, Int.ofNat_eq_natCast, Int.mul_assoc, show (16 : Int).natAbs = 16 from rfl, ← Int.natCast_mul]
    omega
   have he : mulW L b = if decide (¬ (valW b).natAbs ≤ L * KK) = true then 3 else 0 := by
    unfold mulW
    by_cases h5 : (valW b).natAbs ≤ L * KK
    ·rw [if_pos ⟨h, h0, h5⟩]; simp [h5]
    ·rw [if_neg fun h6 => h5 h6.2.2]; simp [h5]
   rw [he]
   refine cOut_start Tryz.func89 rfl (c89f hE b r y z (y % 2 ^ 63) (FloatKind.f64.nearest (16 * Int.ofNat L)) (Int.ofNat L) _ hc (mul_ok hy) hzk (iBe ?_) (k154 hE hyl) (iIe (wrap_id (by simp only [Int.ofNat_eq_natCast]; omega) (by simp only [Int.ofNat_eq_natCast]; omega))) (conv_int u3 u219 _) (by rw [hcmp]; exact k107 hE _ 3) (fun j => outK_ret (ends_ret (by kernel_rfl))) fun _ => undef)
   show (double.order y z != some Ordering.eq) = false
   rw [hn.order fit_double hz]
   have := @cmp_eq_iff (16 * valW b) ((16 * valW b).tdiv KK * KK)
   rw [bne, this]
   simpa using whole_iff.2 h0
  ·have he : mulW L b = 3 := by unfold mulW; rw [if_neg fun h6 => h0 h6.2.1]
   rw [he]
   refine cOut_start Tryz.func89 rfl (c89t hE b r y z 0 0 (Int.ofNat L) 3 hc (mul_ok hy) hzk (iBe ?_) (k107 hE true 3) (fun j => outK_ret (ends_ret (by kernel_rfl))) fun _ => undef)
   show (double.order y z != some Ordering.eq) = true
   rw [hn.order fit_double hz]
   have := @cmp_eq_iff (16 * valW b) ((16 * valW b).tdiv KK * KK)
   rw [bne, this]
   have h7 : ¬ (16 * valW b = (16 * valW b).tdiv KK * KK) := fun h8 => h0 (whole_iff.1 h8)
   simpa using h7
 ·have he : mulW L b = 3 := by unfold mulW; rw [if_neg fun h6 => h h6.1]
  rw [he]
  rcases not_fin h with h1 | ⟨u, h1⟩
  ·exact cOut_start Tryz.func89 rfl (c89n hE b 0 0 0 0 0 (Int.ofNat L) 3 (conv_nan u23 u219 h1) mul_nan (k153n hE) neq_nan (k107 hE true 3) (fun j => outK_ret (ends_ret (by kernel_rfl))) fun _ => undef)
  ·have hz : double.write ((double.read (double.word u double.infRung)).integral .zero) = double.word u double.infRung := by cases u <;> decide
   have hzk := k153 hE (r := double.word u double.infRung) (by cases u <;> decide)
   rw [hz] at hzk
   have hmul : double.mul 4625196817309499392 (double.word u double.infRung) = some (double.word u double.infRung) := by cases u <;> decide
   have hLn : Num double (FloatKind.f64.nearest (16 * Int.ofNat L)) (16 * Int.ofNat L * KK) := num_of_int (k := .f64) fit_double (by decide) (by decide) (by
    show (16 * Int.ofNat L).natAbs < 2 ^ 53
    simp only [Int.ofNat_eq_natCast]
    omega)
   have hcmp : (FloatKind.f64.format.order (double.word u double.infRung % 2 ^ 63) (FloatKind.f64.nearest (16 * Int.ofNat L)) == some Ordering.gt) = true := by
    have e1 : double.word u double.infRung % 2 ^ 63 = 9218868437227405312 := by cases u <;> decide
    rw [e1]
    obtain ⟨s, m, e, h2, _⟩ := hLn
    show (double.order _ _ == _) = _
    unfold Format.order
    rw [h2, show double.read 9218868437227405312 = .infinity false by decide]
    rfl
   exact cOut_start Tryz.func89 rfl (c89f hE b (double.word u double.infRung) (double.word u double.infRung) (double.word u double.infRung) (double.word u double.infRung % 2 ^ 63) (FloatKind.f64.nearest (16 * Int.ofNat L)) (Int.ofNat L) 3 (conv_inf u23 u219 h1) (mul_ok hmul) hzk (iBe (by cases u <;> decide)) (k154 hE (inf_word u)) (iIe (wrap_id (by simp only [Int.ofNat_eq_natCast]; omega) (by simp only [Int.ofNat_eq_natCast]; omega))) (conv_int u3 u219 _) (by rw [hcmp]; exact k107 hE true 3) (fun j => outK_ret (ends_ret (by kernel_rfl))) fun _ => undef)
theorem firstI2 (f g : Int) : firstI [f, g] = if f = 0 then g else f := by
 unfold firstI firstI firstI
 by_cases h : f = 0
 ·by_cases h2 : g = 0 <;> simp [h, h2]
 ·simp [h]
theorem chk_first (L b : Nat) : chkW L b = firstI [finW b, mulW L b] := by
 rw [firstI2]
 unfold chkW
 rcases finW_or b with h | h <;> simp [h]
theorem get2 {f g : Int} : ∀ (k : Nat) (x : Int), [f, g][k]? = some x → getL [AC.v (.int .i64 f), AC.v (.int .i64 g)] (0 + k) = some (.v (.int .i64 x)) := by
 intro k x h
 match k, h with
 | 0, h => simp at h; subst h; rfl
 | 1, h => simp at h; subst h; rfl
 | k + 2, h => simp at h
theorem k24 (hE : EnvOk E) (b : Nat) : COut E 0 [] 24 [.e (.one (fC b))] (iI (chkW 1024 b)) [] := by
 rw [chk_first]
 exact cOut_start Tryz.func24 rfl (c24 hE b _ _ _ (k88 hE b) (k89 hE b (L := 1024) (by decide)) (k102 hE [finW b, mulW 1024 b] rfl (by decide) get2) (fun j => outK_ret (ends_ret (by kernel_rfl))) fun _ => undef)
theorem num_max1 : Num single 2139095039 ((2 ^ 24 - 1 : Nat) * 2 ^ (104 + EX) : Nat) := by
 refine ⟨false, 2 ^ 24 - 1, 104, by decide, by decide, by decide, ?_⟩
 have hX := EX_eq
 rw [show ((104 : Int) + (EX : Int)).toNat = 104 + EX by omega]
 rfl
theorem num_min1 : Num single 4286578687 (-((2 ^ 24 - 1 : Nat) * 2 ^ (104 + EX) : Nat)) := by
 refine ⟨true, 2 ^ 24 - 1, 104, by decide, by decide, by decide, ?_⟩
 have hX := EX_eq
 rw [show ((104 : Int) + (EX : Int)).toNat = 104 + EX by omega]
 rfl
theorem fin_max {b : Nat} (h : Num single b (valW b)) : (valW b).natAbs ≤ (2 ^ 24 - 1) * 2 ^ (104 + EX) := by
 have h1 := read_bound fit_single (by decide) h
 have hX := EX_eq
 rwa [show (single.top + (EX : Int)).toNat = 104 + EX by rw [top_single]; omega] at h1
theorem fin_tests {b : Nat} (h : finW b = 0) : (FloatKind.f32.format.order b b != some Ordering.eq) = false ∧ (FloatKind.f32.format.order b 2139095039 == some Ordering.gt) = false ∧ (FloatKind.f32.format.order b 4286578687 == some Ordering.lt) = false := by
 have hn := num_finW h
 have hm := fin_max hn
 refine ⟨?_, ?_, ?_⟩
 ·show (single.order b b != some Ordering.eq) = false
  rw [hn.order fit_single hn, cmp_eq]; rfl
 ·show (single.order b 2139095039 == some Ordering.gt) = false
  rw [hn.order fit_single num_max1, cmp_gt_iff]
  exact decide_eq_false (by omega)
 ·show (single.order b 4286578687 == some Ordering.lt) = false
  rw [hn.order fit_single num_min1, cmp_lt_iff]
  exact decide_eq_false (by omega)
theorem val_pow {b L : Nat} (hL : L ≤ 4096) (h : (valW b).natAbs ≤ L * KK) : (valW b).natAbs < 2 ^ (13 + EX) := Nat.lt_of_le_of_lt h (KK_pow L (by omega))
theorem int_bound {b L : Nat} (h : (valW b).natAbs ≤ L * KK) : (intW b).natAbs ≤ 16 * L := by
 unfold intW
 have hk := KK_pos
 rw [Int.natAbs_tdiv, Int.natAbs_mul, show (16 : Int).natAbs = 16 from rfl, show (KK : Int).natAbs = KK from rfl]
 apply Nat.div_le_of_le_mul
 rw [Nat.mul_comm KK, Nat.mul_assoc]
 exact Nat.mul_le_mul_left 16 h
theorem k90_1024 (hE : EnvOk E) (b : Nat) : COut E 0 [] 90 [.e (.one (fC b)), iI 1024] (iI (chkW 1024 b)) [] := by
 by_cases h : finW b = 0
 ·obtain ⟨h1, h2, h3⟩ := fin_tests h
  have hn := num_finW h
  have hk := KK_pos
  have hp : Num single 1149239296 (1024 * KK) := by
   have := num_of_int (k := .f32) fit_single (by decide) (by decide) (n := 1024) (by decide)
   rwa [show FloatKind.f32.nearest 1024 = 1149239296 by decide] at this
  have hm : Num single 3296722944 (-1024 * KK) := by
   have := num_of_int (k := .f32) fit_single (by decide) (by decide) (n := -1024) (by decide)
   rwa [show FloatKind.f32.nearest (-1024) = 3296722944 by decide] at this
  have e1 : (FloatKind.f32.format.order b 1149239296 == some Ordering.gt) = decide (1024 * KK < valW b) := by
   show (single.order b 1149239296 == some Ordering.gt) = _
   rw [hn.order fit_single hp, cmp_gt_iff]
  have e2 : (FloatKind.f32.format.order b 3296722944 == some Ordering.lt) = decide (valW b < -1024 * KK) := by
   show (single.order b 3296722944 == some Ordering.lt) = _
   rw [hn.order fit_single hm, cmp_lt_iff]
  have ec : chkW 1024 b = mulW 1024 b := by unfold chkW; rw [if_pos h]
  by_cases g1 : 1024 * (KK : Int) < valW b
  ·have : chkW 1024 b = 3 := by rw [ec]; unfold mulW; rw [if_neg fun h6 => by have := h6.2.2; omega]
   rw [this]
   exact cOut_start Tryz.func90 rfl (c90g_1024 hE b 0 0 0 0 (iBe h1) (iBe h2) (iBe h3) (iBe (by rw [e1]; exact decide_eq_true g1)) (fun j => outK_ret (ends_ret (by kernel_rfl))) fun _ => undef)
  ·by_cases g2 : valW b < -1024 * (KK : Int)
   ·have : chkW 1024 b = 3 := by rw [ec]; unfold mulW; rw [if_neg fun h6 => by have := h6.2.2; omega]
    rw [this]
    exact cOut_start Tryz.func90 rfl (c90l_1024 hE b 0 0 0 0 (iBe h1) (iBe h2) (iBe h3) (iBe (by rw [e1]; exact decide_eq_false g1)) (iBe (by rw [e2]; exact decide_eq_true g2)) (fun j => outK_ret (ends_ret (by kernel_rfl))) fun _ => undef)
   ·have hab : (valW b).natAbs ≤ 1024 * KK := by omega
    obtain ⟨r, hr, hrn⟩ := hn.mul16 fit_single (by decide) (c := 1098907648) c16_single (by decide) (val_pow (by decide) hab) (by rw [EX_eq]; decide)
    have hi := int_bound hab
    have hq := num_of_int (k := .f32) fit_single (by decide) (by decide) (n := intW b) (by show _ < 2 ^ 24; omega)
    have hto : (single.read r).toInt .zero = some (intW b) := hrn.toInt fit_single
    have ex : (FloatKind.f32.format.order (FloatKind.f32.nearest (intW b)) r != some Ordering.eq) = decide (¬ (16 * valW b) % KK = 0) := by
     show (single.order (FloatKind.f32.nearest (intW b)) r != some Ordering.eq) = _
     rw [show single.order (FloatKind.f32.nearest (intW b)) r = _ from Num.order fit_single hq hrn, bne, cmp_eq_iff]
     have hw := @whole_iff (16 * valW b)
     have : (intW b * (KK : Int) = 16 * valW b) ↔ (16 * valW b) % KK = 0 := ⟨fun e => hw.1 e.symm, fun e => (hw.2 e).symm⟩
     simp [this]
    have he : chkW 1024 b = if decide (¬ (16 * valW b) % KK = 0) = true then 3 else 0 := by
     rw [ec]
     unfold mulW
     by_cases h5 : (16 * valW b) % KK = 0
     ·rw [if_pos ⟨h, h5, hab⟩]; simp [h5]
     ·rw [if_neg fun h6 => h5 h6.2.1]; simp [h5]
    rw [he]
    exact cOut_start Tryz.func90 rfl (c90f_1024 hE b r (FloatKind.f32.nearest (intW b)) (intW b) _ (iBe h1) (iBe h2) (iBe h3) (iBe (by rw [e1]; exact decide_eq_false g1)) (iBe (by rw [e2]; exact decide_eq_false g2)) (mul_ok hr) (conv_toInt u23 u3 hto (by omega) (by omega)) (conv_int u3 u23 _) (mul_ok hr) (by rw [ex]; exact k60 hE _ 3) (fun j => outK_ret (ends_ret (by kernel_rfl))) fun _ => undef)
 ·have : chkW 1024 b = 1 := by unfold chkW; rw [if_neg h]
  rw [this]
  rcases not_fin h with h1 | ⟨u, h1⟩
  ·exact cOut_start Tryz.func90 rfl (c90n_1024 hE b 0 0 0 0 (iBe (by show (single.order b b != some Ordering.eq) = true; rw [isNaN_order h1]; rfl)) (fun j => outK_ret (ends_ret (by kernel_rfl))) fun _ => undef)
  ·have e0 : (FloatKind.f32.format.order b b != some Ordering.eq) = false := by
    show (single.order b b != some Ordering.eq) = false
    unfold Format.order
    rw [h1]
    cases u <;> rfl
   cases u with
   | false => exact cOut_start Tryz.func90 rfl (c90p_1024 hE b 0 0 0 0 (iBe e0) (iBe (by show (single.order b 2139095039 == some Ordering.gt) = true; unfold Format.order; rw [h1, show single.read 2139095039 = .number false 16777215 104 by decide]; rfl)) (fun j => outK_ret (ends_ret (by kernel_rfl))) fun _ => undef)
   | true => exact cOut_start Tryz.func90 rfl (c90m_1024 hE b 0 0 0 0 (iBe e0) (iBe (by show (single.order b 2139095039 == some Ordering.gt) = false; unfold Format.order; rw [h1, show single.read 2139095039 = .number false 16777215 104 by decide]; rfl)) (iBe (by show (single.order b 4286578687 == some Ordering.lt) = true; unfold Format.order; rw [h1, show single.read 4286578687 = .number true 16777215 104 by decide]; rfl)) (fun j => outK_ret (ends_ret (by kernel_rfl))) fun _ => undef)
theorem k25 (hE : EnvOk E) (b : Nat) : COut E 0 [] 25 [.e (.one (fC b))] (iI (chkW 1024 b)) [] :=
 cOut_start Tryz.func25 rfl (c25 hE b _ (k90_1024 hE b) (fun j => outK_ret (ends_ret (by kernel_rfl))) fun _ => undef)
theorem k106 (hE : EnvOk E) {L b : Nat} (hL : L ≤ 4096) (h : chkW L b = 0) : COut E 0 [] 106 [.e (.one (fC b))] (iI (intW b)) [] := by
 obtain ⟨r, hr, ht, _⟩ := mul_int (by omega) h
 have := (chk_zero h).2.2
 exact cOut_start Tryz.func106 rfl (c106 hE b r (intW b) (mul_ok hr) (conv_toInt u23 u3 ht (by omega) (by omega)) (fun j => outK_ret (ends_ret (by kernel_rfl))) fun _ => undef)
theorem k65 (hE : EnvOk E) {L b : Nat} (hL : L ≤ 4096) (h : chkW L b = 0) : COut E 0 [] 65 [.e (.one (fC b))] (iI (intW b)) [] := by
 obtain ⟨r, hr, ht, _⟩ := mul_int (by omega) h
 have := (chk_zero h).2.2
 exact cOut_start Tryz.func65 rfl (c65 hE b r (intW b) (mul_ok hr) (conv_toInt u23 u3 ht (by omega) (by omega)) (fun j => outK_ret (ends_ret (by kernel_rfl))) fun _ => undef)
theorem k101 (hE : EnvOk E) {n : Int} (hn : n.natAbs < 2 ^ 24) : COut E 0 [] 101 [iI n] (.e (.one (fC (smpW n)))) [] := by
 obtain ⟨_, _, hd, _⟩ := smp_num hn
 exact cOut_start Tryz.func101 rfl (c101 hE n (FloatKind.f32.nearest n) (smpW n) (conv_int u3 u23 n) (quo_ok hd) (fun j => outK_ret (ends_ret (by kernel_rfl))) fun _ => undef)
end
end Go.Proofs.YtbmcfhkedgpldaaGreatDoor
end
