/-
  Part of the proof: SeH, SeLem, SeWa, SeWb, SeWc, SyK, SyL, SyO, SyArg, SyList, SyRd, SeEqI, SeGen, SeWd, SeWe, SeRow, SeFr, SeFa, SeFb.
-/
import Derived.Test.YtnhabbponbpmfaaGreatDoorSeZE
import Derived.ChangeArms
import Derived.KernelRfl
import Derived.OpenShut
import Derived.Stop.BytesEq
import Derived.WideShapes

/-! SeH -/
section
open Go Go.Ev
namespace Go.Proofs.YtnhabbponbpmfaaGreatDoor
noncomputable section
def R0 : RunT := rec0
theorem R0_ok {E : Env} (_ : EnvOk E) : RecOk E R0 := rec0_ok E
def R4 : RunT := run E 4000
theorem R4_ok (hE : EnvOk E) : RecOk E R4 := run_sound hE 4000
theorem wrap_id {n : Int} (h0 : -9223372036854775808 ≤ n) (h1 : n ≤ 9223372036854775807) : wrapF .i64 n = n := by
 rw [wrapF_eq]
 exact IntWalk.i64_in n (by omega)
theorem aP {p : Prop} {l : List Prop} (h : p) (t : AllP l) : AllP (p :: l) := ⟨h, t⟩
theorem aN {l : List Prop} (t : AllP l) : AllP ((([] : List Nat) = []) :: l) := ⟨rfl, t⟩
theorem aZ : AllP [] := trivial
end
end Go.Proofs.YtnhabbponbpmfaaGreatDoor
end

/-! SeLem -/
section
open Go Go.Ev
namespace Go.Proofs.YtnhabbponbpmfaaGreatDoor
noncomputable section
theorem iIe {a b : Int} (h : a = b) : (iI a : AV) = iI b := by rw [h]
theorem flat_u8c (l : List UInt8) : FlatC (l.map u8c) := fun c hc => by
 obtain ⟨x, _, rfl⟩ := List.mem_map.1 hc
 rfl
theorem flat_app {l m : List AC} (h : FlatC l) (h' : FlatC m) : FlatC (l ++ m) := fun c hc => by
 rcases List.mem_append.1 hc with hc | hc
 ·exact h c hc
 ·exact h' c hc
end
end Go.Proofs.YtnhabbponbpmfaaGreatDoor
end

/-! SeWa -/
section
open Go Go.Ev
namespace Go.Proofs.YtnhabbponbpmfaaGreatDoor
noncomputable section
set_option maxRecDepth 100000
set_option maxHeartbeats 20000000
def s80 (c : Bool) (e : Int) (_j : Nat → Value) : St := startK Tryz.f80 [] [iB c, iI e]
def s65 (c : Bool) (e : Int) (_j : Nat → Value) : St := startK Tryz.f65 [] [iB c, iI e]
def A80_f_end (_c : Bool) (_e : Int) (j : Nat → Value) : St := ⟨[], [(.code .ret)], mkT j [(4, (iI 0))] 7 0⟩
theorem A80_f (hE : EnvOk E) (c : Bool) (e : Int) (c0 : (c : Bool) = false)  {Φ : Res → Prop} (ho : ∀ j, OutK E 0 0 (A80_f_end c e j) Φ) (j : Nat → Value) : OutK E 0 0 (s80 c e j) Φ :=
 outK_seg hE (R0_ok hE) [.run 5, (.cond false), .run 3] [4] (ps := [(c : Bool) = false]) (fun j => by kernel_rfl) ⟨c0, trivial⟩
  ho
theorem A80_f_c (hE : EnvOk E) (c : Bool) (e : Int) (c0 : (c : Bool) = false)  : COut E 0 [] 80 [(iB (c)), (iI (e))] (iI 0) [] := cOut_start Tryz.func80 rfl (A80_f hE c e c0  (fun j => outK_ret (ends_ret (by kernel_rfl))) fun _ => undef)
def A80_t_end (_c : Bool) (e : Int) (j : Nat → Value) : St := ⟨[], [(.code .ret), (.code (atC [1, 1] (bodyOf Tryz.f80)))], mkT j [(4, (iI (e)))] 7 0⟩
theorem A80_t (hE : EnvOk E) (c : Bool) (e : Int) (c0 : (c : Bool) = true)  {Φ : Res → Prop} (ho : ∀ j, OutK E 0 0 (A80_t_end c e j) Φ) (j : Nat → Value) : OutK E 0 0 (s80 c e j) Φ :=
 outK_seg hE (R0_ok hE) [.run 5, (.cond true), .run 2] [4] (ps := [(c : Bool) = true]) (fun j => by kernel_rfl) ⟨c0, trivial⟩
  ho
theorem A80_t_c (hE : EnvOk E) (c : Bool) (e : Int) (c0 : (c : Bool) = true)  : COut E 0 [] 80 [(iB (c)), (iI (e))] (iI (e)) [] := cOut_start Tryz.func80 rfl (A80_t hE c e c0  (fun j => outK_ret (ends_ret (by kernel_rfl))) fun _ => undef)
def A80_r0 (c : Bool) (e : Int) : Int := (bif c then (e) else 0)
theorem A80_all (hE : EnvOk E) (c : Bool) (e : Int) : COut E 0 [] 80 [(iB (c)), (iI (e))] (iI (A80_r0 c e)) [] := by
 rcases Bool.eq_false_or_eq_true (c) with c0 | c0
 ·skip
  have e0 : A80_r0 c e = (e) := by unfold A80_r0; rw [c0]; first | done | rfl
  rw [e0]
  exact A80_t_c hE c e c0 
 ·skip
  have e0 : A80_r0 c e = 0 := by unfold A80_r0; rw [c0]; first | done | rfl
  rw [e0]
  exact A80_f_c hE c e c0 
def A65_f_end (_c : Bool) (_e : Int) (j : Nat → Value) : St := ⟨[], [(.code .ret)], mkT j [(4, (iI 0))] 7 0⟩
theorem A65_f (hE : EnvOk E) (c : Bool) (e : Int) (c0 : (c : Bool) = false)  {Φ : Res → Prop} (ho : ∀ j, OutK E 0 0 (A65_f_end c e j) Φ) (j : Nat → Value) : OutK E 0 0 (s65 c e j) Φ :=
 outK_seg hE (R0_ok hE) [.run 5, (.cond false), .run 3] [4] (ps := [(c : Bool) = false]) (fun j => by kernel_rfl) ⟨c0, trivial⟩
  ho
theorem A65_f_c (hE : EnvOk E) (c : Bool) (e : Int) (c0 : (c : Bool) = false)  : COut E 0 [] 65 [(iB (c)), (iI (e))] (iI 0) [] := cOut_start Tryz.func65 rfl (A65_f hE c e c0  (fun j => outK_ret (ends_ret (by kernel_rfl))) fun _ => undef)
def A65_t_end (_c : Bool) (e : Int) (j : Nat → Value) : St := ⟨[], [(.code .ret), (.code (atC [1, 1] (bodyOf Tryz.f65)))], mkT j [(4, (iI (e)))] 7 0⟩
theorem A65_t (hE : EnvOk E) (c : Bool) (e : Int) (c0 : (c : Bool) = true)  {Φ : Res → Prop} (ho : ∀ j, OutK E 0 0 (A65_t_end c e j) Φ) (j : Nat → Value) : OutK E 0 0 (s65 c e j) Φ :=
 outK_seg hE (R0_ok hE) [.run 5, (.cond true), .run 2] [4] (ps := [(c : Bool) = true]) (fun j => by kernel_rfl) ⟨c0, trivial⟩
  ho
theorem A65_t_c (hE : EnvOk E) (c : Bool) (e : Int) (c0 : (c : Bool) = true)  : COut E 0 [] 65 [(iB (c)), (iI (e))] (iI (e)) [] := cOut_start Tryz.func65 rfl (A65_t hE c e c0  (fun j => outK_ret (ends_ret (by kernel_rfl))) fun _ => undef)
def A65_r0 (c : Bool) (e : Int) : Int := (bif c then (e) else 0)
theorem A65_all (hE : EnvOk E) (c : Bool) (e : Int) : COut E 0 [] 65 [(iB (c)), (iI (e))] (iI (A65_r0 c e)) [] := by
 rcases Bool.eq_false_or_eq_true (c) with c0 | c0
 ·skip
  have e0 : A65_r0 c e = (e) := by unfold A65_r0; rw [c0]; first | done | rfl
  rw [e0]
  exact A65_t_c hE c e c0 
 ·skip
  have e0 : A65_r0 c e = 0 := by unfold A65_r0; rw [c0]; first | done | rfl
  rw [e0]
  exact A65_f_c hE c e c0 
end
end Go.Proofs.YtnhabbponbpmfaaGreatDoor
end

/-! SeWb -/
section
open Go Go.Ev
namespace Go.Proofs.YtnhabbponbpmfaaGreatDoor
noncomputable section
set_option maxRecDepth 100000
set_option maxHeartbeats 20000000
def s79 (x l h : Int) (_j : Nat → Value) : St := startK Tryz.f79 [] [iI x, iI l, iI h]
def s61 (x l h : Int) (_j : Nat → Value) : St := startK Tryz.f61 [] [iI x, iI l, iI h]
def A79_f_end (x _l h : Int) (j : Nat → Value) : St := ⟨[], [(.code .ret)], mkT j [(6, (iI (A80_r0 (decide (x > h)) (Int.ofNat (nat_lit 3)))))] 16 0⟩
theorem A79_f (hE : EnvOk E) (x l h : Int) (c0 : (decide (x < l) : Bool) = false)  {Φ : Res → Prop} (ho : ∀ j, OutK E 0 0 (A79_f_end x l h j) Φ) (j : Nat → Value) : OutK E 0 0 (s79 x l h j) Φ :=
 outK_seg hE (R0_ok hE) [.run 3, (.ops [(7, (.pk false)), (8, (.c0 (iI (A80_r0 (decide (x > h)) (Int.ofNat (nat_lit 3))))))] [(4, true), (5, true), (6, true)])] [6] (ps := [(decide (x < l) == false : Bool) = (nat_lit 4, true).snd, (decide (x < l) == false : Bool) = (nat_lit 5, true).snd, (decide (x < l) == false : Bool) = (nat_lit 6, true).snd, (decide (x < l) : Bool) = false, COut E 0 [] 80 [(iB (decide (x > h))), (iI 3)] (iI (A80_r0 (decide (x > h)) (Int.ofNat (nat_lit 3)))) [], ([] : List Nat) = []]) (fun j => by kernel_rfl) ⟨(by rw [c0]; rfl), (by rw [c0]; rfl), (by rw [c0]; rfl), c0, (A80_all hE _ _), rfl, trivial⟩
  ho
theorem A79_f_c (hE : EnvOk E) (x l h : Int) (c0 : (decide (x < l) : Bool) = false)  : COut E 0 [] 79 [(iI (x)), (iI (l)), (iI (h))] (iI (A80_r0 (decide (x > h)) (Int.ofNat (nat_lit 3)))) [] := cOut_start Tryz.func79 rfl (A79_f hE x l h c0  (fun j => outK_ret (ends_ret (by kernel_rfl))) fun _ => undef)
def A79_t_end (_x _l _h : Int) (j : Nat → Value) : St := ⟨[], [(.code .ret)], mkT j [(6, (iI 3))] 16 0⟩
theorem A79_t (hE : EnvOk E) (x l h : Int) (c0 : (decide (x < l) : Bool) = true)  {Φ : Res → Prop} (ho : ∀ j, OutK E 0 0 (A79_t_end x l h j) Φ) (j : Nat → Value) : OutK E 0 0 (s79 x l h j) Φ :=
 outK_seg hE (R0_ok hE) [.run 3, (.ops [(7, (.pk true)), (8, (.c0 (iI 3)))] [(4, false), (5, false), (6, false)])] [6] (ps := [(decide (x < l) == false : Bool) = (nat_lit 4, false).snd, (decide (x < l) == false : Bool) = (nat_lit 5, false).snd, (decide (x < l) == false : Bool) = (nat_lit 6, false).snd, (decide (x < l) : Bool) = true, COut E 0 [] 80 [(iB true), (iI 3)] (iI 3) [], ([] : List Nat) = []]) (fun j => by kernel_rfl) ⟨(by rw [c0]; rfl), (by rw [c0]; rfl), (by rw [c0]; rfl), c0, (A80_all hE _ _), rfl, trivial⟩
  ho
theorem A79_t_c (hE : EnvOk E) (x l h : Int) (c0 : (decide (x < l) : Bool) = true)  : COut E 0 [] 79 [(iI (x)), (iI (l)), (iI (h))] (iI 3) [] := cOut_start Tryz.func79 rfl (A79_t hE x l h c0  (fun j => outK_ret (ends_ret (by kernel_rfl))) fun _ => undef)
def A79_r0 (x l h : Int) : Int := (bif decide (x < l) then 3 else (A80_r0 (decide (x > h)) (Int.ofNat (nat_lit 3))))
theorem A79_all (hE : EnvOk E) (x l h : Int) : COut E 0 [] 79 [(iI (x)), (iI (l)), (iI (h))] (iI (A79_r0 x l h)) [] := by
 rcases Bool.eq_false_or_eq_true (decide (x < l)) with c0 | c0
 ·skip
  have e0 : A79_r0 x l h = 3 := by unfold A79_r0; rw [c0]; first | done | rfl
  rw [e0]
  exact A79_t_c hE x l h c0 
 ·skip
  have e0 : A79_r0 x l h = (A80_r0 (decide (x > h)) (Int.ofNat (nat_lit 3))) := by unfold A79_r0; rw [c0]; first | done | rfl
  rw [e0]
  exact A79_f_c hE x l h c0 
def A61_f_end (x _l h : Int) (j : Nat → Value) : St := ⟨[], [(.code .ret)], mkT j [(6, (iI (A65_r0 (decide (x > h)) (Int.ofNat (nat_lit 3)))))] 16 0⟩
theorem A61_f (hE : EnvOk E) (x l h : Int) (c0 : (decide (x < l) : Bool) = false)  {Φ : Res → Prop} (ho : ∀ j, OutK E 0 0 (A61_f_end x l h j) Φ) (j : Nat → Value) : OutK E 0 0 (s61 x l h j) Φ :=
 outK_seg hE (R0_ok hE) [.run 3, (.ops [(7, (.pk false)), (8, (.c0 (iI (A65_r0 (decide (x > h)) (Int.ofNat (nat_lit 3))))))] [(4, true), (5, true), (6, true)])] [6] (ps := [(decide (x < l) == false : Bool) = (nat_lit 4, true).snd, (decide (x < l) == false : Bool) = (nat_lit 5, true).snd, (decide (x < l) == false : Bool) = (nat_lit 6, true).snd, (decide (x < l) : Bool) = false, COut E 0 [] 65 [(iB (decide (x > h))), (iI 3)] (iI (A65_r0 (decide (x > h)) (Int.ofNat (nat_lit 3)))) [], ([] : List Nat) = []]) (fun j => by kernel_rfl) ⟨(by rw [c0]; rfl), (by rw [c0]; rfl), (by rw [c0]; rfl), c0, (A65_all hE _ _), rfl, trivial⟩
  ho
theorem A61_f_c (hE : EnvOk E) (x l h : Int) (c0 : (decide (x < l) : Bool) = false)  : COut E 0 [] 61 [(iI (x)), (iI (l)), (iI (h))] (iI (A65_r0 (decide (x > h)) (Int.ofNat (nat_lit 3)))) [] := cOut_start Tryz.func61 rfl (A61_f hE x l h c0  (fun j => outK_ret (ends_ret (by kernel_rfl))) fun _ => undef)
def A61_t_end (_x _l _h : Int) (j : Nat → Value) : St := ⟨[], [(.code .ret)], mkT j [(6, (iI 3))] 16 0⟩
theorem A61_t (hE : EnvOk E) (x l h : Int) (c0 : (decide (x < l) : Bool) = true)  {Φ : Res → Prop} (ho : ∀ j, OutK E 0 0 (A61_t_end x l h j) Φ) (j : Nat → Value) : OutK E 0 0 (s61 x l h j) Φ :=
 outK_seg hE (R0_ok hE) [.run 3, (.ops [(7, (.pk true)), (8, (.c0 (iI 3)))] [(4, false), (5, false), (6, false)])] [6] (ps := [(decide (x < l) == false : Bool) = (nat_lit 4, false).snd, (decide (x < l) == false : Bool) = (nat_lit 5, false).snd, (decide (x < l) == false : Bool) = (nat_lit 6, false).snd, (decide (x < l) : Bool) = true, COut E 0 [] 65 [(iB true), (iI 3)] (iI 3) [], ([] : List Nat) = []]) (fun j => by kernel_rfl) ⟨(by rw [c0]; rfl), (by rw [c0]; rfl), (by rw [c0]; rfl), c0, (A65_all hE _ _), rfl, trivial⟩
  ho
theorem A61_t_c (hE : EnvOk E) (x l h : Int) (c0 : (decide (x < l) : Bool) = true)  : COut E 0 [] 61 [(iI (x)), (iI (l)), (iI (h))] (iI 3) [] := cOut_start Tryz.func61 rfl (A61_t hE x l h c0  (fun j => outK_ret (ends_ret (by kernel_rfl))) fun _ => undef)
def A61_r0 (x l h : Int) : Int := (bif decide (x < l) then 3 else (A65_r0 (decide (x > h)) (Int.ofNat (nat_lit 3))))
theorem A61_all (hE : EnvOk E) (x l h : Int) : COut E 0 [] 61 [(iI (x)), (iI (l)), (iI (h))] (iI (A61_r0 x l h)) [] := by
 rcases Bool.eq_false_or_eq_true (decide (x < l)) with c0 | c0
 ·skip
  have e0 : A61_r0 x l h = 3 := by unfold A61_r0; rw [c0]; first | done | rfl
  rw [e0]
  exact A61_t_c hE x l h c0 
 ·skip
  have e0 : A61_r0 x l h = (A65_r0 (decide (x > h)) (Int.ofNat (nat_lit 3))) := by unfold A61_r0; rw [c0]; first | done | rfl
  rw [e0]
  exact A61_f_c hE x l h c0 
end
end Go.Proofs.YtnhabbponbpmfaaGreatDoor
end

/-! SeWc -/
section
open Go Go.Ev
namespace Go.Proofs.YtnhabbponbpmfaaGreatDoor
noncomputable section
set_option maxRecDepth 100000
set_option maxHeartbeats 20000000
def s29 (a b c : Int) (B : List DT) (n : Nat) (_j : Nat → Value) : St := startK Tryz.f29 [] [.e (.agg [.v (.int .i64 a), .v (.int .i64 b), .v (.int .i64 c), .dp (.s B n 1)])]
def A29_fff_end (_a _b _c : Int) (_B : List DT) (n : Nat) (j : Nat → Value) : St := ⟨[], [(.code .ret)], mkT j [(2, (iI (A80_r0 (decide ((↑n : Int) > (12 : Int))) (Int.ofNat (nat_lit 5)))))] 30 0⟩
theorem A29_fff (hE : EnvOk E) (a b c : Int) (B : List DT) (n : Nat) (c0 : (A79_r0 a (Int.ofNat (nat_lit 0)) (Int.ofNat (nat_lit 255)) != (0 : Int) : Bool) = false) (c1 : (A79_r0 c (Int.ofNat (nat_lit 1)) (Int.ofNat (nat_lit 64)) != (0 : Int) : Bool) = false) (c2 : (A79_r0 b (Int.ofNat (nat_lit 0)) (wrapF IntKind.i64 (c - (1 : Int))) != (0 : Int) : Bool) = false)  {Φ : Res → Prop} (ho : ∀ j, OutK E 0 0 (A29_fff_end a b c B n j) Φ) (j : Nat → Value) : OutK E 0 0 (s29 a b c B n j) Φ :=
 outK_seg hE (R4_ok hE) [.run 17, (.ops [(10, (.c0 (iI (A79_r0 a (Int.ofNat (nat_lit 0)) (Int.ofNat (nat_lit 255))))))] []), .run 2, (.cond false), .run 14, (.ops [(10, (.c0 (iI (A79_r0 c (Int.ofNat (nat_lit 1)) (Int.ofNat (nat_lit 64))))))] []), .run 2, (.cond false), .run 14, (.ops [(10, (.c0 (iI (A79_r0 b (Int.ofNat (nat_lit 0)) (wrapF IntKind.i64 (c - (1 : Int)))))))] []), .run 2, (.cond false), .run 10, (.ops [(2, (.d .len)), (4, (.c0 (iI (A80_r0 (decide ((↑n : Int) > (12 : Int))) (Int.ofNat (nat_lit 5))))))] [])] [2] (s' := fun j => ⟨[(.some ⟨[(.v (.int .i64 (a))), (.v (.int .i64 (b))), (.v (.int .i64 (c))), (.dp (.s (B) (n) 1))], 4, 38, true, .cells⟩), (.some ⟨[(.v (.func (.func 130) #[] #[])), (.v (.int .i64 0)), (.v (.func (.func 131) #[] #[]))], 3, 163, true, .cells⟩), (.some ⟨[(.v (.func (.func 132) #[] #[])), (.v (.int .i64 1)), (.v (.func (.func 133) #[] #[]))], 3, 163, true, .cells⟩), (.some ⟨[(.v (.func (.func 134) #[] #[])), (.v (.int .i64 0)), (.v (.func (.func 135) #[] #[]))], 3, 163, true, .cells⟩)], [(.code .ret)], mkT j [(2, (iI (A80_r0 (decide ((↑n : Int) > (12 : Int))) (Int.ofNat (nat_lit 5)))))] 30 0⟩) (ps := [(true : Bool) = true, COut E 0 [] 79 [(iI (a)), (iI 0), (iI 255)] (iI (A79_r0 a (Int.ofNat (nat_lit 0)) (Int.ofNat (nat_lit 255)))) [], ([] : List Nat) = [], (A79_r0 a (Int.ofNat (nat_lit 0)) (Int.ofNat (nat_lit 255)) != (0 : Int) : Bool) = false, (true : Bool) = true, COut E 0 [] 79 [(iI (c)), (iI 1), (iI 64)] (iI (A79_r0 c (Int.ofNat (nat_lit 1)) (Int.ofNat (nat_lit 64)))) [], ([] : List Nat) = [], (A79_r0 c (Int.ofNat (nat_lit 1)) (Int.ofNat (nat_lit 64)) != (0 : Int) : Bool) = false, (true : Bool) = true, COut E 0 [] 79 [(iI (b)), (iI 0), (iI (wrapF IntKind.i64 (c - (1 : Int))))] (iI (A79_r0 b (Int.ofNat (nat_lit 0)) (wrapF IntKind.i64 (c - (1 : Int))))) [], ([] : List Nat) = [], (A79_r0 b (Int.ofNat (nat_lit 0)) (wrapF IntKind.i64 (c - (1 : Int))) != (0 : Int) : Bool) = false, COut E 0 [] 80 [(iB (decide ((↑n : Int) > (12 : Int)))), (iI 5)] (iI (A80_r0 (decide ((↑n : Int) > (12 : Int))) (Int.ofNat (nat_lit 5)))) [], ([] : List Nat) = []]) (fun j => by kernel_rfl) ⟨rfl, (A79_all hE _ _ _), rfl, c0, rfl, (A79_all hE _ _ _), rfl, c1, rfl, (A79_all hE _ _ _), rfl, c2, (A80_all hE _ _), rfl, trivial⟩
  fun j => outK_gc [] (by decide) (by kernel_rfl) (by kernel_rfl) (by kernel_rfl) (ho j)
theorem A29_fff_c (hE : EnvOk E) (a b c : Int) (B : List DT) (n : Nat) (c0 : (A79_r0 a (Int.ofNat (nat_lit 0)) (Int.ofNat (nat_lit 255)) != (0 : Int) : Bool) = false) (c1 : (A79_r0 c (Int.ofNat (nat_lit 1)) (Int.ofNat (nat_lit 64)) != (0 : Int) : Bool) = false) (c2 : (A79_r0 b (Int.ofNat (nat_lit 0)) (wrapF IntKind.i64 (c - (1 : Int))) != (0 : Int) : Bool) = false)  : COut E 0 [] 29 [(.e (.agg [(.v (.int .i64 (a))), (.v (.int .i64 (b))), (.v (.int .i64 (c))), (.dp (.s (B) (n) 1))]))] (iI (A80_r0 (decide ((↑n : Int) > (12 : Int))) (Int.ofNat (nat_lit 5)))) [] := cOut_start Tryz.func29 rfl (A29_fff hE a b c B n c0 c1 c2  (fun j => outK_ret (ends_ret (by kernel_rfl))) fun _ => undef)
def A29_fft_end (_a b c : Int) (_B : List DT) (_n : Nat) (j : Nat → Value) : St := ⟨[], [(.code .ret), (.inBlock 1), (.code (atC [1, 0, 1, 0, 0, 1, 1, 1] (bodyOf Tryz.f29))), (.inLoop (atC [1, 0, 1, 0, 0] (bodyOf Tryz.f29))), (.inBlock 0), (.code (atC [1, 1] (bodyOf Tryz.f29)))], mkT j [(2, (iI (A79_r0 b (Int.ofNat (nat_lit 0)) (wrapF IntKind.i64 (c - (1 : Int))))))] 30 0⟩
theorem A29_fft (hE : EnvOk E) (a b c : Int) (B : List DT) (n : Nat) (c0 : (A79_r0 a (Int.ofNat (nat_lit 0)) (Int.ofNat (nat_lit 255)) != (0 : Int) : Bool) = false) (c1 : (A79_r0 c (Int.ofNat (nat_lit 1)) (Int.ofNat (nat_lit 64)) != (0 : Int) : Bool) = false) (c2 : (A79_r0 b (Int.ofNat (nat_lit 0)) (wrapF IntKind.i64 (c - (1 : Int))) != (0 : Int) : Bool) = true)  {Φ : Res → Prop} (ho : ∀ j, OutK E 0 0 (A29_fft_end a b c B n j) Φ) (j : Nat → Value) : OutK E 0 0 (s29 a b c B n j) Φ :=
 outK_seg hE (R4_ok hE) [.run 17, (.ops [(10, (.c0 (iI (A79_r0 a (Int.ofNat (nat_lit 0)) (Int.ofNat (nat_lit 255))))))] []), .run 2, (.cond false), .run 14, (.ops [(10, (.c0 (iI (A79_r0 c (Int.ofNat (nat_lit 1)) (Int.ofNat (nat_lit 64))))))] []), .run 2, (.cond false), .run 14, (.ops [(10, (.c0 (iI (A79_r0 b (Int.ofNat (nat_lit 0)) (wrapF IntKind.i64 (c - (1 : Int)))))))] []), .run 2, (.cond true), .run 2] [2] (s' := fun j => ⟨[(.some ⟨[(.v (.int .i64 (a))), (.v (.int .i64 (b))), (.v (.int .i64 (c))), (.dp (.s (B) (n) 1))], 4, 38, true, .cells⟩), (.some ⟨[(.v (.func (.func 130) #[] #[])), (.v (.int .i64 0)), (.v (.func (.func 131) #[] #[]))], 3, 163, true, .cells⟩), (.some ⟨[(.v (.func (.func 132) #[] #[])), (.v (.int .i64 1)), (.v (.func (.func 133) #[] #[]))], 3, 163, true, .cells⟩), (.some ⟨[(.v (.func (.func 134) #[] #[])), (.v (.int .i64 0)), (.v (.func (.func 135) #[] #[]))], 3, 163, true, .cells⟩)], [(.code .ret), (.inBlock 1), (.code (atC [1, 0, 1, 0, 0, 1, 1, 1] (bodyOf Tryz.f29))), (.inLoop (atC [1, 0, 1, 0, 0] (bodyOf Tryz.f29))), (.inBlock 0), (.code (atC [1, 1] (bodyOf Tryz.f29)))], mkT j [(2, (iI (A79_r0 b (Int.ofNat (nat_lit 0)) (wrapF IntKind.i64 (c - (1 : Int))))))] 30 0⟩) (ps := [(true : Bool) = true, COut E 0 [] 79 [(iI (a)), (iI 0), (iI 255)] (iI (A79_r0 a (Int.ofNat (nat_lit 0)) (Int.ofNat (nat_lit 255)))) [], ([] : List Nat) = [], (A79_r0 a (Int.ofNat (nat_lit 0)) (Int.ofNat (nat_lit 255)) != (0 : Int) : Bool) = false, (true : Bool) = true, COut E 0 [] 79 [(iI (c)), (iI 1), (iI 64)] (iI (A79_r0 c (Int.ofNat (nat_lit 1)) (Int.ofNat (nat_lit 64)))) [], ([] : List Nat) = [], (A79_r0 c (Int.ofNat (nat_lit 1)) (Int.ofNat (nat_lit 64)) != (0 : Int) : Bool) = false, (true : Bool) = true, COut E 0 [] 79 [(iI (b)), (iI 0), (iI (wrapF IntKind.i64 (c - (1 : Int))))] (iI (A79_r0 b (Int.ofNat (nat_lit 0)) (wrapF IntKind.i64 (c - (1 : Int))))) [], ([] : List Nat) = [], (A79_r0 b (Int.ofNat (nat_lit 0)) (wrapF IntKind.i64 (c - (1 : Int))) != (0 : Int) : Bool) = true]) (fun j => by kernel_rfl) ⟨rfl, (A79_all hE _ _ _), rfl, c0, rfl, (A79_all hE _ _ _), rfl, c1, rfl, (A79_all hE _ _ _), rfl, c2, trivial⟩
  fun j => outK_gc [] (by decide) (by kernel_rfl) (by kernel_rfl) (by kernel_rfl) (ho j)
theorem A29_fft_c (hE : EnvOk E) (a b c : Int) (B : List DT) (n : Nat) (c0 : (A79_r0 a (Int.ofNat (nat_lit 0)) (Int.ofNat (nat_lit 255)) != (0 : Int) : Bool) = false) (c1 : (A79_r0 c (Int.ofNat (nat_lit 1)) (Int.ofNat (nat_lit 64)) != (0 : Int) : Bool) = false) (c2 : (A79_r0 b (Int.ofNat (nat_lit 0)) (wrapF IntKind.i64 (c - (1 : Int))) != (0 : Int) : Bool) = true)  : COut E 0 [] 29 [(.e (.agg [(.v (.int .i64 (a))), (.v (.int .i64 (b))), (.v (.int .i64 (c))), (.dp (.s (B) (n) 1))]))] (iI (A79_r0 b (Int.ofNat (nat_lit 0)) (wrapF IntKind.i64 (c - (1 : Int))))) [] := cOut_start Tryz.func29 rfl (A29_fft hE a b c B n c0 c1 c2  (fun j => outK_ret (ends_ret (by kernel_rfl))) fun _ => undef)
def A29_ft_end (_a _b c : Int) (_B : List DT) (_n : Nat) (j : Nat → Value) : St := ⟨[], [(.code .ret), (.inBlock 1), (.code (atC [1, 0, 1, 0, 0, 1, 1, 1] (bodyOf Tryz.f29))), (.inLoop (atC [1, 0, 1, 0, 0] (bodyOf Tryz.f29))), (.inBlock 0), (.code (atC [1, 1] (bodyOf Tryz.f29)))], mkT j [(2, (iI (A79_r0 c (Int.ofNat (nat_lit 1)) (Int.ofNat (nat_lit 64)))))] 30 0⟩
theorem A29_ft (hE : EnvOk E) (a b c : Int) (B : List DT) (n : Nat) (c0 : (A79_r0 a (Int.ofNat (nat_lit 0)) (Int.ofNat (nat_lit 255)) != (0 : Int) : Bool) = false) (c1 : (A79_r0 c (Int.ofNat (nat_lit 1)) (Int.ofNat (nat_lit 64)) != (0 : Int) : Bool) = true)  {Φ : Res → Prop} (ho : ∀ j, OutK E 0 0 (A29_ft_end a b c B n j) Φ) (j : Nat → Value) : OutK E 0 0 (s29 a b c B n j) Φ :=
 outK_seg hE (R4_ok hE) [.run 17, (.ops [(10, (.c0 (iI (A79_r0 a (Int.ofNat (nat_lit 0)) (Int.ofNat (nat_lit 255))))))] []), .run 2, (.cond false), .run 14, (.ops [(10, (.c0 (iI (A79_r0 c (Int.ofNat (nat_lit 1)) (Int.ofNat (nat_lit 64))))))] []), .run 2, (.cond true), .run 2] [2] (s' := fun j => ⟨[(.some ⟨[(.v (.int .i64 (a))), (.v (.int .i64 (b))), (.v (.int .i64 (c))), (.dp (.s (B) (n) 1))], 4, 38, true, .cells⟩), (.some ⟨[(.v (.func (.func 130) #[] #[])), (.v (.int .i64 0)), (.v (.func (.func 131) #[] #[]))], 3, 163, true, .cells⟩), (.some ⟨[(.v (.func (.func 132) #[] #[])), (.v (.int .i64 1)), (.v (.func (.func 133) #[] #[]))], 3, 163, true, .cells⟩)], [(.code .ret), (.inBlock 1), (.code (atC [1, 0, 1, 0, 0, 1, 1, 1] (bodyOf Tryz.f29))), (.inLoop (atC [1, 0, 1, 0, 0] (bodyOf Tryz.f29))), (.inBlock 0), (.code (atC [1, 1] (bodyOf Tryz.f29)))], mkT j [(2, (iI (A79_r0 c (Int.ofNat (nat_lit 1)) (Int.ofNat (nat_lit 64)))))] 30 0⟩) (ps := [(true : Bool) = true, COut E 0 [] 79 [(iI (a)), (iI 0), (iI 255)] (iI (A79_r0 a (Int.ofNat (nat_lit 0)) (Int.ofNat (nat_lit 255)))) [], ([] : List Nat) = [], (A79_r0 a (Int.ofNat (nat_lit 0)) (Int.ofNat (nat_lit 255)) != (0 : Int) : Bool) = false, (true : Bool) = true, COut E 0 [] 79 [(iI (c)), (iI 1), (iI 64)] (iI (A79_r0 c (Int.ofNat (nat_lit 1)) (Int.ofNat (nat_lit 64)))) [], ([] : List Nat) = [], (A79_r0 c (Int.ofNat (nat_lit 1)) (Int.ofNat (nat_lit 64)) != (0 : Int) : Bool) = true]) (fun j => by kernel_rfl) ⟨rfl, (A79_all hE _ _ _), rfl, c0, rfl, (A79_all hE _ _ _), rfl, c1, trivial⟩
  fun j => outK_gc [] (by decide) (by kernel_rfl) (by kernel_rfl) (by kernel_rfl) (ho j)
theorem A29_ft_c (hE : EnvOk E) (a b c : Int) (B : List DT) (n : Nat) (c0 : (A79_r0 a (Int.ofNat (nat_lit 0)) (Int.ofNat (nat_lit 255)) != (0 : Int) : Bool) = false) (c1 : (A79_r0 c (Int.ofNat (nat_lit 1)) (Int.ofNat (nat_lit 64)) != (0 : Int) : Bool) = true)  : COut E 0 [] 29 [(.e (.agg [(.v (.int .i64 (a))), (.v (.int .i64 (b))), (.v (.int .i64 (c))), (.dp (.s (B) (n) 1))]))] (iI (A79_r0 c (Int.ofNat (nat_lit 1)) (Int.ofNat (nat_lit 64)))) [] := cOut_start Tryz.func29 rfl (A29_ft hE a b c B n c0 c1  (fun j => outK_ret (ends_ret (by kernel_rfl))) fun _ => undef)
def A29_t_end (a _b _c : Int) (_B : List DT) (_n : Nat) (j : Nat → Value) : St := ⟨[], [(.code .ret), (.inBlock 1), (.code (atC [1, 0, 1, 0, 0, 1, 1, 1] (bodyOf Tryz.f29))), (.inLoop (atC [1, 0, 1, 0, 0] (bodyOf Tryz.f29))), (.inBlock 0), (.code (atC [1, 1] (bodyOf Tryz.f29)))], mkT j [(2, (iI (A79_r0 a (Int.ofNat (nat_lit 0)) (Int.ofNat (nat_lit 255)))))] 30 0⟩
theorem A29_t (hE : EnvOk E) (a b c : Int) (B : List DT) (n : Nat) (c0 : (A79_r0 a (Int.ofNat (nat_lit 0)) (Int.ofNat (nat_lit 255)) != (0 : Int) : Bool) = true)  {Φ : Res → Prop} (ho : ∀ j, OutK E 0 0 (A29_t_end a b c B n j) Φ) (j : Nat → Value) : OutK E 0 0 (s29 a b c B n j) Φ :=
 outK_seg hE (R4_ok hE) [.run 17, (.ops [(10, (.c0 (iI (A79_r0 a (Int.ofNat (nat_lit 0)) (Int.ofNat (nat_lit 255))))))] []), .run 2, (.cond true), .run 2] [2] (s' := fun j => ⟨[(.some ⟨[(.v (.int .i64 (a))), (.v (.int .i64 (b))), (.v (.int .i64 (c))), (.dp (.s (B) (n) 1))], 4, 38, true, .cells⟩), (.some ⟨[(.v (.func (.func 130) #[] #[])), (.v (.int .i64 0)), (.v (.func (.func 131) #[] #[]))], 3, 163, true, .cells⟩)], [(.code .ret), (.inBlock 1), (.code (atC [1, 0, 1, 0, 0, 1, 1, 1] (bodyOf Tryz.f29))), (.inLoop (atC [1, 0, 1, 0, 0] (bodyOf Tryz.f29))), (.inBlock 0), (.code (atC [1, 1] (bodyOf Tryz.f29)))], mkT j [(2, (iI (A79_r0 a (Int.ofNat (nat_lit 0)) (Int.ofNat (nat_lit 255)))))] 30 0⟩) (ps := [(true : Bool) = true, COut E 0 [] 79 [(iI (a)), (iI 0), (iI 255)] (iI (A79_r0 a (Int.ofNat (nat_lit 0)) (Int.ofNat (nat_lit 255)))) [], ([] : List Nat) = [], (A79_r0 a (Int.ofNat (nat_lit 0)) (Int.ofNat (nat_lit 255)) != (0 : Int) : Bool) = true]) (fun j => by kernel_rfl) ⟨rfl, (A79_all hE _ _ _), rfl, c0, trivial⟩
  fun j => outK_gc [] (by decide) (by kernel_rfl) (by kernel_rfl) (by kernel_rfl) (ho j)
theorem A29_t_c (hE : EnvOk E) (a b c : Int) (B : List DT) (n : Nat) (c0 : (A79_r0 a (Int.ofNat (nat_lit 0)) (Int.ofNat (nat_lit 255)) != (0 : Int) : Bool) = true)  : COut E 0 [] 29 [(.e (.agg [(.v (.int .i64 (a))), (.v (.int .i64 (b))), (.v (.int .i64 (c))), (.dp (.s (B) (n) 1))]))] (iI (A79_r0 a (Int.ofNat (nat_lit 0)) (Int.ofNat (nat_lit 255)))) [] := cOut_start Tryz.func29 rfl (A29_t hE a b c B n c0  (fun j => outK_ret (ends_ret (by kernel_rfl))) fun _ => undef)
def A29_r0 (a b c : Int) (_B : List DT) (n : Nat) : Int := (bif A79_r0 a (Int.ofNat (nat_lit 0)) (Int.ofNat (nat_lit 255)) != (0 : Int) then (A79_r0 a (Int.ofNat (nat_lit 0)) (Int.ofNat (nat_lit 255))) else (bif A79_r0 c (Int.ofNat (nat_lit 1)) (Int.ofNat (nat_lit 64)) != (0 : Int) then (A79_r0 c (Int.ofNat (nat_lit 1)) (Int.ofNat (nat_lit 64))) else (bif A79_r0 b (Int.ofNat (nat_lit 0)) (wrapF IntKind.i64 (c - (1 : Int))) != (0 : Int) then (A79_r0 b (Int.ofNat (nat_lit 0)) (wrapF IntKind.i64 (c - (1 : Int)))) else (A80_r0 (decide ((↑n : Int) > (12 : Int))) (Int.ofNat (nat_lit 5))))))
theorem A29_all (hE : EnvOk E) (a b c : Int) (B : List DT) (n : Nat) : COut E 0 [] 29 [(.e (.agg [(.v (.int .i64 (a))), (.v (.int .i64 (b))), (.v (.int .i64 (c))), (.dp (.s (B) (n) 1))]))] (iI (A29_r0 a b c B n)) [] := by
 rcases Bool.eq_false_or_eq_true (A79_r0 a (Int.ofNat (nat_lit 0)) (Int.ofNat (nat_lit 255)) != (0 : Int)) with c0 | c0
 ·skip
  have e0 : A29_r0 a b c B n = (A79_r0 a (Int.ofNat (nat_lit 0)) (Int.ofNat (nat_lit 255))) := by unfold A29_r0; rw [c0]; first | done | rfl
  rw [e0]
  exact A29_t_c hE a b c B n c0 
 ·skip
  rcases Bool.eq_false_or_eq_true (A79_r0 c (Int.ofNat (nat_lit 1)) (Int.ofNat (nat_lit 64)) != (0 : Int)) with c1 | c1
  ·skip
   have e0 : A29_r0 a b c B n = (A79_r0 c (Int.ofNat (nat_lit 1)) (Int.ofNat (nat_lit 64))) := by unfold A29_r0; rw [c0, c1]; first | done | rfl
   rw [e0]
   exact A29_ft_c hE a b c B n c0 c1 
  ·skip
   rcases Bool.eq_false_or_eq_true (A79_r0 b (Int.ofNat (nat_lit 0)) (wrapF IntKind.i64 (c - (1 : Int))) != (0 : Int)) with c2 | c2
   ·skip
    have e0 : A29_r0 a b c B n = (A79_r0 b (Int.ofNat (nat_lit 0)) (wrapF IntKind.i64 (c - (1 : Int)))) := by unfold A29_r0; rw [c0, c1, c2]; first | done | rfl
    rw [e0]
    exact A29_fft_c hE a b c B n c0 c1 c2 
   ·skip
    have e0 : A29_r0 a b c B n = (A80_r0 (decide ((↑n : Int) > (12 : Int))) (Int.ofNat (nat_lit 5))) := by unfold A29_r0; rw [c0, c1, c2]; first | done | rfl
    rw [e0]
    exact A29_fff_c hE a b c B n c0 c1 c2 
end
end Go.Proofs.YtnhabbponbpmfaaGreatDoor
end

/-! SyK -/
section
namespace Go.Ev
open Go.RowKit
noncomputable section
section
variable {E : Env} {lvl : Nat}
def FrzC (i : Nat) (ds : List DT) (x x' : AC) : Prop := x' = x ∨ ∃ o len sz cap ex r, x = .slc i o len sz cap ex ∧ x' = .dp (.s r len sz) ∧ takeL (dropL ds o) (len * sz) = some r
def FrzE (i : Nat) (ds : List DT) : AE → AE → Prop
 | .one x, .one x' => FrzC i ds x x'
 | .agg l, .agg l' => All2 (FrzC i ds) l l'
 | _, _ => False
def FrzV (i : Nat) (ds : List DT) : AV → AV → Prop
 | .e x, .e x' => FrzE i ds x x'
 | .tup l, .tup l' => All2 (FrzE i ds) l l'
 | _, _ => False
theorem DT.Rl.of_all2 {m : M} : ∀ {ds : List DT} {ys : List Value}, All2 (CR m) (ds.map DT.ac) ys → DT.Rl m.F ds ys
 | [], _, _ => by simp [DT.Rl]
 | d :: ds, [], h => h.elim
 | d :: ds, y :: ys, h => by
  simp only [DT.Rl]
  refine ⟨y, ys, rfl, ?_, DT.Rl.of_all2 h.2⟩
  have h1 : CR m d.ac y := h.1
  cases d with
  | v x => simpa [DT.R, DT.ac, CR] using h1
  | s c n sz => exact h1
theorem DT.Rl.more {F : List (Nat × List Value)} : ∀ {l : List DT} {ys zs : List Value}, DT.Rl F l ys → DT.Rl F l (ys ++ zs)
 | [], _, _, _ => by simp [DT.Rl]
 | d :: l, ys, zs, r => by
  simp only [DT.Rl] at r ⊢
  obtain ⟨y, r', rfl, h1, h2⟩ := r
  exact ⟨y, r' ++ zs, rfl, h1, DT.Rl.more h2⟩
theorem CR.rest {m m2 : M} {w : World} {i : Nat} {ds : List DT} {N el : Nat} {fl : Bool} (B : BR m w i ⟨ds.map DT.ac, N, el, fl, .cells⟩) {c : Array Value} {fz : Nat × Nat} (hc : w.heap[m.ρ i]? = some (.cells c el fz)) (hF : ∀ p ∈ m.F, p ∈ m2.F) (hp : (m.ρ i, c.toList) ∈ m2.F)
  {o len sz cap : Nat} {ex : Bool} {r : List DT} (hr : takeL (dropL ds o) (len * sz) = some r) {y : Value} (hy : CR m (.slc i o len sz cap ex) y) : DV.R m2.F (.s r len sz) y := by
 obtain ⟨hb, cc, o', rfl, g0, g1, g1', g2, g3, g4⟩ := hy
 obtain ⟨b1, b2, c', fz', b3, b4, b5, b6, b7⟩ := B
 have b3 : w.heap[m.ρ i]? = some (.cells c' el fz') := b3
 rw [hc] at b3
 simp only [Option.some.injEq, Obj.cells.injEq] at b3
 obtain ⟨rfl, _, _⟩ := b3
 show DT.R m2.F (.s r len sz) _
 simp only [DT.R]
 rcases Nat.eq_zero_or_pos len with rfl | h0
 ·exact .inl ⟨rfl, _, _, rfl⟩
 ·obtain rfl : o' = o := by rcases g0 with g0 | g0 <;> omega
  obtain ⟨t1, rfl⟩ := takeL_some hr
  rw [dropL_eq] at t1
  have hsz : c.toList.length = m.κ i := by simpa using b4
  refine .inr ⟨h0, m.ρ i, o', cc, c.toList, rfl, by omega, g2, hp, by omega, by rw [dropL_eq, List.length_take]; omega, ?_⟩
  have hR := ((DT.Rl.of_all2 (m := m) b7).mono hF).more (zs := c.toList.drop N)
  rw [List.take_append_drop] at hR
  rw [dropL_eq]
  exact (hR.drop o').pre (len * sz)
theorem FrzC.sound {m m2 : M} {w : World} {i : Nat} {ds : List DT} {N el : Nat} {fl : Bool} (B : BR m w i ⟨ds.map DT.ac, N, el, fl, .cells⟩) {c : Array Value} {fz : Nat × Nat} (hc : w.heap[m.ρ i]? = some (.cells c el fz)) {bs : Nat} (hle : M.leG bs m m2) (hp : (m.ρ i, c.toList) ∈ m2.F)
  {x x' : AC} {y : Value} (h : FrzC i ds x x') (hy : CR m x y) : CR m2 x' y := by
 rcases h with rfl | ⟨o, len, sz, cap, ex, r, rfl, rfl, hr⟩
 ·exact CR.monoG hle hy
 ·exact CR.rest B hc hle.F hp hr hy
theorem all2_map {α β γ : Type} {R : α → β → Prop} {T : α → γ → Prop} {S : γ → β → Prop} (hi : ∀ a b c, T a c → R a b → S c b) : ∀ {l : List α} {l' : List γ} {ys : List β}, All2 T l l' → All2 R l ys → All2 S l' ys
 | [], [], [], _, _ => trivial
 | _ :: _, _ :: _, _ :: _, h1, h2 => ⟨hi _ _ _ h1.1 h2.1, all2_map hi h1.2 h2.2⟩
 | [], [], _ :: _, _, h => h.elim
 | [], _ :: _, _, h, _ => h.elim
 | _ :: _, [], _, h, _ => h.elim
 | _ :: _, _ :: _, [], _, h => h.elim
theorem FrzE.sound {m m2 : M} {w : World} {i : Nat} {ds : List DT} {N el : Nat} {fl : Bool} (B : BR m w i ⟨ds.map DT.ac, N, el, fl, .cells⟩) {c : Array Value} {fz : Nat × Nat} (hc : w.heap[m.ρ i]? = some (.cells c el fz)) {bs : Nat} (hle : M.leG bs m m2) (hp : (m.ρ i, c.toList) ∈ m2.F) :
  ∀ {x x' : AE} {y : Value}, FrzE i ds x x' → ER m x y → ER m2 x' y
 | .one _, .one _, _, h, hy => FrzC.sound B hc hle hp h hy
 | .agg _, .agg _, _, h, hy => by
  obtain ⟨cs, h1, h2⟩ := hy
  exact ⟨cs, h1, all2_map (R := CR m) (T := FrzC i ds) (S := CR m2) (fun a b c' h0 h3 => FrzC.sound B hc hle hp h0 h3) (show All2 (FrzC i ds) _ _ from h) h2⟩
 | .one _, .agg _, _, h, _ => h.elim
 | .agg _, .one _, _, h, _ => h.elim
theorem FrzV.sound {m m2 : M} {w : World} {i : Nat} {ds : List DT} {N el : Nat} {fl : Bool} (B : BR m w i ⟨ds.map DT.ac, N, el, fl, .cells⟩) {c : Array Value} {fz : Nat × Nat} (hc : w.heap[m.ρ i]? = some (.cells c el fz)) {bs : Nat} (hle : M.leG bs m m2) (hp : (m.ρ i, c.toList) ∈ m2.F) :
  ∀ {x x' : AV} {y : Value}, FrzV i ds x x' → VR m x y → VR m2 x' y
 | .e _, .e _, _, h, hy => FrzE.sound B hc hle hp h hy
 | .tup _, .tup _, _, h, hy => by
  obtain ⟨cs, h1, h2⟩ := hy
  exact ⟨cs, h1, all2_map (R := ER m) (T := FrzE i ds) (S := ER m2) (fun a b c' h0 h3 => FrzE.sound B hc hle hp h0 h3) (show All2 (FrzE i ds) _ _ from h) h2⟩
 | .e _, .tup _, _, h, _ => h.elim
 | .tup _, .e _, _, h, _ => h.elim
theorem HR.freeze {m : M} {base : Nat} {h : Heap} {w : World} (H : HR m base lvl h w) {i : Nat} {ds : List DT} {N el : Nat} {fl : Bool} (hi : h[i]? = some (some ⟨ds.map DT.ac, N, el, fl, .cells⟩)) (hl : lvl ≤ i) :
  ∃ m2, HR m2 base lvl (h.set i none) w ∧ M.leG base m m2 ∧ m2.n = m.n ∧ m2.ρ = m.ρ ∧ m2.κ = m.κ ∧ (∀ x x' y, FrzV i ds x x' → VR m x y → VR m2 x' y) ∧ (∀ x x' y, FrzC i ds x x' → CR m x y → CR m2 x' y) := by
 have B := H.blk i _ hi rfl
 obtain ⟨b1, b2, c, fz, b3, b4, b5, b6, b7⟩ := id B
 have hil := (List.getElem?_eq_some_iff.1 hi).1
 let m2 : M := { n := m.n, ρ := m.ρ, κ := m.κ, lo := m.lo, F := (m.ρ i, c.toList) :: m.F }
 have hle : M.leG base m m2 := ⟨Nat.le_refl _, fun _ _ => rfl, fun _ _ => rfl, rfl, fun p hp => List.mem_cons_of_mem _ hp, fun p hp => by
  rcases List.mem_cons.1 hp with rfl | hp
  ·exact .inr (H.own i hl hil)
  ·exact .inl hp⟩
 have hK := H.kill i
 refine ⟨m2, ⟨hK.n, hK.lvlLe, hK.baseLe, fun b a hb => (hK.ent b a hb).monoG hle (by rw [hK.n]; exact (List.getElem?_eq_some_iff.1 hb).1), hK.own, hK.inj, hK.lo, fun p hp => ?_⟩, hle, rfl, rfl, rfl,
  fun x x' y hx hy => FrzV.sound B b3 hle (List.mem_cons_self ..) hx hy, fun x x' y hx hy => FrzC.sound B b3 hle (List.mem_cons_self ..) hx hy⟩
 rcases List.mem_cons.1 hp with rfl | hp
 ·refine ⟨⟨c, el, fz, b3, rfl⟩, fun b a hb ha he => ?_⟩
  have ha' := alive_set ha
  exact ha'.2 (H.inj b i (List.getElem?_eq_some_iff.1 ha'.1).1 hil ⟨a, ha'.1⟩ ⟨_, hi⟩ (.inr (Nat.le_trans H.lo hl)) he)
 ·exact hK.tab p hp
theorem cOut_freeze {f : FuncId} {hin : Heap} {args : List AV} {v v' : AV} {hout : Heap} (i : Nat) {ds : List DT} {N el : Nat} {fl : Bool} (hc : COut E lvl hin f args v hout) (hi : getL hout i = some (some ⟨ds.map DT.ac, N, el, fl, .cells⟩)) (hl : lvl ≤ i) (hv : FrzV i ds v v') :
  COut E lvl hin f args v' (setL hout i none) := by
 rw [getL_eq] at hi
 rw [setL_eq]
 intro m base w argsC ha H G
 refine (hc m base w argsC ha H G).mono fun e w' ⟨y, hy, m1, hp⟩ => ⟨y, hy, ?_⟩
 obtain ⟨m2, H2, hle, hn, hρ, hκ, hV, _⟩ := hp.heap.freeze hi hl
 exact ⟨m2, hp.le.trans hle, hV _ _ _ hv hp.val, H2, hp.below⟩
def LendC (h : Heap) (x x' : AC) : Prop := (x' = x ∧ x.refs = []) ∨ ∃ i o len sz cap ex r ds N el fl, x = .slc i o len sz cap ex ∧ x' = .dp (.s r len sz) ∧ getL h i = some (some ⟨ds.map DT.ac, N, el, fl, .cells⟩) ∧ takeL (dropL ds o) (len * sz) = some r
def LendE (h : Heap) : AE → AE → Prop
 | .one x, .one x' => LendC h x x'
 | .agg l, .agg l' => All2 (LendC h) l l'
 | _, _ => False
def LendV (h : Heap) : AV → AV → Prop
 | .e x, .e x' => LendE h x x'
 | _, _ => False
theorem lendTabs {m : M} {base : Nat} {w : World} : ∀ (h : Heap), (∀ b a, h[b]? = some (some a) → EntR m w b a) → ∀ k, k ≤ h.length → ∃ F : List (Nat × List Value), (∀ p ∈ F, ∃ (c : Array Value) (t : TypeId) (fz : Nat × Nat), w.heap[p.1]? = some (.cells c t fz) ∧ c.toList = p.2) ∧
  ∀ i a, i < k → h[i]? = some (some a) → a.ext = .cells → ∃ (c : Array Value) (fz : Nat × Nat), w.heap[m.ρ i]? = some (.cells c a.elem fz) ∧ (m.ρ i, c.toList) ∈ F
 | h, hent, 0, _ => ⟨[], by simp, fun i a hi => by omega⟩
 | h, hent, k + 1, hk => by
  obtain ⟨F, h1, h2⟩ := lendTabs (base := base) h hent k (by omega)
  by_cases hx : ∃ a, h[k]? = some (some a) ∧ a.ext = .cells
  ·obtain ⟨a, ha, hc⟩ := hx
   obtain ⟨b1, b2, c, fz, b3, _⟩ := (hent k a ha).1 hc
   refine ⟨(m.ρ k, c.toList) :: F, fun p hp => ?_, fun i a' hi ha' hc' => ?_⟩
   ·rcases List.mem_cons.1 hp with rfl | hp
    ·exact ⟨c, a.elem, fz, b3, rfl⟩
    ·exact h1 p hp
   ·by_cases hik : i = k
    ·subst hik
     rw [ha] at ha'
     simp only [Option.some.injEq] at ha'
     subst ha'
     exact ⟨c, fz, b3, List.mem_cons_self ..⟩
    ·obtain ⟨c', fz', g1, g2⟩ := h2 i a' (by omega) ha' hc'
     exact ⟨c', fz', g1, List.mem_cons_of_mem _ g2⟩
  ·refine ⟨F, h1, fun i a' hi ha' hc' => ?_⟩
   by_cases hik : i = k
   ·subst hik; exact absurd ⟨a', ha', hc'⟩ hx
   ·exact h2 i a' (by omega) ha' hc'
theorem cOut_lend {f : FuncId} {args args' : List AV} {v : AV} (h : Heap) (hc : COut E 0 [] f args' v []) (ha : All2 (LendV h) args args') (hv : v.refs = []) (hf : v.flat = true) : COut E lvl h f args v h := by
 intro m base w argsC hA H G
 obtain ⟨F, h1, h2⟩ := lendTabs (base := base) h H.ent h.length (Nat.le_refl _)
 let mc : M := { n := 0, ρ := m.ρ, κ := m.κ, lo := 0, F := F ++ m.F }
 have Hc : HR mc w.heap.size 0 [] w := ⟨rfl, Nat.le_refl _, Nat.le_refl _, fun b a hb => by simp at hb, fun b _ hb => by simp at hb, fun b b' hb => by simp at hb, Nat.le_refl _, fun p hp => ⟨by
  rcases List.mem_append.1 hp with hp | hp
  ·exact h1 p hp
  ·exact (H.tab p hp).1, fun b a _ hb => by simp at hb⟩⟩
 let mg : M := { n := m.n, ρ := m.ρ, κ := m.κ, lo := m.lo, F := F ++ m.F }
 have lc : ∀ x x' y, LendC h x x' → CR m x y → CR mc x' y := by
  intro x x' y hx hy
  rcases hx with ⟨rfl, hr⟩ | ⟨i, o, len, sz, cap, ex, r, ds, N, el, fl, rfl, rfl, hi, hr⟩
  ·exact CR.free (m1 := m) (m2 := mc) (fun p hp => List.mem_append_right _ hp) hr hy
  ·rw [getL_eq] at hi
   obtain ⟨c, fz, g1, g2⟩ := h2 i _ (List.getElem?_eq_some_iff.1 hi).1 hi rfl
   exact CR.rest (m2 := mc) (H.blk i _ hi rfl) g1 (fun p hp => List.mem_append_right _ hp) (List.mem_append_left _ g2) hr hy
 have lv : ∀ x y x', LendV h x x' → VR m x y → VR mc x' y := by
  intro x y x' hx hy
  match x, x', hx with
  | .e (.one x), .e (.one x'), hx => exact lc x x' y hx hy
  | .e (.agg l), .e (.agg l'), hx =>
   obtain ⟨cs, k1, k2⟩ := hy
   exact ⟨cs, k1, all2_map (R := CR m) (T := LendC h) (S := CR mc) (fun a b c' h0 h3 => lc a c' b h0 h3) (show All2 (LendC h) _ _ from hx) k2⟩
 have hA' : All2 (VR mc) args' argsC.toList := all2_map (R := VR m) (T := LendV h) (S := VR mc) (fun a b c' h0 h3 => lv a b c' h0 h3) ha hA
 refine (hc mc w.heap.size w argsC hA' Hc (G.up H.baseLe)).mono fun e w' ⟨y, hy, m1, hp⟩ => ⟨y, hy, m, M.leG.refl _ m, ?_, H.world hp.below.size hp.below.block, hp.below.mono H.baseLe⟩
 have hd := VR.downG hp.le (.inl hf) (fun b hb => by rw [hv] at hb; simp at hb) hp.val
 -- nothing in it leads anywhere
 have flatC : ∀ (x : AC) (y : Value), x.flat = true → x.refs = [] → CR mc x y → CR m x y := fun x y hf hr h => by
  cases x with
  | v _ => exact h
  | any _ => exact h
  | dp _ => simp [AC.flat] at hf
  | ptr => simp [AC.refs] at hr
  | slc => simp [AC.refs] at hr
  | yld => simp [AC.refs] at hr
  | mp => simp [AC.refs] at hr
  | clo g fs cs =>
   simp only [AC.refs, List.append_eq_nil_iff] at hr
   simp only [AC.flat, Bool.and_eq_true] at hf
   obtain ⟨vf, vc, hy, h1, h2⟩ := h
   have key : ∀ {l : List CE}, l.flatMap CE.refs = [] → (l.all fun e => e.atoms.all CA.flat) = true → ∀ e ∈ l, ∀ c ∈ e.atoms, ∀ y, CR mc c.ac y → CR m c.ac y := fun {l} hl hfl e he c hc y hr' => by
    have h0 : c.refs = [] := List.flatMap_eq_nil_iff.1 (List.flatMap_eq_nil_iff.1 hl e he) c hc
    have h3 := List.all_eq_true.1 (List.all_eq_true.1 hfl e he) c hc
    cases c with
    | v _ => exact hr'
    | dp _ => simp [CA.flat] at h3
    | _ => simp [CA.refs] at h0
   exact ⟨vf, vc, hy, CEs.to (key hr.1 hf.1) h1, CEs.to (key hr.2 hf.2) h2⟩
 have flatE : ∀ (x : AE) (y : Value), x.flat = true → x.refs = [] → ER mc x y → ER m x y := fun x y hf hr h => by
  cases x with
  | one x => exact flatC x y hf hr h
  | agg l =>
   obtain ⟨cs, k1, k2⟩ := h
   simp only [AE.refs, List.flatMap_eq_nil_iff] at hr
   exact ⟨cs, k1, all2_free (fun a ha b hb => flatC a b (List.all_eq_true.1 hf a ha) (hr a ha) hb) k2⟩
 cases v with
 | e x => exact flatE x y hf hv hd
 | tup l =>
  obtain ⟨cs, k1, k2⟩ := hd
  simp only [AV.refs, List.flatMap_eq_nil_iff] at hv
  exact ⟨cs, k1, all2_free (fun a ha b hb => flatE a b (List.all_eq_true.1 hf a ha) (hv a ha) hb) k2⟩
end
end
end Go.Ev
end

/-! SyL -/
section
namespace Go.Ev
open Go.RowKit
noncomputable section
variable {E : Env} {rec : RunT} {lvl K : Nat} {r : Res → Prop} {rd : Option Nat}
end
end Go.Ev
end

/-! SyO -/
section
namespace Go.Ev
open Go.RowKit
noncomputable section
section
variable {E : Env} {lvl K : Nat} {rd : Option Nat} {Φ : Res → Prop}
end
end
end Go.Ev
end

/-! SyArg -/
section
namespace Go.Ev
open Go.RowKit Go.WideShapes Go.ChangeShapes
noncomputable section
theorem cells_block {W : World} {b o n : Nat} {vs : List Value} (h : W.cells? 0 ⟨b, o, none⟩ n = some vs) (h0 : 0 < n) :
  ∃ (c : Array Value) (ty : TypeId) (fz : Nat × Nat), W.heap[b]? = some (.cells c ty fz) ∧ o + n ≤ c.size ∧ vs = (c.toList.drop o).take n := by
 unfold World.cells? at h
 rw [if_pos (Nat.zero_le _)] at h
 have hl : vs.length = n := by simpa using mapM_some_length h
 have hg : ∀ i, i < n → W.cell? ⟨b, o + i, none⟩ = vs[i]? := fun i hi => by
  have := mapM_some_get h i i (by simp [hi])
  rwa [add_plain] at this
 have h1 := hg 0 h0
 rw [List.getElem?_eq_getElem (by omega)] at h1
 unfold World.cell? at h1
 split at h1
 ·rename_i c ty fz hc
  have hg' : ∀ i, i < n → c[o + i]? = vs[i]? := fun i hi => by
   have := hg i hi
   simpa [World.cell?, hc] using this
  have hlast := hg' (n - 1) (by omega)
  rw [List.getElem?_eq_getElem (by omega)] at hlast
  have hsz : o + (n - 1) < c.size := by
   rcases Nat.lt_or_ge (o + (n - 1)) c.size with hh | hh
   ·exact hh
   ·rw [Array.getElem?_eq_none hh] at hlast; simp at hlast
  refine ⟨c, ty, fz, hc, by omega, ?_⟩
  apply List.ext_getElem?
  intro i
  by_cases hi : i < n
  ·rw [← hg' i hi, List.getElem?_take, if_pos hi, List.getElem?_drop, Array.getElem?_toList]
  ·rw [List.getElem?_eq_none (by omega), List.getElem?_take, if_neg hi]
 ·simp at h1
section
variable {H : Type} {enc : TypeId × Value → H} {P : Program} {W : World}
theorem read_slice {t e : TypeId} {sz fuel : Nat} {held : Bool} {a : Option Addr} {len cap : Nat} {x : DataW H × List MemPlace} (ht : P.underlying t = some (.slice e)) (hsz : P.cellsOf e = sz) (h0 : 0 < sz)
  (h : DataW.trod enc P W 0 (fun _ => true) held fuel t [.slice a len cap] = some x) :
  len = 0 ∨ ∃ (b o : Nat) (c : Array Value) (ty : TypeId) (fz : Nat × Nat) (n : Nat), a = some ⟨b, o, none⟩ ∧ 0 < len ∧ len ≤ cap ∧ cap ≤ maxLen ∧ W.heap[b]? = some (.cells c ty fz) ∧ o + cap * sz ≤ c.size ∧
   ∀ i, i < len → ∃ y, DataW.trod enc P W 0 (fun _ => true) held n e ((c.toList.drop (o + i * sz)).take sz) = some y := by
 rcases DataW.trod_slice ht h with ⟨h1, _⟩ | ⟨a', len', cap', elems, rest, n, _, h1, _, hb, hl, hm, hlen, hel, hsp, _⟩
 ·simp only [List.cons.injEq, Value.slice.injEq, and_true] at h1
  exact .inl h1.2.1
 simp only [List.cons.injEq, Value.slice.injEq, and_true] at h1
 obtain ⟨rfl, rfl, rfl⟩ := h1
 by_cases hz : len = 0
 ·exact .inl hz
 obtain ⟨hrl, hr⟩ := hsp rfl
 rw [hsz] at hel hr
 have all : ∀ i, i < cap → ∃ vs y, W.cells? 0 (a'.add (i * sz)) sz = some vs ∧ DataW.trod enc P W 0 (fun _ => true) held n e vs = some y := fun i hi => by
  by_cases hil : i < len
  ·have := hel i hil
   rw [List.getElem?_eq_getElem (by omega)] at this
   obtain ⟨vs, h2, h3⟩ := Option.bind_eq_some_iff.1 this
   exact ⟨vs, _, h2, h3⟩
  ·have := hr (i - len) (by omega)
   rw [List.getElem?_eq_getElem (by omega), show len + (i - len) = i by omega] at this
   obtain ⟨vs, h2, h3⟩ := Option.bind_eq_some_iff.1 this
   exact ⟨vs, _, h2, h3⟩
 obtain ⟨b, o, spot⟩ := a'
 have hspot : spot = none := by
  obtain ⟨vs, _, h2, _⟩ := all 0 (by omega)
  unfold World.cells? at h2
  rw [if_pos (Nat.zero_le _)] at h2
  have hl2 : vs.length = sz := by simpa using mapM_some_length h2
  have h3 := mapM_some_get h2 0 0 (by simp [h0])
  rw [List.getElem?_eq_getElem (by omega)] at h3
  simpa [Addr.add] using World.cell?_spot h3
 subst hspot
 obtain ⟨vs0, _, h2, _⟩ := all 0 (by omega)
 rw [add_plain] at h2
 obtain ⟨c, ty, fz, hc, _, _⟩ := cells_block h2 h0
 refine .inr ⟨b, o, c, ty, fz, n, rfl, by omega, hl, hm, hc, ?_, fun i hi => ?_⟩
 ·obtain ⟨vs1, _, h3, _⟩ := all (cap - 1) (by omega)
  rw [add_plain] at h3
  obtain ⟨c', ty', fz', hc', hle, _⟩ := cells_block h3 h0
  rw [hc] at hc'
  simp only [Option.some.injEq, Obj.cells.injEq] at hc'
  obtain ⟨rfl, _⟩ := hc'
  have : (cap - 1) * sz + sz = cap * sz := by rw [← Nat.succ_mul, Nat.succ_eq_add_one, show cap - 1 + 1 = cap by omega]
  omega
 ·obtain ⟨vs1, y, h3, h4⟩ := all i (by omega)
  rw [add_plain] at h3
  obtain ⟨c', ty', fz', hc', _, rfl⟩ := cells_block h3 h0
  rw [hc] at hc'
  simp only [Option.some.injEq, Obj.cells.injEq] at hc'
  obtain ⟨rfl, _⟩ := hc'
  exact ⟨y, h4⟩
end
def ElemsAt (C : List AC) (o w : Nat) (xs : List (List UInt8)) : Prop := ∀ k x, xs[k]? = some x → x.length = w ∧ takeL (dropL C (o + k * w)) w = some (x.map u8c)
def SlOk (b sz : Nat) (C : List AC) (x : AC) (n : Nat) (xs : List (List UInt8)) : Prop :=
 xs.length = n ∧ (∀ y ∈ xs, y.length = sz) ∧ ((n = 0 ∧ ∃ p c, x = .v (.slice p 0 c)) ∨ (0 < n ∧ ∃ o cap ex, x = .slc b o n sz cap ex ∧ ElemsAt C o sz xs))
theorem SlOk.opq {b sz n K : Nat} {C : List AC} {x : AC} {xs : List (List UInt8)} (h : SlOk b sz C x n xs) (hK : b < K) : OpqC K x := by
 obtain ⟨_, _, ⟨rfl, p, c, rfl⟩ | ⟨_, o, cap, ex, rfl, _⟩⟩ := h
 ·intro k hk; simp [AC.refs] at hk
 ·intro k hk; simp [AC.refs] at hk; omega
theorem SlOk.below {b sz n K : Nat} {C : List AC} {x : AC} {xs : List (List UInt8)} (h : SlOk b sz C x n xs) (hK : b < K) : refsBelow K (AV.refs (.e (.one x))) = true := by
 have := h.opq hK
 simpa [refsBelow, AV.refs, AE.refs, OpqC] using this
theorem elems_take : ∀ {xs : List (List UInt8)} {C : List AC} {o w : Nat}, ElemsAt C o w xs → xs ≠ [] ∨ o ≤ C.length → takeL (dropL C o) (xs.length * w) = some (xs.flatten.map u8c)
 | [], C, o, w, _, _ => by simp [takeL_eq]
 | x :: xs, C, o, w, h, _ => by
  obtain ⟨hw, hx⟩ := h 0 x rfl
  rw [takeL_eq, dropL_eq, Nat.zero_mul, Nat.add_zero] at hx
  split at hx
  ·rename_i hle
   simp only [Option.some.injEq, List.length_drop] at hx hle
   by_cases hw0 : w = 0
   ·subst hw0
    have hall : ∀ y ∈ xs, y = [] := fun y hy => by
     obtain ⟨k, hk⟩ := List.getElem?_of_mem hy
     have := (h (k + 1) y (by simpa using hk)).1
     exact List.eq_nil_of_length_eq_zero this
    have hx0 : x = [] := List.eq_nil_of_length_eq_zero hw
    have : (x :: xs).flatten = [] := by
     rw [List.flatten_eq_nil_iff]
     intro l hl
     rcases List.mem_cons.1 hl with rfl | hl
     ·exact hx0
     ·exact hall l hl
    rw [this, takeL_eq]
    simp
   ·have ih := elems_take (xs := xs) (C := C) (o := o + w) (w := w) (fun k y hk => by
     have := h (k + 1) y (by simpa using hk)
     rwa [show o + (k + 1) * w = o + w + k * w by rw [Nat.succ_mul]; omega] at this) (.inr (by omega))
    rw [takeL_eq, dropL_eq] at ih ⊢
    split at ih
    ·rename_i hle2
     simp only [Option.some.injEq, List.length_drop] at ih hle2
     have e : (x :: xs).length * w = w + xs.length * w := by rw [List.length_cons, Nat.succ_mul]; omega
     rw [e, if_pos (by rw [List.length_drop]; omega), List.take_add, hx, List.drop_drop, ih, List.flatten_cons, List.map_append]
    ·simp at ih
  ·simp at hx
theorem blk_some {h : Heap} {b : Nat} {C : List AC} {N : Nat} {ty : TypeId} {fl : Bool} (hb : getL h b = some (some ⟨C, N, ty, fl, .cells⟩)) : blk h b = some ⟨C, N, ty, fl, .cells⟩ := by
 unfold blk
 rw [hb]
theorem all_isOne (l : List UInt8) : (l.map u8c).all AC.isOne = true := by
 rw [List.all_eq_true]
 intro c hc
 obtain ⟨x, _, rfl⟩ := List.mem_map.1 hc
 rfl
theorem SlOk.copy {b sz bytes n : Nat} {C : List AC} {x : AC} {xs : List (List UInt8)} (hs : SlOk b sz C x n xs) {h : Heap} {N : Nat} {ty : TypeId} {fl : Bool} (hb : getL h b = some (some ⟨C, N, ty, fl, .cells⟩)) (hm : small (0 + n) sz bytes = true) :
  CopyOk h sz bytes (.e (.one x)) n (xs.flatten.map u8c) (decide (n = 0)) := by
 obtain ⟨hl, _, ⟨rfl, p, c, rfl⟩ | ⟨h0, o, cap, ex, rfl, hC⟩⟩ := hs
 ·have : xs = [] := List.eq_nil_of_length_eq_zero hl
  subst this
  exact .inr (.inr (.inl ⟨rfl, rfl, rfl, p, c, rfl⟩))
 ·refine .inr (.inr (.inr ⟨decide_eq_false (by omega), h0, hm, all_isOne _, b, o, cap, ex, _, rfl, blk_some hb, ?_⟩))
  have := elems_take hC (.inl (by intro e; subst e; simp at hl; omega))
  rwa [hl] at this
section
variable {H : Type} {enc : TypeId × Value → H} {P : Program} {W : World}
end
end
end Go.Ev
end

/-! SyList -/
section
namespace Go.Ev
open Go.RowKit Go.WideShapes Go.ChangeShapes
noncomputable section
def S1 (b : Nat) (C : List AC) (x : AC) (n : Nat) (cs : List AC) : Prop :=
 cs.length = n ∧ ((n = 0 ∧ ∃ p c, x = .v (.slice p 0 c)) ∨ (0 < n ∧ ∃ o cap ex, x = .slc b o n 1 cap ex ∧ takeL (dropL C o) n = some cs))
theorem S1.opq {b n K : Nat} {C cs : List AC} {x : AC} (h : S1 b C x n cs) (hK : b < K) : OpqC K x := by
 obtain ⟨_, ⟨rfl, p, c, rfl⟩ | ⟨_, o, cap, ex, rfl, _⟩⟩ := h
 ·intro k hk; simp [AC.refs] at hk
 ·intro k hk; simp [AC.refs] at hk; omega
theorem S1.below {b n K : Nat} {C cs : List AC} {x : AC} (h : S1 b C x n cs) (hK : b < K) : refsBelow K (AV.refs (.e (.one x))) = true := by
 have := h.opq hK
 simpa [refsBelow, AV.refs, AE.refs, OpqC] using this
theorem S1.copy {b bytes n : Nat} {C cs : List AC} {x : AC} (hs : S1 b C x n cs) (h1 : cs.all AC.isOne = true) {h : Heap} {N : Nat} {ty : TypeId} {fl : Bool} (hb : getL h b = some (some ⟨C, N, ty, fl, .cells⟩)) (hm : small (0 + n) 1 bytes = true) :
  CopyOk h 1 bytes (.e (.one x)) n cs (decide (n = 0)) := by
 obtain ⟨hl, ⟨rfl, p, c, rfl⟩ | ⟨h0, o, cap, ex, rfl, hC⟩⟩ := hs
 ·have : cs = [] := List.eq_nil_of_length_eq_zero hl
  subst this
  exact .inr (.inr (.inl ⟨rfl, rfl, rfl, p, c, rfl⟩))
 ·exact .inr (.inr (.inr ⟨decide_eq_false (by omega), h0, hm, h1, b, o, cap, ex, _, rfl, blk_some hb, by rw [Nat.mul_one]; exact hC⟩))
section
variable {H : Type} {enc : TypeId × Value → H} {P : Program} {W : World}
end
end
end Go.Ev
end

/-! SyRd -/
section
namespace Go.Ev
open Go.RowKit Go.WideShapes Go.ChangeShapes
noncomputable section
def AtRest (W : World) (F : List (Nat × List Value)) : Prop := ∀ p ∈ F, ∃ (c : Array Value) (t : TypeId) (fz : Nat × Nat), W.heap[p.1]? = some (.cells c t fz) ∧ c.toList = p.2
theorem AtRest.nil (W : World) : AtRest W [] := fun p hp => by simp at hp
theorem AtRest.app {W : World} {F G : List (Nat × List Value)} (h : AtRest W F) (k : AtRest W G) : AtRest W (F ++ G) := fun p hp => (List.mem_append.1 hp).elim (h p) (k p)
theorem AtRest.cons {W : World} {F : List (Nat × List Value)} {b : Nat} {c : Array Value} {t : TypeId} {fz : Nat × Nat} (h : AtRest W F) (hb : W.heap[b]? = some (.cells c t fz)) : AtRest W ((b, c.toList) :: F) := fun p hp => by
 rcases List.mem_cons.1 hp with rfl | hp
 ·exact ⟨c, t, fz, hb, rfl⟩
 ·exact h p hp
def Rd (W : World) (cs : List Value) (Q : List DT → Prop) : Prop := ∃ (F : List (Nat × List Value)) (ds : List DT), AtRest W F ∧ DT.Rl F ds cs ∧ ds.length = cs.length ∧ Q ds
section
variable {H : Type} {enc : TypeId × Value → H} {P : Program} {W : World}
theorem rd_int {e : TypeId} {k : IntKind} {fuel : Nat} {held : Bool} {sp : Nat → Bool} {cs : List Value} {x : DataW H × List MemPlace} (he : P.underlying e = some (.int k)) (h : DataW.trod enc P W 0 sp held fuel e cs = some x) :
  Rd W cs fun ds => ∃ z : Int, (Lit.int k z).wf = true ∧ ds = [.v (.int k z)] := by
 obtain ⟨z, rfl, _, hw⟩ := DataW.trod_int he h
 exact ⟨[], [.v (.int k z)], AtRest.nil W, ⟨_, [], rfl, by simp [DT.R], by simp [DT.Rl]⟩, rfl, z, hw, rfl⟩
theorem Rl_append {F G : List (Nat × List Value)} : ∀ {l l' : List DT} {ys zs : List Value}, DT.Rl F l ys → l.length = ys.length → DT.Rl G l' zs → DT.Rl (F ++ G) (l ++ l') (ys ++ zs)
 | [], l', [], zs, _, _, h => DT.Rl.mono (fun p hp => List.mem_append_right _ hp) _ _ h
 | [], _, _ :: _, _, _, h, _ => by simp at h
 | d :: l, l', ys, zs, h, hl, h' => by
  simp only [DT.Rl] at h
  obtain ⟨y, r, rfl, h1, h2⟩ := h
  show DT.Rl (F ++ G) (d :: (l ++ l')) (y :: (r ++ zs))
  simp only [DT.Rl]
  exact ⟨y, r ++ zs, rfl, DT.R.mono (fun p hp => List.mem_append_left _ hp) _ _ h1, Rl_append h2 (by simpa using hl) h'⟩
theorem rd_rows {c : List Value} {sz : Nat} {Q : List DT → Prop} : ∀ (n o : Nat), o + n * sz ≤ c.length → (∀ i, i < n → Rd W ((c.drop (o + i * sz)).take sz) Q) →
  ∃ (F : List (Nat × List Value)) (rows : List (List DT)), AtRest W F ∧ rows.length = n ∧ (∀ r ∈ rows, r.length = sz ∧ Q r) ∧ DT.Rl F rows.flatten ((c.drop o).take (n * sz))
 | 0, o, _, _ => ⟨[], [], AtRest.nil W, rfl, by simp, by simp [DT.Rl]⟩
 | n + 1, o, hl, h => by
  rw [Nat.succ_mul] at hl
  obtain ⟨F0, d0, a0, r0, l0, q0⟩ := h 0 (by omega)
  rw [Nat.zero_mul, Nat.add_zero] at r0 l0
  have hlen : ((c.drop o).take sz).length = sz := by rw [List.length_take, List.length_drop]; omega
  rw [hlen] at l0
  obtain ⟨F1, rows, a1, rl, rq, r1⟩ := rd_rows (c := c) (sz := sz) (Q := Q) n (o + sz) (by omega) (fun i hi => by
   have := h (i + 1) (by omega)
   rw [Nat.succ_mul] at this
   rw [show o + sz + i * sz = o + (i * sz + sz) by omega]
   exact this)
  refine ⟨F0 ++ F1, d0 :: rows, a0.app a1, by simp [rl], fun r hr => ?_, ?_⟩
  ·rcases List.mem_cons.1 hr with rfl | hr
   ·exact ⟨l0, q0⟩
   ·exact rq r hr
  ·have e : (c.drop o).take ((n + 1) * sz) = (c.drop o).take sz ++ (c.drop (o + sz)).take (n * sz) := by
    rw [show (n + 1) * sz = sz + n * sz by rw [Nat.succ_mul]; omega, List.take_add, List.drop_drop]
   rw [e, List.flatten_cons]
   exact Rl_append r0 (by rw [l0, hlen]) r1
theorem rd_slice {t e : TypeId} {sz fuel : Nat} {held : Bool} {cs : List Value} {x : DataW H × List MemPlace} {Q : List DT → Prop} (ht : P.underlying t = some (.slice e)) (hsz : P.cellsOf e = sz) (h0 : 0 < sz)
  (rd : ∀ {fuel : Nat} {cs : List Value} {x : DataW H × List MemPlace}, DataW.trod enc P W 0 (fun _ => true) held fuel e cs = some x → Rd W cs Q)
  (hc : ∃ a len cap, cs = [.slice a len cap]) (h : DataW.trod enc P W 0 (fun _ => true) held fuel t cs = some x) :
  Rd W cs fun ds => ∃ rows : List (List DT), rows.length ≤ maxLen ∧ (∀ r ∈ rows, r.length = sz ∧ Q r) ∧ ds = [.s rows.flatten rows.length sz] := by
 obtain ⟨a, len, cap, rfl⟩ := hc
 rcases read_slice ht hsz h0 h with rfl | ⟨b, o, c, ty, fz, n, rfl, hl0, hlc, hcm, hb, hsize, hel⟩
 ·refine ⟨[], [.s [] 0 sz], AtRest.nil W, ⟨_, [], rfl, ?_, by simp [DT.Rl]⟩, rfl, [], by simp, by simp, rfl⟩
  simp only [DT.R]
  exact .inl ⟨trivial, a, cap, rfl⟩
 ·have hmul : len * sz ≤ cap * sz := Nat.mul_le_mul_right _ hlc
  obtain ⟨F, rows, aF, rl, rq, rr⟩ := rd_rows (W := W) (c := c.toList) (sz := sz) (Q := Q) len o (by simp; omega) (fun i hi => by
   obtain ⟨y, hy⟩ := hel i hi
   exact rd hy)
  have hfl : rows.flatten.length = len * sz := by
   rw [← rl]
   clear rr rl hmul
   induction rows with
   | nil => simp
   | cons r rows ih =>
    rw [List.flatten_cons, List.length_append, ih (fun s hs => rq s (List.mem_cons_of_mem _ hs)), (rq r (List.mem_cons_self ..)).1, List.length_cons, Nat.succ_mul]
    omega
  refine ⟨(b, c.toList) :: F, [.s rows.flatten rows.length sz], aF.cons hb, ⟨_, [], rfl, ?_, by simp [DT.Rl]⟩, rfl, rows, by omega, rq, rfl⟩
  simp only [DT.R]
  rw [rl]
  refine .inr ⟨hl0, b, o, cap, c.toList, rfl, hlc, hcm, List.mem_cons_self .., by simpa using hsize, hfl, ?_⟩
  have := (rr.mono (fun p hp => List.mem_cons_of_mem (b, c.toList) hp)).more (zs := (c.toList.drop o).drop (len * sz))
  rwa [List.take_append_drop] at this
def dI (z : Int) : DT := .v (.int .i64 z)
end
end
end Go.Ev
end

/-! SeEqI -/
section
open Go Go.Ev Go.RowKit
open Extern.Stop
namespace Go.Proofs.YtnhabbponbpmfaaGreatDoor
noncomputable section
abbrev iD (l : List Int) : List DT := l.map fun x => .v (.int .i64 x)
abbrev iC (l : List Int) : List AC := (iD l).map DT.ac
theorem iC_app (l r : List Int) : appL (iC l) (iC r) = iC (l ++ r) := by rw [appL_eq]; simp
theorem u3_ : Tryz.prog.underlying 3 = some (.int .i64) := by kernel_rfl
end
end Go.Proofs.YtnhabbponbpmfaaGreatDoor
end

/-! SeGen -/
section
open Go Go.Ev
namespace Go.Proofs.YtnhabbponbpmfaaGreatDoor
noncomputable section
theorem cOut_clear {f : FuncId} {args : List AV} {v : AV} {h : Heap} (hc : COut E 0 [] f args v h) (hv : v.refs = []) : COut E 0 [] f args v [] :=
 cOut_gc (h' := []) [] (Nat.zero_le _) hc rfl rfl (AV.ren_id hv)
theorem getI {xs : List Int} {i : Nat} {x : Int} (h : xs[i]? = some x) : getL (iD xs) i = some (.v (.int .i64 x)) := by rw [getL_eq, List.getElem?_map, h]; rfl
abbrev dI (xs : List Int) : AV := .e (.one (.dp (.s (iD xs) xs.length 1)))
theorem cOut_nil1 {f : FuncId} {args : List AV} {h : Heap} {p : Option Addr} {c : Nat} (sz : Nat) (hc : COut E 0 [] f args (.e (.one (.v (.slice p 0 c)))) h) : COut E 0 [] f args (.e (.one (.dp (.s [] 0 sz)))) h := by
 intro m base w argsC ha H G
 exact (hc m base w argsC ha H G).mono fun en w' ⟨y, hy, m1, hp⟩ => ⟨y, hy, m1, hp.le, .inl ⟨rfl, p, c, hp.val⟩, hp.heap, hp.below⟩
theorem cOut_weak {f : FuncId} {args : List AV} {h : Heap} {v v' : AV} (hc : COut E 0 [] f args v h) (hw : ∀ (m : M) (y : Value), VR m v y → VR m v' y) : COut E 0 [] f args v' h := by
 intro m base w argsC ha H G
 exact (hc m base w argsC ha H G).mono fun en w' ⟨y, hy, m1, hp⟩ => ⟨y, hy, m1, hp.le, hw _ _ hp.val, hp.heap, hp.below⟩
theorem lend2 (lv : Nat) (_hE : EnvOk E) (f : FuncId) (xs : List Int) (r : Int) (ty : Nat) (fl : Bool) (hc : COut E 0 [] f [dI xs] (iI r) []) (h : Heap) (i : Nat) (hh : getL h i = some (some ⟨(iD xs).map DT.ac, xs.length, ty, fl, .cells⟩)) : COut E lv h f [.e (.one (.slc i 0 xs.length 1 xs.length true))] (iI r) h :=
 cOut_lend h hc ⟨.inr ⟨i, 0, xs.length, 1, xs.length, true, iD xs, iD xs, xs.length, ty, fl, rfl, rfl, hh, by rw [takeL_eq, dropL_eq, List.drop_zero, if_pos (by simp), List.take_of_length_le (by simp)]⟩, trivial⟩ rfl rfl
end
end Go.Proofs.YtnhabbponbpmfaaGreatDoor
end

/-! SeWd -/
section
open Go Go.Ev
namespace Go.Proofs.YtnhabbponbpmfaaGreatDoor
noncomputable section
set_option maxRecDepth 100000
set_option maxHeartbeats 20000000
def s78 (C : List DT) (n _i : Nat) (_e _z : Int) (_j : Nat → Value) : St := startK Tryz.f78 [] [(.e (.one (.dp (.s C n 1))))]
def s88 (C : List DT) (n _i : Nat) (_e _z : Int) (_j : Nat → Value) : St := startK Tryz.f88 [] [(.e (.one (.dp (.s C n 1))))]
def s36 (C : List DT) (n _i : Nat) (_e _z : Int) (_j : Nat → Value) : St := startK Tryz.f36 [] [(.e (.one (.dp (.s C n 1))))]
def q78 (C : List DT) (n i : Nat) (_e _z : Int) (j : Nat → Value) : St := ⟨[], [(.code (atC [1, 0, 1, 0, 0] (bodyOf Tryz.f78))), (.inLoop (atC [1, 0, 1, 0, 0] (bodyOf Tryz.f78))), (.inBlock 0), (.code (atC [1, 1] (bodyOf Tryz.f78)))], mkT j [(5, (.e (.one (.dp (.s (C) (n) 1))))), (6, (iI (Int.ofNat n))), (7, (iI (Int.ofNat i)))] 15 0⟩
def q88 (C : List DT) (n i : Nat) (_e _z : Int) (j : Nat → Value) : St := ⟨[], [(.code (atC [1, 0, 1, 0, 0] (bodyOf Tryz.f88))), (.inLoop (atC [1, 0, 1, 0, 0] (bodyOf Tryz.f88))), (.inBlock 0), (.code (atC [1, 1] (bodyOf Tryz.f88)))], mkT j [(0, (.e (.one (.dp (.s (C) (n) 1))))), (3, (iI (Int.ofNat i)))] 19 0⟩
def p78a_end (C : List DT) (n _i : Nat) (_e _z : Int) (j : Nat → Value) : St := ⟨[], [(.code (atC [1, 0, 1, 0, 0] (bodyOf Tryz.f78))), (.inLoop (atC [1, 0, 1, 0, 0] (bodyOf Tryz.f78))), (.inBlock 0), (.code (atC [1, 1] (bodyOf Tryz.f78)))], mkT j [(5, (.e (.one (.dp (.s (C) (n) 1))))), (6, (iI (Int.ofNat n))), (7, (iI 0))] 15 0⟩
theorem p78a (hE : EnvOk E) (C : List DT) (n i : Nat) (e z : Int)  {Φ : Res → Prop} (ho : ∀ j, OutK E 0 0 (p78a_end C n i e z j) Φ) (j : Nat → Value) : OutK E 0 0 (s78 C n i e z j) Φ :=
 outK_seg hE (R0_ok hE) [.run 4, (.ops [(1, (.d .len))] []), .run 2] [5, 6, 7] (ps := []) (fun j => by kernel_rfl) trivial
  ho
def p88a_end (C : List DT) (n _i : Nat) (_e _z : Int) (j : Nat → Value) : St := ⟨[], [(.code (atC [1, 0, 1, 0, 0] (bodyOf Tryz.f88))), (.inLoop (atC [1, 0, 1, 0, 0] (bodyOf Tryz.f88))), (.inBlock 0), (.code (atC [1, 1] (bodyOf Tryz.f88)))], mkT j [(0, (.e (.one (.dp (.s (C) (n) 1))))), (3, (iI 0))] 19 0⟩
theorem p88a (hE : EnvOk E) (C : List DT) (n i : Nat) (e z : Int)  {Φ : Res → Prop} (ho : ∀ j, OutK E 0 0 (p88a_end C n i e z j) Φ) (j : Nat → Value) : OutK E 0 0 (s88 C n i e z j) Φ :=
 outK_seg hE (R0_ok hE) [.run 7] [0, 3] (ps := []) (fun j => by kernel_rfl) trivial
  ho
def p36_end (_C : List DT) (_n _i : Nat) (e _z : Int) (j : Nat → Value) : St := ⟨[], [(.code .ret)], mkT j [(2, (iI (e)))] 5 0⟩
theorem p36 (hE : EnvOk E) (C : List DT) (n i : Nat) (e z : Int) (h0 : COut E 0 [] 88 [(.e (.one (.dp (.s (C) (n) 1))))] (iI (e)) []) {Φ : Res → Prop} (ho : ∀ j, OutK E 0 0 (p36_end C n i e z j) Φ) (j : Nat → Value) : OutK E 0 0 (s36 C n i e z j) Φ :=
 outK_seg hE (R0_ok hE) [.run 3, (.ops [(1, (.c0 (iI (e))))] [])] [2] (fun j => by kernel_rfl) (aP h0 <| aN <| aZ)
  ho
def p78s_end (C : List DT) (n i : Nat) (_e _z : Int) (j : Nat → Value) : St := ⟨[], [(.code (atC [1, 0, 1, 0, 0] (bodyOf Tryz.f78))), (.inLoop (atC [1, 0, 1, 0, 0] (bodyOf Tryz.f78))), (.inBlock 0), (.code (atC [1, 1] (bodyOf Tryz.f78)))], mkT j [(5, (.e (.one (.dp (.s (C) (n) 1))))), (6, (iI (Int.ofNat n))), (7, (iI (Int.ofNat (i + 1))))] 15 0⟩
theorem p78s (hE : EnvOk E) (C : List DT) (n i : Nat) (e z : Int) (h0 : (decide (Int.ofNat i < Int.ofNat n) : Bool) = true) (h1 : (0 : Int) ≤ Int.ofNat i ∧ Int.ofNat i < (↑n : Int)) (h2 : ((Int.ofNat i).toNat * nat_lit 1 : Nat) = i) (h3 : (getL C i : Option DT) = (.some (.v (.int .i64 (z))))) (h4 : (z != (0 : Int) : Bool) = false) (h5 : ((iI (wrapF IntKind.i64 (Int.ofNat i + (1 : Int)))) : AV) = (iI (Int.ofNat (i + 1)))) {Φ : Res → Prop} (ho : ∀ j, OutK E 0 0 (p78s_end C n i e z j) Φ) (j : Nat → Value) : OutK E 0 0 (q78 C n i e z j) Φ :=
 outK_seg hE (R0_ok hE) [.run 3, (.cond true), .run 4, (.ops [(1, (.d (.ld (.v (.int .i64 (z)))))), (0, (.d (.ix (i))))] []), .run 2, (.cond false), .run 2, (.ops [(0, (.rn (iI (Int.ofNat (i + 1)))))] []), .run 1] [5, 6, 7] (fun j => by kernel_rfl) (aP h0 <| aP h1 <| aP h2 <| aP h3 <| aP h4 <| aP h5 <| aZ)
  ho
def p78e_end (_C : List DT) (_n _i : Nat) (_e z : Int) (j : Nat → Value) : St := ⟨[], [(.code .ret), (.inBlock 1), (.code (atC [1, 0, 1, 0, 0, 1, 1, 1] (bodyOf Tryz.f78))), (.inLoop (atC [1, 0, 1, 0, 0] (bodyOf Tryz.f78))), (.inBlock 0), (.code (atC [1, 1] (bodyOf Tryz.f78)))], mkT j [(2, (iI (z)))] 15 0⟩
theorem p78e (hE : EnvOk E) (C : List DT) (n i : Nat) (e z : Int) (h0 : (decide (Int.ofNat i < Int.ofNat n) : Bool) = true) (h1 : (0 : Int) ≤ Int.ofNat i ∧ Int.ofNat i < (↑n : Int)) (h2 : ((Int.ofNat i).toNat * nat_lit 1 : Nat) = i) (h3 : (getL C i : Option DT) = (.some (.v (.int .i64 (z))))) (h4 : (z != (0 : Int) : Bool) = true) {Φ : Res → Prop} (ho : ∀ j, OutK E 0 0 (p78e_end C n i e z j) Φ) (j : Nat → Value) : OutK E 0 0 (q78 C n i e z j) Φ :=
 outK_seg hE (R0_ok hE) [.run 3, (.cond true), .run 4, (.ops [(1, (.d (.ld (.v (.int .i64 (z)))))), (0, (.d (.ix (i))))] []), .run 2, (.cond true), .run 2] [2] (fun j => by kernel_rfl) (aP h0 <| aP h1 <| aP h2 <| aP h3 <| aP h4 <| aZ)
  ho
def p78x_end (_C : List DT) (_n _i : Nat) (_e _z : Int) (j : Nat → Value) : St := ⟨[], [(.code .ret)], mkT j [(2, (iI 0))] 15 0⟩
theorem p78x (hE : EnvOk E) (C : List DT) (n i : Nat) (e z : Int) (h0 : (decide (Int.ofNat i < Int.ofNat n) : Bool) = false) {Φ : Res → Prop} (ho : ∀ j, OutK E 0 0 (p78x_end C n i e z j) Φ) (j : Nat → Value) : OutK E 0 0 (q78 C n i e z j) Φ :=
 outK_seg hE (R0_ok hE) [.run 3, (.cond false), .run 3] [2] (fun j => by kernel_rfl) (aP h0 <| aZ)
  ho
def p88s_end (C : List DT) (n i : Nat) (_e _z : Int) (j : Nat → Value) : St := ⟨[], [(.code (atC [1, 0, 1, 0, 0] (bodyOf Tryz.f88))), (.inLoop (atC [1, 0, 1, 0, 0] (bodyOf Tryz.f88))), (.inBlock 0), (.code (atC [1, 1] (bodyOf Tryz.f88)))], mkT j [(0, (.e (.one (.dp (.s (C) (n) 1))))), (3, (iI (Int.ofNat (i + 1))))] 19 0⟩
theorem p88s (hE : EnvOk E) (C : List DT) (n i : Nat) (e z : Int) (h0 : (decide (Int.ofNat i < (↑n : Int)) : Bool) = true) (h1 : (0 : Int) ≤ Int.ofNat i ∧ Int.ofNat i < (↑n : Int)) (h2 : ((Int.ofNat i).toNat * nat_lit 1 : Nat) = i) (h3 : (getL C i : Option DT) = (.some (.v (.int .i64 (z))))) (h4 : (z != (0 : Int) : Bool) = false) (h5 : ((iI (wrapF IntKind.i64 (Int.ofNat i + (1 : Int)))) : AV) = (iI (Int.ofNat (i + 1)))) {Φ : Res → Prop} (ho : ∀ j, OutK E 0 0 (p88s_end C n i e z j) Φ) (j : Nat → Value) : OutK E 0 0 (q88 C n i e z j) Φ :=
 outK_seg hE (R0_ok hE) [.run 2, (.ops [(2, (.d .len))] []), (.cond true), .run 4, (.ops [(3, (.d (.ld (.v (.int .i64 (z)))))), (2, (.d (.ix (i))))] []), (.cond false), .run 2, (.ops [(1, (.rn (iI (Int.ofNat (i + 1)))))] []), .run 1] [0, 3] (fun j => by kernel_rfl) (aP h0 <| aP h1 <| aP h2 <| aP h3 <| aP h4 <| aP h5 <| aZ)
  ho
def p88e_end (_C : List DT) (_n _i : Nat) (_e z : Int) (j : Nat → Value) : St := ⟨[], [(.code .ret), (.inBlock 1), (.code (atC [1, 0, 1, 0, 0, 1, 1] (bodyOf Tryz.f88))), (.inLoop (atC [1, 0, 1, 0, 0] (bodyOf Tryz.f88))), (.inBlock 0), (.code (atC [1, 1] (bodyOf Tryz.f88)))], mkT j [(2, (iI (z)))] 19 0⟩
theorem p88e (hE : EnvOk E) (C : List DT) (n i : Nat) (e z : Int) (h0 : (decide (Int.ofNat i < (↑n : Int)) : Bool) = true) (h1 : (0 : Int) ≤ Int.ofNat i ∧ Int.ofNat i < (↑n : Int)) (h2 : ((Int.ofNat i).toNat * nat_lit 1 : Nat) = i) (h3 : (getL C i : Option DT) = (.some (.v (.int .i64 (z))))) (h4 : (z != (0 : Int) : Bool) = true) (h5 : (0 : Int) ≤ Int.ofNat i ∧ Int.ofNat i < (↑n : Int)) (h6 : ((Int.ofNat i).toNat * nat_lit 1 : Nat) = i) (h7 : (getL C i : Option DT) = (.some (.v (.int .i64 (z))))) {Φ : Res → Prop} (ho : ∀ j, OutK E 0 0 (p88e_end C n i e z j) Φ) (j : Nat → Value) : OutK E 0 0 (q88 C n i e z j) Φ :=
 outK_seg hE (R0_ok hE) [.run 2, (.ops [(2, (.d .len))] []), (.cond true), .run 4, (.ops [(3, (.d (.ld (.v (.int .i64 (z)))))), (2, (.d (.ix (i))))] []), (.cond true), .run 1, (.ops [(3, (.d (.ld (.v (.int .i64 (z)))))), (2, (.d (.ix (i))))] [])] [2] (fun j => by kernel_rfl) (aP h0 <| aP h1 <| aP h2 <| aP h3 <| aP h4 <| aP h5 <| aP h6 <| aP h7 <| aZ)
  ho
def p88x_end (_C : List DT) (_n _i : Nat) (_e _z : Int) (j : Nat → Value) : St := ⟨[], [(.code .ret)], mkT j [(2, (iI 0))] 19 0⟩
theorem p88x (hE : EnvOk E) (C : List DT) (n i : Nat) (e z : Int) (h0 : (decide (Int.ofNat i < (↑n : Int)) : Bool) = false) {Φ : Res → Prop} (ho : ∀ j, OutK E 0 0 (p88x_end C n i e z j) Φ) (j : Nat → Value) : OutK E 0 0 (q88 C n i e z j) Φ :=
 outK_seg hE (R0_ok hE) [.run 2, (.ops [(2, (.d .len))] []), (.cond false), .run 3] [2] (fun j => by kernel_rfl) (aP h0 <| aZ)
  ho
def firstI : List Int → Int
 | [] => 0
 | x :: r => if x = 0 then firstI r else x
theorem l78 (hE : EnvOk E) (xs : List Int) (n : Nat) (hn : xs.length = n) (hm : n ≤ 4000000) : ∀ m i, m + i = n → ∀ j, OutK E 0 0 (q78 (iD xs) (n) (i) 0 0 j) (Go.Ev.Ends E Tryz.f78 (iI (firstI (xs.drop i))) [])
 | 0, i, hk, j => by
  rw [List.drop_eq_nil_of_le (by omega)]
  exact p78x hE (iD xs) (n) (i) 0 0 (decide_eq_false (by (try simp only [Int.ofNat_eq_natCast]); omega)) (fun j => outK_ret (ends_ret (by kernel_rfl))) j
 | m + 1, i, hk, j => by
  have hl : i < xs.length := by omega
  have hx : xs[i]? = some xs[i] := List.getElem?_eq_getElem hl
  rw [List.drop_eq_getElem_cons hl]
  generalize xs[i] = z at hx
  have hu : firstI (z :: xs.drop (i + 1)) = if z = 0 then firstI (xs.drop (i + 1)) else z := rfl
  rw [hu]
  by_cases h : z = 0
  ·rw [if_pos h]
   exact p78s hE (iD xs) (n) (i) 0 (z) (decide_eq_true (by (try simp only [Int.ofNat_eq_natCast]); omega)) ⟨by (try simp only [Int.ofNat_eq_natCast]); omega, by (try simp only [Int.ofNat_eq_natCast]); omega⟩ (Nat.mul_one _) (getI hx) (by rw [h]; rfl) (iIe (by (try simp only [Int.ofNat_eq_natCast]); rw [wrap_id (by omega) (by omega)]; try omega)) (l78 hE xs n hn hm m (i + 1) (by omega)) j
  ·rw [if_neg h]
   exact p78e hE (iD xs) (n) (i) 0 (z) (decide_eq_true (by (try simp only [Int.ofNat_eq_natCast]); omega)) ⟨by (try simp only [Int.ofNat_eq_natCast]); omega, by (try simp only [Int.ofNat_eq_natCast]); omega⟩ (Nat.mul_one _) (getI hx) (bne_iff_ne.2 h) (fun j => outK_ret (ends_ret (by kernel_rfl))) j
theorem K78 (hE : EnvOk E) (xs : List Int) (hm : xs.length ≤ 4000000) : COut E 0 [] 78 [dI xs] (iI (firstI xs)) [] :=
 cOut_start Tryz.func78 rfl (p78a hE (iD xs) (xs.length) 0 0 0 (l78 hE xs xs.length rfl hm xs.length 0 rfl) fun _ => undef)
theorem l88 (hE : EnvOk E) (xs : List Int) (n : Nat) (hn : xs.length = n) (hm : n ≤ 4000000) : ∀ m i, m + i = n → ∀ j, OutK E 0 0 (q88 (iD xs) (n) (i) 0 0 j) (Go.Ev.Ends E Tryz.f88 (iI (firstI (xs.drop i))) [])
 | 0, i, hk, j => by
  rw [List.drop_eq_nil_of_le (by omega)]
  exact p88x hE (iD xs) (n) (i) 0 0 (decide_eq_false (by (try simp only [Int.ofNat_eq_natCast]); omega)) (fun j => outK_ret (ends_ret (by kernel_rfl))) j
 | m + 1, i, hk, j => by
  have hl : i < xs.length := by omega
  have hx : xs[i]? = some xs[i] := List.getElem?_eq_getElem hl
  rw [List.drop_eq_getElem_cons hl]
  generalize xs[i] = z at hx
  have hu : firstI (z :: xs.drop (i + 1)) = if z = 0 then firstI (xs.drop (i + 1)) else z := rfl
  rw [hu]
  by_cases h : z = 0
  ·rw [if_pos h]
   exact p88s hE (iD xs) (n) (i) 0 (z) (decide_eq_true (by (try simp only [Int.ofNat_eq_natCast]); omega)) ⟨by (try simp only [Int.ofNat_eq_natCast]); omega, by (try simp only [Int.ofNat_eq_natCast]); omega⟩ (Nat.mul_one _) (getI hx) (by rw [h]; rfl) (iIe (by (try simp only [Int.ofNat_eq_natCast]); rw [wrap_id (by omega) (by omega)]; try omega)) (l88 hE xs n hn hm m (i + 1) (by omega)) j
  ·rw [if_neg h]
   exact p88e hE (iD xs) (n) (i) 0 (z) (decide_eq_true (by (try simp only [Int.ofNat_eq_natCast]); omega)) ⟨by (try simp only [Int.ofNat_eq_natCast]); omega, by (try simp only [Int.ofNat_eq_natCast]); omega⟩ (Nat.mul_one _) (getI hx) (bne_iff_ne.2 h) ⟨by (try simp only [Int.ofNat_eq_natCast]); omega, by (try simp only [Int.ofNat_eq_natCast]); omega⟩ (Nat.mul_one _) (getI hx) (fun j => outK_ret (ends_ret (by kernel_rfl))) j
theorem K88 (hE : EnvOk E) (xs : List Int) (hm : xs.length ≤ 4000000) : COut E 0 [] 88 [dI xs] (iI (firstI xs)) [] :=
 cOut_start Tryz.func88 rfl (p88a hE (iD xs) (xs.length) 0 0 0 (l88 hE xs xs.length rfl hm xs.length 0 rfl) fun _ => undef)
theorem K36 (hE : EnvOk E) (xs : List Int) (hm : xs.length ≤ 4000000) : COut E 0 [] 36 [dI xs] (iI (firstI xs)) [] :=
 cOut_start Tryz.func36 rfl (p36 hE (iD xs) (xs.length) 0 (firstI xs) 0 (K88 hE xs hm) (fun j => outK_ret (ends_ret (by kernel_rfl))) fun _ => undef)
def intsA : List AC → Option (List Int) := List.rec (motive := fun _ => Option (List Int)) (some []) fun c _ ih => match c, ih with
 | .v (.int .i64 z), some l => some (z :: l)
 | _, _ => none
theorem intsA_eq : ∀ {l : List AC} {zs : List Int}, intsA l = some zs → l = (iD zs).map DT.ac
 | [], zs, h => by
  have h : some [] = some zs := h
  simp only [Option.some.injEq] at h
  rw [← h]; rfl
 | c :: l, zs, h => by
  have h : (match (generalizing := false) c, intsA l with | .v (.int .i64 z), some l => some (z :: l) | _, _ => none) = some zs := h
  split at h
  ·rename_i z r hr _
   simp only [Option.some.injEq] at h
   rw [← h, intsA_eq hr]; rfl
  ·simp at h
def readI (h : Heap) (i n : Nat) : Option (List Int) := match getL h i with
 | some (some a) => (match a.ext, Nat.beq a.n n && Nat.beq (lenL a.cells) n with | .cells, true => intsA a.cells | _, _ => none)
 | _ => none
theorem lendF {f : FuncId} (hE : EnvOk E) (K : ∀ xs : List Int, xs.length ≤ 4000000 → COut E 0 [] f [dI xs] (iI (firstI xs)) []) (h : Heap) (i n : Nat) (l : List Int) (hb : readI h i n = some l) (hn : Nat.ble n 100 = true) : COut E (lenL h) h f [.e (.one (.slc i 0 n 1 n true))] (iI (firstI l)) h := by
 unfold readI at hb
 split at hb
 ·rename_i a ha
  split at hb
  ·rename_i hx hc
   simp only [Bool.and_eq_true] at hc
   have e1 := Nat.eq_of_beq_eq_true hc.1
   have e2 := Nat.eq_of_beq_eq_true hc.2
   have e3 := intsA_eq hb
   have e4 : l.length = n := by
    have := congrArg List.length e3
    simp only [lenL_eq] at e2
    simp at this
    omega
   have hle : n ≤ 100 := by simpa using hn
   obtain ⟨cells, an, el, fl, ext⟩ := a
   simp only at e1 e3 hx
   subst e3 hx
   have := lend2 (lenL h) hE f l (firstI l) el fl (K l (by omega)) h i (by rw [ha, e1, e4])
   rw [e4] at this
   exact this
  ·simp at hb
 ·simp at hb
theorem C78 (hE : EnvOk E) (h : Heap) (i n : Nat) (l : List Int) (hb : readI h i n = some l) (hn : Nat.ble n 100 = true) : COut E (lenL h) h 78 [.e (.one (.slc i 0 n 1 n true))] (iI (firstI l)) h := lendF hE (fun xs => K78 hE xs) h i n l hb hn
theorem C88 (hE : EnvOk E) (h : Heap) (i n : Nat) (l : List Int) (hb : readI h i n = some l) (hn : Nat.ble n 100 = true) : COut E (lenL h) h 88 [.e (.one (.slc i 0 n 1 n true))] (iI (firstI l)) h := lendF hE (fun xs => K88 hE xs) h i n l hb hn
theorem C36 (hE : EnvOk E) (h : Heap) (i n : Nat) (l : List Int) (hb : readI h i n = some l) (hn : Nat.ble n 100 = true) : COut E (lenL h) h 36 [.e (.one (.slc i 0 n 1 n true))] (iI (firstI l)) h := lendF hE (fun xs => K36 hE xs) h i n l hb hn
end
end Go.Proofs.YtnhabbponbpmfaaGreatDoor
end

/-! SeWe -/
section
open Go Go.Ev
namespace Go.Proofs.YtnhabbponbpmfaaGreatDoor
noncomputable section
set_option maxRecDepth 100000
set_option maxHeartbeats 20000000
def s27 (a b c : Int) (B : List DT) (n : Nat) (_j : Nat → Value) : St := startK Tryz.f27 [] [.e (.agg [.v (.int .i64 a), .v (.int .i64 b), .v (.int .i64 c), .dp (.s B n 1)])]
def A27__end (a b c : Int) (_B : List DT) (n : Nat) (j : Nat → Value) : St := ⟨[], [(.code .ret)], mkT j [(2, (iI (firstI
 [A61_r0 a (Int.ofNat (nat_lit 0)) (Int.ofNat (nat_lit 255)),
  A61_r0 c (Int.ofNat (nat_lit 1)) (Int.ofNat (nat_lit 64)),
  A61_r0 b (Int.ofNat (nat_lit 0)) (wrapF IntKind.i64 (c - (1 : Int))),
  A65_r0 (decide ((↑n : Int) > (12 : Int))) (Int.ofNat (nat_lit 5))])))] 22 0⟩
theorem A27_ (hE : EnvOk E) (a b c : Int) (B : List DT) (n : Nat)   {Φ : Res → Prop} (ho : ∀ j, OutK E 0 0 (A27__end a b c B n j) Φ) (j : Nat → Value) : OutK E 0 0 (s27 a b c B n j) Φ :=
 outK_seg hE (R0_ok hE) [.run 3, (.ops [(2, (.c0 (iI (A61_r0 a (Int.ofNat (nat_lit 0)) (Int.ofNat (nat_lit 255)))))), (5, (.c0 (iI (A61_r0 c (Int.ofNat (nat_lit 1)) (Int.ofNat (nat_lit 64)))))), (11, (.c0 (iI (A61_r0 b (Int.ofNat (nat_lit 0)) (wrapF IntKind.i64 (c - (1 : Int))))))), (14, (.d .len)), (16, (.c0 (iI (A65_r0 (decide ((↑n : Int) > (12 : Int))) (Int.ofNat (nat_lit 5)))))), (18, (.d (.c1 (iI (firstI
 [A61_r0 a (Int.ofNat (nat_lit 0)) (Int.ofNat (nat_lit 255)),
  A61_r0 c (Int.ofNat (nat_lit 1)) (Int.ofNat (nat_lit 64)),
  A61_r0 b (Int.ofNat (nat_lit 0)) (wrapF IntKind.i64 (c - (1 : Int))),
  A65_r0 (decide ((↑n : Int) > (12 : Int))) (Int.ofNat (nat_lit 5))])))))] [])] [2] (s' := fun j => ⟨[(.some ⟨[(.v (.int .i64 (a))), (.v (.int .i64 (b))), (.v (.int .i64 (c))), (.dp (.s (B) (n) 1))], 4, 46, true, .cells⟩), (.some ⟨[(.v (.int .i64 (A61_r0 a (Int.ofNat (nat_lit 0)) (Int.ofNat (nat_lit 255))))), (.v (.int .i64 (A61_r0 c (Int.ofNat (nat_lit 1)) (Int.ofNat (nat_lit 64))))), (.v (.int .i64 (A61_r0 b (Int.ofNat (nat_lit 0)) (wrapF IntKind.i64 (c - (1 : Int)))))), (.v (.int .i64 (A65_r0 (decide ((↑n : Int) > (12 : Int))) (Int.ofNat (nat_lit 5)))))], 4, 3, true, .cells⟩)], [(.code .ret)], mkT j [(2, (iI (firstI
 [A61_r0 a (Int.ofNat (nat_lit 0)) (Int.ofNat (nat_lit 255)),
  A61_r0 c (Int.ofNat (nat_lit 1)) (Int.ofNat (nat_lit 64)),
  A61_r0 b (Int.ofNat (nat_lit 0)) (wrapF IntKind.i64 (c - (1 : Int))),
  A65_r0 (decide ((↑n : Int) > (12 : Int))) (Int.ofNat (nat_lit 5))])))] 22 0⟩) (ps := [COut E 0 [] 61 [(iI (a)), (iI 0), (iI 255)] (iI (A61_r0 a (Int.ofNat (nat_lit 0)) (Int.ofNat (nat_lit 255)))) [], ([] : List Nat) = [], COut E 0 [] 61 [(iI (c)), (iI 1), (iI 64)] (iI (A61_r0 c (Int.ofNat (nat_lit 1)) (Int.ofNat (nat_lit 64)))) [], ([] : List Nat) = [], COut E 0 [] 61 [(iI (b)), (iI 0), (iI (wrapF IntKind.i64 (c - (1 : Int))))] (iI (A61_r0 b (Int.ofNat (nat_lit 0)) (wrapF IntKind.i64 (c - (1 : Int))))) [], ([] : List Nat) = [], (true : Bool) = true, COut E 0 [] 65 [(iB (decide ((↑n : Int) > (12 : Int)))), (iI 5)] (iI (A65_r0 (decide ((↑n : Int) > (12 : Int))) (Int.ofNat (nat_lit 5)))) [], ([] : List Nat) = [], COut E 2 [(.some ⟨[(.v (.int .i64 (a))), (.v (.int .i64 (b))), (.v (.int .i64 (c))), (.dp (.s (B) (n) 1))], 4, 46, true, .cells⟩), (.some ⟨[(.v (.int .i64 (A61_r0 a (Int.ofNat (nat_lit 0)) (Int.ofNat (nat_lit 255))))), (.v (.int .i64 (A61_r0 c (Int.ofNat (nat_lit 1)) (Int.ofNat (nat_lit 64))))), (.v (.int .i64 (A61_r0 b (Int.ofNat (nat_lit 0)) (wrapF IntKind.i64 (c - (1 : Int)))))), (.v (.int .i64 (A65_r0 (decide ((↑n : Int) > (12 : Int))) (Int.ofNat (nat_lit 5)))))], 4, 3, true, .cells⟩)] 88 [(.e (.one (.slc 1 0 4 1 4 true)))] (iI (firstI
 [A61_r0 a (Int.ofNat (nat_lit 0)) (Int.ofNat (nat_lit 255)),
  A61_r0 c (Int.ofNat (nat_lit 1)) (Int.ofNat (nat_lit 64)),
  A61_r0 b (Int.ofNat (nat_lit 0)) (wrapF IntKind.i64 (c - (1 : Int))),
  A65_r0 (decide ((↑n : Int) > (12 : Int))) (Int.ofNat (nat_lit 5))])) [(.some ⟨[(.v (.int .i64 (a))), (.v (.int .i64 (b))), (.v (.int .i64 (c))), (.dp (.s (B) (n) 1))], 4, 46, true, .cells⟩), (.some ⟨[(.v (.int .i64 (A61_r0 a (Int.ofNat (nat_lit 0)) (Int.ofNat (nat_lit 255))))), (.v (.int .i64 (A61_r0 c (Int.ofNat (nat_lit 1)) (Int.ofNat (nat_lit 64))))), (.v (.int .i64 (A61_r0 b (Int.ofNat (nat_lit 0)) (wrapF IntKind.i64 (c - (1 : Int)))))), (.v (.int .i64 (A65_r0 (decide ((↑n : Int) > (12 : Int))) (Int.ofNat (nat_lit 5)))))], 4, 3, true, .cells⟩)], ([] : List Nat) = []]) (fun j => by kernel_rfl) ⟨(A61_all hE _ _ _), rfl, (A61_all hE _ _ _), rfl, (A61_all hE _ _ _), rfl, rfl, (A65_all hE _ _), rfl, (C88 hE [(.some ⟨[(.v (.int .i64 (a))), (.v (.int .i64 (b))), (.v (.int .i64 (c))), (.dp (.s (B) (n) 1))], 4, 46, true, .cells⟩), (.some ⟨[(.v (.int .i64 (A61_r0 a (Int.ofNat (nat_lit 0)) (Int.ofNat (nat_lit 255))))), (.v (.int .i64 (A61_r0 c (Int.ofNat (nat_lit 1)) (Int.ofNat (nat_lit 64))))), (.v (.int .i64 (A61_r0 b (Int.ofNat (nat_lit 0)) (wrapF IntKind.i64 (c - (1 : Int)))))), (.v (.int .i64 (A65_r0 (decide ((↑n : Int) > (12 : Int))) (Int.ofNat (nat_lit 5)))))], 4, 3, true, .cells⟩)] _ _ _ rfl rfl), rfl, trivial⟩
  fun j => outK_gc [] (by decide) (by kernel_rfl) (by kernel_rfl) (by kernel_rfl) (ho j)
theorem A27__c (hE : EnvOk E) (a b c : Int) (B : List DT) (n : Nat)   : COut E 0 [] 27 [(.e (.agg [(.v (.int .i64 (a))), (.v (.int .i64 (b))), (.v (.int .i64 (c))), (.dp (.s (B) (n) 1))]))] (iI (firstI
 [A61_r0 a (Int.ofNat (nat_lit 0)) (Int.ofNat (nat_lit 255)),
  A61_r0 c (Int.ofNat (nat_lit 1)) (Int.ofNat (nat_lit 64)),
  A61_r0 b (Int.ofNat (nat_lit 0)) (wrapF IntKind.i64 (c - (1 : Int))),
  A65_r0 (decide ((↑n : Int) > (12 : Int))) (Int.ofNat (nat_lit 5))])) [] := cOut_start Tryz.func27 rfl (A27_ hE a b c B n   (fun j => outK_ret (ends_ret (by kernel_rfl))) fun _ => undef)
theorem A27_all (hE : EnvOk E) (a b c : Int) (B : List DT) (n : Nat) : COut E 0 [] 27 [(.e (.agg [(.v (.int .i64 (a))), (.v (.int .i64 (b))), (.v (.int .i64 (c))), (.dp (.s (B) (n) 1))]))] (iI (firstI
 [A61_r0 a (Int.ofNat (nat_lit 0)) (Int.ofNat (nat_lit 255)),
  A61_r0 c (Int.ofNat (nat_lit 1)) (Int.ofNat (nat_lit 64)),
  A61_r0 b (Int.ofNat (nat_lit 0)) (wrapF IntKind.i64 (c - (1 : Int))),
  A65_r0 (decide ((↑n : Int) > (12 : Int))) (Int.ofNat (nat_lit 5))])) [] := by
 exact A27__c hE a b c B n  
end
end Go.Proofs.YtnhabbponbpmfaaGreatDoor
end

/-! SeRow -/
section
open Go Go.Ev
namespace Go.Proofs.YtnhabbponbpmfaaGreatDoor
noncomputable section
theorem row_get {α β : Type} {f : α → List β} {k : Nat} (hf : ∀ x, (f x).length = k) : ∀ {l : List α} {i : Nat} {x : α}, l[i]? = some x → ((l.flatMap f).drop (i * k)).take k = f x ∧ i * k + k ≤ (l.flatMap f).length
 | [], _, _, h => by simp at h
 | a :: l, 0, x, h => by
  obtain rfl : a = x := by simpa using h
  rw [Nat.zero_mul, List.drop_zero, List.flatMap_cons, List.take_append_of_le_length (Nat.le_of_eq (hf _).symm), List.take_of_length_le (Nat.le_of_eq (hf _))]
  refine ⟨rfl, ?_⟩
  rw [List.length_append, hf]; omega
 | a :: l, i + 1, x, h => by
  obtain ⟨h1, h2⟩ := row_get hf (l := l) (i := i) (x := x) (by simpa using h)
  rw [List.flatMap_cons, Nat.succ_mul, List.drop_append, List.drop_eq_nil_of_le (by rw [hf]; omega), hf, show i * k + k - k = i * k by omega, List.nil_append]
  refine ⟨h1, ?_⟩
  rw [List.length_append, hf]; omega
section
variable {α : Type} {f : α → List DT} {k : Nat}
theorem rows_len (hf : ∀ x, (f x).length = k) : ∀ l : List α, (l.flatMap f).length = l.length * k
 | [] => by simp
 | x :: l => by rw [List.flatMap_cons, List.length_append, hf, rows_len hf l, List.length_cons, Nat.succ_mul]; omega
theorem rows_get (hf : ∀ x, (f x).length = k) {l : List α} {i : Nat} {x : α} (h : l[i]? = some x) : takeL (dropL (l.flatMap f) (i.mul k)) k = some (f x) := by
 obtain ⟨h1, h2⟩ := row_get hf h
 rw [takeL_eq, dropL_eq, if_pos (by rw [List.length_drop]; show k ≤ _ - i * k; omega)]
 exact congrArg some h1
theorem rows_part (hf : ∀ x, (f x).length = k) {l : List α} {i : Nat} {x : α} (h : l[i]? = some x) {o : Nat} {d : DT} (hd : (f x)[o]? = some d) : getL (l.flatMap f) (i.mul k + o) = some d := by
 obtain ⟨h1, h2⟩ := row_get hf h
 have ho : o < k := by
  have := (List.getElem?_eq_some_iff.1 hd).1
  rwa [hf] at this
 rw [← h1, List.getElem?_take, if_pos ho, List.getElem?_drop] at hd
 rw [getL_eq]; exact hd
theorem flat_rows (l : List DT) : FlatC (l.map DT.ac) := by
 intro c hc
 obtain ⟨d, _, rfl⟩ := List.mem_map.1 hc
 cases d <;> rfl
theorem rows_app (l : List α) (x : α) : appL ((l.flatMap f).map DT.ac) ((f x).map DT.ac) = ((l ++ [x]).flatMap f).map DT.ac := by
 rw [appL_eq, List.flatMap_append, List.map_append]
 simp
def wrC (f : α → List DT) (z : List AC) (l : List α) (m : Nat) : List AC := (l.flatMap f).map DT.ac ++ repeatC z m
theorem wr_all (z : List AC) (l : List α) : wrC f z l 0 = (l.flatMap f).map DT.ac := by simp [wrC, repeatC]
theorem repeatC_len (z : List AC) : ∀ m, (repeatC z m).length = m * z.length
 | 0 => by simp [repeatC]
 | m + 1 => by rw [repeatC, List.length_append, repeatC_len z m, Nat.succ_mul]; omega
theorem wr_set (hf : ∀ x, (f x).length = k) {z : List AC} (hz : z.length = k) (l : List α) (x : α) (m : Nat) (o : Nat) (ho : o = l.length * k) : overL ((f x).map DT.ac) (wrC f z l (m + 1)) o = wrC f z (l ++ [x]) m := by
 have h1 : ((l.flatMap f).map DT.ac).length = o := by rw [List.length_map, rows_len hf, ho]
 have h2 : ((f x).map DT.ac).length = k := by rw [List.length_map, hf]
 have h3 : (wrC f z l (m + 1)).length = o + (m + 1) * k := by rw [wrC, List.length_append, h1, repeatC_len, hz]
 rw [overL_eq _ _ _ (by rw [h2, h3, Nat.succ_mul]; omega), h2]
 unfold wrC
 rw [List.take_append_of_le_length (by omega), List.take_of_length_le (by omega), List.drop_append, List.drop_eq_nil_of_le (by omega), h1, show o + k - o = k by omega, List.nil_append]
 show _ ++ _ ++ (z ++ repeatC z m).drop k = _
 rw [List.drop_append, List.drop_eq_nil_of_le (by omega), hz, Nat.sub_self, List.drop_zero, List.nil_append, List.flatMap_append, List.map_append]
 simp
theorem flat_wr {z : List AC} (hz : FlatC z) (l : List α) (m : Nat) : FlatC (wrC f z l m) := by
 refine flat_app (flat_rows _) ?_
 induction m with
 | zero => intro c hc; simp [repeatC] at hc
 | succ m ih => exact flat_app hz ih
theorem tkAll (ds : List DT) (n : Nat) (h : ds.length = n) : takeL (dropL ds 0) n = some ds := by
 rw [takeL_eq, dropL_eq, List.drop_zero, if_pos (by omega), List.take_of_length_le (by omega)]
theorem frzAll {b : Nat} (ds : List DT) (n sz cap : Nat) (ex : Bool) (h : ds.length = n * sz) : FrzC b ds (.slc b 0 n sz cap ex) (.dp (.s ds n sz)) :=
 .inr ⟨0, n, sz, cap, ex, ds, rfl, rfl, tkAll ds _ h⟩
end
theorem iD_rows (l : List Int) : iD l = l.flatMap fun z => [DT.v (.int .i64 z)] := by
 induction l with
 | nil => rfl
 | cons x l ih => rw [List.flatMap_cons, ← ih]; rfl
theorem cOut_emp1 {f : FuncId} {rest : List AV} {v : AV} {ho : Heap} (sz : Nat) (h1 : ∀ cp, COut E 0 [] f (.e (.one (.v (.slice none 0 cp))) :: rest) v ho) (h2 : ∀ a cp, COut E 0 [] f (.e (.one (.v (.slice (some a) 0 cp))) :: rest) v ho) : COut E 0 [] f (.e (.one (.dp (.s [] 0 sz))) :: rest) v ho := by
 intro M base w argsC ha H G
 generalize hl : argsC.toList = l at ha
 match l, ha with
 | y :: r, ⟨hy, hr⟩ =>
  have hz : DT.R M.F (.s [] 0 sz) y := hy
  simp only [DT.R] at hz
  rcases hz with ⟨_, q, cp, rfl⟩ | ⟨h0, _⟩
  ·cases q with
   | none => exact h1 cp M base w argsC (by rw [hl]; exact ⟨rfl, hr⟩) H G
   | some a => exact h2 a cp M base w argsC (by rw [hl]; exact ⟨rfl, hr⟩) H G
  ·omega
theorem nil_dp (m : M) (sz : Nat) {y : Value} {p : Option Addr} {c : Nat} (h : y = .slice p 0 c) : CR m (.dp (.s [] 0 sz)) y := by
 subst h
 show DT.R m.F (.s [] 0 sz) _
 simp only [DT.R]
 exact .inl ⟨trivial, p, c, rfl⟩
theorem all2_wk {α β : Type} {R S : α → β → Prop} : ∀ {l l' : List α}, All2 (fun a a' => ∀ y, R a y → S a' y) l l' → ∀ {ys : List β}, All2 R l ys → All2 S l' ys
 | [], [], _, [], _ => trivial
 | _ :: _, _ :: _, ⟨h, t⟩, _ :: _, ⟨a, b⟩ => ⟨h _ a, all2_wk t b⟩
 | [], _ :: _, h, _, _ => h.elim
 | _ :: _, [], h, _, _ => h.elim
 | _ :: _, _ :: _, _, [], h => h.elim
 | [], [], _, _ :: _, h => h.elim
theorem tup_wk {f : FuncId} {args : List AV} {l l' : List AE} {h : Heap} (hc : COut E 0 [] f args (.tup l) h) (hw : ∀ m : M, All2 (fun a a' => ∀ y, ER m a y → ER m a' y) l l') : COut E 0 [] f args (.tup l') h :=
 cOut_weak hc fun m _ ⟨cs, hy, ha⟩ => ⟨cs, hy, all2_wk (hw m) ha⟩
theorem wkN (m : M) (sz : Nat) : ∀ y, ER m (.one (.v (.slice none 0 0))) y → ER m (.one (.dp (.s [] 0 sz))) y := fun _ h => nil_dp m sz h
theorem wkNc (m : M) (sz : Nat) : ∀ y, CR m (.v (.slice none 0 0)) y → CR m (.dp (.s [] 0 sz)) y := fun _ h => nil_dp m sz h
theorem wkA (m : M) {l l' : List AC} (hw : All2 (fun a a' => ∀ y, CR m a y → CR m a' y) l l') : ∀ y, ER m (.agg l) y → ER m (.agg l') y := fun _ ⟨cs, hy, ha⟩ => ⟨cs, hy, all2_wk hw ha⟩
end
end Go.Proofs.YtnhabbponbpmfaaGreatDoor
end

/-! SeFr -/
section
open Go Go.Ev
namespace Go.Proofs.YtnhabbponbpmfaaGreatDoor
noncomputable section
theorem loop_eq (s : ByteArray) : ∀ m i r, m + i = s.size → ByteArray.toList.loop s i r = r.reverse ++ s.data.toList.drop i
 | 0, i, r, h => by
  unfold ByteArray.toList.loop
  rw [if_neg (by omega), List.drop_eq_nil_of_le (by simpa using (by omega : s.size ≤ i))]; simp
 | m + 1, i, r, h => by
  unfold ByteArray.toList.loop
  have hi : i < s.data.toList.length := by simpa using (by omega : i < s.size)
  rw [if_pos (by omega), loop_eq s m (i + 1) _ (by omega), List.drop_eq_getElem_cons hi]
  have : s.get! i = s.data.toList[i] := by
   have hi' : i < s.data.size := by simpa using hi
   show s.data[i]! = _
   rw [getElem!_pos s.data i hi']; simp
  rw [this]; simp
theorem toList_bytes (s : List UInt8) : ({ data := s.toArray } : ByteArray).toList = s := by
 have := loop_eq ⟨s.toArray⟩ s.length 0 [] rfl
 unfold ByteArray.toList
 rw [this]; simp
structure Fr where
 a : Int
 b : Int
 c : Int
 s : List UInt8
def bD (s : List UInt8) : List DT := s.map fun x => .v (.int .u8 (Int.ofNat x.toNat))
theorem bD_ac (s : List UInt8) : (bD s).map DT.ac = s.map u8c := by simp [bD, DT.ac, u8c]
theorem bD_len (s : List UInt8) : (bD s).length = s.length := by simp [bD]
def Fr.d (x : Fr) : List DT := [.v (.int .i64 x.a), .v (.int .i64 x.b), .v (.int .i64 x.c), .s (bD x.s) x.s.length 1]
def frD (l : List Fr) : List DT := l.flatMap Fr.d
def frC (l : List Fr) : List AC := (frD l).map DT.ac
abbrev dFr (l : List Fr) : AV := .e (.one (.dp (.s (frD l) l.length 4)))
abbrev aFr (x : Fr) : AV := .e (.agg [.v (.int .i64 x.a), .v (.int .i64 x.b), .v (.int .i64 x.c), .dp (.s (bD x.s) x.s.length 1)])
theorem Fr.len (x : Fr) : x.d.length = 4 := rfl
theorem frD_len (l : List Fr) : (frD l).length = l.length * 4 := rows_len Fr.len l
theorem fr_get {l : List Fr} {i : Nat} {x : Fr} (h : l[i]? = some x) : takeL (dropL (frD l) (i.mul 4)) 4 = some (Fr.d x) := rows_get Fr.len h
theorem fr_len {l : List Fr} {i : Nat} {x : Fr} (h : l[i]? = some x) : getL (frD l) (i.mul 4 + 3) = some (.s (bD x.s) x.s.length 1) := rows_part Fr.len h rfl
theorem frC_app (l : List Fr) (x : Fr) : appL (frC l) (x.d.map DT.ac) = frC (l ++ [x]) := rows_app l x
abbrev Nf := Fr × Int
def nfd (x : Nf) : List DT := x.1.d ++ [.v (.int .i64 x.2)]
theorem nf_len (x : Nf) : (nfd x).length = 5 := rfl
def nfD (l : List Nf) : List DT := l.flatMap nfd
theorem nf_get {l : List Nf} {i : Nat} {x : Nf} (h : l[i]? = some x) : takeL (dropL (nfD l) (i.mul 5)) 5 = some (nfd x) := rows_get nf_len h
def zFr : List AC := [.v (.int .i64 0), .v (.int .i64 0), .v (.int .i64 0), .v (.slice none 0 0)]
theorem flat_zFr : FlatC zFr := by intro c hc; simp [zFr] at hc; rcases hc with rfl | rfl <;> rfl
def zI : List AC := [.v (.int .i64 0)]
theorem flat_zI : FlatC zI := by intro c hc; simp [zI] at hc; subst hc; rfl
end
end Go.Proofs.YtnhabbponbpmfaaGreatDoor
end

/-! SeFa -/
section
open Go Go.Ev
namespace Go.Proofs.YtnhabbponbpmfaaGreatDoor
noncomputable section
set_option maxRecDepth 100000
set_option maxHeartbeats 20000000
def s23 (_B _C : List DT) (_n _i : Nat) (s t : List UInt8) (_a _b _c _d _e _f : Int) (_w : Bool) (_j : Nat → Value) : St := startK Tryz.f23 [] [.e (.one (.dp (.s (bD s) s.length 1))), .e (.one (.dp (.s (bD t) t.length 1)))]
def p23_end (_B : List DT) (_C : List DT) (_n _i : Nat) (s : List UInt8) (t : List UInt8) (_a _b _c _d _e _f : Int) (_w : Bool) (j : Nat → Value) : St := ⟨[], [(.code .ret)], mkT j [(4, (iB ({ data := s.toArray : ByteArray }.toList == { data := t.toArray : ByteArray }.toList)))] 10 0⟩
theorem p23 (hE : EnvOk E) (B : List DT) (C : List DT) (n i : Nat) (s : List UInt8) (t : List UInt8) (a b c d e f : Int) (w : Bool) (h0 : StrOk [] (.e (.one (.dp (.s (bD s) (s.length) 1)))) s) (h1 : StrOk [] (.e (.one (.dp (.s (bD t) (t.length) 1)))) t) {Φ : Res → Prop} (ho : ∀ j, OutK E 0 0 (p23_end B C n i s t a b c d e f w j) Φ) (j : Nat → Value) : OutK E 0 0 (s23 B C n i s t a b c d e f w j) Φ :=
 outK_seg hE (R0_ok hE) [.run 3, (.ops [(1, (.str (s))), (3, (.str (t)))] [])] [4] (fun j => by kernel_rfl) (aP h0 <| aP h1 <| aZ)
  ho
theorem beq_bytes (s t : List UInt8) : (({ data := s.toArray : ByteArray }.toList == { data := t.toArray : ByteArray }.toList) : Bool) = decide (s = t) := by
 rw [toList_bytes, toList_bytes]
 by_cases h : s = t
 ·rw [h]; simp
 ·rw [decide_eq_false h, beq_eq_false_iff_ne]; exact h
theorem strD (s : List UInt8) : StrOk [] (.e (.one (.dp (.s (bD s) s.length 1)))) s := .inr (.inr ⟨bD s, rfl, Nat.zero_le _, bD_ac s⟩)
theorem K23 (hE : EnvOk E) (s t : List UInt8) : COut E 0 [] 23 [.e (.one (.dp (.s (bD s) s.length 1))), .e (.one (.dp (.s (bD t) t.length 1)))] (iB (decide (s = t))) [] := by
 rw [← beq_bytes]
 exact cOut_start Tryz.func23 rfl (p23 hE [] [] 0 0 s t 0 0 0 0 0 0 false (strD s) (strD t) (fun j => outK_ret (ends_ret (by kernel_rfl))) fun _ => undef)
end
end Go.Proofs.YtnhabbponbpmfaaGreatDoor
end

/-! SeFb -/
section
open Go Go.Ev
namespace Go.Proofs.YtnhabbponbpmfaaGreatDoor
noncomputable section
set_option maxRecDepth 100000
set_option maxHeartbeats 20000000
def s24 (_B _C _C2 : List DT) (_n _m _i _k _N : Nat) (a b c d e f _x _y _z _g _h : Int) (s t : List UInt8) (_w _v : Bool) (_D _X _Y _B2 : List AC) (_j : Nat → Value) : St := startK Tryz.f24 [] [.e (.agg [.v (.int .i64 a), .v (.int .i64 b), .v (.int .i64 c), .dp (.s (bD s) s.length 1)]), .e (.agg [.v (.int .i64 d), .v (.int .i64 e), .v (.int .i64 f), .dp (.s (bD t) t.length 1)])]
def s26 (_B _C _C2 : List DT) (_n _m _i _k _N : Nat) (a b c _d _e _f _x _y _z _g _h : Int) (s _t : List UInt8) (_w _v : Bool) (_D _X _Y _B2 : List AC) (_j : Nat → Value) : St := startK Tryz.f26 [] [.e (.agg [.v (.int .i64 a), .v (.int .i64 b), .v (.int .i64 c), .dp (.s (bD s) s.length 1)])]
def s81 (_B _C _C2 : List DT) (_n _m _i _k _N : Nat) (_a _b _c _d _e _f _x _y _z _g _h : Int) (s _t : List UInt8) (_w _v : Bool) (_D _X _Y _B2 : List AC) (_j : Nat → Value) : St := startK Tryz.f81 [] [.e (.one (.dp (.s (bD s) s.length 1)))]
def s81v (_B _C _C2 : List DT) (_n _m _i _k _N : Nat) (_a _b _c _d _e _f _x _y _z _g _h : Int) (_s _t : List UInt8) (_w _v : Bool) (_D _X _Y _B2 : List AC) (cp : Nat) (_j : Nat → Value) : St := startK Tryz.f81 [] [.e (.one (.v (.slice none 0 cp)))]
def s81w (_B _C _C2 : List DT) (_n _m _i _k _N : Nat) (_a _b _c _d _e _f _x _y _z _g _h : Int) (_s _t : List UInt8) (_w _v : Bool) (_D _X _Y _B2 : List AC) (cp : Nat) (ad : Addr) (_j : Nat → Value) : St := startK Tryz.f81 [] [.e (.one (.v (.slice (some ad) 0 cp)))]
def s136 (_B C _C2 : List DT) (n _m _i _k _N : Nat) (_a _b _c _d _e _f x y _z _g _h : Int) (_s _t : List UInt8) (_w _v : Bool) (_D _X _Y _B2 : List AC) (_j : Nat → Value) : St := startK Tryz.f136 [] [.e (.agg [.dp (.s C n 4), .v (.int .i64 x), .v (.int .i64 y)])]
def s96 (_B C _C2 : List DT) (n _m _i _k _N : Nat) (_a _b _c _d _e _f x _y _z _g _h : Int) (_s _t : List UInt8) (_w _v : Bool) (_D _X _Y _B2 : List AC) (_j : Nat → Value) : St := startK Tryz.f96 [] [.e (.agg [.v (.int .i64 x), .dp (.s C n 4)])]
def s92 (_B _C _C2 : List DT) (_n _m _i _k _N : Nat) (a b c _d _e _f x _y _z _g _h : Int) (s _t : List UInt8) (_w _v : Bool) (_D _X _Y _B2 : List AC) (_j : Nat → Value) : St := startK Tryz.f92 [] [.e (.agg [.v (.int .i64 a), .v (.int .i64 b), .v (.int .i64 c), .dp (.s (bD s) s.length 1), .v (.int .i64 x)])]
def s94 (_B _C _C2 : List DT) (_n _m _i _k _N : Nat) (a b c _d _e _f x _y _z _g _h : Int) (s _t : List UInt8) (_w _v : Bool) (_D _X _Y _B2 : List AC) (_j : Nat → Value) : St := startK Tryz.f94 [] [.e (.agg [.v (.int .i64 a), .v (.int .i64 b), .v (.int .i64 c), .dp (.s (bD s) s.length 1), .v (.int .i64 x)])]
def s95 (_B _C _C2 : List DT) (_n _m _i _k _N : Nat) (_a _b _c _d _e _f x _y _z _g _h : Int) (_s _t : List UInt8) (_w _v : Bool) (_D _X _Y _B2 : List AC) (_j : Nat → Value) : St := startK Tryz.f95 [] [iI x]
def s38 (_B _C _C2 : List DT) (_n _m _i _k _N : Nat) (_a _b _c _d _e _f x _y _z _g _h : Int) (_s _t : List UInt8) (_w _v : Bool) (_D _X _Y _B2 : List AC) (_j : Nat → Value) : St := startK Tryz.f38 [] [iI x]
def A24_f_end (_B : List DT) (_C : List DT) (_C2 : List DT) (_n _m _i _k _N : Nat) (_a _b _c _d _e _f _x _y _z _g _h : Int) (_s : List UInt8) (_t : List UInt8) (_w _v : Bool) (_D _X _Y _B2 : List AC) (j : Nat → Value) : St := ⟨[], [(.code .ret)], mkT j [(4, (iB false))] 31 0⟩
theorem A24_f (hE : EnvOk E) (B : List DT) (C : List DT) (C2 : List DT) (n m i k N : Nat) (a b c d e f x y z g h : Int) (s : List UInt8) (t : List UInt8) (w v : Bool) (D X Y B2 : List AC) (c0 : (a == d : Bool) = false)  {Φ : Res → Prop} (ho : ∀ j, OutK E 0 0 (A24_f_end B C C2 n m i k N a b c d e f x y z g h s t w v D X Y B2 j) Φ) (j : Nat → Value) : OutK E 0 0 (s24 B C C2 n m i k N a b c d e f x y z g h s t w v D X Y B2 j) Φ :=
 outK_seg hE (R0_ok hE) [.run 3, (.ops [(11, (.pk false))] [(6, false), (7, false), (8, false), (9, false), (10, false)])] [4] (s' := fun j => ⟨[(.some ⟨[(.v (.int .i64 (a))), (.v (.int .i64 (b))), (.v (.int .i64 (c))), (.dp (.s (bD s) (s.length) 1))], 4, 46, true, .cells⟩), (.some ⟨[(.v (.int .i64 (d))), (.v (.int .i64 (e))), (.v (.int .i64 (f))), (.dp (.s (bD t) (t.length) 1))], 4, 46, true, .cells⟩)], [(.code .ret)], mkT j [(4, (iB false))] 31 0⟩) (ps := [((a == d) == true : Bool) = (nat_lit 6, false).snd, ((a == d) == true : Bool) = (nat_lit 7, false).snd, ((a == d) == true : Bool) = (nat_lit 8, false).snd, ((a == d) == true : Bool) = (nat_lit 9, false).snd, ((a == d) == true : Bool) = (nat_lit 10, false).snd, (a == d : Bool) = false]) (fun j => by kernel_rfl) ⟨(by rw [c0]; rfl), (by rw [c0]; rfl), (by rw [c0]; rfl), (by rw [c0]; rfl), (by rw [c0]; rfl), c0, trivial⟩
  fun j => outK_gc [] (by decide) (by kernel_rfl) (by kernel_rfl) (by kernel_rfl) (ho j)
theorem A24_f_c (hE : EnvOk E) (B : List DT) (C : List DT) (C2 : List DT) (n m i k N : Nat) (a b c d e f x y z g h : Int) (s : List UInt8) (t : List UInt8) (w v : Bool) (D X Y B2 : List AC) (c0 : (a == d : Bool) = false)  : COut E 0 [] 24 [(.e (.agg [(.v (.int .i64 (a))), (.v (.int .i64 (b))), (.v (.int .i64 (c))), (.dp (.s (bD s) (s.length) 1))])), (.e (.agg [(.v (.int .i64 (d))), (.v (.int .i64 (e))), (.v (.int .i64 (f))), (.dp (.s (bD t) (t.length) 1))]))] (iB false) [] := cOut_start Tryz.func24 rfl (A24_f hE B C C2 n m i k N a b c d e f x y z g h s t w v D X Y B2 c0  (fun j => outK_ret (ends_ret (by kernel_rfl))) fun _ => undef)
def A24_tf_end (_B : List DT) (_C : List DT) (_C2 : List DT) (_n _m _i _k _N : Nat) (_a _b _c _d _e _f _x _y _z _g _h : Int) (_s : List UInt8) (_t : List UInt8) (_w _v : Bool) (_D _X _Y _B2 : List AC) (j : Nat → Value) : St := ⟨[], [(.code .ret)], mkT j [(4, (iB false))] 31 0⟩
theorem A24_tf (hE : EnvOk E) (B : List DT) (C : List DT) (C2 : List DT) (n m i k N : Nat) (a b c d e f x y z g h : Int) (s : List UInt8) (t : List UInt8) (w v : Bool) (D X Y B2 : List AC) (c0 : (a == d : Bool) = true) (c1 : (b == e : Bool) = false)  {Φ : Res → Prop} (ho : ∀ j, OutK E 0 0 (A24_tf_end B C C2 n m i k N a b c d e f x y z g h s t w v D X Y B2 j) Φ) (j : Nat → Value) : OutK E 0 0 (s24 B C C2 n m i k N a b c d e f x y z g h s t w v D X Y B2 j) Φ :=
 outK_seg hE (R0_ok hE) [.run 3, (.ops [(11, (.pk true)), (18, (.pk false))] [(6, true), (7, true), (8, true), (9, true), (10, true), (13, false), (14, false), (15, false), (16, false), (17, false)])] [4] (s' := fun j => ⟨[(.some ⟨[(.v (.int .i64 (a))), (.v (.int .i64 (b))), (.v (.int .i64 (c))), (.dp (.s (bD s) (s.length) 1))], 4, 46, true, .cells⟩), (.some ⟨[(.v (.int .i64 (d))), (.v (.int .i64 (e))), (.v (.int .i64 (f))), (.dp (.s (bD t) (t.length) 1))], 4, 46, true, .cells⟩)], [(.code .ret)], mkT j [(4, (iB false))] 31 0⟩) (ps := [((a == d) == true : Bool) = (nat_lit 6, true).snd, ((a == d) == true : Bool) = (nat_lit 7, true).snd, ((a == d) == true : Bool) = (nat_lit 8, true).snd, ((a == d) == true : Bool) = (nat_lit 9, true).snd, ((a == d) == true : Bool) = (nat_lit 10, true).snd, (a == d : Bool) = true, ((b == e) == true : Bool) = (nat_lit 13, false).snd, ((b == e) == true : Bool) = (nat_lit 14, false).snd, ((b == e) == true : Bool) = (nat_lit 15, false).snd, ((b == e) == true : Bool) = (nat_lit 16, false).snd, ((b == e) == true : Bool) = (nat_lit 17, false).snd, (b == e : Bool) = false]) (fun j => by kernel_rfl) ⟨(by rw [c0]; rfl), (by rw [c0]; rfl), (by rw [c0]; rfl), (by rw [c0]; rfl), (by rw [c0]; rfl), c0, (by rw [c1]; rfl), (by rw [c1]; rfl), (by rw [c1]; rfl), (by rw [c1]; rfl), (by rw [c1]; rfl), c1, trivial⟩
  fun j => outK_gc [] (by decide) (by kernel_rfl) (by kernel_rfl) (by kernel_rfl) (ho j)
theorem A24_tf_c (hE : EnvOk E) (B : List DT) (C : List DT) (C2 : List DT) (n m i k N : Nat) (a b c d e f x y z g h : Int) (s : List UInt8) (t : List UInt8) (w v : Bool) (D X Y B2 : List AC) (c0 : (a == d : Bool) = true) (c1 : (b == e : Bool) = false)  : COut E 0 [] 24 [(.e (.agg [(.v (.int .i64 (a))), (.v (.int .i64 (b))), (.v (.int .i64 (c))), (.dp (.s (bD s) (s.length) 1))])), (.e (.agg [(.v (.int .i64 (d))), (.v (.int .i64 (e))), (.v (.int .i64 (f))), (.dp (.s (bD t) (t.length) 1))]))] (iB false) [] := cOut_start Tryz.func24 rfl (A24_tf hE B C C2 n m i k N a b c d e f x y z g h s t w v D X Y B2 c0 c1  (fun j => outK_ret (ends_ret (by kernel_rfl))) fun _ => undef)
def A24_ttf_end (_B : List DT) (_C : List DT) (_C2 : List DT) (_n _m _i _k _N : Nat) (_a _b _c _d _e _f _x _y _z _g _h : Int) (_s : List UInt8) (_t : List UInt8) (_w _v : Bool) (_D _X _Y _B2 : List AC) (j : Nat → Value) : St := ⟨[], [(.code .ret)], mkT j [(4, (iB false))] 31 0⟩
theorem A24_ttf (hE : EnvOk E) (B : List DT) (C : List DT) (C2 : List DT) (n m i k N : Nat) (a b c d e f x y z g h : Int) (s : List UInt8) (t : List UInt8) (w v : Bool) (D X Y B2 : List AC) (c0 : (a == d : Bool) = true) (c1 : (b == e : Bool) = true) (c2 : (c == f : Bool) = false)  {Φ : Res → Prop} (ho : ∀ j, OutK E 0 0 (A24_ttf_end B C C2 n m i k N a b c d e f x y z g h s t w v D X Y B2 j) Φ) (j : Nat → Value) : OutK E 0 0 (s24 B C C2 n m i k N a b c d e f x y z g h s t w v D X Y B2 j) Φ :=
 outK_seg hE (R0_ok hE) [.run 3, (.ops [(11, (.pk true)), (18, (.pk true)), (25, (.pk false))] [(6, true), (7, true), (8, true), (9, true), (10, true), (13, true), (14, true), (15, true), (16, true), (17, true), (20, false), (21, false), (22, false), (23, false), (24, false)])] [4] (s' := fun j => ⟨[(.some ⟨[(.v (.int .i64 (a))), (.v (.int .i64 (b))), (.v (.int .i64 (c))), (.dp (.s (bD s) (s.length) 1))], 4, 46, true, .cells⟩), (.some ⟨[(.v (.int .i64 (d))), (.v (.int .i64 (e))), (.v (.int .i64 (f))), (.dp (.s (bD t) (t.length) 1))], 4, 46, true, .cells⟩)], [(.code .ret)], mkT j [(4, (iB false))] 31 0⟩) (ps := [((a == d) == true : Bool) = (nat_lit 6, true).snd, ((a == d) == true : Bool) = (nat_lit 7, true).snd, ((a == d) == true : Bool) = (nat_lit 8, true).snd, ((a == d) == true : Bool) = (nat_lit 9, true).snd, ((a == d) == true : Bool) = (nat_lit 10, true).snd, (a == d : Bool) = true, ((b == e) == true : Bool) = (nat_lit 13, true).snd, ((b == e) == true : Bool) = (nat_lit 14, true).snd, ((b == e) == true : Bool) = (nat_lit 15, true).snd, ((b == e) == true : Bool) = (nat_lit 16, true).snd, ((b == e) == true : Bool) = (nat_lit 17, true).snd, (b == e : Bool) = true, ((c == f) == true : Bool) = (nat_lit 20, false).snd, ((c == f) == true : Bool) = (nat_lit 21, false).snd, ((c == f) == true : Bool) = (nat_lit 22, false).snd, ((c == f) == true : Bool) = (nat_lit 23, false).snd, ((c == f) == true : Bool) = (nat_lit 24, false).snd, (c == f : Bool) = false]) (fun j => by kernel_rfl) ⟨(by rw [c0]; rfl), (by rw [c0]; rfl), (by rw [c0]; rfl), (by rw [c0]; rfl), (by rw [c0]; rfl), c0, (by rw [c1]; rfl), (by rw [c1]; rfl), (by rw [c1]; rfl), (by rw [c1]; rfl), (by rw [c1]; rfl), c1, (by rw [c2]; rfl), (by rw [c2]; rfl), (by rw [c2]; rfl), (by rw [c2]; rfl), (by rw [c2]; rfl), c2, trivial⟩
  fun j => outK_gc [] (by decide) (by kernel_rfl) (by kernel_rfl) (by kernel_rfl) (ho j)
theorem A24_ttf_c (hE : EnvOk E) (B : List DT) (C : List DT) (C2 : List DT) (n m i k N : Nat) (a b c d e f x y z g h : Int) (s : List UInt8) (t : List UInt8) (w v : Bool) (D X Y B2 : List AC) (c0 : (a == d : Bool) = true) (c1 : (b == e : Bool) = true) (c2 : (c == f : Bool) = false)  : COut E 0 [] 24 [(.e (.agg [(.v (.int .i64 (a))), (.v (.int .i64 (b))), (.v (.int .i64 (c))), (.dp (.s (bD s) (s.length) 1))])), (.e (.agg [(.v (.int .i64 (d))), (.v (.int .i64 (e))), (.v (.int .i64 (f))), (.dp (.s (bD t) (t.length) 1))]))] (iB false) [] := cOut_start Tryz.func24 rfl (A24_ttf hE B C C2 n m i k N a b c d e f x y z g h s t w v D X Y B2 c0 c1 c2  (fun j => outK_ret (ends_ret (by kernel_rfl))) fun _ => undef)
def A24_ttt_end (_B : List DT) (_C : List DT) (_C2 : List DT) (_n _m _i _k _N : Nat) (_a _b _c _d _e _f _x _y _z _g _h : Int) (s : List UInt8) (t : List UInt8) (_w _v : Bool) (_D _X _Y _B2 : List AC) (j : Nat → Value) : St := ⟨[], [(.code .ret)], mkT j [(4, (iB (decide (s = t))))] 31 0⟩
theorem A24_ttt (hE : EnvOk E) (B : List DT) (C : List DT) (C2 : List DT) (n m i k N : Nat) (a b c d e f x y z g h : Int) (s : List UInt8) (t : List UInt8) (w v : Bool) (D X Y B2 : List AC) (c0 : (a == d : Bool) = true) (c1 : (b == e : Bool) = true) (c2 : (c == f : Bool) = true)  {Φ : Res → Prop} (ho : ∀ j, OutK E 0 0 (A24_ttt_end B C C2 n m i k N a b c d e f x y z g h s t w v D X Y B2 j) Φ) (j : Nat → Value) : OutK E 0 0 (s24 B C C2 n m i k N a b c d e f x y z g h s t w v D X Y B2 j) Φ :=
 outK_seg hE (R0_ok hE) [.run 3, (.ops [(11, (.pk true)), (18, (.pk true)), (24, (.c0 (iB (decide (s = t))))), (25, (.pk true))] [(6, true), (7, true), (8, true), (9, true), (10, true), (13, true), (14, true), (15, true), (16, true), (17, true), (20, true), (21, true), (22, true), (23, true), (24, true)])] [4] (s' := fun j => ⟨[(.some ⟨[(.v (.int .i64 (a))), (.v (.int .i64 (b))), (.v (.int .i64 (c))), (.dp (.s (bD s) (s.length) 1))], 4, 46, true, .cells⟩), (.some ⟨[(.v (.int .i64 (d))), (.v (.int .i64 (e))), (.v (.int .i64 (f))), (.dp (.s (bD t) (t.length) 1))], 4, 46, true, .cells⟩)], [(.code .ret)], mkT j [(4, (iB (decide (s = t))))] 31 0⟩) (ps := [((a == d) == true : Bool) = (nat_lit 6, true).snd, ((a == d) == true : Bool) = (nat_lit 7, true).snd, ((a == d) == true : Bool) = (nat_lit 8, true).snd, ((a == d) == true : Bool) = (nat_lit 9, true).snd, ((a == d) == true : Bool) = (nat_lit 10, true).snd, (a == d : Bool) = true, ((b == e) == true : Bool) = (nat_lit 13, true).snd, ((b == e) == true : Bool) = (nat_lit 14, true).snd, ((b == e) == true : Bool) = (nat_lit 15, true).snd, ((b == e) == true : Bool) = (nat_lit 16, true).snd, ((b == e) == true : Bool) = (nat_lit 17, true).snd, (b == e : Bool) = true, ((c == f) == true : Bool) = (nat_lit 20, true).snd, ((c == f) == true : Bool) = (nat_lit 21, true).snd, ((c == f) == true : Bool) = (nat_lit 22, true).snd, ((c == f) == true : Bool) = (nat_lit 23, true).snd, ((c == f) == true : Bool) = (nat_lit 24, true).snd, COut E 0 [] 23 [(.e (.one (.dp (.s (bD s) (s.length) 1)))), (.e (.one (.dp (.s (bD t) (t.length) 1))))] (iB (decide (s = t))) [], ([] : List Nat) = [], (c == f : Bool) = true]) (fun j => by kernel_rfl) ⟨(by rw [c0]; rfl), (by rw [c0]; rfl), (by rw [c0]; rfl), (by rw [c0]; rfl), (by rw [c0]; rfl), c0, (by rw [c1]; rfl), (by rw [c1]; rfl), (by rw [c1]; rfl), (by rw [c1]; rfl), (by rw [c1]; rfl), c1, (by rw [c2]; rfl), (by rw [c2]; rfl), (by rw [c2]; rfl), (by rw [c2]; rfl), (by rw [c2]; rfl), (K23 hE _ _), rfl, c2, trivial⟩
  fun j => outK_gc [] (by decide) (by kernel_rfl) (by kernel_rfl) (by kernel_rfl) (ho j)
theorem A24_ttt_c (hE : EnvOk E) (B : List DT) (C : List DT) (C2 : List DT) (n m i k N : Nat) (a b c d e f x y z g h : Int) (s : List UInt8) (t : List UInt8) (w v : Bool) (D X Y B2 : List AC) (c0 : (a == d : Bool) = true) (c1 : (b == e : Bool) = true) (c2 : (c == f : Bool) = true)  : COut E 0 [] 24 [(.e (.agg [(.v (.int .i64 (a))), (.v (.int .i64 (b))), (.v (.int .i64 (c))), (.dp (.s (bD s) (s.length) 1))])), (.e (.agg [(.v (.int .i64 (d))), (.v (.int .i64 (e))), (.v (.int .i64 (f))), (.dp (.s (bD t) (t.length) 1))]))] (iB (decide (s = t))) [] := cOut_start Tryz.func24 rfl (A24_ttt hE B C C2 n m i k N a b c d e f x y z g h s t w v D X Y B2 c0 c1 c2  (fun j => outK_ret (ends_ret (by kernel_rfl))) fun _ => undef)
def A24_r0 (_B : List DT) (_C : List DT) (_C2 : List DT) (_n _m _i _k _N : Nat) (a b c d e f _x _y _z _g _h : Int) (s : List UInt8) (t : List UInt8) (_w _v : Bool) (_D _X _Y _B2 : List AC) : Bool := (bif a == d then (bif b == e then (bif c == f then (decide (s = t)) else false) else false) else false)
theorem A24_all (hE : EnvOk E) (B : List DT) (C : List DT) (C2 : List DT) (n m i k N : Nat) (a b c d e f x y z g h : Int) (s : List UInt8) (t : List UInt8) (w v : Bool) (D X Y B2 : List AC) : COut E 0 [] 24 [(.e (.agg [(.v (.int .i64 (a))), (.v (.int .i64 (b))), (.v (.int .i64 (c))), (.dp (.s (bD s) (s.length) 1))])), (.e (.agg [(.v (.int .i64 (d))), (.v (.int .i64 (e))), (.v (.int .i64 (f))), (.dp (.s (bD t) (t.length) 1))]))] (iB (A24_r0 B C C2 n m i k N a b c d e f x y z g h s t w v D X Y B2)) [] := by
 rcases Bool.eq_false_or_eq_true (a == d) with c0 | c0
 ·skip
  rcases Bool.eq_false_or_eq_true (b == e) with c1 | c1
  ·skip
   rcases Bool.eq_false_or_eq_true (c == f) with c2 | c2
   ·skip
    have e0 : A24_r0 B C C2 n m i k N a b c d e f x y z g h s t w v D X Y B2 = (decide (s = t)) := by unfold A24_r0; rw [c0, c1, c2]; first | done | rfl
    rw [e0]
    exact A24_ttt_c hE B C C2 n m i k N a b c d e f x y z g h s t w v D X Y B2 c0 c1 c2 
   ·skip
    have e0 : A24_r0 B C C2 n m i k N a b c d e f x y z g h s t w v D X Y B2 = false := by unfold A24_r0; rw [c0, c1, c2]; first | done | rfl
    rw [e0]
    exact A24_ttf_c hE B C C2 n m i k N a b c d e f x y z g h s t w v D X Y B2 c0 c1 c2 
  ·skip
   have e0 : A24_r0 B C C2 n m i k N a b c d e f x y z g h s t w v D X Y B2 = false := by unfold A24_r0; rw [c0, c1]; first | done | rfl
   rw [e0]
   exact A24_tf_c hE B C C2 n m i k N a b c d e f x y z g h s t w v D X Y B2 c0 c1 
 ·skip
  have e0 : A24_r0 B C C2 n m i k N a b c d e f x y z g h s t w v D X Y B2 = false := by unfold A24_r0; rw [c0]; first | done | rfl
  rw [e0]
  exact A24_f_c hE B C C2 n m i k N a b c d e f x y z g h s t w v D X Y B2 c0 
def p26_end (_B : List DT) (_C : List DT) (_C2 : List DT) (_n _m _i _k _N : Nat) (a b c _d _e _f _x _y _z _g _h : Int) (s : List UInt8) (_t : List UInt8) (w _v : Bool) (_D X _Y _B2 : List AC) (j : Nat → Value) : St := ⟨[(.some ⟨[(.v (.int .i64 (a))), (.v (.int .i64 (b))), (.v (.int .i64 (c))), (.slc 1 0 (s.length) 1 (s.length) (w))], 4, 38, true, .cells⟩), (.some ⟨(X), (s.length), 5, (w), .cells⟩)], [(.code .ret)], mkT j [(2, (.e (.one (.ptr 0 0))))] 14 0⟩
theorem p26 (hE : EnvOk E) (B : List DT) (C : List DT) (C2 : List DT) (n m i k N : Nat) (a b c d e f x y z g h : Int) (s : List UInt8) (t : List UInt8) (w v : Bool) (D X Y B2 : List AC) (h0 : CopyOk [(.some ⟨[(.v (.int .i64 (a))), (.v (.int .i64 (b))), (.v (.int .i64 (c))), (.dp (.s (bD s) (s.length) 1))], 4, 46, true, .cells⟩), (.some ⟨[(.v (.int .i64 0)), (.v (.int .i64 0)), (.v (.int .i64 0)), (.v (.slice none 0 0))], 4, 38, true, .cells⟩), (.some ⟨[], 0, 5, true, .cells⟩)] 1 1 (.e (.one (.dp (.s (bD s) (s.length) 1)))) s.length X w) (h1 : (s.length * 1 : Nat) = s.length) (g0 : FlatC (X)) {Φ : Res → Prop} (ho : ∀ j, OutK E 0 0 (p26_end B C C2 n m i k N a b c d e f x y z g h s t w v D X Y B2 j) Φ) (j : Nat → Value) : OutK E 0 0 (s26 B C C2 n m i k N a b c d e f x y z g h s t w v D X Y B2 j) Φ :=
 outK_seg hE (R0_ok hE) [.run 3, (.ops [(9, (.cpu (s.length) (s.length) (X) (w)))] [])] [2] (s' := fun j => ⟨[(.some ⟨[(.v (.int .i64 (a))), (.v (.int .i64 (b))), (.v (.int .i64 (c))), (.dp (.s (bD s) (s.length) 1))], 4, 46, true, .cells⟩), (.some ⟨[(.v (.int .i64 (a))), (.v (.int .i64 (b))), (.v (.int .i64 (c))), (.slc 3 0 (s.length) 1 (s.length) (w))], 4, 38, true, .cells⟩), none, (.some ⟨(X), (s.length), 5, (w), .cells⟩)], [(.code .ret)], mkT j [(2, (.e (.one (.ptr 1 0))))] 14 0⟩) (fun j => by kernel_rfl) (aP h0 <| aP h1 <| aP (rfl : (true : Bool) = true) <| aZ)
  fun j => outK_gcF [1, 3] [false, true] (h' := [(.some ⟨[(.v (.int .i64 (a))), (.v (.int .i64 (b))), (.v (.int .i64 (c))), (.slc 1 0 (s.length) 1 (s.length) (w))], 4, 38, true, .cells⟩), (.some ⟨(X), (s.length), 5, (w), .cells⟩)]) (by decide) (by kernel_rfl) (by kernel_rfl) ⟨g0, trivial⟩ (by kernel_rfl) (ho j)
def p81_end (_B : List DT) (_C : List DT) (_C2 : List DT) (_n _m _i _k _N : Nat) (_a _b _c _d _e _f _x _y _z _g _h : Int) (s : List UInt8) (_t : List UInt8) (w _v : Bool) (_D X _Y _B2 : List AC) (j : Nat → Value) : St := ⟨[(.some ⟨(X), (s.length), 5, (w), .cells⟩)], [(.code .ret)], mkT j [(2, (.e (.one (.slc 0 0 (s.length) 1 (s.length) (w)))))] 8 0⟩
theorem p81 (hE : EnvOk E) (B : List DT) (C : List DT) (C2 : List DT) (n m i k N : Nat) (a b c d e f x y z g h : Int) (s : List UInt8) (t : List UInt8) (w v : Bool) (D X Y B2 : List AC) (h0 : (0 : Nat) < s.length) (h1 : CopyOk [(.some ⟨[], 0, 5, true, .cells⟩)] 1 1 (.e (.one (.dp (.s (bD s) (s.length) 1)))) s.length X w) (h2 : (s.length * 1 : Nat) = s.length) (g0 : FlatC (X)) {Φ : Res → Prop} (ho : ∀ j, OutK E 0 0 (p81_end B C C2 n m i k N a b c d e f x y z g h s t w v D X Y B2 j) Φ) (j : Nat → Value) : OutK E 0 0 (s81 B C C2 n m i k N a b c d e f x y z g h s t w v D X Y B2 j) Φ :=
 outK_seg hE (R0_ok hE) [.run 4, (.ops [(1, (.d .nc))] []), .run 3, (.ops [(2, (.cpu (s.length) (s.length) (X) (w)))] [])] [2] (s' := fun j => ⟨[none, (.some ⟨(X), (s.length), 5, (w), .cells⟩)], [(.code .ret)], mkT j [(2, (.e (.one (.slc 1 0 (s.length) 1 (s.length) (w)))))] 8 0⟩) (fun j => by kernel_rfl) (aP h0 <| aP h1 <| aP h2 <| aZ)
  fun j => outK_gcF [1] [true] (h' := [(.some ⟨(X), (s.length), 5, (w), .cells⟩)]) (by decide) (by kernel_rfl) (by kernel_rfl) ⟨g0, trivial⟩ (by kernel_rfl) (ho j)
def p81v_end (_B : List DT) (_C : List DT) (_C2 : List DT) (_n _m _i _k _N : Nat) (_a _b _c _d _e _f _x _y _z _g _h : Int) (_s : List UInt8) (_t : List UInt8) (_w _v : Bool) (_D _X _Y _B2 : List AC) (_cp : Nat) (j : Nat → Value) : St := ⟨[], [(.code .ret), (.code (atC [1, 1] (bodyOf Tryz.f81)))], mkT j [(2, (.e (.one (.v (.slice none 0 0)))))] 8 0⟩
theorem p81v (hE : EnvOk E) (B : List DT) (C : List DT) (C2 : List DT) (n m i k N : Nat) (a b c d e f x y z g h : Int) (s : List UInt8) (t : List UInt8) (w v : Bool) (D X Y B2 : List AC) (cp : Nat)  {Φ : Res → Prop} (ho : ∀ j, OutK E 0 0 (p81v_end B C C2 n m i k N a b c d e f x y z g h s t w v D X Y B2 cp j) Φ) (j : Nat → Value) : OutK E 0 0 (s81v B C C2 n m i k N a b c d e f x y z g h s t w v D X Y B2 cp j) Φ :=
 outK_seg hE (R0_ok hE) [.run 8] [2] (ps := []) (fun j => by kernel_rfl) trivial
  ho
def p81w_end (_B : List DT) (_C : List DT) (_C2 : List DT) (_n _m _i _k _N : Nat) (_a _b _c _d _e _f _x _y _z _g _h : Int) (_s : List UInt8) (_t : List UInt8) (_w _v : Bool) (_D _X _Y _B2 : List AC) (_cp : Nat) (_ad : Addr) (j : Nat → Value) : St := ⟨[(.some ⟨[], 0, 5, true, .cells⟩)], [(.code .ret)], mkT j [(2, (.e (.one (.slc 0 0 0 1 0 true))))] 8 0⟩
theorem p81w (hE : EnvOk E) (B : List DT) (C : List DT) (C2 : List DT) (n m i k N : Nat) (a b c d e f x y z g h : Int) (s : List UInt8) (t : List UInt8) (w v : Bool) (D X Y B2 : List AC) (cp : Nat) (ad : Addr)  {Φ : Res → Prop} (ho : ∀ j, OutK E 0 0 (p81w_end B C C2 n m i k N a b c d e f x y z g h s t w v D X Y B2 cp ad j) Φ) (j : Nat → Value) : OutK E 0 0 (s81w B C C2 n m i k N a b c d e f x y z g h s t w v D X Y B2 cp ad j) Φ :=
 outK_seg hE (R0_ok hE) [.run 8, (.ops [(2, .apz)] [])] [2] (ps := []) (fun j => by kernel_rfl) trivial
  ho
def p136_end (_B : List DT) (_C : List DT) (_C2 : List DT) (_n _m _i _k _N : Nat) (_a _b _c _d _e _f _x _y z _g _h : Int) (_s : List UInt8) (_t : List UInt8) (_w _v : Bool) (_D _X _Y _B2 : List AC) (j : Nat → Value) : St := ⟨[], [(.code .ret)], mkT j [(2, (iI (z)))] 12 0⟩
theorem p136 (hE : EnvOk E) (B : List DT) (C : List DT) (C2 : List DT) (n m i k N : Nat) (a b c d e f x y z g h : Int) (s : List UInt8) (t : List UInt8) (w v : Bool) (D X Y B2 : List AC) (h0 : ((iI (if wrapF IntKind.i64 ((↑n : Int) - x) < y then wrapF IntKind.i64 ((↑n : Int) - x) else y)) : AV) = (iI (z))) {Φ : Res → Prop} (ho : ∀ j, OutK E 0 0 (p136_end B C C2 n m i k N a b c d e f x y z g h s t w v D X Y B2 j) Φ) (j : Nat → Value) : OutK E 0 0 (s136 B C C2 n m i k N a b c d e f x y z g h s t w v D X Y B2 j) Φ :=
 outK_seg hE (R0_ok hE) [.run 3, (.ops [(8, (.rn (iI (z)))), (4, (.d .len))] [])] [2] (s' := fun j => ⟨[(.some ⟨[(.dp (.s (C) (n) 4)), (.v (.int .i64 (x))), (.v (.int .i64 (y)))], 3, 70, true, .cells⟩)], [(.code .ret)], mkT j [(2, (iI (z)))] 12 0⟩) (fun j => by kernel_rfl) (aP h0 <| aZ)
  fun j => outK_gc [] (by decide) (by kernel_rfl) (by kernel_rfl) (by kernel_rfl) (ho j)
def A96__end (_B : List DT) (_C : List DT) (_C2 : List DT) (_n _m _i _k _N : Nat) (_a _b _c _d _e _f x _y _z _g _h : Int) (_s : List UInt8) (_t : List UInt8) (_w _v : Bool) (_D _X _Y _B2 : List AC) (j : Nat → Value) : St := ⟨[], [(.code .ret)], mkT j [(2, (iI (x.tmod (16 : Int))))] 6 0⟩
theorem A96_ (hE : EnvOk E) (B : List DT) (C : List DT) (C2 : List DT) (n m i k N : Nat) (a b c d e f x y z g h : Int) (s : List UInt8) (t : List UInt8) (w v : Bool) (D X Y B2 : List AC)   {Φ : Res → Prop} (ho : ∀ j, OutK E 0 0 (A96__end B C C2 n m i k N a b c d e f x y z g h s t w v D X Y B2 j) Φ) (j : Nat → Value) : OutK E 0 0 (s96 B C C2 n m i k N a b c d e f x y z g h s t w v D X Y B2 j) Φ :=
 outK_seg hE (R0_ok hE) [.run 4] [2] (s' := fun j => ⟨[(.some ⟨[(.v (.int .i64 (x))), (.dp (.s (C) (n) 4))], 2, 73, true, .cells⟩)], [(.code .ret)], mkT j [(2, (iI (x.tmod (16 : Int))))] 6 0⟩) (ps := []) (fun j => by kernel_rfl) trivial
  fun j => outK_gc [] (by decide) (by kernel_rfl) (by kernel_rfl) (by kernel_rfl) (ho j)
theorem A96__c (hE : EnvOk E) (B : List DT) (C : List DT) (C2 : List DT) (n m i k N : Nat) (a b c d e f x y z g h : Int) (s : List UInt8) (t : List UInt8) (w v : Bool) (D X Y B2 : List AC)   : COut E 0 [] 96 [(.e (.agg [(.v (.int .i64 (x))), (.dp (.s (C) (n) 4))]))] (iI (x.tmod (16 : Int))) [] := cOut_start Tryz.func96 rfl (A96_ hE B C C2 n m i k N a b c d e f x y z g h s t w v D X Y B2   (fun j => outK_ret (ends_ret (by kernel_rfl))) fun _ => undef)
theorem A96_all (hE : EnvOk E) (B : List DT) (C : List DT) (C2 : List DT) (n m i k N : Nat) (a b c d e f x y z g h : Int) (s : List UInt8) (t : List UInt8) (w v : Bool) (D X Y B2 : List AC) : COut E 0 [] 96 [(.e (.agg [(.v (.int .i64 (x))), (.dp (.s (C) (n) 4))]))] (iI (x.tmod (16 : Int))) [] := by
 exact A96__c hE B C C2 n m i k N a b c d e f x y z g h s t w v D X Y B2  
def A92__end (_B : List DT) (_C : List DT) (_C2 : List DT) (_n _m _i _k _N : Nat) (a b c _d _e _f _x _y _z _g _h : Int) (s : List UInt8) (_t : List UInt8) (_w _v : Bool) (_D _X _Y _B2 : List AC) (j : Nat → Value) : St := ⟨[(.some ⟨[(.v (.int .i64 (a))), (.v (.int .i64 (b))), (.v (.int .i64 (c))), (.dp (.s (bD s) (s.length) 1))], 4, 38, true, .cells⟩)], [(.code .ret)], mkT j [(2, (.e (.one (.ptr 0 0))))] 5 0⟩
theorem A92_ (hE : EnvOk E) (B : List DT) (C : List DT) (C2 : List DT) (n m i k N : Nat) (a b c d e f x y z g h : Int) (s : List UInt8) (t : List UInt8) (w v : Bool) (D X Y B2 : List AC)   {Φ : Res → Prop} (ho : ∀ j, OutK E 0 0 (A92__end B C C2 n m i k N a b c d e f x y z g h s t w v D X Y B2 j) Φ) (j : Nat → Value) : OutK E 0 0 (s92 B C C2 n m i k N a b c d e f x y z g h s t w v D X Y B2 j) Φ :=
 outK_seg hE (R0_ok hE) [.run 4] [2] (s' := fun j => ⟨[(.some ⟨[(.v (.int .i64 (a))), (.v (.int .i64 (b))), (.v (.int .i64 (c))), (.dp (.s (bD s) (s.length) 1)), (.v (.int .i64 (x)))], 5, 170, true, .cells⟩), (.some ⟨[(.v (.int .i64 (a))), (.v (.int .i64 (b))), (.v (.int .i64 (c))), (.dp (.s (bD s) (s.length) 1))], 4, 38, true, .cells⟩)], [(.code .ret)], mkT j [(2, (.e (.one (.ptr 1 0))))] 5 0⟩) (ps := []) (fun j => by kernel_rfl) trivial
  fun j => outK_gc [1] (by decide) (by kernel_rfl) (by kernel_rfl) (by kernel_rfl) (ho j)
theorem A92__c (hE : EnvOk E) (B : List DT) (C : List DT) (C2 : List DT) (n m i k N : Nat) (a b c d e f x y z g h : Int) (s : List UInt8) (t : List UInt8) (w v : Bool) (D X Y B2 : List AC)   : COut E 0 [] 92 [(.e (.agg [(.v (.int .i64 (a))), (.v (.int .i64 (b))), (.v (.int .i64 (c))), (.dp (.s (bD s) (s.length) 1)), (.v (.int .i64 (x)))]))] (.e (.agg [(.v (.int .i64 (a))), (.v (.int .i64 (b))), (.v (.int .i64 (c))), (.dp (.s (bD s) (s.length) 1))])) [(.some ⟨[(.v (.int .i64 (a))), (.v (.int .i64 (b))), (.v (.int .i64 (c))), (.dp (.s (bD s) (s.length) 1))], 4, 38, true, .cells⟩)] := cOut_start Tryz.func92 rfl (A92_ hE B C C2 n m i k N a b c d e f x y z g h s t w v D X Y B2   (fun j => outK_ret (ends_ret (by kernel_rfl))) fun _ => undef)
theorem A92_all (hE : EnvOk E) (B : List DT) (C : List DT) (C2 : List DT) (n m i k N : Nat) (a b c d e f x y z g h : Int) (s : List UInt8) (t : List UInt8) (w v : Bool) (D X Y B2 : List AC) : COut E 0 [] 92 [(.e (.agg [(.v (.int .i64 (a))), (.v (.int .i64 (b))), (.v (.int .i64 (c))), (.dp (.s (bD s) (s.length) 1)), (.v (.int .i64 (x)))]))] (.e (.agg [(.v (.int .i64 (a))), (.v (.int .i64 (b))), (.v (.int .i64 (c))), (.dp (.s (bD s) (s.length) 1))])) [(.some ⟨[(.v (.int .i64 (a))), (.v (.int .i64 (b))), (.v (.int .i64 (c))), (.dp (.s (bD s) (s.length) 1))], 4, 38, true, .cells⟩)] := by
 exact A92__c hE B C C2 n m i k N a b c d e f x y z g h s t w v D X Y B2  
def A94__end (_B : List DT) (_C : List DT) (_C2 : List DT) (_n _m _i _k _N : Nat) (_a _b _c _d _e _f x _y _z _g _h : Int) (_s : List UInt8) (_t : List UInt8) (_w _v : Bool) (_D _X _Y _B2 : List AC) (j : Nat → Value) : St := ⟨[], [(.code .ret)], mkT j [(2, (iI (x)))] 5 0⟩
theorem A94_ (hE : EnvOk E) (B : List DT) (C : List DT) (C2 : List DT) (n m i k N : Nat) (a b c d e f x y z g h : Int) (s : List UInt8) (t : List UInt8) (w v : Bool) (D X Y B2 : List AC)   {Φ : Res → Prop} (ho : ∀ j, OutK E 0 0 (A94__end B C C2 n m i k N a b c d e f x y z g h s t w v D X Y B2 j) Φ) (j : Nat → Value) : OutK E 0 0 (s94 B C C2 n m i k N a b c d e f x y z g h s t w v D X Y B2 j) Φ :=
 outK_seg hE (R0_ok hE) [.run 4] [2] (s' := fun j => ⟨[(.some ⟨[(.v (.int .i64 (a))), (.v (.int .i64 (b))), (.v (.int .i64 (c))), (.dp (.s (bD s) (s.length) 1)), (.v (.int .i64 (x)))], 5, 170, true, .cells⟩)], [(.code .ret)], mkT j [(2, (iI (x)))] 5 0⟩) (ps := []) (fun j => by kernel_rfl) trivial
  fun j => outK_gc [] (by decide) (by kernel_rfl) (by kernel_rfl) (by kernel_rfl) (ho j)
theorem A94__c (hE : EnvOk E) (B : List DT) (C : List DT) (C2 : List DT) (n m i k N : Nat) (a b c d e f x y z g h : Int) (s : List UInt8) (t : List UInt8) (w v : Bool) (D X Y B2 : List AC)   : COut E 0 [] 94 [(.e (.agg [(.v (.int .i64 (a))), (.v (.int .i64 (b))), (.v (.int .i64 (c))), (.dp (.s (bD s) (s.length) 1)), (.v (.int .i64 (x)))]))] (iI (x)) [] := cOut_start Tryz.func94 rfl (A94_ hE B C C2 n m i k N a b c d e f x y z g h s t w v D X Y B2   (fun j => outK_ret (ends_ret (by kernel_rfl))) fun _ => undef)
theorem A94_all (hE : EnvOk E) (B : List DT) (C : List DT) (C2 : List DT) (n m i k N : Nat) (a b c d e f x y z g h : Int) (s : List UInt8) (t : List UInt8) (w v : Bool) (D X Y B2 : List AC) : COut E 0 [] 94 [(.e (.agg [(.v (.int .i64 (a))), (.v (.int .i64 (b))), (.v (.int .i64 (c))), (.dp (.s (bD s) (s.length) 1)), (.v (.int .i64 (x)))]))] (iI (x)) [] := by
 exact A94__c hE B C C2 n m i k N a b c d e f x y z g h s t w v D X Y B2  
def A95__end (_B : List DT) (_C : List DT) (_C2 : List DT) (_n _m _i _k _N : Nat) (_a _b _c _d _e _f x _y _z _g _h : Int) (_s : List UInt8) (_t : List UInt8) (_w _v : Bool) (_D _X _Y _B2 : List AC) (j : Nat → Value) : St := ⟨[], [(.code .ret)], mkT j [(2, (iI (A79_r0 x (Int.ofNat (nat_lit 0)) (Int.ofNat (nat_lit 15)))))] 5 0⟩
theorem A95_ (hE : EnvOk E) (B : List DT) (C : List DT) (C2 : List DT) (n m i k N : Nat) (a b c d e f x y z g h : Int) (s : List UInt8) (t : List UInt8) (w v : Bool) (D X Y B2 : List AC)   {Φ : Res → Prop} (ho : ∀ j, OutK E 0 0 (A95__end B C C2 n m i k N a b c d e f x y z g h s t w v D X Y B2 j) Φ) (j : Nat → Value) : OutK E 0 0 (s95 B C C2 n m i k N a b c d e f x y z g h s t w v D X Y B2 j) Φ :=
 outK_seg hE (R0_ok hE) [.run 3, (.ops [(1, (.c0 (iI (A79_r0 x (Int.ofNat (nat_lit 0)) (Int.ofNat (nat_lit 15))))))] [])] [2] (ps := [COut E 0 [] 79 [(iI (x)), (iI 0), (iI 15)] (iI (A79_r0 x (Int.ofNat (nat_lit 0)) (Int.ofNat (nat_lit 15)))) [], ([] : List Nat) = []]) (fun j => by kernel_rfl) ⟨(A79_all hE _ _ _), rfl, trivial⟩
  ho
theorem A95__c (hE : EnvOk E) (B : List DT) (C : List DT) (C2 : List DT) (n m i k N : Nat) (a b c d e f x y z g h : Int) (s : List UInt8) (t : List UInt8) (w v : Bool) (D X Y B2 : List AC)   : COut E 0 [] 95 [(iI (x))] (iI (A79_r0 x (Int.ofNat (nat_lit 0)) (Int.ofNat (nat_lit 15)))) [] := cOut_start Tryz.func95 rfl (A95_ hE B C C2 n m i k N a b c d e f x y z g h s t w v D X Y B2   (fun j => outK_ret (ends_ret (by kernel_rfl))) fun _ => undef)
theorem A95_all (hE : EnvOk E) (B : List DT) (C : List DT) (C2 : List DT) (n m i k N : Nat) (a b c d e f x y z g h : Int) (s : List UInt8) (t : List UInt8) (w v : Bool) (D X Y B2 : List AC) : COut E 0 [] 95 [(iI (x))] (iI (A79_r0 x (Int.ofNat (nat_lit 0)) (Int.ofNat (nat_lit 15)))) [] := by
 exact A95__c hE B C C2 n m i k N a b c d e f x y z g h s t w v D X Y B2  
def A38__end (_B : List DT) (_C : List DT) (_C2 : List DT) (_n _m _i _k _N : Nat) (_a _b _c _d _e _f x _y _z _g _h : Int) (_s : List UInt8) (_t : List UInt8) (_w _v : Bool) (_D _X _Y _B2 : List AC) (j : Nat → Value) : St := ⟨[], [(.code .ret)], mkT j [(2, (iI (A61_r0 x (Int.ofNat (nat_lit 0)) (Int.ofNat (nat_lit 15)))))] 5 0⟩
theorem A38_ (hE : EnvOk E) (B : List DT) (C : List DT) (C2 : List DT) (n m i k N : Nat) (a b c d e f x y z g h : Int) (s : List UInt8) (t : List UInt8) (w v : Bool) (D X Y B2 : List AC)   {Φ : Res → Prop} (ho : ∀ j, OutK E 0 0 (A38__end B C C2 n m i k N a b c d e f x y z g h s t w v D X Y B2 j) Φ) (j : Nat → Value) : OutK E 0 0 (s38 B C C2 n m i k N a b c d e f x y z g h s t w v D X Y B2 j) Φ :=
 outK_seg hE (R0_ok hE) [.run 3, (.ops [(1, (.c0 (iI (A61_r0 x (Int.ofNat (nat_lit 0)) (Int.ofNat (nat_lit 15))))))] [])] [2] (ps := [COut E 0 [] 61 [(iI (x)), (iI 0), (iI 15)] (iI (A61_r0 x (Int.ofNat (nat_lit 0)) (Int.ofNat (nat_lit 15)))) [], ([] : List Nat) = []]) (fun j => by kernel_rfl) ⟨(A61_all hE _ _ _), rfl, trivial⟩
  ho
theorem A38__c (hE : EnvOk E) (B : List DT) (C : List DT) (C2 : List DT) (n m i k N : Nat) (a b c d e f x y z g h : Int) (s : List UInt8) (t : List UInt8) (w v : Bool) (D X Y B2 : List AC)   : COut E 0 [] 38 [(iI (x))] (iI (A61_r0 x (Int.ofNat (nat_lit 0)) (Int.ofNat (nat_lit 15)))) [] := cOut_start Tryz.func38 rfl (A38_ hE B C C2 n m i k N a b c d e f x y z g h s t w v D X Y B2   (fun j => outK_ret (ends_ret (by kernel_rfl))) fun _ => undef)
theorem A38_all (hE : EnvOk E) (B : List DT) (C : List DT) (C2 : List DT) (n m i k N : Nat) (a b c d e f x y z g h : Int) (s : List UInt8) (t : List UInt8) (w v : Bool) (D X Y B2 : List AC) : COut E 0 [] 38 [(iI (x))] (iI (A61_r0 x (Int.ofNat (nat_lit 0)) (Int.ofNat (nat_lit 15)))) [] := by
 exact A38__c hE B C C2 n m i k N a b c d e f x y z g h s t w v D X Y B2  
theorem copyB (s : List UInt8) (hm : s.length ≤ 100000) (h : Heap) : CopyOk h 1 1 (.e (.one (.dp (.s (bD s) s.length 1)))) s.length ((bD s).map DT.ac) (decide (s.length = 0)) := by
 rcases s with _ | ⟨x, s⟩
 ·exact .inl ⟨rfl, rfl, rfl, _, _, rfl⟩
 ·refine .inr (.inl ⟨rfl, Nat.succ_pos _, by simp [small] at hm ⊢; omega, ?_, _, rfl, rfl, by simp [bD]⟩)
  simp [bD, List.all_map, DT.ac, AC.isOne]
theorem flat_bD (s : List UInt8) : FlatC ((bD s).map DT.ac) := by
 rw [bD_ac]; exact flat_u8c s
deriving instance DecidableEq for Fr
theorem Fr.eqI {x y : Fr} (h1 : x.a = y.a) (h2 : x.b = y.b) (h3 : x.c = y.c) (h4 : x.s = y.s) : x = y := by
 cases x; cases y; simp only at h1 h2 h3 h4; rw [h1, h2, h3, h4]
theorem K24 (hE : EnvOk E) (x y : Fr) : COut E 0 [] 24 [aFr x, aFr y] (iB (decide (x = y))) [] := by
 have h := A24_all hE [] [] [] 0 0 0 0 0 (x.a) (x.b) (x.c) (y.a) (y.b) (y.c) 0 0 0 0 0 (x.s) (y.s) false false [] [] [] []
 have e : A24_r0 [] [] [] 0 0 0 0 0 (x.a) (x.b) (x.c) (y.a) (y.b) (y.c) 0 0 0 0 0 (x.s) (y.s) false false [] [] [] [] = decide (x = y) := by
  unfold A24_r0
  rw [Bool.eq_iff_iff]
  constructor
  ·intro h
   by_cases h1 : x.a = y.a <;> by_cases h2 : x.b = y.b <;> by_cases h3 : x.c = y.c <;> simp [h1, h2, h3] at h
   exact decide_eq_true (Fr.eqI h1 h2 h3 h)
  ·intro h
   obtain rfl := of_decide_eq_true h
   simp
 rw [e] at h
 exact h
theorem K26 (hE : EnvOk E) (x : Fr) (hm : x.s.length ≤ 100000) : COut E 0 [] 26 [aFr x] (aFr x) [] := by
 have hc : COut E 0 [] 26 [aFr x] (.e (.agg [.v (.int .i64 x.a), .v (.int .i64 x.b), .v (.int .i64 x.c), .slc 1 0 x.s.length 1 x.s.length (decide (x.s.length = 0))])) [some ⟨[.v (.int .i64 x.a), .v (.int .i64 x.b), .v (.int .i64 x.c), .slc 1 0 x.s.length 1 x.s.length (decide (x.s.length = 0))], 4, 38, true, .cells⟩, some ⟨(bD x.s).map DT.ac, x.s.length, 5, decide (x.s.length = 0), .cells⟩] :=
  cOut_start Tryz.func26 rfl (p26 hE [] [] [] 0 0 0 0 0 (x.a) (x.b) (x.c) 0 0 0 0 0 0 0 0 (x.s) [] (decide (x.s.length = 0)) false [] ((bD x.s).map DT.ac) [] [] (copyB x.s hm _) (Nat.mul_one _) (flat_bD x.s) (fun j => outK_ret (ends_ret (by kernel_rfl))) fun _ => undef)
 exact cOut_clear (cOut_freeze 1 hc rfl (Nat.zero_le _) (ds := bD x.s) ⟨.inl rfl, .inl rfl, .inl rfl, .inr ⟨0, x.s.length, 1, x.s.length, _, bD x.s, rfl, rfl, tkAll _ _ (by rw [bD_len, Nat.mul_one])⟩, trivial⟩) rfl
theorem K81 (hE : EnvOk E) (s : List UInt8) (hm : s.length ≤ 100000) : COut E 0 [] 81 [.e (.one (.dp (.s (bD s) s.length 1)))] (.e (.one (.dp (.s (bD s) s.length 1)))) [] := by
 rcases s with _ | ⟨x, s⟩
 ·refine cOut_emp1 1 (fun cp => ?_) (fun a cp => ?_)
  ·exact cOut_nil1 (p := none) (c := 0) 1 (cOut_start Tryz.func81 rfl (p81v hE [] [] [] 0 0 0 0 0 0 0 0 0 0 0 0 0 0 0 0 [] [] false false [] [] [] [] cp (fun j => outK_ret (ends_ret (by kernel_rfl))) fun _ => undef))
  ·have hc : COut E 0 [] 81 [.e (.one (.v (.slice (some a) 0 cp)))] (.e (.one (.slc 0 0 0 1 0 true))) [some ⟨[], 0, 5, true, .cells⟩] := cOut_start Tryz.func81 rfl (p81w hE [] [] [] 0 0 0 0 0 0 0 0 0 0 0 0 0 0 0 0 [] [] false false [] [] [] [] cp a (fun j => outK_ret (ends_ret (by kernel_rfl))) fun _ => undef)
   exact cOut_clear (cOut_freeze 0 hc rfl (Nat.zero_le _) (ds := []) (.inr ⟨0, 0, 1, 0, true, [], rfl, rfl, rfl⟩)) rfl
 ·have hc : COut E 0 [] 81 [.e (.one (.dp (.s (bD (x :: s)) (x :: s).length 1)))] (.e (.one (.slc 0 0 (x :: s).length 1 (x :: s).length false))) [some ⟨(bD (x :: s)).map DT.ac, (x :: s).length, 5, false, .cells⟩] :=
   cOut_start Tryz.func81 rfl (p81 hE [] [] [] 0 0 0 0 0 0 0 0 0 0 0 0 0 0 0 0 (x :: s) [] (false) false [] ((bD (x :: s)).map DT.ac) [] [] (Nat.succ_pos _) (copyB (x :: s) hm _) (Nat.mul_one _) (flat_bD (x :: s)) (fun j => outK_ret (ends_ret (by kernel_rfl))) fun _ => undef)
  exact cOut_clear (cOut_freeze 0 hc rfl (Nat.zero_le _) (ds := bD (x :: s)) (.inr ⟨0, (x :: s).length, 1, (x :: s).length, _, bD (x :: s), rfl, rfl, tkAll _ _ (by rw [bD_len, Nat.mul_one])⟩)) rfl
def sendN (n : Nat) (x y : Int) : Int := if (n : Int) - x < y then (n : Int) - x else y
theorem K136 (hE : EnvOk E) (C : List DT) (n : Nat) (x y : Int) (h0 : 0 ≤ x) (h1 : x ≤ n) (hm : n ≤ 4000000) : COut E 0 [] 136 [.e (.agg [.dp (.s C n 4), .v (.int .i64 x), .v (.int .i64 y)])] (iI (sendN n x y)) [] :=
 cOut_start Tryz.func136 rfl (p136 hE [] (C) [] (n) 0 0 0 0 0 0 0 0 0 0 (x) (y) (sendN n x y) 0 0 [] [] false false [] [] [] [] (by rw [wrap_id (by omega) (by omega)]; rfl) (fun j => outK_ret (ends_ret (by kernel_rfl))) fun _ => undef)
theorem K92 (hE : EnvOk E) (f : Fr) (x : Int) : COut E 0 [] 92 [.e (.agg [.v (.int .i64 f.a), .v (.int .i64 f.b), .v (.int .i64 f.c), .dp (.s (bD f.s) f.s.length 1), .v (.int .i64 x)])] (aFr f) [] :=
 cOut_clear (A92_all hE [] [] [] 0 0 0 0 0 (f.a) (f.b) (f.c) 0 0 0 (x) 0 0 0 0 (f.s) [] false false [] [] [] []) rfl
theorem K94 (hE : EnvOk E) (f : Fr) (x : Int) : COut E 0 [] 94 [.e (.agg [.v (.int .i64 f.a), .v (.int .i64 f.b), .v (.int .i64 f.c), .dp (.s (bD f.s) f.s.length 1), .v (.int .i64 x)])] (iI x) [] :=
 A94_all hE [] [] [] 0 0 0 0 0 (f.a) (f.b) (f.c) 0 0 0 (x) 0 0 0 0 (f.s) [] false false [] [] [] []
end
end Go.Proofs.YtnhabbponbpmfaaGreatDoor
end
