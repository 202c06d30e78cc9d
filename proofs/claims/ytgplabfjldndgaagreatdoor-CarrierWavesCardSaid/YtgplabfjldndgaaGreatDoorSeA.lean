/-
  Part of the proof: SeA.
-/
import Derived.Test.YtgplabfjldndgaaGreatDoorSeH
open Go Go.Ev
namespace Go.Proofs.YtgplabfjldndgaaGreatDoor
noncomputable section
set_option maxRecDepth 100000
def st104 (C : List AC) (N ty o n cap : Nat) (fl ex : Bool) (_ : Nat → Value) : St := startK Tryz.f81 [some ⟨C, N, ty, fl, .cells⟩] [.e (.one (.slc 0 o n 1 cap ex))]
def h104 (C : List AC) (N ty o n cap : Nat) (fl ex : Bool) (k : Nat) (j : Nat → Value) : St := ⟨[(.some ⟨(C), (N), (ty), (fl), .cells⟩)], [(.code (atC [1, 0, 1, 0, 0] (bodyOf Tryz.f81))), (.inLoop (atC [1, 0, 1, 0, 0] (bodyOf Tryz.f81))), (.inBlock 0), (.code (atC [1, 1] (bodyOf Tryz.f81)))], mkT j [(0, (.e (.one (.slc 0 (o) (n) 1 (cap) (ex))))), (3, (iI k))] 19 0⟩
def h104' (C : List AC) (N ty o n cap : Nat) (fl ex : Bool) (k : Nat) (_x : Int) (j : Nat → Value) : St := h104 C N ty o n cap fl ex k j
def c104a_end (C : List AC) (N : Nat) (ty : Nat) (o : Nat) (n : Nat) (cap : Nat) (fl : Bool) (ex : Bool) (j : Nat → Value) : St := ⟨[(.some ⟨(C), (N), (ty), (fl), .cells⟩)], [(.code (atC [1, 0, 1, 0, 0] (bodyOf Tryz.f81))), (.inLoop (atC [1, 0, 1, 0, 0] (bodyOf Tryz.f81))), (.inBlock 0), (.code (atC [1, 1] (bodyOf Tryz.f81)))], mkT j [(0, (.e (.one (.slc 0 (o) (n) 1 (cap) (ex))))), (3, (iI 0))] 19 0⟩
theorem c104a (hE : EnvOk E) (C : List AC) (N : Nat) (ty : Nat) (o : Nat) (n : Nat) (cap : Nat) (fl : Bool) (ex : Bool)  {Φ : Res → Prop} (ho : ∀ j, OutK E 1 1 (c104a_end C N ty o n cap fl ex j) Φ) (j : Nat → Value) : OutK E 1 1 (st104 C N ty o n cap fl ex j) Φ :=
  outK_seg hE (Go.Proofs.YtgplabfjldndgaaGreatDoor.R0_ok hE) [.run 7] [0, 3] (s' := fun j => ⟨[(.some ⟨(C), (N), (ty), (fl), .cells⟩)], [(.code (atC [1, 0, 1, 0, 0] (bodyOf Tryz.f81))), (.inLoop (atC [1, 0, 1, 0, 0] (bodyOf Tryz.f81))), (.inBlock 0), (.code (atC [1, 1] (bodyOf Tryz.f81)))], mkT j [(0, (.e (.one (.slc 0 (o) (n) 1 (cap) (ex))))), (3, (iI 0))] 19 0⟩) (ps := []) (fun j => by kernel_rfl) trivial
    ho
def c104e_end (C : List AC) (N : Nat) (ty : Nat) (_o : Nat) (_n : Nat) (_cap : Nat) (fl : Bool) (_ex : Bool) (_k : Nat) (j : Nat → Value) : St := ⟨[(.some ⟨(C), (N), (ty), (fl), .cells⟩)], [(.code .ret)], mkT j [(2, (iI 0))] 19 0⟩
theorem c104e (hE : EnvOk E) (C : List AC) (N : Nat) (ty : Nat) (o : Nat) (n : Nat) (cap : Nat) (fl : Bool) (ex : Bool) (k : Nat) (h0 : decide (Int.ofNat k < ↑n) = false) {Φ : Res → Prop} (ho : ∀ j, OutK E 1 1 (c104e_end C N ty o n cap fl ex k j) Φ) (j : Nat → Value) : OutK E 1 1 (h104 C N ty o n cap fl ex k j) Φ :=
  outK_seg hE (Go.Proofs.YtgplabfjldndgaaGreatDoor.R0_ok hE) [.run 3, (.cond false), .run 3] [2] (s' := fun j => ⟨[(.some ⟨(C), (N), (ty), (fl), .cells⟩)], [(.code .ret)], mkT j [(2, (iI 0))] 19 0⟩) (ps := [decide (Int.ofNat k < ↑n) = false]) (fun j => by kernel_rfl) ⟨h0, trivial⟩
    ho
def c104f_end (C : List AC) (N : Nat) (ty : Nat) (o : Nat) (n : Nat) (cap : Nat) (fl : Bool) (ex : Bool) (k : Nat) (_x : Int) (j : Nat → Value) : St := ⟨[(.some ⟨(C), (N), (ty), (fl), .cells⟩)], [(.code (atC [1, 0, 1, 0, 0] (bodyOf Tryz.f81))), (.inLoop (atC [1, 0, 1, 0, 0] (bodyOf Tryz.f81))), (.inBlock 0), (.code (atC [1, 1] (bodyOf Tryz.f81)))], mkT j [(0, (.e (.one (.slc 0 (o) (n) 1 (cap) (ex))))), (3, (iI (Int.ofNat (k + 1))))] 19 0⟩
theorem c104f (hE : EnvOk E) (C : List AC) (N : Nat) (ty : Nat) (o : Nat) (n : Nat) (cap : Nat) (fl : Bool) (ex : Bool) (k : Nat) (x : Int) (h0 : decide (Int.ofNat k < ↑n) = true) (h1 : 0 ≤ Int.ofNat k ∧ Int.ofNat k < ↑n) (h2 : o + (Int.ofNat k).toNat * 1 = o + k) (h3 : getL C (o + k) = some (AC.v (Value.int IntKind.i64 x))) (h4 : (x != 0) = false) (h5 : AV.of (Value.int IntKind.i64 (wrapF IntKind.i64 (Int.ofNat k + 1))) = iI ↑(k + 1)) {Φ : Res → Prop} (ho : ∀ j, OutK E 1 1 (c104f_end C N ty o n cap fl ex k x j) Φ) (j : Nat → Value) : OutK E 1 1 (h104' C N ty o n cap fl ex k x j) Φ :=
  outK_seg hE (Go.Proofs.YtgplabfjldndgaaGreatDoor.R0_ok hE) [.run 3, (.cond true), .run 4, (.ops [(2, (.ix (o + k))), (3, (.ld (.v (.int .i64 (x)))))] []), (.cond false), .run 2, (.ops [(1, (.rn (iI (Int.ofNat (k + 1)))))] []), .run 1] [0, 3] (s' := fun j => ⟨[(.some ⟨(C), (N), (ty), (fl), .cells⟩)], [(.code (atC [1, 0, 1, 0, 0] (bodyOf Tryz.f81))), (.inLoop (atC [1, 0, 1, 0, 0] (bodyOf Tryz.f81))), (.inBlock 0), (.code (atC [1, 1] (bodyOf Tryz.f81)))], mkT j [(0, (.e (.one (.slc 0 (o) (n) 1 (cap) (ex))))), (3, (iI (Int.ofNat (k + 1))))] 19 0⟩) (ps := [decide (Int.ofNat k < ↑n) = true, 0 ≤ Int.ofNat k ∧ Int.ofNat k < ↑n, o + (Int.ofNat k).toNat * 1 = o + k, getL C (o + k) = some (AC.v (Value.int IntKind.i64 x)), (x != 0) = false, AV.of (Value.int IntKind.i64 (wrapF IntKind.i64 (Int.ofNat k + 1))) = iI ↑(k + 1)]) (fun j => by kernel_rfl) ⟨h0, h1, h2, h3, h4, h5, trivial⟩
    ho
def c104t_end (C : List AC) (N : Nat) (ty : Nat) (_o : Nat) (_n : Nat) (_cap : Nat) (fl : Bool) (_ex : Bool) (_k : Nat) (x : Int) (j : Nat → Value) : St := ⟨[(.some ⟨(C), (N), (ty), (fl), .cells⟩)], [(.code .ret), (.inBlock 1), (.code (atC [1, 0, 1, 0, 0, 1, 1] (bodyOf Tryz.f81))), (.inLoop (atC [1, 0, 1, 0, 0] (bodyOf Tryz.f81))), (.inBlock 0), (.code (atC [1, 1] (bodyOf Tryz.f81)))], mkT j [(2, (iI (x)))] 19 0⟩
theorem c104t (hE : EnvOk E) (C : List AC) (N : Nat) (ty : Nat) (o : Nat) (n : Nat) (cap : Nat) (fl : Bool) (ex : Bool) (k : Nat) (x : Int) (h0 : decide (Int.ofNat k < ↑n) = true) (h1 : 0 ≤ Int.ofNat k ∧ Int.ofNat k < ↑n) (h2 : o + (Int.ofNat k).toNat * 1 = o + k) (h3 : getL C (o + k) = some (AC.v (Value.int IntKind.i64 x))) (h4 : (x != 0) = true) (h5 : 0 ≤ Int.ofNat k ∧ Int.ofNat k < ↑n) (h6 : o + (Int.ofNat k).toNat * 1 = o + k) (h7 : getL C (o + k) = some (AC.v (Value.int IntKind.i64 x))) {Φ : Res → Prop} (ho : ∀ j, OutK E 1 1 (c104t_end C N ty o n cap fl ex k x j) Φ) (j : Nat → Value) : OutK E 1 1 (h104' C N ty o n cap fl ex k x j) Φ :=
  outK_seg hE (Go.Proofs.YtgplabfjldndgaaGreatDoor.R0_ok hE) [.run 3, (.cond true), .run 4, (.ops [(2, (.ix (o + k))), (3, (.ld (.v (.int .i64 (x)))))] []), (.cond true), .run 1, (.ops [(2, (.ix (o + k))), (3, (.ld (.v (.int .i64 (x)))))] [])] [2] (s' := fun j => ⟨[(.some ⟨(C), (N), (ty), (fl), .cells⟩)], [(.code .ret), (.inBlock 1), (.code (atC [1, 0, 1, 0, 0, 1, 1] (bodyOf Tryz.f81))), (.inLoop (atC [1, 0, 1, 0, 0] (bodyOf Tryz.f81))), (.inBlock 0), (.code (atC [1, 1] (bodyOf Tryz.f81)))], mkT j [(2, (iI (x)))] 19 0⟩) (ps := [decide (Int.ofNat k < ↑n) = true, 0 ≤ Int.ofNat k ∧ Int.ofNat k < ↑n, o + (Int.ofNat k).toNat * 1 = o + k, getL C (o + k) = some (AC.v (Value.int IntKind.i64 x)), (x != 0) = true, 0 ≤ Int.ofNat k ∧ Int.ofNat k < ↑n, o + (Int.ofNat k).toNat * 1 = o + k, getL C (o + k) = some (AC.v (Value.int IntKind.i64 x))]) (fun j => by kernel_rfl) ⟨h0, h1, h2, h3, h4, h5, h6, h7, trivial⟩
    ho
def firstI : List Int → Int
  | [] => 0
  | x :: l => if x = 0 then firstI l else x

theorem l104 (hE : EnvOk E) {C : List AC} {N ty o n cap : Nat} {fl ex : Bool} (xs : List Int) (hn : xs.length = n) (hm : n ≤ 4000000) (hC : ∀ k x, xs[k]? = some x → getL C (o + k) = some (.v (.int .i64 x))) :
    ∀ m k, m + k = n → ∀ j, OutK E 1 1 (h104 C N ty o n cap fl ex k j) (Go.Ev.Ends E Tryz.f81 (iI (firstI (xs.drop k))) [some ⟨C, N, ty, fl, .cells⟩])
  | 0, k, hk, j => by
    have e : xs.drop k = [] := List.drop_eq_nil_of_le (by omega)
    rw [e]
    refine c104e hE _ _ _ _ _ _ _ _ _ (decide_eq_false (by simp only [Int.ofNat_eq_natCast]; omega)) (fun j => outK_ret (ends_ret ?_)) j
    kernel_rfl
  | m + 1, k, hk, j => by
    have hlt : k < xs.length := by omega
    have hx : xs[k]? = some xs[k] := List.getElem?_eq_getElem hlt
    have e : xs.drop k = xs[k] :: xs.drop (k + 1) := List.drop_eq_getElem_cons hlt
    rw [e]
    generalize xs[k] = x at hx e
    have hd : decide (Int.ofNat k < ↑n) = true := decide_eq_true (by simp only [Int.ofNat_eq_natCast]; omega)
    have hb : 0 ≤ Int.ofNat k ∧ Int.ofNat k < ↑n := by simp only [Int.ofNat_eq_natCast]; omega
    have ho : o + (Int.ofNat k).toNat * 1 = o + k := by simp
    by_cases h0 : x = 0
    · subst h0
      exact c104f hE _ _ _ _ _ _ _ _ _ 0 hd hb ho (hC k 0 hx) rfl (iI_eq (by rw [wrap_id (by simp only [Int.ofNat_eq_natCast]; omega) (by simp only [Int.ofNat_eq_natCast]; omega)]; simp)) (l104 hE xs hn hm hC m (k + 1) (by omega)) j
    · have e1 : firstI (x :: xs.drop (k + 1)) = x := by simp [firstI, h0]
      rw [e1]
      refine c104t hE _ _ _ _ _ _ _ _ _ x hd hb ho (hC k x hx) (by simpa using h0) hb ho (hC k x hx) (fun j => outK_ret (ends_ret ?_)) j
      kernel_rfl

/-- ref.First -/
theorem k104 (hE : EnvOk E) {C : List AC} {N ty o n cap : Nat} {fl ex : Bool} (xs : List Int) (hn : xs.length = n) (hm : n ≤ 4000000) (hC : ∀ k x, xs[k]? = some x → getL C (o + k) = some (.v (.int .i64 x))) :
    COut E 1 [some ⟨C, N, ty, fl, .cells⟩] 81 [.e (.one (.slc 0 o n 1 cap ex))] (iI (firstI xs)) [some ⟨C, N, ty, fl, .cells⟩] :=
  cOut_start Tryz.func81 rfl (c104a hE _ _ _ _ _ _ _ _ (l104 hE xs hn hm hC n 0 (by omega)) fun _ => undef)
end
end Go.Proofs.YtgplabfjldndgaaGreatDoor
