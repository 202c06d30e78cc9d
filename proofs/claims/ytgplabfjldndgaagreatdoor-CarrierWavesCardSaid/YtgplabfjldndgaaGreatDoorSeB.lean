/-
  Part of the proof: SeB.
-/
import Derived.Test.YtgplabfjldndgaaGreatDoorSeA
open Go Go.Ev
namespace Go.Proofs.YtgplabfjldndgaaGreatDoor
noncomputable section
set_option maxRecDepth 100000
--DEFS
def st60 (b : Bool) (e : Int) (_j : Nat → Value) : St := startK Tryz.f82 [] [iB b, iI e]
def st107 (b : Bool) (e : Int) (_j : Nat → Value) : St := startK Tryz.f85 [] [iB b, iI e]
def st17 (C : List AC) (N ty o n cap : Nat) (fl ex : Bool) (_r : Int) (_j : Nat → Value) : St := startK Tryz.f15 [some ⟨C, N, ty, fl, .cells⟩] [.e (.one (.slc 0 o n 1 cap ex))]
def st102 (C : List AC) (N ty o n cap : Nat) (fl ex : Bool) (_j : Nat → Value) : St := startK Tryz.f79 [some ⟨C, N, ty, fl, .cells⟩] [.e (.one (.slc 0 o n 1 cap ex))]
def h102 (C : List AC) (N ty o n cap : Nat) (fl ex : Bool) (k : Nat) (j : Nat → Value) : St := ⟨[(.some ⟨C, N, ty, fl, .cells⟩)], [(.code (atC [1, 0, 1, 0, 0] (bodyOf Tryz.f79))), (.inLoop (atC [1, 0, 1, 0, 0] (bodyOf Tryz.f79))), (.inBlock 0), (.code (atC [1, 1] (bodyOf Tryz.f79)))], mkT j [(5, (.e (.one (.slc 0 o n 1 cap ex)))), (6, iI n), (7, iI k)] 15 0⟩
def h102' (C : List AC) (N ty o n cap : Nat) (fl ex : Bool) (k : Nat) (_x : Int) (j : Nat → Value) : St := h102 C N ty o n cap fl ex k j
def st55e (p : Option Addr) (c : Nat) (_j : Nat → Value) : St := startK Tryz.f54 [] [.e (.one (.v (.slice p 0 c)))]
def st55 (C : List AC) (N ty o n cap : Nat) (fl ex : Bool) (_l : List AC) (_j : Nat → Value) : St := startK Tryz.f54 [some ⟨C, N, ty, fl, .cells⟩] [.e (.one (.slc 0 o n 1 cap ex))]
--END
def c60t_end (_b : Bool) (e : Int) (j : Nat → Value) : St := ⟨[], [(.code .ret), (.code (atC [1, 1] (bodyOf Tryz.f82)))], mkT j [(4, (iI (e)))] 7 0⟩
theorem c60t (hE : EnvOk E) (b : Bool) (e : Int) (h0 : b = true) {Φ : Res → Prop} (ho : ∀ j, OutK E 0 0 (c60t_end b e j) Φ) (j : Nat → Value) : OutK E 0 0 (st60 b e j) Φ :=
  outK_seg hE (Go.Proofs.YtgplabfjldndgaaGreatDoor.R0_ok hE) [.run 5, (.cond true), .run 2] [4] (s' := fun j => ⟨[], [(.code .ret), (.code (atC [1, 1] (bodyOf Tryz.f82)))], mkT j [(4, (iI (e)))] 7 0⟩) (ps := [b = true]) (fun j => by kernel_rfl) ⟨h0, trivial⟩
    ho
def c60f_end (_b : Bool) (_e : Int) (j : Nat → Value) : St := ⟨[], [(.code .ret)], mkT j [(4, (iI 0))] 7 0⟩
theorem c60f (hE : EnvOk E) (b : Bool) (e : Int) (h0 : b = false) {Φ : Res → Prop} (ho : ∀ j, OutK E 0 0 (c60f_end b e j) Φ) (j : Nat → Value) : OutK E 0 0 (st60 b e j) Φ :=
  outK_seg hE (Go.Proofs.YtgplabfjldndgaaGreatDoor.R0_ok hE) [.run 5, (.cond false), .run 3] [4] (s' := fun j => ⟨[], [(.code .ret)], mkT j [(4, (iI 0))] 7 0⟩) (ps := [b = false]) (fun j => by kernel_rfl) ⟨h0, trivial⟩
    ho
def c107t_end (_b : Bool) (e : Int) (j : Nat → Value) : St := ⟨[], [(.code .ret), (.code (atC [1, 1] (bodyOf Tryz.f85)))], mkT j [(4, (iI (e)))] 7 0⟩
theorem c107t (hE : EnvOk E) (b : Bool) (e : Int) (h0 : b = true) {Φ : Res → Prop} (ho : ∀ j, OutK E 0 0 (c107t_end b e j) Φ) (j : Nat → Value) : OutK E 0 0 (st107 b e j) Φ :=
  outK_seg hE (Go.Proofs.YtgplabfjldndgaaGreatDoor.R0_ok hE) [.run 5, (.cond true), .run 2] [4] (s' := fun j => ⟨[], [(.code .ret), (.code (atC [1, 1] (bodyOf Tryz.f85)))], mkT j [(4, (iI (e)))] 7 0⟩) (ps := [b = true]) (fun j => by kernel_rfl) ⟨h0, trivial⟩
    ho
def c107f_end (_b : Bool) (_e : Int) (j : Nat → Value) : St := ⟨[], [(.code .ret)], mkT j [(4, (iI 0))] 7 0⟩
theorem c107f (hE : EnvOk E) (b : Bool) (e : Int) (h0 : b = false) {Φ : Res → Prop} (ho : ∀ j, OutK E 0 0 (c107f_end b e j) Φ) (j : Nat → Value) : OutK E 0 0 (st107 b e j) Φ :=
  outK_seg hE (Go.Proofs.YtgplabfjldndgaaGreatDoor.R0_ok hE) [.run 5, (.cond false), .run 3] [4] (s' := fun j => ⟨[], [(.code .ret)], mkT j [(4, (iI 0))] 7 0⟩) (ps := [b = false]) (fun j => by kernel_rfl) ⟨h0, trivial⟩
    ho
def c17_end (C : List AC) (N : Nat) (ty : Nat) (_o : Nat) (_n : Nat) (_cap : Nat) (fl : Bool) (_ex : Bool) (r : Int) (j : Nat → Value) : St := ⟨[(.some ⟨(C), (N), (ty), (fl), .cells⟩)], [(.code .ret)], mkT j [(2, (iI (r)))] 5 0⟩
theorem c17 (hE : EnvOk E) (C : List AC) (N : Nat) (ty : Nat) (o : Nat) (n : Nat) (cap : Nat) (fl : Bool) (ex : Bool) (r : Int) (h0 : COut E 1 [(.some ⟨(C), (N), (ty), (fl), .cells⟩)] 81 [(.e (.one (.slc 0 (o) (n) 1 (cap) (ex))))] (iI (r)) [(.some ⟨(C), (N), (ty), (fl), .cells⟩)]) {Φ : Res → Prop} (ho : ∀ j, OutK E 1 1 (c17_end C N ty o n cap fl ex r j) Φ) (j : Nat → Value) : OutK E 1 1 (st17 C N ty o n cap fl ex r j) Φ :=
  outK_seg hE (Go.Proofs.YtgplabfjldndgaaGreatDoor.R0_ok hE) [.run 3, (.ops [(1, (.cw (iI (r)) [(.some ⟨(C), (N), (ty), (fl), .cells⟩)]))] [])] [2] (s' := fun j => ⟨[(.some ⟨(C), (N), (ty), (fl), .cells⟩)], [(.code .ret)], mkT j [(2, (iI (r)))] 5 0⟩) (ps := [COut E 1 [(.some ⟨(C), (N), (ty), (fl), .cells⟩)] 81 [(.e (.one (.slc 0 (o) (n) 1 (cap) (ex))))] (iI (r)) [(.some ⟨(C), (N), (ty), (fl), .cells⟩)]]) (fun j => by kernel_rfl) ⟨h0, trivial⟩
    ho
def c102a_end (C : List AC) (N : Nat) (ty : Nat) (o : Nat) (n : Nat) (cap : Nat) (fl : Bool) (ex : Bool) (j : Nat → Value) : St := ⟨[(.some ⟨(C), (N), (ty), (fl), .cells⟩)], [(.code (atC [1, 0, 1, 0, 0] (bodyOf Tryz.f79))), (.inLoop (atC [1, 0, 1, 0, 0] (bodyOf Tryz.f79))), (.inBlock 0), (.code (atC [1, 1] (bodyOf Tryz.f79)))], mkT j [(5, (.e (.one (.slc 0 (o) (n) 1 (cap) (ex))))), (6, (iI (Int.ofNat n))), (7, (iI 0))] 15 0⟩
theorem c102a (hE : EnvOk E) (C : List AC) (N : Nat) (ty : Nat) (o : Nat) (n : Nat) (cap : Nat) (fl : Bool) (ex : Bool)  {Φ : Res → Prop} (ho : ∀ j, OutK E 1 1 (c102a_end C N ty o n cap fl ex j) Φ) (j : Nat → Value) : OutK E 1 1 (st102 C N ty o n cap fl ex j) Φ :=
  outK_seg hE (Go.Proofs.YtgplabfjldndgaaGreatDoor.R0_ok hE) [.run 7] [5, 6, 7] (s' := fun j => ⟨[(.some ⟨(C), (N), (ty), (fl), .cells⟩)], [(.code (atC [1, 0, 1, 0, 0] (bodyOf Tryz.f79))), (.inLoop (atC [1, 0, 1, 0, 0] (bodyOf Tryz.f79))), (.inBlock 0), (.code (atC [1, 1] (bodyOf Tryz.f79)))], mkT j [(5, (.e (.one (.slc 0 (o) (n) 1 (cap) (ex))))), (6, (iI (Int.ofNat n))), (7, (iI 0))] 15 0⟩) (ps := []) (fun j => by kernel_rfl) trivial
    ho
def c102e_end (C : List AC) (N : Nat) (ty : Nat) (_o : Nat) (_n : Nat) (_cap : Nat) (fl : Bool) (_ex : Bool) (_k : Nat) (j : Nat → Value) : St := ⟨[(.some ⟨(C), (N), (ty), (fl), .cells⟩)], [(.code .ret)], mkT j [(2, (iI 0))] 15 0⟩
theorem c102e (hE : EnvOk E) (C : List AC) (N : Nat) (ty : Nat) (o : Nat) (n : Nat) (cap : Nat) (fl : Bool) (ex : Bool) (k : Nat) (h0 : decide (Int.ofNat k < Int.ofNat n) = false) {Φ : Res → Prop} (ho : ∀ j, OutK E 1 1 (c102e_end C N ty o n cap fl ex k j) Φ) (j : Nat → Value) : OutK E 1 1 (h102 C N ty o n cap fl ex k j) Φ :=
  outK_seg hE (Go.Proofs.YtgplabfjldndgaaGreatDoor.R0_ok hE) [.run 3, (.cond false), .run 3] [2] (s' := fun j => ⟨[(.some ⟨(C), (N), (ty), (fl), .cells⟩)], [(.code .ret)], mkT j [(2, (iI 0))] 15 0⟩) (ps := [decide (Int.ofNat k < Int.ofNat n) = false]) (fun j => by kernel_rfl) ⟨h0, trivial⟩
    ho
def c102f_end (C : List AC) (N : Nat) (ty : Nat) (o : Nat) (n : Nat) (cap : Nat) (fl : Bool) (ex : Bool) (k : Nat) (_x : Int) (j : Nat → Value) : St := ⟨[(.some ⟨(C), (N), (ty), (fl), .cells⟩)], [(.code (atC [1, 0, 1, 0, 0] (bodyOf Tryz.f79))), (.inLoop (atC [1, 0, 1, 0, 0] (bodyOf Tryz.f79))), (.inBlock 0), (.code (atC [1, 1] (bodyOf Tryz.f79)))], mkT j [(5, (.e (.one (.slc 0 (o) (n) 1 (cap) (ex))))), (6, (iI (Int.ofNat n))), (7, (iI (Int.ofNat (k + 1))))] 15 0⟩
theorem c102f (hE : EnvOk E) (C : List AC) (N : Nat) (ty : Nat) (o : Nat) (n : Nat) (cap : Nat) (fl : Bool) (ex : Bool) (k : Nat) (x : Int) (h0 : decide (Int.ofNat k < Int.ofNat n) = true) (h1 : 0 ≤ Int.ofNat k ∧ Int.ofNat k < ↑n) (h2 : o + (Int.ofNat k).toNat * 1 = o + k) (h3 : (getL C (o + k) : Option AC) = (.some (.v (.int .i64 (x))))) (h4 : (x != 0) = false) (h5 : ((iI (wrapF IntKind.i64 (Int.ofNat k + 1))) : AV) = (iI (Int.ofNat (k + 1)))) {Φ : Res → Prop} (ho : ∀ j, OutK E 1 1 (c102f_end C N ty o n cap fl ex k x j) Φ) (j : Nat → Value) : OutK E 1 1 (h102' C N ty o n cap fl ex k x j) Φ :=
  outK_seg hE (Go.Proofs.YtgplabfjldndgaaGreatDoor.R0_ok hE) [.run 3, (.cond true), .run 4, (.ops [(0, (.ix (o + k))), (1, (.ld (.v (.int .i64 (x)))))] []), .run 2, (.cond false), .run 2, (.ops [(0, (.rn (iI (Int.ofNat (k + 1)))))] []), .run 1] [5, 6, 7] (s' := fun j => ⟨[(.some ⟨(C), (N), (ty), (fl), .cells⟩)], [(.code (atC [1, 0, 1, 0, 0] (bodyOf Tryz.f79))), (.inLoop (atC [1, 0, 1, 0, 0] (bodyOf Tryz.f79))), (.inBlock 0), (.code (atC [1, 1] (bodyOf Tryz.f79)))], mkT j [(5, (.e (.one (.slc 0 (o) (n) 1 (cap) (ex))))), (6, (iI (Int.ofNat n))), (7, (iI (Int.ofNat (k + 1))))] 15 0⟩) (ps := [decide (Int.ofNat k < Int.ofNat n) = true, 0 ≤ Int.ofNat k ∧ Int.ofNat k < ↑n, o + (Int.ofNat k).toNat * 1 = o + k, (getL C (o + k) : Option AC) = (.some (.v (.int .i64 (x)))), (x != 0) = false, ((iI (wrapF IntKind.i64 (Int.ofNat k + 1))) : AV) = (iI (Int.ofNat (k + 1)))]) (fun j => by kernel_rfl) ⟨h0, h1, h2, h3, h4, h5, trivial⟩
    ho
def c102t_end (C : List AC) (N : Nat) (ty : Nat) (_o : Nat) (_n : Nat) (_cap : Nat) (fl : Bool) (_ex : Bool) (_k : Nat) (x : Int) (j : Nat → Value) : St := ⟨[(.some ⟨(C), (N), (ty), (fl), .cells⟩)], [(.code .ret), (.inBlock 1), (.code (atC [1, 0, 1, 0, 0, 1, 1, 1] (bodyOf Tryz.f79))), (.inLoop (atC [1, 0, 1, 0, 0] (bodyOf Tryz.f79))), (.inBlock 0), (.code (atC [1, 1] (bodyOf Tryz.f79)))], mkT j [(2, (iI (x)))] 15 0⟩
theorem c102t (hE : EnvOk E) (C : List AC) (N : Nat) (ty : Nat) (o : Nat) (n : Nat) (cap : Nat) (fl : Bool) (ex : Bool) (k : Nat) (x : Int) (h0 : decide (Int.ofNat k < Int.ofNat n) = true) (h1 : 0 ≤ Int.ofNat k ∧ Int.ofNat k < ↑n) (h2 : o + (Int.ofNat k).toNat * 1 = o + k) (h3 : (getL C (o + k) : Option AC) = (.some (.v (.int .i64 (x))))) (h4 : (x != 0) = true) {Φ : Res → Prop} (ho : ∀ j, OutK E 1 1 (c102t_end C N ty o n cap fl ex k x j) Φ) (j : Nat → Value) : OutK E 1 1 (h102' C N ty o n cap fl ex k x j) Φ :=
  outK_seg hE (Go.Proofs.YtgplabfjldndgaaGreatDoor.R0_ok hE) [.run 3, (.cond true), .run 4, (.ops [(0, (.ix (o + k))), (1, (.ld (.v (.int .i64 (x)))))] []), .run 2, (.cond true), .run 2] [2] (s' := fun j => ⟨[(.some ⟨(C), (N), (ty), (fl), .cells⟩)], [(.code .ret), (.inBlock 1), (.code (atC [1, 0, 1, 0, 0, 1, 1, 1] (bodyOf Tryz.f79))), (.inLoop (atC [1, 0, 1, 0, 0] (bodyOf Tryz.f79))), (.inBlock 0), (.code (atC [1, 1] (bodyOf Tryz.f79)))], mkT j [(2, (iI (x)))] 15 0⟩) (ps := [decide (Int.ofNat k < Int.ofNat n) = true, 0 ≤ Int.ofNat k ∧ Int.ofNat k < ↑n, o + (Int.ofNat k).toNat * 1 = o + k, (getL C (o + k) : Option AC) = (.some (.v (.int .i64 (x)))), (x != 0) = true]) (fun j => by kernel_rfl) ⟨h0, h1, h2, h3, h4, trivial⟩
    ho
def c55e_end (_p : Option Addr) (_c : Nat) (j : Nat → Value) : St := ⟨[(.some ⟨[], 0, 5, true, .cells⟩)], [(.code .ret)], mkT j [(2, (.e (.one (.slc 0 0 0 1 0 true))))] 6 0⟩
theorem c55e (hE : EnvOk E) (p : Option Addr) (c : Nat)  {Φ : Res → Prop} (ho : ∀ j, OutK E 0 0 (c55e_end p c j) Φ) (j : Nat → Value) : OutK E 0 0 (st55e p c j) Φ :=
  outK_seg hE (Go.Proofs.YtgplabfjldndgaaGreatDoor.R0_ok hE) [.run 3, (.ops [(2, .apz)] [])] [2] (s' := fun j => ⟨[(.some ⟨[], 0, 5, true, .cells⟩)], [(.code .ret)], mkT j [(2, (.e (.one (.slc 0 0 0 1 0 true))))] 6 0⟩) (ps := []) (fun j => by kernel_rfl) trivial
    ho
def c55_end (C : List AC) (N : Nat) (ty : Nat) (_o : Nat) (n : Nat) (_cap : Nat) (fl : Bool) (_ex : Bool) (l : List AC) (j : Nat → Value) : St := ⟨[(.some ⟨(C), (N), (ty), (fl), .cells⟩), (.some ⟨(l), (n), 5, false, .cells⟩)], [(.code .ret)], mkT j [(2, (.e (.one (.slc 1 0 (n) 1 (n) false))))] 6 0⟩
theorem c55 (hE : EnvOk E) (C : List AC) (N : Nat) (ty : Nat) (o : Nat) (n : Nat) (cap : Nat) (fl : Bool) (ex : Bool) (l : List AC) (h0 : 0 < n) (h1 : small (0 + n) 1 1 = true) (h2 : (takeL (dropL C o) (n * 1) : Option (List AC)) = (.some (l))) (h3 : l.all AC.isOne = true) (h4 : 0 + n = n) (h5 : n * 1 = n) (g0 : FlatC (C)) (g1 : FlatC (l)) {Φ : Res → Prop} (ho : ∀ j, OutK E 1 1 (c55_end C N ty o n cap fl ex l j) Φ) (j : Nat → Value) : OutK E 1 1 (st55 C N ty o n cap fl ex l j) Φ :=
  outK_seg hE (Go.Proofs.YtgplabfjldndgaaGreatDoor.R0_ok hE) [.run 3, (.ops [(2, (.cpy (n) (n) (l)))] [])] [2] (s' := fun j => ⟨[(.some ⟨(C), (N), (ty), (fl), .cells⟩), (.some ⟨[], 0, 5, true, .cells⟩), (.some ⟨(l), (n), 5, false, .cells⟩)], [(.code .ret)], mkT j [(2, (.e (.one (.slc 2 0 (n) 1 (n) false))))] 6 0⟩) (ps := [0 < n, small (0 + n) 1 1 = true, (takeL (dropL C o) (n * 1) : Option (List AC)) = (.some (l)), l.all AC.isOne = true, 0 + n = n, n * 1 = n]) (fun j => by kernel_rfl) ⟨h0, h1, h2, h3, h4, h5, trivial⟩
    fun j => outK_gcF [0, 2] [true, true] (h' := [(.some ⟨(C), (N), (ty), (fl), .cells⟩), (.some ⟨(l), (n), 5, false, .cells⟩)]) (by decide) (by kernel_rfl) (by kernel_rfl) ⟨g0, g1, trivial⟩ (by kernel_rfl) (ho j)
theorem iIe {a b : Int} (h : a = b) : (iI a : AV) = iI b := by rw [h]

/-- ref.When -/
theorem k60 (hE : EnvOk E) (b : Bool) (e : Int) : COut E 0 [] 82 [iB b, iI e] (iI (if b then e else 0)) [] := by
  cases b with
  | true => exact cOut_start Tryz.func82 rfl (c60t hE _ e rfl (fun j => outK_ret (ends_ret (by kernel_rfl))) fun _ => undef)
  | false => exact cOut_start Tryz.func82 rfl (c60f hE _ e rfl (fun j => outK_ret (ends_ret (by kernel_rfl))) fun _ => undef)
/-- carrier.failIf -/
theorem k107 (hE : EnvOk E) (b : Bool) (e : Int) : COut E 0 [] 85 [iB b, iI e] (iI (if b then e else 0)) [] := by
  cases b with
  | true => exact cOut_start Tryz.func85 rfl (c107t hE _ e rfl (fun j => outK_ret (ends_ret (by kernel_rfl))) fun _ => undef)
  | false => exact cOut_start Tryz.func85 rfl (c107f hE _ e rfl (fun j => outK_ret (ends_ret (by kernel_rfl))) fun _ => undef)
/-- first, of the laws -/
theorem k17 (hE : EnvOk E) {C : List AC} {N ty o n cap : Nat} {fl ex : Bool} (xs : List Int) (hn : xs.length = n) (hm : n ≤ 4000000) (hC : ∀ k x, xs[k]? = some x → getL C (o + k) = some (.v (.int .i64 x))) :
    COut E 1 [some ⟨C, N, ty, fl, .cells⟩] 15 [.e (.one (.slc 0 o n 1 cap ex))] (iI (firstI xs)) [some ⟨C, N, ty, fl, .cells⟩] :=
  cOut_start Tryz.func15 rfl (c17 hE _ _ _ _ _ _ _ _ _ (k104 hE xs hn hm hC) (fun j => outK_ret (ends_ret (by kernel_rfl))) fun _ => undef)

theorem l102 (hE : EnvOk E) {C : List AC} {N ty o n cap : Nat} {fl ex : Bool} (xs : List Int) (hn : xs.length = n) (hm : n ≤ 4000000) (hC : ∀ k x, xs[k]? = some x → getL C (o + k) = some (.v (.int .i64 x))) :
    ∀ m k, m + k = n → ∀ j, OutK E 1 1 (h102 C N ty o n cap fl ex k j) (Go.Ev.Ends E Tryz.f79 (iI (firstI (xs.drop k))) [some ⟨C, N, ty, fl, .cells⟩])
  | 0, k, hk, j => by
    have e : xs.drop k = [] := List.drop_eq_nil_of_le (by omega)
    rw [e]
    refine c102e hE _ _ _ _ _ _ _ _ _ (decide_eq_false (by simp only [Int.ofNat_eq_natCast]; omega)) (fun j => outK_ret (ends_ret ?_)) j
    kernel_rfl
  | m + 1, k, hk, j => by
    have hlt : k < xs.length := by omega
    have hx : xs[k]? = some xs[k] := List.getElem?_eq_getElem hlt
    have e : xs.drop k = xs[k] :: xs.drop (k + 1) := List.drop_eq_getElem_cons hlt
    rw [e]
    generalize xs[k] = x at hx e
    have hd : decide (Int.ofNat k < Int.ofNat n) = true := decide_eq_true (by simp only [Int.ofNat_eq_natCast]; omega)
    have hb : 0 ≤ Int.ofNat k ∧ Int.ofNat k < ↑n := by simp only [Int.ofNat_eq_natCast]; omega
    have ho : o + (Int.ofNat k).toNat * 1 = o + k := by simp
    by_cases h0 : x = 0
    · subst h0
      exact c102f hE _ _ _ _ _ _ _ _ _ 0 hd hb ho (hC k 0 hx) rfl (iIe (by rw [wrap_id (by simp only [Int.ofNat_eq_natCast]; omega) (by simp only [Int.ofNat_eq_natCast]; omega)]; simp)) (l102 hE xs hn hm hC m (k + 1) (by omega)) j
    · have e1 : firstI (x :: xs.drop (k + 1)) = x := by simp [firstI, h0]
      rw [e1]
      refine c102t hE _ _ _ _ _ _ _ _ _ x hd hb ho (hC k x hx) (by simpa using h0) (fun j => outK_ret (ends_ret ?_)) j
      kernel_rfl
/-- carrier.first -/
theorem k102 (hE : EnvOk E) {C : List AC} {N ty o n cap : Nat} {fl ex : Bool} (xs : List Int) (hn : xs.length = n) (hm : n ≤ 4000000) (hC : ∀ k x, xs[k]? = some x → getL C (o + k) = some (.v (.int .i64 x))) :
    COut E 1 [some ⟨C, N, ty, fl, .cells⟩] 79 [.e (.one (.slc 0 o n 1 cap ex))] (iI (firstI xs)) [some ⟨C, N, ty, fl, .cells⟩] :=
  cOut_start Tryz.func79 rfl (c102a hE _ _ _ _ _ _ _ _ (l102 hE xs hn hm hC n 0 (by omega)) fun _ => undef)

/-- bytes: a list of its own -/
theorem k55e (hE : EnvOk E) (p : Option Addr) (c : Nat) : COut E 0 [] 54 [.e (.one (.v (.slice p 0 c)))] (.e (.one (.slc 0 0 0 1 0 true))) [some ⟨[], 0, 5, true, .cells⟩] :=
  cOut_start Tryz.func54 rfl (c55e hE p c (fun j => outK_ret (ends_ret (by kernel_rfl))) fun _ => undef)
theorem k55 (hE : EnvOk E) {C l : List AC} {N ty o n cap : Nat} {fl ex : Bool} (h0 : 0 < n) (hm : n ≤ 2000000) (hl : takeL (dropL C o) n = some l) (h1 : l.all AC.isOne = true) (hC : FlatC C) (hf : FlatC l) :
    COut E 1 [some ⟨C, N, ty, fl, .cells⟩] 54 [.e (.one (.slc 0 o n 1 cap ex))] (.e (.one (.slc 1 0 n 1 n false))) [some ⟨C, N, ty, fl, .cells⟩, some ⟨l, n, 5, false, .cells⟩] :=
  cOut_start Tryz.func54 rfl (c55 hE _ _ _ _ _ _ _ _ l h0 (by simp [small]; omega) (by rw [Nat.mul_one]; exact hl) h1 (by omega) (by omega) hC hf (fun j => outK_ret (ends_ret (by kernel_rfl))) fun _ => undef)
end
end Go.Proofs.YtgplabfjldndgaaGreatDoor
