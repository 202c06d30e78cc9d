/-
  Part of the proof: SeC.
-/
import Derived.Test.YtaaioijpbkcmdaaDoorSeLem
open Go Go.Ev
namespace Go.Proofs.YtaaioijpbkcmdaaDoor
noncomputable section
set_option maxRecDepth 100000
--DEFS
def Z8 : List AC := [(.v (.int .u8 0)), (.v (.int .u8 0)), (.v (.int .u8 0)), (.v (.int .u8 0)), (.v (.int .u8 0)), (.v (.int .u8 0)), (.v (.int .u8 0)), (.v (.int .u8 0))]
def st145 (a0 a1 a2 a3 a4 a5 a6 a7 : UInt8) (C : List AC) (N ty o n cap : Nat) (fl ex : Bool) (_j : Nat → Value) : St := startK Tryd.f28 [some ⟨C, N, ty, fl, .cells⟩] [.e (.agg [u8c a0, u8c a1, u8c a2, u8c a3, u8c a4, u8c a5, u8c a6, u8c a7]), .e (.one (.slc 0 o n 1 cap ex))]
def h145o (KA BC C : List AC) (N ty o n cap : Nat) (fl ex : Bool) (i : Nat) (j : Nat → Value) : St := ⟨[(.some ⟨C, N, ty, fl, .cells⟩), (.some ⟨BC, 8, 23, true, .cells⟩), (.some ⟨Z8, 8, 23, true, .cells⟩)], [(.code (atC [1, 0, 1, 0, 0] (bodyOf Tryd.f28))), (.inLoop (atC [1, 0, 1, 0, 0] (bodyOf Tryd.f28))), (.inBlock 0), (.code (atC [1, 1] (bodyOf Tryd.f28)))], mkT j [(1, (.e (.one (.slc 0 o n 1 cap ex)))), (2, (.e (.one (.ptr 1 0)))), (4, (.e (.one (.ptr 2 0)))), (9, (.e (.agg KA))), (10, iI i)] 37 0⟩
def h145o' (KA BC C : List AC) (N ty o n cap : Nat) (fl ex : Bool) (i : Nat) (_x : UInt8) (j : Nat → Value) : St := h145o KA BC C N ty o n cap fl ex i j
def h145x (KA : List AC) (a0 a1 a2 a3 a4 a5 a6 a7 : UInt8) (C : List AC) (N ty o n cap : Nat) (fl ex : Bool) (j : Nat → Value) : St := h145o KA [u8c a0, u8c a1, u8c a2, u8c a3, u8c a4, u8c a5, u8c a6, u8c a7] C N ty o n cap fl ex 8 j
def h145i (KA BC C : List AC) (N ty o n cap : Nat) (fl ex : Bool) (i k : Nat) (x : UInt8) (j : Nat → Value) : St := ⟨[(.some ⟨(C), (N), (ty), (fl), .cells⟩), (.some ⟨(BC), 8, 23, true, .cells⟩), (.some ⟨Z8, 8, 23, true, .cells⟩)], [(.code (atC [1, 0, 1, 0, 0, 1, 1, 0, 0, 1, 0, 1, 0, 0] (bodyOf Tryd.f28))), (.inLoop (atC [1, 0, 1, 0, 0, 1, 1, 0, 0, 1, 0, 1, 0, 0] (bodyOf Tryd.f28))), (.inBlock 2), (.code (atC [1, 0, 1, 0, 0, 1, 1, 0, 0, 1, 1] (bodyOf Tryd.f28))), (.inBlock 1), (.code (atC [1, 0, 1, 0, 0, 1, 1, 1] (bodyOf Tryd.f28))), (.inLoop (atC [1, 0, 1, 0, 0] (bodyOf Tryd.f28))), (.inBlock 0), (.code (atC [1, 1] (bodyOf Tryd.f28)))], mkT j [(1, (.e (.one (.slc 0 (o) (n) 1 (cap) (ex))))), (2, (.e (.one (.ptr 1 0)))), (4, (.e (.one (.ptr 2 0)))), (5, (iI (Int.ofNat i))), (6, (iU (Int.ofNat x.toNat))), (9, (.e (.agg (KA)))), (10, (iI (Int.ofNat i))), (14, (.e (.one (.slc 0 (o) (n) 1 (cap) (ex))))), (15, (iI (Int.ofNat n))), (16, (iI (Int.ofNat k)))] 37 0⟩
def h145i' (KA BC C : List AC) (N ty o n cap : Nat) (fl ex : Bool) (i k : Nat) (x _b _y : UInt8) (j : Nat → Value) : St := h145i KA BC C N ty o n cap fl ex i k x j
def h145ix (KA BC _BC' C : List AC) (N ty o n cap : Nat) (fl ex : Bool) (i k : Nat) (x : UInt8) (j : Nat → Value) : St := h145i KA BC C N ty o n cap fl ex i k x j
--END
def c145a_end (a0 a1 a2 a3 a4 a5 a6 a7 : UInt8) (C : List AC) (N ty o n cap : Nat) (fl ex : Bool) (j : Nat → Value) : St := ⟨[(.some ⟨(C), (N), (ty), (fl), .cells⟩), (.some ⟨[u8c a0, u8c a1, u8c a2, u8c a3, u8c a4, u8c a5, u8c a6, u8c a7], 8, 23, true, .cells⟩), (.some ⟨[(.v (.int .u8 0)), (.v (.int .u8 0)), (.v (.int .u8 0)), (.v (.int .u8 0)), (.v (.int .u8 0)), (.v (.int .u8 0)), (.v (.int .u8 0)), (.v (.int .u8 0))], 8, 23, true, .cells⟩)], [(.code (atC [1, 0, 1, 0, 0] (bodyOf Tryd.f28))), (.inLoop (atC [1, 0, 1, 0, 0] (bodyOf Tryd.f28))), (.inBlock 0), (.code (atC [1, 1] (bodyOf Tryd.f28)))], mkT j [(1, (.e (.one (.slc 0 (o) (n) 1 (cap) (ex))))), (2, (.e (.one (.ptr 1 0)))), (4, (.e (.one (.ptr 2 0)))), (9, (.e (.agg [u8c a0, u8c a1, u8c a2, u8c a3, u8c a4, u8c a5, u8c a6, u8c a7]))), (10, (iI 0))] 37 0⟩
theorem c145a (hE : EnvOk E) (a0 a1 a2 a3 a4 a5 a6 a7 : UInt8) (C : List AC) (N ty o n cap : Nat) (fl ex : Bool)  {Φ : Res → Prop} (ho : ∀ j, OutK E 1 1 (c145a_end a0 a1 a2 a3 a4 a5 a6 a7 C N ty o n cap fl ex j) Φ) (j : Nat → Value) : OutK E 1 1 (st145 a0 a1 a2 a3 a4 a5 a6 a7 C N ty o n cap fl ex j) Φ :=
  outK_seg hE (Go.Proofs.YtaaioijpbkcmdaaDoor.R0_ok hE) [.run 7] [1, 2, 4, 9, 10] (s' := fun j => ⟨[(.some ⟨(C), (N), (ty), (fl), .cells⟩), (.some ⟨[u8c a0, u8c a1, u8c a2, u8c a3, u8c a4, u8c a5, u8c a6, u8c a7], 8, 23, true, .cells⟩), (.some ⟨[(.v (.int .u8 0)), (.v (.int .u8 0)), (.v (.int .u8 0)), (.v (.int .u8 0)), (.v (.int .u8 0)), (.v (.int .u8 0)), (.v (.int .u8 0)), (.v (.int .u8 0))], 8, 23, true, .cells⟩)], [(.code (atC [1, 0, 1, 0, 0] (bodyOf Tryd.f28))), (.inLoop (atC [1, 0, 1, 0, 0] (bodyOf Tryd.f28))), (.inBlock 0), (.code (atC [1, 1] (bodyOf Tryd.f28)))], mkT j [(1, (.e (.one (.slc 0 (o) (n) 1 (cap) (ex))))), (2, (.e (.one (.ptr 1 0)))), (4, (.e (.one (.ptr 2 0)))), (9, (.e (.agg [u8c a0, u8c a1, u8c a2, u8c a3, u8c a4, u8c a5, u8c a6, u8c a7]))), (10, (iI 0))] 37 0⟩) (ps := []) (fun j => by kernel_rfl) trivial
    ho
def c145o_end (KA BC C : List AC) (N ty o n cap : Nat) (fl ex : Bool) (i : Nat) (x : UInt8) (j : Nat → Value) : St := ⟨[(.some ⟨(C), (N), (ty), (fl), .cells⟩), (.some ⟨(BC), 8, 23, true, .cells⟩), (.some ⟨[(.v (.int .u8 0)), (.v (.int .u8 0)), (.v (.int .u8 0)), (.v (.int .u8 0)), (.v (.int .u8 0)), (.v (.int .u8 0)), (.v (.int .u8 0)), (.v (.int .u8 0))], 8, 23, true, .cells⟩)], [(.code (atC [1, 0, 1, 0, 0, 1, 1, 0, 0, 1, 0, 1, 0, 0] (bodyOf Tryd.f28))), (.inLoop (atC [1, 0, 1, 0, 0, 1, 1, 0, 0, 1, 0, 1, 0, 0] (bodyOf Tryd.f28))), (.inBlock 2), (.code (atC [1, 0, 1, 0, 0, 1, 1, 0, 0, 1, 1] (bodyOf Tryd.f28))), (.inBlock 1), (.code (atC [1, 0, 1, 0, 0, 1, 1, 1] (bodyOf Tryd.f28))), (.inLoop (atC [1, 0, 1, 0, 0] (bodyOf Tryd.f28))), (.inBlock 0), (.code (atC [1, 1] (bodyOf Tryd.f28)))], mkT j [(1, (.e (.one (.slc 0 (o) (n) 1 (cap) (ex))))), (2, (.e (.one (.ptr 1 0)))), (4, (.e (.one (.ptr 2 0)))), (5, (iI (Int.ofNat i))), (6, (iU (Int.ofNat x.toNat))), (9, (.e (.agg (KA)))), (10, (iI (Int.ofNat i))), (14, (.e (.one (.slc 0 (o) (n) 1 (cap) (ex))))), (15, (iI (Int.ofNat n))), (16, (iI 0))] 37 0⟩
theorem c145o (hE : EnvOk E) (KA BC C : List AC) (N ty o n cap : Nat) (fl ex : Bool) (i : Nat) (x : UInt8) (h0 : decide (Int.ofNat i < 8) = true) (h1 : 0 ≤ Int.ofNat i ∧ Int.ofNat i < ↑8) (h2 : (getL KA (Int.ofNat i).toNat : Option AC) = (.some (u8c x))) {Φ : Res → Prop} (ho : ∀ j, OutK E 1 1 (c145o_end KA BC C N ty o n cap fl ex i x j) Φ) (j : Nat → Value) : OutK E 1 1 (h145o' KA BC C N ty o n cap fl ex i x j) Φ :=
  outK_seg hE (Go.Proofs.YtaaioijpbkcmdaaDoor.R0_ok hE) [.run 3, (.cond true), .run 4, (.ops [(1, (.el (u8c x)))] []), .run 5] [1, 2, 4, 5, 6, 9, 10, 14, 15, 16] (s' := fun j => ⟨[(.some ⟨(C), (N), (ty), (fl), .cells⟩), (.some ⟨(BC), 8, 23, true, .cells⟩), (.some ⟨[(.v (.int .u8 0)), (.v (.int .u8 0)), (.v (.int .u8 0)), (.v (.int .u8 0)), (.v (.int .u8 0)), (.v (.int .u8 0)), (.v (.int .u8 0)), (.v (.int .u8 0))], 8, 23, true, .cells⟩)], [(.code (atC [1, 0, 1, 0, 0, 1, 1, 0, 0, 1, 0, 1, 0, 0] (bodyOf Tryd.f28))), (.inLoop (atC [1, 0, 1, 0, 0, 1, 1, 0, 0, 1, 0, 1, 0, 0] (bodyOf Tryd.f28))), (.inBlock 2), (.code (atC [1, 0, 1, 0, 0, 1, 1, 0, 0, 1, 1] (bodyOf Tryd.f28))), (.inBlock 1), (.code (atC [1, 0, 1, 0, 0, 1, 1, 1] (bodyOf Tryd.f28))), (.inLoop (atC [1, 0, 1, 0, 0] (bodyOf Tryd.f28))), (.inBlock 0), (.code (atC [1, 1] (bodyOf Tryd.f28)))], mkT j [(1, (.e (.one (.slc 0 (o) (n) 1 (cap) (ex))))), (2, (.e (.one (.ptr 1 0)))), (4, (.e (.one (.ptr 2 0)))), (5, (iI (Int.ofNat i))), (6, (iU (Int.ofNat x.toNat))), (9, (.e (.agg (KA)))), (10, (iI (Int.ofNat i))), (14, (.e (.one (.slc 0 (o) (n) 1 (cap) (ex))))), (15, (iI (Int.ofNat n))), (16, (iI 0))] 37 0⟩) (ps := [decide (Int.ofNat i < 8) = true, 0 ≤ Int.ofNat i ∧ Int.ofNat i < ↑8, (getL KA (Int.ofNat i).toNat : Option AC) = (.some (u8c x))]) (fun j => by kernel_rfl) ⟨h0, h1, h2, trivial⟩
    ho
def c145i_end (KA BC C : List AC) (N ty o n cap : Nat) (fl ex : Bool) (i k : Nat) (_x _b y : UInt8) (j : Nat → Value) : St := ⟨[(.some ⟨(C), (N), (ty), (fl), .cells⟩), (.some ⟨(BC), 8, 23, true, .cells⟩), (.some ⟨[(.v (.int .u8 0)), (.v (.int .u8 0)), (.v (.int .u8 0)), (.v (.int .u8 0)), (.v (.int .u8 0)), (.v (.int .u8 0)), (.v (.int .u8 0)), (.v (.int .u8 0))], 8, 23, true, .cells⟩)], [(.code (atC [1, 0, 1, 0, 0, 1, 1, 0, 0, 1, 0, 1, 0, 0] (bodyOf Tryd.f28))), (.inLoop (atC [1, 0, 1, 0, 0, 1, 1, 0, 0, 1, 0, 1, 0, 0] (bodyOf Tryd.f28))), (.inBlock 2), (.code (atC [1, 0, 1, 0, 0, 1, 1, 0, 0, 1, 1] (bodyOf Tryd.f28))), (.inBlock 1), (.code (atC [1, 0, 1, 0, 0, 1, 1, 1] (bodyOf Tryd.f28))), (.inLoop (atC [1, 0, 1, 0, 0] (bodyOf Tryd.f28))), (.inBlock 0), (.code (atC [1, 1] (bodyOf Tryd.f28)))], mkT j [(1, (.e (.one (.slc 0 (o) (n) 1 (cap) (ex))))), (2, (.e (.one (.ptr 1 0)))), (4, (.e (.one (.ptr 2 0)))), (5, (iI (Int.ofNat i))), (6, (iU (Int.ofNat y.toNat))), (9, (.e (.agg (KA)))), (10, (iI (Int.ofNat i))), (14, (.e (.one (.slc 0 (o) (n) 1 (cap) (ex))))), (15, (iI (Int.ofNat n))), (16, (iI (Int.ofNat (k + 1))))] 37 0⟩
theorem c145i (hE : EnvOk E) (KA BC C : List AC) (N ty o n cap : Nat) (fl ex : Bool) (i k : Nat) (x b y : UInt8) (h0 : decide (Int.ofNat k < Int.ofNat n) = true) (h1 : 0 ≤ Int.ofNat k ∧ Int.ofNat k < ↑n) (h2 : o + (Int.ofNat k).toNat * 1 = o + k) (h3 : (getL C (o + k) : Option AC) = (.some (u8c b))) (h4 : ((iU (wrapF IntKind.u8
  (wrapF IntKind.u8
      (wrapF IntKind.u8
          (IntKind.u8.wrap (wrapF IntKind.i64 (wrapF IntKind.i64 (2 * Int.ofNat i) + 3)) * Int.ofNat x.toNat) +
        Int.ofNat b.toNat) +
    IntKind.u8.wrap (Int.ofNat i)))) : AV) = (iU (Int.ofNat y.toNat))) (h5 : ((iI (wrapF IntKind.i64 (Int.ofNat k + 1))) : AV) = (iI (Int.ofNat (k + 1)))) {Φ : Res → Prop} (ho : ∀ j, OutK E 1 1 (c145i_end KA BC C N ty o n cap fl ex i k x b y j) Φ) (j : Nat → Value) : OutK E 1 1 (h145i' KA BC C N ty o n cap fl ex i k x b y j) Φ :=
  outK_seg hE (Go.Proofs.YtaaioijpbkcmdaaDoor.R0_ok hE) [.run 3, (.cond true), .run 4, (.ops [(0, (.ix (o + k))), (1, (.ld (u8c b)))] []), (.ops [(10, (.rn (iU (Int.ofNat y.toNat))))] []), .run 1, (.ops [(0, (.rn (iI (Int.ofNat (k + 1)))))] []), .run 1] [1, 2, 4, 5, 6, 9, 10, 14, 15, 16] (s' := fun j => ⟨[(.some ⟨(C), (N), (ty), (fl), .cells⟩), (.some ⟨(BC), 8, 23, true, .cells⟩), (.some ⟨[(.v (.int .u8 0)), (.v (.int .u8 0)), (.v (.int .u8 0)), (.v (.int .u8 0)), (.v (.int .u8 0)), (.v (.int .u8 0)), (.v (.int .u8 0)), (.v (.int .u8 0))], 8, 23, true, .cells⟩)], [(.code (atC [1, 0, 1, 0, 0, 1, 1, 0, 0, 1, 0, 1, 0, 0] (bodyOf Tryd.f28))), (.inLoop (atC [1, 0, 1, 0, 0, 1, 1, 0, 0, 1, 0, 1, 0, 0] (bodyOf Tryd.f28))), (.inBlock 2), (.code (atC [1, 0, 1, 0, 0, 1, 1, 0, 0, 1, 1] (bodyOf Tryd.f28))), (.inBlock 1), (.code (atC [1, 0, 1, 0, 0, 1, 1, 1] (bodyOf Tryd.f28))), (.inLoop (atC [1, 0, 1, 0, 0] (bodyOf Tryd.f28))), (.inBlock 0), (.code (atC [1, 1] (bodyOf Tryd.f28)))], mkT j [(1, (.e (.one (.slc 0 (o) (n) 1 (cap) (ex))))), (2, (.e (.one (.ptr 1 0)))), (4, (.e (.one (.ptr 2 0)))), (5, (iI (Int.ofNat i))), (6, (iU (Int.ofNat y.toNat))), (9, (.e (.agg (KA)))), (10, (iI (Int.ofNat i))), (14, (.e (.one (.slc 0 (o) (n) 1 (cap) (ex))))), (15, (iI (Int.ofNat n))), (16, (iI (Int.ofNat (k + 1))))] 37 0⟩) (ps := [decide (Int.ofNat k < Int.ofNat n) = true, 0 ≤ Int.ofNat k ∧ Int.ofNat k < ↑n, o + (Int.ofNat k).toNat * 1 = o + k, (getL C (o + k) : Option AC) = (.some (u8c b)), ((iU (wrapF IntKind.u8
  (wrapF IntKind.u8
      (wrapF IntKind.u8
          (IntKind.u8.wrap (wrapF IntKind.i64 (wrapF IntKind.i64 (2 * Int.ofNat i) + 3)) * Int.ofNat x.toNat) +
        Int.ofNat b.toNat) +
    IntKind.u8.wrap (Int.ofNat i)))) : AV) = (iU (Int.ofNat y.toNat)), ((iI (wrapF IntKind.i64 (Int.ofNat k + 1))) : AV) = (iI (Int.ofNat (k + 1)))]) (fun j => by kernel_rfl) ⟨h0, h1, h2, h3, h4, h5, trivial⟩
    ho
def c145ix_end (KA _BC BC' C : List AC) (N ty o n cap : Nat) (fl ex : Bool) (i _k : Nat) (_x : UInt8) (j : Nat → Value) : St := ⟨[(.some ⟨(C), (N), (ty), (fl), .cells⟩), (.some ⟨(BC'), 8, 23, true, .cells⟩), (.some ⟨[(.v (.int .u8 0)), (.v (.int .u8 0)), (.v (.int .u8 0)), (.v (.int .u8 0)), (.v (.int .u8 0)), (.v (.int .u8 0)), (.v (.int .u8 0)), (.v (.int .u8 0))], 8, 23, true, .cells⟩)], [(.code (atC [1, 0, 1, 0, 0] (bodyOf Tryd.f28))), (.inLoop (atC [1, 0, 1, 0, 0] (bodyOf Tryd.f28))), (.inBlock 0), (.code (atC [1, 1] (bodyOf Tryd.f28)))], mkT j [(1, (.e (.one (.slc 0 (o) (n) 1 (cap) (ex))))), (2, (.e (.one (.ptr 1 0)))), (4, (.e (.one (.ptr 2 0)))), (9, (.e (.agg (KA)))), (10, (iI (Int.ofNat (i + 1))))] 37 0⟩
theorem c145ix (hE : EnvOk E) (KA BC BC' C : List AC) (N ty o n cap : Nat) (fl ex : Bool) (i k : Nat) (x : UInt8) (h0 : decide (Int.ofNat k < Int.ofNat n) = false) (h1 : 0 ≤ Int.ofNat i ∧ Int.ofNat i < ↑8) (h2 : 0 + (Int.ofNat i).toNat * 1 = i) (h3 : i + 1 ≤ 8) (h4 : (overL [u8c x] BC i : List AC) = BC') (h5 : ((iI (wrapF IntKind.i64 (Int.ofNat i + 1))) : AV) = (iI (Int.ofNat (i + 1)))) {Φ : Res → Prop} (ho : ∀ j, OutK E 1 1 (c145ix_end KA BC BC' C N ty o n cap fl ex i k x j) Φ) (j : Nat → Value) : OutK E 1 1 (h145ix KA BC BC' C N ty o n cap fl ex i k x j) Φ :=
  outK_seg hE (Go.Proofs.YtaaioijpbkcmdaaDoor.R0_ok hE) [.run 3, (.cond false), .run 1, (.ops [(2, (.ix (i))), (3, (.st (BC')))] []), .run 1, (.ops [(0, (.rn (iI (Int.ofNat (i + 1)))))] []), .run 1] [1, 2, 4, 9, 10] (s' := fun j => ⟨[(.some ⟨(C), (N), (ty), (fl), .cells⟩), (.some ⟨(BC'), 8, 23, true, .cells⟩), (.some ⟨[(.v (.int .u8 0)), (.v (.int .u8 0)), (.v (.int .u8 0)), (.v (.int .u8 0)), (.v (.int .u8 0)), (.v (.int .u8 0)), (.v (.int .u8 0)), (.v (.int .u8 0))], 8, 23, true, .cells⟩)], [(.code (atC [1, 0, 1, 0, 0] (bodyOf Tryd.f28))), (.inLoop (atC [1, 0, 1, 0, 0] (bodyOf Tryd.f28))), (.inBlock 0), (.code (atC [1, 1] (bodyOf Tryd.f28)))], mkT j [(1, (.e (.one (.slc 0 (o) (n) 1 (cap) (ex))))), (2, (.e (.one (.ptr 1 0)))), (4, (.e (.one (.ptr 2 0)))), (9, (.e (.agg (KA)))), (10, (iI (Int.ofNat (i + 1))))] 37 0⟩) (ps := [decide (Int.ofNat k < Int.ofNat n) = false, 0 ≤ Int.ofNat i ∧ Int.ofNat i < ↑8, 0 + (Int.ofNat i).toNat * 1 = i, i + 1 ≤ 8, (overL [u8c x] BC i : List AC) = BC', ((iI (wrapF IntKind.i64 (Int.ofNat i + 1))) : AV) = (iI (Int.ofNat (i + 1)))]) (fun j => by kernel_rfl) ⟨h0, h1, h2, h3, h4, h5, trivial⟩
    ho
def c145x_end (_KA : List AC) (a0 a1 a2 a3 a4 a5 a6 a7 : UInt8) (C : List AC) (N ty _o _n _cap : Nat) (fl _ex : Bool) (j : Nat → Value) : St := ⟨[(.some ⟨(C), (N), (ty), (fl), .cells⟩), (.some ⟨[u8c a0, u8c a1, u8c a2, u8c a3, u8c a4, u8c a5, u8c a6, u8c a7], 8, 23, true, .cells⟩)], [(.code .ret)], mkT j [(4, (.e (.one (.ptr 1 0))))] 37 0⟩
theorem c145x (hE : EnvOk E) (KA : List AC) (a0 a1 a2 a3 a4 a5 a6 a7 : UInt8) (C : List AC) (N ty o n cap : Nat) (fl ex : Bool) (g0 : FlatC (C)) {Φ : Res → Prop} (ho : ∀ j, OutK E 1 1 (c145x_end KA a0 a1 a2 a3 a4 a5 a6 a7 C N ty o n cap fl ex j) Φ) (j : Nat → Value) : OutK E 1 1 (h145x KA a0 a1 a2 a3 a4 a5 a6 a7 C N ty o n cap fl ex j) Φ :=
  outK_seg hE (Go.Proofs.YtaaioijpbkcmdaaDoor.R0_ok hE) [.run 7] [4] (s' := fun j => ⟨[(.some ⟨(C), (N), (ty), (fl), .cells⟩), (.some ⟨[u8c a0, u8c a1, u8c a2, u8c a3, u8c a4, u8c a5, u8c a6, u8c a7], 8, 23, true, .cells⟩), (.some ⟨[u8c a0, u8c a1, u8c a2, u8c a3, u8c a4, u8c a5, u8c a6, u8c a7], 8, 23, true, .cells⟩)], [(.code .ret)], mkT j [(4, (.e (.one (.ptr 2 0))))] 37 0⟩) (ps := []) (fun j => by kernel_rfl) trivial
    fun j => outK_gcF [0, 2] [true, false] (h' := [(.some ⟨(C), (N), (ty), (fl), .cells⟩), (.some ⟨[u8c a0, u8c a1, u8c a2, u8c a3, u8c a4, u8c a5, u8c a6, u8c a7], 8, 23, true, .cells⟩)]) (by decide) (by kernel_rfl) (by kernel_rfl) ⟨g0, trivial⟩ (by kernel_rfl) (ho j)
def sealB (i : Nat) (x b : UInt8) : UInt8 := UInt8.ofNat ((2 * i + 3) * x.toNat + b.toNat + i)
def sealX (i : Nat) (x : UInt8) (bs : List UInt8) : UInt8 := bs.foldl (sealB i) x
/-- the seal of bytes by a key -/
def sealK (ks bs : List UInt8) : List UInt8 := ks.mapIdx fun i x => sealX i x bs
def sealG (i : Nat) (ks bs : List UInt8) : List UInt8 := ks.mapIdx fun m x => if m < i then sealX m x bs else x

theorem sealG_zero (ks bs : List UInt8) : sealG 0 ks bs = ks := by
  apply List.ext_getElem?
  intro i
  simp [sealG]
theorem sealG_all (ks bs : List UInt8) : sealG ks.length ks bs = sealK ks bs := by
  apply List.ext_getElem?
  intro i
  simp only [sealG, sealK, List.getElem?_mapIdx]
  cases h : ks[i]? with
  | none => rfl
  | some x =>
    have := (List.getElem?_eq_some_iff.1 h).1
    simp [this]
theorem sealG_set (ks bs : List UInt8) (i : Nat) (x : UInt8) (h : ks[i]? = some x) : overL [u8c (sealX i x bs)] ((sealG i ks bs).map u8c) i = (sealG (i + 1) ks bs).map u8c := by
  have hlt := (List.getElem?_eq_some_iff.1 h).1
  show setL ((sealG i ks bs).map u8c) i (u8c (sealX i x bs)) = _
  rw [setL_eq]
  apply List.ext_getElem?
  intro m
  simp only [sealG, List.getElem?_set, List.getElem?_map, List.getElem?_mapIdx, List.length_map, List.length_mapIdx]
  by_cases hm : i = m
  · subst hm
    obtain ⟨_, rfl⟩ := List.getElem?_eq_some_iff.1 h
    simp [hlt]
  · simp only [hm, if_false]
    cases hk : ks[m]? with
    | none => rfl
    | some y =>
      have : (m < i) = (m < i + 1) := by apply propext; omega
      simp [this]

theorem seal_step (i : Nat) (hi : i < 8) (x b : UInt8) :
    wrapF IntKind.u8 (wrapF IntKind.u8 (wrapF IntKind.u8 (IntKind.u8.wrap (wrapF IntKind.i64 (wrapF IntKind.i64 (2 * Int.ofNat i) + 3)) * Int.ofNat x.toNat) + Int.ofNat b.toNat) + IntKind.u8.wrap (Int.ofNat i)) = Int.ofNat (sealB i x b).toNat := by
  simp only [Int.ofNat_eq_natCast]
  rw [wrap_id (n := 2 * (i : Int)) (by omega) (by omega), wrap_id (by omega) (by omega), IntKind.wrap_u8, IntKind.wrap_u8, wrap_u8, wrap_u8, wrap_u8]
  have e1 : (2 * (i : Int) + 3) % 256 = 2 * i + 3 := by omega
  have e2 : (i : Int) % 256 = i := by omega
  rw [e1, e2]
  have e3 : (2 * (i : Int) + 3) * (x.toNat : Int) = (((2 * i + 3) * x.toNat : Nat) : Int) := by push_cast; rfl
  rw [e3]
  simp only [sealB, UInt8.toNat_ofNat']
  omega

section
variable {E' : Unit}
theorem l145 (hE : EnvOk E) {KA BC C : List AC} {N ty o n cap : Nat} {fl ex : Bool} {i : Nat} (hi : i < 8) (bs : List UInt8) (hn : bs.length = n) (hm : n ≤ 4000000) (hC : ∀ k x, bs[k]? = some x → getL C (o + k) = some (u8c x)) {Φ : Res → Prop} (x0 : UInt8)
    (hend : ∀ j, OutK E 1 1 (h145i KA BC C N ty o n cap fl ex i n x0 j) Φ) :
    ∀ m k x, m + k = n → sealX i x (bs.drop k) = x0 → ∀ j, OutK E 1 1 (h145i KA BC C N ty o n cap fl ex i k x j) Φ
  | 0, k, x, hk, hx, j => by
    have e : bs.drop k = [] := List.drop_eq_nil_of_le (by omega)
    rw [e] at hx
    have hx' : x = x0 := hx
    have hk' : k = n := by omega
    subst hx' hk'
    exact hend j
  | m + 1, k, x, hk, hx, j => by
    have hlt : k < bs.length := by omega
    have hb : bs[k]? = some bs[k] := List.getElem?_eq_getElem hlt
    have e : bs.drop k = bs[k] :: bs.drop (k + 1) := List.drop_eq_getElem_cons hlt
    generalize bs[k] = b at hb e
    rw [e] at hx
    have hx' : sealX i (sealB i x b) (bs.drop (k + 1)) = x0 := hx
    refine c145i hE KA BC C N ty o n cap fl ex i k x b (sealB i x b) (decide_eq_true (by simp only [Int.ofNat_eq_natCast]; omega)) (by simp only [Int.ofNat_eq_natCast]; omega) (by simp) (hC k b hb) ?_
      (iIe (by rw [wrap_id (by simp only [Int.ofNat_eq_natCast]; omega) (by simp only [Int.ofNat_eq_natCast]; omega)]; simp)) (l145 hE hi bs hn hm hC x0 hend m (k + 1) (sealB i x b) (by omega) hx') j
    rw [seal_step i hi x b]

theorem o145 (hE : EnvOk E) {C : List AC} {N ty o n cap : Nat} {fl ex : Bool} (ks bs : List UInt8) (hks : ks.length = 8) (hn : bs.length = n) (hm : n ≤ 4000000) (hC : ∀ k x, bs[k]? = some x → getL C (o + k) = some (u8c x)) {Φ : Res → Prop}
    (hend : ∀ j, OutK E 1 1 (h145o (ks.map u8c) ((sealK ks bs).map u8c) C N ty o n cap fl ex 8 j) Φ) :
    ∀ m i, m + i = 8 → ∀ j, OutK E 1 1 (h145o (ks.map u8c) ((sealG i ks bs).map u8c) C N ty o n cap fl ex i j) Φ
  | 0, i, hi, j => by
    have : i = 8 := by omega
    subst this
    have e := sealG_all ks bs
    rw [hks] at e
    rw [e]
    exact hend j
  | m + 1, i, hi, j => by
    have hlt : i < ks.length := by omega
    have hb : ks[i]? = some ks[i] := List.getElem?_eq_getElem hlt
    generalize ks[i] = x at hb
    refine c145o hE (ks.map u8c) ((sealG i ks bs).map u8c) C N ty o n cap fl ex i x (decide_eq_true (by simp only [Int.ofNat_eq_natCast]; omega)) (by simp only [Int.ofNat_eq_natCast]; omega) (by rw [getL_eq]; simp [hb, u8c]) ?_ j
    refine fun j => l145 hE (by omega) bs hn hm hC (sealX i x bs) ?_ n 0 x (by omega) (by simp) j
    intro j
    refine c145ix hE (ks.map u8c) ((sealG i ks bs).map u8c) ((sealG (i + 1) ks bs).map u8c) C N ty o n cap fl ex i n (sealX i x bs) (decide_eq_false (by simp only [Int.ofNat_eq_natCast]; omega)) (by simp only [Int.ofNat_eq_natCast]; omega) (by simp) (by omega) (sealG_set ks bs i x hb)
      (iIe (by rw [wrap_id (by simp only [Int.ofNat_eq_natCast]; omega) (by simp only [Int.ofNat_eq_natCast]; omega)]; simp)) (o145 hE ks bs hks hn hm hC hend m (i + 1) (by omega)) j
end

theorem len8 {l : List UInt8} (h : l.length = 8) : ∃ a0 a1 a2 a3 a4 a5 a6 a7, l = [a0, a1, a2, a3, a4, a5, a6, a7] := by
  match l, h with
  | [a0, a1, a2, a3, a4, a5, a6, a7], _ => exact ⟨_, _, _, _, _, _, _, _, rfl⟩
theorem sealK_length (ks bs : List UInt8) : (sealK ks bs).length = ks.length := by simp [sealK]

/-- sealOf -/
theorem k145 (hE : EnvOk E) {C : List AC} {N ty o n cap : Nat} {fl ex : Bool} (ks bs : List UInt8) (hks : ks.length = 8) (hn : bs.length = n) (hm : n ≤ 4000000) (hC : ∀ k x, bs[k]? = some x → getL C (o + k) = some (u8c x)) (hf : FlatC C) :
    COut E 1 [some ⟨C, N, ty, fl, .cells⟩] 28 [.e (.agg (ks.map u8c)), .e (.one (.slc 0 o n 1 cap ex))] (.e (.agg ((sealK ks bs).map u8c))) [some ⟨C, N, ty, fl, .cells⟩] := by
  have ho := o145 hE (N := N) (ty := ty) (cap := cap) (fl := fl) (ex := ex) ks bs hks hn hm hC (Φ := Go.Ev.Ends E Tryd.f28 (.e (.agg ((sealK ks bs).map u8c))) [some ⟨C, N, ty, fl, .cells⟩, some ⟨(sealK ks bs).map u8c, 8, 23, true, .cells⟩]) (by
    obtain ⟨a0, a1, a2, a3, a4, a5, a6, a7, he⟩ := len8 ((sealK_length ks bs).trans hks)
    rw [he]
    exact fun j => c145x hE _ a0 a1 a2 a3 a4 a5 a6 a7 C N ty o n cap fl ex hf (fun j => outK_ret (ends_ret (by kernel_rfl))) j) 8 0 (by omega)
  rw [sealG_zero] at ho
  obtain ⟨a0, a1, a2, a3, a4, a5, a6, a7, rfl⟩ := len8 hks
  have hc := cOut_start Tryd.func28 rfl (c145a hE a0 a1 a2 a3 a4 a5 a6 a7 C N ty o n cap fl ex ho fun _ => undef)
  exact cOut_gcF [0] [true] (h' := [some ⟨C, N, ty, fl, .cells⟩]) (Nat.le_refl _) hc (by kernel_rfl) (by kernel_rfl) ⟨hf, trivial⟩ (by
    show AV.e (AE.agg (((sealK _ bs).map u8c).map _)) = _
    rw [flat_ren (flat_u8c _)])
end
end Go.Proofs.YtaaioijpbkcmdaaDoor
