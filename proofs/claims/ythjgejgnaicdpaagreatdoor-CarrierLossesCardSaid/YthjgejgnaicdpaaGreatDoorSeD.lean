/-
  Part of the proof: SeD.
-/
import Derived.Test.YthjgejgnaicdpaaGreatDoorSeC
open Go Go.Ev
namespace Go.Proofs.YthjgejgnaicdpaaGreatDoor
noncomputable section
set_option maxRecDepth 100000
--DEFS
def st72 (a0 a1 a2 a3 a4 a5 a6 a7 : UInt8) (C : List AC) (N ty o n cap : Nat) (fl ex : Bool) (_j : Nat → Value) : St := startK Tryz.f72 [some ⟨C, N, ty, fl, .cells⟩] [.e (.agg [u8c a0, u8c a1, u8c a2, u8c a3, u8c a4, u8c a5, u8c a6, u8c a7]), .e (.one (.slc 0 o n 1 cap ex))]
def h72o (KA OB C : List AC) (N ty o n cap : Nat) (fl ex : Bool) (i : Nat) (j : Nat → Value) : St := ⟨[(.some ⟨C, N, ty, fl, .cells⟩), (.some ⟨KA, 8, 105, true, .cells⟩), (.some ⟨Z8, 8, 105, true, .cells⟩), (.some ⟨OB, 8, 105, true, .cells⟩)], [(.code (atC [1, 1, 0, 1, 0, 0] (bodyOf Tryz.f72))), (.inLoop (atC [1, 1, 0, 1, 0, 0] (bodyOf Tryz.f72))), (.inBlock 0), (.code (atC [1, 1, 1] (bodyOf Tryz.f72)))], mkT j [(1, (.e (.one (.slc 0 o n 1 cap ex)))), (2, (.e (.one (.ptr 1 0)))), (4, (.e (.one (.ptr 2 0)))), (5, (.e (.one (.ptr 3 0)))), (6, iI i)] 43 0⟩
def h72o' (KA OB C : List AC) (N ty o n cap : Nat) (fl ex : Bool) (i : Nat) (_x : UInt8) (j : Nat → Value) : St := h72o KA OB C N ty o n cap fl ex i j
def h72i (KA OB C : List AC) (N ty o n cap : Nat) (fl ex : Bool) (i k : Nat) (x : UInt8) (j : Nat → Value) : St := ⟨[(.some ⟨(C), (N), (ty), (fl), .cells⟩), (.some ⟨(KA), 8, 105, true, .cells⟩), (.some ⟨Z8, 8, 105, true, .cells⟩), (.some ⟨(OB), 8, 105, true, .cells⟩)], [(.code (atC [1, 1, 0, 1, 0, 0, 1, 0, 0, 1, 0, 1, 0, 0] (bodyOf Tryz.f72))), (.inLoop (atC [1, 1, 0, 1, 0, 0, 1, 0, 0, 1, 0, 1, 0, 0] (bodyOf Tryz.f72))), (.inBlock 2), (.code (atC [1, 1, 0, 1, 0, 0, 1, 0, 0, 1, 1] (bodyOf Tryz.f72))), (.inBlock 1), (.code (atC [1, 1, 0, 1, 0, 0, 1, 1] (bodyOf Tryz.f72))), (.inLoop (atC [1, 1, 0, 1, 0, 0] (bodyOf Tryz.f72))), (.inBlock 0), (.code (atC [1, 1, 1] (bodyOf Tryz.f72)))], mkT j [(1, (.e (.one (.slc 0 (o) (n) 1 (cap) (ex))))), (2, (.e (.one (.ptr 1 0)))), (4, (.e (.one (.ptr 2 0)))), (5, (.e (.one (.ptr 3 0)))), (6, (iI (Int.ofNat i))), (7, (iI (Int.ofNat x.toNat))), (8, (iI (Int.ofNat k)))] 43 0⟩
def h72i' (KA OB C : List AC) (N ty o n cap : Nat) (fl ex : Bool) (i k : Nat) (x _b _y : UInt8) (j : Nat → Value) : St := h72i KA OB C N ty o n cap fl ex i k x j
def h72ix (KA OB _OB' C : List AC) (N ty o n cap : Nat) (fl ex : Bool) (i k : Nat) (x : UInt8) (j : Nat → Value) : St := h72i KA OB C N ty o n cap fl ex i k x j
def h72x (KA : List AC) (a0 a1 a2 a3 a4 a5 a6 a7 : UInt8) (C : List AC) (N ty o n cap : Nat) (fl ex : Bool) (j : Nat → Value) : St := h72o KA [u8c a0, u8c a1, u8c a2, u8c a3, u8c a4, u8c a5, u8c a6, u8c a7] C N ty o n cap fl ex 8 j
--END
def c72a_end (a0 a1 a2 a3 a4 a5 a6 a7 : UInt8) (C : List AC) (N ty o n cap : Nat) (fl ex : Bool) (j : Nat → Value) : St := ⟨[(.some ⟨(C), (N), (ty), (fl), .cells⟩), (.some ⟨[u8c a0, u8c a1, u8c a2, u8c a3, u8c a4, u8c a5, u8c a6, u8c a7], 8, 105, true, .cells⟩), (.some ⟨[(.v (.int .u8 0)), (.v (.int .u8 0)), (.v (.int .u8 0)), (.v (.int .u8 0)), (.v (.int .u8 0)), (.v (.int .u8 0)), (.v (.int .u8 0)), (.v (.int .u8 0))], 8, 105, true, .cells⟩), (.some ⟨[(.v (.int .u8 0)), (.v (.int .u8 0)), (.v (.int .u8 0)), (.v (.int .u8 0)), (.v (.int .u8 0)), (.v (.int .u8 0)), (.v (.int .u8 0)), (.v (.int .u8 0))], 8, 105, true, .cells⟩)], [(.code (atC [1, 1, 0, 1, 0, 0] (bodyOf Tryz.f72))), (.inLoop (atC [1, 1, 0, 1, 0, 0] (bodyOf Tryz.f72))), (.inBlock 0), (.code (atC [1, 1, 1] (bodyOf Tryz.f72)))], mkT j [(1, (.e (.one (.slc 0 (o) (n) 1 (cap) (ex))))), (2, (.e (.one (.ptr 1 0)))), (4, (.e (.one (.ptr 2 0)))), (5, (.e (.one (.ptr 3 0)))), (6, (iI 0))] 43 0⟩
theorem c72a (hE : EnvOk E) (a0 a1 a2 a3 a4 a5 a6 a7 : UInt8) (C : List AC) (N ty o n cap : Nat) (fl ex : Bool)  {Φ : Res → Prop} (ho : ∀ j, OutK E 1 1 (c72a_end a0 a1 a2 a3 a4 a5 a6 a7 C N ty o n cap fl ex j) Φ) (j : Nat → Value) : OutK E 1 1 (st72 a0 a1 a2 a3 a4 a5 a6 a7 C N ty o n cap fl ex j) Φ :=
  outK_seg hE (Go.Proofs.YthjgejgnaicdpaaGreatDoor.R0_ok hE) [.run 9] [1, 2, 4, 5, 6] (s' := fun j => ⟨[(.some ⟨(C), (N), (ty), (fl), .cells⟩), (.some ⟨[u8c a0, u8c a1, u8c a2, u8c a3, u8c a4, u8c a5, u8c a6, u8c a7], 8, 105, true, .cells⟩), (.some ⟨[(.v (.int .u8 0)), (.v (.int .u8 0)), (.v (.int .u8 0)), (.v (.int .u8 0)), (.v (.int .u8 0)), (.v (.int .u8 0)), (.v (.int .u8 0)), (.v (.int .u8 0))], 8, 105, true, .cells⟩), (.some ⟨[(.v (.int .u8 0)), (.v (.int .u8 0)), (.v (.int .u8 0)), (.v (.int .u8 0)), (.v (.int .u8 0)), (.v (.int .u8 0)), (.v (.int .u8 0)), (.v (.int .u8 0))], 8, 105, true, .cells⟩)], [(.code (atC [1, 1, 0, 1, 0, 0] (bodyOf Tryz.f72))), (.inLoop (atC [1, 1, 0, 1, 0, 0] (bodyOf Tryz.f72))), (.inBlock 0), (.code (atC [1, 1, 1] (bodyOf Tryz.f72)))], mkT j [(1, (.e (.one (.slc 0 (o) (n) 1 (cap) (ex))))), (2, (.e (.one (.ptr 1 0)))), (4, (.e (.one (.ptr 2 0)))), (5, (.e (.one (.ptr 3 0)))), (6, (iI 0))] 43 0⟩) (ps := []) (fun j => by kernel_rfl) trivial
    ho
def c72o_end (KA OB C : List AC) (N ty o n cap : Nat) (fl ex : Bool) (i : Nat) (x : UInt8) (j : Nat → Value) : St := ⟨[(.some ⟨(C), (N), (ty), (fl), .cells⟩), (.some ⟨(KA), 8, 105, true, .cells⟩), (.some ⟨[(.v (.int .u8 0)), (.v (.int .u8 0)), (.v (.int .u8 0)), (.v (.int .u8 0)), (.v (.int .u8 0)), (.v (.int .u8 0)), (.v (.int .u8 0)), (.v (.int .u8 0))], 8, 105, true, .cells⟩), (.some ⟨(OB), 8, 105, true, .cells⟩)], [(.code (atC [1, 1, 0, 1, 0, 0, 1, 0, 0, 1, 0, 1, 0, 0] (bodyOf Tryz.f72))), (.inLoop (atC [1, 1, 0, 1, 0, 0, 1, 0, 0, 1, 0, 1, 0, 0] (bodyOf Tryz.f72))), (.inBlock 2), (.code (atC [1, 1, 0, 1, 0, 0, 1, 0, 0, 1, 1] (bodyOf Tryz.f72))), (.inBlock 1), (.code (atC [1, 1, 0, 1, 0, 0, 1, 1] (bodyOf Tryz.f72))), (.inLoop (atC [1, 1, 0, 1, 0, 0] (bodyOf Tryz.f72))), (.inBlock 0), (.code (atC [1, 1, 1] (bodyOf Tryz.f72)))], mkT j [(1, (.e (.one (.slc 0 (o) (n) 1 (cap) (ex))))), (2, (.e (.one (.ptr 1 0)))), (4, (.e (.one (.ptr 2 0)))), (5, (.e (.one (.ptr 3 0)))), (6, (iI (Int.ofNat i))), (7, (iI (Int.ofNat x.toNat))), (8, (iI 0))] 43 0⟩
theorem c72o (hE : EnvOk E) (KA OB C : List AC) (N ty o n cap : Nat) (fl ex : Bool) (i : Nat) (x : UInt8) (h0 : (decide (Int.ofNat i < 8) : Bool) = true) (h1 : 0 ≤ Int.ofNat i ∧ Int.ofNat i < ↑8) (h2 : (0 + (Int.ofNat i).toNat * 1 : Nat) = i) (h3 : (getL KA i : Option AC) = (.some (u8c x))) (h4 : ((iI (IntKind.i64.wrap ↑x.toNat)) : AV) = (iI (Int.ofNat x.toNat))) {Φ : Res → Prop} (ho : ∀ j, OutK E 1 1 (c72o_end KA OB C N ty o n cap fl ex i x j) Φ) (j : Nat → Value) : OutK E 1 1 (h72o' KA OB C N ty o n cap fl ex i x j) Φ :=
  outK_seg hE (Go.Proofs.YthjgejgnaicdpaaGreatDoor.R0_ok hE) [.run 3, (.cond true), .run 4, (.ops [(1, (.ix (i))), (2, (.ld (u8c x))), (3, (.rn (iI (Int.ofNat x.toNat))))] []), .run 5] [1, 2, 4, 5, 6, 7, 8] (s' := fun j => ⟨[(.some ⟨(C), (N), (ty), (fl), .cells⟩), (.some ⟨(KA), 8, 105, true, .cells⟩), (.some ⟨[(.v (.int .u8 0)), (.v (.int .u8 0)), (.v (.int .u8 0)), (.v (.int .u8 0)), (.v (.int .u8 0)), (.v (.int .u8 0)), (.v (.int .u8 0)), (.v (.int .u8 0))], 8, 105, true, .cells⟩), (.some ⟨(OB), 8, 105, true, .cells⟩)], [(.code (atC [1, 1, 0, 1, 0, 0, 1, 0, 0, 1, 0, 1, 0, 0] (bodyOf Tryz.f72))), (.inLoop (atC [1, 1, 0, 1, 0, 0, 1, 0, 0, 1, 0, 1, 0, 0] (bodyOf Tryz.f72))), (.inBlock 2), (.code (atC [1, 1, 0, 1, 0, 0, 1, 0, 0, 1, 1] (bodyOf Tryz.f72))), (.inBlock 1), (.code (atC [1, 1, 0, 1, 0, 0, 1, 1] (bodyOf Tryz.f72))), (.inLoop (atC [1, 1, 0, 1, 0, 0] (bodyOf Tryz.f72))), (.inBlock 0), (.code (atC [1, 1, 1] (bodyOf Tryz.f72)))], mkT j [(1, (.e (.one (.slc 0 (o) (n) 1 (cap) (ex))))), (2, (.e (.one (.ptr 1 0)))), (4, (.e (.one (.ptr 2 0)))), (5, (.e (.one (.ptr 3 0)))), (6, (iI (Int.ofNat i))), (7, (iI (Int.ofNat x.toNat))), (8, (iI 0))] 43 0⟩) (ps := [(decide (Int.ofNat i < 8) : Bool) = true, 0 ≤ Int.ofNat i ∧ Int.ofNat i < ↑8, (0 + (Int.ofNat i).toNat * 1 : Nat) = i, (getL KA i : Option AC) = (.some (u8c x)), ((iI (IntKind.i64.wrap ↑x.toNat)) : AV) = (iI (Int.ofNat x.toNat))]) (fun j => by kernel_rfl) ⟨h0, h1, h2, h3, h4, trivial⟩
    ho
def c72i_end (KA OB C : List AC) (N ty o n cap : Nat) (fl ex : Bool) (i k : Nat) (_x _b y : UInt8) (j : Nat → Value) : St := ⟨[(.some ⟨(C), (N), (ty), (fl), .cells⟩), (.some ⟨(KA), 8, 105, true, .cells⟩), (.some ⟨[(.v (.int .u8 0)), (.v (.int .u8 0)), (.v (.int .u8 0)), (.v (.int .u8 0)), (.v (.int .u8 0)), (.v (.int .u8 0)), (.v (.int .u8 0)), (.v (.int .u8 0))], 8, 105, true, .cells⟩), (.some ⟨(OB), 8, 105, true, .cells⟩)], [(.code (atC [1, 1, 0, 1, 0, 0, 1, 0, 0, 1, 0, 1, 0, 0] (bodyOf Tryz.f72))), (.inLoop (atC [1, 1, 0, 1, 0, 0, 1, 0, 0, 1, 0, 1, 0, 0] (bodyOf Tryz.f72))), (.inBlock 2), (.code (atC [1, 1, 0, 1, 0, 0, 1, 0, 0, 1, 1] (bodyOf Tryz.f72))), (.inBlock 1), (.code (atC [1, 1, 0, 1, 0, 0, 1, 1] (bodyOf Tryz.f72))), (.inLoop (atC [1, 1, 0, 1, 0, 0] (bodyOf Tryz.f72))), (.inBlock 0), (.code (atC [1, 1, 1] (bodyOf Tryz.f72)))], mkT j [(1, (.e (.one (.slc 0 (o) (n) 1 (cap) (ex))))), (2, (.e (.one (.ptr 1 0)))), (4, (.e (.one (.ptr 2 0)))), (5, (.e (.one (.ptr 3 0)))), (6, (iI (Int.ofNat i))), (7, (iI (Int.ofNat y.toNat))), (8, (iI (Int.ofNat (k + 1))))] 43 0⟩
theorem c72i (hE : EnvOk E) (KA OB C : List AC) (N ty o n cap : Nat) (fl ex : Bool) (i k : Nat) (x b y : UInt8) (h0 : (decide (Int.ofNat k < ↑n) : Bool) = true) (h1 : 0 ≤ Int.ofNat k ∧ Int.ofNat k < ↑n) (h2 : (o + (Int.ofNat k).toNat * 1 : Nat) = o + k) (h3 : (getL C (o + k) : Option AC) = (.some (u8c b))) (h4 : (256 : Int) ≠ 0) (h5 : ((wrapF IntKind.i64 (wrapF IntKind.i64 (wrapF IntKind.i64 (wrapF IntKind.i64 (wrapF IntKind.i64 (2 * Int.ofNat i) + 3) * Int.ofNat x.toNat) + IntKind.i64.wrap ↑b.toNat) + Int.ofNat i)).tmod 256 : Int) = ↑y.toNat) (h6 : ((iI (wrapF IntKind.i64 (Int.ofNat k + 1))) : AV) = (iI (Int.ofNat (k + 1)))) {Φ : Res → Prop} (ho : ∀ j, OutK E 1 1 (c72i_end KA OB C N ty o n cap fl ex i k x b y j) Φ) (j : Nat → Value) : OutK E 1 1 (h72i' KA OB C N ty o n cap fl ex i k x b y j) Φ :=
  outK_seg hE (Go.Proofs.YthjgejgnaicdpaaGreatDoor.R0_ok hE) [.run 3, (.cond true), .run 3, (.ops [(7, (.ix (o + k))), (8, (.ld (u8c b))), (13, (.quo (Int.ofNat y.toNat)))] []), .run 1, (.ops [(1, (.rn (iI (Int.ofNat (k + 1)))))] []), .run 1] [1, 2, 4, 5, 6, 7, 8] (s' := fun j => ⟨[(.some ⟨(C), (N), (ty), (fl), .cells⟩), (.some ⟨(KA), 8, 105, true, .cells⟩), (.some ⟨[(.v (.int .u8 0)), (.v (.int .u8 0)), (.v (.int .u8 0)), (.v (.int .u8 0)), (.v (.int .u8 0)), (.v (.int .u8 0)), (.v (.int .u8 0)), (.v (.int .u8 0))], 8, 105, true, .cells⟩), (.some ⟨(OB), 8, 105, true, .cells⟩)], [(.code (atC [1, 1, 0, 1, 0, 0, 1, 0, 0, 1, 0, 1, 0, 0] (bodyOf Tryz.f72))), (.inLoop (atC [1, 1, 0, 1, 0, 0, 1, 0, 0, 1, 0, 1, 0, 0] (bodyOf Tryz.f72))), (.inBlock 2), (.code (atC [1, 1, 0, 1, 0, 0, 1, 0, 0, 1, 1] (bodyOf Tryz.f72))), (.inBlock 1), (.code (atC [1, 1, 0, 1, 0, 0, 1, 1] (bodyOf Tryz.f72))), (.inLoop (atC [1, 1, 0, 1, 0, 0] (bodyOf Tryz.f72))), (.inBlock 0), (.code (atC [1, 1, 1] (bodyOf Tryz.f72)))], mkT j [(1, (.e (.one (.slc 0 (o) (n) 1 (cap) (ex))))), (2, (.e (.one (.ptr 1 0)))), (4, (.e (.one (.ptr 2 0)))), (5, (.e (.one (.ptr 3 0)))), (6, (iI (Int.ofNat i))), (7, (iI (Int.ofNat y.toNat))), (8, (iI (Int.ofNat (k + 1))))] 43 0⟩) (ps := [(decide (Int.ofNat k < ↑n) : Bool) = true, 0 ≤ Int.ofNat k ∧ Int.ofNat k < ↑n, (o + (Int.ofNat k).toNat * 1 : Nat) = o + k, (getL C (o + k) : Option AC) = (.some (u8c b)), (256 : Int) ≠ 0, ((wrapF IntKind.i64 (wrapF IntKind.i64 (wrapF IntKind.i64 (wrapF IntKind.i64 (wrapF IntKind.i64 (2 * Int.ofNat i) + 3) * Int.ofNat x.toNat) + IntKind.i64.wrap ↑b.toNat) + Int.ofNat i)).tmod 256 : Int) = ↑y.toNat, ((iI (wrapF IntKind.i64 (Int.ofNat k + 1))) : AV) = (iI (Int.ofNat (k + 1)))]) (fun j => by kernel_rfl) ⟨h0, h1, h2, h3, h4, h5, h6, trivial⟩
    ho
def c72ix_end (KA _OB OB' C : List AC) (N ty o n cap : Nat) (fl ex : Bool) (i _k : Nat) (_x : UInt8) (j : Nat → Value) : St := ⟨[(.some ⟨(C), (N), (ty), (fl), .cells⟩), (.some ⟨(KA), 8, 105, true, .cells⟩), (.some ⟨[(.v (.int .u8 0)), (.v (.int .u8 0)), (.v (.int .u8 0)), (.v (.int .u8 0)), (.v (.int .u8 0)), (.v (.int .u8 0)), (.v (.int .u8 0)), (.v (.int .u8 0))], 8, 105, true, .cells⟩), (.some ⟨(OB'), 8, 105, true, .cells⟩)], [(.code (atC [1, 1, 0, 1, 0, 0] (bodyOf Tryz.f72))), (.inLoop (atC [1, 1, 0, 1, 0, 0] (bodyOf Tryz.f72))), (.inBlock 0), (.code (atC [1, 1, 1] (bodyOf Tryz.f72)))], mkT j [(1, (.e (.one (.slc 0 (o) (n) 1 (cap) (ex))))), (2, (.e (.one (.ptr 1 0)))), (4, (.e (.one (.ptr 2 0)))), (5, (.e (.one (.ptr 3 0)))), (6, (iI (Int.ofNat (i + 1))))] 43 0⟩
theorem c72ix (hE : EnvOk E) (KA OB OB' C : List AC) (N ty o n cap : Nat) (fl ex : Bool) (i k : Nat) (x : UInt8) (h0 : (decide (Int.ofNat k < ↑n) : Bool) = false) (h1 : ((iU (Int.ofNat (x.toNat % 256))) : AV) = (iU (Int.ofNat x.toNat))) (h2 : 0 ≤ Int.ofNat i ∧ Int.ofNat i < ↑8) (h3 : (0 + (Int.ofNat i).toNat * 1 : Nat) = i) (h4 : i + 1 ≤ 8) (h5 : (overL [AC.v (Value.int IntKind.u8 ↑x.toNat)] OB i : List AC) = OB') (h6 : ((iI (wrapF IntKind.i64 (Int.ofNat i + 1))) : AV) = (iI (Int.ofNat (i + 1)))) {Φ : Res → Prop} (ho : ∀ j, OutK E 1 1 (c72ix_end KA OB OB' C N ty o n cap fl ex i k x j) Φ) (j : Nat → Value) : OutK E 1 1 (h72ix KA OB OB' C N ty o n cap fl ex i k x j) Φ :=
  outK_seg hE (Go.Proofs.YthjgejgnaicdpaaGreatDoor.R0_ok hE) [.run 3, (.cond false), .run 1, (.ops [(2, (.rn (iU (Int.ofNat x.toNat)))), (3, (.ix (i))), (4, (.st (OB')))] []), .run 1, (.ops [(1, (.rn (iI (Int.ofNat (i + 1)))))] []), .run 1] [1, 2, 4, 5, 6] (s' := fun j => ⟨[(.some ⟨(C), (N), (ty), (fl), .cells⟩), (.some ⟨(KA), 8, 105, true, .cells⟩), (.some ⟨[(.v (.int .u8 0)), (.v (.int .u8 0)), (.v (.int .u8 0)), (.v (.int .u8 0)), (.v (.int .u8 0)), (.v (.int .u8 0)), (.v (.int .u8 0)), (.v (.int .u8 0))], 8, 105, true, .cells⟩), (.some ⟨(OB'), 8, 105, true, .cells⟩)], [(.code (atC [1, 1, 0, 1, 0, 0] (bodyOf Tryz.f72))), (.inLoop (atC [1, 1, 0, 1, 0, 0] (bodyOf Tryz.f72))), (.inBlock 0), (.code (atC [1, 1, 1] (bodyOf Tryz.f72)))], mkT j [(1, (.e (.one (.slc 0 (o) (n) 1 (cap) (ex))))), (2, (.e (.one (.ptr 1 0)))), (4, (.e (.one (.ptr 2 0)))), (5, (.e (.one (.ptr 3 0)))), (6, (iI (Int.ofNat (i + 1))))] 43 0⟩) (ps := [(decide (Int.ofNat k < ↑n) : Bool) = false, ((iU (Int.ofNat (x.toNat % 256))) : AV) = (iU (Int.ofNat x.toNat)), 0 ≤ Int.ofNat i ∧ Int.ofNat i < ↑8, (0 + (Int.ofNat i).toNat * 1 : Nat) = i, i + 1 ≤ 8, (overL [AC.v (Value.int IntKind.u8 ↑x.toNat)] OB i : List AC) = OB', ((iI (wrapF IntKind.i64 (Int.ofNat i + 1))) : AV) = (iI (Int.ofNat (i + 1)))]) (fun j => by kernel_rfl) ⟨h0, h1, h2, h3, h4, h5, h6, trivial⟩
    ho
def c72x_end (_KA : List AC) (a0 a1 a2 a3 a4 a5 a6 a7 : UInt8) (C : List AC) (N ty _o _n _cap : Nat) (fl _ex : Bool) (j : Nat → Value) : St := ⟨[(.some ⟨(C), (N), (ty), (fl), .cells⟩), (.some ⟨[u8c a0, u8c a1, u8c a2, u8c a3, u8c a4, u8c a5, u8c a6, u8c a7], 8, 105, true, .cells⟩)], [(.code .ret)], mkT j [(4, (.e (.one (.ptr 1 0))))] 43 0⟩
theorem c72x (hE : EnvOk E) (KA : List AC) (a0 a1 a2 a3 a4 a5 a6 a7 : UInt8) (C : List AC) (N ty o n cap : Nat) (fl ex : Bool) (g0 : FlatC (C)) {Φ : Res → Prop} (ho : ∀ j, OutK E 1 1 (c72x_end KA a0 a1 a2 a3 a4 a5 a6 a7 C N ty o n cap fl ex j) Φ) (j : Nat → Value) : OutK E 1 1 (h72x KA a0 a1 a2 a3 a4 a5 a6 a7 C N ty o n cap fl ex j) Φ :=
  outK_seg hE (Go.Proofs.YthjgejgnaicdpaaGreatDoor.R0_ok hE) [.run 7] [4] (s' := fun j => ⟨[(.some ⟨(C), (N), (ty), (fl), .cells⟩), (.some ⟨(KA), 8, 105, true, .cells⟩), (.some ⟨[u8c a0, u8c a1, u8c a2, u8c a3, u8c a4, u8c a5, u8c a6, u8c a7], 8, 105, true, .cells⟩), (.some ⟨[u8c a0, u8c a1, u8c a2, u8c a3, u8c a4, u8c a5, u8c a6, u8c a7], 8, 105, true, .cells⟩)], [(.code .ret)], mkT j [(4, (.e (.one (.ptr 2 0))))] 43 0⟩) (ps := []) (fun j => by kernel_rfl) trivial
    fun j => outK_gcF [0, 2] [true, false] (h' := [(.some ⟨(C), (N), (ty), (fl), .cells⟩), (.some ⟨[u8c a0, u8c a1, u8c a2, u8c a3, u8c a4, u8c a5, u8c a6, u8c a7], 8, 105, true, .cells⟩)]) (by decide) (by kernel_rfl) (by kernel_rfl) ⟨g0, trivial⟩ (by kernel_rfl) (ho j)
def sealH (i : Nat) (ks bs : List UInt8) : List UInt8 := ks.mapIdx fun m x => if m < i then sealX m x bs else 0
theorem sealH_zero (ks bs : List UInt8) (h : ks.length = 8) : (sealH 0 ks bs).map u8c = Z8 := by
  obtain ⟨a0, a1, a2, a3, a4, a5, a6, a7, rfl⟩ := len8 h
  rfl
theorem sealH_all (ks bs : List UInt8) : sealH ks.length ks bs = sealK ks bs := by
  apply List.ext_getElem?
  intro i
  simp only [sealH, sealK, List.getElem?_mapIdx]
  cases h : ks[i]? with
  | none => rfl
  | some x =>
    have := (List.getElem?_eq_some_iff.1 h).1
    simp [this]
theorem sealH_set (ks bs : List UInt8) (i : Nat) (x : UInt8) (h : ks[i]? = some x) : overL [u8c (sealX i x bs)] ((sealH i ks bs).map u8c) i = (sealH (i + 1) ks bs).map u8c := by
  have hlt := (List.getElem?_eq_some_iff.1 h).1
  show setL ((sealH i ks bs).map u8c) i (u8c (sealX i x bs)) = _
  rw [setL_eq]
  apply List.ext_getElem?
  intro m
  simp only [sealH, List.getElem?_set, List.getElem?_map, List.getElem?_mapIdx, List.length_map, List.length_mapIdx]
  by_cases hm : i = m
  · subst hm
    obtain ⟨_, rfl⟩ := List.getElem?_eq_some_iff.1 h
    simp [hlt]
  · simp only [hm, if_false]
    cases hk : ks[m]? with
    | none => rfl
    | some y =>
      have : (m < i) = (m < i + 1) := by apply propext; omega
      simp [this]

theorem ref_step (i : Nat) (hi : i < 8) (x b : UInt8) :
    (wrapF IntKind.i64 (wrapF IntKind.i64 (wrapF IntKind.i64 (wrapF IntKind.i64 (wrapF IntKind.i64 (2 * Int.ofNat i) + 3) * Int.ofNat x.toNat) + IntKind.i64.wrap ↑b.toNat) + Int.ofNat i)).tmod 256 = ↑(sealB i x b).toNat := by
  have hx := u8_lt x
  have hb := u8_lt b
  simp only [Int.ofNat_eq_natCast]
  have e3 : (2 * (i : Int) + 3) * (x.toNat : Int) = (((2 * i + 3) * x.toNat : Nat) : Int) := by push_cast; rfl
  have hle : (2 * i + 3) * x.toNat ≤ 17 * 255 := Nat.mul_le_mul (by omega) (by omega)
  rw [wrap_id (n := 2 * (i : Int)) (by omega) (by omega), wrap_id (n := 2 * (i : Int) + 3) (by omega) (by omega), e3, wrap_id (n := (((2 * i + 3) * x.toNat : Nat) : Int)) (by omega) (by omega), IntWalk.i64_in (b.toNat : Int) (by omega), wrap_id (n := (((2 * i + 3) * x.toNat : Nat) : Int) + (b.toNat : Int)) (by omega) (by omega), wrap_id (n := (((2 * i + 3) * x.toNat : Nat) : Int) + (b.toNat : Int) + (i : Int)) (by omega) (by omega)]
  rw [Int.tmod_eq_emod_of_nonneg (by omega)]
  simp only [sealB, UInt8.toNat_ofNat']
  omega

theorem l72 (hE : EnvOk E) {KA OB C : List AC} {N ty o n cap : Nat} {fl ex : Bool} {i : Nat} (hi : i < 8) (bs : List UInt8) (hn : bs.length = n) (hm : n ≤ 4000000) (hC : ∀ k x, bs[k]? = some x → getL C (o + k) = some (u8c x)) {Φ : Res → Prop} (x0 : UInt8)
    (hend : ∀ j, OutK E 1 1 (h72i KA OB C N ty o n cap fl ex i n x0 j) Φ) :
    ∀ m k x, m + k = n → sealX i x (bs.drop k) = x0 → ∀ j, OutK E 1 1 (h72i KA OB C N ty o n cap fl ex i k x j) Φ
  | 0, k, x, hk, hx, j => by
    have e : bs.drop k = [] := List.drop_eq_nil_of_le (by omega)
    rw [e] at hx
    have hx' : x = x0 := hx
    have hk' : k = n := by omega
    subst hx' hk'
    exact hend j
  | m + 1, k, x, hk, hx, j => by
    have hlt : k < bs.length := by omega
    have hb : bs[k]? = some bs[k] := List.getElem?_eq_getElem hlt
    have e : bs.drop k = bs[k] :: bs.drop (k + 1) := List.drop_eq_getElem_cons hlt
    generalize bs[k] = b at hb e
    rw [e] at hx
    have hx' : sealX i (sealB i x b) (bs.drop (k + 1)) = x0 := hx
    exact c72i hE KA OB C N ty o n cap fl ex i k x b (sealB i x b) (decide_eq_true (by simp only [Int.ofNat_eq_natCast]; omega)) (by simp only [Int.ofNat_eq_natCast]; omega) (by simp) (hC k b hb) (by decide) (ref_step i hi x b)
      (iIe (by rw [wrap_id (by simp only [Int.ofNat_eq_natCast]; omega) (by simp only [Int.ofNat_eq_natCast]; omega)]; simp)) (l72 hE hi bs hn hm hC x0 hend m (k + 1) (sealB i x b) (by omega) hx') j

theorem o72 (hE : EnvOk E) {C : List AC} {N ty o n cap : Nat} {fl ex : Bool} (ks bs : List UInt8) (hks : ks.length = 8) (hn : bs.length = n) (hm : n ≤ 4000000) (hC : ∀ k x, bs[k]? = some x → getL C (o + k) = some (u8c x)) {Φ : Res → Prop}
    (hend : ∀ j, OutK E 1 1 (h72o (ks.map u8c) ((sealK ks bs).map u8c) C N ty o n cap fl ex 8 j) Φ) :
    ∀ m i, m + i = 8 → ∀ j, OutK E 1 1 (h72o (ks.map u8c) ((sealH i ks bs).map u8c) C N ty o n cap fl ex i j) Φ
  | 0, i, hi, j => by
    have : i = 8 := by omega
    subst this
    have e := sealH_all ks bs
    rw [hks] at e
    rw [e]
    exact hend j
  | m + 1, i, hi, j => by
    have hlt : i < ks.length := by omega
    have hb : ks[i]? = some ks[i] := List.getElem?_eq_getElem hlt
    generalize ks[i] = x at hb
    have hx := u8_lt x
    have hx2 := u8_lt (sealX i x bs)
    refine c72o hE (ks.map u8c) ((sealH i ks bs).map u8c) C N ty o n cap fl ex i x (decide_eq_true (by simp only [Int.ofNat_eq_natCast]; omega)) (by simp only [Int.ofNat_eq_natCast]; omega) (by simp) (by rw [getL_eq]; simp [hb, u8c]) (iIe (by rw [IntWalk.i64_in _ (by omega)]; rfl)) ?_ j
    refine fun j => l72 hE (by omega) bs hn hm hC (sealX i x bs) ?_ n 0 x (by omega) (by simp) j
    intro j
    exact c72ix hE (ks.map u8c) ((sealH i ks bs).map u8c) ((sealH (i + 1) ks bs).map u8c) C N ty o n cap fl ex i n (sealX i x bs) (decide_eq_false (by simp only [Int.ofNat_eq_natCast]; omega)) (iUe (by rw [Nat.mod_eq_of_lt hx2])) (by simp only [Int.ofNat_eq_natCast]; omega) (by simp) (by omega) (sealH_set ks bs i x hb)
      (iIe (by rw [wrap_id (by simp only [Int.ofNat_eq_natCast]; omega) (by simp only [Int.ofNat_eq_natCast]; omega)]; simp)) (o72 hE ks bs hks hn hm hC hend m (i + 1) (by omega)) j

/-- ref.Seal -/
theorem k72 (hE : EnvOk E) {C : List AC} {N ty o n cap : Nat} {fl ex : Bool} (ks bs : List UInt8) (hks : ks.length = 8) (hn : bs.length = n) (hm : n ≤ 4000000) (hC : ∀ k x, bs[k]? = some x → getL C (o + k) = some (u8c x)) (hf : FlatC C) :
    COut E 1 [some ⟨C, N, ty, fl, .cells⟩] 72 [.e (.agg (ks.map u8c)), .e (.one (.slc 0 o n 1 cap ex))] (.e (.agg ((sealK ks bs).map u8c))) [some ⟨C, N, ty, fl, .cells⟩] := by
  have ho := o72 hE (N := N) (ty := ty) (cap := cap) (fl := fl) (ex := ex) ks bs hks hn hm hC (Φ := Go.Ev.Ends E Tryz.f72 (.e (.agg ((sealK ks bs).map u8c))) [some ⟨C, N, ty, fl, .cells⟩, some ⟨(sealK ks bs).map u8c, 8, 105, true, .cells⟩]) (by
    obtain ⟨a0, a1, a2, a3, a4, a5, a6, a7, he⟩ := len8 ((sealK_length ks bs).trans hks)
    rw [he]
    exact fun j => c72x hE _ a0 a1 a2 a3 a4 a5 a6 a7 C N ty o n cap fl ex hf (fun j => outK_ret (ends_ret (by kernel_rfl))) j) 8 0 (by omega)
  rw [sealH_zero _ _ hks] at ho
  obtain ⟨a0, a1, a2, a3, a4, a5, a6, a7, rfl⟩ := len8 hks
  have hc := cOut_start Tryz.func72 rfl (c72a hE a0 a1 a2 a3 a4 a5 a6 a7 C N ty o n cap fl ex ho fun _ => undef)
  exact cOut_gcF [0] [true] (h' := [some ⟨C, N, ty, fl, .cells⟩]) (Nat.le_refl _) hc (by kernel_rfl) (by kernel_rfl) ⟨hf, trivial⟩ (by
    show AV.e (AE.agg (((sealK _ bs).map u8c).map _)) = _
    rw [flat_ren (flat_u8c _)])
end
end Go.Proofs.YthjgejgnaicdpaaGreatDoor
