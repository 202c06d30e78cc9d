/-
  Part of the proof: SeBb, SeBc, SeBd.
-/
import Derived.Test.YtaccakbjankeeaaGreatDoorSeZF

/-! SeBb -/
section
open Go Go.Ev Go.Proofs
namespace Go.Proofs.YtaccakbjankeeaaGreatDoor
set_option maxRecDepth 100000
set_option maxHeartbeats 20000000
def lvT : List Int := [0, 1, 3, 2, 7, 6, 4, 5, 15, 14, 12, 13, 8, 9, 11, 10, 31, 30, 28, 29, 24, 25, 27, 26, 16, 17, 19, 18, 23, 22, 20, 21, 63, 62, 60, 61, 56, 57, 59, 58, 48, 49, 51, 50, 55, 54, 52, 53, 32, 33, 35, 34, 39, 38, 36, 37, 47, 46, 44, 45, 40, 41, 43, 42]
def nbT : List Int := [0, 1, 3, 2, 6, 7, 5, 4, 12, 13, 15, 14, 10, 11, 9, 8, 24, 25, 27, 26, 30, 31, 29, 28, 20, 21, 23, 22, 18, 19, 17, 16, 48, 49, 51, 50, 54, 55, 53, 52, 60, 61, 63, 62, 58, 59, 57, 56, 40, 41, 43, 42, 46, 47, 45, 44, 36, 37, 39, 38, 34, 35, 33, 32]
theorem K75 (hE : EnvOk E) : ∀ n : Nat, n < 7 → COut E 0 [] 75 [iI (Int.ofNat n)] (iI (2 ^ n)) []
 | 0, _ => cOut_run (n := 400) hE (by kernel_rfl)
 | 1, _ => cOut_run (n := 400) hE (by kernel_rfl)
 | 2, _ => cOut_run (n := 400) hE (by kernel_rfl)
 | 3, _ => cOut_run (n := 400) hE (by kernel_rfl)
 | 4, _ => cOut_run (n := 400) hE (by kernel_rfl)
 | 5, _ => cOut_run (n := 400) hE (by kernel_rfl)
 | 6, _ => cOut_run (n := 400) hE (by kernel_rfl)
 | n + 7, h => absurd h (by omega)
theorem K87 (hE : EnvOk E) : ∀ n : Nat, n < 64 → COut E 0 [] 87 [iI (Int.ofNat n)] (iI (lvT.getD n 0)) []
 | 0, _ => cOut_run (n := 400) hE (by kernel_rfl)
 | 1, _ => cOut_run (n := 400) hE (by kernel_rfl)
 | 2, _ => cOut_run (n := 400) hE (by kernel_rfl)
 | 3, _ => cOut_run (n := 400) hE (by kernel_rfl)
 | 4, _ => cOut_run (n := 400) hE (by kernel_rfl)
 | 5, _ => cOut_run (n := 400) hE (by kernel_rfl)
 | 6, _ => cOut_run (n := 400) hE (by kernel_rfl)
 | 7, _ => cOut_run (n := 400) hE (by kernel_rfl)
 | 8, _ => cOut_run (n := 400) hE (by kernel_rfl)
 | 9, _ => cOut_run (n := 400) hE (by kernel_rfl)
 | 10, _ => cOut_run (n := 400) hE (by kernel_rfl)
 | 11, _ => cOut_run (n := 400) hE (by kernel_rfl)
 | 12, _ => cOut_run (n := 400) hE (by kernel_rfl)
 | 13, _ => cOut_run (n := 400) hE (by kernel_rfl)
 | 14, _ => cOut_run (n := 400) hE (by kernel_rfl)
 | 15, _ => cOut_run (n := 400) hE (by kernel_rfl)
 | 16, _ => cOut_run (n := 400) hE (by kernel_rfl)
 | 17, _ => cOut_run (n := 400) hE (by kernel_rfl)
 | 18, _ => cOut_run (n := 400) hE (by kernel_rfl)
 | 19, _ => cOut_run (n := 400) hE (by kernel_rfl)
 | 20, _ => cOut_run (n := 400) hE (by kernel_rfl)
 | 21, _ => cOut_run (n := 400) hE (by kernel_rfl)
 | 22, _ => cOut_run (n := 400) hE (by kernel_rfl)
 | 23, _ => cOut_run (n := 400) hE (by kernel_rfl)
 | 24, _ => cOut_run (n := 400) hE (by kernel_rfl)
 | 25, _ => cOut_run (n := 400) hE (by kernel_rfl)
 | 26, _ => cOut_run (n := 400) hE (by kernel_rfl)
 | 27, _ => cOut_run (n := 400) hE (by kernel_rfl)
 | 28, _ => cOut_run (n := 400) hE (by kernel_rfl)
 | 29, _ => cOut_run (n := 400) hE (by kernel_rfl)
 | 30, _ => cOut_run (n := 400) hE (by kernel_rfl)
 | 31, _ => cOut_run (n := 400) hE (by kernel_rfl)
 | 32, _ => cOut_run (n := 400) hE (by kernel_rfl)
 | 33, _ => cOut_run (n := 400) hE (by kernel_rfl)
 | 34, _ => cOut_run (n := 400) hE (by kernel_rfl)
 | 35, _ => cOut_run (n := 400) hE (by kernel_rfl)
 | 36, _ => cOut_run (n := 400) hE (by kernel_rfl)
 | 37, _ => cOut_run (n := 400) hE (by kernel_rfl)
 | 38, _ => cOut_run (n := 400) hE (by kernel_rfl)
 | 39, _ => cOut_run (n := 400) hE (by kernel_rfl)
 | 40, _ => cOut_run (n := 400) hE (by kernel_rfl)
 | 41, _ => cOut_run (n := 400) hE (by kernel_rfl)
 | 42, _ => cOut_run (n := 400) hE (by kernel_rfl)
 | 43, _ => cOut_run (n := 400) hE (by kernel_rfl)
 | 44, _ => cOut_run (n := 400) hE (by kernel_rfl)
 | 45, _ => cOut_run (n := 400) hE (by kernel_rfl)
 | 46, _ => cOut_run (n := 400) hE (by kernel_rfl)
 | 47, _ => cOut_run (n := 400) hE (by kernel_rfl)
 | 48, _ => cOut_run (n := 400) hE (by kernel_rfl)
 | 49, _ => cOut_run (n := 400) hE (by kernel_rfl)
 | 50, _ => cOut_run (n := 400) hE (by kernel_rfl)
 | 51, _ => cOut_run (n := 400) hE (by kernel_rfl)
 | 52, _ => cOut_run (n := 400) hE (by kernel_rfl)
 | 53, _ => cOut_run (n := 400) hE (by kernel_rfl)
 | 54, _ => cOut_run (n := 400) hE (by kernel_rfl)
 | 55, _ => cOut_run (n := 400) hE (by kernel_rfl)
 | 56, _ => cOut_run (n := 400) hE (by kernel_rfl)
 | 57, _ => cOut_run (n := 400) hE (by kernel_rfl)
 | 58, _ => cOut_run (n := 400) hE (by kernel_rfl)
 | 59, _ => cOut_run (n := 400) hE (by kernel_rfl)
 | 60, _ => cOut_run (n := 400) hE (by kernel_rfl)
 | 61, _ => cOut_run (n := 400) hE (by kernel_rfl)
 | 62, _ => cOut_run (n := 400) hE (by kernel_rfl)
 | 63, _ => cOut_run (n := 400) hE (by kernel_rfl)
 | n + 64, h => absurd h (by omega)
theorem K92 (hE : EnvOk E) : ∀ n : Nat, n < 64 → COut E 0 [] 92 [iI (Int.ofNat n)] (iI (nbT.getD n 0)) []
 | 0, _ => cOut_run (n := 400) hE (by kernel_rfl)
 | 1, _ => cOut_run (n := 400) hE (by kernel_rfl)
 | 2, _ => cOut_run (n := 400) hE (by kernel_rfl)
 | 3, _ => cOut_run (n := 400) hE (by kernel_rfl)
 | 4, _ => cOut_run (n := 400) hE (by kernel_rfl)
 | 5, _ => cOut_run (n := 400) hE (by kernel_rfl)
 | 6, _ => cOut_run (n := 400) hE (by kernel_rfl)
 | 7, _ => cOut_run (n := 400) hE (by kernel_rfl)
 | 8, _ => cOut_run (n := 400) hE (by kernel_rfl)
 | 9, _ => cOut_run (n := 400) hE (by kernel_rfl)
 | 10, _ => cOut_run (n := 400) hE (by kernel_rfl)
 | 11, _ => cOut_run (n := 400) hE (by kernel_rfl)
 | 12, _ => cOut_run (n := 400) hE (by kernel_rfl)
 | 13, _ => cOut_run (n := 400) hE (by kernel_rfl)
 | 14, _ => cOut_run (n := 400) hE (by kernel_rfl)
 | 15, _ => cOut_run (n := 400) hE (by kernel_rfl)
 | 16, _ => cOut_run (n := 400) hE (by kernel_rfl)
 | 17, _ => cOut_run (n := 400) hE (by kernel_rfl)
 | 18, _ => cOut_run (n := 400) hE (by kernel_rfl)
 | 19, _ => cOut_run (n := 400) hE (by kernel_rfl)
 | 20, _ => cOut_run (n := 400) hE (by kernel_rfl)
 | 21, _ => cOut_run (n := 400) hE (by kernel_rfl)
 | 22, _ => cOut_run (n := 400) hE (by kernel_rfl)
 | 23, _ => cOut_run (n := 400) hE (by kernel_rfl)
 | 24, _ => cOut_run (n := 400) hE (by kernel_rfl)
 | 25, _ => cOut_run (n := 400) hE (by kernel_rfl)
 | 26, _ => cOut_run (n := 400) hE (by kernel_rfl)
 | 27, _ => cOut_run (n := 400) hE (by kernel_rfl)
 | 28, _ => cOut_run (n := 400) hE (by kernel_rfl)
 | 29, _ => cOut_run (n := 400) hE (by kernel_rfl)
 | 30, _ => cOut_run (n := 400) hE (by kernel_rfl)
 | 31, _ => cOut_run (n := 400) hE (by kernel_rfl)
 | 32, _ => cOut_run (n := 400) hE (by kernel_rfl)
 | 33, _ => cOut_run (n := 400) hE (by kernel_rfl)
 | 34, _ => cOut_run (n := 400) hE (by kernel_rfl)
 | 35, _ => cOut_run (n := 400) hE (by kernel_rfl)
 | 36, _ => cOut_run (n := 400) hE (by kernel_rfl)
 | 37, _ => cOut_run (n := 400) hE (by kernel_rfl)
 | 38, _ => cOut_run (n := 400) hE (by kernel_rfl)
 | 39, _ => cOut_run (n := 400) hE (by kernel_rfl)
 | 40, _ => cOut_run (n := 400) hE (by kernel_rfl)
 | 41, _ => cOut_run (n := 400) hE (by kernel_rfl)
 | 42, _ => cOut_run (n := 400) hE (by kernel_rfl)
 | 43, _ => cOut_run (n := 400) hE (by kernel_rfl)
 | 44, _ => cOut_run (n := 400) hE (by kernel_rfl)
 | 45, _ => cOut_run (n := 400) hE (by kernel_rfl)
 | 46, _ => cOut_run (n := 400) hE (by kernel_rfl)
 | 47, _ => cOut_run (n := 400) hE (by kernel_rfl)
 | 48, _ => cOut_run (n := 400) hE (by kernel_rfl)
 | 49, _ => cOut_run (n := 400) hE (by kernel_rfl)
 | 50, _ => cOut_run (n := 400) hE (by kernel_rfl)
 | 51, _ => cOut_run (n := 400) hE (by kernel_rfl)
 | 52, _ => cOut_run (n := 400) hE (by kernel_rfl)
 | 53, _ => cOut_run (n := 400) hE (by kernel_rfl)
 | 54, _ => cOut_run (n := 400) hE (by kernel_rfl)
 | 55, _ => cOut_run (n := 400) hE (by kernel_rfl)
 | 56, _ => cOut_run (n := 400) hE (by kernel_rfl)
 | 57, _ => cOut_run (n := 400) hE (by kernel_rfl)
 | 58, _ => cOut_run (n := 400) hE (by kernel_rfl)
 | 59, _ => cOut_run (n := 400) hE (by kernel_rfl)
 | 60, _ => cOut_run (n := 400) hE (by kernel_rfl)
 | 61, _ => cOut_run (n := 400) hE (by kernel_rfl)
 | 62, _ => cOut_run (n := 400) hE (by kernel_rfl)
 | 63, _ => cOut_run (n := 400) hE (by kernel_rfl)
 | n + 64, h => absurd h (by omega)
end Go.Proofs.YtaccakbjankeeaaGreatDoor
end

/-! SeBc -/
section
open Go Go.Ev
namespace Go.Proofs.YtaccakbjankeeaaGreatDoor
noncomputable section
set_option maxRecDepth 100000
set_option maxHeartbeats 20000000
def x95 (x : Int) (_j : Nat → Value) : St := startK Tryz.f95 [] [iI x]
def x86 (C : List DT) (n k : Nat) (_j : Nat → Value) : St := startK Tryz.f86 [] [(.e (.one (.dp (.s C n 1)))), (iI (Int.ofNat k))]
def y95 (i : Nat) (x : Int) (j : Nat → Value) : St := ⟨[], [(.code (atC [1, 0, 1, 0, 0] (bodyOf Tryz.f95))), (.inLoop (atC [1, 0, 1, 0, 0] (bodyOf Tryz.f95))), (.inBlock 0), (.code (atC [1, 1] (bodyOf Tryz.f95)))], mkT j [(0, (iI (x))), (3, (iI (Int.ofNat i)))] 16 0⟩
def y86 (i k : Nat) (a : Int) (D : List DT) (m : Nat) (j : Nat → Value) : St := ⟨[], [(.code (atC [1, 1, 0, 1, 0, 0] (bodyOf Tryz.f86))), (.inLoop (atC [1, 1, 0, 1, 0, 0] (bodyOf Tryz.f86))), (.inBlock 0), (.code (atC [1, 1, 1] (bodyOf Tryz.f86)))], mkT j [(0, (.e (.one (.dp (.s D m 1))))), (6, (iI a)), (7, (iI (Int.ofNat k))), (8, (iI (Int.ofNat i)))] 25 0⟩
def p95a_end (x : Int) (j : Nat → Value) : St := ⟨[], [(.code (atC [1, 0, 1, 0, 0] (bodyOf Tryz.f95))), (.inLoop (atC [1, 0, 1, 0, 0] (bodyOf Tryz.f95))), (.inBlock 0), (.code (atC [1, 1] (bodyOf Tryz.f95)))], mkT j [(0, (iI (x))), (3, (iI 0))] 16 0⟩
theorem p95a (hE : EnvOk E) (x : Int) {Φ : Res → Prop} (ho : ∀ j, OutK E 0 0 (p95a_end x j) Φ) (j : Nat → Value) : OutK E 0 0 (x95 x j) Φ :=
 oS hE [.run 7] [0, 3] (ps := []) trivial
  ho
def p86a_end (C : List DT) (n k : Nat) (j : Nat → Value) : St := ⟨[], [(.code (atC [1, 1, 0, 1, 0, 0] (bodyOf Tryz.f86))), (.inLoop (atC [1, 1, 0, 1, 0, 0] (bodyOf Tryz.f86))), (.inBlock 0), (.code (atC [1, 1, 1] (bodyOf Tryz.f86)))], mkT j [(0, (.e (.one (.dp (.s (C) (n) 1))))), (6, (iI 0)), (7, (iI (Int.ofNat k))), (8, (iI 0))] 25 0⟩
theorem p86a (hE : EnvOk E) (C : List DT) (n k : Nat) {Φ : Res → Prop} (ho : ∀ j, OutK E 0 0 (p86a_end C n k j) Φ) (j : Nat → Value) : OutK E 0 0 (x86 C n k j) Φ :=
 oS hE [.run 9] [0, 6, 7, 8] (ps := []) trivial
  ho
def p95s_end (i : Nat) (x : Int) (j : Nat → Value) : St := ⟨[], [(.code (atC [1, 0, 1, 0, 0] (bodyOf Tryz.f95))), (.inLoop (atC [1, 0, 1, 0, 0] (bodyOf Tryz.f95))), (.inBlock 0), (.code (atC [1, 1] (bodyOf Tryz.f95)))], mkT j [(0, (iI (x))), (3, (iI (Int.ofNat (i + 1))))] 16 0⟩
theorem p95s (hE : EnvOk E) (i : Nat) (x g h : Int) (h0 : COut E 0 [] 75 [(iI 6)] (iI 64) []) (h2 : (decide (Int.ofNat i < (64 : Int)) : Bool) = true) (h3 : ((2 : Int) : Int) ≠ (0 : Int)) (h4 : (wrapF IntKind.i64 ((Int.ofNat i).tdiv (2 : Int)) : Int) = h) (h5 : BinOk E.P BinOp.xor (3 : Nat) (Operand.tmp (9 : Nat)) (Operand.tmp (11 : Nat)) (AC.v (Value.int IntKind.i64 (Int.ofNat i))) (AC.v (Value.int IntKind.i64 h)) (AC.v (Value.int IntKind.i64 g))) (h6 : (g == x : Bool) = false) (h7 : ((iI (wrapF IntKind.i64 (Int.ofNat i + (1 : Int)))) : AV) = (iI (Int.ofNat (i + 1)))) {Φ : Res → Prop} (ho : ∀ j, OutK E 0 0 (p95s_end i x j) Φ) (j : Nat → Value) : OutK E 0 0 (y95 i x j) Φ :=
 oS hE [.run 2, (.ops [(1, (.c0 (iI 64)))] []), (.cond true), .run 4, (.ops [(2, (.quo (h))), (3, (.fb (.v (.int .i64 (g)))))] []), (.cond false), .run 2, (.ops [(1, (.rn (iI (Int.ofNat (i + 1)))))] []), .run 1] [0, 3] (aP h0 <| aN <| aP h2 <| aP h3 <| aP h4 <| aP h5 <| aP h6 <| aP h7 <| aZ)
  ho
def p95m_end (i : Nat) (j : Nat → Value) : St := ⟨[], [(.code .ret), (.inBlock 1), (.code (atC [1, 0, 1, 0, 0, 1, 1] (bodyOf Tryz.f95))), (.inLoop (atC [1, 0, 1, 0, 0] (bodyOf Tryz.f95))), (.inBlock 0), (.code (atC [1, 1] (bodyOf Tryz.f95)))], mkT j [(2, (iI (Int.ofNat i)))] 16 0⟩
theorem p95m (hE : EnvOk E) (i : Nat) (x g h : Int) (h0 : COut E 0 [] 75 [(iI 6)] (iI 64) []) (h2 : (decide (Int.ofNat i < (64 : Int)) : Bool) = true) (h3 : ((2 : Int) : Int) ≠ (0 : Int)) (h4 : (wrapF IntKind.i64 ((Int.ofNat i).tdiv (2 : Int)) : Int) = h) (h5 : BinOk E.P BinOp.xor (3 : Nat) (Operand.tmp (9 : Nat)) (Operand.tmp (11 : Nat)) (AC.v (Value.int IntKind.i64 (Int.ofNat i))) (AC.v (Value.int IntKind.i64 h)) (AC.v (Value.int IntKind.i64 g))) (h6 : (g == x : Bool) = true) {Φ : Res → Prop} (ho : ∀ j, OutK E 0 0 (p95m_end i j) Φ) (j : Nat → Value) : OutK E 0 0 (y95 i x j) Φ :=
 oS hE [.run 2, (.ops [(1, (.c0 (iI 64)))] []), (.cond true), .run 4, (.ops [(2, (.quo (h))), (3, (.fb (.v (.int .i64 (g)))))] []), (.cond true), .run 2] [2] (aP h0 <| aN <| aP h2 <| aP h3 <| aP h4 <| aP h5 <| aP h6 <| aZ)
  ho
def p86e_end (i k : Nat) (g : Int) (D : List DT) (m : Nat) (j : Nat → Value) : St := ⟨[], [(.code (atC [1, 1, 0, 1, 0, 0] (bodyOf Tryz.f86))), (.inLoop (atC [1, 1, 0, 1, 0, 0] (bodyOf Tryz.f86))), (.inBlock 0), (.code (atC [1, 1, 1] (bodyOf Tryz.f86)))], mkT j [(0, (.e (.one (.dp (.s (D) (m) 1))))), (6, (iI (g))), (7, (iI (Int.ofNat k))), (8, (iI (Int.ofNat (i + 1))))] 25 0⟩
theorem p86e (hE : EnvOk E) (i k : Nat) (g a : Int) (D : List DT) (m : Nat) (h0 : (decide (Int.ofNat i < Int.ofNat k) : Bool) = true) (h1 : ((iI (wrapF IntKind.i64 (a * (2 : Int)))) : AV) = (iI (g))) (h2 : ((↑m : Int) == (0 : Int) : Bool) = true) (h3 : ((iI (wrapF IntKind.i64 (Int.ofNat i + (1 : Int)))) : AV) = (iI (Int.ofNat (i + 1)))) {Φ : Res → Prop} (ho : ∀ j, OutK E 0 0 (p86e_end i k g D m j) Φ) (j : Nat → Value) : OutK E 0 0 (y86 i k a D m j) Φ :=
 oS hE [.run 3, (.cond true), .run 4, (.ops [(1, (.rn (iI (g))))] []), .run 2, (.ops [(1, (.d .len))] []), (.cond true), .run 1, (.ops [(0, (.rn (iI (Int.ofNat (i + 1)))))] []), .run 1] [0, 6, 7, 8] (aP h0 <| aP h1 <| aP h2 <| aP h3 <| aZ)
  ho
def p86f_end (i k : Nat) (g : Int) (D : List DT) (m : Nat) (j : Nat → Value) : St := ⟨[], [(.code (atC [1, 1, 0, 1, 0, 0] (bodyOf Tryz.f86))), (.inLoop (atC [1, 1, 0, 1, 0, 0] (bodyOf Tryz.f86))), (.inBlock 0), (.code (atC [1, 1, 1] (bodyOf Tryz.f86)))], mkT j [(0, (.e (.one (.dp (.s (List.drop (1 : Nat) D) (m - (1 : Nat)) 1))))), (6, (iI (g))), (7, (iI (Int.ofNat k))), (8, (iI (Int.ofNat (i + 1))))] 25 0⟩
theorem p86f (hE : EnvOk E) (i k : Nat) (g a : Int) (b : Bool) (D : List DT) (m : Nat) (h0 : (decide (Int.ofNat i < Int.ofNat k) : Bool) = true) (h1 : ((iI (wrapF IntKind.i64 (a * (2 : Int)))) : AV) = (iI (g))) (h2 : ((↑m : Int) == (0 : Int) : Bool) = false) (h3 : (0 : Int) ≤ (0 : Int) ∧ (0 : Int) < (↑m : Int)) (h5 : (getL D (nat_lit 0) : Option DT) = (.some (.v (.bool (b))))) (h6 : (b : Bool) = false) (h9 : (1 : Nat) ≤ m ∧ m ≤ m) (h10 : (takeL (dropL D (1 : Nat)) ((m - (1 : Nat)) * nat_lit 1) : Option (List DT)) = (.some (List.drop (1 : Nat) D))) (h11 : ((iI (wrapF IntKind.i64 (Int.ofNat i + (1 : Int)))) : AV) = (iI (Int.ofNat (i + 1)))) {Φ : Res → Prop} (ho : ∀ j, OutK E 0 0 (p86f_end i k g D m j) Φ) (j : Nat → Value) : OutK E 0 0 (y86 i k a D m j) Φ :=
 oS hE [.run 3, (.cond true), .run 4, (.ops [(1, (.rn (iI (g))))] []), .run 2, (.ops [(1, (.d .len))] []), (.cond false), .run 3, (.ops [(2, (.d (.ld (.v (.bool (b)))))), (1, (.d (.ix 0)))] []), (.cond false), .run 1, (.ops [(1, (.d (.sl 1 (m) (List.drop (1 : Nat) D))))] []), .run 1, (.ops [(0, (.rn (iI (Int.ofNat (i + 1)))))] []), .run 1] [0, 6, 7, 8] (aP h0 <| aP h1 <| aP h2 <| aP h3 <| aP (rfl : ((0 : Nat) : Nat) = nat_lit 0) <| aP h5 <| aP h6 <| aP (rfl : ((1 : Int) : Int) = Int.ofNat (1 : Nat)) <| aP (rfl : (Int.ofNat m : Int) = Int.ofNat m) <| aP h9 <| aP h10 <| aP h11 <| aZ)
  ho
def p86t_end (i k : Nat) (h : Int) (D : List DT) (m : Nat) (j : Nat → Value) : St := ⟨[], [(.code (atC [1, 1, 0, 1, 0, 0] (bodyOf Tryz.f86))), (.inLoop (atC [1, 1, 0, 1, 0, 0] (bodyOf Tryz.f86))), (.inBlock 0), (.code (atC [1, 1, 1] (bodyOf Tryz.f86)))], mkT j [(0, (.e (.one (.dp (.s (List.drop (1 : Nat) D) (m - (1 : Nat)) 1))))), (6, (iI (h))), (7, (iI (Int.ofNat k))), (8, (iI (Int.ofNat (i + 1))))] 25 0⟩
theorem p86t (hE : EnvOk E) (i k : Nat) (g h a : Int) (b : Bool) (D : List DT) (m : Nat) (h0 : (decide (Int.ofNat i < Int.ofNat k) : Bool) = true) (h1 : ((iI (wrapF IntKind.i64 (a * (2 : Int)))) : AV) = (iI (g))) (h2 : ((↑m : Int) == (0 : Int) : Bool) = false) (h3 : (0 : Int) ≤ (0 : Int) ∧ (0 : Int) < (↑m : Int)) (h5 : (getL D (nat_lit 0) : Option DT) = (.some (.v (.bool (b))))) (h6 : (b : Bool) = true) (h7 : ((iI (wrapF IntKind.i64 (g + (1 : Int)))) : AV) = (iI (h))) (h10 : (1 : Nat) ≤ m ∧ m ≤ m) (h11 : (takeL (dropL D (1 : Nat)) ((m - (1 : Nat)) * nat_lit 1) : Option (List DT)) = (.some (List.drop (1 : Nat) D))) (h12 : ((iI (wrapF IntKind.i64 (Int.ofNat i + (1 : Int)))) : AV) = (iI (Int.ofNat (i + 1)))) {Φ : Res → Prop} (ho : ∀ j, OutK E 0 0 (p86t_end i k h D m j) Φ) (j : Nat → Value) : OutK E 0 0 (y86 i k a D m j) Φ :=
 oS hE [.run 3, (.cond true), .run 4, (.ops [(1, (.rn (iI (g))))] []), .run 2, (.ops [(1, (.d .len))] []), (.cond false), .run 3, (.ops [(2, (.d (.ld (.v (.bool (b)))))), (1, (.d (.ix 0)))] []), (.cond true), (.ops [(1, (.rn (iI (h))))] []), (.ops [(1, (.d (.sl 1 (m) (List.drop (1 : Nat) D))))] []), .run 1, (.ops [(0, (.rn (iI (Int.ofNat (i + 1)))))] []), .run 1] [0, 6, 7, 8] (aP h0 <| aP h1 <| aP h2 <| aP h3 <| aP (rfl : ((0 : Nat) : Nat) = nat_lit 0) <| aP h5 <| aP h6 <| aP h7 <| aP (rfl : ((1 : Int) : Int) = Int.ofNat (1 : Nat)) <| aP (rfl : (Int.ofNat m : Int) = Int.ofNat m) <| aP h10 <| aP h11 <| aP h12 <| aZ)
  ho
def p86x_end (a : Int) (D : List DT) (m : Nat) (j : Nat → Value) : St := ⟨[], [(.code .ret)], mkT j [(4, (iI (a))), (5, (.e (.one (.dp (.s (D) (m) 1)))))] 25 0⟩
theorem p86x (hE : EnvOk E) (i k : Nat) (a : Int) (D : List DT) (m : Nat) (h0 : (decide (Int.ofNat i < Int.ofNat k) : Bool) = false) {Φ : Res → Prop} (ho : ∀ j, OutK E 0 0 (p86x_end a D m j) Φ) (j : Nat → Value) : OutK E 0 0 (y86 i k a D m j) Φ :=
 oS hE [.run 3, (.cond false), .run 3] [4, 5] (aP h0 <| aZ)
  ho
theorem xk {P : Program} {t : TypeId} {x z : Operand} {a b c : Int} (h : ∀ w : World, (do eqGuard .xor t x z (.int .i64 a) (.int .i64 b); binOp .xor t (.int .i64 a) (.int .i64 b) : Sem Value).run P w = .ok (.int .i64 c) w) : BinOk P .xor t x z (.v (.int .i64 a)) (.v (.int .i64 b)) (.v (.int .i64 c)) := by
 intro m p q w hp hq
 obtain rfl : p = .int .i64 a := hp
 obtain rfl : q = .int .i64 b := hq
 exact ⟨_, w.drawn, h w, rfl⟩
theorem xor_ok {P : Program} {t : TypeId} {x z : Operand} : ∀ i : Nat, i < 64 → BinOk P .xor t x z (.v (.int .i64 (Int.ofNat i))) (.v (.int .i64 (Int.ofNat (i / 2)))) (.v (.int .i64 (nbT.getD i 0)))
 | 0, _ => xk fun w => rfl
 | 1, _ => xk fun w => rfl
 | 2, _ => xk fun w => rfl
 | 3, _ => xk fun w => rfl
 | 4, _ => xk fun w => rfl
 | 5, _ => xk fun w => rfl
 | 6, _ => xk fun w => rfl
 | 7, _ => xk fun w => rfl
 | 8, _ => xk fun w => rfl
 | 9, _ => xk fun w => rfl
 | 10, _ => xk fun w => rfl
 | 11, _ => xk fun w => rfl
 | 12, _ => xk fun w => rfl
 | 13, _ => xk fun w => rfl
 | 14, _ => xk fun w => rfl
 | 15, _ => xk fun w => rfl
 | 16, _ => xk fun w => rfl
 | 17, _ => xk fun w => rfl
 | 18, _ => xk fun w => rfl
 | 19, _ => xk fun w => rfl
 | 20, _ => xk fun w => rfl
 | 21, _ => xk fun w => rfl
 | 22, _ => xk fun w => rfl
 | 23, _ => xk fun w => rfl
 | 24, _ => xk fun w => rfl
 | 25, _ => xk fun w => rfl
 | 26, _ => xk fun w => rfl
 | 27, _ => xk fun w => rfl
 | 28, _ => xk fun w => rfl
 | 29, _ => xk fun w => rfl
 | 30, _ => xk fun w => rfl
 | 31, _ => xk fun w => rfl
 | 32, _ => xk fun w => rfl
 | 33, _ => xk fun w => rfl
 | 34, _ => xk fun w => rfl
 | 35, _ => xk fun w => rfl
 | 36, _ => xk fun w => rfl
 | 37, _ => xk fun w => rfl
 | 38, _ => xk fun w => rfl
 | 39, _ => xk fun w => rfl
 | 40, _ => xk fun w => rfl
 | 41, _ => xk fun w => rfl
 | 42, _ => xk fun w => rfl
 | 43, _ => xk fun w => rfl
 | 44, _ => xk fun w => rfl
 | 45, _ => xk fun w => rfl
 | 46, _ => xk fun w => rfl
 | 47, _ => xk fun w => rfl
 | 48, _ => xk fun w => rfl
 | 49, _ => xk fun w => rfl
 | 50, _ => xk fun w => rfl
 | 51, _ => xk fun w => rfl
 | 52, _ => xk fun w => rfl
 | 53, _ => xk fun w => rfl
 | 54, _ => xk fun w => rfl
 | 55, _ => xk fun w => rfl
 | 56, _ => xk fun w => rfl
 | 57, _ => xk fun w => rfl
 | 58, _ => xk fun w => rfl
 | 59, _ => xk fun w => rfl
 | 60, _ => xk fun w => rfl
 | 61, _ => xk fun w => rfl
 | 62, _ => xk fun w => rfl
 | 63, _ => xk fun w => rfl
 | n + 64, h => absurd h (by omega)
def lvN (n : Nat) : Nat := (lvT.getD n 0).toNat
theorem lv_tab : ∀ n : Fin 64, lvN n.1 < 64 ∧ Int.ofNat (lvN n.1) = lvT.getD n.1 0 ∧ nbT.getD (lvN n.1) 0 = Int.ofNat n.1 := by decide +kernel
theorem nb_inj : ∀ i j : Fin 64, nbT.getD i.1 0 = nbT.getD j.1 0 → i = j := by decide +kernel
theorem tdiv2 (i : Nat) (h : i < 64) : wrapF IntKind.i64 ((Int.ofNat i).tdiv 2) = Int.ofNat (i / 2) := by
 rw [show (Int.ofNat i).tdiv 2 = Int.ofNat (i / 2) from rfl]
 exact wrap_id (by simp only [Int.ofNat_eq_natCast]; omega) (by simp only [Int.ofNat_eq_natCast]; omega)
theorem l95 (hE : EnvOk E) (n : Nat) (hn : n < 64) : ∀ m i, m + i = lvN n → ∀ j, OutK E 0 0 (y95 (i) (Int.ofNat n) j) (Go.Ev.Ends E Tryz.f95 (iI (lvT.getD n 0)) [])
 | 0, i, hm, j => by
  obtain ⟨t1, t2, t3⟩ := lv_tab ⟨n, hn⟩
  simp only at t1 t2 t3
  obtain rfl : i = lvN n := by omega
  rw [← t2]
  exact p95m hE (lvN n) (Int.ofNat n) (nbT.getD (lvN n) 0) (Int.ofNat (lvN n / 2)) (K75 hE 6 (by decide)) (decide_eq_true (by (try simp only [Int.ofNat_eq_natCast]); omega)) (by decide) (tdiv2 (lvN n) (by omega)) (xor_ok (lvN n) (by omega)) (beq_iff_eq.2 t3) (fun j => outK_ret (ends_ret (by kernel_rfl))) j
 | m + 1, i, hm, j => by
  obtain ⟨t1, t2, t3⟩ := lv_tab ⟨n, hn⟩
  simp only at t1 t2 t3
  have hne : nbT.getD i 0 ≠ Int.ofNat n := fun e => by
   have := congrArg Fin.val (nb_inj ⟨i, by omega⟩ ⟨lvN n, t1⟩ (by rw [e]; exact t3.symm))
   simp only at this
   omega
  exact p95s hE (i) (Int.ofNat n) (nbT.getD i 0) (Int.ofNat (i / 2)) (K75 hE 6 (by decide)) (decide_eq_true (by (try simp only [Int.ofNat_eq_natCast]); omega)) (by decide) (tdiv2 i (by omega)) (xor_ok i (by omega)) (beq_eq_false_iff_ne.2 hne) (iIe (by (try simp only [Int.ofNat_eq_natCast]); rw [wrap_id (by omega) (by omega)]; try omega)) (l95 hE n hn m (i + 1) (by omega)) j
theorem K95 (hE : EnvOk E) (n : Nat) (hn : n < 64) : COut E 0 [] 95 [iI (Int.ofNat n)] (iI (lvT.getD n 0)) [] := cOut_start Tryz.func95 rfl (p95a hE (Int.ofNat n) (l95 hE n hn (lvN n) 0 rfl) fun _ => undef)
def cutF : Nat → Int → List Bool → Int × List Bool
 | 0, a, d => (a, d)
 | k + 1, a, [] => cutF k (a * 2) []
 | k + 1, a, b :: d => cutF k (if b = true then a * 2 + 1 else a * 2) d
theorem cut_rest : ∀ k a d, (cutF k a d).2 = d.drop k
 | 0, _, _ => rfl
 | k + 1, a, [] => by show (cutF k (a * 2) []).2 = _; rw [cut_rest]; simp
 | k + 1, a, b :: d => by show (cutF k _ d).2 = _; rw [cut_rest]; rfl
theorem cut_lt : ∀ k a d (B : Int), 0 ≤ a → a < B → 0 ≤ (cutF k a d).1 ∧ (cutF k a d).1 < B * 2 ^ k
 | 0, a, d, B, h0, h1 => ⟨h0, by show a < B * 1; omega⟩
 | k + 1, a, d, B, h0, h1 => by
  have e : B * 2 ^ (k + 1) = (2 * B) * 2 ^ k := by rw [Int.pow_succ, Int.mul_comm (2 ^ k) 2, ← Int.mul_assoc, Int.mul_comm B 2]
  rw [e]
  cases d with
  | nil => exact cut_lt k (a * 2) [] (2 * B) (by omega) (by omega)
  | cons b d =>
   show 0 ≤ (cutF k (if b = true then a * 2 + 1 else a * 2) d).1 ∧ (cutF k (if b = true then a * 2 + 1 else a * 2) d).1 < 2 * B * 2 ^ k
   split
   ·exact cut_lt k _ d (2 * B) (by omega) (by omega)
   ·exact cut_lt k _ d (2 * B) (by omega) (by omega)
theorem tk1 (b : Bool) (d : List Bool) : takeL (dropL (bbD (b :: d)) 1) (((b :: d).length - 1) * 1) = some (List.drop 1 (bbD (b :: d))) := by
 rw [takeL_eq, dropL_eq, if_pos (by simp), List.take_of_length_le (by simp)]
abbrev cutV (r : Int × List Bool) : AV := .tup [.one (.v (.int .i64 r.1)), .one (.dp (.s (bbD r.2) r.2.length 1))]
theorem l86 (hE : EnvOk E) (k : Nat) (hk : k ≤ 6) : ∀ m i, m + i = k → ∀ (a B : Int) (d : List Bool), 0 ≤ a → a < B → B * 2 ^ m ≤ 64 → 0 < B → ∀ j, OutK E 0 0 (y86 (i) (k) (a) (bbD d) (d.length) j) (Go.Ev.Ends E Tryz.f86 (cutV (cutF m a d)) [])
 | 0, i, hm, a, B, d, a0, a1, hB, B0, j => by
  obtain rfl : i = k := by omega
  exact p86x hE (i) (i) (a) (bbD d) (d.length) (decide_eq_false (by (try simp only [Int.ofNat_eq_natCast]); omega)) (fun j => outK_ret (ends_ret (by kernel_rfl))) j
 | m + 1, i, hm, a, B, d, a0, a1, hB, B0, j => by
  have e : B * 2 ^ (m + 1) = (2 * B) * 2 ^ m := by rw [Int.pow_succ, Int.mul_comm (2 ^ m) 2, ← Int.mul_assoc, Int.mul_comm B 2]
  rw [e] at hB
  have hB2 : 2 * B ≤ 64 := by
   have h1 : (0 : Int) < 2 ^ m := Int.pow_pos (by decide)
   have h2 : (2 * B) * 1 ≤ (2 * B) * 2 ^ m := Int.mul_le_mul_of_nonneg_left h1 (by omega)
   omega
  match d with
  | [] => exact p86e hE (i) (k) ((a * 2)) (a) (bbD []) (0) (decide_eq_true (by (try simp only [Int.ofNat_eq_natCast]); omega)) (iIe (by (try simp only [Int.ofNat_eq_natCast]); rw [wrap_id (by omega) (by omega)]; try omega)) rfl (iIe (by (try simp only [Int.ofNat_eq_natCast]); rw [wrap_id (by omega) (by omega)]; try omega)) (l86 hE k hk m (i + 1) (by omega) (a * 2) (2 * B) [] (by omega) (by omega) hB (by omega)) j
  | b :: d =>
   have hlen : (b :: d).length = d.length + 1 := rfl
   cases b with
   | true => exact p86t hE (i) (k) ((a * 2)) ((a * 2 + 1)) (a) (true) (bbD (true :: d)) ((true :: d).length) (decide_eq_true (by (try simp only [Int.ofNat_eq_natCast]); omega)) (iIe (by (try simp only [Int.ofNat_eq_natCast]); rw [wrap_id (by omega) (by omega)]; try omega)) (beq_eq_false_iff_ne.2 (by rw [hlen]; omega)) ⟨by omega, by rw [hlen]; omega⟩ rfl (by first | rfl | trivial | omega | simp | (simp <;> omega)) (iIe (by (try simp only [Int.ofNat_eq_natCast]); rw [wrap_id (by omega) (by omega)]; try omega)) ⟨by rw [hlen]; omega, Nat.le_refl _⟩ (tk1 true d) (iIe (by (try simp only [Int.ofNat_eq_natCast]); rw [wrap_id (by omega) (by omega)]; try omega)) (l86 hE k hk m (i + 1) (by omega) (a * 2 + 1) (2 * B) d (by omega) (by omega) hB (by omega)) j
   | false => exact p86f hE (i) (k) ((a * 2)) (a) (false) (bbD (false :: d)) ((false :: d).length) (decide_eq_true (by (try simp only [Int.ofNat_eq_natCast]); omega)) (iIe (by (try simp only [Int.ofNat_eq_natCast]); rw [wrap_id (by omega) (by omega)]; try omega)) (beq_eq_false_iff_ne.2 (by rw [hlen]; omega)) ⟨by omega, by rw [hlen]; omega⟩ rfl (by first | rfl | trivial | omega | simp | (simp <;> omega)) ⟨by rw [hlen]; omega, Nat.le_refl _⟩ (tk1 false d) (iIe (by (try simp only [Int.ofNat_eq_natCast]); rw [wrap_id (by omega) (by omega)]; try omega)) (l86 hE k hk m (i + 1) (by omega) (a * 2) (2 * B) d (by omega) (by omega) hB (by omega)) j
theorem two_le : ∀ k : Fin 7, (1 : Int) * 2 ^ k.1 ≤ 64 := by decide
theorem K86 (hE : EnvOk E) (k : Nat) (hk : k ≤ 6) (d : List Bool) : COut E 0 [] 86 [dB d, iI (Int.ofNat k)] (cutV (cutF k 0 d)) [] :=
 cOut_start Tryz.func86 rfl (p86a hE (bbD d) (d.length) (k) (l86 hE k hk k 0 rfl 0 1 d (by decide) (by decide) (two_le ⟨k, by omega⟩) (by decide)) fun _ => undef)
end
end Go.Proofs.YtaccakbjankeeaaGreatDoor
end

/-! SeBd -/
section
open Go Go.Ev
namespace Go.Proofs.YtaccakbjankeeaaGreatDoor
noncomputable section
set_option maxRecDepth 100000
set_option maxHeartbeats 20000000
def x27 (C : List DT) (n m : Nat) (D : List DT) (_j : Nat → Value) : St := startK Tryz.f27 [] [(.e (.one (.dp (.s C n 1)))), (.e (.one (.dp (.s D m 1))))]
def y27n (C : List DT) (n m : Nat) (D : List DT) (j : Nat → Value) : St := ⟨[], [(.code (atC [1, 1, 1, 0, 1, 0, 0] (bodyOf Tryz.f27))), (.inLoop (atC [1, 1, 1, 0, 1, 0, 0] (bodyOf Tryz.f27))), (.inBlock 0), (.code (atC [1, 1, 1, 1] (bodyOf Tryz.f27)))], mkT j [(0, (.e (.one (.dp (.s (C) (n) 1))))), (7, (.e (.one (.v (.slice none 0 0))))), (8, (.e (.one (.dp (.s D m 1)))))] 57 0⟩
def y27o (C : List DT) (n k m : Nat) (D : List DT) (O : List AC) (j : Nat → Value) : St := ⟨[some ⟨O, k, 22, false, .cells⟩], [(.code (atC [1, 1, 1, 0, 1, 0, 0] (bodyOf Tryz.f27))), (.inLoop (atC [1, 1, 1, 0, 1, 0, 0] (bodyOf Tryz.f27))), (.inBlock 0), (.code (atC [1, 1, 1, 1] (bodyOf Tryz.f27)))], mkT j [(0, (.e (.one (.dp (.s (C) (n) 1))))), (7, (.e (.one (.slc 0 0 k 1 k false)))), (8, (.e (.one (.dp (.s D m 1)))))] 57 0⟩
def y27i (C : List DT) (n i m : Nat) (D : List DT) (L : List AC) (j : Nat → Value) : St := ⟨[some ⟨L, n, 3, true, .cells⟩], [(.code (atC [1, 1, 1, 0, 1, 0, 0, 1, 0, 1, 0, 1, 0, 0] (bodyOf Tryz.f27))), (.inLoop (atC [1, 1, 1, 0, 1, 0, 0, 1, 0, 1, 0, 1, 0, 0] (bodyOf Tryz.f27))), (.inBlock 2), (.code (atC [1, 1, 1, 0, 1, 0, 0, 1, 0, 1, 1] (bodyOf Tryz.f27))), (.inBlock 1), (.inLoop (atC [1, 1, 1, 0, 1, 0, 0] (bodyOf Tryz.f27))), (.inBlock 0), (.code (atC [1, 1, 1, 1] (bodyOf Tryz.f27)))], mkT j [(0, (.e (.one (.dp (.s (C) (n) 1))))), (7, (.e (.one (.v (.slice none 0 0))))), (8, (.e (.one (.dp (.s D m 1))))), (9, (.e (.one (.slc 0 0 n 1 n true)))), (32, (.e (.one (.dp (.s (C) (n) 1))))), (33, (iI (Int.ofNat n))), (34, (iI (Int.ofNat i)))] 57 0⟩
def y27j (C : List DT) (n i k m : Nat) (D : List DT) (O L : List AC) (j : Nat → Value) : St := ⟨[some ⟨O, k, 22, false, .cells⟩, some ⟨L, n, 3, true, .cells⟩], [(.code (atC [1, 1, 1, 0, 1, 0, 0, 1, 0, 1, 0, 1, 0, 0] (bodyOf Tryz.f27))), (.inLoop (atC [1, 1, 1, 0, 1, 0, 0, 1, 0, 1, 0, 1, 0, 0] (bodyOf Tryz.f27))), (.inBlock 2), (.code (atC [1, 1, 1, 0, 1, 0, 0, 1, 0, 1, 1] (bodyOf Tryz.f27))), (.inBlock 1), (.inLoop (atC [1, 1, 1, 0, 1, 0, 0] (bodyOf Tryz.f27))), (.inBlock 0), (.code (atC [1, 1, 1, 1] (bodyOf Tryz.f27)))], mkT j [(0, (.e (.one (.dp (.s (C) (n) 1))))), (7, (.e (.one (.slc 0 0 (k) 1 (k) false)))), (8, (.e (.one (.dp (.s D m 1))))), (9, (.e (.one (.slc 1 0 n 1 n true)))), (32, (.e (.one (.dp (.s (C) (n) 1))))), (33, (iI (Int.ofNat n))), (34, (iI (Int.ofNat i)))] 57 0⟩
def y27f (C : List DT) (n m : Nat) (D R : List DT) (j : Nat → Value) : St := ⟨[none], [(.code (atC [1, 1, 1, 0, 1, 0, 0, 1, 0, 1, 0, 1, 0, 0] (bodyOf Tryz.f27))), (.inLoop (atC [1, 1, 1, 0, 1, 0, 0, 1, 0, 1, 0, 1, 0, 0] (bodyOf Tryz.f27))), (.inBlock 2), (.code (atC [1, 1, 1, 0, 1, 0, 0, 1, 0, 1, 1] (bodyOf Tryz.f27))), (.inBlock 1), (.inLoop (atC [1, 1, 1, 0, 1, 0, 0] (bodyOf Tryz.f27))), (.inBlock 0), (.code (atC [1, 1, 1, 1] (bodyOf Tryz.f27)))], mkT j [(0, (.e (.one (.dp (.s (C) (n) 1))))), (7, (.e (.one (.v (.slice none 0 0))))), (8, (.e (.one (.dp (.s D m 1))))), (9, (.e (.one (.dp (.s R n 1))))), (32, (.e (.one (.dp (.s (C) (n) 1))))), (33, (iI (Int.ofNat n))), (34, (iI (Int.ofNat n)))] 57 0⟩
def y27g (C : List DT) (n k m : Nat) (D R : List DT) (O : List AC) (j : Nat → Value) : St := ⟨[some ⟨O, k, 22, false, .cells⟩, none], [(.code (atC [1, 1, 1, 0, 1, 0, 0, 1, 0, 1, 0, 1, 0, 0] (bodyOf Tryz.f27))), (.inLoop (atC [1, 1, 1, 0, 1, 0, 0, 1, 0, 1, 0, 1, 0, 0] (bodyOf Tryz.f27))), (.inBlock 2), (.code (atC [1, 1, 1, 0, 1, 0, 0, 1, 0, 1, 1] (bodyOf Tryz.f27))), (.inBlock 1), (.inLoop (atC [1, 1, 1, 0, 1, 0, 0] (bodyOf Tryz.f27))), (.inBlock 0), (.code (atC [1, 1, 1, 1] (bodyOf Tryz.f27)))], mkT j [(0, (.e (.one (.dp (.s (C) (n) 1))))), (7, (.e (.one (.slc 0 0 (k) 1 (k) false)))), (8, (.e (.one (.dp (.s D m 1))))), (9, (.e (.one (.dp (.s R n 1))))), (32, (.e (.one (.dp (.s (C) (n) 1))))), (33, (iI (Int.ofNat n))), (34, (iI (Int.ofNat n)))] 57 0⟩
def p27e_end (a : Int) (j : Nat → Value) : St := ⟨[], [(.code .ret), (.code (atC [1, 1] (bodyOf Tryz.f27)))], mkT j [(4, (.e (.one (.v (.slice none 0 0))))), (5, (iI (a)))] 57 0⟩
theorem p27e (hE : EnvOk E) (C : List DT) (n m : Nat) (e f a : Int) (D : List DT) (h0 : COut E 0 [] 84 [(.e (.one (.dp (.s (C) (n) 1))))] (iI (e)) []) (h2 : COut E 0 [] 85 [(iB (decide ((↑m : Int) > (1024 : Int)))), (iI 5)] (iI (f)) []) (h4 : COut E 1 [(bK [(.v (.int .i64 (e))), (.v (.int .i64 (f)))] 2 29)] 69 [(.e (.one (.slc 0 0 2 1 2 true)))] (iI (a)) [(bK [(.v (.int .i64 (e))), (.v (.int .i64 (f)))] 2 29)]) (h6 : (a != (0 : Int) : Bool) = true) {Φ : Res → Prop} (ho : ∀ j, OutK E 0 0 (p27e_end a j) Φ) (j : Nat → Value) : OutK E 0 0 (x27 C n m D j) Φ :=
 oS hE [.run 4, (.ops [(1, (.c0 (iI (e)))), (5, (.c0 (iI (f)))), (7, (.d (.c1 (iI (a))))), (3, (.d .len))] []), .run 2, (.cond true), .run 2] [4, 5] (s' := fun j => ⟨[(bK [(.v (.int .i64 (e))), (.v (.int .i64 (f)))] 2 29)], [(.code .ret), (.code (atC [1, 1] (bodyOf Tryz.f27)))], mkT j [(4, (.e (.one (.v (.slice none 0 0))))), (5, (iI (a)))] 57 0⟩) (aP h0 <| aN <| aP h2 <| aN <| aP h4 <| aN <| aP h6 <| aZ)
  fun j => gZ [] (ho j)
def p27a_end (C : List DT) (n m : Nat) (D : List DT) (j : Nat → Value) : St := ⟨[], [(.code (atC [1, 1, 1, 0, 1, 0, 0] (bodyOf Tryz.f27))), (.inLoop (atC [1, 1, 1, 0, 1, 0, 0] (bodyOf Tryz.f27))), (.inBlock 0), (.code (atC [1, 1, 1, 1] (bodyOf Tryz.f27)))], mkT j [(0, (.e (.one (.dp (.s (C) (n) 1))))), (7, (.e (.one (.v (.slice none 0 0))))), (8, (.e (.one (.dp (.s (D) (m) 1)))))] 57 0⟩
theorem p27a (hE : EnvOk E) (C : List DT) (n m : Nat) (e f a : Int) (D : List DT) (h0 : COut E 0 [] 84 [(.e (.one (.dp (.s (C) (n) 1))))] (iI (e)) []) (h2 : COut E 0 [] 85 [(iB (decide ((↑m : Int) > (1024 : Int)))), (iI 5)] (iI (f)) []) (h4 : COut E 1 [(bK [(.v (.int .i64 (e))), (.v (.int .i64 (f)))] 2 29)] 69 [(.e (.one (.slc 0 0 2 1 2 true)))] (iI (a)) [(bK [(.v (.int .i64 (e))), (.v (.int .i64 (f)))] 2 29)]) (h6 : (a != (0 : Int) : Bool) = false) {Φ : Res → Prop} (ho : ∀ j, OutK E 0 0 (p27a_end C n m D j) Φ) (j : Nat → Value) : OutK E 0 0 (x27 C n m D j) Φ :=
 oS hE [.run 4, (.ops [(1, (.c0 (iI (e)))), (5, (.c0 (iI (f)))), (7, (.d (.c1 (iI (a))))), (3, (.d .len))] []), .run 2, (.cond false), .run 8] [0, 7, 8] (s' := fun j => ⟨[(bK [(.v (.int .i64 (e))), (.v (.int .i64 (f)))] 2 29)], [(.code (atC [1, 1, 1, 0, 1, 0, 0] (bodyOf Tryz.f27))), (.inLoop (atC [1, 1, 1, 0, 1, 0, 0] (bodyOf Tryz.f27))), (.inBlock 0), (.code (atC [1, 1, 1, 1] (bodyOf Tryz.f27)))], mkT j [(0, (.e (.one (.dp (.s (C) (n) 1))))), (7, (.e (.one (.v (.slice none 0 0))))), (8, (.e (.one (.dp (.s (D) (m) 1)))))] 57 0⟩) (aP h0 <| aN <| aP h2 <| aN <| aP h4 <| aN <| aP h6 <| aZ)
  fun j => gZ [] (ho j)
def p27xn_end (j : Nat → Value) : St := ⟨[], [(.code .ret)], mkT j [(4, (.e (.one (.v (.slice none 0 0))))), (5, (iI 0))] 57 0⟩
theorem p27xn (hE : EnvOk E) (C : List DT) (n m : Nat) (D : List DT) (h0 : (decide ((↑m : Int) > (0 : Int)) : Bool) = false) {Φ : Res → Prop} (ho : ∀ j, OutK E 0 0 (p27xn_end j) Φ) (j : Nat → Value) : OutK E 0 0 (y27n C n m D j) Φ :=
 oS hE [.run 2, (.ops [(1, (.d .len))] []), (.cond false), .run 3] [4, 5] (aP h0 <| aZ)
  ho
def p27bn_end (C : List DT) (n m : Nat) (D : List DT) (L : List AC) (j : Nat → Value) : St := ⟨[(bK (L) (n) 3)], [(.code (atC [1, 1, 1, 0, 1, 0, 0, 1, 0, 1, 0, 1, 0, 0] (bodyOf Tryz.f27))), (.inLoop (atC [1, 1, 1, 0, 1, 0, 0, 1, 0, 1, 0, 1, 0, 0] (bodyOf Tryz.f27))), (.inBlock 2), (.code (atC [1, 1, 1, 0, 1, 0, 0, 1, 0, 1, 1] (bodyOf Tryz.f27))), (.inBlock 1), (.inLoop (atC [1, 1, 1, 0, 1, 0, 0] (bodyOf Tryz.f27))), (.inBlock 0), (.code (atC [1, 1, 1, 1] (bodyOf Tryz.f27)))], mkT j [(0, (.e (.one (.dp (.s (C) (n) 1))))), (7, (.e (.one (.v (.slice none 0 0))))), (8, (.e (.one (.dp (.s (D) (m) 1))))), (9, (.e (.one (.slc 0 0 (n) 1 (n) true)))), (32, (.e (.one (.dp (.s (C) (n) 1))))), (33, (iI (Int.ofNat n))), (34, (iI 0))] 57 0⟩
theorem p27bn (hE : EnvOk E) (C : List DT) (n m : Nat) (D : List DT) (L : List AC) (h0 : (decide ((↑m : Int) > (0 : Int)) : Bool) = true) (h1 : (0 : Int) ≤ (↑n : Int) ∧ (↑n : Int) ≤ (↑n : Int)) (h2 : (small (↑n : Int).toNat (1 : Nat) (8 : Nat) : Bool) = true) (h3 : ((↑n : Int).toNat : Nat) = n) (h5 : (n * 1 : Nat) = n) (h6 : (repeatC ((fun z => List.map AC.v z.cells.toList) (Value.int IntKind.i64 (0 : Int))) n : List AC) = L) {Φ : Res → Prop} (ho : ∀ j, OutK E 0 0 (p27bn_end C n m D L j) Φ) (j : Nat → Value) : OutK E 0 0 (y27n C n m D j) Φ :=
 oS hE [.run 2, (.ops [(1, (.d .len))] []), (.cond true), .run 3, (.ops [(2, (.mk (n) (n) (n) (L))), (1, (.d .len))] []), .run 2, (.ops [(1, (.d .len))] []), .run 2] [0, 7, 8, 9, 32, 33, 34] (aP h0 <| aP h1 <| aP h2 <| aP h3 <| aP h3 <| aP h5 <| aP h6 <| aZ)
  ho
def p27xo_end (k : Nat) (O : List AC) (j : Nat → Value) : St := ⟨[(.some ⟨(O), (k), 22, false, .cells⟩)], [(.code .ret)], mkT j [(4, (.e (.one (.slc 0 0 (k) 1 (k) false)))), (5, (iI 0))] 57 0⟩
theorem p27xo (hE : EnvOk E) (C : List DT) (n k m : Nat) (D : List DT) (O : List AC) (h0 : (decide ((↑m : Int) > (0 : Int)) : Bool) = false) {Φ : Res → Prop} (ho : ∀ j, OutK E 0 0 (p27xo_end k O j) Φ) (j : Nat → Value) : OutK E 0 0 (y27o C n k m D O j) Φ :=
 oS hE [.run 2, (.ops [(1, (.d .len))] []), (.cond false), .run 3] [4, 5] (aP h0 <| aZ)
  ho
def p27bo_end (C : List DT) (n k m : Nat) (D : List DT) (O L : List AC) (j : Nat → Value) : St := ⟨[(.some ⟨(O), (k), 22, false, .cells⟩), (bK (L) (n) 3)], [(.code (atC [1, 1, 1, 0, 1, 0, 0, 1, 0, 1, 0, 1, 0, 0] (bodyOf Tryz.f27))), (.inLoop (atC [1, 1, 1, 0, 1, 0, 0, 1, 0, 1, 0, 1, 0, 0] (bodyOf Tryz.f27))), (.inBlock 2), (.code (atC [1, 1, 1, 0, 1, 0, 0, 1, 0, 1, 1] (bodyOf Tryz.f27))), (.inBlock 1), (.inLoop (atC [1, 1, 1, 0, 1, 0, 0] (bodyOf Tryz.f27))), (.inBlock 0), (.code (atC [1, 1, 1, 1] (bodyOf Tryz.f27)))], mkT j [(0, (.e (.one (.dp (.s (C) (n) 1))))), (7, (.e (.one (.slc 0 0 (k) 1 (k) false)))), (8, (.e (.one (.dp (.s (D) (m) 1))))), (9, (.e (.one (.slc 1 0 (n) 1 (n) true)))), (32, (.e (.one (.dp (.s (C) (n) 1))))), (33, (iI (Int.ofNat n))), (34, (iI 0))] 57 0⟩
theorem p27bo (hE : EnvOk E) (C : List DT) (n k m : Nat) (D : List DT) (O L : List AC) (h0 : (decide ((↑m : Int) > (0 : Int)) : Bool) = true) (h1 : (0 : Int) ≤ (↑n : Int) ∧ (↑n : Int) ≤ (↑n : Int)) (h2 : (small (↑n : Int).toNat (1 : Nat) (8 : Nat) : Bool) = true) (h3 : ((↑n : Int).toNat : Nat) = n) (h5 : (n * 1 : Nat) = n) (h6 : (repeatC ((fun z => List.map AC.v z.cells.toList) (Value.int IntKind.i64 (0 : Int))) n : List AC) = L) {Φ : Res → Prop} (ho : ∀ j, OutK E 0 0 (p27bo_end C n k m D O L j) Φ) (j : Nat → Value) : OutK E 0 0 (y27o C n k m D O j) Φ :=
 oS hE [.run 2, (.ops [(1, (.d .len))] []), (.cond true), .run 3, (.ops [(2, (.mk (n) (n) (n) (L))), (1, (.d .len))] []), .run 2, (.ops [(1, (.d .len))] []), .run 2] [0, 7, 8, 9, 32, 33, 34] (aP h0 <| aP h1 <| aP h2 <| aP h3 <| aP h3 <| aP h5 <| aP h6 <| aZ)
  ho
def p27sn_end (C : List DT) (n i u : Nat) (R : List DT) (W : List AC) (j : Nat → Value) : St := ⟨[(bK (W) (n) 3)], [(.code (atC [1, 1, 1, 0, 1, 0, 0, 1, 0, 1, 0, 1, 0, 0] (bodyOf Tryz.f27))), (.inLoop (atC [1, 1, 1, 0, 1, 0, 0, 1, 0, 1, 0, 1, 0, 0] (bodyOf Tryz.f27))), (.inBlock 2), (.code (atC [1, 1, 1, 0, 1, 0, 0, 1, 0, 1, 1] (bodyOf Tryz.f27))), (.inBlock 1), (.inLoop (atC [1, 1, 1, 0, 1, 0, 0] (bodyOf Tryz.f27))), (.inBlock 0), (.code (atC [1, 1, 1, 1] (bodyOf Tryz.f27)))], mkT j [(0, (.e (.one (.dp (.s (C) (n) 1))))), (7, (.e (.one (.v (.slice none 0 0))))), (8, (.e (.one (.dp (.s (R) (u) 1))))), (9, (.e (.one (.slc 0 0 (n) 1 (n) true)))), (32, (.e (.one (.dp (.s (C) (n) 1))))), (33, (iI (Int.ofNat n))), (34, (iI (Int.ofNat (i + 1))))] 57 0⟩
theorem p27sn (hE : EnvOk E) (C : List DT) (n i m u : Nat) (x a g : Int) (D R : List DT) (L W : List AC) (h0 : (decide (Int.ofNat i < Int.ofNat n) : Bool) = true) (h1 : (0 : Int) ≤ Int.ofNat i ∧ Int.ofNat i < (↑n : Int)) (h2 : ((Int.ofNat i).toNat * nat_lit 1 : Nat) = i) (h3 : (getL C i : Option DT) = (.some (.v (.int .i64 (x))))) (h4 : COut E 0 [] 86 [(.e (.one (.dp (.s (D) (m) 1)))), (iI (x))] (.tup [(.one (.v (.int .i64 (g)))), (.one (.dp (.s (R) (u) 1)))]) []) (h6 : COut E 0 [] 87 [(iI (g))] (iI (a)) []) (h9 : (nat_lit 0 + (Int.ofNat i).toNat * nat_lit 1 : Nat) = i) (h10 : i + 1 ≤ n) (h11 : (overL [AC.v (Value.int IntKind.i64 a)] L i : List AC) = W) (h12 : ((iI (wrapF IntKind.i64 (Int.ofNat i + (1 : Int)))) : AV) = (iI (Int.ofNat (i + 1)))) {Φ : Res → Prop} (ho : ∀ j, OutK E 0 0 (p27sn_end C n i u R W j) Φ) (j : Nat → Value) : OutK E 0 0 (y27i C n i m D L j) Φ :=
 oS hE [.run 3, (.cond true), .run 4, (.ops [(2, (.d (.ld (.v (.int .i64 (x)))))), (1, (.d (.ix (i))))] []), .run 1, (.ops [(2, (.c0 (.tup [(.one (.v (.int .i64 (g)))), (.one (.dp (.s (R) (u) 1)))])))] []), .run 1, (.ops [(3, (.c0 (iI (a)))), (4, (.ix (i))), (5, (.st (W)))] []), .run 2, (.ops [(0, (.rn (iI (Int.ofNat (i + 1)))))] []), .run 1] [0, 7, 8, 9, 32, 33, 34] (aP h0 <| aP h1 <| aP h2 <| aP h3 <| aP h4 <| aN <| aP h6 <| aN <| aP h1 <| aP h9 <| aP h10 <| aP h11 <| aP h12 <| aZ)
  ho
def p27so_end (C : List DT) (n i k u : Nat) (R : List DT) (O W : List AC) (j : Nat → Value) : St := ⟨[(.some ⟨(O), (k), 22, false, .cells⟩), (bK (W) (n) 3)], [(.code (atC [1, 1, 1, 0, 1, 0, 0, 1, 0, 1, 0, 1, 0, 0] (bodyOf Tryz.f27))), (.inLoop (atC [1, 1, 1, 0, 1, 0, 0, 1, 0, 1, 0, 1, 0, 0] (bodyOf Tryz.f27))), (.inBlock 2), (.code (atC [1, 1, 1, 0, 1, 0, 0, 1, 0, 1, 1] (bodyOf Tryz.f27))), (.inBlock 1), (.inLoop (atC [1, 1, 1, 0, 1, 0, 0] (bodyOf Tryz.f27))), (.inBlock 0), (.code (atC [1, 1, 1, 1] (bodyOf Tryz.f27)))], mkT j [(0, (.e (.one (.dp (.s (C) (n) 1))))), (7, (.e (.one (.slc 0 0 (k) 1 (k) false)))), (8, (.e (.one (.dp (.s (R) (u) 1))))), (9, (.e (.one (.slc 1 0 (n) 1 (n) true)))), (32, (.e (.one (.dp (.s (C) (n) 1))))), (33, (iI (Int.ofNat n))), (34, (iI (Int.ofNat (i + 1))))] 57 0⟩
theorem p27so (hE : EnvOk E) (C : List DT) (n i k m u : Nat) (x a g : Int) (D R : List DT) (O L W : List AC) (h0 : (decide (Int.ofNat i < Int.ofNat n) : Bool) = true) (h1 : (0 : Int) ≤ Int.ofNat i ∧ Int.ofNat i < (↑n : Int)) (h2 : ((Int.ofNat i).toNat * nat_lit 1 : Nat) = i) (h3 : (getL C i : Option DT) = (.some (.v (.int .i64 (x))))) (h4 : COut E 0 [] 86 [(.e (.one (.dp (.s (D) (m) 1)))), (iI (x))] (.tup [(.one (.v (.int .i64 (g)))), (.one (.dp (.s (R) (u) 1)))]) []) (h6 : COut E 0 [] 87 [(iI (g))] (iI (a)) []) (h9 : (nat_lit 0 + (Int.ofNat i).toNat * nat_lit 1 : Nat) = i) (h10 : i + 1 ≤ n) (h11 : (overL [AC.v (Value.int IntKind.i64 a)] L i : List AC) = W) (h12 : ((iI (wrapF IntKind.i64 (Int.ofNat i + (1 : Int)))) : AV) = (iI (Int.ofNat (i + 1)))) {Φ : Res → Prop} (ho : ∀ j, OutK E 0 0 (p27so_end C n i k u R O W j) Φ) (j : Nat → Value) : OutK E 0 0 (y27j C n i k m D O L j) Φ :=
 oS hE [.run 3, (.cond true), .run 4, (.ops [(2, (.d (.ld (.v (.int .i64 (x)))))), (1, (.d (.ix (i))))] []), .run 1, (.ops [(2, (.c0 (.tup [(.one (.v (.int .i64 (g)))), (.one (.dp (.s (R) (u) 1)))])))] []), .run 1, (.ops [(3, (.c0 (iI (a)))), (4, (.ix (i))), (5, (.st (W)))] []), .run 2, (.ops [(0, (.rn (iI (Int.ofNat (i + 1)))))] []), .run 1] [0, 7, 8, 9, 32, 33, 34] (aP h0 <| aP h1 <| aP h2 <| aP h3 <| aP h4 <| aN <| aP h6 <| aN <| aP h1 <| aP h9 <| aP h10 <| aP h11 <| aP h12 <| aZ)
  ho
def p27fn_end (C : List DT) (n m : Nat) (D R : List DT) (j : Nat → Value) : St := ⟨[(.some ⟨[(.dp (.s (R) (n) 1))], 1, 22, false, .cells⟩)], [(.code (atC [1, 1, 1, 0, 1, 0, 0] (bodyOf Tryz.f27))), (.inLoop (atC [1, 1, 1, 0, 1, 0, 0] (bodyOf Tryz.f27))), (.inBlock 0), (.code (atC [1, 1, 1, 1] (bodyOf Tryz.f27)))], mkT j [(0, (.e (.one (.dp (.s (C) (n) 1))))), (7, (.e (.one (.slc 0 0 1 1 1 false)))), (8, (.e (.one (.dp (.s (D) (m) 1)))))] 57 0⟩
theorem p27fn (hE : EnvOk E) (C : List DT) (n m : Nat) (D R : List DT) (h0 : (decide (Int.ofNat n < Int.ofNat n) : Bool) = false) {Φ : Res → Prop} (ho : ∀ j, OutK E 0 0 (p27fn_end C n m D R j) Φ) (j : Nat → Value) : OutK E 0 0 (y27f C n m D R j) Φ :=
 oS hE [.run 3, (.cond false), .run 4] [0, 7, 8] (s' := fun j => ⟨[none, (bK [(.dp (.s (R) (n) 1))] 1 22), (.some ⟨[(.dp (.s (R) (n) 1))], 1, 22, false, .cells⟩)], [(.code (atC [1, 1, 1, 0, 1, 0, 0] (bodyOf Tryz.f27))), (.inLoop (atC [1, 1, 1, 0, 1, 0, 0] (bodyOf Tryz.f27))), (.inBlock 0), (.code (atC [1, 1, 1, 1] (bodyOf Tryz.f27)))], mkT j [(0, (.e (.one (.dp (.s (C) (n) 1))))), (7, (.e (.one (.slc 2 0 1 1 1 false)))), (8, (.e (.one (.dp (.s (D) (m) 1)))))] 57 0⟩) (aP h0 <| aZ)
  fun j => gZ [2] (ho j)
def p27fo_end (C : List DT) (n k m : Nat) (D : List DT) (Y : List AC) (j : Nat → Value) : St := ⟨[(.some ⟨(Y), (k + 1), 22, false, .cells⟩)], [(.code (atC [1, 1, 1, 0, 1, 0, 0] (bodyOf Tryz.f27))), (.inLoop (atC [1, 1, 1, 0, 1, 0, 0] (bodyOf Tryz.f27))), (.inBlock 0), (.code (atC [1, 1, 1, 1] (bodyOf Tryz.f27)))], mkT j [(0, (.e (.one (.dp (.s (C) (n) 1))))), (7, (.e (.one (.slc 0 0 (k + 1) 1 (k + 1) false)))), (8, (.e (.one (.dp (.s (D) (m) 1)))))] 57 0⟩
theorem p27fo (hE : EnvOk E) (C : List DT) (n k m : Nat) (_x : Int) (D R : List DT) (O Y : List AC) (h0 : (decide (Int.ofNat n < Int.ofNat n) : Bool) = false) (h1 : ¬k + 1 ≤ k) (h2 : (small (k + 1) (1 : Nat) (24 : Nat) : Bool) = true) (h3 : (k : Nat) = k * nat_lit 1) (h4 : (appL O ((fun x => AC.dp (DV.s R n (nat_lit 1)) :: x) []) : List AC) = Y) (h6 : ((k + 1) * nat_lit 1 : Nat) = k + 1) (g0 : FlatC (Y)) {Φ : Res → Prop} (ho : ∀ j, OutK E 0 0 (p27fo_end C n k m D Y j) Φ) (j : Nat → Value) : OutK E 0 0 (y27g C n k m D R O j) Φ :=
 oS hE [.run 3, (.cond false), .run 1, (.ops [(3, (.app (k + 1) (k + 1) (Y)))] []), .run 2] [0, 7, 8] (s' := fun j => ⟨[none, none, (bK [(.dp (.s (R) (n) 1))] 1 22), (.some ⟨(Y), (k + 1), 22, false, .cells⟩)], [(.code (atC [1, 1, 1, 0, 1, 0, 0] (bodyOf Tryz.f27))), (.inLoop (atC [1, 1, 1, 0, 1, 0, 0] (bodyOf Tryz.f27))), (.inBlock 0), (.code (atC [1, 1, 1, 1] (bodyOf Tryz.f27)))], mkT j [(0, (.e (.one (.dp (.s (C) (n) 1))))), (7, (.e (.one (.slc 3 0 (k + 1) 1 (k + 1) false)))), (8, (.e (.one (.dp (.s (D) (m) 1)))))] 57 0⟩) (aP h0 <| aP h1 <| aP h2 <| aP h3 <| aP h4 <| aP (rfl : (k + 1 : Nat) = k + 1) <| aP h6 <| aZ)
  fun j => outK_gcF [3] [true] (h' := [(.some ⟨(Y), (k + 1), 22, false, .cells⟩)]) (by decide) (by kernel_rfl) (by kernel_rfl) ⟨g0, trivial⟩ (by kernel_rfl) (ho j)
theorem look_frz {i : Nat} {ds : List DT} : ∀ (l l' : List (Nat × AV)), All2 (fun p q => p.1 = q.1 ∧ FrzV i ds p.2 q.2) l l' → ∀ k, (lookT l k = none ∧ lookT l' k = none) ∨ ∃ x y, lookT l k = some x ∧ lookT l' k = some y ∧ FrzV i ds x y
 | [], [], _, k => .inl ⟨rfl, rfl⟩
 | p :: l, q :: l', h, k => by
  obtain ⟨⟨h1, h2⟩, h3⟩ := h
  have e1 : lookT (p :: l) k = if Nat.beq p.1 k then some p.2 else lookT l k := rfl
  have e2 : lookT (q :: l') k = if Nat.beq q.1 k then some q.2 else lookT l' k := rfl
  rw [e1, e2, h1]
  by_cases c : Nat.beq q.1 k = true
  ·rw [if_pos c, if_pos c]; exact .inr ⟨_, _, rfl, rfl, h2⟩
  ·rw [if_neg c, if_neg c]; exact look_frz l l' h3 k
theorem frz2 {i : Nat} {ds : List DT} (j : Nat → Value) (l l' : List (Nat × AV)) (h : All2 (fun p q => p.1 = q.1 ∧ FrzV i ds p.2 q.2) l l') : ∀ n k, All2 (FrzV i ds) (mkT j l n k) (mkT j l' n k)
 | 0, _ => trivial
 | n + 1, k => by
  refine ⟨?_, frz2 j l l' h n (k + 1)⟩
  show FrzV i ds (match lookT l k with | some x => x | none => .e (.one (.v (j k)))) (match lookT l' k with | some x => x | none => .e (.one (.v (j k))))
  rcases look_frz l l' h k with ⟨a, b⟩ | ⟨x, y, a, b, c⟩
  ·rw [a, b]; exact .inl rfl
  ·rw [a, b]; exact c
theorem st_iC (l : List Int) (k : Nat) (v : Int) : overL [AC.v (.int .i64 v)] (iC l) k = iC (l.set k v) := by
 show setL _ _ _ = _
 rw [setL_eq]
 simp [List.map_set]; rfl
theorem rep0 : ∀ n, repeatC ((fun z => List.map AC.v z.cells.toList) (Value.int IntKind.i64 (0 : Int))) n = iC (List.replicate n 0)
 | 0 => rfl
 | n + 1 => by
  show _ ++ repeatC _ n = _
  rw [rep0 n, List.replicate_succ]
  rfl
def symF : List Int → List Bool → List Int
 | [], _ => []
 | x :: r, d => lvT.getD (cutF x.toNat 0 d).1.toNat 0 :: symF r (d.drop x.toNat)
def restF : List Int → List Bool → List Bool
 | [], d => d
 | x :: r, d => restF r (d.drop x.toNat)
def loadF : Nat → List Int → List Bool → List (List Int)
 | 0, _, _ => []
 | f + 1, xs, d => if d.length = 0 then [] else symF xs d :: loadF f xs (restF xs d)
theorem rest_le : ∀ (xs : List Int) (d : List Bool), (restF xs d).length ≤ d.length
 | [], d => Nat.le_refl _
 | x :: r, d => by
  have := rest_le r (d.drop x.toNat)
  show (restF r (d.drop x.toNat)).length ≤ _
  rw [List.length_drop] at this
  omega
theorem rest_lt : ∀ (xs : List Int) (d : List Bool), (∃ x ∈ xs, 0 < x.toNat) → 0 < d.length → (restF xs d).length < d.length
 | [], d, h, _ => by obtain ⟨x, hx, _⟩ := h; simp at hx
 | x :: r, d, h, hd => by
  show (restF r (d.drop x.toNat)).length < _
  have h1 := rest_le r (d.drop x.toNat)
  rw [List.length_drop] at h1
  by_cases hx : 0 < x.toNat
  ·omega
  ·have e : x.toNat = 0 := by omega
   rw [e, List.drop_zero]
   refine rest_lt r d ?_ hd
   obtain ⟨y, hy, hy2⟩ := h
   rcases List.mem_cons.1 hy with rfl | hy
   ·omega
   ·exact ⟨y, hy, hy2⟩
theorem tot0 : ∀ (xs : List Int), (∀ x ∈ xs, x = 0) → totF xs 0 = 0
 | [], _ => rfl
 | x :: r, h => by
  show totF r (wrapF .i64 (0 + x)) = 0
  rw [h x (List.mem_cons_self ..)]
  exact tot0 r fun y hy => h y (List.mem_cons_of_mem _ hy)
theorem rg_00 {x lo hi : Int} (h : rg x lo hi = 0) : lo ≤ x ∧ x ≤ hi := by
 unfold rg at h
 split at h
 ·exact absurd h (by decide)
 ·omega
theorem each_0 {lo hi : Int} : ∀ {xs : List Int}, eachE lo hi xs = 0 → ∀ x ∈ xs, lo ≤ x ∧ x ≤ hi
 | [], _, x, hx => by simp at hx
 | a :: r, h, x, hx => by
  have h' : (if rg a lo hi = 0 then eachE lo hi r else rg a lo hi) = 0 := h
  by_cases c : rg a lo hi = 0
  ·rw [if_pos c] at h'
   rcases List.mem_cons.1 hx with rfl | hx
   ·exact rg_00 c
   ·exact each_0 h' x hx
  ·rw [if_neg c] at h'; exact absurd h' c
theorem map_0 {xs : List Int} (h : mapE xs = 0) : 0 < xs.length ∧ xs.length ≤ 8 ∧ ∀ x ∈ xs, 0 ≤ x ∧ x ≤ 6 := by
 unfold mapE at h
 by_cases h1 : xs.length = 0
 ·rw [if_pos h1] at h; exact absurd h (by decide)
 ·rw [if_neg h1] at h
  by_cases h2 : 8 < xs.length
  ·rw [if_pos h2] at h; exact absurd h (by decide)
  ·rw [if_neg h2] at h; exact ⟨by omega, by omega, each_0 h⟩
theorem bear_0 {xs : List Int} (h : bearE xs = 0) : mapE xs = 0 ∧ ∃ x ∈ xs, 0 < x.toNat := by
 unfold bearE at h
 rw [fI2] at h
 by_cases c : mapE xs = 0
 ·rw [if_pos c] at h
  refine ⟨c, Classical.byContradiction fun hn => ?_⟩
  have hz := tot0 xs fun x hx => by
   have h1 := ((map_0 c).2.2 x hx).1
   have h2 : ¬ 0 < x.toNat := fun a => hn ⟨x, hx, a⟩
   omega
  rw [hz] at h
  exact absurd h (by decide)
 ·rw [if_neg c] at h; exact absurd h c
theorem rep_set (A : List Int) (m : Nat) (a : Int) : (A ++ List.replicate (m + 1) 0).set A.length a = (A ++ [a]) ++ List.replicate m 0 := by
 rw [List.set_append_right _ _ (Nat.le_refl _), Nat.sub_self, List.replicate_succ, List.set_cons_zero, List.append_assoc]
 rfl
theorem l27i {Φ : Res → Prop} (hE : EnvOk E) (xs : List Int) (hm : xs.length ≤ 8) (hb : ∀ x ∈ xs, 0 ≤ x ∧ x ≤ 6) : ∀ m i, m + i = xs.length → ∀ (A : List Int) (d : List Bool) (row : List Int) (rest : List Bool), A.length = i → row = A ++ symF (xs.drop i) d → rest = restF (xs.drop i) d → (∀ j, OutK E 0 0 (y27o (iD xs) (xs.length) (1) (rest.length) (bbD rest) (rC [row]) j) Φ) → ∀ j, OutK E 0 0 (y27i (iD xs) (xs.length) (i) (d.length) (bbD d) (iC (A ++ List.replicate m 0)) j) Φ
 | 0, i, hi, A, d, row, rest, hA, hrow, hrest, cont, j => by
  obtain rfl : i = xs.length := by omega
  rw [List.drop_length] at hrow hrest
  obtain rfl : rest = d := hrest
  obtain rfl : row = A := by rw [hrow]; exact List.append_nil A
  rw [List.replicate_zero, List.append_nil]
  have e : rC [row] = [.dp (.s (iD row) xs.length 1)] := by rw [← hA]; rfl
  rw [e] at cont
  refine outK_freeze 0 (ds := iD row) (N := xs.length) (el := 3) (fl := true) (h' := (y27f (iD xs) (xs.length) (rest.length) (bbD rest) (iD row) j).heap) (tm' := (y27f (iD xs) (xs.length) (rest.length) (bbD rest) (iD row) j).tm) rfl (Nat.zero_le _) ⟨trivial, trivial⟩ (frz2 j [(0, dI xs), (7, (.e (.one (.v (.slice none 0 0))))), (8, dB rest), (9, (.e (.one (.slc 0 0 xs.length 1 xs.length true)))), (32, dI xs), (33, (iI (Int.ofNat xs.length))), (34, (iI (Int.ofNat xs.length)))] [(0, dI xs), (7, (.e (.one (.v (.slice none 0 0))))), (8, dB rest), (9, (.e (.one (.dp (.s (iD row) xs.length 1))))), (32, dI xs), (33, (iI (Int.ofNat xs.length))), (34, (iI (Int.ofNat xs.length)))] ⟨⟨rfl, .inl rfl⟩, ⟨rfl, .inl rfl⟩, ⟨rfl, .inl rfl⟩, ⟨rfl, .inr ⟨0, xs.length, 1, xs.length, true, iD row, rfl, rfl, by rw [Nat.mul_one]; exact tkAll _ _ (by rw [List.length_map]; exact hA)⟩⟩, ⟨rfl, .inl rfl⟩, ⟨rfl, .inl rfl⟩, ⟨rfl, .inl rfl⟩, trivial⟩ 57 0) ?_
  exact p27fn hE (iD xs) (xs.length) (rest.length) (bbD rest) (iD row) (decide_eq_false (by (try simp only [Int.ofNat_eq_natCast]); omega)) cont j
 | m + 1, i, hi, A, d, row, rest, hA, hrow, hrest, cont, j => by
  have hl : i < xs.length := by omega
  have hx : xs[i]? = some xs[i] := List.getElem?_eq_getElem hl
  have hb' := hb xs[i] (List.getElem_mem hl)
  rw [List.drop_eq_getElem_cons hl] at hrow hrest
  generalize xs[i] = x at hx hb' hrow hrest
  obtain ⟨q, rfl⟩ := Int.eq_ofNat_of_zero_le hb'.1
  have hq : q ≤ 6 := by omega
  have k86 := K86 hE q hq d
  have hlt := cut_lt q 0 d 1 (by decide) (by decide)
  have h64 := two_le ⟨q, by omega⟩
  simp only at h64
  replace hrow : row = A ++ (lvT.getD (cutF q 0 d).1.toNat 0 :: symF (xs.drop (i + 1)) (d.drop q)) := hrow
  replace hrest : rest = restF (xs.drop (i + 1)) (d.drop q) := hrest
  have hcr := cut_rest q 0 d
  generalize cutF q 0 d = c at k86 hlt hrow hcr
  obtain ⟨g, r⟩ := c
  simp only at hlt hcr hrow
  subst hcr
  obtain ⟨gn, rfl⟩ := Int.eq_ofNat_of_zero_le hlt.1
  have hg : gn < 64 := by omega
  have k87 := K87 hE gn hg
  replace hrow : row = (A ++ [lvT.getD gn 0]) ++ symF (xs.drop (i + 1)) (d.drop q) := by rw [hrow, List.append_assoc]; rfl
  have hst : overL [AC.v (Value.int .i64 (lvT.getD gn 0))] (iC (A ++ List.replicate (m + 1) 0)) i = iC ((A ++ [lvT.getD gn 0]) ++ List.replicate m 0) := by
   rw [st_iC, ← hA, rep_set]
  exact p27sn hE (iD xs) (xs.length) (i) (d.length) ((d.drop q).length) ((q : Int)) (lvT.getD gn 0) ((gn : Int)) (bbD d) (bbD (d.drop q)) (iC (A ++ List.replicate (m + 1) 0)) (iC ((A ++ [lvT.getD gn 0]) ++ List.replicate m 0)) (decide_eq_true (by (try simp only [Int.ofNat_eq_natCast]); omega)) ⟨by (try simp only [Int.ofNat_eq_natCast]); omega, by (try simp only [Int.ofNat_eq_natCast]); omega⟩ (Nat.mul_one _) (gI hx) k86 k87 (by simp) (by omega) hst (iIe (by (try simp only [Int.ofNat_eq_natCast]); rw [wrap_id (by omega) (by omega)]; try omega)) (l27i hE xs hm hb m (i + 1) (by omega) (A ++ [lvT.getD gn 0]) (d.drop q) row rest (by simp [hA]) hrow hrest cont) j
theorem l27j {Φ : Res → Prop} (hE : EnvOk E) (xs : List Int) (hm : xs.length ≤ 8) (hb : ∀ x ∈ xs, 0 ≤ x ∧ x ≤ 6) (Os : List (List Int)) (hO : Os.length ≤ 2000) : ∀ m i, m + i = xs.length → ∀ (A : List Int) (d : List Bool) (row : List Int) (rest : List Bool), A.length = i → row = A ++ symF (xs.drop i) d → rest = restF (xs.drop i) d → (∀ j, OutK E 0 0 (y27o (iD xs) (xs.length) ((Os.length + 1)) (rest.length) (bbD rest) (rC (Os ++ [row])) j) Φ) → ∀ j, OutK E 0 0 (y27j (iD xs) (xs.length) (i) (Os.length) (d.length) (bbD d) (rC Os) (iC (A ++ List.replicate m 0)) j) Φ
 | 0, i, hi, A, d, row, rest, hA, hrow, hrest, cont, j => by
  obtain rfl : i = xs.length := by omega
  rw [List.drop_length] at hrow hrest
  obtain rfl : rest = d := hrest
  obtain rfl : row = A := by rw [hrow]; exact List.append_nil A
  rw [List.replicate_zero, List.append_nil]
  have e : appL (rC Os) [.dp (.s (iD row) xs.length 1)] = rC (Os ++ [row]) := by rw [← hA]; exact rC_app Os row
  refine outK_freeze 1 (ds := iD row) (N := xs.length) (el := 3) (fl := true) (h' := (y27g (iD xs) (xs.length) (Os.length) (rest.length) (bbD rest) (iD row) (rC Os) j).heap) (tm' := (y27g (iD xs) (xs.length) (Os.length) (rest.length) (bbD rest) (iD row) (rC Os) j).tm) rfl (Nat.zero_le _) ⟨.inl rfl, trivial, trivial⟩ (frz2 j [(0, dI xs), (7, (.e (.one (.slc 0 0 Os.length 1 Os.length false)))), (8, dB rest), (9, (.e (.one (.slc 1 0 xs.length 1 xs.length true)))), (32, dI xs), (33, (iI (Int.ofNat xs.length))), (34, (iI (Int.ofNat xs.length)))] [(0, dI xs), (7, (.e (.one (.slc 0 0 Os.length 1 Os.length false)))), (8, dB rest), (9, (.e (.one (.dp (.s (iD row) xs.length 1))))), (32, dI xs), (33, (iI (Int.ofNat xs.length))), (34, (iI (Int.ofNat xs.length)))] ⟨⟨rfl, .inl rfl⟩, ⟨rfl, .inl rfl⟩, ⟨rfl, .inl rfl⟩, ⟨rfl, .inr ⟨0, xs.length, 1, xs.length, true, iD row, rfl, rfl, by rw [Nat.mul_one]; exact tkAll _ _ (by rw [List.length_map]; exact hA)⟩⟩, ⟨rfl, .inl rfl⟩, ⟨rfl, .inl rfl⟩, ⟨rfl, .inl rfl⟩, trivial⟩ 57 0) ?_
  exact p27fo hE (iD xs) (xs.length) (Os.length) (rest.length) 0 (bbD rest) (iD row) (rC Os) (rC (Os ++ [row])) (decide_eq_false (by (try simp only [Int.ofNat_eq_natCast]); omega)) (by omega) (by simp [small]; omega) (by first | rfl | trivial | omega | simp | (simp <;> omega)) e (by first | rfl | trivial | omega | simp | (simp <;> omega)) (by first | exact flat_iC _ | exact flat_rows _) cont j
 | m + 1, i, hi, A, d, row, rest, hA, hrow, hrest, cont, j => by
  have hl : i < xs.length := by omega
  have hx : xs[i]? = some xs[i] := List.getElem?_eq_getElem hl
  have hb' := hb xs[i] (List.getElem_mem hl)
  rw [List.drop_eq_getElem_cons hl] at hrow hrest
  generalize xs[i] = x at hx hb' hrow hrest
  obtain ⟨q, rfl⟩ := Int.eq_ofNat_of_zero_le hb'.1
  have hq : q ≤ 6 := by omega
  have k86 := K86 hE q hq d
  have hlt := cut_lt q 0 d 1 (by decide) (by decide)
  have h64 := two_le ⟨q, by omega⟩
  simp only at h64
  replace hrow : row = A ++ (lvT.getD (cutF q 0 d).1.toNat 0 :: symF (xs.drop (i + 1)) (d.drop q)) := hrow
  replace hrest : rest = restF (xs.drop (i + 1)) (d.drop q) := hrest
  have hcr := cut_rest q 0 d
  generalize cutF q 0 d = c at k86 hlt hrow hcr
  obtain ⟨g, r⟩ := c
  simp only at hlt hcr hrow
  subst hcr
  obtain ⟨gn, rfl⟩ := Int.eq_ofNat_of_zero_le hlt.1
  have hg : gn < 64 := by omega
  have k87 := K87 hE gn hg
  replace hrow : row = (A ++ [lvT.getD gn 0]) ++ symF (xs.drop (i + 1)) (d.drop q) := by rw [hrow, List.append_assoc]; rfl
  have hst : overL [AC.v (Value.int .i64 (lvT.getD gn 0))] (iC (A ++ List.replicate (m + 1) 0)) i = iC ((A ++ [lvT.getD gn 0]) ++ List.replicate m 0) := by
   rw [st_iC, ← hA, rep_set]
  exact p27so hE (iD xs) (xs.length) (i) (Os.length) (d.length) ((d.drop q).length) ((q : Int)) (lvT.getD gn 0) ((gn : Int)) (bbD d) (bbD (d.drop q)) (rC Os) (iC (A ++ List.replicate (m + 1) 0)) (iC ((A ++ [lvT.getD gn 0]) ++ List.replicate m 0)) (decide_eq_true (by (try simp only [Int.ofNat_eq_natCast]); omega)) ⟨by (try simp only [Int.ofNat_eq_natCast]); omega, by (try simp only [Int.ofNat_eq_natCast]); omega⟩ (Nat.mul_one _) (gI hx) k86 k87 (by simp) (by omega) hst (iIe (by (try simp only [Int.ofNat_eq_natCast]); rw [wrap_id (by omega) (by omega)]; try omega)) (l27j hE xs hm hb Os hO m (i + 1) (by omega) (A ++ [lvT.getD gn 0]) (d.drop q) row rest (by simp [hA]) hrow hrest cont) j
theorem l27o (hE : EnvOk E) (xs : List Int) (hm : xs.length ≤ 8) (hb : ∀ x ∈ xs, 0 ≤ x ∧ x ≤ 6) (hp : ∃ x ∈ xs, 0 < x.toNat) (V : List (List Int)) : ∀ (f : Nat) (d : List Bool) (Os : List (List Int)), d.length ≤ f → Os.length + f ≤ 2000 → V = Os ++ loadF f xs d → ∀ j, OutK E 0 0 (y27o (iD xs) (xs.length) (Os.length) (d.length) (bbD d) (rC Os) j) (Go.Ev.Ends E Tryz.f27 (.tup [.one (.slc 0 0 V.length 1 V.length false), .one (.v (.int .i64 0))]) [some ⟨rC V, V.length, 22, false, .cells⟩])
 | 0, d, Os, hd, hO, hV, j => by
  obtain rfl : V = Os := by rw [hV]; exact List.append_nil _
  exact p27xo hE (iD xs) (xs.length) (V.length) (d.length) (bbD d) (rC V) (decide_eq_false (by omega)) (fun j => outK_ret (ends_ret (by kernel_rfl))) j
 | f + 1, d, Os, hd, hO, hV, j => by
  have e : loadF (f + 1) xs d = if d.length = 0 then [] else symF xs d :: loadF f xs (restF xs d) := rfl
  rw [e] at hV
  by_cases h : d.length = 0
  ·rw [if_pos h, List.append_nil] at hV
   subst hV
   exact p27xo hE (iD xs) (xs.length) (V.length) (d.length) (bbD d) (rC V) (decide_eq_false (by omega)) (fun j => outK_ret (ends_ret (by kernel_rfl))) j
  ·rw [if_neg h] at hV
   have hlt := rest_lt xs d hp (by omega)
   have ih := l27o hE xs hm hb hp V f (restF xs d) (Os ++ [symF xs d]) (by omega) (by simp; omega) (by rw [hV, List.append_assoc]; rfl)
   rw [List.length_append, List.length_singleton] at ih
   exact p27bo hE (iD xs) (xs.length) (Os.length) (d.length) (bbD d) (rC Os) (iC (List.replicate xs.length 0)) (decide_eq_true (by omega)) ⟨by omega, by omega⟩ (by simp [small]; omega) rfl (by first | rfl | trivial | omega | simp | (simp <;> omega)) (rep0 _) (l27j hE xs hm hb Os (by omega) xs.length 0 rfl [] d (symF xs d) (restF xs d) rfl rfl rfl ih) j
def loadE (xs : List Int) (m : Nat) : Int := firstI [bearE xs, fI (decide ((m : Int) > 1024)) 5]
def loadV (xs : List Int) (d : List Bool) : List (List Int) := if loadE xs d.length = 0 then loadF d.length xs d else []
theorem load_0 {xs : List Int} {m : Nat} (h : loadE xs m = 0) : bearE xs = 0 ∧ m ≤ 1024 := by
 unfold loadE at h
 rw [fI2] at h
 by_cases c : bearE xs = 0
 ·rw [if_pos c] at h
  refine ⟨c, Classical.byContradiction fun a => ?_⟩
  rw [show fI (decide ((m : Int) > 1024)) 5 = 5 by unfold fI; rw [if_pos (decide_eq_true (by omega))]] at h
  exact absurd h (by decide)
 ·rw [if_neg c] at h; exact absurd h c
theorem K27 (hE : EnvOk E) (xs : List Int) (d : List Bool) (hx : xs.length ≤ 100000) : COut E 0 [] 27 [dI xs, dB d] (.tup [.one (.dp (.s (rD (loadV xs d)) (loadV xs d).length 1)), .one (.v (.int .i64 (loadE xs d.length)))]) [] := by
 have k69 := lend2 1 hE 69 _ _ 29 true (K69 hE [bearE xs, fI (decide ((d.length : Int) > 1024)) 5] (by simp)) [bK [.v (.int .i64 (bearE xs)), .v (.int .i64 (fI (decide ((d.length : Int) > 1024)) 5))] 2 29] 0 rfl
 by_cases h : loadE xs d.length = 0
 ·obtain ⟨h1, h2⟩ := load_0 h
  obtain ⟨h3, hp⟩ := bear_0 h1
  obtain ⟨h4, h5, hb⟩ := map_0 h3
  rw [show firstI [bearE xs, fI (decide ((d.length : Int) > 1024)) 5] = 0 from h] at k69
  have ev : loadV xs d = loadF d.length xs d := if_pos h
  rw [ev, h]
  by_cases hd : d.length = 0
  ·have e0 : loadF d.length xs d = [] := by rw [hd]; rfl
   rw [e0]
   have hc : COut E 0 [] 27 [dI xs, dB d] (.tup [.one (.v (.slice none 0 0)), .one (.v (.int .i64 0))]) [] :=
    cOut_clear (cOut_start Tryz.func27 rfl (p27a hE (iD xs) (xs.length) (d.length) (bearE xs) (fI (decide ((d.length : Int) > 1024)) 5) (0) (bbD d) (K84 hE xs hx) (K85 hE _ _) k69 rfl (p27xn hE (iD xs) (xs.length) (d.length) (bbD d) (decide_eq_false (by omega)) (fun j => outK_ret (ends_ret (by kernel_rfl)))) fun _ => undef)) rfl
   exact tup_wk hc fun m => ⟨wkN m 1, fun _ h => h, trivial⟩
  ·obtain ⟨f, hf⟩ : ∃ f, d.length = f + 1 := ⟨d.length - 1, by omega⟩
   have e1 : loadF d.length xs d = [symF xs d] ++ loadF f xs (restF xs d) := by rw [hf]; show (if d.length = 0 then [] else _) = _; rw [if_neg hd]; rfl
   have hlt := rest_lt xs d hp (by omega)
   have lo := l27o hE xs h5 hb hp (loadF d.length xs d) f (restF xs d) [symF xs d] (by omega) (by simp; omega) e1
   generalize loadF d.length xs d = V at lo
   have hc : COut E 0 [] 27 [dI xs, dB d] (.tup [.one (.slc 0 0 V.length 1 V.length false), .one (.v (.int .i64 0))]) [some ⟨rC V, V.length, 22, false, .cells⟩] :=
    cOut_start Tryz.func27 rfl (p27a hE (iD xs) (xs.length) (d.length) (bearE xs) (fI (decide ((d.length : Int) > 1024)) 5) (0) (bbD d) (K84 hE xs hx) (K85 hE _ _) k69 rfl (p27bn hE (iD xs) (xs.length) (d.length) (bbD d) (iC (List.replicate xs.length 0)) (decide_eq_true (by omega)) ⟨by omega, by omega⟩ (by simp [small]; omega) rfl (by first | rfl | trivial | omega | simp | (simp <;> omega)) (rep0 _) (l27i hE xs h5 hb xs.length 0 rfl [] d (symF xs d) (restF xs d) rfl rfl rfl lo)) fun _ => undef)
   exact cOut_clear (cOut_freeze 0 hc rfl (Nat.zero_le _) (ds := rD V) (v' := .tup [.one (.dp (.s (rD V) V.length 1)), .one (.v (.int .i64 0))]) ⟨frzAll (b := 0) (rD V) V.length 1 V.length false (by simp), .inl rfl, trivial⟩) rfl
 ·have ev : loadV xs d = [] := if_neg h
  rw [ev]
  have hc : COut E 0 [] 27 [dI xs, dB d] (.tup [.one (.v (.slice none 0 0)), .one (.v (.int .i64 (loadE xs d.length)))]) [] :=
   cOut_clear (cOut_start Tryz.func27 rfl (p27e hE (iD xs) (xs.length) (d.length) (bearE xs) (fI (decide ((d.length : Int) > 1024)) 5) (loadE xs d.length) (bbD d) (K84 hE xs hx) (K85 hE _ _) k69 (bne_iff_ne.2 h) (fun j => outK_ret (ends_ret (by kernel_rfl))) fun _ => undef)) rfl
  exact tup_wk hc fun m => ⟨wkN m 1, fun _ h => h, trivial⟩
end
end Go.Proofs.YtaccakbjankeeaaGreatDoor
end
