/-
  Part of the proof: SePd, SeFi, SePe, SeEqF, SePf, SeFj, SeMa.
-/
import Derived.Test.YtbmcfhkedgpldaaGreatDoorSeZG
import Derived.Stop.BytesEq

/-! SePd -/
section
open Go Go.Ev
namespace Go.Proofs.YtbmcfhkedgpldaaGreatDoor
noncomputable section
set_option maxRecDepth 100000
set_option maxHeartbeats 20000000
def s79 (C : List DT) (n _i : Nat) (_x _y _u : Int) (_j : Nat → Value) : St := startK Tryz.f79 [] [(.e (.one (.dp (.s C n 1))))]
def s66 (C : List DT) (n _i : Nat) (_x _y _u : Int) (_j : Nat → Value) : St := startK Tryz.f66 [] [(.e (.one (.dp (.s C n 1)))), (.e (.one (.dp (.s C n 1))))]
def s94 (q0 q1 q2 L : Int) (m0 m1 m2 : Bool) (_j : Nat → Value) : St := startK Tryz.f94 [] [.e (.agg [.v (.int .i64 q0), .v (.int .i64 q1), .v (.int .i64 q2)]), .e (.agg [.v (.bool m0), .v (.bool m1), .v (.bool m2)]), iI L]
def q79 (C : List DT) (n i : Nat) (_x _y _u : Int) (j : Nat → Value) : St := ⟨[], [(.code (atC [1, 0, 1, 0, 0] (bodyOf Tryz.f79))), (.inLoop (atC [1, 0, 1, 0, 0] (bodyOf Tryz.f79))), (.inBlock 0), (.code (atC [1, 1] (bodyOf Tryz.f79)))], mkT j [(5, (.e (.one (.dp (.s (C) (n) 1))))), (6, (iI (Int.ofNat n))), (7, (iI (Int.ofNat i)))] 15 0⟩
def q66 (C : List DT) (n i : Nat) (_x _y _u : Int) (j : Nat → Value) : St := ⟨[], [(.code (atC [1, 1, 0, 1, 0, 0] (bodyOf Tryz.f66))), (.inLoop (atC [1, 1, 0, 1, 0, 0] (bodyOf Tryz.f66))), (.inBlock 0), (.code (atC [1, 1, 1] (bodyOf Tryz.f66)))], mkT j [(0, (.e (.one (.dp (.s (C) (n) 1))))), (1, (.e (.one (.dp (.s (C) (n) 1))))), (5, (iI (Int.ofNat i)))] 26 0⟩
def q94_0 (q0 q1 q2 L : Int) (m0 m1 m2 : Bool) (j : Nat → Value) : St := ⟨[(.some ⟨[(.v (.int .i64 (q0))), (.v (.int .i64 (q1))), (.v (.int .i64 (q2)))], 3, 113, true, .cells⟩)], [(.code (atC [1, 0, 1, 0, 0] (bodyOf Tryz.f94))), (.inLoop (atC [1, 0, 1, 0, 0] (bodyOf Tryz.f94))), (.inBlock 0), (.code (atC [1, 1] (bodyOf Tryz.f94)))], mkT j [(2, (iI (L))), (3, (.e (.one (.ptr 0 0)))), (9, (.e (.agg [(.v (.bool (m0))), (.v (.bool (m1))), (.v (.bool (m2)))]))), (10, (iI 0))] 23 0⟩
def q94_1 (q0 q1 q2 L : Int) (m0 m1 m2 : Bool) (j : Nat → Value) : St := ⟨[(.some ⟨[(.v (.int .i64 (q0))), (.v (.int .i64 (q1))), (.v (.int .i64 (q2)))], 3, 113, true, .cells⟩)], [(.code (atC [1, 0, 1, 0, 0] (bodyOf Tryz.f94))), (.inLoop (atC [1, 0, 1, 0, 0] (bodyOf Tryz.f94))), (.inBlock 0), (.code (atC [1, 1] (bodyOf Tryz.f94)))], mkT j [(2, (iI (L))), (3, (.e (.one (.ptr 0 0)))), (9, (.e (.agg [(.v (.bool (m0))), (.v (.bool (m1))), (.v (.bool (m2)))]))), (10, (iI 1))] 23 0⟩
def q94_2 (q0 q1 q2 L : Int) (m0 m1 m2 : Bool) (j : Nat → Value) : St := ⟨[(.some ⟨[(.v (.int .i64 (q0))), (.v (.int .i64 (q1))), (.v (.int .i64 (q2)))], 3, 113, true, .cells⟩)], [(.code (atC [1, 0, 1, 0, 0] (bodyOf Tryz.f94))), (.inLoop (atC [1, 0, 1, 0, 0] (bodyOf Tryz.f94))), (.inBlock 0), (.code (atC [1, 1] (bodyOf Tryz.f94)))], mkT j [(2, (iI (L))), (3, (.e (.one (.ptr 0 0)))), (9, (.e (.agg [(.v (.bool (m0))), (.v (.bool (m1))), (.v (.bool (m2)))]))), (10, (iI 2))] 23 0⟩
def q94_3 (q0 q1 q2 L : Int) (m0 m1 m2 : Bool) (j : Nat → Value) : St := ⟨[(.some ⟨[(.v (.int .i64 (q0))), (.v (.int .i64 (q1))), (.v (.int .i64 (q2)))], 3, 113, true, .cells⟩)], [(.code (atC [1, 0, 1, 0, 0] (bodyOf Tryz.f94))), (.inLoop (atC [1, 0, 1, 0, 0] (bodyOf Tryz.f94))), (.inBlock 0), (.code (atC [1, 1] (bodyOf Tryz.f94)))], mkT j [(2, (iI (L))), (3, (.e (.one (.ptr 0 0)))), (9, (.e (.agg [(.v (.bool (m0))), (.v (.bool (m1))), (.v (.bool (m2)))]))), (10, (iI 3))] 23 0⟩
def p79a_end (C : List DT) (n _i : Nat) (_x _y _u : Int) (j : Nat → Value) : St := ⟨[], [(.code (atC [1, 0, 1, 0, 0] (bodyOf Tryz.f79))), (.inLoop (atC [1, 0, 1, 0, 0] (bodyOf Tryz.f79))), (.inBlock 0), (.code (atC [1, 1] (bodyOf Tryz.f79)))], mkT j [(5, (.e (.one (.dp (.s (C) (n) 1))))), (6, (iI (Int.ofNat n))), (7, (iI 0))] 15 0⟩
theorem p79a (hE : EnvOk E) (C : List DT) (n i : Nat) (x y u : Int)  {Φ : Res → Prop} (ho : ∀ j, OutK E 0 0 (p79a_end C n i x y u j) Φ) (j : Nat → Value) : OutK E 0 0 (s79 C n i x y u j) Φ :=
 outK_seg hE (R0_ok hE) [.run 4, (.ops [(1, (.d .len))] []), .run 2] [5, 6, 7] (ps := []) (fun j => by kernel_rfl) trivial
  ho
def p66a_end (C : List DT) (n _i : Nat) (_x _y _u : Int) (j : Nat → Value) : St := ⟨[], [(.code (atC [1, 1, 0, 1, 0, 0] (bodyOf Tryz.f66))), (.inLoop (atC [1, 1, 0, 1, 0, 0] (bodyOf Tryz.f66))), (.inBlock 0), (.code (atC [1, 1, 1] (bodyOf Tryz.f66)))], mkT j [(0, (.e (.one (.dp (.s (C) (n) 1))))), (1, (.e (.one (.dp (.s (C) (n) 1))))), (5, (iI 0))] 26 0⟩
theorem p66a (hE : EnvOk E) (C : List DT) (n i : Nat) (x y u : Int) (h0 : ((↑n : Int) != (↑n : Int) : Bool) = false) {Φ : Res → Prop} (ho : ∀ j, OutK E 0 0 (p66a_end C n i x y u j) Φ) (j : Nat → Value) : OutK E 0 0 (s66 C n i x y u j) Φ :=
 outK_seg hE (R0_ok hE) [.run 4, (.ops [(1, (.d .len)), (3, (.d .len))] []), (.cond false), .run 6] [0, 1, 5] (fun j => by kernel_rfl) (aP h0 <| aZ)
  ho
def p94a_end (q0 q1 q2 L : Int) (m0 m1 m2 : Bool) (j : Nat → Value) : St := ⟨[(.some ⟨[(.v (.int .i64 (q0))), (.v (.int .i64 (q1))), (.v (.int .i64 (q2)))], 3, 113, true, .cells⟩)], [(.code (atC [1, 0, 1, 0, 0] (bodyOf Tryz.f94))), (.inLoop (atC [1, 0, 1, 0, 0] (bodyOf Tryz.f94))), (.inBlock 0), (.code (atC [1, 1] (bodyOf Tryz.f94)))], mkT j [(2, (iI (L))), (3, (.e (.one (.ptr 0 0)))), (9, (.e (.agg [(.v (.bool (m0))), (.v (.bool (m1))), (.v (.bool (m2)))]))), (10, (iI 0))] 23 0⟩
theorem p94a (hE : EnvOk E) (q0 q1 q2 L : Int) (m0 m1 m2 : Bool)  {Φ : Res → Prop} (ho : ∀ j, OutK E 0 0 (p94a_end q0 q1 q2 L m0 m1 m2 j) Φ) (j : Nat → Value) : OutK E 0 0 (s94 q0 q1 q2 L m0 m1 m2 j) Φ :=
 outK_seg hE (R0_ok hE) [.run 7] [2, 3, 9, 10] (s' := fun j => ⟨[(.some ⟨[(.v (.int .i64 (q0))), (.v (.int .i64 (q1))), (.v (.int .i64 (q2)))], 3, 113, true, .cells⟩), (.some ⟨[(.v (.bool (m0))), (.v (.bool (m1))), (.v (.bool (m2)))], 3, 43, true, .cells⟩)], [(.code (atC [1, 0, 1, 0, 0] (bodyOf Tryz.f94))), (.inLoop (atC [1, 0, 1, 0, 0] (bodyOf Tryz.f94))), (.inBlock 0), (.code (atC [1, 1] (bodyOf Tryz.f94)))], mkT j [(2, (iI (L))), (3, (.e (.one (.ptr 0 0)))), (9, (.e (.agg [(.v (.bool (m0))), (.v (.bool (m1))), (.v (.bool (m2)))]))), (10, (iI 0))] 23 0⟩) (ps := []) (fun j => by kernel_rfl) trivial
  fun j => outK_gc [0] (by decide) (by kernel_rfl) (by kernel_rfl) (by kernel_rfl) (ho j)
def p79s_end (C : List DT) (n i : Nat) (_x _y _u : Int) (j : Nat → Value) : St := ⟨[], [(.code (atC [1, 0, 1, 0, 0] (bodyOf Tryz.f79))), (.inLoop (atC [1, 0, 1, 0, 0] (bodyOf Tryz.f79))), (.inBlock 0), (.code (atC [1, 1] (bodyOf Tryz.f79)))], mkT j [(5, (.e (.one (.dp (.s (C) (n) 1))))), (6, (iI (Int.ofNat n))), (7, (iI (Int.ofNat (i + 1))))] 15 0⟩
theorem p79s (hE : EnvOk E) (C : List DT) (n i : Nat) (x y u : Int) (h0 : (decide (Int.ofNat i < Int.ofNat n) : Bool) = true) (h1 : (0 : Int) ≤ Int.ofNat i ∧ Int.ofNat i < (↑n : Int)) (h2 : ((Int.ofNat i).toNat * nat_lit 1 : Nat) = i) (h3 : (getL C i : Option DT) = (.some (.v (.int .i64 (x))))) (h4 : (x != (0 : Int) : Bool) = false) (h5 : ((iI (wrapF IntKind.i64 (Int.ofNat i + (1 : Int)))) : AV) = (iI (Int.ofNat (i + 1)))) {Φ : Res → Prop} (ho : ∀ j, OutK E 0 0 (p79s_end C n i x y u j) Φ) (j : Nat → Value) : OutK E 0 0 (q79 C n i x y u j) Φ :=
 outK_seg hE (R0_ok hE) [.run 3, (.cond true), .run 4, (.ops [(1, (.d (.ld (.v (.int .i64 (x)))))), (0, (.d (.ix (i))))] []), .run 2, (.cond false), .run 2, (.ops [(0, (.rn (iI (Int.ofNat (i + 1)))))] []), .run 1] [5, 6, 7] (fun j => by kernel_rfl) (aP h0 <| aP h1 <| aP h2 <| aP h3 <| aP h4 <| aP h5 <| aZ)
  ho
def p79e_end (_C : List DT) (_n _i : Nat) (x _y _u : Int) (j : Nat → Value) : St := ⟨[], [(.code .ret), (.inBlock 1), (.code (atC [1, 0, 1, 0, 0, 1, 1, 1] (bodyOf Tryz.f79))), (.inLoop (atC [1, 0, 1, 0, 0] (bodyOf Tryz.f79))), (.inBlock 0), (.code (atC [1, 1] (bodyOf Tryz.f79)))], mkT j [(2, (iI (x)))] 15 0⟩
theorem p79e (hE : EnvOk E) (C : List DT) (n i : Nat) (x y u : Int) (h0 : (decide (Int.ofNat i < Int.ofNat n) : Bool) = true) (h1 : (0 : Int) ≤ Int.ofNat i ∧ Int.ofNat i < (↑n : Int)) (h2 : ((Int.ofNat i).toNat * nat_lit 1 : Nat) = i) (h3 : (getL C i : Option DT) = (.some (.v (.int .i64 (x))))) (h4 : (x != (0 : Int) : Bool) = true) {Φ : Res → Prop} (ho : ∀ j, OutK E 0 0 (p79e_end C n i x y u j) Φ) (j : Nat → Value) : OutK E 0 0 (q79 C n i x y u j) Φ :=
 outK_seg hE (R0_ok hE) [.run 3, (.cond true), .run 4, (.ops [(1, (.d (.ld (.v (.int .i64 (x)))))), (0, (.d (.ix (i))))] []), .run 2, (.cond true), .run 2] [2] (fun j => by kernel_rfl) (aP h0 <| aP h1 <| aP h2 <| aP h3 <| aP h4 <| aZ)
  ho
def p79x_end (_C : List DT) (_n _i : Nat) (_x _y _u : Int) (j : Nat → Value) : St := ⟨[], [(.code .ret)], mkT j [(2, (iI 0))] 15 0⟩
theorem p79x (hE : EnvOk E) (C : List DT) (n i : Nat) (x y u : Int) (h0 : (decide (Int.ofNat i < Int.ofNat n) : Bool) = false) {Φ : Res → Prop} (ho : ∀ j, OutK E 0 0 (p79x_end C n i x y u j) Φ) (j : Nat → Value) : OutK E 0 0 (q79 C n i x y u j) Φ :=
 outK_seg hE (R0_ok hE) [.run 3, (.cond false), .run 3] [2] (fun j => by kernel_rfl) (aP h0 <| aZ)
  ho
def p66s_end (C : List DT) (n i : Nat) (_x _y _u : Int) (j : Nat → Value) : St := ⟨[], [(.code (atC [1, 1, 0, 1, 0, 0] (bodyOf Tryz.f66))), (.inLoop (atC [1, 1, 0, 1, 0, 0] (bodyOf Tryz.f66))), (.inBlock 0), (.code (atC [1, 1, 1] (bodyOf Tryz.f66)))], mkT j [(0, (.e (.one (.dp (.s (C) (n) 1))))), (1, (.e (.one (.dp (.s (C) (n) 1))))), (5, (iI (Int.ofNat (i + 1))))] 26 0⟩
theorem p66s (hE : EnvOk E) (C : List DT) (n i : Nat) (x y u : Int) (h0 : (decide (Int.ofNat i < (↑n : Int)) : Bool) = true) (h1 : (0 : Int) ≤ Int.ofNat i ∧ Int.ofNat i < (↑n : Int)) (h2 : ((Int.ofNat i).toNat * nat_lit 1 : Nat) = i) (h3 : (getL C i : Option DT) = (.some (.v (.int .i64 (x))))) (h4 : (0 : Int) ≤ Int.ofNat i ∧ Int.ofNat i < (↑n : Int)) (h5 : ((Int.ofNat i).toNat * nat_lit 1 : Nat) = i) (h6 : (getL C i : Option DT) = (.some (.v (.int .i64 (x))))) (h8 : (x != x : Bool) = false) (h9 : ((iI (wrapF IntKind.i64 (Int.ofNat i + (1 : Int)))) : AV) = (iI (Int.ofNat (i + 1)))) {Φ : Res → Prop} (ho : ∀ j, OutK E 0 0 (p66s_end C n i x y u j) Φ) (j : Nat → Value) : OutK E 0 0 (q66 C n i x y u j) Φ :=
 outK_seg hE (R0_ok hE) [.run 2, (.ops [(2, (.d .len))] []), (.cond true), .run 4, (.ops [(3, (.d (.ld (.v (.int .i64 (x)))))), (7, (.d (.ld (.v (.int .i64 (x)))))), (2, (.d (.ix (i)))), (6, (.d (.ix (i))))] []), (.cond false), .run 2, (.ops [(1, (.rn (iI (Int.ofNat (i + 1)))))] []), .run 1] [0, 1, 5] (fun j => by kernel_rfl) (aP h0 <| aP h1 <| aP h2 <| aP h3 <| aP h4 <| aP h5 <| aP h6 <| aP (rfl : (true : Bool) = true) <| aP h8 <| aP h9 <| aZ)
  ho
def p66x_end (_C : List DT) (_n _i : Nat) (_x _y _u : Int) (j : Nat → Value) : St := ⟨[], [(.code .ret)], mkT j [(4, (iB true))] 26 0⟩
theorem p66x (hE : EnvOk E) (C : List DT) (n i : Nat) (x y u : Int) (h0 : (decide (Int.ofNat i < (↑n : Int)) : Bool) = false) {Φ : Res → Prop} (ho : ∀ j, OutK E 0 0 (p66x_end C n i x y u j) Φ) (j : Nat → Value) : OutK E 0 0 (q66 C n i x y u j) Φ :=
 outK_seg hE (R0_ok hE) [.run 2, (.ops [(2, (.d .len))] []), (.cond false), .run 3] [4] (fun j => by kernel_rfl) (aP h0 <| aZ)
  ho
def p94_0F_end (q0 q1 q2 L : Int) (m0 m1 m2 : Bool) (j : Nat → Value) : St := ⟨[(.some ⟨[(.v (.int .i64 (q0))), (.v (.int .i64 (q1))), (.v (.int .i64 (q2)))], 3, 113, true, .cells⟩)], [(.code (atC [1, 0, 1, 0, 0] (bodyOf Tryz.f94))), (.inLoop (atC [1, 0, 1, 0, 0] (bodyOf Tryz.f94))), (.inBlock 0), (.code (atC [1, 1] (bodyOf Tryz.f94)))], mkT j [(2, (iI (L))), (3, (.e (.one (.ptr 0 0)))), (9, (.e (.agg [(.v (.bool (m0))), (.v (.bool (m1))), (.v (.bool (m2)))]))), (10, (iI 1))] 23 0⟩
theorem p94_0F (hE : EnvOk E) (q0 q1 q2 L : Int) (m0 m1 m2 : Bool) (h0 : (m0 == true : Bool) = (nat_lit 2, false).snd) (h1 : (m0 == true : Bool) = (nat_lit 3, false).snd) (h2 : (m0 == true : Bool) = (nat_lit 4, false).snd) (h3 : (m0 == true : Bool) = (nat_lit 5, false).snd) (h4 : (m0 == true : Bool) = (nat_lit 6, false).snd) (h5 : (m0 : Bool) = false) {Φ : Res → Prop} (ho : ∀ j, OutK E 0 0 (p94_0F_end q0 q1 q2 L m0 m1 m2 j) Φ) (j : Nat → Value) : OutK E 0 0 (q94_0 q0 q1 q2 L m0 m1 m2 j) Φ :=
 outK_seg hE (R0_ok hE) [.run 10, (.ops [(7, (.pk false))] [(2, false), (3, false), (4, false), (5, false), (6, false)]), .run 5] [2, 3, 9, 10] (fun j => by kernel_rfl) (aP h0 <| aP h1 <| aP h2 <| aP h3 <| aP h4 <| aP h5 <| aZ)
  ho
def p94_0N_end (q0 q1 q2 L : Int) (m0 m1 m2 : Bool) (j : Nat → Value) : St := ⟨[(.some ⟨[(.v (.int .i64 (q0))), (.v (.int .i64 (q1))), (.v (.int .i64 (q2)))], 3, 113, true, .cells⟩)], [(.code (atC [1, 0, 1, 0, 0] (bodyOf Tryz.f94))), (.inLoop (atC [1, 0, 1, 0, 0] (bodyOf Tryz.f94))), (.inBlock 0), (.code (atC [1, 1] (bodyOf Tryz.f94)))], mkT j [(2, (iI (L))), (3, (.e (.one (.ptr 0 0)))), (9, (.e (.agg [(.v (.bool (m0))), (.v (.bool (m1))), (.v (.bool (m2)))]))), (10, (iI 1))] 23 0⟩
theorem p94_0N (hE : EnvOk E) (q0 q1 q2 L : Int) (m0 m1 m2 : Bool) (h0 : (m0 == true : Bool) = (nat_lit 2, true).snd) (h1 : (m0 == true : Bool) = (nat_lit 3, true).snd) (h2 : (m0 == true : Bool) = (nat_lit 4, true).snd) (h3 : (m0 == true : Bool) = (nat_lit 5, true).snd) (h4 : (m0 == true : Bool) = (nat_lit 6, true).snd) (h5 : (m0 : Bool) = true) (h6 : (decide (q0 > L) : Bool) = false) {Φ : Res → Prop} (ho : ∀ j, OutK E 0 0 (p94_0N_end q0 q1 q2 L m0 m1 m2 j) Φ) (j : Nat → Value) : OutK E 0 0 (q94_0 q0 q1 q2 L m0 m1 m2 j) Φ :=
 outK_seg hE (R0_ok hE) [.run 10, (.ops [(7, (.pk true))] [(2, true), (3, true), (4, true), (5, true), (6, true)]), (.cond false), .run 4] [2, 3, 9, 10] (fun j => by kernel_rfl) (aP h0 <| aP h1 <| aP h2 <| aP h3 <| aP h4 <| aP h5 <| aP h6 <| aZ)
  ho
def p94_0Y_end (_q0 _q1 _q2 _L : Int) (_m0 _m1 _m2 : Bool) (j : Nat → Value) : St := ⟨[], [(.code .ret), (.inBlock 1), (.code (atC [1, 0, 1, 0, 0, 1, 1, 1] (bodyOf Tryz.f94))), (.inLoop (atC [1, 0, 1, 0, 0] (bodyOf Tryz.f94))), (.inBlock 0), (.code (atC [1, 1] (bodyOf Tryz.f94)))], mkT j [(6, (iB true))] 23 0⟩
theorem p94_0Y (hE : EnvOk E) (q0 q1 q2 L : Int) (m0 m1 m2 : Bool) (h0 : (m0 == true : Bool) = (nat_lit 2, true).snd) (h1 : (m0 == true : Bool) = (nat_lit 3, true).snd) (h2 : (m0 == true : Bool) = (nat_lit 4, true).snd) (h3 : (m0 == true : Bool) = (nat_lit 5, true).snd) (h4 : (m0 == true : Bool) = (nat_lit 6, true).snd) (h5 : (m0 : Bool) = true) (h6 : (decide (q0 > L) : Bool) = true) {Φ : Res → Prop} (ho : ∀ j, OutK E 0 0 (p94_0Y_end q0 q1 q2 L m0 m1 m2 j) Φ) (j : Nat → Value) : OutK E 0 0 (q94_0 q0 q1 q2 L m0 m1 m2 j) Φ :=
 outK_seg hE (R0_ok hE) [.run 10, (.ops [(7, (.pk true))] [(2, true), (3, true), (4, true), (5, true), (6, true)]), (.cond true), .run 2] [6] (s' := fun j => ⟨[(.some ⟨[(.v (.int .i64 (q0))), (.v (.int .i64 (q1))), (.v (.int .i64 (q2)))], 3, 113, true, .cells⟩)], [(.code .ret), (.inBlock 1), (.code (atC [1, 0, 1, 0, 0, 1, 1, 1] (bodyOf Tryz.f94))), (.inLoop (atC [1, 0, 1, 0, 0] (bodyOf Tryz.f94))), (.inBlock 0), (.code (atC [1, 1] (bodyOf Tryz.f94)))], mkT j [(6, (iB true))] 23 0⟩) (fun j => by kernel_rfl) (aP h0 <| aP h1 <| aP h2 <| aP h3 <| aP h4 <| aP h5 <| aP h6 <| aZ)
  fun j => outK_gc [] (by decide) (by kernel_rfl) (by kernel_rfl) (by kernel_rfl) (ho j)
def p94_1F_end (q0 q1 q2 L : Int) (m0 m1 m2 : Bool) (j : Nat → Value) : St := ⟨[(.some ⟨[(.v (.int .i64 (q0))), (.v (.int .i64 (q1))), (.v (.int .i64 (q2)))], 3, 113, true, .cells⟩)], [(.code (atC [1, 0, 1, 0, 0] (bodyOf Tryz.f94))), (.inLoop (atC [1, 0, 1, 0, 0] (bodyOf Tryz.f94))), (.inBlock 0), (.code (atC [1, 1] (bodyOf Tryz.f94)))], mkT j [(2, (iI (L))), (3, (.e (.one (.ptr 0 0)))), (9, (.e (.agg [(.v (.bool (m0))), (.v (.bool (m1))), (.v (.bool (m2)))]))), (10, (iI 2))] 23 0⟩
theorem p94_1F (hE : EnvOk E) (q0 q1 q2 L : Int) (m0 m1 m2 : Bool) (h0 : (m1 == true : Bool) = (nat_lit 2, false).snd) (h1 : (m1 == true : Bool) = (nat_lit 3, false).snd) (h2 : (m1 == true : Bool) = (nat_lit 4, false).snd) (h3 : (m1 == true : Bool) = (nat_lit 5, false).snd) (h4 : (m1 == true : Bool) = (nat_lit 6, false).snd) (h5 : (m1 : Bool) = false) {Φ : Res → Prop} (ho : ∀ j, OutK E 0 0 (p94_1F_end q0 q1 q2 L m0 m1 m2 j) Φ) (j : Nat → Value) : OutK E 0 0 (q94_1 q0 q1 q2 L m0 m1 m2 j) Φ :=
 outK_seg hE (R0_ok hE) [.run 10, (.ops [(7, (.pk false))] [(2, false), (3, false), (4, false), (5, false), (6, false)]), .run 5] [2, 3, 9, 10] (fun j => by kernel_rfl) (aP h0 <| aP h1 <| aP h2 <| aP h3 <| aP h4 <| aP h5 <| aZ)
  ho
def p94_1N_end (q0 q1 q2 L : Int) (m0 m1 m2 : Bool) (j : Nat → Value) : St := ⟨[(.some ⟨[(.v (.int .i64 (q0))), (.v (.int .i64 (q1))), (.v (.int .i64 (q2)))], 3, 113, true, .cells⟩)], [(.code (atC [1, 0, 1, 0, 0] (bodyOf Tryz.f94))), (.inLoop (atC [1, 0, 1, 0, 0] (bodyOf Tryz.f94))), (.inBlock 0), (.code (atC [1, 1] (bodyOf Tryz.f94)))], mkT j [(2, (iI (L))), (3, (.e (.one (.ptr 0 0)))), (9, (.e (.agg [(.v (.bool (m0))), (.v (.bool (m1))), (.v (.bool (m2)))]))), (10, (iI 2))] 23 0⟩
theorem p94_1N (hE : EnvOk E) (q0 q1 q2 L : Int) (m0 m1 m2 : Bool) (h0 : (m1 == true : Bool) = (nat_lit 2, true).snd) (h1 : (m1 == true : Bool) = (nat_lit 3, true).snd) (h2 : (m1 == true : Bool) = (nat_lit 4, true).snd) (h3 : (m1 == true : Bool) = (nat_lit 5, true).snd) (h4 : (m1 == true : Bool) = (nat_lit 6, true).snd) (h5 : (m1 : Bool) = true) (h6 : (decide (q1 > L) : Bool) = false) {Φ : Res → Prop} (ho : ∀ j, OutK E 0 0 (p94_1N_end q0 q1 q2 L m0 m1 m2 j) Φ) (j : Nat → Value) : OutK E 0 0 (q94_1 q0 q1 q2 L m0 m1 m2 j) Φ :=
 outK_seg hE (R0_ok hE) [.run 10, (.ops [(7, (.pk true))] [(2, true), (3, true), (4, true), (5, true), (6, true)]), (.cond false), .run 4] [2, 3, 9, 10] (fun j => by kernel_rfl) (aP h0 <| aP h1 <| aP h2 <| aP h3 <| aP h4 <| aP h5 <| aP h6 <| aZ)
  ho
def p94_1Y_end (_q0 _q1 _q2 _L : Int) (_m0 _m1 _m2 : Bool) (j : Nat → Value) : St := ⟨[], [(.code .ret), (.inBlock 1), (.code (atC [1, 0, 1, 0, 0, 1, 1, 1] (bodyOf Tryz.f94))), (.inLoop (atC [1, 0, 1, 0, 0] (bodyOf Tryz.f94))), (.inBlock 0), (.code (atC [1, 1] (bodyOf Tryz.f94)))], mkT j [(6, (iB true))] 23 0⟩
theorem p94_1Y (hE : EnvOk E) (q0 q1 q2 L : Int) (m0 m1 m2 : Bool) (h0 : (m1 == true : Bool) = (nat_lit 2, true).snd) (h1 : (m1 == true : Bool) = (nat_lit 3, true).snd) (h2 : (m1 == true : Bool) = (nat_lit 4, true).snd) (h3 : (m1 == true : Bool) = (nat_lit 5, true).snd) (h4 : (m1 == true : Bool) = (nat_lit 6, true).snd) (h5 : (m1 : Bool) = true) (h6 : (decide (q1 > L) : Bool) = true) {Φ : Res → Prop} (ho : ∀ j, OutK E 0 0 (p94_1Y_end q0 q1 q2 L m0 m1 m2 j) Φ) (j : Nat → Value) : OutK E 0 0 (q94_1 q0 q1 q2 L m0 m1 m2 j) Φ :=
 outK_seg hE (R0_ok hE) [.run 10, (.ops [(7, (.pk true))] [(2, true), (3, true), (4, true), (5, true), (6, true)]), (.cond true), .run 2] [6] (s' := fun j => ⟨[(.some ⟨[(.v (.int .i64 (q0))), (.v (.int .i64 (q1))), (.v (.int .i64 (q2)))], 3, 113, true, .cells⟩)], [(.code .ret), (.inBlock 1), (.code (atC [1, 0, 1, 0, 0, 1, 1, 1] (bodyOf Tryz.f94))), (.inLoop (atC [1, 0, 1, 0, 0] (bodyOf Tryz.f94))), (.inBlock 0), (.code (atC [1, 1] (bodyOf Tryz.f94)))], mkT j [(6, (iB true))] 23 0⟩) (fun j => by kernel_rfl) (aP h0 <| aP h1 <| aP h2 <| aP h3 <| aP h4 <| aP h5 <| aP h6 <| aZ)
  fun j => outK_gc [] (by decide) (by kernel_rfl) (by kernel_rfl) (by kernel_rfl) (ho j)
def p94_2F_end (q0 q1 q2 L : Int) (m0 m1 m2 : Bool) (j : Nat → Value) : St := ⟨[(.some ⟨[(.v (.int .i64 (q0))), (.v (.int .i64 (q1))), (.v (.int .i64 (q2)))], 3, 113, true, .cells⟩)], [(.code (atC [1, 0, 1, 0, 0] (bodyOf Tryz.f94))), (.inLoop (atC [1, 0, 1, 0, 0] (bodyOf Tryz.f94))), (.inBlock 0), (.code (atC [1, 1] (bodyOf Tryz.f94)))], mkT j [(2, (iI (L))), (3, (.e (.one (.ptr 0 0)))), (9, (.e (.agg [(.v (.bool (m0))), (.v (.bool (m1))), (.v (.bool (m2)))]))), (10, (iI 3))] 23 0⟩
theorem p94_2F (hE : EnvOk E) (q0 q1 q2 L : Int) (m0 m1 m2 : Bool) (h0 : (m2 == true : Bool) = (nat_lit 2, false).snd) (h1 : (m2 == true : Bool) = (nat_lit 3, false).snd) (h2 : (m2 == true : Bool) = (nat_lit 4, false).snd) (h3 : (m2 == true : Bool) = (nat_lit 5, false).snd) (h4 : (m2 == true : Bool) = (nat_lit 6, false).snd) (h5 : (m2 : Bool) = false) {Φ : Res → Prop} (ho : ∀ j, OutK E 0 0 (p94_2F_end q0 q1 q2 L m0 m1 m2 j) Φ) (j : Nat → Value) : OutK E 0 0 (q94_2 q0 q1 q2 L m0 m1 m2 j) Φ :=
 outK_seg hE (R0_ok hE) [.run 10, (.ops [(7, (.pk false))] [(2, false), (3, false), (4, false), (5, false), (6, false)]), .run 5] [2, 3, 9, 10] (fun j => by kernel_rfl) (aP h0 <| aP h1 <| aP h2 <| aP h3 <| aP h4 <| aP h5 <| aZ)
  ho
def p94_2N_end (q0 q1 q2 L : Int) (m0 m1 m2 : Bool) (j : Nat → Value) : St := ⟨[(.some ⟨[(.v (.int .i64 (q0))), (.v (.int .i64 (q1))), (.v (.int .i64 (q2)))], 3, 113, true, .cells⟩)], [(.code (atC [1, 0, 1, 0, 0] (bodyOf Tryz.f94))), (.inLoop (atC [1, 0, 1, 0, 0] (bodyOf Tryz.f94))), (.inBlock 0), (.code (atC [1, 1] (bodyOf Tryz.f94)))], mkT j [(2, (iI (L))), (3, (.e (.one (.ptr 0 0)))), (9, (.e (.agg [(.v (.bool (m0))), (.v (.bool (m1))), (.v (.bool (m2)))]))), (10, (iI 3))] 23 0⟩
theorem p94_2N (hE : EnvOk E) (q0 q1 q2 L : Int) (m0 m1 m2 : Bool) (h0 : (m2 == true : Bool) = (nat_lit 2, true).snd) (h1 : (m2 == true : Bool) = (nat_lit 3, true).snd) (h2 : (m2 == true : Bool) = (nat_lit 4, true).snd) (h3 : (m2 == true : Bool) = (nat_lit 5, true).snd) (h4 : (m2 == true : Bool) = (nat_lit 6, true).snd) (h5 : (m2 : Bool) = true) (h6 : (decide (q2 > L) : Bool) = false) {Φ : Res → Prop} (ho : ∀ j, OutK E 0 0 (p94_2N_end q0 q1 q2 L m0 m1 m2 j) Φ) (j : Nat → Value) : OutK E 0 0 (q94_2 q0 q1 q2 L m0 m1 m2 j) Φ :=
 outK_seg hE (R0_ok hE) [.run 10, (.ops [(7, (.pk true))] [(2, true), (3, true), (4, true), (5, true), (6, true)]), (.cond false), .run 4] [2, 3, 9, 10] (fun j => by kernel_rfl) (aP h0 <| aP h1 <| aP h2 <| aP h3 <| aP h4 <| aP h5 <| aP h6 <| aZ)
  ho
def p94_2Y_end (_q0 _q1 _q2 _L : Int) (_m0 _m1 _m2 : Bool) (j : Nat → Value) : St := ⟨[], [(.code .ret), (.inBlock 1), (.code (atC [1, 0, 1, 0, 0, 1, 1, 1] (bodyOf Tryz.f94))), (.inLoop (atC [1, 0, 1, 0, 0] (bodyOf Tryz.f94))), (.inBlock 0), (.code (atC [1, 1] (bodyOf Tryz.f94)))], mkT j [(6, (iB true))] 23 0⟩
theorem p94_2Y (hE : EnvOk E) (q0 q1 q2 L : Int) (m0 m1 m2 : Bool) (h0 : (m2 == true : Bool) = (nat_lit 2, true).snd) (h1 : (m2 == true : Bool) = (nat_lit 3, true).snd) (h2 : (m2 == true : Bool) = (nat_lit 4, true).snd) (h3 : (m2 == true : Bool) = (nat_lit 5, true).snd) (h4 : (m2 == true : Bool) = (nat_lit 6, true).snd) (h5 : (m2 : Bool) = true) (h6 : (decide (q2 > L) : Bool) = true) {Φ : Res → Prop} (ho : ∀ j, OutK E 0 0 (p94_2Y_end q0 q1 q2 L m0 m1 m2 j) Φ) (j : Nat → Value) : OutK E 0 0 (q94_2 q0 q1 q2 L m0 m1 m2 j) Φ :=
 outK_seg hE (R0_ok hE) [.run 10, (.ops [(7, (.pk true))] [(2, true), (3, true), (4, true), (5, true), (6, true)]), (.cond true), .run 2] [6] (s' := fun j => ⟨[(.some ⟨[(.v (.int .i64 (q0))), (.v (.int .i64 (q1))), (.v (.int .i64 (q2)))], 3, 113, true, .cells⟩)], [(.code .ret), (.inBlock 1), (.code (atC [1, 0, 1, 0, 0, 1, 1, 1] (bodyOf Tryz.f94))), (.inLoop (atC [1, 0, 1, 0, 0] (bodyOf Tryz.f94))), (.inBlock 0), (.code (atC [1, 1] (bodyOf Tryz.f94)))], mkT j [(6, (iB true))] 23 0⟩) (fun j => by kernel_rfl) (aP h0 <| aP h1 <| aP h2 <| aP h3 <| aP h4 <| aP h5 <| aP h6 <| aZ)
  fun j => outK_gc [] (by decide) (by kernel_rfl) (by kernel_rfl) (by kernel_rfl) (ho j)
def p94x_end (_q0 _q1 _q2 _L : Int) (_m0 _m1 _m2 : Bool) (j : Nat → Value) : St := ⟨[], [(.code .ret)], mkT j [(6, (iB false))] 23 0⟩
theorem p94x (hE : EnvOk E) (q0 q1 q2 L : Int) (m0 m1 m2 : Bool)  {Φ : Res → Prop} (ho : ∀ j, OutK E 0 0 (p94x_end q0 q1 q2 L m0 m1 m2 j) Φ) (j : Nat → Value) : OutK E 0 0 (q94_3 q0 q1 q2 L m0 m1 m2 j) Φ :=
 outK_seg hE (R0_ok hE) [.run 7] [6] (s' := fun j => ⟨[(.some ⟨[(.v (.int .i64 (q0))), (.v (.int .i64 (q1))), (.v (.int .i64 (q2)))], 3, 113, true, .cells⟩)], [(.code .ret)], mkT j [(6, (iB false))] 23 0⟩) (ps := []) (fun j => by kernel_rfl) trivial
  fun j => outK_gc [] (by decide) (by kernel_rfl) (by kernel_rfl) (by kernel_rfl) (ho j)
open Ieee
theorem getI {xs : List Int} {i : Nat} {x : Int} (h : xs[i]? = some x) : getL (iD xs) i = some (.v (.int .i64 x)) := by rw [getL_eq, List.getElem?_map, h]; rfl
abbrev dI (xs : List Int) : AV := .e (.one (.dp (.s (iD xs) xs.length 1)))
theorem l79 (hE : EnvOk E) (xs : List Int) (hm : xs.length ≤ 4000000) :
  ∀ m i, m + i = xs.length → ∀ x j, OutK E 0 0 (q79 (iD xs) xs.length i x 0 0 j) (Go.Ev.Ends E Tryz.f79 (iI (firstI (xs.drop i))) [])
 | 0, i, hk, x, j => by
  have e1 : xs.drop i = [] := List.drop_eq_nil_of_le (by omega)
  rw [e1]
  exact p79x hE _ _ i x 0 0 (decide_eq_false (by simp only [Int.ofNat_eq_natCast]; omega)) (fun j => outK_ret (ends_ret (by kernel_rfl))) j
 | m + 1, i, hk, _, j => by
  have hlt : i < xs.length := by omega
  have hx : xs[i]? = some xs[i] := List.getElem?_eq_getElem hlt
  have e1 : xs.drop i = xs[i] :: xs.drop (i + 1) := List.drop_eq_getElem_cons hlt
  rw [e1]
  generalize xs[i] = x at hx e1
  have hd : decide (Int.ofNat i < Int.ofNat xs.length) = true := decide_eq_true (by simp only [Int.ofNat_eq_natCast]; omega)
  have hb : (0 : Int) ≤ Int.ofNat i ∧ Int.ofNat i < (xs.length : Int) := by simp only [Int.ofNat_eq_natCast]; omega
  by_cases h0 : x = 0
  ·have e2 : firstI (x :: xs.drop (i + 1)) = firstI (xs.drop (i + 1)) := by simp [firstI, h0]
   rw [e2]
   exact p79s hE _ _ i x 0 0 hd hb (by simp) (getI hx) (by simp [h0]) (iIn i (by omega)) (l79 hE xs hm m (i + 1) (by omega) 0) j
  ·have e2 : firstI (x :: xs.drop (i + 1)) = x := by simp [firstI, h0]
   rw [e2]
   exact p79e hE _ _ i x 0 0 hd hb (by simp) (getI hx) (by simp [h0])  (fun j => outK_ret (ends_ret (by kernel_rfl))) j
theorem K79 (hE : EnvOk E) (xs : List Int) (hm : xs.length ≤ 4000000) : COut E 0 [] 79 [dI xs] (iI (firstI xs)) [] :=
 cOut_start Tryz.func79 rfl (p79a hE _ _ 0 0 0 0 (l79 hE xs hm xs.length 0 (by omega) 0) fun _ => undef)
theorem l66 (hE : EnvOk E) (xs : List Int) (hm : xs.length ≤ 4000000) :
  ∀ m i, m + i = xs.length → ∀ x j, OutK E 0 0 (q66 (iD xs) xs.length i x 0 0 j) (Go.Ev.Ends E Tryz.f66 (iB true) [])
 | 0, i, hk, x, j => p66x hE _ _ i x 0 0 (decide_eq_false (by simp only [Int.ofNat_eq_natCast]; omega)) (fun j => outK_ret (ends_ret (by kernel_rfl))) j
 | m + 1, i, hk, _, j => by
  have hlt : i < xs.length := by omega
  have hb : (0 : Int) ≤ Int.ofNat i ∧ Int.ofNat i < (xs.length : Int) := by simp only [Int.ofNat_eq_natCast]; omega
  exact p66s hE _ _ i xs[i] 0 0 (decide_eq_true (by simp only [Int.ofNat_eq_natCast]; omega)) hb (by simp) (getI (List.getElem?_eq_getElem hlt)) hb (by simp) (getI (List.getElem?_eq_getElem hlt)) (by simp) (iIn i (by omega)) (l66 hE xs hm m (i + 1) (by omega) 0) j
theorem K66 (hE : EnvOk E) (xs : List Int) (hm : xs.length ≤ 4000000) : COut E 0 [] 66 [dI xs, dI xs] (iB true) [] :=
 cOut_start Tryz.func66 rfl (p66a hE _ _ 0 0 0 0 (by simp) (l66 hE xs hm xs.length 0 (by omega) 0) fun _ => undef)
def viq (m0 m1 m2 : Bool) (L q0 q1 q2 : Int) : Bool := (m0 && decide (q0 > L)) || ((m1 && decide (q1 > L)) || (m2 && decide (q2 > L)))
theorem e94_3 (hE : EnvOk E) (q0 q1 q2 L : Int) (m0 m1 m2 : Bool) (j : Nat → Value) : OutK E 0 0 (q94_3 q0 q1 q2 L m0 m1 m2 j) (Go.Ev.Ends E Tryz.f94 (iB false) []) := p94x hE q0 q1 q2 L m0 m1 m2 (fun j => outK_ret (ends_ret (by kernel_rfl))) j
theorem e94_2 (hE : EnvOk E) (q0 q1 q2 L : Int) (m0 m1 m2 : Bool) (j : Nat → Value) : OutK E 0 0 (q94_2 q0 q1 q2 L m0 m1 m2 j) (Go.Ev.Ends E Tryz.f94 (iB (m2 && decide (q2 > L))) []) := by
 cases m2 with
 | false => exact p94_2F hE q0 q1 q2 L m0 m1 false rfl rfl rfl rfl rfl rfl (e94_3 hE q0 q1 q2 L m0 m1 false) j
 | true => cases hd : decide (q2 > L) with
  | false => exact p94_2N hE q0 q1 q2 L m0 m1 true rfl rfl rfl rfl rfl rfl hd (e94_3 hE q0 q1 q2 L m0 m1 true) j
  | true => exact p94_2Y hE q0 q1 q2 L m0 m1 true rfl rfl rfl rfl rfl rfl hd (fun j => outK_ret (ends_ret (by kernel_rfl))) j
theorem e94_1 (hE : EnvOk E) (q0 q1 q2 L : Int) (m0 m1 m2 : Bool) (j : Nat → Value) : OutK E 0 0 (q94_1 q0 q1 q2 L m0 m1 m2 j) (Go.Ev.Ends E Tryz.f94 (iB ((m1 && decide (q1 > L)) || (m2 && decide (q2 > L)))) []) := by
 cases m1 with
 | false => exact p94_1F hE q0 q1 q2 L m0 false m2 rfl rfl rfl rfl rfl rfl (e94_2 hE q0 q1 q2 L m0 false m2) j
 | true => cases hd : decide (q1 > L) with
  | false => exact p94_1N hE q0 q1 q2 L m0 true m2 rfl rfl rfl rfl rfl rfl hd (e94_2 hE q0 q1 q2 L m0 true m2) j
  | true => exact p94_1Y hE q0 q1 q2 L m0 true m2 rfl rfl rfl rfl rfl rfl hd (fun j => outK_ret (ends_ret (by kernel_rfl))) j
theorem e94_0 (hE : EnvOk E) (q0 q1 q2 L : Int) (m0 m1 m2 : Bool) (j : Nat → Value) : OutK E 0 0 (q94_0 q0 q1 q2 L m0 m1 m2 j) (Go.Ev.Ends E Tryz.f94 (iB (viq m0 m1 m2 L q0 q1 q2)) []) := by
 unfold viq
 cases m0 with
 | false => exact p94_0F hE q0 q1 q2 L false m1 m2 rfl rfl rfl rfl rfl rfl (e94_1 hE q0 q1 q2 L false m1 m2) j
 | true => cases hd : decide (q0 > L) with
  | false => exact p94_0N hE q0 q1 q2 L true m1 m2 rfl rfl rfl rfl rfl rfl hd (e94_1 hE q0 q1 q2 L true m1 m2) j
  | true => exact p94_0Y hE q0 q1 q2 L true m1 m2 rfl rfl rfl rfl rfl rfl hd (fun j => outK_ret (ends_ret (by kernel_rfl))) j
theorem K94 (hE : EnvOk E) (q0 q1 q2 L : Int) (m0 m1 m2 : Bool) : COut E 0 [] 94 [.e (.agg [.v (.int .i64 q0), .v (.int .i64 q1), .v (.int .i64 q2)]), .e (.agg [.v (.bool m0), .v (.bool m1), .v (.bool m2)]), iI L] (iB (viq m0 m1 m2 L q0 q1 q2)) [] :=
 cOut_start Tryz.func94 rfl (p94a hE q0 q1 q2 L m0 m1 m2 (e94_0 hE q0 q1 q2 L m0 m1 m2) fun _ => undef)
theorem pwL_len (ws : List Nat) : ∀ k, (pwL ws k).length = k * 3
 | 0 => rfl
 | k + 1 => by simp [pwL, pwL_len ws k]; omega
end
end Go.Proofs.YtbmcfhkedgpldaaGreatDoor
end

/-! SeFi -/
section
open Go Go.Ev
namespace Go.Proofs.YtbmcfhkedgpldaaGreatDoor
noncomputable section
set_option maxRecDepth 100000
set_option maxHeartbeats 20000000
open Ieee
structure Fnd (C : Nat → Int) (N a : Nat) (M S : Int) : Prop where
 lt : a < N
 eq : C a = M
 le : ∀ j, j < N → C j ≤ M
 fst : ∀ j, j < a → C j < M
 ex : ∃ j, j < N ∧ j ≠ a ∧ C j = S
 le2 : ∀ j, j < N → j ≠ a → C j ≤ S
def mxL : List Int → Int → Int
 | [], m => m
 | x :: r, m => mxL r (if m < x then x else m)
def mx : List Int → Int
 | [] => 0
 | x :: r => mxL r x
def corL (C : Nat → Int) : Nat → List Int
 | 0 => []
 | n + 1 => corL C n ++ [C n]
theorem corL_len (C : Nat → Int) : ∀ n, (corL C n).length = n
 | 0 => rfl
 | n + 1 => by simp [corL, corL_len C n]
theorem corL_get (C : Nat → Int) : ∀ (n i : Nat), i < n → (corL C n)[i]? = some (C i)
 | n + 1, i, h => by
  by_cases c : i < n
  ·simp only [corL]; rw [List.getElem?_append_left (by rw [corL_len]; exact c)]; exact corL_get C n i c
  ·have : i = n := by omega
   subst this
   simp only [corL]; rw [List.getElem?_append_right (by rw [corL_len]; exact Nat.le_refl _), corL_len, Nat.sub_self]; rfl
theorem corL_mem (C : Nat → Int) (n : Nat) (x : Int) : x ∈ corL C n ↔ ∃ i, i < n ∧ C i = x := by
 constructor
 ·intro h
  obtain ⟨i, hi⟩ := List.mem_iff_getElem?.1 h
  have hl : i < n := by
   have := (List.getElem?_eq_some_iff.1 hi).1
   rwa [corL_len] at this
  rw [corL_get C n i hl] at hi
  exact ⟨i, hl, by simpa using hi⟩
 ·rintro ⟨i, hi, rfl⟩
  exact List.mem_of_getElem? (corL_get C n i hi)
def nb (ws : List Nat) (i : Nat) : Nat := ws[i]?.getD 0
theorem get3 {f g h : Int} : ∀ (k : Nat) (x : Int), [f, g, h][k]? = some x → getL [AC.v (.int .i64 f), AC.v (.int .i64 g), AC.v (.int .i64 h)] (0 + k) = some (.v (.int .i64 x)) := by
 intro k x hk
 match k, hk with
 | 0, hk => simp at hk; subst hk; rfl
 | 1, hk => simp at hk; subst hk; rfl
 | 2, hk => simp at hk; subst hk; rfl
 | k + 3, hk => simp at hk
abbrev iCC (l : List Int) : List AC := (iD l).map DT.ac
theorem flat_iCC (l : List Int) : FlatC (iCC l) := by
 intro x hx
 simp only [iCC, iD, List.mem_map] at hx
 obtain ⟨_, ⟨z, _, rfl⟩, rfl⟩ := hx
 exact ⟨_, rfl⟩
end
end Go.Proofs.YtbmcfhkedgpldaaGreatDoor
end

/-! SePe -/
section
open Go Go.Ev
namespace Go.Proofs.YtbmcfhkedgpldaaGreatDoor
noncomputable section
set_option maxRecDepth 100000
set_option maxHeartbeats 20000000
open Ieee
theorem R29zt (hE : EnvOk E) (z : Nat → Value) (ws : List Nat) (mm0 mm1 mm2 : Bool) (L : Int) (hc : ∀ b ∈ ws, chkW 1024 b = 0) (i : Nat) (h : 4 * i + 4 ≤ ws.length) (_hi : i ≤ 4096) (hv : vio mm0 mm1 mm2 L ws i = true) : RoundK E 0 (hB z asg29 bod29 ws mm0 mm1 mm2 L []) 5 [iI (Int.ofNat i), wiA ws i] (iB true) (hB z asg29 bod29 ws mm0 mm1 mm2 L [Int.ofNat i]) := by
 have kv := K94 hE (pw0 (ww ws (4 * i)) (ww ws (4 * i + 1)) (ww ws (4 * i + 2)) (ww ws (4 * i + 3))) (pw1 (ww ws (4 * i)) (ww ws (4 * i + 1)) (ww ws (4 * i + 2)) (ww ws (4 * i + 3))) (pw2 (ww ws (4 * i)) (ww ws (4 * i + 1)) (ww ws (4 * i + 2)) (ww ws (4 * i + 3))) L mm0 mm1 mm2
 rw [show viq mm0 mm1 mm2 L (pw0 (ww ws (4 * i)) (ww ws (4 * i + 1)) (ww ws (4 * i + 2)) (ww ws (4 * i + 3))) (pw1 (ww ws (4 * i)) (ww ws (4 * i + 1)) (ww ws (4 * i + 2)) (ww ws (4 * i + 3))) (pw2 (ww ws (4 * i)) (ww ws (4 * i + 1)) (ww ws (4 * i + 2)) (ww ws (4 * i + 3))) = _ from hv] at kv
 refine roundK_of (a := loopEnt .ready none (T29 z) #[23, 24] asg29 bod29) rfl rfl (by kernel_rfl) ?_
 have e : (⟨hB z asg29 bod29 ws mm0 mm1 mm2 L [], [.code asg29, .beginRound, .code bod29], setParams (#[23, 24] : Array Tmp).toList [iI (Int.ofNat i), wiA ws i] (T29 z)⟩ : St) = sR29z z (fDT ws) ws.length i 0 0 0 mm0 mm1 mm2 L [] [] (ww ws (4 * i)) (ww ws (4 * i + 1)) (ww ws (4 * i + 2)) (ww ws (4 * i + 3)) 0 0 0 false (fun _ => undef) := by kernel_rfl
 rw [e]
 refine pR29z hE z (fDT ws) ws.length i 0 0 0 mm0 mm1 mm2 L [] [] (ww ws (4 * i)) (ww ws (4 * i + 1)) (ww ws (4 * i + 2)) (ww ws (4 * i + 3)) 0 0 0 false (fun j => ?_) _
 refine outK_begin (a := loopEnt .ready none (T29 z) #[23, 24] asg29 bod29) rfl rfl rfl ?_
 exact pB29zt hE z (fDT ws) ws.length i 0 0 0 mm0 mm1 mm2 L [] [] (ww ws (4 * i)) (ww ws (4 * i + 1)) (ww ws (4 * i + 2)) (ww ws (4 * i + 3)) (pw0 (ww ws (4 * i)) (ww ws (4 * i + 1)) (ww ws (4 * i + 2)) (ww ws (4 * i + 3))) (pw1 (ww ws (4 * i)) (ww ws (4 * i + 1)) (ww ws (4 * i + 2)) (ww ws (4 * i + 3))) (pw2 (ww ws (4 * i)) (ww ws (4 * i + 1)) (ww ws (4 * i + 2)) (ww ws (4 * i + 3))) true (K93 hE (bnd hc (by omega)) (bnd hc (by omega)) (bnd hc (by omega)) (bnd hc (by omega))) kv rfl (fun j => outK_fell ⟨rfl, _, _, _, _, _, _, _, rfl, rfl, rfl, by kernel_rfl⟩) j
theorem R29zf (hE : EnvOk E) (z : Nat → Value) (ws : List Nat) (mm0 mm1 mm2 : Bool) (L : Int) (hc : ∀ b ∈ ws, chkW 1024 b = 0) (i : Nat) (h : 4 * i + 4 ≤ ws.length) (_hi : i ≤ 4096) (hv : vio mm0 mm1 mm2 L ws i = false) : RoundK E 0 (hB z asg29 bod29 ws mm0 mm1 mm2 L []) 5 [iI (Int.ofNat i), wiA ws i] (iB true) (hB z asg29 bod29 ws mm0 mm1 mm2 L []) := by
 have kv := K94 hE (pw0 (ww ws (4 * i)) (ww ws (4 * i + 1)) (ww ws (4 * i + 2)) (ww ws (4 * i + 3))) (pw1 (ww ws (4 * i)) (ww ws (4 * i + 1)) (ww ws (4 * i + 2)) (ww ws (4 * i + 3))) (pw2 (ww ws (4 * i)) (ww ws (4 * i + 1)) (ww ws (4 * i + 2)) (ww ws (4 * i + 3))) L mm0 mm1 mm2
 rw [show viq mm0 mm1 mm2 L (pw0 (ww ws (4 * i)) (ww ws (4 * i + 1)) (ww ws (4 * i + 2)) (ww ws (4 * i + 3))) (pw1 (ww ws (4 * i)) (ww ws (4 * i + 1)) (ww ws (4 * i + 2)) (ww ws (4 * i + 3))) (pw2 (ww ws (4 * i)) (ww ws (4 * i + 1)) (ww ws (4 * i + 2)) (ww ws (4 * i + 3))) = _ from hv] at kv
 refine roundK_of (a := loopEnt .ready none (T29 z) #[23, 24] asg29 bod29) rfl rfl (by kernel_rfl) ?_
 have e : (⟨hB z asg29 bod29 ws mm0 mm1 mm2 L [], [.code asg29, .beginRound, .code bod29], setParams (#[23, 24] : Array Tmp).toList [iI (Int.ofNat i), wiA ws i] (T29 z)⟩ : St) = sR29z z (fDT ws) ws.length i 0 0 0 mm0 mm1 mm2 L [] [] (ww ws (4 * i)) (ww ws (4 * i + 1)) (ww ws (4 * i + 2)) (ww ws (4 * i + 3)) 0 0 0 false (fun _ => undef) := by kernel_rfl
 rw [e]
 refine pR29z hE z (fDT ws) ws.length i 0 0 0 mm0 mm1 mm2 L [] [] (ww ws (4 * i)) (ww ws (4 * i + 1)) (ww ws (4 * i + 2)) (ww ws (4 * i + 3)) 0 0 0 false (fun j => ?_) _
 refine outK_begin (a := loopEnt .ready none (T29 z) #[23, 24] asg29 bod29) rfl rfl rfl ?_
 exact pB29zf hE z (fDT ws) ws.length i 0 0 0 mm0 mm1 mm2 L [] [] (ww ws (4 * i)) (ww ws (4 * i + 1)) (ww ws (4 * i + 2)) (ww ws (4 * i + 3)) (pw0 (ww ws (4 * i)) (ww ws (4 * i + 1)) (ww ws (4 * i + 2)) (ww ws (4 * i + 3))) (pw1 (ww ws (4 * i)) (ww ws (4 * i + 1)) (ww ws (4 * i + 2)) (ww ws (4 * i + 3))) (pw2 (ww ws (4 * i)) (ww ws (4 * i + 1)) (ww ws (4 * i + 2)) (ww ws (4 * i + 3))) false (K93 hE (bnd hc (by omega)) (bnd hc (by omega)) (bnd hc (by omega)) (bnd hc (by omega))) kv rfl (fun j => outK_fell ⟨rfl, _, _, _, _, _, _, _, rfl, rfl, rfl, by kernel_rfl⟩) j
theorem R29it (hE : EnvOk E) (z : Nat → Value) (ws : List Nat) (mm0 mm1 mm2 : Bool) (L : Int) (hc : ∀ b ∈ ws, chkW 1024 b = 0) (i : Nat) (h : 4 * i + 4 ≤ ws.length) (hi : i ≤ 4096) (x : Int) (l : List Int) (hl : l.length + 1 ≤ i) (hv : vio mm0 mm1 mm2 L ws i = true) : RoundK E 0 (hB z asg29 bod29 ws mm0 mm1 mm2 L (x :: l)) 5 [iI (Int.ofNat i), wiA ws i] (iB true) (tB z asg29 bod29 ws mm0 mm1 mm2 L x l (Int.ofNat i)) := by
 have kv := K94 hE (pw0 (ww ws (4 * i)) (ww ws (4 * i + 1)) (ww ws (4 * i + 2)) (ww ws (4 * i + 3))) (pw1 (ww ws (4 * i)) (ww ws (4 * i + 1)) (ww ws (4 * i + 2)) (ww ws (4 * i + 3))) (pw2 (ww ws (4 * i)) (ww ws (4 * i + 1)) (ww ws (4 * i + 2)) (ww ws (4 * i + 3))) L mm0 mm1 mm2
 rw [show viq mm0 mm1 mm2 L (pw0 (ww ws (4 * i)) (ww ws (4 * i + 1)) (ww ws (4 * i + 2)) (ww ws (4 * i + 3))) (pw1 (ww ws (4 * i)) (ww ws (4 * i + 1)) (ww ws (4 * i + 2)) (ww ws (4 * i + 3))) (pw2 (ww ws (4 * i)) (ww ws (4 * i + 1)) (ww ws (4 * i + 2)) (ww ws (4 * i + 3))) = _ from hv] at kv
 refine roundK_of (a := loopEnt .ready none (T29 z) #[23, 24] asg29 bod29) rfl rfl (by kernel_rfl) ?_
 have e : (⟨hB z asg29 bod29 ws mm0 mm1 mm2 L (x :: l), [.code asg29, .beginRound, .code bod29], setParams (#[23, 24] : Array Tmp).toList [iI (Int.ofNat i), wiA ws i] (T29 z)⟩ : St) = sR29i z (fDT ws) ws.length i (l.length + 1) (l.length + 1) 0 mm0 mm1 mm2 L (iC (x :: l)) [] (ww ws (4 * i)) (ww ws (4 * i + 1)) (ww ws (4 * i + 2)) (ww ws (4 * i + 3)) 0 0 0 false (fun _ => undef) := by kernel_rfl
 rw [e]
 refine pR29i hE z (fDT ws) ws.length i (l.length + 1) (l.length + 1) 0 mm0 mm1 mm2 L (iC (x :: l)) [] (ww ws (4 * i)) (ww ws (4 * i + 1)) (ww ws (4 * i + 2)) (ww ws (4 * i + 3)) 0 0 0 false (fun j => ?_) _
 refine outK_begin (a := loopEnt .ready none (T29 z) #[23, 24] asg29 bod29) rfl rfl rfl ?_
 exact pB29it hE z (fDT ws) ws.length i (l.length + 1) (l.length + 1) (l.length + 1 + 1) mm0 mm1 mm2 L (iC (x :: l)) (iC (x :: (l ++ [Int.ofNat i]))) (ww ws (4 * i)) (ww ws (4 * i + 1)) (ww ws (4 * i + 2)) (ww ws (4 * i + 3)) (pw0 (ww ws (4 * i)) (ww ws (4 * i + 1)) (ww ws (4 * i + 2)) (ww ws (4 * i + 3))) (pw1 (ww ws (4 * i)) (ww ws (4 * i + 1)) (ww ws (4 * i + 2)) (ww ws (4 * i + 3))) (pw2 (ww ws (4 * i)) (ww ws (4 * i + 1)) (ww ws (4 * i + 2)) (ww ws (4 * i + 3))) true (K93 hE (bnd hc (by omega)) (bnd hc (by omega)) (bnd hc (by omega)) (bnd hc (by omega))) kv rfl (by omega) (sm1 (by omega)) (Nat.mul_one _).symm (iC_app (x :: l) [Int.ofNat i]) (Nat.mul_one _) (flat_iC _) (fun j => outK_fell ⟨rfl, _, _, _, _, _, _, _, rfl, rfl, rfl, by kernel_rfl⟩) j
theorem R29if (hE : EnvOk E) (z : Nat → Value) (ws : List Nat) (mm0 mm1 mm2 : Bool) (L : Int) (hc : ∀ b ∈ ws, chkW 1024 b = 0) (i : Nat) (h : 4 * i + 4 ≤ ws.length) (_hi : i ≤ 4096) (x : Int) (l : List Int) (hv : vio mm0 mm1 mm2 L ws i = false) : RoundK E 0 (hB z asg29 bod29 ws mm0 mm1 mm2 L (x :: l)) 5 [iI (Int.ofNat i), wiA ws i] (iB true) (hB z asg29 bod29 ws mm0 mm1 mm2 L (x :: l)) := by
 have kv := K94 hE (pw0 (ww ws (4 * i)) (ww ws (4 * i + 1)) (ww ws (4 * i + 2)) (ww ws (4 * i + 3))) (pw1 (ww ws (4 * i)) (ww ws (4 * i + 1)) (ww ws (4 * i + 2)) (ww ws (4 * i + 3))) (pw2 (ww ws (4 * i)) (ww ws (4 * i + 1)) (ww ws (4 * i + 2)) (ww ws (4 * i + 3))) L mm0 mm1 mm2
 rw [show viq mm0 mm1 mm2 L (pw0 (ww ws (4 * i)) (ww ws (4 * i + 1)) (ww ws (4 * i + 2)) (ww ws (4 * i + 3))) (pw1 (ww ws (4 * i)) (ww ws (4 * i + 1)) (ww ws (4 * i + 2)) (ww ws (4 * i + 3))) (pw2 (ww ws (4 * i)) (ww ws (4 * i + 1)) (ww ws (4 * i + 2)) (ww ws (4 * i + 3))) = _ from hv] at kv
 refine roundK_of (a := loopEnt .ready none (T29 z) #[23, 24] asg29 bod29) rfl rfl (by kernel_rfl) ?_
 have e : (⟨hB z asg29 bod29 ws mm0 mm1 mm2 L (x :: l), [.code asg29, .beginRound, .code bod29], setParams (#[23, 24] : Array Tmp).toList [iI (Int.ofNat i), wiA ws i] (T29 z)⟩ : St) = sR29i z (fDT ws) ws.length i (l.length + 1) (l.length + 1) 0 mm0 mm1 mm2 L (iC (x :: l)) [] (ww ws (4 * i)) (ww ws (4 * i + 1)) (ww ws (4 * i + 2)) (ww ws (4 * i + 3)) 0 0 0 false (fun _ => undef) := by kernel_rfl
 rw [e]
 refine pR29i hE z (fDT ws) ws.length i (l.length + 1) (l.length + 1) 0 mm0 mm1 mm2 L (iC (x :: l)) [] (ww ws (4 * i)) (ww ws (4 * i + 1)) (ww ws (4 * i + 2)) (ww ws (4 * i + 3)) 0 0 0 false (fun j => ?_) _
 refine outK_begin (a := loopEnt .ready none (T29 z) #[23, 24] asg29 bod29) rfl rfl rfl ?_
 exact pB29if hE z (fDT ws) ws.length i (l.length + 1) (l.length + 1) 0 mm0 mm1 mm2 L (iC (x :: l)) [] (ww ws (4 * i)) (ww ws (4 * i + 1)) (ww ws (4 * i + 2)) (ww ws (4 * i + 3)) (pw0 (ww ws (4 * i)) (ww ws (4 * i + 1)) (ww ws (4 * i + 2)) (ww ws (4 * i + 3))) (pw1 (ww ws (4 * i)) (ww ws (4 * i + 1)) (ww ws (4 * i + 2)) (ww ws (4 * i + 3))) (pw2 (ww ws (4 * i)) (ww ws (4 * i + 1)) (ww ws (4 * i + 2)) (ww ws (4 * i + 3))) false (K93 hE (bnd hc (by omega)) (bnd hc (by omega)) (bnd hc (by omega)) (bnd hc (by omega))) kv rfl (flat_iC _) (fun j => outK_fell ⟨rfl, _, _, _, _, _, _, _, rfl, rfl, rfl, by kernel_rfl⟩) j
theorem HB29 (hE : EnvOk E) (z : Nat → Value) (ws : List Nat) (mm0 mm1 mm2 : Bool) (L : Int) (hc : ∀ b ∈ ws, chkW 1024 b = 0) (i : Nat) (h : 4 * i + 4 ≤ ws.length) (hi : i ≤ 4096) : HB z asg29 bod29 ws mm0 mm1 mm2 L i :=
 ⟨fun hv => ⟨R29zt hE z ws mm0 mm1 mm2 L hc i h hi hv, fun x l hl => R29it hE z ws mm0 mm1 mm2 L hc i h hi x l hl hv⟩, fun hv l => match l with
  | [] => R29zf hE z ws mm0 mm1 mm2 L hc i h hi hv
  | x :: l => R29if hE z ws mm0 mm1 mm2 L hc i h hi x l hv⟩
theorem K27 (hE : EnvOk E) (ws : List Nat) (k : Nat) (h0 : chkQ ws = 0) (hk : ws.length = 4 * k) (hs : k ≤ 1024) (hc : ∀ b ∈ ws, chkW 1024 b = 0) : COut E 0 [] 27 [.e (.one (dF ws).ac)] (.tup [.one (.dp (.s (iD (pwL ws k)) k 3)), .one (.v (.int .i64 0))]) [] := by
 have k91 := K91 hE ws (by omega)
 rw [h0] at k91
 by_cases hz : k = 0
 ·subst hz
  have hc1 : COut E 0 [] 27 [.e (.one (dF ws).ac)] (.tup [.one (.v (.slice none 0 0)), .one (.v (.int .i64 0))]) [some ⟨[.v (.slice none 0 0)], 1, 45, true, .cells⟩, some ⟨[.dp (.s (fDT ws) ws.length 1)], 1, 42, true, .cells⟩, none] := by
   refine cOut_startM Tryz.func27 rfl (p27a hE (fDT ws) ws.length 0 k91 rfl (K92 hE _ _) trivial trivial (fun j => ?_) fun _ => undef)
   refine (?_ : OutK E 0 0 ⟨[some ⟨[.v (.slice none 0 0)], 1, 45, true, .cells⟩, some ⟨[.dp (.s (fDT ws) ws.length 1)], 1, 42, true, .cells⟩], .code (.rangeFunc (.tmp 14) #[15, 16] asg27 bod27) :: [.inBlock 0, .code (atC [1, 1, 1, 1] (bodyOf Tryz.f27))], T27 j⟩ _)
   refine outK_loop hE (g := 155) (v := .tup []) (h2 := nA j asg27 bod27 ws) (a := loopEnt .ready none (T27 j) #[15, 16] asg27 bod27) rfl Tryz.func155 rfl rfl (iA0 hE j asg27 bod27 ws hk) (by kernel_rfl) rfl (by intro h; cases h) ?_
   exact pE27z hE j (fDT ws) ws.length 0 0 0 0 false false false 0 [] [] 0 0 0 0 0 0 0 false (fun j => outK_ret ⟨rfl, by kernel_rfl, by kernel_rfl⟩) j
  exact cOut_clear (cOut_nil2 (p := none) (c := 0) 3 hc1) rfl
 ·have hc1 : COut E 0 [] 27 [.e (.one (dF ws).ac)] (.tup [.one (.slc 3 0 k 3 k false), .one (.v (.int .i64 0))]) [some ⟨[.slc 3 0 k 3 k false], 1, 45, true, .cells⟩, some ⟨[.dp (.s (fDT ws) ws.length 1)], 1, 42, true, .cells⟩, none, some ⟨iC (pwL ws k), k * 3, 113, false, .cells⟩] := by
   refine cOut_startM Tryz.func27 rfl (p27a hE (fDT ws) ws.length 0 k91 rfl (K92 hE _ _) trivial trivial (fun j => ?_) fun _ => undef)
   refine (?_ : OutK E 0 0 ⟨[some ⟨[.v (.slice none 0 0)], 1, 45, true, .cells⟩, some ⟨[.dp (.s (fDT ws) ws.length 1)], 1, 42, true, .cells⟩], .code (.rangeFunc (.tmp 14) #[15, 16] asg27 bod27) :: [.inBlock 0, .code (atC [1, 1, 1, 1] (bodyOf Tryz.f27))], T27 j⟩ _)
   refine outK_loop hE (g := 155) (v := .tup []) (h2 := oA j asg27 bod27 ws k (pwL ws k) (k * 3)) (a := loopEnt .ready none (T27 j) #[15, 16] asg27 bod27) rfl Tryz.func155 rfl rfl (iA' hE j asg27 bod27 ws k hk (by omega) hs hc (R27z hE j ws hc (by omega)) (fun i h1 h2 => R27i hE j ws hc i (by omega) (by omega))) (by kernel_rfl) rfl (by intro h; cases h) ?_
   exact pE27i hE j (fDT ws) ws.length 0 k (k * 3) 0 false false false 0 (iC (pwL ws k)) [] 0 0 0 0 0 0 0 false (flat_iC _) (fun j => outK_ret ⟨rfl, by kernel_rfl, by kernel_rfl⟩) j
  exact cOut_clear (cOut_freeze 3 hc1 rfl (Nat.zero_le _) (ds := iD (pwL ws k)) ⟨.inr ⟨0, k, 3, k, false, iD (pwL ws k), rfl, rfl, by rw [takeL_eq, dropL_eq, List.drop_zero, if_pos (by simp [pwL_len]), List.take_of_length_le (by simp [pwL_len])]⟩, .inl rfl, trivial⟩) rfl
theorem lend2 (lv : Nat) (_hE : EnvOk E) (f : FuncId) (xs : List Int) (r : Int) (ty : Nat) (fl : Bool) (hc : COut E 0 [] f [dI xs] (iI r) []) (h : Heap) (i : Nat) (hh : getL h i = some (some ⟨(iD xs).map DT.ac, xs.length, ty, fl, .cells⟩)) : COut E lv h f [.e (.one (.slc i 0 xs.length 1 xs.length true))] (iI r) h :=
 cOut_lend h hc ⟨.inr ⟨i, 0, xs.length, 1, xs.length, true, iD xs, iD xs, xs.length, ty, fl, rfl, rfl, hh, by rw [takeL_eq, dropL_eq, List.drop_zero, if_pos (by simp), List.take_of_length_le (by simp)]⟩, trivial⟩ rfl rfl
def chkV (ws : List Nat) (L : Int) : Int := firstI [chkQ ws, rngI 0 17179869184 L]
theorem K29 (hE : EnvOk E) (ws : List Nat) (mm0 mm1 mm2 : Bool) (L : Int) (k : Nat) (h0 : chkV ws L = 0) (hk : ws.length = 4 * k) (hs : k ≤ 1024) (hc : ∀ b ∈ ws, chkW 1024 b = 0) : COut E 0 [] 29 [.e (.one (dF ws).ac), .e (.agg [.v (.bool mm0), .v (.bool mm1), .v (.bool mm2)]), iI L] (.tup [.one (.dp (.s (iD (vioL mm0 mm1 mm2 L ws k)) (vioL mm0 mm1 mm2 L ws k).length 1)), .one (.v (.int .i64 0))]) [] := by
 have k79 := lend2 3 hE 79 [chkQ ws, rngI 0 17179869184 L] _ 26 true (K79 hE _ (by simp)) [some ⟨[.v (.bool mm0), .v (.bool mm1), .v (.bool mm2)], 3, 43, true, .cells⟩, some ⟨[.v (.int .i64 L)], 1, 3, true, .cells⟩, some ⟨[.v (.int .i64 (chkQ ws)), .v (.int .i64 (rngI 0 17179869184 L))], 2, 26, true, .cells⟩] 2 rfl
 rw [show firstI [chkQ ws, rngI 0 17179869184 L] = 0 from h0] at k79
 have hBB := fun j => iB' hE j asg29 bod29 ws mm0 mm1 mm2 L k hk hs hc fun i hi => HB29 hE j ws mm0 mm1 mm2 L hc i (by omega) (by omega)
 revert hBB
 generalize vioL mm0 mm1 mm2 L ws k = l
 intro hBB
 cases l with
 | nil =>
  have hc1 : COut E 0 [] 29 [.e (.one (dF ws).ac), .e (.agg [.v (.bool mm0), .v (.bool mm1), .v (.bool mm2)]), iI L] (.tup [.one (.v (.slice none 0 0)), .one (.v (.int .i64 0))]) [some ⟨[.v (.bool mm0), .v (.bool mm1), .v (.bool mm2)], 3, 43, true, .cells⟩, some ⟨[.v (.int .i64 L)], 1, 3, true, .cells⟩, some ⟨[.v (.slice none 0 0)], 1, 25, true, .cells⟩, some ⟨[.dp (.s (fDT ws) ws.length 1)], 1, 42, true, .cells⟩, none] := by
   refine cOut_startM Tryz.func29 rfl (p29a hE (fDT ws) ws.length mm0 mm1 mm2 L (chkQ ws) (rngI 0 17179869184 L) 0 (K91 hE ws (by omega)) (K80 hE _ _ _) k79 rfl (K92 hE _ _) trivial trivial (fun j => ?_) fun _ => undef)
   refine (?_ : OutK E 0 0 ⟨[some ⟨[.v (.bool mm0), .v (.bool mm1), .v (.bool mm2)], 3, 43, true, .cells⟩, some ⟨[.v (.int .i64 L)], 1, 3, true, .cells⟩, some ⟨[.v (.slice none 0 0)], 1, 25, true, .cells⟩, some ⟨[.dp (.s (fDT ws) ws.length 1)], 1, 42, true, .cells⟩], .code (.rangeFunc (.tmp 22) #[23, 24] asg29 bod29) :: [.inBlock 0, .code (atC [1, 1, 1, 1] (bodyOf Tryz.f29))], T29 j⟩ _)
   refine outK_loop hE (g := 155) (v := .tup []) (h2 := hB j asg29 bod29 ws mm0 mm1 mm2 L []) (a := loopEnt .ready none (T29 j) #[23, 24] asg29 bod29) rfl Tryz.func155 rfl rfl (hBB j) (by kernel_rfl) rfl (by intro h; cases h) ?_
   exact pE29z hE j (fDT ws) ws.length 0 0 0 0 mm0 mm1 mm2 L [] [] 0 0 0 0 0 0 0 false (fun j => outK_ret ⟨rfl, by kernel_rfl, by kernel_rfl⟩) j
  exact cOut_clear (cOut_nil2 (p := none) (c := 0) 1 hc1) rfl
 | cons x l =>
  have hc1 : COut E 0 [] 29 [.e (.one (dF ws).ac), .e (.agg [.v (.bool mm0), .v (.bool mm1), .v (.bool mm2)]), iI L] (.tup [.one (.slc 5 0 (l.length + 1) 1 (l.length + 1) false), .one (.v (.int .i64 0))]) [some ⟨[.v (.bool mm0), .v (.bool mm1), .v (.bool mm2)], 3, 43, true, .cells⟩, some ⟨[.v (.int .i64 L)], 1, 3, true, .cells⟩, some ⟨[.slc 5 0 (l.length + 1) 1 (l.length + 1) false], 1, 25, true, .cells⟩, some ⟨[.dp (.s (fDT ws) ws.length 1)], 1, 42, true, .cells⟩, none, some ⟨iC (x :: l), l.length + 1, 3, false, .cells⟩] := by
   refine cOut_startM Tryz.func29 rfl (p29a hE (fDT ws) ws.length mm0 mm1 mm2 L (chkQ ws) (rngI 0 17179869184 L) 0 (K91 hE ws (by omega)) (K80 hE _ _ _) k79 rfl (K92 hE _ _) trivial trivial (fun j => ?_) fun _ => undef)
   refine (?_ : OutK E 0 0 ⟨[some ⟨[.v (.bool mm0), .v (.bool mm1), .v (.bool mm2)], 3, 43, true, .cells⟩, some ⟨[.v (.int .i64 L)], 1, 3, true, .cells⟩, some ⟨[.v (.slice none 0 0)], 1, 25, true, .cells⟩, some ⟨[.dp (.s (fDT ws) ws.length 1)], 1, 42, true, .cells⟩], .code (.rangeFunc (.tmp 22) #[23, 24] asg29 bod29) :: [.inBlock 0, .code (atC [1, 1, 1, 1] (bodyOf Tryz.f29))], T29 j⟩ _)
   refine outK_loop hE (g := 155) (v := .tup []) (h2 := hB j asg29 bod29 ws mm0 mm1 mm2 L (x :: l)) (a := loopEnt .ready none (T29 j) #[23, 24] asg29 bod29) rfl Tryz.func155 rfl rfl (hBB j) (by kernel_rfl) rfl (by intro h; cases h) ?_
   exact pE29i hE j (fDT ws) ws.length 0 (l.length + 1) (l.length + 1) 0 mm0 mm1 mm2 L (iC (x :: l)) [] 0 0 0 0 0 0 0 false (flat_iC _) (fun j => outK_ret ⟨rfl, by kernel_rfl, by kernel_rfl⟩) j
  exact cOut_clear (cOut_freeze 5 hc1 rfl (Nat.zero_le _) (ds := iD (x :: l)) ⟨.inr ⟨0, l.length + 1, 1, l.length + 1, false, iD (x :: l), rfl, rfl, by rw [takeL_eq, dropL_eq, List.drop_zero, if_pos (by simp), List.take_of_length_le (by simp)]⟩, .inl rfl, trivial⟩) rfl
end
end Go.Proofs.YtbmcfhkedgpldaaGreatDoor
end

/-! SeEqF -/
section
open Go Go.Ev Go.RowKit
namespace Go.Proofs.YtbmcfhkedgpldaaGreatDoor
noncomputable section
section
variable {P : Program} (w : World)
theorem run_equalIn_cells (d : Nat) (t e : TypeId) (n : Nat) {u : TypeDesc} (hag : isAggD u = false) (ht : P.underlying t = some (.array n e)) (he : P.underlying e = some u) (hsz : ∀ w, (sizeOf e).run P w = .ok 1 w)
  (xs ys : List Value) (hx : xs.length = n) (hy : ys.length = n) (q : Nat → Bool) (hq : ∀ i x y, xs[i]? = some x → ys[i]? = some y → (Op.equalIn (d + 1) e x y).run P w = .ok (q i) w) :
  (Op.equalIn (d + 2) t (.agg xs.toArray) (.agg ys.toArray)).run P w = .ok ((List.range n).all q) w := by
 rw [List.range_eq_range', Op.equalIn]
 simp only [Sem.run_bind, run_underlying ht, Result.andThen_ok, hsz, Std.Legacy.Range.forIn_eq_forIn_range', Std.Legacy.Range.size, Nat.sub_zero, Nat.add_sub_cancel, Nat.div_one]
 have hl : ∀ i ∈ List.range' 0 n 1, i < n := fun i hi => by simpa using (List.mem_range'_1.1 hi).2
 generalize List.range' 0 n 1 = l at hl ⊢
 induction l with
 | nil => simp
 | cons i l ih =>
  have hi : i < n := hl i (by simp)
  have gx : xs[i]? = some xs[i] := List.getElem?_eq_getElem (show i < xs.length by omega)
  have gy : ys[i]? = some ys[i] := List.getElem?_eq_getElem (show i < ys.length by omega)
  have part_one : ∀ (zs : List Value) (z : Value), zs[i]? = some z → (part e zs.toArray (i * 1)).run P w = .ok z w := by
   intro zs z hz
   have : (isAgg e).run P w = .ok false w := by
    simp only [isAgg, Sem.run_bind, run_underlying he, Result.andThen_ok]
    cases u <;> simp_all [isAggD]
   simp [part, this, hz]
  simp only [List.forIn_cons, Sem.run_bind, part_one xs _ gx, part_one ys _ gy, hq i _ _ gx gy, Result.andThen_ok, List.all_cons]
  cases hb : q i
  ·simp
  ·simp only [Bool.not_true, Bool.false_eq_true, if_false, Sem.run_pure, Result.andThen_ok, Bool.true_and]
   exact ih fun j hj => hl j (by simp [hj])
end
theorem cells_of {m : M} : ∀ {l : List Value} {cs : List Value}, All2 (CR m) (l.map AC.v) cs → cs = l
 | [], [], _ => rfl
 | [], _ :: _, h => h.elim
 | _ :: _, [], h => h.elim
 | x :: l, c :: cs, h => by
  obtain ⟨h1, h2⟩ := h
  rw [cells_of h2, show c = x from h1]
theorem some_of {α β : Type} {o : Option α} {f : α → β} {b : β} (h : o.map f = some b) : ∃ a, o = some a ∧ f a = b := by
 cases o with
 | none => simp at h
 | some a => exact ⟨a, rfl, by simpa using h⟩
theorem size1 {e : TypeId} (h : (Tryz.prog.info? e).map (·.size) = some 1) (w : World) : (sizeOf e).run Tryz.prog w = .ok 1 w := by
 obtain ⟨i, hi, hz⟩ := some_of h
 rw [Go.Ev.run_sizeOf hi w, hz]
theorem eqArr {t e n : Nat} {u : TypeDesc} (hag : isAggD u = false) (ht : Tryz.prog.underlying t = some (.array n e)) (he : Tryz.prog.underlying e = some u) (hsz : (Tryz.prog.info? e).map (·.size) = some 1)
  {xs ys : List Value} (hx : xs.length = n) (hy : ys.length = n) (q : Nat → Bool) (hq : ∀ (w : World) i x y, xs[i]? = some x → ys[i]? = some y → (Op.equalIn 9999 e x y).run Tryz.prog w = .ok (q i) w) : EqOk E t (xs.map AC.v) (ys.map AC.v) ((List.range n).all q) := by
 intro m c1 c2 w h1 h2
 have e1 : c1 = xs.toArray := by rw [← Array.toList_inj]; exact cells_of h1
 have e2 : c2 = ys.toArray := by rw [← Array.toList_inj]; exact cells_of h2
 subst e1 e2
 show (Op.equalIn 10000 t _ _).run Tryz.prog w = _
 exact run_equalIn_cells w 9998 t e n hag ht he (size1 hsz) xs ys hx hy q (hq w)
def Own (b : Nat) : Prop := Op.floatEq .f32 b b = true
theorem own_smp {n : Int} (h : n.natAbs < 2 ^ 24) : Own (Ieee.smpW n) := by
 show (Ieee.single.order (Ieee.smpW n) (Ieee.smpW n) == some .eq) = true
 rw [Ieee.smp_order h h, cmp_eq]
 rfl
end
end Go.Proofs.YtbmcfhkedgpldaaGreatDoor
end

/-! SePf -/
section
open Go Go.Ev
namespace Go.Proofs.YtbmcfhkedgpldaaGreatDoor
noncomputable section
set_option maxRecDepth 100000
set_option maxHeartbeats 20000000
open Ieee
theorem run_equalIn_int {P : Program} (w : World) (d : Nat) {e : TypeId} {k : IntKind} (he : P.underlying e = some (.int k)) (a : Int) : (Op.equalIn (d + 1) e (.int k a) (.int k a)).run P w = .ok true w := by
 simp [Op.equalIn, run_underlying he]
theorem eqI113 (x y u : Int) : EqOk E 113 [.v (.int .i64 x), .v (.int .i64 y), .v (.int .i64 u)] [.v (.int .i64 x), .v (.int .i64 y), .v (.int .i64 u)] true :=
 eqArr (t := 113) (e := 3) (n := 3) (u := .int .i64) rfl (by kernel_rfl) (by kernel_rfl) (by kernel_rfl) (xs := [.int .i64 x, .int .i64 y, .int .i64 u]) (ys := [.int .i64 x, .int .i64 y, .int .i64 u]) rfl rfl (fun _ => true) (fun w i a b ha hb => by
  rw [show (9999 : Nat) = 9998 + 1 from rfl]
  have hab : a = b := by rw [ha] at hb; exact Option.some.inj hb
  subst hab
  have : ∃ z, a = .int .i64 z := by
   match i, ha with
   | 0, ha => simp at ha; exact ⟨_, ha.symm⟩
   | 1, ha => simp at ha; exact ⟨_, ha.symm⟩
   | 2, ha => simp at ha; exact ⟨_, ha.symm⟩
   | i + 3, ha => simp at ha
  obtain ⟨z, rfl⟩ := this
  exact run_equalIn_int w 9998 (by kernel_rfl) z)
theorem K28 (hE : EnvOk E) (ws : List Nat) (hm : ws.length ≤ 1000000) : COut E 0 [] 28 [.e (.one (dF ws).ac)] (.e (.one (dF ws).ac)) [] := by
 have hfl : FlatC ((fDT ws).map DT.ac) := by
  intro c hc
  simp only [List.map_map, List.mem_map] at hc
  obtain ⟨x, _, rfl⟩ := hc
  exact ⟨_, rfl⟩
 have h1 : ((fDT ws).map DT.ac).all AC.isOne = true := by simp [List.all_map, DT.ac, AC.isOne]
 have hc1 : COut E 0 [] 28 [.e (.one (dF ws).ac)] (.e (.one (.slc 0 0 ws.length 1 ws.length (decide (ws.length = 0))))) [some ⟨(fDT ws).map DT.ac, ws.length, 23, decide (ws.length = 0), .cells⟩] := by
  refine cOut_start Tryz.func28 rfl (p28 hE (fDT ws) ws.length ((fDT ws).map DT.ac) (decide (ws.length = 0)) ?_ (Nat.mul_one _) hfl (fun j => outK_ret (ends_ret (by kernel_rfl))) fun _ => undef)
  by_cases h0 : ws.length = 0
  ·exact .inl ⟨decide_eq_true h0, h0, by simp [List.eq_nil_of_length_eq_zero h0], _, _, by rw [h0]⟩
  ·exact .inr (.inl ⟨decide_eq_false h0, by omega, by simp [small]; omega, h1, _, rfl, rfl, by simp⟩)
 exact cOut_clear (cOut_freeze 0 hc1 rfl (Nat.zero_le _) (ds := fDT ws) (.inr ⟨0, ws.length, 1, ws.length, _, fDT ws, rfl, rfl, by rw [takeL_eq, dropL_eq, List.drop_zero, if_pos (by simp), List.take_of_length_le (by simp)]⟩)) rfl
end
end Go.Proofs.YtbmcfhkedgpldaaGreatDoor
end

/-! SeFj -/
section
open Go Go.Ev
namespace Go.Proofs.YtbmcfhkedgpldaaGreatDoor
noncomputable section
set_option maxRecDepth 100000
set_option maxHeartbeats 20000000
open Ieee
end
end Go.Proofs.YtbmcfhkedgpldaaGreatDoor
end

/-! SeMa -/
section
open Go Go.Ev
namespace Go.Proofs.YtbmcfhkedgpldaaGreatDoor
noncomputable section
set_option maxRecDepth 100000
set_option maxHeartbeats 20000000
def s138 (C : List DT) (n _i : Nat) (_x _e _f : Int) (_j : Nat → Value) : St := startK Tryz.f138 [] [(.e (.one (.dp (.s C n 1)))), .e (.one (.v (.func (.func 158) #[] #[])))]
def s157 (C : List DT) (n _i : Nat) (_x _e _f : Int) (_j : Nat → Value) : St := startK Tryz.f157 [] [(.e (.one (.dp (.s C n 1)))), iI 256, .e (.one (.v (.func (.func 158) #[] #[])))]
def s158 (_C : List DT) (_n _i : Nat) (x _e _f : Int) (_j : Nat → Value) : St := startK Tryz.f158 [] [iI x]
def s111 (C : List DT) (n _i : Nat) (_x _e _f : Int) (_j : Nat → Value) : St := startK Tryz.f111 [] [(.e (.one (.dp (.s C n 1))))]
def s43 (C : List DT) (n _i : Nat) (_x _e _f : Int) (_l : List AC) (_b : Bool) (_j : Nat → Value) : St := startK Tryz.f43 [] [(.e (.one (.dp (.s C n 1))))]
def s112n0 (lv _a0 _a1 _a2 _a3 : Int) (_b0 _b1 _b2 _b3 : Nat) (_D _D1 _D2 _D3 _D4 : List AC) (_n _N _N1 _N2 _N3 _N4 : Nat) (_j : Nat → Value) : St := startK Tryz.f112 [] [(.e (.one (.v (.slice none 0 0)))), iI lv, iI 0]
def s112i0 (lv _a0 _a1 _a2 _a3 : Int) (_b0 _b1 _b2 _b3 : Nat) (D _D1 _D2 _D3 _D4 : List AC) (n N _N1 _N2 _N3 _N4 : Nat) (_j : Nat → Value) : St := startK Tryz.f112 [some ⟨D, N, 23, false, .cells⟩] [.e (.one (.slc 0 0 n 1 n false)), iI lv, iI 0]
def s112i1 (lv _a0 _a1 _a2 _a3 : Int) (_b0 _b1 _b2 _b3 : Nat) (D _D1 _D2 _D3 _D4 : List AC) (n N _N1 _N2 _N3 _N4 : Nat) (_j : Nat → Value) : St := startK Tryz.f112 [some ⟨D, N, 23, false, .cells⟩] [.e (.one (.slc 0 0 n 1 n false)), iI lv, iI 1]
def s112i2 (lv _a0 _a1 _a2 _a3 : Int) (_b0 _b1 _b2 _b3 : Nat) (D _D1 _D2 _D3 _D4 : List AC) (n N _N1 _N2 _N3 _N4 : Nat) (_j : Nat → Value) : St := startK Tryz.f112 [some ⟨D, N, 23, false, .cells⟩] [.e (.one (.slc 0 0 n 1 n false)), iI lv, iI 2]
def s112i3 (lv _a0 _a1 _a2 _a3 : Int) (_b0 _b1 _b2 _b3 : Nat) (D _D1 _D2 _D3 _D4 : List AC) (n N _N1 _N2 _N3 _N4 : Nat) (_j : Nat → Value) : St := startK Tryz.f112 [some ⟨D, N, 23, false, .cells⟩] [.e (.one (.slc 0 0 n 1 n false)), iI lv, iI 3]
def s42 (C : List DT) (n _i _m _N _N1 _N2 _N3 _N4 : Nat) (lv _e _f _g _s _s2 _x _a0 _a1 _a2 _a3 : Int) (_D _D1 _D2 _D3 _D4 : List AC) (_b0 _b1 _b2 _b3 : Nat) (_j : Nat → Value) : St := startK Tryz.f42 [] [iI lv, (.e (.one (.dp (.s C n 1))))]
def q138 (C : List DT) (n i : Nat) (_x _e _f : Int) (j : Nat → Value) : St := ⟨[], [(.code (atC [1, 0, 1, 0, 0] (bodyOf Tryz.f138))), (.inLoop (atC [1, 0, 1, 0, 0] (bodyOf Tryz.f138))), (.inBlock 0), (.code (atC [1, 1] (bodyOf Tryz.f138)))], mkT j [(1, (.e (.one (.v (.func (.func 158) #[] #[]))))), (8, (.e (.one (.dp (.s (C) (n) 1))))), (9, (iI (Int.ofNat n))), (10, (iI (Int.ofNat i)))] 21 0⟩
def q42 (C : List DT) (n i m N _N1 _N2 _N3 _N4 : Nat) (lv _e _f _g s _s2 _x _a0 _a1 _a2 _a3 : Int) (D _D1 _D2 _D3 _D4 : List AC) (_b0 _b1 _b2 _b3 : Nat) (j : Nat → Value) : St := ⟨[some ⟨D, N, 23, false, .cells⟩], [(.code (atC [1, 1, 1, 1, 0, 1, 0, 0] (bodyOf Tryz.f42))), (.inLoop (atC [1, 1, 1, 1, 0, 1, 0, 0] (bodyOf Tryz.f42))), (.inBlock 0), (.code (atC [1, 1, 1, 1, 1] (bodyOf Tryz.f42)))], mkT j [(0, (iI (lv))), (7, (.e (.one (.slc 0 0 m 1 m false)))), (8, (iI s)), (22, (.e (.one (.dp (.s (C) (n) 1))))), (23, (iI (Int.ofNat n))), (24, (iI (Int.ofNat i)))] 38 0⟩
def p138a_end (C : List DT) (n _i : Nat) (_x _e _f : Int) (j : Nat → Value) : St := ⟨[], [(.code (atC [1, 0, 1, 0, 0] (bodyOf Tryz.f138))), (.inLoop (atC [1, 0, 1, 0, 0] (bodyOf Tryz.f138))), (.inBlock 0), (.code (atC [1, 1] (bodyOf Tryz.f138)))], mkT j [(1, (.e (.one (.v (.func (.func 158) #[] #[]))))), (8, (.e (.one (.dp (.s (C) (n) 1))))), (9, (iI (Int.ofNat n))), (10, (iI 0))] 21 0⟩
theorem p138a (hE : EnvOk E) (C : List DT) (n i : Nat) (x e f : Int)  {Φ : Res → Prop} (ho : ∀ j, OutK E 0 0 (p138a_end C n i x e f j) Φ) (j : Nat → Value) : OutK E 0 0 (s138 C n i x e f j) Φ :=
 outK_seg hE (R0_ok hE) [.run 4, (.ops [(1, (.d .len))] []), .run 2] [1, 8, 9, 10] (ps := []) (fun j => by kernel_rfl) trivial
  ho
def p158_end (_C : List DT) (_n _i : Nat) (_x e _f : Int) (j : Nat → Value) : St := ⟨[], [(.code .ret)], mkT j [(2, (iI (e)))] 5 0⟩
theorem p158 (hE : EnvOk E) (C : List DT) (n i : Nat) (x e f : Int) (h0 : COut E 0 [] 80 [(iI (x)), (iI 0), (iI 3)] (iI (e)) []) {Φ : Res → Prop} (ho : ∀ j, OutK E 0 0 (p158_end C n i x e f j) Φ) (j : Nat → Value) : OutK E 0 0 (s158 C n i x e f j) Φ :=
 outK_seg hE (R0_ok hE) [.run 3, (.ops [(1, (.c0 (iI (e))))] [])] [2] (fun j => by kernel_rfl) (aP h0 <| aN <| aZ)
  ho
def p157a_end (_C : List DT) (_n _i : Nat) (_x _e _f : Int) (j : Nat → Value) : St := ⟨[], [(.code .ret), (.code (atC [1, 1] (bodyOf Tryz.f157)))], mkT j [(6, (iI 5))] 14 0⟩
theorem p157a (hE : EnvOk E) (C : List DT) (n i : Nat) (x e f : Int) (h0 : (decide ((↑n : Int) > Int.ofNat (nat_lit 256)) : Bool) = true) {Φ : Res → Prop} (ho : ∀ j, OutK E 0 0 (p157a_end C n i x e f j) Φ) (j : Nat → Value) : OutK E 0 0 (s157 C n i x e f j) Φ :=
 outK_seg hE (R0_ok hE) [.run 4, (.ops [(1, (.d .len))] []), (.cond true), .run 2] [6] (fun j => by kernel_rfl) (aP h0 <| aZ)
  ho
def p157b_end (_C : List DT) (_n _i : Nat) (_x e _f : Int) (j : Nat → Value) : St := ⟨[], [(.code .ret)], mkT j [(6, (iI (e)))] 14 0⟩
theorem p157b (hE : EnvOk E) (C : List DT) (n i : Nat) (x e f : Int) (h0 : (decide ((↑n : Int) > Int.ofNat (nat_lit 256)) : Bool) = false) (h1 : COut E 0 [] 138 [(.e (.one (.dp (.s (C) (n) 1)))), (.e (.one (.v (.func (.func 158) #[] #[]))))] (iI (e)) []) {Φ : Res → Prop} (ho : ∀ j, OutK E 0 0 (p157b_end C n i x e f j) Φ) (j : Nat → Value) : OutK E 0 0 (s157 C n i x e f j) Φ :=
 outK_seg hE (R0_ok hE) [.run 4, (.ops [(1, (.d .len))] []), (.cond false), .run 2, (.ops [(2, (.c0 (iI (e))))] [])] [6] (fun j => by kernel_rfl) (aP h0 <| aP h1 <| aN <| aZ)
  ho
def p111_end (_C : List DT) (_n _i : Nat) (_x e _f : Int) (j : Nat → Value) : St := ⟨[], [(.code .ret)], mkT j [(2, (iI (e)))] 5 0⟩
theorem p111 (hE : EnvOk E) (C : List DT) (n i : Nat) (x e f : Int) (h0 : COut E 0 [] 157 [(.e (.one (.dp (.s (C) (n) 1)))), (iI 256), (.e (.one (.v (.func (.func 158) #[] #[]))))] (iI (e)) []) {Φ : Res → Prop} (ho : ∀ j, OutK E 0 0 (p111_end C n i x e f j) Φ) (j : Nat → Value) : OutK E 0 0 (s111 C n i x e f j) Φ :=
 outK_seg hE (R0_ok hE) [.run 3, (.ops [(1, (.c0 (iI (e))))] [])] [2] (fun j => by kernel_rfl) (aP h0 <| aN <| aZ)
  ho
def p43_end (_C : List DT) (n _i : Nat) (_x _e _f : Int) (l : List AC) (b : Bool) (j : Nat → Value) : St := ⟨[(.some ⟨(l), (n), 3, (b), .cells⟩)], [(.code .ret)], mkT j [(2, (.e (.one (.slc 0 0 (n) 1 (n) (b)))))] 6 0⟩
theorem p43 (hE : EnvOk E) (C : List DT) (n i : Nat) (x e f : Int) (l : List AC) (b : Bool) (h0 : CopyOk [(.some ⟨[], 0, 3, true, .cells⟩)] 1 8 (.e (.one (.dp (.s (C) (n) 1)))) n l b) (h1 : (n * 1 : Nat) = n) (g0 : FlatC (l)) {Φ : Res → Prop} (ho : ∀ j, OutK E 0 0 (p43_end C n i x e f l b j) Φ) (j : Nat → Value) : OutK E 0 0 (s43 C n i x e f l b j) Φ :=
 outK_seg hE (R0_ok hE) [.run 3, (.ops [(2, (.cpu (n) (n) (l) (b)))] [])] [2] (s' := fun j => ⟨[none, (.some ⟨(l), (n), 3, (b), .cells⟩)], [(.code .ret)], mkT j [(2, (.e (.one (.slc 1 0 (n) 1 (n) (b)))))] 6 0⟩) (fun j => by kernel_rfl) (aP h0 <| aP h1 <| aZ)
  fun j => outK_gcF [1] [true] (h' := [(.some ⟨(l), (n), 3, (b), .cells⟩)]) (by decide) (by kernel_rfl) (by kernel_rfl) ⟨g0, trivial⟩ (by kernel_rfl) (ho j)
def p112n0_end (_lv _a0 _a1 _a2 _a3 : Int) (b0 b1 b2 b3 : Nat) (_D _D1 _D2 _D3 _D4 : List AC) (_n _N _N1 _N2 _N3 _N4 : Nat) (j : Nat → Value) : St := ⟨[(.some ⟨[(.v (.float .f32 (b0))), (.v (.float .f32 (b1))), (.v (.float .f32 (b2))), (.v (.float .f32 (b3)))], 4, 23, false, .cells⟩)], [(.code .ret)], mkT j [(6, (.e (.one (.slc 0 0 4 1 4 false))))] 26 0⟩
theorem p112n0 (hE : EnvOk E) (lv a0 a1 a2 a3 : Int) (b0 b1 b2 b3 : Nat) (D D1 D2 D3 D4 : List AC) (n N N1 N2 N3 N4 : Nat) (h0 : ((iI (wrapF IntKind.i64 (lv * (1 : Int)))) : AV) = (iI (a0))) (h1 : COut E 0 [] 101 [(iI (a0))] (.e (.one (.v (.float .f32 (b0))))) []) (h3 : ((iI (wrapF IntKind.i64 (lv * (0 : Int)))) : AV) = (iI (a1))) (h4 : COut E 0 [] 101 [(iI (a1))] (.e (.one (.v (.float .f32 (b1))))) []) (h6 : ((iI (wrapF IntKind.i64 (lv * (-1 : Int)))) : AV) = (iI (a2))) (h7 : COut E 0 [] 101 [(iI (a2))] (.e (.one (.v (.float .f32 (b2))))) []) (h9 : ((iI (wrapF IntKind.i64 (lv * (0 : Int)))) : AV) = (iI (a3))) (h10 : COut E 0 [] 101 [(iI (a3))] (.e (.one (.v (.float .f32 (b3))))) []) {Φ : Res → Prop} (ho : ∀ j, OutK E 0 0 (p112n0_end lv a0 a1 a2 a3 b0 b1 b2 b3 D D1 D2 D3 D4 n N N1 N2 N3 N4 j) Φ) (j : Nat → Value) : OutK E 0 0 (s112n0 lv a0 a1 a2 a3 b0 b1 b2 b3 D D1 D2 D3 D4 n N N1 N2 N3 N4 j) Φ :=
 outK_seg hE (R0_ok hE) [.run 16, (.ops [(9, (.rn (iI (a0)))), (10, (.c0 (.e (.one (.v (.float .f32 (b0)))))))] []), .run 12, (.ops [(9, (.rn (iI (a1)))), (10, (.c0 (.e (.one (.v (.float .f32 (b1)))))))] []), .run 12, (.ops [(9, (.rn (iI (a2)))), (10, (.c0 (.e (.one (.v (.float .f32 (b2)))))))] []), .run 12, (.ops [(9, (.rn (iI (a3)))), (10, (.c0 (.e (.one (.v (.float .f32 (b3)))))))] []), .run 10] [6] (s' := fun j => ⟨[(.some ⟨[(.v (.float .f32 (b0)))], 1, 23, true, .cells⟩), none, (.some ⟨[(.v (.float .f32 (b1)))], 1, 23, true, .cells⟩), none, (.some ⟨[(.v (.float .f32 (b2)))], 1, 23, true, .cells⟩), none, (.some ⟨[(.v (.float .f32 (b3)))], 1, 23, true, .cells⟩), (.some ⟨[(.v (.float .f32 (b0))), (.v (.float .f32 (b1))), (.v (.float .f32 (b2))), (.v (.float .f32 (b3)))], 4, 23, false, .cells⟩)], [(.code .ret)], mkT j [(6, (.e (.one (.slc 7 0 4 1 4 false))))] 26 0⟩) (fun j => by kernel_rfl) (aP h0 <| aP h1 <| aN <| aP h3 <| aP h4 <| aN <| aP h6 <| aP h7 <| aN <| aP h9 <| aP h10 <| aN <| aZ)
  fun j => outK_gc [7] (by decide) (by kernel_rfl) (by kernel_rfl) (by kernel_rfl) (ho j)
def p112i0_end (_lv _a0 _a1 _a2 _a3 : Int) (_b0 _b1 _b2 _b3 : Nat) (_D _D1 _D2 _D3 D4 : List AC) (n _N _N1 _N2 _N3 N4 : Nat) (j : Nat → Value) : St := ⟨[none, (.some ⟨(D4), (N4), 23, false, .cells⟩)], [(.code .ret)], mkT j [(6, (.e (.one (.slc 1 0 (n + 4) 1 (n + 4) false))))] 26 0⟩
theorem p112i0 (hE : EnvOk E) (lv a0 a1 a2 a3 : Int) (b0 b1 b2 b3 : Nat) (D D1 D2 D3 D4 : List AC) (n N N1 N2 N3 N4 : Nat) (h0 : ((iI (wrapF IntKind.i64 (lv * (1 : Int)))) : AV) = (iI (a0))) (h1 : COut E 0 [] 101 [(iI (a0))] (.e (.one (.v (.float .f32 (b0))))) []) (h3 : ¬n + 1 ≤ n) (h4 : (small (n + 1) (1 : Nat) (4 : Nat) : Bool) = true) (h5 : (N : Nat) = n * nat_lit 1) (h6 : (appL D ((fun x => AC.v (Value.float FloatKind.f32 b0) :: x) []) : List AC) = D1) (h8 : ((n + 1) * nat_lit 1 : Nat) = N1) (h9 : ((iI (wrapF IntKind.i64 (lv * (0 : Int)))) : AV) = (iI (a1))) (h10 : COut E 0 [] 101 [(iI (a1))] (.e (.one (.v (.float .f32 (b1))))) []) (h12 : ¬n + 1 + 1 ≤ n + 1) (h13 : (small (n + 1 + 1) (1 : Nat) (4 : Nat) : Bool) = true) (h14 : (N1 : Nat) = (n + 1) * nat_lit 1) (h15 : (appL D1 ((fun x => AC.v (Value.float FloatKind.f32 b1) :: x) []) : List AC) = D2) (h16 : (n + 1 + 1 : Nat) = n + 2) (h17 : ((n + 2) * nat_lit 1 : Nat) = N2) (h18 : ((iI (wrapF IntKind.i64 (lv * (-1 : Int)))) : AV) = (iI (a2))) (h19 : COut E 0 [] 101 [(iI (a2))] (.e (.one (.v (.float .f32 (b2))))) []) (h21 : ¬n + 2 + 1 ≤ n + 2) (h22 : (small (n + 2 + 1) (1 : Nat) (4 : Nat) : Bool) = true) (h23 : (N2 : Nat) = (n + 2) * nat_lit 1) (h24 : (appL D2 ((fun x => AC.v (Value.float FloatKind.f32 b2) :: x) []) : List AC) = D3) (h25 : (n + 2 + 1 : Nat) = n + 3) (h26 : ((n + 3) * nat_lit 1 : Nat) = N3) (h27 : ((iI (wrapF IntKind.i64 (lv * (0 : Int)))) : AV) = (iI (a3))) (h28 : COut E 0 [] 101 [(iI (a3))] (.e (.one (.v (.float .f32 (b3))))) []) (h30 : ¬n + 3 + 1 ≤ n + 3) (h31 : (small (n + 3 + 1) (1 : Nat) (4 : Nat) : Bool) = true) (h32 : (N3 : Nat) = (n + 3) * nat_lit 1) (h33 : (appL D3 ((fun x => AC.v (Value.float FloatKind.f32 b3) :: x) []) : List AC) = D4) (h34 : (n + 3 + 1 : Nat) = n + 4) (h35 : ((n + 4) * nat_lit 1 : Nat) = N4) (g0 : FlatC (D4)) {Φ : Res → Prop} (ho : ∀ j, OutK E 0 1 (p112i0_end lv a0 a1 a2 a3 b0 b1 b2 b3 D D1 D2 D3 D4 n N N1 N2 N3 N4 j) Φ) (j : Nat → Value) : OutK E 0 1 (s112i0 lv a0 a1 a2 a3 b0 b1 b2 b3 D D1 D2 D3 D4 n N N1 N2 N3 N4 j) Φ :=
 outK_seg hE (R0_ok hE) [.run 16, (.ops [(9, (.rn (iI (a0)))), (10, (.c0 (.e (.one (.v (.float .f32 (b0))))))), (12, (.app (n + 1) (N1) (D1)))] []), .run 12, (.ops [(9, (.rn (iI (a1)))), (10, (.c0 (.e (.one (.v (.float .f32 (b1))))))), (12, (.app (n + 2) (N2) (D2)))] []), .run 12, (.ops [(9, (.rn (iI (a2)))), (10, (.c0 (.e (.one (.v (.float .f32 (b2))))))), (12, (.app (n + 3) (N3) (D3)))] []), .run 12, (.ops [(9, (.rn (iI (a3)))), (10, (.c0 (.e (.one (.v (.float .f32 (b3))))))), (12, (.app (n + 4) (N4) (D4)))] []), .run 10] [6] (s' := fun j => ⟨[none, (.some ⟨[(.v (.float .f32 (b0)))], 1, 23, true, .cells⟩), none, (.some ⟨[(.v (.float .f32 (b1)))], 1, 23, true, .cells⟩), none, (.some ⟨[(.v (.float .f32 (b2)))], 1, 23, true, .cells⟩), none, (.some ⟨[(.v (.float .f32 (b3)))], 1, 23, true, .cells⟩), (.some ⟨(D4), (N4), 23, false, .cells⟩)], [(.code .ret)], mkT j [(6, (.e (.one (.slc 8 0 (n + 4) 1 (n + 4) false))))] 26 0⟩) (fun j => by kernel_rfl) (aP h0 <| aP h1 <| aN <| aP h3 <| aP h4 <| aP h5 <| aP h6 <| aP (rfl : (n + 1 : Nat) = n + 1) <| aP h8 <| aP h9 <| aP h10 <| aN <| aP h12 <| aP h13 <| aP h14 <| aP h15 <| aP h16 <| aP h17 <| aP h18 <| aP h19 <| aN <| aP h21 <| aP h22 <| aP h23 <| aP h24 <| aP h25 <| aP h26 <| aP h27 <| aP h28 <| aN <| aP h30 <| aP h31 <| aP h32 <| aP h33 <| aP h34 <| aP h35 <| aZ)
  fun j => outK_gcF [0, 8] [false, true] (h' := [none, (.some ⟨(D4), (N4), 23, false, .cells⟩)]) (by decide) (by kernel_rfl) (by kernel_rfl) ⟨g0, trivial⟩ (by kernel_rfl) (ho j)
def p112i1_end (_lv _a0 _a1 _a2 _a3 : Int) (_b0 _b1 _b2 _b3 : Nat) (_D _D1 _D2 _D3 D4 : List AC) (n _N _N1 _N2 _N3 N4 : Nat) (j : Nat → Value) : St := ⟨[none, (.some ⟨(D4), (N4), 23, false, .cells⟩)], [(.code .ret)], mkT j [(6, (.e (.one (.slc 1 0 (n + 4) 1 (n + 4) false))))] 26 0⟩
theorem p112i1 (hE : EnvOk E) (lv a0 a1 a2 a3 : Int) (b0 b1 b2 b3 : Nat) (D D1 D2 D3 D4 : List AC) (n N N1 N2 N3 N4 : Nat) (h0 : ((iI (wrapF IntKind.i64 (lv * (0 : Int)))) : AV) = (iI (a0))) (h1 : COut E 0 [] 101 [(iI (a0))] (.e (.one (.v (.float .f32 (b0))))) []) (h3 : ¬n + 1 ≤ n) (h4 : (small (n + 1) (1 : Nat) (4 : Nat) : Bool) = true) (h5 : (N : Nat) = n * nat_lit 1) (h6 : (appL D ((fun x => AC.v (Value.float FloatKind.f32 b0) :: x) []) : List AC) = D1) (h8 : ((n + 1) * nat_lit 1 : Nat) = N1) (h9 : ((iI (wrapF IntKind.i64 (lv * (-1 : Int)))) : AV) = (iI (a1))) (h10 : COut E 0 [] 101 [(iI (a1))] (.e (.one (.v (.float .f32 (b1))))) []) (h12 : ¬n + 1 + 1 ≤ n + 1) (h13 : (small (n + 1 + 1) (1 : Nat) (4 : Nat) : Bool) = true) (h14 : (N1 : Nat) = (n + 1) * nat_lit 1) (h15 : (appL D1 ((fun x => AC.v (Value.float FloatKind.f32 b1) :: x) []) : List AC) = D2) (h16 : (n + 1 + 1 : Nat) = n + 2) (h17 : ((n + 2) * nat_lit 1 : Nat) = N2) (h18 : ((iI (wrapF IntKind.i64 (lv * (0 : Int)))) : AV) = (iI (a2))) (h19 : COut E 0 [] 101 [(iI (a2))] (.e (.one (.v (.float .f32 (b2))))) []) (h21 : ¬n + 2 + 1 ≤ n + 2) (h22 : (small (n + 2 + 1) (1 : Nat) (4 : Nat) : Bool) = true) (h23 : (N2 : Nat) = (n + 2) * nat_lit 1) (h24 : (appL D2 ((fun x => AC.v (Value.float FloatKind.f32 b2) :: x) []) : List AC) = D3) (h25 : (n + 2 + 1 : Nat) = n + 3) (h26 : ((n + 3) * nat_lit 1 : Nat) = N3) (h27 : ((iI (wrapF IntKind.i64 (lv * (1 : Int)))) : AV) = (iI (a3))) (h28 : COut E 0 [] 101 [(iI (a3))] (.e (.one (.v (.float .f32 (b3))))) []) (h30 : ¬n + 3 + 1 ≤ n + 3) (h31 : (small (n + 3 + 1) (1 : Nat) (4 : Nat) : Bool) = true) (h32 : (N3 : Nat) = (n + 3) * nat_lit 1) (h33 : (appL D3 ((fun x => AC.v (Value.float FloatKind.f32 b3) :: x) []) : List AC) = D4) (h34 : (n + 3 + 1 : Nat) = n + 4) (h35 : ((n + 4) * nat_lit 1 : Nat) = N4) (g0 : FlatC (D4)) {Φ : Res → Prop} (ho : ∀ j, OutK E 0 1 (p112i1_end lv a0 a1 a2 a3 b0 b1 b2 b3 D D1 D2 D3 D4 n N N1 N2 N3 N4 j) Φ) (j : Nat → Value) : OutK E 0 1 (s112i1 lv a0 a1 a2 a3 b0 b1 b2 b3 D D1 D2 D3 D4 n N N1 N2 N3 N4 j) Φ :=
 outK_seg hE (R0_ok hE) [.run 16, (.ops [(9, (.rn (iI (a0)))), (10, (.c0 (.e (.one (.v (.float .f32 (b0))))))), (12, (.app (n + 1) (N1) (D1)))] []), .run 12, (.ops [(9, (.rn (iI (a1)))), (10, (.c0 (.e (.one (.v (.float .f32 (b1))))))), (12, (.app (n + 2) (N2) (D2)))] []), .run 12, (.ops [(9, (.rn (iI (a2)))), (10, (.c0 (.e (.one (.v (.float .f32 (b2))))))), (12, (.app (n + 3) (N3) (D3)))] []), .run 12, (.ops [(9, (.rn (iI (a3)))), (10, (.c0 (.e (.one (.v (.float .f32 (b3))))))), (12, (.app (n + 4) (N4) (D4)))] []), .run 10] [6] (s' := fun j => ⟨[none, (.some ⟨[(.v (.float .f32 (b0)))], 1, 23, true, .cells⟩), none, (.some ⟨[(.v (.float .f32 (b1)))], 1, 23, true, .cells⟩), none, (.some ⟨[(.v (.float .f32 (b2)))], 1, 23, true, .cells⟩), none, (.some ⟨[(.v (.float .f32 (b3)))], 1, 23, true, .cells⟩), (.some ⟨(D4), (N4), 23, false, .cells⟩)], [(.code .ret)], mkT j [(6, (.e (.one (.slc 8 0 (n + 4) 1 (n + 4) false))))] 26 0⟩) (fun j => by kernel_rfl) (aP h0 <| aP h1 <| aN <| aP h3 <| aP h4 <| aP h5 <| aP h6 <| aP (rfl : (n + 1 : Nat) = n + 1) <| aP h8 <| aP h9 <| aP h10 <| aN <| aP h12 <| aP h13 <| aP h14 <| aP h15 <| aP h16 <| aP h17 <| aP h18 <| aP h19 <| aN <| aP h21 <| aP h22 <| aP h23 <| aP h24 <| aP h25 <| aP h26 <| aP h27 <| aP h28 <| aN <| aP h30 <| aP h31 <| aP h32 <| aP h33 <| aP h34 <| aP h35 <| aZ)
  fun j => outK_gcF [0, 8] [false, true] (h' := [none, (.some ⟨(D4), (N4), 23, false, .cells⟩)]) (by decide) (by kernel_rfl) (by kernel_rfl) ⟨g0, trivial⟩ (by kernel_rfl) (ho j)
def p112i2_end (_lv _a0 _a1 _a2 _a3 : Int) (_b0 _b1 _b2 _b3 : Nat) (_D _D1 _D2 _D3 D4 : List AC) (n _N _N1 _N2 _N3 N4 : Nat) (j : Nat → Value) : St := ⟨[none, (.some ⟨(D4), (N4), 23, false, .cells⟩)], [(.code .ret)], mkT j [(6, (.e (.one (.slc 1 0 (n + 4) 1 (n + 4) false))))] 26 0⟩
theorem p112i2 (hE : EnvOk E) (lv a0 a1 a2 a3 : Int) (b0 b1 b2 b3 : Nat) (D D1 D2 D3 D4 : List AC) (n N N1 N2 N3 N4 : Nat) (h0 : ((iI (wrapF IntKind.i64 (lv * (-1 : Int)))) : AV) = (iI (a0))) (h1 : COut E 0 [] 101 [(iI (a0))] (.e (.one (.v (.float .f32 (b0))))) []) (h3 : ¬n + 1 ≤ n) (h4 : (small (n + 1) (1 : Nat) (4 : Nat) : Bool) = true) (h5 : (N : Nat) = n * nat_lit 1) (h6 : (appL D ((fun x => AC.v (Value.float FloatKind.f32 b0) :: x) []) : List AC) = D1) (h8 : ((n + 1) * nat_lit 1 : Nat) = N1) (h9 : ((iI (wrapF IntKind.i64 (lv * (0 : Int)))) : AV) = (iI (a1))) (h10 : COut E 0 [] 101 [(iI (a1))] (.e (.one (.v (.float .f32 (b1))))) []) (h12 : ¬n + 1 + 1 ≤ n + 1) (h13 : (small (n + 1 + 1) (1 : Nat) (4 : Nat) : Bool) = true) (h14 : (N1 : Nat) = (n + 1) * nat_lit 1) (h15 : (appL D1 ((fun x => AC.v (Value.float FloatKind.f32 b1) :: x) []) : List AC) = D2) (h16 : (n + 1 + 1 : Nat) = n + 2) (h17 : ((n + 2) * nat_lit 1 : Nat) = N2) (h18 : ((iI (wrapF IntKind.i64 (lv * (1 : Int)))) : AV) = (iI (a2))) (h19 : COut E 0 [] 101 [(iI (a2))] (.e (.one (.v (.float .f32 (b2))))) []) (h21 : ¬n + 2 + 1 ≤ n + 2) (h22 : (small (n + 2 + 1) (1 : Nat) (4 : Nat) : Bool) = true) (h23 : (N2 : Nat) = (n + 2) * nat_lit 1) (h24 : (appL D2 ((fun x => AC.v (Value.float FloatKind.f32 b2) :: x) []) : List AC) = D3) (h25 : (n + 2 + 1 : Nat) = n + 3) (h26 : ((n + 3) * nat_lit 1 : Nat) = N3) (h27 : ((iI (wrapF IntKind.i64 (lv * (0 : Int)))) : AV) = (iI (a3))) (h28 : COut E 0 [] 101 [(iI (a3))] (.e (.one (.v (.float .f32 (b3))))) []) (h30 : ¬n + 3 + 1 ≤ n + 3) (h31 : (small (n + 3 + 1) (1 : Nat) (4 : Nat) : Bool) = true) (h32 : (N3 : Nat) = (n + 3) * nat_lit 1) (h33 : (appL D3 ((fun x => AC.v (Value.float FloatKind.f32 b3) :: x) []) : List AC) = D4) (h34 : (n + 3 + 1 : Nat) = n + 4) (h35 : ((n + 4) * nat_lit 1 : Nat) = N4) (g0 : FlatC (D4)) {Φ : Res → Prop} (ho : ∀ j, OutK E 0 1 (p112i2_end lv a0 a1 a2 a3 b0 b1 b2 b3 D D1 D2 D3 D4 n N N1 N2 N3 N4 j) Φ) (j : Nat → Value) : OutK E 0 1 (s112i2 lv a0 a1 a2 a3 b0 b1 b2 b3 D D1 D2 D3 D4 n N N1 N2 N3 N4 j) Φ :=
 outK_seg hE (R0_ok hE) [.run 16, (.ops [(9, (.rn (iI (a0)))), (10, (.c0 (.e (.one (.v (.float .f32 (b0))))))), (12, (.app (n + 1) (N1) (D1)))] []), .run 12, (.ops [(9, (.rn (iI (a1)))), (10, (.c0 (.e (.one (.v (.float .f32 (b1))))))), (12, (.app (n + 2) (N2) (D2)))] []), .run 12, (.ops [(9, (.rn (iI (a2)))), (10, (.c0 (.e (.one (.v (.float .f32 (b2))))))), (12, (.app (n + 3) (N3) (D3)))] []), .run 12, (.ops [(9, (.rn (iI (a3)))), (10, (.c0 (.e (.one (.v (.float .f32 (b3))))))), (12, (.app (n + 4) (N4) (D4)))] []), .run 10] [6] (s' := fun j => ⟨[none, (.some ⟨[(.v (.float .f32 (b0)))], 1, 23, true, .cells⟩), none, (.some ⟨[(.v (.float .f32 (b1)))], 1, 23, true, .cells⟩), none, (.some ⟨[(.v (.float .f32 (b2)))], 1, 23, true, .cells⟩), none, (.some ⟨[(.v (.float .f32 (b3)))], 1, 23, true, .cells⟩), (.some ⟨(D4), (N4), 23, false, .cells⟩)], [(.code .ret)], mkT j [(6, (.e (.one (.slc 8 0 (n + 4) 1 (n + 4) false))))] 26 0⟩) (fun j => by kernel_rfl) (aP h0 <| aP h1 <| aN <| aP h3 <| aP h4 <| aP h5 <| aP h6 <| aP (rfl : (n + 1 : Nat) = n + 1) <| aP h8 <| aP h9 <| aP h10 <| aN <| aP h12 <| aP h13 <| aP h14 <| aP h15 <| aP h16 <| aP h17 <| aP h18 <| aP h19 <| aN <| aP h21 <| aP h22 <| aP h23 <| aP h24 <| aP h25 <| aP h26 <| aP h27 <| aP h28 <| aN <| aP h30 <| aP h31 <| aP h32 <| aP h33 <| aP h34 <| aP h35 <| aZ)
  fun j => outK_gcF [0, 8] [false, true] (h' := [none, (.some ⟨(D4), (N4), 23, false, .cells⟩)]) (by decide) (by kernel_rfl) (by kernel_rfl) ⟨g0, trivial⟩ (by kernel_rfl) (ho j)
def p112i3_end (_lv _a0 _a1 _a2 _a3 : Int) (_b0 _b1 _b2 _b3 : Nat) (_D _D1 _D2 _D3 D4 : List AC) (n _N _N1 _N2 _N3 N4 : Nat) (j : Nat → Value) : St := ⟨[none, (.some ⟨(D4), (N4), 23, false, .cells⟩)], [(.code .ret)], mkT j [(6, (.e (.one (.slc 1 0 (n + 4) 1 (n + 4) false))))] 26 0⟩
theorem p112i3 (hE : EnvOk E) (lv a0 a1 a2 a3 : Int) (b0 b1 b2 b3 : Nat) (D D1 D2 D3 D4 : List AC) (n N N1 N2 N3 N4 : Nat) (h0 : ((iI (wrapF IntKind.i64 (lv * (0 : Int)))) : AV) = (iI (a0))) (h1 : COut E 0 [] 101 [(iI (a0))] (.e (.one (.v (.float .f32 (b0))))) []) (h3 : ¬n + 1 ≤ n) (h4 : (small (n + 1) (1 : Nat) (4 : Nat) : Bool) = true) (h5 : (N : Nat) = n * nat_lit 1) (h6 : (appL D ((fun x => AC.v (Value.float FloatKind.f32 b0) :: x) []) : List AC) = D1) (h8 : ((n + 1) * nat_lit 1 : Nat) = N1) (h9 : ((iI (wrapF IntKind.i64 (lv * (1 : Int)))) : AV) = (iI (a1))) (h10 : COut E 0 [] 101 [(iI (a1))] (.e (.one (.v (.float .f32 (b1))))) []) (h12 : ¬n + 1 + 1 ≤ n + 1) (h13 : (small (n + 1 + 1) (1 : Nat) (4 : Nat) : Bool) = true) (h14 : (N1 : Nat) = (n + 1) * nat_lit 1) (h15 : (appL D1 ((fun x => AC.v (Value.float FloatKind.f32 b1) :: x) []) : List AC) = D2) (h16 : (n + 1 + 1 : Nat) = n + 2) (h17 : ((n + 2) * nat_lit 1 : Nat) = N2) (h18 : ((iI (wrapF IntKind.i64 (lv * (0 : Int)))) : AV) = (iI (a2))) (h19 : COut E 0 [] 101 [(iI (a2))] (.e (.one (.v (.float .f32 (b2))))) []) (h21 : ¬n + 2 + 1 ≤ n + 2) (h22 : (small (n + 2 + 1) (1 : Nat) (4 : Nat) : Bool) = true) (h23 : (N2 : Nat) = (n + 2) * nat_lit 1) (h24 : (appL D2 ((fun x => AC.v (Value.float FloatKind.f32 b2) :: x) []) : List AC) = D3) (h25 : (n + 2 + 1 : Nat) = n + 3) (h26 : ((n + 3) * nat_lit 1 : Nat) = N3) (h27 : ((iI (wrapF IntKind.i64 (lv * (-1 : Int)))) : AV) = (iI (a3))) (h28 : COut E 0 [] 101 [(iI (a3))] (.e (.one (.v (.float .f32 (b3))))) []) (h30 : ¬n + 3 + 1 ≤ n + 3) (h31 : (small (n + 3 + 1) (1 : Nat) (4 : Nat) : Bool) = true) (h32 : (N3 : Nat) = (n + 3) * nat_lit 1) (h33 : (appL D3 ((fun x => AC.v (Value.float FloatKind.f32 b3) :: x) []) : List AC) = D4) (h34 : (n + 3 + 1 : Nat) = n + 4) (h35 : ((n + 4) * nat_lit 1 : Nat) = N4) (g0 : FlatC (D4)) {Φ : Res → Prop} (ho : ∀ j, OutK E 0 1 (p112i3_end lv a0 a1 a2 a3 b0 b1 b2 b3 D D1 D2 D3 D4 n N N1 N2 N3 N4 j) Φ) (j : Nat → Value) : OutK E 0 1 (s112i3 lv a0 a1 a2 a3 b0 b1 b2 b3 D D1 D2 D3 D4 n N N1 N2 N3 N4 j) Φ :=
 outK_seg hE (R0_ok hE) [.run 16, (.ops [(9, (.rn (iI (a0)))), (10, (.c0 (.e (.one (.v (.float .f32 (b0))))))), (12, (.app (n + 1) (N1) (D1)))] []), .run 12, (.ops [(9, (.rn (iI (a1)))), (10, (.c0 (.e (.one (.v (.float .f32 (b1))))))), (12, (.app (n + 2) (N2) (D2)))] []), .run 12, (.ops [(9, (.rn (iI (a2)))), (10, (.c0 (.e (.one (.v (.float .f32 (b2))))))), (12, (.app (n + 3) (N3) (D3)))] []), .run 12, (.ops [(9, (.rn (iI (a3)))), (10, (.c0 (.e (.one (.v (.float .f32 (b3))))))), (12, (.app (n + 4) (N4) (D4)))] []), .run 10] [6] (s' := fun j => ⟨[none, (.some ⟨[(.v (.float .f32 (b0)))], 1, 23, true, .cells⟩), none, (.some ⟨[(.v (.float .f32 (b1)))], 1, 23, true, .cells⟩), none, (.some ⟨[(.v (.float .f32 (b2)))], 1, 23, true, .cells⟩), none, (.some ⟨[(.v (.float .f32 (b3)))], 1, 23, true, .cells⟩), (.some ⟨(D4), (N4), 23, false, .cells⟩)], [(.code .ret)], mkT j [(6, (.e (.one (.slc 8 0 (n + 4) 1 (n + 4) false))))] 26 0⟩) (fun j => by kernel_rfl) (aP h0 <| aP h1 <| aN <| aP h3 <| aP h4 <| aP h5 <| aP h6 <| aP (rfl : (n + 1 : Nat) = n + 1) <| aP h8 <| aP h9 <| aP h10 <| aN <| aP h12 <| aP h13 <| aP h14 <| aP h15 <| aP h16 <| aP h17 <| aP h18 <| aP h19 <| aN <| aP h21 <| aP h22 <| aP h23 <| aP h24 <| aP h25 <| aP h26 <| aP h27 <| aP h28 <| aN <| aP h30 <| aP h31 <| aP h32 <| aP h33 <| aP h34 <| aP h35 <| aZ)
  fun j => outK_gcF [0, 8] [false, true] (h' := [none, (.some ⟨(D4), (N4), 23, false, .cells⟩)]) (by decide) (by kernel_rfl) (by kernel_rfl) ⟨g0, trivial⟩ (by kernel_rfl) (ho j)
def p42a_end (C : List DT) (n _i _m _N _N1 _N2 _N3 _N4 : Nat) (lv _e _f _g _s _s2 _x _a0 _a1 _a2 _a3 : Int) (_D _D1 _D2 _D3 _D4 : List AC) (b0 b1 b2 b3 : Nat) (j : Nat → Value) : St := ⟨[(.some ⟨[(.v (.float .f32 (b0))), (.v (.float .f32 (b1))), (.v (.float .f32 (b2))), (.v (.float .f32 (b3)))], 4, 23, false, .cells⟩)], [(.code (atC [1, 1, 1, 1, 0, 1, 0, 0] (bodyOf Tryz.f42))), (.inLoop (atC [1, 1, 1, 1, 0, 1, 0, 0] (bodyOf Tryz.f42))), (.inBlock 0), (.code (atC [1, 1, 1, 1, 1] (bodyOf Tryz.f42)))], mkT j [(0, (iI (lv))), (7, (.e (.one (.slc 0 0 4 1 4 false)))), (8, (iI 0)), (22, (.e (.one (.dp (.s (C) (n) 1))))), (23, (iI (Int.ofNat n))), (24, (iI 0))] 38 0⟩
theorem p42a (hE : EnvOk E) (C : List DT) (n i m N N1 N2 N3 N4 : Nat) (lv e f g s s2 x a0 a1 a2 a3 : Int) (D D1 D2 D3 D4 : List AC) (b0 b1 b2 b3 : Nat) (h0 : COut E 0 [] 80 [(iI (lv)), (iI 1), (iI 16384)] (iI (e)) []) (h2 : COut E 0 [] 111 [(.e (.one (.dp (.s (C) (n) 1))))] (iI (f)) []) (h4 : COut E 1 [(.some ⟨[(.v (.int .i64 (e))), (.v (.int .i64 (f)))], 2, 26, true, .cells⟩)] 79 [(.e (.one (.slc 0 0 2 1 2 true)))] (iI (g)) [(.some ⟨[(.v (.int .i64 (e))), (.v (.int .i64 (f)))], 2, 26, true, .cells⟩)]) (h6 : (g != (0 : Int) : Bool) = false) (h7 : COut E 0 [] 112 [(.e (.one (.v (.slice none 0 0)))), (iI (lv)), (iI 0)] (.e (.one (.slc 0 0 4 1 4 false))) [(.some ⟨[(.v (.float .f32 (b0))), (.v (.float .f32 (b1))), (.v (.float .f32 (b2))), (.v (.float .f32 (b3)))], 4, 23, false, .cells⟩)]) (h10 : True) (h12 : FlatB (some { cells := [AC.v (Value.float FloatKind.f32 b0), AC.v (Value.float FloatKind.f32 b1), AC.v (Value.float FloatKind.f32 b2), AC.v (Value.float FloatKind.f32 b3)], n := (4 : Nat), elem := (23 : TypeId), full := false, ext := AX.cells : AB }) ∧ True) {Φ : Res → Prop} (ho : ∀ j, OutK E 0 0 (p42a_end C n i m N N1 N2 N3 N4 lv e f g s s2 x a0 a1 a2 a3 D D1 D2 D3 D4 b0 b1 b2 b3 j) Φ) (j : Nat → Value) : OutK E 0 0 (s42 C n i m N N1 N2 N3 N4 lv e f g s s2 x a0 a1 a2 a3 D D1 D2 D3 D4 b0 b1 b2 b3 j) Φ :=
 outK_seg hE (R0_ok hE) [.run 4, (.ops [(1, (.c0 (iI (e)))), (3, (.c0 (iI (f)))), (5, (.d (.c1 (iI (g)))))] []), .run 2, (.cond false), .run 2, (.ops [(1, (.cl [] [] [(.e (.one (.v (.slice none 0 0)))), (iI (lv)), (iI 0)] [] (.e (.one (.slc 0 0 4 1 4 false))) [(.some ⟨[(.v (.float .f32 (b0))), (.v (.float .f32 (b1))), (.v (.float .f32 (b2))), (.v (.float .f32 (b3)))], 4, 23, false, .cells⟩)] (.e (.one (.slc 1 0 4 1 4 false))) [true] [(.some ⟨[(.v (.float .f32 (b0))), (.v (.float .f32 (b1))), (.v (.float .f32 (b2))), (.v (.float .f32 (b3)))], 4, 23, false, .cells⟩)]))] []), .run 4, (.ops [(1, (.d .len))] []), .run 2] [0, 7, 8, 22, 23, 24] (s' := fun j => ⟨[(.some ⟨[(.v (.int .i64 (e))), (.v (.int .i64 (f)))], 2, 26, true, .cells⟩), (.some ⟨[(.v (.float .f32 (b0))), (.v (.float .f32 (b1))), (.v (.float .f32 (b2))), (.v (.float .f32 (b3)))], 4, 23, false, .cells⟩)], [(.code (atC [1, 1, 1, 1, 0, 1, 0, 0] (bodyOf Tryz.f42))), (.inLoop (atC [1, 1, 1, 1, 0, 1, 0, 0] (bodyOf Tryz.f42))), (.inBlock 0), (.code (atC [1, 1, 1, 1, 1] (bodyOf Tryz.f42)))], mkT j [(0, (iI (lv))), (7, (.e (.one (.slc 1 0 4 1 4 false)))), (8, (iI 0)), (22, (.e (.one (.dp (.s (C) (n) 1))))), (23, (iI (Int.ofNat n))), (24, (iI 0))] 38 0⟩) (fun j => by kernel_rfl) (aP h0 <| aN <| aP h2 <| aN <| aP h4 <| aN <| aP h6 <| aP h7 <| aP (rfl : ([(.e (.one (.v (.slice none 0 0)))), (iI (lv)), (iI 0)] : List AV) = [(.e (.one (.v (.slice none 0 0)))), (iI (lv)), (iI 0)]) <| aP (rfl : ([] : List (Option (Option AB))) = []) <| aP h10 <| aP (rfl : ([(.some (.some ⟨[(.v (.float .f32 (b0))), (.v (.float .f32 (b1))), (.v (.float .f32 (b2))), (.v (.float .f32 (b3)))], 4, 23, false, .cells⟩))] : List (Option (Option AB))) = [(.some (.some ⟨[(.v (.float .f32 (b0))), (.v (.float .f32 (b1))), (.v (.float .f32 (b2))), (.v (.float .f32 (b3)))], 4, 23, false, .cells⟩))]) <| aP h12 <| aP (rfl : ((.e (.one (.slc 1 0 4 1 4 false))) : AV) = (.e (.one (.slc 1 0 4 1 4 false)))) <| aZ)
  fun j => outK_gc [1] (by decide) (by kernel_rfl) (by kernel_rfl) (by kernel_rfl) (ho j)
def p138s_end (C : List DT) (n i : Nat) (_x _e _f : Int) (j : Nat → Value) : St := ⟨[], [(.code (atC [1, 0, 1, 0, 0] (bodyOf Tryz.f138))), (.inLoop (atC [1, 0, 1, 0, 0] (bodyOf Tryz.f138))), (.inBlock 0), (.code (atC [1, 1] (bodyOf Tryz.f138)))], mkT j [(1, (.e (.one (.v (.func (.func 158) #[] #[]))))), (8, (.e (.one (.dp (.s (C) (n) 1))))), (9, (iI (Int.ofNat n))), (10, (iI (Int.ofNat (i + 1))))] 21 0⟩
theorem p138s (hE : EnvOk E) (C : List DT) (n i : Nat) (x e f : Int) (h0 : (decide (Int.ofNat i < Int.ofNat n) : Bool) = true) (h1 : (0 : Int) ≤ Int.ofNat i ∧ Int.ofNat i < (↑n : Int)) (h2 : ((Int.ofNat i).toNat * nat_lit 1 : Nat) = i) (h3 : (getL C i : Option DT) = (.some (.v (.int .i64 (x))))) (h4 : COut E 0 [] 158 [(iI (x))] (iI (e)) []) (h6 : (e != (0 : Int) : Bool) = false) (h7 : ((iI (wrapF IntKind.i64 (Int.ofNat i + (1 : Int)))) : AV) = (iI (Int.ofNat (i + 1)))) {Φ : Res → Prop} (ho : ∀ j, OutK E 0 0 (p138s_end C n i x e f j) Φ) (j : Nat → Value) : OutK E 0 0 (q138 C n i x e f j) Φ :=
 outK_seg hE (R0_ok hE) [.run 3, (.cond true), .run 4, (.ops [(1, (.d (.ld (.v (.int .i64 (x)))))), (0, (.d (.ix (i))))] []), .run 1, (.ops [(2, (.c0 (iI (e))))] []), .run 2, (.cond false), .run 2, (.ops [(0, (.rn (iI (Int.ofNat (i + 1)))))] []), .run 1] [1, 8, 9, 10] (fun j => by kernel_rfl) (aP h0 <| aP h1 <| aP h2 <| aP h3 <| aP h4 <| aN <| aP h6 <| aP h7 <| aZ)
  ho
def p138e_end (_C : List DT) (_n _i : Nat) (_x e _f : Int) (j : Nat → Value) : St := ⟨[], [(.code .ret), (.inBlock 1), (.code (atC [1, 0, 1, 0, 0, 1, 1, 1] (bodyOf Tryz.f138))), (.inLoop (atC [1, 0, 1, 0, 0] (bodyOf Tryz.f138))), (.inBlock 0), (.code (atC [1, 1] (bodyOf Tryz.f138)))], mkT j [(4, (iI (e)))] 21 0⟩
theorem p138e (hE : EnvOk E) (C : List DT) (n i : Nat) (x e f : Int) (h0 : (decide (Int.ofNat i < Int.ofNat n) : Bool) = true) (h1 : (0 : Int) ≤ Int.ofNat i ∧ Int.ofNat i < (↑n : Int)) (h2 : ((Int.ofNat i).toNat * nat_lit 1 : Nat) = i) (h3 : (getL C i : Option DT) = (.some (.v (.int .i64 (x))))) (h4 : COut E 0 [] 158 [(iI (x))] (iI (e)) []) (h6 : (e != (0 : Int) : Bool) = true) {Φ : Res → Prop} (ho : ∀ j, OutK E 0 0 (p138e_end C n i x e f j) Φ) (j : Nat → Value) : OutK E 0 0 (q138 C n i x e f j) Φ :=
 outK_seg hE (R0_ok hE) [.run 3, (.cond true), .run 4, (.ops [(1, (.d (.ld (.v (.int .i64 (x)))))), (0, (.d (.ix (i))))] []), .run 1, (.ops [(2, (.c0 (iI (e))))] []), .run 2, (.cond true), .run 2] [4] (fun j => by kernel_rfl) (aP h0 <| aP h1 <| aP h2 <| aP h3 <| aP h4 <| aN <| aP h6 <| aZ)
  ho
def p138x_end (_C : List DT) (_n _i : Nat) (_x _e _f : Int) (j : Nat → Value) : St := ⟨[], [(.code .ret)], mkT j [(4, (iI 0))] 21 0⟩
theorem p138x (hE : EnvOk E) (C : List DT) (n i : Nat) (x e f : Int) (h0 : (decide (Int.ofNat i < Int.ofNat n) : Bool) = false) {Φ : Res → Prop} (ho : ∀ j, OutK E 0 0 (p138x_end C n i x e f j) Φ) (j : Nat → Value) : OutK E 0 0 (q138 C n i x e f j) Φ :=
 outK_seg hE (R0_ok hE) [.run 3, (.cond false), .run 3] [4] (fun j => by kernel_rfl) (aP h0 <| aZ)
  ho
def p42s_end (C : List DT) (n i m _N _N1 _N2 _N3 N4 : Nat) (lv _e _f _g _s s2 _x _a0 _a1 _a2 _a3 : Int) (_D _D1 _D2 _D3 D4 : List AC) (_b0 _b1 _b2 _b3 : Nat) (j : Nat → Value) : St := ⟨[(.some ⟨(D4), (N4), 23, false, .cells⟩)], [(.code (atC [1, 1, 1, 1, 0, 1, 0, 0] (bodyOf Tryz.f42))), (.inLoop (atC [1, 1, 1, 1, 0, 1, 0, 0] (bodyOf Tryz.f42))), (.inBlock 0), (.code (atC [1, 1, 1, 1, 1] (bodyOf Tryz.f42)))], mkT j [(0, (iI (lv))), (7, (.e (.one (.slc 0 0 (m + 4) 1 (m + 4) false)))), (8, (iI (s2))), (22, (.e (.one (.dp (.s (C) (n) 1))))), (23, (iI (Int.ofNat n))), (24, (iI (Int.ofNat (i + 1))))] 38 0⟩
theorem p42s (hE : EnvOk E) (C : List DT) (n i m N N1 N2 N3 N4 : Nat) (lv e f g s s2 x a0 a1 a2 a3 : Int) (D D1 D2 D3 D4 : List AC) (b0 b1 b2 b3 : Nat) (h0 : (decide (Int.ofNat i < Int.ofNat n) : Bool) = true) (h1 : (0 : Int) ≤ Int.ofNat i ∧ Int.ofNat i < (↑n : Int)) (h2 : ((Int.ofNat i).toNat * nat_lit 1 : Nat) = i) (h3 : (getL C i : Option DT) = (.some (.v (.int .i64 (x))))) (h4 : ((iI (wrapF IntKind.i64 (s + x))) : AV) = (iI (e))) (h5 : ((iI (e.tmod (4 : Int))) : AV) = (iI (s2))) (h6 : COut E 0 [(.some ⟨(D), (N), 23, false, .cells⟩)] 112 [(.e (.one (.slc 0 0 (m) 1 (m) false))), (iI (lv)), (iI (s2))] (.e (.one (.slc 1 0 (m + 4) 1 (m + 4) false))) [none, (.some ⟨(D4), (N4), 23, false, .cells⟩)]) (h7 : ((iI (wrapF IntKind.i64 (Int.ofNat i + (1 : Int)))) : AV) = (iI (Int.ofNat (i + 1)))) (g0 : FlatC (D4)) {Φ : Res → Prop} (ho : ∀ j, OutK E 0 0 (p42s_end C n i m N N1 N2 N3 N4 lv e f g s s2 x a0 a1 a2 a3 D D1 D2 D3 D4 b0 b1 b2 b3 j) Φ) (j : Nat → Value) : OutK E 0 0 (q42 C n i m N N1 N2 N3 N4 lv e f g s s2 x a0 a1 a2 a3 D D1 D2 D3 D4 b0 b1 b2 b3 j) Φ :=
 outK_seg hE (R0_ok hE) [.run 3, (.cond true), .run 4, (.ops [(1, (.d (.ld (.v (.int .i64 (x)))))), (0, (.d (.ix (i))))] []), .run 1, (.ops [(2, (.rn (iI (e)))), (3, (.rn (iI (s2))))] []), (.ops [(3, (.cw (.e (.one (.slc 1 0 (m + 4) 1 (m + 4) false))) [none, (.some ⟨(D4), (N4), 23, false, .cells⟩)]))] []), .run 1, (.ops [(0, (.rn (iI (Int.ofNat (i + 1)))))] []), .run 1] [0, 7, 8, 22, 23, 24] (s' := fun j => ⟨[none, (.some ⟨(D4), (N4), 23, false, .cells⟩)], [(.code (atC [1, 1, 1, 1, 0, 1, 0, 0] (bodyOf Tryz.f42))), (.inLoop (atC [1, 1, 1, 1, 0, 1, 0, 0] (bodyOf Tryz.f42))), (.inBlock 0), (.code (atC [1, 1, 1, 1, 1] (bodyOf Tryz.f42)))], mkT j [(0, (iI (lv))), (7, (.e (.one (.slc 1 0 (m + 4) 1 (m + 4) false)))), (8, (iI (s2))), (22, (.e (.one (.dp (.s (C) (n) 1))))), (23, (iI (Int.ofNat n))), (24, (iI (Int.ofNat (i + 1))))] 38 0⟩) (fun j => by kernel_rfl) (aP h0 <| aP h1 <| aP h2 <| aP h3 <| aP h4 <| aP h5 <| aP h6 <| aP h7 <| aZ)
  fun j => outK_gcF [1] [true] (h' := [(.some ⟨(D4), (N4), 23, false, .cells⟩)]) (by decide) (by kernel_rfl) (by kernel_rfl) ⟨g0, trivial⟩ (by kernel_rfl) (ho j)
def p42x_end (_C : List DT) (_n _i m N _N1 _N2 _N3 _N4 : Nat) (_lv _e _f _g _s _s2 _x _a0 _a1 _a2 _a3 : Int) (D _D1 _D2 _D3 _D4 : List AC) (_b0 _b1 _b2 _b3 : Nat) (j : Nat → Value) : St := ⟨[(.some ⟨(D), (N), 23, false, .cells⟩)], [(.code .ret)], mkT j [(4, (.e (.one (.slc 0 0 (m) 1 (m) false)))), (5, (iI 0))] 38 0⟩
theorem p42x (hE : EnvOk E) (C : List DT) (n i m N N1 N2 N3 N4 : Nat) (lv e f g s s2 x a0 a1 a2 a3 : Int) (D D1 D2 D3 D4 : List AC) (b0 b1 b2 b3 : Nat) (h0 : (decide (Int.ofNat i < Int.ofNat n) : Bool) = false) {Φ : Res → Prop} (ho : ∀ j, OutK E 0 0 (p42x_end C n i m N N1 N2 N3 N4 lv e f g s s2 x a0 a1 a2 a3 D D1 D2 D3 D4 b0 b1 b2 b3 j) Φ) (j : Nat → Value) : OutK E 0 0 (q42 C n i m N N1 N2 N3 N4 lv e f g s s2 x a0 a1 a2 a3 D D1 D2 D3 D4 b0 b1 b2 b3 j) Φ :=
 outK_seg hE (R0_ok hE) [.run 3, (.cond false), .run 3] [4, 5] (fun j => by kernel_rfl) (aP h0 <| aZ)
  ho
open Ieee
def chkPh (xs : List Int) : Int := if 256 < xs.length then 5 else firstI (xs.map (rngI 0 3))
def chkM (lv : Int) (xs : List Int) : Int := firstI [rngI 1 16384 lv, chkPh xs]
theorem K158 (hE : EnvOk E) (x : Int) : COut E 0 [] 158 [iI x] (iI (rngI 0 3 x)) [] :=
 cOut_start Tryz.func158 rfl (p158 hE [] 0 0 x _ 0 (K80 hE _ _ _) (fun j => outK_ret (ends_ret (by kernel_rfl))) fun _ => undef)
theorem l138 (hE : EnvOk E) (xs : List Int) (hm : xs.length ≤ 4000000) :
  ∀ m i, m + i = xs.length → ∀ x e j, OutK E 0 0 (q138 (iD xs) xs.length i x e 0 j) (Go.Ev.Ends E Tryz.f138 (iI (firstI ((xs.drop i).map (rngI 0 3)))) [])
 | 0, i, hk, x, e, j => by
  have e1 : xs.drop i = [] := List.drop_eq_nil_of_le (by omega)
  rw [e1]
  exact p138x hE _ _ i x e 0 (decide_eq_false (by simp only [Int.ofNat_eq_natCast]; omega)) (fun j => outK_ret (ends_ret (by kernel_rfl))) j
 | m + 1, i, hk, _, _, j => by
  have hlt : i < xs.length := by omega
  have hx : xs[i]? = some xs[i] := List.getElem?_eq_getElem hlt
  have e1 : xs.drop i = xs[i] :: xs.drop (i + 1) := List.drop_eq_getElem_cons hlt
  rw [e1]
  generalize xs[i] = x at hx e1
  have hb : (0 : Int) ≤ Int.ofNat i ∧ Int.ofNat i < (xs.length : Int) := by simp only [Int.ofNat_eq_natCast]; omega
  have hd : decide (Int.ofNat i < (xs.length : Int)) = true := decide_eq_true hb.2
  by_cases h0 : rngI 0 3 x = 0
  ·have e2 : firstI (List.map (rngI 0 3) (x :: xs.drop (i + 1))) = firstI (List.map (rngI 0 3) (xs.drop (i + 1))) := by simp [firstI, h0]
   rw [e2]
   exact p138s hE _ _ i x _ 0 hd hb (by simp) (getI hx) (K158 hE x) (by simp [h0]) (iIn i (by omega)) (l138 hE xs hm m (i + 1) (by omega) 0 0) j
  ·have e2 : firstI (List.map (rngI 0 3) (x :: xs.drop (i + 1))) = rngI 0 3 x := by simp [firstI, h0]
   rw [e2]
   exact p138e hE _ _ i x _ 0 hd hb (by simp) (getI hx) (K158 hE x) (by simp [h0]) (fun j => outK_ret (ends_ret (by kernel_rfl))) j
theorem K1380 (hE : EnvOk E) (xs : List Int) (hm : xs.length ≤ 4000000) : COut E 0 [] 138 [dI xs, .e (.one (.v (.func (.func 158) #[] #[])))] (iI (firstI (xs.map (rngI 0 3)))) [] :=
 cOut_start Tryz.func138 rfl (p138a hE _ _ 0 0 0 0 (l138 hE xs hm xs.length 0 (by omega) 0 0) fun _ => undef)
theorem K157 (hE : EnvOk E) (xs : List Int) (hm : xs.length ≤ 4000000) : COut E 0 [] 157 [dI xs, iI 256, .e (.one (.v (.func (.func 158) #[] #[])))] (iI (chkPh xs)) [] := by
 unfold chkPh
 by_cases h : 256 < xs.length
 ·rw [if_pos h]
  exact cOut_start Tryz.func157 rfl (p157a hE _ _ 0 0 0 0 (decide_eq_true (by simp only [Int.ofNat_eq_natCast]; omega)) (fun j => outK_ret (ends_ret (by kernel_rfl))) fun _ => undef)
 ·rw [if_neg h]
  exact cOut_start Tryz.func157 rfl (p157b hE _ _ 0 0 _ 0 (decide_eq_false (by simp only [Int.ofNat_eq_natCast]; omega)) (K1380 hE xs hm) (fun j => outK_ret (ends_ret (by kernel_rfl))) fun _ => undef)
theorem K111 (hE : EnvOk E) (xs : List Int) (hm : xs.length ≤ 4000000) : COut E 0 [] 111 [dI xs] (iI (chkPh xs)) [] :=
 cOut_start Tryz.func111 rfl (p111 hE _ _ 0 0 _ 0 (K157 hE xs hm) (fun j => outK_ret (ends_ret (by kernel_rfl))) fun _ => undef)
theorem K43 (hE : EnvOk E) (xs : List Int) (hm : xs.length ≤ 1000000) : COut E 0 [] 43 [dI xs] (dI xs) [] := by
 have h1 : (iC xs).all AC.isOne = true := by simp [List.all_map, DT.ac, AC.isOne]
 have hc1 : COut E 0 [] 43 [dI xs] (.e (.one (.slc 0 0 xs.length 1 xs.length (decide (xs.length = 0))))) [some ⟨iC xs, xs.length, 3, decide (xs.length = 0), .cells⟩] := by
  refine cOut_start Tryz.func43 rfl (p43 hE (iD xs) xs.length 0 0 0 0 (iC xs) (decide (xs.length = 0)) ?_ (Nat.mul_one _) (flat_iC _) (fun j => outK_ret (ends_ret (by kernel_rfl))) fun _ => undef)
  by_cases h0 : xs.length = 0
  ·exact .inl ⟨decide_eq_true h0, h0, by simp [List.eq_nil_of_length_eq_zero h0], _, _, by rw [h0]⟩
  ·exact .inr (.inl ⟨decide_eq_false h0, by omega, by simp [small]; omega, h1, _, rfl, rfl, by simp⟩)
 exact cOut_clear (cOut_freeze 0 hc1 rfl (Nat.zero_le _) (ds := iD xs) (.inr ⟨0, xs.length, 1, xs.length, _, iD xs, rfl, rfl, by rw [takeL_eq, dropL_eq, List.drop_zero, if_pos (by simp), List.take_of_length_le (by simp)]⟩)) rfl
abbrev fA (l : List Nat) : List AC := (fDT l).map DT.ac
theorem flat_fA (l : List Nat) : FlatC (fA l) := by
 intro c hc
 simp only [fA, List.map_map, List.mem_map] at hc
 obtain ⟨x, _, rfl⟩ := hc
 exact ⟨_, rfl⟩
theorem fA_app (l r : List Nat) : appL (fA l) (fA r) = fA (l ++ r) := by rw [appL_eq]; simp
def reQ (q : Nat) : Int := match q % 4 with | 0 => 1 | 2 => -1 | _ => 0
def sy (lv : Int) (k : Nat) : List Nat := [smpW (lv * reQ k), smpW (lv * reQ (k + 1)), smpW (lv * reQ (k + 2)), smpW (lv * reQ (k + 3))]
theorem sm4 {m : Nat} (h : m ≤ 100000) : small (m + 1) 1 4 = true := by simp [small]; omega
theorem K112n0 (hE : EnvOk E) {lv : Int} (hl : lv.natAbs ≤ 16384) : COut E 0 [] 112 [.e (.one (.v (.slice none 0 0))), iI lv, iI 0] (.e (.one (.slc 0 0 4 1 4 false))) [some ⟨fA (sy lv 0), 4, 23, false, .cells⟩] :=
 cOut_start Tryz.func112 rfl (p112n0 hE lv (lv * (1)) (lv * (0)) (lv * (-1)) (lv * (0)) (smpW (lv * (1))) (smpW (lv * (0))) (smpW (lv * (-1))) (smpW (lv * (0))) [] [] [] [] [] 0 0 0 0 0 0 (iIe (wrap_id (by omega) (by omega))) (k101 hE (by omega)) (iIe (wrap_id (by omega) (by omega))) (k101 hE (by omega)) (iIe (wrap_id (by omega) (by omega))) (k101 hE (by omega)) (iIe (wrap_id (by omega) (by omega))) (k101 hE (by omega)) (fun j => outK_ret (ends_ret (by kernel_rfl))) fun _ => undef)
theorem K112i0 (hE : EnvOk E) {lv : Int} (hl : lv.natAbs ≤ 16384) (acc : List Nat) (n : Nat) (hn : acc.length = n) (hm : n ≤ 50000) : COut E 0 [some ⟨fA acc, n, 23, false, .cells⟩] 112 [.e (.one (.slc 0 0 n 1 n false)), iI lv, iI 0] (.e (.one (.slc 1 0 (n + 4) 1 (n + 4) false))) [none, some ⟨fA (acc ++ sy lv 0), n + 4, 23, false, .cells⟩] := by
 have e : acc ++ sy lv 0 = ((((acc ++ [smpW (lv * (1))]) ++ [smpW (lv * (0))]) ++ [smpW (lv * (-1))]) ++ [smpW (lv * (0))]) := by simp [sy, reQ]
 rw [e]
 exact cOut_start Tryz.func112 rfl (p112i0 hE lv (lv * (1)) (lv * (0)) (lv * (-1)) (lv * (0)) (smpW (lv * (1))) (smpW (lv * (0))) (smpW (lv * (-1))) (smpW (lv * (0))) (fA acc) (fA (acc ++ [smpW (lv * (1))])) (fA ((acc ++ [smpW (lv * (1))]) ++ [smpW (lv * (0))])) (fA (((acc ++ [smpW (lv * (1))]) ++ [smpW (lv * (0))]) ++ [smpW (lv * (-1))])) (fA ((((acc ++ [smpW (lv * (1))]) ++ [smpW (lv * (0))]) ++ [smpW (lv * (-1))]) ++ [smpW (lv * (0))])) n n (n + 1) (n + 2) (n + 3) (n + 4) (iIe (wrap_id (by omega) (by omega))) (k101 hE (by omega)) (by omega) (sm4 (by omega)) (Nat.mul_one _).symm (fA_app _ [_]) (Nat.mul_one _) (iIe (wrap_id (by omega) (by omega))) (k101 hE (by omega)) (by omega) (sm4 (by omega)) (Nat.mul_one _).symm (fA_app _ [_]) rfl (Nat.mul_one _) (iIe (wrap_id (by omega) (by omega))) (k101 hE (by omega)) (by omega) (sm4 (by omega)) (Nat.mul_one _).symm (fA_app _ [_]) rfl (Nat.mul_one _) (iIe (wrap_id (by omega) (by omega))) (k101 hE (by omega)) (by omega) (sm4 (by omega)) (Nat.mul_one _).symm (fA_app _ [_]) rfl (Nat.mul_one _) (flat_fA _) (fun j => outK_ret (ends_ret (by kernel_rfl))) fun _ => undef)
theorem K112i1 (hE : EnvOk E) {lv : Int} (hl : lv.natAbs ≤ 16384) (acc : List Nat) (n : Nat) (hn : acc.length = n) (hm : n ≤ 50000) : COut E 0 [some ⟨fA acc, n, 23, false, .cells⟩] 112 [.e (.one (.slc 0 0 n 1 n false)), iI lv, iI 1] (.e (.one (.slc 1 0 (n + 4) 1 (n + 4) false))) [none, some ⟨fA (acc ++ sy lv 1), n + 4, 23, false, .cells⟩] := by
 have e : acc ++ sy lv 1 = ((((acc ++ [smpW (lv * (0))]) ++ [smpW (lv * (-1))]) ++ [smpW (lv * (0))]) ++ [smpW (lv * (1))]) := by simp [sy, reQ]
 rw [e]
 exact cOut_start Tryz.func112 rfl (p112i1 hE lv (lv * (0)) (lv * (-1)) (lv * (0)) (lv * (1)) (smpW (lv * (0))) (smpW (lv * (-1))) (smpW (lv * (0))) (smpW (lv * (1))) (fA acc) (fA (acc ++ [smpW (lv * (0))])) (fA ((acc ++ [smpW (lv * (0))]) ++ [smpW (lv * (-1))])) (fA (((acc ++ [smpW (lv * (0))]) ++ [smpW (lv * (-1))]) ++ [smpW (lv * (0))])) (fA ((((acc ++ [smpW (lv * (0))]) ++ [smpW (lv * (-1))]) ++ [smpW (lv * (0))]) ++ [smpW (lv * (1))])) n n (n + 1) (n + 2) (n + 3) (n + 4) (iIe (wrap_id (by omega) (by omega))) (k101 hE (by omega)) (by omega) (sm4 (by omega)) (Nat.mul_one _).symm (fA_app _ [_]) (Nat.mul_one _) (iIe (wrap_id (by omega) (by omega))) (k101 hE (by omega)) (by omega) (sm4 (by omega)) (Nat.mul_one _).symm (fA_app _ [_]) rfl (Nat.mul_one _) (iIe (wrap_id (by omega) (by omega))) (k101 hE (by omega)) (by omega) (sm4 (by omega)) (Nat.mul_one _).symm (fA_app _ [_]) rfl (Nat.mul_one _) (iIe (wrap_id (by omega) (by omega))) (k101 hE (by omega)) (by omega) (sm4 (by omega)) (Nat.mul_one _).symm (fA_app _ [_]) rfl (Nat.mul_one _) (flat_fA _) (fun j => outK_ret (ends_ret (by kernel_rfl))) fun _ => undef)
theorem K112i2 (hE : EnvOk E) {lv : Int} (hl : lv.natAbs ≤ 16384) (acc : List Nat) (n : Nat) (hn : acc.length = n) (hm : n ≤ 50000) : COut E 0 [some ⟨fA acc, n, 23, false, .cells⟩] 112 [.e (.one (.slc 0 0 n 1 n false)), iI lv, iI 2] (.e (.one (.slc 1 0 (n + 4) 1 (n + 4) false))) [none, some ⟨fA (acc ++ sy lv 2), n + 4, 23, false, .cells⟩] := by
 have e : acc ++ sy lv 2 = ((((acc ++ [smpW (lv * (-1))]) ++ [smpW (lv * (0))]) ++ [smpW (lv * (1))]) ++ [smpW (lv * (0))]) := by simp [sy, reQ]
 rw [e]
 exact cOut_start Tryz.func112 rfl (p112i2 hE lv (lv * (-1)) (lv * (0)) (lv * (1)) (lv * (0)) (smpW (lv * (-1))) (smpW (lv * (0))) (smpW (lv * (1))) (smpW (lv * (0))) (fA acc) (fA (acc ++ [smpW (lv * (-1))])) (fA ((acc ++ [smpW (lv * (-1))]) ++ [smpW (lv * (0))])) (fA (((acc ++ [smpW (lv * (-1))]) ++ [smpW (lv * (0))]) ++ [smpW (lv * (1))])) (fA ((((acc ++ [smpW (lv * (-1))]) ++ [smpW (lv * (0))]) ++ [smpW (lv * (1))]) ++ [smpW (lv * (0))])) n n (n + 1) (n + 2) (n + 3) (n + 4) (iIe (wrap_id (by omega) (by omega))) (k101 hE (by omega)) (by omega) (sm4 (by omega)) (Nat.mul_one _).symm (fA_app _ [_]) (Nat.mul_one _) (iIe (wrap_id (by omega) (by omega))) (k101 hE (by omega)) (by omega) (sm4 (by omega)) (Nat.mul_one _).symm (fA_app _ [_]) rfl (Nat.mul_one _) (iIe (wrap_id (by omega) (by omega))) (k101 hE (by omega)) (by omega) (sm4 (by omega)) (Nat.mul_one _).symm (fA_app _ [_]) rfl (Nat.mul_one _) (iIe (wrap_id (by omega) (by omega))) (k101 hE (by omega)) (by omega) (sm4 (by omega)) (Nat.mul_one _).symm (fA_app _ [_]) rfl (Nat.mul_one _) (flat_fA _) (fun j => outK_ret (ends_ret (by kernel_rfl))) fun _ => undef)
theorem K112i3 (hE : EnvOk E) {lv : Int} (hl : lv.natAbs ≤ 16384) (acc : List Nat) (n : Nat) (hn : acc.length = n) (hm : n ≤ 50000) : COut E 0 [some ⟨fA acc, n, 23, false, .cells⟩] 112 [.e (.one (.slc 0 0 n 1 n false)), iI lv, iI 3] (.e (.one (.slc 1 0 (n + 4) 1 (n + 4) false))) [none, some ⟨fA (acc ++ sy lv 3), n + 4, 23, false, .cells⟩] := by
 have e : acc ++ sy lv 3 = ((((acc ++ [smpW (lv * (0))]) ++ [smpW (lv * (1))]) ++ [smpW (lv * (0))]) ++ [smpW (lv * (-1))]) := by simp [sy, reQ]
 rw [e]
 exact cOut_start Tryz.func112 rfl (p112i3 hE lv (lv * (0)) (lv * (1)) (lv * (0)) (lv * (-1)) (smpW (lv * (0))) (smpW (lv * (1))) (smpW (lv * (0))) (smpW (lv * (-1))) (fA acc) (fA (acc ++ [smpW (lv * (0))])) (fA ((acc ++ [smpW (lv * (0))]) ++ [smpW (lv * (1))])) (fA (((acc ++ [smpW (lv * (0))]) ++ [smpW (lv * (1))]) ++ [smpW (lv * (0))])) (fA ((((acc ++ [smpW (lv * (0))]) ++ [smpW (lv * (1))]) ++ [smpW (lv * (0))]) ++ [smpW (lv * (-1))])) n n (n + 1) (n + 2) (n + 3) (n + 4) (iIe (wrap_id (by omega) (by omega))) (k101 hE (by omega)) (by omega) (sm4 (by omega)) (Nat.mul_one _).symm (fA_app _ [_]) (Nat.mul_one _) (iIe (wrap_id (by omega) (by omega))) (k101 hE (by omega)) (by omega) (sm4 (by omega)) (Nat.mul_one _).symm (fA_app _ [_]) rfl (Nat.mul_one _) (iIe (wrap_id (by omega) (by omega))) (k101 hE (by omega)) (by omega) (sm4 (by omega)) (Nat.mul_one _).symm (fA_app _ [_]) rfl (Nat.mul_one _) (iIe (wrap_id (by omega) (by omega))) (k101 hE (by omega)) (by omega) (sm4 (by omega)) (Nat.mul_one _).symm (fA_app _ [_]) rfl (Nat.mul_one _) (flat_fA _) (fun j => outK_ret (ends_ret (by kernel_rfl))) fun _ => undef)
theorem K112 (hE : EnvOk E) {lv : Int} (hl : lv.natAbs ≤ 16384) (s : Nat) (hs : s < 4) (acc : List Nat) (n : Nat) (hn : acc.length = n) (hm : n ≤ 50000) : COut E 0 [some ⟨fA acc, n, 23, false, .cells⟩] 112 [.e (.one (.slc 0 0 n 1 n false)), iI lv, iI (Int.ofNat s)] (.e (.one (.slc 1 0 (n + 4) 1 (n + 4) false))) [none, some ⟨fA (acc ++ sy lv s), n + 4, 23, false, .cells⟩] :=
 match s, hs with
 | 0, _ => K112i0 hE hl acc n hn hm
 | 1, _ => K112i1 hE hl acc n hn hm
 | 2, _ => K112i2 hE hl acc n hn hm
 | 3, _ => K112i3 hE hl acc n hn hm
def modL (lv : Int) : Nat → List Int → List Nat
 | _, [] => []
 | s, x :: r => sy lv ((s + x.toNat) % 4) ++ modL lv ((s + x.toNat) % 4) r
def modA (lv : Int) (xs : List Int) : List Nat := sy lv 0 ++ modL lv 0 xs
theorem modL_len (lv : Int) : ∀ (xs : List Int) (s : Nat), (modL lv s xs).length = 4 * xs.length
 | [], _ => rfl
 | x :: r, s => by simp only [modL, List.length_append, modL_len lv r, List.length_cons, sy, List.length_nil]; omega
theorem rem4 {s : Nat} {x : Int} (h0 : 0 ≤ x) : (iI ((Int.ofNat s + x).tmod (4 : Int)) : AV) = iI (Int.ofNat ((s + x.toNat) % 4)) := by
 have e : Int.ofNat s + x = ((s + x.toNat : Nat) : Int) := by simp only [Int.ofNat_eq_natCast]; omega
 rw [e, Int.tmod_eq_emod_of_nonneg (by omega)]
 rfl
theorem l42 (hE : EnvOk E) {lv : Int} (hl : lv.natAbs ≤ 16384) (xs : List Int) (hm : xs.length ≤ 256) (hp : ∀ x ∈ xs, 0 ≤ x ∧ x ≤ 3) :
  ∀ (r : List Int) (i : Nat) (acc : List Nat) (n s : Nat), xs.drop i = r → acc.length = n → n = 4 * i + 4 → i + r.length = xs.length → s < 4 → ∀ j, OutK E 0 0 (q42 (iD xs) xs.length i n n 0 0 0 0 lv 0 0 0 (Int.ofNat s) 0 0 0 0 0 0 (fA acc) [] [] [] [] 0 0 0 0 j)
   (Go.Ev.Ends E Tryz.f42 (.tup [.one (.slc 0 0 (n + 4 * r.length) 1 (n + 4 * r.length) false), .one (.v (.int .i64 0))]) [some ⟨fA (acc ++ modL lv s r), n + 4 * r.length, 23, false, .cells⟩])
 | [], i, acc, n, s, hr, hn, hni, hi, hs, j => by
  simp only [modL, List.append_nil]
  exact p42x hE (iD xs) xs.length i n n 0 0 0 0 lv 0 0 0 (Int.ofNat s) 0 0 0 0 0 0 (fA acc) [] [] [] [] 0 0 0 0 (decide_eq_false (by simp only [Int.ofNat_eq_natCast, List.length_nil] at *; omega)) (fun j => outK_ret (ends_ret (by kernel_rfl))) j
 | x :: r, i, acc, n, s, hr, hn, hni, hi, hs, j => by
  have hlt : i < xs.length := by simp at hi; omega
  have hx : xs[i]? = some x := by rw [← List.head?_drop, hr]; rfl
  have hr2 : xs.drop (i + 1) = r := by rw [← List.tail_drop, hr]; rfl
  have hxb := hp x (List.mem_of_getElem? hx)
  have hb : (0 : Int) ≤ Int.ofNat i ∧ Int.ofNat i < (xs.length : Int) := by simp only [Int.ofNat_eq_natCast]; omega
  have e : n + 4 * (x :: r).length = n + 4 + 4 * r.length := by simp only [List.length_cons]; omega
  have e2 : acc ++ modL lv s (x :: r) = (acc ++ sy lv ((s + x.toNat) % 4)) ++ modL lv ((s + x.toNat) % 4) r := by simp [modL]
  rw [e, e2]
  exact p42s hE (iD xs) xs.length i n n 0 0 0 (n + 4) lv (Int.ofNat s + x) 0 0 (Int.ofNat s) (Int.ofNat ((s + x.toNat) % 4)) x 0 0 0 0 (fA acc) [] [] [] (fA (acc ++ sy lv ((s + x.toNat) % 4))) 0 0 0 0 (decide_eq_true hb.2) hb (Nat.mul_one _) (getI hx) (iIe (wrap_id (by simp only [Int.ofNat_eq_natCast]; omega) (by simp only [Int.ofNat_eq_natCast]; omega))) (rem4 hxb.1) (K112 hE hl _ (Nat.mod_lt _ (by decide)) acc n hn (by omega)) (iIn i (by omega)) (flat_fA _) (l42 hE hl xs hm hp r (i + 1) (acc ++ sy lv ((s + x.toNat) % 4)) (n + 4) ((s + x.toNat) % 4) hr2 (by simp [sy, hn]) (by omega) (by simp at hi; omega) (Nat.mod_lt _ (by decide))) j
theorem chkPh_zero {xs : List Int} (h : chkPh xs = 0) : xs.length ≤ 256 ∧ ∀ x ∈ xs, 0 ≤ x ∧ x ≤ 3 := by
 unfold chkPh at h
 by_cases h1 : 256 < xs.length
 ·rw [if_pos h1] at h; omega
 ·rw [if_neg h1] at h
  refine ⟨by omega, ?_⟩
  clear h1
  induction xs with
  | nil => intro b hb; simp at hb
  | cons a l ih =>
   intro b hb
   simp only [List.map_cons, firstI] at h
   by_cases h0 : rngI 0 3 a = 0
   ·rw [if_pos h0] at h
    rcases List.mem_cons.1 hb with rfl | hb
    ·unfold rngI at h0
     by_cases c : b < 0 ∨ 3 < b
     ·rw [if_pos c] at h0; omega
     ·omega
    ·exact ih h b hb
   ·rw [if_neg h0] at h
    exact (h0 h).elim
theorem chkM_zero {lv : Int} {xs : List Int} (h : chkM lv xs = 0) : (1 ≤ lv ∧ lv ≤ 16384) ∧ xs.length ≤ 256 ∧ ∀ x ∈ xs, 0 ≤ x ∧ x ≤ 3 := by
 unfold chkM at h
 rw [firstI2] at h
 by_cases h0 : rngI 1 16384 lv = 0
 ·rw [if_pos h0] at h
  refine ⟨?_, chkPh_zero h⟩
  unfold rngI at h0
  by_cases c : lv < 1 ∨ 16384 < lv
  ·rw [if_pos c] at h0; omega
  ·omega
 ·rw [if_neg h0] at h
  exact (h0 h).elim
theorem K42 (hE : EnvOk E) (lv : Int) (xs : List Int) (h : chkM lv xs = 0) : COut E 0 [] 42 [iI lv, dI xs] (.tup [.one (dF (modA lv xs)).ac, .one (.v (.int .i64 0))]) [] := by
 obtain ⟨hl, hm, hp⟩ := chkM_zero h
 have k79 := k102 hE [rngI 1 16384 lv, chkPh xs] rfl (by simp) get2 (N := 2) (ty := 26) (o := 0) (cap := 2) (fl := true) (ex := true)
 rw [show firstI [rngI 1 16384 lv, chkPh xs] = 0 from h] at k79
 have hc1 : COut E 0 [] 42 [iI lv, dI xs] (.tup [.one (.slc 0 0 (4 + 4 * xs.length) 1 (4 + 4 * xs.length) false), .one (.v (.int .i64 0))]) [some ⟨fA (modA lv xs), 4 + 4 * xs.length, 23, false, .cells⟩] :=
  cOut_start Tryz.func42 rfl (p42a hE (iD xs) xs.length 0 0 0 0 0 0 0 lv _ _ 0 0 0 0 0 0 0 0 [] [] [] [] [] (smpW (lv * (1))) (smpW (lv * (0))) (smpW (lv * (-1))) (smpW (lv * (0))) (K80 hE _ _ _) (K111 hE xs (by omega)) k79 rfl (K112n0 hE (by omega)) trivial ⟨flat_fA (sy lv 0), trivial⟩ (l42 hE (by omega) xs hm hp xs 0 (sy lv 0) 4 0 (List.drop_zero) rfl rfl (by omega) (by decide)) fun _ => undef)
 have hlen : (modA lv xs).length = 4 + 4 * xs.length := by simp only [modA, List.length_append, modL_len, sy, List.length_cons, List.length_nil]
 rw [show (dF (modA lv xs)).ac = .dp (.s (fDT (modA lv xs)) (4 + 4 * xs.length) 1) by rw [← hlen]; rfl]
 exact cOut_clear (cOut_freeze 0 hc1 rfl (Nat.zero_le _) (ds := fDT (modA lv xs)) ⟨.inr ⟨0, 4 + 4 * xs.length, 1, 4 + 4 * xs.length, false, fDT (modA lv xs), rfl, rfl, by rw [takeL_eq, dropL_eq, List.drop_zero, if_pos (by simp [hlen]), List.take_of_length_le (by simp [hlen])]⟩, .inl rfl, trivial⟩) rfl
end
end Go.Proofs.YtbmcfhkedgpldaaGreatDoor
end
