/-
  Part of the proof: SeBn, SeBg, SeBh, SeBi, SeCa.
-/
import Derived.Test.YtaccakbjankeeaaGreatDoorSeZG

/-! SeBn -/
section
open Go Go.Ev
namespace Go.Proofs.YtaccakbjankeeaaGreatDoor
noncomputable section
set_option maxRecDepth 100000
set_option maxHeartbeats 20000000
def x91n (C : List DT) (n k m : Nat) (_j : JN) : St := startK Tryz.f91 [bK [.dp (.s C n 1)] 1 22] [(.e (.one (.v (.slice none 0 0)))), (iN m), (iN k)]
def x91o (C : List DT) (n k q m : Nat) (D : List AC) (_j : JN) : St := startK Tryz.f91 [bK [.dp (.s C n 1)] 1 22, some ⟨D, q, 4, false, .cells⟩] [(.e (.one (.slc 1 0 q 1 q false))), (iN m), (iN k)]
def x90 (C R : List DT) (n m : Nat) (_j : JN) : St := startK Tryz.f90 [] [(dQ C n), (dQ R m)]
def x89 (C R : List DT) (n m : Nat) (_j : JN) : St := startK Tryz.f89 [bK [.dp (.s C n 1)] 1 22] [(dQ R m), (.e (.one (.ptr 0 0)))]
def xz88 (C _R T : List DT) (n _i _k _q _m t : Nat) (_x _z _a _g _h _e : Int) (_b : Bool) (_D _Y : List AC) (_j : JN) : St := startK Tryz.f88 [bK [.dp (.s C n 1)] 1 22] [(dQ T t), iI 1024, (.e (.one (.clo 89 [] [.one (.ptr 0 0)])))]
def xz134 (C _R T : List DT) (n _i _k _q _m t : Nat) (_x _z _a _g _h _e : Int) (_b : Bool) (_D _Y : List AC) (_j : JN) : St := startK Tryz.f134 [bK [.dp (.s C n 1)] 1 22] [(dQ T t), (.e (.one (.clo 89 [] [.one (.ptr 0 0)])))]
def y91n (C : List DT) (n i k m : Nat) (j : JN) : St := ⟨[(bK [(.dp (.s C n 1))] 1 22)], [(.code (aF [1, 0, 1, 0, 0] Tryz.f91)), (.inLoop (aF [1, 0, 1, 0, 0] Tryz.f91)), (.inBlock 0), (.code (aF [1, 1] Tryz.f91))], mkT j [(0, (.e (.one (.v (.slice none 0 0))))), (1, (iN m)), (2, (iN k)), (8, (iN k)), (9, (iN i))] 25 0⟩
def y91o (C : List DT) (n i k q m : Nat) (D : List AC) (j : JN) : St := ⟨[(bK [(.dp (.s C n 1))] 1 22), (.some ⟨(D), q, 4, false, .cells⟩)], [(.code (aF [1, 0, 1, 0, 0] Tryz.f91)), (.inLoop (aF [1, 0, 1, 0, 0] Tryz.f91)), (.inBlock 0), (.code (aF [1, 1] Tryz.f91))], mkT j [(0, (.e (.one (.slc 1 0 q 1 q false)))), (1, (iN m)), (2, (iN k)), (8, (iN k)), (9, (iN i))] 25 0⟩
def y90 (C R : List DT) (n i m : Nat) (j : JN) : St := ⟨[], [(.code (aF [1, 1, 0, 1, 0, 0] Tryz.f90)), (.inLoop (aF [1, 1, 0, 1, 0, 0] Tryz.f90)), (.inBlock 0), (.code (aF [1, 1, 1] Tryz.f90))], mkT j [(0, (dQ C n)), (13, (dQ R m)), (14, (iN m)), (15, (iN i))] 32 0⟩
def y91g (C : List DT) (n i k q m : Nat) (D : List AC) (j : JN) : St := ⟨[bK [.dp (.s C n 1)] 1 22, some ⟨D, q, 4, false, .cells⟩], [(.code (aF [1, 0, 1, 0, 0] Tryz.f91)), (.inLoop (aF [1, 0, 1, 0, 0] Tryz.f91)), (.inBlock 0), (.code (aF [1, 1] Tryz.f91))], mkT j [(0, (.e (.one (.slc 1 0 q 1 q false)))), (1, (iN m)), (2, (iN k)), (8, (iN k)), (9, (iN i))] 25 0⟩
def y91h (C : List DT) (n i k q m : Nat) (D : List AC) (j : JN) : St := ⟨[bK [.dp (.s C n 1)] 1 22, none, some ⟨D, q, 4, false, .cells⟩], [(.code (aF [1, 0, 1, 0, 0] Tryz.f91)), (.inLoop (aF [1, 0, 1, 0, 0] Tryz.f91)), (.inBlock 0), (.code (aF [1, 1] Tryz.f91))], mkT j [(0, (.e (.one (.slc 2 0 q 1 q false)))), (1, (iN m)), (2, (iN k)), (8, (iN k)), (9, (iN i))] 25 0⟩
def yz134 (C T : List DT) (n i t : Nat) (j : JN) : St := ⟨[(bK [(.dp (.s C n 1))] 1 22)], [(.code (aF [1, 0, 1, 0, 0] Tryz.f134)), (.inLoop (aF [1, 0, 1, 0, 0] Tryz.f134)), (.inBlock 0), (.code (aF [1, 1] Tryz.f134))], mkT j [(1, (.e (.one (.clo 89 [] [(.one (.ptr 0 0))])))), (8, (dQ T t)), (9, (iN t)), (10, (iN i))] 21 0⟩
def p91an_end (C : List DT) (n k m : Nat) (j : JN) : St := ⟨[(bK [(.dp (.s C n 1))] 1 22)], [(.code (aF [1, 0, 1, 0, 0] Tryz.f91)), (.inLoop (aF [1, 0, 1, 0, 0] Tryz.f91)), (.inBlock 0), (.code (aF [1, 1] Tryz.f91))], mkT j [(0, (.e (.one (.v (.slice none 0 0))))), (1, (iN m)), (2, (iN k)), (8, (iN k)), (9, (iI 0))] 25 0⟩
theorem p91an (hE : EnvOk E) (C : List DT) (n k m : Nat) {Φ : Res → Prop} (ho : ∀ j, OutK E 0 1 (p91an_end C n k m j) Φ) (j : JN) : OutK E 0 1 (x91n C n k m j) Φ :=
 oS hE [.run 7] [0, 1, 2, 8, 9] (ps := []) trivial
  ho
def p91ao_end (C : List DT) (n k q m : Nat) (D : List AC) (j : JN) : St := ⟨[(bK [(.dp (.s C n 1))] 1 22), (.some ⟨(D), q, 4, false, .cells⟩)], [(.code (aF [1, 0, 1, 0, 0] Tryz.f91)), (.inLoop (aF [1, 0, 1, 0, 0] Tryz.f91)), (.inBlock 0), (.code (aF [1, 1] Tryz.f91))], mkT j [(0, (.e (.one (.slc 1 0 q 1 q false)))), (1, (iN m)), (2, (iN k)), (8, (iN k)), (9, (iI 0))] 25 0⟩
theorem p91ao (hE : EnvOk E) (C : List DT) (n k q m : Nat) (D : List AC) {Φ : Res → Prop} (ho : ∀ j, OutK E 0 2 (p91ao_end C n k q m D j) Φ) (j : JN) : OutK E 0 2 (x91o C n k q m D j) Φ :=
 oS hE [.run 7] [0, 1, 2, 8, 9] (ps := []) trivial
  ho
def p90n_end (j : JN) : St := ⟨[], [(.code .ret), (.code (aF [1, 1] Tryz.f90))], mkT j [(4, (iI 2))] 32 0⟩
theorem p90n (hE : EnvOk E) (C R : List DT) (n m : Nat) (h0 : ((↑m : Int) != (↑n : Int) : Bool) = true) {Φ : Res → Prop} (ho : ∀ j, OutK E 0 0 (p90n_end j) Φ) (j : JN) : OutK E 0 0 (x90 C R n m j) Φ :=
 oS hE [.run 4, (.ops [(1, (.d .len)), (3, (.d .len))] []), (.cond true), .run 2] [4] (aP h0 <| aZ)
  ho
def p90a_end (C R : List DT) (n m : Nat) (j : JN) : St := ⟨[], [(.code (aF [1, 1, 0, 1, 0, 0] Tryz.f90)), (.inLoop (aF [1, 1, 0, 1, 0, 0] Tryz.f90)), (.inBlock 0), (.code (aF [1, 1, 1] Tryz.f90))], mkT j [(0, (dQ C n)), (13, (dQ R m)), (14, (iN m)), (15, (iI 0))] 32 0⟩
theorem p90a (hE : EnvOk E) (C R : List DT) (n m : Nat) (h0 : ((↑m : Int) != (↑n : Int) : Bool) = false) {Φ : Res → Prop} (ho : ∀ j, OutK E 0 0 (p90a_end C R n m j) Φ) (j : JN) : OutK E 0 0 (x90 C R n m j) Φ :=
 oS hE [.run 4, (.ops [(1, (.d .len)), (3, (.d .len))] []), (.cond false), .run 3, (.ops [(1, (.d .len))] []), .run 2] [0, 13, 14, 15] (aP h0 <| aZ)
  ho
def p89_end (C : List DT) (n : Nat) (e : Int) (j : JN) : St := ⟨[(bK [(.dp (.s C n 1))] 1 22)], [(.code .ret)], mkT j [(3, (iI e))] 7 0⟩
theorem p89 (hE : EnvOk E) (C R : List DT) (n m : Nat) (e : Int) (h0 : COut E 0 [] 90 [(dQ C n), (dQ R m)] (iI e) []) {Φ : Res → Prop} (ho : ∀ j, OutK E 0 1 (p89_end C n e j) Φ) (j : JN) : OutK E 0 1 (x89 C R n m j) Φ :=
 oS hE [.run 3, (.ops [(2, (.c0 (iI e)))] [])] [3] (aP h0 <| aN <| aZ)
  ho
def pz88m_end (C : List DT) (n : Nat) (j : JN) : St := ⟨[(bK [(.dp (.s C n 1))] 1 22)], [(.code .ret), (.code (aF [1, 1] Tryz.f88))], mkT j [(6, (iI 5))] 14 0⟩
theorem pz88m (hE : EnvOk E) (C R T : List DT) (n i k q m t : Nat) (x z a g h e : Int) (b : Bool) (D Y : List AC) (h0 : (decide ((↑t : Int) > Int.ofNat (nat_lit 1024)) : Bool) = true) {Φ : Res → Prop} (ho : ∀ j, OutK E 0 1 (pz88m_end C n j) Φ) (j : JN) : OutK E 0 1 (xz88 C R T n i k q m t x z a g h e b D Y j) Φ :=
 oS hE [.run 4, (.ops [(1, (.d .len))] []), (.cond true), .run 2] [6] (aP h0 <| aZ)
  ho
def pz88s_end (C : List DT) (n : Nat) (e : Int) (j : JN) : St := ⟨[(bK [(.dp (.s C n 1))] 1 22)], [(.code .ret)], mkT j [(6, (iI e))] 14 0⟩
theorem pz88s (hE : EnvOk E) (C R T : List DT) (n i k q m t : Nat) (x z a g h e : Int) (b : Bool) (D Y : List AC) (h0 : (decide ((↑t : Int) > Int.ofNat (nat_lit 1024)) : Bool) = false) (h1 : COut E 0 [(bK [(.dp (.s C n 1))] 1 22)] 134 [(dQ T t), (.e (.one (.clo 89 [] [(.one (.ptr 0 0))])))] (iI e) [(bK [(.dp (.s C n 1))] 1 22)]) {Φ : Res → Prop} (ho : ∀ j, OutK E 0 1 (pz88s_end C n e j) Φ) (j : JN) : OutK E 0 1 (xz88 C R T n i k q m t x z a g h e b D Y j) Φ :=
 oS hE [.run 4, (.ops [(1, (.d .len))] []), (.cond false), .run 2, (.ops [(2, (.cw (iI e) [(bK [(.dp (.s C n 1))] 1 22)]))] [])] [6] (aP h0 <| aP h1 <| aZ)
  ho
def pz134a_end (C T : List DT) (n t : Nat) (j : JN) : St := ⟨[(bK [(.dp (.s C n 1))] 1 22)], [(.code (aF [1, 0, 1, 0, 0] Tryz.f134)), (.inLoop (aF [1, 0, 1, 0, 0] Tryz.f134)), (.inBlock 0), (.code (aF [1, 1] Tryz.f134))], mkT j [(1, (.e (.one (.clo 89 [] [(.one (.ptr 0 0))])))), (8, (dQ T t)), (9, (iN t)), (10, (iI 0))] 21 0⟩
theorem pz134a (hE : EnvOk E) (C R T : List DT) (n i k q m t : Nat) (x z a g h e : Int) (b : Bool) (D Y : List AC) {Φ : Res → Prop} (ho : ∀ j, OutK E 0 1 (pz134a_end C T n t j) Φ) (j : JN) : OutK E 0 1 (xz134 C R T n i k q m t x z a g h e b D Y j) Φ :=
 oS hE [.run 4, (.ops [(1, (.d .len))] []), .run 2] [1, 8, 9, 10] (ps := []) trivial
  ho
def p91sn_end (C : List DT) (n i k m : Nat) (x : Int) (j : JN) : St := ⟨[(bK [(.dp (.s C n 1))] 1 22), (.some ⟨[(.v (.bool (x.tmod (2 : Int) == (1 : Int))))], 1, 4, false, .cells⟩)], [(.code (aF [1, 0, 1, 0, 0] Tryz.f91)), (.inLoop (aF [1, 0, 1, 0, 0] Tryz.f91)), (.inBlock 0), (.code (aF [1, 1] Tryz.f91))], mkT j [(0, (.e (.one (.slc 1 0 1 1 1 false)))), (1, (iN m)), (2, (iN k)), (8, (iN k)), (9, (iN (i + 1)))] 25 0⟩
theorem p91sn (hE : EnvOk E) (C : List DT) (n i k m : Nat) (x g h : Int) (h0 : (decide (Int.ofNat i < Int.ofNat k) : Bool) = true) (h1 : ((iI (wrapF IntKind.i64 (Int.ofNat k - (1 : Int)))) : AV) = (iI g)) (h2 : ((iI (wrapF IntKind.i64 (g - Int.ofNat i))) : AV) = (iI h)) (h3 : BinOk E.P BinOp.shr (3 : Nat) (Operand.tmp (13 : Nat)) (Operand.tmp (17 : Nat)) (AC.v (Value.int IntKind.i64 (Int.ofNat m))) (AC.v (Value.int IntKind.i64 h)) (AC.v (Value.int IntKind.i64 x))) (h4 : ((iI (wrapF IntKind.i64 (Int.ofNat i + (1 : Int)))) : AV) = (iN (i + 1))) {Φ : Res → Prop} (ho : ∀ j, OutK E 0 1 (p91sn_end C n i k m x j) Φ) (j : JN) : OutK E 0 1 (y91n C n i k m j) Φ :=
 oS hE [.run 3, (.cond true), .run 5, (.ops [(3, (.rn (iI g))), (5, (.rn (iI h))), (6, (.fb (.v (.int .i64 x))))] []), .run 1, (.ops [(0, (.rn (iN (i + 1))))] []), .run 1] [0, 1, 2, 8, 9] (s' := fun j => ⟨[(bK [(.dp (.s C n 1))] 1 22), (bK [(.v (.bool (x.tmod (2 : Int) == (1 : Int))))] 1 4), (.some ⟨[(.v (.bool (x.tmod (2 : Int) == (1 : Int))))], 1, 4, false, .cells⟩)], [(.code (aF [1, 0, 1, 0, 0] Tryz.f91)), (.inLoop (aF [1, 0, 1, 0, 0] Tryz.f91)), (.inBlock 0), (.code (aF [1, 1] Tryz.f91))], mkT j [(0, (.e (.one (.slc 2 0 1 1 1 false)))), (1, (iN m)), (2, (iN k)), (8, (iN k)), (9, (iN (i + 1)))] 25 0⟩) (aQ h0 h1 h2 h3 <| aP h4 <| aZ)
  fun j => gZ [0, 2] (ho j)
def p91xn_end (C : List DT) (n : Nat) (j : JN) : St := ⟨[(bK [(.dp (.s C n 1))] 1 22)], [(.code .ret)], mkT j [(6, (.e (.one (.v (.slice none 0 0)))))] 25 0⟩
theorem p91xn (hE : EnvOk E) (C : List DT) (n i k m : Nat) (h0 : (decide (Int.ofNat i < Int.ofNat k) : Bool) = false) {Φ : Res → Prop} (ho : ∀ j, OutK E 0 1 (p91xn_end C n j) Φ) (j : JN) : OutK E 0 1 (y91n C n i k m j) Φ :=
 oS hE [.run 3, (.cond false), .run 3] [6] (aP h0 <| aZ)
  ho
def p91so_end (C : List DT) (n i k q m : Nat) (Y : List AC) (j : JN) : St := ⟨[(bK [(.dp (.s C n 1))] 1 22), none, (.some ⟨(Y), (q + 1), 4, false, .cells⟩)], [(.code (aF [1, 0, 1, 0, 0] Tryz.f91)), (.inLoop (aF [1, 0, 1, 0, 0] Tryz.f91)), (.inBlock 0), (.code (aF [1, 1] Tryz.f91))], mkT j [(0, (.e (.one (.slc 2 0 (q + 1) 1 (q + 1) false)))), (1, (iN m)), (2, (iN k)), (8, (iN k)), (9, (iN (i + 1)))] 25 0⟩
theorem p91so (hE : EnvOk E) (C : List DT) (n i k q m : Nat) (x g h : Int) (D Y : List AC) (h0 : (decide (Int.ofNat i < Int.ofNat k) : Bool) = true) (h1 : ((iI (wrapF IntKind.i64 (Int.ofNat k - (1 : Int)))) : AV) = (iI g)) (h2 : ((iI (wrapF IntKind.i64 (g - Int.ofNat i))) : AV) = (iI h)) (h3 : BinOk E.P BinOp.shr (3 : Nat) (Operand.tmp (13 : Nat)) (Operand.tmp (17 : Nat)) (AC.v (Value.int IntKind.i64 (Int.ofNat m))) (AC.v (Value.int IntKind.i64 h)) (AC.v (Value.int IntKind.i64 x))) (h4 : ¬q + 1 ≤ q) (h5 : (small (q + 1) (1 : Nat) (1 : Nat) : Bool) = true) (h6 : (q : Nat) = q * nat_lit 1) (h7 : (appL D ((fun x_1 => AC.v (Value.bool (x.tmod (2 : Int) == (1 : Int))) :: x_1) []) : List AC) = Y) (h9 : ((q + 1) * nat_lit 1 : Nat) = q + 1) (h10 : ((iI (wrapF IntKind.i64 (Int.ofNat i + (1 : Int)))) : AV) = (iN (i + 1))) (g0 : FlatC Y) {Φ : Res → Prop} (ho : ∀ j, OutK E 0 2 (p91so_end C n i k q m Y j) Φ) (j : JN) : OutK E 0 2 (y91o C n i k q m D j) Φ :=
 oS hE [.run 3, (.cond true), .run 5, (.ops [(3, (.rn (iI g))), (5, (.rn (iI h))), (6, (.fb (.v (.int .i64 x)))), (10, (.app (q + 1) (q + 1) Y))] []), .run 1, (.ops [(0, (.rn (iN (i + 1))))] []), .run 1] [0, 1, 2, 8, 9] (s' := fun j => ⟨[(bK [(.dp (.s C n 1))] 1 22), none, (bK [(.v (.bool (x.tmod (2 : Int) == (1 : Int))))] 1 4), (.some ⟨(Y), (q + 1), 4, false, .cells⟩)], [(.code (aF [1, 0, 1, 0, 0] Tryz.f91)), (.inLoop (aF [1, 0, 1, 0, 0] Tryz.f91)), (.inBlock 0), (.code (aF [1, 1] Tryz.f91))], mkT j [(0, (.e (.one (.slc 3 0 (q + 1) 1 (q + 1) false)))), (1, (iN m)), (2, (iN k)), (8, (iN k)), (9, (iN (i + 1)))] 25 0⟩) (aQ h0 h1 h2 h3 <| aQ h4 h5 h6 h7 <| aP (rfl : (q + 1 : Nat) = q + 1) <| aP h9 <| aP h10 <| aZ)
  fun j => outK_gcF [0, 1, 3] [false, false, true] (h' := [(bK [(.dp (.s C n 1))] 1 22), none, (.some ⟨(Y), (q + 1), 4, false, .cells⟩)]) (by decide) (by kernel_rfl) (by kernel_rfl) ⟨g0, trivial⟩ (by kernel_rfl) (ho j)
def p91xo_end (C : List DT) (n q : Nat) (D : List AC) (j : JN) : St := ⟨[(bK [(.dp (.s C n 1))] 1 22), (.some ⟨(D), q, 4, false, .cells⟩)], [(.code .ret)], mkT j [(6, (.e (.one (.slc 1 0 q 1 q false))))] 25 0⟩
theorem p91xo (hE : EnvOk E) (C : List DT) (n i k q m : Nat) (D : List AC) (h0 : (decide (Int.ofNat i < Int.ofNat k) : Bool) = false) {Φ : Res → Prop} (ho : ∀ j, OutK E 0 2 (p91xo_end C n q D j) Φ) (j : JN) : OutK E 0 2 (y91o C n i k q m D j) Φ :=
 oS hE [.run 3, (.cond false), .run 3] [6] (aP h0 <| aZ)
  ho
def p91sg_end (C : List DT) (n i k q m : Nat) (Y : List AC) (j : JN) : St := ⟨[(bK [(.dp (.s C n 1))] 1 22), (.some ⟨(Y), (q + 1), 4, false, .cells⟩)], [(.code (aF [1, 0, 1, 0, 0] Tryz.f91)), (.inLoop (aF [1, 0, 1, 0, 0] Tryz.f91)), (.inBlock 0), (.code (aF [1, 1] Tryz.f91))], mkT j [(0, (.e (.one (.slc 1 0 (q + 1) 1 (q + 1) false)))), (1, (iN m)), (2, (iN k)), (8, (iN k)), (9, (iN (i + 1)))] 25 0⟩
theorem p91sg (hE : EnvOk E) (C : List DT) (n i k q m : Nat) (x g h : Int) (D Y : List AC) (h0 : (decide (Int.ofNat i < Int.ofNat k) : Bool) = true) (h1 : ((iI (wrapF IntKind.i64 (Int.ofNat k - (1 : Int)))) : AV) = (iI g)) (h2 : ((iI (wrapF IntKind.i64 (g - Int.ofNat i))) : AV) = (iI h)) (h3 : BinOk E.P BinOp.shr (3 : Nat) (Operand.tmp (13 : Nat)) (Operand.tmp (17 : Nat)) (AC.v (Value.int IntKind.i64 (Int.ofNat m))) (AC.v (Value.int IntKind.i64 h)) (AC.v (Value.int IntKind.i64 x))) (h4 : ¬q + 1 ≤ q) (h5 : (small (q + 1) (1 : Nat) (1 : Nat) : Bool) = true) (h6 : (q : Nat) = q * nat_lit 1) (h7 : (appL D ((fun x_1 => AC.v (Value.bool (x.tmod (2 : Int) == (1 : Int))) :: x_1) []) : List AC) = Y) (h9 : ((q + 1) * nat_lit 1 : Nat) = q + 1) (h10 : ((iI (wrapF IntKind.i64 (Int.ofNat i + (1 : Int)))) : AV) = (iN (i + 1))) (g0 : FlatC Y) {Φ : Res → Prop} (ho : ∀ j, OutK E 0 1 (p91sg_end C n i k q m Y j) Φ) (j : JN) : OutK E 0 1 (y91g C n i k q m D j) Φ :=
 oS hE [.run 3, (.cond true), .run 5, (.ops [(3, (.rn (iI g))), (5, (.rn (iI h))), (6, (.fb (.v (.int .i64 x)))), (10, (.app (q + 1) (q + 1) Y))] []), .run 1, (.ops [(0, (.rn (iN (i + 1))))] []), .run 1] [0, 1, 2, 8, 9] (s' := fun j => ⟨[(bK [(.dp (.s C n 1))] 1 22), none, (bK [(.v (.bool (x.tmod (2 : Int) == (1 : Int))))] 1 4), (.some ⟨(Y), (q + 1), 4, false, .cells⟩)], [(.code (aF [1, 0, 1, 0, 0] Tryz.f91)), (.inLoop (aF [1, 0, 1, 0, 0] Tryz.f91)), (.inBlock 0), (.code (aF [1, 1] Tryz.f91))], mkT j [(0, (.e (.one (.slc 3 0 (q + 1) 1 (q + 1) false)))), (1, (iN m)), (2, (iN k)), (8, (iN k)), (9, (iN (i + 1)))] 25 0⟩) (aQ h0 h1 h2 h3 <| aQ h4 h5 h6 h7 <| aP (rfl : (q + 1 : Nat) = q + 1) <| aP h9 <| aP h10 <| aZ)
  fun j => outK_gcF [0, 3] [false, true] (h' := [(bK [(.dp (.s C n 1))] 1 22), (.some ⟨(Y), (q + 1), 4, false, .cells⟩)]) (by decide) (by kernel_rfl) (by kernel_rfl) ⟨g0, trivial⟩ (by kernel_rfl) (ho j)
def p91xg_end (C : List DT) (n q : Nat) (D : List AC) (j : JN) : St := ⟨[(bK [(.dp (.s C n 1))] 1 22), (.some ⟨(D), q, 4, false, .cells⟩)], [(.code .ret)], mkT j [(6, (.e (.one (.slc 1 0 q 1 q false))))] 25 0⟩
theorem p91xg (hE : EnvOk E) (C : List DT) (n i k q m : Nat) (D : List AC) (h0 : (decide (Int.ofNat i < Int.ofNat k) : Bool) = false) {Φ : Res → Prop} (ho : ∀ j, OutK E 0 1 (p91xg_end C n q D j) Φ) (j : JN) : OutK E 0 1 (y91g C n i k q m D j) Φ :=
 oS hE [.run 3, (.cond false), .run 3] [6] (aP h0 <| aZ)
  ho
def p91sh_end (C : List DT) (n i k q m : Nat) (Y : List AC) (j : JN) : St := ⟨[(bK [(.dp (.s C n 1))] 1 22), none, (.some ⟨(Y), (q + 1), 4, false, .cells⟩)], [(.code (aF [1, 0, 1, 0, 0] Tryz.f91)), (.inLoop (aF [1, 0, 1, 0, 0] Tryz.f91)), (.inBlock 0), (.code (aF [1, 1] Tryz.f91))], mkT j [(0, (.e (.one (.slc 2 0 (q + 1) 1 (q + 1) false)))), (1, (iN m)), (2, (iN k)), (8, (iN k)), (9, (iN (i + 1)))] 25 0⟩
theorem p91sh (hE : EnvOk E) (C : List DT) (n i k q m : Nat) (x g h : Int) (D Y : List AC) (h0 : (decide (Int.ofNat i < Int.ofNat k) : Bool) = true) (h1 : ((iI (wrapF IntKind.i64 (Int.ofNat k - (1 : Int)))) : AV) = (iI g)) (h2 : ((iI (wrapF IntKind.i64 (g - Int.ofNat i))) : AV) = (iI h)) (h3 : BinOk E.P BinOp.shr (3 : Nat) (Operand.tmp (13 : Nat)) (Operand.tmp (17 : Nat)) (AC.v (Value.int IntKind.i64 (Int.ofNat m))) (AC.v (Value.int IntKind.i64 h)) (AC.v (Value.int IntKind.i64 x))) (h4 : ¬q + 1 ≤ q) (h5 : (small (q + 1) (1 : Nat) (1 : Nat) : Bool) = true) (h6 : (q : Nat) = q * nat_lit 1) (h7 : (appL D ((fun x_1 => AC.v (Value.bool (x.tmod (2 : Int) == (1 : Int))) :: x_1) []) : List AC) = Y) (h9 : ((q + 1) * nat_lit 1 : Nat) = q + 1) (h10 : ((iI (wrapF IntKind.i64 (Int.ofNat i + (1 : Int)))) : AV) = (iN (i + 1))) (g0 : FlatC Y) {Φ : Res → Prop} (ho : ∀ j, OutK E 0 2 (p91sh_end C n i k q m Y j) Φ) (j : JN) : OutK E 0 2 (y91h C n i k q m D j) Φ :=
 oS hE [.run 3, (.cond true), .run 5, (.ops [(3, (.rn (iI g))), (5, (.rn (iI h))), (6, (.fb (.v (.int .i64 x)))), (10, (.app (q + 1) (q + 1) Y))] []), .run 1, (.ops [(0, (.rn (iN (i + 1))))] []), .run 1] [0, 1, 2, 8, 9] (s' := fun j => ⟨[(bK [(.dp (.s C n 1))] 1 22), none, none, (bK [(.v (.bool (x.tmod (2 : Int) == (1 : Int))))] 1 4), (.some ⟨(Y), (q + 1), 4, false, .cells⟩)], [(.code (aF [1, 0, 1, 0, 0] Tryz.f91)), (.inLoop (aF [1, 0, 1, 0, 0] Tryz.f91)), (.inBlock 0), (.code (aF [1, 1] Tryz.f91))], mkT j [(0, (.e (.one (.slc 4 0 (q + 1) 1 (q + 1) false)))), (1, (iN m)), (2, (iN k)), (8, (iN k)), (9, (iN (i + 1)))] 25 0⟩) (aQ h0 h1 h2 h3 <| aQ h4 h5 h6 h7 <| aP (rfl : (q + 1 : Nat) = q + 1) <| aP h9 <| aP h10 <| aZ)
  fun j => outK_gcF [0, 1, 4] [false, false, true] (h' := [(bK [(.dp (.s C n 1))] 1 22), none, (.some ⟨(Y), (q + 1), 4, false, .cells⟩)]) (by decide) (by kernel_rfl) (by kernel_rfl) ⟨g0, trivial⟩ (by kernel_rfl) (ho j)
def p91xh_end (C : List DT) (n q : Nat) (D : List AC) (j : JN) : St := ⟨[(bK [(.dp (.s C n 1))] 1 22), none, (.some ⟨(D), q, 4, false, .cells⟩)], [(.code .ret)], mkT j [(6, (.e (.one (.slc 2 0 q 1 q false))))] 25 0⟩
theorem p91xh (hE : EnvOk E) (C : List DT) (n i k q m : Nat) (D : List AC) (h0 : (decide (Int.ofNat i < Int.ofNat k) : Bool) = false) {Φ : Res → Prop} (ho : ∀ j, OutK E 0 2 (p91xh_end C n q D j) Φ) (j : JN) : OutK E 0 2 (y91h C n i k q m D j) Φ :=
 oS hE [.run 3, (.cond false), .run 3] [6] (aP h0 <| aZ)
  ho
def p90s_end (C R : List DT) (n i m : Nat) (j : JN) : St := ⟨[], [(.code (aF [1, 1, 0, 1, 0, 0] Tryz.f90)), (.inLoop (aF [1, 1, 0, 1, 0, 0] Tryz.f90)), (.inBlock 0), (.code (aF [1, 1, 1] Tryz.f90))], mkT j [(0, (dQ C n)), (13, (dQ R m)), (14, (iN m)), (15, (iN (i + 1)))] 32 0⟩
theorem p90s (hE : EnvOk E) (C R : List DT) (n i m : Nat) (x z g h e : Int) (h0 : (decide (Int.ofNat i < Int.ofNat m) : Bool) = true) (h1 : (0 : Int) ≤ Int.ofNat i ∧ Int.ofNat i < (↑m : Int)) (h2 : ((Int.ofNat i).toNat * nat_lit 1 : Nat) = i) (h3 : (getL R i : Option DT) = (.some (.v (.int .i64 x)))) (h4 : (0 : Int) ≤ Int.ofNat i ∧ Int.ofNat i < (↑n : Int)) (h6 : (getL C i : Option DT) = (.some (.v (.int .i64 z)))) (h7 : BinOk E.P BinOp.shl (3 : Nat) (Operand.const (Value.int IntKind.i64 (1 : Int))) (Operand.tmp (24 : Nat)) (AC.v (Value.int IntKind.i64 (1 : Int))) (DT.v (Value.int IntKind.i64 z)).ac (AC.v (Value.int IntKind.i64 g))) (h8 : ((iI (wrapF IntKind.i64 (g - (1 : Int)))) : AV) = (iI h)) (h9 : COut E 0 [] 72 [(iI x), (iI 0), (iI h)] (iI e) []) (h11 : (e != (0 : Int) : Bool) = false) (h12 : ((iI (wrapF IntKind.i64 (Int.ofNat i + (1 : Int)))) : AV) = (iN (i + 1))) {Φ : Res → Prop} (ho : ∀ j, OutK E 0 0 (p90s_end C R n i m j) Φ) (j : JN) : OutK E 0 0 (y90 C R n i m j) Φ :=
 oS hE [.run 3, (.cond true), .run 4, (.ops [(2, (.d (.ld (.v (.int .i64 x))))), (1, (.d (.ix i)))] []), .run 1, (.ops [(4, (.d (.ld (.v (.int .i64 z))))), (5, (.fb (.v (.int .i64 g)))), (6, (.rn (iI h))), (7, (.c0 (iI e))), (3, (.d (.ix i)))] []), .run 2, (.cond false), .run 2, (.ops [(0, (.rn (iN (i + 1))))] []), .run 1] [0, 13, 14, 15] (aQ h0 h1 h2 h3 <| aQ h4 h2 h6 h7 <| aP h8 <| aP h9 <| aN <| aP h11 <| aP h12 <| aZ)
  ho
def p90f_end (e : Int) (j : JN) : St := ⟨[], [(.code .ret), (.inBlock 1), (.code (aF [1, 1, 0, 1, 0, 0, 1, 1, 1] Tryz.f90)), (.inLoop (aF [1, 1, 0, 1, 0, 0] Tryz.f90)), (.inBlock 0), (.code (aF [1, 1, 1] Tryz.f90))], mkT j [(4, (iI e))] 32 0⟩
theorem p90f (hE : EnvOk E) (C R : List DT) (n i m : Nat) (x z g h e : Int) (h0 : (decide (Int.ofNat i < Int.ofNat m) : Bool) = true) (h1 : (0 : Int) ≤ Int.ofNat i ∧ Int.ofNat i < (↑m : Int)) (h2 : ((Int.ofNat i).toNat * nat_lit 1 : Nat) = i) (h3 : (getL R i : Option DT) = (.some (.v (.int .i64 x)))) (h4 : (0 : Int) ≤ Int.ofNat i ∧ Int.ofNat i < (↑n : Int)) (h6 : (getL C i : Option DT) = (.some (.v (.int .i64 z)))) (h7 : BinOk E.P BinOp.shl (3 : Nat) (Operand.const (Value.int IntKind.i64 (1 : Int))) (Operand.tmp (24 : Nat)) (AC.v (Value.int IntKind.i64 (1 : Int))) (DT.v (Value.int IntKind.i64 z)).ac (AC.v (Value.int IntKind.i64 g))) (h8 : ((iI (wrapF IntKind.i64 (g - (1 : Int)))) : AV) = (iI h)) (h9 : COut E 0 [] 72 [(iI x), (iI 0), (iI h)] (iI e) []) (h11 : (e != (0 : Int) : Bool) = true) {Φ : Res → Prop} (ho : ∀ j, OutK E 0 0 (p90f_end e j) Φ) (j : JN) : OutK E 0 0 (y90 C R n i m j) Φ :=
 oS hE [.run 3, (.cond true), .run 4, (.ops [(2, (.d (.ld (.v (.int .i64 x))))), (1, (.d (.ix i)))] []), .run 1, (.ops [(4, (.d (.ld (.v (.int .i64 z))))), (5, (.fb (.v (.int .i64 g)))), (6, (.rn (iI h))), (7, (.c0 (iI e))), (3, (.d (.ix i)))] []), .run 2, (.cond true), .run 2] [4] (aQ h0 h1 h2 h3 <| aQ h4 h2 h6 h7 <| aP h8 <| aP h9 <| aN <| aP h11 <| aZ)
  ho
def p90x_end (j : JN) : St := ⟨[], [(.code .ret)], mkT j [(4, (iI 0))] 32 0⟩
theorem p90x (hE : EnvOk E) (C R : List DT) (n i m : Nat) (h0 : (decide (Int.ofNat i < Int.ofNat m) : Bool) = false) {Φ : Res → Prop} (ho : ∀ j, OutK E 0 0 (p90x_end j) Φ) (j : JN) : OutK E 0 0 (y90 C R n i m j) Φ :=
 oS hE [.run 3, (.cond false), .run 3] [4] (aP h0 <| aZ)
  ho
def pz134s_end (C T : List DT) (n i t : Nat) (j : JN) : St := ⟨[(bK [(.dp (.s C n 1))] 1 22)], [(.code (aF [1, 0, 1, 0, 0] Tryz.f134)), (.inLoop (aF [1, 0, 1, 0, 0] Tryz.f134)), (.inBlock 0), (.code (aF [1, 1] Tryz.f134))], mkT j [(1, (.e (.one (.clo 89 [] [(.one (.ptr 0 0))])))), (8, (dQ T t)), (9, (iN t)), (10, (iN (i + 1)))] 21 0⟩
theorem pz134s (hE : EnvOk E) (C R T : List DT) (n i m t : Nat) (e : Int) (h0 : (decide (Int.ofNat i < Int.ofNat t) : Bool) = true) (h1 : (0 : Int) ≤ Int.ofNat i ∧ Int.ofNat i < (↑t : Int)) (h2 : ((Int.ofNat i).toNat * nat_lit 1 : Nat) = i) (h3 : (getL T i : Option DT) = (.some (.s R m 1))) (h4 : COut E 0 [(bK [(.dp (.s C n 1))] 1 22)] 89 [(dQ R m), (.e (.one (.ptr 0 0)))] (iI e) [(bK [(.dp (.s C n 1))] 1 22)]) (h5 : (e != (0 : Int) : Bool) = false) (h6 : ((iI (wrapF IntKind.i64 (Int.ofNat i + (1 : Int)))) : AV) = (iN (i + 1))) {Φ : Res → Prop} (ho : ∀ j, OutK E 0 1 (pz134s_end C T n i t j) Φ) (j : JN) : OutK E 0 1 (yz134 C T n i t j) Φ :=
 oS hE [.run 3, (.cond true), .run 4, (.ops [(1, (.d (.ld (.s R m 1)))), (0, (.d (.ix i)))] []), .run 1, (.ops [(2, (.cw (iI e) [(bK [(.dp (.s C n 1))] 1 22)]))] []), .run 2, (.cond false), .run 2, (.ops [(0, (.rn (iN (i + 1))))] []), .run 1] [1, 8, 9, 10] (aQ h0 h1 h2 h3 <| aP h4 <| aP h5 <| aP h6 <| aZ)
  ho
def pz134e_end (C : List DT) (n : Nat) (e : Int) (j : JN) : St := ⟨[(bK [(.dp (.s C n 1))] 1 22)], [(.code .ret), (.inBlock 1), (.code (aF [1, 0, 1, 0, 0, 1, 1, 1] Tryz.f134)), (.inLoop (aF [1, 0, 1, 0, 0] Tryz.f134)), (.inBlock 0), (.code (aF [1, 1] Tryz.f134))], mkT j [(4, (iI e))] 21 0⟩
theorem pz134e (hE : EnvOk E) (C R T : List DT) (n i m t : Nat) (e : Int) (h0 : (decide (Int.ofNat i < Int.ofNat t) : Bool) = true) (h1 : (0 : Int) ≤ Int.ofNat i ∧ Int.ofNat i < (↑t : Int)) (h2 : ((Int.ofNat i).toNat * nat_lit 1 : Nat) = i) (h3 : (getL T i : Option DT) = (.some (.s R m 1))) (h4 : COut E 0 [(bK [(.dp (.s C n 1))] 1 22)] 89 [(dQ R m), (.e (.one (.ptr 0 0)))] (iI e) [(bK [(.dp (.s C n 1))] 1 22)]) (h5 : (e != (0 : Int) : Bool) = true) {Φ : Res → Prop} (ho : ∀ j, OutK E 0 1 (pz134e_end C n e j) Φ) (j : JN) : OutK E 0 1 (yz134 C T n i t j) Φ :=
 oS hE [.run 3, (.cond true), .run 4, (.ops [(1, (.d (.ld (.s R m 1)))), (0, (.d (.ix i)))] []), .run 1, (.ops [(2, (.cw (iI e) [(bK [(.dp (.s C n 1))] 1 22)]))] []), .run 2, (.cond true), .run 2] [4] (aQ h0 h1 h2 h3 <| aP h4 <| aP h5 <| aZ)
  ho
def pz134x_end (C : List DT) (n : Nat) (j : JN) : St := ⟨[(bK [(.dp (.s C n 1))] 1 22)], [(.code .ret)], mkT j [(4, (iI 0))] 21 0⟩
theorem pz134x (hE : EnvOk E) (C T : List DT) (n i t : Nat) (h0 : (decide (Int.ofNat i < Int.ofNat t) : Bool) = false) {Φ : Res → Prop} (ho : ∀ j, OutK E 0 1 (pz134x_end C n j) Φ) (j : JN) : OutK E 0 1 (yz134 C T n i t j) Φ :=
 oS hE [.run 3, (.cond false), .run 3] [4] (aP h0 <| aZ)
  ho
theorem xo {P : Program} {op : BinOp} {t : TypeId} {x z : Operand} {a b c : Int} (h : ∀ w : World, (do eqGuard op t x z (.int .i64 a) (.int .i64 b); binOp op t (.int .i64 a) (.int .i64 b) : Sem Value).run P w = .ok (.int .i64 c) w) : BinOk P op t x z (.v (.int .i64 a)) (.v (.int .i64 b)) (.v (.int .i64 c)) := by
 intro m p q w hp hq
 obtain rfl : p = .int .i64 a := hp
 obtain rfl : q = .int .i64 b := hq
 exact ⟨_, w.drawn, h w, rfl⟩
theorem shl_ok {P : Program} {t : TypeId} {x z : Operand} : ∀ k : Nat, k < 7 → BinOk P .shl t x z (.v (.int .i64 1)) (.v (.int .i64 (Int.ofNat k))) (.v (.int .i64 (Int.ofNat (2 ^ k))))
 | 0, _ => xo fun w => rfl
 | 1, _ => xo fun w => rfl
 | 2, _ => xo fun w => rfl
 | 3, _ => xo fun w => rfl
 | 4, _ => xo fun w => rfl
 | 5, _ => xo fun w => rfl
 | 6, _ => xo fun w => rfl
 | n + 7, h => absurd h (by omega)
theorem shr_0 {P : Program} {t : TypeId} {x z : Operand} : ∀ m : Nat, m < 64 → BinOk P .shr t x z (.v (.int .i64 (Int.ofNat m))) (.v (.int .i64 (Int.ofNat 0))) (.v (.int .i64 (Int.ofNat (m / 2 ^ 0))))
 | 0, _ => xo fun w => rfl
 | 1, _ => xo fun w => rfl
 | 2, _ => xo fun w => rfl
 | 3, _ => xo fun w => rfl
 | 4, _ => xo fun w => rfl
 | 5, _ => xo fun w => rfl
 | 6, _ => xo fun w => rfl
 | 7, _ => xo fun w => rfl
 | 8, _ => xo fun w => rfl
 | 9, _ => xo fun w => rfl
 | 10, _ => xo fun w => rfl
 | 11, _ => xo fun w => rfl
 | 12, _ => xo fun w => rfl
 | 13, _ => xo fun w => rfl
 | 14, _ => xo fun w => rfl
 | 15, _ => xo fun w => rfl
 | 16, _ => xo fun w => rfl
 | 17, _ => xo fun w => rfl
 | 18, _ => xo fun w => rfl
 | 19, _ => xo fun w => rfl
 | 20, _ => xo fun w => rfl
 | 21, _ => xo fun w => rfl
 | 22, _ => xo fun w => rfl
 | 23, _ => xo fun w => rfl
 | 24, _ => xo fun w => rfl
 | 25, _ => xo fun w => rfl
 | 26, _ => xo fun w => rfl
 | 27, _ => xo fun w => rfl
 | 28, _ => xo fun w => rfl
 | 29, _ => xo fun w => rfl
 | 30, _ => xo fun w => rfl
 | 31, _ => xo fun w => rfl
 | 32, _ => xo fun w => rfl
 | 33, _ => xo fun w => rfl
 | 34, _ => xo fun w => rfl
 | 35, _ => xo fun w => rfl
 | 36, _ => xo fun w => rfl
 | 37, _ => xo fun w => rfl
 | 38, _ => xo fun w => rfl
 | 39, _ => xo fun w => rfl
 | 40, _ => xo fun w => rfl
 | 41, _ => xo fun w => rfl
 | 42, _ => xo fun w => rfl
 | 43, _ => xo fun w => rfl
 | 44, _ => xo fun w => rfl
 | 45, _ => xo fun w => rfl
 | 46, _ => xo fun w => rfl
 | 47, _ => xo fun w => rfl
 | 48, _ => xo fun w => rfl
 | 49, _ => xo fun w => rfl
 | 50, _ => xo fun w => rfl
 | 51, _ => xo fun w => rfl
 | 52, _ => xo fun w => rfl
 | 53, _ => xo fun w => rfl
 | 54, _ => xo fun w => rfl
 | 55, _ => xo fun w => rfl
 | 56, _ => xo fun w => rfl
 | 57, _ => xo fun w => rfl
 | 58, _ => xo fun w => rfl
 | 59, _ => xo fun w => rfl
 | 60, _ => xo fun w => rfl
 | 61, _ => xo fun w => rfl
 | 62, _ => xo fun w => rfl
 | 63, _ => xo fun w => rfl
 | n + 64, h => absurd h (by omega)
theorem shr_1 {P : Program} {t : TypeId} {x z : Operand} : ∀ m : Nat, m < 64 → BinOk P .shr t x z (.v (.int .i64 (Int.ofNat m))) (.v (.int .i64 (Int.ofNat 1))) (.v (.int .i64 (Int.ofNat (m / 2 ^ 1))))
 | 0, _ => xo fun w => rfl
 | 1, _ => xo fun w => rfl
 | 2, _ => xo fun w => rfl
 | 3, _ => xo fun w => rfl
 | 4, _ => xo fun w => rfl
 | 5, _ => xo fun w => rfl
 | 6, _ => xo fun w => rfl
 | 7, _ => xo fun w => rfl
 | 8, _ => xo fun w => rfl
 | 9, _ => xo fun w => rfl
 | 10, _ => xo fun w => rfl
 | 11, _ => xo fun w => rfl
 | 12, _ => xo fun w => rfl
 | 13, _ => xo fun w => rfl
 | 14, _ => xo fun w => rfl
 | 15, _ => xo fun w => rfl
 | 16, _ => xo fun w => rfl
 | 17, _ => xo fun w => rfl
 | 18, _ => xo fun w => rfl
 | 19, _ => xo fun w => rfl
 | 20, _ => xo fun w => rfl
 | 21, _ => xo fun w => rfl
 | 22, _ => xo fun w => rfl
 | 23, _ => xo fun w => rfl
 | 24, _ => xo fun w => rfl
 | 25, _ => xo fun w => rfl
 | 26, _ => xo fun w => rfl
 | 27, _ => xo fun w => rfl
 | 28, _ => xo fun w => rfl
 | 29, _ => xo fun w => rfl
 | 30, _ => xo fun w => rfl
 | 31, _ => xo fun w => rfl
 | 32, _ => xo fun w => rfl
 | 33, _ => xo fun w => rfl
 | 34, _ => xo fun w => rfl
 | 35, _ => xo fun w => rfl
 | 36, _ => xo fun w => rfl
 | 37, _ => xo fun w => rfl
 | 38, _ => xo fun w => rfl
 | 39, _ => xo fun w => rfl
 | 40, _ => xo fun w => rfl
 | 41, _ => xo fun w => rfl
 | 42, _ => xo fun w => rfl
 | 43, _ => xo fun w => rfl
 | 44, _ => xo fun w => rfl
 | 45, _ => xo fun w => rfl
 | 46, _ => xo fun w => rfl
 | 47, _ => xo fun w => rfl
 | 48, _ => xo fun w => rfl
 | 49, _ => xo fun w => rfl
 | 50, _ => xo fun w => rfl
 | 51, _ => xo fun w => rfl
 | 52, _ => xo fun w => rfl
 | 53, _ => xo fun w => rfl
 | 54, _ => xo fun w => rfl
 | 55, _ => xo fun w => rfl
 | 56, _ => xo fun w => rfl
 | 57, _ => xo fun w => rfl
 | 58, _ => xo fun w => rfl
 | 59, _ => xo fun w => rfl
 | 60, _ => xo fun w => rfl
 | 61, _ => xo fun w => rfl
 | 62, _ => xo fun w => rfl
 | 63, _ => xo fun w => rfl
 | n + 64, h => absurd h (by omega)
theorem shr_2 {P : Program} {t : TypeId} {x z : Operand} : ∀ m : Nat, m < 64 → BinOk P .shr t x z (.v (.int .i64 (Int.ofNat m))) (.v (.int .i64 (Int.ofNat 2))) (.v (.int .i64 (Int.ofNat (m / 2 ^ 2))))
 | 0, _ => xo fun w => rfl
 | 1, _ => xo fun w => rfl
 | 2, _ => xo fun w => rfl
 | 3, _ => xo fun w => rfl
 | 4, _ => xo fun w => rfl
 | 5, _ => xo fun w => rfl
 | 6, _ => xo fun w => rfl
 | 7, _ => xo fun w => rfl
 | 8, _ => xo fun w => rfl
 | 9, _ => xo fun w => rfl
 | 10, _ => xo fun w => rfl
 | 11, _ => xo fun w => rfl
 | 12, _ => xo fun w => rfl
 | 13, _ => xo fun w => rfl
 | 14, _ => xo fun w => rfl
 | 15, _ => xo fun w => rfl
 | 16, _ => xo fun w => rfl
 | 17, _ => xo fun w => rfl
 | 18, _ => xo fun w => rfl
 | 19, _ => xo fun w => rfl
 | 20, _ => xo fun w => rfl
 | 21, _ => xo fun w => rfl
 | 22, _ => xo fun w => rfl
 | 23, _ => xo fun w => rfl
 | 24, _ => xo fun w => rfl
 | 25, _ => xo fun w => rfl
 | 26, _ => xo fun w => rfl
 | 27, _ => xo fun w => rfl
 | 28, _ => xo fun w => rfl
 | 29, _ => xo fun w => rfl
 | 30, _ => xo fun w => rfl
 | 31, _ => xo fun w => rfl
 | 32, _ => xo fun w => rfl
 | 33, _ => xo fun w => rfl
 | 34, _ => xo fun w => rfl
 | 35, _ => xo fun w => rfl
 | 36, _ => xo fun w => rfl
 | 37, _ => xo fun w => rfl
 | 38, _ => xo fun w => rfl
 | 39, _ => xo fun w => rfl
 | 40, _ => xo fun w => rfl
 | 41, _ => xo fun w => rfl
 | 42, _ => xo fun w => rfl
 | 43, _ => xo fun w => rfl
 | 44, _ => xo fun w => rfl
 | 45, _ => xo fun w => rfl
 | 46, _ => xo fun w => rfl
 | 47, _ => xo fun w => rfl
 | 48, _ => xo fun w => rfl
 | 49, _ => xo fun w => rfl
 | 50, _ => xo fun w => rfl
 | 51, _ => xo fun w => rfl
 | 52, _ => xo fun w => rfl
 | 53, _ => xo fun w => rfl
 | 54, _ => xo fun w => rfl
 | 55, _ => xo fun w => rfl
 | 56, _ => xo fun w => rfl
 | 57, _ => xo fun w => rfl
 | 58, _ => xo fun w => rfl
 | 59, _ => xo fun w => rfl
 | 60, _ => xo fun w => rfl
 | 61, _ => xo fun w => rfl
 | 62, _ => xo fun w => rfl
 | 63, _ => xo fun w => rfl
 | n + 64, h => absurd h (by omega)
theorem shr_3 {P : Program} {t : TypeId} {x z : Operand} : ∀ m : Nat, m < 64 → BinOk P .shr t x z (.v (.int .i64 (Int.ofNat m))) (.v (.int .i64 (Int.ofNat 3))) (.v (.int .i64 (Int.ofNat (m / 2 ^ 3))))
 | 0, _ => xo fun w => rfl
 | 1, _ => xo fun w => rfl
 | 2, _ => xo fun w => rfl
 | 3, _ => xo fun w => rfl
 | 4, _ => xo fun w => rfl
 | 5, _ => xo fun w => rfl
 | 6, _ => xo fun w => rfl
 | 7, _ => xo fun w => rfl
 | 8, _ => xo fun w => rfl
 | 9, _ => xo fun w => rfl
 | 10, _ => xo fun w => rfl
 | 11, _ => xo fun w => rfl
 | 12, _ => xo fun w => rfl
 | 13, _ => xo fun w => rfl
 | 14, _ => xo fun w => rfl
 | 15, _ => xo fun w => rfl
 | 16, _ => xo fun w => rfl
 | 17, _ => xo fun w => rfl
 | 18, _ => xo fun w => rfl
 | 19, _ => xo fun w => rfl
 | 20, _ => xo fun w => rfl
 | 21, _ => xo fun w => rfl
 | 22, _ => xo fun w => rfl
 | 23, _ => xo fun w => rfl
 | 24, _ => xo fun w => rfl
 | 25, _ => xo fun w => rfl
 | 26, _ => xo fun w => rfl
 | 27, _ => xo fun w => rfl
 | 28, _ => xo fun w => rfl
 | 29, _ => xo fun w => rfl
 | 30, _ => xo fun w => rfl
 | 31, _ => xo fun w => rfl
 | 32, _ => xo fun w => rfl
 | 33, _ => xo fun w => rfl
 | 34, _ => xo fun w => rfl
 | 35, _ => xo fun w => rfl
 | 36, _ => xo fun w => rfl
 | 37, _ => xo fun w => rfl
 | 38, _ => xo fun w => rfl
 | 39, _ => xo fun w => rfl
 | 40, _ => xo fun w => rfl
 | 41, _ => xo fun w => rfl
 | 42, _ => xo fun w => rfl
 | 43, _ => xo fun w => rfl
 | 44, _ => xo fun w => rfl
 | 45, _ => xo fun w => rfl
 | 46, _ => xo fun w => rfl
 | 47, _ => xo fun w => rfl
 | 48, _ => xo fun w => rfl
 | 49, _ => xo fun w => rfl
 | 50, _ => xo fun w => rfl
 | 51, _ => xo fun w => rfl
 | 52, _ => xo fun w => rfl
 | 53, _ => xo fun w => rfl
 | 54, _ => xo fun w => rfl
 | 55, _ => xo fun w => rfl
 | 56, _ => xo fun w => rfl
 | 57, _ => xo fun w => rfl
 | 58, _ => xo fun w => rfl
 | 59, _ => xo fun w => rfl
 | 60, _ => xo fun w => rfl
 | 61, _ => xo fun w => rfl
 | 62, _ => xo fun w => rfl
 | 63, _ => xo fun w => rfl
 | n + 64, h => absurd h (by omega)
theorem shr_4 {P : Program} {t : TypeId} {x z : Operand} : ∀ m : Nat, m < 64 → BinOk P .shr t x z (.v (.int .i64 (Int.ofNat m))) (.v (.int .i64 (Int.ofNat 4))) (.v (.int .i64 (Int.ofNat (m / 2 ^ 4))))
 | 0, _ => xo fun w => rfl
 | 1, _ => xo fun w => rfl
 | 2, _ => xo fun w => rfl
 | 3, _ => xo fun w => rfl
 | 4, _ => xo fun w => rfl
 | 5, _ => xo fun w => rfl
 | 6, _ => xo fun w => rfl
 | 7, _ => xo fun w => rfl
 | 8, _ => xo fun w => rfl
 | 9, _ => xo fun w => rfl
 | 10, _ => xo fun w => rfl
 | 11, _ => xo fun w => rfl
 | 12, _ => xo fun w => rfl
 | 13, _ => xo fun w => rfl
 | 14, _ => xo fun w => rfl
 | 15, _ => xo fun w => rfl
 | 16, _ => xo fun w => rfl
 | 17, _ => xo fun w => rfl
 | 18, _ => xo fun w => rfl
 | 19, _ => xo fun w => rfl
 | 20, _ => xo fun w => rfl
 | 21, _ => xo fun w => rfl
 | 22, _ => xo fun w => rfl
 | 23, _ => xo fun w => rfl
 | 24, _ => xo fun w => rfl
 | 25, _ => xo fun w => rfl
 | 26, _ => xo fun w => rfl
 | 27, _ => xo fun w => rfl
 | 28, _ => xo fun w => rfl
 | 29, _ => xo fun w => rfl
 | 30, _ => xo fun w => rfl
 | 31, _ => xo fun w => rfl
 | 32, _ => xo fun w => rfl
 | 33, _ => xo fun w => rfl
 | 34, _ => xo fun w => rfl
 | 35, _ => xo fun w => rfl
 | 36, _ => xo fun w => rfl
 | 37, _ => xo fun w => rfl
 | 38, _ => xo fun w => rfl
 | 39, _ => xo fun w => rfl
 | 40, _ => xo fun w => rfl
 | 41, _ => xo fun w => rfl
 | 42, _ => xo fun w => rfl
 | 43, _ => xo fun w => rfl
 | 44, _ => xo fun w => rfl
 | 45, _ => xo fun w => rfl
 | 46, _ => xo fun w => rfl
 | 47, _ => xo fun w => rfl
 | 48, _ => xo fun w => rfl
 | 49, _ => xo fun w => rfl
 | 50, _ => xo fun w => rfl
 | 51, _ => xo fun w => rfl
 | 52, _ => xo fun w => rfl
 | 53, _ => xo fun w => rfl
 | 54, _ => xo fun w => rfl
 | 55, _ => xo fun w => rfl
 | 56, _ => xo fun w => rfl
 | 57, _ => xo fun w => rfl
 | 58, _ => xo fun w => rfl
 | 59, _ => xo fun w => rfl
 | 60, _ => xo fun w => rfl
 | 61, _ => xo fun w => rfl
 | 62, _ => xo fun w => rfl
 | 63, _ => xo fun w => rfl
 | n + 64, h => absurd h (by omega)
theorem shr_5 {P : Program} {t : TypeId} {x z : Operand} : ∀ m : Nat, m < 64 → BinOk P .shr t x z (.v (.int .i64 (Int.ofNat m))) (.v (.int .i64 (Int.ofNat 5))) (.v (.int .i64 (Int.ofNat (m / 2 ^ 5))))
 | 0, _ => xo fun w => rfl
 | 1, _ => xo fun w => rfl
 | 2, _ => xo fun w => rfl
 | 3, _ => xo fun w => rfl
 | 4, _ => xo fun w => rfl
 | 5, _ => xo fun w => rfl
 | 6, _ => xo fun w => rfl
 | 7, _ => xo fun w => rfl
 | 8, _ => xo fun w => rfl
 | 9, _ => xo fun w => rfl
 | 10, _ => xo fun w => rfl
 | 11, _ => xo fun w => rfl
 | 12, _ => xo fun w => rfl
 | 13, _ => xo fun w => rfl
 | 14, _ => xo fun w => rfl
 | 15, _ => xo fun w => rfl
 | 16, _ => xo fun w => rfl
 | 17, _ => xo fun w => rfl
 | 18, _ => xo fun w => rfl
 | 19, _ => xo fun w => rfl
 | 20, _ => xo fun w => rfl
 | 21, _ => xo fun w => rfl
 | 22, _ => xo fun w => rfl
 | 23, _ => xo fun w => rfl
 | 24, _ => xo fun w => rfl
 | 25, _ => xo fun w => rfl
 | 26, _ => xo fun w => rfl
 | 27, _ => xo fun w => rfl
 | 28, _ => xo fun w => rfl
 | 29, _ => xo fun w => rfl
 | 30, _ => xo fun w => rfl
 | 31, _ => xo fun w => rfl
 | 32, _ => xo fun w => rfl
 | 33, _ => xo fun w => rfl
 | 34, _ => xo fun w => rfl
 | 35, _ => xo fun w => rfl
 | 36, _ => xo fun w => rfl
 | 37, _ => xo fun w => rfl
 | 38, _ => xo fun w => rfl
 | 39, _ => xo fun w => rfl
 | 40, _ => xo fun w => rfl
 | 41, _ => xo fun w => rfl
 | 42, _ => xo fun w => rfl
 | 43, _ => xo fun w => rfl
 | 44, _ => xo fun w => rfl
 | 45, _ => xo fun w => rfl
 | 46, _ => xo fun w => rfl
 | 47, _ => xo fun w => rfl
 | 48, _ => xo fun w => rfl
 | 49, _ => xo fun w => rfl
 | 50, _ => xo fun w => rfl
 | 51, _ => xo fun w => rfl
 | 52, _ => xo fun w => rfl
 | 53, _ => xo fun w => rfl
 | 54, _ => xo fun w => rfl
 | 55, _ => xo fun w => rfl
 | 56, _ => xo fun w => rfl
 | 57, _ => xo fun w => rfl
 | 58, _ => xo fun w => rfl
 | 59, _ => xo fun w => rfl
 | 60, _ => xo fun w => rfl
 | 61, _ => xo fun w => rfl
 | 62, _ => xo fun w => rfl
 | 63, _ => xo fun w => rfl
 | n + 64, h => absurd h (by omega)
theorem shr_ok {P : Program} {t : TypeId} {x z : Operand} : ∀ j : Nat, j < 6 → ∀ m : Nat, m < 64 → BinOk P .shr t x z (.v (.int .i64 (Int.ofNat m))) (.v (.int .i64 (Int.ofNat j))) (.v (.int .i64 (Int.ofNat (m / 2 ^ j))))
 | 0, _ => shr_0
 | 1, _ => shr_1
 | 2, _ => shr_2
 | 3, _ => shr_3
 | 4, _ => shr_4
 | 5, _ => shr_5
 | n + 6, h => absurd h (by omega)
def bitF (m j : Nat) : Bool := (Int.ofNat (m / 2 ^ j)).tmod 2 == 1
def bitsF (m : Nat) : Nat → List Bool
 | 0 => []
 | j + 1 => bitF m j :: bitsF m j
theorem flat_bb (l : List Bool) : FlatC (bbC l) := flat_rows _
theorem bb_app (l : List Bool) (b : Bool) : appL (bbC l) [.v (.bool b)] = bbC (l ++ [b]) := by rw [appL_eq]; simp [DT.ac]
theorem bits_len (m : Nat) : ∀ k, (bitsF m k).length = k
 | 0 => rfl
 | k + 1 => by show (bitF m k :: bitsF m k).length = _; rw [List.length_cons, bits_len]
theorem l91g (hE : EnvOk E) (xs : List Int) (m : Nat) (hm : m < 64) (k : Nat) (hk : k ≤ 6) (V : List Bool) : ∀ r i, r + i = k → ∀ l : List Bool, l.length + r ≤ 100000 → V = l ++ bitsF m r → ∀ j, OutK E 0 1 (y91g (iD xs) xs.length i k l.length m (bbC l) j) (Go.Ev.Ends E Tryz.f91 (.e (.one (.slc 1 0 V.length 1 V.length false))) [bK [.dp (.s (iD xs) xs.length 1)] 1 22, some ⟨bbC V, V.length, 4, false, .cells⟩])
 | 0, i, hi, l, hl, hV, j => by
  obtain rfl : i = k := by omega
  obtain rfl : V = l := by rw [hV]; exact List.append_nil _
  exact p91xg hE (iD xs) xs.length i i V.length m (bbC V) dF (fun j => outK_ret (ends_ret (by kernel_rfl))) j
 | r + 1, i, hi, l, hl, hV, j => by
  have ih := l91g hE xs m hm k hk V r (i + 1) (by omega) (l ++ [bitF m r]) (by simp; omega) (by rw [hV, List.append_assoc]; rfl)
  rw [List.length_append, List.length_singleton] at ih
  exact p91sg hE (iD xs) xs.length i k l.length m (Int.ofNat (m / 2 ^ r)) (((k : Int) - 1)) (Int.ofNat r) (bbC l) (bbC (l ++ [bitF m r])) dT (iIe (by (try simp only [Int.ofNat_eq_natCast]); rw [wrap_id (by omega) (by omega)]; try omega)) (iIe (by (try simp only [Int.ofNat_eq_natCast]); rw [wrap_id (by omega) (by omega)]; try omega)) (shr_ok r (by omega) m hm) (by omega) (by simp [small]; omega) oB (bb_app _ _) oB (iIe (by (try simp only [Int.ofNat_eq_natCast]); rw [wrap_id (by omega) (by omega)]; try omega)) (by first | exact flat_bb _ | exact flat_iC _ | exact flat_rows _) ih j
theorem l91h (hE : EnvOk E) (xs : List Int) (m : Nat) (hm : m < 64) (k : Nat) (hk : k ≤ 6) (V : List Bool) : ∀ r i, r + i = k → ∀ l : List Bool, l.length + r ≤ 100000 → V = l ++ bitsF m r → ∀ j, OutK E 0 2 (y91h (iD xs) xs.length i k l.length m (bbC l) j) (Go.Ev.Ends E Tryz.f91 (.e (.one (.slc 2 0 V.length 1 V.length false))) [bK [.dp (.s (iD xs) xs.length 1)] 1 22, none, some ⟨bbC V, V.length, 4, false, .cells⟩])
 | 0, i, hi, l, hl, hV, j => by
  obtain rfl : i = k := by omega
  obtain rfl : V = l := by rw [hV]; exact List.append_nil _
  exact p91xh hE (iD xs) xs.length i i V.length m (bbC V) dF (fun j => outK_ret (ends_ret (by kernel_rfl))) j
 | r + 1, i, hi, l, hl, hV, j => by
  have ih := l91h hE xs m hm k hk V r (i + 1) (by omega) (l ++ [bitF m r]) (by simp; omega) (by rw [hV, List.append_assoc]; rfl)
  rw [List.length_append, List.length_singleton] at ih
  exact p91sh hE (iD xs) xs.length i k l.length m (Int.ofNat (m / 2 ^ r)) (((k : Int) - 1)) (Int.ofNat r) (bbC l) (bbC (l ++ [bitF m r])) dT (iIe (by (try simp only [Int.ofNat_eq_natCast]); rw [wrap_id (by omega) (by omega)]; try omega)) (iIe (by (try simp only [Int.ofNat_eq_natCast]); rw [wrap_id (by omega) (by omega)]; try omega)) (shr_ok r (by omega) m hm) (by omega) (by simp [small]; omega) oB (bb_app _ _) oB (iIe (by (try simp only [Int.ofNat_eq_natCast]); rw [wrap_id (by omega) (by omega)]; try omega)) (by first | exact flat_bb _ | exact flat_iC _ | exact flat_rows _) ih j
theorem K91n0 (hE : EnvOk E) (xs : List Int) (m : Nat) : COut E 0 [bK [.dp (.s (iD xs) xs.length 1)] 1 22] 91 [(.e (.one (.v (.slice none 0 0)))), iI (Int.ofNat m), iI (Int.ofNat 0)] (.e (.one (.v (.slice none 0 0)))) [bK [.dp (.s (iD xs) xs.length 1)] 1 22] :=
 cOut_start Tryz.func91 rfl (p91an hE (iD xs) xs.length 0 m (p91xn hE (iD xs) xs.length 0 0 m dF (fun j => outK_ret (ends_ret (by kernel_rfl)))) fun _ => undef)
theorem K91o0 (hE : EnvOk E) (xs : List Int) (l : List Bool) (m : Nat) : COut E 0 [bK [.dp (.s (iD xs) xs.length 1)] 1 22, some ⟨bbC l, l.length, 4, false, .cells⟩] 91 [.e (.one (.slc 1 0 l.length 1 l.length false)), iI (Int.ofNat m), iI (Int.ofNat 0)] (.e (.one (.slc 1 0 l.length 1 l.length false))) [bK [.dp (.s (iD xs) xs.length 1)] 1 22, some ⟨bbC l, l.length, 4, false, .cells⟩] :=
 cOut_start Tryz.func91 rfl (p91ao hE (iD xs) xs.length 0 l.length m (bbC l) (p91xo hE (iD xs) xs.length 0 0 l.length m (bbC l) dF (fun j => outK_ret (ends_ret (by kernel_rfl)))) fun _ => undef)
theorem K91n (hE : EnvOk E) (xs : List Int) (m : Nat) (hm : m < 64) (k : Nat) (hk : k + 1 ≤ 6) (V : List Bool) (hV : V = bitsF m (k + 1)) : COut E 0 [bK [.dp (.s (iD xs) xs.length 1)] 1 22] 91 [(.e (.one (.v (.slice none 0 0)))), iI (Int.ofNat m), iI (Int.ofNat (k + 1))] (.e (.one (.slc 1 0 V.length 1 V.length false))) [bK [.dp (.s (iD xs) xs.length 1)] 1 22, some ⟨bbC V, V.length, 4, false, .cells⟩] :=
 cOut_start Tryz.func91 rfl (p91an hE (iD xs) xs.length ((k + 1)) m (p91sn hE (iD xs) xs.length 0 ((k + 1)) m (Int.ofNat (m / 2 ^ k)) (((k + 1 : Nat) : Int) - 1) (Int.ofNat k) dT (iIe (by (try simp only [Int.ofNat_eq_natCast]); rw [wrap_id (by omega) (by omega)]; try omega)) (iIe (by (try simp only [Int.ofNat_eq_natCast]); rw [wrap_id (by omega) (by omega)]; try omega)) (shr_ok k (by omega) m hm) (iIe (by (try simp only [Int.ofNat_eq_natCast]); rw [wrap_id (by omega) (by omega)]; try omega)) (l91g hE xs m hm (k + 1) hk V k 1 (by omega) [bitF m k] (by simp; omega) hV)) fun _ => undef)
theorem K91o (hE : EnvOk E) (xs : List Int) (l : List Bool) (hl : l.length ≤ 90000) (m : Nat) (hm : m < 64) (k : Nat) (hk : k + 1 ≤ 6) (V : List Bool) (hV : V = l ++ bitsF m (k + 1)) : COut E 0 [bK [.dp (.s (iD xs) xs.length 1)] 1 22, some ⟨bbC l, l.length, 4, false, .cells⟩] 91 [.e (.one (.slc 1 0 l.length 1 l.length false)), iI (Int.ofNat m), iI (Int.ofNat (k + 1))] (.e (.one (.slc 2 0 V.length 1 V.length false))) [bK [.dp (.s (iD xs) xs.length 1)] 1 22, none, some ⟨bbC V, V.length, 4, false, .cells⟩] := by
 have ih := l91h hE xs m hm (k + 1) hk V k 1 (by omega) (l ++ [bitF m k]) (by simp; omega) (by rw [hV, List.append_assoc]; rfl)
 rw [List.length_append, List.length_singleton] at ih
 exact cOut_start Tryz.func91 rfl (p91ao hE (iD xs) xs.length ((k + 1)) l.length m (bbC l) (p91so hE (iD xs) xs.length 0 ((k + 1)) l.length m (Int.ofNat (m / 2 ^ k)) (((k + 1 : Nat) : Int) - 1) (Int.ofNat k) (bbC l) (bbC (l ++ [bitF m k])) dT (iIe (by (try simp only [Int.ofNat_eq_natCast]); rw [wrap_id (by omega) (by omega)]; try omega)) (iIe (by (try simp only [Int.ofNat_eq_natCast]); rw [wrap_id (by omega) (by omega)]; try omega)) (shr_ok k (by omega) m hm) (by omega) (by simp [small]; omega) oB (bb_app _ _) oB (iIe (by (try simp only [Int.ofNat_eq_natCast]); rw [wrap_id (by omega) (by omega)]; try omega)) (by first | exact flat_bb _ | exact flat_iC _ | exact flat_rows _) ih) fun _ => undef)
def lvlE : List Int → List Int → Int
 | x :: xs, s :: ss => if rg s 0 (2 ^ x.toNat - 1) = 0 then lvlE xs ss else rg s 0 (2 ^ x.toNat - 1)
 | _, _ => 0
def symE (xs r : List Int) : Int := if r.length = xs.length then lvlE xs r else 2
def symsE (xs : List Int) : List (List Int) → Int
 | [] => 0
 | r :: l => if symE xs r = 0 then symsE xs l else symE xs r
def lvsE (xs : List Int) (L : List (List Int)) : Int := if (L.length : Int) > 1024 then 5 else symsE xs L
theorem l90 (hE : EnvOk E) (xs r : List Int) (hb : ∀ x ∈ xs, 0 ≤ x ∧ x ≤ 6) (hm : xs.length ≤ 8) (he : r.length = xs.length) : ∀ m i, m + i = r.length → ∀ j, OutK E 0 0 (y90 (iD xs) (iD r) xs.length i r.length j) (Go.Ev.Ends E Tryz.f90 (iI (lvlE (xs.drop i) (r.drop i))) [])
 | 0, i, hi, j => by
  obtain rfl : i = r.length := by omega
  have e0 : xs.drop r.length = [] := by rw [he]; exact List.drop_length
  rw [List.drop_length, e0]
  exact p90x hE (iD xs) (iD r) xs.length r.length r.length dF (fun j => outK_ret (ends_ret (by kernel_rfl))) j
 | m + 1, i, hi, j => by
  have hl : i < r.length := by omega
  have hlx : i < xs.length := by omega
  have hx : r[i]? = some r[i] := List.getElem?_eq_getElem hl
  have hz : xs[i]? = some xs[i] := List.getElem?_eq_getElem hlx
  have hb' := hb xs[i] (List.getElem_mem hlx)
  rw [List.drop_eq_getElem_cons hl, List.drop_eq_getElem_cons hlx]
  generalize r[i] = s at hx
  generalize xs[i] = z at hz hb'
  obtain ⟨q, rfl⟩ := Int.eq_ofNat_of_zero_le hb'.1
  have h2 : (2 : Int) ^ ((q : Int)).toNat = Int.ofNat (2 ^ q) := by simp
  have hq : q < 7 := by omega
  have hp1 : 2 ^ q ≤ 64 := Nat.pow_le_pow_right (by decide) (show q ≤ 6 by omega)
  have hp2 : 0 < 2 ^ q := Nat.pos_of_ne_zero (by simp)
  have hw : wrapF .i64 (Int.ofNat (2 ^ q) - 1) = Int.ofNat (2 ^ q) - 1 := wrap_id (by simp only [Int.ofNat_eq_natCast]; omega) (by simp only [Int.ofNat_eq_natCast]; omega)
  by_cases h : rg s 0 (Int.ofNat (2 ^ q) - 1) = 0
  ·rw [show lvlE ((q : Int) :: xs.drop (i + 1)) (s :: r.drop (i + 1)) = lvlE (xs.drop (i + 1)) (r.drop (i + 1)) from if_pos (by rw [h2]; exact h)]
   exact p90s hE (iD xs) (iD r) xs.length i r.length s ((q : Int)) (Int.ofNat (2 ^ q)) ((Int.ofNat (2 ^ q) - 1)) (rg s 0 (Int.ofNat (2 ^ q) - 1)) dT bP (Nat.mul_one _) (gI hx) bP (gI hz) (shl_ok q hq) (iIe hw) (K72 hE _ _ _) (by rw [h]; rfl) (iIe (by (try simp only [Int.ofNat_eq_natCast]); rw [wrap_id (by omega) (by omega)]; try omega)) (l90 hE xs r hb hm he m (i + 1) (by omega)) j
  ·rw [show lvlE ((q : Int) :: xs.drop (i + 1)) (s :: r.drop (i + 1)) = rg s 0 (Int.ofNat (2 ^ q) - 1) by show (if rg s 0 (2 ^ ((q : Int)).toNat - 1) = 0 then _ else rg s 0 (2 ^ ((q : Int)).toNat - 1)) = _; rw [h2, if_neg h]]
   exact p90f hE (iD xs) (iD r) xs.length i r.length s ((q : Int)) (Int.ofNat (2 ^ q)) ((Int.ofNat (2 ^ q) - 1)) (rg s 0 (Int.ofNat (2 ^ q) - 1)) dT bP (Nat.mul_one _) (gI hx) bP (gI hz) (shl_ok q hq) (iIe hw) (K72 hE _ _ _) (bne_iff_ne.2 h) (fun j => outK_ret (ends_ret (by kernel_rfl))) j
theorem K90 (hE : EnvOk E) (xs r : List Int) (hb : ∀ x ∈ xs, 0 ≤ x ∧ x ≤ 6) (hm : xs.length ≤ 8) : COut E 0 [] 90 [dI xs, dI r] (iI (symE xs r)) [] := by
 unfold symE
 by_cases h : r.length = xs.length
 ·rw [if_pos h]
  exact cOut_start Tryz.func90 rfl (p90a hE (iD xs) (iD r) xs.length r.length (by rw [h]; simp) (l90 hE xs r hb hm h r.length 0 rfl) fun _ => undef)
 ·rw [if_neg h]
  exact cOut_start Tryz.func90 rfl (p90n hE (iD xs) (iD r) xs.length r.length (bne_iff_ne.2 (by omega)) (fun j => outK_ret (ends_ret (by kernel_rfl))) fun _ => undef)
theorem K89 (hE : EnvOk E) (xs r : List Int) (hb : ∀ x ∈ xs, 0 ≤ x ∧ x ≤ 6) (hm : xs.length ≤ 8) : COut E 0 [bK [.dp (.s (iD xs) xs.length 1)] 1 22] 89 [dI r, .e (.one (.ptr 0 0))] (iI (symE xs r)) [bK [.dp (.s (iD xs) xs.length 1)] 1 22] :=
 cOut_start Tryz.func89 rfl (p89 hE (iD xs) (iD r) xs.length r.length (symE xs r) (K90 hE xs r hb hm) (fun j => outK_ret (ends_ret (by kernel_rfl))) fun _ => undef)
theorem lz134 (hE : EnvOk E) (xs : List Int) (hb : ∀ x ∈ xs, 0 ≤ x ∧ x ≤ 6) (hm : xs.length ≤ 8) (L : List (List Int)) (hL : L.length ≤ 5000) : ∀ m i, m + i = L.length → ∀ j, OutK E 0 1 (yz134 (iD xs) (rD L) xs.length i L.length j) (Go.Ev.Ends E Tryz.f134 (iI (symsE xs (L.drop i))) [bK [.dp (.s (iD xs) xs.length 1)] 1 22])
 | 0, i, hi, j => by
  obtain rfl : i = L.length := by omega
  rw [List.drop_length]
  exact pz134x hE (iD xs) (rD L) xs.length L.length L.length dF (fun j => outK_ret (ends_ret (by kernel_rfl))) j
 | m + 1, i, hi, j => by
  have hl : i < L.length := by omega
  have hx : L[i]? = some L[i] := List.getElem?_eq_getElem hl
  rw [List.drop_eq_getElem_cons hl]
  generalize L[i] = r at hx
  by_cases h : symE xs r = 0
  ·rw [show symsE xs (r :: L.drop (i + 1)) = symsE xs (L.drop (i + 1)) from if_pos h]
   exact pz134s hE (iD xs) (iD r) (rD L) xs.length i r.length L.length (symE xs r) dT bP (Nat.mul_one _) (gR hx) (K89 hE xs r hb hm) (by rw [h]; rfl) (iIe (by (try simp only [Int.ofNat_eq_natCast]); rw [wrap_id (by omega) (by omega)]; try omega)) (lz134 hE xs hb hm L hL m (i + 1) (by omega)) j
  ·rw [show symsE xs (r :: L.drop (i + 1)) = symE xs r from if_neg h]
   exact pz134e hE (iD xs) (iD r) (rD L) xs.length i r.length L.length (symE xs r) dT bP (Nat.mul_one _) (gR hx) (K89 hE xs r hb hm) (bne_iff_ne.2 h) (fun j => outK_ret (ends_ret (by kernel_rfl))) j
theorem Kz88 (hE : EnvOk E) (xs : List Int) (hb : ∀ x ∈ xs, 0 ≤ x ∧ x ≤ 6) (hm : xs.length ≤ 8) (L : List (List Int)) : COut E 0 [bK [.dp (.s (iD xs) xs.length 1)] 1 22] 88 [dR L, iI 1024, (.e (.one (.clo 89 [] [.one (.ptr 0 0)])))] (iI (lvsE xs L)) [bK [.dp (.s (iD xs) xs.length 1)] 1 22] := by
 unfold lvsE
 by_cases h : (L.length : Int) > 1024
 ·rw [if_pos h]
  exact cOut_start Tryz.func88 rfl (pz88m hE (iD xs) [] (rD L) xs.length 0 0 0 0 L.length 0 0 0 0 0 0 false [] [] (decide_eq_true h) (fun j => outK_ret (ends_ret (by kernel_rfl))) fun _ => undef)
 ·rw [if_neg h]
  have k134 : COut E 0 [bK [.dp (.s (iD xs) xs.length 1)] 1 22] 134 [dR L, (.e (.one (.clo 89 [] [.one (.ptr 0 0)])))] (iI (symsE xs L)) [bK [.dp (.s (iD xs) xs.length 1)] 1 22] := cOut_start Tryz.func134 rfl (pz134a hE (iD xs) [] (rD L) xs.length 0 0 0 0 L.length 0 0 0 0 0 0 false [] [] (lz134 hE xs hb hm L (by omega) L.length 0 rfl) fun _ => undef)
  exact cOut_start Tryz.func88 rfl (pz88s hE (iD xs) [] (rD L) xs.length 0 0 0 0 L.length 0 0 0 0 0 (symsE xs L) false [] [] (decide_eq_false h) k134 (fun j => outK_ret (ends_ret (by kernel_rfl))) fun _ => undef)
end
end Go.Proofs.YtaccakbjankeeaaGreatDoor
end

/-! SeBg -/
section
open Go Go.Ev
namespace Go.Proofs.YtaccakbjankeeaaGreatDoor
noncomputable section
set_option maxRecDepth 100000
set_option maxHeartbeats 20000000
def x29 (C T : List DT) (n t : Nat) (z : Int) (_j : JN) : St := startK Tryz.f29 [] [(dQ C n), (dQ T t), iI z]
def y29n (C T : List DT) (n i t : Nat) (z : Int) (j : JN) : St := ⟨[bK [.dp (.s C n 1)] 1 22], [(.code (aF [1, 1, 1, 1, 1, 0, 1, 0, 0] Tryz.f29)), (.inLoop (aF [1, 1, 1, 1, 1, 0, 1, 0, 0] Tryz.f29)), (.inBlock 0), (.code (aF [1, 1, 1, 1, 1, 1] Tryz.f29))], mkT j [(2, (iI z)), (3, (.e (.one (.ptr 0 0)))), (10, (.e (.one (.v (.slice none 0 0))))), (30, (dQ T t)), (31, (iN t)), (32, (iN i))] 60 0⟩
def y29o (C T : List DT) (n i q t : Nat) (z : Int) (D : List AC) (j : JN) : St := ⟨[bK [.dp (.s C n 1)] 1 22, some ⟨D, q, 4, false, .cells⟩], [(.code (aF [1, 1, 1, 1, 1, 0, 1, 0, 0] Tryz.f29)), (.inLoop (aF [1, 1, 1, 1, 1, 0, 1, 0, 0] Tryz.f29)), (.inBlock 0), (.code (aF [1, 1, 1, 1, 1, 1] Tryz.f29))], mkT j [(2, (iI z)), (3, (.e (.one (.ptr 0 0)))), (10, (.e (.one (.slc 1 0 q 1 q false)))), (30, (dQ T t)), (31, (iN t)), (32, (iN i))] 60 0⟩
def y29xn (C T : List DT) (n t : Nat) (j : JN) : St := ⟨[bK [.dp (.s C n 1)] 1 22], [(.code (aF [1, 1, 1, 1, 1, 0, 1, 0, 0] Tryz.f29)), (.inLoop (aF [1, 1, 1, 1, 1, 0, 1, 0, 0] Tryz.f29)), (.inBlock 0), (.code (aF [1, 1, 1, 1, 1, 1] Tryz.f29))], mkT j [(2, (iI 0)), (3, (.e (.one (.ptr 0 0)))), (10, (.e (.one (.v (.slice none 0 0))))), (30, (dQ T t)), (31, (iN t)), (32, (iN t))] 60 0⟩
def y29xo (C T : List DT) (n q t u : Nat) (D : List AC) (j : JN) : St := ⟨[bK [.dp (.s C n 1)] 1 22, some ⟨D, q, 4, false, .cells⟩], [(.code (aF [1, 1, 1, 1, 1, 0, 1, 0, 0] Tryz.f29)), (.inLoop (aF [1, 1, 1, 1, 1, 0, 1, 0, 0] Tryz.f29)), (.inBlock 0), (.code (aF [1, 1, 1, 1, 1, 1] Tryz.f29))], mkT j [(2, (iN u)), (3, (.e (.one (.ptr 0 0)))), (10, (.e (.one (.slc 1 0 q 1 q false)))), (30, (dQ T t)), (31, (iN t)), (32, (iN t))] 60 0⟩
def y29in (C R T : List DT) (n i k m t : Nat) (z : Int) (j : JN) : St := ⟨[(bK [(.dp (.s C n 1))] 1 22)], [(.code (aF [1, 1, 1, 1, 1, 0, 1, 0, 0, 1, 1, 0, 0, 1, 1, 0, 0] Tryz.f29)), (.inLoop (aF [1, 1, 1, 1, 1, 0, 1, 0, 0, 1, 1, 0, 0, 1, 1, 0, 0] Tryz.f29)), (.inBlock 2), (.inBlock 1), (.code (aF [1, 1, 1, 1, 1, 0, 1, 0, 0, 1, 1, 1] Tryz.f29)), (.inLoop (aF [1, 1, 1, 1, 1, 0, 1, 0, 0] Tryz.f29)), (.inBlock 0), (.code (aF [1, 1, 1, 1, 1, 1] Tryz.f29))], mkT j [(2, (iI z)), (3, (.e (.one (.ptr 0 0)))), (10, (.e (.one (.v (.slice none 0 0))))), (30, (dQ T t)), (31, (iN t)), (32, (iN i)), (36, (dQ R m)), (37, (iN m)), (38, (iN k))] 60 0⟩
def y29io (C R T : List DT) (n i k q m t : Nat) (z : Int) (D : List AC) (j : JN) : St := ⟨[(bK [(.dp (.s C n 1))] 1 22), (.some ⟨(D), q, 4, false, .cells⟩)], [(.code (aF [1, 1, 1, 1, 1, 0, 1, 0, 0, 1, 1, 0, 0, 1, 1, 0, 0] Tryz.f29)), (.inLoop (aF [1, 1, 1, 1, 1, 0, 1, 0, 0, 1, 1, 0, 0, 1, 1, 0, 0] Tryz.f29)), (.inBlock 2), (.inBlock 1), (.code (aF [1, 1, 1, 1, 1, 0, 1, 0, 0, 1, 1, 1] Tryz.f29)), (.inLoop (aF [1, 1, 1, 1, 1, 0, 1, 0, 0] Tryz.f29)), (.inBlock 0), (.code (aF [1, 1, 1, 1, 1, 1] Tryz.f29))], mkT j [(2, (iI z)), (3, (.e (.one (.ptr 0 0)))), (10, (.e (.one (.slc 1 0 q 1 q false)))), (30, (dQ T t)), (31, (iN t)), (32, (iN i)), (36, (dQ R m)), (37, (iN m)), (38, (iN k))] 60 0⟩
def p29e_end (e : Int) (j : JN) : St := ⟨[], [(.code .ret), (.code (aF [1, 1] Tryz.f29))], mkT j [(6, (.e (.one (.v (.slice none 0 0))))), (7, (iI e))] 60 0⟩
theorem p29e (hE : EnvOk E) (C T : List DT) (n t : Nat) (z e : Int) (h0 : COut E 0 [] 84 [(dQ C n)] (iI e) []) (h2 : (e != (0 : Int) : Bool) = true) {Φ : Res → Prop} (ho : ∀ j, OutK E 0 0 (p29e_end e j) Φ) (j : JN) : OutK E 0 0 (x29 C T n t z j) Φ :=
 oS hE [.run 4, (.ops [(1, (.c0 (iI e)))] []), .run 2, (.cond true), .run 2] [6, 7] (s' := fun j => ⟨[(bK [(.dp (.s C n 1))] 1 22)], [(.code .ret), (.code (aF [1, 1] Tryz.f29))], mkT j [(6, (.e (.one (.v (.slice none 0 0))))), (7, (iI e))] 60 0⟩) (aP h0 <| aN <| aP h2 <| aZ)
  fun j => gZ [] (ho j)
def p29f_end (h : Int) (j : JN) : St := ⟨[], [(.code .ret), (.code (aF [1, 1, 1, 1] Tryz.f29))], mkT j [(6, (.e (.one (.v (.slice none 0 0))))), (7, (iI h))] 60 0⟩
theorem p29f (hE : EnvOk E) (C T : List DT) (n t : Nat) (z e f g h : Int) (h0 : COut E 0 [] 84 [(dQ C n)] (iI e) []) (h2 : (e != (0 : Int) : Bool) = false) (h3 : COut E 0 [(bK [(.dp (.s C n 1))] 1 22)] 88 [(dQ T t), (iI 1024), (.e (.one (.clo 89 [] [(.one (.ptr 0 0))])))] (iI f) [(bK [(.dp (.s C n 1))] 1 22)]) (h4 : COut E 0 [] 72 [(iI z), (iI 0), (iI 1024)] (iI g) []) (h6 : COut E 2 [(bK [(.dp (.s C n 1))] 1 22), (bK [(.v (.int .i64 f)), (.v (.int .i64 g))] 2 29)] 69 [(.e (.one (.slc 1 0 2 1 2 true)))] (iI h) [(bK [(.dp (.s C n 1))] 1 22), (bK [(.v (.int .i64 f)), (.v (.int .i64 g))] 2 29)]) (h8 : (h != (0 : Int) : Bool) = true) {Φ : Res → Prop} (ho : ∀ j, OutK E 0 0 (p29f_end h j) Φ) (j : JN) : OutK E 0 0 (x29 C T n t z j) Φ :=
 oS hE [.run 4, (.ops [(1, (.c0 (iI e)))] []), .run 2, (.cond false), .run 2, (.ops [(2, (.cw (iI f) [(bK [(.dp (.s C n 1))] 1 22)])), (4, (.c0 (iI g))), (6, (.d (.c1 (iI h))))] []), .run 3, (.cond true), .run 2] [6, 7] (s' := fun j => ⟨[(bK [(.dp (.s C n 1))] 1 22), (bK [(.v (.int .i64 f)), (.v (.int .i64 g))] 2 29)], [(.code .ret), (.code (aF [1, 1, 1, 1] Tryz.f29))], mkT j [(6, (.e (.one (.v (.slice none 0 0))))), (7, (iI h))] 60 0⟩) (aP h0 <| aN <| aP h2 <| aP h3 <| aP h4 <| aN <| aP h6 <| aN <| aP h8 <| aZ)
  fun j => gZ [] (ho j)
def p29a_end (C T : List DT) (n t : Nat) (z : Int) (j : JN) : St := ⟨[(bK [(.dp (.s C n 1))] 1 22)], [(.code (aF [1, 1, 1, 1, 1, 0, 1, 0, 0] Tryz.f29)), (.inLoop (aF [1, 1, 1, 1, 1, 0, 1, 0, 0] Tryz.f29)), (.inBlock 0), (.code (aF [1, 1, 1, 1, 1, 1] Tryz.f29))], mkT j [(2, (iI z)), (3, (.e (.one (.ptr 0 0)))), (10, (.e (.one (.v (.slice none 0 0))))), (30, (dQ T t)), (31, (iN t)), (32, (iI 0))] 60 0⟩
theorem p29a (hE : EnvOk E) (C T : List DT) (n t : Nat) (z e f g h : Int) (h0 : COut E 0 [] 84 [(dQ C n)] (iI e) []) (h2 : (e != (0 : Int) : Bool) = false) (h3 : COut E 0 [(bK [(.dp (.s C n 1))] 1 22)] 88 [(dQ T t), (iI 1024), (.e (.one (.clo 89 [] [(.one (.ptr 0 0))])))] (iI f) [(bK [(.dp (.s C n 1))] 1 22)]) (h4 : COut E 0 [] 72 [(iI z), (iI 0), (iI 1024)] (iI g) []) (h6 : COut E 2 [(bK [(.dp (.s C n 1))] 1 22), (bK [(.v (.int .i64 f)), (.v (.int .i64 g))] 2 29)] 69 [(.e (.one (.slc 1 0 2 1 2 true)))] (iI h) [(bK [(.dp (.s C n 1))] 1 22), (bK [(.v (.int .i64 f)), (.v (.int .i64 g))] 2 29)]) (h8 : (h != (0 : Int) : Bool) = false) {Φ : Res → Prop} (ho : ∀ j, OutK E 0 0 (p29a_end C T n t z j) Φ) (j : JN) : OutK E 0 0 (x29 C T n t z j) Φ :=
 oS hE [.run 4, (.ops [(1, (.c0 (iI e)))] []), .run 2, (.cond false), .run 2, (.ops [(2, (.cw (iI f) [(bK [(.dp (.s C n 1))] 1 22)])), (4, (.c0 (iI g))), (6, (.d (.c1 (iI h))))] []), .run 3, (.cond false), .run 5, (.ops [(1, (.d .len))] []), .run 2] [2, 3, 10, 30, 31, 32] (s' := fun j => ⟨[(bK [(.dp (.s C n 1))] 1 22), (bK [(.v (.int .i64 f)), (.v (.int .i64 g))] 2 29)], [(.code (aF [1, 1, 1, 1, 1, 0, 1, 0, 0] Tryz.f29)), (.inLoop (aF [1, 1, 1, 1, 1, 0, 1, 0, 0] Tryz.f29)), (.inBlock 0), (.code (aF [1, 1, 1, 1, 1, 1] Tryz.f29))], mkT j [(2, (iI z)), (3, (.e (.one (.ptr 0 0)))), (10, (.e (.one (.v (.slice none 0 0))))), (30, (dQ T t)), (31, (iN t)), (32, (iI 0))] 60 0⟩) (aP h0 <| aN <| aP h2 <| aP h3 <| aP h4 <| aN <| aP h6 <| aN <| aP h8 <| aZ)
  fun j => gZ [0] (ho j)
def p29bn_end (C R T : List DT) (n i m t : Nat) (z : Int) (j : JN) : St := ⟨[(bK [(.dp (.s C n 1))] 1 22)], [(.code (aF [1, 1, 1, 1, 1, 0, 1, 0, 0, 1, 1, 0, 0, 1, 1, 0, 0] Tryz.f29)), (.inLoop (aF [1, 1, 1, 1, 1, 0, 1, 0, 0, 1, 1, 0, 0, 1, 1, 0, 0] Tryz.f29)), (.inBlock 2), (.inBlock 1), (.code (aF [1, 1, 1, 1, 1, 0, 1, 0, 0, 1, 1, 1] Tryz.f29)), (.inLoop (aF [1, 1, 1, 1, 1, 0, 1, 0, 0] Tryz.f29)), (.inBlock 0), (.code (aF [1, 1, 1, 1, 1, 1] Tryz.f29))], mkT j [(2, (iI z)), (3, (.e (.one (.ptr 0 0)))), (10, (.e (.one (.v (.slice none 0 0))))), (30, (dQ T t)), (31, (iN t)), (32, (iN i)), (36, (dQ R m)), (37, (iN m)), (38, (iI 0))] 60 0⟩
theorem p29bn (hE : EnvOk E) (C R T : List DT) (n i m t : Nat) (z : Int) (h0 : (decide (Int.ofNat i < Int.ofNat t) : Bool) = true) (h1 : (0 : Int) ≤ Int.ofNat i ∧ Int.ofNat i < (↑t : Int)) (h2 : ((Int.ofNat i).toNat * nat_lit 1 : Nat) = i) (h3 : (getL T i : Option DT) = (.some (.s R m 1))) {Φ : Res → Prop} (ho : ∀ j, OutK E 0 0 (p29bn_end C R T n i m t z j) Φ) (j : JN) : OutK E 0 0 (y29n C T n i t z j) Φ :=
 oS hE [.run 3, (.cond true), .run 4, (.ops [(1, (.d (.ld (.s R m 1)))), (0, (.d (.ix i)))] []), .run 1, (.ops [(1, (.d .len))] []), .run 2] [2, 3, 10, 30, 31, 32, 36, 37, 38] (aQ h0 h1 h2 h3 <| aZ)
  ho
def p29yn_end (j : JN) : St := ⟨[], [(.code .ret), (.code (aF [1, 1, 1, 1, 1, 1, 1] Tryz.f29))], mkT j [(6, (.e (.one (.v (.slice none 0 0))))), (7, (iI 16))] 60 0⟩
theorem p29yn (hE : EnvOk E) (C T : List DT) (n i t : Nat) (z : Int) (h0 : (decide (Int.ofNat i < Int.ofNat t) : Bool) = false) (h1 : (decide ((↑(nat_lit 0) : Int) < z) : Bool) = true) {Φ : Res → Prop} (ho : ∀ j, OutK E 0 0 (p29yn_end j) Φ) (j : JN) : OutK E 0 0 (y29n C T n i t z j) Φ :=
 oS hE [.run 3, (.cond false), .run 4, (.cond true), .run 2] [6, 7] (s' := fun j => ⟨[(bK [(.dp (.s C n 1))] 1 22)], [(.code .ret), (.code (aF [1, 1, 1, 1, 1, 1, 1] Tryz.f29))], mkT j [(6, (.e (.one (.v (.slice none 0 0))))), (7, (iI 16))] 60 0⟩) (aP h0 <| aP h1 <| aZ)
  fun j => gZ [] (ho j)
def p29bo_end (C R T : List DT) (n i q m t : Nat) (z : Int) (D : List AC) (j : JN) : St := ⟨[(bK [(.dp (.s C n 1))] 1 22), (.some ⟨(D), q, 4, false, .cells⟩)], [(.code (aF [1, 1, 1, 1, 1, 0, 1, 0, 0, 1, 1, 0, 0, 1, 1, 0, 0] Tryz.f29)), (.inLoop (aF [1, 1, 1, 1, 1, 0, 1, 0, 0, 1, 1, 0, 0, 1, 1, 0, 0] Tryz.f29)), (.inBlock 2), (.inBlock 1), (.code (aF [1, 1, 1, 1, 1, 0, 1, 0, 0, 1, 1, 1] Tryz.f29)), (.inLoop (aF [1, 1, 1, 1, 1, 0, 1, 0, 0] Tryz.f29)), (.inBlock 0), (.code (aF [1, 1, 1, 1, 1, 1] Tryz.f29))], mkT j [(2, (iI z)), (3, (.e (.one (.ptr 0 0)))), (10, (.e (.one (.slc 1 0 q 1 q false)))), (30, (dQ T t)), (31, (iN t)), (32, (iN i)), (36, (dQ R m)), (37, (iN m)), (38, (iI 0))] 60 0⟩
theorem p29bo (hE : EnvOk E) (C R T : List DT) (n i q m t : Nat) (z : Int) (D : List AC) (h0 : (decide (Int.ofNat i < Int.ofNat t) : Bool) = true) (h1 : (0 : Int) ≤ Int.ofNat i ∧ Int.ofNat i < (↑t : Int)) (h2 : ((Int.ofNat i).toNat * nat_lit 1 : Nat) = i) (h3 : (getL T i : Option DT) = (.some (.s R m 1))) {Φ : Res → Prop} (ho : ∀ j, OutK E 0 0 (p29bo_end C R T n i q m t z D j) Φ) (j : JN) : OutK E 0 0 (y29o C T n i q t z D j) Φ :=
 oS hE [.run 3, (.cond true), .run 4, (.ops [(1, (.d (.ld (.s R m 1)))), (0, (.d (.ix i)))] []), .run 1, (.ops [(1, (.d .len))] []), .run 2] [2, 3, 10, 30, 31, 32, 36, 37, 38] (aQ h0 h1 h2 h3 <| aZ)
  ho
def p29yo_end (j : JN) : St := ⟨[], [(.code .ret), (.code (aF [1, 1, 1, 1, 1, 1, 1] Tryz.f29))], mkT j [(6, (.e (.one (.v (.slice none 0 0))))), (7, (iI 16))] 60 0⟩
theorem p29yo (hE : EnvOk E) (C T : List DT) (n i q t : Nat) (z : Int) (D : List AC) (h0 : (decide (Int.ofNat i < Int.ofNat t) : Bool) = false) (h1 : (decide ((↑q : Int) < z) : Bool) = true) {Φ : Res → Prop} (ho : ∀ j, OutK E 0 0 (p29yo_end j) Φ) (j : JN) : OutK E 0 0 (y29o C T n i q t z D j) Φ :=
 oS hE [.run 3, (.cond false), .run 4, (.cond true), .run 2] [6, 7] (s' := fun j => ⟨[(bK [(.dp (.s C n 1))] 1 22), (.some ⟨(D), q, 4, false, .cells⟩)], [(.code .ret), (.code (aF [1, 1, 1, 1, 1, 1, 1] Tryz.f29))], mkT j [(6, (.e (.one (.v (.slice none 0 0))))), (7, (iI 16))] 60 0⟩) (aP h0 <| aP h1 <| aZ)
  fun j => gZ [] (ho j)
def p29xn_end (j : JN) : St := ⟨[], [(.code .ret)], mkT j [(6, (.e (.one (.v (.slice none 0 0))))), (7, (iI 0))] 60 0⟩
theorem p29xn (hE : EnvOk E) (C T : List DT) (n t : Nat) (h0 : (decide (Int.ofNat t < Int.ofNat t) : Bool) = false) {Φ : Res → Prop} (ho : ∀ j, OutK E 0 0 (p29xn_end j) Φ) (j : JN) : OutK E 0 0 (y29xn C T n t j) Φ :=
 oS hE [.run 3, (.cond false), .run 8] [6, 7] (s' := fun j => ⟨[(bK [(.dp (.s C n 1))] 1 22)], [(.code .ret)], mkT j [(6, (.e (.one (.v (.slice none 0 0))))), (7, (iI 0))] 60 0⟩) (aP h0 <| aZ)
  fun j => gZ [] (ho j)
def p29xo_end (q u : Nat) (D : List AC) (j : JN) : St := ⟨[(.some ⟨(D), q, 4, false, .cells⟩)], [(.code .ret)], mkT j [(6, (.e (.one (.slc 0 0 u 1 q false)))), (7, (iI 0))] 60 0⟩
theorem p29xo (hE : EnvOk E) (C T : List DT) (n q t u : Nat) (D : List AC) (h0 : (decide (Int.ofNat t < Int.ofNat t) : Bool) = false) (h1 : (decide ((↑q : Int) < Int.ofNat u) : Bool) = false) (h4 : (0 : Nat) ≤ u ∧ u ≤ q) (h6 : (u : Nat) = u - (0 : Nat)) (h7 : (q : Nat) = q - (0 : Nat)) (g0 : FlatC D) {Φ : Res → Prop} (ho : ∀ j, OutK E 0 0 (p29xo_end q u D j) Φ) (j : JN) : OutK E 0 0 (y29xo C T n q t u D j) Φ :=
 oS hE [.run 3, (.cond false), .run 4, (.cond false), .run 2, (.ops [(2, (.slo 0 u 0 u q))] [])] [6, 7] (s' := fun j => ⟨[(bK [(.dp (.s C n 1))] 1 22), (.some ⟨(D), q, 4, false, .cells⟩)], [(.code .ret)], mkT j [(6, (.e (.one (.slc 1 0 u 1 q false)))), (7, (iI 0))] 60 0⟩) (aP h0 <| aP h1 <| aP (rfl : ((0 : Int) : Int) = Int.ofNat (0 : Nat)) <| aP (rfl : (Int.ofNat u : Int) = Int.ofNat u) <| aP h4 <| aP (rfl : ((0 : Nat) : Nat) = (0 : Nat)) <| aP h6 <| aP h7 <| aZ)
  fun j => outK_gcF [1] [true] (h' := [(.some ⟨(D), q, 4, false, .cells⟩)]) (by decide) (by kernel_rfl) (by kernel_rfl) ⟨g0, trivial⟩ (by kernel_rfl) (ho j)
def p29cn_end (C T : List DT) (n i t : Nat) (z : Int) (j : JN) : St := ⟨[(bK [(.dp (.s C n 1))] 1 22)], [(.code (aF [1, 1, 1, 1, 1, 0, 1, 0, 0] Tryz.f29)), (.inLoop (aF [1, 1, 1, 1, 1, 0, 1, 0, 0] Tryz.f29)), (.inBlock 0), (.code (aF [1, 1, 1, 1, 1, 1] Tryz.f29))], mkT j [(2, (iI z)), (3, (.e (.one (.ptr 0 0)))), (10, (.e (.one (.v (.slice none 0 0))))), (30, (dQ T t)), (31, (iN t)), (32, (iN (i + 1)))] 60 0⟩
theorem p29cn (hE : EnvOk E) (C R T : List DT) (n i k m t : Nat) (z : Int) (h0 : (decide (Int.ofNat k < Int.ofNat m) : Bool) = false) (h1 : ((iI (wrapF IntKind.i64 (Int.ofNat i + (1 : Int)))) : AV) = (iN (i + 1))) {Φ : Res → Prop} (ho : ∀ j, OutK E 0 0 (p29cn_end C T n i t z j) Φ) (j : JN) : OutK E 0 0 (y29in C R T n i k m t z j) Φ :=
 oS hE [.run 3, (.cond false), .run 2, (.ops [(0, (.rn (iN (i + 1))))] []), .run 1] [2, 3, 10, 30, 31, 32] (aP h0 <| aP h1 <| aZ)
  ho
def p29zn_end (C R T : List DT) (n i k m t : Nat) (z : Int) (j : JN) : St := ⟨[(bK [(.dp (.s C n 1))] 1 22)], [(.code (aF [1, 1, 1, 1, 1, 0, 1, 0, 0, 1, 1, 0, 0, 1, 1, 0, 0] Tryz.f29)), (.inLoop (aF [1, 1, 1, 1, 1, 0, 1, 0, 0, 1, 1, 0, 0, 1, 1, 0, 0] Tryz.f29)), (.inBlock 2), (.inBlock 1), (.code (aF [1, 1, 1, 1, 1, 0, 1, 0, 0, 1, 1, 1] Tryz.f29)), (.inLoop (aF [1, 1, 1, 1, 1, 0, 1, 0, 0] Tryz.f29)), (.inBlock 0), (.code (aF [1, 1, 1, 1, 1, 1] Tryz.f29))], mkT j [(2, (iI z)), (3, (.e (.one (.ptr 0 0)))), (10, (.e (.one (.v (.slice none 0 0))))), (30, (dQ T t)), (31, (iN t)), (32, (iN i)), (36, (dQ R m)), (37, (iN m)), (38, (iN (k + 1)))] 60 0⟩
theorem p29zn (hE : EnvOk E) (C R T : List DT) (n i k m t : Nat) (x z s w : Int) (h0 : (decide (Int.ofNat k < Int.ofNat m) : Bool) = true) (h1 : (0 : Int) ≤ Int.ofNat k ∧ Int.ofNat k < (↑m : Int)) (h2 : ((Int.ofNat k).toNat * nat_lit 1 : Nat) = k) (h3 : (getL R k : Option DT) = (.some (.v (.int .i64 s)))) (h4 : COut E 0 [] 92 [(iI s)] (iI w) []) (h6 : (0 : Int) ≤ Int.ofNat k ∧ Int.ofNat k < (↑n : Int)) (h8 : (getL C k : Option DT) = (.some (.v (.int .i64 x)))) (h10 : COut E 0 [(bK [(.dp (.s C n 1))] 1 22)] 91 [(.e (.one (.v (.slice none 0 0)))), (iI w), (iI x)] (.e (.one (.v (.slice none 0 0)))) [(bK [(.dp (.s C n 1))] 1 22)]) (h11 : ((iI (wrapF IntKind.i64 (Int.ofNat k + (1 : Int)))) : AV) = (iN (k + 1))) {Φ : Res → Prop} (ho : ∀ j, OutK E 0 0 (p29zn_end C R T n i k m t z j) Φ) (j : JN) : OutK E 0 0 (y29in C R T n i k m t z j) Φ :=
 oS hE [.run 3, (.cond true), .run 4, (.ops [(2, (.d (.ld (.v (.int .i64 s))))), (1, (.d (.ix k)))] []), (.ops [(2, (.c0 (iI w))), (6, (.d (.ld (.v (.int .i64 x))))), (7, (.cw (.e (.one (.v (.slice none 0 0)))) [(bK [(.dp (.s C n 1))] 1 22)])), (5, (.d (.ix k)))] []), .run 1, (.ops [(0, (.rn (iN (k + 1))))] []), .run 1] [2, 3, 10, 30, 31, 32, 36, 37, 38] (aQ h0 h1 h2 h3 <| aP h4 <| aN <| aP h6 <| aP h2 <| aP h8 <| aV <| aP h10 <| aP h11 <| aZ)
  ho
def p29sn_end (C R T : List DT) (n i k m t u : Nat) (z : Int) (Y : List AC) (j : JN) : St := ⟨[(bK [(.dp (.s C n 1))] 1 22), (.some ⟨(Y), u, 4, false, .cells⟩)], [(.code (aF [1, 1, 1, 1, 1, 0, 1, 0, 0, 1, 1, 0, 0, 1, 1, 0, 0] Tryz.f29)), (.inLoop (aF [1, 1, 1, 1, 1, 0, 1, 0, 0, 1, 1, 0, 0, 1, 1, 0, 0] Tryz.f29)), (.inBlock 2), (.inBlock 1), (.code (aF [1, 1, 1, 1, 1, 0, 1, 0, 0, 1, 1, 1] Tryz.f29)), (.inLoop (aF [1, 1, 1, 1, 1, 0, 1, 0, 0] Tryz.f29)), (.inBlock 0), (.code (aF [1, 1, 1, 1, 1, 1] Tryz.f29))], mkT j [(2, (iI z)), (3, (.e (.one (.ptr 0 0)))), (10, (.e (.one (.slc 1 0 u 1 u false)))), (30, (dQ T t)), (31, (iN t)), (32, (iN i)), (36, (dQ R m)), (37, (iN m)), (38, (iN (k + 1)))] 60 0⟩
theorem p29sn (hE : EnvOk E) (C R T : List DT) (n i k m t u : Nat) (x z s w : Int) (Y : List AC) (h0 : (decide (Int.ofNat k < Int.ofNat m) : Bool) = true) (h1 : (0 : Int) ≤ Int.ofNat k ∧ Int.ofNat k < (↑m : Int)) (h2 : ((Int.ofNat k).toNat * nat_lit 1 : Nat) = k) (h3 : (getL R k : Option DT) = (.some (.v (.int .i64 s)))) (h4 : COut E 0 [] 92 [(iI s)] (iI w) []) (h6 : (0 : Int) ≤ Int.ofNat k ∧ Int.ofNat k < (↑n : Int)) (h8 : (getL C k : Option DT) = (.some (.v (.int .i64 x)))) (h10 : COut E 0 [(bK [(.dp (.s C n 1))] 1 22)] 91 [(.e (.one (.v (.slice none 0 0)))), (iI w), (iI x)] (.e (.one (.slc 1 0 u 1 u false))) [(bK [(.dp (.s C n 1))] 1 22), (.some ⟨(Y), u, 4, false, .cells⟩)]) (h11 : ((iI (wrapF IntKind.i64 (Int.ofNat k + (1 : Int)))) : AV) = (iN (k + 1))) {Φ : Res → Prop} (ho : ∀ j, OutK E 0 0 (p29sn_end C R T n i k m t u z Y j) Φ) (j : JN) : OutK E 0 0 (y29in C R T n i k m t z j) Φ :=
 oS hE [.run 3, (.cond true), .run 4, (.ops [(2, (.d (.ld (.v (.int .i64 s))))), (1, (.d (.ix k)))] []), (.ops [(2, (.c0 (iI w))), (6, (.d (.ld (.v (.int .i64 x))))), (7, (.cw (.e (.one (.slc 1 0 u 1 u false))) [(bK [(.dp (.s C n 1))] 1 22), (.some ⟨(Y), u, 4, false, .cells⟩)])), (5, (.d (.ix k)))] []), .run 1, (.ops [(0, (.rn (iN (k + 1))))] []), .run 1] [2, 3, 10, 30, 31, 32, 36, 37, 38] (aQ h0 h1 h2 h3 <| aP h4 <| aN <| aP h6 <| aP h2 <| aP h8 <| aV <| aP h10 <| aP h11 <| aZ)
  ho
def p29co_end (C T : List DT) (n i q t : Nat) (z : Int) (D : List AC) (j : JN) : St := ⟨[(bK [(.dp (.s C n 1))] 1 22), (.some ⟨(D), q, 4, false, .cells⟩)], [(.code (aF [1, 1, 1, 1, 1, 0, 1, 0, 0] Tryz.f29)), (.inLoop (aF [1, 1, 1, 1, 1, 0, 1, 0, 0] Tryz.f29)), (.inBlock 0), (.code (aF [1, 1, 1, 1, 1, 1] Tryz.f29))], mkT j [(2, (iI z)), (3, (.e (.one (.ptr 0 0)))), (10, (.e (.one (.slc 1 0 q 1 q false)))), (30, (dQ T t)), (31, (iN t)), (32, (iN (i + 1)))] 60 0⟩
theorem p29co (hE : EnvOk E) (C R T : List DT) (n i k q m t : Nat) (z : Int) (D : List AC) (h0 : (decide (Int.ofNat k < Int.ofNat m) : Bool) = false) (h1 : ((iI (wrapF IntKind.i64 (Int.ofNat i + (1 : Int)))) : AV) = (iN (i + 1))) {Φ : Res → Prop} (ho : ∀ j, OutK E 0 0 (p29co_end C T n i q t z D j) Φ) (j : JN) : OutK E 0 0 (y29io C R T n i k q m t z D j) Φ :=
 oS hE [.run 3, (.cond false), .run 2, (.ops [(0, (.rn (iN (i + 1))))] []), .run 1] [2, 3, 10, 30, 31, 32] (aP h0 <| aP h1 <| aZ)
  ho
def p29zo_end (C R T : List DT) (n i k q m t : Nat) (z : Int) (D : List AC) (j : JN) : St := ⟨[(bK [(.dp (.s C n 1))] 1 22), (.some ⟨(D), q, 4, false, .cells⟩)], [(.code (aF [1, 1, 1, 1, 1, 0, 1, 0, 0, 1, 1, 0, 0, 1, 1, 0, 0] Tryz.f29)), (.inLoop (aF [1, 1, 1, 1, 1, 0, 1, 0, 0, 1, 1, 0, 0, 1, 1, 0, 0] Tryz.f29)), (.inBlock 2), (.inBlock 1), (.code (aF [1, 1, 1, 1, 1, 0, 1, 0, 0, 1, 1, 1] Tryz.f29)), (.inLoop (aF [1, 1, 1, 1, 1, 0, 1, 0, 0] Tryz.f29)), (.inBlock 0), (.code (aF [1, 1, 1, 1, 1, 1] Tryz.f29))], mkT j [(2, (iI z)), (3, (.e (.one (.ptr 0 0)))), (10, (.e (.one (.slc 1 0 q 1 q false)))), (30, (dQ T t)), (31, (iN t)), (32, (iN i)), (36, (dQ R m)), (37, (iN m)), (38, (iN (k + 1)))] 60 0⟩
theorem p29zo (hE : EnvOk E) (C R T : List DT) (n i k q m t : Nat) (x z s w : Int) (D : List AC) (h0 : (decide (Int.ofNat k < Int.ofNat m) : Bool) = true) (h1 : (0 : Int) ≤ Int.ofNat k ∧ Int.ofNat k < (↑m : Int)) (h2 : ((Int.ofNat k).toNat * nat_lit 1 : Nat) = k) (h3 : (getL R k : Option DT) = (.some (.v (.int .i64 s)))) (h4 : COut E 0 [] 92 [(iI s)] (iI w) []) (h6 : (0 : Int) ≤ Int.ofNat k ∧ Int.ofNat k < (↑n : Int)) (h8 : (getL C k : Option DT) = (.some (.v (.int .i64 x)))) (h10 : COut E 0 [(bK [(.dp (.s C n 1))] 1 22), (.some ⟨(D), q, 4, false, .cells⟩)] 91 [(.e (.one (.slc 1 0 q 1 q false))), (iI w), (iI x)] (.e (.one (.slc 1 0 q 1 q false))) [(bK [(.dp (.s C n 1))] 1 22), (.some ⟨(D), q, 4, false, .cells⟩)]) (h11 : ((iI (wrapF IntKind.i64 (Int.ofNat k + (1 : Int)))) : AV) = (iN (k + 1))) {Φ : Res → Prop} (ho : ∀ j, OutK E 0 0 (p29zo_end C R T n i k q m t z D j) Φ) (j : JN) : OutK E 0 0 (y29io C R T n i k q m t z D j) Φ :=
 oS hE [.run 3, (.cond true), .run 4, (.ops [(2, (.d (.ld (.v (.int .i64 s))))), (1, (.d (.ix k)))] []), (.ops [(2, (.c0 (iI w))), (6, (.d (.ld (.v (.int .i64 x))))), (7, (.cw (.e (.one (.slc 1 0 q 1 q false))) [(bK [(.dp (.s C n 1))] 1 22), (.some ⟨(D), q, 4, false, .cells⟩)])), (5, (.d (.ix k)))] []), .run 1, (.ops [(0, (.rn (iN (k + 1))))] []), .run 1] [2, 3, 10, 30, 31, 32, 36, 37, 38] (aQ h0 h1 h2 h3 <| aP h4 <| aN <| aP h6 <| aP h2 <| aP h8 <| aV <| aP h10 <| aP h11 <| aZ)
  ho
def p29so_end (C R T : List DT) (n i k m t u : Nat) (z : Int) (Y : List AC) (j : JN) : St := ⟨[(bK [(.dp (.s C n 1))] 1 22), (.some ⟨(Y), u, 4, false, .cells⟩)], [(.code (aF [1, 1, 1, 1, 1, 0, 1, 0, 0, 1, 1, 0, 0, 1, 1, 0, 0] Tryz.f29)), (.inLoop (aF [1, 1, 1, 1, 1, 0, 1, 0, 0, 1, 1, 0, 0, 1, 1, 0, 0] Tryz.f29)), (.inBlock 2), (.inBlock 1), (.code (aF [1, 1, 1, 1, 1, 0, 1, 0, 0, 1, 1, 1] Tryz.f29)), (.inLoop (aF [1, 1, 1, 1, 1, 0, 1, 0, 0] Tryz.f29)), (.inBlock 0), (.code (aF [1, 1, 1, 1, 1, 1] Tryz.f29))], mkT j [(2, (iI z)), (3, (.e (.one (.ptr 0 0)))), (10, (.e (.one (.slc 1 0 u 1 u false)))), (30, (dQ T t)), (31, (iN t)), (32, (iN i)), (36, (dQ R m)), (37, (iN m)), (38, (iN (k + 1)))] 60 0⟩
theorem p29so (hE : EnvOk E) (C R T : List DT) (n i k q m t u : Nat) (x z s w : Int) (D Y : List AC) (h0 : (decide (Int.ofNat k < Int.ofNat m) : Bool) = true) (h1 : (0 : Int) ≤ Int.ofNat k ∧ Int.ofNat k < (↑m : Int)) (h2 : ((Int.ofNat k).toNat * nat_lit 1 : Nat) = k) (h3 : (getL R k : Option DT) = (.some (.v (.int .i64 s)))) (h4 : COut E 0 [] 92 [(iI s)] (iI w) []) (h6 : (0 : Int) ≤ Int.ofNat k ∧ Int.ofNat k < (↑n : Int)) (h8 : (getL C k : Option DT) = (.some (.v (.int .i64 x)))) (h10 : COut E 0 [(bK [(.dp (.s C n 1))] 1 22), (.some ⟨(D), q, 4, false, .cells⟩)] 91 [(.e (.one (.slc 1 0 q 1 q false))), (iI w), (iI x)] (.e (.one (.slc 2 0 u 1 u false))) [(bK [(.dp (.s C n 1))] 1 22), none, (.some ⟨(Y), u, 4, false, .cells⟩)]) (h11 : ((iI (wrapF IntKind.i64 (Int.ofNat k + (1 : Int)))) : AV) = (iN (k + 1))) (g0 : FlatC Y) {Φ : Res → Prop} (ho : ∀ j, OutK E 0 0 (p29so_end C R T n i k m t u z Y j) Φ) (j : JN) : OutK E 0 0 (y29io C R T n i k q m t z D j) Φ :=
 oS hE [.run 3, (.cond true), .run 4, (.ops [(2, (.d (.ld (.v (.int .i64 s))))), (1, (.d (.ix k)))] []), (.ops [(2, (.c0 (iI w))), (6, (.d (.ld (.v (.int .i64 x))))), (7, (.cw (.e (.one (.slc 2 0 u 1 u false))) [(bK [(.dp (.s C n 1))] 1 22), none, (.some ⟨(Y), u, 4, false, .cells⟩)])), (5, (.d (.ix k)))] []), .run 1, (.ops [(0, (.rn (iN (k + 1))))] []), .run 1] [2, 3, 10, 30, 31, 32, 36, 37, 38] (s' := fun j => ⟨[(bK [(.dp (.s C n 1))] 1 22), none, (.some ⟨(Y), u, 4, false, .cells⟩)], [(.code (aF [1, 1, 1, 1, 1, 0, 1, 0, 0, 1, 1, 0, 0, 1, 1, 0, 0] Tryz.f29)), (.inLoop (aF [1, 1, 1, 1, 1, 0, 1, 0, 0, 1, 1, 0, 0, 1, 1, 0, 0] Tryz.f29)), (.inBlock 2), (.inBlock 1), (.code (aF [1, 1, 1, 1, 1, 0, 1, 0, 0, 1, 1, 1] Tryz.f29)), (.inLoop (aF [1, 1, 1, 1, 1, 0, 1, 0, 0] Tryz.f29)), (.inBlock 0), (.code (aF [1, 1, 1, 1, 1, 1] Tryz.f29))], mkT j [(2, (iI z)), (3, (.e (.one (.ptr 0 0)))), (10, (.e (.one (.slc 2 0 u 1 u false)))), (30, (dQ T t)), (31, (iN t)), (32, (iN i)), (36, (dQ R m)), (37, (iN m)), (38, (iN (k + 1)))] 60 0⟩) (aQ h0 h1 h2 h3 <| aP h4 <| aN <| aP h6 <| aP h2 <| aP h8 <| aV <| aP h10 <| aP h11 <| aZ)
  fun j => outK_gcF [0, 2] [false, true] (h' := [(bK [(.dp (.s C n 1))] 1 22), (.some ⟨(Y), u, 4, false, .cells⟩)]) (by decide) (by kernel_rfl) (by kernel_rfl) ⟨g0, trivial⟩ (by kernel_rfl) (ho j)
def symB : List Int → List Int → List Bool
 | x :: xs, s :: ss => bitsF (nbT.getD s.toNat 0).toNat x.toNat ++ symB xs ss
 | _, _ => []
def allB (xs : List Int) : List (List Int) → List Bool
 | [] => []
 | r :: l => symB xs r ++ allB xs l
theorem symB_len : ∀ (xs r : List Int), (∀ x ∈ xs, 0 ≤ x ∧ x ≤ 6) → (symB xs r).length ≤ 6 * xs.length
 | [], _, _ => by simp [symB]
 | x :: xs, [], _ => by simp [symB]
 | x :: xs, s :: r, h => by
  have h1 := h x (List.mem_cons_self ..)
  have h2 := symB_len xs r fun y hy => h y (List.mem_cons_of_mem _ hy)
  show (bitsF _ x.toNat ++ symB xs r).length ≤ _
  rw [List.length_append, bits_len, List.length_cons]
  omega
def symOk (xs r : List Int) : Prop := r.length = xs.length ∧ lvlE xs r = 0
theorem lvl_drop : ∀ (k : Nat) (xs r : List Int), r.length = xs.length → lvlE xs r = 0 → lvlE (xs.drop k) (r.drop k) = 0
 | 0, _, _, _, h => h
 | k + 1, [], [], _, h => h
 | k + 1, x :: xs, s :: r, hl, h => by
  have h' : (if rg s 0 (2 ^ x.toNat - 1) = 0 then lvlE xs r else rg s 0 (2 ^ x.toNat - 1)) = 0 := h
  by_cases c : rg s 0 (2 ^ x.toNat - 1) = 0
  ·rw [if_pos c] at h'
   exact lvl_drop k xs r (by simpa using hl) h'
  ·rw [if_neg c] at h'; exact absurd h' c
 | k + 1, [], s :: r, hl, _ => by simp at hl
 | k + 1, x :: xs, [], hl, _ => by simp at hl
theorem nb_lt : ∀ n : Fin 64, 0 ≤ nbT.getD n.1 0 ∧ nbT.getD n.1 0 < 64 := by decide +kernel
def v29 (xs : List Int) (L : List (List Int)) (z : Int) (i : Nat) (l : List Bool) (j : JN) : St := match l with
 | [] => y29n (iD xs) (rD L) xs.length i L.length z j
 | b :: l => y29o (iD xs) (rD L) xs.length i ((b :: l).length) L.length z (bbC (b :: l)) j
def w29 (xs : List Int) (L : List (List Int)) (z : Int) (r : List Int) (i k : Nat) (l : List Bool) (j : JN) : St := match l with
 | [] => y29in (iD xs) (iD r) (rD L) xs.length i k r.length L.length z j
 | b :: l => y29io (iD xs) (iD r) (rD L) xs.length i k ((b :: l).length) r.length L.length z (bbC (b :: l)) j
theorem cons_of {l : List Bool} {n : Nat} (h : l.length = n + 1) : ∃ b t, l = b :: t := by
 cases l with
 | nil => simp at h
 | cons b t => exact ⟨b, t, rfl⟩
theorem l29i {Φ : Res → Prop} (hE : EnvOk E) (xs : List Int) (hm : xs.length ≤ 8) (hb : ∀ x ∈ xs, 0 ≤ x ∧ x ≤ 6) (L : List (List Int)) (hL : L.length ≤ 1024) (z : Int) (r : List Int) (hr : symOk xs r) (i : Nat) (hi : i < L.length) : ∀ m k, m + k = r.length → ∀ l : List Bool, l.length + 6 * m ≤ 80000 → (∀ j, OutK E 0 0 (v29 xs L z (i + 1) (l ++ symB (xs.drop k) (r.drop k)) j) Φ) → ∀ j, OutK E 0 0 (w29 xs L z r i k l j) Φ
 | 0, k, hk, l, hl, cont, j => by
  obtain ⟨h1, h2⟩ := hr
  obtain rfl : k = r.length := by omega
  have e0 : symB (xs.drop r.length) (r.drop r.length) = [] := by rw [h1, List.drop_length]; rfl
  rw [e0, List.append_nil] at cont
  cases l with
  | nil => exact p29cn hE (iD xs) (iD r) (rD L) xs.length i r.length r.length L.length z dF (iIe (by (try simp only [Int.ofNat_eq_natCast]); rw [wrap_id (by omega) (by omega)]; try omega)) cont j
  | cons b l => exact p29co hE (iD xs) (iD r) (rD L) xs.length i r.length ((b :: l).length) r.length L.length z (bbC (b :: l)) dF (iIe (by (try simp only [Int.ofNat_eq_natCast]); rw [wrap_id (by omega) (by omega)]; try omega)) cont j
 | m + 1, k, hk, l, hl, cont, j => by
  have hr' := hr
  obtain ⟨h1, h2⟩ := hr
  have hkl : k < r.length := by omega
  have hkx : k < xs.length := by omega
  have hx : r[k]? = some r[k] := List.getElem?_eq_getElem hkl
  have hz : xs[k]? = some xs[k] := List.getElem?_eq_getElem hkx
  have hb' := hb xs[k] (List.getElem_mem hkx)
  have h3 := lvl_drop k xs r h1 h2
  rw [List.drop_eq_getElem_cons hkl, List.drop_eq_getElem_cons hkx] at cont h3
  generalize r[k] = s at hx cont h3
  generalize xs[k] = x at hz hb' cont h3
  obtain ⟨q, rfl⟩ := Int.eq_ofNat_of_zero_le hb'.1
  have hq : q ≤ 6 := by omega
  have hs : rg s 0 (2 ^ ((q : Int)).toNat - 1) = 0 := by
   have h' : (if rg s 0 (2 ^ ((q : Int)).toNat - 1) = 0 then lvlE _ _ else rg s 0 (2 ^ ((q : Int)).toNat - 1)) = 0 := h3
   by_cases c : rg s 0 (2 ^ ((q : Int)).toNat - 1) = 0
   ·exact c
   ·rw [if_neg c] at h'; exact absurd h' c
  have hs' := rg_00 hs
  have h64 := two_le ⟨q, by omega⟩
  simp only [Int.one_mul] at h64
  rw [show ((q : Int)).toNat = q from rfl] at hs'
  obtain ⟨sn, rfl⟩ := Int.eq_ofNat_of_zero_le hs'.1
  have hsn : sn < 64 := by omega
  have k92 := K92 hE sn hsn
  have hw := nb_lt ⟨sn, hsn⟩
  simp only at hw
  replace cont : ∀ j, OutK E 0 0 (v29 xs L z (i + 1) (l ++ (bitsF (nbT.getD sn 0).toNat q ++ symB (xs.drop (k + 1)) (r.drop (k + 1)))) j) Φ := cont
  rw [← List.append_assoc] at cont
  generalize nbT.getD sn 0 = w at k92 hw cont
  obtain ⟨wn, rfl⟩ := Int.eq_ofNat_of_zero_le hw.1
  rw [show ((wn : Int)).toNat = wn from rfl] at cont
  have ih := l29i (Φ := Φ) hE xs hm hb L hL z r hr' i hi m (k + 1) (by omega)
  have hc : (r.length : Int) = xs.length := by omega
  cases q with
  | zero =>
   rw [show bitsF wn 0 = [] from rfl, List.append_nil] at cont
   replace ih := ih l (by omega) cont
   cases l with
   | nil => exact p29zn hE (iD xs) (iD r) (rD L) xs.length i k r.length L.length (((0 : Nat) : Int)) z ((sn : Int)) ((wn : Int)) dT bP (Nat.mul_one _) (gI hx) k92 bP (gI hz) (K91n0 hE xs wn) (iIe (by (try simp only [Int.ofNat_eq_natCast]); rw [wrap_id (by omega) (by omega)]; try omega)) ih j
   | cons b l => exact p29zo hE (iD xs) (iD r) (rD L) xs.length i k ((b :: l).length) r.length L.length (((0 : Nat) : Int)) z ((sn : Int)) ((wn : Int)) (bbC (b :: l)) dT bP (Nat.mul_one _) (gI hx) k92 bP (gI hz) (K91o0 hE xs (b :: l) wn) (iIe (by (try simp only [Int.ofNat_eq_natCast]); rw [wrap_id (by omega) (by omega)]; try omega)) ih j
  | succ q =>
   have hlen := bits_len wn (q + 1)
   replace ih := ih (l ++ bitsF wn (q + 1)) (by rw [List.length_append, hlen]; omega) cont
   cases l with
   | nil =>
    rw [List.nil_append] at ih
    obtain ⟨b, t, he⟩ := cons_of hlen
    have k91 := K91n hE xs wn (by omega) q (by omega) (b :: t) he.symm
    rw [he] at ih
    exact p29sn hE (iD xs) (iD r) (rD L) xs.length i k r.length L.length ((b :: t).length) (((q + 1 : Nat) : Int)) z ((sn : Int)) ((wn : Int)) (bbC (b :: t)) dT bP (Nat.mul_one _) (gI hx) k92 bP (gI hz) k91 (iIe (by (try simp only [Int.ofNat_eq_natCast]); rw [wrap_id (by omega) (by omega)]; try omega)) ih j
   | cons b l =>
    have k91 := K91o hE xs (b :: l) (by omega) wn (by omega) q (by omega) (b :: (l ++ bitsF wn (q + 1))) rfl
    exact p29so hE (iD xs) (iD r) (rD L) xs.length i k ((b :: l).length) r.length L.length ((b :: (l ++ bitsF wn (q + 1))).length) (((q + 1 : Nat) : Int)) z ((sn : Int)) ((wn : Int)) (bbC (b :: l)) (bbC (b :: (l ++ bitsF wn (q + 1)))) dT bP (Nat.mul_one _) (gI hx) k92 bP (gI hz) k91 (iIe (by (try simp only [Int.ofNat_eq_natCast]); rw [wrap_id (by omega) (by omega)]; try omega)) (by first | exact flat_bb _ | exact flat_iC _ | exact flat_rows _) ih j
theorem l29 {Φ : Res → Prop} (hE : EnvOk E) (xs : List Int) (hm : xs.length ≤ 8) (hb : ∀ x ∈ xs, 0 ≤ x ∧ x ≤ 6) (L : List (List Int)) (hL : L.length ≤ 1024) (z : Int) (hr : ∀ r ∈ L, symOk xs r) : ∀ m i, m + i = L.length → ∀ l : List Bool, l.length + 48 * m ≤ 70000 → (∀ j, OutK E 0 0 (v29 xs L z L.length (l ++ allB xs (L.drop i)) j) Φ) → ∀ j, OutK E 0 0 (v29 xs L z i l j) Φ
 | 0, i, hi, l, hl, cont, j => by
  obtain rfl : i = L.length := by omega
  rw [List.drop_length, show allB xs [] = [] from rfl, List.append_nil] at cont
  exact cont j
 | m + 1, i, hi, l, hl, cont, j => by
  have hil : i < L.length := by omega
  have hx : L[i]? = some L[i] := List.getElem?_eq_getElem hil
  have hr' := hr L[i] (List.getElem_mem hil)
  rw [List.drop_eq_getElem_cons hil] at cont
  generalize L[i] = r at hx hr' cont
  replace cont : ∀ j, OutK E 0 0 (v29 xs L z L.length (l ++ (symB xs r ++ allB xs (L.drop (i + 1)))) j) Φ := cont
  rw [← List.append_assoc] at cont
  have hsl := symB_len xs r hb
  have hrl := hr'.1
  have ih := l29 hE xs hm hb L hL z hr m (i + 1) (by omega) (l ++ symB xs r) (by rw [List.length_append]; omega) cont
  have inn := l29i hE xs hm hb L hL z r hr' i hil r.length 0 rfl l (by omega) (by rw [List.drop_zero, List.drop_zero]; exact ih)
  cases l with
  | nil => exact p29bn hE (iD xs) (iD r) (rD L) xs.length i r.length L.length z dT bP (Nat.mul_one _) (gR hx) inn j
  | cons b l => exact p29bo hE (iD xs) (iD r) (rD L) xs.length i ((b :: l).length) r.length L.length z (bbC (b :: l)) dT bP (Nat.mul_one _) (gR hx) inn j
theorem syms_0 {xs : List Int} : ∀ {L : List (List Int)}, symsE xs L = 0 → ∀ r ∈ L, symOk xs r
 | [], _, r, hr => by simp at hr
 | a :: l, h, r, hr => by
  have h' : (if symE xs a = 0 then symsE xs l else symE xs a) = 0 := h
  by_cases c : symE xs a = 0
  ·rw [if_pos c] at h'
   rcases List.mem_cons.1 hr with rfl | hr
   ·unfold symE at c
    by_cases d : r.length = xs.length
    ·rw [if_pos d] at c; exact ⟨d, c⟩
    ·rw [if_neg d] at c; exact absurd c (by decide)
   ·exact syms_0 h' r hr
  ·rw [if_neg c] at h'; exact absurd h' c
def chkE (xs : List Int) (L : List (List Int)) (z : Int) : Int := if bearE xs = 0 then firstI [lvsE xs L, rg z 0 1024] else bearE xs
def unE (xs : List Int) (L : List (List Int)) (z : Int) : Int := if chkE xs L z = 0 then (if ((allB xs L).length : Int) < z then 16 else 0) else chkE xs L z
def unV (xs : List Int) (L : List (List Int)) (z : Int) : List Bool := if unE xs L z = 0 then (allB xs L).take z.toNat else []
theorem chk_0 {xs : List Int} {L : List (List Int)} {z : Int} (h : chkE xs L z = 0) : bearE xs = 0 ∧ L.length ≤ 1024 ∧ (∀ r ∈ L, symOk xs r) ∧ 0 ≤ z ∧ z ≤ 1024 ∧ lvsE xs L = 0 ∧ rg z 0 1024 = 0 := by
 unfold chkE at h
 by_cases c : bearE xs = 0
 ·rw [if_pos c, fI2] at h
  by_cases d : lvsE xs L = 0
  ·rw [if_pos d] at h
   have hz := rg_00 h
   have d' := d
   unfold lvsE at d
   by_cases e : (L.length : Int) > 1024
   ·rw [if_pos e] at d; exact absurd d (by decide)
   ·rw [if_neg e] at d
    exact ⟨c, by omega, syms_0 d, hz.1, hz.2, d', h⟩
  ·rw [if_neg d] at h; exact absurd h d
 ·rw [if_neg c] at h; exact absurd h c
theorem K29 (hE : EnvOk E) (xs : List Int) (L : List (List Int)) (z : Int) (hx : xs.length ≤ 100000) : COut E 0 [] 29 [dI xs, dR L, iI z] (.tup [.one (.dp (.s (bbD (unV xs L z)) (unV xs L z).length 1)), .one (.v (.int .i64 (unE xs L z)))]) [] := by
 by_cases h1 : bearE xs = 0
 ·obtain ⟨h3, hp⟩ := bear_0 h1
  obtain ⟨h4, h5, hb⟩ := map_0 h3
  have ec : chkE xs L z = firstI [lvsE xs L, rg z 0 1024] := if_pos h1
  have k69 := lend2 2 hE 69 _ _ 29 true (K69 hE [lvsE xs L, rg z 0 1024] (by simp)) [bK [.dp (.s (iD xs) xs.length 1)] 1 22, bK [.v (.int .i64 (lvsE xs L)), .v (.int .i64 (rg z 0 1024))] 2 29] 1 rfl
  rw [← ec] at k69
  by_cases h : chkE xs L z = 0
  ·obtain ⟨_, g2, g3, g4, g5, g6, g7⟩ := chk_0 h
   rw [h] at k69
   obtain ⟨u, rfl⟩ := Int.eq_ofNat_of_zero_le g4
   have eu : unE xs L (u : Int) = if ((allB xs L).length : Int) < (u : Int) then 16 else 0 := if_pos h
   have go : ∀ (v : AV) (ho : Heap), (∀ j, OutK E 0 0 (v29 xs L (u : Int) L.length (allB xs L) j) (Go.Ev.Ends E Tryz.f29 v ho)) → COut E 0 [] 29 [dI xs, dR L, iI (u : Int)] v ho := fun v ho cont =>
    cOut_start Tryz.func29 rfl (p29a hE (iD xs) (rD L) xs.length L.length ((u : Int)) 0 (lvsE xs L) (rg (u : Int) 0 1024) 0 (h1 ▸ K84 hE xs hx) rfl (Kz88 hE xs hb h5 L) (K72 hE (u : Int) 0 1024) k69 rfl (l29 hE xs h5 hb L g2 (u : Int) g3 L.length 0 rfl [] (by simp; omega) (by rw [List.drop_zero, List.nil_append]; exact cont)) fun _ => undef)
   by_cases hlt : ((allB xs L).length : Int) < (u : Int)
   ·have e16 : unE xs L (u : Int) = 16 := by rw [eu, if_pos hlt]
    have ev : unV xs L (u : Int) = [] := if_neg (by rw [e16]; decide)
    rw [ev, e16]
    have hc : COut E 0 [] 29 [dI xs, dR L, iI (u : Int)] (.tup [.one (.v (.slice none 0 0)), .one (.v (.int .i64 16))]) [] := by
     refine cOut_clear (go _ [] ?_) rfl
     generalize allB xs L = l at hlt
     cases l with
     | nil => exact p29yn hE (iD xs) (rD L) xs.length L.length L.length ((u : Int)) dF (decide_eq_true hlt) (fun j => outK_ret (ends_ret (by kernel_rfl)))
     | cons b l => exact p29yo hE (iD xs) (rD L) xs.length L.length ((b :: l).length) L.length ((u : Int)) (bbC (b :: l)) dF (decide_eq_true hlt) (fun j => outK_ret (ends_ret (by kernel_rfl)))
    exact tup_wk hc fun m => ⟨wkN m 1, fun _ h => h, trivial⟩
   ·have e0 : unE xs L (u : Int) = 0 := by rw [eu, if_neg hlt]
    have ev : unV xs L (u : Int) = (allB xs L).take u := if_pos e0
    rw [ev, e0]
    generalize allB xs L = l at hlt go
    cases l with
    | nil =>
     have hu : u = 0 := by simp at hlt; omega
     subst hu
     have hc : COut E 0 [] 29 [dI xs, dR L, iI ((0 : Nat) : Int)] (.tup [.one (.v (.slice none 0 0)), .one (.v (.int .i64 0))]) [] :=
      cOut_clear (go _ _ (p29xn hE (iD xs) (rD L) xs.length L.length dF (fun j => outK_ret (ends_ret (by kernel_rfl))))) rfl
     exact tup_wk hc fun m => ⟨wkN m 1, fun _ h => h, trivial⟩
    | cons b l =>
     have hul : u ≤ (b :: l).length := by omega
     have hc := go (.tup [.one (.slc 0 0 u 1 (b :: l).length false), .one (.v (.int .i64 0))]) [some ⟨bbC (b :: l), (b :: l).length, 4, false, .cells⟩] (p29xo hE (iD xs) (rD L) xs.length ((b :: l).length) L.length u (bbC (b :: l)) dF (decide_eq_false hlt) ⟨Nat.zero_le _, hul⟩ (Nat.sub_zero _).symm (Nat.sub_zero _).symm (by first | exact flat_bb _ | exact flat_iC _ | exact flat_rows _) (fun j => outK_ret (ends_ret (by kernel_rfl))))
     have hbt : takeL (dropL (bbD (b :: l)) 0) (u * 1) = some (bbD ((b :: l).take u)) := by
      rw [Nat.mul_one, takeL_eq, dropL_eq, List.drop_zero, if_pos (by rw [List.length_map]; exact hul)]
      exact congrArg some List.map_take.symm
     have hlen : ((b :: l).take u).length = u := by rw [List.length_take]; omega
     have := cOut_clear (cOut_freeze 0 hc rfl (Nat.zero_le _) (ds := bbD (b :: l)) (v' := .tup [.one (.dp (.s (bbD ((b :: l).take u)) u 1)), .one (.v (.int .i64 0))]) ⟨.inr ⟨0, u, 1, (b :: l).length, false, bbD ((b :: l).take u), rfl, rfl, hbt⟩, .inl rfl, trivial⟩) rfl
     rw [hlen]
     exact this
  ·have eu : unE xs L z = chkE xs L z := if_neg h
   have ev : unV xs L z = [] := if_neg (by rw [eu]; exact h)
   rw [ev, eu]
   have hc : COut E 0 [] 29 [dI xs, dR L, iI z] (.tup [.one (.v (.slice none 0 0)), .one (.v (.int .i64 (chkE xs L z)))]) [] :=
    cOut_clear (cOut_start Tryz.func29 rfl (p29f hE (iD xs) (rD L) xs.length L.length z 0 (lvsE xs L) (rg z 0 1024) (chkE xs L z) (h1 ▸ K84 hE xs hx) rfl (Kz88 hE xs hb h5 L) (K72 hE z 0 1024) k69 (bne_iff_ne.2 h) (fun j => outK_ret (ends_ret (by kernel_rfl))) fun _ => undef)) rfl
   exact tup_wk hc fun m => ⟨wkN m 1, fun _ h => h, trivial⟩
 ·have ec : chkE xs L z = bearE xs := if_neg h1
  have eu : unE xs L z = bearE xs := by unfold unE; rw [ec, if_neg h1]
  have ev : unV xs L z = [] := if_neg (by rw [eu]; exact h1)
  rw [ev, eu]
  have hc : COut E 0 [] 29 [dI xs, dR L, iI z] (.tup [.one (.v (.slice none 0 0)), .one (.v (.int .i64 (bearE xs)))]) [] :=
   cOut_clear (cOut_start Tryz.func29 rfl (p29e hE (iD xs) (rD L) xs.length L.length z (bearE xs) (K84 hE xs hx) (bne_iff_ne.2 h1) (fun j => outK_ret (ends_ret (by kernel_rfl))) fun _ => undef)) rfl
  exact tup_wk hc fun m => ⟨wkN m 1, fun _ h => h, trivial⟩
end
end Go.Proofs.YtaccakbjankeeaaGreatDoor
end

/-! SeBh -/
section
open Go Go.Ev
namespace Go.Proofs.YtaccakbjankeeaaGreatDoor
noncomputable section
set_option maxRecDepth 100000
set_option maxHeartbeats 20000000
def x33 (C T : List DT) (n t : Nat) (_j : JN) : St := startK Tryz.f33 [] [(dQ C n), (dQ T t)]
def y33 (C T : List DT) (n i t : Nat) (j : JN) : St := ⟨[], [(.code (aF [1, 1, 0, 1, 0, 0] Tryz.f33)), (.inLoop (aF [1, 1, 0, 1, 0, 0] Tryz.f33)), (.inBlock 0), (.code (aF [1, 1, 1] Tryz.f33))], mkT j [(0, (dQ C n)), (1, (dQ T t)), (5, (iN i))] 48 0⟩
def y33i (C T : List DT) (n i k t : Nat) (j : JN) : St := ⟨[], [(.code (aF [1, 1, 0, 1, 0, 0, 1, 0, 0, 1, 1, 0, 0] Tryz.f33)), (.inLoop (aF [1, 1, 0, 1, 0, 0, 1, 0, 0, 1, 1, 0, 0] Tryz.f33)), (.inBlock 2), (.inBlock 1), (.code (aF [1, 1, 0, 1, 0, 0, 1, 1] Tryz.f33)), (.inLoop (aF [1, 1, 0, 1, 0, 0] Tryz.f33)), (.inBlock 0), (.code (aF [1, 1, 1] Tryz.f33))], mkT j [(0, (dQ C n)), (1, (dQ T t)), (5, (iN i)), (6, (iN k))] 48 0⟩
def p33m_end (j : JN) : St := ⟨[], [(.code .ret), (.code (aF [1, 1] Tryz.f33))], mkT j [(4, (iI 5))] 48 0⟩
theorem p33m (hE : EnvOk E) (C T : List DT) (n t : Nat) (h0 : (decide ((↑t : Int) > (1024 : Int)) : Bool) = true) {Φ : Res → Prop} (ho : ∀ j, OutK E 0 0 (p33m_end j) Φ) (j : JN) : OutK E 0 0 (x33 C T n t j) Φ :=
 oS hE [.run 4, (.ops [(1, (.d .len))] []), (.cond true), .run 2] [4] (aP h0 <| aZ)
  ho
def p33a_end (C T : List DT) (n t : Nat) (j : JN) : St := ⟨[], [(.code (aF [1, 1, 0, 1, 0, 0] Tryz.f33)), (.inLoop (aF [1, 1, 0, 1, 0, 0] Tryz.f33)), (.inBlock 0), (.code (aF [1, 1, 1] Tryz.f33))], mkT j [(0, (dQ C n)), (1, (dQ T t)), (5, (iI 0))] 48 0⟩
theorem p33a (hE : EnvOk E) (C T : List DT) (n t : Nat) (h0 : (decide ((↑t : Int) > (1024 : Int)) : Bool) = false) {Φ : Res → Prop} (ho : ∀ j, OutK E 0 0 (p33a_end C T n t j) Φ) (j : JN) : OutK E 0 0 (x33 C T n t j) Φ :=
 oS hE [.run 4, (.ops [(1, (.d .len))] []), (.cond false), .run 6] [0, 1, 5] (aP h0 <| aZ)
  ho
def p33f_end (j : JN) : St := ⟨[], [(.code .ret), (.code (aF [1, 1, 0, 1, 0, 0, 1, 0, 0, 1] Tryz.f33)), (.inBlock 1), (.code (aF [1, 1, 0, 1, 0, 0, 1, 1] Tryz.f33)), (.inLoop (aF [1, 1, 0, 1, 0, 0] Tryz.f33)), (.inBlock 0), (.code (aF [1, 1, 1] Tryz.f33))], mkT j [(4, (iI 2))] 48 0⟩
theorem p33f (hE : EnvOk E) (C R T : List DT) (n i m t : Nat) (h0 : (decide (Int.ofNat i < (↑t : Int)) : Bool) = true) (h1 : (0 : Int) ≤ Int.ofNat i ∧ Int.ofNat i < (↑t : Int)) (h2 : ((Int.ofNat i).toNat * nat_lit 1 : Nat) = i) (h3 : (getL T i : Option DT) = (.some (.s R m 1))) (h4 : ((↑m : Int) != (↑n : Int) : Bool) = true) {Φ : Res → Prop} (ho : ∀ j, OutK E 0 0 (p33f_end j) Φ) (j : JN) : OutK E 0 0 (y33 C T n i t j) Φ :=
 oS hE [.run 2, (.ops [(2, (.d .len))] []), (.cond true), .run 5, (.ops [(3, (.d (.ld (.s R m 1)))), (2, (.d (.ix i))), (4, (.d .len)), (6, (.d .len))] []), (.cond true), .run 2] [4] (aQ h0 h1 h2 h3 <| aP h4 <| aZ)
  ho
def p33b_end (C T : List DT) (n i t : Nat) (j : JN) : St := ⟨[], [(.code (aF [1, 1, 0, 1, 0, 0, 1, 0, 0, 1, 1, 0, 0] Tryz.f33)), (.inLoop (aF [1, 1, 0, 1, 0, 0, 1, 0, 0, 1, 1, 0, 0] Tryz.f33)), (.inBlock 2), (.inBlock 1), (.code (aF [1, 1, 0, 1, 0, 0, 1, 1] Tryz.f33)), (.inLoop (aF [1, 1, 0, 1, 0, 0] Tryz.f33)), (.inBlock 0), (.code (aF [1, 1, 1] Tryz.f33))], mkT j [(0, (dQ C n)), (1, (dQ T t)), (5, (iN i)), (6, (iI 0))] 48 0⟩
theorem p33b (hE : EnvOk E) (C R T : List DT) (n i m t : Nat) (h0 : (decide (Int.ofNat i < (↑t : Int)) : Bool) = true) (h1 : (0 : Int) ≤ Int.ofNat i ∧ Int.ofNat i < (↑t : Int)) (h2 : ((Int.ofNat i).toNat * nat_lit 1 : Nat) = i) (h3 : (getL T i : Option DT) = (.some (.s R m 1))) (h4 : ((↑m : Int) != (↑n : Int) : Bool) = false) {Φ : Res → Prop} (ho : ∀ j, OutK E 0 0 (p33b_end C T n i t j) Φ) (j : JN) : OutK E 0 0 (y33 C T n i t j) Φ :=
 oS hE [.run 2, (.ops [(2, (.d .len))] []), (.cond true), .run 5, (.ops [(3, (.d (.ld (.s R m 1)))), (2, (.d (.ix i))), (4, (.d .len)), (6, (.d .len))] []), (.cond false), .run 5] [0, 1, 5, 6] (aQ h0 h1 h2 h3 <| aP h4 <| aZ)
  ho
def p33x_end (j : JN) : St := ⟨[], [(.code .ret)], mkT j [(4, (iI 0))] 48 0⟩
theorem p33x (hE : EnvOk E) (C T : List DT) (n i t : Nat) (h0 : (decide (Int.ofNat i < (↑t : Int)) : Bool) = false) {Φ : Res → Prop} (ho : ∀ j, OutK E 0 0 (p33x_end j) Φ) (j : JN) : OutK E 0 0 (y33 C T n i t j) Φ :=
 oS hE [.run 2, (.ops [(2, (.d .len))] []), (.cond false), .run 3] [4] (aP h0 <| aZ)
  ho
def p33s_end (C T : List DT) (n i k t : Nat) (j : JN) : St := ⟨[], [(.code (aF [1, 1, 0, 1, 0, 0, 1, 0, 0, 1, 1, 0, 0] Tryz.f33)), (.inLoop (aF [1, 1, 0, 1, 0, 0, 1, 0, 0, 1, 1, 0, 0] Tryz.f33)), (.inBlock 2), (.inBlock 1), (.code (aF [1, 1, 0, 1, 0, 0, 1, 1] Tryz.f33)), (.inLoop (aF [1, 1, 0, 1, 0, 0] Tryz.f33)), (.inBlock 0), (.code (aF [1, 1, 1] Tryz.f33))], mkT j [(0, (dQ C n)), (1, (dQ T t)), (5, (iN i)), (6, (iN (k + 1)))] 48 0⟩
theorem p33s (hE : EnvOk E) (C R T : List DT) (n i k m t : Nat) (x s e g h : Int) (h0 : (decide (Int.ofNat k < (↑n : Int)) : Bool) = true) (h1 : (0 : Int) ≤ Int.ofNat i ∧ Int.ofNat i < (↑t : Int)) (h2 : ((Int.ofNat i).toNat * nat_lit 1 : Nat) = i) (h3 : (getL T i : Option DT) = (.some (.s R m 1))) (h4 : (0 : Int) ≤ Int.ofNat k ∧ Int.ofNat k < (↑m : Int)) (h5 : ((Int.ofNat k).toNat * 1 : Nat) = k) (h6 : (getL R k : Option DT) = (.some (.v (.int .i64 s)))) (h7 : (0 : Int) ≤ Int.ofNat k ∧ Int.ofNat k < (↑n : Int)) (h8 : ((Int.ofNat k).toNat * nat_lit 1 : Nat) = k) (h9 : (getL C k : Option DT) = (.some (.v (.int .i64 x)))) (h10 : COut E 0 [] 75 [(iI x)] (iI g) []) (h12 : ((iI (wrapF IntKind.i64 (g - (1 : Int)))) : AV) = (iI h)) (h14 : COut E 0 [] 18 [(iI s), (iI 0), (iI h)] (iI e) []) (h16 : (e != (0 : Int) : Bool) = false) (h17 : ((iI (wrapF IntKind.i64 (Int.ofNat k + (1 : Int)))) : AV) = (iN (k + 1))) {Φ : Res → Prop} (ho : ∀ j, OutK E 0 0 (p33s_end C T n i k t j) Φ) (j : JN) : OutK E 0 0 (y33i C T n i k t j) Φ :=
 oS hE [.run 2, (.ops [(2, (.d .len))] []), (.cond true), .run 4, (.ops [(3, (.d (.ld (.s R m 1)))), (6, (.d (.ld (.v (.int .i64 s))))), (10, (.d (.ld (.v (.int .i64 x))))), (11, (.c0 (iI g))), (12, (.rn (iI h))), (13, (.c0 (iI e))), (2, (.d (.ix i))), (5, (.d (.ix k))), (9, (.d (.ix k)))] []), .run 2, (.cond false), .run 2, (.ops [(1, (.rn (iN (k + 1))))] []), .run 1] [0, 1, 5, 6] (aQ h0 h1 h2 h3 <| aQ h4 h5 h6 h7 <| aP h8 <| aP h9 <| aP h10 <| aN <| aP h12 <| aV <| aP h14 <| aN <| aP h16 <| aP h17 <| aZ)
  ho
def p33g_end (e : Int) (j : JN) : St := ⟨[], [(.code .ret), (.inBlock 3), (.code (aF [1, 1, 0, 1, 0, 0, 1, 0, 0, 1, 1, 0, 0, 1, 1] Tryz.f33)), (.inLoop (aF [1, 1, 0, 1, 0, 0, 1, 0, 0, 1, 1, 0, 0] Tryz.f33)), (.inBlock 2), (.inBlock 1), (.code (aF [1, 1, 0, 1, 0, 0, 1, 1] Tryz.f33)), (.inLoop (aF [1, 1, 0, 1, 0, 0] Tryz.f33)), (.inBlock 0), (.code (aF [1, 1, 1] Tryz.f33))], mkT j [(4, (iI e))] 48 0⟩
theorem p33g (hE : EnvOk E) (C R T : List DT) (n i k m t : Nat) (x s e g h : Int) (h0 : (decide (Int.ofNat k < (↑n : Int)) : Bool) = true) (h1 : (0 : Int) ≤ Int.ofNat i ∧ Int.ofNat i < (↑t : Int)) (h2 : ((Int.ofNat i).toNat * nat_lit 1 : Nat) = i) (h3 : (getL T i : Option DT) = (.some (.s R m 1))) (h4 : (0 : Int) ≤ Int.ofNat k ∧ Int.ofNat k < (↑m : Int)) (h5 : ((Int.ofNat k).toNat * 1 : Nat) = k) (h6 : (getL R k : Option DT) = (.some (.v (.int .i64 s)))) (h7 : (0 : Int) ≤ Int.ofNat k ∧ Int.ofNat k < (↑n : Int)) (h8 : ((Int.ofNat k).toNat * nat_lit 1 : Nat) = k) (h9 : (getL C k : Option DT) = (.some (.v (.int .i64 x)))) (h10 : COut E 0 [] 75 [(iI x)] (iI g) []) (h12 : ((iI (wrapF IntKind.i64 (g - (1 : Int)))) : AV) = (iI h)) (h14 : COut E 0 [] 18 [(iI s), (iI 0), (iI h)] (iI e) []) (h16 : (e != (0 : Int) : Bool) = true) {Φ : Res → Prop} (ho : ∀ j, OutK E 0 0 (p33g_end e j) Φ) (j : JN) : OutK E 0 0 (y33i C T n i k t j) Φ :=
 oS hE [.run 2, (.ops [(2, (.d .len))] []), (.cond true), .run 4, (.ops [(3, (.d (.ld (.s R m 1)))), (6, (.d (.ld (.v (.int .i64 s))))), (10, (.d (.ld (.v (.int .i64 x))))), (11, (.c0 (iI g))), (12, (.rn (iI h))), (13, (.c0 (iI e))), (2, (.d (.ix i))), (5, (.d (.ix k))), (9, (.d (.ix k)))] []), .run 2, (.cond true), .run 2] [4] (aQ h0 h1 h2 h3 <| aQ h4 h5 h6 h7 <| aP h8 <| aP h9 <| aP h10 <| aN <| aP h12 <| aV <| aP h14 <| aN <| aP h16 <| aZ)
  ho
def p33y_end (C T : List DT) (n i t : Nat) (j : JN) : St := ⟨[], [(.code (aF [1, 1, 0, 1, 0, 0] Tryz.f33)), (.inLoop (aF [1, 1, 0, 1, 0, 0] Tryz.f33)), (.inBlock 0), (.code (aF [1, 1, 1] Tryz.f33))], mkT j [(0, (dQ C n)), (1, (dQ T t)), (5, (iN (i + 1)))] 48 0⟩
theorem p33y (hE : EnvOk E) (C T : List DT) (n i k t : Nat) (h0 : (decide (Int.ofNat k < (↑n : Int)) : Bool) = false) (h1 : ((iI (wrapF IntKind.i64 (Int.ofNat i + (1 : Int)))) : AV) = (iN (i + 1))) {Φ : Res → Prop} (ho : ∀ j, OutK E 0 0 (p33y_end C T n i t j) Φ) (j : JN) : OutK E 0 0 (y33i C T n i k t j) Φ :=
 oS hE [.run 2, (.ops [(2, (.d .len))] []), (.cond false), .run 2, (.ops [(1, (.rn (iN (i + 1))))] []), .run 1] [0, 1, 5] (aP h0 <| aP h1 <| aZ)
  ho
theorem K75' (hE : EnvOk E) (q : Nat) (hq : q ≤ 6) : COut E 0 [] 75 [iI (q : Int)] (iN (2 ^ q)) [] := by
 have := K75 hE q (by omega)
 rw [show ((2 : Int) ^ q) = Int.ofNat (2 ^ q) by simp] at this
 exact this
theorem l33i (hE : EnvOk E) (xs : List Int) (hm : xs.length ≤ 8) (hb : ∀ x ∈ xs, 0 ≤ x ∧ x ≤ 6) (L : List (List Int)) (hL : L.length ≤ 1024) (r : List Int) (i : Nat) (hx : L[i]? = some r) (he : r.length = xs.length) (V : Int) (cont : lvlE xs r = 0 → ∀ j, OutK E 0 0 (y33 (iD xs) (rD L) xs.length ((i + 1)) L.length j) (Go.Ev.Ends E Tryz.f33 (iI V) [])) (hV : lvlE xs r ≠ 0 → V = lvlE xs r) : ∀ m k, m + k = xs.length → lvlE xs r = lvlE (xs.drop k) (r.drop k) → ∀ j, OutK E 0 0 (y33i (iD xs) (rD L) xs.length i k L.length j) (Go.Ev.Ends E Tryz.f33 (iI V) [])
 | 0, k, hk, hl, j => by
  have hil := (List.getElem?_eq_some_iff.1 hx).1
  obtain rfl : k = xs.length := by omega
  have e0 : r.drop xs.length = [] := by rw [← he]; exact List.drop_length
  rw [List.drop_length, e0] at hl
  exact p33y hE (iD xs) (rD L) xs.length i xs.length L.length dF (iIe (by (try simp only [Int.ofNat_eq_natCast]); rw [wrap_id (by omega) (by omega)]; try omega)) (cont hl) j
 | m + 1, k, hk, hl, j => by
  have hil := (List.getElem?_eq_some_iff.1 hx).1
  have hkx : k < xs.length := by omega
  have hkr : k < r.length := by omega
  have hs : r[k]? = some r[k] := List.getElem?_eq_getElem hkr
  have hz : xs[k]? = some xs[k] := List.getElem?_eq_getElem hkx
  have hb' := hb xs[k] (List.getElem_mem hkx)
  rw [List.drop_eq_getElem_cons hkr, List.drop_eq_getElem_cons hkx] at hl
  generalize r[k] = s at hs hl
  generalize xs[k] = x at hz hb' hl
  obtain ⟨q, rfl⟩ := Int.eq_ofNat_of_zero_le hb'.1
  have h2 : (2 : Int) ^ ((q : Int)).toNat = Int.ofNat (2 ^ q) := by simp
  have hp1 : 2 ^ q ≤ 64 := Nat.pow_le_pow_right (by decide) (show q ≤ 6 by omega)
  have hp2 : 0 < 2 ^ q := Nat.pos_of_ne_zero (by simp)
  have hw : wrapF .i64 (Int.ofNat (2 ^ q) - 1) = Int.ofNat (2 ^ q) - 1 := wrap_id (by simp only [Int.ofNat_eq_natCast]; omega) (by simp only [Int.ofNat_eq_natCast]; omega)
  have e : lvlE ((q : Int) :: xs.drop (k + 1)) (s :: r.drop (k + 1)) = if rg s 0 (Int.ofNat (2 ^ q) - 1) = 0 then lvlE (xs.drop (k + 1)) (r.drop (k + 1)) else rg s 0 (Int.ofNat (2 ^ q) - 1) := by rw [← h2]; rfl
  rw [e] at hl
  by_cases h : rg s 0 (Int.ofNat (2 ^ q) - 1) = 0
  ·rw [if_pos h] at hl
   exact p33s hE (iD xs) (iD r) (rD L) xs.length i k r.length L.length ((q : Int)) s (rg s 0 (Int.ofNat (2 ^ q) - 1)) (Int.ofNat (2 ^ q)) ((Int.ofNat (2 ^ q) - 1)) dT bP (Nat.mul_one _) (gR hx) bP (Nat.mul_one _) (gI hs) bP (Nat.mul_one _) (gI hz) (K75' hE q (by omega)) (iIe hw) (K18 hE _ _ _) (by rw [h]; rfl) (iIe (by (try simp only [Int.ofNat_eq_natCast]); rw [wrap_id (by omega) (by omega)]; try omega)) (l33i hE xs hm hb L hL r i hx he V cont hV m (k + 1) (by omega) hl) j
  ·rw [if_neg h] at hl
   rw [hV (by rw [hl]; exact h), hl]
   exact p33g hE (iD xs) (iD r) (rD L) xs.length i k r.length L.length ((q : Int)) s (rg s 0 (Int.ofNat (2 ^ q) - 1)) (Int.ofNat (2 ^ q)) ((Int.ofNat (2 ^ q) - 1)) dT bP (Nat.mul_one _) (gR hx) bP (Nat.mul_one _) (gI hs) bP (Nat.mul_one _) (gI hz) (K75' hE q (by omega)) (iIe hw) (K18 hE _ _ _) (bne_iff_ne.2 h) (fun j => outK_ret (ends_ret (by kernel_rfl))) j
theorem l33 (hE : EnvOk E) (xs : List Int) (hm : xs.length ≤ 8) (hb : ∀ x ∈ xs, 0 ≤ x ∧ x ≤ 6) (L : List (List Int)) (hL : L.length ≤ 1024) : ∀ m i, m + i = L.length → ∀ j, OutK E 0 0 (y33 (iD xs) (rD L) xs.length i L.length j) (Go.Ev.Ends E Tryz.f33 (iI (symsE xs (L.drop i))) [])
 | 0, i, hi, j => by
  obtain rfl : i = L.length := by omega
  rw [List.drop_length]
  exact p33x hE (iD xs) (rD L) xs.length L.length L.length dF (fun j => outK_ret (ends_ret (by kernel_rfl))) j
 | m + 1, i, hi, j => by
  have hil : i < L.length := by omega
  have hx : L[i]? = some L[i] := List.getElem?_eq_getElem hil
  have ih := l33 hE xs hm hb L hL m (i + 1) (by omega)
  rw [List.drop_eq_getElem_cons hil]
  generalize L[i] = r at hx
  have e : symsE xs (r :: L.drop (i + 1)) = if symE xs r = 0 then symsE xs (L.drop (i + 1)) else symE xs r := rfl
  by_cases h : r.length = xs.length
  ·have es : symE xs r = lvlE xs r := if_pos h
   rw [es] at e
   exact p33b hE (iD xs) (iD r) (rD L) xs.length i r.length L.length dT bP (Nat.mul_one _) (gR hx) (by rw [h]; simp) (l33i hE xs hm hb L hL r i hx h _ (fun hh => by rw [e, if_pos hh]; exact ih) (fun hh => by rw [e, if_neg hh]) xs.length 0 rfl rfl) j
  ·have es : symE xs r = 2 := if_neg h
   rw [e, es, if_neg (by decide)]
   exact p33f hE (iD xs) (iD r) (rD L) xs.length i r.length L.length dT bP (Nat.mul_one _) (gR hx) (bne_iff_ne.2 (by omega)) (fun j => outK_ret (ends_ret (by kernel_rfl))) j
theorem K33 (hE : EnvOk E) (xs : List Int) (hm : xs.length ≤ 8) (hb : ∀ x ∈ xs, 0 ≤ x ∧ x ≤ 6) (L : List (List Int)) : COut E 0 [] 33 [dI xs, dR L] (iI (lvsE xs L)) [] := by
 unfold lvsE
 by_cases h : (L.length : Int) > 1024
 ·rw [if_pos h]
  exact cOut_start Tryz.func33 rfl (p33m hE (iD xs) (rD L) xs.length L.length (decide_eq_true h) (fun j => outK_ret (ends_ret (by kernel_rfl))) fun _ => undef)
 ·rw [if_neg h]
  exact cOut_start Tryz.func33 rfl (p33a hE (iD xs) (rD L) xs.length L.length (decide_eq_false h) (l33 hE xs hm hb L (by omega) L.length 0 rfl) fun _ => undef)
end
end Go.Proofs.YtaccakbjankeeaaGreatDoor
end

/-! SeBi -/
section
open Go Go.Ev
namespace Go.Proofs.YtaccakbjankeeaaGreatDoor
noncomputable section
set_option maxRecDepth 100000
set_option maxHeartbeats 20000000
theorem cOut_take {f : FuncId} {lvl : Nat} {hin : Heap} {args args' : List AV} {v : AV} {hout : Heap} (i : Nat) {ds : List DT} {N el : Nat} {fl : Bool} (hi : getL hin i = some (some ⟨ds.map DT.ac, N, el, fl, .cells⟩)) (hl : lvl ≤ i) (ha : All2 (FrzV i ds) args args') (hc : COut E lvl (setL hin i none) f args' v hout) : COut E lvl hin f args v hout := by
 rw [getL_eq] at hi
 rw [setL_eq] at hc
 intro m base w argsC hA H G
 obtain ⟨m2, H2, hle, hn, hρ, hκ, hV, _⟩ := H.freeze hi hl
 refine (hc m2 base w argsC (all2_map (R := VR m) (T := FrzV i ds) (S := VR m2) (fun a b c h0 h3 => hV a c b h0 h3) ha hA) H2 G).mono fun e w' ⟨y, hy, m1, hp⟩ => ⟨y, hy, m1, hle.trans hp.le, hp.val, hp.heap, hp.below⟩
theorem cpB (l : List Bool) (hm : l.length ≤ 100000) (h : Heap) : CopyOk h 1 1 (dB l) l.length (bbC l) (decide (l.length = 0)) := by
 by_cases h0 : l.length = 0
 ·obtain rfl := List.length_eq_zero_iff.1 h0
  exact .inl ⟨rfl, rfl, rfl, _, _, rfl⟩
 ·rw [decide_eq_false h0]
  exact .inr (.inl ⟨rfl, by omega, by simp [small]; omega, by simp [List.all_eq_true, DT.ac, AC.isOne], bbD l, rfl, rfl, by simp⟩)
theorem loadF_len : ∀ (f : Nat) (xs : List Int) (d : List Bool), (loadF f xs d).length ≤ f
 | 0, _, _ => Nat.le_refl _
 | f + 1, xs, d => by
  show (if d.length = 0 then [] else symF xs d :: loadF f xs (restF xs d) : List (List Int)).length ≤ _
  split
  ·simp
  ·have := loadF_len f xs (restF xs d)
   rw [List.length_cons]; omega
theorem symF_len : ∀ (xs : List Int) (d : List Bool), (symF xs d).length = xs.length
 | [], _ => rfl
 | x :: r, d => by show (_ :: symF r (d.drop x.toNat)).length = _; rw [List.length_cons, symF_len, List.length_cons]
end
end Go.Proofs.YtaccakbjankeeaaGreatDoor
end

/-! SeCa -/
section
open Go Go.Ev Go.Proofs
namespace Go.Proofs.YtaccakbjankeeaaGreatDoor
set_option maxRecDepth 100000
set_option maxHeartbeats 4000000
def padB : Nat → List Bool → List Bool
 | 0, _ => []
 | k + 1, [] => false :: padB k []
 | k + 1, b :: d => b :: padB k d
theorem pad_len : ∀ k d, (padB k d).length = k
 | 0, _ => rfl
 | k + 1, [] => by show (false :: padB k []).length = _; rw [List.length_cons, pad_len]
 | k + 1, b :: d => by show (b :: padB k d).length = _; rw [List.length_cons, pad_len]
theorem pad_add : ∀ p q d, padB (p + q) d = padB p d ++ padB q (d.drop p)
 | 0, q, d => by rw [Nat.zero_add]; rfl
 | p + 1, q, [] => by
  rw [show p + 1 + q = (p + q) + 1 by omega]
  show false :: padB (p + q) [] = false :: (padB p [] ++ padB q [])
  rw [pad_add p q [], List.drop_nil]
 | p + 1, q, b :: d => by
  rw [show p + 1 + q = (p + q) + 1 by omega]
  show b :: padB (p + q) d = b :: (padB p d ++ padB q (d.drop p))
  rw [pad_add p q d]
theorem pad_take : ∀ k (d : List Bool), d.length ≤ k → (padB k d).take d.length = d
 | 0, [], _ => rfl
 | k + 1, [], _ => rfl
 | k + 1, b :: d, h => by
  show b :: (padB k d).take d.length = b :: d
  rw [pad_take k d (by simpa using h)]
 | 0, b :: d, h => by simp at h
theorem bit_of {n k : Nat} {a : Nat} {b : Bool} (h : n / 2 ^ k = 2 * a + (if b = true then 1 else 0)) : bitF n k = b := by
 unfold bitF
 rw [h]
 cases b
 ·show (((2 * a + 0 : Nat) : Int).tmod 2 == 1) = false
  rw [show ((2 * a + 0 : Nat) : Int).tmod 2 = (((2 * a + 0) % 2 : Nat) : Int) from rfl, show (2 * a + 0) % 2 = 0 by omega]
  rfl
 ·show (((2 * a + 1 : Nat) : Int).tmod 2 == 1) = true
  rw [show ((2 * a + 1 : Nat) : Int).tmod 2 = (((2 * a + 1) % 2 : Nat) : Int) from rfl, show (2 * a + 1) % 2 = 1 by omega]
  rfl
theorem cut_bits : ∀ (k a : Nat) (d : List Bool), (cutF k (a : Int) d).1.toNat / 2 ^ k = a ∧ bitsF (cutF k (a : Int) d).1.toNat k = padB k d
 | 0, a, d => by
  refine ⟨?_, rfl⟩
  show (a : Int).toNat / 1 = a
  simp
 | k + 1, a, [] => by
  have e : cutF (k + 1) (a : Int) [] = cutF k ((a * 2 : Nat) : Int) [] := rfl
  obtain ⟨h1, h2⟩ := cut_bits k (a * 2) []
  rw [e]
  refine ⟨by rw [Nat.pow_succ, ← Nat.div_div_eq_div_mul, h1]; omega, ?_⟩
  show bitF _ k :: bitsF _ k = false :: padB k []
  rw [h2, bit_of (a := a) (b := false) (by rw [h1]; simp; omega)]
 | k + 1, a, b :: d => by
  have e : cutF (k + 1) (a : Int) (b :: d) = cutF k (((2 * a + (if b = true then 1 else 0) : Nat)) : Int) d := by
   show cutF k (if b = true then (a : Int) * 2 + 1 else (a : Int) * 2) d = _
   congr 1
   cases b
   ·simp; omega
   ·simp; omega
  obtain ⟨h1, h2⟩ := cut_bits k (2 * a + (if b = true then 1 else 0)) d
  rw [e]
  refine ⟨by rw [Nat.pow_succ, ← Nat.div_div_eq_div_mul, h1]; split <;> omega, ?_⟩
  show bitF _ k :: bitsF _ k = b :: padB k d
  rw [h2, bit_of (a := a) (b := b) h1]
def totN : List Int → Nat
 | [] => 0
 | x :: r => x.toNat + totN r
theorem lv_back : ∀ w : Fin 64, (nbT.getD (lvT.getD w.1 0).toNat 0).toNat = w.1 := by decide +kernel
theorem lv_lt : ∀ q : Fin 7, ∀ w : Fin 64, w.1 < 2 ^ q.1 → 0 ≤ lvT.getD w.1 0 ∧ lvT.getD w.1 0 ≤ 2 ^ q.1 - 1 := by decide +kernel
theorem cut_lt2 (q : Nat) (hq : q ≤ 6) (d : List Bool) : (cutF q 0 d).1.toNat < 2 ^ q ∧ (cutF q 0 d).1.toNat < 64 := by
 have h := cut_lt q 0 d 1 (by decide) (by decide)
 have h2 : (2 : Int) ^ q = ((2 ^ q : Nat) : Int) := by simp
 have h3 := two_le ⟨q, by omega⟩
 simp only [Int.one_mul] at h h3
 rw [h2] at h h3
 omega
theorem symB_symF : ∀ (xs : List Int) (d : List Bool), (∀ x ∈ xs, 0 ≤ x ∧ x ≤ 6) → symB xs (symF xs d) = padB (totN xs) d
 | [], _, _ => rfl
 | x :: r, d, h => by
  have h1 := h x (List.mem_cons_self ..)
  obtain ⟨q, rfl⟩ := Int.eq_ofNat_of_zero_le h1.1
  have hc := (cut_lt2 q (by omega) d).2
  have hb := (cut_bits q 0 d).2
  show bitsF (nbT.getD (lvT.getD (cutF q 0 d).1.toNat 0).toNat 0).toNat q ++ symB r (symF r (d.drop q)) = padB (q + totN r) d
  have hl := lv_back ⟨_, hc⟩
  simp only at hl
  rw [hl, pad_add, symB_symF r (d.drop q) fun y hy => h y (List.mem_cons_of_mem _ hy)]
  rw [show (((0 : Nat) : Int)) = 0 from rfl] at hb
  rw [hb]
theorem rest_tot : ∀ (xs : List Int) (d : List Bool), restF xs d = d.drop (totN xs)
 | [], _ => rfl
 | x :: r, d => by
  show restF r (d.drop x.toNat) = d.drop (x.toNat + totN r)
  rw [rest_tot r, List.drop_drop]
theorem allB_loadF (xs : List Int) (h : ∀ x ∈ xs, 0 ≤ x ∧ x ≤ 6) : ∀ (f : Nat) (d : List Bool), allB xs (loadF f xs d) = padB ((loadF f xs d).length * totN xs) d
 | 0, _ => by simp [loadF, allB, padB]
 | f + 1, d => by
  have e : loadF (f + 1) xs d = if d.length = 0 then [] else symF xs d :: loadF f xs (restF xs d) := rfl
  rw [e]
  by_cases c : d.length = 0
  ·rw [if_pos c]; simp [allB, padB]
  ·rw [if_neg c]
   show symB xs (symF xs d) ++ allB xs (loadF f xs (restF xs d)) = _
   rw [symB_symF xs d h, allB_loadF xs h f, List.length_cons, Nat.add_mul, Nat.one_mul, Nat.add_comm, pad_add, rest_tot]
theorem loadF_ceil (xs : List Int) (ht : 0 < totN xs) : ∀ (f : Nat) (d : List Bool), d.length ≤ f → (loadF f xs d).length = (d.length + totN xs - 1) / totN xs
 | 0, d, hd => by
  have : d.length = 0 := by omega
  show 0 = _
  rw [this, Nat.zero_add]
  exact (Nat.div_eq_of_lt (by omega)).symm
 | f + 1, d, hd => by
  have e : loadF (f + 1) xs d = if d.length = 0 then [] else symF xs d :: loadF f xs (restF xs d) := rfl
  rw [e]
  by_cases c : d.length = 0
  ·rw [if_pos c, c, Nat.zero_add]
   exact (Nat.div_eq_of_lt (by omega)).symm
  ·rw [if_neg c, List.length_cons, rest_tot]
   have hl : (d.drop (totN xs)).length = d.length - totN xs := List.length_drop
   rw [loadF_ceil xs ht f _ (by omega), hl]
   by_cases g : totN xs ≤ d.length
   ·rw [show d.length + totN xs - 1 = (d.length - totN xs + totN xs - 1) + totN xs by omega, Nat.add_div_right _ ht]
   ·rw [show d.length - totN xs = 0 by omega, Nat.zero_add, Nat.div_eq_of_lt (show totN xs - 1 < totN xs by omega), show d.length + totN xs - 1 = (d.length - 1) + totN xs by omega, Nat.add_div_right _ ht, Nat.div_eq_of_lt (by omega)]
theorem symF_ok : ∀ (xs : List Int) (d : List Bool), (∀ x ∈ xs, 0 ≤ x ∧ x ≤ 6) → lvlE xs (symF xs d) = 0
 | [], _, _ => rfl
 | x :: r, d, h => by
  have h1 := h x (List.mem_cons_self ..)
  obtain ⟨q, rfl⟩ := Int.eq_ofNat_of_zero_le h1.1
  have hc := cut_lt2 q (by omega) d
  have hl := lv_lt ⟨q, by omega⟩ ⟨_, hc.2⟩ hc.1
  simp only at hl
  show (if rg (lvT.getD (cutF q 0 d).1.toNat 0) 0 (2 ^ q - 1) = 0 then lvlE r (symF r (d.drop q)) else rg (lvT.getD (cutF q 0 d).1.toNat 0) 0 (2 ^ q - 1)) = 0
  have e : rg (lvT.getD (cutF q 0 d).1.toNat 0) 0 (2 ^ q - 1) = 0 := by unfold rg; rw [if_neg (by omega)]
  rw [if_pos e]
  exact symF_ok r _ fun y hy => h y (List.mem_cons_of_mem _ hy)
end Go.Proofs.YtaccakbjankeeaaGreatDoor
end
