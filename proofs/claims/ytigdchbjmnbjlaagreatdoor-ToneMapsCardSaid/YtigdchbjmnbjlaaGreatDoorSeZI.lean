/-
  Part of the proof: SeDg, SeDh, SeMa.
-/
import Derived.Test.YtigdchbjmnbjlaaGreatDoorSeZH

/-! SeDg -/
section
open Go Go.Ev
namespace Go.Proofs.YtigdchbjmnbjlaaGreatDoor
noncomputable section
set_option maxRecDepth 100000
set_option maxHeartbeats 20000000
def x152 (C N O : List DT) (s n o p c : Nat) (mg ms : Int) (_j : JN) : St := startK Tryz.f163 [] [.e (.agg (tQ C s N n mg ms O o)), (iN p), (iN c)]
def x122 (C N O : List DT) (s n o p : Nat) (mg ms : Int) (_j : JN) : St := startK Tryz.f105 [] [.e (.agg (tQ C s N n mg ms O o)), (iN p)]
def y152f (C N O : List DT) (s n o p c : Nat) (mg ms : Int) (j : JN) : St := ⟨[(bK (tQ C s N n mg ms O o) 5 78), (bK [(.v (.int .i64 0))] 1 3)], [(.code (aF [1, 1, 1, 0, 1, 0, 0] Tryz.f163)), (.inLoop (aF [1, 1, 1, 0, 1, 0, 0] Tryz.f163)), (.inBlock 0), (.code (aF [1, 1, 1, 1] Tryz.f163))], mkT j [(1, (iN p)), (2, (iN c)), (3, (.e (.one (.ptr 0 0)))), (7, (.e (.one (.slc 1 0 1 1 1 true)))), (8, (iI 1))] 42 0⟩
def y122n (C N O : List DT) (s n o i p : Nat) (mg ms : Int) (j : JN) : St := ⟨[(bK (tQ C s N n mg ms O o) 5 78)], [(.code (aF [1, 1, 0, 1, 0, 0] Tryz.f105)), (.inLoop (aF [1, 1, 0, 1, 0, 0] Tryz.f105)), (.inBlock 0), (.code (aF [1, 1, 1] Tryz.f105))], mkT j [(1, (iN p)), (2, (.e (.one (.ptr 0 0)))), (5, (.e (.one (.v (.slice none 0 0))))), (9, (iN s)), (10, (iN i))] 22 0⟩
def y152g (C N O : List DT) (s n o p c k : Nat) (mg ms : Int) (Y : List AC) (j : JN) : St := ⟨[bK (tQ C s N n mg ms O o) 5 78, some ⟨Y, k, 3, false, .cells⟩], [(.code (aF [1, 1, 1, 0, 1, 0, 0] Tryz.f163)), (.inLoop (aF [1, 1, 1, 0, 1, 0, 0] Tryz.f163)), (.inBlock 0), (.code (aF [1, 1, 1, 1] Tryz.f163))], mkT j [(1, (iN p)), (2, (iN c)), (3, (.e (.one (.ptr 0 0)))), (7, (.e (.one (.slc 1 0 k 1 k false)))), (8, (iN k))] 42 0⟩
def y122 (C N O : List DT) (s n o i p q : Nat) (mg ms : Int) (Y : List AC) (j : JN) : St := ⟨[bK (tQ C s N n mg ms O o) 5 78, some ⟨Y, q, 30, false, .cells⟩], [(.code (aF [1, 1, 0, 1, 0, 0] Tryz.f105)), (.inLoop (aF [1, 1, 0, 1, 0, 0] Tryz.f105)), (.inBlock 0), (.code (aF [1, 1, 1] Tryz.f105))], mkT j [(1, (iN p)), (2, (.e (.one (.ptr 0 0)))), (5, (.e (.one (.slc 1 0 q 1 q false)))), (9, (iN s)), (10, (iN i))] 22 0⟩
def p152z_end (j : JN) : St := ⟨[(bK [(.v (.int .i64 0))] 1 3)], [(.code .ret), (.code (aF [1, 1, 1] Tryz.f163))], mkT j [(6, (.e (.one (.slc 0 0 1 1 1 true))))] 42 0⟩
theorem p152z (hE : EnvOk E) (C N O : List DT) (s n o p c : Nat) (mg ms z : Int) (hb : Bool) (h0 : (0 : Int) ≤ Int.ofNat c ∧ Int.ofNat c < (↑s : Int)) (h1 : ((Int.ofNat c).toNat * nat_lit 1 : Nat) = c) (h2 : (getL C c : Option DT) = (.some (.v (.int .i64 z)))) (h3 : ((z == (0 : Int)) == false : Bool) = false) (h4 : ((z == (0 : Int)) == false : Bool) = false) (h5 : ((z == (0 : Int)) == false : Bool) = false) (h6 : ((z == (0 : Int)) == false : Bool) = false) (h7 : (z == (0 : Int) : Bool) = true) {Φ : Res → Prop} (ho : ∀ j, OutK E 0 0 (p152z_end j) Φ) (j : JN) : OutK E 0 0 (x152 C N O s n o p c mg ms j) Φ :=
 oS hE [.run 6, (.ops [(4, (.d (.ld (.v (.int .i64 z))))), (10, (.c0 (iB hb))), (3, (.d (.ix c))), (11, (.pk true))] [(7, false), (8, false), (9, false), (10, false)]), .run 3] [6] (s' := fun j => ⟨[(bK (tQ C s N n mg ms O o) 5 78), (bK [(.v (.int .i64 0))] 1 3)], [(.code .ret), (.code (aF [1, 1, 1] Tryz.f163))], mkT j [(6, (.e (.one (.slc 1 0 1 1 1 true))))] 42 0⟩) (aQ h0 h1 h2 h3 <| aQ h4 h5 h6 h7 <| aZ)
  fun j => gZ [1] (ho j)
def p152h_end (j : JN) : St := ⟨[(bK [(.v (.int .i64 0))] 1 3)], [(.code .ret), (.code (aF [1, 1, 1] Tryz.f163))], mkT j [(6, (.e (.one (.slc 0 0 1 1 1 true))))] 42 0⟩
theorem p152h (hE : EnvOk E) (C N O : List DT) (s n o p c : Nat) (mg ms z : Int) (hb : Bool) (h0 : (0 : Int) ≤ Int.ofNat c ∧ Int.ofNat c < (↑s : Int)) (h1 : ((Int.ofNat c).toNat * nat_lit 1 : Nat) = c) (h2 : (getL C c : Option DT) = (.some (.v (.int .i64 z)))) (h3 : ((z == (0 : Int)) == false : Bool) = true) (h4 : ((z == (0 : Int)) == false : Bool) = true) (h5 : ((z == (0 : Int)) == false : Bool) = true) (h6 : ((z == (0 : Int)) == false : Bool) = true) (h7 : COut E 0 [] 186 [(dQ O o), (iN c)] (iB hb) []) (h9 : (z == (0 : Int) : Bool) = false) (h10 : (hb : Bool) = true) {Φ : Res → Prop} (ho : ∀ j, OutK E 0 0 (p152h_end j) Φ) (j : JN) : OutK E 0 0 (x152 C N O s n o p c mg ms j) Φ :=
 oS hE [.run 6, (.ops [(4, (.d (.ld (.v (.int .i64 z))))), (10, (.c0 (iB hb))), (3, (.d (.ix c))), (11, (.pk false))] [(7, true), (8, true), (9, true), (10, true)]), (.cond true), .run 2] [6] (s' := fun j => ⟨[(bK (tQ C s N n mg ms O o) 5 78), (bK [(.v (.int .i64 0))] 1 3)], [(.code .ret), (.code (aF [1, 1, 1] Tryz.f163))], mkT j [(6, (.e (.one (.slc 1 0 1 1 1 true))))] 42 0⟩) (aQ h0 h1 h2 h3 <| aQ h4 h5 h6 h7 <| aN <| aP h9 <| aP h10 <| aZ)
  fun j => gZ [1] (ho j)
def p152a_end (C N O : List DT) (s n o p c : Nat) (mg ms : Int) (j : JN) : St := ⟨[(bK (tQ C s N n mg ms O o) 5 78), (bK [(.v (.int .i64 0))] 1 3)], [(.code (aF [1, 1, 1, 0, 1, 0, 0] Tryz.f163)), (.inLoop (aF [1, 1, 1, 0, 1, 0, 0] Tryz.f163)), (.inBlock 0), (.code (aF [1, 1, 1, 1] Tryz.f163))], mkT j [(1, (iN p)), (2, (iN c)), (3, (.e (.one (.ptr 0 0)))), (7, (.e (.one (.slc 1 0 1 1 1 true)))), (8, (iI 1))] 42 0⟩
theorem p152a (hE : EnvOk E) (C N O : List DT) (s n o p c : Nat) (mg ms z : Int) (hb : Bool) (h0 : (0 : Int) ≤ Int.ofNat c ∧ Int.ofNat c < (↑s : Int)) (h1 : ((Int.ofNat c).toNat * nat_lit 1 : Nat) = c) (h2 : (getL C c : Option DT) = (.some (.v (.int .i64 z)))) (h3 : ((z == (0 : Int)) == false : Bool) = true) (h4 : ((z == (0 : Int)) == false : Bool) = true) (h5 : ((z == (0 : Int)) == false : Bool) = true) (h6 : ((z == (0 : Int)) == false : Bool) = true) (h7 : COut E 0 [] 186 [(dQ O o), (iN c)] (iB hb) []) (h9 : (z == (0 : Int) : Bool) = false) (h10 : (hb : Bool) = false) {Φ : Res → Prop} (ho : ∀ j, OutK E 0 0 (p152a_end C N O s n o p c mg ms j) Φ) (j : JN) : OutK E 0 0 (x152 C N O s n o p c mg ms j) Φ :=
 oS hE [.run 6, (.ops [(4, (.d (.ld (.v (.int .i64 z))))), (10, (.c0 (iB hb))), (3, (.d (.ix c))), (11, (.pk false))] [(7, true), (8, true), (9, true), (10, true)]), (.cond false), .run 6] [1, 2, 3, 7, 8] (aQ h0 h1 h2 h3 <| aQ h4 h5 h6 h7 <| aN <| aP h9 <| aP h10 <| aZ)
  ho
def p122a_end (C N O : List DT) (s n o p : Nat) (mg ms : Int) (j : JN) : St := ⟨[(bK (tQ C s N n mg ms O o) 5 78)], [(.code (aF [1, 1, 0, 1, 0, 0] Tryz.f105)), (.inLoop (aF [1, 1, 0, 1, 0, 0] Tryz.f105)), (.inBlock 0), (.code (aF [1, 1, 1] Tryz.f105))], mkT j [(1, (iN p)), (2, (.e (.one (.ptr 0 0)))), (5, (.e (.one (.v (.slice none 0 0))))), (9, (iN s)), (10, (iI 0))] 22 0⟩
theorem p122a (hE : EnvOk E) (C N O : List DT) (s n o p : Nat) (mg ms : Int) {Φ : Res → Prop} (ho : ∀ j, OutK E 0 0 (p122a_end C N O s n o p mg ms j) Φ) (j : JN) : OutK E 0 0 (x122 C N O s n o p mg ms j) Φ :=
 oS hE [.run 6, (.ops [(2, (.d .len))] []), .run 2] [1, 2, 5, 9, 10] (ps := []) trivial
  ho
def p152f_end (C N O : List DT) (s n o p c k : Nat) (mg ms a : Int) (j : JN) : St := ⟨[(bK (tQ C s N n mg ms O o) 5 78), (.some ⟨[(.v (.int .i64 0)), (.v (.int .i64 a))], 2, 3, false, .cells⟩)], [(.code (aF [1, 1, 1, 0, 1, 0, 0] Tryz.f163)), (.inLoop (aF [1, 1, 1, 0, 1, 0, 0] Tryz.f163)), (.inBlock 0), (.code (aF [1, 1, 1, 1] Tryz.f163))], mkT j [(1, (iN p)), (2, (iN c)), (3, (.e (.one (.ptr 0 0)))), (7, (.e (.one (.slc 1 0 2 1 2 false)))), (8, (iN (k + 1)))] 42 0⟩
theorem p152f (hE : EnvOk E) (C N O : List DT) (s n o p c k : Nat) (mg ms a : Int) (h0 : COut E 0 [] 122 [(tA C s N n mg ms O o), (iN p), (iN c), (iI 1)] (iI a) []) (h2 : (decide (a > ms) : Bool) = false) (h3 : ((iI 2) : AV) = (iN (k + 1))) {Φ : Res → Prop} (ho : ∀ j, OutK E 0 0 (p152f_end C N O s n o p c k mg ms a j) Φ) (j : JN) : OutK E 0 0 (y152f C N O s n o p c mg ms j) Φ :=
 oS hE [.run 8, (.ops [(4, (.c0 (iI a)))] []), .run 3, (.cond false), .run 3, (.ops [(1, (.rn (iN (k + 1))))] []), .run 1] [1, 2, 3, 7, 8] (s' := fun j => ⟨[(bK (tQ C s N n mg ms O o) 5 78), (bK [(.v (.int .i64 0))] 1 3), (bK [(.v (.int .i64 a))] 1 3), (.some ⟨[(.v (.int .i64 0)), (.v (.int .i64 a))], 2, 3, false, .cells⟩)], [(.code (aF [1, 1, 1, 0, 1, 0, 0] Tryz.f163)), (.inLoop (aF [1, 1, 1, 0, 1, 0, 0] Tryz.f163)), (.inBlock 0), (.code (aF [1, 1, 1, 1] Tryz.f163))], mkT j [(1, (iN p)), (2, (iN c)), (3, (.e (.one (.ptr 0 0)))), (7, (.e (.one (.slc 3 0 2 1 2 false)))), (8, (iN (k + 1)))] 42 0⟩) (aP h0 <| aN <| aP h2 <| aP h3 <| aZ)
  fun j => gZ [0, 3] (ho j)
def p152fb_end (j : JN) : St := ⟨[(bK [(.v (.int .i64 0))] 1 3)], [(.code .ret)], mkT j [(6, (.e (.one (.slc 0 0 1 1 1 true))))] 42 0⟩
theorem p152fb (hE : EnvOk E) (C N O : List DT) (s n o p c : Nat) (mg ms a : Int) (h0 : COut E 0 [] 122 [(tA C s N n mg ms O o), (iN p), (iN c), (iI 1)] (iI a) []) (h2 : (decide (a > ms) : Bool) = true) {Φ : Res → Prop} (ho : ∀ j, OutK E 0 0 (p152fb_end j) Φ) (j : JN) : OutK E 0 0 (y152f C N O s n o p c mg ms j) Φ :=
 oS hE [.run 8, (.ops [(4, (.c0 (iI a)))] []), .run 3, (.cond true), .run 3] [6] (s' := fun j => ⟨[(bK (tQ C s N n mg ms O o) 5 78), (bK [(.v (.int .i64 0))] 1 3)], [(.code .ret)], mkT j [(6, (.e (.one (.slc 1 0 1 1 1 true))))] 42 0⟩) (aP h0 <| aN <| aP h2 <| aZ)
  fun j => gZ [1] (ho j)
def p122n_end (C N O R : List DT) (s n o m i p : Nat) (mg ms : Int) (j : JN) : St := ⟨[(bK (tQ C s N n mg ms O o) 5 78), (.some ⟨[(.dp (.s R m 1))], 1, 30, false, .cells⟩)], [(.code (aF [1, 1, 0, 1, 0, 0] Tryz.f105)), (.inLoop (aF [1, 1, 0, 1, 0, 0] Tryz.f105)), (.inBlock 0), (.code (aF [1, 1, 1] Tryz.f105))], mkT j [(1, (iN p)), (2, (.e (.one (.ptr 0 0)))), (5, (.e (.one (.slc 1 0 1 1 1 false)))), (9, (iN s)), (10, (iN (i + 1)))] 22 0⟩
theorem p122n (hE : EnvOk E) (C N O R : List DT) (s n o m i p : Nat) (mg ms : Int) (h0 : (decide (Int.ofNat i < Int.ofNat s) : Bool) = true) (h1 : COut E 0 [] 163 [(tA C s N n mg ms O o), (iN p), (iN i)] (dQ R m) []) (h3 : ((iI (wrapF IntKind.i64 (Int.ofNat i + (1 : Int)))) : AV) = (iN (i + 1))) {Φ : Res → Prop} (ho : ∀ j, OutK E 0 0 (p122n_end C N O R s n o m i p mg ms j) Φ) (j : JN) : OutK E 0 0 (y122n C N O s n o i p mg ms j) Φ :=
 oS hE [.run 3, (.cond true), .run 5, (.ops [(4, (.c0 (dQ R m)))] []), .run 1, (.ops [(0, (.rn (iN (i + 1))))] []), .run 1] [1, 2, 5, 9, 10] (s' := fun j => ⟨[(bK (tQ C s N n mg ms O o) 5 78), (bK [(.dp (.s R m 1))] 1 30), (.some ⟨[(.dp (.s R m 1))], 1, 30, false, .cells⟩)], [(.code (aF [1, 1, 0, 1, 0, 0] Tryz.f105)), (.inLoop (aF [1, 1, 0, 1, 0, 0] Tryz.f105)), (.inBlock 0), (.code (aF [1, 1, 1] Tryz.f105))], mkT j [(1, (iN p)), (2, (.e (.one (.ptr 0 0)))), (5, (.e (.one (.slc 2 0 1 1 1 false)))), (9, (iN s)), (10, (iN (i + 1)))] 22 0⟩) (aP h0 <| aP h1 <| aN <| aP h3 <| aZ)
  fun j => gZ [0, 2] (ho j)
def p152s_end (C N O : List DT) (s n o p c k : Nat) (mg ms : Int) (Z : List AC) (j : JN) : St := ⟨[(bK (tQ C s N n mg ms O o) 5 78), (.some ⟨(Z), (k + 1), 3, false, .cells⟩)], [(.code (aF [1, 1, 1, 0, 1, 0, 0] Tryz.f163)), (.inLoop (aF [1, 1, 1, 0, 1, 0, 0] Tryz.f163)), (.inBlock 0), (.code (aF [1, 1, 1, 1] Tryz.f163))], mkT j [(1, (iN p)), (2, (iN c)), (3, (.e (.one (.ptr 0 0)))), (7, (.e (.one (.slc 1 0 (k + 1) 1 (k + 1) false)))), (8, (iN (k + 1)))] 42 0⟩
theorem p152s (hE : EnvOk E) (C N O : List DT) (s n o p c k : Nat) (mg ms _x a : Int) (Y Z : List AC) (h0 : (decide (Int.ofNat k ≤ (6 : Int)) : Bool) = true) (h1 : COut E 0 [] 122 [(tA C s N n mg ms O o), (iN p), (iN c), (iN k)] (iI a) []) (h3 : (decide (a > ms) : Bool) = false) (h4 : ¬k + 1 ≤ k) (h5 : (small (k + 1) (1 : Nat) (8 : Nat) : Bool) = true) (h6 : (k : Nat) = k * nat_lit 1) (h7 : (appL Y ((fun x => AC.v (Value.int IntKind.i64 a) :: x) []) : List AC) = Z) (h9 : ((k + 1) * nat_lit 1 : Nat) = k + 1) (h10 : ((iI (wrapF IntKind.i64 (Int.ofNat k + (1 : Int)))) : AV) = (iN (k + 1))) (g0 : FlatC Z) {Φ : Res → Prop} (ho : ∀ j, OutK E 0 0 (p152s_end C N O s n o p c k mg ms Z j) Φ) (j : JN) : OutK E 0 0 (y152g C N O s n o p c k mg ms Y j) Φ :=
 oS hE [.run 3, (.cond true), .run 4, (.ops [(4, (.c0 (iI a)))] []), .run 3, (.cond false), .run 1, (.ops [(3, (.app (k + 1) (k + 1) Z))] []), .run 1, (.ops [(1, (.rn (iN (k + 1))))] []), .run 1] [1, 2, 3, 7, 8] (s' := fun j => ⟨[(bK (tQ C s N n mg ms O o) 5 78), none, (bK [(.v (.int .i64 a))] 1 3), (.some ⟨(Z), (k + 1), 3, false, .cells⟩)], [(.code (aF [1, 1, 1, 0, 1, 0, 0] Tryz.f163)), (.inLoop (aF [1, 1, 1, 0, 1, 0, 0] Tryz.f163)), (.inBlock 0), (.code (aF [1, 1, 1, 1] Tryz.f163))], mkT j [(1, (iN p)), (2, (iN c)), (3, (.e (.one (.ptr 0 0)))), (7, (.e (.one (.slc 3 0 (k + 1) 1 (k + 1) false)))), (8, (iN (k + 1)))] 42 0⟩) (aP h0 <| aP h1 <| aN <| aQ h3 h4 h5 h6 <| aP h7 <| aP (rfl : (k + 1 : Nat) = k + 1) <| aP h9 <| aP h10 <| aZ)
  fun j => outK_gcF [0, 3] [false, true] (h' := [(bK (tQ C s N n mg ms O o) 5 78), (.some ⟨(Z), (k + 1), 3, false, .cells⟩)]) (by decide) (by kernel_rfl) (by kernel_rfl) ⟨g0, trivial⟩ (by kernel_rfl) (ho j)
def p152b_end (k : Nat) (Y : List AC) (j : JN) : St := ⟨[(.some ⟨(Y), k, 3, false, .cells⟩)], [(.code .ret)], mkT j [(6, (.e (.one (.slc 0 0 k 1 k false))))] 42 0⟩
theorem p152b (hE : EnvOk E) (C N O : List DT) (s n o p c k : Nat) (mg ms a : Int) (Y : List AC) (h0 : (decide (Int.ofNat k ≤ (6 : Int)) : Bool) = true) (h1 : COut E 0 [] 122 [(tA C s N n mg ms O o), (iN p), (iN c), (iN k)] (iI a) []) (h3 : (decide (a > ms) : Bool) = true) (g0 : FlatC Y) {Φ : Res → Prop} (ho : ∀ j, OutK E 0 0 (p152b_end k Y j) Φ) (j : JN) : OutK E 0 0 (y152g C N O s n o p c k mg ms Y j) Φ :=
 oS hE [.run 3, (.cond true), .run 4, (.ops [(4, (.c0 (iI a)))] []), .run 3, (.cond true), .run 3] [6] (s' := fun j => ⟨[(bK (tQ C s N n mg ms O o) 5 78), (.some ⟨(Y), k, 3, false, .cells⟩)], [(.code .ret)], mkT j [(6, (.e (.one (.slc 1 0 k 1 k false))))] 42 0⟩) (aP h0 <| aP h1 <| aN <| aP h3 <| aZ)
  fun j => outK_gcF [1] [true] (h' := [(.some ⟨(Y), k, 3, false, .cells⟩)]) (by decide) (by kernel_rfl) (by kernel_rfl) ⟨g0, trivial⟩ (by kernel_rfl) (ho j)
def p152x_end (k : Nat) (Y : List AC) (j : JN) : St := ⟨[(.some ⟨(Y), k, 3, false, .cells⟩)], [(.code .ret)], mkT j [(6, (.e (.one (.slc 0 0 k 1 k false))))] 42 0⟩
theorem p152x (hE : EnvOk E) (C N O : List DT) (s n o p c k : Nat) (mg ms : Int) (Y : List AC) (h0 : (decide (Int.ofNat k ≤ (6 : Int)) : Bool) = false) (g0 : FlatC Y) {Φ : Res → Prop} (ho : ∀ j, OutK E 0 0 (p152x_end k Y j) Φ) (j : JN) : OutK E 0 0 (y152g C N O s n o p c k mg ms Y j) Φ :=
 oS hE [.run 3, (.cond false), .run 3] [6] (s' := fun j => ⟨[(bK (tQ C s N n mg ms O o) 5 78), (.some ⟨(Y), k, 3, false, .cells⟩)], [(.code .ret)], mkT j [(6, (.e (.one (.slc 1 0 k 1 k false))))] 42 0⟩) (aP h0 <| aZ)
  fun j => outK_gcF [1] [true] (h' := [(.some ⟨(Y), k, 3, false, .cells⟩)]) (by decide) (by kernel_rfl) (by kernel_rfl) ⟨g0, trivial⟩ (by kernel_rfl) (ho j)
def p122s_end (C N O : List DT) (s n o i p q : Nat) (mg ms : Int) (Z : List AC) (j : JN) : St := ⟨[(bK (tQ C s N n mg ms O o) 5 78), (.some ⟨(Z), (q + 1), 30, false, .cells⟩)], [(.code (aF [1, 1, 0, 1, 0, 0] Tryz.f105)), (.inLoop (aF [1, 1, 0, 1, 0, 0] Tryz.f105)), (.inBlock 0), (.code (aF [1, 1, 1] Tryz.f105))], mkT j [(1, (iN p)), (2, (.e (.one (.ptr 0 0)))), (5, (.e (.one (.slc 1 0 (q + 1) 1 (q + 1) false)))), (9, (iN s)), (10, (iN (i + 1)))] 22 0⟩
theorem p122s (hE : EnvOk E) (C N O R : List DT) (s n o m i p q : Nat) (mg ms _x : Int) (Y Z : List AC) (h0 : (decide (Int.ofNat i < Int.ofNat s) : Bool) = true) (h1 : COut E 0 [] 163 [(tA C s N n mg ms O o), (iN p), (iN i)] (dQ R m) []) (h3 : ¬q + 1 ≤ q) (h4 : (small (q + 1) (1 : Nat) (24 : Nat) : Bool) = true) (h5 : (q : Nat) = q * nat_lit 1) (h6 : (appL Y ((fun x => AC.dp (DV.s R m (1 : Nat)) :: x) []) : List AC) = Z) (h8 : ((q + 1) * nat_lit 1 : Nat) = q + 1) (h9 : ((iI (wrapF IntKind.i64 (Int.ofNat i + (1 : Int)))) : AV) = (iN (i + 1))) (g0 : FlatC Z) {Φ : Res → Prop} (ho : ∀ j, OutK E 0 0 (p122s_end C N O s n o i p q mg ms Z j) Φ) (j : JN) : OutK E 0 0 (y122 C N O s n o i p q mg ms Y j) Φ :=
 oS hE [.run 3, (.cond true), .run 5, (.ops [(4, (.c0 (dQ R m))), (6, (.app (q + 1) (q + 1) Z))] []), .run 1, (.ops [(0, (.rn (iN (i + 1))))] []), .run 1] [1, 2, 5, 9, 10] (s' := fun j => ⟨[(bK (tQ C s N n mg ms O o) 5 78), none, (bK [(.dp (.s R m 1))] 1 30), (.some ⟨(Z), (q + 1), 30, false, .cells⟩)], [(.code (aF [1, 1, 0, 1, 0, 0] Tryz.f105)), (.inLoop (aF [1, 1, 0, 1, 0, 0] Tryz.f105)), (.inBlock 0), (.code (aF [1, 1, 1] Tryz.f105))], mkT j [(1, (iN p)), (2, (.e (.one (.ptr 0 0)))), (5, (.e (.one (.slc 3 0 (q + 1) 1 (q + 1) false)))), (9, (iN s)), (10, (iN (i + 1)))] 22 0⟩) (aP h0 <| aP h1 <| aN <| aQ h3 h4 h5 h6 <| aP (rfl : (q + 1 : Nat) = q + 1) <| aP h8 <| aP h9 <| aZ)
  fun j => outK_gcF [0, 3] [false, true] (h' := [(bK (tQ C s N n mg ms O o) 5 78), (.some ⟨(Z), (q + 1), 30, false, .cells⟩)]) (by decide) (by kernel_rfl) (by kernel_rfl) ⟨g0, trivial⟩ (by kernel_rfl) (ho j)
def p122x_end (q : Nat) (Y : List AC) (j : JN) : St := ⟨[(.some ⟨(Y), q, 30, false, .cells⟩)], [(.code .ret)], mkT j [(4, (.e (.one (.slc 0 0 q 1 q false))))] 22 0⟩
theorem p122x (hE : EnvOk E) (C N O : List DT) (s n o i p q : Nat) (mg ms : Int) (Y : List AC) (h0 : (decide (Int.ofNat i < Int.ofNat s) : Bool) = false) (g0 : FlatC Y) {Φ : Res → Prop} (ho : ∀ j, OutK E 0 0 (p122x_end q Y j) Φ) (j : JN) : OutK E 0 0 (y122 C N O s n o i p q mg ms Y j) Φ :=
 oS hE [.run 3, (.cond false), .run 3] [4] (s' := fun j => ⟨[(bK (tQ C s N n mg ms O o) 5 78), (.some ⟨(Y), q, 30, false, .cells⟩)], [(.code .ret)], mkT j [(4, (.e (.one (.slc 1 0 q 1 q false))))] 22 0⟩) (aP h0 <| aZ)
  fun j => outK_gcF [1] [true] (h' := [(.some ⟨(Y), q, 30, false, .cells⟩)]) (by decide) (by kernel_rfl) (by kernel_rfl) ⟨g0, trivial⟩ (by kernel_rfl) (ho j)
def tab {α : Type} (f : Nat → α) : Nat → List α
 | 0 => []
 | n + 1 => tab f n ++ [f n]
theorem tab_len {α : Type} (f : Nat → α) : ∀ n, (tab f n).length = n
 | 0 => rfl
 | n + 1 => by rw [show tab f (n + 1) = tab f n ++ [f n] from rfl, List.length_append, tab_len f n]; rfl
def pwR (mg x z ms : Int) : Nat → Nat → List Int → List Int
 | 0, _, l => l
 | m + 1, k, l => if pwV mg x z k ≤ ms then pwR mg x z ms m (k + 1) (l ++ [pwV mg x z k]) else l
def powL (mg x z ms : Int) (nt : List Int) (c : Nat) : List Int := if z = 0 ∨ (Int.ofNat c) ∈ nt then [0] else pwR mg x z ms 6 1 [0]
theorem pwR_len (mg x z ms : Int) : ∀ m k l, (pwR mg x z ms m k l).length ≤ l.length + m
 | 0, k, l => Nat.le_refl _
 | m + 1, k, l => by
  unfold pwR
  split
  ·have := pwR_len mg x z ms m (k + 1) (l ++ [pwV mg x z k])
   rw [List.length_append, List.length_singleton] at this
   omega
  ·omega
theorem powL_len (mg x z ms : Int) (nt : List Int) (c : Nat) : (powL mg x z ms nt c).length ≤ 7 := by
 unfold powL
 split
 ·decide
 ·have := pwR_len mg x z ms 6 1 [0]
  simpa using this
theorem l152 (hE : EnvOk E) (sg : List Int) (ns : List (List Int)) (mg ms : Int) (nt : List Int) {p c : Nat} {r : List Int} {x z : Int} (hk0 : cellOk sg ns mg p c r x z) (hz1 : 1 ≤ z) (V : List Int) : ∀ m k l, m + k = 7 → l.length = k → V = pwR mg x z ms m k l → ∀ j, OutK E 0 0 (y152g (iD sg) (rD ns) (iD nt) sg.length ns.length nt.length p c k mg ms (iC l) j) (Go.Ev.Ends E Tryz.f163 (.e (.one (.slc 0 0 V.length 1 V.length false))) [some ⟨iC V, V.length, 3, false, .cells⟩])
 | 0, k, l, hk, hl, hV, j => by
  obtain rfl : V = l := hV
  subst hl
  exact p152x hE (iD sg) (rD ns) (iD nt) sg.length ns.length nt.length p c V.length mg ms (iC V) dF (by first | exact flat_iC _ | exact flat_rows _) (fun j => outK_ret (ends_ret (by kernel_rfl))) j
 | m + 1, k, l, hk, hl, hV, j => by
  have k73 := K73 hE sg ns mg ms nt hk0 k (by omega) hz1
  by_cases h : pwV mg x z k ≤ ms
  ·have ih := l152 hE sg ns mg ms nt hk0 hz1 V m (k + 1) (l ++ [pwV mg x z k]) (by omega) (by simp [hl]) (by rw [hV]; exact if_pos h)
   exact p152s hE (iD sg) (rD ns) (iD nt) sg.length ns.length nt.length p c k mg ms 0 (pwV mg x z k) (iC l) (iC (l ++ [pwV mg x z k])) dT k73 (decide_eq_false (by omega)) (by omega) (by simp [small]; omega) oB (iC_app l [pwV mg x z k]) oB (iIe (by (try simp only [Int.ofNat_eq_natCast]); rw [wrap_id (by omega) (by omega)]; try omega)) (by first | exact flat_iC _ | exact flat_rows _) ih j
  ·obtain rfl : V = l := by rw [hV]; exact if_neg h
   subst hl
   exact p152b hE (iD sg) (rD ns) (iD nt) sg.length ns.length nt.length p c V.length mg ms (pwV mg x z V.length) (iC V) dT k73 (decide_eq_true (by omega)) (by first | exact flat_iC _ | exact flat_rows _) (fun j => outK_ret (ends_ret (by kernel_rfl))) j
theorem K152 (hE : EnvOk E) (sg : List Int) (ns : List (List Int)) (mg ms : Int) (nt : List Int) (hn : nt.length ≤ 100000) {p c : Nat} {r : List Int} {x z : Int} (hk0 : cellOk sg ns mg p c r x z) : COut E 0 [] 163 [aT sg ns mg ms nt, iI (Int.ofNat p), iI (Int.ofNat c)] (dI (powL mg x z ms nt c)) [] := by
 have hs := hk0.2.2.1
 have l3 := ixl hs
 have one : COut E 0 [] 163 [aT sg ns mg ms nt, iI (Int.ofNat p), iI (Int.ofNat c)] (.e (.one (.slc 0 0 1 1 1 true))) [bK (iC [0]) 1 3] → COut E 0 [] 163 [aT sg ns mg ms nt, iI (Int.ofNat p), iI (Int.ofNat c)] (dI [0]) [] := fun hc => cOut_clear (cOut_freeze 0 hc rfl (Nat.zero_le _) (ds := iD [0]) (frzAll (iD [0]) 1 1 1 true (by simp))) rfl
 by_cases h : z = 0
 ·have hz : (z == (0 : Int)) = true := beq_iff_eq.2 h
  rw [show powL mg x z ms nt c = [0] from if_pos (.inl h)]
  exact one (cOut_start Tryz.func163 rfl (p152z hE (iD sg) (rD ns) (iD nt) sg.length ns.length nt.length p c mg ms z false bP (Nat.mul_one _) (gI hs) (by rw [hz]; rfl) (by rw [hz]; rfl) (by rw [hz]; rfl) (by rw [hz]; rfl) hz (fun j => outK_ret (ends_ret (by kernel_rfl))) fun _ => undef))
 ·have hz : (z == (0 : Int)) = false := beq_eq_false_iff_ne.2 h
  have hz1 : 1 ≤ z := by have := hk0.2.2.2.2.2; omega
  by_cases hb : (Int.ofNat c) ∈ nt
  ·rw [show powL mg x z ms nt c = [0] from if_pos (.inr hb)]
   exact one (cOut_start Tryz.func163 rfl (p152h hE (iD sg) (rD ns) (iD nt) sg.length ns.length nt.length p c mg ms z true bP (Nat.mul_one _) (gI hs) (by rw [hz]; rfl) (by rw [hz]; rfl) (by rw [hz]; rfl) (by rw [hz]; rfl) (decide_eq_true hb ▸ K171 hE nt (Int.ofNat c) hn) hz oB (fun j => outK_ret (ends_ret (by kernel_rfl))) fun _ => undef))
  ·rw [show powL mg x z ms nt c = pwR mg x z ms 6 1 [0] from if_neg (fun a => a.elim h hb)]
   have k73 : COut E 0 [] 122 [aT sg ns mg ms nt, iI (Int.ofNat p), iI (Int.ofNat c), iI 1] (iI (pwV mg x z 1)) [] := K73 hE sg ns mg ms nt hk0 1 (by omega) hz1
   by_cases g : pwV mg x z 1 ≤ ms
   ·have ih := l152 hE sg ns mg ms nt hk0 hz1 (pwR mg x z ms 6 1 [0]) 5 2 [0, pwV mg x z 1] rfl rfl (if_pos g)
    generalize pwR mg x z ms 6 1 [0] = V at ih
    have hc : COut E 0 [] 163 [aT sg ns mg ms nt, iI (Int.ofNat p), iI (Int.ofNat c)] (.e (.one (.slc 0 0 V.length 1 V.length false))) [some ⟨iC V, V.length, 3, false, .cells⟩] :=
     cOut_start Tryz.func163 rfl (p152a hE (iD sg) (rD ns) (iD nt) sg.length ns.length nt.length p c mg ms z false bP (Nat.mul_one _) (gI hs) (by rw [hz]; rfl) (by rw [hz]; rfl) (by rw [hz]; rfl) (by rw [hz]; rfl) (decide_eq_false hb ▸ K171 hE nt (Int.ofNat c) hn) hz oB (p152f hE (iD sg) (rD ns) (iD nt) sg.length ns.length nt.length p c 1 mg ms (pwV mg x z 1) k73 (decide_eq_false (by omega)) oB ih) fun _ => undef)
    exact cOut_clear (cOut_freeze 0 hc rfl (Nat.zero_le _) (ds := iD V) (frzAll (iD V) V.length 1 V.length false (by simp))) rfl
   ·rw [show pwR mg x z ms 6 1 [0] = [0] from if_neg g]
    exact one (cOut_start Tryz.func163 rfl (p152a hE (iD sg) (rD ns) (iD nt) sg.length ns.length nt.length p c mg ms z false bP (Nat.mul_one _) (gI hs) (by rw [hz]; rfl) (by rw [hz]; rfl) (by rw [hz]; rfl) (by rw [hz]; rfl) (decide_eq_false hb ▸ K171 hE nt (Int.ofNat c) hn) hz oB (p152fb hE (iD sg) (rD ns) (iD nt) sg.length ns.length nt.length p c mg ms (pwV mg x z 1) k73 (decide_eq_true (by omega)) (fun j => outK_ret (ends_ret (by kernel_rfl)))) fun _ => undef))
structure PartOk (sg : List Int) (ns : List (List Int)) (mg : Int) (p : Nat) (r : List Int) : Prop where
 row : ns[p]? = some r
 len : r.length = sg.length
 mgb : 1 ≤ mg ∧ mg ≤ 100
 rb : ∀ x ∈ r, 1 ≤ x ∧ x ≤ 1000000
 sb : ∀ z ∈ sg, 0 ≤ z ∧ z ≤ 1000000000
 many : 0 < sg.length ∧ sg.length ≤ 8
theorem el_get {l : List Int} {i : Nat} (h : i < l.length) : l[i]? = some (el l i) := by
 unfold el; rw [List.getElem?_eq_getElem h]; rfl
theorem el_mem {l : List Int} {i : Nat} (h : i < l.length) : el l i ∈ l := List.mem_of_getElem? (el_get h)
theorem cell_of {sg : List Int} {ns : List (List Int)} {mg : Int} {p : Nat} {r : List Int} (h : PartOk sg ns mg p r) {c : Nat} (hc : c < sg.length) : cellOk sg ns mg p c r (el r c) (el sg c) :=
 ⟨h.row, el_get (by rw [h.len]; exact hc), el_get hc, h.mgb, h.rb _ (el_mem (by rw [h.len]; exact hc)), h.sb _ (el_mem hc)⟩
abbrev rowV (sg r : List Int) (mg ms : Int) (nt : List Int) : Nat → List Int := fun c => powL mg (el r c) (el sg c) ms nt c
theorem l122 (hE : EnvOk E) (sg : List Int) (ns : List (List Int)) (mg ms : Int) (nt : List Int) (hn : nt.length ≤ 100000) {p : Nat} {r : List Int} (h : PartOk sg ns mg p r) : ∀ m i, m + i = sg.length → ∀ j, OutK E 0 0 (y122 (iD sg) (rD ns) (iD nt) sg.length ns.length nt.length i p i mg ms (rC (tab (rowV sg r mg ms nt) i)) j) (Go.Ev.Ends E Tryz.f105 (.e (.one (.slc 0 0 sg.length 1 sg.length false))) [some ⟨rC (tab (rowV sg r mg ms nt) sg.length), sg.length, 30, false, .cells⟩])
 | 0, i, hi, j => by
  obtain rfl : i = sg.length := by omega
  exact p122x hE (iD sg) (rD ns) (iD nt) sg.length ns.length nt.length sg.length p sg.length mg ms (rC (tab (rowV sg r mg ms nt) sg.length)) dF (by first | exact flat_iC _ | exact flat_rows _) (fun j => outK_ret (ends_ret (by kernel_rfl))) j
 | m + 1, i, hi, j => by
  have hl : i < sg.length := by omega
  have hL := h.many.2
  exact p122s hE (iD sg) (rD ns) (iD nt) (iD (rowV sg r mg ms nt i)) sg.length ns.length nt.length ((rowV sg r mg ms nt i).length) i p i mg ms 0 (rC (tab (rowV sg r mg ms nt) i)) (rC (tab (rowV sg r mg ms nt) (i + 1))) dT (K152 hE sg ns mg ms nt hn (cell_of h hl)) (by omega) (by simp [small]; omega) oB (rC_app _ _) oB (iIe (by (try simp only [Int.ofNat_eq_natCast]); rw [wrap_id (by omega) (by omega)]; try omega)) (by first | exact flat_iC _ | exact flat_rows _) (l122 hE sg ns mg ms nt hn h m (i + 1) (by omega)) j
theorem K122 (hE : EnvOk E) (sg : List Int) (ns : List (List Int)) (mg ms : Int) (nt : List Int) (hn : nt.length ≤ 100000) {p : Nat} {r : List Int} (h : PartOk sg ns mg p r) : COut E 0 [] 105 [aT sg ns mg ms nt, iI (Int.ofNat p)] (.e (.one (.dp (.s (rD (tab (rowV sg r mg ms nt) sg.length)) sg.length 1)))) [] := by
 have hl := h.many.1
 have hL := h.many.2
 have hc : COut E 0 [] 105 [aT sg ns mg ms nt, iI (Int.ofNat p)] (.e (.one (.slc 0 0 sg.length 1 sg.length false))) [some ⟨rC (tab (rowV sg r mg ms nt) sg.length), sg.length, 30, false, .cells⟩] :=
  cOut_start Tryz.func105 rfl (p122a hE (iD sg) (rD ns) (iD nt) sg.length ns.length nt.length p mg ms (p122n hE (iD sg) (rD ns) (iD nt) (iD (rowV sg r mg ms nt 0)) sg.length ns.length nt.length ((rowV sg r mg ms nt 0).length) 0 p mg ms dT (K152 hE sg ns mg ms nt hn (cell_of h hl)) (iIe (by (try simp only [Int.ofNat_eq_natCast]); rw [wrap_id (by omega) (by omega)]; try omega)) (l122 hE sg ns mg ms nt hn h (sg.length - 1) 1 (by omega))) fun _ => undef)
 exact cOut_clear (cOut_freeze 0 hc rfl (Nat.zero_le _) (ds := rD (tab (rowV sg r mg ms nt) sg.length)) (frzAll _ sg.length 1 sg.length false (by rw [List.length_map, tab_len, Nat.mul_one]))) rfl
abbrev lenF (r : List Int) : Int := (r.length : Int) - 1
end
end Go.Proofs.YtigdchbjmnbjlaaGreatDoor
end

/-! SeDh -/
section
open Go Go.Ev
namespace Go.Proofs.YtigdchbjmnbjlaaGreatDoor
noncomputable section
set_option maxRecDepth 100000
set_option maxHeartbeats 20000000
theorem tab_get {α : Type} (f : Nat → α) : ∀ {n k : Nat}, k < n → (tab f n)[k]? = some (f k)
 | n + 1, k, h => by
  show (tab f n ++ [f n])[k]? = _
  by_cases e : k < n
  ·rw [List.getElem?_append_left (by rw [tab_len]; exact e)]; exact tab_get f e
  ·obtain rfl : k = n := by omega
   rw [List.getElem?_append_right (by rw [tab_len]; exact Nat.le_refl _), tab_len, Nat.sub_self]; rfl
theorem pw_mono {mg x z : Int} (hm : 1 ≤ mg) (hx : 1 ≤ x) (hz : 1 ≤ z) {k l : Nat} (h1 : 1 ≤ k) (h : k ≤ l) : pwV mg x z k ≤ pwV mg x z l := by
 unfold pwV
 rw [if_neg (by omega), if_neg (by omega)]
 have a : 2 ^ k ≤ 2 ^ l := Nat.pow_le_pow_right (by omega) h
 have a1 : 0 < 2 ^ k := Nat.pos_of_ne_zero (by simp)
 have b : Int.ofNat (2 ^ k) - 1 ≤ Int.ofNat (2 ^ l) - 1 := by simp only [Int.ofNat_eq_natCast]; omega
 have b0 : 0 ≤ Int.ofNat (2 ^ k) - 1 := by simp only [Int.ofNat_eq_natCast]; omega
 have c := Int.mul_le_mul_of_nonneg_left b (show 0 ≤ mg by omega)
 have c0 := Int.mul_nonneg (show 0 ≤ mg by omega) b0
 have d := Int.mul_le_mul_of_nonneg_right c (show 0 ≤ x by omega)
 have d0 := Int.mul_nonneg c0 (show 0 ≤ x by omega)
 rw [Int.tdiv_eq_ediv_of_nonneg (by omega), Int.tdiv_eq_ediv_of_nonneg (by omega)]
 exact Int.ediv_le_ediv (by omega) (by omega)
theorem bst_z {mg x z ms : Int} (hz : z = 0) : ∀ k, bstF mg x z ms k = 0
 | 0 => rfl
 | k + 1 => by unfold bstF; rw [if_neg (fun a => a.1 hz)]; exact bst_z hz k
theorem bst_lo {mg x z ms : Int} {k : Nat} (h1 : 1 ≤ k) : ∀ t, (∀ i, k ≤ i → i ≤ t → ¬ pwV mg x z i ≤ ms) → k ≤ t + 1 → bstF mg x z ms t = bstF mg x z ms (k - 1)
  | 0, _, h => by obtain rfl : k = 1 := by omega
                  rfl
  | t + 1, hh, h => by
    by_cases e : k = t + 2
    · subst e; rfl
    · rw [show bstF mg x z ms (t + 1) = bstF mg x z ms t from if_neg (fun a => hh (t + 1) (by omega) (by omega) a.2)]
      exact bst_lo h1 t (fun i a b => hh i a (by omega)) (by omega)
theorem pwR_car {mg x z ms : Int} (hm : 1 ≤ mg) (hx : 1 ≤ x) (hz : 1 ≤ z) : ∀ m k l, m + k = 7 → 1 ≤ k → l.length = k → bstF mg x z ms (k - 1) = k - 1 → (pwR mg x z ms m k l).length = bstF mg x z ms 6 + 1
 | 0, k, l, hk, h1, hl, hb => by
  obtain rfl : k = 7 := by omega
  show l.length = _
  rw [hl, show bstF mg x z ms 6 = 6 from hb]
 | m + 1, k, l, hk, h1, hl, hb => by
  unfold pwR
  by_cases h : pwV mg x z k ≤ ms
  ·rw [if_pos h]
   refine pwR_car hm hx hz m (k + 1) _ (by omega) (by omega) (by simp [hl]) ?_
   obtain ⟨t, rfl⟩ : ∃ t, k = t + 1 := ⟨k - 1, by omega⟩
   show bstF mg x z ms (t + 1) = t + 1
   exact if_pos ⟨by omega, h⟩
  ·rw [if_neg h, hl, bst_lo h1 6 (fun i a b c => h (Int.le_trans (pw_mono hm hx hz h1 a) c)) (by omega), hb]
   omega
theorem len_car {mg x z ms : Int} (hm : 1 ≤ mg) (hx : 1 ≤ x) (hz : 0 ≤ z) (nt : List Int) (c : Nat) : lenF (powL mg x z ms nt c) = Int.ofNat (carV mg x z ms nt c) := by
 unfold powL carV lenF
 by_cases h : (Int.ofNat c) ∈ nt
 ·rw [if_pos (.inr h), if_pos h]; rfl
 ·rw [if_neg h]
  by_cases g : z = 0
  ·rw [if_pos (.inl g), bst_z g]; rfl
  ·rw [if_neg (fun a => a.elim g h), pwR_car hm hx (by omega) 6 1 [0] rfl (by omega) rfl rfl]
   simp only [Int.ofNat_eq_natCast]; omega
structure TonesOk (sg : List Int) (ns : List (List Int)) (mg ms : Int) (nt : List Int) : Prop where
 parts : ∀ p r, ns[p]? = some r → PartOk sg ns mg p r
 some : 0 < ns.length ∧ ns.length ≤ 8
theorem part_at {sg : List Int} {ns : List (List Int)} {mg ms : Int} {nt : List Int} (h : TonesOk sg ns mg ms nt) {p : Nat} (hp : p < ns.length) : PartOk sg ns mg p ((ns[p]?).getD []) := by
 have e : ns[p]? = some ((ns[p]?).getD []) := by rw [List.getElem?_eq_getElem hp]; rfl
 exact h.parts p _ e
end
end Go.Proofs.YtigdchbjmnbjlaaGreatDoor
end

/-! SeMa -/
section
open Go Go.Ev
namespace Go.Proofs.YtigdchbjmnbjlaaGreatDoor
noncomputable section
set_option maxRecDepth 100000
set_option maxHeartbeats 20000000
def w40 (C N O G : List DT) (s n o g : Nat) (mg ms : Int) (_j : JN) : St := startK Tryz.f40 [] [.e (.agg (tQ C s N n mg ms O o)), (dQ G g)]
def w45 (C N O : List DT) (s n o : Nat) (mg ms : Int) (_j : JN) : St := startK Tryz.f45 [] [.e (.agg (tQ C s N n mg ms O o))]
def w42 (C N O G : List DT) (s n o g p : Nat) (mg ms : Int) (_j : JN) : St := startK Tryz.f42 [] [.e (.agg (tQ C s N n mg ms O o)), (iN p), (dQ G g)]
def w43 (C N O : List DT) (s n o p : Nat) (mg ms y z : Int) (_j : JN) : St := startK Tryz.f43 [] [.e (.agg (tQ C s N n mg ms O o)), (iN p), iI y, iI z]
def w35 (C N O G : List DT) (s n o g : Nat) (mg ms x : Int) (_j : JN) : St := startK Tryz.f35 [] [.e (.agg (tQ C s N n mg ms O o)), iI x, (dQ G g)]
def w107 (R : List DT) (m : Nat) (x : Int) (_j : JN) : St := startK Tryz.f107 [] [iI x, (dQ R m)]
def w38 (C N O : List DT) (s n o : Nat) (mg ms x y z : Int) (_j : JN) : St := startK Tryz.f38 [] [.e (.agg (tQ C s N n mg ms O o)), iI x, iI y, iI z]
def v40 (G : List DT) (g i : Nat) (j : JN) : St := ⟨[], [(.code (aF [1, 1, 0, 1, 0, 0] Tryz.f40)), (.inLoop (aF [1, 1, 0, 1, 0, 0] Tryz.f40)), (.inBlock 0), (.code (aF [1, 1, 1] Tryz.f40))], mkT j [(1, (dQ G g)), (5, (iN i))] 27 0⟩
def v42 (C N O G : List DT) (s n o g i p : Nat) (mg ms a : Int) (j : JN) : St := ⟨[(bK (tQ C s N n mg ms O o) 5 71)], [(.code (aF [1, 1, 0, 1, 0, 0] Tryz.f42)), (.inLoop (aF [1, 1, 0, 1, 0, 0] Tryz.f42)), (.inBlock 0), (.code (aF [1, 1, 1] Tryz.f42))], mkT j [(1, (iN p)), (2, (dQ G g)), (3, (.e (.one (.ptr 0 0)))), (8, (iI a)), (9, (iN i))] 42 0⟩
def v43 (C N O : List DT) (s n o i p : Nat) (mg ms z a : Int) (j : JN) : St := ⟨[(bK (tQ C s N n mg ms O o) 5 71)], [(.code (aF [1, 1, 0, 1, 0, 0] Tryz.f43)), (.inLoop (aF [1, 1, 0, 1, 0, 0] Tryz.f43)), (.inBlock 0), (.code (aF [1, 1, 1] Tryz.f43))], mkT j [(1, (iN p)), (3, (iI z)), (4, (.e (.one (.ptr 0 0)))), (9, (iI a)), (10, (iN i))] 53 0⟩
def v35 (T G : List DT) (t g i : Nat) (a : Int) (j : JN) : St := ⟨[], [(.code (aF [1, 1, 1, 1, 0, 1, 0, 0] Tryz.f35)), (.inLoop (aF [1, 1, 1, 1, 0, 1, 0, 0] Tryz.f35)), (.inBlock 0), (.code (aF [1, 1, 1, 1, 1] Tryz.f35))], mkT j [(2, (dQ G g)), (9, (iI a)), (33, (dQ T t)), (34, (iN t)), (35, (iN i))] 56 0⟩
def v107 (R : List DT) (m i : Nat) (x a : Int) (j : JN) : St := ⟨[], [(.code (aF [1, 1, 0, 1, 0, 0] Tryz.f107)), (.inLoop (aF [1, 1, 0, 1, 0, 0] Tryz.f107)), (.inBlock 0), (.code (aF [1, 1, 1] Tryz.f107))], mkT j [(0, (iI x)), (5, (iI a)), (8, (dQ R m)), (9, (iN m)), (10, (iN i))] 25 0⟩
def v38 (T : List DT) (t i : Nat) (z h : Int) (j : JN) : St := ⟨[], [(.code (aF [1, 1, 1, 1, 0, 1, 0, 0] Tryz.f38)), (.inLoop (aF [1, 1, 1, 1, 0, 1, 0, 0] Tryz.f38)), (.inBlock 0), (.code (aF [1, 1, 1, 1, 1] Tryz.f38))], mkT j [(3, (iI z)), (11, (iI h)), (31, (dQ T t)), (32, (iN t)), (33, (iN i))] 44 0⟩
def v43i (C N O : List DT) (s n o i p k : Nat) (mg ms z a b : Int) (j : JN) : St := ⟨[(bK (tQ C s N n mg ms O o) 5 71)], [(.code (aF [1, 1, 0, 1, 0, 0, 1, 0, 0, 1, 0, 1, 0, 0] Tryz.f43)), (.inLoop (aF [1, 1, 0, 1, 0, 0, 1, 0, 0, 1, 0, 1, 0, 0] Tryz.f43)), (.inBlock 2), (.code (aF [1, 1, 0, 1, 0, 0, 1, 0, 0, 1, 1] Tryz.f43)), (.inBlock 1), (.code (aF [1, 1, 0, 1, 0, 0, 1, 1] Tryz.f43)), (.inLoop (aF [1, 1, 0, 1, 0, 0] Tryz.f43)), (.inBlock 0), (.code (aF [1, 1, 1] Tryz.f43))], mkT j [(1, (iN p)), (3, (iI z)), (4, (.e (.one (.ptr 0 0)))), (9, (iI a)), (10, (iN i)), (11, (iI b)), (12, (iN k))] 53 0⟩
def m40n_end (j : JN) : St := ⟨[], [(.code .ret), (.code (aF [1, 1] Tryz.f40))], mkT j [(4, (iI 2))] 27 0⟩
theorem m40n (hE : EnvOk E) (C N O G : List DT) (s n o g : Nat) (mg ms : Int) (h0 : ((↑g : Int) != (↑s : Int) : Bool) = true) {Φ : Res → Prop} (ho : ∀ j, OutK E 0 0 (m40n_end j) Φ) (j : JN) : OutK E 0 0 (w40 C N O G s n o g mg ms j) Φ :=
 oS hE [.run 4, (.ops [(1, (.d .len)), (4, (.d .len))] []), (.cond true), .run 2] [4] (s' := fun j => ⟨[(bK (tQ C s N n mg ms O o) 5 71)], [(.code .ret), (.code (aF [1, 1] Tryz.f40))], mkT j [(4, (iI 2))] 27 0⟩) (aP h0 <| aZ)
  fun j => gZ [] (ho j)
def m40a_end (G : List DT) (g : Nat) (j : JN) : St := ⟨[], [(.code (aF [1, 1, 0, 1, 0, 0] Tryz.f40)), (.inLoop (aF [1, 1, 0, 1, 0, 0] Tryz.f40)), (.inBlock 0), (.code (aF [1, 1, 1] Tryz.f40))], mkT j [(1, (dQ G g)), (5, (iI 0))] 27 0⟩
theorem m40a (hE : EnvOk E) (C N O G : List DT) (s n o g : Nat) (mg ms : Int) (h0 : ((↑g : Int) != (↑s : Int) : Bool) = false) {Φ : Res → Prop} (ho : ∀ j, OutK E 0 0 (m40a_end G g j) Φ) (j : JN) : OutK E 0 0 (w40 C N O G s n o g mg ms j) Φ :=
 oS hE [.run 4, (.ops [(1, (.d .len)), (4, (.d .len))] []), (.cond false), .run 6] [1, 5] (s' := fun j => ⟨[(bK (tQ C s N n mg ms O o) 5 71)], [(.code (aF [1, 1, 0, 1, 0, 0] Tryz.f40)), (.inLoop (aF [1, 1, 0, 1, 0, 0] Tryz.f40)), (.inBlock 0), (.code (aF [1, 1, 1] Tryz.f40))], mkT j [(1, (dQ G g)), (5, (iI 0))] 27 0⟩) (aP h0 <| aZ)
  fun j => gZ [] (ho j)
def m45_end (s : Nat) (j : JN) : St := ⟨[], [(.code .ret)], mkT j [(2, (iB (decide ((↑s : Int) ≤ (4 : Int)))))] 7 0⟩
theorem m45 (hE : EnvOk E) (C N O : List DT) (s n o : Nat) (mg ms : Int) {Φ : Res → Prop} (ho : ∀ j, OutK E 0 0 (m45_end s j) Φ) (j : JN) : OutK E 0 0 (w45 C N O s n o mg ms j) Φ :=
 oS hE [.run 3, (.ops [(2, (.d .len))] [])] [2] (s' := fun j => ⟨[(bK (tQ C s N n mg ms O o) 5 71)], [(.code .ret)], mkT j [(2, (iB (decide ((↑s : Int) ≤ (4 : Int)))))] 7 0⟩) (ps := []) trivial
  fun j => gZ [] (ho j)
def m42a_end (C N O G : List DT) (s n o g p : Nat) (mg ms : Int) (j : JN) : St := ⟨[(bK (tQ C s N n mg ms O o) 5 71)], [(.code (aF [1, 1, 0, 1, 0, 0] Tryz.f42)), (.inLoop (aF [1, 1, 0, 1, 0, 0] Tryz.f42)), (.inBlock 0), (.code (aF [1, 1, 1] Tryz.f42))], mkT j [(1, (iN p)), (2, (dQ G g)), (3, (.e (.one (.ptr 0 0)))), (8, (iI 0)), (9, (iI 0))] 42 0⟩
theorem m42a (hE : EnvOk E) (C N O G : List DT) (s n o g p : Nat) (mg ms : Int) {Φ : Res → Prop} (ho : ∀ j, OutK E 0 0 (m42a_end C N O G s n o g p mg ms j) Φ) (j : JN) : OutK E 0 0 (w42 C N O G s n o g p mg ms j) Φ :=
 oS hE [.run 9] [1, 2, 3, 8, 9] (ps := []) trivial
  ho
def m43a_end (C N O : List DT) (s n o p : Nat) (mg ms z a : Int) (j : JN) : St := ⟨[(bK (tQ C s N n mg ms O o) 5 71)], [(.code (aF [1, 1, 0, 1, 0, 0] Tryz.f43)), (.inLoop (aF [1, 1, 0, 1, 0, 0] Tryz.f43)), (.inBlock 0), (.code (aF [1, 1, 1] Tryz.f43))], mkT j [(1, (iN p)), (3, (iI z)), (4, (.e (.one (.ptr 0 0)))), (9, (iI a)), (10, (iI 0))] 53 0⟩
theorem m43a (hE : EnvOk E) (C N O : List DT) (s n o p : Nat) (mg ms y z a : Int) (h0 : ((iI (wrapF IntKind.i64 (z * y))) : AV) = (iI a)) {Φ : Res → Prop} (ho : ∀ j, OutK E 0 0 (m43a_end C N O s n o p mg ms z a j) Φ) (j : JN) : OutK E 0 0 (w43 C N O s n o p mg ms y z j) Φ :=
 oS hE [.run 3, (.ops [(2, (.rn (iI a)))] []), .run 5] [1, 3, 4, 9, 10] (aP h0 <| aZ)
  ho
def m35e_end (e : Int) (j : JN) : St := ⟨[], [(.code .ret), (.code (aF [1, 1, 1] Tryz.f35))], mkT j [(6, (iI 0)), (7, (iI e))] 56 0⟩
theorem m35e (hE : EnvOk E) (C N O G : List DT) (s n o g : Nat) (mg ms x a b d e : Int) (h0 : COut E 0 [] 101 [(tA C s N n mg ms O o), (iI x)] (iI a) []) (h2 : COut E 0 [] 102 [(iB ((↑g : Int) != (↑s : Int))), (iI 2)] (iI b) []) (h5 : COut E 2 [(bK [(.v (.int .i64 0))] 1 3), (bK [(.v (.int .i64 6))] 1 3)] 103 [(dQ G g), (.e (.one (.clo 162 [] [(.one (.ptr 0 0)), (.one (.ptr 1 0))])))] (iI d) [(bK [(.v (.int .i64 0))] 1 3), (bK [(.v (.int .i64 6))] 1 3)]) (h8 : True) (h12 : COut E 4 [(bK (tQ C s N n mg ms O o) 5 78), (bK [(.v (.int .i64 0))] 1 3), (bK [(.v (.int .i64 6))] 1 3), (bK [(.v (.int .i64 a)), (.v (.int .i64 b)), (.v (.int .i64 d))] 3 31)] 76 [(.e (.one (.slc 3 0 3 1 3 true)))] (iI e) [(bK (tQ C s N n mg ms O o) 5 78), (bK [(.v (.int .i64 0))] 1 3), (bK [(.v (.int .i64 6))] 1 3), (bK [(.v (.int .i64 a)), (.v (.int .i64 b)), (.v (.int .i64 d))] 3 31)]) (h14 : (e != (0 : Int) : Bool) = true) {Φ : Res → Prop} (ho : ∀ j, OutK E 0 0 (m35e_end e j) Φ) (j : JN) : OutK E 0 0 (w35 C N O G s n o g mg ms x j) Φ :=
 outK_seg hE (R4_ok hE) [.run 3, (.ops [(2, (.c0 (iI a))), (9, (.c0 (iI b))), (12, (.cl [1, 2] [false, false] [(dQ G g), (.e (.one (.clo 162 [] [(.one (.ptr 0 0)), (.one (.ptr 1 0))])))] [(bK [(.v (.int .i64 0))] 1 3), (bK [(.v (.int .i64 6))] 1 3)] (iI d) [(bK [(.v (.int .i64 0))] 1 3), (bK [(.v (.int .i64 6))] 1 3)] (iI d) [] [])), (14, (.d (.c1 (iI e)))), (4, (.d .len)), (7, (.d .len))] []), .run 3, (.cond true), .run 2] [6, 7] (s' := fun j => ⟨[(bK (tQ C s N n mg ms O o) 5 78), (bK [(.v (.int .i64 0))] 1 3), (bK [(.v (.int .i64 6))] 1 3), (bK [(.v (.int .i64 a)), (.v (.int .i64 b)), (.v (.int .i64 d))] 3 31)], [(.code .ret), (.code (aF [1, 1, 1] Tryz.f35))], mkT j [(6, (iI 0)), (7, (iI e))] 56 0⟩) (fun j => by kernel_rfl) (aP h0 <| aN <| aP h2 <| aN <| aV <| aP h5 <| aP (rfl : ([(dQ G g), (.e (.one (.clo 162 [] [(.one (.ptr 1 0)), (.one (.ptr 2 0))])))] : List AV) = [(dQ G g), (.e (.one (.clo 162 [] [(.one (.ptr 1 0)), (.one (.ptr 2 0))])))]) <| aP (rfl : ([(.some (bK [(.v (.int .i64 0))] 1 3)), (.some (bK [(.v (.int .i64 6))] 1 3))] : List (Option (Option AB))) = [(.some (bK [(.v (.int .i64 0))] 1 3)), (.some (bK [(.v (.int .i64 6))] 1 3))]) <| aP h8 <| aP (rfl : ([] : List (Option (Option AB))) = []) <| aP h8 <| aP (rfl : ((iI d) : AV) = (iI d)) <| aP h12 <| aN <| aP h14 <| aZ)
  fun j => gZ [] (ho j)
def m35a_end (T G : List DT) (t g : Nat) (j : JN) : St := ⟨[], [(.code (aF [1, 1, 1, 1, 0, 1, 0, 0] Tryz.f35)), (.inLoop (aF [1, 1, 1, 1, 0, 1, 0, 0] Tryz.f35)), (.inBlock 0), (.code (aF [1, 1, 1, 1, 1] Tryz.f35))], mkT j [(2, (dQ G g)), (9, (iI 0)), (33, (dQ T t)), (34, (iN t)), (35, (iI 0))] 56 0⟩
theorem m35a (hE : EnvOk E) (C N O T G : List DT) (s n o t g : Nat) (mg ms x a b d e : Int) (h0 : COut E 0 [] 101 [(tA C s N n mg ms O o), (iI x)] (iI a) []) (h2 : COut E 0 [] 102 [(iB ((↑g : Int) != (↑s : Int))), (iI 2)] (iI b) []) (h5 : COut E 2 [(bK [(.v (.int .i64 0))] 1 3), (bK [(.v (.int .i64 6))] 1 3)] 103 [(dQ G g), (.e (.one (.clo 162 [] [(.one (.ptr 0 0)), (.one (.ptr 1 0))])))] (iI d) [(bK [(.v (.int .i64 0))] 1 3), (bK [(.v (.int .i64 6))] 1 3)]) (h8 : True) (h12 : COut E 4 [(bK (tQ C s N n mg ms O o) 5 78), (bK [(.v (.int .i64 0))] 1 3), (bK [(.v (.int .i64 6))] 1 3), (bK [(.v (.int .i64 a)), (.v (.int .i64 b)), (.v (.int .i64 d))] 3 31)] 76 [(.e (.one (.slc 3 0 3 1 3 true)))] (iI e) [(bK (tQ C s N n mg ms O o) 5 78), (bK [(.v (.int .i64 0))] 1 3), (bK [(.v (.int .i64 6))] 1 3), (bK [(.v (.int .i64 a)), (.v (.int .i64 b)), (.v (.int .i64 d))] 3 31)]) (h14 : (e != (0 : Int) : Bool) = false) (h15 : COut E 0 [] 105 [(tA C s N n mg ms O o), (iI x)] (dQ T t) []) {Φ : Res → Prop} (ho : ∀ j, OutK E 0 0 (m35a_end T G t g j) Φ) (j : JN) : OutK E 0 0 (w35 C N O G s n o g mg ms x j) Φ :=
 outK_seg hE (R4_ok hE) [.run 3, (.ops [(2, (.c0 (iI a))), (9, (.c0 (iI b))), (12, (.cl [1, 2] [false, false] [(dQ G g), (.e (.one (.clo 162 [] [(.one (.ptr 0 0)), (.one (.ptr 1 0))])))] [(bK [(.v (.int .i64 0))] 1 3), (bK [(.v (.int .i64 6))] 1 3)] (iI d) [(bK [(.v (.int .i64 0))] 1 3), (bK [(.v (.int .i64 6))] 1 3)] (iI d) [] [])), (14, (.d (.c1 (iI e)))), (4, (.d .len)), (7, (.d .len))] []), .run 3, (.cond false), .run 5, (.ops [(2, (.c0 (dQ T t))), (3, (.d .len))] []), .run 2] [2, 9, 33, 34, 35] (s' := fun j => ⟨[(bK (tQ C s N n mg ms O o) 5 78), (bK [(.v (.int .i64 0))] 1 3), (bK [(.v (.int .i64 6))] 1 3), (bK [(.v (.int .i64 a)), (.v (.int .i64 b)), (.v (.int .i64 d))] 3 31)], [(.code (aF [1, 1, 1, 1, 0, 1, 0, 0] Tryz.f35)), (.inLoop (aF [1, 1, 1, 1, 0, 1, 0, 0] Tryz.f35)), (.inBlock 0), (.code (aF [1, 1, 1, 1, 1] Tryz.f35))], mkT j [(2, (dQ G g)), (9, (iI 0)), (33, (dQ T t)), (34, (iN t)), (35, (iI 0))] 56 0⟩) (fun j => by kernel_rfl) (aP h0 <| aN <| aP h2 <| aN <| aV <| aP h5 <| aP (rfl : ([(dQ G g), (.e (.one (.clo 162 [] [(.one (.ptr 1 0)), (.one (.ptr 2 0))])))] : List AV) = [(dQ G g), (.e (.one (.clo 162 [] [(.one (.ptr 1 0)), (.one (.ptr 2 0))])))]) <| aP (rfl : ([(.some (bK [(.v (.int .i64 0))] 1 3)), (.some (bK [(.v (.int .i64 6))] 1 3))] : List (Option (Option AB))) = [(.some (bK [(.v (.int .i64 0))] 1 3)), (.some (bK [(.v (.int .i64 6))] 1 3))]) <| aP h8 <| aP (rfl : ([] : List (Option (Option AB))) = []) <| aP h8 <| aP (rfl : ((iI d) : AV) = (iI d)) <| aP h12 <| aN <| aP h14 <| aP h15 <| aN <| aZ)
  fun j => gZ [] (ho j)
def m107a_end (R : List DT) (m : Nat) (x : Int) (j : JN) : St := ⟨[], [(.code (aF [1, 1, 0, 1, 0, 0] Tryz.f107)), (.inLoop (aF [1, 1, 0, 1, 0, 0] Tryz.f107)), (.inBlock 0), (.code (aF [1, 1, 1] Tryz.f107))], mkT j [(0, (iI x)), (5, (iI 0)), (8, (dQ R m)), (9, (iN m)), (10, (iI 0))] 25 0⟩
theorem m107a (hE : EnvOk E) (R : List DT) (m : Nat) (x : Int) {Φ : Res → Prop} (ho : ∀ j, OutK E 0 0 (m107a_end R m x j) Φ) (j : JN) : OutK E 0 0 (w107 R m x j) Φ :=
 oS hE [.run 6, (.ops [(1, (.d .len))] []), .run 2] [0, 5, 8, 9, 10] (ps := []) trivial
  ho
def m38e_end (e : Int) (j : JN) : St := ⟨[], [(.code .ret), (.code (aF [1, 1, 1] Tryz.f38))], mkT j [(8, (iI 0)), (9, (iI e))] 44 0⟩
theorem m38e (hE : EnvOk E) (C N O : List DT) (s n o : Nat) (mg ms x y z a b d e : Int) (h0 : COut E 0 [] 101 [(tA C s N n mg ms O o), (iI x)] (iI a) []) (h2 : COut E 0 [] 77 [(iI y), (iI 0), (iI 10000000)] (iI b) []) (h4 : COut E 0 [] 77 [(iI z), (iI 0), (iI 100000)] (iI d) []) (h6 : COut E 2 [(bK (tQ C s N n mg ms O o) 5 78), (bK [(.v (.int .i64 a)), (.v (.int .i64 b)), (.v (.int .i64 d))] 3 31)] 76 [(.e (.one (.slc 1 0 3 1 3 true)))] (iI e) [(bK (tQ C s N n mg ms O o) 5 78), (bK [(.v (.int .i64 a)), (.v (.int .i64 b)), (.v (.int .i64 d))] 3 31)]) (h8 : (e != (0 : Int) : Bool) = true) {Φ : Res → Prop} (ho : ∀ j, OutK E 0 0 (m38e_end e j) Φ) (j : JN) : OutK E 0 0 (w38 C N O s n o mg ms x y z j) Φ :=
 oS hE [.run 3, (.ops [(2, (.c0 (iI a))), (4, (.c0 (iI b))), (6, (.c0 (iI d))), (8, (.d (.c1 (iI e))))] []), .run 3, (.cond true), .run 2] [8, 9] (s' := fun j => ⟨[(bK (tQ C s N n mg ms O o) 5 78), (bK [(.v (.int .i64 a)), (.v (.int .i64 b)), (.v (.int .i64 d))] 3 31)], [(.code .ret), (.code (aF [1, 1, 1] Tryz.f38))], mkT j [(8, (iI 0)), (9, (iI e))] 44 0⟩) (aP h0 <| aN <| aP h2 <| aN <| aP h4 <| aN <| aP h6 <| aN <| aP h8 <| aZ)
  fun j => gZ [] (ho j)
def m38a_end (T : List DT) (t : Nat) (z h : Int) (j : JN) : St := ⟨[], [(.code (aF [1, 1, 1, 1, 0, 1, 0, 0] Tryz.f38)), (.inLoop (aF [1, 1, 1, 1, 0, 1, 0, 0] Tryz.f38)), (.inBlock 0), (.code (aF [1, 1, 1, 1, 1] Tryz.f38))], mkT j [(3, (iI z)), (11, (iI h)), (31, (dQ T t)), (32, (iN t)), (33, (iI 0))] 44 0⟩
theorem m38a (hE : EnvOk E) (C N O T : List DT) (s n o t : Nat) (mg ms x y z a b d e h : Int) (h0 : COut E 0 [] 101 [(tA C s N n mg ms O o), (iI x)] (iI a) []) (h2 : COut E 0 [] 77 [(iI y), (iI 0), (iI 10000000)] (iI b) []) (h4 : COut E 0 [] 77 [(iI z), (iI 0), (iI 100000)] (iI d) []) (h6 : COut E 2 [(bK (tQ C s N n mg ms O o) 5 78), (bK [(.v (.int .i64 a)), (.v (.int .i64 b)), (.v (.int .i64 d))] 3 31)] 76 [(.e (.one (.slc 1 0 3 1 3 true)))] (iI e) [(bK (tQ C s N n mg ms O o) 5 78), (bK [(.v (.int .i64 a)), (.v (.int .i64 b)), (.v (.int .i64 d))] 3 31)]) (h8 : (e != (0 : Int) : Bool) = false) (h9 : ((iI (wrapF IntKind.i64 (z * y))) : AV) = (iI h)) (h10 : COut E 0 [] 105 [(tA C s N n mg ms O o), (iI x)] (dQ T t) []) {Φ : Res → Prop} (ho : ∀ j, OutK E 0 0 (m38a_end T t z h j) Φ) (j : JN) : OutK E 0 0 (w38 C N O s n o mg ms x y z j) Φ :=
 oS hE [.run 3, (.ops [(2, (.c0 (iI a))), (4, (.c0 (iI b))), (6, (.c0 (iI d))), (8, (.d (.c1 (iI e))))] []), .run 3, (.cond false), .run 2, (.ops [(2, (.rn (iI h)))] []), .run 2, (.ops [(2, (.c0 (dQ T t))), (3, (.d .len))] []), .run 2] [3, 11, 31, 32, 33] (s' := fun j => ⟨[(bK (tQ C s N n mg ms O o) 5 78), (bK [(.v (.int .i64 a)), (.v (.int .i64 b)), (.v (.int .i64 d))] 3 31)], [(.code (aF [1, 1, 1, 1, 0, 1, 0, 0] Tryz.f38)), (.inLoop (aF [1, 1, 1, 1, 0, 1, 0, 0] Tryz.f38)), (.inBlock 0), (.code (aF [1, 1, 1, 1, 1] Tryz.f38))], mkT j [(3, (iI z)), (11, (iI h)), (31, (dQ T t)), (32, (iN t)), (33, (iI 0))] 44 0⟩) (aP h0 <| aN <| aP h2 <| aN <| aP h4 <| aN <| aP h6 <| aN <| aP h8 <| aP h9 <| aP h10 <| aN <| aZ)
  fun j => gZ [] (ho j)
def m40s_end (G : List DT) (g i : Nat) (j : JN) : St := ⟨[], [(.code (aF [1, 1, 0, 1, 0, 0] Tryz.f40)), (.inLoop (aF [1, 1, 0, 1, 0, 0] Tryz.f40)), (.inBlock 0), (.code (aF [1, 1, 1] Tryz.f40))], mkT j [(1, (dQ G g)), (5, (iN (i + 1)))] 27 0⟩
theorem m40s (hE : EnvOk E) (G : List DT) (g i : Nat) (x e : Int) (h0 : (decide (Int.ofNat i < (↑g : Int)) : Bool) = true) (h1 : (0 : Int) ≤ Int.ofNat i ∧ Int.ofNat i < (↑g : Int)) (h2 : ((Int.ofNat i).toNat * nat_lit 1 : Nat) = i) (h3 : (getL G i : Option DT) = (.some (.v (.int .i64 x)))) (h4 : COut E 0 [] 41 [(iI x), (iI 0), (iI 6)] (iI e) []) (h6 : (e != (0 : Int) : Bool) = false) (h7 : ((iI (wrapF IntKind.i64 (Int.ofNat i + (1 : Int)))) : AV) = (iN (i + 1))) {Φ : Res → Prop} (ho : ∀ j, OutK E 0 0 (m40s_end G g i j) Φ) (j : JN) : OutK E 0 0 (v40 G g i j) Φ :=
 oS hE [.run 2, (.ops [(2, (.d .len))] []), (.cond true), .run 4, (.ops [(3, (.d (.ld (.v (.int .i64 x))))), (4, (.c0 (iI e))), (2, (.d (.ix i)))] []), .run 2, (.cond false), .run 2, (.ops [(1, (.rn (iN (i + 1))))] []), .run 1] [1, 5] (aQ h0 h1 h2 h3 <| aP h4 <| aN <| aP h6 <| aP h7 <| aZ)
  ho
def m40e_end (e : Int) (j : JN) : St := ⟨[], [(.code .ret), (.inBlock 1), (.code (aF [1, 1, 0, 1, 0, 0, 1, 1] Tryz.f40)), (.inLoop (aF [1, 1, 0, 1, 0, 0] Tryz.f40)), (.inBlock 0), (.code (aF [1, 1, 1] Tryz.f40))], mkT j [(4, (iI e))] 27 0⟩
theorem m40e (hE : EnvOk E) (G : List DT) (g i : Nat) (x e : Int) (h0 : (decide (Int.ofNat i < (↑g : Int)) : Bool) = true) (h1 : (0 : Int) ≤ Int.ofNat i ∧ Int.ofNat i < (↑g : Int)) (h2 : ((Int.ofNat i).toNat * nat_lit 1 : Nat) = i) (h3 : (getL G i : Option DT) = (.some (.v (.int .i64 x)))) (h4 : COut E 0 [] 41 [(iI x), (iI 0), (iI 6)] (iI e) []) (h6 : (e != (0 : Int) : Bool) = true) {Φ : Res → Prop} (ho : ∀ j, OutK E 0 0 (m40e_end e j) Φ) (j : JN) : OutK E 0 0 (v40 G g i j) Φ :=
 oS hE [.run 2, (.ops [(2, (.d .len))] []), (.cond true), .run 4, (.ops [(3, (.d (.ld (.v (.int .i64 x))))), (4, (.c0 (iI e))), (2, (.d (.ix i)))] []), .run 2, (.cond true), .run 2] [4] (aQ h0 h1 h2 h3 <| aP h4 <| aN <| aP h6 <| aZ)
  ho
def m40x_end (j : JN) : St := ⟨[], [(.code .ret)], mkT j [(4, (iI 0))] 27 0⟩
theorem m40x (hE : EnvOk E) (G : List DT) (g i : Nat) (h0 : (decide (Int.ofNat i < (↑g : Int)) : Bool) = false) {Φ : Res → Prop} (ho : ∀ j, OutK E 0 0 (m40x_end j) Φ) (j : JN) : OutK E 0 0 (v40 G g i j) Φ :=
 oS hE [.run 2, (.ops [(2, (.d .len))] []), (.cond false), .run 3] [4] (aP h0 <| aZ)
  ho
def m42s_end (C N O G : List DT) (s n o g i p : Nat) (mg ms f : Int) (j : JN) : St := ⟨[(bK (tQ C s N n mg ms O o) 5 71)], [(.code (aF [1, 1, 0, 1, 0, 0] Tryz.f42)), (.inLoop (aF [1, 1, 0, 1, 0, 0] Tryz.f42)), (.inBlock 0), (.code (aF [1, 1, 1] Tryz.f42))], mkT j [(1, (iN p)), (2, (dQ G g)), (3, (.e (.one (.ptr 0 0)))), (8, (iI f)), (9, (iN (i + 1)))] 42 0⟩
theorem m42s (hE : EnvOk E) (C N O G : List DT) (s n o g i p : Nat) (mg ms x a b d e f : Int) (h0 : (decide (Int.ofNat i < (↑g : Int)) : Bool) = true) (h1 : (0 : Int) ≤ Int.ofNat i ∧ Int.ofNat i < (↑g : Int)) (h2 : ((Int.ofNat i).toNat * nat_lit 1 : Nat) = i) (h3 : (getL G i : Option DT) = (.some (.v (.int .i64 x)))) (h4 : COut E 0 [] 108 [(tA C s N n mg ms O o), (iN p), (iN i)] (iI b) []) (h7 : (decide (x > b) : Bool) = false) (h11 : COut E 0 [] 109 [(tA C s N n mg ms O o), (iN p), (iN i), (iI x)] (.tup [(oI d), (oI e)]) []) (h14 : ((iI (wrapF IntKind.i64 (a + d))) : AV) = (iI f)) (h15 : ((iI (wrapF IntKind.i64 (Int.ofNat i + (1 : Int)))) : AV) = (iN (i + 1))) {Φ : Res → Prop} (ho : ∀ j, OutK E 0 0 (m42s_end C N O G s n o g i p mg ms f j) Φ) (j : JN) : OutK E 0 0 (v42 C N O G s n o g i p mg ms a j) Φ :=
 oS hE [.run 2, (.ops [(2, (.d .len))] []), (.cond true), .run 5, (.ops [(3, (.d (.ld (.v (.int .i64 x))))), (7, (.c0 (iI b))), (2, (.d (.ix i)))] []), (.cond false), .run 2, (.ops [(6, (.d (.ld (.v (.int .i64 x))))), (7, (.c0 (.tup [(oI d), (oI e)]))), (5, (.d (.ix i)))] []), (.ops [(2, (.rn (iI f)))] []), .run 1, (.ops [(1, (.rn (iN (i + 1))))] []), .run 1] [1, 2, 3, 8, 9] (aQ h0 h1 h2 h3 <| aP h4 <| aN <| aV <| aQ h7 h1 h2 h3 <| aP h11 <| aN <| aV <| aP h14 <| aP h15 <| aZ)
  ho
def m42l_end (j : JN) : St := ⟨[], [(.code .ret), (.code (aF [1, 1, 0, 1, 0, 0, 1, 0, 0, 1] Tryz.f42)), (.inBlock 1), (.code (aF [1, 1, 0, 1, 0, 0, 1, 1] Tryz.f42)), (.inLoop (aF [1, 1, 0, 1, 0, 0] Tryz.f42)), (.inBlock 0), (.code (aF [1, 1, 1] Tryz.f42))], mkT j [(6, (iI 0)), (7, (iI 20))] 42 0⟩
theorem m42l (hE : EnvOk E) (C N O G : List DT) (s n o g i p : Nat) (mg ms x a b : Int) (h0 : (decide (Int.ofNat i < (↑g : Int)) : Bool) = true) (h1 : (0 : Int) ≤ Int.ofNat i ∧ Int.ofNat i < (↑g : Int)) (h2 : ((Int.ofNat i).toNat * nat_lit 1 : Nat) = i) (h3 : (getL G i : Option DT) = (.some (.v (.int .i64 x)))) (h4 : COut E 0 [] 108 [(tA C s N n mg ms O o), (iN p), (iN i)] (iI b) []) (h7 : (decide (x > b) : Bool) = true) {Φ : Res → Prop} (ho : ∀ j, OutK E 0 0 (m42l_end j) Φ) (j : JN) : OutK E 0 0 (v42 C N O G s n o g i p mg ms a j) Φ :=
 oS hE [.run 2, (.ops [(2, (.d .len))] []), (.cond true), .run 5, (.ops [(3, (.d (.ld (.v (.int .i64 x))))), (7, (.c0 (iI b))), (2, (.d (.ix i)))] []), (.cond true), .run 2] [6, 7] (s' := fun j => ⟨[(bK (tQ C s N n mg ms O o) 5 71)], [(.code .ret), (.code (aF [1, 1, 0, 1, 0, 0, 1, 0, 0, 1] Tryz.f42)), (.inBlock 1), (.code (aF [1, 1, 0, 1, 0, 0, 1, 1] Tryz.f42)), (.inLoop (aF [1, 1, 0, 1, 0, 0] Tryz.f42)), (.inBlock 0), (.code (aF [1, 1, 1] Tryz.f42))], mkT j [(6, (iI 0)), (7, (iI 20))] 42 0⟩) (aQ h0 h1 h2 h3 <| aP h4 <| aN <| aV <| aP h7 <| aZ)
  fun j => gZ [] (ho j)
def m42x_end (a : Int) (j : JN) : St := ⟨[], [(.code .ret)], mkT j [(6, (iI a)), (7, (iI 0))] 42 0⟩
theorem m42x (hE : EnvOk E) (C N O G : List DT) (s n o g i p : Nat) (mg ms a : Int) (h0 : (decide (Int.ofNat i < (↑g : Int)) : Bool) = false) {Φ : Res → Prop} (ho : ∀ j, OutK E 0 0 (m42x_end a j) Φ) (j : JN) : OutK E 0 0 (v42 C N O G s n o g i p mg ms a j) Φ :=
 oS hE [.run 2, (.ops [(2, (.d .len))] []), (.cond false), .run 3] [6, 7] (s' := fun j => ⟨[(bK (tQ C s N n mg ms O o) 5 71)], [(.code .ret)], mkT j [(6, (iI a)), (7, (iI 0))] 42 0⟩) (aP h0 <| aZ)
  fun j => gZ [] (ho j)
def m43s_end (C N O : List DT) (s n o i p : Nat) (mg ms z a : Int) (j : JN) : St := ⟨[(bK (tQ C s N n mg ms O o) 5 71)], [(.code (aF [1, 1, 0, 1, 0, 0, 1, 0, 0, 1, 0, 1, 0, 0] Tryz.f43)), (.inLoop (aF [1, 1, 0, 1, 0, 0, 1, 0, 0, 1, 0, 1, 0, 0] Tryz.f43)), (.inBlock 2), (.code (aF [1, 1, 0, 1, 0, 0, 1, 0, 0, 1, 1] Tryz.f43)), (.inBlock 1), (.code (aF [1, 1, 0, 1, 0, 0, 1, 1] Tryz.f43)), (.inLoop (aF [1, 1, 0, 1, 0, 0] Tryz.f43)), (.inBlock 0), (.code (aF [1, 1, 1] Tryz.f43))], mkT j [(1, (iN p)), (3, (iI z)), (4, (.e (.one (.ptr 0 0)))), (9, (iI a)), (10, (iN i)), (11, (iI 0)), (12, (iI 1))] 53 0⟩
theorem m43s (hE : EnvOk E) (C N O : List DT) (s n o i p : Nat) (mg ms z a : Int) (h0 : (decide (Int.ofNat i < (↑s : Int)) : Bool) = true) {Φ : Res → Prop} (ho : ∀ j, OutK E 0 0 (m43s_end C N O s n o i p mg ms z a j) Φ) (j : JN) : OutK E 0 0 (v43 C N O s n o i p mg ms z a j) Φ :=
 oS hE [.run 2, (.ops [(3, (.d .len))] []), (.cond true), .run 10] [1, 3, 4, 9, 10, 11, 12] (aP h0 <| aZ)
  ho
def m43x_end (a : Int) (j : JN) : St := ⟨[], [(.code .ret)], mkT j [(8, (iI a))] 53 0⟩
theorem m43x (hE : EnvOk E) (C N O : List DT) (s n o i p : Nat) (mg ms z a : Int) (h0 : (decide (Int.ofNat i < (↑s : Int)) : Bool) = false) {Φ : Res → Prop} (ho : ∀ j, OutK E 0 0 (m43x_end a j) Φ) (j : JN) : OutK E 0 0 (v43 C N O s n o i p mg ms z a j) Φ :=
 oS hE [.run 2, (.ops [(3, (.d .len))] []), (.cond false), .run 3] [8] (s' := fun j => ⟨[(bK (tQ C s N n mg ms O o) 5 71)], [(.code .ret)], mkT j [(8, (iI a))] 53 0⟩) (aP h0 <| aZ)
  fun j => gZ [] (ho j)
def m35s_end (T G : List DT) (t g i : Nat) (f : Int) (j : JN) : St := ⟨[], [(.code (aF [1, 1, 1, 1, 0, 1, 0, 0] Tryz.f35)), (.inLoop (aF [1, 1, 1, 1, 0, 1, 0, 0] Tryz.f35)), (.inBlock 0), (.code (aF [1, 1, 1, 1, 1] Tryz.f35))], mkT j [(2, (dQ G g)), (9, (iI f)), (33, (dQ T t)), (34, (iN t)), (35, (iN (i + 1)))] 56 0⟩
theorem m35s (hE : EnvOk E) (R T G : List DT) (m t g i k : Nat) (x a f : Int) (h0 : (decide (Int.ofNat i < Int.ofNat t) : Bool) = true) (h1 : (0 : Int) ≤ Int.ofNat i ∧ Int.ofNat i < (↑t : Int)) (h2 : ((Int.ofNat i).toNat * nat_lit 1 : Nat) = i) (h3 : (getL T i : Option DT) = (.some (.s R m 1))) (h4 : (0 : Int) ≤ Int.ofNat i ∧ Int.ofNat i < (↑g : Int)) (h6 : (getL G i : Option DT) = (.some (.v (.int .i64 (Int.ofNat k))))) (h7 : (decide (Int.ofNat k ≥ (↑m : Int)) : Bool) = false) (h8 : (0 : Int) ≤ Int.ofNat k ∧ Int.ofNat k < (↑m : Int)) (h9 : ((Int.ofNat k).toNat * nat_lit 1 : Nat) = k) (h10 : (getL R k : Option DT) = (.some (.v (.int .i64 x)))) (h11 : ((iI (wrapF IntKind.i64 (a + x))) : AV) = (iI f)) (h12 : ((iI (wrapF IntKind.i64 (Int.ofNat i + (1 : Int)))) : AV) = (iN (i + 1))) {Φ : Res → Prop} (ho : ∀ j, OutK E 0 0 (m35s_end T G t g i f j) Φ) (j : JN) : OutK E 0 0 (v35 T G t g i a j) Φ :=
 oS hE [.run 3, (.cond true), .run 4, (.ops [(2, (.d (.ld (.s R m 1)))), (1, (.d (.ix i)))] []), .run 1, (.ops [(3, (.d (.ld (.v (.int .i64 (Int.ofNat k)))))), (2, (.d (.ix i)))] []), .run 2, (.ops [(2, (.d .len))] []), (.cond false), .run 1, (.ops [(4, (.d (.ld (.v (.int .i64 x))))), (5, (.rn (iI f))), (3, (.d (.ix k)))] []), .run 1, (.ops [(0, (.rn (iN (i + 1))))] []), .run 1] [2, 9, 33, 34, 35] (aQ h0 h1 h2 h3 <| aQ h4 h2 h6 h7 <| aQ h8 h9 h10 h11 <| aP h12 <| aZ)
  ho
def m35l_end (j : JN) : St := ⟨[], [(.code .ret), (.code (aF [1, 1, 1, 1, 0, 1, 0, 0, 1, 1, 0, 0, 1, 1, 1] Tryz.f35)), (.inBlock 1), (.code (aF [1, 1, 1, 1, 0, 1, 0, 0, 1, 1, 1] Tryz.f35)), (.inLoop (aF [1, 1, 1, 1, 0, 1, 0, 0] Tryz.f35)), (.inBlock 0), (.code (aF [1, 1, 1, 1, 1] Tryz.f35))], mkT j [(6, (iI 0)), (7, (iI 20))] 56 0⟩
theorem m35l (hE : EnvOk E) (R T G : List DT) (m t g i k : Nat) (a : Int) (h0 : (decide (Int.ofNat i < Int.ofNat t) : Bool) = true) (h1 : (0 : Int) ≤ Int.ofNat i ∧ Int.ofNat i < (↑t : Int)) (h2 : ((Int.ofNat i).toNat * nat_lit 1 : Nat) = i) (h3 : (getL T i : Option DT) = (.some (.s R m 1))) (h4 : (0 : Int) ≤ Int.ofNat i ∧ Int.ofNat i < (↑g : Int)) (h6 : (getL G i : Option DT) = (.some (.v (.int .i64 (Int.ofNat k))))) (h7 : (decide (Int.ofNat k ≥ (↑m : Int)) : Bool) = true) {Φ : Res → Prop} (ho : ∀ j, OutK E 0 0 (m35l_end j) Φ) (j : JN) : OutK E 0 0 (v35 T G t g i a j) Φ :=
 oS hE [.run 3, (.cond true), .run 4, (.ops [(2, (.d (.ld (.s R m 1)))), (1, (.d (.ix i)))] []), .run 1, (.ops [(3, (.d (.ld (.v (.int .i64 (Int.ofNat k)))))), (2, (.d (.ix i)))] []), .run 2, (.ops [(2, (.d .len))] []), (.cond true), .run 2] [6, 7] (aQ h0 h1 h2 h3 <| aQ h4 h2 h6 h7 <| aZ)
  ho
def m35x_end (a : Int) (j : JN) : St := ⟨[], [(.code .ret)], mkT j [(6, (iI a)), (7, (iI 0))] 56 0⟩
theorem m35x (hE : EnvOk E) (T G : List DT) (t g i : Nat) (a : Int) (h0 : (decide (Int.ofNat i < Int.ofNat t) : Bool) = false) {Φ : Res → Prop} (ho : ∀ j, OutK E 0 0 (m35x_end a j) Φ) (j : JN) : OutK E 0 0 (v35 T G t g i a j) Φ :=
 oS hE [.run 3, (.cond false), .run 3] [6, 7] (aP h0 <| aZ)
  ho
def m107s_end (R : List DT) (m i : Nat) (x f : Int) (j : JN) : St := ⟨[], [(.code (aF [1, 1, 0, 1, 0, 0] Tryz.f107)), (.inLoop (aF [1, 1, 0, 1, 0, 0] Tryz.f107)), (.inBlock 0), (.code (aF [1, 1, 1] Tryz.f107))], mkT j [(0, (iI x)), (5, (iI f)), (8, (dQ R m)), (9, (iN m)), (10, (iN (i + 1)))] 25 0⟩
theorem m107s (hE : EnvOk E) (R : List DT) (m i : Nat) (x z a b d e f : Int) (h0 : (decide (Int.ofNat i < Int.ofNat m) : Bool) = true) (h1 : (0 : Int) ≤ Int.ofNat i ∧ Int.ofNat i < (↑m : Int)) (h2 : ((Int.ofNat i).toNat * nat_lit 1 : Nat) = i) (h3 : (getL R i : Option DT) = (.some (.v (.int .i64 z)))) (h4 : ((iI (wrapF IntKind.i64 ((1000 : Int) * Int.ofNat i))) : AV) = (iI b)) (h5 : ((iI (wrapF IntKind.i64 (x * z))) : AV) = (iI d)) (h6 : ((iI (wrapF IntKind.i64 (b - d))) : AV) = (iI e)) (h7 : ((iI (if e > a then e else a)) : AV) = (iI f)) (h8 : ((iI (wrapF IntKind.i64 (Int.ofNat i + (1 : Int)))) : AV) = (iN (i + 1))) {Φ : Res → Prop} (ho : ∀ j, OutK E 0 0 (m107s_end R m i x f j) Φ) (j : JN) : OutK E 0 0 (v107 R m i x a j) Φ :=
 oS hE [.run 3, (.cond true), .run 4, (.ops [(2, (.d (.ld (.v (.int .i64 z))))), (1, (.d (.ix i)))] []), (.ops [(2, (.rn (iI b))), (5, (.rn (iI d))), (6, (.rn (iI e))), (7, (.rn (iI f)))] []), .run 1, (.ops [(0, (.rn (iN (i + 1))))] []), .run 1] [0, 5, 8, 9, 10] (aQ h0 h1 h2 h3 <| aQ h4 h5 h6 h7 <| aP h8 <| aZ)
  ho
def m107x_end (a : Int) (j : JN) : St := ⟨[], [(.code .ret)], mkT j [(4, (iI a))] 25 0⟩
theorem m107x (hE : EnvOk E) (R : List DT) (m i : Nat) (x a : Int) (h0 : (decide (Int.ofNat i < Int.ofNat m) : Bool) = false) {Φ : Res → Prop} (ho : ∀ j, OutK E 0 0 (m107x_end a j) Φ) (j : JN) : OutK E 0 0 (v107 R m i x a j) Φ :=
 oS hE [.run 3, (.cond false), .run 3] [4] (aP h0 <| aZ)
  ho
def m38s_end (T : List DT) (t i : Nat) (z w : Int) (j : JN) : St := ⟨[], [(.code (aF [1, 1, 1, 1, 0, 1, 0, 0] Tryz.f38)), (.inLoop (aF [1, 1, 1, 1, 0, 1, 0, 0] Tryz.f38)), (.inBlock 0), (.code (aF [1, 1, 1, 1, 1] Tryz.f38))], mkT j [(3, (iI z)), (11, (iI w)), (31, (dQ T t)), (32, (iN t)), (33, (iN (i + 1)))] 44 0⟩
theorem m38s (hE : EnvOk E) (R T : List DT) (m t i : Nat) (z h v w : Int) (h0 : (decide (Int.ofNat i < Int.ofNat t) : Bool) = true) (h1 : (0 : Int) ≤ Int.ofNat i ∧ Int.ofNat i < (↑t : Int)) (h2 : ((Int.ofNat i).toNat * nat_lit 1 : Nat) = i) (h3 : (getL T i : Option DT) = (.some (.s R m 1))) (h4 : COut E 0 [] 107 [(iI z), (dQ R m)] (iI v) []) (h6 : ((iI (wrapF IntKind.i64 (h + v))) : AV) = (iI w)) (h7 : ((iI (wrapF IntKind.i64 (Int.ofNat i + (1 : Int)))) : AV) = (iN (i + 1))) {Φ : Res → Prop} (ho : ∀ j, OutK E 0 0 (m38s_end T t i z w j) Φ) (j : JN) : OutK E 0 0 (v38 T t i z h j) Φ :=
 oS hE [.run 3, (.cond true), .run 4, (.ops [(1, (.d (.ld (.s R m 1)))), (0, (.d (.ix i)))] []), (.ops [(3, (.c0 (iI v))), (4, (.rn (iI w)))] []), .run 1, (.ops [(0, (.rn (iN (i + 1))))] []), .run 1] [3, 11, 31, 32, 33] (aQ h0 h1 h2 h3 <| aP h4 <| aN <| aP h6 <| aP h7 <| aZ)
  ho
def m38x_end (h : Int) (j : JN) : St := ⟨[], [(.code .ret)], mkT j [(8, (iI h)), (9, (iI 0))] 44 0⟩
theorem m38x (hE : EnvOk E) (T : List DT) (t i : Nat) (z h : Int) (h0 : (decide (Int.ofNat i < Int.ofNat t) : Bool) = false) {Φ : Res → Prop} (ho : ∀ j, OutK E 0 0 (m38x_end h j) Φ) (j : JN) : OutK E 0 0 (v38 T t i z h j) Φ :=
 oS hE [.run 3, (.cond false), .run 3] [8, 9] (aP h0 <| aZ)
  ho
def m43t_end (C N O : List DT) (s n o i p k : Nat) (mg ms z a w : Int) (j : JN) : St := ⟨[(bK (tQ C s N n mg ms O o) 5 71)], [(.code (aF [1, 1, 0, 1, 0, 0, 1, 0, 0, 1, 0, 1, 0, 0] Tryz.f43)), (.inLoop (aF [1, 1, 0, 1, 0, 0, 1, 0, 0, 1, 0, 1, 0, 0] Tryz.f43)), (.inBlock 2), (.code (aF [1, 1, 0, 1, 0, 0, 1, 0, 0, 1, 1] Tryz.f43)), (.inBlock 1), (.code (aF [1, 1, 0, 1, 0, 0, 1, 1] Tryz.f43)), (.inLoop (aF [1, 1, 0, 1, 0, 0] Tryz.f43)), (.inBlock 0), (.code (aF [1, 1, 1] Tryz.f43))], mkT j [(1, (iN p)), (3, (iI z)), (4, (.e (.one (.ptr 0 0)))), (9, (iI a)), (10, (iN i)), (11, (iI w)), (12, (iN (k + 1)))] 53 0⟩
theorem m43t (hE : EnvOk E) (C N O : List DT) (s n o i p k : Nat) (mg ms x z a b d e f h v w : Int) (h0 : COut E 0 [] 108 [(tA C s N n mg ms O o), (iN p), (iN i)] (iI d) []) (h2 : (decide (Int.ofNat k ≤ d) : Bool) = true) (h3 : COut E 0 [] 109 [(tA C s N n mg ms O o), (iN p), (iN i), (iN k)] (.tup [(oI e), (oI f)]) []) (h5 : ((iI (wrapF IntKind.i64 ((1000 : Int) * Int.ofNat k))) : AV) = (iI x)) (h6 : ((iI (wrapF IntKind.i64 (z * e))) : AV) = (iI v)) (h7 : ((iI (wrapF IntKind.i64 (x - v))) : AV) = (iI h)) (h8 : ((iI (if h > b then h else b)) : AV) = (iI w)) (h9 : ((iI (wrapF IntKind.i64 (Int.ofNat k + (1 : Int)))) : AV) = (iN (k + 1))) {Φ : Res → Prop} (ho : ∀ j, OutK E 0 0 (m43t_end C N O s n o i p k mg ms z a w j) Φ) (j : JN) : OutK E 0 0 (v43i C N O s n o i p k mg ms z a b j) Φ :=
 oS hE [.run 2, (.ops [(4, (.c0 (iI d)))] []), (.cond true), .run 4, (.ops [(4, (.c0 (.tup [(oI e), (oI f)])))] []), (.ops [(2, (.rn (iI x))), (5, (.rn (iI v))), (6, (.rn (iI h))), (7, (.rn (iI w)))] []), .run 1, (.ops [(1, (.rn (iN (k + 1))))] []), .run 1] [1, 3, 4, 9, 10, 11, 12] (aP h0 <| aN <| aP h2 <| aP h3 <| aN <| aQ h5 h6 h7 h8 <| aP h9 <| aZ)
  ho
def m43u_end (C N O : List DT) (s n o i p : Nat) (mg ms z w : Int) (j : JN) : St := ⟨[(bK (tQ C s N n mg ms O o) 5 71)], [(.code (aF [1, 1, 0, 1, 0, 0] Tryz.f43)), (.inLoop (aF [1, 1, 0, 1, 0, 0] Tryz.f43)), (.inBlock 0), (.code (aF [1, 1, 1] Tryz.f43))], mkT j [(1, (iN p)), (3, (iI z)), (4, (.e (.one (.ptr 0 0)))), (9, (iI w)), (10, (iN (i + 1)))] 53 0⟩
theorem m43u (hE : EnvOk E) (C N O : List DT) (s n o i p k : Nat) (mg ms z a b d w : Int) (h0 : COut E 0 [] 108 [(tA C s N n mg ms O o), (iN p), (iN i)] (iI d) []) (h2 : (decide (Int.ofNat k ≤ d) : Bool) = false) (h3 : ((iI (wrapF IntKind.i64 (a + b))) : AV) = (iI w)) (h4 : ((iI (wrapF IntKind.i64 (Int.ofNat i + (1 : Int)))) : AV) = (iN (i + 1))) {Φ : Res → Prop} (ho : ∀ j, OutK E 0 0 (m43u_end C N O s n o i p mg ms z w j) Φ) (j : JN) : OutK E 0 0 (v43i C N O s n o i p k mg ms z a b j) Φ :=
 oS hE [.run 2, (.ops [(4, (.c0 (iI d)))] []), (.cond false), .run 1, (.ops [(2, (.rn (iI w)))] []), .run 1, (.ops [(1, (.rn (iN (i + 1))))] []), .run 1] [1, 3, 4, 9, 10] (aP h0 <| aN <| aP h2 <| aP h3 <| aP h4 <| aZ)
  ho
theorem pwR_get {mg x z ms : Int} : ∀ m k l, l.length = k → (∀ b, b < k → l[b]? = some (pwV mg x z b)) → ∀ b, b < (pwR mg x z ms m k l).length → (pwR mg x z ms m k l)[b]? = some (pwV mg x z b)
 | 0, k, l, hl, h, b, hb => h b (by rw [← hl]; exact hb)
 | m + 1, k, l, hl, h, b, hb => by
  unfold pwR at hb ⊢
  by_cases c : pwV mg x z k ≤ ms
  ·rw [if_pos c] at hb ⊢
   refine pwR_get m (k + 1) _ (by simp [hl]) (fun i hi => ?_) b hb
   by_cases e : i < k
   ·rw [List.getElem?_append_left (by omega)]; exact h i e
   ·obtain rfl : i = k := by omega
    rw [List.getElem?_append_right (by omega), hl, Nat.sub_self]; rfl
  ·rw [if_neg c] at hb ⊢
   exact h b (by rw [← hl]; exact hb)
theorem powL_get {mg x z ms : Int} {nt : List Int} {c b : Nat} (hb : b < (powL mg x z ms nt c).length) : (powL mg x z ms nt c)[b]? = some (pwV mg x z b) := by
  unfold powL at hb ⊢
  split at hb
  · rename_i h
    rw [if_pos h]
    obtain rfl : b = 0 := by simpa using hb
    rfl
  · rename_i h
    rw [if_neg h]
    exact pwR_get 6 1 [0] rfl (fun i hi => by obtain rfl : i = 0 := by omega
                                              rfl) b hb
theorem powL_car {mg x z ms : Int} (hm : 1 ≤ mg) (hx : 1 ≤ x) (hz : 0 ≤ z) (nt : List Int) (c : Nat) : (powL mg x z ms nt c).length = carV mg x z ms nt c + 1 := by
 have h := len_car (ms := ms) hm hx hz nt c
 unfold lenF at h
 simp only [Int.ofNat_eq_natCast] at h
 omega
theorem powL_z {mg x z ms : Int} {nt : List Int} {c b : Nat} (hb : b < (powL mg x z ms nt c).length) (hz : z = 0) : b = 0 := by
 unfold powL at hb
 rw [if_pos (.inl hz)] at hb
 simpa using hb
theorem pw_in {mg x z : Int} (hm : 1 ≤ mg ∧ mg ≤ 100) (hx : 1 ≤ x ∧ x ≤ 1000000) (hz : 0 ≤ z ∧ z ≤ 1000000000) {k : Nat} (hk : k ≤ 6) (h0 : z = 0 → k = 0) : 0 ≤ pwV mg x z k ∧ pwV mg x z k ≤ 7300000000 := by
 unfold pwV
 by_cases h : k = 0
 ·rw [if_pos h]; omega
 ·rw [if_neg h]
  have b2 := pw_bd hm hx (two_bd k hk)
  have hz1 : 1 ≤ z := by by_cases a : z = 0; exact absurd (h0 a) h; omega
  have b3 := quo_bd (g := mg * (Int.ofNat (2 ^ k) - 1) * x + z - 1) (z := z) (by omega) hz1
  omega
theorem car_le (mg x z ms : Int) (nt : List Int) (c : Nat) : carV mg x z ms nt c ≤ 6 := by
 have hb : ∀ k, bstF mg x z ms k ≤ k := by
  intro k
  induction k with
  | zero => exact Nat.le_refl _
  | succ k ih => unfold bstF; split <;> omega
 unfold carV
 split
 ·omega
 ·exact hb 6
def cmF (f : Nat → List Int) : Nat → List Int → Int → Int × Int
 | _, [], a => (a, 0)
 | i, b :: r, a => if (f i).length ≤ b.toNat then (0, 20) else cmF f (i + 1) r (a + ((f i)[b.toNat]?).getD 0)
abbrev tupC (r : Int × Int) : AV := .tup [.one (.v (.int .i64 r.1)), .one (.v (.int .i64 r.2))]
def bitsE (n : Nat) (us : List Int) : Int := if us.length = n then eachE 0 6 us else 2
theorem K40b (hE : EnvOk E) (sg : List Int) (ns : List (List Int)) (mg ms : Int) (nt us : List Int) (hm : us.length ≤ 100000) : COut E 0 [] 40 [aR sg ns mg ms nt, dI us] (iI (bitsE sg.length us)) [] := by
 unfold bitsE
 by_cases h : us.length = sg.length
 ·rw [if_pos h]
  have l40 : ∀ k i, k + i = us.length → ∀ j, OutK E 0 0 (v40 (iD us) us.length i j) (Go.Ev.Ends E Tryz.f40 (iI (eachE 0 6 (us.drop i))) []) := by
   intro k
   induction k with
   | zero =>
    intro i hi j
    obtain rfl : i = us.length := by omega
    rw [List.drop_length]
    exact m40x hE (iD us) us.length us.length dF (fun j => outK_ret (ends_ret (by kernel_rfl))) j
   | succ k ih =>
    intro i hi j
    have hl : i < us.length := by omega
    have hx : us[i]? = some us[i] := List.getElem?_eq_getElem hl
    have ih' := ih (i + 1) (by omega)
    rw [List.drop_eq_getElem_cons hl]
    generalize us[i] = x at hx
    by_cases h : rg x 0 6 = 0
    ·rw [show eachE 0 6 (x :: us.drop (i + 1)) = eachE 0 6 (us.drop (i + 1)) from if_pos h]
     exact m40s hE (iD us) us.length i x (rg x 0 6) dT bP (Nat.mul_one _) (gI hx) (K18 hE _ _ _) (by rw [h]; rfl) (iIe (by (try simp only [Int.ofNat_eq_natCast]); rw [wrap_id (by omega) (by omega)]; try omega)) ih' j
    ·rw [show eachE 0 6 (x :: us.drop (i + 1)) = rg x 0 6 from if_neg h]
     exact m40e hE (iD us) us.length i x (rg x 0 6) dT bP (Nat.mul_one _) (gI hx) (K18 hE _ _ _) (bne_iff_ne.2 h) (fun j => outK_ret (ends_ret (by kernel_rfl))) j
  exact cOut_clear (cOut_start Tryz.func40 rfl (m40a hE (iD sg) (rD ns) (iD nt) (iD us) sg.length ns.length nt.length us.length mg ms (by rw [h]; simp) (l40 us.length 0 rfl) fun _ => undef)) rfl
 ·rw [if_neg h]
  exact cOut_clear (cOut_start Tryz.func40 rfl (m40n hE (iD sg) (rD ns) (iD nt) (iD us) sg.length ns.length nt.length us.length mg ms (bne_iff_ne.2 (by omega)) (fun j => outK_ret (ends_ret (by kernel_rfl))) fun _ => undef)) rfl
theorem row_at {f : Nat → List Int} {n i : Nat} (h : i < n) : (tab f n)[i]? = some (f i) := tab_get f h
theorem l42 (hE : EnvOk E) (sg : List Int) (ns : List (List Int)) (mg ms : Int) (nt : List Int) (hn : nt.length ≤ 100000) {p : Nat} {r : List Int} (h : PartOk sg ns mg p r) (us : List Int) (hu : us.length = sg.length) (hb : ∀ x ∈ us, 0 ≤ x ∧ x ≤ 6) : ∀ k i a, k + i = us.length → 0 ≤ a → a ≤ (i : Int) * 7300000000 → ∀ j, OutK E 0 0 (v42 (iD sg) (rD ns) (iD nt) (iD us) sg.length ns.length nt.length us.length i p mg ms a j) (Go.Ev.Ends E Tryz.f42 (tupC (cmF (rowV sg r mg ms nt) i (us.drop i) a)) []) := by
 intro k
 induction k with
 | zero =>
  intro i a hi ha ha2 j
  obtain rfl : i = us.length := by omega
  rw [List.drop_length]
  exact m42x hE (iD sg) (rD ns) (iD nt) (iD us) sg.length ns.length nt.length us.length us.length p mg ms a dF (fun j => outK_ret (ends_ret (by kernel_rfl))) j
 | succ k ih =>
  intro i a hi ha ha2 j
  have hl : i < us.length := by omega
  have h8 := h.many.2
  have hx : us[i]? = some us[i] := List.getElem?_eq_getElem hl
  have hq := hb us[i] (List.getElem_mem hl)
  rw [List.drop_eq_getElem_cons hl]
  generalize us[i] = x at hx hq
  obtain ⟨q, rfl⟩ := Int.eq_ofNat_of_zero_le hq.1
  have ck := cell_of h (c := i) (by omega)
  obtain ⟨_, _, _, c1, c2, c3⟩ := ck
  have ck := cell_of h (c := i) (by omega)
  have ec : (rowV sg r mg ms nt i).length = carV mg (el r i) (el sg i) ms nt i + 1 := powL_car (ms := ms) c1.1 c2.1 c3.1 nt i
  have k76 := K76 hE sg ns mg ms nt hn ck
  by_cases g : (rowV sg r mg ms nt i).length ≤ q
  ·rw [show cmF (rowV sg r mg ms nt) i ((q : Int) :: us.drop (i + 1)) a = (0, 20) from if_pos g]
   exact m42l hE (iD sg) (rD ns) (iD nt) (iD us) sg.length ns.length nt.length us.length i p mg ms ((q : Int)) a ((Int.ofNat (carV mg (el r i) (el sg i) ms nt i))) dT bP (Nat.mul_one _) (gI hx) k76 dT (fun j => outK_ret (ends_ret (by kernel_rfl))) j
  ·have g' : q < (rowV sg r mg ms nt i).length := by omega
   have hz0 : el sg i = 0 → q = 0 := fun a => powL_z g' a
   have bd := pw_in c1 c2 c3 (k := q) (by omega) hz0
   rw [show cmF (rowV sg r mg ms nt) i ((q : Int) :: us.drop (i + 1)) a = cmF (rowV sg r mg ms nt) (i + 1) (us.drop (i + 1)) (a + pwV mg (el r i) (el sg i) q) by
    show (if (rowV sg r mg ms nt i).length ≤ q then _ else cmF _ _ _ (a + ((rowV sg r mg ms nt i)[q]?).getD 0)) = _
    rw [if_neg g, powL_get g']; rfl]
   have k19 := K19 hE sg ns mg ms nt ck q (by omega)
   rw [show (if el sg i = 0 then 0 else pwV mg (el r i) (el sg i) q) = pwV mg (el r i) (el sg i) q by
    split
    ·rw [hz0 ‹_›]; rfl
    ·rfl] at k19
   exact m42s hE (iD sg) (rD ns) (iD nt) (iD us) sg.length ns.length nt.length us.length i p mg ms ((q : Int)) a ((Int.ofNat (carV mg (el r i) (el sg i) ms nt i))) ((pwV mg (el r i) (el sg i) q)) ((if q = 0 then 0 else if el sg i = 0 then 7 else 0)) ((a + pwV mg (el r i) (el sg i) q)) dT bP (Nat.mul_one _) (gI hx) k76 dF k19 (iIe (wrap_id (by omega) (by omega))) (iIe (by (try simp only [Int.ofNat_eq_natCast]); rw [wrap_id (by omega) (by omega)]; try omega)) (ih (i + 1) _ (by omega) (by omega) (by omega)) j
theorem K42b (hE : EnvOk E) (sg : List Int) (ns : List (List Int)) (mg ms : Int) (nt : List Int) (hn : nt.length ≤ 100000) {p : Nat} {r : List Int} (h : PartOk sg ns mg p r) (us : List Int) (hu : us.length = sg.length) (hb : ∀ x ∈ us, 0 ≤ x ∧ x ≤ 6) : COut E 0 [] 42 [aR sg ns mg ms nt, iI (Int.ofNat p), dI us] (tupC (cmF (rowV sg r mg ms nt) 0 us 0)) [] :=
 cOut_clear (cOut_start Tryz.func42 rfl (m42a hE (iD sg) (rD ns) (iD nt) (iD us) sg.length ns.length nt.length us.length p mg ms (l42 hE sg ns mg ms nt hn h us hu hb us.length 0 0 rfl (by omega) (by omega)) fun _ => undef)) rfl
def cmE (sg : List Int) (ns : List (List Int)) (mg ms : Int) (nt : List Int) (x : Int) (us : List Int) : Int := firstI [topE sg ns mg ms nt x, fI ((us.length : Int) != (sg.length : Int)) 2, eachE 0 6 us]
theorem K35e (hE : EnvOk E) (sg : List Int) (ns : List (List Int)) (mg ms : Int) (nt : List Int) (h1 : sg.length ≤ 100000) (h2 : ns.length ≤ 5000) (h3 : ∀ r ∈ ns, r.length ≤ 100000) (h4 : nt.length ≤ 100000) (x : Int) (us : List Int) (hm : us.length ≤ 100000) (h : cmE sg ns mg ms nt x us ≠ 0) : COut E 0 [] 35 [aT sg ns mg ms nt, iI x, dI us] (tupC (0, cmE sg ns mg ms nt x us)) [] :=
 cOut_clear (cOut_start Tryz.func35 rfl (m35e hE (iD sg) (rD ns) (iD nt) (iD us) sg.length ns.length nt.length us.length mg ms x (topE sg ns mg ms nt x) (fI ((us.length : Int) != (sg.length : Int)) 2) (eachE 0 6 us) (cmE sg ns mg ms nt x us) (K70 hE sg ns mg ms nt h1 h2 h3 h4 x) (K85 hE _ _) (Kz82 hE 0 6 us hm) oB (lend2 _ hE 76 _ _ 31 true (K69 hE [topE sg ns mg ms nt x, fI ((us.length : Int) != (sg.length : Int)) 2, eachE 0 6 us] (by simp)) _ 3 rfl) (bne_iff_ne.2 h) (fun j => outK_ret (ends_ret (by kernel_rfl))) fun _ => undef)) rfl
theorem l35 (hE : EnvOk E) (sg : List Int) (ns : List (List Int)) (mg ms : Int) (nt : List Int) {p : Nat} {r : List Int} (h : PartOk sg ns mg p r) (us : List Int) (hu : us.length = sg.length) (hb : ∀ x ∈ us, 0 ≤ x ∧ x ≤ 6) (_x : Int) : ∀ k i a, k + i = us.length → 0 ≤ a → a ≤ (i : Int) * 7300000000 → ∀ j, OutK E 0 0 (v35 (rD (tab (rowV sg r mg ms nt) sg.length)) (iD us) sg.length us.length i a j) (Go.Ev.Ends E Tryz.f35 (tupC (cmF (rowV sg r mg ms nt) i (us.drop i) a)) []) := by
 intro k
 induction k with
 | zero =>
  intro i a hi ha ha2 j
  obtain rfl : i = us.length := by omega
  rw [List.drop_length]
  exact m35x hE (rD (tab (rowV sg r mg ms nt) sg.length)) (iD us) sg.length us.length us.length a dF (fun j => outK_ret (ends_ret (by kernel_rfl))) j
 | succ k ih =>
  intro i a hi ha ha2 j
  have hl : i < us.length := by omega
  have h8 := h.many.2
  have hx : us[i]? = some us[i] := List.getElem?_eq_getElem hl
  have hq := hb us[i] (List.getElem_mem hl)
  rw [List.drop_eq_getElem_cons hl]
  generalize us[i] = y at hx hq
  obtain ⟨q, rfl⟩ := Int.eq_ofNat_of_zero_le hq.1
  have ck := cell_of h (c := i) (by omega)
  obtain ⟨_, _, _, c1, c2, c3⟩ := ck
  have hT : (tab (rowV sg r mg ms nt) sg.length)[i]? = some (rowV sg r mg ms nt i) := row_at (by omega)
  by_cases g : (rowV sg r mg ms nt i).length ≤ q
  ·rw [show cmF (rowV sg r mg ms nt) i ((q : Int) :: us.drop (i + 1)) a = (0, 20) from if_pos g]
   exact m35l hE (iD (rowV sg r mg ms nt i)) (rD (tab (rowV sg r mg ms nt) sg.length)) (iD us) ((rowV sg r mg ms nt i).length) sg.length us.length i q a dT bP (Nat.mul_one _) (gR hT) bP (gI hx) dT (fun j => outK_ret (ends_ret (by kernel_rfl))) j
  ·have g' : q < (rowV sg r mg ms nt i).length := by omega
   have bd := pw_in c1 c2 c3 (k := q) (by omega) (fun a => powL_z g' a)
   rw [show cmF (rowV sg r mg ms nt) i ((q : Int) :: us.drop (i + 1)) a = cmF (rowV sg r mg ms nt) (i + 1) (us.drop (i + 1)) (a + pwV mg (el r i) (el sg i) q) by
    show (if (rowV sg r mg ms nt i).length ≤ q then _ else cmF _ _ _ (a + ((rowV sg r mg ms nt i)[q]?).getD 0)) = _
    rw [if_neg g, powL_get g']; rfl]
   exact m35s hE (iD (rowV sg r mg ms nt i)) (rD (tab (rowV sg r mg ms nt) sg.length)) (iD us) ((rowV sg r mg ms nt i).length) sg.length us.length i q ((pwV mg (el r i) (el sg i) q)) a ((a + pwV mg (el r i) (el sg i) q)) dT bP (Nat.mul_one _) (gR hT) bP (gI hx) dF bP (Nat.mul_one _) (gI (powL_get g')) (iIe (wrap_id (by omega) (by omega))) (iIe (by (try simp only [Int.ofNat_eq_natCast]); rw [wrap_id (by omega) (by omega)]; try omega)) (ih (i + 1) _ (by omega) (by omega) (by omega)) j
theorem K35v (hE : EnvOk E) (sg : List Int) (ns : List (List Int)) (mg ms : Int) (nt : List Int) (h1 : sg.length ≤ 100000) (h2 : ns.length ≤ 5000) (h3 : ∀ r ∈ ns, r.length ≤ 100000) (h4 : nt.length ≤ 100000) {p : Nat} {r : List Int} (h : PartOk sg ns mg p r) (us : List Int) (hu : us.length = sg.length) (hb : ∀ x ∈ us, 0 ≤ x ∧ x ≤ 6) (he : cmE sg ns mg ms nt (Int.ofNat p) us = 0) : COut E 0 [] 35 [aT sg ns mg ms nt, iI (Int.ofNat p), dI us] (tupC (cmF (rowV sg r mg ms nt) 0 us 0)) [] := by
 have hm : us.length ≤ 100000 := by omega
 have k76 := lend2 4 hE 76 _ _ 31 true (K69 hE [topE sg ns mg ms nt (Int.ofNat p), fI ((us.length : Int) != (sg.length : Int)) 2, eachE 0 6 us] (by simp)) [bK (tnC sg ns mg ms nt) 5 78, bK [.v (.int .i64 0)] 1 3, bK [.v (.int .i64 6)] 1 3, bK [.v (.int .i64 (topE sg ns mg ms nt (Int.ofNat p))), .v (.int .i64 (fI ((us.length : Int) != (sg.length : Int)) 2)), .v (.int .i64 (eachE 0 6 us))] 3 31] 3 rfl
 rw [show firstI [topE sg ns mg ms nt (Int.ofNat p), fI ((us.length : Int) != (sg.length : Int)) 2, eachE 0 6 us] = 0 from he] at k76
 exact cOut_clear (cOut_start Tryz.func35 rfl (m35a hE (iD sg) (rD ns) (iD nt) (rD (tab (rowV sg r mg ms nt) sg.length)) (iD us) sg.length ns.length nt.length sg.length us.length mg ms ((Int.ofNat p)) (topE sg ns mg ms nt (Int.ofNat p)) (fI ((us.length : Int) != (sg.length : Int)) 2) (eachE 0 6 us) 0 (K70 hE sg ns mg ms nt h1 h2 h3 h4 _) (K85 hE _ _) (Kz82 hE 0 6 us hm) oB k76 rfl (K122 hE sg ns mg ms nt h4 h) (l35 hE sg ns mg ms nt h us hu hb (Int.ofNat p) us.length 0 0 rfl (by omega) (by omega)) fun _ => undef)) rfl
def mx (a e : Int) : Int := if e > a then e else a
def worF (pr : Int) : Nat → List Int → Int → Int
 | _, [], a => a
 | b, q :: r, a => worF pr (b + 1) r (mx a (1000 * Int.ofNat b - pr * q))
theorem wor_bd {pr : Int} (hp : 0 ≤ pr) : ∀ (L : List Int) (b : Nat) (a : Int), (∀ q ∈ L, 0 ≤ q) → b + L.length ≤ 7 → 0 ≤ a → a ≤ 7000 → 0 ≤ worF pr b L a ∧ worF pr b L a ≤ 7000
 | [], _, a, _, _, h0, h1 => ⟨h0, h1⟩
 | q :: r, b, a, hq, hl, h0, h1 => by
  have e := Int.mul_nonneg hp (hq q (List.mem_cons_self ..))
  have hl' : b + (r.length + 1) ≤ 7 := hl
  have hm : 0 ≤ mx a (1000 * Int.ofNat b - pr * q) ∧ mx a (1000 * Int.ofNat b - pr * q) ≤ 7000 := by
   unfold mx; simp only [Int.ofNat_eq_natCast]; split <;> omega
  exact wor_bd hp r (b + 1) _ (fun x hx => hq x (List.mem_cons_of_mem _ hx)) (by omega) hm.1 hm.2
theorem K107 (hE : EnvOk E) (pr : Int) (hp : 0 ≤ pr ∧ pr ≤ 100000) (L : List Int) (hL : L.length ≤ 7) (hq : ∀ q ∈ L, 0 ≤ q ∧ q ≤ 7300000000) : COut E 0 [] 107 [iI pr, dI L] (iI (worF pr 0 L 0)) [] := by
 have lp : ∀ k i a, k + i = L.length → ∀ j, OutK E 0 0 (v107 (iD L) L.length i pr a j) (Go.Ev.Ends E Tryz.f107 (iI (worF pr i (L.drop i) a)) []) := by
  intro k
  induction k with
  | zero =>
   intro i a hi j
   obtain rfl : i = L.length := by omega
   rw [List.drop_length]
   exact m107x hE (iD L) L.length L.length pr a dF (fun j => outK_ret (ends_ret (by kernel_rfl))) j
  | succ k ih =>
   intro i a hi j
   have hl : i < L.length := by omega
   have hx : L[i]? = some L[i] := List.getElem?_eq_getElem hl
   have hb := hq L[i] (List.getElem_mem hl)
   have ih' := fun a => ih (i + 1) a (by omega)
   rw [List.drop_eq_getElem_cons hl]
   generalize L[i] = q at hx hb
   have e := mulB hp.1 hp.2 hb.1 hb.2
   exact m107s hE (iD L) L.length i pr q a ((1000 * Int.ofNat i)) ((pr * q)) ((1000 * Int.ofNat i - pr * q)) ((mx a (1000 * Int.ofNat i - pr * q))) dT bP (Nat.mul_one _) (gI hx) (iIe (wrap_id (by simp only [Int.ofNat_eq_natCast]; omega) (by simp only [Int.ofNat_eq_natCast]; omega))) (iIe (wrap_id (by omega) (by omega))) (iIe (wrap_id (by simp only [Int.ofNat_eq_natCast]; omega) (by simp only [Int.ofNat_eq_natCast]; omega))) rfl (iIe (by (try simp only [Int.ofNat_eq_natCast]); rw [wrap_id (by omega) (by omega)]; try omega)) (ih' _) j
 exact cOut_start Tryz.func107 rfl (m107a hE (iD L) L.length pr (lp L.length 0 0 rfl) fun _ => undef)
def bndF (pr : Int) (f : Nat → List Int) : Nat → Nat → Int → Int
 | _, 0, a => a
 | i, m + 1, a => bndF pr f (i + 1) m (a + worF pr 0 (f i) 0)
theorem row_in {sg : List Int} {ns : List (List Int)} {mg : Int} (ms : Int) (nt : List Int) {p : Nat} {r : List Int} (h : PartOk sg ns mg p r) {i : Nat} (hi : i < sg.length) : ∀ q ∈ rowV sg r mg ms nt i, 0 ≤ q ∧ q ≤ 7300000000 := by
  obtain ⟨_, _, _, c1, c2, c3⟩ := cell_of h hi
  intro q hq
  obtain ⟨b, hb, rfl⟩ := List.getElem_of_mem hq
  have hl := powL_len mg (el r i) (el sg i) ms nt i
  have e := powL_get hb
  rw [List.getElem?_eq_getElem hb] at e
  rw [Option.some.inj e]
  exact pw_in c1 c2 c3 (by have : b < (powL mg (el r i) (el sg i) ms nt i).length := hb
                           omega) (fun a => powL_z hb a)
theorem row_0 {sg : List Int} {ns : List (List Int)} {mg : Int} (ms : Int) (nt : List Int) {p : Nat} {r : List Int} (h : PartOk sg ns mg p r) {i : Nat} (hi : i < sg.length) : rowV sg r mg ms nt i = 0 :: (rowV sg r mg ms nt i).drop 1 := by
  obtain ⟨_, _, _, c1, c2, c3⟩ := cell_of h hi
  have ec : (rowV sg r mg ms nt i).length = carV mg (el r i) (el sg i) ms nt i + 1 := powL_car (ms := ms) c1.1 c2.1 c3.1 nt i
  have e : (rowV sg r mg ms nt i)[0]? = some 0 := powL_get (show 0 < (rowV sg r mg ms nt i).length by omega)
  cases hr : rowV sg r mg ms nt i with
  | nil => rw [hr] at ec; simp at ec
  | cons a l => rw [hr] at e; obtain rfl : a = 0 := by simpa using e
                rfl
theorem K38e (hE : EnvOk E) (sg : List Int) (ns : List (List Int)) (mg ms : Int) (nt : List Int) (h1 : sg.length ≤ 100000) (h2 : ns.length ≤ 5000) (h3 : ∀ r ∈ ns, r.length ≤ 100000) (h4 : nt.length ≤ 100000) (x bud pr : Int) (h : firstI [topE sg ns mg ms nt x, rg bud 0 10000000, rg pr 0 100000] ≠ 0) : COut E 0 [] 38 [aT sg ns mg ms nt, iI x, iI bud, iI pr] (tupC (0, firstI [topE sg ns mg ms nt x, rg bud 0 10000000, rg pr 0 100000])) [] :=
 cOut_clear (cOut_start Tryz.func38 rfl (m38e hE (iD sg) (rD ns) (iD nt) sg.length ns.length nt.length mg ms x bud pr (topE sg ns mg ms nt x) (rg bud 0 10000000) (rg pr 0 100000) (firstI [topE sg ns mg ms nt x, rg bud 0 10000000, rg pr 0 100000]) (K70 hE sg ns mg ms nt h1 h2 h3 h4 x) (K72 hE _ _ _) (K72 hE _ _ _) (lend2 _ hE 76 _ _ 31 true (K69 hE [topE sg ns mg ms nt x, rg bud 0 10000000, rg pr 0 100000] (by simp)) _ 1 rfl) (bne_iff_ne.2 h) (fun j => outK_ret (ends_ret (by kernel_rfl))) fun _ => undef)) rfl
theorem K38v (hE : EnvOk E) (sg : List Int) (ns : List (List Int)) (mg ms : Int) (nt : List Int) (h1 : sg.length ≤ 100000) (h2 : ns.length ≤ 5000) (h3 : ∀ r ∈ ns, r.length ≤ 100000) (h4 : nt.length ≤ 100000) {p : Nat} {r : List Int} (h : PartOk sg ns mg p r) (bud pr : Int) (hbud : 0 ≤ bud ∧ bud ≤ 10000000) (hpr : 0 ≤ pr ∧ pr ≤ 100000) (ht : topE sg ns mg ms nt (Int.ofNat p) = 0) : COut E 0 [] 38 [aT sg ns mg ms nt, iI (Int.ofNat p), iI bud, iI pr] (tupC (bndF pr (rowV sg r mg ms nt) 0 sg.length (pr * bud), 0)) [] := by
 have h8 := h.many.2
 have hpb := mulB hpr.1 hpr.2 hbud.1 hbud.2
 have lp : ∀ k i a, k + i = sg.length → 0 ≤ a → a ≤ 1000000000000 + (i : Int) * 7000 → ∀ j, OutK E 0 0 (v38 (rD (tab (rowV sg r mg ms nt) sg.length)) sg.length i pr a j) (Go.Ev.Ends E Tryz.f38 (tupC (bndF pr (rowV sg r mg ms nt) i k a, 0)) []) := by
  intro k
  induction k with
  | zero =>
   intro i a hi ha ha2 j
   exact m38x hE (rD (tab (rowV sg r mg ms nt) sg.length)) sg.length i pr a dF (fun j => outK_ret (ends_ret (by kernel_rfl))) j
  | succ k ih =>
   intro i a hi ha ha2 j
   have hl : i < sg.length := by omega
   have hT : (tab (rowV sg r mg ms nt) sg.length)[i]? = some (rowV sg r mg ms nt i) := row_at hl
   have hin := row_in ms nt h hl
   have k107 := K107 hE pr hpr (rowV sg r mg ms nt i) (powL_len ..) hin
   have wb := wor_bd hpr.1 (rowV sg r mg ms nt i) 0 0 (fun q hq => (hin q hq).1) (by have := powL_len mg (el r i) (el sg i) ms nt i; show 0 + (powL mg (el r i) (el sg i) ms nt i).length ≤ 7; omega) (by omega) (by omega)
   exact m38s hE (iD (rowV sg r mg ms nt i)) (rD (tab (rowV sg r mg ms nt) sg.length)) ((rowV sg r mg ms nt i).length) sg.length i pr a ((worF pr 0 (rowV sg r mg ms nt i) 0)) ((a + worF pr 0 (rowV sg r mg ms nt i) 0)) dT bP (Nat.mul_one _) (gR hT) k107 (iIe (wrap_id (by omega) (by omega))) (iIe (by (try simp only [Int.ofNat_eq_natCast]); rw [wrap_id (by omega) (by omega)]; try omega)) (ih (i + 1) _ (by omega) (by omega) (by omega)) j
 have k70 := K70 hE sg ns mg ms nt h1 h2 h3 h4 (Int.ofNat p)
 rw [ht] at k70
 have hb0 : rg bud 0 10000000 = 0 := if_neg (by omega)
 have hp0 : rg pr 0 100000 = 0 := if_neg (by omega)
 have kb := K72 hE bud 0 10000000
 have kp := K72 hE pr 0 100000
 rw [hb0] at kb
 rw [hp0] at kp
 exact cOut_clear (cOut_start Tryz.func38 rfl (m38a hE (iD sg) (rD ns) (iD nt) (rD (tab (rowV sg r mg ms nt) sg.length)) sg.length ns.length nt.length sg.length mg ms ((Int.ofNat p)) bud pr 0 0 0 0 ((pr * bud)) k70 kb kp (lend2 _ hE 76 _ _ 31 true (K69 hE [0, 0, 0] (by simp)) _ 1 rfl) rfl (iIe (wrap_id (by omega) (by omega))) (K122 hE sg ns mg ms nt h4 h) (lp sg.length 0 _ rfl hpb.1 (by omega)) fun _ => undef)) rfl
theorem K43b (hE : EnvOk E) (sg : List Int) (ns : List (List Int)) (mg ms : Int) (nt : List Int) (hn : nt.length ≤ 100000) {p : Nat} {r : List Int} (h : PartOk sg ns mg p r) (bud pr : Int) (hbud : 0 ≤ bud ∧ bud ≤ 10000000) (hpr : 0 ≤ pr ∧ pr ≤ 100000) : COut E 0 [] 43 [aR sg ns mg ms nt, iI (Int.ofNat p), iI bud, iI pr] (iI (bndF pr (rowV sg r mg ms nt) 0 sg.length (pr * bud))) [] := by
 have h8 := h.many.2
 have hpb := mulB hpr.1 hpr.2 hbud.1 hbud.2
 have inn : ∀ (V : Int) i a, i < sg.length → 0 ≤ a → a ≤ 1000000000000 + (i : Int) * 7000 → ∀ k q b, q + k = (rowV sg r mg ms nt i).length → 1 ≤ q → 0 ≤ b → b ≤ 7000 → (∀ j, OutK E 0 0 (v43 (iD sg) (rD ns) (iD nt) sg.length ns.length nt.length ((i + 1)) p mg ms pr ((a + worF pr q ((rowV sg r mg ms nt i).drop q) b)) j) (Go.Ev.Ends E Tryz.f43 (iI V) [])) → ∀ j, OutK E 0 0 (v43i (iD sg) (rD ns) (iD nt) sg.length ns.length nt.length i p q mg ms pr a b j) (Go.Ev.Ends E Tryz.f43 (iI V) []) := by
  intro V i a hl ha ha2 k
  obtain ⟨_, _, _, c1, c2, c3⟩ := cell_of h hl
  have ck := cell_of h hl
  have hin := row_in ms nt h hl
  have ec : (rowV sg r mg ms nt i).length = carV mg (el r i) (el sg i) ms nt i + 1 := powL_car (ms := ms) c1.1 c2.1 c3.1 nt i
  have cl := car_le mg (el r i) (el sg i) ms nt i
  have k76 := K76 hE sg ns mg ms nt hn ck
  induction k with
  | zero =>
   intro q b hq h1 hb0 hb1 cont j
   obtain rfl : q = (rowV sg r mg ms nt i).length := by omega
   rw [List.drop_length] at cont
   exact m43u hE (iD sg) (rD ns) (iD nt) sg.length ns.length nt.length i p ((rowV sg r mg ms nt i).length) mg ms pr a b ((Int.ofNat (carV mg (el r i) (el sg i) ms nt i))) ((a + b)) k76 dF (iIe (wrap_id (by omega) (by omega))) (iIe (by (try simp only [Int.ofNat_eq_natCast]); rw [wrap_id (by omega) (by omega)]; try omega)) cont j
  | succ k ih =>
   intro q b hq h1 hb0 hb1 cont j
   have hlq : q < (rowV sg r mg ms nt i).length := by omega
   have hg := powL_get hlq
   have hgv : (rowV sg r mg ms nt i)[q] = pwV mg (el r i) (el sg i) q := by
    rw [List.getElem?_eq_getElem hlq] at hg; exact Option.some.inj hg
   have bd := pw_in c1 c2 c3 (k := q) (by omega) (fun a => powL_z hlq a)
   have e := mulB hpr.1 hpr.2 bd.1 bd.2
   rw [List.drop_eq_getElem_cons hlq, hgv] at cont
   have k19 := K19 hE sg ns mg ms nt ck q (by omega)
   rw [show (if el sg i = 0 then 0 else pwV mg (el r i) (el sg i) q) = pwV mg (el r i) (el sg i) q by
    split
    ·rw [powL_z hlq ‹_›]; rfl
    ·rfl] at k19
   have hmx : 0 ≤ mx b (1000 * Int.ofNat q - pr * pwV mg (el r i) (el sg i) q) ∧ mx b (1000 * Int.ofNat q - pr * pwV mg (el r i) (el sg i) q) ≤ 7000 := by
    unfold mx; simp only [Int.ofNat_eq_natCast]; split <;> omega
   exact m43t hE (iD sg) (rD ns) (iD nt) sg.length ns.length nt.length i p q mg ms ((1000 * Int.ofNat q)) pr a b ((Int.ofNat (carV mg (el r i) (el sg i) ms nt i))) ((pwV mg (el r i) (el sg i) q)) ((if q = 0 then 0 else if el sg i = 0 then 7 else 0)) ((1000 * Int.ofNat q - pr * pwV mg (el r i) (el sg i) q)) ((pr * pwV mg (el r i) (el sg i) q)) ((mx b (1000 * Int.ofNat q - pr * pwV mg (el r i) (el sg i) q))) k76 dT k19 (iIe (wrap_id (by simp only [Int.ofNat_eq_natCast]; omega) (by simp only [Int.ofNat_eq_natCast]; omega))) (iIe (wrap_id (by omega) (by omega))) (iIe (wrap_id (by simp only [Int.ofNat_eq_natCast]; omega) (by simp only [Int.ofNat_eq_natCast]; omega))) rfl (iIe (by (try simp only [Int.ofNat_eq_natCast]); rw [wrap_id (by omega) (by omega)]; try omega)) (ih (q + 1) _ (by omega) (by omega) hmx.1 hmx.2 cont) j
 have lp : ∀ k i a, k + i = sg.length → 0 ≤ a → a ≤ 1000000000000 + (i : Int) * 7000 → ∀ j, OutK E 0 0 (v43 (iD sg) (rD ns) (iD nt) sg.length ns.length nt.length i p mg ms pr a j) (Go.Ev.Ends E Tryz.f43 (iI (bndF pr (rowV sg r mg ms nt) i k a)) []) := by
  intro k
  induction k with
  | zero =>
   intro i a hi ha ha2 j
   exact m43x hE (iD sg) (rD ns) (iD nt) sg.length ns.length nt.length i p mg ms pr a dF (fun j => outK_ret (ends_ret (by kernel_rfl))) j
  | succ k ih =>
   intro i a hi ha ha2 j
   have hl : i < sg.length := by omega
   have hin := row_in ms nt h hl
   have r0 := row_0 ms nt h hl
   have wb := wor_bd hpr.1 (rowV sg r mg ms nt i) 0 0 (fun q hq => (hin q hq).1) (by have := powL_len mg (el r i) (el sg i) ms nt i; show 0 + (powL mg (el r i) (el sg i) ms nt i).length ≤ 7; omega) (by omega) (by omega)
   have ew : worF pr 0 (rowV sg r mg ms nt i) 0 = worF pr 1 ((rowV sg r mg ms nt i).drop 1) 0 := by
    conv => lhs; rw [r0]
    show worF pr 1 _ (mx 0 (1000 * Int.ofNat 0 - pr * 0)) = _
    rw [show mx 0 (1000 * Int.ofNat 0 - pr * 0) = 0 by unfold mx; rw [Int.mul_zero]; rfl]
   have ih' := ih (i + 1) (a + worF pr 0 (rowV sg r mg ms nt i) 0) (by omega) (by omega) (by omega)
   rw [ew] at ih'
   have hl0 : 0 < (rowV sg r mg ms nt i).length := by rw [r0]; simp
   have cont := inn (bndF pr (rowV sg r mg ms nt) i (k + 1) a) i a hl ha ha2 ((rowV sg r mg ms nt i).length - 1) 1 0 (by omega) (by omega) (by omega) (by omega) (by
    show ∀ j, OutK E 0 0 _ (Go.Ev.Ends E Tryz.f43 (iI (bndF pr (rowV sg r mg ms nt) (i + 1) k (a + worF pr 0 (rowV sg r mg ms nt i) 0))) [])
    rw [ew]; exact ih')
   exact m43s hE (iD sg) (rD ns) (iD nt) sg.length ns.length nt.length i p mg ms pr a dT cont j
 exact cOut_clear (cOut_start Tryz.func43 rfl (m43a hE (iD sg) (rD ns) (iD nt) sg.length ns.length nt.length p mg ms bud pr ((pr * bud)) (iIe (wrap_id (by omega) (by omega))) (lp sg.length 0 _ rfl hpb.1 (by omega)) fun _ => undef)) rfl
end
end Go.Proofs.YtigdchbjmnbjlaaGreatDoor
end
