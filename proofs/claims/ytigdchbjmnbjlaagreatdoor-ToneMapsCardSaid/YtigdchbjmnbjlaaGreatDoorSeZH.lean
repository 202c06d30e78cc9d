/-
  Part of the proof: SeDe, SeBa, SeBb, SeBc, SeBd, SeBm, SeBn, SeDf.
-/
import Derived.Test.YtigdchbjmnbjlaaGreatDoorSeZG

/-! SeDe -/
section
open Go Go.Ev
namespace Go.Proofs.YtigdchbjmnbjlaaGreatDoor
noncomputable section
set_option maxRecDepth 100000
set_option maxHeartbeats 20000000
def x15 (C N O : List DT) (s n o : Nat) (mg ms : Int) (_j : JN) : St := startK Tryz.f39 [] [.e (.agg (tQ C s N n mg ms O o))]
def y15a (C N O : List DT) (s n o i : Nat) (mg ms : Int) (j : JN) : St := ⟨[(bK (tQ C s N n mg ms O o) 5 71)], [(.code (aF [1, 1, 0, 1, 0, 0] Tryz.f39)), (.inLoop (aF [1, 1, 0, 1, 0, 0] Tryz.f39)), (.inBlock 0), (.code (aF [1, 1, 1] Tryz.f39))], mkT j [(1, (.e (.one (.ptr 0 0)))), (4, (iN i))] 148 0⟩
def y15b (C N O : List DT) (s n o p : Nat) (mg ms : Int) (j : JN) : St := ⟨[(bK (tQ C s N n mg ms O o) 5 71)], [(.code (aF [1, 1, 1, 1, 0, 1, 0, 0] Tryz.f39)), (.inLoop (aF [1, 1, 1, 1, 0, 1, 0, 0] Tryz.f39)), (.inBlock 2), (.code (aF [1, 1, 1, 1, 1] Tryz.f39))], mkT j [(1, (.e (.one (.ptr 0 0)))), (7, (iN p))] 148 0⟩
def y15c (C N O : List DT) (s n o i p : Nat) (mg ms : Int) (j : JN) : St := ⟨[(bK (tQ C s N n mg ms O o) 5 71)], [(.code (aF [1, 1, 1, 1, 0, 1, 0, 0, 1, 0, 0, 1, 1, 0, 0] Tryz.f39)), (.inLoop (aF [1, 1, 1, 1, 0, 1, 0, 0, 1, 0, 0, 1, 1, 0, 0] Tryz.f39)), (.inBlock 4), (.inBlock 3), (.code (aF [1, 1, 1, 1, 0, 1, 0, 0, 1, 1] Tryz.f39)), (.inLoop (aF [1, 1, 1, 1, 0, 1, 0, 0] Tryz.f39)), (.inBlock 2), (.code (aF [1, 1, 1, 1, 1] Tryz.f39))], mkT j [(1, (.e (.one (.ptr 0 0)))), (7, (iN p)), (8, (iN i))] 148 0⟩
def y15d (C N O : List DT) (s n o i : Nat) (mg ms : Int) (j : JN) : St := ⟨[(bK (tQ C s N n mg ms O o) 5 71)], [(.code (aF [1, 1, 1, 1, 1, 1, 0, 1, 0, 0] Tryz.f39)), (.inLoop (aF [1, 1, 1, 1, 1, 1, 0, 1, 0, 0] Tryz.f39)), (.inBlock 6), (.code (aF [1, 1, 1, 1, 1, 1, 1] Tryz.f39))], mkT j [(1, (.e (.one (.ptr 0 0)))), (11, (iN i))] 148 0⟩
def p15e_end (g : Int) (j : JN) : St := ⟨[], [(.code .ret), (.code (aF [1, 1] Tryz.f39))], mkT j [(2, (iI g))] 148 0⟩
theorem p15e (hE : EnvOk E) (C N O : List DT) (s n o : Nat) (mg ms a b g : Int) (h0 : COut E 0 [] 73 [(iB ((↑s : Int) == (0 : Int))), (iI 12)] (iI a) []) (h3 : COut E 0 [] 73 [(iB (decide ((↑s : Int) > (8 : Int)))), (iI 5)] (iI b) []) (h5 : COut E 2 [(bK (tQ C s N n mg ms O o) 5 71), (bK [(.v (.int .i64 a)), (.v (.int .i64 b))] 2 3)] 15 [(.e (.one (.slc 1 0 2 1 2 true)))] (iI g) [(bK (tQ C s N n mg ms O o) 5 71), (bK [(.v (.int .i64 a)), (.v (.int .i64 b))] 2 3)]) (h7 : (g != (0 : Int) : Bool) = true) {Φ : Res → Prop} (ho : ∀ j, OutK E 0 0 (p15e_end g j) Φ) (j : JN) : OutK E 0 0 (x15 C N O s n o mg ms j) Φ :=
 oS hE [.run 4, (.ops [(4, (.c0 (iI a))), (9, (.c0 (iI b))), (11, (.d (.c1 (iI g)))), (2, (.d .len)), (7, (.d .len))] []), .run 2, (.cond true), .run 2] [2] (s' := fun j => ⟨[(bK (tQ C s N n mg ms O o) 5 71), (bK [(.v (.int .i64 a)), (.v (.int .i64 b))] 2 3)], [(.code .ret), (.code (aF [1, 1] Tryz.f39))], mkT j [(2, (iI g))] 148 0⟩) (aP h0 <| aN <| aV <| aP h3 <| aN <| aP h5 <| aN <| aP h7 <| aZ)
  fun j => gZ [] (ho j)
def p15a_end (C N O : List DT) (s n o : Nat) (mg ms : Int) (j : JN) : St := ⟨[(bK (tQ C s N n mg ms O o) 5 71)], [(.code (aF [1, 1, 0, 1, 0, 0] Tryz.f39)), (.inLoop (aF [1, 1, 0, 1, 0, 0] Tryz.f39)), (.inBlock 0), (.code (aF [1, 1, 1] Tryz.f39))], mkT j [(1, (.e (.one (.ptr 0 0)))), (4, (iI 0))] 148 0⟩
theorem p15a (hE : EnvOk E) (C N O : List DT) (s n o : Nat) (mg ms a b g : Int) (h0 : COut E 0 [] 73 [(iB ((↑s : Int) == (0 : Int))), (iI 12)] (iI a) []) (h3 : COut E 0 [] 73 [(iB (decide ((↑s : Int) > (8 : Int)))), (iI 5)] (iI b) []) (h5 : COut E 2 [(bK (tQ C s N n mg ms O o) 5 71), (bK [(.v (.int .i64 a)), (.v (.int .i64 b))] 2 3)] 15 [(.e (.one (.slc 1 0 2 1 2 true)))] (iI g) [(bK (tQ C s N n mg ms O o) 5 71), (bK [(.v (.int .i64 a)), (.v (.int .i64 b))] 2 3)]) (h7 : (g != (0 : Int) : Bool) = false) {Φ : Res → Prop} (ho : ∀ j, OutK E 0 0 (p15a_end C N O s n o mg ms j) Φ) (j : JN) : OutK E 0 0 (x15 C N O s n o mg ms j) Φ :=
 oS hE [.run 4, (.ops [(4, (.c0 (iI a))), (9, (.c0 (iI b))), (11, (.d (.c1 (iI g)))), (2, (.d .len)), (7, (.d .len))] []), .run 2, (.cond false), .run 6] [1, 4] (s' := fun j => ⟨[(bK (tQ C s N n mg ms O o) 5 71), (bK [(.v (.int .i64 a)), (.v (.int .i64 b))] 2 3)], [(.code (aF [1, 1, 0, 1, 0, 0] Tryz.f39)), (.inLoop (aF [1, 1, 0, 1, 0, 0] Tryz.f39)), (.inBlock 0), (.code (aF [1, 1, 1] Tryz.f39))], mkT j [(1, (.e (.one (.ptr 0 0)))), (4, (iI 0))] 148 0⟩) (aP h0 <| aN <| aV <| aP h3 <| aN <| aP h5 <| aN <| aP h7 <| aZ)
  fun j => gZ [0] (ho j)
def p15as_end (C N O : List DT) (s n o i : Nat) (mg ms : Int) (j : JN) : St := ⟨[(bK (tQ C s N n mg ms O o) 5 71)], [(.code (aF [1, 1, 0, 1, 0, 0] Tryz.f39)), (.inLoop (aF [1, 1, 0, 1, 0, 0] Tryz.f39)), (.inBlock 0), (.code (aF [1, 1, 1] Tryz.f39))], mkT j [(1, (.e (.one (.ptr 0 0)))), (4, (iN (i + 1)))] 148 0⟩
theorem p15as (hE : EnvOk E) (C N O : List DT) (s n o i : Nat) (mg ms x e : Int) (h0 : (decide (Int.ofNat i < (↑s : Int)) : Bool) = true) (h1 : (0 : Int) ≤ Int.ofNat i ∧ Int.ofNat i < (↑s : Int)) (h2 : ((Int.ofNat i).toNat * nat_lit 1 : Nat) = i) (h3 : (getL C i : Option DT) = (.some (.v (.int .i64 x)))) (h4 : COut E 0 [] 41 [(iI x), (iI 0), (iI 1000000000)] (iI e) []) (h6 : (e != (0 : Int) : Bool) = false) (h7 : ((iI (wrapF IntKind.i64 (Int.ofNat i + (1 : Int)))) : AV) = (iN (i + 1))) {Φ : Res → Prop} (ho : ∀ j, OutK E 0 0 (p15as_end C N O s n o i mg ms j) Φ) (j : JN) : OutK E 0 0 (y15a C N O s n o i mg ms j) Φ :=
 oS hE [.run 2, (.ops [(3, (.d .len))] []), (.cond true), .run 4, (.ops [(4, (.d (.ld (.v (.int .i64 x))))), (5, (.c0 (iI e))), (3, (.d (.ix i)))] []), .run 2, (.cond false), .run 2, (.ops [(1, (.rn (iN (i + 1))))] []), .run 1] [1, 4] (aQ h0 h1 h2 h3 <| aP h4 <| aN <| aP h6 <| aP h7 <| aZ)
  ho
def p15ae_end (e : Int) (j : JN) : St := ⟨[], [(.code .ret), (.inBlock 1), (.code (aF [1, 1, 0, 1, 0, 0, 1, 1] Tryz.f39)), (.inLoop (aF [1, 1, 0, 1, 0, 0] Tryz.f39)), (.inBlock 0), (.code (aF [1, 1, 1] Tryz.f39))], mkT j [(2, (iI e))] 148 0⟩
theorem p15ae (hE : EnvOk E) (C N O : List DT) (s n o i : Nat) (mg ms x e : Int) (h0 : (decide (Int.ofNat i < (↑s : Int)) : Bool) = true) (h1 : (0 : Int) ≤ Int.ofNat i ∧ Int.ofNat i < (↑s : Int)) (h2 : ((Int.ofNat i).toNat * nat_lit 1 : Nat) = i) (h3 : (getL C i : Option DT) = (.some (.v (.int .i64 x)))) (h4 : COut E 0 [] 41 [(iI x), (iI 0), (iI 1000000000)] (iI e) []) (h6 : (e != (0 : Int) : Bool) = true) {Φ : Res → Prop} (ho : ∀ j, OutK E 0 0 (p15ae_end e j) Φ) (j : JN) : OutK E 0 0 (y15a C N O s n o i mg ms j) Φ :=
 oS hE [.run 2, (.ops [(3, (.d .len))] []), (.cond true), .run 4, (.ops [(4, (.d (.ld (.v (.int .i64 x))))), (5, (.c0 (iI e))), (3, (.d (.ix i)))] []), .run 2, (.cond true), .run 2] [2] (s' := fun j => ⟨[(bK (tQ C s N n mg ms O o) 5 71)], [(.code .ret), (.inBlock 1), (.code (aF [1, 1, 0, 1, 0, 0, 1, 1] Tryz.f39)), (.inLoop (aF [1, 1, 0, 1, 0, 0] Tryz.f39)), (.inBlock 0), (.code (aF [1, 1, 1] Tryz.f39))], mkT j [(2, (iI e))] 148 0⟩) (aQ h0 h1 h2 h3 <| aP h4 <| aN <| aP h6 <| aZ)
  fun j => gZ [] (ho j)
def p15ax_end (C N O : List DT) (s n o : Nat) (mg ms : Int) (j : JN) : St := ⟨[(bK (tQ C s N n mg ms O o) 5 71)], [(.code (aF [1, 1, 1, 1, 0, 1, 0, 0] Tryz.f39)), (.inLoop (aF [1, 1, 1, 1, 0, 1, 0, 0] Tryz.f39)), (.inBlock 2), (.code (aF [1, 1, 1, 1, 1] Tryz.f39))], mkT j [(1, (.e (.one (.ptr 0 0)))), (7, (iI 0))] 148 0⟩
theorem p15ax (hE : EnvOk E) (C N O : List DT) (s n o i : Nat) (mg ms a b g : Int) (h0 : (decide (Int.ofNat i < (↑s : Int)) : Bool) = false) (h1 : COut E 0 [] 73 [(iB ((↑n : Int) == (0 : Int))), (iI 12)] (iI a) []) (h4 : COut E 0 [] 73 [(iB (decide ((↑n : Int) > (8 : Int)))), (iI 5)] (iI b) []) (h6 : COut E 2 [(bK (tQ C s N n mg ms O o) 5 71), (bK [(.v (.int .i64 a)), (.v (.int .i64 b))] 2 3)] 15 [(.e (.one (.slc 1 0 2 1 2 true)))] (iI g) [(bK (tQ C s N n mg ms O o) 5 71), (bK [(.v (.int .i64 a)), (.v (.int .i64 b))] 2 3)]) (h8 : (g != (0 : Int) : Bool) = false) {Φ : Res → Prop} (ho : ∀ j, OutK E 0 0 (p15ax_end C N O s n o mg ms j) Φ) (j : JN) : OutK E 0 0 (y15a C N O s n o i mg ms j) Φ :=
 oS hE [.run 2, (.ops [(3, (.d .len))] []), (.cond false), .run 3, (.ops [(4, (.c0 (iI a))), (9, (.c0 (iI b))), (11, (.d (.c1 (iI g)))), (2, (.d .len)), (7, (.d .len))] []), .run 2, (.cond false), .run 6] [1, 7] (s' := fun j => ⟨[(bK (tQ C s N n mg ms O o) 5 71), (bK [(.v (.int .i64 a)), (.v (.int .i64 b))] 2 3)], [(.code (aF [1, 1, 1, 1, 0, 1, 0, 0] Tryz.f39)), (.inLoop (aF [1, 1, 1, 1, 0, 1, 0, 0] Tryz.f39)), (.inBlock 2), (.code (aF [1, 1, 1, 1, 1] Tryz.f39))], mkT j [(1, (.e (.one (.ptr 0 0)))), (7, (iI 0))] 148 0⟩) (aP h0 <| aP h1 <| aN <| aV <| aP h4 <| aN <| aP h6 <| aN <| aP h8 <| aZ)
  fun j => gZ [0] (ho j)
def p15aq_end (g : Int) (j : JN) : St := ⟨[], [(.code .ret), (.code (aF [1, 1, 1, 1] Tryz.f39))], mkT j [(2, (iI g))] 148 0⟩
theorem p15aq (hE : EnvOk E) (C N O : List DT) (s n o i : Nat) (mg ms a b g : Int) (h0 : (decide (Int.ofNat i < (↑s : Int)) : Bool) = false) (h1 : COut E 0 [] 73 [(iB ((↑n : Int) == (0 : Int))), (iI 12)] (iI a) []) (h4 : COut E 0 [] 73 [(iB (decide ((↑n : Int) > (8 : Int)))), (iI 5)] (iI b) []) (h6 : COut E 2 [(bK (tQ C s N n mg ms O o) 5 71), (bK [(.v (.int .i64 a)), (.v (.int .i64 b))] 2 3)] 15 [(.e (.one (.slc 1 0 2 1 2 true)))] (iI g) [(bK (tQ C s N n mg ms O o) 5 71), (bK [(.v (.int .i64 a)), (.v (.int .i64 b))] 2 3)]) (h8 : (g != (0 : Int) : Bool) = true) {Φ : Res → Prop} (ho : ∀ j, OutK E 0 0 (p15aq_end g j) Φ) (j : JN) : OutK E 0 0 (y15a C N O s n o i mg ms j) Φ :=
 oS hE [.run 2, (.ops [(3, (.d .len))] []), (.cond false), .run 3, (.ops [(4, (.c0 (iI a))), (9, (.c0 (iI b))), (11, (.d (.c1 (iI g)))), (2, (.d .len)), (7, (.d .len))] []), .run 2, (.cond true), .run 2] [2] (s' := fun j => ⟨[(bK (tQ C s N n mg ms O o) 5 71), (bK [(.v (.int .i64 a)), (.v (.int .i64 b))] 2 3)], [(.code .ret), (.code (aF [1, 1, 1, 1] Tryz.f39))], mkT j [(2, (iI g))] 148 0⟩) (aP h0 <| aP h1 <| aN <| aV <| aP h4 <| aN <| aP h6 <| aN <| aP h8 <| aZ)
  fun j => gZ [] (ho j)
def p15bs_end (C N O : List DT) (s n o p : Nat) (mg ms : Int) (j : JN) : St := ⟨[(bK (tQ C s N n mg ms O o) 5 71)], [(.code (aF [1, 1, 1, 1, 0, 1, 0, 0, 1, 0, 0, 1, 1, 0, 0] Tryz.f39)), (.inLoop (aF [1, 1, 1, 1, 0, 1, 0, 0, 1, 0, 0, 1, 1, 0, 0] Tryz.f39)), (.inBlock 4), (.inBlock 3), (.code (aF [1, 1, 1, 1, 0, 1, 0, 0, 1, 1] Tryz.f39)), (.inLoop (aF [1, 1, 1, 1, 0, 1, 0, 0] Tryz.f39)), (.inBlock 2), (.code (aF [1, 1, 1, 1, 1] Tryz.f39))], mkT j [(1, (.e (.one (.ptr 0 0)))), (7, (iN p)), (8, (iI 0))] 148 0⟩
theorem p15bs (hE : EnvOk E) (C N O R : List DT) (s n o m p : Nat) (mg ms : Int) (h0 : (decide (Int.ofNat p < (↑n : Int)) : Bool) = true) (h1 : (0 : Int) ≤ Int.ofNat p ∧ Int.ofNat p < (↑n : Int)) (h2 : ((Int.ofNat p).toNat * nat_lit 1 : Nat) = p) (h3 : (getL N p : Option DT) = (.some (.s R m 1))) (h5 : ((↑m : Int) != (↑s : Int) : Bool) = false) {Φ : Res → Prop} (ho : ∀ j, OutK E 0 0 (p15bs_end C N O s n o p mg ms j) Φ) (j : JN) : OutK E 0 0 (y15b C N O s n o p mg ms j) Φ :=
 oS hE [.run 2, (.ops [(3, (.d .len))] []), (.cond true), .run 5, (.ops [(4, (.d (.ld (.s R m 1)))), (3, (.d (.ix p))), (5, (.d .len)), (8, (.d .len))] []), (.cond false), .run 5] [1, 7, 8] (aQ h0 h1 h2 h3 <| aV <| aP h5 <| aZ)
  ho
def p15bf_end (j : JN) : St := ⟨[], [(.code .ret), (.code (aF [1, 1, 1, 1, 0, 1, 0, 0, 1, 0, 0, 1] Tryz.f39)), (.inBlock 3), (.code (aF [1, 1, 1, 1, 0, 1, 0, 0, 1, 1] Tryz.f39)), (.inLoop (aF [1, 1, 1, 1, 0, 1, 0, 0] Tryz.f39)), (.inBlock 2), (.code (aF [1, 1, 1, 1, 1] Tryz.f39))], mkT j [(2, (iI 2))] 148 0⟩
theorem p15bf (hE : EnvOk E) (C N O R : List DT) (s n o m p : Nat) (mg ms : Int) (h0 : (decide (Int.ofNat p < (↑n : Int)) : Bool) = true) (h1 : (0 : Int) ≤ Int.ofNat p ∧ Int.ofNat p < (↑n : Int)) (h2 : ((Int.ofNat p).toNat * nat_lit 1 : Nat) = p) (h3 : (getL N p : Option DT) = (.some (.s R m 1))) (h5 : ((↑m : Int) != (↑s : Int) : Bool) = true) {Φ : Res → Prop} (ho : ∀ j, OutK E 0 0 (p15bf_end j) Φ) (j : JN) : OutK E 0 0 (y15b C N O s n o p mg ms j) Φ :=
 oS hE [.run 2, (.ops [(3, (.d .len))] []), (.cond true), .run 5, (.ops [(4, (.d (.ld (.s R m 1)))), (3, (.d (.ix p))), (5, (.d .len)), (8, (.d .len))] []), (.cond true), .run 2] [2] (s' := fun j => ⟨[(bK (tQ C s N n mg ms O o) 5 71)], [(.code .ret), (.code (aF [1, 1, 1, 1, 0, 1, 0, 0, 1, 0, 0, 1] Tryz.f39)), (.inBlock 3), (.code (aF [1, 1, 1, 1, 0, 1, 0, 0, 1, 1] Tryz.f39)), (.inLoop (aF [1, 1, 1, 1, 0, 1, 0, 0] Tryz.f39)), (.inBlock 2), (.code (aF [1, 1, 1, 1, 1] Tryz.f39))], mkT j [(2, (iI 2))] 148 0⟩) (aQ h0 h1 h2 h3 <| aV <| aP h5 <| aZ)
  fun j => gZ [] (ho j)
def p15bx_end (C N O : List DT) (s n o : Nat) (mg ms : Int) (j : JN) : St := ⟨[(bK (tQ C s N n mg ms O o) 5 71)], [(.code (aF [1, 1, 1, 1, 1, 1, 0, 1, 0, 0] Tryz.f39)), (.inLoop (aF [1, 1, 1, 1, 1, 1, 0, 1, 0, 0] Tryz.f39)), (.inBlock 6), (.code (aF [1, 1, 1, 1, 1, 1, 1] Tryz.f39))], mkT j [(1, (.e (.one (.ptr 0 0)))), (11, (iI 0))] 148 0⟩
theorem p15bx (hE : EnvOk E) (C N O : List DT) (s n o p : Nat) (mg ms a b g : Int) (h0 : (decide (Int.ofNat p < (↑n : Int)) : Bool) = false) (h1 : COut E 0 [] 41 [(iI mg), (iI 1), (iI 100)] (iI a) []) (h4 : COut E 0 [] 41 [(iI ms), (iI 1), (iI 1000000)] (iI b) []) (h6 : COut E 2 [(bK (tQ C s N n mg ms O o) 5 71), (bK [(.v (.int .i64 a)), (.v (.int .i64 b))] 2 3)] 15 [(.e (.one (.slc 1 0 2 1 2 true)))] (iI g) [(bK (tQ C s N n mg ms O o) 5 71), (bK [(.v (.int .i64 a)), (.v (.int .i64 b))] 2 3)]) (h8 : (g != (0 : Int) : Bool) = false) {Φ : Res → Prop} (ho : ∀ j, OutK E 0 0 (p15bx_end C N O s n o mg ms j) Φ) (j : JN) : OutK E 0 0 (y15b C N O s n o p mg ms j) Φ :=
 oS hE [.run 2, (.ops [(3, (.d .len))] []), (.cond false), .run 3, (.ops [(2, (.c0 (iI a))), (5, (.c0 (iI b))), (7, (.d (.c1 (iI g))))] []), .run 2, (.cond false), .run 6] [1, 11] (s' := fun j => ⟨[(bK (tQ C s N n mg ms O o) 5 71), (bK [(.v (.int .i64 a)), (.v (.int .i64 b))] 2 3)], [(.code (aF [1, 1, 1, 1, 1, 1, 0, 1, 0, 0] Tryz.f39)), (.inLoop (aF [1, 1, 1, 1, 1, 1, 0, 1, 0, 0] Tryz.f39)), (.inBlock 6), (.code (aF [1, 1, 1, 1, 1, 1, 1] Tryz.f39))], mkT j [(1, (.e (.one (.ptr 0 0)))), (11, (iI 0))] 148 0⟩) (aP h0 <| aP h1 <| aN <| aV <| aP h4 <| aN <| aP h6 <| aN <| aP h8 <| aZ)
  fun j => gZ [0] (ho j)
def p15bq_end (g : Int) (j : JN) : St := ⟨[], [(.code .ret), (.code (aF [1, 1, 1, 1, 1, 1] Tryz.f39))], mkT j [(2, (iI g))] 148 0⟩
theorem p15bq (hE : EnvOk E) (C N O : List DT) (s n o p : Nat) (mg ms a b g : Int) (h0 : (decide (Int.ofNat p < (↑n : Int)) : Bool) = false) (h1 : COut E 0 [] 41 [(iI mg), (iI 1), (iI 100)] (iI a) []) (h4 : COut E 0 [] 41 [(iI ms), (iI 1), (iI 1000000)] (iI b) []) (h6 : COut E 2 [(bK (tQ C s N n mg ms O o) 5 71), (bK [(.v (.int .i64 a)), (.v (.int .i64 b))] 2 3)] 15 [(.e (.one (.slc 1 0 2 1 2 true)))] (iI g) [(bK (tQ C s N n mg ms O o) 5 71), (bK [(.v (.int .i64 a)), (.v (.int .i64 b))] 2 3)]) (h8 : (g != (0 : Int) : Bool) = true) {Φ : Res → Prop} (ho : ∀ j, OutK E 0 0 (p15bq_end g j) Φ) (j : JN) : OutK E 0 0 (y15b C N O s n o p mg ms j) Φ :=
 oS hE [.run 2, (.ops [(3, (.d .len))] []), (.cond false), .run 3, (.ops [(2, (.c0 (iI a))), (5, (.c0 (iI b))), (7, (.d (.c1 (iI g))))] []), .run 2, (.cond true), .run 2] [2] (s' := fun j => ⟨[(bK (tQ C s N n mg ms O o) 5 71), (bK [(.v (.int .i64 a)), (.v (.int .i64 b))] 2 3)], [(.code .ret), (.code (aF [1, 1, 1, 1, 1, 1] Tryz.f39))], mkT j [(2, (iI g))] 148 0⟩) (aP h0 <| aP h1 <| aN <| aV <| aP h4 <| aN <| aP h6 <| aN <| aP h8 <| aZ)
  fun j => gZ [] (ho j)
def p15cs_end (C N O : List DT) (s n o i p : Nat) (mg ms : Int) (j : JN) : St := ⟨[(bK (tQ C s N n mg ms O o) 5 71)], [(.code (aF [1, 1, 1, 1, 0, 1, 0, 0, 1, 0, 0, 1, 1, 0, 0] Tryz.f39)), (.inLoop (aF [1, 1, 1, 1, 0, 1, 0, 0, 1, 0, 0, 1, 1, 0, 0] Tryz.f39)), (.inBlock 4), (.inBlock 3), (.code (aF [1, 1, 1, 1, 0, 1, 0, 0, 1, 1] Tryz.f39)), (.inLoop (aF [1, 1, 1, 1, 0, 1, 0, 0] Tryz.f39)), (.inBlock 2), (.code (aF [1, 1, 1, 1, 1] Tryz.f39))], mkT j [(1, (.e (.one (.ptr 0 0)))), (7, (iN p)), (8, (iN (i + 1)))] 148 0⟩
theorem p15cs (hE : EnvOk E) (C N O R : List DT) (s n o m i p : Nat) (mg ms x e : Int) (h0 : (0 : Int) ≤ Int.ofNat p ∧ Int.ofNat p < (↑n : Int)) (h1 : ((Int.ofNat p).toNat * nat_lit 1 : Nat) = p) (h2 : (getL N p : Option DT) = (.some (.s R m 1))) (h3 : (decide (Int.ofNat i < (↑m : Int)) : Bool) = true) (h7 : (0 : Int) ≤ Int.ofNat i ∧ Int.ofNat i < (↑m : Int)) (h8 : ((Int.ofNat i).toNat * 1 : Nat) = i) (h9 : (getL R i : Option DT) = (.some (.v (.int .i64 x)))) (h10 : COut E 0 [] 41 [(iI x), (iI 1), (iI 1000000)] (iI e) []) (h12 : (e != (0 : Int) : Bool) = false) (h13 : ((iI (wrapF IntKind.i64 (Int.ofNat i + (1 : Int)))) : AV) = (iN (i + 1))) {Φ : Res → Prop} (ho : ∀ j, OutK E 0 0 (p15cs_end C N O s n o i p mg ms j) Φ) (j : JN) : OutK E 0 0 (y15c C N O s n o i p mg ms j) Φ :=
 oS hE [.run 2, (.ops [(5, (.d (.ld (.s R m 1)))), (4, (.d (.ix p))), (6, (.d .len))] []), (.cond true), .run 4, (.ops [(4, (.d (.ld (.s R m 1)))), (7, (.d (.ld (.v (.int .i64 x))))), (8, (.c0 (iI e))), (3, (.d (.ix p))), (6, (.d (.ix i)))] []), .run 2, (.cond false), .run 2, (.ops [(1, (.rn (iN (i + 1))))] []), .run 1] [1, 7, 8] (aQ h0 h1 h2 h3 <| aQ h0 h1 h2 h7 <| aP h8 <| aP h9 <| aP h10 <| aN <| aP h12 <| aP h13 <| aZ)
  ho
def p15ce_end (e : Int) (j : JN) : St := ⟨[], [(.code .ret), (.inBlock 5), (.code (aF [1, 1, 1, 1, 0, 1, 0, 0, 1, 0, 0, 1, 1, 0, 0, 1, 1] Tryz.f39)), (.inLoop (aF [1, 1, 1, 1, 0, 1, 0, 0, 1, 0, 0, 1, 1, 0, 0] Tryz.f39)), (.inBlock 4), (.inBlock 3), (.code (aF [1, 1, 1, 1, 0, 1, 0, 0, 1, 1] Tryz.f39)), (.inLoop (aF [1, 1, 1, 1, 0, 1, 0, 0] Tryz.f39)), (.inBlock 2), (.code (aF [1, 1, 1, 1, 1] Tryz.f39))], mkT j [(2, (iI e))] 148 0⟩
theorem p15ce (hE : EnvOk E) (C N O R : List DT) (s n o m i p : Nat) (mg ms x e : Int) (h0 : (0 : Int) ≤ Int.ofNat p ∧ Int.ofNat p < (↑n : Int)) (h1 : ((Int.ofNat p).toNat * nat_lit 1 : Nat) = p) (h2 : (getL N p : Option DT) = (.some (.s R m 1))) (h3 : (decide (Int.ofNat i < (↑m : Int)) : Bool) = true) (h7 : (0 : Int) ≤ Int.ofNat i ∧ Int.ofNat i < (↑m : Int)) (h8 : ((Int.ofNat i).toNat * 1 : Nat) = i) (h9 : (getL R i : Option DT) = (.some (.v (.int .i64 x)))) (h10 : COut E 0 [] 41 [(iI x), (iI 1), (iI 1000000)] (iI e) []) (h12 : (e != (0 : Int) : Bool) = true) {Φ : Res → Prop} (ho : ∀ j, OutK E 0 0 (p15ce_end e j) Φ) (j : JN) : OutK E 0 0 (y15c C N O s n o i p mg ms j) Φ :=
 oS hE [.run 2, (.ops [(5, (.d (.ld (.s R m 1)))), (4, (.d (.ix p))), (6, (.d .len))] []), (.cond true), .run 4, (.ops [(4, (.d (.ld (.s R m 1)))), (7, (.d (.ld (.v (.int .i64 x))))), (8, (.c0 (iI e))), (3, (.d (.ix p))), (6, (.d (.ix i)))] []), .run 2, (.cond true), .run 2] [2] (s' := fun j => ⟨[(bK (tQ C s N n mg ms O o) 5 71)], [(.code .ret), (.inBlock 5), (.code (aF [1, 1, 1, 1, 0, 1, 0, 0, 1, 0, 0, 1, 1, 0, 0, 1, 1] Tryz.f39)), (.inLoop (aF [1, 1, 1, 1, 0, 1, 0, 0, 1, 0, 0, 1, 1, 0, 0] Tryz.f39)), (.inBlock 4), (.inBlock 3), (.code (aF [1, 1, 1, 1, 0, 1, 0, 0, 1, 1] Tryz.f39)), (.inLoop (aF [1, 1, 1, 1, 0, 1, 0, 0] Tryz.f39)), (.inBlock 2), (.code (aF [1, 1, 1, 1, 1] Tryz.f39))], mkT j [(2, (iI e))] 148 0⟩) (aQ h0 h1 h2 h3 <| aQ h0 h1 h2 h7 <| aP h8 <| aP h9 <| aP h10 <| aN <| aP h12 <| aZ)
  fun j => gZ [] (ho j)
def p15cx_end (C N O : List DT) (s n o p : Nat) (mg ms : Int) (j : JN) : St := ⟨[(bK (tQ C s N n mg ms O o) 5 71)], [(.code (aF [1, 1, 1, 1, 0, 1, 0, 0] Tryz.f39)), (.inLoop (aF [1, 1, 1, 1, 0, 1, 0, 0] Tryz.f39)), (.inBlock 2), (.code (aF [1, 1, 1, 1, 1] Tryz.f39))], mkT j [(1, (.e (.one (.ptr 0 0)))), (7, (iN (p + 1)))] 148 0⟩
theorem p15cx (hE : EnvOk E) (C N O R : List DT) (s n o m i p : Nat) (mg ms : Int) (h0 : (0 : Int) ≤ Int.ofNat p ∧ Int.ofNat p < (↑n : Int)) (h1 : ((Int.ofNat p).toNat * nat_lit 1 : Nat) = p) (h2 : (getL N p : Option DT) = (.some (.s R m 1))) (h3 : (decide (Int.ofNat i < (↑m : Int)) : Bool) = false) (h4 : ((iI (wrapF IntKind.i64 (Int.ofNat p + (1 : Int)))) : AV) = (iN (p + 1))) {Φ : Res → Prop} (ho : ∀ j, OutK E 0 0 (p15cx_end C N O s n o p mg ms j) Φ) (j : JN) : OutK E 0 0 (y15c C N O s n o i p mg ms j) Φ :=
 oS hE [.run 2, (.ops [(5, (.d (.ld (.s R m 1)))), (4, (.d (.ix p))), (6, (.d .len))] []), (.cond false), .run 2, (.ops [(1, (.rn (iN (p + 1))))] []), .run 1] [1, 7] (aQ h0 h1 h2 h3 <| aP h4 <| aZ)
  ho
def p15d0s_end (C N O : List DT) (s n o i : Nat) (mg ms : Int) (j : JN) : St := ⟨[(bK (tQ C s N n mg ms O o) 5 71)], [(.code (aF [1, 1, 1, 1, 1, 1, 0, 1, 0, 0] Tryz.f39)), (.inLoop (aF [1, 1, 1, 1, 1, 1, 0, 1, 0, 0] Tryz.f39)), (.inBlock 6), (.code (aF [1, 1, 1, 1, 1, 1, 1] Tryz.f39))], mkT j [(1, (.e (.one (.ptr 0 0)))), (11, (iN (i + 1)))] 148 0⟩
theorem p15d0s (hE : EnvOk E) (C N O : List DT) (s n o i p : Nat) (mg ms x z a b f g : Int) (h0 : (decide (Int.ofNat i < (↑o : Int)) : Bool) = true) (h1 : (0 : Int) ≤ Int.ofNat i ∧ Int.ofNat i < (↑o : Int)) (h2 : ((Int.ofNat i).toNat * nat_lit 1 : Nat) = i) (h3 : (getL O i : Option DT) = (.some (.v (.int .i64 x)))) (h4 : COut E 0 [] 27 [(iN s), (iI x)] (iI a) []) (h6 : (decide (Int.ofNat i > (0 : Int)) == true : Bool) = false) (h7 : (decide (Int.ofNat i > (0 : Int)) == true : Bool) = false) (h8 : (decide (Int.ofNat i > (0 : Int)) == true : Bool) = false) (h9 : (decide (Int.ofNat i > (0 : Int)) == true : Bool) = false) (h10 : (decide (Int.ofNat i > (0 : Int)) == true : Bool) = false) (h11 : (decide (Int.ofNat i > (0 : Int)) == true : Bool) = false) (h12 : (decide (Int.ofNat i > (0 : Int)) == true : Bool) = false) (h13 : (decide (Int.ofNat i > (0 : Int)) == true : Bool) = false) (h14 : (decide (Int.ofNat i > (0 : Int)) == true : Bool) = false) (h15 : (decide (Int.ofNat i > (0 : Int)) == true : Bool) = false) (h16 : (decide (Int.ofNat i > (0 : Int)) == true : Bool) = false) (h17 : (decide (Int.ofNat i > (0 : Int)) == true : Bool) = false) (h19 : (decide (Int.ofNat i > (0 : Int)) == true : Bool) = false) (h20 : (decide (Int.ofNat i > (0 : Int)) : Bool) = false) (h21 : COut E 0 [] 73 [(iB false), (iI 11)] (iI b) []) (h23 : COut E 2 [(bK (tQ C s N n mg ms O o) 5 71), (bK [(.v (.int .i64 a)), (.v (.int .i64 b))] 2 3)] 15 [(.e (.one (.slc 1 0 2 1 2 true)))] (iI g) [(bK (tQ C s N n mg ms O o) 5 71), (bK [(.v (.int .i64 a)), (.v (.int .i64 b))] 2 3)]) (h25 : (g != (0 : Int) : Bool) = false) (h26 : ((iI (wrapF IntKind.i64 (Int.ofNat i + (1 : Int)))) : AV) = (iN (i + 1))) {Φ : Res → Prop} (ho : ∀ j, OutK E 0 0 (p15d0s_end C N O s n o i mg ms j) Φ) (j : JN) : OutK E 0 0 (y15d C N O s n o i mg ms j) Φ :=
 oS hE [.run 2, (.ops [(3, (.d .len))] []), (.cond true), .run 4, (.ops [(7, (.d (.ld (.v (.int .i64 x))))), (8, (.c0 (iI a))), (16, (.d (.ld (.v (.int .i64 x))))), (20, (.rn (iI f))), (21, (.rn (iN p))), (23, (.d (.ld (.v (.int .i64 z))))), (26, (.c0 (iI b))), (28, (.d (.c1 (iI g)))), (2, (.d .len)), (6, (.d (.ix i))), (25, (.pk false))] [(12, false), (13, false), (14, false), (15, false), (16, false), (17, false), (18, false), (19, false), (20, false), (21, false), (22, false), (23, false), (24, false)]), .run 2, (.cond false), .run 2, (.ops [(1, (.rn (iN (i + 1))))] []), .run 1] [1, 11] (s' := fun j => ⟨[(bK (tQ C s N n mg ms O o) 5 71), (bK [(.v (.int .i64 a)), (.v (.int .i64 b))] 2 3)], [(.code (aF [1, 1, 1, 1, 1, 1, 0, 1, 0, 0] Tryz.f39)), (.inLoop (aF [1, 1, 1, 1, 1, 1, 0, 1, 0, 0] Tryz.f39)), (.inBlock 6), (.code (aF [1, 1, 1, 1, 1, 1, 1] Tryz.f39))], mkT j [(1, (.e (.one (.ptr 0 0)))), (11, (iN (i + 1)))] 148 0⟩) (aQ h0 h1 h2 h3 <| aP h4 <| aN <| aQ h6 h7 h8 h9 <| aQ h10 h11 h12 h13 <| aQ h14 h15 h16 h17 <| aV <| aP h19 <| aP h20 <| aP h21 <| aN <| aP h23 <| aN <| aP h25 <| aP h26 <| aZ)
  fun j => gZ [0] (ho j)
def p15d0e_end (g : Int) (j : JN) : St := ⟨[], [(.code .ret), (.inBlock 7), (.code (aF [1, 1, 1, 1, 1, 1, 0, 1, 0, 0, 1, 1] Tryz.f39)), (.inLoop (aF [1, 1, 1, 1, 1, 1, 0, 1, 0, 0] Tryz.f39)), (.inBlock 6), (.code (aF [1, 1, 1, 1, 1, 1, 1] Tryz.f39))], mkT j [(2, (iI g))] 148 0⟩
theorem p15d0e (hE : EnvOk E) (C N O : List DT) (s n o i p : Nat) (mg ms x z a b f g : Int) (h0 : (decide (Int.ofNat i < (↑o : Int)) : Bool) = true) (h1 : (0 : Int) ≤ Int.ofNat i ∧ Int.ofNat i < (↑o : Int)) (h2 : ((Int.ofNat i).toNat * nat_lit 1 : Nat) = i) (h3 : (getL O i : Option DT) = (.some (.v (.int .i64 x)))) (h4 : COut E 0 [] 27 [(iN s), (iI x)] (iI a) []) (h6 : (decide (Int.ofNat i > (0 : Int)) == true : Bool) = false) (h7 : (decide (Int.ofNat i > (0 : Int)) == true : Bool) = false) (h8 : (decide (Int.ofNat i > (0 : Int)) == true : Bool) = false) (h9 : (decide (Int.ofNat i > (0 : Int)) == true : Bool) = false) (h10 : (decide (Int.ofNat i > (0 : Int)) == true : Bool) = false) (h11 : (decide (Int.ofNat i > (0 : Int)) == true : Bool) = false) (h12 : (decide (Int.ofNat i > (0 : Int)) == true : Bool) = false) (h13 : (decide (Int.ofNat i > (0 : Int)) == true : Bool) = false) (h14 : (decide (Int.ofNat i > (0 : Int)) == true : Bool) = false) (h15 : (decide (Int.ofNat i > (0 : Int)) == true : Bool) = false) (h16 : (decide (Int.ofNat i > (0 : Int)) == true : Bool) = false) (h17 : (decide (Int.ofNat i > (0 : Int)) == true : Bool) = false) (h19 : (decide (Int.ofNat i > (0 : Int)) == true : Bool) = false) (h20 : (decide (Int.ofNat i > (0 : Int)) : Bool) = false) (h21 : COut E 0 [] 73 [(iB false), (iI 11)] (iI b) []) (h23 : COut E 2 [(bK (tQ C s N n mg ms O o) 5 71), (bK [(.v (.int .i64 a)), (.v (.int .i64 b))] 2 3)] 15 [(.e (.one (.slc 1 0 2 1 2 true)))] (iI g) [(bK (tQ C s N n mg ms O o) 5 71), (bK [(.v (.int .i64 a)), (.v (.int .i64 b))] 2 3)]) (h25 : (g != (0 : Int) : Bool) = true) {Φ : Res → Prop} (ho : ∀ j, OutK E 0 0 (p15d0e_end g j) Φ) (j : JN) : OutK E 0 0 (y15d C N O s n o i mg ms j) Φ :=
 oS hE [.run 2, (.ops [(3, (.d .len))] []), (.cond true), .run 4, (.ops [(7, (.d (.ld (.v (.int .i64 x))))), (8, (.c0 (iI a))), (16, (.d (.ld (.v (.int .i64 x))))), (20, (.rn (iI f))), (21, (.rn (iN p))), (23, (.d (.ld (.v (.int .i64 z))))), (26, (.c0 (iI b))), (28, (.d (.c1 (iI g)))), (2, (.d .len)), (6, (.d (.ix i))), (25, (.pk false))] [(12, false), (13, false), (14, false), (15, false), (16, false), (17, false), (18, false), (19, false), (20, false), (21, false), (22, false), (23, false), (24, false)]), .run 2, (.cond true), .run 2] [2] (s' := fun j => ⟨[(bK (tQ C s N n mg ms O o) 5 71), (bK [(.v (.int .i64 a)), (.v (.int .i64 b))] 2 3)], [(.code .ret), (.inBlock 7), (.code (aF [1, 1, 1, 1, 1, 1, 0, 1, 0, 0, 1, 1] Tryz.f39)), (.inLoop (aF [1, 1, 1, 1, 1, 1, 0, 1, 0, 0] Tryz.f39)), (.inBlock 6), (.code (aF [1, 1, 1, 1, 1, 1, 1] Tryz.f39))], mkT j [(2, (iI g))] 148 0⟩) (aQ h0 h1 h2 h3 <| aP h4 <| aN <| aQ h6 h7 h8 h9 <| aQ h10 h11 h12 h13 <| aQ h14 h15 h16 h17 <| aV <| aP h19 <| aP h20 <| aP h21 <| aN <| aP h23 <| aN <| aP h25 <| aZ)
  fun j => gZ [] (ho j)
def p15dps_end (C N O : List DT) (s n o i : Nat) (mg ms : Int) (j : JN) : St := ⟨[(bK (tQ C s N n mg ms O o) 5 71)], [(.code (aF [1, 1, 1, 1, 1, 1, 0, 1, 0, 0] Tryz.f39)), (.inLoop (aF [1, 1, 1, 1, 1, 1, 0, 1, 0, 0] Tryz.f39)), (.inBlock 6), (.code (aF [1, 1, 1, 1, 1, 1, 1] Tryz.f39))], mkT j [(1, (.e (.one (.ptr 0 0)))), (11, (iN (i + 1)))] 148 0⟩
theorem p15dps (hE : EnvOk E) (C N O : List DT) (s n o i p : Nat) (mg ms x z a b f g : Int) (h0 : (decide (Int.ofNat i < (↑o : Int)) : Bool) = true) (h1 : (0 : Int) ≤ Int.ofNat i ∧ Int.ofNat i < (↑o : Int)) (h2 : ((Int.ofNat i).toNat * nat_lit 1 : Nat) = i) (h3 : (getL O i : Option DT) = (.some (.v (.int .i64 x)))) (h4 : COut E 0 [] 27 [(iN s), (iI x)] (iI a) []) (h6 : (decide (Int.ofNat i > (0 : Int)) == true : Bool) = true) (h7 : (decide (Int.ofNat i > (0 : Int)) == true : Bool) = true) (h8 : (decide (Int.ofNat i > (0 : Int)) == true : Bool) = true) (h9 : (decide (Int.ofNat i > (0 : Int)) == true : Bool) = true) (h12 : (decide (Int.ofNat i > (0 : Int)) == true : Bool) = true) (h14 : (decide (Int.ofNat i > (0 : Int)) == true : Bool) = true) (h15 : (decide (Int.ofNat i > (0 : Int)) == true : Bool) = true) (h16 : (decide (Int.ofNat i > (0 : Int)) == true : Bool) = true) (h17 : (decide (Int.ofNat i > (0 : Int)) == true : Bool) = true) (h18 : ((iI (wrapF IntKind.i64 (Int.ofNat i - (1 : Int)))) : AV) = (iI f)) (h19 : (decide (Int.ofNat i > (0 : Int)) == true : Bool) = true) (h20 : ((iI (if f > (0 : Int) then f else (0 : Int))) : AV) = (iN p)) (h21 : (decide (Int.ofNat i > (0 : Int)) == true : Bool) = true) (h22 : (0 : Int) ≤ Int.ofNat p ∧ Int.ofNat p < (↑o : Int)) (h23 : ((Int.ofNat p).toNat * nat_lit 1 : Nat) = p) (h24 : (decide (Int.ofNat i > (0 : Int)) == true : Bool) = true) (h25 : (getL O p : Option DT) = (.some (.v (.int .i64 z)))) (h27 : (decide (Int.ofNat i > (0 : Int)) == true : Bool) = true) (h28 : (decide (Int.ofNat i > (0 : Int)) : Bool) = true) (h29 : COut E 0 [] 73 [(iB (decide (x ≤ z))), (iI 11)] (iI b) []) (h31 : COut E 2 [(bK (tQ C s N n mg ms O o) 5 71), (bK [(.v (.int .i64 a)), (.v (.int .i64 b))] 2 3)] 15 [(.e (.one (.slc 1 0 2 1 2 true)))] (iI g) [(bK (tQ C s N n mg ms O o) 5 71), (bK [(.v (.int .i64 a)), (.v (.int .i64 b))] 2 3)]) (h33 : (g != (0 : Int) : Bool) = false) (h34 : ((iI (wrapF IntKind.i64 (Int.ofNat i + (1 : Int)))) : AV) = (iN (i + 1))) {Φ : Res → Prop} (ho : ∀ j, OutK E 0 0 (p15dps_end C N O s n o i mg ms j) Φ) (j : JN) : OutK E 0 0 (y15d C N O s n o i mg ms j) Φ :=
 oS hE [.run 2, (.ops [(3, (.d .len))] []), (.cond true), .run 4, (.ops [(7, (.d (.ld (.v (.int .i64 x))))), (8, (.c0 (iI a))), (16, (.d (.ld (.v (.int .i64 x))))), (20, (.rn (iI f))), (21, (.rn (iN p))), (23, (.d (.ld (.v (.int .i64 z))))), (26, (.c0 (iI b))), (28, (.d (.c1 (iI g)))), (2, (.d .len)), (6, (.d (.ix i))), (15, (.d (.ix i))), (22, (.d (.ix p))), (25, (.pk true))] [(12, true), (13, true), (14, true), (15, true), (16, true), (17, true), (18, true), (19, true), (20, true), (21, true), (22, true), (23, true), (24, true)]), .run 2, (.cond false), .run 2, (.ops [(1, (.rn (iN (i + 1))))] []), .run 1] [1, 11] (s' := fun j => ⟨[(bK (tQ C s N n mg ms O o) 5 71), (bK [(.v (.int .i64 a)), (.v (.int .i64 b))] 2 3)], [(.code (aF [1, 1, 1, 1, 1, 1, 0, 1, 0, 0] Tryz.f39)), (.inLoop (aF [1, 1, 1, 1, 1, 1, 0, 1, 0, 0] Tryz.f39)), (.inBlock 6), (.code (aF [1, 1, 1, 1, 1, 1, 1] Tryz.f39))], mkT j [(1, (.e (.one (.ptr 0 0)))), (11, (iN (i + 1)))] 148 0⟩) (aQ h0 h1 h2 h3 <| aP h4 <| aN <| aQ h6 h7 h8 h9 <| aQ h1 h2 h12 h3 <| aQ h14 h15 h16 h17 <| aQ h18 h19 h20 h21 <| aQ h22 h23 h24 h25 <| aV <| aP h27 <| aP h28 <| aP h29 <| aN <| aP h31 <| aN <| aP h33 <| aP h34 <| aZ)
  fun j => gZ [0] (ho j)
def p15dpe_end (g : Int) (j : JN) : St := ⟨[], [(.code .ret), (.inBlock 7), (.code (aF [1, 1, 1, 1, 1, 1, 0, 1, 0, 0, 1, 1] Tryz.f39)), (.inLoop (aF [1, 1, 1, 1, 1, 1, 0, 1, 0, 0] Tryz.f39)), (.inBlock 6), (.code (aF [1, 1, 1, 1, 1, 1, 1] Tryz.f39))], mkT j [(2, (iI g))] 148 0⟩
theorem p15dpe (hE : EnvOk E) (C N O : List DT) (s n o i p : Nat) (mg ms x z a b f g : Int) (h0 : (decide (Int.ofNat i < (↑o : Int)) : Bool) = true) (h1 : (0 : Int) ≤ Int.ofNat i ∧ Int.ofNat i < (↑o : Int)) (h2 : ((Int.ofNat i).toNat * nat_lit 1 : Nat) = i) (h3 : (getL O i : Option DT) = (.some (.v (.int .i64 x)))) (h4 : COut E 0 [] 27 [(iN s), (iI x)] (iI a) []) (h6 : (decide (Int.ofNat i > (0 : Int)) == true : Bool) = true) (h7 : (decide (Int.ofNat i > (0 : Int)) == true : Bool) = true) (h8 : (decide (Int.ofNat i > (0 : Int)) == true : Bool) = true) (h9 : (decide (Int.ofNat i > (0 : Int)) == true : Bool) = true) (h12 : (decide (Int.ofNat i > (0 : Int)) == true : Bool) = true) (h14 : (decide (Int.ofNat i > (0 : Int)) == true : Bool) = true) (h15 : (decide (Int.ofNat i > (0 : Int)) == true : Bool) = true) (h16 : (decide (Int.ofNat i > (0 : Int)) == true : Bool) = true) (h17 : (decide (Int.ofNat i > (0 : Int)) == true : Bool) = true) (h18 : ((iI (wrapF IntKind.i64 (Int.ofNat i - (1 : Int)))) : AV) = (iI f)) (h19 : (decide (Int.ofNat i > (0 : Int)) == true : Bool) = true) (h20 : ((iI (if f > (0 : Int) then f else (0 : Int))) : AV) = (iN p)) (h21 : (decide (Int.ofNat i > (0 : Int)) == true : Bool) = true) (h22 : (0 : Int) ≤ Int.ofNat p ∧ Int.ofNat p < (↑o : Int)) (h23 : ((Int.ofNat p).toNat * nat_lit 1 : Nat) = p) (h24 : (decide (Int.ofNat i > (0 : Int)) == true : Bool) = true) (h25 : (getL O p : Option DT) = (.some (.v (.int .i64 z)))) (h27 : (decide (Int.ofNat i > (0 : Int)) == true : Bool) = true) (h28 : (decide (Int.ofNat i > (0 : Int)) : Bool) = true) (h29 : COut E 0 [] 73 [(iB (decide (x ≤ z))), (iI 11)] (iI b) []) (h31 : COut E 2 [(bK (tQ C s N n mg ms O o) 5 71), (bK [(.v (.int .i64 a)), (.v (.int .i64 b))] 2 3)] 15 [(.e (.one (.slc 1 0 2 1 2 true)))] (iI g) [(bK (tQ C s N n mg ms O o) 5 71), (bK [(.v (.int .i64 a)), (.v (.int .i64 b))] 2 3)]) (h33 : (g != (0 : Int) : Bool) = true) {Φ : Res → Prop} (ho : ∀ j, OutK E 0 0 (p15dpe_end g j) Φ) (j : JN) : OutK E 0 0 (y15d C N O s n o i mg ms j) Φ :=
 oS hE [.run 2, (.ops [(3, (.d .len))] []), (.cond true), .run 4, (.ops [(7, (.d (.ld (.v (.int .i64 x))))), (8, (.c0 (iI a))), (16, (.d (.ld (.v (.int .i64 x))))), (20, (.rn (iI f))), (21, (.rn (iN p))), (23, (.d (.ld (.v (.int .i64 z))))), (26, (.c0 (iI b))), (28, (.d (.c1 (iI g)))), (2, (.d .len)), (6, (.d (.ix i))), (15, (.d (.ix i))), (22, (.d (.ix p))), (25, (.pk true))] [(12, true), (13, true), (14, true), (15, true), (16, true), (17, true), (18, true), (19, true), (20, true), (21, true), (22, true), (23, true), (24, true)]), .run 2, (.cond true), .run 2] [2] (s' := fun j => ⟨[(bK (tQ C s N n mg ms O o) 5 71), (bK [(.v (.int .i64 a)), (.v (.int .i64 b))] 2 3)], [(.code .ret), (.inBlock 7), (.code (aF [1, 1, 1, 1, 1, 1, 0, 1, 0, 0, 1, 1] Tryz.f39)), (.inLoop (aF [1, 1, 1, 1, 1, 1, 0, 1, 0, 0] Tryz.f39)), (.inBlock 6), (.code (aF [1, 1, 1, 1, 1, 1, 1] Tryz.f39))], mkT j [(2, (iI g))] 148 0⟩) (aQ h0 h1 h2 h3 <| aP h4 <| aN <| aQ h6 h7 h8 h9 <| aQ h1 h2 h12 h3 <| aQ h14 h15 h16 h17 <| aQ h18 h19 h20 h21 <| aQ h22 h23 h24 h25 <| aV <| aP h27 <| aP h28 <| aP h29 <| aN <| aP h31 <| aN <| aP h33 <| aZ)
  fun j => gZ [] (ho j)
def p15dx_end (j : JN) : St := ⟨[], [(.code .ret)], mkT j [(2, (iI 0))] 148 0⟩
theorem p15dx (hE : EnvOk E) (C N O : List DT) (s n o i : Nat) (mg ms : Int) (h0 : (decide (Int.ofNat i < (↑o : Int)) : Bool) = false) {Φ : Res → Prop} (ho : ∀ j, OutK E 0 0 (p15dx_end j) Φ) (j : JN) : OutK E 0 0 (y15d C N O s n o i mg ms j) Φ :=
 oS hE [.run 2, (.ops [(3, (.d .len))] []), (.cond false), .run 3] [2] (s' := fun j => ⟨[(bK (tQ C s N n mg ms O o) 5 71)], [(.code .ret)], mkT j [(2, (iI 0))] 148 0⟩) (aP h0 <| aZ)
  fun j => gZ [] (ho j)
def orE (a b : Int) : Int := if a = 0 then b else a
theorem orE_z {a b : Int} (h : a = 0) : orE a b = b := if_pos h
theorem orE_n {a b : Int} (h : a ≠ 0) : orE a b = a := if_neg h
theorem orE_0 (a : Int) : orE a 0 = a := by unfold orE; split <;> simp_all
theorem orE_as (a b c : Int) : orE (orE a b) c = orE a (orE b c) := by unfold orE; split <;> simp_all
theorem firstI_or (a : Int) (l : List Int) : firstI (a :: l) = orE a (firstI l) := rfl
theorem rise_min (x : Int) (n : Nat) : firstI [ixE x n, fI false 11] = rise x minI n := by
 unfold rise ixE fI
 by_cases h : x < 0
 ·rw [if_pos (.inl h)]; rfl
 ·rw [show decide (x ≤ minI) = false from decide_eq_false (by unfold minI; omega)]
theorem ascE_z {n l x : Int} {r : List Int} (h : rise x l n = 0) : ascE n l (x :: r) = ascE n x r := if_pos h
theorem ascE_n {n l x : Int} {r : List Int} (h : rise x l n ≠ 0) : ascE n l (x :: r) = rise x l n := if_neg h
theorem l15d (hE : EnvOk E) (sg : List Int) (ns : List (List Int)) (mg ms : Int) (nt : List Int) (hm : nt.length ≤ 100000) : ∀ k i l, k + i = nt.length → (i = 0 ∧ l = minI ∨ ∃ p, i = p + 1 ∧ nt[p]? = some l) → ∀ j, OutK E 0 0 (y15d (iD sg) (rD ns) (iD nt) sg.length ns.length nt.length i mg ms j) (Go.Ev.Ends E Tryz.f39 (iI (ascE sg.length l (nt.drop i))) [])
 | 0, i, l, hi, hp, j => by
  obtain rfl : i = nt.length := by omega
  rw [List.drop_length]
  exact p15dx hE (iD sg) (rD ns) (iD nt) sg.length ns.length nt.length nt.length mg ms dF (fun j => outK_ret (ends_ret (by kernel_rfl))) j
 | k + 1, i, l, hi, hp, j => by
  have hl : i < nt.length := by omega
  have hx : nt[i]? = some nt[i] := List.getElem?_eq_getElem hl
  have ih := l15d hE sg ns mg ms nt hm k (i + 1) nt[i] (by omega) (.inr ⟨i, rfl, hx⟩)
  rw [List.drop_eq_getElem_cons hl]
  generalize nt[i] = x at hx ih
  rcases hp with ⟨h0, h1⟩ | ⟨p, h0, hy⟩
  ·have hd : decide (Int.ofNat i > (0 : Int)) = false := decide_eq_false (by rw [h0]; decide)
   rw [h1]
   by_cases h : rise x minI sg.length = 0
   ·rw [ascE_z h]
    exact p15d0s hE (iD sg) (rD ns) (iD nt) sg.length ns.length nt.length i 0 mg ms x 0 (ixE x sg.length) (fI false 11) 0 (rise x minI sg.length) dT bP (Nat.mul_one _) (gI hx) (K16 hE _ _) (by rw [hd]; rfl) (by rw [hd]; rfl) (by rw [hd]; rfl) (by rw [hd]; rfl) (by rw [hd]; rfl) (by rw [hd]; rfl) (by rw [hd]; rfl) (by rw [hd]; rfl) (by rw [hd]; rfl) (by rw [hd]; rfl) (by rw [hd]; rfl) (by rw [hd]; rfl) (by rw [hd]; rfl) hd (K32 hE _ _) (rise_min x sg.length ▸ lend2 _ hE 15 _ _ 3 true (K17 hE [ixE x sg.length, fI false 11] (by simp)) _ 1 rfl) (by rw [h]; rfl) (iIe (by (try simp only [Int.ofNat_eq_natCast]); rw [wrap_id (by omega) (by omega)]; try omega)) ih j
   ·rw [ascE_n h]
    exact p15d0e hE (iD sg) (rD ns) (iD nt) sg.length ns.length nt.length i 0 mg ms x 0 (ixE x sg.length) (fI false 11) 0 (rise x minI sg.length) dT bP (Nat.mul_one _) (gI hx) (K16 hE _ _) (by rw [hd]; rfl) (by rw [hd]; rfl) (by rw [hd]; rfl) (by rw [hd]; rfl) (by rw [hd]; rfl) (by rw [hd]; rfl) (by rw [hd]; rfl) (by rw [hd]; rfl) (by rw [hd]; rfl) (by rw [hd]; rfl) (by rw [hd]; rfl) (by rw [hd]; rfl) (by rw [hd]; rfl) hd (K32 hE _ _) (rise_min x sg.length ▸ lend2 _ hE 15 _ _ 3 true (K17 hE [ixE x sg.length, fI false 11] (by simp)) _ 1 rfl) (bne_iff_ne.2 h) (fun j => outK_ret (ends_ret (by kernel_rfl))) j
  ·have hd : decide (Int.ofNat i > (0 : Int)) = true := decide_eq_true (by rw [h0, Int.ofNat_eq_natCast]; omega)
   by_cases h : rise x l sg.length = 0
   ·rw [ascE_z h]
    exact p15dps hE (iD sg) (rD ns) (iD nt) sg.length ns.length nt.length i p mg ms x l (ixE x sg.length) (fI (decide (x ≤ l)) 11) ((p : Int)) (rise x l sg.length) dT bP (Nat.mul_one _) (gI hx) (K16 hE _ _) (by rw [hd]; rfl) (by rw [hd]; rfl) (by rw [hd]; rfl) (by rw [hd]; rfl) (by rw [hd]; rfl) (by rw [hd]; rfl) (by rw [hd]; rfl) (by rw [hd]; rfl) (by rw [hd]; rfl) (iIe (by (try simp only [Int.ofNat_eq_natCast]); rw [wrap_id (by omega) (by omega)]; omega)) (by rw [hd]; rfl) (iIe (by (try simp only [Int.ofNat_eq_natCast]); split <;> omega)) (by rw [hd]; rfl) bP (Nat.mul_one _) (by rw [hd]; rfl) (gI hy) (by rw [hd]; rfl) hd (K32 hE _ _) (lend2 _ hE 15 _ _ 3 true (K17 hE [ixE x sg.length, fI (decide (x ≤ l)) 11] (by simp)) _ 1 rfl) (by rw [h]; rfl) (iIe (by (try simp only [Int.ofNat_eq_natCast]); rw [wrap_id (by omega) (by omega)]; try omega)) ih j
   ·rw [ascE_n h]
    exact p15dpe hE (iD sg) (rD ns) (iD nt) sg.length ns.length nt.length i p mg ms x l (ixE x sg.length) (fI (decide (x ≤ l)) 11) ((p : Int)) (rise x l sg.length) dT bP (Nat.mul_one _) (gI hx) (K16 hE _ _) (by rw [hd]; rfl) (by rw [hd]; rfl) (by rw [hd]; rfl) (by rw [hd]; rfl) (by rw [hd]; rfl) (by rw [hd]; rfl) (by rw [hd]; rfl) (by rw [hd]; rfl) (by rw [hd]; rfl) (iIe (by (try simp only [Int.ofNat_eq_natCast]); rw [wrap_id (by omega) (by omega)]; omega)) (by rw [hd]; rfl) (iIe (by (try simp only [Int.ofNat_eq_natCast]); split <;> omega)) (by rw [hd]; rfl) bP (Nat.mul_one _) (by rw [hd]; rfl) (gI hy) (by rw [hd]; rfl) hd (K32 hE _ _) (lend2 _ hE 15 _ _ 3 true (K17 hE [ixE x sg.length, fI (decide (x ≤ l)) 11] (by simp)) _ 1 rfl) (bne_iff_ne.2 h) (fun j => outK_ret (ends_ret (by kernel_rfl))) j
abbrev tlE (sg : List Int) (_ns : List (List Int)) (mg ms : Int) (nt : List Int) : Int := orE (firstI [rg mg 1 100, rg ms 1 1000000]) (ascE sg.length minI nt)
theorem l15c (hE : EnvOk E) (sg : List Int) (ns : List (List Int)) (mg ms : Int) (nt : List Int) (V : Int) (p : Nat) (r : List Int) (hp : p < ns.length) (hL : ns.length ≤ 5000) (hr : ns[p]? = some r) (hm : r.length ≤ 100000) (ih : ∀ j, OutK E 0 0 (y15b (iD sg) (rD ns) (iD nt) sg.length ns.length nt.length ((p + 1)) mg ms j) (Go.Ev.Ends E Tryz.f39 (iI V) [])) : ∀ k i, k + i = r.length → ∀ j, OutK E 0 0 (y15c (iD sg) (rD ns) (iD nt) sg.length ns.length nt.length i p mg ms j) (Go.Ev.Ends E Tryz.f39 (iI (orE (eachE 1 1000000 (r.drop i)) V)) [])
 | 0, i, hi, j => by
  obtain rfl : i = r.length := by omega
  rw [List.drop_length, orE_z (show eachE 1 1000000 [] = 0 from rfl)]
  exact p15cx hE (iD sg) (rD ns) (iD nt) (iD r) sg.length ns.length nt.length r.length r.length p mg ms bP (Nat.mul_one _) (gR hr) dF (iIe (by (try simp only [Int.ofNat_eq_natCast]); rw [wrap_id (by omega) (by omega)]; try omega)) ih j
 | k + 1, i, hi, j => by
  have hl : i < r.length := by omega
  have hx : r[i]? = some r[i] := List.getElem?_eq_getElem hl
  have ih' := l15c hE sg ns mg ms nt V p r hp hL hr hm ih k (i + 1) (by omega)
  rw [List.drop_eq_getElem_cons hl]
  generalize r[i] = x at hx
  by_cases h : rg x 1 1000000 = 0
  ·rw [show eachE 1 1000000 (x :: r.drop (i + 1)) = eachE 1 1000000 (r.drop (i + 1)) from if_pos h]
   exact p15cs hE (iD sg) (rD ns) (iD nt) (iD r) sg.length ns.length nt.length r.length i p mg ms x (rg x 1 1000000) bP (Nat.mul_one _) (gR hr) dT bP (Nat.mul_one _) (gI hx) (K18 hE _ _ _) (by rw [h]; rfl) (iIe (by (try simp only [Int.ofNat_eq_natCast]); rw [wrap_id (by omega) (by omega)]; try omega)) ih' j
  ·rw [show eachE 1 1000000 (x :: r.drop (i + 1)) = rg x 1 1000000 from if_neg h, orE_n h]
   exact p15ce hE (iD sg) (rD ns) (iD nt) (iD r) sg.length ns.length nt.length r.length i p mg ms x (rg x 1 1000000) bP (Nat.mul_one _) (gR hr) dT bP (Nat.mul_one _) (gI hx) (K18 hE _ _ _) (bne_iff_ne.2 h) (fun j => outK_ret (ends_ret (by kernel_rfl))) j
theorem l15b (hE : EnvOk E) (sg : List Int) (ns : List (List Int)) (mg ms : Int) (nt : List Int) (hL : ns.length ≤ 5000) (hr : ∀ r ∈ ns, r.length ≤ 100000) (hm : nt.length ≤ 100000) : ∀ k p, k + p = ns.length → ∀ j, OutK E 0 0 (y15b (iD sg) (rD ns) (iD nt) sg.length ns.length nt.length p mg ms j) (Go.Ev.Ends E Tryz.f39 (iI (orE (parsE sg.length (ns.drop p)) (tlE sg ns mg ms nt))) [])
 | 0, p, hi, j => by
  obtain rfl : p = ns.length := by omega
  rw [List.drop_length, orE_z (show parsE sg.length [] = 0 from rfl)]
  by_cases h : firstI [rg mg 1 100, rg ms 1 1000000] = 0
  ·rw [show tlE sg ns mg ms nt = ascE sg.length minI nt from orE_z h]
   exact p15bx hE (iD sg) (rD ns) (iD nt) sg.length ns.length nt.length ns.length mg ms (rg mg 1 100) (rg ms 1 1000000) (firstI [rg mg 1 100, rg ms 1 1000000]) dF (K18 hE _ _ _) (K18 hE _ _ _) (lend2 _ hE 15 _ _ 3 true (K17 hE [rg mg 1 100, rg ms 1 1000000] (by simp)) _ 1 rfl) (by rw [h]; rfl) (l15d hE sg ns mg ms nt hm nt.length 0 minI rfl (.inl ⟨rfl, rfl⟩)) j
  ·rw [show tlE sg ns mg ms nt = firstI [rg mg 1 100, rg ms 1 1000000] from orE_n h]
   exact p15bq hE (iD sg) (rD ns) (iD nt) sg.length ns.length nt.length ns.length mg ms (rg mg 1 100) (rg ms 1 1000000) (firstI [rg mg 1 100, rg ms 1 1000000]) dF (K18 hE _ _ _) (K18 hE _ _ _) (lend2 _ hE 15 _ _ 3 true (K17 hE [rg mg 1 100, rg ms 1 1000000] (by simp)) _ 1 rfl) (bne_iff_ne.2 h) (fun j => outK_ret (ends_ret (by kernel_rfl))) j
 | k + 1, p, hi, j => by
  have hl : p < ns.length := by omega
  have hx : ns[p]? = some ns[p] := List.getElem?_eq_getElem hl
  have hq := hr ns[p] (List.getElem_mem hl)
  have ih := l15b hE sg ns mg ms nt hL hr hm k (p + 1) (by omega)
  rw [List.drop_eq_getElem_cons hl]
  generalize ns[p] = r at hx hq
  by_cases h : (r.length : Int) = sg.length
  ·have e : orE (parsE sg.length (r :: ns.drop (p + 1))) (tlE sg ns mg ms nt) = orE (eachE 1 1000000 r) (orE (parsE sg.length (ns.drop (p + 1))) (tlE sg ns mg ms nt)) := by
    rw [show parsE sg.length (r :: ns.drop (p + 1)) = orE (parE sg.length r) (parsE sg.length (ns.drop (p + 1))) from rfl, show parE sg.length r = eachE 1 1000000 r from if_pos h, orE_as]
   rw [e]
   exact p15bs hE (iD sg) (rD ns) (iD nt) (iD r) sg.length ns.length nt.length r.length p mg ms dT bP (Nat.mul_one _) (gR hx) (by rw [h]; simp) (l15c hE sg ns mg ms nt _ p r hl hL hx hq ih r.length 0 rfl) j
  ·rw [show parsE sg.length (r :: ns.drop (p + 1)) = orE (parE sg.length r) (parsE sg.length (ns.drop (p + 1))) from rfl, show parE sg.length r = 2 from if_neg h, show orE 2 (parsE sg.length (ns.drop (p + 1))) = 2 from rfl, show orE 2 (tlE sg ns mg ms nt) = 2 from rfl]
   exact p15bf hE (iD sg) (rD ns) (iD nt) (iD r) sg.length ns.length nt.length r.length p mg ms dT bP (Nat.mul_one _) (gR hx) (bne_iff_ne.2 h) (fun j => outK_ret (ends_ret (by kernel_rfl))) j
theorem l15a (hE : EnvOk E) (sg : List Int) (ns : List (List Int)) (mg ms : Int) (nt : List Int) (h1 : sg.length ≤ 100000) (hL : ns.length ≤ 5000) (hr : ∀ r ∈ ns, r.length ≤ 100000) (hm : nt.length ≤ 100000) : ∀ k i, k + i = sg.length → ∀ j, OutK E 0 0 (y15a (iD sg) (rD ns) (iD nt) sg.length ns.length nt.length i mg ms j) (Go.Ev.Ends E Tryz.f39 (iI (orE (eachE 0 1000000000 (sg.drop i)) (orE (firstI [fI ((ns.length : Int) == (0 : Int)) 12, fI (decide ((ns.length : Int) > (8 : Int))) 5]) (orE (parsE sg.length ns) (tlE sg ns mg ms nt))))) [])
 | 0, i, hi, j => by
  obtain rfl : i = sg.length := by omega
  rw [List.drop_length, orE_z (show eachE 0 1000000000 [] = 0 from rfl)]
  by_cases h : firstI [fI ((ns.length : Int) == (0 : Int)) 12, fI (decide ((ns.length : Int) > (8 : Int))) 5] = 0
  ·rw [orE_z h]
   exact p15ax hE (iD sg) (rD ns) (iD nt) sg.length ns.length nt.length sg.length mg ms (fI ((ns.length : Int) == (0 : Int)) 12) (fI (decide ((ns.length : Int) > (8 : Int))) 5) (firstI [fI ((ns.length : Int) == (0 : Int)) 12, fI (decide ((ns.length : Int) > (8 : Int))) 5]) dF (K32 hE _ _) (K32 hE _ _) (lend2 _ hE 15 _ _ 3 true (K17 hE [fI ((ns.length : Int) == (0 : Int)) 12, fI (decide ((ns.length : Int) > (8 : Int))) 5] (by simp)) _ 1 rfl) (by rw [h]; rfl) (l15b hE sg ns mg ms nt hL hr hm ns.length 0 rfl) j
  ·rw [orE_n h]
   exact p15aq hE (iD sg) (rD ns) (iD nt) sg.length ns.length nt.length sg.length mg ms (fI ((ns.length : Int) == (0 : Int)) 12) (fI (decide ((ns.length : Int) > (8 : Int))) 5) (firstI [fI ((ns.length : Int) == (0 : Int)) 12, fI (decide ((ns.length : Int) > (8 : Int))) 5]) dF (K32 hE _ _) (K32 hE _ _) (lend2 _ hE 15 _ _ 3 true (K17 hE [fI ((ns.length : Int) == (0 : Int)) 12, fI (decide ((ns.length : Int) > (8 : Int))) 5] (by simp)) _ 1 rfl) (bne_iff_ne.2 h) (fun j => outK_ret (ends_ret (by kernel_rfl))) j
 | k + 1, i, hi, j => by
  have hl : i < sg.length := by omega
  have hx : sg[i]? = some sg[i] := List.getElem?_eq_getElem hl
  have ih := l15a hE sg ns mg ms nt h1 hL hr hm k (i + 1) (by omega)
  rw [List.drop_eq_getElem_cons hl]
  generalize sg[i] = x at hx
  by_cases h : rg x 0 1000000000 = 0
  ·rw [show eachE 0 1000000000 (x :: sg.drop (i + 1)) = eachE 0 1000000000 (sg.drop (i + 1)) from if_pos h]
   exact p15as hE (iD sg) (rD ns) (iD nt) sg.length ns.length nt.length i mg ms x (rg x 0 1000000000) dT bP (Nat.mul_one _) (gI hx) (K18 hE _ _ _) (by rw [h]; rfl) (iIe (by (try simp only [Int.ofNat_eq_natCast]); rw [wrap_id (by omega) (by omega)]; try omega)) ih j
  ·rw [show eachE 0 1000000000 (x :: sg.drop (i + 1)) = rg x 0 1000000000 from if_neg h, orE_n h]
   exact p15ae hE (iD sg) (rD ns) (iD nt) sg.length ns.length nt.length i mg ms x (rg x 0 1000000000) dT bP (Nat.mul_one _) (gI hx) (K18 hE _ _ _) (bne_iff_ne.2 h) (fun j => outK_ret (ends_ret (by kernel_rfl))) j
theorem many_or (n : Nat) (x : Int) : orE (firstI [fI ((n : Int) == (0 : Int)) 12, fI (decide ((n : Int) > (8 : Int))) 5]) x = if n = 0 then 12 else if (n : Int) > 8 then 5 else x := by
 by_cases h : n = 0
 ·subst h; rfl
 ·rw [show fI ((n : Int) == (0 : Int)) 12 = 0 by unfold fI; rw [if_neg (by simpa using h)], if_neg h]
  by_cases g : (n : Int) > 8
  ·rw [decide_eq_true g, if_pos g]; rfl
  ·rw [decide_eq_false g, if_neg g]; rfl
theorem many_orE (n : Nat) (x y : Int) : orE (if n = 0 then 12 else if (n : Int) > 8 then 5 else x) y = orE (firstI [fI ((n : Int) == (0 : Int)) 12, fI (decide ((n : Int) > (8 : Int))) 5]) (orE x y) := by
 rw [many_or]; unfold orE; split <;> try rfl
 split <;> rfl
theorem tonE_or (sg : List Int) (ns : List (List Int)) (mg ms : Int) (nt : List Int) : tonE sg ns mg ms nt = orE (firstI [fI ((sg.length : Int) == (0 : Int)) 12, fI (decide ((sg.length : Int) > (8 : Int))) 5]) (orE (eachE 0 1000000000 sg) (orE (firstI [fI ((ns.length : Int) == (0 : Int)) 12, fI (decide ((ns.length : Int) > (8 : Int))) 5]) (orE (parsE sg.length ns) (tlE sg ns mg ms nt)))) := by
 unfold tonE tlE
 rw [firstI_or, firstI_or, firstI_or, firstI_or, firstI_or, show firstI [] = 0 from rfl, orE_0]
 rw [show someE 0 1000000000 8 sg = if sg.length = 0 then 12 else if (sg.length : Int) > 8 then 5 else eachE 0 1000000000 sg from rfl, many_orE, show noiE sg.length ns = if ns.length = 0 then 12 else if (ns.length : Int) > 8 then 5 else parsE sg.length ns from rfl, many_orE]
 rw [firstI_or (rg mg 1 100), firstI_or (rg ms 1 1000000), show firstI [] = 0 from rfl, orE_0, orE_as (rg mg 1 100)]
abbrev aR (sg : List Int) (ns : List (List Int)) (mg ms : Int) (nt : List Int) : AV := .e (.agg (tnC sg ns mg ms nt))
theorem K15 (hE : EnvOk E) (sg : List Int) (ns : List (List Int)) (mg ms : Int) (nt : List Int) (h1 : sg.length ≤ 100000) (hL : ns.length ≤ 5000) (hr : ∀ r ∈ ns, r.length ≤ 100000) (hm : nt.length ≤ 100000) : COut E 0 [] 39 [aR sg ns mg ms nt] (iI (tonE sg ns mg ms nt)) [] := by
 rw [tonE_or]
 by_cases h : firstI [fI ((sg.length : Int) == (0 : Int)) 12, fI (decide ((sg.length : Int) > (8 : Int))) 5] = 0
 ·rw [orE_z h]
  exact cOut_clear (cOut_start Tryz.func39 rfl (p15a hE (iD sg) (rD ns) (iD nt) sg.length ns.length nt.length mg ms (fI ((sg.length : Int) == (0 : Int)) 12) (fI (decide ((sg.length : Int) > (8 : Int))) 5) (firstI [fI ((sg.length : Int) == (0 : Int)) 12, fI (decide ((sg.length : Int) > (8 : Int))) 5]) (K32 hE _ _) (K32 hE _ _) (lend2 _ hE 15 _ _ 3 true (K17 hE [fI ((sg.length : Int) == (0 : Int)) 12, fI (decide ((sg.length : Int) > (8 : Int))) 5] (by simp)) _ 1 rfl) (by rw [h]; rfl) (l15a hE sg ns mg ms nt h1 hL hr hm sg.length 0 rfl) fun _ => undef)) rfl
 ·rw [orE_n h]
  exact cOut_clear (cOut_start Tryz.func39 rfl (p15e hE (iD sg) (rD ns) (iD nt) sg.length ns.length nt.length mg ms (fI ((sg.length : Int) == (0 : Int)) 12) (fI (decide ((sg.length : Int) > (8 : Int))) 5) (firstI [fI ((sg.length : Int) == (0 : Int)) 12, fI (decide ((sg.length : Int) > (8 : Int))) 5]) (K32 hE _ _) (K32 hE _ _) (lend2 _ hE 15 _ _ 3 true (K17 hE [fI ((sg.length : Int) == (0 : Int)) 12, fI (decide ((sg.length : Int) > (8 : Int))) 5] (by simp)) _ 1 rfl) (bne_iff_ne.2 h) (fun j => outK_ret (ends_ret (by kernel_rfl))) fun _ => undef)) rfl
end
end Go.Proofs.YtigdchbjmnbjlaaGreatDoor
end

/-! SeBa -/
section
open Go Go.Ev
namespace Go.Proofs.YtigdchbjmnbjlaaGreatDoor
noncomputable section
set_option maxRecDepth 100000
set_option maxHeartbeats 20000000
def z94 (C : List DT) (n : Nat) (_j : JN) : St := startK Tryz.f112 [] [(dQ C n)]
def yz94 (C : List DT) (n i : Nat) (s : Int) (j : JN) : St := ⟨[], [(.code (aF [1, 1, 0, 1, 0, 0] Tryz.f112)), (.inLoop (aF [1, 1, 0, 1, 0, 0] Tryz.f112)), (.inBlock 0), (.code (aF [1, 1, 1] Tryz.f112))], mkT j [(0, (dQ C n)), (3, (iI s)), (4, (iN i))] 18 0⟩
def p94a_end (C : List DT) (n : Nat) (j : JN) : St := ⟨[], [(.code (aF [1, 1, 0, 1, 0, 0] Tryz.f112)), (.inLoop (aF [1, 1, 0, 1, 0, 0] Tryz.f112)), (.inBlock 0), (.code (aF [1, 1, 1] Tryz.f112))], mkT j [(0, (dQ C n)), (3, (iI 0)), (4, (iI 0))] 18 0⟩
theorem p94a (hE : EnvOk E) (C : List DT) (n : Nat) {Φ : Res → Prop} (ho : ∀ j, OutK E 0 0 (p94a_end C n j) Φ) (j : JN) : OutK E 0 0 (z94 C n j) Φ :=
 oS hE [.run 9] [0, 3, 4] (ps := []) trivial
  ho
def p94s_end (C : List DT) (n i : Nat) (g : Int) (j : JN) : St := ⟨[], [(.code (aF [1, 1, 0, 1, 0, 0] Tryz.f112)), (.inLoop (aF [1, 1, 0, 1, 0, 0] Tryz.f112)), (.inBlock 0), (.code (aF [1, 1, 1] Tryz.f112))], mkT j [(0, (dQ C n)), (3, (iI g)), (4, (iN (i + 1)))] 18 0⟩
theorem p94s (hE : EnvOk E) (C : List DT) (n i : Nat) (x g s : Int) (h0 : (decide (Int.ofNat i < (↑n : Int)) : Bool) = true) (h1 : (0 : Int) ≤ Int.ofNat i ∧ Int.ofNat i < (↑n : Int)) (h2 : ((Int.ofNat i).toNat * nat_lit 1 : Nat) = i) (h3 : (getL C i : Option DT) = (.some (.v (.int .i64 x)))) (h4 : ((iI (wrapF IntKind.i64 (s + x))) : AV) = (iI g)) (h5 : ((iI (wrapF IntKind.i64 (Int.ofNat i + (1 : Int)))) : AV) = (iN (i + 1))) {Φ : Res → Prop} (ho : ∀ j, OutK E 0 0 (p94s_end C n i g j) Φ) (j : JN) : OutK E 0 0 (yz94 C n i s j) Φ :=
 oS hE [.run 2, (.ops [(2, (.d .len))] []), (.cond true), .run 3, (.ops [(4, (.d (.ld (.v (.int .i64 x))))), (5, (.rn (iI g))), (3, (.d (.ix i)))] []), .run 1, (.ops [(1, (.rn (iN (i + 1))))] []), .run 1] [0, 3, 4] (aQ h0 h1 h2 h3 <| aP h4 <| aP h5 <| aZ)
  ho
def p94x_end (s : Int) (j : JN) : St := ⟨[], [(.code .ret)], mkT j [(2, (iI s))] 18 0⟩
theorem p94x (hE : EnvOk E) (C : List DT) (n i : Nat) (s : Int) (h0 : (decide (Int.ofNat i < (↑n : Int)) : Bool) = false) {Φ : Res → Prop} (ho : ∀ j, OutK E 0 0 (p94x_end s j) Φ) (j : JN) : OutK E 0 0 (yz94 C n i s j) Φ :=
 oS hE [.run 2, (.ops [(2, (.d .len))] []), (.cond false), .run 3] [2] (aP h0 <| aZ)
  ho
def totF : List Int → Int → Int
 | [], s => s
 | x :: r, s => totF r (wrapF .i64 (s + x))
theorem l94 (hE : EnvOk E) (xs : List Int) (hm : xs.length ≤ 100000) : ∀ k i, k + i = xs.length → ∀ s j, OutK E 0 0 (yz94 (iD xs) xs.length i s j) (Go.Ev.Ends E Tryz.f112 (iI (totF (xs.drop i) s)) [])
 | 0, i, hk, s, j => by
  obtain rfl : i = xs.length := by omega
  rw [List.drop_length]
  exact p94x hE (iD xs) xs.length xs.length s dF (fun j => outK_ret (ends_ret (by kernel_rfl))) j
 | k + 1, i, hk, s, j => by
  have hl : i < xs.length := by omega
  have hx : xs[i]? = some xs[i] := List.getElem?_eq_getElem hl
  rw [List.drop_eq_getElem_cons hl]
  generalize xs[i] = x at hx
  exact p94s hE (iD xs) xs.length i x (wrapF .i64 (s + x)) s dT bP (Nat.mul_one _) (gI hx) rfl (iIe (by (try simp only [Int.ofNat_eq_natCast]); rw [wrap_id (by omega) (by omega)]; try omega)) (l94 hE xs hm k (i + 1) (by omega) _) j
theorem K94 (hE : EnvOk E) (xs : List Int) (hm : xs.length ≤ 100000) : COut E 0 [] 112 [dI xs] (iI (totF xs 0)) [] := cOut_start Tryz.func112 rfl (p94a hE (iD xs) xs.length (l94 hE xs hm xs.length 0 rfl 0) fun _ => undef)
def shortS (L M : List (List Int)) : Prop := (∀ r ∈ M, r.length ≤ 9) ∧ (L.length ≤ 24 ∨ L.length = 1025)
instance (L M : List (List Int)) : Decidable (shortS L M) := by unfold shortS; infer_instance
end
end Go.Proofs.YtigdchbjmnbjlaaGreatDoor
end

/-! SeBb -/
section
open Go Go.Ev Go.Proofs
namespace Go.Proofs.YtigdchbjmnbjlaaGreatDoor
set_option maxRecDepth 100000
set_option maxHeartbeats 20000000
theorem K75 (hE : EnvOk E) : ∀ n : Nat, n < 7 → COut E 0 [] 164 [iI (Int.ofNat n)] (iI (2 ^ n)) []
 | 0, _ => cOut_run (n := 400) hE (by kernel_rfl)
 | 1, _ => cOut_run (n := 400) hE (by kernel_rfl)
 | 2, _ => cOut_run (n := 400) hE (by kernel_rfl)
 | 3, _ => cOut_run (n := 400) hE (by kernel_rfl)
 | 4, _ => cOut_run (n := 400) hE (by kernel_rfl)
 | 5, _ => cOut_run (n := 400) hE (by kernel_rfl)
 | 6, _ => cOut_run (n := 400) hE (by kernel_rfl)
 | n + 7, h => absurd h (by omega)
end Go.Proofs.YtigdchbjmnbjlaaGreatDoor
end

/-! SeBc -/
section
open Go Go.Ev
namespace Go.Proofs.YtigdchbjmnbjlaaGreatDoor
noncomputable section
set_option maxRecDepth 100000
set_option maxHeartbeats 20000000
end
end Go.Proofs.YtigdchbjmnbjlaaGreatDoor
end

/-! SeBd -/
section
open Go Go.Ev
namespace Go.Proofs.YtigdchbjmnbjlaaGreatDoor
noncomputable section
set_option maxRecDepth 100000
set_option maxHeartbeats 20000000
theorem look_frz {i : Nat} {ds : List DT} : ∀ (l l' : List (Nat × AV)), All2 (fun p q => p.1 = q.1 ∧ FrzV i ds p.2 q.2) l l' → ∀ k, (lookT l k = none ∧ lookT l' k = none) ∨ ∃ x y, lookT l k = some x ∧ lookT l' k = some y ∧ FrzV i ds x y
 | [], [], _, k => .inl ⟨rfl, rfl⟩
 | p :: l, q :: l', h, k => by
  obtain ⟨⟨h1, h2⟩, h3⟩ := h
  have e1 : lookT (p :: l) k = if Nat.beq p.1 k then some p.2 else lookT l k := rfl
  have e2 : lookT (q :: l') k = if Nat.beq q.1 k then some q.2 else lookT l' k := rfl
  rw [e1, e2, h1]
  by_cases c : Nat.beq q.1 k = true
  ·rw [if_pos c, if_pos c]; exact .inr ⟨_, _, rfl, rfl, h2⟩
  ·rw [if_neg c, if_neg c]; exact look_frz l l' h3 k
theorem frz2 {i : Nat} {ds : List DT} (j : JN) (l l' : List (Nat × AV)) (h : All2 (fun p q => p.1 = q.1 ∧ FrzV i ds p.2 q.2) l l') : ∀ n k, All2 (FrzV i ds) (mkT j l n k) (mkT j l' n k)
 | 0, _ => trivial
 | n + 1, k => by
  refine ⟨?_, frz2 j l l' h n (k + 1)⟩
  show FrzV i ds (match lookT l k with | some x => x | none => .e (.one (.v (j k)))) (match lookT l' k with | some x => x | none => .e (.one (.v (j k))))
  rcases look_frz l l' h k with ⟨a, b⟩ | ⟨x, y, a, b, c⟩
  ·rw [a, b]; exact .inl rfl
  ·rw [a, b]; exact c
theorem rg_00 {x lo hi : Int} (h : rg x lo hi = 0) : lo ≤ x ∧ x ≤ hi := by
 unfold rg at h
 split at h
 ·exact absurd h (by decide)
 ·omega
theorem each_0 {lo hi : Int} : ∀ {xs : List Int}, eachE lo hi xs = 0 → ∀ x ∈ xs, lo ≤ x ∧ x ≤ hi
 | [], _, x, hx => by simp at hx
 | a :: r, h, x, hx => by
  have h' : (if rg a lo hi = 0 then eachE lo hi r else rg a lo hi) = 0 := h
  by_cases c : rg a lo hi = 0
  ·rw [if_pos c] at h'
   rcases List.mem_cons.1 hx with rfl | hx
   ·exact rg_00 c
   ·exact each_0 h' x hx
  ·rw [if_neg c] at h'; exact absurd h' c
end
end Go.Proofs.YtigdchbjmnbjlaaGreatDoor
end

/-! SeBm -/
section

end

/-! SeBn -/
section
open Go Go.Ev
namespace Go.Proofs.YtigdchbjmnbjlaaGreatDoor
noncomputable section
set_option maxRecDepth 100000
set_option maxHeartbeats 20000000
theorem xo {P : Program} {op : BinOp} {t : TypeId} {x z : Operand} {a b c : Int} (h : ∀ w : World, (do eqGuard op t x z (.int .i64 a) (.int .i64 b); binOp op t (.int .i64 a) (.int .i64 b) : Sem Value).run P w = .ok (.int .i64 c) w) : BinOk P op t x z (.v (.int .i64 a)) (.v (.int .i64 b)) (.v (.int .i64 c)) := by
 intro m p q w hp hq
 obtain rfl : p = .int .i64 a := hp
 obtain rfl : q = .int .i64 b := hq
 exact ⟨_, w.drawn, h w, rfl⟩
theorem shl_ok {P : Program} {t : TypeId} {x z : Operand} : ∀ k : Nat, k < 7 → BinOk P .shl t x z (.v (.int .i64 1)) (.v (.int .i64 (Int.ofNat k))) (.v (.int .i64 (Int.ofNat (2 ^ k))))
 | 0, _ => xo fun w => rfl
 | 1, _ => xo fun w => rfl
 | 2, _ => xo fun w => rfl
 | 3, _ => xo fun w => rfl
 | 4, _ => xo fun w => rfl
 | 5, _ => xo fun w => rfl
 | 6, _ => xo fun w => rfl
 | n + 7, h => absurd h (by omega)
end
end Go.Proofs.YtigdchbjmnbjlaaGreatDoor
end

/-! SeDf -/
section
open Go Go.Ev
namespace Go.Proofs.YtigdchbjmnbjlaaGreatDoor
noncomputable section
set_option maxRecDepth 100000
set_option maxHeartbeats 20000000
def x73 (C N O : List DT) (s n o p c k : Nat) (mg ms : Int) (_j : JN) : St := startK Tryz.f122 [] [.e (.agg (tQ C s N n mg ms O o)), (iN p), (iN c), (iN k)]
def x19 (C N O : List DT) (s n o p c k : Nat) (mg ms : Int) (_j : JN) : St := startK Tryz.f109 [] [.e (.agg (tQ C s N n mg ms O o)), (iN p), (iN c), (iN k)]
def x76 (C N O : List DT) (s n o p c : Nat) (mg ms : Int) (_j : JN) : St := startK Tryz.f108 [] [.e (.agg (tQ C s N n mg ms O o)), (iN p), (iN c)]
def x171 (O : List DT) (o : Nat) (x : Int) (_j : JN) : St := startK Tryz.f186 [] [(dQ O o), iI x]
def x181 (O : List DT) (o : Nat) (x : Int) (_j : JN) : St := startK Tryz.f199 [] [(dQ O o), iI x]
def y76 (C N O : List DT) (s n o p c k q : Nat) (mg ms : Int) (j : JN) : St := ⟨[(bK (tQ C s N n mg ms O o) 5 71)], [(.code (aF [1, 1, 1, 0, 1, 0, 0] Tryz.f108)), (.inLoop (aF [1, 1, 1, 0, 1, 0, 0] Tryz.f108)), (.inBlock 0), (.code (aF [1, 1, 1, 1] Tryz.f108))], mkT j [(1, (iN p)), (2, (iN c)), (3, (.e (.one (.ptr 0 0)))), (7, (iN q)), (8, (iN k))] 37 0⟩
def y181 (O : List DT) (o i : Nat) (x : Int) (j : JN) : St := ⟨[], [(.code (aF [1, 0, 1, 0, 0] Tryz.f199)), (.inLoop (aF [1, 0, 1, 0, 0] Tryz.f199)), (.inBlock 0), (.code (aF [1, 1] Tryz.f199))], mkT j [(0, (dQ O o)), (1, (iI x)), (7, (iN o)), (8, (iN i))] 19 0⟩
def p73z_end (j : JN) : St := ⟨[], [(.code .ret), (.code (aF [1, 1] Tryz.f122))], mkT j [(8, (iI 0))] 39 0⟩
theorem p73z (hE : EnvOk E) (C N O : List DT) (s n o p c k : Nat) (mg ms : Int) (h0 : (Int.ofNat k == (0 : Int) : Bool) = true) {Φ : Res → Prop} (ho : ∀ j, OutK E 0 0 (p73z_end j) Φ) (j : JN) : OutK E 0 0 (x73 C N O s n o p c k mg ms j) Φ :=
 oS hE [.run 5, (.cond true), .run 2] [8] (s' := fun j => ⟨[(bK (tQ C s N n mg ms O o) 5 78)], [(.code .ret), (.code (aF [1, 1] Tryz.f122))], mkT j [(8, (iI 0))] 39 0⟩) (aP h0 <| aZ)
  fun j => gZ [] (ho j)
def p73_end (h : Int) (j : JN) : St := ⟨[], [(.code .ret)], mkT j [(8, (iI h))] 39 0⟩
theorem p73 (hE : EnvOk E) (C N O R : List DT) (s n o m p c k : Nat) (mg ms x z a b d e f g h : Int) (h0 : (Int.ofNat k == (0 : Int) : Bool) = false) (h1 : BinOk E.P BinOp.shl (3 : Nat) (Operand.const (Value.int IntKind.i64 (1 : Int))) (Operand.tmp (15 : Nat)) (AC.v (Value.int IntKind.i64 (1 : Int))) (AC.v (Value.int IntKind.i64 (Int.ofNat k))) (AC.v (Value.int IntKind.i64 a))) (h2 : ((iI (wrapF IntKind.i64 (a - (1 : Int)))) : AV) = (iI b)) (h3 : ((iI (wrapF IntKind.i64 (mg * b))) : AV) = (iI d)) (h4 : (0 : Int) ≤ Int.ofNat p ∧ Int.ofNat p < (↑n : Int)) (h5 : ((Int.ofNat p).toNat * nat_lit 1 : Nat) = p) (h6 : (getL N p : Option DT) = (.some (.s R m 1))) (h7 : (0 : Int) ≤ Int.ofNat c ∧ Int.ofNat c < (↑m : Int)) (h8 : ((Int.ofNat c).toNat * 1 : Nat) = c) (h9 : (getL R c : Option DT) = (.some (.v (.int .i64 x)))) (h10 : ((iI (wrapF IntKind.i64 (d * x))) : AV) = (iI e)) (h11 : (0 : Int) ≤ Int.ofNat c ∧ Int.ofNat c < (↑s : Int)) (h12 : ((Int.ofNat c).toNat * nat_lit 1 : Nat) = c) (h13 : (getL C c : Option DT) = (.some (.v (.int .i64 z)))) (h15 : ((iI (wrapF IntKind.i64 (e + z))) : AV) = (iI f)) (h16 : ((iI (wrapF IntKind.i64 (f - (1 : Int)))) : AV) = (iI g)) (h17 : (z : Int) ≠ (0 : Int)) (h18 : (wrapF IntKind.i64 (g.tdiv z) : Int) = h) {Φ : Res → Prop} (ho : ∀ j, OutK E 0 0 (p73_end h j) Φ) (j : JN) : OutK E 0 0 (x73 C N O s n o p c k mg ms j) Φ :=
 oS hE [.run 5, (.cond false), .run 2, (.ops [(3, (.fb (.v (.int .i64 a)))), (4, (.rn (iI b))), (5, (.rn (iI d))), (10, (.d (.ld (.s R m 1)))), (13, (.d (.ld (.v (.int .i64 x))))), (14, (.rn (iI e))), (19, (.d (.ld (.v (.int .i64 z))))), (9, (.d (.ix p))), (12, (.d (.ix c))), (18, (.d (.ix c)))] []), .run 1, (.ops [(2, (.rn (iI f))), (3, (.rn (iI g))), (5, (.quo h))] [])] [8] (s' := fun j => ⟨[(bK (tQ C s N n mg ms O o) 5 78)], [(.code .ret)], mkT j [(8, (iI h))] 39 0⟩) (aQ h0 h1 h2 h3 <| aQ h4 h5 h6 h7 <| aQ h8 h9 h10 h11 <| aP h12 <| aP h13 <| aV <| aQ h15 h16 h17 h18 <| aZ)
  fun j => gZ [] (ho j)
def p19z_end (j : JN) : St := ⟨[], [(.code .ret), (.code (aF [1, 1, 1] Tryz.f109))], mkT j [(8, (iI 0)), (9, (iI 0))] 42 0⟩
theorem p19z (hE : EnvOk E) (C N O R : List DT) (s n o m p c k : Nat) (mg ms x a b d e : Int) (h0 : COut E 0 [] 164 [(iN k)] (iI a) []) (h2 : ((iI (wrapF IntKind.i64 (a - (1 : Int)))) : AV) = (iI b)) (h3 : ((iI (wrapF IntKind.i64 (mg * b))) : AV) = (iI d)) (h4 : (0 : Int) ≤ Int.ofNat p ∧ Int.ofNat p < (↑n : Int)) (h5 : ((Int.ofNat p).toNat * nat_lit 1 : Nat) = p) (h6 : (getL N p : Option DT) = (.some (.s R m 1))) (h7 : (0 : Int) ≤ Int.ofNat c ∧ Int.ofNat c < (↑m : Int)) (h8 : ((Int.ofNat c).toNat * 1 : Nat) = c) (h9 : (getL R c : Option DT) = (.some (.v (.int .i64 x)))) (h11 : ((iI (wrapF IntKind.i64 (d * x))) : AV) = (iI e)) (h12 : (e == (0 : Int) : Bool) = true) {Φ : Res → Prop} (ho : ∀ j, OutK E 0 0 (p19z_end j) Φ) (j : JN) : OutK E 0 0 (x19 C N O s n o p c k mg ms j) Φ :=
 oS hE [.run 3, (.ops [(3, (.c0 (iI a))), (4, (.rn (iI b))), (5, (.rn (iI d))), (10, (.d (.ld (.s R m 1)))), (13, (.d (.ld (.v (.int .i64 x))))), (14, (.rn (iI e))), (9, (.d (.ix p))), (12, (.d (.ix c)))] []), .run 3, (.cond true), .run 2] [8, 9] (s' := fun j => ⟨[(bK (tQ C s N n mg ms O o) 5 71)], [(.code .ret), (.code (aF [1, 1, 1] Tryz.f109))], mkT j [(8, (iI 0)), (9, (iI 0))] 42 0⟩) (aP h0 <| aN <| aQ h2 h3 h4 h5 <| aQ h6 h7 h8 h9 <| aV <| aP h11 <| aP h12 <| aZ)
  fun j => gZ [] (ho j)
def p19n_end (j : JN) : St := ⟨[], [(.code .ret), (.code (aF [1, 1, 1, 1, 1] Tryz.f109))], mkT j [(8, (iI 0)), (9, (iI 7))] 42 0⟩
theorem p19n (hE : EnvOk E) (C N O R : List DT) (s n o m p c k : Nat) (mg ms x z a b d e : Int) (h0 : COut E 0 [] 164 [(iN k)] (iI a) []) (h2 : ((iI (wrapF IntKind.i64 (a - (1 : Int)))) : AV) = (iI b)) (h3 : ((iI (wrapF IntKind.i64 (mg * b))) : AV) = (iI d)) (h4 : (0 : Int) ≤ Int.ofNat p ∧ Int.ofNat p < (↑n : Int)) (h5 : ((Int.ofNat p).toNat * nat_lit 1 : Nat) = p) (h6 : (getL N p : Option DT) = (.some (.s R m 1))) (h7 : (0 : Int) ≤ Int.ofNat c ∧ Int.ofNat c < (↑m : Int)) (h8 : ((Int.ofNat c).toNat * 1 : Nat) = c) (h9 : (getL R c : Option DT) = (.some (.v (.int .i64 x)))) (h11 : ((iI (wrapF IntKind.i64 (d * x))) : AV) = (iI e)) (h12 : (e == (0 : Int) : Bool) = false) (h13 : (0 : Int) ≤ Int.ofNat c ∧ Int.ofNat c < (↑s : Int)) (h14 : ((Int.ofNat c).toNat * nat_lit 1 : Nat) = c) (h15 : (getL C c : Option DT) = (.some (.v (.int .i64 z)))) (h16 : (z == (0 : Int) : Bool) = true) {Φ : Res → Prop} (ho : ∀ j, OutK E 0 0 (p19n_end j) Φ) (j : JN) : OutK E 0 0 (x19 C N O s n o p c k mg ms j) Φ :=
 oS hE [.run 3, (.ops [(3, (.c0 (iI a))), (4, (.rn (iI b))), (5, (.rn (iI d))), (10, (.d (.ld (.s R m 1)))), (13, (.d (.ld (.v (.int .i64 x))))), (14, (.rn (iI e))), (9, (.d (.ix p))), (12, (.d (.ix c)))] []), .run 3, (.cond false), .run 2, (.ops [(4, (.d (.ld (.v (.int .i64 z))))), (3, (.d (.ix c)))] []), .run 3, (.cond true), .run 2] [8, 9] (s' := fun j => ⟨[(bK (tQ C s N n mg ms O o) 5 71)], [(.code .ret), (.code (aF [1, 1, 1, 1, 1] Tryz.f109))], mkT j [(8, (iI 0)), (9, (iI 7))] 42 0⟩) (aP h0 <| aN <| aQ h2 h3 h4 h5 <| aQ h6 h7 h8 h9 <| aV <| aQ h11 h12 h13 h14 <| aP h15 <| aP h16 <| aZ)
  fun j => gZ [] (ho j)
def p19_end (h : Int) (j : JN) : St := ⟨[], [(.code .ret)], mkT j [(8, (iI h)), (9, (iI 0))] 42 0⟩
theorem p19 (hE : EnvOk E) (C N O R : List DT) (s n o m p c k : Nat) (mg ms x z a b d e f g h : Int) (h0 : COut E 0 [] 164 [(iN k)] (iI a) []) (h2 : ((iI (wrapF IntKind.i64 (a - (1 : Int)))) : AV) = (iI b)) (h3 : ((iI (wrapF IntKind.i64 (mg * b))) : AV) = (iI d)) (h4 : (0 : Int) ≤ Int.ofNat p ∧ Int.ofNat p < (↑n : Int)) (h5 : ((Int.ofNat p).toNat * nat_lit 1 : Nat) = p) (h6 : (getL N p : Option DT) = (.some (.s R m 1))) (h7 : (0 : Int) ≤ Int.ofNat c ∧ Int.ofNat c < (↑m : Int)) (h8 : ((Int.ofNat c).toNat * 1 : Nat) = c) (h9 : (getL R c : Option DT) = (.some (.v (.int .i64 x)))) (h11 : ((iI (wrapF IntKind.i64 (d * x))) : AV) = (iI e)) (h12 : (e == (0 : Int) : Bool) = false) (h13 : (0 : Int) ≤ Int.ofNat c ∧ Int.ofNat c < (↑s : Int)) (h14 : ((Int.ofNat c).toNat * nat_lit 1 : Nat) = c) (h15 : (getL C c : Option DT) = (.some (.v (.int .i64 z)))) (h16 : (z == (0 : Int) : Bool) = false) (h17 : ((iI (wrapF IntKind.i64 (e + z))) : AV) = (iI f)) (h18 : ((iI (wrapF IntKind.i64 (f - (1 : Int)))) : AV) = (iI g)) (h19 : (z : Int) ≠ (0 : Int)) (h20 : (wrapF IntKind.i64 (g.tdiv z) : Int) = h) {Φ : Res → Prop} (ho : ∀ j, OutK E 0 0 (p19_end h j) Φ) (j : JN) : OutK E 0 0 (x19 C N O s n o p c k mg ms j) Φ :=
 oS hE [.run 3, (.ops [(3, (.c0 (iI a))), (4, (.rn (iI b))), (5, (.rn (iI d))), (10, (.d (.ld (.s R m 1)))), (13, (.d (.ld (.v (.int .i64 x))))), (14, (.rn (iI e))), (9, (.d (.ix p))), (12, (.d (.ix c)))] []), .run 3, (.cond false), .run 2, (.ops [(4, (.d (.ld (.v (.int .i64 z))))), (3, (.d (.ix c)))] []), .run 3, (.cond false), .run 2, (.ops [(2, (.rn (iI f))), (3, (.rn (iI g))), (5, (.quo h))] [])] [8, 9] (s' := fun j => ⟨[(bK (tQ C s N n mg ms O o) 5 71)], [(.code .ret)], mkT j [(8, (iI h)), (9, (iI 0))] 42 0⟩) (aP h0 <| aN <| aQ h2 h3 h4 h5 <| aQ h6 h7 h8 h9 <| aV <| aQ h11 h12 h13 h14 <| aQ h15 h16 h17 h18 <| aP h19 <| aP h20 <| aZ)
  fun j => gZ [] (ho j)
def p76h_end (j : JN) : St := ⟨[], [(.code .ret), (.code (aF [1, 1] Tryz.f108))], mkT j [(6, (iI 0))] 37 0⟩
theorem p76h (hE : EnvOk E) (C N O : List DT) (s n o p c : Nat) (mg ms : Int) (hb : Bool) (h0 : COut E 0 [] 48 [(dQ O o), (iN c)] (iB hb) []) (h2 : (hb : Bool) = true) {Φ : Res → Prop} (ho : ∀ j, OutK E 0 0 (p76h_end j) Φ) (j : JN) : OutK E 0 0 (x76 C N O s n o p c mg ms j) Φ :=
 oS hE [.run 4, (.ops [(3, (.c0 (iB hb)))] []), (.cond true), .run 2] [6] (s' := fun j => ⟨[(bK (tQ C s N n mg ms O o) 5 71)], [(.code .ret), (.code (aF [1, 1] Tryz.f108))], mkT j [(6, (iI 0))] 37 0⟩) (aP h0 <| aN <| aP h2 <| aZ)
  fun j => gZ [] (ho j)
def p76a_end (C N O : List DT) (s n o p c : Nat) (mg ms : Int) (j : JN) : St := ⟨[(bK (tQ C s N n mg ms O o) 5 71)], [(.code (aF [1, 1, 1, 0, 1, 0, 0] Tryz.f108)), (.inLoop (aF [1, 1, 1, 0, 1, 0, 0] Tryz.f108)), (.inBlock 0), (.code (aF [1, 1, 1, 1] Tryz.f108))], mkT j [(1, (iN p)), (2, (iN c)), (3, (.e (.one (.ptr 0 0)))), (7, (iI 0)), (8, (iI 1))] 37 0⟩
theorem p76a (hE : EnvOk E) (C N O : List DT) (s n o p c : Nat) (mg ms : Int) (hb : Bool) (h0 : COut E 0 [] 48 [(dQ O o), (iN c)] (iB hb) []) (h2 : (hb : Bool) = false) {Φ : Res → Prop} (ho : ∀ j, OutK E 0 0 (p76a_end C N O s n o p c mg ms j) Φ) (j : JN) : OutK E 0 0 (x76 C N O s n o p c mg ms j) Φ :=
 oS hE [.run 4, (.ops [(3, (.c0 (iB hb)))] []), (.cond false), .run 8] [1, 2, 3, 7, 8] (aP h0 <| aN <| aP h2 <| aZ)
  ho
def p171_end (e : Int) (j : JN) : St := ⟨[], [(.code .ret)], mkT j [(4, (iB (decide (e ≥ (0 : Int)))))] 9 0⟩
theorem p171 (hE : EnvOk E) (O : List DT) (o : Nat) (x e : Int) (h0 : COut E 0 [] 199 [(dQ O o), (iI x)] (iI e) []) {Φ : Res → Prop} (ho : ∀ j, OutK E 0 0 (p171_end e j) Φ) (j : JN) : OutK E 0 0 (x171 O o x j) Φ :=
 oS hE [.run 3, (.ops [(2, (.c0 (iI e)))] [])] [4] (aP h0 <| aN <| aZ)
  ho
def p181a_end (O : List DT) (o : Nat) (x : Int) (j : JN) : St := ⟨[], [(.code (aF [1, 0, 1, 0, 0] Tryz.f199)), (.inLoop (aF [1, 0, 1, 0, 0] Tryz.f199)), (.inBlock 0), (.code (aF [1, 1] Tryz.f199))], mkT j [(0, (dQ O o)), (1, (iI x)), (7, (iN o)), (8, (iI 0))] 19 0⟩
theorem p181a (hE : EnvOk E) (O : List DT) (o : Nat) (x : Int) {Φ : Res → Prop} (ho : ∀ j, OutK E 0 0 (p181a_end O o x j) Φ) (j : JN) : OutK E 0 0 (x181 O o x j) Φ :=
 oS hE [.run 4, (.ops [(1, (.d .len))] []), .run 2] [0, 1, 7, 8] (ps := []) trivial
  ho
def p76s_end (C N O : List DT) (s n o p c k : Nat) (mg ms : Int) (j : JN) : St := ⟨[(bK (tQ C s N n mg ms O o) 5 71)], [(.code (aF [1, 1, 1, 0, 1, 0, 0] Tryz.f108)), (.inLoop (aF [1, 1, 1, 0, 1, 0, 0] Tryz.f108)), (.inBlock 0), (.code (aF [1, 1, 1, 1] Tryz.f108))], mkT j [(1, (iN p)), (2, (iN c)), (3, (.e (.one (.ptr 0 0)))), (7, (iN k)), (8, (iN (k + 1)))] 37 0⟩
theorem p76s (hE : EnvOk E) (C N O : List DT) (s n o p c k q : Nat) (mg ms a e : Int) (h0 : (decide (Int.ofNat k ≤ (6 : Int)) : Bool) = true) (h1 : COut E 0 [] 109 [(tA C s N n mg ms O o), (iN p), (iN c), (iN k)] (.tup [(oI a), (oI e)]) []) (h3 : ((e == (0 : Int)) == true : Bool) = true) (h4 : ((e == (0 : Int)) == true : Bool) = true) (h5 : ((e == (0 : Int)) == true : Bool) = true) (h6 : ((e == (0 : Int)) == true : Bool) = true) (h7 : (e == (0 : Int) : Bool) = true) (h8 : (decide (a ≤ ms) : Bool) = true) (h9 : ((iI (wrapF IntKind.i64 (Int.ofNat k + (1 : Int)))) : AV) = (iN (k + 1))) {Φ : Res → Prop} (ho : ∀ j, OutK E 0 0 (p76s_end C N O s n o p c k mg ms j) Φ) (j : JN) : OutK E 0 0 (y76 C N O s n o p c k q mg ms j) Φ :=
 oS hE [.run 3, (.cond true), .run 4, (.ops [(4, (.c0 (.tup [(oI a), (oI e)])))] []), .run 1, (.ops [(7, (.pk true))] [(3, true), (4, true), (5, true), (6, true)]), (.cond true), .run 2, (.ops [(1, (.rn (iN (k + 1))))] []), .run 1] [1, 2, 3, 7, 8] (aP h0 <| aP h1 <| aN <| aQ h3 h4 h5 h6 <| aP h7 <| aP h8 <| aP h9 <| aZ)
  ho
def p76o_end (C N O : List DT) (s n o p c k q : Nat) (mg ms : Int) (j : JN) : St := ⟨[(bK (tQ C s N n mg ms O o) 5 71)], [(.code (aF [1, 1, 1, 0, 1, 0, 0] Tryz.f108)), (.inLoop (aF [1, 1, 1, 0, 1, 0, 0] Tryz.f108)), (.inBlock 0), (.code (aF [1, 1, 1, 1] Tryz.f108))], mkT j [(1, (iN p)), (2, (iN c)), (3, (.e (.one (.ptr 0 0)))), (7, (iN q)), (8, (iN (k + 1)))] 37 0⟩
theorem p76o (hE : EnvOk E) (C N O : List DT) (s n o p c k q : Nat) (mg ms a e : Int) (h0 : (decide (Int.ofNat k ≤ (6 : Int)) : Bool) = true) (h1 : COut E 0 [] 109 [(tA C s N n mg ms O o), (iN p), (iN c), (iN k)] (.tup [(oI a), (oI e)]) []) (h3 : ((e == (0 : Int)) == true : Bool) = false) (h4 : ((e == (0 : Int)) == true : Bool) = false) (h5 : ((e == (0 : Int)) == true : Bool) = false) (h6 : ((e == (0 : Int)) == true : Bool) = false) (h7 : (e == (0 : Int) : Bool) = false) (h8 : ((iI (wrapF IntKind.i64 (Int.ofNat k + (1 : Int)))) : AV) = (iN (k + 1))) {Φ : Res → Prop} (ho : ∀ j, OutK E 0 0 (p76o_end C N O s n o p c k q mg ms j) Φ) (j : JN) : OutK E 0 0 (y76 C N O s n o p c k q mg ms j) Φ :=
 oS hE [.run 3, (.cond true), .run 4, (.ops [(4, (.c0 (.tup [(oI a), (oI e)])))] []), .run 1, (.ops [(7, (.pk false))] [(3, false), (4, false), (5, false), (6, false)]), .run 3, (.ops [(1, (.rn (iN (k + 1))))] []), .run 1] [1, 2, 3, 7, 8] (aP h0 <| aP h1 <| aN <| aQ h3 h4 h5 h6 <| aP h7 <| aP h8 <| aZ)
  ho
def p76l_end (C N O : List DT) (s n o p c k q : Nat) (mg ms : Int) (j : JN) : St := ⟨[(bK (tQ C s N n mg ms O o) 5 71)], [(.code (aF [1, 1, 1, 0, 1, 0, 0] Tryz.f108)), (.inLoop (aF [1, 1, 1, 0, 1, 0, 0] Tryz.f108)), (.inBlock 0), (.code (aF [1, 1, 1, 1] Tryz.f108))], mkT j [(1, (iN p)), (2, (iN c)), (3, (.e (.one (.ptr 0 0)))), (7, (iN q)), (8, (iN (k + 1)))] 37 0⟩
theorem p76l (hE : EnvOk E) (C N O : List DT) (s n o p c k q : Nat) (mg ms a e : Int) (h0 : (decide (Int.ofNat k ≤ (6 : Int)) : Bool) = true) (h1 : COut E 0 [] 109 [(tA C s N n mg ms O o), (iN p), (iN c), (iN k)] (.tup [(oI a), (oI e)]) []) (h3 : ((e == (0 : Int)) == true : Bool) = true) (h4 : ((e == (0 : Int)) == true : Bool) = true) (h5 : ((e == (0 : Int)) == true : Bool) = true) (h6 : ((e == (0 : Int)) == true : Bool) = true) (h7 : (e == (0 : Int) : Bool) = true) (h8 : (decide (a ≤ ms) : Bool) = false) (h9 : ((iI (wrapF IntKind.i64 (Int.ofNat k + (1 : Int)))) : AV) = (iN (k + 1))) {Φ : Res → Prop} (ho : ∀ j, OutK E 0 0 (p76l_end C N O s n o p c k q mg ms j) Φ) (j : JN) : OutK E 0 0 (y76 C N O s n o p c k q mg ms j) Φ :=
 oS hE [.run 3, (.cond true), .run 4, (.ops [(4, (.c0 (.tup [(oI a), (oI e)])))] []), .run 1, (.ops [(7, (.pk true))] [(3, true), (4, true), (5, true), (6, true)]), (.cond false), .run 2, (.ops [(1, (.rn (iN (k + 1))))] []), .run 1] [1, 2, 3, 7, 8] (aP h0 <| aP h1 <| aN <| aQ h3 h4 h5 h6 <| aP h7 <| aP h8 <| aP h9 <| aZ)
  ho
def p76x_end (q : Nat) (j : JN) : St := ⟨[], [(.code .ret)], mkT j [(6, (iN q))] 37 0⟩
theorem p76x (hE : EnvOk E) (C N O : List DT) (s n o p c k q : Nat) (mg ms : Int) (h0 : (decide (Int.ofNat k ≤ (6 : Int)) : Bool) = false) {Φ : Res → Prop} (ho : ∀ j, OutK E 0 0 (p76x_end q j) Φ) (j : JN) : OutK E 0 0 (y76 C N O s n o p c k q mg ms j) Φ :=
 oS hE [.run 3, (.cond false), .run 3] [6] (s' := fun j => ⟨[(bK (tQ C s N n mg ms O o) 5 71)], [(.code .ret)], mkT j [(6, (iN q))] 37 0⟩) (aP h0 <| aZ)
  fun j => gZ [] (ho j)
def p181s_end (O : List DT) (o i : Nat) (x : Int) (j : JN) : St := ⟨[], [(.code (aF [1, 0, 1, 0, 0] Tryz.f199)), (.inLoop (aF [1, 0, 1, 0, 0] Tryz.f199)), (.inBlock 0), (.code (aF [1, 1] Tryz.f199))], mkT j [(0, (dQ O o)), (1, (iI x)), (7, (iN o)), (8, (iN (i + 1)))] 19 0⟩
theorem p181s (hE : EnvOk E) (O : List DT) (o i : Nat) (x z : Int) (h0 : (decide (Int.ofNat i < Int.ofNat o) : Bool) = true) (h1 : (0 : Int) ≤ Int.ofNat i ∧ Int.ofNat i < (↑o : Int)) (h2 : ((Int.ofNat i).toNat * nat_lit 1 : Nat) = i) (h3 : (getL O i : Option DT) = (.some (.v (.int .i64 z)))) (h4 : (x == z : Bool) = false) (h5 : ((iI (wrapF IntKind.i64 (Int.ofNat i + (1 : Int)))) : AV) = (iN (i + 1))) {Φ : Res → Prop} (ho : ∀ j, OutK E 0 0 (p181s_end O o i x j) Φ) (j : JN) : OutK E 0 0 (y181 O o i x j) Φ :=
 oS hE [.run 3, (.cond true), .run 6, (.ops [(4, (.d (.ld (.v (.int .i64 z))))), (3, (.d (.ix i)))] []), (.cond false), .run 2, (.ops [(0, (.rn (iN (i + 1))))] []), .run 1] [0, 1, 7, 8] (aQ h0 h1 h2 h3 <| aP h4 <| aP h5 <| aZ)
  ho
def p181f_end (i : Nat) (j : JN) : St := ⟨[], [(.code .ret), (.inBlock 1), (.code (aF [1, 0, 1, 0, 0, 1, 1, 1] Tryz.f199)), (.inLoop (aF [1, 0, 1, 0, 0] Tryz.f199)), (.inBlock 0), (.code (aF [1, 1] Tryz.f199))], mkT j [(4, (iN i))] 19 0⟩
theorem p181f (hE : EnvOk E) (O : List DT) (o i : Nat) (x z : Int) (h0 : (decide (Int.ofNat i < Int.ofNat o) : Bool) = true) (h1 : (0 : Int) ≤ Int.ofNat i ∧ Int.ofNat i < (↑o : Int)) (h2 : ((Int.ofNat i).toNat * nat_lit 1 : Nat) = i) (h3 : (getL O i : Option DT) = (.some (.v (.int .i64 z)))) (h4 : (x == z : Bool) = true) {Φ : Res → Prop} (ho : ∀ j, OutK E 0 0 (p181f_end i j) Φ) (j : JN) : OutK E 0 0 (y181 O o i x j) Φ :=
 oS hE [.run 3, (.cond true), .run 6, (.ops [(4, (.d (.ld (.v (.int .i64 z))))), (3, (.d (.ix i)))] []), (.cond true), .run 2] [4] (aQ h0 h1 h2 h3 <| aP h4 <| aZ)
  ho
def p181x_end (j : JN) : St := ⟨[], [(.code .ret)], mkT j [(4, (iI (-1)))] 19 0⟩
theorem p181x (hE : EnvOk E) (O : List DT) (o i : Nat) (x : Int) (h0 : (decide (Int.ofNat i < Int.ofNat o) : Bool) = false) {Φ : Res → Prop} (ho : ∀ j, OutK E 0 0 (p181x_end j) Φ) (j : JN) : OutK E 0 0 (y181 O o i x j) Φ :=
 oS hE [.run 3, (.cond false), .run 3] [4] (aP h0 <| aZ)
  ho
theorem mulB {a b A B : Int} (h1 : 0 ≤ a) (h2 : a ≤ A) (h3 : 0 ≤ b) (h4 : b ≤ B) : 0 ≤ a * b ∧ a * b ≤ A * B := ⟨Int.mul_nonneg h1 h3, Int.mul_le_mul h2 h4 h3 (by omega)⟩
theorem two_bd (k : Nat) (hk : k ≤ 6) : (1 : Int) ≤ Int.ofNat (2 ^ k) ∧ Int.ofNat (2 ^ k) ≤ 64 := by
 have h1 : 0 < 2 ^ k := Nat.pos_of_ne_zero (by simp)
 have h2 : 2 ^ k ≤ 2 ^ 6 := Nat.pow_le_pow_right (by omega) hk
 simp only [Int.ofNat_eq_natCast]; omega
theorem pw_bd {mg x P : Int} (hm : 1 ≤ mg ∧ mg ≤ 100) (hx : 1 ≤ x ∧ x ≤ 1000000) (hP : 1 ≤ P ∧ P ≤ 64) : (0 ≤ mg * (P - 1) ∧ mg * (P - 1) ≤ 6300) ∧ 0 ≤ mg * (P - 1) * x ∧ mg * (P - 1) * x ≤ 6300000000 := by
 have a := mulB (a := mg) (b := P - 1) (A := 100) (B := 63) (by omega) (by omega) (by omega) (by omega)
 have b := mulB (a := mg * (P - 1)) (b := x) (A := 6300) (B := 1000000) a.1 (by omega) (by omega) (by omega)
 exact ⟨⟨a.1, by omega⟩, b.1, by omega⟩
theorem quo_bd {g z : Int} (h : 0 ≤ g) (hz : 1 ≤ z) : 0 ≤ g.tdiv z ∧ g.tdiv z ≤ g := by
 rw [Int.tdiv_eq_ediv_of_nonneg h]
 exact ⟨Int.ediv_nonneg h (by omega), Int.ediv_le_self _ h⟩
def pwV (mg x z : Int) (k : Nat) : Int := if k = 0 then 0 else ((((mg * (Int.ofNat (2 ^ k) - 1)) * x) + z - 1).tdiv z)
def cellOk (sg : List Int) (ns : List (List Int)) (mg : Int) (p c : Nat) (r : List Int) (x z : Int) : Prop := ns[p]? = some r ∧ r[c]? = some x ∧ sg[c]? = some z ∧ (1 ≤ mg ∧ mg ≤ 100) ∧ (1 ≤ x ∧ x ≤ 1000000) ∧ 0 ≤ z ∧ z ≤ 1000000000
theorem ixl {α : Type} {l : List α} {i : Nat} {x : α} (h : l[i]? = some x) : i < l.length := (List.getElem?_eq_some_iff.1 h).1
theorem K75n (hE : EnvOk E) (k : Nat) (hk : k ≤ 6) : COut E 0 [] 164 [iI (Int.ofNat k)] (iN (2 ^ k)) [] := by
 have := K75 hE k (by omega)
 rw [show ((2 : Int) ^ k) = Int.ofNat (2 ^ k) by simp] at this
 exact this
theorem K73 (hE : EnvOk E) (sg : List Int) (ns : List (List Int)) (mg ms : Int) (nt : List Int) {p c : Nat} {r : List Int} {x z : Int} (hk0 : cellOk sg ns mg p c r x z) (k : Nat) (hk : k ≤ 6) (hz1 : 1 ≤ z) : COut E 0 [] 122 [aT sg ns mg ms nt, iI (Int.ofNat p), iI (Int.ofNat c), iI (Int.ofNat k)] (iI (pwV mg x z k)) [] := by
 obtain ⟨hp, hc, hs, hm, hx, hz, hz'⟩ := hk0
 have l1 := ixl hp
 have l2 := ixl hc
 have l3 := ixl hs
 by_cases h : k = 0
 ·subst h
  exact cOut_clear (cOut_start Tryz.func122 rfl (p73z hE (iD sg) (rD ns) (iD nt) sg.length ns.length nt.length p c 0 mg ms rfl (fun j => outK_ret (ends_ret (by kernel_rfl))) fun _ => undef)) rfl
 ·rw [show pwV mg x z k = ((((mg * (Int.ofNat (2 ^ k) - 1)) * x) + z - 1).tdiv z) from if_neg h]
  have b1 := two_bd k hk
  have b2 := pw_bd hm hx b1
  have b3 := quo_bd (g := ((mg * (Int.ofNat (2 ^ k) - 1)) * x) + z - 1) (z := z) (by omega) hz1
  exact cOut_clear (cOut_start Tryz.func122 rfl (p73 hE (iD sg) (rD ns) (iD nt) (iD r) sg.length ns.length nt.length r.length p c k mg ms x z (Int.ofNat (2 ^ k)) ((Int.ofNat (2 ^ k) - 1)) ((mg * (Int.ofNat (2 ^ k) - 1))) (((mg * (Int.ofNat (2 ^ k) - 1)) * x)) ((((mg * (Int.ofNat (2 ^ k) - 1)) * x) + z)) ((((mg * (Int.ofNat (2 ^ k) - 1)) * x) + z - 1)) (((((mg * (Int.ofNat (2 ^ k) - 1)) * x) + z - 1).tdiv z)) (beq_eq_false_iff_ne.2 (by simp only [Int.ofNat_eq_natCast]; omega)) (shl_ok k (by omega)) (iIe (wrap_id (by omega) (by omega))) (iIe (wrap_id (by omega) (by omega))) bP (Nat.mul_one _) (gR hp) bP (Nat.mul_one _) (gI hc) (iIe (wrap_id (by omega) (by omega))) bP (Nat.mul_one _) (gI hs) (iIe (wrap_id (by omega) (by omega))) (iIe (wrap_id (by omega) (by omega))) (by omega) (wrap_id (by omega) (by omega)) (fun j => outK_ret (ends_ret (by kernel_rfl))) fun _ => undef)) rfl
theorem K19 (hE : EnvOk E) (sg : List Int) (ns : List (List Int)) (mg ms : Int) (nt : List Int) {p c : Nat} {r : List Int} {x z : Int} (hk0 : cellOk sg ns mg p c r x z) (k : Nat) (hk : k ≤ 6) : COut E 0 [] 109 [aR sg ns mg ms nt, iI (Int.ofNat p), iI (Int.ofNat c), iI (Int.ofNat k)] (.tup [.one (.v (.int .i64 (if z = 0 then 0 else pwV mg x z k))), .one (.v (.int .i64 (if k = 0 then 0 else if z = 0 then 7 else 0)))]) [] := by
 obtain ⟨hp, hc, hs, hm, hx, hz, hz'⟩ := hk0
 have l1 := ixl hp
 have l2 := ixl hc
 have l3 := ixl hs
 have b1 := two_bd k hk
 have b2 := pw_bd hm hx b1
 by_cases h : k = 0
 ·subst h
  rw [show (if z = 0 then (0 : Int) else pwV mg x z 0) = 0 by split <;> rfl, if_pos rfl]
  exact cOut_clear (cOut_start Tryz.func109 rfl (p19z hE (iD sg) (rD ns) (iD nt) (iD r) sg.length ns.length nt.length r.length p c 0 mg ms x (Int.ofNat (2 ^ 0)) ((Int.ofNat (2 ^ 0) - 1)) ((mg * (Int.ofNat (2 ^ 0) - 1))) (((mg * (Int.ofNat (2 ^ 0) - 1)) * x)) (K75n hE 0 hk) (iIe (wrap_id (by omega) (by omega))) (iIe (wrap_id (by omega) (by omega))) bP (Nat.mul_one _) (gR hp) bP (Nat.mul_one _) (gI hc) (iIe (wrap_id (by omega) (by omega))) (by simp) (fun j => outK_ret (ends_ret (by kernel_rfl))) fun _ => undef)) rfl
 ·have hP : (2 : Int) ≤ Int.ofNat (2 ^ k) := by
   have : 2 ^ 1 ≤ 2 ^ k := Nat.pow_le_pow_right (by omega) (by omega)
   simp only [Int.ofNat_eq_natCast]; omega
  have hne : ¬ ((mg * (Int.ofNat (2 ^ k) - 1)) * x) = 0 := by
   have a := Int.mul_pos (a := mg) (b := Int.ofNat (2 ^ k) - 1) (by omega) (by omega)
   have b := Int.mul_pos (a := (mg * (Int.ofNat (2 ^ k) - 1))) (b := x) a (by omega)
   omega
  rw [if_neg h]
  by_cases g : z = 0
  ·rw [if_pos g, if_pos g]
   exact cOut_clear (cOut_start Tryz.func109 rfl (p19n hE (iD sg) (rD ns) (iD nt) (iD r) sg.length ns.length nt.length r.length p c k mg ms x z (Int.ofNat (2 ^ k)) ((Int.ofNat (2 ^ k) - 1)) ((mg * (Int.ofNat (2 ^ k) - 1))) (((mg * (Int.ofNat (2 ^ k) - 1)) * x)) (K75n hE k hk) (iIe (wrap_id (by omega) (by omega))) (iIe (wrap_id (by omega) (by omega))) bP (Nat.mul_one _) (gR hp) bP (Nat.mul_one _) (gI hc) (iIe (wrap_id (by omega) (by omega))) (beq_eq_false_iff_ne.2 hne) bP (Nat.mul_one _) (gI hs) (beq_iff_eq.2 g) (fun j => outK_ret (ends_ret (by kernel_rfl))) fun _ => undef)) rfl
  ·rw [if_neg g, if_neg g, show pwV mg x z k = ((((mg * (Int.ofNat (2 ^ k) - 1)) * x) + z - 1).tdiv z) from if_neg h]
   have b3 := quo_bd (g := ((mg * (Int.ofNat (2 ^ k) - 1)) * x) + z - 1) (z := z) (by omega) (by omega)
   exact cOut_clear (cOut_start Tryz.func109 rfl (p19 hE (iD sg) (rD ns) (iD nt) (iD r) sg.length ns.length nt.length r.length p c k mg ms x z (Int.ofNat (2 ^ k)) ((Int.ofNat (2 ^ k) - 1)) ((mg * (Int.ofNat (2 ^ k) - 1))) (((mg * (Int.ofNat (2 ^ k) - 1)) * x)) ((((mg * (Int.ofNat (2 ^ k) - 1)) * x) + z)) ((((mg * (Int.ofNat (2 ^ k) - 1)) * x) + z - 1)) (((((mg * (Int.ofNat (2 ^ k) - 1)) * x) + z - 1).tdiv z)) (K75n hE k hk) (iIe (wrap_id (by omega) (by omega))) (iIe (wrap_id (by omega) (by omega))) bP (Nat.mul_one _) (gR hp) bP (Nat.mul_one _) (gI hc) (iIe (wrap_id (by omega) (by omega))) (beq_eq_false_iff_ne.2 hne) bP (Nat.mul_one _) (gI hs) (beq_eq_false_iff_ne.2 g) (iIe (wrap_id (by omega) (by omega))) (iIe (wrap_id (by omega) (by omega))) (by omega) (wrap_id (by omega) (by omega)) (fun j => outK_ret (ends_ret (by kernel_rfl))) fun _ => undef)) rfl
def bstF (mg x z ms : Int) : Nat → Nat
 | 0 => 0
 | k + 1 => if z ≠ 0 ∧ pwV mg x z (k + 1) ≤ ms then k + 1 else bstF mg x z ms k
theorem l76 (hE : EnvOk E) (sg : List Int) (ns : List (List Int)) (mg ms : Int) (nt : List Int) {p c : Nat} {r : List Int} {x z : Int} (hk0 : cellOk sg ns mg p c r x z) : ∀ m t, m + t = 6 → ∀ j, OutK E 0 0 (y76 (iD sg) (rD ns) (iD nt) sg.length ns.length nt.length p c ((t + 1)) (bstF mg x z ms t) mg ms j) (Go.Ev.Ends E Tryz.f108 (iN (bstF mg x z ms 6)) [])
 | 0, t, ht, j => by
  obtain rfl : t = 6 := by omega
  exact p76x hE (iD sg) (rD ns) (iD nt) sg.length ns.length nt.length p c ((6 + 1)) (bstF mg x z ms 6) mg ms rfl (fun j => outK_ret (ends_ret (by kernel_rfl))) j
 | m + 1, t, ht, j => by
  have ih := l76 hE sg ns mg ms nt hk0 m (t + 1) (by omega)
  have k19 := K19 hE sg ns mg ms nt hk0 (t + 1) (by omega)
  rw [if_neg (show ¬ t + 1 = 0 by omega)] at k19
  by_cases hz : z = 0
  ·rw [if_pos hz, if_pos hz] at k19
   rw [show bstF mg x z ms (t + 1) = bstF mg x z ms t from if_neg (fun a => a.1 hz)] at ih
   exact p76o hE (iD sg) (rD ns) (iD nt) sg.length ns.length nt.length p c ((t + 1)) (bstF mg x z ms t) mg ms 0 7 dT k19 rfl rfl rfl rfl rfl (iIe (by (try simp only [Int.ofNat_eq_natCast]); rw [wrap_id (by omega) (by omega)]; try omega)) ih j
  ·rw [if_neg hz, if_neg hz] at k19
   by_cases h : pwV mg x z (t + 1) ≤ ms
   ·rw [show bstF mg x z ms (t + 1) = t + 1 from if_pos ⟨hz, h⟩] at ih
    exact p76s hE (iD sg) (rD ns) (iD nt) sg.length ns.length nt.length p c ((t + 1)) (bstF mg x z ms t) mg ms (pwV mg x z (t + 1)) 0 dT k19 rfl rfl rfl rfl rfl (decide_eq_true h) (iIe (by (try simp only [Int.ofNat_eq_natCast]); rw [wrap_id (by omega) (by omega)]; try omega)) ih j
   ·rw [show bstF mg x z ms (t + 1) = bstF mg x z ms t from if_neg (fun a => h a.2)] at ih
    exact p76l hE (iD sg) (rD ns) (iD nt) sg.length ns.length nt.length p c ((t + 1)) (bstF mg x z ms t) mg ms (pwV mg x z (t + 1)) 0 dT k19 rfl rfl rfl rfl rfl (decide_eq_false h) (iIe (by (try simp only [Int.ofNat_eq_natCast]); rw [wrap_id (by omega) (by omega)]; try omega)) ih j
def carV (mg x z ms : Int) (nt : List Int) (c : Nat) : Nat := if (Int.ofNat c) ∈ nt then 0 else bstF mg x z ms 6
theorem K76 (hE : EnvOk E) (sg : List Int) (ns : List (List Int)) (mg ms : Int) (nt : List Int) (hn : nt.length ≤ 100000) {p c : Nat} {r : List Int} {x z : Int} (hk0 : cellOk sg ns mg p c r x z) : COut E 0 [] 108 [aR sg ns mg ms nt, iI (Int.ofNat p), iI (Int.ofNat c)] (iN (carV mg x z ms nt c)) [] := by
 unfold carV
 by_cases h : (Int.ofNat c) ∈ nt
 ·rw [if_pos h]
  exact cOut_clear (cOut_start Tryz.func108 rfl (p76h hE (iD sg) (rD ns) (iD nt) sg.length ns.length nt.length p c mg ms true (decide_eq_true h ▸ K129 hE nt (Int.ofNat c) hn) oB (fun j => outK_ret (ends_ret (by kernel_rfl))) fun _ => undef)) rfl
 ·rw [if_neg h]
  exact cOut_clear (cOut_start Tryz.func108 rfl (p76a hE (iD sg) (rD ns) (iD nt) sg.length ns.length nt.length p c mg ms false (decide_eq_false h ▸ K129 hE nt (Int.ofNat c) hn) oB (l76 hE sg ns mg ms nt hk0 6 0 rfl) fun _ => undef)) rfl
def ixF (x : Int) : Nat → List Int → Int
 | _, [] => -1
 | i, z :: r => if x = z then Int.ofNat i else ixF x (i + 1) r
theorem ixF_mem (x : Int) : ∀ (l : List Int) (i : Nat), decide (ixF x i l ≥ 0) = decide (x ∈ l)
 | [], i => by simp [ixF]
 | z :: r, i => by
  unfold ixF
  by_cases h : x = z
  ·rw [if_pos h, decide_eq_true (show x ∈ z :: r by rw [h]; exact List.mem_cons_self ..)]
   exact decide_eq_true (by simp only [Int.ofNat_eq_natCast]; omega)
  ·rw [if_neg h, ixF_mem x r (i + 1)]
   exact decide_eq_decide.2 ⟨List.mem_cons_of_mem _, fun a => (List.mem_cons.1 a).elim (fun e => absurd e h) id⟩
theorem l181 (hE : EnvOk E) (xs : List Int) (x : Int) (hm : xs.length ≤ 100000) : ∀ k i, k + i = xs.length → ∀ j, OutK E 0 0 (y181 (iD xs) xs.length i x j) (Go.Ev.Ends E Tryz.f199 (iI (ixF x i (xs.drop i))) [])
 | 0, i, hi, j => by
  obtain rfl : i = xs.length := by omega
  rw [List.drop_length]
  exact p181x hE (iD xs) xs.length xs.length x dF (fun j => outK_ret (ends_ret (by kernel_rfl))) j
 | k + 1, i, hi, j => by
  have hl : i < xs.length := by omega
  have hx : xs[i]? = some xs[i] := List.getElem?_eq_getElem hl
  have ih := l181 hE xs x hm k (i + 1) (by omega)
  rw [List.drop_eq_getElem_cons hl]
  generalize xs[i] = z at hx
  by_cases h : x = z
  ·rw [show ixF x i (z :: xs.drop (i + 1)) = Int.ofNat i from if_pos h]
   exact p181f hE (iD xs) xs.length i x z dT bP (Nat.mul_one _) (gI hx) (beq_iff_eq.2 h) (fun j => outK_ret (ends_ret (by kernel_rfl))) j
  ·rw [show ixF x i (z :: xs.drop (i + 1)) = ixF x (i + 1) (xs.drop (i + 1)) from if_neg h]
   exact p181s hE (iD xs) xs.length i x z dT bP (Nat.mul_one _) (gI hx) (beq_eq_false_iff_ne.2 h) (iIe (by (try simp only [Int.ofNat_eq_natCast]); rw [wrap_id (by omega) (by omega)]; try omega)) ih j
theorem K171 (hE : EnvOk E) (xs : List Int) (x : Int) (hm : xs.length ≤ 100000) : COut E 0 [] 186 [dI xs, iI x] (iB (decide (x ∈ xs))) [] := by
 rw [← ixF_mem x xs 0]
 have k181 : COut E 0 [] 199 [dI xs, iI x] (iI (ixF x 0 xs)) [] := cOut_start Tryz.func199 rfl (p181a hE (iD xs) xs.length x (l181 hE xs x hm xs.length 0 rfl) fun _ => undef)
 exact cOut_start Tryz.func186 rfl (p171 hE (iD xs) xs.length x (ixF x 0 xs) k181 (fun j => outK_ret (ends_ret (by kernel_rfl))) fun _ => undef)
end
end Go.Proofs.YtigdchbjmnbjlaaGreatDoor
end
