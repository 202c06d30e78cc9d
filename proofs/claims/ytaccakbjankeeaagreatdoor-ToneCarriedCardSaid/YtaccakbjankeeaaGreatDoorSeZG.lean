/-
  Part of the proof: SeVa, SeBa, SeBb, SeBc, SeBd, SeBm.
-/
import Derived.Test.YtaccakbjankeeaaGreatDoorSeZF

/-! SeVa -/
section
open Go Go.Ev
namespace Go.Proofs.YtaccakbjankeeaaGreatDoor
noncomputable section
set_option maxRecDepth 100000
set_option maxHeartbeats 20000000
def x30 (C : List DT) (n : Nat) (_j : JN) : St := startK Tryz.f30 [] [(dQ C n)]
def x38 (C : List DT) (n : Nat) (_j : JN) : St := startK Tryz.f38 [] [(dQ C n)]
def x96 (C R : List DT) (n m : Nat) (_j : JN) : St := startK Tryz.f96 [bK [.dp (.s C n 1)] 1 23] [(dQ R m), (.e (.one (.ptr 0 0)))]
def x134 (C : List DT) (n : Nat) (_j : JN) : St := startK Tryz.f134 [bK [.dp (.s C n 1)] 1 23] [(dQ C n), (.e (.one (.clo 96 [] [.one (.ptr 0 0)])))]
def x88 (C : List DT) (n : Nat) (_j : JN) : St := startK Tryz.f88 [bK [.dp (.s C n 1)] 1 23] [(dQ C n), iI 15, (.e (.one (.clo 96 [] [.one (.ptr 0 0)])))]
def x79 (C : List DT) (n : Nat) (_j : JN) : St := startK Tryz.f79 [bK [.dp (.s C n 1)] 1 23] [(dQ C n), iI 15, (.e (.one (.clo 96 [] [.one (.ptr 0 0)])))]
def x98 (C : List DT) (n k : Nat) (_j : JN) : St := startK Tryz.f98 [] [(dQ C n), (iN k)]
def y30n (C : List DT) (n i : Nat) (j : JN) : St := ⟨[], [(.code (aF [1, 1, 0, 1, 0, 0] Tryz.f30)), (.inLoop (aF [1, 1, 0, 1, 0, 0] Tryz.f30)), (.inBlock 0), (.code (aF [1, 1, 1] Tryz.f30))], mkT j [(3, (.e (.one (.v (.slice none 0 0))))), (6, (dQ C n)), (7, (iN n)), (8, (iN i))] 19 0⟩
def y134 (C : List DT) (n i : Nat) (j : JN) : St := ⟨[(bK [(.dp (.s C n 1))] 1 23)], [(.code (aF [1, 0, 1, 0, 0] Tryz.f134)), (.inLoop (aF [1, 0, 1, 0, 0] Tryz.f134)), (.inBlock 0), (.code (aF [1, 1] Tryz.f134))], mkT j [(1, (.e (.one (.clo 96 [] [(.one (.ptr 0 0))])))), (8, (dQ C n)), (9, (iN n)), (10, (iN i))] 21 0⟩
def y98 (C : List DT) (n i k : Nat) (lead : Int) (j : JN) : St := ⟨[], [(.code (aF [1, 1, 0, 1, 0, 0] Tryz.f98)), (.inLoop (aF [1, 1, 0, 1, 0, 0] Tryz.f98)), (.inBlock 0), (.code (aF [1, 1, 1] Tryz.f98))], mkT j [(1, (iN k)), (5, (iI lead)), (8, (dQ C n)), (9, (iN n)), (10, (iN i))] 33 0⟩
def y30 (C : List DT) (n i k : Nat) (D : List AC) (j : JN) : St := ⟨[some ⟨D, k, 22, false, .cells⟩], [(.code (aF [1, 1, 0, 1, 0, 0] Tryz.f30)), (.inLoop (aF [1, 1, 0, 1, 0, 0] Tryz.f30)), (.inBlock 0), (.code (aF [1, 1, 1] Tryz.f30))], mkT j [(3, (.e (.one (.slc 0 0 k 1 k false)))), (6, (dQ C n)), (7, (iN n)), (8, (iN i))] 19 0⟩
def y38n (C : List DT) (n r0 i : Nat) (j : JN) : St := ⟨[(bK [(.dp (.s C n 1))] 1 23)], [(.code (aF [1, 1, 1, 1, 0, 1, 0, 0] Tryz.f38)), (.inLoop (aF [1, 1, 1, 1, 0, 1, 0, 0] Tryz.f38)), (.inBlock 0), (.code (aF [1, 1, 1, 1, 1] Tryz.f38))], mkT j [(1, (.e (.one (.ptr 0 0)))), (5, (.e (.one (.v (.slice none 0 0))))), (16, (iN r0)), (17, (iN i))] 28 0⟩
def y38 (C : List DT) (n r0 i k : Nat) (D : List AC) (j : JN) : St := ⟨[bK [.dp (.s C n 1)] 1 23, some ⟨D, k, 3, false, .cells⟩], [(.code (aF [1, 1, 1, 1, 0, 1, 0, 0] Tryz.f38)), (.inLoop (aF [1, 1, 1, 1, 0, 1, 0, 0] Tryz.f38)), (.inBlock 0), (.code (aF [1, 1, 1, 1, 1] Tryz.f38))], mkT j [(1, (.e (.one (.ptr 0 0)))), (5, (.e (.one (.slc 1 0 k 1 k false)))), (16, (iN r0)), (17, (iN i))] 28 0⟩
def p30a_end (C : List DT) (n : Nat) (j : JN) : St := ⟨[], [(.code (aF [1, 1, 0, 1, 0, 0] Tryz.f30)), (.inLoop (aF [1, 1, 0, 1, 0, 0] Tryz.f30)), (.inBlock 0), (.code (aF [1, 1, 1] Tryz.f30))], mkT j [(3, (.e (.one (.v (.slice none 0 0))))), (6, (dQ C n)), (7, (iN n)), (8, (iI 0))] 19 0⟩
theorem p30a (hE : EnvOk E) (C : List DT) (n : Nat) {Φ : Res → Prop} (ho : ∀ j, OutK E 0 0 (p30a_end C n j) Φ) (j : JN) : OutK E 0 0 (x30 C n j) Φ :=
 oS hE [.run 6, (.ops [(1, (.d .len))] []), .run 2] [3, 6, 7, 8] (ps := []) trivial
  ho
def p96_end (C : List DT) (n : Nat) (e : Int) (j : JN) : St := ⟨[(bK [(.dp (.s C n 1))] 1 23)], [(.code .ret)], mkT j [(3, (iI e))] 17 0⟩
theorem p96 (hE : EnvOk E) (C R R0 : List DT) (n m r0 : Nat) (e f g : Int) (h0 : (0 : Int) ≤ (0 : Int) ∧ (0 : Int) < (↑n : Int)) (h2 : (getL C (nat_lit 0) : Option DT) = (.some (.s R0 r0 1))) (h3 : COut E 0 [] 85 [(iB ((↑m : Int) != (↑r0 : Int))), (iI 2)] (iI f) []) (h5 : COut E 2 [(bK [(.v (.int .i64 (-1)))] 1 3), (bK [(.v (.int .i64 1))] 1 3)] 97 [(dQ R m), (iI 1024), (.e (.one (.clo 130 [] [(.one (.ptr 0 0)), (.one (.ptr 1 0))])))] (iI g) [(bK [(.v (.int .i64 (-1)))] 1 3), (bK [(.v (.int .i64 1))] 1 3)]) (h8 : True) (h12 : COut E 4 [(bK [(.dp (.s C n 1))] 1 23), (bK [(.v (.int .i64 (-1)))] 1 3), (bK [(.v (.int .i64 1))] 1 3), (bK [(.v (.int .i64 f)), (.v (.int .i64 g))] 2 29)] 69 [(.e (.one (.slc 3 0 2 1 2 true)))] (iI e) [(bK [(.dp (.s C n 1))] 1 23), (bK [(.v (.int .i64 (-1)))] 1 3), (bK [(.v (.int .i64 1))] 1 3), (bK [(.v (.int .i64 f)), (.v (.int .i64 g))] 2 29)]) {Φ : Res → Prop} (ho : ∀ j, OutK E 0 1 (p96_end C n e j) Φ) (j : JN) : OutK E 0 1 (x96 C R n m j) Φ :=
 outK_seg hE (R4_ok hE) [.run 3, (.ops [(4, (.d (.ld (.s R0 r0 1)))), (7, (.c0 (iI f))), (10, (.cl [1, 2] [false, false] [(dQ R m), (iI 1024), (.e (.one (.clo 130 [] [(.one (.ptr 0 0)), (.one (.ptr 1 0))])))] [(bK [(.v (.int .i64 (-1)))] 1 3), (bK [(.v (.int .i64 1))] 1 3)] (iI g) [(bK [(.v (.int .i64 (-1)))] 1 3), (bK [(.v (.int .i64 1))] 1 3)] (iI g) [] [])), (12, (.d (.c1 (iI e)))), (1, (.d .len)), (3, (.d (.ix 0))), (5, (.d .len))] [])] [3] (s' := fun j => ⟨[(bK [(.dp (.s C n 1))] 1 23), (bK [(.v (.int .i64 (-1)))] 1 3), (bK [(.v (.int .i64 1))] 1 3), (bK [(.v (.int .i64 f)), (.v (.int .i64 g))] 2 29)], [(.code .ret)], mkT j [(3, (iI e))] 17 0⟩) (fun j => by kernel_rfl) (aP h0 <| aP (rfl : ((0 : Nat) : Nat) = nat_lit 0) <| aP h2 <| aP h3 <| aN <| aP h5 <| aP (rfl : ([(dQ R m), (iI 1024), (.e (.one (.clo 130 [] [(.one (.ptr 1 0)), (.one (.ptr 2 0))])))] : List AV) = [(dQ R m), (iI 1024), (.e (.one (.clo 130 [] [(.one (.ptr 1 0)), (.one (.ptr 2 0))])))]) <| aP (rfl : ([(.some (bK [(.v (.int .i64 (-1)))] 1 3)), (.some (bK [(.v (.int .i64 1))] 1 3))] : List (Option (Option AB))) = [(.some (bK [(.v (.int .i64 (-1)))] 1 3)), (.some (bK [(.v (.int .i64 1))] 1 3))]) <| aP h8 <| aP (rfl : ([] : List (Option (Option AB))) = []) <| aP h8 <| aP (rfl : ((iI g) : AV) = (iI g)) <| aP h12 <| aN <| aZ)
  fun j => gZ [0] (ho j)
def p134a_end (C : List DT) (n : Nat) (j : JN) : St := ⟨[(bK [(.dp (.s C n 1))] 1 23)], [(.code (aF [1, 0, 1, 0, 0] Tryz.f134)), (.inLoop (aF [1, 0, 1, 0, 0] Tryz.f134)), (.inBlock 0), (.code (aF [1, 1] Tryz.f134))], mkT j [(1, (.e (.one (.clo 96 [] [(.one (.ptr 0 0))])))), (8, (dQ C n)), (9, (iN n)), (10, (iI 0))] 21 0⟩
theorem p134a (hE : EnvOk E) (C : List DT) (n : Nat) {Φ : Res → Prop} (ho : ∀ j, OutK E 0 1 (p134a_end C n j) Φ) (j : JN) : OutK E 0 1 (x134 C n j) Φ :=
 oS hE [.run 4, (.ops [(1, (.d .len))] []), .run 2] [1, 8, 9, 10] (ps := []) trivial
  ho
def p88m_end (C : List DT) (n : Nat) (j : JN) : St := ⟨[(bK [(.dp (.s C n 1))] 1 23)], [(.code .ret), (.code (aF [1, 1] Tryz.f88))], mkT j [(6, (iI 5))] 14 0⟩
theorem p88m (hE : EnvOk E) (C : List DT) (n : Nat) (h0 : (decide ((↑n : Int) > Int.ofNat (nat_lit 15)) : Bool) = true) {Φ : Res → Prop} (ho : ∀ j, OutK E 0 1 (p88m_end C n j) Φ) (j : JN) : OutK E 0 1 (x88 C n j) Φ :=
 oS hE [.run 4, (.ops [(1, (.d .len))] []), (.cond true), .run 2] [6] (aP h0 <| aZ)
  ho
def p88s_end (C : List DT) (n : Nat) (e : Int) (j : JN) : St := ⟨[(bK [(.dp (.s C n 1))] 1 23)], [(.code .ret)], mkT j [(6, (iI e))] 14 0⟩
theorem p88s (hE : EnvOk E) (C : List DT) (n : Nat) (e : Int) (h0 : (decide ((↑n : Int) > Int.ofNat (nat_lit 15)) : Bool) = false) (h1 : COut E 0 [(bK [(.dp (.s C n 1))] 1 23)] 134 [(dQ C n), (.e (.one (.clo 96 [] [(.one (.ptr 0 0))])))] (iI e) [(bK [(.dp (.s C n 1))] 1 23)]) {Φ : Res → Prop} (ho : ∀ j, OutK E 0 1 (p88s_end C n e j) Φ) (j : JN) : OutK E 0 1 (x88 C n j) Φ :=
 oS hE [.run 4, (.ops [(1, (.d .len))] []), (.cond false), .run 2, (.ops [(2, (.cw (iI e) [(bK [(.dp (.s C n 1))] 1 23)]))] [])] [6] (aP h0 <| aP h1 <| aZ)
  ho
def p79z_end (C : List DT) (n : Nat) (j : JN) : St := ⟨[(bK [(.dp (.s C n 1))] 1 23)], [(.code .ret), (.code (aF [1, 1] Tryz.f79))], mkT j [(6, (iI 12))] 14 0⟩
theorem p79z (hE : EnvOk E) (C : List DT) (n : Nat) (h0 : ((↑n : Int) == (0 : Int) : Bool) = true) {Φ : Res → Prop} (ho : ∀ j, OutK E 0 1 (p79z_end C n j) Φ) (j : JN) : OutK E 0 1 (x79 C n j) Φ :=
 oS hE [.run 4, (.ops [(1, (.d .len))] []), (.cond true), .run 2] [6] (aP h0 <| aZ)
  ho
def p79s_end (C : List DT) (n : Nat) (e : Int) (j : JN) : St := ⟨[(bK [(.dp (.s C n 1))] 1 23)], [(.code .ret)], mkT j [(6, (iI e))] 14 0⟩
theorem p79s (hE : EnvOk E) (C : List DT) (n : Nat) (e : Int) (h0 : ((↑n : Int) == (0 : Int) : Bool) = false) (h1 : COut E 0 [(bK [(.dp (.s C n 1))] 1 23)] 88 [(dQ C n), (iI 15), (.e (.one (.clo 96 [] [(.one (.ptr 0 0))])))] (iI e) [(bK [(.dp (.s C n 1))] 1 23)]) {Φ : Res → Prop} (ho : ∀ j, OutK E 0 1 (p79s_end C n e j) Φ) (j : JN) : OutK E 0 1 (x79 C n j) Φ :=
 oS hE [.run 4, (.ops [(1, (.d .len))] []), (.cond false), .run 2, (.ops [(3, (.cw (iI e) [(bK [(.dp (.s C n 1))] 1 23)]))] [])] [6] (aP h0 <| aP h1 <| aZ)
  ho
def p98a_end (C : List DT) (n k : Nat) (j : JN) : St := ⟨[], [(.code (aF [1, 1, 0, 1, 0, 0] Tryz.f98)), (.inLoop (aF [1, 1, 0, 1, 0, 0] Tryz.f98)), (.inBlock 0), (.code (aF [1, 1, 1] Tryz.f98))], mkT j [(1, (iN k)), (5, (iI 0)), (8, (dQ C n)), (9, (iN n)), (10, (iI 0))] 33 0⟩
theorem p98a (hE : EnvOk E) (C : List DT) (n k : Nat) {Φ : Res → Prop} (ho : ∀ j, OutK E 0 0 (p98a_end C n k j) Φ) (j : JN) : OutK E 0 0 (x98 C n k j) Φ :=
 oS hE [.run 6, (.ops [(1, (.d .len))] []), .run 2] [1, 5, 8, 9, 10] (ps := []) trivial
  ho
def p30n_end (C R : List DT) (n m i : Nat) (j : JN) : St := ⟨[(.some ⟨[(.dp (.s R m 1))], 1, 22, false, .cells⟩)], [(.code (aF [1, 1, 0, 1, 0, 0] Tryz.f30)), (.inLoop (aF [1, 1, 0, 1, 0, 0] Tryz.f30)), (.inBlock 0), (.code (aF [1, 1, 1] Tryz.f30))], mkT j [(3, (.e (.one (.slc 0 0 1 1 1 false)))), (6, (dQ C n)), (7, (iN n)), (8, (iN (i + 1)))] 19 0⟩
theorem p30n (hE : EnvOk E) (C R : List DT) (n m i : Nat) (h0 : (decide (Int.ofNat i < Int.ofNat n) : Bool) = true) (h1 : (0 : Int) ≤ Int.ofNat i ∧ Int.ofNat i < (↑n : Int)) (h2 : ((Int.ofNat i).toNat * nat_lit 1 : Nat) = i) (h3 : (getL C i : Option DT) = (.some (.s R m 1))) (h4 : COut E 0 [] 28 [(dQ R m)] (dQ R m) []) (h6 : ((iI (wrapF IntKind.i64 (Int.ofNat i + (1 : Int)))) : AV) = (iN (i + 1))) {Φ : Res → Prop} (ho : ∀ j, OutK E 0 0 (p30n_end C R n m i j) Φ) (j : JN) : OutK E 0 0 (y30n C n i j) Φ :=
 oS hE [.run 3, (.cond true), .run 4, (.ops [(1, (.d (.ld (.s R m 1)))), (0, (.d (.ix i)))] []), (.ops [(2, (.c0 (dQ R m)))] []), .run 1, (.ops [(0, (.rn (iN (i + 1))))] []), .run 1] [3, 6, 7, 8] (s' := fun j => ⟨[(bK [(.dp (.s R m 1))] 1 22), (.some ⟨[(.dp (.s R m 1))], 1, 22, false, .cells⟩)], [(.code (aF [1, 1, 0, 1, 0, 0] Tryz.f30)), (.inLoop (aF [1, 1, 0, 1, 0, 0] Tryz.f30)), (.inBlock 0), (.code (aF [1, 1, 1] Tryz.f30))], mkT j [(3, (.e (.one (.slc 1 0 1 1 1 false)))), (6, (dQ C n)), (7, (iN n)), (8, (iN (i + 1)))] 19 0⟩) (aQ h0 h1 h2 h3 <| aP h4 <| aN <| aP h6 <| aZ)
  fun j => gZ [1] (ho j)
def p30y_end (j : JN) : St := ⟨[], [(.code .ret)], mkT j [(2, (.e (.one (.v (.slice none 0 0)))))] 19 0⟩
theorem p30y (hE : EnvOk E) (C : List DT) (n i : Nat) (h0 : (decide (Int.ofNat i < Int.ofNat n) : Bool) = false) {Φ : Res → Prop} (ho : ∀ j, OutK E 0 0 (p30y_end j) Φ) (j : JN) : OutK E 0 0 (y30n C n i j) Φ :=
 oS hE [.run 3, (.cond false), .run 3] [2] (aP h0 <| aZ)
  ho
def p134s_end (C : List DT) (n i : Nat) (j : JN) : St := ⟨[(bK [(.dp (.s C n 1))] 1 23)], [(.code (aF [1, 0, 1, 0, 0] Tryz.f134)), (.inLoop (aF [1, 0, 1, 0, 0] Tryz.f134)), (.inBlock 0), (.code (aF [1, 1] Tryz.f134))], mkT j [(1, (.e (.one (.clo 96 [] [(.one (.ptr 0 0))])))), (8, (dQ C n)), (9, (iN n)), (10, (iN (i + 1)))] 21 0⟩
theorem p134s (hE : EnvOk E) (C R : List DT) (n m i : Nat) (e : Int) (h0 : (decide (Int.ofNat i < Int.ofNat n) : Bool) = true) (h1 : (0 : Int) ≤ Int.ofNat i ∧ Int.ofNat i < (↑n : Int)) (h2 : ((Int.ofNat i).toNat * nat_lit 1 : Nat) = i) (h3 : (getL C i : Option DT) = (.some (.s R m 1))) (h4 : COut E 0 [(bK [(.dp (.s C n 1))] 1 23)] 96 [(dQ R m), (.e (.one (.ptr 0 0)))] (iI e) [(bK [(.dp (.s C n 1))] 1 23)]) (h5 : (e != (0 : Int) : Bool) = false) (h6 : ((iI (wrapF IntKind.i64 (Int.ofNat i + (1 : Int)))) : AV) = (iN (i + 1))) {Φ : Res → Prop} (ho : ∀ j, OutK E 0 1 (p134s_end C n i j) Φ) (j : JN) : OutK E 0 1 (y134 C n i j) Φ :=
 oS hE [.run 3, (.cond true), .run 4, (.ops [(1, (.d (.ld (.s R m 1)))), (0, (.d (.ix i)))] []), .run 1, (.ops [(2, (.cw (iI e) [(bK [(.dp (.s C n 1))] 1 23)]))] []), .run 2, (.cond false), .run 2, (.ops [(0, (.rn (iN (i + 1))))] []), .run 1] [1, 8, 9, 10] (aQ h0 h1 h2 h3 <| aP h4 <| aP h5 <| aP h6 <| aZ)
  ho
def p134e_end (C : List DT) (n : Nat) (e : Int) (j : JN) : St := ⟨[(bK [(.dp (.s C n 1))] 1 23)], [(.code .ret), (.inBlock 1), (.code (aF [1, 0, 1, 0, 0, 1, 1, 1] Tryz.f134)), (.inLoop (aF [1, 0, 1, 0, 0] Tryz.f134)), (.inBlock 0), (.code (aF [1, 1] Tryz.f134))], mkT j [(4, (iI e))] 21 0⟩
theorem p134e (hE : EnvOk E) (C R : List DT) (n m i : Nat) (e : Int) (h0 : (decide (Int.ofNat i < Int.ofNat n) : Bool) = true) (h1 : (0 : Int) ≤ Int.ofNat i ∧ Int.ofNat i < (↑n : Int)) (h2 : ((Int.ofNat i).toNat * nat_lit 1 : Nat) = i) (h3 : (getL C i : Option DT) = (.some (.s R m 1))) (h4 : COut E 0 [(bK [(.dp (.s C n 1))] 1 23)] 96 [(dQ R m), (.e (.one (.ptr 0 0)))] (iI e) [(bK [(.dp (.s C n 1))] 1 23)]) (h5 : (e != (0 : Int) : Bool) = true) {Φ : Res → Prop} (ho : ∀ j, OutK E 0 1 (p134e_end C n e j) Φ) (j : JN) : OutK E 0 1 (y134 C n i j) Φ :=
 oS hE [.run 3, (.cond true), .run 4, (.ops [(1, (.d (.ld (.s R m 1)))), (0, (.d (.ix i)))] []), .run 1, (.ops [(2, (.cw (iI e) [(bK [(.dp (.s C n 1))] 1 23)]))] []), .run 2, (.cond true), .run 2] [4] (aQ h0 h1 h2 h3 <| aP h4 <| aP h5 <| aZ)
  ho
def p134x_end (C : List DT) (n : Nat) (j : JN) : St := ⟨[(bK [(.dp (.s C n 1))] 1 23)], [(.code .ret)], mkT j [(4, (iI 0))] 21 0⟩
theorem p134x (hE : EnvOk E) (C : List DT) (n i : Nat) (h0 : (decide (Int.ofNat i < Int.ofNat n) : Bool) = false) {Φ : Res → Prop} (ho : ∀ j, OutK E 0 1 (p134x_end C n j) Φ) (j : JN) : OutK E 0 1 (y134 C n i j) Φ :=
 oS hE [.run 3, (.cond false), .run 3] [4] (aP h0 <| aZ)
  ho
def p98p_end (C : List DT) (n i k : Nat) (g : Int) (j : JN) : St := ⟨[], [(.code (aF [1, 1, 0, 1, 0, 0] Tryz.f98)), (.inLoop (aF [1, 1, 0, 1, 0, 0] Tryz.f98)), (.inBlock 0), (.code (aF [1, 1, 1] Tryz.f98))], mkT j [(1, (iN k)), (5, (iI g)), (8, (dQ C n)), (9, (iN n)), (10, (iN (i + 1)))] 33 0⟩
theorem p98p (hE : EnvOk E) (C R : List DT) (n m i k : Nat) (g z lead : Int) (h0 : (decide (Int.ofNat i < Int.ofNat n) : Bool) = true) (h1 : (0 : Int) ≤ Int.ofNat i ∧ Int.ofNat i < (↑n : Int)) (h2 : ((Int.ofNat i).toNat * nat_lit 1 : Nat) = i) (h3 : (getL C i : Option DT) = (.some (.s R m 1))) (h4 : (0 : Int) ≤ Int.ofNat k ∧ Int.ofNat k < (↑m : Int)) (h5 : ((Int.ofNat k).toNat * nat_lit 1 : Nat) = k) (h6 : (getL R k : Option DT) = (.some (.v (.int .i64 z)))) (h7 : (z == (1 : Int) : Bool) = true) (h8 : ((iI (wrapF IntKind.i64 (lead + (1 : Int)))) : AV) = (iI g)) (h9 : ((iI (wrapF IntKind.i64 (Int.ofNat i + (1 : Int)))) : AV) = (iN (i + 1))) {Φ : Res → Prop} (ho : ∀ j, OutK E 0 0 (p98p_end C n i k g j) Φ) (j : JN) : OutK E 0 0 (y98 C n i k lead j) Φ :=
 oS hE [.run 3, (.cond true), .run 4, (.ops [(1, (.d (.ld (.s R m 1)))), (0, (.d (.ix i)))] []), .run 1, (.ops [(3, (.d (.ld (.v (.int .i64 z))))), (2, (.d (.ix k)))] []), .run 3, (.cond true), (.ops [(1, (.rn (iI g)))] []), .run 2, (.ops [(0, (.rn (iN (i + 1))))] []), .run 1] [1, 5, 8, 9, 10] (aQ h0 h1 h2 h3 <| aQ h4 h5 h6 h7 <| aP h8 <| aP h9 <| aZ)
  ho
def p98m_end (C : List DT) (n i k : Nat) (g : Int) (j : JN) : St := ⟨[], [(.code (aF [1, 1, 0, 1, 0, 0] Tryz.f98)), (.inLoop (aF [1, 1, 0, 1, 0, 0] Tryz.f98)), (.inBlock 0), (.code (aF [1, 1, 1] Tryz.f98))], mkT j [(1, (iN k)), (5, (iI g)), (8, (dQ C n)), (9, (iN n)), (10, (iN (i + 1)))] 33 0⟩
theorem p98m (hE : EnvOk E) (C R : List DT) (n m i k : Nat) (g z lead : Int) (h0 : (decide (Int.ofNat i < Int.ofNat n) : Bool) = true) (h1 : (0 : Int) ≤ Int.ofNat i ∧ Int.ofNat i < (↑n : Int)) (h2 : ((Int.ofNat i).toNat * nat_lit 1 : Nat) = i) (h3 : (getL C i : Option DT) = (.some (.s R m 1))) (h4 : (0 : Int) ≤ Int.ofNat k ∧ Int.ofNat k < (↑m : Int)) (h5 : ((Int.ofNat k).toNat * nat_lit 1 : Nat) = k) (h6 : (getL R k : Option DT) = (.some (.v (.int .i64 z)))) (h7 : (z == (1 : Int) : Bool) = false) (h8 : (z == (0 : Int) : Bool) = true) (h9 : ((iI (wrapF IntKind.i64 (lead - (1 : Int)))) : AV) = (iI g)) (h10 : ((iI (wrapF IntKind.i64 (Int.ofNat i + (1 : Int)))) : AV) = (iN (i + 1))) {Φ : Res → Prop} (ho : ∀ j, OutK E 0 0 (p98m_end C n i k g j) Φ) (j : JN) : OutK E 0 0 (y98 C n i k lead j) Φ :=
 oS hE [.run 3, (.cond true), .run 4, (.ops [(1, (.d (.ld (.s R m 1)))), (0, (.d (.ix i)))] []), .run 1, (.ops [(3, (.d (.ld (.v (.int .i64 z))))), (2, (.d (.ix k)))] []), .run 3, (.cond false), .run 2, (.cond true), (.ops [(1, (.rn (iI g)))] []), .run 2, (.ops [(0, (.rn (iN (i + 1))))] []), .run 1] [1, 5, 8, 9, 10] (aQ h0 h1 h2 h3 <| aQ h4 h5 h6 h7 <| aP h8 <| aP h9 <| aP h10 <| aZ)
  ho
def p98o_end (C : List DT) (n i k : Nat) (lead : Int) (j : JN) : St := ⟨[], [(.code (aF [1, 1, 0, 1, 0, 0] Tryz.f98)), (.inLoop (aF [1, 1, 0, 1, 0, 0] Tryz.f98)), (.inBlock 0), (.code (aF [1, 1, 1] Tryz.f98))], mkT j [(1, (iN k)), (5, (iI lead)), (8, (dQ C n)), (9, (iN n)), (10, (iN (i + 1)))] 33 0⟩
theorem p98o (hE : EnvOk E) (C R : List DT) (n m i k : Nat) (z lead : Int) (h0 : (decide (Int.ofNat i < Int.ofNat n) : Bool) = true) (h1 : (0 : Int) ≤ Int.ofNat i ∧ Int.ofNat i < (↑n : Int)) (h2 : ((Int.ofNat i).toNat * nat_lit 1 : Nat) = i) (h3 : (getL C i : Option DT) = (.some (.s R m 1))) (h4 : (0 : Int) ≤ Int.ofNat k ∧ Int.ofNat k < (↑m : Int)) (h5 : ((Int.ofNat k).toNat * nat_lit 1 : Nat) = k) (h6 : (getL R k : Option DT) = (.some (.v (.int .i64 z)))) (h7 : (z == (1 : Int) : Bool) = false) (h8 : (z == (0 : Int) : Bool) = false) (h9 : ((iI (wrapF IntKind.i64 (Int.ofNat i + (1 : Int)))) : AV) = (iN (i + 1))) {Φ : Res → Prop} (ho : ∀ j, OutK E 0 0 (p98o_end C n i k lead j) Φ) (j : JN) : OutK E 0 0 (y98 C n i k lead j) Φ :=
 oS hE [.run 3, (.cond true), .run 4, (.ops [(1, (.d (.ld (.s R m 1)))), (0, (.d (.ix i)))] []), .run 1, (.ops [(3, (.d (.ld (.v (.int .i64 z))))), (2, (.d (.ix k)))] []), .run 3, (.cond false), .run 2, (.cond false), .run 3, (.ops [(0, (.rn (iN (i + 1))))] []), .run 1] [1, 5, 8, 9, 10] (aQ h0 h1 h2 h3 <| aQ h4 h5 h6 h7 <| aP h8 <| aP h9 <| aZ)
  ho
def p98xg_end (j : JN) : St := ⟨[], [(.code .ret), (.inBlock 3), (.code (aF [1, 1, 1, 1] Tryz.f98))], mkT j [(4, (iI 1))] 33 0⟩
theorem p98xg (hE : EnvOk E) (C : List DT) (n i k : Nat) (lead : Int) (h0 : (decide (Int.ofNat i < Int.ofNat n) : Bool) = false) (h1 : (decide (lead > (0 : Int)) : Bool) = true) {Φ : Res → Prop} (ho : ∀ j, OutK E 0 0 (p98xg_end j) Φ) (j : JN) : OutK E 0 0 (y98 C n i k lead j) Φ :=
 oS hE [.run 3, (.cond false), .run 5, (.cond true), .run 2] [4] (aP h0 <| aP h1 <| aZ)
  ho
def p98xl_end (j : JN) : St := ⟨[], [(.code .ret), (.inBlock 3), (.code (aF [1, 1, 1, 1] Tryz.f98))], mkT j [(4, (iI 0))] 33 0⟩
theorem p98xl (hE : EnvOk E) (C : List DT) (n i k : Nat) (lead : Int) (h0 : (decide (Int.ofNat i < Int.ofNat n) : Bool) = false) (h1 : (decide (lead > (0 : Int)) : Bool) = false) (h2 : (decide (lead < (0 : Int)) : Bool) = true) {Φ : Res → Prop} (ho : ∀ j, OutK E 0 0 (p98xl_end j) Φ) (j : JN) : OutK E 0 0 (y98 C n i k lead j) Φ :=
 oS hE [.run 3, (.cond false), .run 5, (.cond false), .run 2, (.cond true), .run 2] [4] (aP h0 <| aP h1 <| aP h2 <| aZ)
  ho
def p98xz_end (j : JN) : St := ⟨[], [(.code .ret)], mkT j [(4, (iI (-1)))] 33 0⟩
theorem p98xz (hE : EnvOk E) (C : List DT) (n i k : Nat) (lead : Int) (h0 : (decide (Int.ofNat i < Int.ofNat n) : Bool) = false) (h1 : (decide (lead > (0 : Int)) : Bool) = false) (h2 : (decide (lead < (0 : Int)) : Bool) = false) {Φ : Res → Prop} (ho : ∀ j, OutK E 0 0 (p98xz_end j) Φ) (j : JN) : OutK E 0 0 (y98 C n i k lead j) Φ :=
 oS hE [.run 3, (.cond false), .run 5, (.cond false), .run 2, (.cond false), .run 4] [4] (aP h0 <| aP h1 <| aP h2 <| aZ)
  ho
def p38e_end (e : Int) (j : JN) : St := ⟨[], [(.code .ret), (.code (aF [1, 1, 1] Tryz.f38))], mkT j [(2, (.e (.one (.v (.slice none 0 0))))), (3, (iI e))] 28 0⟩
theorem p38e (hE : EnvOk E) (C : List DT) (n : Nat) (e : Int) (h0 : COut E 0 [(bK [(.dp (.s C n 1))] 1 23)] 79 [(dQ C n), (iI 15), (.e (.one (.clo 96 [] [(.one (.ptr 0 0))])))] (iI e) [(bK [(.dp (.s C n 1))] 1 23)]) (h1 : (e != (0 : Int) : Bool) = true) {Φ : Res → Prop} (ho : ∀ j, OutK E 0 0 (p38e_end e j) Φ) (j : JN) : OutK E 0 0 (x38 C n j) Φ :=
 oS hE [.run 3, (.ops [(2, (.cw (iI e) [(bK [(.dp (.s C n 1))] 1 23)]))] []), .run 3, (.cond true), .run 2] [2, 3] (s' := fun j => ⟨[(bK [(.dp (.s C n 1))] 1 23)], [(.code .ret), (.code (aF [1, 1, 1] Tryz.f38))], mkT j [(2, (.e (.one (.v (.slice none 0 0))))), (3, (iI e))] 28 0⟩) (aP h0 <| aP h1 <| aZ)
  fun j => gZ [] (ho j)
def p38a_end (C : List DT) (n r0 : Nat) (j : JN) : St := ⟨[(bK [(.dp (.s C n 1))] 1 23)], [(.code (aF [1, 1, 1, 1, 0, 1, 0, 0] Tryz.f38)), (.inLoop (aF [1, 1, 1, 1, 0, 1, 0, 0] Tryz.f38)), (.inBlock 0), (.code (aF [1, 1, 1, 1, 1] Tryz.f38))], mkT j [(1, (.e (.one (.ptr 0 0)))), (5, (.e (.one (.v (.slice none 0 0))))), (16, (iN r0)), (17, (iI 0))] 28 0⟩
theorem p38a (hE : EnvOk E) (C R0 : List DT) (n r0 : Nat) (e : Int) (h0 : COut E 0 [(bK [(.dp (.s C n 1))] 1 23)] 79 [(dQ C n), (iI 15), (.e (.one (.clo 96 [] [(.one (.ptr 0 0))])))] (iI e) [(bK [(.dp (.s C n 1))] 1 23)]) (h1 : (e != (0 : Int) : Bool) = false) (h2 : (0 : Int) ≤ (0 : Int) ∧ (0 : Int) < (↑n : Int)) (h4 : (getL C (nat_lit 0) : Option DT) = (.some (.s R0 r0 1))) {Φ : Res → Prop} (ho : ∀ j, OutK E 0 0 (p38a_end C n r0 j) Φ) (j : JN) : OutK E 0 0 (x38 C n j) Φ :=
 oS hE [.run 3, (.ops [(2, (.cw (iI e) [(bK [(.dp (.s C n 1))] 1 23)]))] []), .run 3, (.cond false), .run 5, (.ops [(2, (.d (.ld (.s R0 r0 1)))), (1, (.d (.ix 0))), (3, (.d .len))] []), .run 2] [1, 5, 16, 17] (aP h0 <| aP h1 <| aP h2 <| aP (rfl : ((0 : Nat) : Nat) = nat_lit 0) <| aP h4 <| aZ)
  ho
def p30s_end (C : List DT) (n i k : Nat) (Y : List AC) (j : JN) : St := ⟨[(.some ⟨(Y), (k + 1), 22, false, .cells⟩)], [(.code (aF [1, 1, 0, 1, 0, 0] Tryz.f30)), (.inLoop (aF [1, 1, 0, 1, 0, 0] Tryz.f30)), (.inBlock 0), (.code (aF [1, 1, 1] Tryz.f30))], mkT j [(3, (.e (.one (.slc 0 0 (k + 1) 1 (k + 1) false)))), (6, (dQ C n)), (7, (iN n)), (8, (iN (i + 1)))] 19 0⟩
theorem p30s (hE : EnvOk E) (C R : List DT) (n m i k : Nat) (_x : Int) (D Y : List AC) (h0 : (decide (Int.ofNat i < Int.ofNat n) : Bool) = true) (h1 : (0 : Int) ≤ Int.ofNat i ∧ Int.ofNat i < (↑n : Int)) (h2 : ((Int.ofNat i).toNat * nat_lit 1 : Nat) = i) (h3 : (getL C i : Option DT) = (.some (.s R m 1))) (h4 : COut E 0 [] 28 [(dQ R m)] (dQ R m) []) (h6 : ¬k + 1 ≤ k) (h7 : (small (k + 1) (1 : Nat) (24 : Nat) : Bool) = true) (h8 : (k : Nat) = k * nat_lit 1) (h9 : (appL D ((fun x => AC.dp (DV.s R m (1 : Nat)) :: x) []) : List AC) = Y) (h11 : ((k + 1) * nat_lit 1 : Nat) = k + 1) (h12 : ((iI (wrapF IntKind.i64 (Int.ofNat i + (1 : Int)))) : AV) = (iN (i + 1))) (g0 : FlatC Y) {Φ : Res → Prop} (ho : ∀ j, OutK E 0 0 (p30s_end C n i k Y j) Φ) (j : JN) : OutK E 0 0 (y30 C n i k D j) Φ :=
 oS hE [.run 3, (.cond true), .run 4, (.ops [(1, (.d (.ld (.s R m 1)))), (0, (.d (.ix i)))] []), (.ops [(2, (.c0 (dQ R m))), (4, (.app (k + 1) (k + 1) Y))] []), .run 1, (.ops [(0, (.rn (iN (i + 1))))] []), .run 1] [3, 6, 7, 8] (s' := fun j => ⟨[none, (bK [(.dp (.s R m 1))] 1 22), (.some ⟨(Y), (k + 1), 22, false, .cells⟩)], [(.code (aF [1, 1, 0, 1, 0, 0] Tryz.f30)), (.inLoop (aF [1, 1, 0, 1, 0, 0] Tryz.f30)), (.inBlock 0), (.code (aF [1, 1, 1] Tryz.f30))], mkT j [(3, (.e (.one (.slc 2 0 (k + 1) 1 (k + 1) false)))), (6, (dQ C n)), (7, (iN n)), (8, (iN (i + 1)))] 19 0⟩) (aQ h0 h1 h2 h3 <| aP h4 <| aN <| aQ h6 h7 h8 h9 <| aP (rfl : (k + 1 : Nat) = k + 1) <| aP h11 <| aP h12 <| aZ)
  fun j => outK_gcF [2] [true] (h' := [(.some ⟨(Y), (k + 1), 22, false, .cells⟩)]) (by decide) (by kernel_rfl) (by kernel_rfl) ⟨g0, trivial⟩ (by kernel_rfl) (ho j)
def p30x_end (k : Nat) (D : List AC) (j : JN) : St := ⟨[(.some ⟨(D), k, 22, false, .cells⟩)], [(.code .ret)], mkT j [(2, (.e (.one (.slc 0 0 k 1 k false))))] 19 0⟩
theorem p30x (hE : EnvOk E) (C : List DT) (n i k : Nat) (D : List AC) (h0 : (decide (Int.ofNat i < Int.ofNat n) : Bool) = false) {Φ : Res → Prop} (ho : ∀ j, OutK E 0 0 (p30x_end k D j) Φ) (j : JN) : OutK E 0 0 (y30 C n i k D j) Φ :=
 oS hE [.run 3, (.cond false), .run 3] [2] (aP h0 <| aZ)
  ho
def p38n_end (C : List DT) (n r0 i : Nat) (x : Int) (j : JN) : St := ⟨[(bK [(.dp (.s C n 1))] 1 23), (.some ⟨[(.v (.int .i64 x))], 1, 3, false, .cells⟩)], [(.code (aF [1, 1, 1, 1, 0, 1, 0, 0] Tryz.f38)), (.inLoop (aF [1, 1, 1, 1, 0, 1, 0, 0] Tryz.f38)), (.inBlock 0), (.code (aF [1, 1, 1, 1, 1] Tryz.f38))], mkT j [(1, (.e (.one (.ptr 0 0)))), (5, (.e (.one (.slc 1 0 1 1 1 false)))), (16, (iN r0)), (17, (iN (i + 1)))] 28 0⟩
theorem p38n (hE : EnvOk E) (C : List DT) (n r0 i : Nat) (x : Int) (h0 : (decide (Int.ofNat i < Int.ofNat r0) : Bool) = true) (h1 : COut E 0 [] 98 [(dQ C n), (iN i)] (iI x) []) (h3 : ((iI (wrapF IntKind.i64 (Int.ofNat i + (1 : Int)))) : AV) = (iN (i + 1))) {Φ : Res → Prop} (ho : ∀ j, OutK E 0 0 (p38n_end C n r0 i x j) Φ) (j : JN) : OutK E 0 0 (y38n C n r0 i j) Φ :=
 oS hE [.run 3, (.cond true), .run 5, (.ops [(3, (.c0 (iI x)))] []), .run 1, (.ops [(0, (.rn (iN (i + 1))))] []), .run 1] [1, 5, 16, 17] (s' := fun j => ⟨[(bK [(.dp (.s C n 1))] 1 23), (bK [(.v (.int .i64 x))] 1 3), (.some ⟨[(.v (.int .i64 x))], 1, 3, false, .cells⟩)], [(.code (aF [1, 1, 1, 1, 0, 1, 0, 0] Tryz.f38)), (.inLoop (aF [1, 1, 1, 1, 0, 1, 0, 0] Tryz.f38)), (.inBlock 0), (.code (aF [1, 1, 1, 1, 1] Tryz.f38))], mkT j [(1, (.e (.one (.ptr 0 0)))), (5, (.e (.one (.slc 2 0 1 1 1 false)))), (16, (iN r0)), (17, (iN (i + 1)))] 28 0⟩) (aP h0 <| aP h1 <| aN <| aP h3 <| aZ)
  fun j => gZ [0, 2] (ho j)
def p38y_end (j : JN) : St := ⟨[], [(.code .ret)], mkT j [(2, (.e (.one (.v (.slice none 0 0))))), (3, (iI 0))] 28 0⟩
theorem p38y (hE : EnvOk E) (C : List DT) (n r0 i : Nat) (h0 : (decide (Int.ofNat i < Int.ofNat r0) : Bool) = false) {Φ : Res → Prop} (ho : ∀ j, OutK E 0 0 (p38y_end j) Φ) (j : JN) : OutK E 0 0 (y38n C n r0 i j) Φ :=
 oS hE [.run 3, (.cond false), .run 3] [2, 3] (s' := fun j => ⟨[(bK [(.dp (.s C n 1))] 1 23)], [(.code .ret)], mkT j [(2, (.e (.one (.v (.slice none 0 0))))), (3, (iI 0))] 28 0⟩) (aP h0 <| aZ)
  fun j => gZ [] (ho j)
def p38s_end (C : List DT) (n r0 i k : Nat) (Y : List AC) (j : JN) : St := ⟨[(bK [(.dp (.s C n 1))] 1 23), (.some ⟨(Y), (k + 1), 3, false, .cells⟩)], [(.code (aF [1, 1, 1, 1, 0, 1, 0, 0] Tryz.f38)), (.inLoop (aF [1, 1, 1, 1, 0, 1, 0, 0] Tryz.f38)), (.inBlock 0), (.code (aF [1, 1, 1, 1, 1] Tryz.f38))], mkT j [(1, (.e (.one (.ptr 0 0)))), (5, (.e (.one (.slc 1 0 (k + 1) 1 (k + 1) false)))), (16, (iN r0)), (17, (iN (i + 1)))] 28 0⟩
theorem p38s (hE : EnvOk E) (C : List DT) (n r0 i k : Nat) (x : Int) (D Y : List AC) (h0 : (decide (Int.ofNat i < Int.ofNat r0) : Bool) = true) (h1 : COut E 0 [] 98 [(dQ C n), (iN i)] (iI x) []) (h3 : ¬k + 1 ≤ k) (h4 : (small (k + 1) (1 : Nat) (8 : Nat) : Bool) = true) (h5 : (k : Nat) = k * nat_lit 1) (h6 : (appL D ((fun x_1 => AC.v (Value.int IntKind.i64 x) :: x_1) []) : List AC) = Y) (h8 : ((k + 1) * nat_lit 1 : Nat) = k + 1) (h9 : ((iI (wrapF IntKind.i64 (Int.ofNat i + (1 : Int)))) : AV) = (iN (i + 1))) (g0 : FlatC Y) {Φ : Res → Prop} (ho : ∀ j, OutK E 0 0 (p38s_end C n r0 i k Y j) Φ) (j : JN) : OutK E 0 0 (y38 C n r0 i k D j) Φ :=
 oS hE [.run 3, (.cond true), .run 5, (.ops [(3, (.c0 (iI x))), (5, (.app (k + 1) (k + 1) Y))] []), .run 1, (.ops [(0, (.rn (iN (i + 1))))] []), .run 1] [1, 5, 16, 17] (s' := fun j => ⟨[(bK [(.dp (.s C n 1))] 1 23), none, (bK [(.v (.int .i64 x))] 1 3), (.some ⟨(Y), (k + 1), 3, false, .cells⟩)], [(.code (aF [1, 1, 1, 1, 0, 1, 0, 0] Tryz.f38)), (.inLoop (aF [1, 1, 1, 1, 0, 1, 0, 0] Tryz.f38)), (.inBlock 0), (.code (aF [1, 1, 1, 1, 1] Tryz.f38))], mkT j [(1, (.e (.one (.ptr 0 0)))), (5, (.e (.one (.slc 3 0 (k + 1) 1 (k + 1) false)))), (16, (iN r0)), (17, (iN (i + 1)))] 28 0⟩) (aP h0 <| aP h1 <| aN <| aQ h3 h4 h5 h6 <| aP (rfl : (k + 1 : Nat) = k + 1) <| aP h8 <| aP h9 <| aZ)
  fun j => outK_gcF [0, 3] [false, true] (h' := [(bK [(.dp (.s C n 1))] 1 23), (.some ⟨(Y), (k + 1), 3, false, .cells⟩)]) (by decide) (by kernel_rfl) (by kernel_rfl) ⟨g0, trivial⟩ (by kernel_rfl) (ho j)
def p38x_end (k : Nat) (D : List AC) (j : JN) : St := ⟨[(.some ⟨(D), k, 3, false, .cells⟩)], [(.code .ret)], mkT j [(2, (.e (.one (.slc 0 0 k 1 k false)))), (3, (iI 0))] 28 0⟩
theorem p38x (hE : EnvOk E) (C : List DT) (n r0 i k : Nat) (D : List AC) (h0 : (decide (Int.ofNat i < Int.ofNat r0) : Bool) = false) (g0 : FlatC D) {Φ : Res → Prop} (ho : ∀ j, OutK E 0 0 (p38x_end k D j) Φ) (j : JN) : OutK E 0 0 (y38 C n r0 i k D j) Φ :=
 oS hE [.run 3, (.cond false), .run 3] [2, 3] (s' := fun j => ⟨[(bK [(.dp (.s C n 1))] 1 23), (.some ⟨(D), k, 3, false, .cells⟩)], [(.code .ret)], mkT j [(2, (.e (.one (.slc 1 0 k 1 k false)))), (3, (iI 0))] 28 0⟩) (aP h0 <| aZ)
  fun j => outK_gcF [1] [true] (h' := [(.some ⟨(D), k, 3, false, .cells⟩)]) (by decide) (by kernel_rfl) (by kernel_rfl) ⟨g0, trivial⟩ (by kernel_rfl) (ho j)
abbrev rD (L : List (List Int)) : List DT := L.map fun r => .s (iD r) r.length 1
abbrev rC (L : List (List Int)) : List AC := (rD L).map DT.ac
abbrev dR (L : List (List Int)) : AV := .e (.one (.dp (.s (rD L) L.length 1)))
theorem gR {L : List (List Int)} {i : Nat} {r : List Int} (h : L[i]? = some r) : getL (rD L) i = some (.s (iD r) r.length 1) := by rw [getL_eq, List.getElem?_map, h]; rfl
theorem rC_app (L : List (List Int)) (r : List Int) : appL (rC L) [.dp (.s (iD r) r.length 1)] = rC (L ++ [r]) := by rw [appL_eq]; simp [DT.ac]
theorem l30 (hE : EnvOk E) (L : List (List Int)) (hL : L.length ≤ 5000) (hr : ∀ r ∈ L, r.length ≤ 100000) : ∀ m i, m + i = L.length → ∀ j, OutK E 0 0 (y30 (rD L) L.length i i (rC (L.take i)) j) (Go.Ev.Ends E Tryz.f30 (.e (.one (.slc 0 0 L.length 1 L.length false))) [some ⟨rC L, L.length, 22, false, .cells⟩])
 | 0, i, hk, j => by
  obtain rfl : i = L.length := by omega
  rw [List.take_length]
  exact p30x hE (rD L) L.length L.length L.length (rC L) dF (fun j => outK_ret (ends_ret (by kernel_rfl))) j
 | m + 1, i, hk, j => by
  have hl : i < L.length := by omega
  have hx : L[i]? = some L[i] := List.getElem?_eq_getElem hl
  have hm := hr L[i] (List.getElem_mem hl)
  have ih := l30 hE L hL hr m (i + 1) (by omega)
  rw [← List.take_append_getElem hl] at ih
  generalize L[i] = r at hx hm ih
  exact p30s hE (rD L) (iD r) L.length r.length i i 0 (rC (L.take i)) (rC (L.take i ++ [r])) dT bP (Nat.mul_one _) (gR hx) (K28 hE r hm) (by omega) (by simp [small]; omega) oB (rC_app _ _) oB (iIe (by (try simp only [Int.ofNat_eq_natCast]); rw [wrap_id (by omega) (by omega)]; try omega)) (by first | exact flat_iC _ | exact flat_rows _) ih j
theorem K30 (hE : EnvOk E) (L : List (List Int)) (hL : L.length ≤ 5000) (hr : ∀ r ∈ L, r.length ≤ 100000) : COut E 0 [] 30 [dR L] (dR L) [] := by
 by_cases hn : L.length = 0
 ·obtain rfl := List.length_eq_zero_iff.1 hn
  have hc : COut E 0 [] 30 [dR []] (.e (.one (.v (.slice none 0 0)))) [] :=
   cOut_start Tryz.func30 rfl (p30a hE (rD []) 0 (p30y hE (rD []) 0 0 dF (fun j => outK_ret (ends_ret (by kernel_rfl)))) fun _ => undef)
  exact cOut_weak hc fun m y hy => wkN m 1 y hy
 ·have hl : 0 < L.length := by omega
  have hx : L[0]? = some L[0] := List.getElem?_eq_getElem hl
  have hm := hr L[0] (List.getElem_mem hl)
  have ih := l30 hE L hL hr (L.length - 1) 1 (by omega)
  rw [show L.take 1 = [L[0]] by rw [← List.take_append_getElem hl]; rfl] at ih
  generalize L[0] = r at hx hm ih
  have hc : COut E 0 [] 30 [dR L] (.e (.one (.slc 0 0 L.length 1 L.length false))) [some ⟨rC L, L.length, 22, false, .cells⟩] :=
   cOut_start Tryz.func30 rfl (p30a hE (rD L) L.length (p30n hE (rD L) (iD r) L.length r.length 0 dT bP (Nat.mul_one _) (gR hx) (K28 hE r hm) (iIe (by (try simp only [Int.ofNat_eq_natCast]); rw [wrap_id (by omega) (by omega)]; try omega)) ih) fun _ => undef)
  exact cOut_clear (cOut_freeze 0 hc rfl (Nat.zero_le _) (ds := rD L) (frzAll (rD L) L.length 1 L.length false (by simp))) rfl
def rowE (w : Nat) (r : List Int) : Int := firstI [fI ((r.length : Int) != (w : Int)) 2, mostE (-1) 1 1024 r]
def rowsE (w : Nat) : List (List Int) → Int
 | [] => 0
 | r :: l => if rowE w r = 0 then rowsE w l else rowE w r
def copE (L : List (List Int)) : Int := if L.length = 0 then 12 else if (L.length : Int) > 15 then 5 else rowsE (L.headD []).length L
abbrev hcp (L : List (List Int)) : Heap := [bK [.dp (.s (rD L) L.length 1)] 1 23]
theorem K96 (hE : EnvOk E) (L : List (List Int)) (r r0 : List Int) (h0 : L[0]? = some r0) (hm : r.length ≤ 100000) : COut E 0 (hcp L) 96 [dI r, (.e (.one (.ptr 0 0)))] (iI (rowE r0.length r)) (hcp L) := by
 have hl : 0 < L.length := (List.getElem?_eq_some_iff.1 h0).1
 exact cOut_start Tryz.func96 rfl (p96 hE (rD L) (iD r) (iD r0) L.length r.length r0.length (rowE r0.length r) (fI ((r.length : Int) != (r0.length : Int)) 2) (mostE (-1) 1 1024 r) ⟨by omega, by (try simp only [Int.ofNat_eq_natCast]); omega⟩ (gR h0) (K85 hE _ _) (Kz97 hE (-1) 1 1024 r hm) oB (lend2 _ hE 69 _ _ 29 true (K69 hE [fI ((r.length : Int) != (r0.length : Int)) 2, mostE (-1) 1 1024 r] (by simp)) _ 3 rfl) (fun j => outK_ret (ends_ret (by kernel_rfl))) fun _ => undef)
theorem l134 (hE : EnvOk E) (L : List (List Int)) (r0 : List Int) (h0 : L[0]? = some r0) (hL : L.length ≤ 1000) (hr : ∀ r ∈ L, r.length ≤ 100000) : ∀ m i, m + i = L.length → ∀ j, OutK E 0 1 (y134 (rD L) L.length i j) (Go.Ev.Ends E Tryz.f134 (iI (rowsE r0.length (L.drop i))) (hcp L))
 | 0, i, hk, j => by
  obtain rfl : i = L.length := by omega
  rw [List.drop_length]
  exact p134x hE (rD L) L.length L.length dF (fun j => outK_ret (ends_ret (by kernel_rfl))) j
 | m + 1, i, hk, j => by
  have hl : i < L.length := by omega
  have hx : L[i]? = some L[i] := List.getElem?_eq_getElem hl
  have hm := hr L[i] (List.getElem_mem hl)
  rw [List.drop_eq_getElem_cons hl]
  generalize L[i] = r at hx hm
  by_cases h : rowE r0.length r = 0
  ·rw [show rowsE r0.length (r :: L.drop (i + 1)) = rowsE r0.length (L.drop (i + 1)) from if_pos h]
   exact p134s hE (rD L) (iD r) L.length r.length i (rowE r0.length r) dT bP (Nat.mul_one _) (gR hx) (K96 hE L r r0 h0 hm) (by rw [h]; rfl) (iIe (by (try simp only [Int.ofNat_eq_natCast]); rw [wrap_id (by omega) (by omega)]; try omega)) (l134 hE L r0 h0 hL hr m (i + 1) (by omega)) j
  ·rw [show rowsE r0.length (r :: L.drop (i + 1)) = rowE r0.length r from if_neg h]
   exact p134e hE (rD L) (iD r) L.length r.length i (rowE r0.length r) dT bP (Nat.mul_one _) (gR hx) (K96 hE L r r0 h0 hm) (bne_iff_ne.2 h) (fun j => outK_ret (ends_ret (by kernel_rfl))) j
theorem head0 {L : List (List Int)} {r0 : List Int} (h0 : L[0]? = some r0) : L.headD [] = r0 := by
 cases L with
 | nil => simp at h0
 | cons a l => simpa using h0
theorem K79 (hE : EnvOk E) (L : List (List Int)) (hL : L.length ≤ 1000) (hr : ∀ r ∈ L, r.length ≤ 100000) : COut E 0 (hcp L) 79 [dR L, iI 15, (.e (.one (.clo 96 [] [.one (.ptr 0 0)])))] (iI (copE L)) (hcp L) := by
 unfold copE
 by_cases h : L.length = 0
 ·rw [if_pos h]
  exact cOut_start Tryz.func79 rfl (p79z hE (rD L) L.length (by rw [h]; rfl) (fun j => outK_ret (ends_ret (by kernel_rfl))) fun _ => undef)
 ·rw [if_neg h]
  have hx : L[0]? = some L[0] := List.getElem?_eq_getElem (by omega)
  have K134 : COut E 0 (hcp L) 134 [dR L, (.e (.one (.clo 96 [] [.one (.ptr 0 0)])))] (iI (rowsE (L.headD []).length L)) (hcp L) := by
   rw [head0 hx]
   exact cOut_start Tryz.func134 rfl (p134a hE (rD L) L.length (l134 hE L L[0] hx hL hr L.length 0 rfl) fun _ => undef)
  have K88 : COut E 0 (hcp L) 88 [dR L, iI 15, (.e (.one (.clo 96 [] [.one (.ptr 0 0)])))] (iI (if (L.length : Int) > 15 then 5 else rowsE (L.headD []).length L)) (hcp L) := by
   by_cases h2 : (L.length : Int) > 15
   ·rw [if_pos h2]
    exact cOut_start Tryz.func88 rfl (p88m hE (rD L) L.length (decide_eq_true h2) (fun j => outK_ret (ends_ret (by kernel_rfl))) fun _ => undef)
   ·rw [if_neg h2]
    exact cOut_start Tryz.func88 rfl (p88s hE (rD L) L.length (rowsE (L.headD []).length L) (decide_eq_false h2) K134 (fun j => outK_ret (ends_ret (by kernel_rfl))) fun _ => undef)
  exact cOut_start Tryz.func79 rfl (p79s hE (rD L) L.length ((if (L.length : Int) > 15 then 5 else rowsE (L.headD []).length L)) (beq_eq_false_iff_ne.2 (by omega)) K88 (fun j => outK_ret (ends_ret (by kernel_rfl))) fun _ => undef)
def el (r : List Int) (k : Nat) : Int := (r[k]?).getD 0
def dlt (z : Int) : Int := if z = 1 then 1 else if z = 0 then -1 else 0
def leadF (k : Nat) : List (List Int) → Int → Int
 | [], a => a
 | r :: l, a => leadF k l (a + dlt (el r k))
def voteOf (a : Int) : Int := if 0 < a then 1 else if a < 0 then 0 else -1
def vo (L : List (List Int)) (k : Nat) : Int := voteOf (leadF k L 0)
def voN (L : List (List Int)) : Nat → List Int
 | 0 => []
 | k + 1 => voN L k ++ [vo L k]
theorem voN_len (L : List (List Int)) : ∀ k, (voN L k).length = k
 | 0 => rfl
 | k + 1 => by show (voN L k ++ [vo L k]).length = _; rw [List.length_append, voN_len L k]; rfl
theorem el_of {r : List Int} {k : Nat} {z : Int} (h : r[k]? = some z) : el r k = z := by unfold el; rw [h]; rfl
theorem getK {r : List Int} {k : Nat} (h : k < r.length) : r[k]? = some (el r k) := by unfold el; rw [List.getElem?_eq_getElem h]; rfl
theorem l98 (hE : EnvOk E) (L : List (List Int)) (k : Nat) (hL : L.length ≤ 1000) (hk : ∀ r ∈ L, k < r.length) : ∀ m i, m + i = L.length → ∀ lead : Int, -(i : Int) ≤ lead → lead ≤ i → ∀ j, OutK E 0 0 (y98 (rD L) L.length i k lead j) (Go.Ev.Ends E Tryz.f98 (iI (voteOf (leadF k (L.drop i) lead))) [])
 | 0, i, hi, lead, h1, h2, j => by
  obtain rfl : i = L.length := by omega
  rw [List.drop_length]
  show OutK E 0 0 _ (Go.Ev.Ends E Tryz.f98 (iI (if 0 < lead then 1 else if lead < 0 then 0 else -1)) [])
  by_cases a : 0 < lead
  ·rw [if_pos a]
   exact p98xg hE (rD L) L.length L.length k lead dF (decide_eq_true a) (fun j => outK_ret (ends_ret (by kernel_rfl))) j
  ·rw [if_neg a]
   by_cases b : lead < 0
   ·rw [if_pos b]
    exact p98xl hE (rD L) L.length L.length k lead dF (decide_eq_false a) (decide_eq_true b) (fun j => outK_ret (ends_ret (by kernel_rfl))) j
   ·rw [if_neg b]
    exact p98xz hE (rD L) L.length L.length k lead dF (decide_eq_false a) (decide_eq_false b) (fun j => outK_ret (ends_ret (by kernel_rfl))) j
 | m + 1, i, hi, lead, h1, h2, j => by
  have hl : i < L.length := by omega
  have hx : L[i]? = some L[i] := List.getElem?_eq_getElem hl
  have hkr := hk L[i] (List.getElem_mem hl)
  rw [List.drop_eq_getElem_cons hl]
  generalize L[i] = r at hx hkr
  have hz := getK hkr
  show OutK E 0 0 _ (Go.Ev.Ends E Tryz.f98 (iI (voteOf (leadF k (L.drop (i + 1)) (lead + dlt (el r k))))) [])
  generalize el r k = z at hz
  have hkr' : (k : Int) < (r.length : Int) := by omega
  unfold dlt
  by_cases a : z = 1
  ·rw [if_pos a]
   exact p98p hE (rD L) (iD r) L.length r.length i k ((lead + 1)) z lead dT bP (Nat.mul_one _) (gR hx) bP (Nat.mul_one _) (gI hz) (beq_iff_eq.2 a) (iIe (by (try simp only [Int.ofNat_eq_natCast]); rw [wrap_id (by omega) (by omega)]; try omega)) (iIe (by (try simp only [Int.ofNat_eq_natCast]); rw [wrap_id (by omega) (by omega)]; try omega)) (l98 hE L k hL hk m (i + 1) (by omega) (lead + 1) (by omega) (by omega)) j
  ·rw [if_neg a]
   by_cases b : z = 0
   ·rw [if_pos b]
    exact p98m hE (rD L) (iD r) L.length r.length i k ((lead + -1)) z lead dT bP (Nat.mul_one _) (gR hx) bP (Nat.mul_one _) (gI hz) (beq_eq_false_iff_ne.2 a) (beq_iff_eq.2 b) (iIe (by (try simp only [Int.ofNat_eq_natCast]); rw [wrap_id (by omega) (by omega)]; try omega)) (iIe (by (try simp only [Int.ofNat_eq_natCast]); rw [wrap_id (by omega) (by omega)]; try omega)) (l98 hE L k hL hk m (i + 1) (by omega) (lead + -1) (by omega) (by omega)) j
   ·rw [if_neg b]
    exact p98o hE (rD L) (iD r) L.length r.length i k z lead dT bP (Nat.mul_one _) (gR hx) bP (Nat.mul_one _) (gI hz) (beq_eq_false_iff_ne.2 a) (beq_eq_false_iff_ne.2 b) (iIe (by (try simp only [Int.ofNat_eq_natCast]); rw [wrap_id (by omega) (by omega)]; try omega)) (by rw [Int.add_zero]; exact l98 hE L k hL hk m (i + 1) (by omega) lead (by omega) (by omega)) j
theorem K98 (hE : EnvOk E) (L : List (List Int)) (k : Nat) (hL : L.length ≤ 1000) (hk : ∀ r ∈ L, k < r.length) : COut E 0 [] 98 [dR L, iI (Int.ofNat k)] (iI (vo L k)) [] :=
 cOut_start Tryz.func98 rfl (p98a hE (rD L) L.length k (l98 hE L k hL hk L.length 0 rfl 0 (by omega) (by omega)) fun _ => undef)
theorem l38 (hE : EnvOk E) (L : List (List Int)) (w : Nat) (hw : w ≤ 2000) (hL : L.length ≤ 1000) (hk : ∀ r ∈ L, r.length = w) : ∀ m i, m + i = w → ∀ j, OutK E 0 0 (y38 (rD L) L.length w i i (iC (voN L i)) j) (Go.Ev.Ends E Tryz.f38 (.tup [.one (.slc 0 0 w 1 w false), .one (.v (.int .i64 0))]) [some ⟨iC (voN L w), w, 3, false, .cells⟩])
 | 0, i, hm, j => by
  obtain rfl : i = w := by omega
  exact p38x hE (rD L) L.length i i i (iC (voN L i)) dF (by first | exact flat_iC _ | exact flat_rows _) (fun j => outK_ret (ends_ret (by kernel_rfl))) j
 | m + 1, i, hm, j => by
  exact p38s hE (rD L) L.length w i i (vo L i) (iC (voN L i)) (iC (voN L (i + 1))) dT (K98 hE L i hL (fun r hr => by rw [hk r hr]; omega)) (by omega) (by simp [small]; omega) oB (iC_app _ [_]) oB (iIe (by (try simp only [Int.ofNat_eq_natCast]); rw [wrap_id (by omega) (by omega)]; try omega)) (by first | exact flat_iC _ | exact flat_rows _) (l38 hE L w hw hL hk m (i + 1) (by omega)) j
theorem rows_w {w : Nat} : ∀ {L : List (List Int)}, rowsE w L = 0 → ∀ r ∈ L, r.length = w
 | [], _, r, hr => by simp at hr
 | a :: l, h, r, hr => by
  have h' : (if rowE w a = 0 then rowsE w l else rowE w a) = 0 := h
  by_cases c : rowE w a = 0
  ·rw [if_pos c] at h'
   rcases List.mem_cons.1 hr with rfl | hr
   ·unfold rowE at c
    rw [fI2] at c
    unfold fI at c
    by_cases d : ((r.length : Int) != (w : Int)) = true
    ·rw [if_pos d] at c
     exact absurd c (by rw [if_neg (by decide)]; decide)
    ·have : (r.length : Int) = w := by simpa using d
     omega
   ·exact rows_w h' r hr
  ·rw [if_neg c] at h'; exact absurd h' c
def vos (L : List (List Int)) : List Int := if copE L = 0 then voN L (L.headD []).length else []
theorem cop_0 {L : List (List Int)} (h : copE L = 0) : ∃ r0, L[0]? = some r0 ∧ ∀ r ∈ L, r.length = r0.length := by
 unfold copE at h
 by_cases h1 : L.length = 0
 ·rw [if_pos h1] at h; exact absurd h (by decide)
 ·rw [if_neg h1] at h
  by_cases h2 : (L.length : Int) > 15
  ·rw [if_pos h2] at h; exact absurd h (by decide)
  ·rw [if_neg h2] at h
   have hx : L[0]? = some L[0] := List.getElem?_eq_getElem (by omega)
   rw [head0 hx] at h
   exact ⟨_, hx, rows_w h⟩
theorem K38 (hE : EnvOk E) (L : List (List Int)) (hL : L.length ≤ 1000) (hr : ∀ r ∈ L, r.length ≤ 2000) : COut E 0 [] 38 [dR L] (.tup [.one (.dp (.s (iD (vos L)) (vos L).length 1)), .one (.v (.int .i64 (copE L)))]) [] := by
 have k79 := K79 hE L hL (fun r h => by have := hr r h; omega)
 by_cases h : copE L = 0
 ·obtain ⟨r0, h0, hk⟩ := cop_0 h
  have hl := (List.getElem?_eq_some_iff.1 h0).1
  have hw := hr r0 (List.mem_of_getElem? h0)
  have ev : vos L = voN L r0.length := by unfold vos; rw [if_pos h, head0 h0]
  rw [ev, h]
  rw [h] at k79
  by_cases hn : r0.length = 0
  ·have hc : COut E 0 [] 38 [dR L] (.tup [.one (.v (.slice none 0 0)), .one (.v (.int .i64 0))]) [] :=
    cOut_start Tryz.func38 rfl (p38a hE (rD L) (iD r0) L.length r0.length 0 k79 rfl ⟨by omega, by (try simp only [Int.ofNat_eq_natCast]); omega⟩ (gR h0) (p38y hE (rD L) L.length r0.length 0 dF (fun j => outK_ret (ends_ret (by kernel_rfl)))) fun _ => undef)
   rw [hn]
   exact tup_wk hc fun m => ⟨wkN m 1, fun _ h => h, trivial⟩
  ·have hc : COut E 0 [] 38 [dR L] (.tup [.one (.slc 0 0 r0.length 1 r0.length false), .one (.v (.int .i64 0))]) [some ⟨iC (voN L r0.length), r0.length, 3, false, .cells⟩] :=
    cOut_start Tryz.func38 rfl (p38a hE (rD L) (iD r0) L.length r0.length 0 k79 rfl ⟨by omega, by (try simp only [Int.ofNat_eq_natCast]); omega⟩ (gR h0) (p38n hE (rD L) L.length r0.length 0 (vo L 0) dT (K98 hE L 0 hL (fun r hr => by rw [hk r hr]; omega)) (iIe (by (try simp only [Int.ofNat_eq_natCast]); rw [wrap_id (by omega) (by omega)]; try omega)) (l38 hE L r0.length hw hL hk (r0.length - 1) 1 (by omega))) fun _ => undef)
   have := cOut_clear (cOut_freeze 0 hc rfl (Nat.zero_le _) (ds := iD (voN L r0.length)) (v' := .tup [.one (.dp (.s (iD (voN L r0.length)) r0.length 1)), .one (.v (.int .i64 0))]) ⟨frzAll (b := 0) (iD (voN L r0.length)) r0.length 1 r0.length false (by simp [voN_len]), .inl rfl, trivial⟩) rfl
   rw [show (voN L r0.length).length = r0.length from voN_len L _]
   exact this
 ·have ev : vos L = [] := by unfold vos; rw [if_neg h]
  rw [ev]
  have hc : COut E 0 [] 38 [dR L] (.tup [.one (.v (.slice none 0 0)), .one (.v (.int .i64 (copE L)))]) [] :=
   cOut_start Tryz.func38 rfl (p38e hE (rD L) L.length (copE L) k79 (bne_iff_ne.2 h) (fun j => outK_ret (ends_ret (by kernel_rfl))) fun _ => undef)
  exact tup_wk hc fun m => ⟨wkN m 1, fun _ h => h, trivial⟩
end
end Go.Proofs.YtaccakbjankeeaaGreatDoor
end

/-! SeBa -/
section
open Go Go.Ev
namespace Go.Proofs.YtaccakbjankeeaaGreatDoor
noncomputable section
set_option maxRecDepth 100000
set_option maxHeartbeats 20000000
def z94 (C : List DT) (n : Nat) (_j : JN) : St := startK Tryz.f94 [] [(dQ C n)]
def z84 (C : List DT) (n : Nat) (_j : JN) : St := startK Tryz.f84 [] [(dQ C n)]
def z31 (C : List DT) (n : Nat) (_j : JN) : St := startK Tryz.f31 [] [(dQ C n)]
def z37 (C C2 : List DT) (n n2 : Nat) (_j : JN) : St := startK Tryz.f37 [] [(dQ C n), (dQ C2 n2)]
def yz94 (C : List DT) (n i : Nat) (s : Int) (j : JN) : St := ⟨[], [(.code (aF [1, 1, 0, 1, 0, 0] Tryz.f94)), (.inLoop (aF [1, 1, 0, 1, 0, 0] Tryz.f94)), (.inBlock 0), (.code (aF [1, 1, 1] Tryz.f94))], mkT j [(0, (dQ C n)), (3, (iI s)), (4, (iN i))] 18 0⟩
def yz84 (C : List DT) (n i : Nat) (s : Int) (j : JN) : St := ⟨[], [(.code (aF [1, 1, 0, 1, 0, 0] Tryz.f84)), (.inLoop (aF [1, 1, 0, 1, 0, 0] Tryz.f84)), (.inBlock 0), (.code (aF [1, 1, 1] Tryz.f84))], mkT j [(0, (dQ C n)), (3, (iI s)), (6, (dQ C n)), (7, (iN n)), (8, (iN i))] 23 0⟩
def yz37 (C C2 : List DT) (n n2 i : Nat) (j : JN) : St := ⟨[], [(.code (aF [1, 1, 0, 1, 0, 0] Tryz.f37)), (.inLoop (aF [1, 1, 0, 1, 0, 0] Tryz.f37)), (.inBlock 0), (.code (aF [1, 1, 1] Tryz.f37))], mkT j [(0, (dQ C n)), (1, (dQ C2 n2)), (5, (iN i))] 26 0⟩
def p94a_end (C : List DT) (n : Nat) (j : JN) : St := ⟨[], [(.code (aF [1, 1, 0, 1, 0, 0] Tryz.f94)), (.inLoop (aF [1, 1, 0, 1, 0, 0] Tryz.f94)), (.inBlock 0), (.code (aF [1, 1, 1] Tryz.f94))], mkT j [(0, (dQ C n)), (3, (iI 0)), (4, (iI 0))] 18 0⟩
theorem p94a (hE : EnvOk E) (C : List DT) (n : Nat) {Φ : Res → Prop} (ho : ∀ j, OutK E 0 0 (p94a_end C n j) Φ) (j : JN) : OutK E 0 0 (z94 C n j) Φ :=
 oS hE [.run 9] [0, 3, 4] (ps := []) trivial
  ho
def p84a_end (C : List DT) (n : Nat) (j : JN) : St := ⟨[], [(.code (aF [1, 1, 0, 1, 0, 0] Tryz.f84)), (.inLoop (aF [1, 1, 0, 1, 0, 0] Tryz.f84)), (.inBlock 0), (.code (aF [1, 1, 1] Tryz.f84))], mkT j [(0, (dQ C n)), (3, (iI 0)), (6, (dQ C n)), (7, (iN n)), (8, (iI 0))] 23 0⟩
theorem p84a (hE : EnvOk E) (C : List DT) (n : Nat) {Φ : Res → Prop} (ho : ∀ j, OutK E 0 0 (p84a_end C n j) Φ) (j : JN) : OutK E 0 0 (z84 C n j) Φ :=
 oS hE [.run 6, (.ops [(1, (.d .len))] []), .run 2] [0, 3, 6, 7, 8] (ps := []) trivial
  ho
def p31_end (a : Int) (j : JN) : St := ⟨[], [(.code .ret)], mkT j [(2, (iI a))] 11 0⟩
theorem p31 (hE : EnvOk E) (C : List DT) (n : Nat) (e f g a : Int) (h0 : COut E 0 [] 93 [(dQ C n)] (iI e) []) (h2 : COut E 0 [] 94 [(dQ C n)] (iI g) []) (h4 : COut E 0 [] 32 [(iB (g == (0 : Int))), (iI 6)] (iI f) []) (h6 : COut E 1 [(bK [(.v (.int .i64 e)), (.v (.int .i64 f))] 2 3)] 17 [(.e (.one (.slc 0 0 2 1 2 true)))] (iI a) [(bK [(.v (.int .i64 e)), (.v (.int .i64 f))] 2 3)]) {Φ : Res → Prop} (ho : ∀ j, OutK E 0 0 (p31_end a j) Φ) (j : JN) : OutK E 0 0 (z31 C n j) Φ :=
 oS hE [.run 3, (.ops [(1, (.c0 (iI e))), (3, (.c0 (iI g))), (5, (.c0 (iI f))), (7, (.d (.c1 (iI a))))] [])] [2] (s' := fun j => ⟨[(bK [(.v (.int .i64 e)), (.v (.int .i64 f))] 2 3)], [(.code .ret)], mkT j [(2, (iI a))] 11 0⟩) (aP h0 <| aN <| aP h2 <| aN <| aP h4 <| aN <| aP h6 <| aN <| aZ)
  fun j => gZ [] (ho j)
def p37a_end (C C2 : List DT) (n n2 : Nat) (j : JN) : St := ⟨[], [(.code (aF [1, 1, 0, 1, 0, 0] Tryz.f37)), (.inLoop (aF [1, 1, 0, 1, 0, 0] Tryz.f37)), (.inBlock 0), (.code (aF [1, 1, 1] Tryz.f37))], mkT j [(0, (dQ C n)), (1, (dQ C2 n2)), (5, (iI 0))] 26 0⟩
theorem p37a (hE : EnvOk E) (C C2 : List DT) (n n2 : Nat) (h0 : ((↑n : Int) != (↑n2 : Int) : Bool) = false) {Φ : Res → Prop} (ho : ∀ j, OutK E 0 0 (p37a_end C C2 n n2 j) Φ) (j : JN) : OutK E 0 0 (z37 C C2 n n2 j) Φ :=
 oS hE [.run 4, (.ops [(1, (.d .len)), (3, (.d .len))] []), (.cond false), .run 6] [0, 1, 5] (aP h0 <| aZ)
  ho
def p94s_end (C : List DT) (n i : Nat) (g : Int) (j : JN) : St := ⟨[], [(.code (aF [1, 1, 0, 1, 0, 0] Tryz.f94)), (.inLoop (aF [1, 1, 0, 1, 0, 0] Tryz.f94)), (.inBlock 0), (.code (aF [1, 1, 1] Tryz.f94))], mkT j [(0, (dQ C n)), (3, (iI g)), (4, (iN (i + 1)))] 18 0⟩
theorem p94s (hE : EnvOk E) (C : List DT) (n i : Nat) (x g s : Int) (h0 : (decide (Int.ofNat i < (↑n : Int)) : Bool) = true) (h1 : (0 : Int) ≤ Int.ofNat i ∧ Int.ofNat i < (↑n : Int)) (h2 : ((Int.ofNat i).toNat * nat_lit 1 : Nat) = i) (h3 : (getL C i : Option DT) = (.some (.v (.int .i64 x)))) (h4 : ((iI (wrapF IntKind.i64 (s + x))) : AV) = (iI g)) (h5 : ((iI (wrapF IntKind.i64 (Int.ofNat i + (1 : Int)))) : AV) = (iN (i + 1))) {Φ : Res → Prop} (ho : ∀ j, OutK E 0 0 (p94s_end C n i g j) Φ) (j : JN) : OutK E 0 0 (yz94 C n i s j) Φ :=
 oS hE [.run 2, (.ops [(2, (.d .len))] []), (.cond true), .run 3, (.ops [(4, (.d (.ld (.v (.int .i64 x))))), (5, (.rn (iI g))), (3, (.d (.ix i)))] []), .run 1, (.ops [(1, (.rn (iN (i + 1))))] []), .run 1] [0, 3, 4] (aQ h0 h1 h2 h3 <| aP h4 <| aP h5 <| aZ)
  ho
def p94x_end (s : Int) (j : JN) : St := ⟨[], [(.code .ret)], mkT j [(2, (iI s))] 18 0⟩
theorem p94x (hE : EnvOk E) (C : List DT) (n i : Nat) (s : Int) (h0 : (decide (Int.ofNat i < (↑n : Int)) : Bool) = false) {Φ : Res → Prop} (ho : ∀ j, OutK E 0 0 (p94x_end s j) Φ) (j : JN) : OutK E 0 0 (yz94 C n i s j) Φ :=
 oS hE [.run 2, (.ops [(2, (.d .len))] []), (.cond false), .run 3] [2] (aP h0 <| aZ)
  ho
def p84s_end (C : List DT) (n i : Nat) (g : Int) (j : JN) : St := ⟨[], [(.code (aF [1, 1, 0, 1, 0, 0] Tryz.f84)), (.inLoop (aF [1, 1, 0, 1, 0, 0] Tryz.f84)), (.inBlock 0), (.code (aF [1, 1, 1] Tryz.f84))], mkT j [(0, (dQ C n)), (3, (iI g)), (6, (dQ C n)), (7, (iN n)), (8, (iN (i + 1)))] 23 0⟩
theorem p84s (hE : EnvOk E) (C : List DT) (n i : Nat) (x g s : Int) (h0 : (decide (Int.ofNat i < Int.ofNat n) : Bool) = true) (h1 : (0 : Int) ≤ Int.ofNat i ∧ Int.ofNat i < (↑n : Int)) (h2 : ((Int.ofNat i).toNat * nat_lit 1 : Nat) = i) (h3 : (getL C i : Option DT) = (.some (.v (.int .i64 x)))) (h4 : ((iI (wrapF IntKind.i64 (s + x))) : AV) = (iI g)) (h5 : ((iI (wrapF IntKind.i64 (Int.ofNat i + (1 : Int)))) : AV) = (iN (i + 1))) {Φ : Res → Prop} (ho : ∀ j, OutK E 0 0 (p84s_end C n i g j) Φ) (j : JN) : OutK E 0 0 (yz84 C n i s j) Φ :=
 oS hE [.run 3, (.cond true), .run 4, (.ops [(1, (.d (.ld (.v (.int .i64 x))))), (0, (.d (.ix i)))] []), (.ops [(2, (.rn (iI g)))] []), .run 1, (.ops [(0, (.rn (iN (i + 1))))] []), .run 1] [0, 3, 6, 7, 8] (aQ h0 h1 h2 h3 <| aP h4 <| aP h5 <| aZ)
  ho
def p84x_end (a : Int) (j : JN) : St := ⟨[], [(.code .ret)], mkT j [(2, (iI a))] 23 0⟩
theorem p84x (hE : EnvOk E) (C : List DT) (n i : Nat) (e f a s : Int) (h0 : (decide (Int.ofNat i < Int.ofNat n) : Bool) = false) (h1 : COut E 0 [] 133 [(dQ C n)] (iI e) []) (h3 : COut E 0 [] 85 [(iB (s == (0 : Int))), (iI 6)] (iI f) []) (h5 : COut E 1 [(bK [(.v (.int .i64 e)), (.v (.int .i64 f))] 2 29)] 69 [(.e (.one (.slc 0 0 2 1 2 true)))] (iI a) [(bK [(.v (.int .i64 e)), (.v (.int .i64 f))] 2 29)]) {Φ : Res → Prop} (ho : ∀ j, OutK E 0 0 (p84x_end a j) Φ) (j : JN) : OutK E 0 0 (yz84 C n i s j) Φ :=
 oS hE [.run 3, (.cond false), .run 2, (.ops [(1, (.c0 (iI e))), (4, (.c0 (iI f))), (6, (.d (.c1 (iI a))))] [])] [2] (s' := fun j => ⟨[(bK [(.v (.int .i64 e)), (.v (.int .i64 f))] 2 29)], [(.code .ret)], mkT j [(2, (iI a))] 23 0⟩) (aP h0 <| aP h1 <| aN <| aP h3 <| aN <| aP h5 <| aN <| aZ)
  fun j => gZ [] (ho j)
def p37s_end (C C2 : List DT) (n n2 i : Nat) (j : JN) : St := ⟨[], [(.code (aF [1, 1, 0, 1, 0, 0] Tryz.f37)), (.inLoop (aF [1, 1, 0, 1, 0, 0] Tryz.f37)), (.inBlock 0), (.code (aF [1, 1, 1] Tryz.f37))], mkT j [(0, (dQ C n)), (1, (dQ C2 n2)), (5, (iN (i + 1)))] 26 0⟩
theorem p37s (hE : EnvOk E) (C C2 : List DT) (n n2 i : Nat) (p q : Bool) (h0 : (decide (Int.ofNat i < (↑n : Int)) : Bool) = true) (h1 : (0 : Int) ≤ Int.ofNat i ∧ Int.ofNat i < (↑n : Int)) (h2 : ((Int.ofNat i).toNat * nat_lit 1 : Nat) = i) (h3 : (getL C i : Option DT) = (.some (.v (.bool p)))) (h4 : (0 : Int) ≤ Int.ofNat i ∧ Int.ofNat i < (↑n2 : Int)) (h6 : (getL C2 i : Option DT) = (.some (.v (.bool q)))) (h8 : (!p == q : Bool) = false) (h9 : ((iI (wrapF IntKind.i64 (Int.ofNat i + (1 : Int)))) : AV) = (iN (i + 1))) {Φ : Res → Prop} (ho : ∀ j, OutK E 0 0 (p37s_end C C2 n n2 i j) Φ) (j : JN) : OutK E 0 0 (yz37 C C2 n n2 i j) Φ :=
 oS hE [.run 2, (.ops [(2, (.d .len))] []), (.cond true), .run 4, (.ops [(3, (.d (.ld (.v (.bool p))))), (7, (.d (.ld (.v (.bool q))))), (2, (.d (.ix i))), (6, (.d (.ix i)))] []), (.cond false), .run 2, (.ops [(1, (.rn (iN (i + 1))))] []), .run 1] [0, 1, 5] (aQ h0 h1 h2 h3 <| aP h4 <| aP h2 <| aP h6 <| aV <| aP h8 <| aP h9 <| aZ)
  ho
def p37x_end (j : JN) : St := ⟨[], [(.code .ret)], mkT j [(4, (iB true))] 26 0⟩
theorem p37x (hE : EnvOk E) (C C2 : List DT) (n n2 i : Nat) (h0 : (decide (Int.ofNat i < (↑n : Int)) : Bool) = false) {Φ : Res → Prop} (ho : ∀ j, OutK E 0 0 (p37x_end j) Φ) (j : JN) : OutK E 0 0 (yz37 C C2 n n2 i j) Φ :=
 oS hE [.run 2, (.ops [(2, (.d .len))] []), (.cond false), .run 3] [4] (aP h0 <| aZ)
  ho
def totF : List Int → Int → Int
 | [], s => s
 | x :: r, s => totF r (wrapF .i64 (s + x))
def bearE (xs : List Int) : Int := firstI [mapE xs, fI (totF xs 0 == 0) 6]
theorem l94 (hE : EnvOk E) (xs : List Int) (hm : xs.length ≤ 100000) : ∀ k i, k + i = xs.length → ∀ s j, OutK E 0 0 (yz94 (iD xs) xs.length i s j) (Go.Ev.Ends E Tryz.f94 (iI (totF (xs.drop i) s)) [])
 | 0, i, hk, s, j => by
  obtain rfl : i = xs.length := by omega
  rw [List.drop_length]
  exact p94x hE (iD xs) xs.length xs.length s dF (fun j => outK_ret (ends_ret (by kernel_rfl))) j
 | k + 1, i, hk, s, j => by
  have hl : i < xs.length := by omega
  have hx : xs[i]? = some xs[i] := List.getElem?_eq_getElem hl
  rw [List.drop_eq_getElem_cons hl]
  generalize xs[i] = x at hx
  exact p94s hE (iD xs) xs.length i x (wrapF .i64 (s + x)) s dT bP (Nat.mul_one _) (gI hx) rfl (iIe (by (try simp only [Int.ofNat_eq_natCast]); rw [wrap_id (by omega) (by omega)]; try omega)) (l94 hE xs hm k (i + 1) (by omega) _) j
theorem l84 (hE : EnvOk E) (xs : List Int) (hm : xs.length ≤ 100000) : ∀ k i, k + i = xs.length → ∀ s j, OutK E 0 0 (yz84 (iD xs) xs.length i s j) (Go.Ev.Ends E Tryz.f84 (iI (firstI [mapE xs, fI (totF (xs.drop i) s == 0) 6])) [])
 | 0, i, hk, s, j => by
  obtain rfl : i = xs.length := by omega
  rw [List.drop_length]
  exact p84x hE (iD xs) xs.length xs.length (mapE xs) (fI (s == 0) 6) (firstI [mapE xs, fI (s == 0) 6]) s dF (K133 hE xs hm) (K85 hE _ _) (lend2 _ hE 69 _ _ 29 true (K69 hE [mapE xs, fI (s == 0) 6] (by simp)) _ 0 rfl) (fun j => outK_ret (ends_ret (by kernel_rfl))) j
 | k + 1, i, hk, s, j => by
  have hl : i < xs.length := by omega
  have hx : xs[i]? = some xs[i] := List.getElem?_eq_getElem hl
  rw [List.drop_eq_getElem_cons hl]
  generalize xs[i] = x at hx
  exact p84s hE (iD xs) xs.length i x (wrapF .i64 (s + x)) s dT bP (Nat.mul_one _) (gI hx) rfl (iIe (by (try simp only [Int.ofNat_eq_natCast]); rw [wrap_id (by omega) (by omega)]; try omega)) (l84 hE xs hm k (i + 1) (by omega) _) j
theorem K94 (hE : EnvOk E) (xs : List Int) (hm : xs.length ≤ 100000) : COut E 0 [] 94 [dI xs] (iI (totF xs 0)) [] := cOut_start Tryz.func94 rfl (p94a hE (iD xs) xs.length (l94 hE xs hm xs.length 0 rfl 0) fun _ => undef)
theorem K84 (hE : EnvOk E) (xs : List Int) (hm : xs.length ≤ 100000) : COut E 0 [] 84 [dI xs] (iI (bearE xs)) [] := cOut_clear (cOut_start Tryz.func84 rfl (p84a hE (iD xs) xs.length (l84 hE xs hm xs.length 0 rfl 0) fun _ => undef)) rfl
theorem K31 (hE : EnvOk E) (xs : List Int) (hm : xs.length ≤ 100000) : COut E 0 [] 31 [dI xs] (iI (bearE xs)) [] := cOut_clear (cOut_start Tryz.func31 rfl (p31 hE (iD xs) xs.length (mapE xs) (fI (totF xs 0 == 0) 6) (totF xs 0) (bearE xs) (K93 hE xs hm) (K94 hE xs hm) (K32 hE _ _) (lend2 _ hE 17 _ _ 3 true (K17 hE [mapE xs, fI (totF xs 0 == 0) 6] (by simp)) _ 0 rfl) (fun j => outK_ret (ends_ret (by kernel_rfl))) fun _ => undef)) rfl
def shortS (L M : List (List Int)) : Prop := (∀ r ∈ M, r.length ≤ 9) ∧ (L.length ≤ 24 ∨ L.length = 1025)
instance (L M : List (List Int)) : Decidable (shortS L M) := by unfold shortS; infer_instance
abbrev bbD (l : List Bool) : List DT := l.map fun b => .v (.bool b)
abbrev bbC (l : List Bool) : List AC := (bbD l).map DT.ac
abbrev dB (l : List Bool) : AV := .e (.one (.dp (.s (bbD l) l.length 1)))
theorem gB {l : List Bool} {i : Nat} {b : Bool} (h : l[i]? = some b) : getL (bbD l) i = some (.v (.bool b)) := by rw [getL_eq, List.getElem?_map, h]; rfl
theorem l37 (hE : EnvOk E) (l : List Bool) (hm : l.length ≤ 100000) : ∀ k i, k + i = l.length → ∀ j, OutK E 0 0 (yz37 (bbD l) (bbD l) l.length l.length i j) (Go.Ev.Ends E Tryz.f37 (iB true) [])
 | 0, i, hk, j => by
  obtain rfl : i = l.length := by omega
  exact p37x hE (bbD l) (bbD l) l.length l.length l.length dF (fun j => outK_ret (ends_ret (by kernel_rfl))) j
 | k + 1, i, hk, j => by
  have hl : i < l.length := by omega
  have hx : l[i]? = some l[i] := List.getElem?_eq_getElem hl
  generalize l[i] = b at hx
  exact p37s hE (bbD l) (bbD l) l.length l.length i b b dT bP (Nat.mul_one _) (gB hx) bP (gB hx) oB (iIe (by (try simp only [Int.ofNat_eq_natCast]); rw [wrap_id (by omega) (by omega)]; try omega)) (l37 hE l hm k (i + 1) (by omega)) j
theorem K37 (hE : EnvOk E) (l : List Bool) (hm : l.length ≤ 100000) : COut E 0 [] 37 [dB l, dB l] (iB true) [] := cOut_start Tryz.func37 rfl (p37a hE (bbD l) (bbD l) l.length l.length (by simp) (l37 hE l hm l.length 0 rfl) fun _ => undef)
end
end Go.Proofs.YtaccakbjankeeaaGreatDoor
end

/-! SeBb -/
section
open Go Go.Ev Go.Proofs
namespace Go.Proofs.YtaccakbjankeeaaGreatDoor
set_option maxRecDepth 100000
set_option maxHeartbeats 20000000
def lvT : List Int := [0, 1, 3, 2, 7, 6, 4, 5, 15, 14, 12, 13, 8, 9, 11, 10, 31, 30, 28, 29, 24, 25, 27, 26, 16, 17, 19, 18, 23, 22, 20, 21, 63, 62, 60, 61, 56, 57, 59, 58, 48, 49, 51, 50, 55, 54, 52, 53, 32, 33, 35, 34, 39, 38, 36, 37, 47, 46, 44, 45, 40, 41, 43, 42]
def nbT : List Int := [0, 1, 3, 2, 6, 7, 5, 4, 12, 13, 15, 14, 10, 11, 9, 8, 24, 25, 27, 26, 30, 31, 29, 28, 20, 21, 23, 22, 18, 19, 17, 16, 48, 49, 51, 50, 54, 55, 53, 52, 60, 61, 63, 62, 58, 59, 57, 56, 40, 41, 43, 42, 46, 47, 45, 44, 36, 37, 39, 38, 34, 35, 33, 32]
theorem K75 (hE : EnvOk E) : ∀ n : Nat, n < 7 → COut E 0 [] 75 [iI (Int.ofNat n)] (iI (2 ^ n)) []
 | 0, _ => cOut_run (n := 400) hE (by kernel_rfl)
 | 1, _ => cOut_run (n := 400) hE (by kernel_rfl)
 | 2, _ => cOut_run (n := 400) hE (by kernel_rfl)
 | 3, _ => cOut_run (n := 400) hE (by kernel_rfl)
 | 4, _ => cOut_run (n := 400) hE (by kernel_rfl)
 | 5, _ => cOut_run (n := 400) hE (by kernel_rfl)
 | 6, _ => cOut_run (n := 400) hE (by kernel_rfl)
 | n + 7, h => absurd h (by omega)
theorem K87 (hE : EnvOk E) : ∀ n : Nat, n < 64 → COut E 0 [] 87 [iI (Int.ofNat n)] (iI (lvT.getD n 0)) []
 | 0, _ => cOut_run (n := 400) hE (by kernel_rfl)
 | 1, _ => cOut_run (n := 400) hE (by kernel_rfl)
 | 2, _ => cOut_run (n := 400) hE (by kernel_rfl)
 | 3, _ => cOut_run (n := 400) hE (by kernel_rfl)
 | 4, _ => cOut_run (n := 400) hE (by kernel_rfl)
 | 5, _ => cOut_run (n := 400) hE (by kernel_rfl)
 | 6, _ => cOut_run (n := 400) hE (by kernel_rfl)
 | 7, _ => cOut_run (n := 400) hE (by kernel_rfl)
 | 8, _ => cOut_run (n := 400) hE (by kernel_rfl)
 | 9, _ => cOut_run (n := 400) hE (by kernel_rfl)
 | 10, _ => cOut_run (n := 400) hE (by kernel_rfl)
 | 11, _ => cOut_run (n := 400) hE (by kernel_rfl)
 | 12, _ => cOut_run (n := 400) hE (by kernel_rfl)
 | 13, _ => cOut_run (n := 400) hE (by kernel_rfl)
 | 14, _ => cOut_run (n := 400) hE (by kernel_rfl)
 | 15, _ => cOut_run (n := 400) hE (by kernel_rfl)
 | 16, _ => cOut_run (n := 400) hE (by kernel_rfl)
 | 17, _ => cOut_run (n := 400) hE (by kernel_rfl)
 | 18, _ => cOut_run (n := 400) hE (by kernel_rfl)
 | 19, _ => cOut_run (n := 400) hE (by kernel_rfl)
 | 20, _ => cOut_run (n := 400) hE (by kernel_rfl)
 | 21, _ => cOut_run (n := 400) hE (by kernel_rfl)
 | 22, _ => cOut_run (n := 400) hE (by kernel_rfl)
 | 23, _ => cOut_run (n := 400) hE (by kernel_rfl)
 | 24, _ => cOut_run (n := 400) hE (by kernel_rfl)
 | 25, _ => cOut_run (n := 400) hE (by kernel_rfl)
 | 26, _ => cOut_run (n := 400) hE (by kernel_rfl)
 | 27, _ => cOut_run (n := 400) hE (by kernel_rfl)
 | 28, _ => cOut_run (n := 400) hE (by kernel_rfl)
 | 29, _ => cOut_run (n := 400) hE (by kernel_rfl)
 | 30, _ => cOut_run (n := 400) hE (by kernel_rfl)
 | 31, _ => cOut_run (n := 400) hE (by kernel_rfl)
 | 32, _ => cOut_run (n := 400) hE (by kernel_rfl)
 | 33, _ => cOut_run (n := 400) hE (by kernel_rfl)
 | 34, _ => cOut_run (n := 400) hE (by kernel_rfl)
 | 35, _ => cOut_run (n := 400) hE (by kernel_rfl)
 | 36, _ => cOut_run (n := 400) hE (by kernel_rfl)
 | 37, _ => cOut_run (n := 400) hE (by kernel_rfl)
 | 38, _ => cOut_run (n := 400) hE (by kernel_rfl)
 | 39, _ => cOut_run (n := 400) hE (by kernel_rfl)
 | 40, _ => cOut_run (n := 400) hE (by kernel_rfl)
 | 41, _ => cOut_run (n := 400) hE (by kernel_rfl)
 | 42, _ => cOut_run (n := 400) hE (by kernel_rfl)
 | 43, _ => cOut_run (n := 400) hE (by kernel_rfl)
 | 44, _ => cOut_run (n := 400) hE (by kernel_rfl)
 | 45, _ => cOut_run (n := 400) hE (by kernel_rfl)
 | 46, _ => cOut_run (n := 400) hE (by kernel_rfl)
 | 47, _ => cOut_run (n := 400) hE (by kernel_rfl)
 | 48, _ => cOut_run (n := 400) hE (by kernel_rfl)
 | 49, _ => cOut_run (n := 400) hE (by kernel_rfl)
 | 50, _ => cOut_run (n := 400) hE (by kernel_rfl)
 | 51, _ => cOut_run (n := 400) hE (by kernel_rfl)
 | 52, _ => cOut_run (n := 400) hE (by kernel_rfl)
 | 53, _ => cOut_run (n := 400) hE (by kernel_rfl)
 | 54, _ => cOut_run (n := 400) hE (by kernel_rfl)
 | 55, _ => cOut_run (n := 400) hE (by kernel_rfl)
 | 56, _ => cOut_run (n := 400) hE (by kernel_rfl)
 | 57, _ => cOut_run (n := 400) hE (by kernel_rfl)
 | 58, _ => cOut_run (n := 400) hE (by kernel_rfl)
 | 59, _ => cOut_run (n := 400) hE (by kernel_rfl)
 | 60, _ => cOut_run (n := 400) hE (by kernel_rfl)
 | 61, _ => cOut_run (n := 400) hE (by kernel_rfl)
 | 62, _ => cOut_run (n := 400) hE (by kernel_rfl)
 | 63, _ => cOut_run (n := 400) hE (by kernel_rfl)
 | n + 64, h => absurd h (by omega)
theorem K92 (hE : EnvOk E) : ∀ n : Nat, n < 64 → COut E 0 [] 92 [iI (Int.ofNat n)] (iI (nbT.getD n 0)) []
 | 0, _ => cOut_run (n := 400) hE (by kernel_rfl)
 | 1, _ => cOut_run (n := 400) hE (by kernel_rfl)
 | 2, _ => cOut_run (n := 400) hE (by kernel_rfl)
 | 3, _ => cOut_run (n := 400) hE (by kernel_rfl)
 | 4, _ => cOut_run (n := 400) hE (by kernel_rfl)
 | 5, _ => cOut_run (n := 400) hE (by kernel_rfl)
 | 6, _ => cOut_run (n := 400) hE (by kernel_rfl)
 | 7, _ => cOut_run (n := 400) hE (by kernel_rfl)
 | 8, _ => cOut_run (n := 400) hE (by kernel_rfl)
 | 9, _ => cOut_run (n := 400) hE (by kernel_rfl)
 | 10, _ => cOut_run (n := 400) hE (by kernel_rfl)
 | 11, _ => cOut_run (n := 400) hE (by kernel_rfl)
 | 12, _ => cOut_run (n := 400) hE (by kernel_rfl)
 | 13, _ => cOut_run (n := 400) hE (by kernel_rfl)
 | 14, _ => cOut_run (n := 400) hE (by kernel_rfl)
 | 15, _ => cOut_run (n := 400) hE (by kernel_rfl)
 | 16, _ => cOut_run (n := 400) hE (by kernel_rfl)
 | 17, _ => cOut_run (n := 400) hE (by kernel_rfl)
 | 18, _ => cOut_run (n := 400) hE (by kernel_rfl)
 | 19, _ => cOut_run (n := 400) hE (by kernel_rfl)
 | 20, _ => cOut_run (n := 400) hE (by kernel_rfl)
 | 21, _ => cOut_run (n := 400) hE (by kernel_rfl)
 | 22, _ => cOut_run (n := 400) hE (by kernel_rfl)
 | 23, _ => cOut_run (n := 400) hE (by kernel_rfl)
 | 24, _ => cOut_run (n := 400) hE (by kernel_rfl)
 | 25, _ => cOut_run (n := 400) hE (by kernel_rfl)
 | 26, _ => cOut_run (n := 400) hE (by kernel_rfl)
 | 27, _ => cOut_run (n := 400) hE (by kernel_rfl)
 | 28, _ => cOut_run (n := 400) hE (by kernel_rfl)
 | 29, _ => cOut_run (n := 400) hE (by kernel_rfl)
 | 30, _ => cOut_run (n := 400) hE (by kernel_rfl)
 | 31, _ => cOut_run (n := 400) hE (by kernel_rfl)
 | 32, _ => cOut_run (n := 400) hE (by kernel_rfl)
 | 33, _ => cOut_run (n := 400) hE (by kernel_rfl)
 | 34, _ => cOut_run (n := 400) hE (by kernel_rfl)
 | 35, _ => cOut_run (n := 400) hE (by kernel_rfl)
 | 36, _ => cOut_run (n := 400) hE (by kernel_rfl)
 | 37, _ => cOut_run (n := 400) hE (by kernel_rfl)
 | 38, _ => cOut_run (n := 400) hE (by kernel_rfl)
 | 39, _ => cOut_run (n := 400) hE (by kernel_rfl)
 | 40, _ => cOut_run (n := 400) hE (by kernel_rfl)
 | 41, _ => cOut_run (n := 400) hE (by kernel_rfl)
 | 42, _ => cOut_run (n := 400) hE (by kernel_rfl)
 | 43, _ => cOut_run (n := 400) hE (by kernel_rfl)
 | 44, _ => cOut_run (n := 400) hE (by kernel_rfl)
 | 45, _ => cOut_run (n := 400) hE (by kernel_rfl)
 | 46, _ => cOut_run (n := 400) hE (by kernel_rfl)
 | 47, _ => cOut_run (n := 400) hE (by kernel_rfl)
 | 48, _ => cOut_run (n := 400) hE (by kernel_rfl)
 | 49, _ => cOut_run (n := 400) hE (by kernel_rfl)
 | 50, _ => cOut_run (n := 400) hE (by kernel_rfl)
 | 51, _ => cOut_run (n := 400) hE (by kernel_rfl)
 | 52, _ => cOut_run (n := 400) hE (by kernel_rfl)
 | 53, _ => cOut_run (n := 400) hE (by kernel_rfl)
 | 54, _ => cOut_run (n := 400) hE (by kernel_rfl)
 | 55, _ => cOut_run (n := 400) hE (by kernel_rfl)
 | 56, _ => cOut_run (n := 400) hE (by kernel_rfl)
 | 57, _ => cOut_run (n := 400) hE (by kernel_rfl)
 | 58, _ => cOut_run (n := 400) hE (by kernel_rfl)
 | 59, _ => cOut_run (n := 400) hE (by kernel_rfl)
 | 60, _ => cOut_run (n := 400) hE (by kernel_rfl)
 | 61, _ => cOut_run (n := 400) hE (by kernel_rfl)
 | 62, _ => cOut_run (n := 400) hE (by kernel_rfl)
 | 63, _ => cOut_run (n := 400) hE (by kernel_rfl)
 | n + 64, h => absurd h (by omega)
end Go.Proofs.YtaccakbjankeeaaGreatDoor
end

/-! SeBc -/
section
open Go Go.Ev
namespace Go.Proofs.YtaccakbjankeeaaGreatDoor
noncomputable section
set_option maxRecDepth 100000
set_option maxHeartbeats 20000000
def x86 (C : List DT) (n k : Nat) (_j : JN) : St := startK Tryz.f86 [] [(dQ C n), (iN k)]
def y86 (i k : Nat) (a : Int) (D : List DT) (m : Nat) (j : JN) : St := ⟨[], [(.code (aF [1, 1, 0, 1, 0, 0] Tryz.f86)), (.inLoop (aF [1, 1, 0, 1, 0, 0] Tryz.f86)), (.inBlock 0), (.code (aF [1, 1, 1] Tryz.f86))], mkT j [(0, (dQ D m)), (6, (iI a)), (7, (iN k)), (8, (iN i))] 25 0⟩
def p86a_end (C : List DT) (n k : Nat) (j : JN) : St := ⟨[], [(.code (aF [1, 1, 0, 1, 0, 0] Tryz.f86)), (.inLoop (aF [1, 1, 0, 1, 0, 0] Tryz.f86)), (.inBlock 0), (.code (aF [1, 1, 1] Tryz.f86))], mkT j [(0, (dQ C n)), (6, (iI 0)), (7, (iN k)), (8, (iI 0))] 25 0⟩
theorem p86a (hE : EnvOk E) (C : List DT) (n k : Nat) {Φ : Res → Prop} (ho : ∀ j, OutK E 0 0 (p86a_end C n k j) Φ) (j : JN) : OutK E 0 0 (x86 C n k j) Φ :=
 oS hE [.run 9] [0, 6, 7, 8] (ps := []) trivial
  ho
def p86e_end (i k : Nat) (g : Int) (D : List DT) (m : Nat) (j : JN) : St := ⟨[], [(.code (aF [1, 1, 0, 1, 0, 0] Tryz.f86)), (.inLoop (aF [1, 1, 0, 1, 0, 0] Tryz.f86)), (.inBlock 0), (.code (aF [1, 1, 1] Tryz.f86))], mkT j [(0, (dQ D m)), (6, (iI g)), (7, (iN k)), (8, (iN (i + 1)))] 25 0⟩
theorem p86e (hE : EnvOk E) (i k : Nat) (g a : Int) (D : List DT) (m : Nat) (h0 : (decide (Int.ofNat i < Int.ofNat k) : Bool) = true) (h1 : ((iI (wrapF IntKind.i64 (a * (2 : Int)))) : AV) = (iI g)) (h2 : ((↑m : Int) == (0 : Int) : Bool) = true) (h3 : ((iI (wrapF IntKind.i64 (Int.ofNat i + (1 : Int)))) : AV) = (iN (i + 1))) {Φ : Res → Prop} (ho : ∀ j, OutK E 0 0 (p86e_end i k g D m j) Φ) (j : JN) : OutK E 0 0 (y86 i k a D m j) Φ :=
 oS hE [.run 3, (.cond true), .run 4, (.ops [(1, (.rn (iI g)))] []), .run 2, (.ops [(1, (.d .len))] []), (.cond true), .run 1, (.ops [(0, (.rn (iN (i + 1))))] []), .run 1] [0, 6, 7, 8] (aQ h0 h1 h2 h3 <| aZ)
  ho
def p86f_end (i k : Nat) (g : Int) (D : List DT) (m : Nat) (j : JN) : St := ⟨[], [(.code (aF [1, 1, 0, 1, 0, 0] Tryz.f86)), (.inLoop (aF [1, 1, 0, 1, 0, 0] Tryz.f86)), (.inBlock 0), (.code (aF [1, 1, 1] Tryz.f86))], mkT j [(0, (.e (.one (.dp (.s (List.drop (1 : Nat) D) (m - (1 : Nat)) 1))))), (6, (iI g)), (7, (iN k)), (8, (iN (i + 1)))] 25 0⟩
theorem p86f (hE : EnvOk E) (i k : Nat) (g a : Int) (b : Bool) (D : List DT) (m : Nat) (h0 : (decide (Int.ofNat i < Int.ofNat k) : Bool) = true) (h1 : ((iI (wrapF IntKind.i64 (a * (2 : Int)))) : AV) = (iI g)) (h2 : ((↑m : Int) == (0 : Int) : Bool) = false) (h3 : (0 : Int) ≤ (0 : Int) ∧ (0 : Int) < (↑m : Int)) (h5 : (getL D (nat_lit 0) : Option DT) = (.some (.v (.bool b)))) (h6 : (b : Bool) = false) (h9 : (1 : Nat) ≤ m ∧ m ≤ m) (h10 : (takeL (dropL D (1 : Nat)) ((m - (1 : Nat)) * nat_lit 1) : Option (List DT)) = (.some (List.drop (1 : Nat) D))) (h11 : ((iI (wrapF IntKind.i64 (Int.ofNat i + (1 : Int)))) : AV) = (iN (i + 1))) {Φ : Res → Prop} (ho : ∀ j, OutK E 0 0 (p86f_end i k g D m j) Φ) (j : JN) : OutK E 0 0 (y86 i k a D m j) Φ :=
 oS hE [.run 3, (.cond true), .run 4, (.ops [(1, (.rn (iI g)))] []), .run 2, (.ops [(1, (.d .len))] []), (.cond false), .run 3, (.ops [(2, (.d (.ld (.v (.bool b))))), (1, (.d (.ix 0)))] []), (.cond false), .run 1, (.ops [(1, (.d (.sl 1 m (List.drop (1 : Nat) D))))] []), .run 1, (.ops [(0, (.rn (iN (i + 1))))] []), .run 1] [0, 6, 7, 8] (aQ h0 h1 h2 h3 <| aP (rfl : ((0 : Nat) : Nat) = nat_lit 0) <| aP h5 <| aP h6 <| aP (rfl : ((1 : Int) : Int) = Int.ofNat (1 : Nat)) <| aP (rfl : (Int.ofNat m : Int) = Int.ofNat m) <| aP h9 <| aP h10 <| aP h11 <| aZ)
  ho
def p86t_end (i k : Nat) (h : Int) (D : List DT) (m : Nat) (j : JN) : St := ⟨[], [(.code (aF [1, 1, 0, 1, 0, 0] Tryz.f86)), (.inLoop (aF [1, 1, 0, 1, 0, 0] Tryz.f86)), (.inBlock 0), (.code (aF [1, 1, 1] Tryz.f86))], mkT j [(0, (.e (.one (.dp (.s (List.drop (1 : Nat) D) (m - (1 : Nat)) 1))))), (6, (iI h)), (7, (iN k)), (8, (iN (i + 1)))] 25 0⟩
theorem p86t (hE : EnvOk E) (i k : Nat) (g h a : Int) (b : Bool) (D : List DT) (m : Nat) (h0 : (decide (Int.ofNat i < Int.ofNat k) : Bool) = true) (h1 : ((iI (wrapF IntKind.i64 (a * (2 : Int)))) : AV) = (iI g)) (h2 : ((↑m : Int) == (0 : Int) : Bool) = false) (h3 : (0 : Int) ≤ (0 : Int) ∧ (0 : Int) < (↑m : Int)) (h5 : (getL D (nat_lit 0) : Option DT) = (.some (.v (.bool b)))) (h6 : (b : Bool) = true) (h7 : ((iI (wrapF IntKind.i64 (g + (1 : Int)))) : AV) = (iI h)) (h10 : (1 : Nat) ≤ m ∧ m ≤ m) (h11 : (takeL (dropL D (1 : Nat)) ((m - (1 : Nat)) * nat_lit 1) : Option (List DT)) = (.some (List.drop (1 : Nat) D))) (h12 : ((iI (wrapF IntKind.i64 (Int.ofNat i + (1 : Int)))) : AV) = (iN (i + 1))) {Φ : Res → Prop} (ho : ∀ j, OutK E 0 0 (p86t_end i k h D m j) Φ) (j : JN) : OutK E 0 0 (y86 i k a D m j) Φ :=
 oS hE [.run 3, (.cond true), .run 4, (.ops [(1, (.rn (iI g)))] []), .run 2, (.ops [(1, (.d .len))] []), (.cond false), .run 3, (.ops [(2, (.d (.ld (.v (.bool b))))), (1, (.d (.ix 0)))] []), (.cond true), (.ops [(1, (.rn (iI h)))] []), (.ops [(1, (.d (.sl 1 m (List.drop (1 : Nat) D))))] []), .run 1, (.ops [(0, (.rn (iN (i + 1))))] []), .run 1] [0, 6, 7, 8] (aQ h0 h1 h2 h3 <| aP (rfl : ((0 : Nat) : Nat) = nat_lit 0) <| aP h5 <| aP h6 <| aP h7 <| aP (rfl : ((1 : Int) : Int) = Int.ofNat (1 : Nat)) <| aP (rfl : (Int.ofNat m : Int) = Int.ofNat m) <| aP h10 <| aP h11 <| aP h12 <| aZ)
  ho
def p86x_end (a : Int) (D : List DT) (m : Nat) (j : JN) : St := ⟨[], [(.code .ret)], mkT j [(4, (iI a)), (5, (dQ D m))] 25 0⟩
theorem p86x (hE : EnvOk E) (i k : Nat) (a : Int) (D : List DT) (m : Nat) (h0 : (decide (Int.ofNat i < Int.ofNat k) : Bool) = false) {Φ : Res → Prop} (ho : ∀ j, OutK E 0 0 (p86x_end a D m j) Φ) (j : JN) : OutK E 0 0 (y86 i k a D m j) Φ :=
 oS hE [.run 3, (.cond false), .run 3] [4, 5] (aP h0 <| aZ)
  ho
def cutF : Nat → Int → List Bool → Int × List Bool
 | 0, a, d => (a, d)
 | k + 1, a, [] => cutF k (a * 2) []
 | k + 1, a, b :: d => cutF k (if b = true then a * 2 + 1 else a * 2) d
theorem cut_rest : ∀ k a d, (cutF k a d).2 = d.drop k
 | 0, _, _ => rfl
 | k + 1, a, [] => by show (cutF k (a * 2) []).2 = _; rw [cut_rest]; simp
 | k + 1, a, b :: d => by show (cutF k _ d).2 = _; rw [cut_rest]; rfl
theorem cut_lt : ∀ k a d (B : Int), 0 ≤ a → a < B → 0 ≤ (cutF k a d).1 ∧ (cutF k a d).1 < B * 2 ^ k
 | 0, a, d, B, h0, h1 => ⟨h0, by show a < B * 1; omega⟩
 | k + 1, a, d, B, h0, h1 => by
  have e : B * 2 ^ (k + 1) = (2 * B) * 2 ^ k := by rw [Int.pow_succ, Int.mul_comm (2 ^ k) 2, ← Int.mul_assoc, Int.mul_comm B 2]
  rw [e]
  cases d with
  | nil => exact cut_lt k (a * 2) [] (2 * B) (by omega) (by omega)
  | cons b d =>
   show 0 ≤ (cutF k (if b = true then a * 2 + 1 else a * 2) d).1 ∧ (cutF k (if b = true then a * 2 + 1 else a * 2) d).1 < 2 * B * 2 ^ k
   split
   ·exact cut_lt k _ d (2 * B) (by omega) (by omega)
   ·exact cut_lt k _ d (2 * B) (by omega) (by omega)
theorem tk1 (b : Bool) (d : List Bool) : takeL (dropL (bbD (b :: d)) 1) (((b :: d).length - 1) * 1) = some (List.drop 1 (bbD (b :: d))) := by
 rw [takeL_eq, dropL_eq, if_pos (by simp), List.take_of_length_le (by simp)]
abbrev cutV (r : Int × List Bool) : AV := .tup [.one (.v (.int .i64 r.1)), .one (.dp (.s (bbD r.2) r.2.length 1))]
theorem l86 (hE : EnvOk E) (k : Nat) (hk : k ≤ 6) : ∀ m i, m + i = k → ∀ (a B : Int) (d : List Bool), 0 ≤ a → a < B → B * 2 ^ m ≤ 64 → 0 < B → ∀ j, OutK E 0 0 (y86 i k a (bbD d) d.length j) (Go.Ev.Ends E Tryz.f86 (cutV (cutF m a d)) [])
 | 0, i, hm, a, B, d, a0, a1, hB, B0, j => by
  obtain rfl : i = k := by omega
  exact p86x hE i i a (bbD d) d.length dF (fun j => outK_ret (ends_ret (by kernel_rfl))) j
 | m + 1, i, hm, a, B, d, a0, a1, hB, B0, j => by
  have e : B * 2 ^ (m + 1) = (2 * B) * 2 ^ m := by rw [Int.pow_succ, Int.mul_comm (2 ^ m) 2, ← Int.mul_assoc, Int.mul_comm B 2]
  rw [e] at hB
  have hB2 : 2 * B ≤ 64 := by
   have h1 : (0 : Int) < 2 ^ m := Int.pow_pos (by decide)
   have h2 : (2 * B) * 1 ≤ (2 * B) * 2 ^ m := Int.mul_le_mul_of_nonneg_left h1 (by omega)
   omega
  match d with
  | [] => exact p86e hE i k ((a * 2)) a (bbD []) 0 dT (iIe (by (try simp only [Int.ofNat_eq_natCast]); rw [wrap_id (by omega) (by omega)]; try omega)) rfl (iIe (by (try simp only [Int.ofNat_eq_natCast]); rw [wrap_id (by omega) (by omega)]; try omega)) (l86 hE k hk m (i + 1) (by omega) (a * 2) (2 * B) [] (by omega) (by omega) hB (by omega)) j
  | b :: d =>
   have hlen : (b :: d).length = d.length + 1 := rfl
   cases b with
   | true => exact p86t hE i k ((a * 2)) ((a * 2 + 1)) a true (bbD (true :: d)) ((true :: d).length) dT (iIe (by (try simp only [Int.ofNat_eq_natCast]); rw [wrap_id (by omega) (by omega)]; try omega)) (beq_eq_false_iff_ne.2 (by rw [hlen]; omega)) ⟨by omega, by rw [hlen]; omega⟩ rfl oB (iIe (by (try simp only [Int.ofNat_eq_natCast]); rw [wrap_id (by omega) (by omega)]; try omega)) ⟨by rw [hlen]; omega, Nat.le_refl _⟩ (tk1 true d) (iIe (by (try simp only [Int.ofNat_eq_natCast]); rw [wrap_id (by omega) (by omega)]; try omega)) (l86 hE k hk m (i + 1) (by omega) (a * 2 + 1) (2 * B) d (by omega) (by omega) hB (by omega)) j
   | false => exact p86f hE i k ((a * 2)) a false (bbD (false :: d)) ((false :: d).length) dT (iIe (by (try simp only [Int.ofNat_eq_natCast]); rw [wrap_id (by omega) (by omega)]; try omega)) (beq_eq_false_iff_ne.2 (by rw [hlen]; omega)) ⟨by omega, by rw [hlen]; omega⟩ rfl oB ⟨by rw [hlen]; omega, Nat.le_refl _⟩ (tk1 false d) (iIe (by (try simp only [Int.ofNat_eq_natCast]); rw [wrap_id (by omega) (by omega)]; try omega)) (l86 hE k hk m (i + 1) (by omega) (a * 2) (2 * B) d (by omega) (by omega) hB (by omega)) j
theorem two_le : ∀ k : Fin 7, (1 : Int) * 2 ^ k.1 ≤ 64 := by decide
theorem K86 (hE : EnvOk E) (k : Nat) (hk : k ≤ 6) (d : List Bool) : COut E 0 [] 86 [dB d, iI (Int.ofNat k)] (cutV (cutF k 0 d)) [] :=
 cOut_start Tryz.func86 rfl (p86a hE (bbD d) d.length k (l86 hE k hk k 0 rfl 0 1 d (by decide) (by decide) (two_le ⟨k, by omega⟩) (by decide)) fun _ => undef)
end
end Go.Proofs.YtaccakbjankeeaaGreatDoor
end

/-! SeBd -/
section
open Go Go.Ev
namespace Go.Proofs.YtaccakbjankeeaaGreatDoor
noncomputable section
set_option maxRecDepth 100000
set_option maxHeartbeats 20000000
def x27 (C : List DT) (n m : Nat) (D : List DT) (_j : JN) : St := startK Tryz.f27 [] [(dQ C n), (dQ D m)]
def y27n (C : List DT) (n m : Nat) (D : List DT) (j : JN) : St := ⟨[], [(.code (aF [1, 1, 1, 0, 1, 0, 0] Tryz.f27)), (.inLoop (aF [1, 1, 1, 0, 1, 0, 0] Tryz.f27)), (.inBlock 0), (.code (aF [1, 1, 1, 1] Tryz.f27))], mkT j [(0, (dQ C n)), (7, (.e (.one (.v (.slice none 0 0))))), (8, (dQ D m))] 57 0⟩
def y27o (C : List DT) (n k m : Nat) (D : List DT) (O : List AC) (j : JN) : St := ⟨[some ⟨O, k, 22, false, .cells⟩], [(.code (aF [1, 1, 1, 0, 1, 0, 0] Tryz.f27)), (.inLoop (aF [1, 1, 1, 0, 1, 0, 0] Tryz.f27)), (.inBlock 0), (.code (aF [1, 1, 1, 1] Tryz.f27))], mkT j [(0, (dQ C n)), (7, (.e (.one (.slc 0 0 k 1 k false)))), (8, (dQ D m))] 57 0⟩
def y27i (C : List DT) (n i m : Nat) (D : List DT) (L : List AC) (j : JN) : St := ⟨[some ⟨L, n, 3, true, .cells⟩], [(.code (aF [1, 1, 1, 0, 1, 0, 0, 1, 0, 1, 0, 1, 0, 0] Tryz.f27)), (.inLoop (aF [1, 1, 1, 0, 1, 0, 0, 1, 0, 1, 0, 1, 0, 0] Tryz.f27)), (.inBlock 2), (.code (aF [1, 1, 1, 0, 1, 0, 0, 1, 0, 1, 1] Tryz.f27)), (.inBlock 1), (.inLoop (aF [1, 1, 1, 0, 1, 0, 0] Tryz.f27)), (.inBlock 0), (.code (aF [1, 1, 1, 1] Tryz.f27))], mkT j [(0, (dQ C n)), (7, (.e (.one (.v (.slice none 0 0))))), (8, (dQ D m)), (9, (.e (.one (.slc 0 0 n 1 n true)))), (32, (dQ C n)), (33, (iN n)), (34, (iN i))] 57 0⟩
def y27j (C : List DT) (n i k m : Nat) (D : List DT) (O L : List AC) (j : JN) : St := ⟨[some ⟨O, k, 22, false, .cells⟩, some ⟨L, n, 3, true, .cells⟩], [(.code (aF [1, 1, 1, 0, 1, 0, 0, 1, 0, 1, 0, 1, 0, 0] Tryz.f27)), (.inLoop (aF [1, 1, 1, 0, 1, 0, 0, 1, 0, 1, 0, 1, 0, 0] Tryz.f27)), (.inBlock 2), (.code (aF [1, 1, 1, 0, 1, 0, 0, 1, 0, 1, 1] Tryz.f27)), (.inBlock 1), (.inLoop (aF [1, 1, 1, 0, 1, 0, 0] Tryz.f27)), (.inBlock 0), (.code (aF [1, 1, 1, 1] Tryz.f27))], mkT j [(0, (dQ C n)), (7, (.e (.one (.slc 0 0 k 1 k false)))), (8, (dQ D m)), (9, (.e (.one (.slc 1 0 n 1 n true)))), (32, (dQ C n)), (33, (iN n)), (34, (iN i))] 57 0⟩
def y27f (C : List DT) (n m : Nat) (D R : List DT) (j : JN) : St := ⟨[none], [(.code (aF [1, 1, 1, 0, 1, 0, 0, 1, 0, 1, 0, 1, 0, 0] Tryz.f27)), (.inLoop (aF [1, 1, 1, 0, 1, 0, 0, 1, 0, 1, 0, 1, 0, 0] Tryz.f27)), (.inBlock 2), (.code (aF [1, 1, 1, 0, 1, 0, 0, 1, 0, 1, 1] Tryz.f27)), (.inBlock 1), (.inLoop (aF [1, 1, 1, 0, 1, 0, 0] Tryz.f27)), (.inBlock 0), (.code (aF [1, 1, 1, 1] Tryz.f27))], mkT j [(0, (dQ C n)), (7, (.e (.one (.v (.slice none 0 0))))), (8, (dQ D m)), (9, (dQ R n)), (32, (dQ C n)), (33, (iN n)), (34, (iN n))] 57 0⟩
def y27g (C : List DT) (n k m : Nat) (D R : List DT) (O : List AC) (j : JN) : St := ⟨[some ⟨O, k, 22, false, .cells⟩, none], [(.code (aF [1, 1, 1, 0, 1, 0, 0, 1, 0, 1, 0, 1, 0, 0] Tryz.f27)), (.inLoop (aF [1, 1, 1, 0, 1, 0, 0, 1, 0, 1, 0, 1, 0, 0] Tryz.f27)), (.inBlock 2), (.code (aF [1, 1, 1, 0, 1, 0, 0, 1, 0, 1, 1] Tryz.f27)), (.inBlock 1), (.inLoop (aF [1, 1, 1, 0, 1, 0, 0] Tryz.f27)), (.inBlock 0), (.code (aF [1, 1, 1, 1] Tryz.f27))], mkT j [(0, (dQ C n)), (7, (.e (.one (.slc 0 0 k 1 k false)))), (8, (dQ D m)), (9, (dQ R n)), (32, (dQ C n)), (33, (iN n)), (34, (iN n))] 57 0⟩
def p27e_end (a : Int) (j : JN) : St := ⟨[], [(.code .ret), (.code (aF [1, 1] Tryz.f27))], mkT j [(4, (.e (.one (.v (.slice none 0 0))))), (5, (iI a))] 57 0⟩
theorem p27e (hE : EnvOk E) (C : List DT) (n m : Nat) (e f a : Int) (D : List DT) (h0 : COut E 0 [] 84 [(dQ C n)] (iI e) []) (h2 : COut E 0 [] 85 [(iB (decide ((↑m : Int) > (1024 : Int)))), (iI 5)] (iI f) []) (h4 : COut E 1 [(bK [(.v (.int .i64 e)), (.v (.int .i64 f))] 2 29)] 69 [(.e (.one (.slc 0 0 2 1 2 true)))] (iI a) [(bK [(.v (.int .i64 e)), (.v (.int .i64 f))] 2 29)]) (h6 : (a != (0 : Int) : Bool) = true) {Φ : Res → Prop} (ho : ∀ j, OutK E 0 0 (p27e_end a j) Φ) (j : JN) : OutK E 0 0 (x27 C n m D j) Φ :=
 oS hE [.run 4, (.ops [(1, (.c0 (iI e))), (5, (.c0 (iI f))), (7, (.d (.c1 (iI a)))), (3, (.d .len))] []), .run 2, (.cond true), .run 2] [4, 5] (s' := fun j => ⟨[(bK [(.v (.int .i64 e)), (.v (.int .i64 f))] 2 29)], [(.code .ret), (.code (aF [1, 1] Tryz.f27))], mkT j [(4, (.e (.one (.v (.slice none 0 0))))), (5, (iI a))] 57 0⟩) (aP h0 <| aN <| aP h2 <| aN <| aP h4 <| aN <| aP h6 <| aZ)
  fun j => gZ [] (ho j)
def p27a_end (C : List DT) (n m : Nat) (D : List DT) (j : JN) : St := ⟨[], [(.code (aF [1, 1, 1, 0, 1, 0, 0] Tryz.f27)), (.inLoop (aF [1, 1, 1, 0, 1, 0, 0] Tryz.f27)), (.inBlock 0), (.code (aF [1, 1, 1, 1] Tryz.f27))], mkT j [(0, (dQ C n)), (7, (.e (.one (.v (.slice none 0 0))))), (8, (dQ D m))] 57 0⟩
theorem p27a (hE : EnvOk E) (C : List DT) (n m : Nat) (e f a : Int) (D : List DT) (h0 : COut E 0 [] 84 [(dQ C n)] (iI e) []) (h2 : COut E 0 [] 85 [(iB (decide ((↑m : Int) > (1024 : Int)))), (iI 5)] (iI f) []) (h4 : COut E 1 [(bK [(.v (.int .i64 e)), (.v (.int .i64 f))] 2 29)] 69 [(.e (.one (.slc 0 0 2 1 2 true)))] (iI a) [(bK [(.v (.int .i64 e)), (.v (.int .i64 f))] 2 29)]) (h6 : (a != (0 : Int) : Bool) = false) {Φ : Res → Prop} (ho : ∀ j, OutK E 0 0 (p27a_end C n m D j) Φ) (j : JN) : OutK E 0 0 (x27 C n m D j) Φ :=
 oS hE [.run 4, (.ops [(1, (.c0 (iI e))), (5, (.c0 (iI f))), (7, (.d (.c1 (iI a)))), (3, (.d .len))] []), .run 2, (.cond false), .run 8] [0, 7, 8] (s' := fun j => ⟨[(bK [(.v (.int .i64 e)), (.v (.int .i64 f))] 2 29)], [(.code (aF [1, 1, 1, 0, 1, 0, 0] Tryz.f27)), (.inLoop (aF [1, 1, 1, 0, 1, 0, 0] Tryz.f27)), (.inBlock 0), (.code (aF [1, 1, 1, 1] Tryz.f27))], mkT j [(0, (dQ C n)), (7, (.e (.one (.v (.slice none 0 0))))), (8, (dQ D m))] 57 0⟩) (aP h0 <| aN <| aP h2 <| aN <| aP h4 <| aN <| aP h6 <| aZ)
  fun j => gZ [] (ho j)
def p27xn_end (j : JN) : St := ⟨[], [(.code .ret)], mkT j [(4, (.e (.one (.v (.slice none 0 0))))), (5, (iI 0))] 57 0⟩
theorem p27xn (hE : EnvOk E) (C : List DT) (n m : Nat) (D : List DT) (h0 : (decide ((↑m : Int) > (0 : Int)) : Bool) = false) {Φ : Res → Prop} (ho : ∀ j, OutK E 0 0 (p27xn_end j) Φ) (j : JN) : OutK E 0 0 (y27n C n m D j) Φ :=
 oS hE [.run 2, (.ops [(1, (.d .len))] []), (.cond false), .run 3] [4, 5] (aP h0 <| aZ)
  ho
def p27bn_end (C : List DT) (n m : Nat) (D : List DT) (L : List AC) (j : JN) : St := ⟨[(bK L n 3)], [(.code (aF [1, 1, 1, 0, 1, 0, 0, 1, 0, 1, 0, 1, 0, 0] Tryz.f27)), (.inLoop (aF [1, 1, 1, 0, 1, 0, 0, 1, 0, 1, 0, 1, 0, 0] Tryz.f27)), (.inBlock 2), (.code (aF [1, 1, 1, 0, 1, 0, 0, 1, 0, 1, 1] Tryz.f27)), (.inBlock 1), (.inLoop (aF [1, 1, 1, 0, 1, 0, 0] Tryz.f27)), (.inBlock 0), (.code (aF [1, 1, 1, 1] Tryz.f27))], mkT j [(0, (dQ C n)), (7, (.e (.one (.v (.slice none 0 0))))), (8, (dQ D m)), (9, (.e (.one (.slc 0 0 n 1 n true)))), (32, (dQ C n)), (33, (iN n)), (34, (iI 0))] 57 0⟩
theorem p27bn (hE : EnvOk E) (C : List DT) (n m : Nat) (D : List DT) (L : List AC) (h0 : (decide ((↑m : Int) > (0 : Int)) : Bool) = true) (h1 : (0 : Int) ≤ (↑n : Int) ∧ (↑n : Int) ≤ (↑n : Int)) (h2 : (small (↑n : Int).toNat (1 : Nat) (8 : Nat) : Bool) = true) (h3 : ((↑n : Int).toNat : Nat) = n) (h5 : (n * 1 : Nat) = n) (h6 : (repeatC ((fun z => List.map AC.v z.cells.toList) (Value.int IntKind.i64 (0 : Int))) n : List AC) = L) {Φ : Res → Prop} (ho : ∀ j, OutK E 0 0 (p27bn_end C n m D L j) Φ) (j : JN) : OutK E 0 0 (y27n C n m D j) Φ :=
 oS hE [.run 2, (.ops [(1, (.d .len))] []), (.cond true), .run 3, (.ops [(2, (.mk n n n L)), (1, (.d .len))] []), .run 2, (.ops [(1, (.d .len))] []), .run 2] [0, 7, 8, 9, 32, 33, 34] (aQ h0 h1 h2 h3 <| aP h3 <| aP h5 <| aP h6 <| aZ)
  ho
def p27xo_end (k : Nat) (O : List AC) (j : JN) : St := ⟨[(.some ⟨(O), k, 22, false, .cells⟩)], [(.code .ret)], mkT j [(4, (.e (.one (.slc 0 0 k 1 k false)))), (5, (iI 0))] 57 0⟩
theorem p27xo (hE : EnvOk E) (C : List DT) (n k m : Nat) (D : List DT) (O : List AC) (h0 : (decide ((↑m : Int) > (0 : Int)) : Bool) = false) {Φ : Res → Prop} (ho : ∀ j, OutK E 0 0 (p27xo_end k O j) Φ) (j : JN) : OutK E 0 0 (y27o C n k m D O j) Φ :=
 oS hE [.run 2, (.ops [(1, (.d .len))] []), (.cond false), .run 3] [4, 5] (aP h0 <| aZ)
  ho
def p27bo_end (C : List DT) (n k m : Nat) (D : List DT) (O L : List AC) (j : JN) : St := ⟨[(.some ⟨(O), k, 22, false, .cells⟩), (bK L n 3)], [(.code (aF [1, 1, 1, 0, 1, 0, 0, 1, 0, 1, 0, 1, 0, 0] Tryz.f27)), (.inLoop (aF [1, 1, 1, 0, 1, 0, 0, 1, 0, 1, 0, 1, 0, 0] Tryz.f27)), (.inBlock 2), (.code (aF [1, 1, 1, 0, 1, 0, 0, 1, 0, 1, 1] Tryz.f27)), (.inBlock 1), (.inLoop (aF [1, 1, 1, 0, 1, 0, 0] Tryz.f27)), (.inBlock 0), (.code (aF [1, 1, 1, 1] Tryz.f27))], mkT j [(0, (dQ C n)), (7, (.e (.one (.slc 0 0 k 1 k false)))), (8, (dQ D m)), (9, (.e (.one (.slc 1 0 n 1 n true)))), (32, (dQ C n)), (33, (iN n)), (34, (iI 0))] 57 0⟩
theorem p27bo (hE : EnvOk E) (C : List DT) (n k m : Nat) (D : List DT) (O L : List AC) (h0 : (decide ((↑m : Int) > (0 : Int)) : Bool) = true) (h1 : (0 : Int) ≤ (↑n : Int) ∧ (↑n : Int) ≤ (↑n : Int)) (h2 : (small (↑n : Int).toNat (1 : Nat) (8 : Nat) : Bool) = true) (h3 : ((↑n : Int).toNat : Nat) = n) (h5 : (n * 1 : Nat) = n) (h6 : (repeatC ((fun z => List.map AC.v z.cells.toList) (Value.int IntKind.i64 (0 : Int))) n : List AC) = L) {Φ : Res → Prop} (ho : ∀ j, OutK E 0 0 (p27bo_end C n k m D O L j) Φ) (j : JN) : OutK E 0 0 (y27o C n k m D O j) Φ :=
 oS hE [.run 2, (.ops [(1, (.d .len))] []), (.cond true), .run 3, (.ops [(2, (.mk n n n L)), (1, (.d .len))] []), .run 2, (.ops [(1, (.d .len))] []), .run 2] [0, 7, 8, 9, 32, 33, 34] (aQ h0 h1 h2 h3 <| aP h3 <| aP h5 <| aP h6 <| aZ)
  ho
def p27sn_end (C : List DT) (n i u : Nat) (R : List DT) (W : List AC) (j : JN) : St := ⟨[(bK W n 3)], [(.code (aF [1, 1, 1, 0, 1, 0, 0, 1, 0, 1, 0, 1, 0, 0] Tryz.f27)), (.inLoop (aF [1, 1, 1, 0, 1, 0, 0, 1, 0, 1, 0, 1, 0, 0] Tryz.f27)), (.inBlock 2), (.code (aF [1, 1, 1, 0, 1, 0, 0, 1, 0, 1, 1] Tryz.f27)), (.inBlock 1), (.inLoop (aF [1, 1, 1, 0, 1, 0, 0] Tryz.f27)), (.inBlock 0), (.code (aF [1, 1, 1, 1] Tryz.f27))], mkT j [(0, (dQ C n)), (7, (.e (.one (.v (.slice none 0 0))))), (8, (dQ R u)), (9, (.e (.one (.slc 0 0 n 1 n true)))), (32, (dQ C n)), (33, (iN n)), (34, (iN (i + 1)))] 57 0⟩
theorem p27sn (hE : EnvOk E) (C : List DT) (n i m u : Nat) (x a g : Int) (D R : List DT) (L W : List AC) (h0 : (decide (Int.ofNat i < Int.ofNat n) : Bool) = true) (h1 : (0 : Int) ≤ Int.ofNat i ∧ Int.ofNat i < (↑n : Int)) (h2 : ((Int.ofNat i).toNat * nat_lit 1 : Nat) = i) (h3 : (getL C i : Option DT) = (.some (.v (.int .i64 x)))) (h4 : COut E 0 [] 86 [(dQ D m), (iI x)] (.tup [(oI g), (.one (.dp (.s R u 1)))]) []) (h6 : COut E 0 [] 87 [(iI g)] (iI a) []) (h9 : (nat_lit 0 + (Int.ofNat i).toNat * nat_lit 1 : Nat) = i) (h10 : i + 1 ≤ n) (h11 : (overL [AC.v (Value.int IntKind.i64 a)] L i : List AC) = W) (h12 : ((iI (wrapF IntKind.i64 (Int.ofNat i + (1 : Int)))) : AV) = (iN (i + 1))) {Φ : Res → Prop} (ho : ∀ j, OutK E 0 0 (p27sn_end C n i u R W j) Φ) (j : JN) : OutK E 0 0 (y27i C n i m D L j) Φ :=
 oS hE [.run 3, (.cond true), .run 4, (.ops [(2, (.d (.ld (.v (.int .i64 x))))), (1, (.d (.ix i)))] []), .run 1, (.ops [(2, (.c0 (.tup [(oI g), (.one (.dp (.s R u 1)))])))] []), .run 1, (.ops [(3, (.c0 (iI a))), (4, (.ix i)), (5, (.st W))] []), .run 2, (.ops [(0, (.rn (iN (i + 1))))] []), .run 1] [0, 7, 8, 9, 32, 33, 34] (aQ h0 h1 h2 h3 <| aP h4 <| aN <| aP h6 <| aN <| aQ h1 h9 h10 h11 <| aP h12 <| aZ)
  ho
def p27so_end (C : List DT) (n i k u : Nat) (R : List DT) (O W : List AC) (j : JN) : St := ⟨[(.some ⟨(O), k, 22, false, .cells⟩), (bK W n 3)], [(.code (aF [1, 1, 1, 0, 1, 0, 0, 1, 0, 1, 0, 1, 0, 0] Tryz.f27)), (.inLoop (aF [1, 1, 1, 0, 1, 0, 0, 1, 0, 1, 0, 1, 0, 0] Tryz.f27)), (.inBlock 2), (.code (aF [1, 1, 1, 0, 1, 0, 0, 1, 0, 1, 1] Tryz.f27)), (.inBlock 1), (.inLoop (aF [1, 1, 1, 0, 1, 0, 0] Tryz.f27)), (.inBlock 0), (.code (aF [1, 1, 1, 1] Tryz.f27))], mkT j [(0, (dQ C n)), (7, (.e (.one (.slc 0 0 k 1 k false)))), (8, (dQ R u)), (9, (.e (.one (.slc 1 0 n 1 n true)))), (32, (dQ C n)), (33, (iN n)), (34, (iN (i + 1)))] 57 0⟩
theorem p27so (hE : EnvOk E) (C : List DT) (n i k m u : Nat) (x a g : Int) (D R : List DT) (O L W : List AC) (h0 : (decide (Int.ofNat i < Int.ofNat n) : Bool) = true) (h1 : (0 : Int) ≤ Int.ofNat i ∧ Int.ofNat i < (↑n : Int)) (h2 : ((Int.ofNat i).toNat * nat_lit 1 : Nat) = i) (h3 : (getL C i : Option DT) = (.some (.v (.int .i64 x)))) (h4 : COut E 0 [] 86 [(dQ D m), (iI x)] (.tup [(oI g), (.one (.dp (.s R u 1)))]) []) (h6 : COut E 0 [] 87 [(iI g)] (iI a) []) (h9 : (nat_lit 0 + (Int.ofNat i).toNat * nat_lit 1 : Nat) = i) (h10 : i + 1 ≤ n) (h11 : (overL [AC.v (Value.int IntKind.i64 a)] L i : List AC) = W) (h12 : ((iI (wrapF IntKind.i64 (Int.ofNat i + (1 : Int)))) : AV) = (iN (i + 1))) {Φ : Res → Prop} (ho : ∀ j, OutK E 0 0 (p27so_end C n i k u R O W j) Φ) (j : JN) : OutK E 0 0 (y27j C n i k m D O L j) Φ :=
 oS hE [.run 3, (.cond true), .run 4, (.ops [(2, (.d (.ld (.v (.int .i64 x))))), (1, (.d (.ix i)))] []), .run 1, (.ops [(2, (.c0 (.tup [(oI g), (.one (.dp (.s R u 1)))])))] []), .run 1, (.ops [(3, (.c0 (iI a))), (4, (.ix i)), (5, (.st W))] []), .run 2, (.ops [(0, (.rn (iN (i + 1))))] []), .run 1] [0, 7, 8, 9, 32, 33, 34] (aQ h0 h1 h2 h3 <| aP h4 <| aN <| aP h6 <| aN <| aQ h1 h9 h10 h11 <| aP h12 <| aZ)
  ho
def p27fn_end (C : List DT) (n m : Nat) (D R : List DT) (j : JN) : St := ⟨[(.some ⟨[(.dp (.s R n 1))], 1, 22, false, .cells⟩)], [(.code (aF [1, 1, 1, 0, 1, 0, 0] Tryz.f27)), (.inLoop (aF [1, 1, 1, 0, 1, 0, 0] Tryz.f27)), (.inBlock 0), (.code (aF [1, 1, 1, 1] Tryz.f27))], mkT j [(0, (dQ C n)), (7, (.e (.one (.slc 0 0 1 1 1 false)))), (8, (dQ D m))] 57 0⟩
theorem p27fn (hE : EnvOk E) (C : List DT) (n m : Nat) (D R : List DT) (h0 : (decide (Int.ofNat n < Int.ofNat n) : Bool) = false) {Φ : Res → Prop} (ho : ∀ j, OutK E 0 0 (p27fn_end C n m D R j) Φ) (j : JN) : OutK E 0 0 (y27f C n m D R j) Φ :=
 oS hE [.run 3, (.cond false), .run 4] [0, 7, 8] (s' := fun j => ⟨[none, (bK [(.dp (.s R n 1))] 1 22), (.some ⟨[(.dp (.s R n 1))], 1, 22, false, .cells⟩)], [(.code (aF [1, 1, 1, 0, 1, 0, 0] Tryz.f27)), (.inLoop (aF [1, 1, 1, 0, 1, 0, 0] Tryz.f27)), (.inBlock 0), (.code (aF [1, 1, 1, 1] Tryz.f27))], mkT j [(0, (dQ C n)), (7, (.e (.one (.slc 2 0 1 1 1 false)))), (8, (dQ D m))] 57 0⟩) (aP h0 <| aZ)
  fun j => gZ [2] (ho j)
def p27fo_end (C : List DT) (n k m : Nat) (D : List DT) (Y : List AC) (j : JN) : St := ⟨[(.some ⟨(Y), (k + 1), 22, false, .cells⟩)], [(.code (aF [1, 1, 1, 0, 1, 0, 0] Tryz.f27)), (.inLoop (aF [1, 1, 1, 0, 1, 0, 0] Tryz.f27)), (.inBlock 0), (.code (aF [1, 1, 1, 1] Tryz.f27))], mkT j [(0, (dQ C n)), (7, (.e (.one (.slc 0 0 (k + 1) 1 (k + 1) false)))), (8, (dQ D m))] 57 0⟩
theorem p27fo (hE : EnvOk E) (C : List DT) (n k m : Nat) (_x : Int) (D R : List DT) (O Y : List AC) (h0 : (decide (Int.ofNat n < Int.ofNat n) : Bool) = false) (h1 : ¬k + 1 ≤ k) (h2 : (small (k + 1) (1 : Nat) (24 : Nat) : Bool) = true) (h3 : (k : Nat) = k * nat_lit 1) (h4 : (appL O ((fun x => AC.dp (DV.s R n (nat_lit 1)) :: x) []) : List AC) = Y) (h6 : ((k + 1) * nat_lit 1 : Nat) = k + 1) (g0 : FlatC Y) {Φ : Res → Prop} (ho : ∀ j, OutK E 0 0 (p27fo_end C n k m D Y j) Φ) (j : JN) : OutK E 0 0 (y27g C n k m D R O j) Φ :=
 oS hE [.run 3, (.cond false), .run 1, (.ops [(3, (.app (k + 1) (k + 1) Y))] []), .run 2] [0, 7, 8] (s' := fun j => ⟨[none, none, (bK [(.dp (.s R n 1))] 1 22), (.some ⟨(Y), (k + 1), 22, false, .cells⟩)], [(.code (aF [1, 1, 1, 0, 1, 0, 0] Tryz.f27)), (.inLoop (aF [1, 1, 1, 0, 1, 0, 0] Tryz.f27)), (.inBlock 0), (.code (aF [1, 1, 1, 1] Tryz.f27))], mkT j [(0, (dQ C n)), (7, (.e (.one (.slc 3 0 (k + 1) 1 (k + 1) false)))), (8, (dQ D m))] 57 0⟩) (aQ h0 h1 h2 h3 <| aP h4 <| aP (rfl : (k + 1 : Nat) = k + 1) <| aP h6 <| aZ)
  fun j => outK_gcF [3] [true] (h' := [(.some ⟨(Y), (k + 1), 22, false, .cells⟩)]) (by decide) (by kernel_rfl) (by kernel_rfl) ⟨g0, trivial⟩ (by kernel_rfl) (ho j)
theorem look_frz {i : Nat} {ds : List DT} : ∀ (l l' : List (Nat × AV)), All2 (fun p q => p.1 = q.1 ∧ FrzV i ds p.2 q.2) l l' → ∀ k, (lookT l k = none ∧ lookT l' k = none) ∨ ∃ x y, lookT l k = some x ∧ lookT l' k = some y ∧ FrzV i ds x y
 | [], [], _, k => .inl ⟨rfl, rfl⟩
 | p :: l, q :: l', h, k => by
  obtain ⟨⟨h1, h2⟩, h3⟩ := h
  have e1 : lookT (p :: l) k = if Nat.beq p.1 k then some p.2 else lookT l k := rfl
  have e2 : lookT (q :: l') k = if Nat.beq q.1 k then some q.2 else lookT l' k := rfl
  rw [e1, e2, h1]
  by_cases c : Nat.beq q.1 k = true
  ·rw [if_pos c, if_pos c]; exact .inr ⟨_, _, rfl, rfl, h2⟩
  ·rw [if_neg c, if_neg c]; exact look_frz l l' h3 k
theorem frz2 {i : Nat} {ds : List DT} (j : JN) (l l' : List (Nat × AV)) (h : All2 (fun p q => p.1 = q.1 ∧ FrzV i ds p.2 q.2) l l') : ∀ n k, All2 (FrzV i ds) (mkT j l n k) (mkT j l' n k)
 | 0, _ => trivial
 | n + 1, k => by
  refine ⟨?_, frz2 j l l' h n (k + 1)⟩
  show FrzV i ds (match lookT l k with | some x => x | none => .e (.one (.v (j k)))) (match lookT l' k with | some x => x | none => .e (.one (.v (j k))))
  rcases look_frz l l' h k with ⟨a, b⟩ | ⟨x, y, a, b, c⟩
  ·rw [a, b]; exact .inl rfl
  ·rw [a, b]; exact c
theorem st_iC (l : List Int) (k : Nat) (v : Int) : overL [AC.v (.int .i64 v)] (iC l) k = iC (l.set k v) := by
 show setL _ _ _ = _
 rw [setL_eq]
 simp [List.map_set]; rfl
theorem rep0 : ∀ n, repeatC ((fun z => List.map AC.v z.cells.toList) (Value.int IntKind.i64 (0 : Int))) n = iC (List.replicate n 0)
 | 0 => rfl
 | n + 1 => by
  show _ ++ repeatC _ n = _
  rw [rep0 n, List.replicate_succ]
  rfl
def symF : List Int → List Bool → List Int
 | [], _ => []
 | x :: r, d => lvT.getD (cutF x.toNat 0 d).1.toNat 0 :: symF r (d.drop x.toNat)
def restF : List Int → List Bool → List Bool
 | [], d => d
 | x :: r, d => restF r (d.drop x.toNat)
def loadF : Nat → List Int → List Bool → List (List Int)
 | 0, _, _ => []
 | f + 1, xs, d => if d.length = 0 then [] else symF xs d :: loadF f xs (restF xs d)
theorem rest_le : ∀ (xs : List Int) (d : List Bool), (restF xs d).length ≤ d.length
 | [], d => Nat.le_refl _
 | x :: r, d => by
  have := rest_le r (d.drop x.toNat)
  show (restF r (d.drop x.toNat)).length ≤ _
  rw [List.length_drop] at this
  omega
theorem rest_lt : ∀ (xs : List Int) (d : List Bool), (∃ x ∈ xs, 0 < x.toNat) → 0 < d.length → (restF xs d).length < d.length
 | [], d, h, _ => by obtain ⟨x, hx, _⟩ := h; simp at hx
 | x :: r, d, h, hd => by
  show (restF r (d.drop x.toNat)).length < _
  have h1 := rest_le r (d.drop x.toNat)
  rw [List.length_drop] at h1
  by_cases hx : 0 < x.toNat
  ·omega
  ·have e : x.toNat = 0 := by omega
   rw [e, List.drop_zero]
   refine rest_lt r d ?_ hd
   obtain ⟨y, hy, hy2⟩ := h
   rcases List.mem_cons.1 hy with rfl | hy
   ·omega
   ·exact ⟨y, hy, hy2⟩
theorem tot0 : ∀ (xs : List Int), (∀ x ∈ xs, x = 0) → totF xs 0 = 0
 | [], _ => rfl
 | x :: r, h => by
  show totF r (wrapF .i64 (0 + x)) = 0
  rw [h x (List.mem_cons_self ..)]
  exact tot0 r fun y hy => h y (List.mem_cons_of_mem _ hy)
theorem rg_00 {x lo hi : Int} (h : rg x lo hi = 0) : lo ≤ x ∧ x ≤ hi := by
 unfold rg at h
 split at h
 ·exact absurd h (by decide)
 ·omega
theorem each_0 {lo hi : Int} : ∀ {xs : List Int}, eachE lo hi xs = 0 → ∀ x ∈ xs, lo ≤ x ∧ x ≤ hi
 | [], _, x, hx => by simp at hx
 | a :: r, h, x, hx => by
  have h' : (if rg a lo hi = 0 then eachE lo hi r else rg a lo hi) = 0 := h
  by_cases c : rg a lo hi = 0
  ·rw [if_pos c] at h'
   rcases List.mem_cons.1 hx with rfl | hx
   ·exact rg_00 c
   ·exact each_0 h' x hx
  ·rw [if_neg c] at h'; exact absurd h' c
theorem map_0 {xs : List Int} (h : mapE xs = 0) : 0 < xs.length ∧ xs.length ≤ 8 ∧ ∀ x ∈ xs, 0 ≤ x ∧ x ≤ 6 := by
 unfold mapE at h
 by_cases h1 : xs.length = 0
 ·rw [if_pos h1] at h; exact absurd h (by decide)
 ·rw [if_neg h1] at h
  by_cases h2 : 8 < xs.length
  ·rw [if_pos h2] at h; exact absurd h (by decide)
  ·rw [if_neg h2] at h; exact ⟨by omega, by omega, each_0 h⟩
theorem bear_0 {xs : List Int} (h : bearE xs = 0) : mapE xs = 0 ∧ ∃ x ∈ xs, 0 < x.toNat := by
 unfold bearE at h
 rw [fI2] at h
 by_cases c : mapE xs = 0
 ·rw [if_pos c] at h
  refine ⟨c, Classical.byContradiction fun hn => ?_⟩
  have hz := tot0 xs fun x hx => by
   have h1 := ((map_0 c).2.2 x hx).1
   have h2 : ¬ 0 < x.toNat := fun a => hn ⟨x, hx, a⟩
   omega
  rw [hz] at h
  exact absurd h (by decide)
 ·rw [if_neg c] at h; exact absurd h c
theorem rep_set (A : List Int) (m : Nat) (a : Int) : (A ++ List.replicate (m + 1) 0).set A.length a = (A ++ [a]) ++ List.replicate m 0 := by
 rw [List.set_append_right _ _ (Nat.le_refl _), Nat.sub_self, List.replicate_succ, List.set_cons_zero, List.append_assoc]
 rfl
theorem l27i {Φ : Res → Prop} (hE : EnvOk E) (xs : List Int) (hm : xs.length ≤ 8) (hb : ∀ x ∈ xs, 0 ≤ x ∧ x ≤ 6) : ∀ m i, m + i = xs.length → ∀ (A : List Int) (d : List Bool) (row : List Int) (rest : List Bool), A.length = i → row = A ++ symF (xs.drop i) d → rest = restF (xs.drop i) d → (∀ j, OutK E 0 0 (y27o (iD xs) xs.length 1 rest.length (bbD rest) (rC [row]) j) Φ) → ∀ j, OutK E 0 0 (y27i (iD xs) xs.length i d.length (bbD d) (iC (A ++ List.replicate m 0)) j) Φ
 | 0, i, hi, A, d, row, rest, hA, hrow, hrest, cont, j => by
  obtain rfl : i = xs.length := by omega
  rw [List.drop_length] at hrow hrest
  obtain rfl : rest = d := hrest
  obtain rfl : row = A := by rw [hrow]; exact List.append_nil A
  rw [List.replicate_zero, List.append_nil]
  have e : rC [row] = [.dp (.s (iD row) xs.length 1)] := by rw [← hA]; rfl
  rw [e] at cont
  refine outK_freeze 0 (ds := iD row) (N := xs.length) (el := 3) (fl := true) (h' := (y27f (iD xs) xs.length rest.length (bbD rest) (iD row) j).heap) (tm' := (y27f (iD xs) xs.length rest.length (bbD rest) (iD row) j).tm) rfl (Nat.zero_le _) ⟨trivial, trivial⟩ (frz2 j [(0, dI xs), (7, (.e (.one (.v (.slice none 0 0))))), (8, dB rest), (9, (.e (.one (.slc 0 0 xs.length 1 xs.length true)))), (32, dI xs), (33, (iI (Int.ofNat xs.length))), (34, (iI (Int.ofNat xs.length)))] [(0, dI xs), (7, (.e (.one (.v (.slice none 0 0))))), (8, dB rest), (9, (.e (.one (.dp (.s (iD row) xs.length 1))))), (32, dI xs), (33, (iI (Int.ofNat xs.length))), (34, (iI (Int.ofNat xs.length)))] ⟨⟨rfl, .inl rfl⟩, ⟨rfl, .inl rfl⟩, ⟨rfl, .inl rfl⟩, ⟨rfl, .inr ⟨0, xs.length, 1, xs.length, true, iD row, rfl, rfl, by rw [Nat.mul_one]; exact tkAll _ _ (by rw [List.length_map]; exact hA)⟩⟩, ⟨rfl, .inl rfl⟩, ⟨rfl, .inl rfl⟩, ⟨rfl, .inl rfl⟩, trivial⟩ 57 0) ?_
  exact p27fn hE (iD xs) xs.length rest.length (bbD rest) (iD row) dF cont j
 | m + 1, i, hi, A, d, row, rest, hA, hrow, hrest, cont, j => by
  have hl : i < xs.length := by omega
  have hx : xs[i]? = some xs[i] := List.getElem?_eq_getElem hl
  have hb' := hb xs[i] (List.getElem_mem hl)
  rw [List.drop_eq_getElem_cons hl] at hrow hrest
  generalize xs[i] = x at hx hb' hrow hrest
  obtain ⟨q, rfl⟩ := Int.eq_ofNat_of_zero_le hb'.1
  have hq : q ≤ 6 := by omega
  have k86 := K86 hE q hq d
  have hlt := cut_lt q 0 d 1 (by decide) (by decide)
  have h64 := two_le ⟨q, by omega⟩
  simp only at h64
  replace hrow : row = A ++ (lvT.getD (cutF q 0 d).1.toNat 0 :: symF (xs.drop (i + 1)) (d.drop q)) := hrow
  replace hrest : rest = restF (xs.drop (i + 1)) (d.drop q) := hrest
  have hcr := cut_rest q 0 d
  generalize cutF q 0 d = c at k86 hlt hrow hcr
  obtain ⟨g, r⟩ := c
  simp only at hlt hcr hrow
  subst hcr
  obtain ⟨gn, rfl⟩ := Int.eq_ofNat_of_zero_le hlt.1
  have hg : gn < 64 := by omega
  have k87 := K87 hE gn hg
  replace hrow : row = (A ++ [lvT.getD gn 0]) ++ symF (xs.drop (i + 1)) (d.drop q) := by rw [hrow, List.append_assoc]; rfl
  have hst : overL [AC.v (Value.int .i64 (lvT.getD gn 0))] (iC (A ++ List.replicate (m + 1) 0)) i = iC ((A ++ [lvT.getD gn 0]) ++ List.replicate m 0) := by
   rw [st_iC, ← hA, rep_set]
  exact p27sn hE (iD xs) xs.length i d.length ((d.drop q).length) ((q : Int)) (lvT.getD gn 0) ((gn : Int)) (bbD d) (bbD (d.drop q)) (iC (A ++ List.replicate (m + 1) 0)) (iC ((A ++ [lvT.getD gn 0]) ++ List.replicate m 0)) dT bP (Nat.mul_one _) (gI hx) k86 k87 (by simp) (by omega) hst (iIe (by (try simp only [Int.ofNat_eq_natCast]); rw [wrap_id (by omega) (by omega)]; try omega)) (l27i hE xs hm hb m (i + 1) (by omega) (A ++ [lvT.getD gn 0]) (d.drop q) row rest (by simp [hA]) hrow hrest cont) j
theorem l27j {Φ : Res → Prop} (hE : EnvOk E) (xs : List Int) (hm : xs.length ≤ 8) (hb : ∀ x ∈ xs, 0 ≤ x ∧ x ≤ 6) (Os : List (List Int)) (hO : Os.length ≤ 2000) : ∀ m i, m + i = xs.length → ∀ (A : List Int) (d : List Bool) (row : List Int) (rest : List Bool), A.length = i → row = A ++ symF (xs.drop i) d → rest = restF (xs.drop i) d → (∀ j, OutK E 0 0 (y27o (iD xs) xs.length ((Os.length + 1)) rest.length (bbD rest) (rC (Os ++ [row])) j) Φ) → ∀ j, OutK E 0 0 (y27j (iD xs) xs.length i Os.length d.length (bbD d) (rC Os) (iC (A ++ List.replicate m 0)) j) Φ
 | 0, i, hi, A, d, row, rest, hA, hrow, hrest, cont, j => by
  obtain rfl : i = xs.length := by omega
  rw [List.drop_length] at hrow hrest
  obtain rfl : rest = d := hrest
  obtain rfl : row = A := by rw [hrow]; exact List.append_nil A
  rw [List.replicate_zero, List.append_nil]
  have e : appL (rC Os) [.dp (.s (iD row) xs.length 1)] = rC (Os ++ [row]) := by rw [← hA]; exact rC_app Os row
  refine outK_freeze 1 (ds := iD row) (N := xs.length) (el := 3) (fl := true) (h' := (y27g (iD xs) xs.length Os.length rest.length (bbD rest) (iD row) (rC Os) j).heap) (tm' := (y27g (iD xs) xs.length Os.length rest.length (bbD rest) (iD row) (rC Os) j).tm) rfl (Nat.zero_le _) ⟨.inl rfl, trivial, trivial⟩ (frz2 j [(0, dI xs), (7, (.e (.one (.slc 0 0 Os.length 1 Os.length false)))), (8, dB rest), (9, (.e (.one (.slc 1 0 xs.length 1 xs.length true)))), (32, dI xs), (33, (iI (Int.ofNat xs.length))), (34, (iI (Int.ofNat xs.length)))] [(0, dI xs), (7, (.e (.one (.slc 0 0 Os.length 1 Os.length false)))), (8, dB rest), (9, (.e (.one (.dp (.s (iD row) xs.length 1))))), (32, dI xs), (33, (iI (Int.ofNat xs.length))), (34, (iI (Int.ofNat xs.length)))] ⟨⟨rfl, .inl rfl⟩, ⟨rfl, .inl rfl⟩, ⟨rfl, .inl rfl⟩, ⟨rfl, .inr ⟨0, xs.length, 1, xs.length, true, iD row, rfl, rfl, by rw [Nat.mul_one]; exact tkAll _ _ (by rw [List.length_map]; exact hA)⟩⟩, ⟨rfl, .inl rfl⟩, ⟨rfl, .inl rfl⟩, ⟨rfl, .inl rfl⟩, trivial⟩ 57 0) ?_
  exact p27fo hE (iD xs) xs.length Os.length rest.length 0 (bbD rest) (iD row) (rC Os) (rC (Os ++ [row])) dF (by omega) (by simp [small]; omega) oB e oB (by first | exact flat_iC _ | exact flat_rows _) cont j
 | m + 1, i, hi, A, d, row, rest, hA, hrow, hrest, cont, j => by
  have hl : i < xs.length := by omega
  have hx : xs[i]? = some xs[i] := List.getElem?_eq_getElem hl
  have hb' := hb xs[i] (List.getElem_mem hl)
  rw [List.drop_eq_getElem_cons hl] at hrow hrest
  generalize xs[i] = x at hx hb' hrow hrest
  obtain ⟨q, rfl⟩ := Int.eq_ofNat_of_zero_le hb'.1
  have hq : q ≤ 6 := by omega
  have k86 := K86 hE q hq d
  have hlt := cut_lt q 0 d 1 (by decide) (by decide)
  have h64 := two_le ⟨q, by omega⟩
  simp only at h64
  replace hrow : row = A ++ (lvT.getD (cutF q 0 d).1.toNat 0 :: symF (xs.drop (i + 1)) (d.drop q)) := hrow
  replace hrest : rest = restF (xs.drop (i + 1)) (d.drop q) := hrest
  have hcr := cut_rest q 0 d
  generalize cutF q 0 d = c at k86 hlt hrow hcr
  obtain ⟨g, r⟩ := c
  simp only at hlt hcr hrow
  subst hcr
  obtain ⟨gn, rfl⟩ := Int.eq_ofNat_of_zero_le hlt.1
  have hg : gn < 64 := by omega
  have k87 := K87 hE gn hg
  replace hrow : row = (A ++ [lvT.getD gn 0]) ++ symF (xs.drop (i + 1)) (d.drop q) := by rw [hrow, List.append_assoc]; rfl
  have hst : overL [AC.v (Value.int .i64 (lvT.getD gn 0))] (iC (A ++ List.replicate (m + 1) 0)) i = iC ((A ++ [lvT.getD gn 0]) ++ List.replicate m 0) := by
   rw [st_iC, ← hA, rep_set]
  exact p27so hE (iD xs) xs.length i Os.length d.length ((d.drop q).length) ((q : Int)) (lvT.getD gn 0) ((gn : Int)) (bbD d) (bbD (d.drop q)) (rC Os) (iC (A ++ List.replicate (m + 1) 0)) (iC ((A ++ [lvT.getD gn 0]) ++ List.replicate m 0)) dT bP (Nat.mul_one _) (gI hx) k86 k87 (by simp) (by omega) hst (iIe (by (try simp only [Int.ofNat_eq_natCast]); rw [wrap_id (by omega) (by omega)]; try omega)) (l27j hE xs hm hb Os hO m (i + 1) (by omega) (A ++ [lvT.getD gn 0]) (d.drop q) row rest (by simp [hA]) hrow hrest cont) j
theorem l27o (hE : EnvOk E) (xs : List Int) (hm : xs.length ≤ 8) (hb : ∀ x ∈ xs, 0 ≤ x ∧ x ≤ 6) (hp : ∃ x ∈ xs, 0 < x.toNat) (V : List (List Int)) : ∀ (f : Nat) (d : List Bool) (Os : List (List Int)), d.length ≤ f → Os.length + f ≤ 2000 → V = Os ++ loadF f xs d → ∀ j, OutK E 0 0 (y27o (iD xs) xs.length Os.length d.length (bbD d) (rC Os) j) (Go.Ev.Ends E Tryz.f27 (.tup [.one (.slc 0 0 V.length 1 V.length false), .one (.v (.int .i64 0))]) [some ⟨rC V, V.length, 22, false, .cells⟩])
 | 0, d, Os, hd, hO, hV, j => by
  obtain rfl : V = Os := by rw [hV]; exact List.append_nil _
  exact p27xo hE (iD xs) xs.length V.length d.length (bbD d) (rC V) (decide_eq_false (by omega)) (fun j => outK_ret (ends_ret (by kernel_rfl))) j
 | f + 1, d, Os, hd, hO, hV, j => by
  have e : loadF (f + 1) xs d = if d.length = 0 then [] else symF xs d :: loadF f xs (restF xs d) := rfl
  rw [e] at hV
  by_cases h : d.length = 0
  ·rw [if_pos h, List.append_nil] at hV
   subst hV
   exact p27xo hE (iD xs) xs.length V.length d.length (bbD d) (rC V) (decide_eq_false (by omega)) (fun j => outK_ret (ends_ret (by kernel_rfl))) j
  ·rw [if_neg h] at hV
   have hlt := rest_lt xs d hp (by omega)
   have ih := l27o hE xs hm hb hp V f (restF xs d) (Os ++ [symF xs d]) (by omega) (by simp; omega) (by rw [hV, List.append_assoc]; rfl)
   rw [List.length_append, List.length_singleton] at ih
   exact p27bo hE (iD xs) xs.length Os.length d.length (bbD d) (rC Os) (iC (List.replicate xs.length 0)) (decide_eq_true (by omega)) ⟨by omega, by omega⟩ (by simp [small]; omega) rfl oB (rep0 _) (l27j hE xs hm hb Os (by omega) xs.length 0 rfl [] d (symF xs d) (restF xs d) rfl rfl rfl ih) j
def loadE (xs : List Int) (m : Nat) : Int := firstI [bearE xs, fI (decide ((m : Int) > 1024)) 5]
def loadV (xs : List Int) (d : List Bool) : List (List Int) := if loadE xs d.length = 0 then loadF d.length xs d else []
theorem load_0 {xs : List Int} {m : Nat} (h : loadE xs m = 0) : bearE xs = 0 ∧ m ≤ 1024 := by
 unfold loadE at h
 rw [fI2] at h
 by_cases c : bearE xs = 0
 ·rw [if_pos c] at h
  refine ⟨c, Classical.byContradiction fun a => ?_⟩
  rw [show fI (decide ((m : Int) > 1024)) 5 = 5 by unfold fI; rw [if_pos (decide_eq_true (by omega))]] at h
  exact absurd h (by decide)
 ·rw [if_neg c] at h; exact absurd h c
theorem K27 (hE : EnvOk E) (xs : List Int) (d : List Bool) (hx : xs.length ≤ 100000) : COut E 0 [] 27 [dI xs, dB d] (.tup [.one (.dp (.s (rD (loadV xs d)) (loadV xs d).length 1)), .one (.v (.int .i64 (loadE xs d.length)))]) [] := by
 have k69 := lend2 1 hE 69 _ _ 29 true (K69 hE [bearE xs, fI (decide ((d.length : Int) > 1024)) 5] (by simp)) [bK [.v (.int .i64 (bearE xs)), .v (.int .i64 (fI (decide ((d.length : Int) > 1024)) 5))] 2 29] 0 rfl
 by_cases h : loadE xs d.length = 0
 ·obtain ⟨h1, h2⟩ := load_0 h
  obtain ⟨h3, hp⟩ := bear_0 h1
  obtain ⟨h4, h5, hb⟩ := map_0 h3
  rw [show firstI [bearE xs, fI (decide ((d.length : Int) > 1024)) 5] = 0 from h] at k69
  have ev : loadV xs d = loadF d.length xs d := if_pos h
  rw [ev, h]
  by_cases hd : d.length = 0
  ·have e0 : loadF d.length xs d = [] := by rw [hd]; rfl
   rw [e0]
   have hc : COut E 0 [] 27 [dI xs, dB d] (.tup [.one (.v (.slice none 0 0)), .one (.v (.int .i64 0))]) [] :=
    cOut_clear (cOut_start Tryz.func27 rfl (p27a hE (iD xs) xs.length d.length (bearE xs) (fI (decide ((d.length : Int) > 1024)) 5) 0 (bbD d) (K84 hE xs hx) (K85 hE _ _) k69 rfl (p27xn hE (iD xs) xs.length d.length (bbD d) (decide_eq_false (by omega)) (fun j => outK_ret (ends_ret (by kernel_rfl)))) fun _ => undef)) rfl
   exact tup_wk hc fun m => ⟨wkN m 1, fun _ h => h, trivial⟩
  ·obtain ⟨f, hf⟩ : ∃ f, d.length = f + 1 := ⟨d.length - 1, by omega⟩
   have e1 : loadF d.length xs d = [symF xs d] ++ loadF f xs (restF xs d) := by rw [hf]; show (if d.length = 0 then [] else _) = _; rw [if_neg hd]; rfl
   have hlt := rest_lt xs d hp (by omega)
   have lo := l27o hE xs h5 hb hp (loadF d.length xs d) f (restF xs d) [symF xs d] (by omega) (by simp; omega) e1
   generalize loadF d.length xs d = V at lo
   have hc : COut E 0 [] 27 [dI xs, dB d] (.tup [.one (.slc 0 0 V.length 1 V.length false), .one (.v (.int .i64 0))]) [some ⟨rC V, V.length, 22, false, .cells⟩] :=
    cOut_start Tryz.func27 rfl (p27a hE (iD xs) xs.length d.length (bearE xs) (fI (decide ((d.length : Int) > 1024)) 5) 0 (bbD d) (K84 hE xs hx) (K85 hE _ _) k69 rfl (p27bn hE (iD xs) xs.length d.length (bbD d) (iC (List.replicate xs.length 0)) (decide_eq_true (by omega)) ⟨by omega, by omega⟩ (by simp [small]; omega) rfl oB (rep0 _) (l27i hE xs h5 hb xs.length 0 rfl [] d (symF xs d) (restF xs d) rfl rfl rfl lo)) fun _ => undef)
   exact cOut_clear (cOut_freeze 0 hc rfl (Nat.zero_le _) (ds := rD V) (v' := .tup [.one (.dp (.s (rD V) V.length 1)), .one (.v (.int .i64 0))]) ⟨frzAll (b := 0) (rD V) V.length 1 V.length false (by simp), .inl rfl, trivial⟩) rfl
 ·have ev : loadV xs d = [] := if_neg h
  rw [ev]
  have hc : COut E 0 [] 27 [dI xs, dB d] (.tup [.one (.v (.slice none 0 0)), .one (.v (.int .i64 (loadE xs d.length)))]) [] :=
   cOut_clear (cOut_start Tryz.func27 rfl (p27e hE (iD xs) xs.length d.length (bearE xs) (fI (decide ((d.length : Int) > 1024)) 5) (loadE xs d.length) (bbD d) (K84 hE xs hx) (K85 hE _ _) k69 (bne_iff_ne.2 h) (fun j => outK_ret (ends_ret (by kernel_rfl))) fun _ => undef)) rfl
  exact tup_wk hc fun m => ⟨wkN m 1, fun _ h => h, trivial⟩
end
end Go.Proofs.YtaccakbjankeeaaGreatDoor
end

/-! SeBm -/
section
open Go Go.Ev
namespace Go.Proofs.YtaccakbjankeeaaGreatDoor
noncomputable section
set_option maxRecDepth 100000
set_option maxHeartbeats 20000000
end
end Go.Proofs.YtaccakbjankeeaaGreatDoor
end
