/-
  Part of the proof: SeMd, SeMe.
-/
import Derived.Test.YtigdchbjmnbjlaaGreatDoorSeZJ

/-! SeMd -/
section
open Go Go.Ev
namespace Go.Proofs.YtigdchbjmnbjlaaGreatDoor
noncomputable section
set_option maxRecDepth 100000
set_option maxHeartbeats 20000000
def w111 (C N O : List DT) (s n o p : Nat) (mg ms : Int) (_j : JN) : St := startK Tryz.f111 [] [.e (.agg (tQ C s N n mg ms O o)), (iN p)]
def v111 (C N O P : List DT) (s n o i q p : Nat) (mg ms : Int) (j : JN) : St := ⟨[bK (tQ C s N n mg ms O o) 5 71], [(.code (aF [1, 1, 0, 1, 0, 0] Tryz.f111)), (.inLoop (aF [1, 1, 0, 1, 0, 0] Tryz.f111)), (.inBlock 0), (.code (aF [1, 1, 1] Tryz.f111))], mkT j [(1, (iN p)), (2, (.e (.one (.ptr 0 0)))), (5, (dQ P q)), (6, (iN i))] 46 0⟩
def v111n (C N O P : List DT) (s n o i k q p : Nat) (mg ms : Int) (j : JN) : St := ⟨[(bK (tQ C s N n mg ms O o) 5 71)], [(.code (aF [1, 1, 0, 1, 0, 0, 1, 0, 0, 1, 0, 1, 0, 0] Tryz.f111)), (.inLoop (aF [1, 1, 0, 1, 0, 0, 1, 0, 0, 1, 0, 1, 0, 0] Tryz.f111)), (.inBlock 2), (.code (aF [1, 1, 0, 1, 0, 0, 1, 0, 0, 1, 1] Tryz.f111)), (.inBlock 1), (.code (aF [1, 1, 0, 1, 0, 0, 1, 1] Tryz.f111)), (.inLoop (aF [1, 1, 0, 1, 0, 0] Tryz.f111)), (.inBlock 0), (.code (aF [1, 1, 1] Tryz.f111))], mkT j [(1, (iN p)), (2, (.e (.one (.ptr 0 0)))), (5, (dQ P q)), (6, (iN i)), (7, (.e (.one (.v (.slice none 0 0))))), (8, (iN k))] 46 0⟩
def v111o (C N O P : List DT) (s n o i k q g p : Nat) (mg ms : Int) (Y : List AC) (j : JN) : St := ⟨[bK (tQ C s N n mg ms O o) 5 71, some ⟨Y, g, 30, false, .cells⟩], [(.code (aF [1, 1, 0, 1, 0, 0, 1, 0, 0, 1, 0, 1, 0, 0] Tryz.f111)), (.inLoop (aF [1, 1, 0, 1, 0, 0, 1, 0, 0, 1, 0, 1, 0, 0] Tryz.f111)), (.inBlock 2), (.code (aF [1, 1, 0, 1, 0, 0, 1, 0, 0, 1, 1] Tryz.f111)), (.inBlock 1), (.code (aF [1, 1, 0, 1, 0, 0, 1, 1] Tryz.f111)), (.inLoop (aF [1, 1, 0, 1, 0, 0] Tryz.f111)), (.inBlock 0), (.code (aF [1, 1, 1] Tryz.f111))], mkT j [(1, (iN p)), (2, (.e (.one (.ptr 0 0)))), (5, (dQ P q)), (6, (iN i)), (7, (.e (.one (.slc 1 0 g 1 g false)))), (8, (iN k))] 46 0⟩
def u111n (C N O P : List DT) (s n o i k q p c : Nat) (mg ms : Int) (j : JN) : St := ⟨[(bK (tQ C s N n mg ms O o) 5 71)], [(.code (aF [1, 1, 0, 1, 0, 0, 1, 0, 0, 1, 0, 1, 0, 0, 1, 0, 0, 1, 0, 0] Tryz.f111)), (.inLoop (aF [1, 1, 0, 1, 0, 0, 1, 0, 0, 1, 0, 1, 0, 0, 1, 0, 0, 1, 0, 0] Tryz.f111)), (.inBlock 4), (.inBlock 3), (.code (aF [1, 1, 0, 1, 0, 0, 1, 0, 0, 1, 0, 1, 0, 0, 1, 1] Tryz.f111)), (.inLoop (aF [1, 1, 0, 1, 0, 0, 1, 0, 0, 1, 0, 1, 0, 0] Tryz.f111)), (.inBlock 2), (.code (aF [1, 1, 0, 1, 0, 0, 1, 0, 0, 1, 1] Tryz.f111)), (.inBlock 1), (.code (aF [1, 1, 0, 1, 0, 0, 1, 1] Tryz.f111)), (.inLoop (aF [1, 1, 0, 1, 0, 0] Tryz.f111)), (.inBlock 0), (.code (aF [1, 1, 1] Tryz.f111))], mkT j [(1, (iN p)), (2, (.e (.one (.ptr 0 0)))), (5, (dQ P q)), (6, (iN i)), (7, (.e (.one (.v (.slice none 0 0))))), (8, (iN k)), (9, (iN c))] 46 0⟩
def u111o (C N O P : List DT) (s n o i k q g p c : Nat) (mg ms : Int) (Y : List AC) (j : JN) : St := ⟨[(bK (tQ C s N n mg ms O o) 5 71), (.some ⟨(Y), g, 30, false, .cells⟩)], [(.code (aF [1, 1, 0, 1, 0, 0, 1, 0, 0, 1, 0, 1, 0, 0, 1, 0, 0, 1, 0, 0] Tryz.f111)), (.inLoop (aF [1, 1, 0, 1, 0, 0, 1, 0, 0, 1, 0, 1, 0, 0, 1, 0, 0, 1, 0, 0] Tryz.f111)), (.inBlock 4), (.inBlock 3), (.code (aF [1, 1, 0, 1, 0, 0, 1, 0, 0, 1, 0, 1, 0, 0, 1, 1] Tryz.f111)), (.inLoop (aF [1, 1, 0, 1, 0, 0, 1, 0, 0, 1, 0, 1, 0, 0] Tryz.f111)), (.inBlock 2), (.code (aF [1, 1, 0, 1, 0, 0, 1, 0, 0, 1, 1] Tryz.f111)), (.inBlock 1), (.code (aF [1, 1, 0, 1, 0, 0, 1, 1] Tryz.f111)), (.inLoop (aF [1, 1, 0, 1, 0, 0] Tryz.f111)), (.inBlock 0), (.code (aF [1, 1, 1] Tryz.f111))], mkT j [(1, (iN p)), (2, (.e (.one (.ptr 0 0)))), (5, (dQ P q)), (6, (iN i)), (7, (.e (.one (.slc 1 0 g 1 g false)))), (8, (iN k)), (9, (iN c))] 46 0⟩
def m111a_end (C N O : List DT) (s n o p : Nat) (mg ms : Int) (j : JN) : St := ⟨[(bK (tQ C s N n mg ms O o) 5 71), (bK [(.v (.slice none 0 0))] 1 30)], [(.code (aF [1, 1, 0, 1, 0, 0] Tryz.f111)), (.inLoop (aF [1, 1, 0, 1, 0, 0] Tryz.f111)), (.inBlock 0), (.code (aF [1, 1, 1] Tryz.f111))], mkT j [(1, (iN p)), (2, (.e (.one (.ptr 0 0)))), (5, (.e (.one (.slc 1 0 1 1 1 true)))), (6, (iI 0))] 46 0⟩
theorem m111a (hE : EnvOk E) (C N O : List DT) (s n o p : Nat) (mg ms : Int) {Φ : Res → Prop} (ho : ∀ j, OutK E 0 0 (m111a_end C N O s n o p mg ms j) Φ) (j : JN) : OutK E 0 0 (w111 C N O s n o p mg ms j) Φ :=
 oS hE [.run 9] [1, 2, 5, 6] (ps := []) trivial
  ho
def m111s_end (C N O P : List DT) (s n o i q p : Nat) (mg ms : Int) (j : JN) : St := ⟨[(bK (tQ C s N n mg ms O o) 5 71)], [(.code (aF [1, 1, 0, 1, 0, 0, 1, 0, 0, 1, 0, 1, 0, 0] Tryz.f111)), (.inLoop (aF [1, 1, 0, 1, 0, 0, 1, 0, 0, 1, 0, 1, 0, 0] Tryz.f111)), (.inBlock 2), (.code (aF [1, 1, 0, 1, 0, 0, 1, 0, 0, 1, 1] Tryz.f111)), (.inBlock 1), (.code (aF [1, 1, 0, 1, 0, 0, 1, 1] Tryz.f111)), (.inLoop (aF [1, 1, 0, 1, 0, 0] Tryz.f111)), (.inBlock 0), (.code (aF [1, 1, 1] Tryz.f111))], mkT j [(1, (iN p)), (2, (.e (.one (.ptr 0 0)))), (5, (dQ P q)), (6, (iN i)), (7, (.e (.one (.v (.slice none 0 0))))), (8, (iI 0))] 46 0⟩
theorem m111s (hE : EnvOk E) (C N O P : List DT) (s n o i q p : Nat) (mg ms : Int) (h0 : (decide (Int.ofNat i < (↑s : Int)) : Bool) = true) {Φ : Res → Prop} (ho : ∀ j, OutK E 0 0 (m111s_end C N O P s n o i q p mg ms j) Φ) (j : JN) : OutK E 0 0 (v111 C N O P s n o i q p mg ms j) Φ :=
 oS hE [.run 2, (.ops [(3, (.d .len))] []), (.cond true), .run 10] [1, 2, 5, 6, 7, 8] (aP h0 <| aZ)
  ho
def m111x_end (P : List DT) (q : Nat) (j : JN) : St := ⟨[], [(.code .ret)], mkT j [(4, (dQ P q))] 46 0⟩
theorem m111x (hE : EnvOk E) (C N O P : List DT) (s n o i q p : Nat) (mg ms : Int) (h0 : (decide (Int.ofNat i < (↑s : Int)) : Bool) = false) {Φ : Res → Prop} (ho : ∀ j, OutK E 0 0 (m111x_end P q j) Φ) (j : JN) : OutK E 0 0 (v111 C N O P s n o i q p mg ms j) Φ :=
 oS hE [.run 2, (.ops [(3, (.d .len))] []), (.cond false), .run 3] [4] (s' := fun j => ⟨[(bK (tQ C s N n mg ms O o) 5 71)], [(.code .ret)], mkT j [(4, (dQ P q))] 46 0⟩) (aP h0 <| aZ)
  fun j => gZ [] (ho j)
def m111tn_end (C N O P : List DT) (s n o i k q p : Nat) (mg ms : Int) (j : JN) : St := ⟨[(bK (tQ C s N n mg ms O o) 5 71)], [(.code (aF [1, 1, 0, 1, 0, 0, 1, 0, 0, 1, 0, 1, 0, 0, 1, 0, 0, 1, 0, 0] Tryz.f111)), (.inLoop (aF [1, 1, 0, 1, 0, 0, 1, 0, 0, 1, 0, 1, 0, 0, 1, 0, 0, 1, 0, 0] Tryz.f111)), (.inBlock 4), (.inBlock 3), (.code (aF [1, 1, 0, 1, 0, 0, 1, 0, 0, 1, 0, 1, 0, 0, 1, 1] Tryz.f111)), (.inLoop (aF [1, 1, 0, 1, 0, 0, 1, 0, 0, 1, 0, 1, 0, 0] Tryz.f111)), (.inBlock 2), (.code (aF [1, 1, 0, 1, 0, 0, 1, 0, 0, 1, 1] Tryz.f111)), (.inBlock 1), (.code (aF [1, 1, 0, 1, 0, 0, 1, 1] Tryz.f111)), (.inLoop (aF [1, 1, 0, 1, 0, 0] Tryz.f111)), (.inBlock 0), (.code (aF [1, 1, 1] Tryz.f111))], mkT j [(1, (iN p)), (2, (.e (.one (.ptr 0 0)))), (5, (dQ P q)), (6, (iN i)), (7, (.e (.one (.v (.slice none 0 0))))), (8, (iN k)), (9, (iI 0))] 46 0⟩
theorem m111tn (hE : EnvOk E) (C N O P : List DT) (s n o i k q p : Nat) (mg ms : Int) (h0 : (decide (Int.ofNat k < (↑q : Int)) : Bool) = true) {Φ : Res → Prop} (ho : ∀ j, OutK E 0 0 (m111tn_end C N O P s n o i k q p mg ms j) Φ) (j : JN) : OutK E 0 0 (v111n C N O P s n o i k q p mg ms j) Φ :=
 oS hE [.run 2, (.ops [(2, (.d .len))] []), (.cond true), .run 7] [1, 2, 5, 6, 7, 8, 9] (aP h0 <| aZ)
  ho
def m111to_end (C N O P : List DT) (s n o i k q g p : Nat) (mg ms : Int) (Y : List AC) (j : JN) : St := ⟨[(bK (tQ C s N n mg ms O o) 5 71), (.some ⟨(Y), g, 30, false, .cells⟩)], [(.code (aF [1, 1, 0, 1, 0, 0, 1, 0, 0, 1, 0, 1, 0, 0, 1, 0, 0, 1, 0, 0] Tryz.f111)), (.inLoop (aF [1, 1, 0, 1, 0, 0, 1, 0, 0, 1, 0, 1, 0, 0, 1, 0, 0, 1, 0, 0] Tryz.f111)), (.inBlock 4), (.inBlock 3), (.code (aF [1, 1, 0, 1, 0, 0, 1, 0, 0, 1, 0, 1, 0, 0, 1, 1] Tryz.f111)), (.inLoop (aF [1, 1, 0, 1, 0, 0, 1, 0, 0, 1, 0, 1, 0, 0] Tryz.f111)), (.inBlock 2), (.code (aF [1, 1, 0, 1, 0, 0, 1, 0, 0, 1, 1] Tryz.f111)), (.inBlock 1), (.code (aF [1, 1, 0, 1, 0, 0, 1, 1] Tryz.f111)), (.inLoop (aF [1, 1, 0, 1, 0, 0] Tryz.f111)), (.inBlock 0), (.code (aF [1, 1, 1] Tryz.f111))], mkT j [(1, (iN p)), (2, (.e (.one (.ptr 0 0)))), (5, (dQ P q)), (6, (iN i)), (7, (.e (.one (.slc 1 0 g 1 g false)))), (8, (iN k)), (9, (iI 0))] 46 0⟩
theorem m111to (hE : EnvOk E) (C N O P : List DT) (s n o i k q g p : Nat) (mg ms : Int) (Y : List AC) (h0 : (decide (Int.ofNat k < (↑q : Int)) : Bool) = true) {Φ : Res → Prop} (ho : ∀ j, OutK E 0 0 (m111to_end C N O P s n o i k q g p mg ms Y j) Φ) (j : JN) : OutK E 0 0 (v111o C N O P s n o i k q g p mg ms Y j) Φ :=
 oS hE [.run 2, (.ops [(2, (.d .len))] []), (.cond true), .run 7] [1, 2, 5, 6, 7, 8, 9] (aP h0 <| aZ)
  ho
def m111yo_end (C N O : List DT) (s n o i g p : Nat) (mg ms : Int) (Y : List AC) (j : JN) : St := ⟨[(bK (tQ C s N n mg ms O o) 5 71), (.some ⟨(Y), g, 30, false, .cells⟩)], [(.code (aF [1, 1, 0, 1, 0, 0] Tryz.f111)), (.inLoop (aF [1, 1, 0, 1, 0, 0] Tryz.f111)), (.inBlock 0), (.code (aF [1, 1, 1] Tryz.f111))], mkT j [(1, (iN p)), (2, (.e (.one (.ptr 0 0)))), (5, (.e (.one (.slc 1 0 g 1 g false)))), (6, (iN (i + 1)))] 46 0⟩
theorem m111yo (hE : EnvOk E) (C N O P : List DT) (s n o i k q g p : Nat) (mg ms : Int) (Y : List AC) (h0 : (decide (Int.ofNat k < (↑q : Int)) : Bool) = false) (h1 : ((iI (wrapF IntKind.i64 (Int.ofNat i + (1 : Int)))) : AV) = (iN (i + 1))) {Φ : Res → Prop} (ho : ∀ j, OutK E 0 0 (m111yo_end C N O s n o i g p mg ms Y j) Φ) (j : JN) : OutK E 0 0 (v111o C N O P s n o i k q g p mg ms Y j) Φ :=
 oS hE [.run 2, (.ops [(2, (.d .len))] []), (.cond false), .run 3, (.ops [(1, (.rn (iN (i + 1))))] []), .run 1] [1, 2, 5, 6] (aP h0 <| aP h1 <| aZ)
  ho
def m111un_end (C N O P : List DT) (s n o m i k q p c : Nat) (mg ms : Int) (V : List AC) (j : JN) : St := ⟨[(bK (tQ C s N n mg ms O o) 5 71), none, none, (bK [(.v (.int .i64 (Int.ofNat c)))] 1 3), (.some ⟨(V), (m + 1), 3, false, .cells⟩), (bK [(.slc 4 0 (m + 1) 1 (m + 1) false)] 1 30), (.some ⟨[(.slc 4 0 (m + 1) 1 (m + 1) false)], 1, 30, false, .cells⟩)], [(.code (aF [1, 1, 0, 1, 0, 0, 1, 0, 0, 1, 0, 1, 0, 0, 1, 0, 0, 1, 0, 0] Tryz.f111)), (.inLoop (aF [1, 1, 0, 1, 0, 0, 1, 0, 0, 1, 0, 1, 0, 0, 1, 0, 0, 1, 0, 0] Tryz.f111)), (.inBlock 4), (.inBlock 3), (.code (aF [1, 1, 0, 1, 0, 0, 1, 0, 0, 1, 0, 1, 0, 0, 1, 1] Tryz.f111)), (.inLoop (aF [1, 1, 0, 1, 0, 0, 1, 0, 0, 1, 0, 1, 0, 0] Tryz.f111)), (.inBlock 2), (.code (aF [1, 1, 0, 1, 0, 0, 1, 0, 0, 1, 1] Tryz.f111)), (.inBlock 1), (.code (aF [1, 1, 0, 1, 0, 0, 1, 1] Tryz.f111)), (.inLoop (aF [1, 1, 0, 1, 0, 0] Tryz.f111)), (.inBlock 0), (.code (aF [1, 1, 1] Tryz.f111))], mkT j [(1, (iN p)), (2, (.e (.one (.ptr 0 0)))), (5, (dQ P q)), (6, (iN i)), (7, (.e (.one (.slc 6 0 1 1 1 false)))), (8, (iN k)), (9, (iN (c + 1)))] 46 0⟩
theorem m111un (hE : EnvOk E) (C N O P R : List DT) (s n o m i k q p c : Nat) (mg ms d : Int) (D V : List AC) (h0 : COut E 0 [] 108 [(tA C s N n mg ms O o), (iN p), (iN i)] (iI d) []) (h2 : (decide (Int.ofNat c ≤ d) : Bool) = true) (h3 : (0 : Int) ≤ Int.ofNat k ∧ Int.ofNat k < (↑q : Int)) (h4 : ((Int.ofNat k).toNat * nat_lit 1 : Nat) = k) (h5 : (getL P k : Option DT) = (.some (.s R m 1))) (h6 : CopyOk [(bK (tQ C s N n mg ms O o) 5 71), (bK [] 0 3)] 1 8 (dQ R m) m D false) (h7 : (m * 1 : Nat) = m) (h8 : ¬m + 1 ≤ m) (h9 : (small (m + 1) (1 : Nat) (8 : Nat) : Bool) = true) (h10 : (m : Nat) = m * 1) (h11 : (appL D ((fun x => AC.v (Value.int IntKind.i64 (Int.ofNat c)) :: x) []) : List AC) = V) (h13 : ((m + 1) * 1 : Nat) = m + 1) (h14 : ((iI (wrapF IntKind.i64 (Int.ofNat c + (1 : Int)))) : AV) = (iN (c + 1))) {Φ : Res → Prop} (ho : ∀ j, OutK E 0 0 (m111un_end C N O P s n o m i k q p c mg ms V j) Φ) (j : JN) : OutK E 0 0 (u111n C N O P s n o i k q p c mg ms j) Φ :=
 oS hE [.run 2, (.ops [(4, (.c0 (iI d)))] []), (.cond true), .run 3, (.ops [(5, (.d (.ld (.s R m 1)))), (6, (.cpu m m D false)), (9, (.app (m + 1) (m + 1) V)), (4, (.d (.ix k)))] []), .run 1, (.ops [(1, (.rn (iN (c + 1))))] []), .run 1] [1, 2, 5, 6, 7, 8, 9] (aP h0 <| aN <| aQ h2 h3 h4 h5 <| aQ h6 h7 h8 h9 <| aP h10 <| aP h11 <| aP (rfl : (m + 1 : Nat) = m + 1) <| aP h13 <| aP h14 <| aZ)
  ho
def m111wn_end (C N O P : List DT) (s n o i k q p c : Nat) (mg ms : Int) (j : JN) : St := ⟨[(bK (tQ C s N n mg ms O o) 5 71), none, (bK [] 0 3), (bK [(.v (.int .i64 (Int.ofNat c)))] 1 3), (.some ⟨[(.v (.int .i64 (Int.ofNat c)))], 1, 3, false, .cells⟩), (bK [(.slc 4 0 1 1 1 false)] 1 30), (.some ⟨[(.slc 4 0 1 1 1 false)], 1, 30, false, .cells⟩)], [(.code (aF [1, 1, 0, 1, 0, 0, 1, 0, 0, 1, 0, 1, 0, 0, 1, 0, 0, 1, 0, 0] Tryz.f111)), (.inLoop (aF [1, 1, 0, 1, 0, 0, 1, 0, 0, 1, 0, 1, 0, 0, 1, 0, 0, 1, 0, 0] Tryz.f111)), (.inBlock 4), (.inBlock 3), (.code (aF [1, 1, 0, 1, 0, 0, 1, 0, 0, 1, 0, 1, 0, 0, 1, 1] Tryz.f111)), (.inLoop (aF [1, 1, 0, 1, 0, 0, 1, 0, 0, 1, 0, 1, 0, 0] Tryz.f111)), (.inBlock 2), (.code (aF [1, 1, 0, 1, 0, 0, 1, 0, 0, 1, 1] Tryz.f111)), (.inBlock 1), (.code (aF [1, 1, 0, 1, 0, 0, 1, 1] Tryz.f111)), (.inLoop (aF [1, 1, 0, 1, 0, 0] Tryz.f111)), (.inBlock 0), (.code (aF [1, 1, 1] Tryz.f111))], mkT j [(1, (iN p)), (2, (.e (.one (.ptr 0 0)))), (5, (dQ P q)), (6, (iN i)), (7, (.e (.one (.slc 6 0 1 1 1 false)))), (8, (iN k)), (9, (iN (c + 1)))] 46 0⟩
theorem m111wn (hE : EnvOk E) (C N O P : List DT) (s n o i k q p c : Nat) (mg ms d : Int) (h0 : COut E 0 [] 108 [(tA C s N n mg ms O o), (iN p), (iN i)] (iI d) []) (h2 : (decide (Int.ofNat c ≤ d) : Bool) = true) (h3 : (0 : Int) ≤ Int.ofNat k ∧ Int.ofNat k < (↑q : Int)) (h4 : ((Int.ofNat k).toNat * nat_lit 1 : Nat) = k) (h5 : (getL P k : Option DT) = (.some (.s [] 0 1))) (h6 : CopyOk [(bK (tQ C s N n mg ms O o) 5 71), (bK [] 0 3)] 1 8 (.e (.one (.dp (.s [] 0 1)))) 0 [] true) (h8 : ((iI (wrapF IntKind.i64 (Int.ofNat c + (1 : Int)))) : AV) = (iN (c + 1))) {Φ : Res → Prop} (ho : ∀ j, OutK E 0 0 (m111wn_end C N O P s n o i k q p c mg ms j) Φ) (j : JN) : OutK E 0 0 (u111n C N O P s n o i k q p c mg ms j) Φ :=
 oS hE [.run 2, (.ops [(4, (.c0 (iI d)))] []), (.cond true), .run 3, (.ops [(5, (.d (.ld (.s [] 0 1)))), (6, (.cpu 0 0 [] true)), (4, (.d (.ix k)))] []), .run 1, (.ops [(1, (.rn (iN (c + 1))))] []), .run 1] [1, 2, 5, 6, 7, 8, 9] (aP h0 <| aN <| aQ h2 h3 h4 h5 <| aP h6 <| aP (rfl : ((0 : Nat) : Nat) = (0 : Nat)) <| aP h8 <| aZ)
  ho
def m111uo_end (C N O P : List DT) (s n o m i k q g p c : Nat) (mg ms : Int) (Z V : List AC) (j : JN) : St := ⟨[(bK (tQ C s N n mg ms O o) 5 71), none, none, none, (bK [(.v (.int .i64 (Int.ofNat c)))] 1 3), (.some ⟨(V), (m + 1), 3, false, .cells⟩), (bK [(.slc 5 0 (m + 1) 1 (m + 1) false)] 1 30), (.some ⟨(Z), (g + 1), 30, false, .cells⟩)], [(.code (aF [1, 1, 0, 1, 0, 0, 1, 0, 0, 1, 0, 1, 0, 0, 1, 0, 0, 1, 0, 0] Tryz.f111)), (.inLoop (aF [1, 1, 0, 1, 0, 0, 1, 0, 0, 1, 0, 1, 0, 0, 1, 0, 0, 1, 0, 0] Tryz.f111)), (.inBlock 4), (.inBlock 3), (.code (aF [1, 1, 0, 1, 0, 0, 1, 0, 0, 1, 0, 1, 0, 0, 1, 1] Tryz.f111)), (.inLoop (aF [1, 1, 0, 1, 0, 0, 1, 0, 0, 1, 0, 1, 0, 0] Tryz.f111)), (.inBlock 2), (.code (aF [1, 1, 0, 1, 0, 0, 1, 0, 0, 1, 1] Tryz.f111)), (.inBlock 1), (.code (aF [1, 1, 0, 1, 0, 0, 1, 1] Tryz.f111)), (.inLoop (aF [1, 1, 0, 1, 0, 0] Tryz.f111)), (.inBlock 0), (.code (aF [1, 1, 1] Tryz.f111))], mkT j [(1, (iN p)), (2, (.e (.one (.ptr 0 0)))), (5, (dQ P q)), (6, (iN i)), (7, (.e (.one (.slc 7 0 (g + 1) 1 (g + 1) false)))), (8, (iN k)), (9, (iN (c + 1)))] 46 0⟩
theorem m111uo (hE : EnvOk E) (C N O P R : List DT) (s n o m i k q g p c : Nat) (mg ms d : Int) (D Y Z V : List AC) (h0 : COut E 0 [] 108 [(tA C s N n mg ms O o), (iN p), (iN i)] (iI d) []) (h2 : (decide (Int.ofNat c ≤ d) : Bool) = true) (h3 : (0 : Int) ≤ Int.ofNat k ∧ Int.ofNat k < (↑q : Int)) (h4 : ((Int.ofNat k).toNat * nat_lit 1 : Nat) = k) (h5 : (getL P k : Option DT) = (.some (.s R m 1))) (h6 : CopyOk [(bK (tQ C s N n mg ms O o) 5 71), (.some ⟨(Y), g, 30, false, .cells⟩), (bK [] 0 3)] 1 8 (dQ R m) m D false) (h7 : (m * 1 : Nat) = m) (h8 : ¬m + 1 ≤ m) (h9 : (small (m + 1) (1 : Nat) (8 : Nat) : Bool) = true) (h10 : (m : Nat) = m * 1) (h11 : (appL D ((fun x => AC.v (Value.int IntKind.i64 (Int.ofNat c)) :: x) []) : List AC) = V) (h13 : ((m + 1) * 1 : Nat) = m + 1) (h14 : ¬g + 1 ≤ g) (h15 : (small (g + 1) (1 : Nat) (24 : Nat) : Bool) = true) (h16 : (g : Nat) = g * nat_lit 1) (h17 : (appL Y ((fun x => AC.slc (5 : Nat) (0 : Nat) (m + 1) (1 : Nat) (m + 1) false :: x) []) : List AC) = Z) (h19 : ((g + 1) * nat_lit 1 : Nat) = g + 1) (h20 : ((iI (wrapF IntKind.i64 (Int.ofNat c + (1 : Int)))) : AV) = (iN (c + 1))) {Φ : Res → Prop} (ho : ∀ j, OutK E 0 0 (m111uo_end C N O P s n o m i k q g p c mg ms Z V j) Φ) (j : JN) : OutK E 0 0 (u111o C N O P s n o i k q g p c mg ms Y j) Φ :=
 oS hE [.run 2, (.ops [(4, (.c0 (iI d)))] []), (.cond true), .run 3, (.ops [(5, (.d (.ld (.s R m 1)))), (6, (.cpu m m D false)), (9, (.app (m + 1) (m + 1) V)), (11, (.app (g + 1) (g + 1) Z)), (4, (.d (.ix k)))] []), .run 1, (.ops [(1, (.rn (iN (c + 1))))] []), .run 1] [1, 2, 5, 6, 7, 8, 9] (aP h0 <| aN <| aQ h2 h3 h4 h5 <| aQ h6 h7 h8 h9 <| aP h10 <| aP h11 <| aP (rfl : (m + 1 : Nat) = m + 1) <| aQ h13 h14 h15 h16 <| aP h17 <| aP (rfl : (g + 1 : Nat) = g + 1) <| aP h19 <| aP h20 <| aZ)
  ho
def m111wo_end (C N O P : List DT) (s n o i k q g p c : Nat) (mg ms : Int) (Z : List AC) (j : JN) : St := ⟨[(bK (tQ C s N n mg ms O o) 5 71), none, none, (bK [] 0 3), (bK [(.v (.int .i64 (Int.ofNat c)))] 1 3), (.some ⟨[(.v (.int .i64 (Int.ofNat c)))], 1, 3, false, .cells⟩), (bK [(.slc 5 0 1 1 1 false)] 1 30), (.some ⟨(Z), (g + 1), 30, false, .cells⟩)], [(.code (aF [1, 1, 0, 1, 0, 0, 1, 0, 0, 1, 0, 1, 0, 0, 1, 0, 0, 1, 0, 0] Tryz.f111)), (.inLoop (aF [1, 1, 0, 1, 0, 0, 1, 0, 0, 1, 0, 1, 0, 0, 1, 0, 0, 1, 0, 0] Tryz.f111)), (.inBlock 4), (.inBlock 3), (.code (aF [1, 1, 0, 1, 0, 0, 1, 0, 0, 1, 0, 1, 0, 0, 1, 1] Tryz.f111)), (.inLoop (aF [1, 1, 0, 1, 0, 0, 1, 0, 0, 1, 0, 1, 0, 0] Tryz.f111)), (.inBlock 2), (.code (aF [1, 1, 0, 1, 0, 0, 1, 0, 0, 1, 1] Tryz.f111)), (.inBlock 1), (.code (aF [1, 1, 0, 1, 0, 0, 1, 1] Tryz.f111)), (.inLoop (aF [1, 1, 0, 1, 0, 0] Tryz.f111)), (.inBlock 0), (.code (aF [1, 1, 1] Tryz.f111))], mkT j [(1, (iN p)), (2, (.e (.one (.ptr 0 0)))), (5, (dQ P q)), (6, (iN i)), (7, (.e (.one (.slc 7 0 (g + 1) 1 (g + 1) false)))), (8, (iN k)), (9, (iN (c + 1)))] 46 0⟩
theorem m111wo (hE : EnvOk E) (C N O P : List DT) (s n o i k q g p c : Nat) (mg ms d : Int) (Y Z : List AC) (h0 : COut E 0 [] 108 [(tA C s N n mg ms O o), (iN p), (iN i)] (iI d) []) (h2 : (decide (Int.ofNat c ≤ d) : Bool) = true) (h3 : (0 : Int) ≤ Int.ofNat k ∧ Int.ofNat k < (↑q : Int)) (h4 : ((Int.ofNat k).toNat * nat_lit 1 : Nat) = k) (h5 : (getL P k : Option DT) = (.some (.s [] 0 1))) (h6 : CopyOk [(bK (tQ C s N n mg ms O o) 5 71), (.some ⟨(Y), g, 30, false, .cells⟩), (bK [] 0 3)] 1 8 (.e (.one (.dp (.s [] 0 1)))) 0 [] true) (h8 : ¬g + 1 ≤ g) (h9 : (small (g + 1) (1 : Nat) (24 : Nat) : Bool) = true) (h10 : (g : Nat) = g * nat_lit 1) (h11 : (appL Y ((fun x => AC.slc (5 : Nat) (0 : Nat) (1 : Nat) (1 : Nat) (1 : Nat) false :: x) []) : List AC) = Z) (h13 : ((g + 1) * nat_lit 1 : Nat) = g + 1) (h14 : ((iI (wrapF IntKind.i64 (Int.ofNat c + (1 : Int)))) : AV) = (iN (c + 1))) {Φ : Res → Prop} (ho : ∀ j, OutK E 0 0 (m111wo_end C N O P s n o i k q g p c mg ms Z j) Φ) (j : JN) : OutK E 0 0 (u111o C N O P s n o i k q g p c mg ms Y j) Φ :=
 oS hE [.run 2, (.ops [(4, (.c0 (iI d)))] []), (.cond true), .run 3, (.ops [(5, (.d (.ld (.s [] 0 1)))), (6, (.cpu 0 0 [] true)), (11, (.app (g + 1) (g + 1) Z)), (4, (.d (.ix k)))] []), .run 1, (.ops [(1, (.rn (iN (c + 1))))] []), .run 1] [1, 2, 5, 6, 7, 8, 9] (aP h0 <| aN <| aQ h2 h3 h4 h5 <| aP h6 <| aP (rfl : ((0 : Nat) : Nat) = (0 : Nat)) <| aQ h8 h9 h10 h11 <| aP (rfl : (g + 1 : Nat) = g + 1) <| aP h13 <| aP h14 <| aZ)
  ho
def m111zo_end (C N O P : List DT) (s n o i k q g p : Nat) (mg ms : Int) (Y : List AC) (j : JN) : St := ⟨[(bK (tQ C s N n mg ms O o) 5 71), (.some ⟨(Y), g, 30, false, .cells⟩)], [(.code (aF [1, 1, 0, 1, 0, 0, 1, 0, 0, 1, 0, 1, 0, 0] Tryz.f111)), (.inLoop (aF [1, 1, 0, 1, 0, 0, 1, 0, 0, 1, 0, 1, 0, 0] Tryz.f111)), (.inBlock 2), (.code (aF [1, 1, 0, 1, 0, 0, 1, 0, 0, 1, 1] Tryz.f111)), (.inBlock 1), (.code (aF [1, 1, 0, 1, 0, 0, 1, 1] Tryz.f111)), (.inLoop (aF [1, 1, 0, 1, 0, 0] Tryz.f111)), (.inBlock 0), (.code (aF [1, 1, 1] Tryz.f111))], mkT j [(1, (iN p)), (2, (.e (.one (.ptr 0 0)))), (5, (dQ P q)), (6, (iN i)), (7, (.e (.one (.slc 1 0 g 1 g false)))), (8, (iN (k + 1)))] 46 0⟩
theorem m111zo (hE : EnvOk E) (C N O P : List DT) (s n o i k q g p c : Nat) (mg ms d : Int) (Y : List AC) (h0 : COut E 0 [] 108 [(tA C s N n mg ms O o), (iN p), (iN i)] (iI d) []) (h2 : (decide (Int.ofNat c ≤ d) : Bool) = false) (h3 : ((iI (wrapF IntKind.i64 (Int.ofNat k + (1 : Int)))) : AV) = (iN (k + 1))) {Φ : Res → Prop} (ho : ∀ j, OutK E 0 0 (m111zo_end C N O P s n o i k q g p mg ms Y j) Φ) (j : JN) : OutK E 0 0 (u111o C N O P s n o i k q g p c mg ms Y j) Φ :=
 oS hE [.run 2, (.ops [(4, (.c0 (iI d)))] []), (.cond false), .run 2, (.ops [(1, (.rn (iN (k + 1))))] []), .run 1] [1, 2, 5, 6, 7, 8] (aP h0 <| aN <| aP h2 <| aP h3 <| aZ)
  ho
open Best
theorem frzL {i : Nat} {ds : List DT} : ∀ l : List AC, All2 (FrzC i ds) l l
 | [] => trivial
 | _ :: l => ⟨.inl rfl, frzL l⟩
theorem frzE {i : Nat} {ds : List DT} : ∀ x : AE, FrzE i ds x x
 | .one _ => .inl rfl
 | .agg l => frzL l
theorem frzEL {i : Nat} {ds : List DT} : ∀ l : List AE, All2 (FrzE i ds) l l
 | [] => trivial
 | x :: l => ⟨frzE x, frzEL l⟩
theorem frzV {i : Nat} {ds : List DT} : ∀ x : AV, FrzV i ds x x
 | .e x => frzE x
 | .tup l => frzEL l
theorem frzTm {i : Nat} {ds : List DT} : ∀ tm : Tm, All2 (FrzV i ds) tm tm
 | [] => trivial
 | x :: l => ⟨frzV x, frzTm l⟩
theorem frzApp {i : Nat} {ds : List DT} {x y : AC} (h : FrzC i ds x y) : ∀ A : List AC, All2 (FrzC i ds) (A ++ [x]) (A ++ [y])
 | [] => ⟨h, trivial⟩
 | _ :: l => ⟨.inl rfl, frzApp h l⟩
theorem rCsn (G : List (List Int)) (r : List Int) {w : Nat} (h : r.length = w) : rC (G ++ [r]) = rC G ++ [.dp (.s (iD r) w 1)] := by subst h; simp [DT.ac]
theorem flat1 (d : DV) : FlatC [.dp d] := fun c hc => by rw [List.mem_singleton.1 hc]; rfl
theorem flat2 (G : List (List Int)) (d : DV) : FlatC (rC G ++ [.dp d]) := flat_app (flat_rows _) (flat1 d)
theorem n111 {Φ : Res → Prop} (hE : EnvOk E) (sg : List Int) (ns : List (List Int)) (mg ms : Int) (nt : List Int) {p i k c : Nat} {d : Int} {L : List (List Int)} {ro : List Int} (k108 : COut E 0 [] 108 [aR sg ns mg ms nt, iI (Int.ofNat p), iI (Int.ofNat i)] (iI d) []) (hc : Int.ofNat c ≤ d) (hc2 : c ≤ 100) (hk : L[k]? = some ro) (hr : ro.length ≤ 100) (cont : ∀ j, OutK E 0 0 (u111o (iD sg) (rD ns) (iD nt) (rD L) sg.length ns.length nt.length i k L.length 1 p ((c + 1)) mg ms (rC [ro ++ [Int.ofNat c]]) j) Φ) : ∀ j, OutK E 0 0 (u111n (iD sg) (rD ns) (iD nt) (rD L) sg.length ns.length nt.length i k L.length p c mg ms j) Φ := by
 intro j
 have hkl := (List.getElem?_eq_some_iff.1 hk).1
 by_cases h0 : ro = []
 ·subst h0
  exact m111wn hE (iD sg) (rD ns) (iD nt) (rD L) sg.length ns.length nt.length i k L.length p c mg ms d k108 (decide_eq_true hc) bP (Nat.mul_one _) (gR hk) (cpI [] (by simp) _) (iIe (by (try simp only [Int.ofNat_eq_natCast]); rw [wrap_id (by omega) (by omega)]; try omega)) (fun j => outK_freeze 4 (ds := iD ([Int.ofNat c])) (N := 1) (el := 3) (fl := false) (h' := [bK (tQ (iD sg) sg.length (rD ns) ns.length mg ms (iD nt) nt.length) 5 71, none, bK [] 0 3, bK [.v (.int .i64 (Int.ofNat c))] 1 3, none, bK [.dp (.s (iD ([Int.ofNat c])) 1 1)] 1 30, some ⟨[.dp (.s (iD ([Int.ofNat c])) 1 1)], 1, 30, false, .cells⟩]) (tm' := (m111wn_end (iD sg) (rD ns) (iD nt) (rD L) sg.length ns.length nt.length i k L.length p c mg ms j).tm) rfl (Nat.zero_le _) ⟨.inl rfl, trivial, .inl rfl, .inl rfl, trivial, .inr ⟨rfl, rfl, rfl, rfl, rfl, (frzAll (iD ([Int.ofNat c])) 1 1 1 false (by simp)), trivial⟩, .inr ⟨rfl, rfl, rfl, rfl, rfl, (frzAll (iD ([Int.ofNat c])) 1 1 1 false (by simp)), trivial⟩, trivial⟩ (frzTm _) (outK_gcF [0, 6] [false, true] (h' := (u111o (iD sg) (rD ns) (iD nt) (rD L) sg.length ns.length nt.length i k L.length 1 p ((c + 1)) mg ms (rC [[Int.ofNat c]]) j).heap) (tm' := (u111o (iD sg) (rD ns) (iD nt) (rD L) sg.length ns.length nt.length i k L.length 1 p ((c + 1)) mg ms (rC [[Int.ofNat c]]) j).tm) (Nat.le_refl 0) (by kernel_rfl) (by kernel_rfl) ⟨flat_rows _, trivial⟩ (by kernel_rfl) (cont j))) j
 ·have hl : 0 < ro.length := List.length_pos_iff.2 h0
  have hb : decide (ro.length = 0) = false := decide_eq_false (by omega)
  have cpx := fun h => hb ▸ cpI ro (by omega) h
  have e : rC [ro ++ [Int.ofNat c]] = [.dp (.s (iD (ro ++ [Int.ofNat c])) (ro.length + 1) 1)] := rCsn [] _ (by simp)
  rw [e] at cont
  exact m111un hE (iD sg) (rD ns) (iD nt) (rD L) (iD ro) sg.length ns.length nt.length ro.length i k L.length p c mg ms d (iC ro) (iC (ro ++ [Int.ofNat c])) k108 (decide_eq_true hc) bP (Nat.mul_one _) (gR hk) (cpx _) oB oB (by simp [small]; omega) oB (by rw [appL_eq]; simp [DT.ac]) oB (iIe (by (try simp only [Int.ofNat_eq_natCast]); rw [wrap_id (by omega) (by omega)]; try omega)) (fun j => outK_freeze 4 (ds := iD (ro ++ [Int.ofNat c])) (N := ro.length + 1) (el := 3) (fl := false) (h' := [bK (tQ (iD sg) sg.length (rD ns) ns.length mg ms (iD nt) nt.length) 5 71, none, none, bK [.v (.int .i64 (Int.ofNat c))] 1 3, none, bK [.dp (.s (iD (ro ++ [Int.ofNat c])) (ro.length + 1) 1)] 1 30, some ⟨[.dp (.s (iD (ro ++ [Int.ofNat c])) (ro.length + 1) 1)], 1, 30, false, .cells⟩]) (tm' := (m111un_end (iD sg) (rD ns) (iD nt) (rD L) sg.length ns.length nt.length ro.length i k L.length p c mg ms (iC (ro ++ [Int.ofNat c])) j).tm) rfl (Nat.zero_le _) ⟨.inl rfl, trivial, trivial, .inl rfl, trivial, .inr ⟨rfl, rfl, rfl, rfl, rfl, (frzAll (iD (ro ++ [Int.ofNat c])) (ro.length + 1) 1 (ro.length + 1) false (by simp)), trivial⟩, .inr ⟨rfl, rfl, rfl, rfl, rfl, (frzAll (iD (ro ++ [Int.ofNat c])) (ro.length + 1) 1 (ro.length + 1) false (by simp)), trivial⟩, trivial⟩ (frzTm _) (outK_gcF [0, 6] [false, true] (h' := (u111o (iD sg) (rD ns) (iD nt) (rD L) sg.length ns.length nt.length i k L.length 1 p ((c + 1)) mg ms ([.dp (.s (iD (ro ++ [Int.ofNat c])) (ro.length + 1) 1)]) j).heap) (tm' := (u111o (iD sg) (rD ns) (iD nt) (rD L) sg.length ns.length nt.length i k L.length 1 p ((c + 1)) mg ms ([.dp (.s (iD (ro ++ [Int.ofNat c])) (ro.length + 1) 1)]) j).tm) (Nat.le_refl 0) (by kernel_rfl) (by kernel_rfl) ⟨by exact flat1 _, trivial⟩ (by kernel_rfl) (cont j))) j
theorem o111 {Φ : Res → Prop} (hE : EnvOk E) (sg : List Int) (ns : List (List Int)) (mg ms : Int) (nt : List Int) {p i k c : Nat} {d : Int} {L : List (List Int)} {ro : List Int} (k108 : COut E 0 [] 108 [aR sg ns mg ms nt, iI (Int.ofNat p), iI (Int.ofNat i)] (iI d) []) (hc : Int.ofNat c ≤ d) (hc2 : c ≤ 100) (hk : L[k]? = some ro) (hr : ro.length ≤ 100) {G : List (List Int)} (hG : G.length ≤ 100000) (cont : ∀ j, OutK E 0 0 (u111o (iD sg) (rD ns) (iD nt) (rD L) sg.length ns.length nt.length i k L.length ((G.length + 1)) p ((c + 1)) mg ms (rC (G ++ [ro ++ [Int.ofNat c]])) j) Φ) : ∀ j, OutK E 0 0 (u111o (iD sg) (rD ns) (iD nt) (rD L) sg.length ns.length nt.length i k L.length G.length p c mg ms (rC G) j) Φ := by
 intro j
 have hkl := (List.getElem?_eq_some_iff.1 hk).1
 by_cases h0 : ro = []
 ·subst h0
  rw [rCsn G ([] ++ [Int.ofNat c]) rfl] at cont
  exact m111wo hE (iD sg) (rD ns) (iD nt) (rD L) sg.length ns.length nt.length i k L.length G.length p c mg ms d (rC G) (rC G ++ [.slc 5 0 1 1 1 false]) k108 (decide_eq_true hc) bP (Nat.mul_one _) (gR hk) (cpI [] (by simp) _) oB (by simp [small]; omega) oB (appL_eq _ _) oB (iIe (by (try simp only [Int.ofNat_eq_natCast]); rw [wrap_id (by omega) (by omega)]; try omega)) (fun j => outK_freeze 5 (ds := iD ([Int.ofNat c])) (N := 1) (el := 3) (fl := false) (h' := [bK (tQ (iD sg) sg.length (rD ns) ns.length mg ms (iD nt) nt.length) 5 71, none, none, bK [] 0 3, bK [.v (.int .i64 (Int.ofNat c))] 1 3, none, bK [.dp (.s (iD ([Int.ofNat c])) 1 1)] 1 30, some ⟨rC G ++ [.dp (.s (iD ([Int.ofNat c])) 1 1)], G.length + 1, 30, false, .cells⟩]) (tm' := (m111wo_end (iD sg) (rD ns) (iD nt) (rD L) sg.length ns.length nt.length i k L.length G.length p c mg ms (rC G ++ [.slc 5 0 1 1 1 false]) j).tm) rfl (Nat.zero_le _) ⟨.inl rfl, trivial, trivial, .inl rfl, .inl rfl, trivial, .inr ⟨rfl, rfl, rfl, rfl, rfl, (frzAll (iD ([Int.ofNat c])) 1 1 1 false (by simp)), trivial⟩, .inr ⟨rfl, rfl, rfl, rfl, rfl, frzApp (frzAll (iD ([Int.ofNat c])) 1 1 1 false (by simp)) _⟩, trivial⟩ (frzTm _) (outK_gcF [0, 7] [false, true] (h' := (u111o (iD sg) (rD ns) (iD nt) (rD L) sg.length ns.length nt.length i k L.length ((G.length + 1)) p ((c + 1)) mg ms (rC G ++ [.dp (.s (iD [Int.ofNat c]) 1 1)]) j).heap) (tm' := (u111o (iD sg) (rD ns) (iD nt) (rD L) sg.length ns.length nt.length i k L.length ((G.length + 1)) p ((c + 1)) mg ms (rC G ++ [.dp (.s (iD [Int.ofNat c]) 1 1)]) j).tm) (Nat.le_refl 0) (by kernel_rfl) (by kernel_rfl) ⟨by exact flat2 _ _, trivial⟩ (by kernel_rfl) (cont j))) j
 ·have hl : 0 < ro.length := List.length_pos_iff.2 h0
  have hb : decide (ro.length = 0) = false := decide_eq_false (by omega)
  have cpx := fun h => hb ▸ cpI ro (by omega) h
  rw [rCsn G (ro ++ [Int.ofNat c]) (w := ro.length + 1) (by simp)] at cont
  exact m111uo hE (iD sg) (rD ns) (iD nt) (rD L) (iD ro) sg.length ns.length nt.length ro.length i k L.length G.length p c mg ms d (iC ro) (rC G) (rC G ++ [.slc 5 0 (ro.length + 1) 1 (ro.length + 1) false]) (iC (ro ++ [Int.ofNat c])) k108 (decide_eq_true hc) bP (Nat.mul_one _) (gR hk) (cpx _) oB oB (by simp [small]; omega) oB (by rw [appL_eq]; simp [DT.ac]) oB oB (by simp [small]; omega) oB (appL_eq _ _) oB (iIe (by (try simp only [Int.ofNat_eq_natCast]); rw [wrap_id (by omega) (by omega)]; try omega)) (fun j => outK_freeze 5 (ds := iD (ro ++ [Int.ofNat c])) (N := ro.length + 1) (el := 3) (fl := false) (h' := [bK (tQ (iD sg) sg.length (rD ns) ns.length mg ms (iD nt) nt.length) 5 71, none, none, none, bK [.v (.int .i64 (Int.ofNat c))] 1 3, none, bK [.dp (.s (iD (ro ++ [Int.ofNat c])) (ro.length + 1) 1)] 1 30, some ⟨rC G ++ [.dp (.s (iD (ro ++ [Int.ofNat c])) (ro.length + 1) 1)], G.length + 1, 30, false, .cells⟩]) (tm' := (m111uo_end (iD sg) (rD ns) (iD nt) (rD L) sg.length ns.length nt.length ro.length i k L.length G.length p c mg ms (rC G ++ [.slc 5 0 (ro.length + 1) 1 (ro.length + 1) false]) (iC (ro ++ [Int.ofNat c])) j).tm) rfl (Nat.zero_le _) ⟨.inl rfl, trivial, trivial, trivial, .inl rfl, trivial, .inr ⟨rfl, rfl, rfl, rfl, rfl, (frzAll (iD (ro ++ [Int.ofNat c])) (ro.length + 1) 1 (ro.length + 1) false (by simp)), trivial⟩, .inr ⟨rfl, rfl, rfl, rfl, rfl, frzApp (frzAll (iD (ro ++ [Int.ofNat c])) (ro.length + 1) 1 (ro.length + 1) false (by simp)) _⟩, trivial⟩ (frzTm _) (outK_gcF [0, 7] [false, true] (h' := (u111o (iD sg) (rD ns) (iD nt) (rD L) sg.length ns.length nt.length i k L.length ((G.length + 1)) p ((c + 1)) mg ms (rC G ++ [.dp (.s (iD (ro ++ [Int.ofNat c])) (ro.length + 1) 1)]) j).heap) (tm' := (u111o (iD sg) (rD ns) (iD nt) (rD L) sg.length ns.length nt.length i k L.length ((G.length + 1)) p ((c + 1)) mg ms (rC G ++ [.dp (.s (iD (ro ++ [Int.ofNat c])) (ro.length + 1) 1)]) j).tm) (Nat.le_refl 0) (by kernel_rfl) (by kernel_rfl) ⟨by exact flat2 _ _, trivial⟩ (by kernel_rfl) (cont j))) j
def exR (d : Nat) (L : List (List Int)) : List (List Int) := L.flatMap fun r => (List.range (d + 1)).map fun b => r ++ [Int.ofNat b]
theorem c111 {Φ : Res → Prop} (hE : EnvOk E) (sg : List Int) (ns : List (List Int)) (mg ms : Int) (nt : List Int) {p i k dn : Nat} {L : List (List Int)} {ro : List Int} (k108 : COut E 0 [] 108 [aR sg ns mg ms nt, iI (Int.ofNat p), iI (Int.ofNat i)] (iN dn) []) (hd : dn ≤ 10) (hk : L[k]? = some ro) (hr : ro.length ≤ 100) (hLb : L.length ≤ 90000) : ∀ m c (G : List (List Int)) g, G.length = g → m + c = dn + 1 → g + m ≤ 100000 → (∀ G', G' = G ++ (List.range' c m).map (fun b => ro ++ [Int.ofNat b]) → ∀ j, OutK E 0 0 (v111o (iD sg) (rD ns) (iD nt) (rD L) sg.length ns.length nt.length i ((k + 1)) L.length (G'.length) p mg ms (rC G') j) Φ) → ∀ j, OutK E 0 0 (u111o (iD sg) (rD ns) (iD nt) (rD L) sg.length ns.length nt.length i k L.length g p c mg ms (rC G) j) Φ := by
 have hkl := (List.getElem?_eq_some_iff.1 hk).1
 intro m
 induction m with
 | zero =>
  intro c G g hg hc _ cont j
  subst hg
  exact m111zo hE (iD sg) (rD ns) (iD nt) (rD L) sg.length ns.length nt.length i k L.length G.length p c mg ms (Int.ofNat dn) (rC G) k108 dF (iIe (by (try simp only [Int.ofNat_eq_natCast]); rw [wrap_id (by omega) (by omega)]; try omega)) (cont G (by simp)) j
 | succ m ih =>
  intro c G g hg hc hm cont j
  subst hg
  exact o111 hE sg ns mg ms nt k108 (by simp only [Int.ofNat_eq_natCast]; omega) (by omega) hk hr (by omega) (ih (c + 1) _ _ (by simp) (by omega) (by omega) fun G' e => cont G' (by rw [e, List.range'_succ, List.map_cons, List.append_assoc]; rfl)) j
theorem k111 {Φ : Res → Prop} (hE : EnvOk E) (sg : List Int) (ns : List (List Int)) (mg ms : Int) (nt : List Int) {p i dn : Nat} {L : List (List Int)} (k108 : COut E 0 [] 108 [aR sg ns mg ms nt, iI (Int.ofNat p), iI (Int.ofNat i)] (iN dn) []) (hd : dn ≤ 10) (hL : ∀ x ∈ L, x.length ≤ 100) (hLb : L.length ≤ 90000) : ∀ m k (G : List (List Int)) g, G.length = g → m + k = L.length → g + m * (dn + 1) ≤ 100000 → (∀ G', G' = G ++ exR dn (L.drop k) → ∀ j, OutK E 0 0 (v111o (iD sg) (rD ns) (iD nt) (rD L) sg.length ns.length nt.length i L.length L.length (G'.length) p mg ms (rC G') j) Φ) → ∀ j, OutK E 0 0 (v111o (iD sg) (rD ns) (iD nt) (rD L) sg.length ns.length nt.length i k L.length g p mg ms (rC G) j) Φ := by
 intro m
 induction m with
 | zero =>
  intro k G g hg hk _ cont j
  subst hg
  obtain rfl : k = L.length := by omega
  exact cont G (by simp [exR]) j
 | succ m ih =>
  intro k G g hg hk hm cont j
  subst hg
  have hl : k < L.length := by omega
  rw [Nat.succ_mul] at hm
  exact m111to hE (iD sg) (rD ns) (iD nt) (rD L) sg.length ns.length nt.length i k L.length G.length p mg ms (rC G) dT (c111 hE sg ns mg ms nt k108 hd (List.getElem?_eq_getElem hl) (hL _ (List.getElem_mem hl)) hLb (dn + 1) 0 G _ rfl (by omega) (by omega) fun G' e => ih (k + 1) G' _ rfl (by omega) (by rw [e, List.length_append, List.length_map, List.length_range']; omega) fun H e' => cont H (by rw [e', e, List.drop_eq_getElem_cons hl, List.append_assoc, ← List.range_eq_range']; rfl)) j
theorem s111 {Φ : Res → Prop} (hE : EnvOk E) (sg : List Int) (ns : List (List Int)) (mg ms : Int) (nt : List Int) {p i dn : Nat} {L : List (List Int)} (k108 : COut E 0 [] 108 [aR sg ns mg ms nt, iI (Int.ofNat p), iI (Int.ofNat i)] (iN dn) []) (hd : dn ≤ 10) (hL : ∀ x ∈ L, x.length ≤ 100) (h0 : 0 < L.length) (hN : L.length * (dn + 1) ≤ 90000) (hi : i < sg.length) (hi4 : i ≤ 1000) (cont : ∀ H, H = exR dn L → ∀ j, OutK E 0 0 (v111 (iD sg) (rD ns) (iD nt) (rD H) sg.length ns.length nt.length ((i + 1)) H.length p mg ms j) Φ) : ∀ j, OutK E 0 0 (v111 (iD sg) (rD ns) (iD nt) (rD L) sg.length ns.length nt.length i L.length p mg ms j) Φ := by
 intro j
 obtain ⟨ro, T, rfl⟩ : ∃ ro T, L = ro :: T := by
  cases L with
  | nil => exact absurd h0 (by simp)
  | cons a l => exact ⟨a, l, rfl⟩
 have hr := hL ro (by simp)
 have hg : (ro :: T)[0]? = some ro := rfl
 have hLb : (ro :: T).length ≤ 90000 := Nat.le_trans (Nat.le_mul_of_pos_right _ (by omega)) hN
 rw [List.length_cons, Nat.succ_mul] at hN
 refine m111s hE (iD sg) (rD ns) (iD nt) (rD (ro :: T)) sg.length ns.length nt.length i ((ro :: T).length) p mg ms dT (m111tn hE (iD sg) (rD ns) (iD nt) (rD (ro :: T)) sg.length ns.length nt.length i 0 ((ro :: T).length) p mg ms (decide_eq_true (by (try simp only [Int.ofNat_eq_natCast]); (simp only [List.length_cons]; omega))) (n111 hE sg ns mg ms nt k108 (by simp only [Int.ofNat_eq_natCast]; omega) (Nat.zero_le _) hg hr (c111 hE sg ns mg ms nt k108 hd hg hr hLb dn 1 [ro ++ [Int.ofNat 0]] 1 rfl (by omega) (by omega) fun G' e => k111 hE sg ns mg ms nt k108 hd hL hLb T.length 1 G' _ rfl rfl (by rw [e, List.length_append, List.length_map, List.length_range']; simp only [List.length_singleton]; omega) fun H e' => ?_))) j
 have eH : H = exR dn (ro :: T) := by
  rw [e', e]
  show _ = (List.range (dn + 1)).map _ ++ exR dn T
  rw [List.range_eq_range', List.range'_succ, List.map_cons]
  rfl
 refine m111yo hE (iD sg) (rD ns) (iD nt) (rD (ro :: T)) sg.length ns.length nt.length i ((ro :: T).length) ((ro :: T).length) H.length p mg ms (rC H) dF (iIe (by (try simp only [Int.ofNat_eq_natCast]); rw [wrap_id (by omega) (by omega)]; try omega)) fun j => ?_
 exact outK_freeze 1 (ds := rD H) (N := H.length) (el := 30) (fl := false) (h' := [bK (tQ (iD sg) sg.length (rD ns) ns.length mg ms (iD nt) nt.length) 5 71, none]) (tm' := (v111 (iD sg) (rD ns) (iD nt) (rD H) sg.length ns.length nt.length ((i + 1)) H.length p mg ms j).tm) rfl (Nat.zero_le _) ⟨.inl rfl, trivial, trivial⟩ (frz2 j [(1, (iN p)), (2, (.e (.one (.ptr 0 0)))), (5, (.e (.one (.slc 1 0 H.length 1 H.length false)))), (6, (iN (i + 1)))] [(1, (iN p)), (2, (.e (.one (.ptr 0 0)))), (5, (.e (.one (.dp (.s (rD H) H.length 1))))), (6, (iN (i + 1)))] ⟨⟨rfl, .inl rfl⟩, ⟨rfl, .inl rfl⟩, ⟨rfl, frzAll (rD H) H.length 1 H.length false (by simp)⟩, ⟨rfl, .inl rfl⟩, trivial⟩ 46 0) (outK_gc [0] (h' := (v111 (iD sg) (rD ns) (iD nt) (rD H) sg.length ns.length nt.length ((i + 1)) H.length p mg ms j).heap) (tm' := (v111 (iD sg) (rD ns) (iD nt) (rD H) sg.length ns.length nt.length ((i + 1)) H.length p mg ms j).tm) (Nat.le_refl 0) (by kernel_rfl) (by kernel_rfl) (by kernel_rfl) (cont H eH j))
theorem ext_fst (row : List Int) (d : Nat) (h : row.length = d + 1) (ms : List (List Int × Int)) : (extM row ms).map Prod.fst = exR d (ms.map Prod.fst) := by
 unfold extM exR
 rw [List.map_flatMap, List.flatMap_map, h]
 congr 1
 funext m
 rw [List.map_map]; rfl
theorem ext_cnt (row : List Int) : ∀ ms : List (List Int × Int), (extM row ms).length = ms.length * row.length
 | [] => by simp [extM]
 | m :: l => by
  have := ext_cnt row l
  unfold extM at this ⊢
  rw [List.flatMap_cons, List.length_append, this, List.length_map, List.length_range, List.length_cons, Nat.succ_mul, Nat.add_comm]
theorem all_cnt {f : Nat → List Int} : ∀ n, (∀ i, i < n → 0 < (f i).length ∧ (f i).length ≤ 7) → 0 < (allM (tab f n)).length ∧ (allM (tab f n)).length ≤ 7 ^ n
 | 0, _ => ⟨Nat.one_pos, Nat.le_refl 1⟩
 | n + 1, h => by
  obtain ⟨a, b⟩ := all_cnt n fun i hi => h i (by omega)
  obtain ⟨c, d⟩ := h n (by omega)
  rw [all_tab, ext_cnt, Nat.pow_succ]
  exact ⟨Nat.mul_pos a c, Nat.mul_le_mul b d⟩
abbrev mapsR (sg r : List Int) (mg ms : Int) (nt : List Int) : List (List Int) := (allM (tab (rowV sg r mg ms nt) sg.length)).map Prod.fst
theorem K111 (hE : EnvOk E) (sg : List Int) (ns : List (List Int)) (mg ms : Int) (nt : List Int) (hn : nt.length ≤ 100000) {p : Nat} {r : List Int} (h : PartOk sg ns mg p r) (hs : sg.length ≤ 4) : COut E 0 [] 111 [aR sg ns mg ms nt, iI (Int.ofNat p)] (dR (mapsR sg r mg ms nt)) [] := by
 have hcar : ∀ i, i < sg.length → ((rowV sg r mg ms nt) i).length = carV mg (el r i) (el sg i) ms nt i + 1 := fun i hi => by
  obtain ⟨_, _, _, c1, c2, c3⟩ := cell_of h hi
  exact powL_car (ms := ms) c1.1 c2.1 c3.1 nt i
 have h7 : ∀ i, i < sg.length → 0 < ((rowV sg r mg ms nt) i).length ∧ ((rowV sg r mg ms nt) i).length ≤ 7 := fun i hi => ⟨by rw [hcar i hi]; omega, powL_len ..⟩
 have lp : ∀ k i, k + i = sg.length → ∀ j, OutK E 0 0 (v111 (iD sg) (rD ns) (iD nt) (rD ((allM (tab (rowV sg r mg ms nt) i)).map Prod.fst)) sg.length ns.length nt.length i (((allM (tab (rowV sg r mg ms nt) i)).map Prod.fst).length) p mg ms j) (Go.Ev.Ends E Tryz.f111 (dR (mapsR sg r mg ms nt)) []) := by
  intro k
  induction k with
  | zero =>
   intro i hi j
   obtain rfl : i = sg.length := by omega
   exact m111x hE (iD sg) (rD ns) (iD nt) (rD (mapsR sg r mg ms nt)) sg.length ns.length nt.length sg.length ((mapsR sg r mg ms nt).length) p mg ms dF (fun j => outK_ret (ends_ret (by kernel_rfl))) j
  | succ k ih =>
   intro i hi j
   have hl : i < sg.length := by omega
   obtain ⟨a, b⟩ := all_cnt i fun q hq => h7 q (by omega)
   obtain ⟨_, hlen⟩ := all_ord (rowV sg r mg ms nt) i
   have hc7 := (h7 i hl).2
   have k76 := K76 hE sg ns mg ms nt hn (cell_of h hl)
   have b2 : (allM (tab (rowV sg r mg ms nt) i)).length ≤ 7 ^ 3 := Nat.le_trans b (Nat.pow_le_pow_right (by decide) (by omega))
   rw [hcar i hl] at hc7
   refine s111 hE sg ns mg ms nt k76 (by omega) (fun x hx => ?_) (by rw [List.length_map]; exact a) (by rw [List.length_map]; exact Nat.le_trans (Nat.mul_le_mul b2 hc7) (by decide)) hl (by omega) (fun H e => ?_) j
   ·obtain ⟨m, hm, rfl⟩ := List.mem_map.1 hx
    have := hlen m hm
    omega
   ·have := ih (i + 1) (by omega)
    rw [all_tab, ext_fst _ _ (hcar i hl)] at this
    subst e
    exact this
 have st := lp sg.length 0 rfl
 refine cOut_start Tryz.func111 rfl (m111a hE (iD sg) (rD ns) (iD nt) sg.length ns.length nt.length p mg ms  (fun j => ?_) fun _ => undef)
 refine outK_wks (h' := [bK (tQ (iD sg) sg.length (rD ns) ns.length mg ms (iD nt) nt.length) 5 71, bK ((rD [[]]).map DT.ac) 1 30]) ⟨⟨rfl, rfl, rfl, rfl, fun h => h, wkS_r _, wkS_r _, wkS_r _, wkS_r _, wkS_r _, trivial⟩, ⟨rfl, rfl, rfl, rfl, fun h => h, wkS_n 1, trivial⟩, trivial⟩ ?_
 exact outK_freeze 1 (ds := rD [[]]) (N := 1) (el := 30) (fl := true) (h' := [bK (tQ (iD sg) sg.length (rD ns) ns.length mg ms (iD nt) nt.length) 5 71, none]) (tm' := (v111 (iD sg) (rD ns) (iD nt) (rD [[]]) sg.length ns.length nt.length 0 1 p mg ms j).tm) rfl (Nat.zero_le _) ⟨.inl rfl, trivial, trivial⟩ (frz2 j [(1, (iN p)), (2, (.e (.one (.ptr 0 0)))), (5, (.e (.one (.slc 1 0 1 1 1 true)))), (6, (iI 0))] [(1, (iN p)), (2, (.e (.one (.ptr 0 0)))), (5, (.e (.one (.dp (.s (rD [[]]) 1 1))))), (6, (iI 0))] ⟨⟨rfl, .inl rfl⟩, ⟨rfl, .inl rfl⟩, ⟨rfl, frzAll (rD [[]]) 1 1 1 true rfl⟩, ⟨rfl, .inl rfl⟩, trivial⟩ 46 0) (outK_gc [0] (h' := (v111 (iD sg) (rD ns) (iD nt) (rD [[]]) sg.length ns.length nt.length 0 1 p mg ms j).heap) (tm' := (v111 (iD sg) (rD ns) (iD nt) (rD [[]]) sg.length ns.length nt.length 0 1 p mg ms j).tm) (Nat.le_refl 0) (by kernel_rfl) (by kernel_rfl) (by kernel_rfl) (st j))
end
end Go.Proofs.YtigdchbjmnbjlaaGreatDoor
end

/-! SeMe -/
section
open Go Go.Ev
namespace Go.Proofs.YtigdchbjmnbjlaaGreatDoor
noncomputable section
set_option maxRecDepth 100000
set_option maxHeartbeats 20000000
def w47 (C N O : List DT) (s n o p : Nat) (mg ms y : Int) (_j : JN) : St := startK Tryz.f47 [] [.e (.agg (tQ C s N n mg ms O o)), (iN p), iI y]
def v47 (C N O P B : List DT) (s n o i q b p : Nat) (mg ms y w z : Int) (j : JN) : St := ⟨[bK (tQ C s N n mg ms O o) 5 71], [(.code (aF [1, 1, 1, 0, 1, 0, 0] Tryz.f47)), (.inLoop (aF [1, 1, 1, 0, 1, 0, 0] Tryz.f47)), (.inBlock 0), (.code (aF [1, 1, 1, 1] Tryz.f47))], mkT j [(1, (iN p)), (2, (iI y)), (3, (.e (.one (.ptr 0 0)))), (8, (dQ P q)), (9, (dQ B b)), (10, (iI w)), (11, (iI z)), (12, (iN i))] 67 0⟩
def m47a_end (C N O P : List DT) (s n o q p : Nat) (mg ms y : Int) (j : JN) : St := ⟨[(bK (tQ C s N n mg ms O o) 5 71), (bK [] 0 3)], [(.code (aF [1, 1, 1, 0, 1, 0, 0] Tryz.f47)), (.inLoop (aF [1, 1, 1, 0, 1, 0, 0] Tryz.f47)), (.inBlock 0), (.code (aF [1, 1, 1, 1] Tryz.f47))], mkT j [(1, (iN p)), (2, (iI y)), (3, (.e (.one (.ptr 0 0)))), (8, (dQ P q)), (9, (.e (.one (.slc 1 0 0 1 0 true)))), (10, (iI 0)), (11, (iI (-1))), (12, (iI 0))] 67 0⟩
theorem m47a (hE : EnvOk E) (C N O P : List DT) (s n o q p : Nat) (mg ms y : Int) (h0 : COut E 0 [] 111 [(tA C s N n mg ms O o), (iN p)] (dQ P q) []) {Φ : Res → Prop} (ho : ∀ j, OutK E 0 0 (m47a_end C N O P s n o q p mg ms y j) Φ) (j : JN) : OutK E 0 0 (w47 C N O s n o p mg ms y j) Φ :=
 oS hE [.run 3, (.ops [(2, (.c0 (dQ P q)))] []), .run 7] [1, 2, 3, 8, 9, 10, 11, 12] (aP h0 <| aN <| aZ)
  ho
def m47over_end (C N O P B : List DT) (s n o i q b p : Nat) (mg ms y w z : Int) (j : JN) : St := ⟨[(bK (tQ C s N n mg ms O o) 5 71)], [(.code (aF [1, 1, 1, 0, 1, 0, 0] Tryz.f47)), (.inLoop (aF [1, 1, 1, 0, 1, 0, 0] Tryz.f47)), (.inBlock 0), (.code (aF [1, 1, 1, 1] Tryz.f47))], mkT j [(1, (iN p)), (2, (iI y)), (3, (.e (.one (.ptr 0 0)))), (8, (dQ P q)), (9, (dQ B b)), (10, (iI w)), (11, (iI z)), (12, (iN (i + 1)))] 67 0⟩
theorem m47over (hE : EnvOk E) (C N O P R B : List DT) (s n o m i q b p : Nat) (mg ms y e f x w z : Int) (h0 : (decide (Int.ofNat i < (↑q : Int)) : Bool) = true) (h1 : (0 : Int) ≤ Int.ofNat i ∧ Int.ofNat i < (↑q : Int)) (h2 : ((Int.ofNat i).toNat * nat_lit 1 : Nat) = i) (h3 : (getL P i : Option DT) = (.some (.s R m 1))) (h4 : COut E 0 [] 42 [(tA C s N n mg ms O o), (iN p), (dQ R m)] (.tup [(oI e), (oI f)]) []) (h10 : COut E 0 [] 112 [(dQ R m)] (iI x) []) (h12 : (decide (e ≤ y) == true : Bool) = false) (h17 : (decide (e ≤ y) : Bool) = false) (h18 : ((iI (wrapF IntKind.i64 (Int.ofNat i + (1 : Int)))) : AV) = (iN (i + 1))) {Φ : Res → Prop} (ho : ∀ j, OutK E 0 0 (m47over_end C N O P B s n o i q b p mg ms y w z j) Φ) (j : JN) : OutK E 0 0 (v47 C N O P B s n o i q b p mg ms y w z j) Φ :=
 oS hE [.run 2, (.ops [(2, (.d .len))] []), (.cond true), .run 4, (.ops [(5, (.d (.ld (.s R m 1)))), (6, (.c0 (.tup [(oI e), (oI f)]))), (4, (.d (.ix i)))] []), .run 1, (.ops [(3, (.d (.ld (.s R m 1)))), (4, (.c0 (iI x))), (2, (.d (.ix i)))] []), .run 1, (.ops [(17, (.pk false))] [(4, false), (5, false), (6, false), (7, false), (16, false)]), .run 3, (.ops [(1, (.rn (iN (i + 1))))] []), .run 1] [1, 2, 3, 8, 9, 10, 11, 12] (aQ h0 h1 h2 h3 <| aP h4 <| aN <| aV <| aQ h1 h2 h3 h10 <| aN <| aQ h12 h12 h12 h12 <| aP h12 <| aP h17 <| aP h18 <| aZ)
  ho
def m47gt_end (C N O P R : List DT) (s n o m i q p : Nat) (mg ms y e x : Int) (j : JN) : St := ⟨[(bK (tQ C s N n mg ms O o) 5 71)], [(.code (aF [1, 1, 1, 0, 1, 0, 0] Tryz.f47)), (.inLoop (aF [1, 1, 1, 0, 1, 0, 0] Tryz.f47)), (.inBlock 0), (.code (aF [1, 1, 1, 1] Tryz.f47))], mkT j [(1, (iN p)), (2, (iI y)), (3, (.e (.one (.ptr 0 0)))), (8, (dQ P q)), (9, (dQ R m)), (10, (iI e)), (11, (iI x)), (12, (iN (i + 1)))] 67 0⟩
theorem m47gt (hE : EnvOk E) (C N O P R B : List DT) (s n o m i q b p : Nat) (mg ms y e f x w z : Int) (h0 : (decide (Int.ofNat i < (↑q : Int)) : Bool) = true) (h1 : (0 : Int) ≤ Int.ofNat i ∧ Int.ofNat i < (↑q : Int)) (h2 : ((Int.ofNat i).toNat * nat_lit 1 : Nat) = i) (h3 : (getL P i : Option DT) = (.some (.s R m 1))) (h4 : COut E 0 [] 42 [(tA C s N n mg ms O o), (iN p), (dQ R m)] (.tup [(oI e), (oI f)]) []) (h10 : COut E 0 [] 112 [(dQ R m)] (iI x) []) (h12 : (decide (e ≤ y) == true : Bool) = true) (h16 : (decide (x > z) == false : Bool) = false) (h22 : (decide (x > z) : Bool) = true) (h23 : (decide (e ≤ y) : Bool) = true) (h27 : ((iI (wrapF IntKind.i64 (Int.ofNat i + (1 : Int)))) : AV) = (iN (i + 1))) {Φ : Res → Prop} (ho : ∀ j, OutK E 0 0 (m47gt_end C N O P R s n o m i q p mg ms y e x j) Φ) (j : JN) : OutK E 0 0 (v47 C N O P B s n o i q b p mg ms y w z j) Φ :=
 oS hE [.run 2, (.ops [(2, (.d .len))] []), (.cond true), .run 4, (.ops [(5, (.d (.ld (.s R m 1)))), (6, (.c0 (.tup [(oI e), (oI f)]))), (4, (.d (.ix i)))] []), .run 1, (.ops [(3, (.d (.ld (.s R m 1)))), (4, (.c0 (iI x))), (2, (.d (.ix i)))] []), .run 1, (.ops [(16, (.pk true)), (17, (.pk true))] [(4, true), (5, true), (6, true), (7, true), (8, false), (9, false), (10, false), (11, false), (15, false), (16, true)]), .run 1, (.ops [(3, (.d (.ld (.s R m 1)))), (2, (.d (.ix i)))] []), .run 1, (.ops [(1, (.rn (iN (i + 1))))] []), .run 1] [1, 2, 3, 8, 9, 10, 11, 12] (aQ h0 h1 h2 h3 <| aP h4 <| aN <| aV <| aQ h1 h2 h3 h10 <| aN <| aQ h12 h12 h12 h12 <| aQ h16 h16 h16 h16 <| aQ h16 h12 h22 h23 <| aQ h1 h2 h3 h27 <| aZ)
  ho
def m47lt_end (C N O P B : List DT) (s n o i q b p : Nat) (mg ms y w z : Int) (j : JN) : St := ⟨[(bK (tQ C s N n mg ms O o) 5 71)], [(.code (aF [1, 1, 1, 0, 1, 0, 0] Tryz.f47)), (.inLoop (aF [1, 1, 1, 0, 1, 0, 0] Tryz.f47)), (.inBlock 0), (.code (aF [1, 1, 1, 1] Tryz.f47))], mkT j [(1, (iN p)), (2, (iI y)), (3, (.e (.one (.ptr 0 0)))), (8, (dQ P q)), (9, (dQ B b)), (10, (iI w)), (11, (iI z)), (12, (iN (i + 1)))] 67 0⟩
theorem m47lt (hE : EnvOk E) (C N O P R B : List DT) (s n o m i q b p : Nat) (mg ms y e f x w z : Int) (h0 : (decide (Int.ofNat i < (↑q : Int)) : Bool) = true) (h1 : (0 : Int) ≤ Int.ofNat i ∧ Int.ofNat i < (↑q : Int)) (h2 : ((Int.ofNat i).toNat * nat_lit 1 : Nat) = i) (h3 : (getL P i : Option DT) = (.some (.s R m 1))) (h4 : COut E 0 [] 42 [(tA C s N n mg ms O o), (iN p), (dQ R m)] (.tup [(oI e), (oI f)]) []) (h10 : COut E 0 [] 112 [(dQ R m)] (iI x) []) (h12 : (decide (e ≤ y) == true : Bool) = true) (h16 : (decide (x > z) == false : Bool) = true) (h20 : ((x == z) == true : Bool) = false) (h24 : (x == z : Bool) = false) (h26 : (decide (x > z) : Bool) = false) (h27 : (decide (e ≤ y) : Bool) = true) (h28 : ((iI (wrapF IntKind.i64 (Int.ofNat i + (1 : Int)))) : AV) = (iN (i + 1))) {Φ : Res → Prop} (ho : ∀ j, OutK E 0 0 (m47lt_end C N O P B s n o i q b p mg ms y w z j) Φ) (j : JN) : OutK E 0 0 (v47 C N O P B s n o i q b p mg ms y w z j) Φ :=
 oS hE [.run 2, (.ops [(2, (.d .len))] []), (.cond true), .run 4, (.ops [(5, (.d (.ld (.s R m 1)))), (6, (.c0 (.tup [(oI e), (oI f)]))), (4, (.d (.ix i)))] []), .run 1, (.ops [(3, (.d (.ld (.s R m 1)))), (4, (.c0 (iI x))), (2, (.d (.ix i)))] []), .run 1, (.ops [(15, (.pk false)), (16, (.pk false)), (17, (.pk true))] [(4, true), (5, true), (6, true), (7, true), (8, true), (9, true), (10, true), (11, true), (12, false), (13, false), (14, false), (15, true), (16, true)]), .run 3, (.ops [(1, (.rn (iN (i + 1))))] []), .run 1] [1, 2, 3, 8, 9, 10, 11, 12] (aQ h0 h1 h2 h3 <| aP h4 <| aN <| aV <| aQ h1 h2 h3 h10 <| aN <| aQ h12 h12 h12 h12 <| aQ h16 h16 h16 h16 <| aQ h20 h20 h20 h16 <| aQ h24 h12 h26 h27 <| aP h28 <| aZ)
  ho
def m47eqt_end (C N O P R : List DT) (s n o m i q p : Nat) (mg ms y e x : Int) (j : JN) : St := ⟨[(bK (tQ C s N n mg ms O o) 5 71)], [(.code (aF [1, 1, 1, 0, 1, 0, 0] Tryz.f47)), (.inLoop (aF [1, 1, 1, 0, 1, 0, 0] Tryz.f47)), (.inBlock 0), (.code (aF [1, 1, 1, 1] Tryz.f47))], mkT j [(1, (iN p)), (2, (iI y)), (3, (.e (.one (.ptr 0 0)))), (8, (dQ P q)), (9, (dQ R m)), (10, (iI e)), (11, (iI x)), (12, (iN (i + 1)))] 67 0⟩
theorem m47eqt (hE : EnvOk E) (C N O P R B : List DT) (s n o m i q b p : Nat) (mg ms y e f x w z : Int) (h0 : (decide (Int.ofNat i < (↑q : Int)) : Bool) = true) (h1 : (0 : Int) ≤ Int.ofNat i ∧ Int.ofNat i < (↑q : Int)) (h2 : ((Int.ofNat i).toNat * nat_lit 1 : Nat) = i) (h3 : (getL P i : Option DT) = (.some (.s R m 1))) (h4 : COut E 0 [] 42 [(tA C s N n mg ms O o), (iN p), (dQ R m)] (.tup [(oI e), (oI f)]) []) (h10 : COut E 0 [] 112 [(dQ R m)] (iI x) []) (h12 : (decide (e ≤ y) == true : Bool) = true) (h16 : (decide (x > z) == false : Bool) = true) (h20 : ((x == z) == true : Bool) = true) (h24 : (x == z : Bool) = true) (h26 : (decide (x > z) : Bool) = false) (h27 : (decide (e ≤ y) : Bool) = true) (h28 : (decide (e < w) : Bool) = true) (h32 : ((iI (wrapF IntKind.i64 (Int.ofNat i + (1 : Int)))) : AV) = (iN (i + 1))) {Φ : Res → Prop} (ho : ∀ j, OutK E 0 0 (m47eqt_end C N O P R s n o m i q p mg ms y e x j) Φ) (j : JN) : OutK E 0 0 (v47 C N O P B s n o i q b p mg ms y w z j) Φ :=
 oS hE [.run 2, (.ops [(2, (.d .len))] []), (.cond true), .run 4, (.ops [(5, (.d (.ld (.s R m 1)))), (6, (.c0 (.tup [(oI e), (oI f)]))), (4, (.d (.ix i)))] []), .run 1, (.ops [(3, (.d (.ld (.s R m 1)))), (4, (.c0 (iI x))), (2, (.d (.ix i)))] []), .run 1, (.ops [(15, (.pk true)), (16, (.pk false)), (17, (.pk true))] [(4, true), (5, true), (6, true), (7, true), (8, true), (9, true), (10, true), (11, true), (12, true), (13, true), (14, true), (15, true), (16, true)]), (.cond true), (.ops [(3, (.d (.ld (.s R m 1)))), (2, (.d (.ix i)))] []), .run 1, (.ops [(1, (.rn (iN (i + 1))))] []), .run 1] [1, 2, 3, 8, 9, 10, 11, 12] (aQ h0 h1 h2 h3 <| aP h4 <| aN <| aV <| aQ h1 h2 h3 h10 <| aN <| aQ h12 h12 h12 h12 <| aQ h16 h16 h16 h16 <| aQ h20 h20 h20 h16 <| aQ h24 h12 h26 h27 <| aQ h28 h1 h2 h3 <| aP h32 <| aZ)
  ho
def m47eqf_end (C N O P B : List DT) (s n o i q b p : Nat) (mg ms y w z : Int) (j : JN) : St := ⟨[(bK (tQ C s N n mg ms O o) 5 71)], [(.code (aF [1, 1, 1, 0, 1, 0, 0] Tryz.f47)), (.inLoop (aF [1, 1, 1, 0, 1, 0, 0] Tryz.f47)), (.inBlock 0), (.code (aF [1, 1, 1, 1] Tryz.f47))], mkT j [(1, (iN p)), (2, (iI y)), (3, (.e (.one (.ptr 0 0)))), (8, (dQ P q)), (9, (dQ B b)), (10, (iI w)), (11, (iI z)), (12, (iN (i + 1)))] 67 0⟩
theorem m47eqf (hE : EnvOk E) (C N O P R B : List DT) (s n o m i q b p : Nat) (mg ms y e f x w z : Int) (h0 : (decide (Int.ofNat i < (↑q : Int)) : Bool) = true) (h1 : (0 : Int) ≤ Int.ofNat i ∧ Int.ofNat i < (↑q : Int)) (h2 : ((Int.ofNat i).toNat * nat_lit 1 : Nat) = i) (h3 : (getL P i : Option DT) = (.some (.s R m 1))) (h4 : COut E 0 [] 42 [(tA C s N n mg ms O o), (iN p), (dQ R m)] (.tup [(oI e), (oI f)]) []) (h10 : COut E 0 [] 112 [(dQ R m)] (iI x) []) (h12 : (decide (e ≤ y) == true : Bool) = true) (h16 : (decide (x > z) == false : Bool) = true) (h20 : ((x == z) == true : Bool) = true) (h24 : (x == z : Bool) = true) (h26 : (decide (x > z) : Bool) = false) (h27 : (decide (e ≤ y) : Bool) = true) (h28 : (decide (e < w) : Bool) = false) (h29 : ((iI (wrapF IntKind.i64 (Int.ofNat i + (1 : Int)))) : AV) = (iN (i + 1))) {Φ : Res → Prop} (ho : ∀ j, OutK E 0 0 (m47eqf_end C N O P B s n o i q b p mg ms y w z j) Φ) (j : JN) : OutK E 0 0 (v47 C N O P B s n o i q b p mg ms y w z j) Φ :=
 oS hE [.run 2, (.ops [(2, (.d .len))] []), (.cond true), .run 4, (.ops [(5, (.d (.ld (.s R m 1)))), (6, (.c0 (.tup [(oI e), (oI f)]))), (4, (.d (.ix i)))] []), .run 1, (.ops [(3, (.d (.ld (.s R m 1)))), (4, (.c0 (iI x))), (2, (.d (.ix i)))] []), .run 1, (.ops [(15, (.pk true)), (16, (.pk false)), (17, (.pk true))] [(4, true), (5, true), (6, true), (7, true), (8, true), (9, true), (10, true), (11, true), (12, true), (13, true), (14, true), (15, true), (16, true)]), (.cond false), .run 2, (.ops [(1, (.rn (iN (i + 1))))] []), .run 1] [1, 2, 3, 8, 9, 10, 11, 12] (aQ h0 h1 h2 h3 <| aP h4 <| aN <| aV <| aQ h1 h2 h3 h10 <| aN <| aQ h12 h12 h12 h12 <| aQ h16 h16 h16 h16 <| aQ h20 h20 h20 h16 <| aQ h24 h12 h26 h27 <| aP h28 <| aP h29 <| aZ)
  ho
def m47x_end (B : List DT) (b : Nat) (w : Int) (j : JN) : St := ⟨[], [(.code .ret)], mkT j [(6, (dQ B b)), (7, (iI w))] 67 0⟩
theorem m47x (hE : EnvOk E) (C N O P B : List DT) (s n o i q b p : Nat) (mg ms y w z : Int) (h0 : (decide (Int.ofNat i < (↑q : Int)) : Bool) = false) {Φ : Res → Prop} (ho : ∀ j, OutK E 0 0 (m47x_end B b w j) Φ) (j : JN) : OutK E 0 0 (v47 C N O P B s n o i q b p mg ms y w z j) Φ :=
 oS hE [.run 2, (.ops [(2, (.d .len))] []), (.cond false), .run 3] [6, 7] (s' := fun j => ⟨[(bK (tQ C s N n mg ms O o) 5 71)], [(.code .ret)], mkT j [(6, (dQ B b)), (7, (iI w))] 67 0⟩) (aP h0 <| aZ)
  fun j => gZ [] (ho j)
open Best
theorem cm_app {f : Nat → List Int} {b : Nat} : ∀ (us : List Int) (i : Nat) (a v : Int), cmF f i us a = (v, 0) → b < (f (i + us.length)).length → cmF f i (us ++ [Int.ofNat b]) a = (v + ((f (i + us.length))[b]?).getD 0, 0)
 | [], i, a, v, h, hb => by
  have e : a = v := congrArg Prod.fst h
  subst e
  show (if (f i).length ≤ b then (0, 20) else (a + ((f i)[b]?).getD 0, 0)) = _
  rw [if_neg (by simp only [List.length_nil, Nat.add_zero] at hb; omega)]
  rfl
 | x :: us, i, a, v, h, hb => by
  rw [List.cons_append]
  unfold cmF at h ⊢
  by_cases c : (f i).length ≤ x.toNat
  ·rw [if_pos c] at h
   exact absurd (congrArg Prod.snd h) (by show ¬((20 : Int) = 0); decide)
  ·rw [if_neg c] at h ⊢
   rw [List.length_cons, ← Nat.add_assoc, Nat.add_right_comm] at hb ⊢
   exact cm_app us (i + 1) _ v h hb
theorem cm_all {f : Nat → List Int} : ∀ i, ∀ m ∈ allM (tab f i), cmF f 0 m.1 0 = (m.2, 0)
 | 0, m, hm => by rw [List.mem_singleton.1 hm]; rfl
 | i + 1, m, hm => by
  rw [all_tab] at hm
  obtain ⟨q, hq, b, hb, rfl⟩ := mem_ext.1 hm
  have hl := (all_ord f i).2 q hq
  have := cm_app q.1 0 0 q.2 (cm_all i q hq) (b := b) (by rw [Nat.zero_add, hl]; exact hb)
  rw [Nat.zero_add, hl] at this
  exact this
theorem el_all {f : Nat → List Int} : ∀ i, (∀ k, k < i → (f k).length ≤ 7) → ∀ m ∈ allM (tab f i), ∀ x ∈ m.1, 0 ≤ x ∧ x ≤ 6
 | 0, _, m, hm, x, hx => by rw [List.mem_singleton.1 hm] at hx; exact absurd hx (by simp)
 | i + 1, h, m, hm, x, hx => by
  rw [all_tab] at hm
  obtain ⟨q, hq, b, hb, rfl⟩ := mem_ext.1 hm
  have h7 := h i (by omega)
  rcases List.mem_append.1 hx with c | c
  ·exact el_all i (fun k hk => h k (by omega)) q hq x c
  ·rw [List.mem_singleton.1 c]; simp only [Int.ofNat_eq_natCast]; omega
theorem tot_eq : ∀ (xs : List Int) (s : Int), (∀ x ∈ xs, 0 ≤ x ∧ x ≤ 6) → 0 ≤ s → s + 6 * (xs.length : Int) ≤ 1000000 → totF xs s = s + tot xs
 | [], s, _, _, _ => (Int.add_zero s).symm
 | x :: r, s, h, h0, h1 => by
  have hx := h x (by simp)
  rw [List.length_cons] at h1
  unfold totF
  rw [wrap_id (by omega) (by omega), tot_eq r (s + x) (fun y hy => h y (by simp [hy])) (by omega) (by omega)]
  show _ = s + (x + tot r)
  omega
theorem K47 (hE : EnvOk E) (sg : List Int) (ns : List (List Int)) (mg ms : Int) (nt : List Int) (hn : nt.length ≤ 100000) {p : Nat} {r : List Int} (h : PartOk sg ns mg p r) (hs : sg.length ≤ 4) (bud : Int) : COut E 0 [] 47 [aR sg ns mg ms nt, iI (Int.ofNat p), iI bud] (.tup [.one (.dp (.s (iD (scan bud (allM (tab (rowV sg r mg ms nt) sg.length)) ([], 0, -1)).1) (scan bud (allM (tab (rowV sg r mg ms nt) sg.length)) ([], 0, -1)).1.length 1)), .one (.v (.int .i64 (scan bud (allM (tab (rowV sg r mg ms nt) sg.length)) ([], 0, -1)).2.1))]) [] := by
 have h7 : ∀ i, i < sg.length → ((rowV sg r mg ms nt) i).length ≤ 7 := fun i hi => powL_len ..
 have lp : ∀ (fin : List Int × Int × Int) k i, k + i = (allM (tab (rowV sg r mg ms nt) sg.length)).length → ∀ l w z, scan bud ((allM (tab (rowV sg r mg ms nt) sg.length)).drop i) (l, w, z) = fin → ∀ j, OutK E 0 0 (v47 (iD sg) (rD ns) (iD nt) (rD (mapsR sg r mg ms nt)) (iD l) sg.length ns.length nt.length i ((mapsR sg r mg ms nt).length) l.length p mg ms bud w z j) (Go.Ev.Ends E Tryz.f47 (.tup [.one (.dp (.s (iD fin.1) fin.1.length 1)), .one (.v (.int .i64 fin.2.1))]) []) := by
  intro fin k
  induction k with
  | zero =>
   intro i hi l w z hf j
   obtain rfl : i = (allM (tab (rowV sg r mg ms nt) sg.length)).length := by omega
   rw [List.drop_length] at hf
   subst hf
   exact m47x hE (iD sg) (rD ns) (iD nt) (rD (mapsR sg r mg ms nt)) (iD l) sg.length ns.length nt.length ((allM (tab (rowV sg r mg ms nt) sg.length)).length) ((mapsR sg r mg ms nt).length) l.length p mg ms bud w z (decide_eq_false (by (try simp only [Int.ofNat_eq_natCast, List.length_map]); omega)) (fun j => outK_ret (ends_ret (by kernel_rfl))) j
  | succ k ih =>
   intro i hi l w z hf j
   have hl : i < (allM (tab (rowV sg r mg ms nt) sg.length)).length := by omega
   have hmem := List.getElem_mem hl
   have hm1 : (mapsR sg r mg ms nt)[i]? = some (allM (tab (rowV sg r mg ms nt) sg.length))[i].1 := by rw [List.getElem?_map, List.getElem?_eq_getElem hl]; rfl
   rw [List.drop_eq_getElem_cons hl] at hf
   have ih' := ih (i + 1) (by omega)
   generalize (allM (tab (rowV sg r mg ms nt) sg.length))[i] = m at hmem hm1 hf
   have hu := (all_ord (rowV sg r mg ms nt) sg.length).2 m hmem
   have he := el_all sg.length h7 m hmem
   have k42 := K42b hE sg ns mg ms nt hn h m.1 hu he
   rw [cm_all sg.length m hmem] at k42
   have k94 := K94 hE m.1 (by omega)
   rw [tot_eq m.1 0 he (Int.le_refl 0) (by omega), Int.zero_add] at k94
   have hlen : (mapsR sg r mg ms nt).length = (allM (tab (rowV sg r mg ms nt) sg.length)).length := List.length_map _
   have hbig : (allM (tab (rowV sg r mg ms nt) sg.length)).length ≤ 7 ^ 4 := Nat.le_trans (all_cnt sg.length fun i hi => ⟨by
    have := row_0 ms nt h hi
    rw [this]; simp, h7 i hi⟩).2 (Nat.pow_le_pow_right (by decide) hs)
   have hbig2 : (7 : Nat) ^ 4 = 2401 := by decide
   unfold scan at hf
   by_cases c1 : m.2 ≤ bud
   ·by_cases c2 : tot m.1 > z
    ·rw [if_pos ⟨c1, .inl c2⟩] at hf
     exact m47gt hE (iD sg) (rD ns) (iD nt) (rD (mapsR sg r mg ms nt)) (iD m.1) (iD l) sg.length ns.length nt.length m.1.length i ((mapsR sg r mg ms nt).length) l.length p mg ms bud m.2 0 ((tot m.1)) w z (decide_eq_true (by (try simp only [Int.ofNat_eq_natCast, List.length_map]); omega)) ⟨by (try simp only [Int.ofNat_eq_natCast, List.length_map]); omega, by (try simp only [Int.ofNat_eq_natCast, List.length_map]); omega⟩ (Nat.mul_one _) (gR hm1) k42 k94 (by rw [decide_eq_true c1]; rfl) (by rw [decide_eq_true c2]; rfl) (decide_eq_true c2) (decide_eq_true c1) (iIe (by (try simp only [Int.ofNat_eq_natCast]); rw [wrap_id (by omega) (by omega)]; try omega)) (ih' _ _ _ hf) j
    ·by_cases c3 : tot m.1 = z
     ·by_cases c4 : m.2 < w
      ·rw [if_pos ⟨c1, .inr ⟨c3, c4⟩⟩] at hf
       exact m47eqt hE (iD sg) (rD ns) (iD nt) (rD (mapsR sg r mg ms nt)) (iD m.1) (iD l) sg.length ns.length nt.length m.1.length i ((mapsR sg r mg ms nt).length) l.length p mg ms bud m.2 0 ((tot m.1)) w z (decide_eq_true (by (try simp only [Int.ofNat_eq_natCast, List.length_map]); omega)) ⟨by (try simp only [Int.ofNat_eq_natCast, List.length_map]); omega, by (try simp only [Int.ofNat_eq_natCast, List.length_map]); omega⟩ (Nat.mul_one _) (gR hm1) k42 k94 (by rw [decide_eq_true c1]; rfl) (by rw [decide_eq_false c2]; rfl) (by rw [beq_iff_eq.2 c3]; rfl) (beq_iff_eq.2 c3) (decide_eq_false c2) (decide_eq_true c1) (decide_eq_true c4) (iIe (by (try simp only [Int.ofNat_eq_natCast]); rw [wrap_id (by omega) (by omega)]; try omega)) (ih' _ _ _ hf) j
      ·rw [if_neg (fun c => c.2.elim c2 fun d => c4 d.2)] at hf
       exact m47eqf hE (iD sg) (rD ns) (iD nt) (rD (mapsR sg r mg ms nt)) (iD m.1) (iD l) sg.length ns.length nt.length m.1.length i ((mapsR sg r mg ms nt).length) l.length p mg ms bud m.2 0 ((tot m.1)) w z (decide_eq_true (by (try simp only [Int.ofNat_eq_natCast, List.length_map]); omega)) ⟨by (try simp only [Int.ofNat_eq_natCast, List.length_map]); omega, by (try simp only [Int.ofNat_eq_natCast, List.length_map]); omega⟩ (Nat.mul_one _) (gR hm1) k42 k94 (by rw [decide_eq_true c1]; rfl) (by rw [decide_eq_false c2]; rfl) (by rw [beq_iff_eq.2 c3]; rfl) (beq_iff_eq.2 c3) (decide_eq_false c2) (decide_eq_true c1) (decide_eq_false c4) (iIe (by (try simp only [Int.ofNat_eq_natCast]); rw [wrap_id (by omega) (by omega)]; try omega)) (ih' _ _ _ hf) j
     ·rw [if_neg (fun c => c.2.elim c2 fun d => c3 d.1)] at hf
      exact m47lt hE (iD sg) (rD ns) (iD nt) (rD (mapsR sg r mg ms nt)) (iD m.1) (iD l) sg.length ns.length nt.length m.1.length i ((mapsR sg r mg ms nt).length) l.length p mg ms bud m.2 0 ((tot m.1)) w z (decide_eq_true (by (try simp only [Int.ofNat_eq_natCast, List.length_map]); omega)) ⟨by (try simp only [Int.ofNat_eq_natCast, List.length_map]); omega, by (try simp only [Int.ofNat_eq_natCast, List.length_map]); omega⟩ (Nat.mul_one _) (gR hm1) k42 k94 (by rw [decide_eq_true c1]; rfl) (by rw [decide_eq_false c2]; rfl) (by rw [beq_eq_false_iff_ne.2 c3]; rfl) (beq_eq_false_iff_ne.2 c3) (decide_eq_false c2) (decide_eq_true c1) (iIe (by (try simp only [Int.ofNat_eq_natCast]); rw [wrap_id (by omega) (by omega)]; try omega)) (ih' _ _ _ hf) j
   ·rw [if_neg (fun c => c1 c.1)] at hf
    exact m47over hE (iD sg) (rD ns) (iD nt) (rD (mapsR sg r mg ms nt)) (iD m.1) (iD l) sg.length ns.length nt.length m.1.length i ((mapsR sg r mg ms nt).length) l.length p mg ms bud m.2 0 ((tot m.1)) w z (decide_eq_true (by (try simp only [Int.ofNat_eq_natCast, List.length_map]); omega)) ⟨by (try simp only [Int.ofNat_eq_natCast, List.length_map]); omega, by (try simp only [Int.ofNat_eq_natCast, List.length_map]); omega⟩ (Nat.mul_one _) (gR hm1) k42 k94 (by rw [decide_eq_false c1]; rfl) (decide_eq_false c1) (iIe (by (try simp only [Int.ofNat_eq_natCast]); rw [wrap_id (by omega) (by omega)]; try omega)) (ih' _ _ _ hf) j
 have st := lp _ _ 0 rfl [] 0 (-1) rfl
 refine cOut_start Tryz.func47 rfl (m47a hE (iD sg) (rD ns) (iD nt) (rD (mapsR sg r mg ms nt)) sg.length ns.length nt.length ((mapsR sg r mg ms nt).length) p mg ms bud (K111 hE sg ns mg ms nt hn h hs) (fun j => ?_) fun _ => undef)
 exact outK_freeze 1 (ds := []) (N := 0) (el := 3) (fl := true) (h' := [bK (tQ (iD sg) sg.length (rD ns) ns.length mg ms (iD nt) nt.length) 5 71, none]) (tm' := (v47 (iD sg) (rD ns) (iD nt) (rD (mapsR sg r mg ms nt)) ([]) sg.length ns.length nt.length 0 ((mapsR sg r mg ms nt).length) 0 p mg ms bud 0 ((-1)) j).tm) rfl (Nat.zero_le _) ⟨.inl rfl, trivial, trivial⟩ (frz2 j [(1, (iN p)), (2, (iI bud)), (3, (.e (.one (.ptr 0 0)))), (8, (.e (.one (.dp (.s (rD (mapsR sg r mg ms nt)) (mapsR sg r mg ms nt).length 1))))), (9, (.e (.one (.slc 1 0 0 1 0 true)))), (10, (iI 0)), (11, (iI (-1))), (12, (iI 0))] [(1, (iN p)), (2, (iI bud)), (3, (.e (.one (.ptr 0 0)))), (8, (.e (.one (.dp (.s (rD (mapsR sg r mg ms nt)) (mapsR sg r mg ms nt).length 1))))), (9, (.e (.one (.dp (.s [] 0 1))))), (10, (iI 0)), (11, (iI (-1))), (12, (iI 0))] ⟨⟨rfl, .inl rfl⟩, ⟨rfl, .inl rfl⟩, ⟨rfl, .inl rfl⟩, ⟨rfl, .inl rfl⟩, ⟨rfl, frzAll [] 0 1 0 true rfl⟩, ⟨rfl, .inl rfl⟩, ⟨rfl, .inl rfl⟩, ⟨rfl, .inl rfl⟩, trivial⟩ 67 0) (outK_gc [0] (h' := (v47 (iD sg) (rD ns) (iD nt) (rD (mapsR sg r mg ms nt)) ([]) sg.length ns.length nt.length 0 ((mapsR sg r mg ms nt).length) 0 p mg ms bud 0 ((-1)) j).heap) (tm' := (v47 (iD sg) (rD ns) (iD nt) (rD (mapsR sg r mg ms nt)) ([]) sg.length ns.length nt.length 0 ((mapsR sg r mg ms nt).length) 0 p mg ms bud 0 ((-1)) j).tm) (Nat.le_refl 0) (by kernel_rfl) (by kernel_rfl) (by kernel_rfl) (st j))
end
end Go.Proofs.YtigdchbjmnbjlaaGreatDoor
end
