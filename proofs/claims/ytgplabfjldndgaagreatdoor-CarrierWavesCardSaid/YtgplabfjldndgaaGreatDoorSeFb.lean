/-
  Part of the proof: SeFb.
-/
import Derived.Test.YtgplabfjldndgaaGreatDoorSeFa
open Go Go.Ev
namespace Go.Proofs.YtgplabfjldndgaaGreatDoor
noncomputable section
set_option maxRecDepth 100000
set_option maxHeartbeats 20000000
def s98 (C : List DT) (n : Nat) (_j : Nat → Value) : St := startK Tryz.f98 [] [(.e (.one (.dp (.s C n 1)))), .e (.one (.v (.func (.func 24) #[] #[])))]
def s102 (C : List DT) (n : Nat) (_j : Nat → Value) : St := startK Tryz.f102 [] [(.e (.one (.dp (.s C n 1)))), .e (.one (.v (.func (.func 103) #[] #[])))]
def s38 (C : List DT) (n : Nat) (_j : Nat → Value) : St := startK Tryz.f38 [] [(.e (.one (.dp (.s C n 1))))]
def q98 (C : List DT) (n i _b : Nat) (_e : Int) (j : Nat → Value) : St := ⟨[], [(.code (atC [1, 0, 1, 0, 0] (bodyOf Tryz.f98))), (.inLoop (atC [1, 0, 1, 0, 0] (bodyOf Tryz.f98))), (.inBlock 0), (.code (atC [1, 1] (bodyOf Tryz.f98)))], mkT j [(1, (.e (.one (.v (.func (.func 24) #[] #[]))))), (8, (.e (.one (.dp (.s (C) (n) 1))))), (9, (iI (Int.ofNat n))), (10, (iI (Int.ofNat i)))] 21 0⟩
def q102 (C : List DT) (n i _a _b : Nat) (_e : Int) (j : Nat → Value) : St := ⟨[], [(.code (atC [1, 0, 1, 0, 0] (bodyOf Tryz.f102))), (.inLoop (atC [1, 0, 1, 0, 0] (bodyOf Tryz.f102))), (.inBlock 0), (.code (atC [1, 1] (bodyOf Tryz.f102)))], mkT j [(1, (.e (.one (.v (.func (.func 103) #[] #[]))))), (8, (.e (.one (.dp (.s (C) (n) 1))))), (9, (iI (Int.ofNat n))), (10, (iI (Int.ofNat i)))] 21 0⟩
def q38 (C : List DT) (n i _b : Nat) (_e : Int) (j : Nat → Value) : St := ⟨[], [(.code (atC [1, 0, 1, 0, 0] (bodyOf Tryz.f38))), (.inLoop (atC [1, 0, 1, 0, 0] (bodyOf Tryz.f38))), (.inBlock 0), (.code (atC [1, 1] (bodyOf Tryz.f38)))], mkT j [(0, (.e (.one (.dp (.s (C) (n) 1))))), (3, (iI (Int.ofNat i)))] 19 0⟩
def s103 (a b : Nat) (_f _g _k _l _e : Int) (_j : Nat → Value) : St := startK Tryz.f103 [] [.e (.one (.v (.complex .f32 a b)))]
def s104 (a b c d _u _v : Int) (_j : Nat → Value) : St := startK Tryz.f104 [] [.e (.agg [.v (.int .i64 (a)), .v (.int .i64 (b))]), .e (.agg [.v (.int .i64 (c)), .v (.int .i64 (d))])]
def s107 (a b c d _u _v : Int) (_j : Nat → Value) : St := startK Tryz.f107 [] [.e (.agg [.v (.int .i64 (a)), .v (.int .i64 (b))]), .e (.agg [.v (.int .i64 (c)), .v (.int .i64 (d))])]
def s105 (a b c d _ac _bd _u _ad _bc _v : Int) (_j : Nat → Value) : St := startK Tryz.f105 [] [.e (.agg [.v (.int .i64 (a)), .v (.int .i64 (b))]), .e (.agg [.v (.int .i64 (c)), .v (.int .i64 (d))])]
def s108 (a b c d _ac _bd _u _ad _bc _v : Int) (_j : Nat → Value) : St := startK Tryz.f108 [] [.e (.agg [.v (.int .i64 (a)), .v (.int .i64 (b))]), .e (.agg [.v (.int .i64 (c)), .v (.int .i64 (d))])]
def s109_0 (k : Int) (_j : Nat → Value) : St := startK Tryz.f109 [] [iI k]
def s109_1 (k : Int) (_j : Nat → Value) : St := startK Tryz.f109 [] [iI k]
def s109_2 (k : Int) (_j : Nat → Value) : St := startK Tryz.f109 [] [iI k]
def s109_3 (k : Int) (_j : Nat → Value) : St := startK Tryz.f109 [] [iI k]
def s80 (n lo hi _e : Int) (_j : Nat → Value) : St := startK Tryz.f80 [] [iI n, iI lo, iI hi]
def s110 (n : Int) (_e : Bool) (_j : Nat → Value) : St := startK Tryz.f110 [] [iI n]
def p98a_end (C : List DT) (n : Nat) (j : Nat → Value) : St := ⟨[], [(.code (atC [1, 0, 1, 0, 0] (bodyOf Tryz.f98))), (.inLoop (atC [1, 0, 1, 0, 0] (bodyOf Tryz.f98))), (.inBlock 0), (.code (atC [1, 1] (bodyOf Tryz.f98)))], mkT j [(1, (.e (.one (.v (.func (.func 24) #[] #[]))))), (8, (.e (.one (.dp (.s (C) (n) 1))))), (9, (iI (Int.ofNat n))), (10, (iI 0))] 21 0⟩
theorem p98a (hE : EnvOk E) (C : List DT) (n : Nat)  {Φ : Res → Prop} (ho : ∀ j, OutK E 0 0 (p98a_end C n j) Φ) (j : Nat → Value) : OutK E 0 0 (s98 C n j) Φ :=
  outK_seg hE (R0_ok hE) [.run 4, (.ops [(1, (.d .len))] []), .run 2] [1, 8, 9, 10] (s' := fun j => ⟨[], [(.code (atC [1, 0, 1, 0, 0] (bodyOf Tryz.f98))), (.inLoop (atC [1, 0, 1, 0, 0] (bodyOf Tryz.f98))), (.inBlock 0), (.code (atC [1, 1] (bodyOf Tryz.f98)))], mkT j [(1, (.e (.one (.v (.func (.func 24) #[] #[]))))), (8, (.e (.one (.dp (.s (C) (n) 1))))), (9, (iI (Int.ofNat n))), (10, (iI 0))] 21 0⟩) (ps := []) (fun j => by kernel_rfl) trivial
    ho
def p102a_end (C : List DT) (n : Nat) (j : Nat → Value) : St := ⟨[], [(.code (atC [1, 0, 1, 0, 0] (bodyOf Tryz.f102))), (.inLoop (atC [1, 0, 1, 0, 0] (bodyOf Tryz.f102))), (.inBlock 0), (.code (atC [1, 1] (bodyOf Tryz.f102)))], mkT j [(1, (.e (.one (.v (.func (.func 103) #[] #[]))))), (8, (.e (.one (.dp (.s (C) (n) 1))))), (9, (iI (Int.ofNat n))), (10, (iI 0))] 21 0⟩
theorem p102a (hE : EnvOk E) (C : List DT) (n : Nat)  {Φ : Res → Prop} (ho : ∀ j, OutK E 0 0 (p102a_end C n j) Φ) (j : Nat → Value) : OutK E 0 0 (s102 C n j) Φ :=
  outK_seg hE (R0_ok hE) [.run 4, (.ops [(1, (.d .len))] []), .run 2] [1, 8, 9, 10] (s' := fun j => ⟨[], [(.code (atC [1, 0, 1, 0, 0] (bodyOf Tryz.f102))), (.inLoop (atC [1, 0, 1, 0, 0] (bodyOf Tryz.f102))), (.inBlock 0), (.code (atC [1, 1] (bodyOf Tryz.f102)))], mkT j [(1, (.e (.one (.v (.func (.func 103) #[] #[]))))), (8, (.e (.one (.dp (.s (C) (n) 1))))), (9, (iI (Int.ofNat n))), (10, (iI 0))] 21 0⟩) (ps := []) (fun j => by kernel_rfl) trivial
    ho
def p38a_end (C : List DT) (n : Nat) (j : Nat → Value) : St := ⟨[], [(.code (atC [1, 0, 1, 0, 0] (bodyOf Tryz.f38))), (.inLoop (atC [1, 0, 1, 0, 0] (bodyOf Tryz.f38))), (.inBlock 0), (.code (atC [1, 1] (bodyOf Tryz.f38)))], mkT j [(0, (.e (.one (.dp (.s (C) (n) 1))))), (3, (iI 0))] 19 0⟩
theorem p38a (hE : EnvOk E) (C : List DT) (n : Nat)  {Φ : Res → Prop} (ho : ∀ j, OutK E 0 0 (p38a_end C n j) Φ) (j : Nat → Value) : OutK E 0 0 (s38 C n j) Φ :=
  outK_seg hE (R0_ok hE) [.run 7] [0, 3] (s' := fun j => ⟨[], [(.code (atC [1, 0, 1, 0, 0] (bodyOf Tryz.f38))), (.inLoop (atC [1, 0, 1, 0, 0] (bodyOf Tryz.f38))), (.inBlock 0), (.code (atC [1, 1] (bodyOf Tryz.f38)))], mkT j [(0, (.e (.one (.dp (.s (C) (n) 1))))), (3, (iI 0))] 19 0⟩) (ps := []) (fun j => by kernel_rfl) trivial
    ho
def p98s_end (C : List DT) (n i _b : Nat) (_e : Int) (j : Nat → Value) : St := ⟨[], [(.code (atC [1, 0, 1, 0, 0] (bodyOf Tryz.f98))), (.inLoop (atC [1, 0, 1, 0, 0] (bodyOf Tryz.f98))), (.inBlock 0), (.code (atC [1, 1] (bodyOf Tryz.f98)))], mkT j [(1, (.e (.one (.v (.func (.func 24) #[] #[]))))), (8, (.e (.one (.dp (.s (C) (n) 1))))), (9, (iI (Int.ofNat n))), (10, (iI (Int.ofNat (i + 1))))] 21 0⟩
theorem p98s (hE : EnvOk E) (C : List DT) (n i b : Nat) (e : Int) (h0 : (decide (Int.ofNat i < Int.ofNat n) : Bool) = true) (h1 : (0 : Int) ≤ Int.ofNat i ∧ Int.ofNat i < (↑n : Int)) (h2 : ((Int.ofNat i).toNat * nat_lit 1 : Nat) = i) (h3 : (getL C i : Option DT) = (.some (.v (.float .f32 (b))))) (h4 : COut E 0 [] 24 [(.e (.one (.v (.float .f32 (b)))))] (iI (e)) []) (h6 : (e != (0 : Int) : Bool) = false) (h7 : ((iI (wrapF IntKind.i64 (Int.ofNat i + (1 : Int)))) : AV) = (iI (Int.ofNat (i + 1)))) {Φ : Res → Prop} (ho : ∀ j, OutK E 0 0 (p98s_end C n i b e j) Φ) (j : Nat → Value) : OutK E 0 0 (q98 C n i b e j) Φ :=
  outK_seg hE (R0_ok hE) [.run 3, (.cond true), .run 4, (.ops [(1, (.d (.ld (.v (.float .f32 (b)))))), (0, (.d (.ix (i))))] []), .run 1, (.ops [(2, (.c0 (iI (e))))] []), .run 2, (.cond false), .run 2, (.ops [(0, (.rn (iI (Int.ofNat (i + 1)))))] []), .run 1] [1, 8, 9, 10] (s' := fun j => ⟨[], [(.code (atC [1, 0, 1, 0, 0] (bodyOf Tryz.f98))), (.inLoop (atC [1, 0, 1, 0, 0] (bodyOf Tryz.f98))), (.inBlock 0), (.code (atC [1, 1] (bodyOf Tryz.f98)))], mkT j [(1, (.e (.one (.v (.func (.func 24) #[] #[]))))), (8, (.e (.one (.dp (.s (C) (n) 1))))), (9, (iI (Int.ofNat n))), (10, (iI (Int.ofNat (i + 1))))] 21 0⟩) (ps := [(decide (Int.ofNat i < Int.ofNat n) : Bool) = true, (0 : Int) ≤ Int.ofNat i ∧ Int.ofNat i < (↑n : Int), ((Int.ofNat i).toNat * nat_lit 1 : Nat) = i, (getL C i : Option DT) = (.some (.v (.float .f32 (b)))), COut E 0 [] 24 [(.e (.one (.v (.float .f32 (b)))))] (iI (e)) [], ([] : List Nat) = [], (e != (0 : Int) : Bool) = false, ((iI (wrapF IntKind.i64 (Int.ofNat i + (1 : Int)))) : AV) = (iI (Int.ofNat (i + 1)))]) (fun j => by kernel_rfl) ⟨h0, h1, h2, h3, h4, rfl, h6, h7, trivial⟩
    ho
def p98e_end (_C : List DT) (_n _i _b : Nat) (e : Int) (j : Nat → Value) : St := ⟨[], [(.code .ret), (.inBlock 1), (.code (atC [1, 0, 1, 0, 0, 1, 1, 1] (bodyOf Tryz.f98))), (.inLoop (atC [1, 0, 1, 0, 0] (bodyOf Tryz.f98))), (.inBlock 0), (.code (atC [1, 1] (bodyOf Tryz.f98)))], mkT j [(4, (iI (e)))] 21 0⟩
theorem p98e (hE : EnvOk E) (C : List DT) (n i b : Nat) (e : Int) (h0 : (decide (Int.ofNat i < Int.ofNat n) : Bool) = true) (h1 : (0 : Int) ≤ Int.ofNat i ∧ Int.ofNat i < (↑n : Int)) (h2 : ((Int.ofNat i).toNat * nat_lit 1 : Nat) = i) (h3 : (getL C i : Option DT) = (.some (.v (.float .f32 (b))))) (h4 : COut E 0 [] 24 [(.e (.one (.v (.float .f32 (b)))))] (iI (e)) []) (h6 : (e != (0 : Int) : Bool) = true) {Φ : Res → Prop} (ho : ∀ j, OutK E 0 0 (p98e_end C n i b e j) Φ) (j : Nat → Value) : OutK E 0 0 (q98 C n i b e j) Φ :=
  outK_seg hE (R0_ok hE) [.run 3, (.cond true), .run 4, (.ops [(1, (.d (.ld (.v (.float .f32 (b)))))), (0, (.d (.ix (i))))] []), .run 1, (.ops [(2, (.c0 (iI (e))))] []), .run 2, (.cond true), .run 2] [4] (s' := fun j => ⟨[], [(.code .ret), (.inBlock 1), (.code (atC [1, 0, 1, 0, 0, 1, 1, 1] (bodyOf Tryz.f98))), (.inLoop (atC [1, 0, 1, 0, 0] (bodyOf Tryz.f98))), (.inBlock 0), (.code (atC [1, 1] (bodyOf Tryz.f98)))], mkT j [(4, (iI (e)))] 21 0⟩) (ps := [(decide (Int.ofNat i < Int.ofNat n) : Bool) = true, (0 : Int) ≤ Int.ofNat i ∧ Int.ofNat i < (↑n : Int), ((Int.ofNat i).toNat * nat_lit 1 : Nat) = i, (getL C i : Option DT) = (.some (.v (.float .f32 (b)))), COut E 0 [] 24 [(.e (.one (.v (.float .f32 (b)))))] (iI (e)) [], ([] : List Nat) = [], (e != (0 : Int) : Bool) = true]) (fun j => by kernel_rfl) ⟨h0, h1, h2, h3, h4, rfl, h6, trivial⟩
    ho
def p98x_end (_C : List DT) (_n _i _b : Nat) (_e : Int) (j : Nat → Value) : St := ⟨[], [(.code .ret)], mkT j [(4, (iI 0))] 21 0⟩
theorem p98x (hE : EnvOk E) (C : List DT) (n i b : Nat) (e : Int) (h0 : (decide (Int.ofNat i < Int.ofNat n) : Bool) = false) {Φ : Res → Prop} (ho : ∀ j, OutK E 0 0 (p98x_end C n i b e j) Φ) (j : Nat → Value) : OutK E 0 0 (q98 C n i b e j) Φ :=
  outK_seg hE (R0_ok hE) [.run 3, (.cond false), .run 3] [4] (s' := fun j => ⟨[], [(.code .ret)], mkT j [(4, (iI 0))] 21 0⟩) (ps := [(decide (Int.ofNat i < Int.ofNat n) : Bool) = false]) (fun j => by kernel_rfl) ⟨h0, trivial⟩
    ho
def p102s_end (C : List DT) (n i _a _b : Nat) (_e : Int) (j : Nat → Value) : St := ⟨[], [(.code (atC [1, 0, 1, 0, 0] (bodyOf Tryz.f102))), (.inLoop (atC [1, 0, 1, 0, 0] (bodyOf Tryz.f102))), (.inBlock 0), (.code (atC [1, 1] (bodyOf Tryz.f102)))], mkT j [(1, (.e (.one (.v (.func (.func 103) #[] #[]))))), (8, (.e (.one (.dp (.s (C) (n) 1))))), (9, (iI (Int.ofNat n))), (10, (iI (Int.ofNat (i + 1))))] 21 0⟩
theorem p102s (hE : EnvOk E) (C : List DT) (n i a b : Nat) (e : Int) (h0 : (decide (Int.ofNat i < Int.ofNat n) : Bool) = true) (h1 : (0 : Int) ≤ Int.ofNat i ∧ Int.ofNat i < (↑n : Int)) (h2 : ((Int.ofNat i).toNat * nat_lit 1 : Nat) = i) (h3 : (getL C i : Option DT) = (.some (.v (.complex .f32 (a) (b))))) (h4 : COut E 0 [] 103 [(.e (.one (.v (.complex .f32 (a) (b)))))] (iI (e)) []) (h6 : (e != (0 : Int) : Bool) = false) (h7 : ((iI (wrapF IntKind.i64 (Int.ofNat i + (1 : Int)))) : AV) = (iI (Int.ofNat (i + 1)))) {Φ : Res → Prop} (ho : ∀ j, OutK E 0 0 (p102s_end C n i a b e j) Φ) (j : Nat → Value) : OutK E 0 0 (q102 C n i a b e j) Φ :=
  outK_seg hE (R0_ok hE) [.run 3, (.cond true), .run 4, (.ops [(1, (.d (.ld (.v (.complex .f32 (a) (b)))))), (0, (.d (.ix (i))))] []), .run 1, (.ops [(2, (.c0 (iI (e))))] []), .run 2, (.cond false), .run 2, (.ops [(0, (.rn (iI (Int.ofNat (i + 1)))))] []), .run 1] [1, 8, 9, 10] (s' := fun j => ⟨[], [(.code (atC [1, 0, 1, 0, 0] (bodyOf Tryz.f102))), (.inLoop (atC [1, 0, 1, 0, 0] (bodyOf Tryz.f102))), (.inBlock 0), (.code (atC [1, 1] (bodyOf Tryz.f102)))], mkT j [(1, (.e (.one (.v (.func (.func 103) #[] #[]))))), (8, (.e (.one (.dp (.s (C) (n) 1))))), (9, (iI (Int.ofNat n))), (10, (iI (Int.ofNat (i + 1))))] 21 0⟩) (ps := [(decide (Int.ofNat i < Int.ofNat n) : Bool) = true, (0 : Int) ≤ Int.ofNat i ∧ Int.ofNat i < (↑n : Int), ((Int.ofNat i).toNat * nat_lit 1 : Nat) = i, (getL C i : Option DT) = (.some (.v (.complex .f32 (a) (b)))), COut E 0 [] 103 [(.e (.one (.v (.complex .f32 (a) (b)))))] (iI (e)) [], ([] : List Nat) = [], (e != (0 : Int) : Bool) = false, ((iI (wrapF IntKind.i64 (Int.ofNat i + (1 : Int)))) : AV) = (iI (Int.ofNat (i + 1)))]) (fun j => by kernel_rfl) ⟨h0, h1, h2, h3, h4, rfl, h6, h7, trivial⟩
    ho
def p102e_end (_C : List DT) (_n _i _a _b : Nat) (e : Int) (j : Nat → Value) : St := ⟨[], [(.code .ret), (.inBlock 1), (.code (atC [1, 0, 1, 0, 0, 1, 1, 1] (bodyOf Tryz.f102))), (.inLoop (atC [1, 0, 1, 0, 0] (bodyOf Tryz.f102))), (.inBlock 0), (.code (atC [1, 1] (bodyOf Tryz.f102)))], mkT j [(4, (iI (e)))] 21 0⟩
theorem p102e (hE : EnvOk E) (C : List DT) (n i a b : Nat) (e : Int) (h0 : (decide (Int.ofNat i < Int.ofNat n) : Bool) = true) (h1 : (0 : Int) ≤ Int.ofNat i ∧ Int.ofNat i < (↑n : Int)) (h2 : ((Int.ofNat i).toNat * nat_lit 1 : Nat) = i) (h3 : (getL C i : Option DT) = (.some (.v (.complex .f32 (a) (b))))) (h4 : COut E 0 [] 103 [(.e (.one (.v (.complex .f32 (a) (b)))))] (iI (e)) []) (h6 : (e != (0 : Int) : Bool) = true) {Φ : Res → Prop} (ho : ∀ j, OutK E 0 0 (p102e_end C n i a b e j) Φ) (j : Nat → Value) : OutK E 0 0 (q102 C n i a b e j) Φ :=
  outK_seg hE (R0_ok hE) [.run 3, (.cond true), .run 4, (.ops [(1, (.d (.ld (.v (.complex .f32 (a) (b)))))), (0, (.d (.ix (i))))] []), .run 1, (.ops [(2, (.c0 (iI (e))))] []), .run 2, (.cond true), .run 2] [4] (s' := fun j => ⟨[], [(.code .ret), (.inBlock 1), (.code (atC [1, 0, 1, 0, 0, 1, 1, 1] (bodyOf Tryz.f102))), (.inLoop (atC [1, 0, 1, 0, 0] (bodyOf Tryz.f102))), (.inBlock 0), (.code (atC [1, 1] (bodyOf Tryz.f102)))], mkT j [(4, (iI (e)))] 21 0⟩) (ps := [(decide (Int.ofNat i < Int.ofNat n) : Bool) = true, (0 : Int) ≤ Int.ofNat i ∧ Int.ofNat i < (↑n : Int), ((Int.ofNat i).toNat * nat_lit 1 : Nat) = i, (getL C i : Option DT) = (.some (.v (.complex .f32 (a) (b)))), COut E 0 [] 103 [(.e (.one (.v (.complex .f32 (a) (b)))))] (iI (e)) [], ([] : List Nat) = [], (e != (0 : Int) : Bool) = true]) (fun j => by kernel_rfl) ⟨h0, h1, h2, h3, h4, rfl, h6, trivial⟩
    ho
def p102x_end (_C : List DT) (_n _i _a _b : Nat) (_e : Int) (j : Nat → Value) : St := ⟨[], [(.code .ret)], mkT j [(4, (iI 0))] 21 0⟩
theorem p102x (hE : EnvOk E) (C : List DT) (n i a b : Nat) (e : Int) (h0 : (decide (Int.ofNat i < Int.ofNat n) : Bool) = false) {Φ : Res → Prop} (ho : ∀ j, OutK E 0 0 (p102x_end C n i a b e j) Φ) (j : Nat → Value) : OutK E 0 0 (q102 C n i a b e j) Φ :=
  outK_seg hE (R0_ok hE) [.run 3, (.cond false), .run 3] [4] (s' := fun j => ⟨[], [(.code .ret)], mkT j [(4, (iI 0))] 21 0⟩) (ps := [(decide (Int.ofNat i < Int.ofNat n) : Bool) = false]) (fun j => by kernel_rfl) ⟨h0, trivial⟩
    ho
def p38s_end (C : List DT) (n i _b : Nat) (_e : Int) (j : Nat → Value) : St := ⟨[], [(.code (atC [1, 0, 1, 0, 0] (bodyOf Tryz.f38))), (.inLoop (atC [1, 0, 1, 0, 0] (bodyOf Tryz.f38))), (.inBlock 0), (.code (atC [1, 1] (bodyOf Tryz.f38)))], mkT j [(0, (.e (.one (.dp (.s (C) (n) 1))))), (3, (iI (Int.ofNat (i + 1))))] 19 0⟩
theorem p38s (hE : EnvOk E) (C : List DT) (n i b : Nat) (e : Int) (h0 : (decide (Int.ofNat i < (↑n : Int)) : Bool) = true) (h1 : (0 : Int) ≤ Int.ofNat i ∧ Int.ofNat i < (↑n : Int)) (h2 : ((Int.ofNat i).toNat * nat_lit 1 : Nat) = i) (h3 : (getL C i : Option DT) = (.some (.v (.float .f32 (b))))) (h4 : COut E 0 [] 25 [(.e (.one (.v (.float .f32 (b)))))] (iI (e)) []) (h6 : (e != (0 : Int) : Bool) = false) (h7 : ((iI (wrapF IntKind.i64 (Int.ofNat i + (1 : Int)))) : AV) = (iI (Int.ofNat (i + 1)))) {Φ : Res → Prop} (ho : ∀ j, OutK E 0 0 (p38s_end C n i b e j) Φ) (j : Nat → Value) : OutK E 0 0 (q38 C n i b e j) Φ :=
  outK_seg hE (R0_ok hE) [.run 2, (.ops [(2, (.d .len))] []), (.cond true), .run 4, (.ops [(3, (.d (.ld (.v (.float .f32 (b)))))), (4, (.c0 (iI (e)))), (2, (.d (.ix (i))))] []), .run 2, (.cond false), .run 2, (.ops [(1, (.rn (iI (Int.ofNat (i + 1)))))] []), .run 1] [0, 3] (s' := fun j => ⟨[], [(.code (atC [1, 0, 1, 0, 0] (bodyOf Tryz.f38))), (.inLoop (atC [1, 0, 1, 0, 0] (bodyOf Tryz.f38))), (.inBlock 0), (.code (atC [1, 1] (bodyOf Tryz.f38)))], mkT j [(0, (.e (.one (.dp (.s (C) (n) 1))))), (3, (iI (Int.ofNat (i + 1))))] 19 0⟩) (ps := [(decide (Int.ofNat i < (↑n : Int)) : Bool) = true, (0 : Int) ≤ Int.ofNat i ∧ Int.ofNat i < (↑n : Int), ((Int.ofNat i).toNat * nat_lit 1 : Nat) = i, (getL C i : Option DT) = (.some (.v (.float .f32 (b)))), COut E 0 [] 25 [(.e (.one (.v (.float .f32 (b)))))] (iI (e)) [], ([] : List Nat) = [], (e != (0 : Int) : Bool) = false, ((iI (wrapF IntKind.i64 (Int.ofNat i + (1 : Int)))) : AV) = (iI (Int.ofNat (i + 1)))]) (fun j => by kernel_rfl) ⟨h0, h1, h2, h3, h4, rfl, h6, h7, trivial⟩
    ho
def p38e_end (_C : List DT) (_n _i _b : Nat) (e : Int) (j : Nat → Value) : St := ⟨[], [(.code .ret), (.inBlock 1), (.code (atC [1, 0, 1, 0, 0, 1, 1] (bodyOf Tryz.f38))), (.inLoop (atC [1, 0, 1, 0, 0] (bodyOf Tryz.f38))), (.inBlock 0), (.code (atC [1, 1] (bodyOf Tryz.f38)))], mkT j [(2, (iI (e)))] 19 0⟩
theorem p38e (hE : EnvOk E) (C : List DT) (n i b : Nat) (e : Int) (h0 : (decide (Int.ofNat i < (↑n : Int)) : Bool) = true) (h1 : (0 : Int) ≤ Int.ofNat i ∧ Int.ofNat i < (↑n : Int)) (h2 : ((Int.ofNat i).toNat * nat_lit 1 : Nat) = i) (h3 : (getL C i : Option DT) = (.some (.v (.float .f32 (b))))) (h4 : COut E 0 [] 25 [(.e (.one (.v (.float .f32 (b)))))] (iI (e)) []) (h6 : (e != (0 : Int) : Bool) = true) {Φ : Res → Prop} (ho : ∀ j, OutK E 0 0 (p38e_end C n i b e j) Φ) (j : Nat → Value) : OutK E 0 0 (q38 C n i b e j) Φ :=
  outK_seg hE (R0_ok hE) [.run 2, (.ops [(2, (.d .len))] []), (.cond true), .run 4, (.ops [(3, (.d (.ld (.v (.float .f32 (b)))))), (4, (.c0 (iI (e)))), (2, (.d (.ix (i))))] []), .run 2, (.cond true), .run 2] [2] (s' := fun j => ⟨[], [(.code .ret), (.inBlock 1), (.code (atC [1, 0, 1, 0, 0, 1, 1] (bodyOf Tryz.f38))), (.inLoop (atC [1, 0, 1, 0, 0] (bodyOf Tryz.f38))), (.inBlock 0), (.code (atC [1, 1] (bodyOf Tryz.f38)))], mkT j [(2, (iI (e)))] 19 0⟩) (ps := [(decide (Int.ofNat i < (↑n : Int)) : Bool) = true, (0 : Int) ≤ Int.ofNat i ∧ Int.ofNat i < (↑n : Int), ((Int.ofNat i).toNat * nat_lit 1 : Nat) = i, (getL C i : Option DT) = (.some (.v (.float .f32 (b)))), COut E 0 [] 25 [(.e (.one (.v (.float .f32 (b)))))] (iI (e)) [], ([] : List Nat) = [], (e != (0 : Int) : Bool) = true]) (fun j => by kernel_rfl) ⟨h0, h1, h2, h3, h4, rfl, h6, trivial⟩
    ho
def p38x_end (_C : List DT) (_n _i _b : Nat) (_e : Int) (j : Nat → Value) : St := ⟨[], [(.code .ret)], mkT j [(2, (iI 0))] 19 0⟩
theorem p38x (hE : EnvOk E) (C : List DT) (n i b : Nat) (e : Int) (h0 : (decide (Int.ofNat i < (↑n : Int)) : Bool) = false) {Φ : Res → Prop} (ho : ∀ j, OutK E 0 0 (p38x_end C n i b e j) Φ) (j : Nat → Value) : OutK E 0 0 (q38 C n i b e j) Φ :=
  outK_seg hE (R0_ok hE) [.run 2, (.ops [(2, (.d .len))] []), (.cond false), .run 3] [2] (s' := fun j => ⟨[], [(.code .ret)], mkT j [(2, (iI 0))] 19 0⟩) (ps := [(decide (Int.ofNat i < (↑n : Int)) : Bool) = false]) (fun j => by kernel_rfl) ⟨h0, trivial⟩
    ho
def p103_end (_a _b : Nat) (_f _g _k _l e : Int) (j : Nat → Value) : St := ⟨[], [(.code .ret)], mkT j [(2, (iI (e)))] 17 0⟩
theorem p103 (hE : EnvOk E) (a b : Nat) (f g k l e : Int) (h0 : COut E 0 [] 88 [(.e (.one (.v (.float .f32 (a)))))] (iI (f)) []) (h2 : COut E 0 [] 88 [(.e (.one (.v (.float .f32 (b)))))] (iI (g)) []) (h4 : COut E 0 [] 89 [(.e (.one (.v (.float .f32 (a))))), (iI 4096)] (iI (k)) []) (h6 : COut E 0 [] 89 [(.e (.one (.v (.float .f32 (b))))), (iI 4096)] (iI (l)) []) (h8 : COut E 1 [(.some ⟨[(.v (.int .i64 (f))), (.v (.int .i64 (g))), (.v (.int .i64 (k))), (.v (.int .i64 (l)))], 4, 26, true, .cells⟩)] 79 [(.e (.one (.slc 0 0 4 1 4 true)))] (iI (e)) [(.some ⟨[(.v (.int .i64 (f))), (.v (.int .i64 (g))), (.v (.int .i64 (k))), (.v (.int .i64 (l)))], 4, 26, true, .cells⟩)]) {Φ : Res → Prop} (ho : ∀ j, OutK E 0 0 (p103_end a b f g k l e j) Φ) (j : Nat → Value) : OutK E 0 0 (s103 a b f g k l e j) Φ :=
  outK_seg hE (R0_ok hE) [.run 3, (.ops [(2, (.c0 (iI (f)))), (5, (.c0 (iI (g)))), (8, (.c0 (iI (k)))), (11, (.c0 (iI (l)))), (13, (.d (.c1 (iI (e)))))] [])] [2] (s' := fun j => ⟨[(.some ⟨[(.v (.int .i64 (f))), (.v (.int .i64 (g))), (.v (.int .i64 (k))), (.v (.int .i64 (l)))], 4, 26, true, .cells⟩)], [(.code .ret)], mkT j [(2, (iI (e)))] 17 0⟩) (ps := [COut E 0 [] 88 [(.e (.one (.v (.float .f32 (a)))))] (iI (f)) [], ([] : List Nat) = [], COut E 0 [] 88 [(.e (.one (.v (.float .f32 (b)))))] (iI (g)) [], ([] : List Nat) = [], COut E 0 [] 89 [(.e (.one (.v (.float .f32 (a))))), (iI 4096)] (iI (k)) [], ([] : List Nat) = [], COut E 0 [] 89 [(.e (.one (.v (.float .f32 (b))))), (iI 4096)] (iI (l)) [], ([] : List Nat) = [], COut E 1 [(.some ⟨[(.v (.int .i64 (f))), (.v (.int .i64 (g))), (.v (.int .i64 (k))), (.v (.int .i64 (l)))], 4, 26, true, .cells⟩)] 79 [(.e (.one (.slc 0 0 4 1 4 true)))] (iI (e)) [(.some ⟨[(.v (.int .i64 (f))), (.v (.int .i64 (g))), (.v (.int .i64 (k))), (.v (.int .i64 (l)))], 4, 26, true, .cells⟩)], ([] : List Nat) = []]) (fun j => by kernel_rfl) ⟨h0, rfl, h2, rfl, h4, rfl, h6, rfl, h8, rfl, trivial⟩
    fun j => outK_gc [] (by decide) (by kernel_rfl) (by kernel_rfl) (by kernel_rfl) (ho j)
def p104_end (_a _b _c _d u v : Int) (j : Nat → Value) : St := ⟨[(.some ⟨[(.v (.int .i64 (u))), (.v (.int .i64 (v)))], 2, 160, true, .cells⟩)], [(.code .ret)], mkT j [(4, (.e (.one (.ptr 0 0))))] 16 0⟩
theorem p104 (hE : EnvOk E) (a b c d u v : Int) (h0 : ((iI (wrapF IntKind.i64 (a + c))) : AV) = (iI (u))) (h1 : ((iI (wrapF IntKind.i64 (b + d))) : AV) = (iI (v))) {Φ : Res → Prop} (ho : ∀ j, OutK E 0 0 (p104_end a b c d u v j) Φ) (j : Nat → Value) : OutK E 0 0 (s104 a b c d u v j) Φ :=
  outK_seg hE (R0_ok hE) [.run 3, (.ops [(4, (.rn (iI (u)))), (9, (.rn (iI (v))))] [])] [4] (s' := fun j => ⟨[(.some ⟨[(.v (.int .i64 (a))), (.v (.int .i64 (b)))], 2, 160, true, .cells⟩), (.some ⟨[(.v (.int .i64 (c))), (.v (.int .i64 (d)))], 2, 160, true, .cells⟩), (.some ⟨[(.v (.int .i64 (u))), (.v (.int .i64 (v)))], 2, 160, true, .cells⟩)], [(.code .ret)], mkT j [(4, (.e (.one (.ptr 2 0))))] 16 0⟩) (ps := [((iI (wrapF IntKind.i64 (a + c))) : AV) = (iI (u)), ((iI (wrapF IntKind.i64 (b + d))) : AV) = (iI (v))]) (fun j => by kernel_rfl) ⟨h0, h1, trivial⟩
    fun j => outK_gc [2] (by decide) (by kernel_rfl) (by kernel_rfl) (by kernel_rfl) (ho j)
def p107_end (_a _b _c _d u v : Int) (j : Nat → Value) : St := ⟨[(.some ⟨[(.v (.int .i64 (u))), (.v (.int .i64 (v)))], 2, 160, true, .cells⟩)], [(.code .ret)], mkT j [(4, (.e (.one (.ptr 0 0))))] 16 0⟩
theorem p107 (hE : EnvOk E) (a b c d u v : Int) (h0 : ((iI (wrapF IntKind.i64 (a + c))) : AV) = (iI (u))) (h1 : ((iI (wrapF IntKind.i64 (b + d))) : AV) = (iI (v))) {Φ : Res → Prop} (ho : ∀ j, OutK E 0 0 (p107_end a b c d u v j) Φ) (j : Nat → Value) : OutK E 0 0 (s107 a b c d u v j) Φ :=
  outK_seg hE (R0_ok hE) [.run 3, (.ops [(4, (.rn (iI (u)))), (9, (.rn (iI (v))))] [])] [4] (s' := fun j => ⟨[(.some ⟨[(.v (.int .i64 (a))), (.v (.int .i64 (b)))], 2, 160, true, .cells⟩), (.some ⟨[(.v (.int .i64 (c))), (.v (.int .i64 (d)))], 2, 160, true, .cells⟩), (.some ⟨[(.v (.int .i64 (u))), (.v (.int .i64 (v)))], 2, 160, true, .cells⟩)], [(.code .ret)], mkT j [(4, (.e (.one (.ptr 2 0))))] 16 0⟩) (ps := [((iI (wrapF IntKind.i64 (a + c))) : AV) = (iI (u)), ((iI (wrapF IntKind.i64 (b + d))) : AV) = (iI (v))]) (fun j => by kernel_rfl) ⟨h0, h1, trivial⟩
    fun j => outK_gc [2] (by decide) (by kernel_rfl) (by kernel_rfl) (by kernel_rfl) (ho j)
def p105_end (_a _b _c _d _ac _bd u _ad _bc v : Int) (j : Nat → Value) : St := ⟨[(.some ⟨[(.v (.int .i64 (u))), (.v (.int .i64 (v)))], 2, 160, true, .cells⟩)], [(.code .ret)], mkT j [(4, (.e (.one (.ptr 0 0))))] 28 0⟩
theorem p105 (hE : EnvOk E) (a b c d ac bd u ad bc v : Int) (h0 : ((iI (wrapF IntKind.i64 (a * c))) : AV) = (iI (ac))) (h1 : ((iI (wrapF IntKind.i64 (b * d))) : AV) = (iI (bd))) (h2 : ((iI (wrapF IntKind.i64 (ac - bd))) : AV) = (iI (u))) (h3 : ((iI (wrapF IntKind.i64 (a * d))) : AV) = (iI (ad))) (h4 : ((iI (wrapF IntKind.i64 (b * c))) : AV) = (iI (bc))) (h5 : ((iI (wrapF IntKind.i64 (ad + bc))) : AV) = (iI (v))) {Φ : Res → Prop} (ho : ∀ j, OutK E 0 0 (p105_end a b c d ac bd u ad bc v j) Φ) (j : Nat → Value) : OutK E 0 0 (s105 a b c d ac bd u ad bc v j) Φ :=
  outK_seg hE (R0_ok hE) [.run 3, (.ops [(4, (.rn (iI (ac)))), (9, (.rn (iI (bd)))), (10, (.rn (iI (u)))), (15, (.rn (iI (ad)))), (20, (.rn (iI (bc)))), (21, (.rn (iI (v))))] [])] [4] (s' := fun j => ⟨[(.some ⟨[(.v (.int .i64 (a))), (.v (.int .i64 (b)))], 2, 160, true, .cells⟩), (.some ⟨[(.v (.int .i64 (c))), (.v (.int .i64 (d)))], 2, 160, true, .cells⟩), (.some ⟨[(.v (.int .i64 (u))), (.v (.int .i64 (v)))], 2, 160, true, .cells⟩)], [(.code .ret)], mkT j [(4, (.e (.one (.ptr 2 0))))] 28 0⟩) (ps := [((iI (wrapF IntKind.i64 (a * c))) : AV) = (iI (ac)), ((iI (wrapF IntKind.i64 (b * d))) : AV) = (iI (bd)), ((iI (wrapF IntKind.i64 (ac - bd))) : AV) = (iI (u)), ((iI (wrapF IntKind.i64 (a * d))) : AV) = (iI (ad)), ((iI (wrapF IntKind.i64 (b * c))) : AV) = (iI (bc)), ((iI (wrapF IntKind.i64 (ad + bc))) : AV) = (iI (v))]) (fun j => by kernel_rfl) ⟨h0, h1, h2, h3, h4, h5, trivial⟩
    fun j => outK_gc [2] (by decide) (by kernel_rfl) (by kernel_rfl) (by kernel_rfl) (ho j)
def p108_end (_a _b _c _d _ac _bd u _ad _bc v : Int) (j : Nat → Value) : St := ⟨[(.some ⟨[(.v (.int .i64 (u))), (.v (.int .i64 (v)))], 2, 160, true, .cells⟩)], [(.code .ret)], mkT j [(4, (.e (.one (.ptr 0 0))))] 28 0⟩
theorem p108 (hE : EnvOk E) (a b c d ac bd u ad bc v : Int) (h0 : ((iI (wrapF IntKind.i64 (a * c))) : AV) = (iI (ac))) (h1 : ((iI (wrapF IntKind.i64 (b * d))) : AV) = (iI (bd))) (h2 : ((iI (wrapF IntKind.i64 (ac - bd))) : AV) = (iI (u))) (h3 : ((iI (wrapF IntKind.i64 (a * d))) : AV) = (iI (ad))) (h4 : ((iI (wrapF IntKind.i64 (b * c))) : AV) = (iI (bc))) (h5 : ((iI (wrapF IntKind.i64 (ad + bc))) : AV) = (iI (v))) {Φ : Res → Prop} (ho : ∀ j, OutK E 0 0 (p108_end a b c d ac bd u ad bc v j) Φ) (j : Nat → Value) : OutK E 0 0 (s108 a b c d ac bd u ad bc v j) Φ :=
  outK_seg hE (R0_ok hE) [.run 3, (.ops [(4, (.rn (iI (ac)))), (9, (.rn (iI (bd)))), (10, (.rn (iI (u)))), (15, (.rn (iI (ad)))), (20, (.rn (iI (bc)))), (21, (.rn (iI (v))))] [])] [4] (s' := fun j => ⟨[(.some ⟨[(.v (.int .i64 (a))), (.v (.int .i64 (b)))], 2, 160, true, .cells⟩), (.some ⟨[(.v (.int .i64 (c))), (.v (.int .i64 (d)))], 2, 160, true, .cells⟩), (.some ⟨[(.v (.int .i64 (u))), (.v (.int .i64 (v)))], 2, 160, true, .cells⟩)], [(.code .ret)], mkT j [(4, (.e (.one (.ptr 2 0))))] 28 0⟩) (ps := [((iI (wrapF IntKind.i64 (a * c))) : AV) = (iI (ac)), ((iI (wrapF IntKind.i64 (b * d))) : AV) = (iI (bd)), ((iI (wrapF IntKind.i64 (ac - bd))) : AV) = (iI (u)), ((iI (wrapF IntKind.i64 (a * d))) : AV) = (iI (ad)), ((iI (wrapF IntKind.i64 (b * c))) : AV) = (iI (bc)), ((iI (wrapF IntKind.i64 (ad + bc))) : AV) = (iI (v))]) (fun j => by kernel_rfl) ⟨h0, h1, h2, h3, h4, h5, trivial⟩
    fun j => outK_gc [2] (by decide) (by kernel_rfl) (by kernel_rfl) (by kernel_rfl) (ho j)
def p109_0_end (_k : Int) (j : Nat → Value) : St := ⟨[(.some ⟨[(.v (.int .i64 1)), (.v (.int .i64 0))], 2, 160, true, .cells⟩)], [(.code .ret), (.inBlock 0), (.code (atC [1, 1] (bodyOf Tryz.f109)))], mkT j [(2, (.e (.one (.ptr 0 0))))] 15 0⟩
theorem p109_0 (hE : EnvOk E) (k : Int) (h0 : ((4 : Int) : Int) ≠ (0 : Int)) (h1 : (k.tmod (4 : Int) : Int) = (0 : Int)) {Φ : Res → Prop} (ho : ∀ j, OutK E 0 0 (p109_0_end k j) Φ) (j : Nat → Value) : OutK E 0 0 (s109_0 k j) Φ :=
  outK_seg hE (R0_ok hE) [.run 4, (.ops [(1, (.quo 0))] []), .run 6] [2] (s' := fun j => ⟨[(.some ⟨[(.v (.int .i64 1)), (.v (.int .i64 0))], 2, 160, true, .cells⟩)], [(.code .ret), (.inBlock 0), (.code (atC [1, 1] (bodyOf Tryz.f109)))], mkT j [(2, (.e (.one (.ptr 0 0))))] 15 0⟩) (ps := [((4 : Int) : Int) ≠ (0 : Int), (k.tmod (4 : Int) : Int) = (0 : Int)]) (fun j => by kernel_rfl) ⟨h0, h1, trivial⟩
    ho
def p109_1_end (_k : Int) (j : Nat → Value) : St := ⟨[(.some ⟨[(.v (.int .i64 0)), (.v (.int .i64 1))], 2, 160, true, .cells⟩)], [(.code .ret), (.inBlock 0), (.code (atC [1, 1] (bodyOf Tryz.f109)))], mkT j [(2, (.e (.one (.ptr 0 0))))] 15 0⟩
theorem p109_1 (hE : EnvOk E) (k : Int) (h0 : ((4 : Int) : Int) ≠ (0 : Int)) (h1 : (k.tmod (4 : Int) : Int) = (1 : Int)) {Φ : Res → Prop} (ho : ∀ j, OutK E 0 0 (p109_1_end k j) Φ) (j : Nat → Value) : OutK E 0 0 (s109_1 k j) Φ :=
  outK_seg hE (R0_ok hE) [.run 4, (.ops [(1, (.quo 1))] []), .run 9] [2] (s' := fun j => ⟨[(.some ⟨[(.v (.int .i64 0)), (.v (.int .i64 1))], 2, 160, true, .cells⟩)], [(.code .ret), (.inBlock 0), (.code (atC [1, 1] (bodyOf Tryz.f109)))], mkT j [(2, (.e (.one (.ptr 0 0))))] 15 0⟩) (ps := [((4 : Int) : Int) ≠ (0 : Int), (k.tmod (4 : Int) : Int) = (1 : Int)]) (fun j => by kernel_rfl) ⟨h0, h1, trivial⟩
    ho
def p109_2_end (_k : Int) (j : Nat → Value) : St := ⟨[(.some ⟨[(.v (.int .i64 (-1))), (.v (.int .i64 0))], 2, 160, true, .cells⟩)], [(.code .ret), (.inBlock 0), (.code (atC [1, 1] (bodyOf Tryz.f109)))], mkT j [(2, (.e (.one (.ptr 0 0))))] 15 0⟩
theorem p109_2 (hE : EnvOk E) (k : Int) (h0 : ((4 : Int) : Int) ≠ (0 : Int)) (h1 : (k.tmod (4 : Int) : Int) = (2 : Int)) {Φ : Res → Prop} (ho : ∀ j, OutK E 0 0 (p109_2_end k j) Φ) (j : Nat → Value) : OutK E 0 0 (s109_2 k j) Φ :=
  outK_seg hE (R0_ok hE) [.run 4, (.ops [(1, (.quo 2))] []), .run 12] [2] (s' := fun j => ⟨[(.some ⟨[(.v (.int .i64 (-1))), (.v (.int .i64 0))], 2, 160, true, .cells⟩)], [(.code .ret), (.inBlock 0), (.code (atC [1, 1] (bodyOf Tryz.f109)))], mkT j [(2, (.e (.one (.ptr 0 0))))] 15 0⟩) (ps := [((4 : Int) : Int) ≠ (0 : Int), (k.tmod (4 : Int) : Int) = (2 : Int)]) (fun j => by kernel_rfl) ⟨h0, h1, trivial⟩
    ho
def p109_3_end (_k : Int) (j : Nat → Value) : St := ⟨[(.some ⟨[(.v (.int .i64 0)), (.v (.int .i64 (-1)))], 2, 160, true, .cells⟩)], [(.code .ret)], mkT j [(2, (.e (.one (.ptr 0 0))))] 15 0⟩
theorem p109_3 (hE : EnvOk E) (k : Int) (h0 : ((4 : Int) : Int) ≠ (0 : Int)) (h1 : (k.tmod (4 : Int) : Int) = (3 : Int)) {Φ : Res → Prop} (ho : ∀ j, OutK E 0 0 (p109_3_end k j) Φ) (j : Nat → Value) : OutK E 0 0 (s109_3 k j) Φ :=
  outK_seg hE (R0_ok hE) [.run 4, (.ops [(1, (.quo 3))] []), .run 14] [2] (s' := fun j => ⟨[(.some ⟨[(.v (.int .i64 0)), (.v (.int .i64 (-1)))], 2, 160, true, .cells⟩)], [(.code .ret)], mkT j [(2, (.e (.one (.ptr 0 0))))] 15 0⟩) (ps := [((4 : Int) : Int) ≠ (0 : Int), (k.tmod (4 : Int) : Int) = (3 : Int)]) (fun j => by kernel_rfl) ⟨h0, h1, trivial⟩
    ho
def p80a_end (_n _lo _hi e : Int) (j : Nat → Value) : St := ⟨[], [(.code .ret)], mkT j [(6, (iI (e)))] 16 0⟩
theorem p80a (hE : EnvOk E) (n lo hi e : Int) (h0 : (decide (n < lo) == false : Bool) = (nat_lit 4, false).snd) (h1 : (decide (n < lo) == false : Bool) = (nat_lit 5, false).snd) (h2 : (decide (n < lo) == false : Bool) = (nat_lit 6, false).snd) (h3 : (decide (n < lo) : Bool) = true) (h4 : COut E 0 [] 85 [(iB true), (iI 3)] (iI (e)) []) {Φ : Res → Prop} (ho : ∀ j, OutK E 0 0 (p80a_end n lo hi e j) Φ) (j : Nat → Value) : OutK E 0 0 (s80 n lo hi e j) Φ :=
  outK_seg hE (R0_ok hE) [.run 3, (.ops [(8, (.c0 (iI (e)))), (7, (.pk true))] [(4, false), (5, false), (6, false)])] [6] (s' := fun j => ⟨[], [(.code .ret)], mkT j [(6, (iI (e)))] 16 0⟩) (ps := [(decide (n < lo) == false : Bool) = (nat_lit 4, false).snd, (decide (n < lo) == false : Bool) = (nat_lit 5, false).snd, (decide (n < lo) == false : Bool) = (nat_lit 6, false).snd, (decide (n < lo) : Bool) = true, COut E 0 [] 85 [(iB true), (iI 3)] (iI (e)) [], ([] : List Nat) = []]) (fun j => by kernel_rfl) ⟨h0, h1, h2, h3, h4, rfl, trivial⟩
    ho
def p80b_end (_n _lo _hi e : Int) (j : Nat → Value) : St := ⟨[], [(.code .ret)], mkT j [(6, (iI (e)))] 16 0⟩
theorem p80b (hE : EnvOk E) (n lo hi e : Int) (h0 : (decide (n < lo) == false : Bool) = (nat_lit 4, true).snd) (h1 : (decide (n < lo) == false : Bool) = (nat_lit 5, true).snd) (h2 : (decide (n < lo) == false : Bool) = (nat_lit 6, true).snd) (h3 : (decide (n < lo) : Bool) = false) (h4 : COut E 0 [] 85 [(iB (decide (n > hi))), (iI 3)] (iI (e)) []) {Φ : Res → Prop} (ho : ∀ j, OutK E 0 0 (p80b_end n lo hi e j) Φ) (j : Nat → Value) : OutK E 0 0 (s80 n lo hi e j) Φ :=
  outK_seg hE (R0_ok hE) [.run 3, (.ops [(8, (.c0 (iI (e)))), (7, (.pk false))] [(4, true), (5, true), (6, true)])] [6] (s' := fun j => ⟨[], [(.code .ret)], mkT j [(6, (iI (e)))] 16 0⟩) (ps := [(decide (n < lo) == false : Bool) = (nat_lit 4, true).snd, (decide (n < lo) == false : Bool) = (nat_lit 5, true).snd, (decide (n < lo) == false : Bool) = (nat_lit 6, true).snd, (decide (n < lo) : Bool) = false, COut E 0 [] 85 [(iB (decide (n > hi))), (iI 3)] (iI (e)) [], ([] : List Nat) = []]) (fun j => by kernel_rfl) ⟨h0, h1, h2, h3, h4, rfl, trivial⟩
    ho
def p110a_end (_n : Int) (_e : Bool) (j : Nat → Value) : St := ⟨[], [(.code .ret)], mkT j [(2, (iB true))] 9 0⟩
theorem p110a (hE : EnvOk E) (n : Int) (e : Bool) (h0 : (decide (n > (16384 : Int)) == false : Bool) = (nat_lit 3, false).snd) (h1 : (decide (n > (16384 : Int)) == false : Bool) = (nat_lit 4, false).snd) (h2 : (decide (n > (16384 : Int)) : Bool) = true) {Φ : Res → Prop} (ho : ∀ j, OutK E 0 0 (p110a_end n e j) Φ) (j : Nat → Value) : OutK E 0 0 (s110 n e j) Φ :=
  outK_seg hE (R0_ok hE) [.run 3, (.ops [(5, (.pk true))] [(3, false), (4, false)])] [2] (s' := fun j => ⟨[], [(.code .ret)], mkT j [(2, (iB true))] 9 0⟩) (ps := [(decide (n > (16384 : Int)) == false : Bool) = (nat_lit 3, false).snd, (decide (n > (16384 : Int)) == false : Bool) = (nat_lit 4, false).snd, (decide (n > (16384 : Int)) : Bool) = true]) (fun j => by kernel_rfl) ⟨h0, h1, h2, trivial⟩
    ho
def p110b_end (n : Int) (_e : Bool) (j : Nat → Value) : St := ⟨[], [(.code .ret)], mkT j [(2, (iB (decide (n < (-16384 : Int)))))] 9 0⟩
theorem p110b (hE : EnvOk E) (n : Int) (e : Bool) (h0 : (decide (n > (16384 : Int)) == false : Bool) = (nat_lit 3, true).snd) (h1 : (decide (n > (16384 : Int)) == false : Bool) = (nat_lit 4, true).snd) (h2 : (decide (n > (16384 : Int)) : Bool) = false) {Φ : Res → Prop} (ho : ∀ j, OutK E 0 0 (p110b_end n e j) Φ) (j : Nat → Value) : OutK E 0 0 (s110 n e j) Φ :=
  outK_seg hE (R0_ok hE) [.run 3, (.ops [(5, (.pk false))] [(3, true), (4, true)])] [2] (s' := fun j => ⟨[], [(.code .ret)], mkT j [(2, (iB (decide (n < (-16384 : Int)))))] 9 0⟩) (ps := [(decide (n > (16384 : Int)) == false : Bool) = (nat_lit 3, true).snd, (decide (n > (16384 : Int)) == false : Bool) = (nat_lit 4, true).snd, (decide (n > (16384 : Int)) : Bool) = false]) (fun j => by kernel_rfl) ⟨h0, h1, h2, trivial⟩
    ho

open Ieee
def dF (ws : List Nat) : DT := .s (ws.map fun b => .v (.float .f32 b)) ws.length 1
def dZ (zs : List (Nat × Nat)) : DT := .s (zs.map fun z => .v (.complex .f32 z.1 z.2)) zs.length 1
def chkL (ws : List Nat) : Int := firstI (ws.map (chkW 1024))
def chkZ (z : Nat × Nat) : Int := firstI [finW z.1, finW z.2, mulW 4096 z.1, mulW 4096 z.2]
def chkZL (zs : List (Nat × Nat)) : Int := firstI (zs.map chkZ)
theorem getDF {ws : List Nat} {i b : Nat} (h : ws[i]? = some b) : getL (ws.map fun b => DT.v (.float .f32 b)) i = some (.v (.float .f32 b)) := by rw [getL_eq, List.getElem?_map, h]; rfl
theorem getDZ {zs : List (Nat × Nat)} {i : Nat} {z : Nat × Nat} (h : zs[i]? = some z) : getL (zs.map fun z => DT.v (.complex .f32 z.1 z.2)) i = some (.v (.complex .f32 z.1 z.2)) := by rw [getL_eq, List.getElem?_map, h]; rfl
theorem get4 {f g k l : Int} : ∀ (i : Nat) (x : Int), [f, g, k, l][i]? = some x → getL [AC.v (.int .i64 f), AC.v (.int .i64 g), AC.v (.int .i64 k), AC.v (.int .i64 l)] (0 + i) = some (.v (.int .i64 x)) := by
  intro i x h
  match i, h with
  | 0, h => simp at h; subst h; rfl
  | 1, h => simp at h; subst h; rfl
  | 2, h => simp at h; subst h; rfl
  | 3, h => simp at h; subst h; rfl
  | i + 4, h => simp at h
theorem cOut_clear {f : FuncId} {args : List AV} {v : AV} {h : Heap} (hc : COut E 0 [] f args v h) (hv : v.refs = []) : COut E 0 [] f args v [] :=
  cOut_gc (h' := []) [] (Nat.zero_le _) hc rfl rfl (AV.ren_id hv)
theorem K103 (hE : EnvOk E) (a b : Nat) : COut E 0 [] 103 [.e (.one (.v (.complex .f32 a b)))] (iI (chkZ (a, b))) [] :=
  cOut_start Tryz.func103 rfl (p103 hE a b _ _ _ _ _ (k88 hE a) (k88 hE b) (k89 hE a (L := 4096) (by decide)) (k89 hE b (L := 4096) (by decide)) (k102 hE [finW a, finW b, mulW 4096 a, mulW 4096 b] rfl (by decide) get4) (fun j => outK_ret (ends_ret (by kernel_rfl))) fun _ => undef)

theorem l98' (hE : EnvOk E) (ws : List Nat) (hm : ws.length ≤ 4000000) :
    ∀ m i, m + i = ws.length → ∀ b e j, OutK E 0 0 (q98 (ws.map fun b => DT.v (.float .f32 b)) ws.length i b e j) (Go.Ev.Ends E Tryz.f98 (iI (firstI ((ws.drop i).map (chkW 1024)))) [])
  | 0, i, hk, b, e, j => by
    have e1 : ws.drop i = [] := List.drop_eq_nil_of_le (by omega)
    rw [e1]
    exact p98x hE _ _ i b e (decide_eq_false (by simp only [Int.ofNat_eq_natCast]; omega)) (fun j => outK_ret (ends_ret (by kernel_rfl))) j
  | m + 1, i, hk, _, _, j => by
    have hlt : i < ws.length := by omega
    have hx : ws[i]? = some ws[i] := List.getElem?_eq_getElem hlt
    have e1 : ws.drop i = ws[i] :: ws.drop (i + 1) := List.drop_eq_getElem_cons hlt
    rw [e1]
    generalize ws[i] = x at hx e1
    have hd : decide (Int.ofNat i < Int.ofNat ws.length) = true := decide_eq_true (by simp only [Int.ofNat_eq_natCast]; omega)
    have hb : (0 : Int) ≤ Int.ofNat i ∧ Int.ofNat i < (ws.length : Int) := by simp only [Int.ofNat_eq_natCast]; omega
    by_cases h0 : (chkW 1024) x = 0
    · have e2 : firstI (List.map (chkW 1024) (x :: ws.drop (i + 1))) = firstI (List.map (chkW 1024) (ws.drop (i + 1))) := by simp [firstI, h0]
      rw [e2]
      exact p98s hE _ _ i x _ hd hb (by simp) (getDF hx) (k24 hE x) (by simp [h0]) (iIn i (by omega)) (l98' hE ws hm m (i + 1) (by omega) 0 0) j
    · have e2 : firstI (List.map (chkW 1024) (x :: ws.drop (i + 1))) = (chkW 1024) x := by simp [firstI, h0]
      rw [e2]
      exact p98e hE _ _ i x _ hd hb (by simp) (getDF hx) (k24 hE x) (by simp [h0]) (fun j => outK_ret (ends_ret (by kernel_rfl))) j
theorem K98 (hE : EnvOk E) (ws : List Nat) (hm : ws.length ≤ 4000000) : COut E 0 [] 98 [.e (.one (dF ws).ac), .e (.one (.v (.func (.func 24) #[] #[])))] (iI (chkL ws)) [] :=
  cOut_start Tryz.func98 rfl (p98a hE _ _ (l98' hE ws hm ws.length 0 (by omega) 0 0) fun _ => undef)

theorem l38' (hE : EnvOk E) (ws : List Nat) (hm : ws.length ≤ 4000000) :
    ∀ m i, m + i = ws.length → ∀ b e j, OutK E 0 0 (q38 (ws.map fun b => DT.v (.float .f32 b)) ws.length i b e j) (Go.Ev.Ends E Tryz.f38 (iI (firstI ((ws.drop i).map (chkW 1024)))) [])
  | 0, i, hk, b, e, j => by
    have e1 : ws.drop i = [] := List.drop_eq_nil_of_le (by omega)
    rw [e1]
    exact p38x hE _ _ i b e (decide_eq_false (by simp only [Int.ofNat_eq_natCast]; omega)) (fun j => outK_ret (ends_ret (by kernel_rfl))) j
  | m + 1, i, hk, _, _, j => by
    have hlt : i < ws.length := by omega
    have hx : ws[i]? = some ws[i] := List.getElem?_eq_getElem hlt
    have e1 : ws.drop i = ws[i] :: ws.drop (i + 1) := List.drop_eq_getElem_cons hlt
    rw [e1]
    generalize ws[i] = x at hx e1
    have hd : decide (Int.ofNat i < (ws.length : Int)) = true := decide_eq_true (by simp only [Int.ofNat_eq_natCast]; omega)
    have hb : (0 : Int) ≤ Int.ofNat i ∧ Int.ofNat i < (ws.length : Int) := by simp only [Int.ofNat_eq_natCast]; omega
    by_cases h0 : (chkW 1024) x = 0
    · have e2 : firstI (List.map (chkW 1024) (x :: ws.drop (i + 1))) = firstI (List.map (chkW 1024) (ws.drop (i + 1))) := by simp [firstI, h0]
      rw [e2]
      exact p38s hE _ _ i x _ hd hb (by simp) (getDF hx) (k25 hE x) (by simp [h0]) (iIn i (by omega)) (l38' hE ws hm m (i + 1) (by omega) 0 0) j
    · have e2 : firstI (List.map (chkW 1024) (x :: ws.drop (i + 1))) = (chkW 1024) x := by simp [firstI, h0]
      rw [e2]
      exact p38e hE _ _ i x _ hd hb (by simp) (getDF hx) (k25 hE x) (by simp [h0]) (fun j => outK_ret (ends_ret (by kernel_rfl))) j
theorem K38 (hE : EnvOk E) (ws : List Nat) (hm : ws.length ≤ 4000000) : COut E 0 [] 38 [.e (.one (dF ws).ac)] (iI (chkL ws)) [] :=
  cOut_start Tryz.func38 rfl (p38a hE _ _ (l38' hE ws hm ws.length 0 (by omega) 0 0) fun _ => undef)

theorem l102' (hE : EnvOk E) (ws : List (Nat × Nat)) (hm : ws.length ≤ 4000000) :
    ∀ m i, m + i = ws.length → ∀ a b e j, OutK E 0 0 (q102 (ws.map fun z => DT.v (.complex .f32 z.1 z.2)) ws.length i a b e j) (Go.Ev.Ends E Tryz.f102 (iI (firstI ((ws.drop i).map chkZ))) [])
  | 0, i, hk, a, b, e, j => by
    have e1 : ws.drop i = [] := List.drop_eq_nil_of_le (by omega)
    rw [e1]
    exact p102x hE _ _ i a b e (decide_eq_false (by simp only [Int.ofNat_eq_natCast]; omega)) (fun j => outK_ret (ends_ret (by kernel_rfl))) j
  | m + 1, i, hk, _, _, _, j => by
    have hlt : i < ws.length := by omega
    have hx : ws[i]? = some ws[i] := List.getElem?_eq_getElem hlt
    have e1 : ws.drop i = ws[i] :: ws.drop (i + 1) := List.drop_eq_getElem_cons hlt
    rw [e1]
    generalize ws[i] = x at hx e1
    have hd : decide (Int.ofNat i < Int.ofNat ws.length) = true := decide_eq_true (by simp only [Int.ofNat_eq_natCast]; omega)
    have hb : (0 : Int) ≤ Int.ofNat i ∧ Int.ofNat i < (ws.length : Int) := by simp only [Int.ofNat_eq_natCast]; omega
    by_cases h0 : chkZ x = 0
    · have e2 : firstI (List.map chkZ (x :: ws.drop (i + 1))) = firstI (List.map chkZ (ws.drop (i + 1))) := by simp [firstI, h0]
      rw [e2]
      exact p102s hE _ _ i x.1 x.2 _ hd hb (by simp) (getDZ hx) (K103 hE x.1 x.2) (by simp [h0]) (iIn i (by omega)) (l102' hE ws hm m (i + 1) (by omega) 0 0 0) j
    · have e2 : firstI (List.map chkZ (x :: ws.drop (i + 1))) = chkZ x := by simp [firstI, h0]
      rw [e2]
      exact p102e hE _ _ i x.1 x.2 _ hd hb (by simp) (getDZ hx) (K103 hE x.1 x.2) (by simp [h0]) (fun j => outK_ret (ends_ret (by kernel_rfl))) j
theorem K102 (hE : EnvOk E) (ws : List (Nat × Nat)) (hm : ws.length ≤ 4000000) : COut E 0 [] 102 [.e (.one (dZ ws).ac), .e (.one (.v (.func (.func 103) #[] #[])))] (iI (chkZL ws)) [] :=
  cOut_start Tryz.func102 rfl (p102a hE _ _ (l102' hE ws hm ws.length 0 (by omega) 0 0 0) fun _ => undef)

/-! complex integers -/
abbrev gA (a b : Int) : AV := .e (.agg [.v (.int .i64 a), .v (.int .i64 b)])
def Sm (z : Int) : Prop := z.natAbs ≤ 2 ^ 30
theorem Sm.mul {a b : Int} (h : Sm a) (g : Sm b) : (a * b).natAbs ≤ 2 ^ 60 := by
  unfold Sm at h g
  rw [Int.natAbs_mul]
  exact Nat.le_trans (Nat.mul_le_mul h g) (by decide)
theorem wr {z : Int} (h : z.natAbs ≤ 2 ^ 62) : wrapF .i64 z = z := wrap_id (by omega) (by omega)
theorem K104 (hE : EnvOk E) {a b c d u v : Int} (ha : a.natAbs ≤ 2 ^ 60) (hb : b.natAbs ≤ 2 ^ 60) (hc : c.natAbs ≤ 2 ^ 60) (hd : d.natAbs ≤ 2 ^ 60) (hu : a + c = u) (hv : b + d = v) : COut E 0 [] 104 [gA a b, gA c d] (gA u v) [] := by
  subst hu hv
  exact cOut_clear (cOut_start Tryz.func104 rfl (p104 hE a b c d _ _ (iIe (wr (by omega))) (iIe (wr (by omega))) (fun j => outK_ret (ends_ret (by kernel_rfl))) fun _ => undef)) rfl
theorem K107 (hE : EnvOk E) {a b c d u v : Int} (ha : a.natAbs ≤ 2 ^ 60) (hb : b.natAbs ≤ 2 ^ 60) (hc : c.natAbs ≤ 2 ^ 60) (hd : d.natAbs ≤ 2 ^ 60) (hu : a + c = u) (hv : b + d = v) : COut E 0 [] 107 [gA a b, gA c d] (gA u v) [] := by
  subst hu hv
  exact cOut_clear (cOut_start Tryz.func107 rfl (p107 hE a b c d _ _ (iIe (wr (by omega))) (iIe (wr (by omega))) (fun j => outK_ret (ends_ret (by kernel_rfl))) fun _ => undef)) rfl
theorem K105 (hE : EnvOk E) {a b c d u v : Int} (ha : Sm a) (hb : Sm b) (hc : Sm c) (hd : Sm d) (hu : a * c - b * d = u) (hv : a * d + b * c = v) : COut E 0 [] 105 [gA a b, gA c d] (gA u v) [] := by
  subst hu hv
  have h1 := ha.mul hc
  have h2 := hb.mul hd
  have h3 := ha.mul hd
  have h4 := hb.mul hc
  exact cOut_clear (cOut_start Tryz.func105 rfl (p105 hE a b c d _ _ _ _ _ _ (iIe (wr (by omega))) (iIe (wr (by omega))) (iIe (wr (by omega))) (iIe (wr (by omega))) (iIe (wr (by omega))) (iIe (wr (by omega))) (fun j => outK_ret (ends_ret (by kernel_rfl))) fun _ => undef)) rfl
theorem K108 (hE : EnvOk E) {a b c d u v : Int} (ha : Sm a) (hb : Sm b) (hc : Sm c) (hd : Sm d) (hu : a * c - b * d = u) (hv : a * d + b * c = v) : COut E 0 [] 108 [gA a b, gA c d] (gA u v) [] := by
  subst hu hv
  have h1 := ha.mul hc
  have h2 := hb.mul hd
  have h3 := ha.mul hd
  have h4 := hb.mul hc
  exact cOut_clear (cOut_start Tryz.func108 rfl (p108 hE a b c d _ _ _ _ _ _ (iIe (wr (by omega))) (iIe (wr (by omega))) (iIe (wr (by omega))) (iIe (wr (by omega))) (iIe (wr (by omega))) (iIe (wr (by omega))) (fun j => outK_ret (ends_ret (by kernel_rfl))) fun _ => undef)) rfl
theorem K109_0 (hE : EnvOk E) {k : Int} (h : k.tmod 4 = 0) : COut E 0 [] 109 [iI k] (gA 1 0) [] :=
  cOut_clear (cOut_start Tryz.func109 rfl (p109_0 hE k (by decide) h (fun j => outK_ret (ends_ret (by kernel_rfl))) fun _ => undef)) rfl
theorem K109_1 (hE : EnvOk E) {k : Int} (h : k.tmod 4 = 1) : COut E 0 [] 109 [iI k] (gA 0 1) [] :=
  cOut_clear (cOut_start Tryz.func109 rfl (p109_1 hE k (by decide) h (fun j => outK_ret (ends_ret (by kernel_rfl))) fun _ => undef)) rfl
theorem K109_2 (hE : EnvOk E) {k : Int} (h : k.tmod 4 = 2) : COut E 0 [] 109 [iI k] (gA (-1) 0) [] :=
  cOut_clear (cOut_start Tryz.func109 rfl (p109_2 hE k (by decide) h (fun j => outK_ret (ends_ret (by kernel_rfl))) fun _ => undef)) rfl
theorem K109_3 (hE : EnvOk E) {k : Int} (h : k.tmod 4 = 3) : COut E 0 [] 109 [iI k] (gA 0 (-1)) [] :=
  cOut_clear (cOut_start Tryz.func109 rfl (p109_3 hE k (by decide) h (fun j => outK_ret (ends_ret (by kernel_rfl))) fun _ => undef)) rfl

def rngI (a b z : Int) : Int := if z < a ∨ b < z then 3 else 0
theorem K80 (hE : EnvOk E) (z a b : Int) : COut E 0 [] 80 [iI z, iI a, iI b] (iI (rngI a b z)) [] := by
  by_cases h : z < a
  · have e : rngI a b z = 3 := by simp [rngI, h]
    rw [e]
    exact cOut_start Tryz.func80 rfl (p80a hE z a b 3 (by simp [h]) (by simp [h]) (by simp [h]) (by simp [h]) (k107 hE true 3) (fun j => outK_ret (ends_ret (by kernel_rfl))) fun _ => undef)
  · have e : rngI a b z = (if decide (z > b) = true then 3 else 0) := by simp [rngI, h]
    rw [e]
    exact cOut_start Tryz.func80 rfl (p80b hE z a b _ (by simp; omega) (by simp; omega) (by simp; omega) (by simp; omega) (k107 hE _ 3) (fun j => outK_ret (ends_ret (by kernel_rfl))) fun _ => undef)
def lrg (n : Int) : Bool := decide (n > 16384) || decide (n < -16384)
theorem K110 (hE : EnvOk E) (n : Int) : COut E 0 [] 110 [iI n] (iB (lrg n)) [] := by
  by_cases h : n > 16384
  · have e : lrg n = true := by simp [lrg, h]
    rw [e]
    exact cOut_start Tryz.func110 rfl (p110a hE n true (by simp [h]) (by simp [h]) (by simp [h]) (fun j => outK_ret (ends_ret (by kernel_rfl))) fun _ => undef)
  · have e : lrg n = decide (n < -16384) := by simp [lrg, h]
    rw [e]
    exact cOut_start Tryz.func110 rfl (p110b hE n true (by simp; omega) (by simp; omega) (by simp; omega) (fun j => outK_ret (ends_ret (by kernel_rfl))) fun _ => undef)
end
end Go.Proofs.YtgplabfjldndgaaGreatDoor
