/-
  Part of the proof: SeFb, SeFc, SePa, SePc, SyL, SePb, SePd, SeFi, SePe, SeEqF, SePf.
-/
import Derived.Test.YtbmcfhkedgpldaaGreatDoorSeZE
import Derived.Stop.BytesEq

/-! SeFb -/
section
open Go Go.Ev
namespace Go.Proofs.YtbmcfhkedgpldaaGreatDoor
noncomputable section
set_option maxRecDepth 100000
set_option maxHeartbeats 20000000
def s98 (C : List DT) (n : Nat) (_j : Nat → Value) : St := startK Tryz.f98 [] [(.e (.one (.dp (.s C n 1)))), .e (.one (.v (.func (.func 24) #[] #[])))]
def s102 (C : List DT) (n : Nat) (_j : Nat → Value) : St := startK Tryz.f102 [] [(.e (.one (.dp (.s C n 1)))), .e (.one (.v (.func (.func 103) #[] #[])))]
def s38 (C : List DT) (n : Nat) (_j : Nat → Value) : St := startK Tryz.f38 [] [(.e (.one (.dp (.s C n 1))))]
def q98 (C : List DT) (n i _b : Nat) (_e : Int) (j : Nat → Value) : St := ⟨[], [(.code (atC [1, 0, 1, 0, 0] (bodyOf Tryz.f98))), (.inLoop (atC [1, 0, 1, 0, 0] (bodyOf Tryz.f98))), (.inBlock 0), (.code (atC [1, 1] (bodyOf Tryz.f98)))], mkT j [(1, (.e (.one (.v (.func (.func 24) #[] #[]))))), (8, (.e (.one (.dp (.s (C) (n) 1))))), (9, (iI (Int.ofNat n))), (10, (iI (Int.ofNat i)))] 21 0⟩
def q102 (C : List DT) (n i _a _b : Nat) (_e : Int) (j : Nat → Value) : St := ⟨[], [(.code (atC [1, 0, 1, 0, 0] (bodyOf Tryz.f102))), (.inLoop (atC [1, 0, 1, 0, 0] (bodyOf Tryz.f102))), (.inBlock 0), (.code (atC [1, 1] (bodyOf Tryz.f102)))], mkT j [(1, (.e (.one (.v (.func (.func 103) #[] #[]))))), (8, (.e (.one (.dp (.s (C) (n) 1))))), (9, (iI (Int.ofNat n))), (10, (iI (Int.ofNat i)))] 21 0⟩
def q38 (C : List DT) (n i _b : Nat) (_e : Int) (j : Nat → Value) : St := ⟨[], [(.code (atC [1, 0, 1, 0, 0] (bodyOf Tryz.f38))), (.inLoop (atC [1, 0, 1, 0, 0] (bodyOf Tryz.f38))), (.inBlock 0), (.code (atC [1, 1] (bodyOf Tryz.f38)))], mkT j [(0, (.e (.one (.dp (.s (C) (n) 1))))), (3, (iI (Int.ofNat i)))] 19 0⟩
def s103 (a b : Nat) (_f _g _k _l _e : Int) (_j : Nat → Value) : St := startK Tryz.f103 [] [.e (.one (.v (.complex .f32 a b)))]
def s104 (a b c d _u _v : Int) (_j : Nat → Value) : St := startK Tryz.f104 [] [.e (.agg [.v (.int .i64 (a)), .v (.int .i64 (b))]), .e (.agg [.v (.int .i64 (c)), .v (.int .i64 (d))])]
def s105 (a b c d _ac _bd _u _ad _bc _v : Int) (_j : Nat → Value) : St := startK Tryz.f105 [] [.e (.agg [.v (.int .i64 (a)), .v (.int .i64 (b))]), .e (.agg [.v (.int .i64 (c)), .v (.int .i64 (d))])]
def s80 (n lo hi _e : Int) (_j : Nat → Value) : St := startK Tryz.f80 [] [iI n, iI lo, iI hi]
def p98a_end (C : List DT) (n : Nat) (j : Nat → Value) : St := ⟨[], [(.code (atC [1, 0, 1, 0, 0] (bodyOf Tryz.f98))), (.inLoop (atC [1, 0, 1, 0, 0] (bodyOf Tryz.f98))), (.inBlock 0), (.code (atC [1, 1] (bodyOf Tryz.f98)))], mkT j [(1, (.e (.one (.v (.func (.func 24) #[] #[]))))), (8, (.e (.one (.dp (.s (C) (n) 1))))), (9, (iI (Int.ofNat n))), (10, (iI 0))] 21 0⟩
theorem p98a (hE : EnvOk E) (C : List DT) (n : Nat)  {Φ : Res → Prop} (ho : ∀ j, OutK E 0 0 (p98a_end C n j) Φ) (j : Nat → Value) : OutK E 0 0 (s98 C n j) Φ :=
 outK_seg hE (R0_ok hE) [.run 4, (.ops [(1, (.d .len))] []), .run 2] [1, 8, 9, 10] (ps := []) (fun j => by kernel_rfl) trivial
  ho
def p102a_end (C : List DT) (n : Nat) (j : Nat → Value) : St := ⟨[], [(.code (atC [1, 0, 1, 0, 0] (bodyOf Tryz.f102))), (.inLoop (atC [1, 0, 1, 0, 0] (bodyOf Tryz.f102))), (.inBlock 0), (.code (atC [1, 1] (bodyOf Tryz.f102)))], mkT j [(1, (.e (.one (.v (.func (.func 103) #[] #[]))))), (8, (.e (.one (.dp (.s (C) (n) 1))))), (9, (iI (Int.ofNat n))), (10, (iI 0))] 21 0⟩
theorem p102a (hE : EnvOk E) (C : List DT) (n : Nat)  {Φ : Res → Prop} (ho : ∀ j, OutK E 0 0 (p102a_end C n j) Φ) (j : Nat → Value) : OutK E 0 0 (s102 C n j) Φ :=
 outK_seg hE (R0_ok hE) [.run 4, (.ops [(1, (.d .len))] []), .run 2] [1, 8, 9, 10] (ps := []) (fun j => by kernel_rfl) trivial
  ho
def p38a_end (C : List DT) (n : Nat) (j : Nat → Value) : St := ⟨[], [(.code (atC [1, 0, 1, 0, 0] (bodyOf Tryz.f38))), (.inLoop (atC [1, 0, 1, 0, 0] (bodyOf Tryz.f38))), (.inBlock 0), (.code (atC [1, 1] (bodyOf Tryz.f38)))], mkT j [(0, (.e (.one (.dp (.s (C) (n) 1))))), (3, (iI 0))] 19 0⟩
theorem p38a (hE : EnvOk E) (C : List DT) (n : Nat)  {Φ : Res → Prop} (ho : ∀ j, OutK E 0 0 (p38a_end C n j) Φ) (j : Nat → Value) : OutK E 0 0 (s38 C n j) Φ :=
 outK_seg hE (R0_ok hE) [.run 7] [0, 3] (ps := []) (fun j => by kernel_rfl) trivial
  ho
def p98s_end (C : List DT) (n i _b : Nat) (_e : Int) (j : Nat → Value) : St := ⟨[], [(.code (atC [1, 0, 1, 0, 0] (bodyOf Tryz.f98))), (.inLoop (atC [1, 0, 1, 0, 0] (bodyOf Tryz.f98))), (.inBlock 0), (.code (atC [1, 1] (bodyOf Tryz.f98)))], mkT j [(1, (.e (.one (.v (.func (.func 24) #[] #[]))))), (8, (.e (.one (.dp (.s (C) (n) 1))))), (9, (iI (Int.ofNat n))), (10, (iI (Int.ofNat (i + 1))))] 21 0⟩
theorem p98s (hE : EnvOk E) (C : List DT) (n i b : Nat) (e : Int) (h0 : (decide (Int.ofNat i < Int.ofNat n) : Bool) = true) (h1 : (0 : Int) ≤ Int.ofNat i ∧ Int.ofNat i < (↑n : Int)) (h2 : ((Int.ofNat i).toNat * nat_lit 1 : Nat) = i) (h3 : (getL C i : Option DT) = (.some (.v (.float .f32 (b))))) (h4 : COut E 0 [] 24 [(.e (.one (.v (.float .f32 (b)))))] (iI (e)) []) (h6 : (e != (0 : Int) : Bool) = false) (h7 : ((iI (wrapF IntKind.i64 (Int.ofNat i + (1 : Int)))) : AV) = (iI (Int.ofNat (i + 1)))) {Φ : Res → Prop} (ho : ∀ j, OutK E 0 0 (p98s_end C n i b e j) Φ) (j : Nat → Value) : OutK E 0 0 (q98 C n i b e j) Φ :=
 outK_seg hE (R0_ok hE) [.run 3, (.cond true), .run 4, (.ops [(1, (.d (.ld (.v (.float .f32 (b)))))), (0, (.d (.ix (i))))] []), .run 1, (.ops [(2, (.c0 (iI (e))))] []), .run 2, (.cond false), .run 2, (.ops [(0, (.rn (iI (Int.ofNat (i + 1)))))] []), .run 1] [1, 8, 9, 10] (fun j => by kernel_rfl) (aP h0 <| aP h1 <| aP h2 <| aP h3 <| aP h4 <| aN <| aP h6 <| aP h7 <| aZ)
  ho
def p98e_end (_C : List DT) (_n _i _b : Nat) (e : Int) (j : Nat → Value) : St := ⟨[], [(.code .ret), (.inBlock 1), (.code (atC [1, 0, 1, 0, 0, 1, 1, 1] (bodyOf Tryz.f98))), (.inLoop (atC [1, 0, 1, 0, 0] (bodyOf Tryz.f98))), (.inBlock 0), (.code (atC [1, 1] (bodyOf Tryz.f98)))], mkT j [(4, (iI (e)))] 21 0⟩
theorem p98e (hE : EnvOk E) (C : List DT) (n i b : Nat) (e : Int) (h0 : (decide (Int.ofNat i < Int.ofNat n) : Bool) = true) (h1 : (0 : Int) ≤ Int.ofNat i ∧ Int.ofNat i < (↑n : Int)) (h2 : ((Int.ofNat i).toNat * nat_lit 1 : Nat) = i) (h3 : (getL C i : Option DT) = (.some (.v (.float .f32 (b))))) (h4 : COut E 0 [] 24 [(.e (.one (.v (.float .f32 (b)))))] (iI (e)) []) (h6 : (e != (0 : Int) : Bool) = true) {Φ : Res → Prop} (ho : ∀ j, OutK E 0 0 (p98e_end C n i b e j) Φ) (j : Nat → Value) : OutK E 0 0 (q98 C n i b e j) Φ :=
 outK_seg hE (R0_ok hE) [.run 3, (.cond true), .run 4, (.ops [(1, (.d (.ld (.v (.float .f32 (b)))))), (0, (.d (.ix (i))))] []), .run 1, (.ops [(2, (.c0 (iI (e))))] []), .run 2, (.cond true), .run 2] [4] (fun j => by kernel_rfl) (aP h0 <| aP h1 <| aP h2 <| aP h3 <| aP h4 <| aN <| aP h6 <| aZ)
  ho
def p98x_end (_C : List DT) (_n _i _b : Nat) (_e : Int) (j : Nat → Value) : St := ⟨[], [(.code .ret)], mkT j [(4, (iI 0))] 21 0⟩
theorem p98x (hE : EnvOk E) (C : List DT) (n i b : Nat) (e : Int) (h0 : (decide (Int.ofNat i < Int.ofNat n) : Bool) = false) {Φ : Res → Prop} (ho : ∀ j, OutK E 0 0 (p98x_end C n i b e j) Φ) (j : Nat → Value) : OutK E 0 0 (q98 C n i b e j) Φ :=
 outK_seg hE (R0_ok hE) [.run 3, (.cond false), .run 3] [4] (fun j => by kernel_rfl) (aP h0 <| aZ)
  ho
def p102s_end (C : List DT) (n i _a _b : Nat) (_e : Int) (j : Nat → Value) : St := ⟨[], [(.code (atC [1, 0, 1, 0, 0] (bodyOf Tryz.f102))), (.inLoop (atC [1, 0, 1, 0, 0] (bodyOf Tryz.f102))), (.inBlock 0), (.code (atC [1, 1] (bodyOf Tryz.f102)))], mkT j [(1, (.e (.one (.v (.func (.func 103) #[] #[]))))), (8, (.e (.one (.dp (.s (C) (n) 1))))), (9, (iI (Int.ofNat n))), (10, (iI (Int.ofNat (i + 1))))] 21 0⟩
theorem p102s (hE : EnvOk E) (C : List DT) (n i a b : Nat) (e : Int) (h0 : (decide (Int.ofNat i < Int.ofNat n) : Bool) = true) (h1 : (0 : Int) ≤ Int.ofNat i ∧ Int.ofNat i < (↑n : Int)) (h2 : ((Int.ofNat i).toNat * nat_lit 1 : Nat) = i) (h3 : (getL C i : Option DT) = (.some (.v (.complex .f32 (a) (b))))) (h4 : COut E 0 [] 103 [(.e (.one (.v (.complex .f32 (a) (b)))))] (iI (e)) []) (h6 : (e != (0 : Int) : Bool) = false) (h7 : ((iI (wrapF IntKind.i64 (Int.ofNat i + (1 : Int)))) : AV) = (iI (Int.ofNat (i + 1)))) {Φ : Res → Prop} (ho : ∀ j, OutK E 0 0 (p102s_end C n i a b e j) Φ) (j : Nat → Value) : OutK E 0 0 (q102 C n i a b e j) Φ :=
 outK_seg hE (R0_ok hE) [.run 3, (.cond true), .run 4, (.ops [(1, (.d (.ld (.v (.complex .f32 (a) (b)))))), (0, (.d (.ix (i))))] []), .run 1, (.ops [(2, (.c0 (iI (e))))] []), .run 2, (.cond false), .run 2, (.ops [(0, (.rn (iI (Int.ofNat (i + 1)))))] []), .run 1] [1, 8, 9, 10] (fun j => by kernel_rfl) (aP h0 <| aP h1 <| aP h2 <| aP h3 <| aP h4 <| aN <| aP h6 <| aP h7 <| aZ)
  ho
def p102e_end (_C : List DT) (_n _i _a _b : Nat) (e : Int) (j : Nat → Value) : St := ⟨[], [(.code .ret), (.inBlock 1), (.code (atC [1, 0, 1, 0, 0, 1, 1, 1] (bodyOf Tryz.f102))), (.inLoop (atC [1, 0, 1, 0, 0] (bodyOf Tryz.f102))), (.inBlock 0), (.code (atC [1, 1] (bodyOf Tryz.f102)))], mkT j [(4, (iI (e)))] 21 0⟩
theorem p102e (hE : EnvOk E) (C : List DT) (n i a b : Nat) (e : Int) (h0 : (decide (Int.ofNat i < Int.ofNat n) : Bool) = true) (h1 : (0 : Int) ≤ Int.ofNat i ∧ Int.ofNat i < (↑n : Int)) (h2 : ((Int.ofNat i).toNat * nat_lit 1 : Nat) = i) (h3 : (getL C i : Option DT) = (.some (.v (.complex .f32 (a) (b))))) (h4 : COut E 0 [] 103 [(.e (.one (.v (.complex .f32 (a) (b)))))] (iI (e)) []) (h6 : (e != (0 : Int) : Bool) = true) {Φ : Res → Prop} (ho : ∀ j, OutK E 0 0 (p102e_end C n i a b e j) Φ) (j : Nat → Value) : OutK E 0 0 (q102 C n i a b e j) Φ :=
 outK_seg hE (R0_ok hE) [.run 3, (.cond true), .run 4, (.ops [(1, (.d (.ld (.v (.complex .f32 (a) (b)))))), (0, (.d (.ix (i))))] []), .run 1, (.ops [(2, (.c0 (iI (e))))] []), .run 2, (.cond true), .run 2] [4] (fun j => by kernel_rfl) (aP h0 <| aP h1 <| aP h2 <| aP h3 <| aP h4 <| aN <| aP h6 <| aZ)
  ho
def p102x_end (_C : List DT) (_n _i _a _b : Nat) (_e : Int) (j : Nat → Value) : St := ⟨[], [(.code .ret)], mkT j [(4, (iI 0))] 21 0⟩
theorem p102x (hE : EnvOk E) (C : List DT) (n i a b : Nat) (e : Int) (h0 : (decide (Int.ofNat i < Int.ofNat n) : Bool) = false) {Φ : Res → Prop} (ho : ∀ j, OutK E 0 0 (p102x_end C n i a b e j) Φ) (j : Nat → Value) : OutK E 0 0 (q102 C n i a b e j) Φ :=
 outK_seg hE (R0_ok hE) [.run 3, (.cond false), .run 3] [4] (fun j => by kernel_rfl) (aP h0 <| aZ)
  ho
def p38s_end (C : List DT) (n i _b : Nat) (_e : Int) (j : Nat → Value) : St := ⟨[], [(.code (atC [1, 0, 1, 0, 0] (bodyOf Tryz.f38))), (.inLoop (atC [1, 0, 1, 0, 0] (bodyOf Tryz.f38))), (.inBlock 0), (.code (atC [1, 1] (bodyOf Tryz.f38)))], mkT j [(0, (.e (.one (.dp (.s (C) (n) 1))))), (3, (iI (Int.ofNat (i + 1))))] 19 0⟩
theorem p38s (hE : EnvOk E) (C : List DT) (n i b : Nat) (e : Int) (h0 : (decide (Int.ofNat i < (↑n : Int)) : Bool) = true) (h1 : (0 : Int) ≤ Int.ofNat i ∧ Int.ofNat i < (↑n : Int)) (h2 : ((Int.ofNat i).toNat * nat_lit 1 : Nat) = i) (h3 : (getL C i : Option DT) = (.some (.v (.float .f32 (b))))) (h4 : COut E 0 [] 25 [(.e (.one (.v (.float .f32 (b)))))] (iI (e)) []) (h6 : (e != (0 : Int) : Bool) = false) (h7 : ((iI (wrapF IntKind.i64 (Int.ofNat i + (1 : Int)))) : AV) = (iI (Int.ofNat (i + 1)))) {Φ : Res → Prop} (ho : ∀ j, OutK E 0 0 (p38s_end C n i b e j) Φ) (j : Nat → Value) : OutK E 0 0 (q38 C n i b e j) Φ :=
 outK_seg hE (R0_ok hE) [.run 2, (.ops [(2, (.d .len))] []), (.cond true), .run 4, (.ops [(3, (.d (.ld (.v (.float .f32 (b)))))), (4, (.c0 (iI (e)))), (2, (.d (.ix (i))))] []), .run 2, (.cond false), .run 2, (.ops [(1, (.rn (iI (Int.ofNat (i + 1)))))] []), .run 1] [0, 3] (fun j => by kernel_rfl) (aP h0 <| aP h1 <| aP h2 <| aP h3 <| aP h4 <| aN <| aP h6 <| aP h7 <| aZ)
  ho
def p38e_end (_C : List DT) (_n _i _b : Nat) (e : Int) (j : Nat → Value) : St := ⟨[], [(.code .ret), (.inBlock 1), (.code (atC [1, 0, 1, 0, 0, 1, 1] (bodyOf Tryz.f38))), (.inLoop (atC [1, 0, 1, 0, 0] (bodyOf Tryz.f38))), (.inBlock 0), (.code (atC [1, 1] (bodyOf Tryz.f38)))], mkT j [(2, (iI (e)))] 19 0⟩
theorem p38e (hE : EnvOk E) (C : List DT) (n i b : Nat) (e : Int) (h0 : (decide (Int.ofNat i < (↑n : Int)) : Bool) = true) (h1 : (0 : Int) ≤ Int.ofNat i ∧ Int.ofNat i < (↑n : Int)) (h2 : ((Int.ofNat i).toNat * nat_lit 1 : Nat) = i) (h3 : (getL C i : Option DT) = (.some (.v (.float .f32 (b))))) (h4 : COut E 0 [] 25 [(.e (.one (.v (.float .f32 (b)))))] (iI (e)) []) (h6 : (e != (0 : Int) : Bool) = true) {Φ : Res → Prop} (ho : ∀ j, OutK E 0 0 (p38e_end C n i b e j) Φ) (j : Nat → Value) : OutK E 0 0 (q38 C n i b e j) Φ :=
 outK_seg hE (R0_ok hE) [.run 2, (.ops [(2, (.d .len))] []), (.cond true), .run 4, (.ops [(3, (.d (.ld (.v (.float .f32 (b)))))), (4, (.c0 (iI (e)))), (2, (.d (.ix (i))))] []), .run 2, (.cond true), .run 2] [2] (fun j => by kernel_rfl) (aP h0 <| aP h1 <| aP h2 <| aP h3 <| aP h4 <| aN <| aP h6 <| aZ)
  ho
def p38x_end (_C : List DT) (_n _i _b : Nat) (_e : Int) (j : Nat → Value) : St := ⟨[], [(.code .ret)], mkT j [(2, (iI 0))] 19 0⟩
theorem p38x (hE : EnvOk E) (C : List DT) (n i b : Nat) (e : Int) (h0 : (decide (Int.ofNat i < (↑n : Int)) : Bool) = false) {Φ : Res → Prop} (ho : ∀ j, OutK E 0 0 (p38x_end C n i b e j) Φ) (j : Nat → Value) : OutK E 0 0 (q38 C n i b e j) Φ :=
 outK_seg hE (R0_ok hE) [.run 2, (.ops [(2, (.d .len))] []), (.cond false), .run 3] [2] (fun j => by kernel_rfl) (aP h0 <| aZ)
  ho
def p103_end (_a _b : Nat) (_f _g _k _l e : Int) (j : Nat → Value) : St := ⟨[], [(.code .ret)], mkT j [(2, (iI (e)))] 17 0⟩
theorem p103 (hE : EnvOk E) (a b : Nat) (f g k l e : Int) (h0 : COut E 0 [] 88 [(.e (.one (.v (.float .f32 (a)))))] (iI (f)) []) (h2 : COut E 0 [] 88 [(.e (.one (.v (.float .f32 (b)))))] (iI (g)) []) (h4 : COut E 0 [] 89 [(.e (.one (.v (.float .f32 (a))))), (iI 4096)] (iI (k)) []) (h6 : COut E 0 [] 89 [(.e (.one (.v (.float .f32 (b))))), (iI 4096)] (iI (l)) []) (h8 : COut E 1 [(.some ⟨[(.v (.int .i64 (f))), (.v (.int .i64 (g))), (.v (.int .i64 (k))), (.v (.int .i64 (l)))], 4, 26, true, .cells⟩)] 79 [(.e (.one (.slc 0 0 4 1 4 true)))] (iI (e)) [(.some ⟨[(.v (.int .i64 (f))), (.v (.int .i64 (g))), (.v (.int .i64 (k))), (.v (.int .i64 (l)))], 4, 26, true, .cells⟩)]) {Φ : Res → Prop} (ho : ∀ j, OutK E 0 0 (p103_end a b f g k l e j) Φ) (j : Nat → Value) : OutK E 0 0 (s103 a b f g k l e j) Φ :=
 outK_seg hE (R0_ok hE) [.run 3, (.ops [(2, (.c0 (iI (f)))), (5, (.c0 (iI (g)))), (8, (.c0 (iI (k)))), (11, (.c0 (iI (l)))), (13, (.d (.c1 (iI (e)))))] [])] [2] (s' := fun j => ⟨[(.some ⟨[(.v (.int .i64 (f))), (.v (.int .i64 (g))), (.v (.int .i64 (k))), (.v (.int .i64 (l)))], 4, 26, true, .cells⟩)], [(.code .ret)], mkT j [(2, (iI (e)))] 17 0⟩) (fun j => by kernel_rfl) (aP h0 <| aN <| aP h2 <| aN <| aP h4 <| aN <| aP h6 <| aN <| aP h8 <| aN <| aZ)
  fun j => outK_gc [] (by decide) (by kernel_rfl) (by kernel_rfl) (by kernel_rfl) (ho j)
def p104_end (_a _b _c _d u v : Int) (j : Nat → Value) : St := ⟨[(.some ⟨[(.v (.int .i64 (u))), (.v (.int .i64 (v)))], 2, 160, true, .cells⟩)], [(.code .ret)], mkT j [(4, (.e (.one (.ptr 0 0))))] 16 0⟩
theorem p104 (hE : EnvOk E) (a b c d u v : Int) (h0 : ((iI (wrapF IntKind.i64 (a + c))) : AV) = (iI (u))) (h1 : ((iI (wrapF IntKind.i64 (b + d))) : AV) = (iI (v))) {Φ : Res → Prop} (ho : ∀ j, OutK E 0 0 (p104_end a b c d u v j) Φ) (j : Nat → Value) : OutK E 0 0 (s104 a b c d u v j) Φ :=
 outK_seg hE (R0_ok hE) [.run 3, (.ops [(4, (.rn (iI (u)))), (9, (.rn (iI (v))))] [])] [4] (s' := fun j => ⟨[(.some ⟨[(.v (.int .i64 (a))), (.v (.int .i64 (b)))], 2, 160, true, .cells⟩), (.some ⟨[(.v (.int .i64 (c))), (.v (.int .i64 (d)))], 2, 160, true, .cells⟩), (.some ⟨[(.v (.int .i64 (u))), (.v (.int .i64 (v)))], 2, 160, true, .cells⟩)], [(.code .ret)], mkT j [(4, (.e (.one (.ptr 2 0))))] 16 0⟩) (fun j => by kernel_rfl) (aP h0 <| aP h1 <| aZ)
  fun j => outK_gc [2] (by decide) (by kernel_rfl) (by kernel_rfl) (by kernel_rfl) (ho j)
def p105_end (_a _b _c _d _ac _bd u _ad _bc v : Int) (j : Nat → Value) : St := ⟨[(.some ⟨[(.v (.int .i64 (u))), (.v (.int .i64 (v)))], 2, 160, true, .cells⟩)], [(.code .ret)], mkT j [(4, (.e (.one (.ptr 0 0))))] 28 0⟩
theorem p105 (hE : EnvOk E) (a b c d ac bd u ad bc v : Int) (h0 : ((iI (wrapF IntKind.i64 (a * c))) : AV) = (iI (ac))) (h1 : ((iI (wrapF IntKind.i64 (b * d))) : AV) = (iI (bd))) (h2 : ((iI (wrapF IntKind.i64 (ac - bd))) : AV) = (iI (u))) (h3 : ((iI (wrapF IntKind.i64 (a * d))) : AV) = (iI (ad))) (h4 : ((iI (wrapF IntKind.i64 (b * c))) : AV) = (iI (bc))) (h5 : ((iI (wrapF IntKind.i64 (ad + bc))) : AV) = (iI (v))) {Φ : Res → Prop} (ho : ∀ j, OutK E 0 0 (p105_end a b c d ac bd u ad bc v j) Φ) (j : Nat → Value) : OutK E 0 0 (s105 a b c d ac bd u ad bc v j) Φ :=
 outK_seg hE (R0_ok hE) [.run 3, (.ops [(4, (.rn (iI (ac)))), (9, (.rn (iI (bd)))), (10, (.rn (iI (u)))), (15, (.rn (iI (ad)))), (20, (.rn (iI (bc)))), (21, (.rn (iI (v))))] [])] [4] (s' := fun j => ⟨[(.some ⟨[(.v (.int .i64 (a))), (.v (.int .i64 (b)))], 2, 160, true, .cells⟩), (.some ⟨[(.v (.int .i64 (c))), (.v (.int .i64 (d)))], 2, 160, true, .cells⟩), (.some ⟨[(.v (.int .i64 (u))), (.v (.int .i64 (v)))], 2, 160, true, .cells⟩)], [(.code .ret)], mkT j [(4, (.e (.one (.ptr 2 0))))] 28 0⟩) (fun j => by kernel_rfl) (aP h0 <| aP h1 <| aP h2 <| aP h3 <| aP h4 <| aP h5 <| aZ)
  fun j => outK_gc [2] (by decide) (by kernel_rfl) (by kernel_rfl) (by kernel_rfl) (ho j)
def p80a_end (_n _lo _hi e : Int) (j : Nat → Value) : St := ⟨[], [(.code .ret)], mkT j [(6, (iI (e)))] 16 0⟩
theorem p80a (hE : EnvOk E) (n lo hi e : Int) (h0 : (decide (n < lo) == false : Bool) = (nat_lit 4, false).snd) (h1 : (decide (n < lo) == false : Bool) = (nat_lit 5, false).snd) (h2 : (decide (n < lo) == false : Bool) = (nat_lit 6, false).snd) (h3 : (decide (n < lo) : Bool) = true) (h4 : COut E 0 [] 85 [(iB true), (iI 3)] (iI (e)) []) {Φ : Res → Prop} (ho : ∀ j, OutK E 0 0 (p80a_end n lo hi e j) Φ) (j : Nat → Value) : OutK E 0 0 (s80 n lo hi e j) Φ :=
 outK_seg hE (R0_ok hE) [.run 3, (.ops [(8, (.c0 (iI (e)))), (7, (.pk true))] [(4, false), (5, false), (6, false)])] [6] (fun j => by kernel_rfl) (aP h0 <| aP h1 <| aP h2 <| aP h3 <| aP h4 <| aN <| aZ)
  ho
def p80b_end (_n _lo _hi e : Int) (j : Nat → Value) : St := ⟨[], [(.code .ret)], mkT j [(6, (iI (e)))] 16 0⟩
theorem p80b (hE : EnvOk E) (n lo hi e : Int) (h0 : (decide (n < lo) == false : Bool) = (nat_lit 4, true).snd) (h1 : (decide (n < lo) == false : Bool) = (nat_lit 5, true).snd) (h2 : (decide (n < lo) == false : Bool) = (nat_lit 6, true).snd) (h3 : (decide (n < lo) : Bool) = false) (h4 : COut E 0 [] 85 [(iB (decide (n > hi))), (iI 3)] (iI (e)) []) {Φ : Res → Prop} (ho : ∀ j, OutK E 0 0 (p80b_end n lo hi e j) Φ) (j : Nat → Value) : OutK E 0 0 (s80 n lo hi e j) Φ :=
 outK_seg hE (R0_ok hE) [.run 3, (.ops [(8, (.c0 (iI (e)))), (7, (.pk false))] [(4, true), (5, true), (6, true)])] [6] (fun j => by kernel_rfl) (aP h0 <| aP h1 <| aP h2 <| aP h3 <| aP h4 <| aN <| aZ)
  ho
open Ieee
def dF (ws : List Nat) : DT := .s (ws.map fun b => .v (.float .f32 b)) ws.length 1
def dZ (zs : List (Nat × Nat)) : DT := .s (zs.map fun z => .v (.complex .f32 z.1 z.2)) zs.length 1
def chkL (ws : List Nat) : Int := firstI (ws.map (chkW 1024))
def chkZ (z : Nat × Nat) : Int := firstI [finW z.1, finW z.2, mulW 4096 z.1, mulW 4096 z.2]
def chkZL (zs : List (Nat × Nat)) : Int := firstI (zs.map chkZ)
theorem getDF {ws : List Nat} {i b : Nat} (h : ws[i]? = some b) : getL (ws.map fun b => DT.v (.float .f32 b)) i = some (.v (.float .f32 b)) := by rw [getL_eq, List.getElem?_map, h]; rfl
theorem getDZ {zs : List (Nat × Nat)} {i : Nat} {z : Nat × Nat} (h : zs[i]? = some z) : getL (zs.map fun z => DT.v (.complex .f32 z.1 z.2)) i = some (.v (.complex .f32 z.1 z.2)) := by rw [getL_eq, List.getElem?_map, h]; rfl
theorem get4 {f g k l : Int} : ∀ (i : Nat) (x : Int), [f, g, k, l][i]? = some x → getL [AC.v (.int .i64 f), AC.v (.int .i64 g), AC.v (.int .i64 k), AC.v (.int .i64 l)] (0 + i) = some (.v (.int .i64 x)) := by
 intro i x h
 match i, h with
 | 0, h => simp at h; subst h; rfl
 | 1, h => simp at h; subst h; rfl
 | 2, h => simp at h; subst h; rfl
 | 3, h => simp at h; subst h; rfl
 | i + 4, h => simp at h
theorem cOut_clear {f : FuncId} {args : List AV} {v : AV} {h : Heap} (hc : COut E 0 [] f args v h) (hv : v.refs = []) : COut E 0 [] f args v [] :=
 cOut_gc (h' := []) [] (Nat.zero_le _) hc rfl rfl (AV.ren_id hv)
theorem K103 (hE : EnvOk E) (a b : Nat) : COut E 0 [] 103 [.e (.one (.v (.complex .f32 a b)))] (iI (chkZ (a, b))) [] :=
 cOut_start Tryz.func103 rfl (p103 hE a b _ _ _ _ _ (k88 hE a) (k88 hE b) (k89 hE a (L := 4096) (by decide)) (k89 hE b (L := 4096) (by decide)) (k102 hE [finW a, finW b, mulW 4096 a, mulW 4096 b] rfl (by decide) get4) (fun j => outK_ret (ends_ret (by kernel_rfl))) fun _ => undef)
theorem l98' (hE : EnvOk E) (ws : List Nat) (hm : ws.length ≤ 4000000) :
  ∀ m i, m + i = ws.length → ∀ b e j, OutK E 0 0 (q98 (ws.map fun b => DT.v (.float .f32 b)) ws.length i b e j) (Go.Ev.Ends E Tryz.f98 (iI (firstI ((ws.drop i).map (chkW 1024)))) [])
 | 0, i, hk, b, e, j => by
  have e1 : ws.drop i = [] := List.drop_eq_nil_of_le (by omega)
  rw [e1]
  exact p98x hE _ _ i b e (decide_eq_false (by simp only [Int.ofNat_eq_natCast]; omega)) (fun j => outK_ret (ends_ret (by kernel_rfl))) j
 | m + 1, i, hk, _, _, j => by
  have hlt : i < ws.length := by omega
  have hx : ws[i]? = some ws[i] := List.getElem?_eq_getElem hlt
  have e1 : ws.drop i = ws[i] :: ws.drop (i + 1) := List.drop_eq_getElem_cons hlt
  rw [e1]
  generalize ws[i] = x at hx e1
  have hd : decide (Int.ofNat i < Int.ofNat ws.length) = true := decide_eq_true (by simp only [Int.ofNat_eq_natCast]; omega)
  have hb : (0 : Int) ≤ Int.ofNat i ∧ Int.ofNat i < (ws.length : Int) := by simp only [Int.ofNat_eq_natCast]; omega
  by_cases h0 : (chkW 1024) x = 0
  ·have e2 : firstI (List.map (chkW 1024) (x :: ws.drop (i + 1))) = firstI (List.map (chkW 1024) (ws.drop (i + 1))) := by simp [firstI, h0]
   rw [e2]
   exact p98s hE _ _ i x _ hd hb (by simp) (getDF hx) (k24 hE x) (by simp [h0]) (iIn i (by omega)) (l98' hE ws hm m (i + 1) (by omega) 0 0) j
  ·have e2 : firstI (List.map (chkW 1024) (x :: ws.drop (i + 1))) = (chkW 1024) x := by simp [firstI, h0]
   rw [e2]
   exact p98e hE _ _ i x _ hd hb (by simp) (getDF hx) (k24 hE x) (by simp [h0]) (fun j => outK_ret (ends_ret (by kernel_rfl))) j
theorem K98 (hE : EnvOk E) (ws : List Nat) (hm : ws.length ≤ 4000000) : COut E 0 [] 98 [.e (.one (dF ws).ac), .e (.one (.v (.func (.func 24) #[] #[])))] (iI (chkL ws)) [] :=
 cOut_start Tryz.func98 rfl (p98a hE _ _ (l98' hE ws hm ws.length 0 (by omega) 0 0) fun _ => undef)
theorem l38' (hE : EnvOk E) (ws : List Nat) (hm : ws.length ≤ 4000000) :
  ∀ m i, m + i = ws.length → ∀ b e j, OutK E 0 0 (q38 (ws.map fun b => DT.v (.float .f32 b)) ws.length i b e j) (Go.Ev.Ends E Tryz.f38 (iI (firstI ((ws.drop i).map (chkW 1024)))) [])
 | 0, i, hk, b, e, j => by
  have e1 : ws.drop i = [] := List.drop_eq_nil_of_le (by omega)
  rw [e1]
  exact p38x hE _ _ i b e (decide_eq_false (by simp only [Int.ofNat_eq_natCast]; omega)) (fun j => outK_ret (ends_ret (by kernel_rfl))) j
 | m + 1, i, hk, _, _, j => by
  have hlt : i < ws.length := by omega
  have hx : ws[i]? = some ws[i] := List.getElem?_eq_getElem hlt
  have e1 : ws.drop i = ws[i] :: ws.drop (i + 1) := List.drop_eq_getElem_cons hlt
  rw [e1]
  generalize ws[i] = x at hx e1
  have hd : decide (Int.ofNat i < (ws.length : Int)) = true := decide_eq_true (by simp only [Int.ofNat_eq_natCast]; omega)
  have hb : (0 : Int) ≤ Int.ofNat i ∧ Int.ofNat i < (ws.length : Int) := by simp only [Int.ofNat_eq_natCast]; omega
  by_cases h0 : (chkW 1024) x = 0
  ·have e2 : firstI (List.map (chkW 1024) (x :: ws.drop (i + 1))) = firstI (List.map (chkW 1024) (ws.drop (i + 1))) := by simp [firstI, h0]
   rw [e2]
   exact p38s hE _ _ i x _ hd hb (by simp) (getDF hx) (k25 hE x) (by simp [h0]) (iIn i (by omega)) (l38' hE ws hm m (i + 1) (by omega) 0 0) j
  ·have e2 : firstI (List.map (chkW 1024) (x :: ws.drop (i + 1))) = (chkW 1024) x := by simp [firstI, h0]
   rw [e2]
   exact p38e hE _ _ i x _ hd hb (by simp) (getDF hx) (k25 hE x) (by simp [h0]) (fun j => outK_ret (ends_ret (by kernel_rfl))) j
theorem K38 (hE : EnvOk E) (ws : List Nat) (hm : ws.length ≤ 4000000) : COut E 0 [] 38 [.e (.one (dF ws).ac)] (iI (chkL ws)) [] :=
 cOut_start Tryz.func38 rfl (p38a hE _ _ (l38' hE ws hm ws.length 0 (by omega) 0 0) fun _ => undef)
theorem l102' (hE : EnvOk E) (ws : List (Nat × Nat)) (hm : ws.length ≤ 4000000) :
  ∀ m i, m + i = ws.length → ∀ a b e j, OutK E 0 0 (q102 (ws.map fun z => DT.v (.complex .f32 z.1 z.2)) ws.length i a b e j) (Go.Ev.Ends E Tryz.f102 (iI (firstI ((ws.drop i).map chkZ))) [])
 | 0, i, hk, a, b, e, j => by
  have e1 : ws.drop i = [] := List.drop_eq_nil_of_le (by omega)
  rw [e1]
  exact p102x hE _ _ i a b e (decide_eq_false (by simp only [Int.ofNat_eq_natCast]; omega)) (fun j => outK_ret (ends_ret (by kernel_rfl))) j
 | m + 1, i, hk, _, _, _, j => by
  have hlt : i < ws.length := by omega
  have hx : ws[i]? = some ws[i] := List.getElem?_eq_getElem hlt
  have e1 : ws.drop i = ws[i] :: ws.drop (i + 1) := List.drop_eq_getElem_cons hlt
  rw [e1]
  generalize ws[i] = x at hx e1
  have hd : decide (Int.ofNat i < Int.ofNat ws.length) = true := decide_eq_true (by simp only [Int.ofNat_eq_natCast]; omega)
  have hb : (0 : Int) ≤ Int.ofNat i ∧ Int.ofNat i < (ws.length : Int) := by simp only [Int.ofNat_eq_natCast]; omega
  by_cases h0 : chkZ x = 0
  ·have e2 : firstI (List.map chkZ (x :: ws.drop (i + 1))) = firstI (List.map chkZ (ws.drop (i + 1))) := by simp [firstI, h0]
   rw [e2]
   exact p102s hE _ _ i x.1 x.2 _ hd hb (by simp) (getDZ hx) (K103 hE x.1 x.2) (by simp [h0]) (iIn i (by omega)) (l102' hE ws hm m (i + 1) (by omega) 0 0 0) j
  ·have e2 : firstI (List.map chkZ (x :: ws.drop (i + 1))) = chkZ x := by simp [firstI, h0]
   rw [e2]
   exact p102e hE _ _ i x.1 x.2 _ hd hb (by simp) (getDZ hx) (K103 hE x.1 x.2) (by simp [h0]) (fun j => outK_ret (ends_ret (by kernel_rfl))) j
theorem K102 (hE : EnvOk E) (ws : List (Nat × Nat)) (hm : ws.length ≤ 4000000) : COut E 0 [] 102 [.e (.one (dZ ws).ac), .e (.one (.v (.func (.func 103) #[] #[])))] (iI (chkZL ws)) [] :=
 cOut_start Tryz.func102 rfl (p102a hE _ _ (l102' hE ws hm ws.length 0 (by omega) 0 0 0) fun _ => undef)
abbrev gA (a b : Int) : AV := .e (.agg [.v (.int .i64 a), .v (.int .i64 b)])
def Sm (z : Int) : Prop := z.natAbs ≤ 2 ^ 30
theorem Sm.mul {a b : Int} (h : Sm a) (g : Sm b) : (a * b).natAbs ≤ 2 ^ 60 := by
 unfold Sm at h g
 rw [Int.natAbs_mul]
 exact Nat.le_trans (Nat.mul_le_mul h g) (by decide)
theorem wr {z : Int} (h : z.natAbs ≤ 2 ^ 62) : wrapF .i64 z = z := wrap_id (by omega) (by omega)
theorem K104 (hE : EnvOk E) {a b c d u v : Int} (ha : a.natAbs ≤ 2 ^ 60) (hb : b.natAbs ≤ 2 ^ 60) (hc : c.natAbs ≤ 2 ^ 60) (hd : d.natAbs ≤ 2 ^ 60) (hu : a + c = u) (hv : b + d = v) : COut E 0 [] 104 [gA a b, gA c d] (gA u v) [] := by
 subst hu hv
 exact cOut_clear (cOut_start Tryz.func104 rfl (p104 hE a b c d _ _ (iIe (wr (by omega))) (iIe (wr (by omega))) (fun j => outK_ret (ends_ret (by kernel_rfl))) fun _ => undef)) rfl
theorem K105 (hE : EnvOk E) {a b c d u v : Int} (ha : Sm a) (hb : Sm b) (hc : Sm c) (hd : Sm d) (hu : a * c - b * d = u) (hv : a * d + b * c = v) : COut E 0 [] 105 [gA a b, gA c d] (gA u v) [] := by
 subst hu hv
 have h1 := ha.mul hc
 have h2 := hb.mul hd
 have h3 := ha.mul hd
 have h4 := hb.mul hc
 exact cOut_clear (cOut_start Tryz.func105 rfl (p105 hE a b c d _ _ _ _ _ _ (iIe (wr (by omega))) (iIe (wr (by omega))) (iIe (wr (by omega))) (iIe (wr (by omega))) (iIe (wr (by omega))) (iIe (wr (by omega))) (fun j => outK_ret (ends_ret (by kernel_rfl))) fun _ => undef)) rfl
def rngI (a b z : Int) : Int := if z < a ∨ b < z then 3 else 0
theorem K80 (hE : EnvOk E) (z a b : Int) : COut E 0 [] 80 [iI z, iI a, iI b] (iI (rngI a b z)) [] := by
 by_cases h : z < a
 ·have e : rngI a b z = 3 := by simp [rngI, h]
  rw [e]
  exact cOut_start Tryz.func80 rfl (p80a hE z a b 3 (by simp [h]) (by simp [h]) (by simp [h]) (by simp [h]) (k107 hE true 3) (fun j => outK_ret (ends_ret (by kernel_rfl))) fun _ => undef)
 ·have e : rngI a b z = (if decide (z > b) = true then 3 else 0) := by simp [rngI, h]
  rw [e]
  exact cOut_start Tryz.func80 rfl (p80b hE z a b _ (by simp; omega) (by simp; omega) (by simp; omega) (by simp; omega) (k107 hE _ 3) (fun j => outK_ret (ends_ret (by kernel_rfl))) fun _ => undef)
end
end Go.Proofs.YtbmcfhkedgpldaaGreatDoor
end

/-! SeFc -/
section
open Go Go.Ev
namespace Go.Proofs.YtbmcfhkedgpldaaGreatDoor
noncomputable section
set_option maxRecDepth 100000
set_option maxHeartbeats 20000000
def s100 (b0 b1 b2 b3 : Nat) (_w0 _w1 _w2 _w3 : Int) (_j : Nat → Value) : St := startK Tryz.f100 [] [.e (.agg [fC b0, fC b1, fC b2, fC b3])]
def s99 (w0 w1 w2 w3 : Int) (_j : Nat → Value) : St := startK Tryz.f99 [] [.e (.agg [.v (.int .i64 w0), .v (.int .i64 w1), .v (.int .i64 w2), .v (.int .i64 w3)])]
def s36 (b0 b1 b2 b3 : Nat) (_e _w0 _w1 _w2 _w3 _r0 _i0 _r1 _i1 _r2 _i2 _r3 _i3 : Int) (_s0 _s1 _s2 _s3 _s4 _s5 _s6 _s7 : Nat) (_j : Nat → Value) : St := startK Tryz.f36 [] [.e (.agg [fC b0, fC b1, fC b2, fC b3])]
def p100_end (_b0 _b1 _b2 _b3 : Nat) (w0 w1 w2 w3 : Int) (j : Nat → Value) : St := ⟨[(.some ⟨[(.v (.int .i64 (w0))), (.v (.int .i64 (w1))), (.v (.int .i64 (w2))), (.v (.int .i64 (w3)))], 4, 22, true, .cells⟩)], [(.code .ret)], mkT j [(2, (.e (.one (.ptr 0 0))))] 17 0⟩
theorem p100 (hE : EnvOk E) (b0 b1 b2 b3 : Nat) (w0 w1 w2 w3 : Int) (h0 : COut E 0 [] 106 [(.e (.one (.v (.float .f32 (b0)))))] (iI (w0)) []) (h2 : COut E 0 [] 106 [(.e (.one (.v (.float .f32 (b1)))))] (iI (w1)) []) (h4 : COut E 0 [] 106 [(.e (.one (.v (.float .f32 (b2)))))] (iI (w2)) []) (h6 : COut E 0 [] 106 [(.e (.one (.v (.float .f32 (b3)))))] (iI (w3)) []) {Φ : Res → Prop} (ho : ∀ j, OutK E 0 0 (p100_end b0 b1 b2 b3 w0 w1 w2 w3 j) Φ) (j : Nat → Value) : OutK E 0 0 (s100 b0 b1 b2 b3 w0 w1 w2 w3 j) Φ :=
 outK_seg hE (R0_ok hE) [.run 18, (.ops [(2, (.c0 (iI (w0))))] []), .run 12, (.ops [(2, (.c0 (iI (w1))))] []), .run 12, (.ops [(2, (.c0 (iI (w2))))] []), .run 12, (.ops [(2, (.c0 (iI (w3))))] []), .run 10] [2] (s' := fun j => ⟨[(.some ⟨[(.v (.float .f32 (b0))), (.v (.float .f32 (b1))), (.v (.float .f32 (b2))), (.v (.float .f32 (b3)))], 4, 56, true, .cells⟩), (.some ⟨[(.v (.int .i64 (w0))), (.v (.int .i64 (w1))), (.v (.int .i64 (w2))), (.v (.int .i64 (w3)))], 4, 22, true, .cells⟩), (.some ⟨[(.v (.int .i64 (w0))), (.v (.int .i64 (w1))), (.v (.int .i64 (w2))), (.v (.int .i64 (w3)))], 4, 22, true, .cells⟩)], [(.code .ret)], mkT j [(2, (.e (.one (.ptr 1 0))))] 17 0⟩) (fun j => by kernel_rfl) (aP h0 <| aN <| aP h2 <| aN <| aP h4 <| aN <| aP h6 <| aN <| aZ)
  fun j => outK_gc [1] (by decide) (by kernel_rfl) (by kernel_rfl) (by kernel_rfl) (ho j)
def p99_end (w0 w1 w2 w3 : Int) (j : Nat → Value) : St := ⟨[(.some ⟨[(.v (.int .i64 (w0 + w1 + w2 + w3))), (.v (.int .i64 0)), (.v (.int .i64 (w0 + -w2))), (.v (.int .i64 (-w1 + w3))), (.v (.int .i64 (w0 + -w1 + w2 + -w3))), (.v (.int .i64 0)), (.v (.int .i64 (w0 + -w2))), (.v (.int .i64 (w1 + -w3)))], 8, 164, true, .cells⟩)], [(.code .ret)], mkT j [(2, (.e (.one (.ptr 0 0))))] 34 0⟩
theorem p99 (hE : EnvOk E) (w0 w1 w2 w3 : Int) (h0 : COut E 0 [] 105 [(.e (.agg [(.v (.int .i64 (w0))), (.v (.int .i64 0))])), (.e (.agg [(.v (.int .i64 1)), (.v (.int .i64 0))]))] (.e (.agg [(.v (.int .i64 (w0))), (.v (.int .i64 0))])) []) (h3 : COut E 0 [] 104 [(.e (.agg [(.v (.int .i64 0)), (.v (.int .i64 0))])), (.e (.agg [(.v (.int .i64 (w0))), (.v (.int .i64 0))]))] (.e (.agg [(.v (.int .i64 (w0))), (.v (.int .i64 0))])) []) (h5 : COut E 0 [] 105 [(.e (.agg [(.v (.int .i64 (w1))), (.v (.int .i64 0))])), (.e (.agg [(.v (.int .i64 1)), (.v (.int .i64 0))]))] (.e (.agg [(.v (.int .i64 (w1))), (.v (.int .i64 0))])) []) (h8 : COut E 0 [] 104 [(.e (.agg [(.v (.int .i64 (w0))), (.v (.int .i64 0))])), (.e (.agg [(.v (.int .i64 (w1))), (.v (.int .i64 0))]))] (.e (.agg [(.v (.int .i64 (w0 + w1))), (.v (.int .i64 0))])) []) (h10 : COut E 0 [] 105 [(.e (.agg [(.v (.int .i64 (w2))), (.v (.int .i64 0))])), (.e (.agg [(.v (.int .i64 1)), (.v (.int .i64 0))]))] (.e (.agg [(.v (.int .i64 (w2))), (.v (.int .i64 0))])) []) (h13 : COut E 0 [] 104 [(.e (.agg [(.v (.int .i64 (w0 + w1))), (.v (.int .i64 0))])), (.e (.agg [(.v (.int .i64 (w2))), (.v (.int .i64 0))]))] (.e (.agg [(.v (.int .i64 (w0 + w1 + w2))), (.v (.int .i64 0))])) []) (h15 : COut E 0 [] 105 [(.e (.agg [(.v (.int .i64 (w3))), (.v (.int .i64 0))])), (.e (.agg [(.v (.int .i64 1)), (.v (.int .i64 0))]))] (.e (.agg [(.v (.int .i64 (w3))), (.v (.int .i64 0))])) []) (h18 : COut E 0 [] 104 [(.e (.agg [(.v (.int .i64 (w0 + w1 + w2))), (.v (.int .i64 0))])), (.e (.agg [(.v (.int .i64 (w3))), (.v (.int .i64 0))]))] (.e (.agg [(.v (.int .i64 (w0 + w1 + w2 + w3))), (.v (.int .i64 0))])) []) (h20 : COut E 0 [] 105 [(.e (.agg [(.v (.int .i64 (w0))), (.v (.int .i64 0))])), (.e (.agg [(.v (.int .i64 1)), (.v (.int .i64 0))]))] (.e (.agg [(.v (.int .i64 (w0))), (.v (.int .i64 0))])) []) (h23 : COut E 0 [] 104 [(.e (.agg [(.v (.int .i64 0)), (.v (.int .i64 0))])), (.e (.agg [(.v (.int .i64 (w0))), (.v (.int .i64 0))]))] (.e (.agg [(.v (.int .i64 (w0))), (.v (.int .i64 0))])) []) (h25 : COut E 0 [] 105 [(.e (.agg [(.v (.int .i64 (w1))), (.v (.int .i64 0))])), (.e (.agg [(.v (.int .i64 0)), (.v (.int .i64 (-1)))]))] (.e (.agg [(.v (.int .i64 0)), (.v (.int .i64 (-w1)))])) []) (h28 : COut E 0 [] 104 [(.e (.agg [(.v (.int .i64 (w0))), (.v (.int .i64 0))])), (.e (.agg [(.v (.int .i64 0)), (.v (.int .i64 (-w1)))]))] (.e (.agg [(.v (.int .i64 (w0))), (.v (.int .i64 (-w1)))])) []) (h30 : COut E 0 [] 105 [(.e (.agg [(.v (.int .i64 (w2))), (.v (.int .i64 0))])), (.e (.agg [(.v (.int .i64 (-1))), (.v (.int .i64 0))]))] (.e (.agg [(.v (.int .i64 (-w2))), (.v (.int .i64 0))])) []) (h33 : COut E 0 [] 104 [(.e (.agg [(.v (.int .i64 (w0))), (.v (.int .i64 (-w1)))])), (.e (.agg [(.v (.int .i64 (-w2))), (.v (.int .i64 0))]))] (.e (.agg [(.v (.int .i64 (w0 + -w2))), (.v (.int .i64 (-w1)))])) []) (h35 : COut E 0 [] 105 [(.e (.agg [(.v (.int .i64 (w3))), (.v (.int .i64 0))])), (.e (.agg [(.v (.int .i64 0)), (.v (.int .i64 1))]))] (.e (.agg [(.v (.int .i64 0)), (.v (.int .i64 (w3)))])) []) (h38 : COut E 0 [] 104 [(.e (.agg [(.v (.int .i64 (w0 + -w2))), (.v (.int .i64 (-w1)))])), (.e (.agg [(.v (.int .i64 0)), (.v (.int .i64 (w3)))]))] (.e (.agg [(.v (.int .i64 (w0 + -w2))), (.v (.int .i64 (-w1 + w3)))])) []) (h40 : COut E 0 [] 105 [(.e (.agg [(.v (.int .i64 (w0))), (.v (.int .i64 0))])), (.e (.agg [(.v (.int .i64 1)), (.v (.int .i64 0))]))] (.e (.agg [(.v (.int .i64 (w0))), (.v (.int .i64 0))])) []) (h43 : COut E 0 [] 104 [(.e (.agg [(.v (.int .i64 0)), (.v (.int .i64 0))])), (.e (.agg [(.v (.int .i64 (w0))), (.v (.int .i64 0))]))] (.e (.agg [(.v (.int .i64 (w0))), (.v (.int .i64 0))])) []) (h45 : COut E 0 [] 105 [(.e (.agg [(.v (.int .i64 (w1))), (.v (.int .i64 0))])), (.e (.agg [(.v (.int .i64 (-1))), (.v (.int .i64 0))]))] (.e (.agg [(.v (.int .i64 (-w1))), (.v (.int .i64 0))])) []) (h48 : COut E 0 [] 104 [(.e (.agg [(.v (.int .i64 (w0))), (.v (.int .i64 0))])), (.e (.agg [(.v (.int .i64 (-w1))), (.v (.int .i64 0))]))] (.e (.agg [(.v (.int .i64 (w0 + -w1))), (.v (.int .i64 0))])) []) (h50 : COut E 0 [] 105 [(.e (.agg [(.v (.int .i64 (w2))), (.v (.int .i64 0))])), (.e (.agg [(.v (.int .i64 1)), (.v (.int .i64 0))]))] (.e (.agg [(.v (.int .i64 (w2))), (.v (.int .i64 0))])) []) (h53 : COut E 0 [] 104 [(.e (.agg [(.v (.int .i64 (w0 + -w1))), (.v (.int .i64 0))])), (.e (.agg [(.v (.int .i64 (w2))), (.v (.int .i64 0))]))] (.e (.agg [(.v (.int .i64 (w0 + -w1 + w2))), (.v (.int .i64 0))])) []) (h55 : COut E 0 [] 105 [(.e (.agg [(.v (.int .i64 (w3))), (.v (.int .i64 0))])), (.e (.agg [(.v (.int .i64 (-1))), (.v (.int .i64 0))]))] (.e (.agg [(.v (.int .i64 (-w3))), (.v (.int .i64 0))])) []) (h58 : COut E 0 [] 104 [(.e (.agg [(.v (.int .i64 (w0 + -w1 + w2))), (.v (.int .i64 0))])), (.e (.agg [(.v (.int .i64 (-w3))), (.v (.int .i64 0))]))] (.e (.agg [(.v (.int .i64 (w0 + -w1 + w2 + -w3))), (.v (.int .i64 0))])) []) (h60 : COut E 0 [] 105 [(.e (.agg [(.v (.int .i64 (w0))), (.v (.int .i64 0))])), (.e (.agg [(.v (.int .i64 1)), (.v (.int .i64 0))]))] (.e (.agg [(.v (.int .i64 (w0))), (.v (.int .i64 0))])) []) (h63 : COut E 0 [] 104 [(.e (.agg [(.v (.int .i64 0)), (.v (.int .i64 0))])), (.e (.agg [(.v (.int .i64 (w0))), (.v (.int .i64 0))]))] (.e (.agg [(.v (.int .i64 (w0))), (.v (.int .i64 0))])) []) (h65 : COut E 0 [] 105 [(.e (.agg [(.v (.int .i64 (w1))), (.v (.int .i64 0))])), (.e (.agg [(.v (.int .i64 0)), (.v (.int .i64 1))]))] (.e (.agg [(.v (.int .i64 0)), (.v (.int .i64 (w1)))])) []) (h68 : COut E 0 [] 104 [(.e (.agg [(.v (.int .i64 (w0))), (.v (.int .i64 0))])), (.e (.agg [(.v (.int .i64 0)), (.v (.int .i64 (w1)))]))] (.e (.agg [(.v (.int .i64 (w0))), (.v (.int .i64 (w1)))])) []) (h70 : COut E 0 [] 105 [(.e (.agg [(.v (.int .i64 (w2))), (.v (.int .i64 0))])), (.e (.agg [(.v (.int .i64 (-1))), (.v (.int .i64 0))]))] (.e (.agg [(.v (.int .i64 (-w2))), (.v (.int .i64 0))])) []) (h73 : COut E 0 [] 104 [(.e (.agg [(.v (.int .i64 (w0))), (.v (.int .i64 (w1)))])), (.e (.agg [(.v (.int .i64 (-w2))), (.v (.int .i64 0))]))] (.e (.agg [(.v (.int .i64 (w0 + -w2))), (.v (.int .i64 (w1)))])) []) (h75 : COut E 0 [] 105 [(.e (.agg [(.v (.int .i64 (w3))), (.v (.int .i64 0))])), (.e (.agg [(.v (.int .i64 0)), (.v (.int .i64 (-1)))]))] (.e (.agg [(.v (.int .i64 0)), (.v (.int .i64 (-w3)))])) []) (h78 : COut E 0 [] 104 [(.e (.agg [(.v (.int .i64 (w0 + -w2))), (.v (.int .i64 (w1)))])), (.e (.agg [(.v (.int .i64 0)), (.v (.int .i64 (-w3)))]))] (.e (.agg [(.v (.int .i64 (w0 + -w2))), (.v (.int .i64 (w1 + -w3)))])) []) {Φ : Res → Prop} (ho : ∀ j, OutK E 0 0 (p99_end w0 w1 w2 w3 j) Φ) (j : Nat → Value) : OutK E 0 0 (s99 w0 w1 w2 w3 j) Φ :=
 outK_seg hE (R0_ok hE) [.run 31, (.ops [(13, (.c0 (.e (.agg [(.v (.int .i64 (w0))), (.v (.int .i64 0))])))), (14, (.c0 (.e (.agg [(.v (.int .i64 (w0))), (.v (.int .i64 0))]))))] []), .run 12, (.ops [(13, (.c0 (.e (.agg [(.v (.int .i64 (w1))), (.v (.int .i64 0))])))), (14, (.c0 (.e (.agg [(.v (.int .i64 (w0 + w1))), (.v (.int .i64 0))]))))] []), .run 12, (.ops [(13, (.c0 (.e (.agg [(.v (.int .i64 (w2))), (.v (.int .i64 0))])))), (14, (.c0 (.e (.agg [(.v (.int .i64 (w0 + w1 + w2))), (.v (.int .i64 0))]))))] []), .run 12, (.ops [(13, (.c0 (.e (.agg [(.v (.int .i64 (w3))), (.v (.int .i64 0))])))), (14, (.c0 (.e (.agg [(.v (.int .i64 (w0 + w1 + w2 + w3))), (.v (.int .i64 0))]))))] []), .run 33, (.ops [(13, (.c0 (.e (.agg [(.v (.int .i64 (w0))), (.v (.int .i64 0))])))), (14, (.c0 (.e (.agg [(.v (.int .i64 (w0))), (.v (.int .i64 0))]))))] []), .run 12, (.ops [(13, (.c0 (.e (.agg [(.v (.int .i64 0)), (.v (.int .i64 (-w1)))])))), (14, (.c0 (.e (.agg [(.v (.int .i64 (w0))), (.v (.int .i64 (-w1)))]))))] []), .run 12, (.ops [(13, (.c0 (.e (.agg [(.v (.int .i64 (-w2))), (.v (.int .i64 0))])))), (14, (.c0 (.e (.agg [(.v (.int .i64 (w0 + -w2))), (.v (.int .i64 (-w1)))]))))] []), .run 12, (.ops [(13, (.c0 (.e (.agg [(.v (.int .i64 0)), (.v (.int .i64 (w3)))])))), (14, (.c0 (.e (.agg [(.v (.int .i64 (w0 + -w2))), (.v (.int .i64 (-w1 + w3)))]))))] []), .run 33, (.ops [(13, (.c0 (.e (.agg [(.v (.int .i64 (w0))), (.v (.int .i64 0))])))), (14, (.c0 (.e (.agg [(.v (.int .i64 (w0))), (.v (.int .i64 0))]))))] []), .run 12, (.ops [(13, (.c0 (.e (.agg [(.v (.int .i64 (-w1))), (.v (.int .i64 0))])))), (14, (.c0 (.e (.agg [(.v (.int .i64 (w0 + -w1))), (.v (.int .i64 0))]))))] []), .run 12, (.ops [(13, (.c0 (.e (.agg [(.v (.int .i64 (w2))), (.v (.int .i64 0))])))), (14, (.c0 (.e (.agg [(.v (.int .i64 (w0 + -w1 + w2))), (.v (.int .i64 0))]))))] []), .run 12, (.ops [(13, (.c0 (.e (.agg [(.v (.int .i64 (-w3))), (.v (.int .i64 0))])))), (14, (.c0 (.e (.agg [(.v (.int .i64 (w0 + -w1 + w2 + -w3))), (.v (.int .i64 0))]))))] []), .run 33, (.ops [(13, (.c0 (.e (.agg [(.v (.int .i64 (w0))), (.v (.int .i64 0))])))), (14, (.c0 (.e (.agg [(.v (.int .i64 (w0))), (.v (.int .i64 0))]))))] []), .run 12, (.ops [(13, (.c0 (.e (.agg [(.v (.int .i64 0)), (.v (.int .i64 (w1)))])))), (14, (.c0 (.e (.agg [(.v (.int .i64 (w0))), (.v (.int .i64 (w1)))]))))] []), .run 12, (.ops [(13, (.c0 (.e (.agg [(.v (.int .i64 (-w2))), (.v (.int .i64 0))])))), (14, (.c0 (.e (.agg [(.v (.int .i64 (w0 + -w2))), (.v (.int .i64 (w1)))]))))] []), .run 12, (.ops [(13, (.c0 (.e (.agg [(.v (.int .i64 0)), (.v (.int .i64 (-w3)))])))), (14, (.c0 (.e (.agg [(.v (.int .i64 (w0 + -w2))), (.v (.int .i64 (w1 + -w3)))]))))] []), .run 18] [2] (s' := fun j => ⟨[(.some ⟨[(.v (.int .i64 (w0))), (.v (.int .i64 (w1))), (.v (.int .i64 (w2))), (.v (.int .i64 (w3)))], 4, 22, true, .cells⟩), (.some ⟨[(.v (.int .i64 (w0 + w1 + w2 + w3))), (.v (.int .i64 0)), (.v (.int .i64 (w0 + -w2))), (.v (.int .i64 (-w1 + w3))), (.v (.int .i64 (w0 + -w1 + w2 + -w3))), (.v (.int .i64 0)), (.v (.int .i64 (w0 + -w2))), (.v (.int .i64 (w1 + -w3)))], 8, 164, true, .cells⟩), (.some ⟨[(.v (.int .i64 (w0 + w1 + w2 + w3))), (.v (.int .i64 0)), (.v (.int .i64 (w0 + -w2))), (.v (.int .i64 (-w1 + w3))), (.v (.int .i64 (w0 + -w1 + w2 + -w3))), (.v (.int .i64 0)), (.v (.int .i64 (w0 + -w2))), (.v (.int .i64 (w1 + -w3)))], 8, 164, true, .cells⟩)], [(.code .ret)], mkT j [(2, (.e (.one (.ptr 1 0))))] 34 0⟩) (fun j => by kernel_rfl) (aP h0 <| aN <| aP (rfl : (true : Bool) = true) <| aP h3 <| aN <| aP h5 <| aN <| aP (rfl : (true : Bool) = true) <| aP h8 <| aN <| aP h10 <| aN <| aP (rfl : (true : Bool) = true) <| aP h13 <| aN <| aP h15 <| aN <| aP (rfl : (true : Bool) = true) <| aP h18 <| aN <| aP h20 <| aN <| aP (rfl : (true : Bool) = true) <| aP h23 <| aN <| aP h25 <| aN <| aP (rfl : (true : Bool) = true) <| aP h28 <| aN <| aP h30 <| aN <| aP (rfl : (true : Bool) = true) <| aP h33 <| aN <| aP h35 <| aN <| aP (rfl : (true : Bool) = true) <| aP h38 <| aN <| aP h40 <| aN <| aP (rfl : (true : Bool) = true) <| aP h43 <| aN <| aP h45 <| aN <| aP (rfl : (true : Bool) = true) <| aP h48 <| aN <| aP h50 <| aN <| aP (rfl : (true : Bool) = true) <| aP h53 <| aN <| aP h55 <| aN <| aP (rfl : (true : Bool) = true) <| aP h58 <| aN <| aP h60 <| aN <| aP (rfl : (true : Bool) = true) <| aP h63 <| aN <| aP h65 <| aN <| aP (rfl : (true : Bool) = true) <| aP h68 <| aN <| aP h70 <| aN <| aP (rfl : (true : Bool) = true) <| aP h73 <| aN <| aP h75 <| aN <| aP (rfl : (true : Bool) = true) <| aP h78 <| aN <| aZ)
  fun j => outK_gc [1] (by decide) (by kernel_rfl) (by kernel_rfl) (by kernel_rfl) (ho j)
def p36e_end (_b0 _b1 _b2 _b3 : Nat) (e _w0 _w1 _w2 _w3 _r0 _i0 _r1 _i1 _r2 _i2 _r3 _i3 : Int) (_s0 _s1 _s2 _s3 _s4 _s5 _s6 _s7 : Nat) (j : Nat → Value) : St := ⟨[(.some ⟨[(.v (.complex .f32 0 0)), (.v (.complex .f32 0 0)), (.v (.complex .f32 0 0)), (.v (.complex .f32 0 0))], 4, 59, true, .cells⟩)], [(.code .ret), (.code (atC [1, 1, 1] (bodyOf Tryz.f36)))], mkT j [(2, (.e (.one (.ptr 0 0)))), (3, (iI (e)))] 32 0⟩
theorem p36e (hE : EnvOk E) (b0 b1 b2 b3 : Nat) (e w0 w1 w2 w3 r0 i0 r1 i1 r2 i2 r3 i3 : Int) (s0 s1 s2 s3 s4 s5 s6 s7 : Nat) (h0 : COut E 3 [(.some ⟨[(.v (.float .f32 (b0))), (.v (.float .f32 (b1))), (.v (.float .f32 (b2))), (.v (.float .f32 (b3)))], 4, 56, true, .cells⟩), (.some ⟨[(.v (.complex .f32 0 0)), (.v (.complex .f32 0 0)), (.v (.complex .f32 0 0)), (.v (.complex .f32 0 0))], 4, 59, true, .cells⟩), (.some ⟨[(.v (.complex .f32 0 0)), (.v (.complex .f32 0 0)), (.v (.complex .f32 0 0)), (.v (.complex .f32 0 0))], 4, 59, true, .cells⟩)] 98 [(.e (.one (.slc 0 0 4 1 4 true))), (.e (.one (.v (.func (.func 24) #[] #[]))))] (iI (e)) [(.some ⟨[(.v (.float .f32 (b0))), (.v (.float .f32 (b1))), (.v (.float .f32 (b2))), (.v (.float .f32 (b3)))], 4, 56, true, .cells⟩), (.some ⟨[(.v (.complex .f32 0 0)), (.v (.complex .f32 0 0)), (.v (.complex .f32 0 0)), (.v (.complex .f32 0 0))], 4, 59, true, .cells⟩), (.some ⟨[(.v (.complex .f32 0 0)), (.v (.complex .f32 0 0)), (.v (.complex .f32 0 0)), (.v (.complex .f32 0 0))], 4, 59, true, .cells⟩)]) (h2 : (e != (0 : Int) : Bool) = true) {Φ : Res → Prop} (ho : ∀ j, OutK E 0 0 (p36e_end b0 b1 b2 b3 e w0 w1 w2 w3 r0 i0 r1 i1 r2 i2 r3 i3 s0 s1 s2 s3 s4 s5 s6 s7 j) Φ) (j : Nat → Value) : OutK E 0 0 (s36 b0 b1 b2 b3 e w0 w1 w2 w3 r0 i0 r1 i1 r2 i2 r3 i3 s0 s1 s2 s3 s4 s5 s6 s7 j) Φ :=
 outK_seg hE (R0_ok hE) [.run 6, (.ops [(1, (.d (.c1 (iI (e)))))] []), .run 2, (.cond true), .run 2] [2, 3] (s' := fun j => ⟨[(.some ⟨[(.v (.float .f32 (b0))), (.v (.float .f32 (b1))), (.v (.float .f32 (b2))), (.v (.float .f32 (b3)))], 4, 56, true, .cells⟩), (.some ⟨[(.v (.complex .f32 0 0)), (.v (.complex .f32 0 0)), (.v (.complex .f32 0 0)), (.v (.complex .f32 0 0))], 4, 59, true, .cells⟩), (.some ⟨[(.v (.complex .f32 0 0)), (.v (.complex .f32 0 0)), (.v (.complex .f32 0 0)), (.v (.complex .f32 0 0))], 4, 59, true, .cells⟩)], [(.code .ret), (.code (atC [1, 1, 1] (bodyOf Tryz.f36)))], mkT j [(2, (.e (.one (.ptr 1 0)))), (3, (iI (e)))] 32 0⟩) (fun j => by kernel_rfl) (aP h0 <| aN <| aP h2 <| aZ)
  fun j => outK_gc [1] (by decide) (by kernel_rfl) (by kernel_rfl) (by kernel_rfl) (ho j)
def p36_end (_b0 _b1 _b2 _b3 : Nat) (_e _w0 _w1 _w2 _w3 _r0 _i0 _r1 _i1 _r2 _i2 _r3 _i3 : Int) (s0 s1 s2 s3 s4 s5 s6 s7 : Nat) (j : Nat → Value) : St := ⟨[(.some ⟨[(.v (.complex .f32 (s0) (s1))), (.v (.complex .f32 (s2) (s3))), (.v (.complex .f32 (s4) (s5))), (.v (.complex .f32 (s6) (s7)))], 4, 59, true, .cells⟩)], [(.code .ret)], mkT j [(2, (.e (.one (.ptr 0 0)))), (3, (iI 0))] 32 0⟩
theorem p36 (hE : EnvOk E) (b0 b1 b2 b3 : Nat) (e w0 w1 w2 w3 r0 i0 r1 i1 r2 i2 r3 i3 : Int) (s0 s1 s2 s3 s4 s5 s6 s7 : Nat) (h0 : COut E 3 [(.some ⟨[(.v (.float .f32 (b0))), (.v (.float .f32 (b1))), (.v (.float .f32 (b2))), (.v (.float .f32 (b3)))], 4, 56, true, .cells⟩), (.some ⟨[(.v (.complex .f32 0 0)), (.v (.complex .f32 0 0)), (.v (.complex .f32 0 0)), (.v (.complex .f32 0 0))], 4, 59, true, .cells⟩), (.some ⟨[(.v (.complex .f32 0 0)), (.v (.complex .f32 0 0)), (.v (.complex .f32 0 0)), (.v (.complex .f32 0 0))], 4, 59, true, .cells⟩)] 98 [(.e (.one (.slc 0 0 4 1 4 true))), (.e (.one (.v (.func (.func 24) #[] #[]))))] (iI (e)) [(.some ⟨[(.v (.float .f32 (b0))), (.v (.float .f32 (b1))), (.v (.float .f32 (b2))), (.v (.float .f32 (b3)))], 4, 56, true, .cells⟩), (.some ⟨[(.v (.complex .f32 0 0)), (.v (.complex .f32 0 0)), (.v (.complex .f32 0 0)), (.v (.complex .f32 0 0))], 4, 59, true, .cells⟩), (.some ⟨[(.v (.complex .f32 0 0)), (.v (.complex .f32 0 0)), (.v (.complex .f32 0 0)), (.v (.complex .f32 0 0))], 4, 59, true, .cells⟩)]) (h2 : (e != (0 : Int) : Bool) = false) (h3 : COut E 0 [] 100 [(.e (.agg [(.v (.float .f32 (b0))), (.v (.float .f32 (b1))), (.v (.float .f32 (b2))), (.v (.float .f32 (b3)))]))] (.e (.agg [(.v (.int .i64 (w0))), (.v (.int .i64 (w1))), (.v (.int .i64 (w2))), (.v (.int .i64 (w3)))])) []) (h5 : COut E 0 [] 99 [(.e (.agg [(.v (.int .i64 (w0))), (.v (.int .i64 (w1))), (.v (.int .i64 (w2))), (.v (.int .i64 (w3)))]))] (.e (.agg [(.v (.int .i64 (r0))), (.v (.int .i64 (i0))), (.v (.int .i64 (r1))), (.v (.int .i64 (i1))), (.v (.int .i64 (r2))), (.v (.int .i64 (i2))), (.v (.int .i64 (r3))), (.v (.int .i64 (i3)))])) []) (h7 : COut E 0 [] 101 [(iI (r0))] (.e (.one (.v (.float .f32 (s0))))) []) (h10 : COut E 0 [] 101 [(iI (i0))] (.e (.one (.v (.float .f32 (s1))))) []) (h12 : COut E 0 [] 101 [(iI (r1))] (.e (.one (.v (.float .f32 (s2))))) []) (h15 : COut E 0 [] 101 [(iI (i1))] (.e (.one (.v (.float .f32 (s3))))) []) (h17 : COut E 0 [] 101 [(iI (r2))] (.e (.one (.v (.float .f32 (s4))))) []) (h20 : COut E 0 [] 101 [(iI (i2))] (.e (.one (.v (.float .f32 (s5))))) []) (h22 : COut E 0 [] 101 [(iI (r3))] (.e (.one (.v (.float .f32 (s6))))) []) (h25 : COut E 0 [] 101 [(iI (i3))] (.e (.one (.v (.float .f32 (s7))))) []) {Φ : Res → Prop} (ho : ∀ j, OutK E 0 0 (p36_end b0 b1 b2 b3 e w0 w1 w2 w3 r0 i0 r1 i1 r2 i2 r3 i3 s0 s1 s2 s3 s4 s5 s6 s7 j) Φ) (j : Nat → Value) : OutK E 0 0 (s36 b0 b1 b2 b3 e w0 w1 w2 w3 r0 i0 r1 i1 r2 i2 r3 i3 s0 s1 s2 s3 s4 s5 s6 s7 j) Φ :=
 outK_seg hE (R0_ok hE) [.run 6, (.ops [(1, (.d (.c1 (iI (e)))))] []), .run 2, (.cond false), .run 3, (.ops [(1, (.c0 (.e (.agg [(.v (.int .i64 (w0))), (.v (.int .i64 (w1))), (.v (.int .i64 (w2))), (.v (.int .i64 (w3)))])))), (2, (.c0 (.e (.agg [(.v (.int .i64 (r0))), (.v (.int .i64 (i0))), (.v (.int .i64 (r1))), (.v (.int .i64 (i1))), (.v (.int .i64 (r2))), (.v (.int .i64 (i2))), (.v (.int .i64 (r3))), (.v (.int .i64 (i3)))]))))] []), .run 11, (.ops [(3, (.c0 (.e (.one (.v (.float .f32 (s0))))))), (6, (.c0 (.e (.one (.v (.float .f32 (s1)))))))] []), .run 12, (.ops [(3, (.c0 (.e (.one (.v (.float .f32 (s2))))))), (6, (.c0 (.e (.one (.v (.float .f32 (s3)))))))] []), .run 12, (.ops [(3, (.c0 (.e (.one (.v (.float .f32 (s4))))))), (6, (.c0 (.e (.one (.v (.float .f32 (s5)))))))] []), .run 12, (.ops [(3, (.c0 (.e (.one (.v (.float .f32 (s6))))))), (6, (.c0 (.e (.one (.v (.float .f32 (s7)))))))] []), .run 10] [2, 3] (s' := fun j => ⟨[(.some ⟨[(.v (.float .f32 (b0))), (.v (.float .f32 (b1))), (.v (.float .f32 (b2))), (.v (.float .f32 (b3)))], 4, 56, true, .cells⟩), (.some ⟨[(.v (.complex .f32 (s0) (s1))), (.v (.complex .f32 (s2) (s3))), (.v (.complex .f32 (s4) (s5))), (.v (.complex .f32 (s6) (s7)))], 4, 59, true, .cells⟩), (.some ⟨[(.v (.complex .f32 (s0) (s1))), (.v (.complex .f32 (s2) (s3))), (.v (.complex .f32 (s4) (s5))), (.v (.complex .f32 (s6) (s7)))], 4, 59, true, .cells⟩), (.some ⟨[(.v (.int .i64 (r0))), (.v (.int .i64 (i0)))], 2, 160, true, .cells⟩), (.some ⟨[(.v (.int .i64 (r1))), (.v (.int .i64 (i1)))], 2, 160, true, .cells⟩), (.some ⟨[(.v (.int .i64 (r2))), (.v (.int .i64 (i2)))], 2, 160, true, .cells⟩), (.some ⟨[(.v (.int .i64 (r3))), (.v (.int .i64 (i3)))], 2, 160, true, .cells⟩)], [(.code .ret)], mkT j [(2, (.e (.one (.ptr 1 0)))), (3, (iI 0))] 32 0⟩) (fun j => by kernel_rfl) (aP h0 <| aN <| aP h2 <| aP h3 <| aN <| aP h5 <| aN <| aP h7 <| aN <| aP (rfl : (true : Bool) = true) <| aP h10 <| aN <| aP h12 <| aN <| aP (rfl : (true : Bool) = true) <| aP h15 <| aN <| aP h17 <| aN <| aP (rfl : (true : Bool) = true) <| aP h20 <| aN <| aP h22 <| aN <| aP (rfl : (true : Bool) = true) <| aP h25 <| aN <| aZ)
  fun j => outK_gc [1] (by decide) (by kernel_rfl) (by kernel_rfl) (by kernel_rfl) (ho j)
open Ieee
abbrev fL (b0 b1 b2 b3 : Nat) : List AC := [fC b0, fC b1, fC b2, fC b3]
abbrev iL (w0 w1 w2 w3 : Int) : List AC := [.v (.int .i64 w0), .v (.int .i64 w1), .v (.int .i64 w2), .v (.int .i64 w3)]
abbrev trA (w0 w1 w2 w3 : Int) : List AC := [.v (.int .i64 ((((w0 + w1) + w2) + w3))), .v (.int .i64 (0)), .v (.int .i64 ((w0 + (-w2)))), .v (.int .i64 (((-w1) + w3))), .v (.int .i64 ((((w0 + (-w1)) + w2) + (-w3)))), .v (.int .i64 (0)), .v (.int .i64 ((w0 + (-w2)))), .v (.int .i64 ((w1 + (-w3))))]
abbrev trC (w0 w1 w2 w3 : Int) : List AC := [.v (.complex .f32 (smpW ((((w0 + w1) + w2) + w3))) (smpW (0))), .v (.complex .f32 (smpW ((w0 + (-w2)))) (smpW (((-w1) + w3)))), .v (.complex .f32 (smpW ((((w0 + (-w1)) + w2) + (-w3)))) (smpW (0))), .v (.complex .f32 (smpW ((w0 + (-w2)))) (smpW ((w1 + (-w3)))))]
theorem K100 (hE : EnvOk E) {b0 b1 b2 b3 : Nat} (hb0 : chkW 1024 b0 = 0) (hb1 : chkW 1024 b1 = 0) (hb2 : chkW 1024 b2 = 0) (hb3 : chkW 1024 b3 = 0) : COut E 0 [] 100 [.e (.agg (fL b0 b1 b2 b3))] (.e (.agg (iL (intW b0) (intW b1) (intW b2) (intW b3)))) [] :=
 cOut_clear (cOut_start Tryz.func100 rfl (p100 hE b0 b1 b2 b3 (intW b0) (intW b1) (intW b2) (intW b3) (k106 hE (L := 1024) (by decide) hb0) (k106 hE (L := 1024) (by decide) hb1) (k106 hE (L := 1024) (by decide) hb2) (k106 hE (L := 1024) (by decide) hb3) (fun j => outK_ret (ends_ret (by kernel_rfl))) fun _ => undef)) rfl
theorem K99 (hE : EnvOk E) {w0 w1 w2 w3 : Int} (h0 : w0.natAbs ≤ 16384) (h1 : w1.natAbs ≤ 16384) (h2 : w2.natAbs ≤ 16384) (h3 : w3.natAbs ≤ 16384) : COut E 0 [] 99 [.e (.agg (iL w0 w1 w2 w3))] (.e (.agg (trA w0 w1 w2 w3))) [] :=
 cOut_clear (cOut_start Tryz.func99 rfl (p99 hE w0 w1 w2 w3 (K105 hE (by unfold Sm; omega) (by unfold Sm; omega) (by unfold Sm; omega) (by unfold Sm; omega) (by omega) (by omega)) (K104 hE (by omega) (by omega) (by omega) (by omega) (by omega) (by omega)) (K105 hE (by unfold Sm; omega) (by unfold Sm; omega) (by unfold Sm; omega) (by unfold Sm; omega) (by omega) (by omega)) (K104 hE (by omega) (by omega) (by omega) (by omega) (by omega) (by omega)) (K105 hE (by unfold Sm; omega) (by unfold Sm; omega) (by unfold Sm; omega) (by unfold Sm; omega) (by omega) (by omega)) (K104 hE (by omega) (by omega) (by omega) (by omega) (by omega) (by omega)) (K105 hE (by unfold Sm; omega) (by unfold Sm; omega) (by unfold Sm; omega) (by unfold Sm; omega) (by omega) (by omega)) (K104 hE (by omega) (by omega) (by omega) (by omega) (by omega) (by omega)) (K105 hE (by unfold Sm; omega) (by unfold Sm; omega) (by unfold Sm; omega) (by unfold Sm; omega) (by omega) (by omega)) (K104 hE (by omega) (by omega) (by omega) (by omega) (by omega) (by omega)) (K105 hE (by unfold Sm; omega) (by unfold Sm; omega) (by unfold Sm; omega) (by unfold Sm; omega) (by omega) (by omega)) (K104 hE (by omega) (by omega) (by omega) (by omega) (by omega) (by omega)) (K105 hE (by unfold Sm; omega) (by unfold Sm; omega) (by unfold Sm; omega) (by unfold Sm; omega) (by omega) (by omega)) (K104 hE (by omega) (by omega) (by omega) (by omega) (by omega) (by omega)) (K105 hE (by unfold Sm; omega) (by unfold Sm; omega) (by unfold Sm; omega) (by unfold Sm; omega) (by omega) (by omega)) (K104 hE (by omega) (by omega) (by omega) (by omega) (by omega) (by omega)) (K105 hE (by unfold Sm; omega) (by unfold Sm; omega) (by unfold Sm; omega) (by unfold Sm; omega) (by omega) (by omega)) (K104 hE (by omega) (by omega) (by omega) (by omega) (by omega) (by omega)) (K105 hE (by unfold Sm; omega) (by unfold Sm; omega) (by unfold Sm; omega) (by unfold Sm; omega) (by omega) (by omega)) (K104 hE (by omega) (by omega) (by omega) (by omega) (by omega) (by omega)) (K105 hE (by unfold Sm; omega) (by unfold Sm; omega) (by unfold Sm; omega) (by unfold Sm; omega) (by omega) (by omega)) (K104 hE (by omega) (by omega) (by omega) (by omega) (by omega) (by omega)) (K105 hE (by unfold Sm; omega) (by unfold Sm; omega) (by unfold Sm; omega) (by unfold Sm; omega) (by omega) (by omega)) (K104 hE (by omega) (by omega) (by omega) (by omega) (by omega) (by omega)) (K105 hE (by unfold Sm; omega) (by unfold Sm; omega) (by unfold Sm; omega) (by unfold Sm; omega) (by omega) (by omega)) (K104 hE (by omega) (by omega) (by omega) (by omega) (by omega) (by omega)) (K105 hE (by unfold Sm; omega) (by unfold Sm; omega) (by unfold Sm; omega) (by unfold Sm; omega) (by omega) (by omega)) (K104 hE (by omega) (by omega) (by omega) (by omega) (by omega) (by omega)) (K105 hE (by unfold Sm; omega) (by unfold Sm; omega) (by unfold Sm; omega) (by unfold Sm; omega) (by omega) (by omega)) (K104 hE (by omega) (by omega) (by omega) (by omega) (by omega) (by omega)) (K105 hE (by unfold Sm; omega) (by unfold Sm; omega) (by unfold Sm; omega) (by unfold Sm; omega) (by omega) (by omega)) (K104 hE (by omega) (by omega) (by omega) (by omega) (by omega) (by omega)) (fun j => outK_ret (ends_ret (by kernel_rfl))) fun _ => undef)) rfl
theorem lend1 {C : List DT} {N el : Nat} {fl : Bool} {h : Heap} {len : Nat} (hi : getL h 0 = some (some ⟨C.map DT.ac, N, el, fl, .cells⟩)) (hl : takeL C (len * 1) = some C) : LendC h (.slc 0 0 len 1 len true) (.dp (.s C len 1)) :=
 .inr ⟨0, 0, len, 1, len, true, C, C, N, el, fl, rfl, rfl, hi, by cases C <;> exact hl⟩
abbrev zC : List AC := [.v (.complex .f32 0 0), .v (.complex .f32 0 0), .v (.complex .f32 0 0), .v (.complex .f32 0 0)]
def fourR (b0 b1 b2 b3 : Nat) : List AC := bif decide (chkL [b0, b1, b2, b3] = 0) then trC (intW b0) (intW b1) (intW b2) (intW b3) else zC
theorem chkL4 {b0 b1 b2 b3 : Nat} (h : chkL [b0, b1, b2, b3] = 0) : chkW 1024 b0 = 0 ∧ chkW 1024 b1 = 0 ∧ chkW 1024 b2 = 0 ∧ chkW 1024 b3 = 0 := by
 unfold chkL at h
 simp only [List.map_cons, List.map_nil, firstI] at h
 by_cases h0 : chkW 1024 b0 = 0
 ·by_cases h1 : chkW 1024 b1 = 0
  ·by_cases h2 : chkW 1024 b2 = 0
   ·by_cases h3 : chkW 1024 b3 = 0
    ·exact ⟨h0, h1, h2, h3⟩
    ·simp [h0, h1, h2, h3] at h
   ·simp [h0, h1, h2] at h
  ·simp [h0, h1] at h
 ·simp [h0] at h
theorem K36 (hE : EnvOk E) (b0 b1 b2 b3 : Nat) : COut E 0 [] 36 [.e (.agg (fL b0 b1 b2 b3))] (.tup [.agg (fourR b0 b1 b2 b3), .one (.v (.int .i64 (chkL [b0, b1, b2, b3])))]) [] := by
 have hl : ∀ (lv : Nat) (h : Heap), getL h 0 = some (some ⟨([.v (.float .f32 b0), .v (.float .f32 b1), .v (.float .f32 b2), .v (.float .f32 b3)] : List DT).map DT.ac, 4, 56, true, .cells⟩) → COut E lv h 98 [.e (.one (.slc 0 0 4 1 4 true)), .e (.one (.v (.func (.func 24) #[] #[])))] (iI (chkL [b0, b1, b2, b3])) h := fun lv h hh =>
  cOut_lend h (K98 hE [b0, b1, b2, b3] (by simp)) ⟨lend1 hh rfl, .inl ⟨rfl, rfl⟩, trivial⟩ rfl rfl
 unfold fourR
 by_cases h : chkL [b0, b1, b2, b3] = 0
 ·obtain ⟨hb0, hb1, hb2, hb3⟩ := chkL4 h
  have g0 := (chk_zero hb0).2.2
  have g1 := (chk_zero hb1).2.2
  have g2 := (chk_zero hb2).2.2
  have g3 := (chk_zero hb3).2.2
  rw [decide_eq_true h]
  exact cOut_clear (cOut_start Tryz.func36 rfl (p36 hE b0 b1 b2 b3 (chkL [b0, b1, b2, b3]) (intW b0) (intW b1) (intW b2) (intW b3) (((((intW b0) + (intW b1)) + (intW b2)) + (intW b3))) (0) (((intW b0) + (-(intW b2)))) (((-(intW b1)) + (intW b3))) (((((intW b0) + (-(intW b1))) + (intW b2)) + (-(intW b3)))) (0) (((intW b0) + (-(intW b2)))) (((intW b1) + (-(intW b3)))) (smpW (((((intW b0) + (intW b1)) + (intW b2)) + (intW b3)))) (smpW (0)) (smpW (((intW b0) + (-(intW b2))))) (smpW (((-(intW b1)) + (intW b3)))) (smpW (((((intW b0) + (-(intW b1))) + (intW b2)) + (-(intW b3))))) (smpW (0)) (smpW (((intW b0) + (-(intW b2))))) (smpW (((intW b1) + (-(intW b3))))) (hl _ _ rfl) (by simpa using h) (K100 hE hb0 hb1 hb2 hb3) (K99 hE g0 g1 g2 g3) (k101 hE (by omega)) (k101 hE (by omega)) (k101 hE (by omega)) (k101 hE (by omega)) (k101 hE (by omega)) (k101 hE (by omega)) (k101 hE (by omega)) (k101 hE (by omega)) (fun j => outK_ret (ends_ret (by rw [h]; kernel_rfl))) fun _ => undef)) rfl
 ·rw [decide_eq_false h]
  exact cOut_clear (cOut_start Tryz.func36 rfl (p36e hE b0 b1 b2 b3 (chkL [b0, b1, b2, b3]) 0 0 0 0 0 0 0 0 0 0 0 0 0 0 0 0 0 0 0 0 (hl _ _ rfl) (by simpa using h) (fun j => outK_ret (ends_ret (by kernel_rfl))) fun _ => undef)) rfl
end
end Go.Proofs.YtbmcfhkedgpldaaGreatDoor
end

/-! SePa -/
section
open Go Go.Ev
namespace Go.Proofs.YtbmcfhkedgpldaaGreatDoor
noncomputable section
set_option maxRecDepth 100000
set_option maxHeartbeats 20000000
def s97 (C : List DT) (n : Nat) (L _e : Int) (_j : Nat → Value) : St := startK Tryz.f97 [] [(.e (.one (.dp (.s C n 1)))), iI L, .e (.one (.v (.func (.func 24) #[] #[])))]
def s33 (C : List DT) (n : Nat) (_e : Int) (_j : Nat → Value) : St := startK Tryz.f33 [] [(.e (.one (.dp (.s C n 1))))]
def s28 (C : List DT) (n : Nat) (_l : List AC) (_b : Bool) (_j : Nat → Value) : St := startK Tryz.f28 [] [(.e (.one (.dp (.s C n 1))))]
def p97a_end (_C : List DT) (_n : Nat) (_L _e : Int) (j : Nat → Value) : St := ⟨[], [(.code .ret), (.code (atC [1, 1] (bodyOf Tryz.f97)))], mkT j [(6, (iI 5))] 14 0⟩
theorem p97a (hE : EnvOk E) (C : List DT) (n : Nat) (L e : Int) (h0 : (decide ((↑n : Int) > L) : Bool) = true) {Φ : Res → Prop} (ho : ∀ j, OutK E 0 0 (p97a_end C n L e j) Φ) (j : Nat → Value) : OutK E 0 0 (s97 C n L e j) Φ :=
 outK_seg hE (R0_ok hE) [.run 4, (.ops [(1, (.d .len))] []), (.cond true), .run 2] [6] (fun j => by kernel_rfl) (aP h0 <| aZ)
  ho
def p97b_end (_C : List DT) (_n : Nat) (_L e : Int) (j : Nat → Value) : St := ⟨[], [(.code .ret)], mkT j [(6, (iI (e)))] 14 0⟩
theorem p97b (hE : EnvOk E) (C : List DT) (n : Nat) (L e : Int) (h0 : (decide ((↑n : Int) > L) : Bool) = false) (h1 : COut E 0 [] 98 [(.e (.one (.dp (.s (C) (n) 1)))), (.e (.one (.v (.func (.func 24) #[] #[]))))] (iI (e)) []) {Φ : Res → Prop} (ho : ∀ j, OutK E 0 0 (p97b_end C n L e j) Φ) (j : Nat → Value) : OutK E 0 0 (s97 C n L e j) Φ :=
 outK_seg hE (R0_ok hE) [.run 4, (.ops [(1, (.d .len))] []), (.cond false), .run 2, (.ops [(2, (.c0 (iI (e))))] [])] [6] (fun j => by kernel_rfl) (aP h0 <| aP h1 <| aN <| aZ)
  ho
def p33_end (_C : List DT) (_n : Nat) (e : Int) (j : Nat → Value) : St := ⟨[], [(.code .ret)], mkT j [(2, (iI (e)))] 5 0⟩
theorem p33 (hE : EnvOk E) (C : List DT) (n : Nat) (e : Int) (h0 : COut E 0 [] 97 [(.e (.one (.dp (.s (C) (n) 1)))), (iI 4096), (.e (.one (.v (.func (.func 24) #[] #[]))))] (iI (e)) []) {Φ : Res → Prop} (ho : ∀ j, OutK E 0 0 (p33_end C n e j) Φ) (j : Nat → Value) : OutK E 0 0 (s33 C n e j) Φ :=
 outK_seg hE (R0_ok hE) [.run 3, (.ops [(1, (.c0 (iI (e))))] [])] [2] (fun j => by kernel_rfl) (aP h0 <| aN <| aZ)
  ho
def p28_end (_C : List DT) (n : Nat) (l : List AC) (b : Bool) (j : Nat → Value) : St := ⟨[(.some ⟨(l), (n), 23, (b), .cells⟩)], [(.code .ret)], mkT j [(2, (.e (.one (.slc 0 0 (n) 1 (n) (b)))))] 6 0⟩
theorem p28 (hE : EnvOk E) (C : List DT) (n : Nat) (l : List AC) (b : Bool) (h0 : CopyOk [(.some ⟨[], 0, 23, true, .cells⟩)] 1 4 (.e (.one (.dp (.s (C) (n) 1)))) n l b) (h1 : (n * 1 : Nat) = n) (g0 : FlatC (l)) {Φ : Res → Prop} (ho : ∀ j, OutK E 0 0 (p28_end C n l b j) Φ) (j : Nat → Value) : OutK E 0 0 (s28 C n l b j) Φ :=
 outK_seg hE (R0_ok hE) [.run 3, (.ops [(2, (.cpu (n) (n) (l) (b)))] [])] [2] (s' := fun j => ⟨[none, (.some ⟨(l), (n), 23, (b), .cells⟩)], [(.code .ret)], mkT j [(2, (.e (.one (.slc 1 0 (n) 1 (n) (b)))))] 6 0⟩) (fun j => by kernel_rfl) (aP h0 <| aP h1 <| aZ)
  fun j => outK_gcF [1] [true] (h' := [(.some ⟨(l), (n), 23, (b), .cells⟩)]) (by decide) (by kernel_rfl) (by kernel_rfl) ⟨g0, trivial⟩ (by kernel_rfl) (ho j)
open Ieee
def chkS (ws : List Nat) : Int := if 4096 < ws.length then 5 else chkL ws
theorem K97 (hE : EnvOk E) (ws : List Nat) (hm : ws.length ≤ 4000000) : COut E 0 [] 97 [.e (.one (dF ws).ac), iI 4096, .e (.one (.v (.func (.func 24) #[] #[])))] (iI (chkS ws)) [] := by
 unfold chkS
 by_cases h : 4096 < ws.length
 ·rw [if_pos h]
  exact cOut_start Tryz.func97 rfl (p97a hE _ _ 4096 0 (decide_eq_true (by omega)) (fun j => outK_ret (ends_ret (by kernel_rfl))) fun _ => undef)
 ·rw [if_neg h]
  exact cOut_start Tryz.func97 rfl (p97b hE _ _ 4096 _ (decide_eq_false (by omega)) (K98 hE ws hm) (fun j => outK_ret (ends_ret (by kernel_rfl))) fun _ => undef)
theorem K33 (hE : EnvOk E) (ws : List Nat) (hm : ws.length ≤ 4000000) : COut E 0 [] 33 [.e (.one (dF ws).ac)] (iI (chkS ws)) [] :=
 cOut_start Tryz.func33 rfl (p33 hE _ _ _ (K97 hE ws hm) (fun j => outK_ret (ends_ret (by kernel_rfl))) fun _ => undef)
end
end Go.Proofs.YtbmcfhkedgpldaaGreatDoor
end

/-! SePc -/
section
open Go Go.Ev
namespace Go.Proofs.YtbmcfhkedgpldaaGreatDoor
noncomputable section
set_option maxRecDepth 100000
set_option maxHeartbeats 20000000
abbrev lpV (T : Tm) (ps : Array Tmp) (asg bod : Code) : Option AB := some (loopEnt .ready none T ps asg bod)
open Ieee
def bw (ws : List Nat) (k : Nat) : Nat := ws.getD k 0
def ww (ws : List Nat) (k : Nat) : Int := intW (bw ws k)
abbrev fDT (ws : List Nat) : List DT := ws.map fun b => .v (.float .f32 b)
abbrev iD (l : List Int) : List DT := l.map fun x => .v (.int .i64 x)
abbrev iC (l : List Int) : List AC := (iD l).map DT.ac
abbrev T29 (z : Nat → Value) : Tm := mkT z [(4, .e (.one (.ptr 0 0))), (5, .e (.one (.ptr 1 0))), (9, .e (.one (.ptr 2 0))), (10, .tup []), (11, .tup []), (22, .e (.one (.clo 155 [] [(.one (.ptr 3 0))]))), (23, .tup []), (24, .tup [])] 35 0
def hB (z : Nat → Value) (asg bod : Code) (ws : List Nat) (mm0 mm1 mm2 : Bool) (L : Int) : List Int → Heap
 | [] => [some ⟨[.v (.bool mm0), .v (.bool mm1), .v (.bool mm2)], 3, 43, true, .cells⟩, some ⟨[.v (.int .i64 L)], 1, 3, true, .cells⟩, some ⟨[.v (.slice none 0 0)], 1, 25, true, .cells⟩, some ⟨[.dp (.s (fDT ws) ws.length 1)], 1, 42, true, .cells⟩, some markEnt, lpV (T29 z) #[23, 24] asg bod]
 | x :: l => [some ⟨[.v (.bool mm0), .v (.bool mm1), .v (.bool mm2)], 3, 43, true, .cells⟩, some ⟨[.v (.int .i64 L)], 1, 3, true, .cells⟩, some ⟨[.slc 6 0 (l.length + 1) 1 (l.length + 1) false], 1, 25, true, .cells⟩, some ⟨[.dp (.s (fDT ws) ws.length 1)], 1, 42, true, .cells⟩, some markEnt, lpV (T29 z) #[23, 24] asg bod, some ⟨(iC (x :: l)), (l.length + 1), 3, false, .cells⟩]
end
end Go.Proofs.YtbmcfhkedgpldaaGreatDoor
end

/-! SyL -/
section
namespace Go.Ev
open Go.RowKit
noncomputable section
variable {E : Env} {rec : RunT} {lvl K : Nat} {r : Res → Prop} {rd : Option Nat}
end
end Go.Ev
end

/-! SePb -/
section
open Go Go.Ev
namespace Go.Proofs.YtbmcfhkedgpldaaGreatDoor
noncomputable section
set_option maxRecDepth 100000
set_option maxHeartbeats 20000000
open Ieee
end
end Go.Proofs.YtbmcfhkedgpldaaGreatDoor
end

/-! SePd -/
section
open Go Go.Ev
namespace Go.Proofs.YtbmcfhkedgpldaaGreatDoor
noncomputable section
set_option maxRecDepth 100000
set_option maxHeartbeats 20000000
def s79 (C : List DT) (n _i : Nat) (_x _y _u : Int) (_j : Nat → Value) : St := startK Tryz.f79 [] [(.e (.one (.dp (.s C n 1))))]
def q79 (C : List DT) (n i : Nat) (_x _y _u : Int) (j : Nat → Value) : St := ⟨[], [(.code (atC [1, 0, 1, 0, 0] (bodyOf Tryz.f79))), (.inLoop (atC [1, 0, 1, 0, 0] (bodyOf Tryz.f79))), (.inBlock 0), (.code (atC [1, 1] (bodyOf Tryz.f79)))], mkT j [(5, (.e (.one (.dp (.s (C) (n) 1))))), (6, (iI (Int.ofNat n))), (7, (iI (Int.ofNat i)))] 15 0⟩
def p79a_end (C : List DT) (n _i : Nat) (_x _y _u : Int) (j : Nat → Value) : St := ⟨[], [(.code (atC [1, 0, 1, 0, 0] (bodyOf Tryz.f79))), (.inLoop (atC [1, 0, 1, 0, 0] (bodyOf Tryz.f79))), (.inBlock 0), (.code (atC [1, 1] (bodyOf Tryz.f79)))], mkT j [(5, (.e (.one (.dp (.s (C) (n) 1))))), (6, (iI (Int.ofNat n))), (7, (iI 0))] 15 0⟩
theorem p79a (hE : EnvOk E) (C : List DT) (n i : Nat) (x y u : Int)  {Φ : Res → Prop} (ho : ∀ j, OutK E 0 0 (p79a_end C n i x y u j) Φ) (j : Nat → Value) : OutK E 0 0 (s79 C n i x y u j) Φ :=
 outK_seg hE (R0_ok hE) [.run 4, (.ops [(1, (.d .len))] []), .run 2] [5, 6, 7] (ps := []) (fun j => by kernel_rfl) trivial
  ho
def p79s_end (C : List DT) (n i : Nat) (_x _y _u : Int) (j : Nat → Value) : St := ⟨[], [(.code (atC [1, 0, 1, 0, 0] (bodyOf Tryz.f79))), (.inLoop (atC [1, 0, 1, 0, 0] (bodyOf Tryz.f79))), (.inBlock 0), (.code (atC [1, 1] (bodyOf Tryz.f79)))], mkT j [(5, (.e (.one (.dp (.s (C) (n) 1))))), (6, (iI (Int.ofNat n))), (7, (iI (Int.ofNat (i + 1))))] 15 0⟩
theorem p79s (hE : EnvOk E) (C : List DT) (n i : Nat) (x y u : Int) (h0 : (decide (Int.ofNat i < Int.ofNat n) : Bool) = true) (h1 : (0 : Int) ≤ Int.ofNat i ∧ Int.ofNat i < (↑n : Int)) (h2 : ((Int.ofNat i).toNat * nat_lit 1 : Nat) = i) (h3 : (getL C i : Option DT) = (.some (.v (.int .i64 (x))))) (h4 : (x != (0 : Int) : Bool) = false) (h5 : ((iI (wrapF IntKind.i64 (Int.ofNat i + (1 : Int)))) : AV) = (iI (Int.ofNat (i + 1)))) {Φ : Res → Prop} (ho : ∀ j, OutK E 0 0 (p79s_end C n i x y u j) Φ) (j : Nat → Value) : OutK E 0 0 (q79 C n i x y u j) Φ :=
 outK_seg hE (R0_ok hE) [.run 3, (.cond true), .run 4, (.ops [(1, (.d (.ld (.v (.int .i64 (x)))))), (0, (.d (.ix (i))))] []), .run 2, (.cond false), .run 2, (.ops [(0, (.rn (iI (Int.ofNat (i + 1)))))] []), .run 1] [5, 6, 7] (fun j => by kernel_rfl) (aP h0 <| aP h1 <| aP h2 <| aP h3 <| aP h4 <| aP h5 <| aZ)
  ho
def p79e_end (_C : List DT) (_n _i : Nat) (x _y _u : Int) (j : Nat → Value) : St := ⟨[], [(.code .ret), (.inBlock 1), (.code (atC [1, 0, 1, 0, 0, 1, 1, 1] (bodyOf Tryz.f79))), (.inLoop (atC [1, 0, 1, 0, 0] (bodyOf Tryz.f79))), (.inBlock 0), (.code (atC [1, 1] (bodyOf Tryz.f79)))], mkT j [(2, (iI (x)))] 15 0⟩
theorem p79e (hE : EnvOk E) (C : List DT) (n i : Nat) (x y u : Int) (h0 : (decide (Int.ofNat i < Int.ofNat n) : Bool) = true) (h1 : (0 : Int) ≤ Int.ofNat i ∧ Int.ofNat i < (↑n : Int)) (h2 : ((Int.ofNat i).toNat * nat_lit 1 : Nat) = i) (h3 : (getL C i : Option DT) = (.some (.v (.int .i64 (x))))) (h4 : (x != (0 : Int) : Bool) = true) {Φ : Res → Prop} (ho : ∀ j, OutK E 0 0 (p79e_end C n i x y u j) Φ) (j : Nat → Value) : OutK E 0 0 (q79 C n i x y u j) Φ :=
 outK_seg hE (R0_ok hE) [.run 3, (.cond true), .run 4, (.ops [(1, (.d (.ld (.v (.int .i64 (x)))))), (0, (.d (.ix (i))))] []), .run 2, (.cond true), .run 2] [2] (fun j => by kernel_rfl) (aP h0 <| aP h1 <| aP h2 <| aP h3 <| aP h4 <| aZ)
  ho
def p79x_end (_C : List DT) (_n _i : Nat) (_x _y _u : Int) (j : Nat → Value) : St := ⟨[], [(.code .ret)], mkT j [(2, (iI 0))] 15 0⟩
theorem p79x (hE : EnvOk E) (C : List DT) (n i : Nat) (x y u : Int) (h0 : (decide (Int.ofNat i < Int.ofNat n) : Bool) = false) {Φ : Res → Prop} (ho : ∀ j, OutK E 0 0 (p79x_end C n i x y u j) Φ) (j : Nat → Value) : OutK E 0 0 (q79 C n i x y u j) Φ :=
 outK_seg hE (R0_ok hE) [.run 3, (.cond false), .run 3] [2] (fun j => by kernel_rfl) (aP h0 <| aZ)
  ho
open Ieee
theorem getI {xs : List Int} {i : Nat} {x : Int} (h : xs[i]? = some x) : getL (iD xs) i = some (.v (.int .i64 x)) := by rw [getL_eq, List.getElem?_map, h]; rfl
abbrev dI (xs : List Int) : AV := .e (.one (.dp (.s (iD xs) xs.length 1)))
theorem l79 (hE : EnvOk E) (xs : List Int) (hm : xs.length ≤ 4000000) :
  ∀ m i, m + i = xs.length → ∀ x j, OutK E 0 0 (q79 (iD xs) xs.length i x 0 0 j) (Go.Ev.Ends E Tryz.f79 (iI (firstI (xs.drop i))) [])
 | 0, i, hk, x, j => by
  have e1 : xs.drop i = [] := List.drop_eq_nil_of_le (by omega)
  rw [e1]
  exact p79x hE _ _ i x 0 0 (decide_eq_false (by simp only [Int.ofNat_eq_natCast]; omega)) (fun j => outK_ret (ends_ret (by kernel_rfl))) j
 | m + 1, i, hk, _, j => by
  have hlt : i < xs.length := by omega
  have hx : xs[i]? = some xs[i] := List.getElem?_eq_getElem hlt
  have e1 : xs.drop i = xs[i] :: xs.drop (i + 1) := List.drop_eq_getElem_cons hlt
  rw [e1]
  generalize xs[i] = x at hx e1
  have hd : decide (Int.ofNat i < Int.ofNat xs.length) = true := decide_eq_true (by simp only [Int.ofNat_eq_natCast]; omega)
  have hb : (0 : Int) ≤ Int.ofNat i ∧ Int.ofNat i < (xs.length : Int) := by simp only [Int.ofNat_eq_natCast]; omega
  by_cases h0 : x = 0
  ·have e2 : firstI (x :: xs.drop (i + 1)) = firstI (xs.drop (i + 1)) := by simp [firstI, h0]
   rw [e2]
   exact p79s hE _ _ i x 0 0 hd hb (by simp) (getI hx) (by simp [h0]) (iIn i (by omega)) (l79 hE xs hm m (i + 1) (by omega) 0) j
  ·have e2 : firstI (x :: xs.drop (i + 1)) = x := by simp [firstI, h0]
   rw [e2]
   exact p79e hE _ _ i x 0 0 hd hb (by simp) (getI hx) (by simp [h0])  (fun j => outK_ret (ends_ret (by kernel_rfl))) j
theorem K79 (hE : EnvOk E) (xs : List Int) (hm : xs.length ≤ 4000000) : COut E 0 [] 79 [dI xs] (iI (firstI xs)) [] :=
 cOut_start Tryz.func79 rfl (p79a hE _ _ 0 0 0 0 (l79 hE xs hm xs.length 0 (by omega) 0) fun _ => undef)
end
end Go.Proofs.YtbmcfhkedgpldaaGreatDoor
end

/-! SeFi -/
section
open Go Go.Ev
namespace Go.Proofs.YtbmcfhkedgpldaaGreatDoor
noncomputable section
set_option maxRecDepth 100000
set_option maxHeartbeats 20000000
def s118 (C _P : List DT) (n _p _i _a _N _b _c : Nat) (_e _f _g _h _k _s _u _v _w _z : Int) (_y : Bool) (_D _D2 _D3 _X : List AC) (_j : Nat → Value) : St := startK Tryz.f118 [] [(.e (.one (.dp (.s C n 1))))]
def s119 (C _P : List DT) (n _p _i _a _N _b _c : Nat) (_e _f _g _h _k _s _u v _w _z : Int) (_y : Bool) (_D _D2 _D3 _X : List AC) (_j : Nat → Value) : St := startK Tryz.f119 [] [(.e (.one (.dp (.s C n 1)))), iI v]
def s117 (C P : List DT) (n p _i _a _N _b _c : Nat) (_e _f _g _h _k _s _u _v _w _z : Int) (_y : Bool) (_D _D2 _D3 _X : List AC) (_j : Nat → Value) : St := startK Tryz.f117 [] [(.e (.one (.dp (.s C n 1)))), (.e (.one (.dp (.s P p 1))))]
def s116 (_C P : List DT) (_n p _i _a _N _b _c : Nat) (_e _f _g _h _k _s _u _v _w _z : Int) (_y : Bool) (_D _D2 _D3 _X : List AC) (_j : Nat → Value) : St := startK Tryz.f116 [] [(.e (.one (.dp (.s P p 1))))]
def s50 (_C P : List DT) (_n p _i _a _N _b _c : Nat) (_e _f _g _h _k _s _u _v _w _z : Int) (_y : Bool) (_D _D2 _D3 _X : List AC) (_j : Nat → Value) : St := startK Tryz.f50 [] [(.e (.one (.dp (.s P p 1))))]
def s120 (_C _P : List DT) (n _p _i a _N _b _c : Nat) (_e _f _g _h _k _s _u _v _w _z : Int) (_y : Bool) (D _D2 _D3 _X : List AC) (_j : Nat → Value) : St := startK Tryz.f120 [(.some ⟨[.v (.int .i64 0), .v (.int .i64 0)], 2, 80, true, .cells⟩), (.some ⟨D, n, 3, false, .cells⟩)] [(.e (.one (.slc 1 0 n 1 n false))), (iI (Int.ofNat a)), (iI (Int.ofNat (a + 1)))]
def q118 (C _P : List DT) (n _p i _a _N _b _c : Nat) (_e _f _g _h _k _s u _v _w _z : Int) (_y : Bool) (_D _D2 _D3 _X : List AC) (j : Nat → Value) : St := ⟨[], [(.code (atC [1, 1, 1, 0, 1, 0, 0] (bodyOf Tryz.f118))), (.inLoop (atC [1, 1, 1, 0, 1, 0, 0] (bodyOf Tryz.f118))), (.inBlock 0), (.code (atC [1, 1, 1, 1] (bodyOf Tryz.f118)))], mkT j [(0, (.e (.one (.dp (.s (C) (n) 1))))), (3, (iI u)), (4, (iI (Int.ofNat i)))] 25 0⟩
def q119 (C _P : List DT) (n _p i _a _N _b _c : Nat) (_e _f _g _h _k _s _u v _w _z : Int) (_y : Bool) (_D _D2 _D3 _X : List AC) (j : Nat → Value) : St := ⟨[], [(.code (atC [1, 0, 1, 0, 0] (bodyOf Tryz.f119))), (.inLoop (atC [1, 0, 1, 0, 0] (bodyOf Tryz.f119))), (.inBlock 0), (.code (atC [1, 1] (bodyOf Tryz.f119)))], mkT j [(0, (.e (.one (.dp (.s (C) (n) 1))))), (1, (iI (v))), (7, (iI (Int.ofNat n))), (8, (iI (Int.ofNat i)))] 19 0⟩
def q117 (C P : List DT) (n p i _a _N _b _c : Nat) (_e _f _g _h _k s _u _v _w _z : Int) (_y : Bool) (_D _D2 _D3 _X : List AC) (j : Nat → Value) : St := ⟨[], [(.code (atC [1, 1, 0, 1, 0, 0] (bodyOf Tryz.f117))), (.inLoop (atC [1, 1, 0, 1, 0, 0] (bodyOf Tryz.f117))), (.inBlock 0), (.code (atC [1, 1, 1] (bodyOf Tryz.f117)))], mkT j [(0, (.e (.one (.dp (.s (C) (n) 1))))), (5, (iI s)), (8, (.e (.one (.dp (.s (P) (p) 1))))), (9, (iI (Int.ofNat p))), (10, (iI (Int.ofNat i)))] 27 0⟩
def p118a_end (C : List DT) (_P : List DT) (n _p _i _a _N _b _c : Nat) (_e _f _g _h _k _s u _v _w _z : Int) (_y : Bool) (_D _D2 _D3 _X : List AC) (j : Nat → Value) : St := ⟨[], [(.code (atC [1, 1, 1, 0, 1, 0, 0] (bodyOf Tryz.f118))), (.inLoop (atC [1, 1, 1, 0, 1, 0, 0] (bodyOf Tryz.f118))), (.inBlock 0), (.code (atC [1, 1, 1, 1] (bodyOf Tryz.f118)))], mkT j [(0, (.e (.one (.dp (.s (C) (n) 1))))), (3, (iI (u))), (4, (iI 1))] 25 0⟩
theorem p118a (hE : EnvOk E) (C : List DT) (P : List DT) (n p i a N b c : Nat) (e f g h k s u v w z : Int) (y : Bool) (D D2 D3 X : List AC) (h0 : (decide ((↑n : Int) < (1 : Int)) : Bool) = false) (h1 : (0 : Int) ≤ (0 : Int) ∧ (0 : Int) < (↑n : Int)) (h3 : (getL C (nat_lit 0) : Option DT) = (.some (.v (.int .i64 (u))))) {Φ : Res → Prop} (ho : ∀ j, OutK E 0 0 (p118a_end C P n p i a N b c e f g h k s u v w z y D D2 D3 X j) Φ) (j : Nat → Value) : OutK E 0 0 (s118 C P n p i a N b c e f g h k s u v w z y D D2 D3 X j) Φ :=
 outK_seg hE (R0_ok hE) [.run 4, (.ops [(1, (.d .len))] []), (.cond false), .run 2, (.ops [(2, (.d (.ld (.v (.int .i64 (u)))))), (1, (.d (.ix 0)))] []), .run 5] [0, 3, 4] (fun j => by kernel_rfl) (aP h0 <| aP h1 <| aP (rfl : ((0 : Nat) : Nat) = nat_lit 0) <| aP h3 <| aZ)
  ho
def p119a_end (C : List DT) (_P : List DT) (n _p _i _a _N _b _c : Nat) (_e _f _g _h _k _s _u v _w _z : Int) (_y : Bool) (_D _D2 _D3 _X : List AC) (j : Nat → Value) : St := ⟨[], [(.code (atC [1, 0, 1, 0, 0] (bodyOf Tryz.f119))), (.inLoop (atC [1, 0, 1, 0, 0] (bodyOf Tryz.f119))), (.inBlock 0), (.code (atC [1, 1] (bodyOf Tryz.f119)))], mkT j [(0, (.e (.one (.dp (.s (C) (n) 1))))), (1, (iI (v))), (7, (iI (Int.ofNat n))), (8, (iI 0))] 19 0⟩
theorem p119a (hE : EnvOk E) (C : List DT) (P : List DT) (n p i a N b c : Nat) (e f g h k s u v w z : Int) (y : Bool) (D D2 D3 X : List AC)  {Φ : Res → Prop} (ho : ∀ j, OutK E 0 0 (p119a_end C P n p i a N b c e f g h k s u v w z y D D2 D3 X j) Φ) (j : Nat → Value) : OutK E 0 0 (s119 C P n p i a N b c e f g h k s u v w z y D D2 D3 X j) Φ :=
 outK_seg hE (R0_ok hE) [.run 4, (.ops [(1, (.d .len))] []), .run 2] [0, 1, 7, 8] (ps := []) (fun j => by kernel_rfl) trivial
  ho
def p117a_end (C : List DT) (P : List DT) (n p _i _a _N _b _c : Nat) (_e _f _g _h _k _s _u _v _w _z : Int) (_y : Bool) (_D _D2 _D3 _X : List AC) (j : Nat → Value) : St := ⟨[], [(.code (atC [1, 1, 0, 1, 0, 0] (bodyOf Tryz.f117))), (.inLoop (atC [1, 1, 0, 1, 0, 0] (bodyOf Tryz.f117))), (.inBlock 0), (.code (atC [1, 1, 1] (bodyOf Tryz.f117)))], mkT j [(0, (.e (.one (.dp (.s (C) (n) 1))))), (5, (iI 0)), (8, (.e (.one (.dp (.s (P) (p) 1))))), (9, (iI (Int.ofNat p))), (10, (iI 0))] 27 0⟩
theorem p117a (hE : EnvOk E) (C : List DT) (P : List DT) (n p i a N b c : Nat) (e f g h k s u v w z : Int) (y : Bool) (D D2 D3 X : List AC)  {Φ : Res → Prop} (ho : ∀ j, OutK E 0 0 (p117a_end C P n p i a N b c e f g h k s u v w z y D D2 D3 X j) Φ) (j : Nat → Value) : OutK E 0 0 (s117 C P n p i a N b c e f g h k s u v w z y D D2 D3 X j) Φ :=
 outK_seg hE (R0_ok hE) [.run 6, (.ops [(1, (.d .len))] []), .run 2] [0, 5, 8, 9, 10] (ps := []) (fun j => by kernel_rfl) trivial
  ho
def p116_end (_C : List DT) (_P : List DT) (_n _p _i _a _N _b _c : Nat) (_e _f g _h _k _s _u _v _w _z : Int) (_y : Bool) (_D _D2 _D3 _X : List AC) (j : Nat → Value) : St := ⟨[], [(.code .ret)], mkT j [(2, (iI (g)))] 11 0⟩
theorem p116 (hE : EnvOk E) (C : List DT) (P : List DT) (n p i a N b c : Nat) (e f g h k s u v w z : Int) (y : Bool) (D D2 D3 X : List AC) (h0 : COut E 0 [] 85 [(iB ((↑p : Int) == (0 : Int))), (iI 12)] (iI (e)) []) (h2 : COut E 0 [] 97 [(.e (.one (.dp (.s (P) (p) 1)))), (iI 64), (.e (.one (.v (.func (.func 24) #[] #[]))))] (iI (f)) []) (h4 : COut E 1 [(.some ⟨[(.v (.int .i64 (e))), (.v (.int .i64 (f)))], 2, 26, true, .cells⟩)] 79 [(.e (.one (.slc 0 0 2 1 2 true)))] (iI (g)) [(.some ⟨[(.v (.int .i64 (e))), (.v (.int .i64 (f)))], 2, 26, true, .cells⟩)]) {Φ : Res → Prop} (ho : ∀ j, OutK E 0 0 (p116_end C P n p i a N b c e f g h k s u v w z y D D2 D3 X j) Φ) (j : Nat → Value) : OutK E 0 0 (s116 C P n p i a N b c e f g h k s u v w z y D D2 D3 X j) Φ :=
 outK_seg hE (R0_ok hE) [.run 3, (.ops [(3, (.c0 (iI (e)))), (5, (.c0 (iI (f)))), (7, (.d (.c1 (iI (g))))), (1, (.d .len))] [])] [2] (s' := fun j => ⟨[(.some ⟨[(.v (.int .i64 (e))), (.v (.int .i64 (f)))], 2, 26, true, .cells⟩)], [(.code .ret)], mkT j [(2, (iI (g)))] 11 0⟩) (fun j => by kernel_rfl) (aP h0 <| aN <| aP h2 <| aN <| aP h4 <| aN <| aZ)
  fun j => outK_gc [] (by decide) (by kernel_rfl) (by kernel_rfl) (by kernel_rfl) (ho j)
def p50_end (_C : List DT) (_P : List DT) (_n _p _i _a _N _b _c : Nat) (_e _f _g h _k _s _u _v _w _z : Int) (_y : Bool) (_D _D2 _D3 _X : List AC) (j : Nat → Value) : St := ⟨[], [(.code .ret)], mkT j [(2, (iI (h)))] 15 0⟩
theorem p50 (hE : EnvOk E) (C : List DT) (P : List DT) (n p i a N b c : Nat) (e f g h k s u v w z : Int) (y : Bool) (D D2 D3 X : List AC) (h0 : COut E 0 [] 82 [(iB ((↑p : Int) == (0 : Int))), (iI 12)] (iI (e)) []) (h2 : COut E 0 [] 82 [(iB (decide ((↑p : Int) > (64 : Int)))), (iI 5)] (iI (f)) []) (h4 : COut E 0 [] 38 [(.e (.one (.dp (.s (P) (p) 1))))] (iI (g)) []) (h6 : COut E 1 [(.some ⟨[(.v (.int .i64 (e))), (.v (.int .i64 (f))), (.v (.int .i64 (g)))], 3, 3, true, .cells⟩)] 81 [(.e (.one (.slc 0 0 3 1 3 true)))] (iI (h)) [(.some ⟨[(.v (.int .i64 (e))), (.v (.int .i64 (f))), (.v (.int .i64 (g)))], 3, 3, true, .cells⟩)]) {Φ : Res → Prop} (ho : ∀ j, OutK E 0 0 (p50_end C P n p i a N b c e f g h k s u v w z y D D2 D3 X j) Φ) (j : Nat → Value) : OutK E 0 0 (s50 C P n p i a N b c e f g h k s u v w z y D D2 D3 X j) Φ :=
 outK_seg hE (R0_ok hE) [.run 3, (.ops [(3, (.c0 (iI (e)))), (7, (.c0 (iI (f)))), (9, (.c0 (iI (g)))), (11, (.d (.c1 (iI (h))))), (1, (.d .len)), (5, (.d .len))] [])] [2] (s' := fun j => ⟨[(.some ⟨[(.v (.int .i64 (e))), (.v (.int .i64 (f))), (.v (.int .i64 (g)))], 3, 3, true, .cells⟩)], [(.code .ret)], mkT j [(2, (iI (h)))] 15 0⟩) (fun j => by kernel_rfl) (aP h0 <| aN <| aP h2 <| aN <| aP h4 <| aN <| aP h6 <| aN <| aZ)
  fun j => outK_gc [] (by decide) (by kernel_rfl) (by kernel_rfl) (by kernel_rfl) (ho j)
def p118s_end (C : List DT) (_P : List DT) (n _p i _a _N _b _c : Nat) (_e _f _g _h _k _s _u _v w _z : Int) (_y : Bool) (_D _D2 _D3 _X : List AC) (j : Nat → Value) : St := ⟨[], [(.code (atC [1, 1, 1, 0, 1, 0, 0] (bodyOf Tryz.f118))), (.inLoop (atC [1, 1, 1, 0, 1, 0, 0] (bodyOf Tryz.f118))), (.inBlock 0), (.code (atC [1, 1, 1, 1] (bodyOf Tryz.f118)))], mkT j [(0, (.e (.one (.dp (.s (C) (n) 1))))), (3, (iI (w))), (4, (iI (Int.ofNat (i + 1))))] 25 0⟩
theorem p118s (hE : EnvOk E) (C : List DT) (P : List DT) (n p i a N b c : Nat) (e f g h k s u v w z : Int) (y : Bool) (D D2 D3 X : List AC) (h0 : (decide (Int.ofNat i < (↑n : Int)) : Bool) = true) (h1 : (0 : Int) ≤ Int.ofNat i ∧ Int.ofNat i < (↑n : Int)) (h2 : ((Int.ofNat i).toNat * nat_lit 1 : Nat) = i) (h3 : (getL C i : Option DT) = (.some (.v (.int .i64 (v))))) (h4 : ((iI (if v > u then v else u)) : AV) = (iI (w))) (h5 : ((iI (wrapF IntKind.i64 (Int.ofNat i + (1 : Int)))) : AV) = (iI (Int.ofNat (i + 1)))) {Φ : Res → Prop} (ho : ∀ j, OutK E 0 0 (p118s_end C P n p i a N b c e f g h k s u v w z y D D2 D3 X j) Φ) (j : Nat → Value) : OutK E 0 0 (q118 C P n p i a N b c e f g h k s u v w z y D D2 D3 X j) Φ :=
 outK_seg hE (R0_ok hE) [.run 2, (.ops [(2, (.d .len))] []), (.cond true), .run 3, (.ops [(4, (.d (.ld (.v (.int .i64 (v)))))), (5, (.rn (iI (w)))), (3, (.d (.ix (i))))] []), .run 1, (.ops [(1, (.rn (iI (Int.ofNat (i + 1)))))] []), .run 1] [0, 3, 4] (fun j => by kernel_rfl) (aP h0 <| aP h1 <| aP h2 <| aP h3 <| aP h4 <| aP h5 <| aZ)
  ho
def p118x_end (_C : List DT) (_P : List DT) (_n _p _i _a _N _b _c : Nat) (_e _f _g _h _k _s u _v _w _z : Int) (_y : Bool) (_D _D2 _D3 _X : List AC) (j : Nat → Value) : St := ⟨[], [(.code .ret)], mkT j [(2, (iI (u)))] 25 0⟩
theorem p118x (hE : EnvOk E) (C : List DT) (P : List DT) (n p i a N b c : Nat) (e f g h k s u v w z : Int) (y : Bool) (D D2 D3 X : List AC) (h0 : (decide (Int.ofNat i < (↑n : Int)) : Bool) = false) {Φ : Res → Prop} (ho : ∀ j, OutK E 0 0 (p118x_end C P n p i a N b c e f g h k s u v w z y D D2 D3 X j) Φ) (j : Nat → Value) : OutK E 0 0 (q118 C P n p i a N b c e f g h k s u v w z y D D2 D3 X j) Φ :=
 outK_seg hE (R0_ok hE) [.run 2, (.ops [(2, (.d .len))] []), (.cond false), .run 3] [2] (fun j => by kernel_rfl) (aP h0 <| aZ)
  ho
def p119e_end (_C : List DT) (_P : List DT) (_n _p i _a _N _b _c : Nat) (_e _f _g _h _k _s _u _v _w _z : Int) (_y : Bool) (_D _D2 _D3 _X : List AC) (j : Nat → Value) : St := ⟨[], [(.code .ret), (.inBlock 1), (.code (atC [1, 0, 1, 0, 0, 1, 1, 1] (bodyOf Tryz.f119))), (.inLoop (atC [1, 0, 1, 0, 0] (bodyOf Tryz.f119))), (.inBlock 0), (.code (atC [1, 1] (bodyOf Tryz.f119)))], mkT j [(4, (iI (Int.ofNat i)))] 19 0⟩
theorem p119e (hE : EnvOk E) (C : List DT) (P : List DT) (n p i a N b c : Nat) (e f g h k s u v w z : Int) (y : Bool) (D D2 D3 X : List AC) (h0 : (decide (Int.ofNat i < Int.ofNat n) : Bool) = true) (h1 : (0 : Int) ≤ Int.ofNat i ∧ Int.ofNat i < (↑n : Int)) (h2 : ((Int.ofNat i).toNat * nat_lit 1 : Nat) = i) (h3 : (getL C i : Option DT) = (.some (.v (.int .i64 (u))))) (h4 : (v == u : Bool) = true) {Φ : Res → Prop} (ho : ∀ j, OutK E 0 0 (p119e_end C P n p i a N b c e f g h k s u v w z y D D2 D3 X j) Φ) (j : Nat → Value) : OutK E 0 0 (q119 C P n p i a N b c e f g h k s u v w z y D D2 D3 X j) Φ :=
 outK_seg hE (R0_ok hE) [.run 3, (.cond true), .run 6, (.ops [(4, (.d (.ld (.v (.int .i64 (u)))))), (3, (.d (.ix (i))))] []), (.cond true), .run 2] [4] (fun j => by kernel_rfl) (aP h0 <| aP h1 <| aP h2 <| aP h3 <| aP h4 <| aZ)
  ho
def p119s_end (C : List DT) (_P : List DT) (n _p i _a _N _b _c : Nat) (_e _f _g _h _k _s _u v _w _z : Int) (_y : Bool) (_D _D2 _D3 _X : List AC) (j : Nat → Value) : St := ⟨[], [(.code (atC [1, 0, 1, 0, 0] (bodyOf Tryz.f119))), (.inLoop (atC [1, 0, 1, 0, 0] (bodyOf Tryz.f119))), (.inBlock 0), (.code (atC [1, 1] (bodyOf Tryz.f119)))], mkT j [(0, (.e (.one (.dp (.s (C) (n) 1))))), (1, (iI (v))), (7, (iI (Int.ofNat n))), (8, (iI (Int.ofNat (i + 1))))] 19 0⟩
theorem p119s (hE : EnvOk E) (C : List DT) (P : List DT) (n p i a N b c : Nat) (e f g h k s u v w z : Int) (y : Bool) (D D2 D3 X : List AC) (h0 : (decide (Int.ofNat i < Int.ofNat n) : Bool) = true) (h1 : (0 : Int) ≤ Int.ofNat i ∧ Int.ofNat i < (↑n : Int)) (h2 : ((Int.ofNat i).toNat * nat_lit 1 : Nat) = i) (h3 : (getL C i : Option DT) = (.some (.v (.int .i64 (u))))) (h4 : (v == u : Bool) = false) (h5 : ((iI (wrapF IntKind.i64 (Int.ofNat i + (1 : Int)))) : AV) = (iI (Int.ofNat (i + 1)))) {Φ : Res → Prop} (ho : ∀ j, OutK E 0 0 (p119s_end C P n p i a N b c e f g h k s u v w z y D D2 D3 X j) Φ) (j : Nat → Value) : OutK E 0 0 (q119 C P n p i a N b c e f g h k s u v w z y D D2 D3 X j) Φ :=
 outK_seg hE (R0_ok hE) [.run 3, (.cond true), .run 6, (.ops [(4, (.d (.ld (.v (.int .i64 (u)))))), (3, (.d (.ix (i))))] []), (.cond false), .run 2, (.ops [(0, (.rn (iI (Int.ofNat (i + 1)))))] []), .run 1] [0, 1, 7, 8] (fun j => by kernel_rfl) (aP h0 <| aP h1 <| aP h2 <| aP h3 <| aP h4 <| aP h5 <| aZ)
  ho
def p117s_end (C : List DT) (P : List DT) (n p i _a _N _b _c : Nat) (_e _f _g h _k _s _u _v _w _z : Int) (_y : Bool) (_D _D2 _D3 _X : List AC) (j : Nat → Value) : St := ⟨[], [(.code (atC [1, 1, 0, 1, 0, 0] (bodyOf Tryz.f117))), (.inLoop (atC [1, 1, 0, 1, 0, 0] (bodyOf Tryz.f117))), (.inBlock 0), (.code (atC [1, 1, 1] (bodyOf Tryz.f117)))], mkT j [(0, (.e (.one (.dp (.s (C) (n) 1))))), (5, (iI (h))), (8, (.e (.one (.dp (.s (P) (p) 1))))), (9, (iI (Int.ofNat p))), (10, (iI (Int.ofNat (i + 1))))] 27 0⟩
theorem p117s (hE : EnvOk E) (C : List DT) (P : List DT) (n p i a N b c : Nat) (e f g h k s u v w z : Int) (y : Bool) (D D2 D3 X : List AC) (h0 : (decide (Int.ofNat i < Int.ofNat p) : Bool) = true) (h1 : (0 : Int) ≤ Int.ofNat i ∧ Int.ofNat i < (↑p : Int)) (h2 : ((Int.ofNat i).toNat * nat_lit 1 : Nat) = i) (h3 : (getL P i : Option DT) = (.some (.v (.float .f32 (b))))) (h4 : COut E 0 [] 106 [(.e (.one (.v (.float .f32 (b)))))] (iI (e)) []) (h6 : (0 : Int) ≤ Int.ofNat i ∧ Int.ofNat i < (↑n : Int)) (h7 : ((Int.ofNat i).toNat * nat_lit 1 : Nat) = i) (h8 : (getL C i : Option DT) = (.some (.v (.float .f32 (c))))) (h10 : COut E 0 [] 106 [(.e (.one (.v (.float .f32 (c)))))] (iI (f)) []) (h12 : ((iI (wrapF IntKind.i64 (e * f))) : AV) = (iI (g))) (h13 : ((iI (wrapF IntKind.i64 (s + g))) : AV) = (iI (h))) (h14 : ((iI (wrapF IntKind.i64 (Int.ofNat i + (1 : Int)))) : AV) = (iI (Int.ofNat (i + 1)))) {Φ : Res → Prop} (ho : ∀ j, OutK E 0 0 (p117s_end C P n p i a N b c e f g h k s u v w z y D D2 D3 X j) Φ) (j : Nat → Value) : OutK E 0 0 (q117 C P n p i a N b c e f g h k s u v w z y D D2 D3 X j) Φ :=
 outK_seg hE (R0_ok hE) [.run 3, (.cond true), .run 4, (.ops [(2, (.d (.ld (.v (.float .f32 (b)))))), (1, (.d (.ix (i))))] []), (.ops [(2, (.c0 (iI (e)))), (6, (.d (.ld (.v (.float .f32 (c)))))), (7, (.c0 (iI (f)))), (8, (.rn (iI (g)))), (9, (.rn (iI (h)))), (5, (.d (.ix (i))))] []), .run 1, (.ops [(0, (.rn (iI (Int.ofNat (i + 1)))))] []), .run 1] [0, 5, 8, 9, 10] (fun j => by kernel_rfl) (aP h0 <| aP h1 <| aP h2 <| aP h3 <| aP h4 <| aN <| aP h6 <| aP h7 <| aP h8 <| aP (rfl : (true : Bool) = true) <| aP h10 <| aN <| aP h12 <| aP h13 <| aP h14 <| aZ)
  ho
def p117x_end (_C : List DT) (_P : List DT) (_n _p _i _a _N _b _c : Nat) (_e _f _g _h _k s _u _v _w _z : Int) (_y : Bool) (_D _D2 _D3 _X : List AC) (j : Nat → Value) : St := ⟨[], [(.code .ret)], mkT j [(4, (iI (s)))] 27 0⟩
theorem p117x (hE : EnvOk E) (C : List DT) (P : List DT) (n p i a N b c : Nat) (e f g h k s u v w z : Int) (y : Bool) (D D2 D3 X : List AC) (h0 : (decide (Int.ofNat i < Int.ofNat p) : Bool) = false) {Φ : Res → Prop} (ho : ∀ j, OutK E 0 0 (p117x_end C P n p i a N b c e f g h k s u v w z y D D2 D3 X j) Φ) (j : Nat → Value) : OutK E 0 0 (q117 C P n p i a N b c e f g h k s u v w z y D D2 D3 X j) Φ :=
 outK_seg hE (R0_ok hE) [.run 3, (.cond false), .run 3] [4] (fun j => by kernel_rfl) (aP h0 <| aZ)
  ho
def p120_end (_C : List DT) (_P : List DT) (n _p _i _a N _b _c : Nat) (_e _f _g _h _k _s _u _v _w _z : Int) (_y : Bool) (_D _D2 D3 _X : List AC) (j : Nat → Value) : St := ⟨[(.some ⟨[(.v (.int .i64 0)), (.v (.int .i64 0))], 2, 80, true, .cells⟩), (.some ⟨(D3), (n), 3, false, .cells⟩)], [(.code .ret)], mkT j [(6, (.e (.one (.slc 1 0 (N) 1 (n) false))))] 33 0⟩
theorem p120 (hE : EnvOk E) (C : List DT) (P : List DT) (n p i a N b c : Nat) (e f g h k s u v w z : Int) (y : Bool) (D D2 D3 X : List AC) (h3 : a ≤ a + 1 ∧ a + 1 ≤ n ∧ n ≤ n) (h4 : (a : Nat) = nat_lit 0 + a * nat_lit 1) (h5 : ((1 : Nat) : Nat) = a + 1 - a) (h7 : (Int.ofNat a == Int.ofNat (a + 1) : Bool) = false) (h10 : (0 : Nat) ≤ a ∧ a ≤ n) (h12 : (a : Nat) = a - (0 : Nat)) (h13 : (n : Nat) = n - (0 : Nat)) (h16 : a + 1 ≤ n ∧ n ≤ n) (h17 : (a + 1 : Nat) = nat_lit 0 + (a + 1) * nat_lit 1) (h18 : (i : Nat) = n - (a + 1)) (h21 : (0 : Nat) < i) (h22 : (a + i : Nat) = N) (h23 : a + i ≤ n) (h24 : (small (a + i) (1 : Nat) (8 : Nat) : Bool) = true) (h25 : (takeL (dropL D (a + 1)) (i * nat_lit 1) : Option (List AC)) = (.some (X))) (h26 : (X.all AC.isOne : Bool) = true) (h27 : (0 : Nat) + (a + i) * nat_lit 1 ≤ n) (h28 : (overL X D ((0 : Nat) + a * nat_lit 1) : List AC) = D2) (h31 : N ≤ n ∧ n ≤ n) (h32 : (N : Nat) = nat_lit 0 + N * nat_lit 1) (h33 : ((1 : Nat) : Nat) = n - N) (h34 : ((1 : Nat) : Nat) = n - N) (h35 : (0 : Nat) < (1 : Nat)) (h36 : (1 : Nat) ≤ (1 : Nat)) (h37 : N + 1 ≤ n) (h39 : (overL (repeatC ((fun z => List.map AC.v z.cells.toList) (Value.int IntKind.i64 (0 : Int))) (1 : Nat)) D2 N : List AC) = D3) {Φ : Res → Prop} (ho : ∀ j, OutK E 0 2 (p120_end C P n p i a N b c e f g h k s u v w z y D D2 D3 X j) Φ) (j : Nat → Value) : OutK E 0 2 (s120 C P n p i a N b c e f g h k s u v w z y D D2 D3 X j) Φ :=
 outK_seg hE (R0_ok hE) [.run 3, (.ops [(5, (.sl3 (a) (a + 1) (n) (a) 1 (n - a)))] []), .run 3, (.cond false), .run 4, (.ops [(2, (.slo 0 (a) 0 (a) (n))), (5, (.slo (a + 1) (n) (a + 1) (i) (n - (a + 1)))), (6, (.apo (N) (X) (D2)))] []), .run 1, (.ops [(4, (.slo (N) (n) (N) 1 1)), (5, (.clr (D3)))] []), .run 2] [6] (fun j => by kernel_rfl) (aP (rfl : (Int.ofNat a : Int) = Int.ofNat a) <| aP (rfl : (Int.ofNat (a + 1) : Int) = Int.ofNat (a + 1)) <| aP (rfl : ((↑n : Int) : Int) = Int.ofNat n) <| aP h3 <| aP h4 <| aP h5 <| aP (rfl : (n - a : Nat) = n - a) <| aP h7 <| aP (rfl : ((0 : Int) : Int) = Int.ofNat (0 : Nat)) <| aP (rfl : (Int.ofNat a : Int) = Int.ofNat a) <| aP h10 <| aP (rfl : ((0 : Nat) : Nat) = (0 : Nat)) <| aP h12 <| aP h13 <| aP (rfl : (Int.ofNat (a + 1) : Int) = Int.ofNat (a + 1)) <| aP (rfl : (Int.ofNat n : Int) = Int.ofNat n) <| aP h16 <| aP h17 <| aP h18 <| aP (rfl : (n - (a + 1) : Nat) = n - (a + 1)) <| aP (rfl : (true : Bool) = true) <| aP h21 <| aP h22 <| aP h23 <| aP h24 <| aP h25 <| aP h26 <| aP h27 <| aP h28 <| aP (rfl : ((↑N : Int) : Int) = Int.ofNat N) <| aP (rfl : (Int.ofNat n : Int) = Int.ofNat n) <| aP h31 <| aP h32 <| aP h33 <| aP h34 <| aP h35 <| aP h36 <| aP h37 <| aP (rfl : (true : Bool) = true) <| aP h39 <| aZ)
  ho
def p120z_end (_C : List DT) (_P : List DT) (n _p _i a _N _b _c : Nat) (_e _f _g _h _k _s _u _v _w _z : Int) (_y : Bool) (_D _D2 D3 _X : List AC) (j : Nat → Value) : St := ⟨[(.some ⟨[(.v (.int .i64 0)), (.v (.int .i64 0))], 2, 80, true, .cells⟩), (.some ⟨(D3), (n), 3, false, .cells⟩)], [(.code .ret)], mkT j [(6, (.e (.one (.slc 1 0 (a) 1 (n) false))))] 33 0⟩
theorem p120z (hE : EnvOk E) (C : List DT) (P : List DT) (n p i a N b c : Nat) (e f g h k s u v w z : Int) (y : Bool) (D D2 D3 X : List AC) (h3 : a ≤ a + 1 ∧ a + 1 ≤ n ∧ n ≤ n) (h4 : (a : Nat) = nat_lit 0 + a * nat_lit 1) (h5 : ((1 : Nat) : Nat) = a + 1 - a) (h7 : (Int.ofNat a == Int.ofNat (a + 1) : Bool) = false) (h10 : (0 : Nat) ≤ a ∧ a ≤ n) (h12 : (a : Nat) = a - (0 : Nat)) (h13 : (n : Nat) = n - (0 : Nat)) (h16 : a + 1 ≤ n ∧ n ≤ n) (h17 : (a + 1 : Nat) = nat_lit 0 + (a + 1) * nat_lit 1) (h18 : ((0 : Nat) : Nat) = n - (a + 1)) (h19 : ((0 : Nat) : Nat) = n - (a + 1)) (h23 : a ≤ n ∧ n ≤ n) (h24 : (a : Nat) = nat_lit 0 + a * nat_lit 1) (h25 : ((1 : Nat) : Nat) = n - a) (h26 : ((1 : Nat) : Nat) = n - a) (h27 : (0 : Nat) < (1 : Nat)) (h28 : (1 : Nat) ≤ (1 : Nat)) (h29 : a + 1 ≤ n) (h31 : (overL (repeatC ((fun z => List.map AC.v z.cells.toList) (Value.int IntKind.i64 (0 : Int))) (1 : Nat)) D a : List AC) = D3) {Φ : Res → Prop} (ho : ∀ j, OutK E 0 2 (p120z_end C P n p i a N b c e f g h k s u v w z y D D2 D3 X j) Φ) (j : Nat → Value) : OutK E 0 2 (s120 C P n p i a N b c e f g h k s u v w z y D D2 D3 X j) Φ :=
 outK_seg hE (R0_ok hE) [.run 3, (.ops [(5, (.sl3 (a) (a + 1) (n) (a) 1 (n - a)))] []), .run 3, (.cond false), .run 4, (.ops [(2, (.slo 0 (a) 0 (a) (n))), (5, (.slo (a + 1) (n) (a + 1) 0 0)), (6, .apz)] []), .run 1, (.ops [(4, (.slo (a) (n) (a) 1 1)), (5, (.clr (D3)))] []), .run 2] [6] (fun j => by kernel_rfl) (aP (rfl : (Int.ofNat a : Int) = Int.ofNat a) <| aP (rfl : (Int.ofNat (a + 1) : Int) = Int.ofNat (a + 1)) <| aP (rfl : ((↑n : Int) : Int) = Int.ofNat n) <| aP h3 <| aP h4 <| aP h5 <| aP (rfl : (n - a : Nat) = n - a) <| aP h7 <| aP (rfl : ((0 : Int) : Int) = Int.ofNat (0 : Nat)) <| aP (rfl : (Int.ofNat a : Int) = Int.ofNat a) <| aP h10 <| aP (rfl : ((0 : Nat) : Nat) = (0 : Nat)) <| aP h12 <| aP h13 <| aP (rfl : (Int.ofNat (a + 1) : Int) = Int.ofNat (a + 1)) <| aP (rfl : (Int.ofNat n : Int) = Int.ofNat n) <| aP h16 <| aP h17 <| aP h18 <| aP h19 <| aP (rfl : (true : Bool) = true) <| aP (rfl : ((↑a : Int) : Int) = Int.ofNat a) <| aP (rfl : (Int.ofNat n : Int) = Int.ofNat n) <| aP h23 <| aP h24 <| aP h25 <| aP h26 <| aP h27 <| aP h28 <| aP h29 <| aP (rfl : (true : Bool) = true) <| aP h31 <| aZ)
  ho
open Ieee
structure Fnd (C : Nat → Int) (N a : Nat) (M S : Int) : Prop where
 lt : a < N
 eq : C a = M
 le : ∀ j, j < N → C j ≤ M
 fst : ∀ j, j < a → C j < M
 ex : ∃ j, j < N ∧ j ≠ a ∧ C j = S
 le2 : ∀ j, j < N → j ≠ a → C j ≤ S
theorem Fnd.uniq {C : Nat → Int} {N a a' : Nat} {M M' S S' : Int} (h : Fnd C N a M S) (h' : Fnd C N a' M' S') : a = a' ∧ M = M' ∧ S = S' := by
 have hM : M = M' := by
  have h1 := h.le a' h'.lt; have h2 := h'.le a h.lt
  rw [h'.eq] at h1; rw [h.eq] at h2; omega
 subst hM
 have ha : a = a' := by
  rcases Nat.lt_trichotomy a a' with c | c | c
  ·have := h'.fst a c; rw [h.eq] at this; omega
  ·exact c
  ·have := h.fst a' c; rw [h'.eq] at this; omega
 subst ha
 refine ⟨rfl, rfl, ?_⟩
 obtain ⟨j, h1, h2, h3⟩ := h.ex
 obtain ⟨j', h1', h2', h3'⟩ := h'.ex
 have e1 := h.le2 j' h1' h2'; have e2 := h'.le2 j h1 h2
 omega
def mxL : List Int → Int → Int
 | [], m => m
 | x :: r, m => mxL r (if m < x then x else m)
theorem mxL_spec : ∀ (l : List Int) (m : Int), m ≤ mxL l m ∧ (∀ x ∈ l, x ≤ mxL l m) ∧ (mxL l m = m ∨ mxL l m ∈ l)
 | [], m => ⟨Int.le_refl _, fun x h => (by cases h), .inl rfl⟩
 | y :: r, m => by
  by_cases c : m < y
  ·have hu : mxL (y :: r) m = mxL r y := by show mxL r (if m < y then y else m) = _; rw [if_pos c]
   obtain ⟨h1, h2, h3⟩ := mxL_spec r y
   rw [hu]
   refine ⟨by omega, fun x hx => ?_, .inr ?_⟩
   ·rcases List.mem_cons.1 hx with e | e
    ·rw [e]; exact h1
    ·exact h2 x e
   ·rcases h3 with h3 | h3
    ·rw [h3]; simp
    ·simp [h3]
  ·have hu : mxL (y :: r) m = mxL r m := by show mxL r (if m < y then y else m) = _; rw [if_neg c]
   obtain ⟨h1, h2, h3⟩ := mxL_spec r m
   rw [hu]
   refine ⟨h1, fun x hx => ?_, ?_⟩
   ·rcases List.mem_cons.1 hx with e | e
    ·rw [e]; omega
    ·exact h2 x e
   ·rcases h3 with h3 | h3
    ·exact .inl h3
    ·exact .inr (by simp [h3])
def mx : List Int → Int
 | [] => 0
 | x :: r => mxL r x
theorem mx_spec {l : List Int} (h : l ≠ []) : (∀ x ∈ l, x ≤ mx l) ∧ mx l ∈ l := by
 match l, h with
 | x :: r, _ =>
  obtain ⟨h1, h2, h3⟩ := mxL_spec r x
  refine ⟨fun y hy => ?_, ?_⟩
  ·rcases List.mem_cons.1 hy with e | e
   ·rw [e]; exact h1
   ·exact h2 y e
  ·rcases h3 with e | e
   ·rw [show mx (x :: r) = mxL r x from rfl, e]; simp
   ·rw [show mx (x :: r) = mxL r x from rfl]; simp [e]
def corL (C : Nat → Int) : Nat → List Int
 | 0 => []
 | n + 1 => corL C n ++ [C n]
theorem corL_len (C : Nat → Int) : ∀ n, (corL C n).length = n
 | 0 => rfl
 | n + 1 => by simp [corL, corL_len C n]
theorem corL_get (C : Nat → Int) : ∀ (n i : Nat), i < n → (corL C n)[i]? = some (C i)
 | n + 1, i, h => by
  by_cases c : i < n
  ·simp only [corL]; rw [List.getElem?_append_left (by rw [corL_len]; exact c)]; exact corL_get C n i c
  ·have : i = n := by omega
   subst this
   simp only [corL]; rw [List.getElem?_append_right (by rw [corL_len]; exact Nat.le_refl _), corL_len, Nat.sub_self]; rfl
theorem corL_mem (C : Nat → Int) (n : Nat) (x : Int) : x ∈ corL C n ↔ ∃ i, i < n ∧ C i = x := by
 constructor
 ·intro h
  obtain ⟨i, hi⟩ := List.mem_iff_getElem?.1 h
  have hl : i < n := by
   have := (List.getElem?_eq_some_iff.1 hi).1
   rwa [corL_len] at this
  rw [corL_get C n i hl] at hi
  exact ⟨i, hl, by simpa using hi⟩
 ·rintro ⟨i, hi, rfl⟩
  exact List.mem_of_getElem? (corL_get C n i hi)
def oth (l : List Int) (a : Nat) : List Int := l.take a ++ l.drop (a + 1)
theorem oth_len {l : List Int} {a : Nat} (h : a < l.length) : (oth l a).length = l.length - 1 := by
 unfold oth; simp; omega
theorem oth_mem (C : Nat → Int) {n a : Nat} (h : a < n) (x : Int) : x ∈ oth (corL C n) a ↔ ∃ i, i < n ∧ i ≠ a ∧ C i = x := by
 unfold oth
 rw [List.mem_append]
 constructor
 ·rintro (hx | hx)
  ·obtain ⟨i, hi⟩ := List.mem_iff_getElem?.1 hx
   rw [List.getElem?_take] at hi
   split at hi
   ·rename_i c
    rw [corL_get C n i (by omega)] at hi
    exact ⟨i, by omega, by omega, by simpa using hi⟩
   ·contradiction
  ·obtain ⟨i, hi⟩ := List.mem_iff_getElem?.1 hx
   rw [List.getElem?_drop] at hi
   have hl : a + 1 + i < n := by
    have := (List.getElem?_eq_some_iff.1 hi).1
    rwa [corL_len] at this
   rw [corL_get C n _ hl] at hi
   exact ⟨a + 1 + i, hl, by omega, by simpa using hi⟩
 ·rintro ⟨i, h1, h2, h3⟩
  by_cases c : i < a
  ·refine .inl (List.mem_iff_getElem?.2 ⟨i, ?_⟩)
   rw [List.getElem?_take, if_pos c, corL_get C n i h1, h3]
  ·refine .inr (List.mem_iff_getElem?.2 ⟨i - (a + 1), ?_⟩)
   rw [List.getElem?_drop, show a + 1 + (i - (a + 1)) = i by omega, corL_get C n i h1, h3]
def idx (C : Nat → Int) (v : Int) : Nat → Nat → Nat
 | 0, i => i
 | m + 1, i => if v = C i then i else idx C v m (i + 1)
theorem idx_spec (C : Nat → Int) (v : Int) : ∀ (m i : Nat), (∃ j, i ≤ j ∧ j < i + m ∧ C j = v) → i ≤ idx C v m i ∧ idx C v m i < i + m ∧ C (idx C v m i) = v ∧ ∀ j, i ≤ j → j < idx C v m i → C j ≠ v
 | 0, i, ⟨j, h1, h2, _⟩ => by omega
 | m + 1, i, ⟨j, h1, h2, h3⟩ => by
  have hu : idx C v (m + 1) i = if v = C i then i else idx C v m (i + 1) := rfl
  rw [hu]
  by_cases c : v = C i
  ·rw [if_pos c]; exact ⟨Nat.le_refl _, by omega, c.symm, fun u h4 h5 => by omega⟩
  ·rw [if_neg c]
   have hj : i ≠ j := fun e => c (by rw [e]; exact h3.symm)
   obtain ⟨k1, k2, k3, k4⟩ := idx_spec C v m (i + 1) ⟨j, by omega, by omega, h3⟩
   refine ⟨by omega, by omega, k3, fun u h4 h5 => ?_⟩
   by_cases e : u = i
   ·rw [e]; exact fun h => c h.symm
   ·exact k4 u (by omega) h5
theorem fnd_code (C : Nat → Int) {N : Nat} (hN : 2 ≤ N) : Fnd C N (idx C (mx (corL C N)) N 0) (mx (corL C N)) (mx (oth (corL C N) (idx C (mx (corL C N)) N 0))) := by
 have hne : corL C N ≠ [] := fun h => by have := corL_len C N; rw [h] at this; simp at this; omega
 obtain ⟨h1, h2⟩ := mx_spec hne
 obtain ⟨j, hj, hje⟩ := (corL_mem C N _).1 h2
 obtain ⟨k1, k2, k3, k4⟩ := idx_spec C (mx (corL C N)) N 0 ⟨j, by omega, by omega, hje⟩
 rw [Nat.zero_add] at k2
 generalize idx C (mx (corL C N)) N 0 = a at *
 have hle : ∀ j, j < N → C j ≤ mx (corL C N) := fun j hj => h1 _ ((corL_mem C N _).2 ⟨j, hj, rfl⟩)
 have hne2 : oth (corL C N) a ≠ [] := fun h => by
  have := oth_len (l := corL C N) (a := a) (by rw [corL_len]; exact k2)
  rw [h, corL_len] at this; simp at this; omega
 obtain ⟨g1, g2⟩ := mx_spec hne2
 exact ⟨k2, k3, hle, fun j hj => by
   have e1 := hle j (by omega); have e2 := k4 j (by omega) hj
   omega, (oth_mem C k2 _).1 g2, fun j hj hja => g1 _ ((oth_mem C k2 _).2 ⟨j, hj, hja, rfl⟩)⟩
theorem l118 (hE : EnvOk E) (xs : List Int) (n : Nat) (hn : xs.length = n) (hm : n ≤ 4000000) : ∀ m i u, m + i = n → ∀ j, OutK E 0 0 (q118 (iD xs) [] (n) 0 (i) 0 0 0 0 0 0 0 0 0 0 (u) 0 0 0 false [] [] [] [] j) (Go.Ev.Ends E Tryz.f118 (iI (mxL (xs.drop i) u)) [])
 | 0, i, u, hk, j => by
  have e1 : xs.drop i = [] := List.drop_eq_nil_of_le (by omega)
  rw [e1]
  exact p118x hE (iD xs) [] (n) 0 (i) 0 0 0 0 0 0 0 0 0 0 (u) 0 0 0 false [] [] [] [] (decide_eq_false (by simp only [Int.ofNat_eq_natCast]; omega)) (fun j => outK_ret (ends_ret (by kernel_rfl))) j
 | m + 1, i, u, hk, j => by
  have hlt : i < xs.length := by omega
  have hx : xs[i]? = some xs[i] := List.getElem?_eq_getElem hlt
  have e1 : xs.drop i = xs[i] :: xs.drop (i + 1) := List.drop_eq_getElem_cons hlt
  rw [e1]
  generalize xs[i] = x at hx e1
  exact p118s hE (iD xs) [] (n) 0 (i) 0 0 0 0 0 0 0 0 0 0 (u) (x) (if u < x then x else u) 0 false [] [] [] [] (decide_eq_true (by simp only [Int.ofNat_eq_natCast]; omega)) ⟨by simp only [Int.ofNat_eq_natCast]; omega, by simp only [Int.ofNat_eq_natCast]; omega⟩ (Nat.mul_one _) (getI hx) rfl (iIe (by simp only [Int.ofNat_eq_natCast]; rw [wrap_id (by omega) (by omega)]; try omega)) (l118 hE xs n hn hm m (i + 1) _ (by omega)) j
theorem K118 (hE : EnvOk E) (xs : List Int) (n : Nat) (hn : xs.length = n) (hm : n ≤ 4000000) (h0 : 0 < n) : COut E 0 [] 118 [.e (.one (.dp (.s (iD xs) n 1)))] (iI (mx xs)) [] := by
 obtain ⟨x, r, rfl⟩ : ∃ x r, xs = x :: r := by
  match xs, hn with
  | x :: r, _ => exact ⟨x, r, rfl⟩
  | [], h => exact absurd h (by simp; omega)
 exact cOut_start Tryz.func118 rfl (p118a hE (iD (x :: r)) [] (n) 0 0 0 0 0 0 0 0 0 0 0 0 (x) 0 0 0 false [] [] [] [] (decide_eq_false (by omega)) ⟨by omega, by omega⟩ rfl (l118 hE (x :: r) n hn hm (n - 1) 1 x (by omega)) fun _ => undef)
theorem l119 (hE : EnvOk E) (xs : List Int) (F : Nat → Int) (n : Nat) (hm : n ≤ 4000000) (hF : ∀ i, i < n → xs[i]? = some (F i)) (v : Int) : ∀ m i, m + i = n → (∃ k, i ≤ k ∧ k < n ∧ F k = v) → ∀ j, OutK E 0 0 (q119 (iD xs) [] (n) 0 (i) 0 0 0 0 0 0 0 0 0 0 0 (v) 0 0 false [] [] [] [] j) (Go.Ev.Ends E Tryz.f119 (iI (Int.ofNat (idx F v m i))) [])
 | 0, i, hk, hv, j => by
  obtain ⟨k, h1, h2, _⟩ := hv
  omega
 | m + 1, i, hk, hv, j => by
  have hx := hF i (by omega)
  by_cases h : v = F i
  ·rw [show idx F v (m + 1) i = i from if_pos h]
   exact p119e hE (iD xs) [] (n) 0 (i) 0 0 0 0 0 0 0 0 0 0 (F i) (v) 0 0 false [] [] [] [] (decide_eq_true (by simp only [Int.ofNat_eq_natCast]; omega)) ⟨by simp only [Int.ofNat_eq_natCast]; omega, by simp only [Int.ofNat_eq_natCast]; omega⟩ (Nat.mul_one _) (getI hx) (beq_iff_eq.2 h) (fun j => outK_ret (ends_ret (by kernel_rfl))) j
  ·rw [show idx F v (m + 1) i = idx F v m (i + 1) from if_neg h]
   refine p119s hE (iD xs) [] (n) 0 (i) 0 0 0 0 0 0 0 0 0 0 (F i) (v) 0 0 false [] [] [] [] (decide_eq_true (by simp only [Int.ofNat_eq_natCast]; omega)) ⟨by simp only [Int.ofNat_eq_natCast]; omega, by simp only [Int.ofNat_eq_natCast]; omega⟩ (Nat.mul_one _) (getI hx) (beq_eq_false_iff_ne.2 h) (iIe (by simp only [Int.ofNat_eq_natCast]; rw [wrap_id (by omega) (by omega)]; try omega)) (l119 hE xs F n hm hF v m (i + 1) (by omega) ?_) j
   obtain ⟨k, h1, h2, h3⟩ := hv
   exact ⟨k, by
    rcases Nat.eq_or_lt_of_le h1 with e | e
    ·rw [e] at h; exact absurd h3.symm h
    ·exact e, h2, h3⟩
theorem K119 (hE : EnvOk E) (xs : List Int) (F : Nat → Int) (n : Nat) (hm : n ≤ 4000000) (hF : ∀ i, i < n → xs[i]? = some (F i)) (v : Int) (hv : ∃ k, k < n ∧ F k = v) : COut E 0 [] 119 [.e (.one (.dp (.s (iD xs) n 1))), iI v] (iI (Int.ofNat (idx F v n 0))) [] := by
 obtain ⟨k, h1, h2⟩ := hv
 exact cOut_start Tryz.func119 rfl (p119a hE (iD xs) [] (n) 0 0 0 0 0 0 0 0 0 0 0 0 0 (v) 0 0 false [] [] [] [] (l119 hE xs F n hm hF v n 0 (by omega) ⟨k, by omega, h1, h2⟩) fun _ => undef)
def nb (ws : List Nat) (i : Nat) : Nat := ws[i]?.getD 0
def cr (ws ps : List Nat) (a : Nat) : Nat → Nat → Int → Int
 | 0, _, s => s
 | m + 1, i, s => cr ws ps a m (i + 1) (wrapF .i64 (s + wrapF .i64 (intW (nb ps i) * intW (nb ws (a + i)))))
theorem nb_get {ws : List Nat} {i : Nat} (h : i < ws.length) : getL (fDT ws) i = some (.v (.float .f32 (nb ws i))) := by
 rw [getL_eq, List.getElem?_map, List.getElem?_eq_getElem h, nb, List.getElem?_eq_getElem h]; rfl
theorem nb_drop {ws : List Nat} {a i : Nat} (h : a + i < ws.length) : getL ((fDT ws).drop a) i = some (.v (.float .f32 (nb ws (a + i)))) := by
 have := nb_get (ws := ws) (i := a + i) h
 rw [getL_eq] at this ⊢
 rw [List.getElem?_drop]; exact this
theorem nb_chk {ws : List Nat} (hc : ∀ b ∈ ws, chkW 1024 b = 0) {i : Nat} (h : i < ws.length) : chkW 1024 (nb ws i) = 0 := by
 rw [nb, List.getElem?_eq_getElem h]
 exact hc _ (List.getElem_mem h)
theorem l117 (hE : EnvOk E) {ws ps : List Nat} (hc : ∀ b ∈ ws, chkW 1024 b = 0) (hd : ∀ b ∈ ps, chkW 1024 b = 0) (n p a : Nat) (hn : ws.length = n) (hp : ps.length = p) (hm : n ≤ 4000000) (ha : a + p ≤ n) : ∀ m i s, m + i = p → ∀ j, OutK E 0 0 (q117 ((fDT ws).drop a) (fDT ps) (n - a) (p) (i) 0 0 0 0 0 0 0 0 0 (s) 0 0 0 0 false [] [] [] [] j) (Go.Ev.Ends E Tryz.f117 (iI (cr ws ps a m i s)) [])
 | 0, i, s, hk, j => p117x hE ((fDT ws).drop a) (fDT ps) (n - a) (p) (i) 0 0 0 0 0 0 0 0 0 (s) 0 0 0 0 false [] [] [] [] (decide_eq_false (by simp only [Int.ofNat_eq_natCast]; omega)) (fun j => outK_ret (ends_ret (by kernel_rfl))) j
 | m + 1, i, s, hk, j => p117s hE ((fDT ws).drop a) (fDT ps) (n - a) (p) (i) 0 0 (nb ps i) (nb ws (a + i)) (intW (nb ps i)) (intW (nb ws (a + i))) (wrapF .i64 (intW (nb ps i) * intW (nb ws (a + i)))) (wrapF .i64 (s + wrapF .i64 (intW (nb ps i) * intW (nb ws (a + i))))) 0 (s) 0 0 0 0 false [] [] [] [] (decide_eq_true (by simp only [Int.ofNat_eq_natCast]; omega)) ⟨by simp only [Int.ofNat_eq_natCast]; omega, by simp only [Int.ofNat_eq_natCast]; omega⟩ (Nat.mul_one _) (nb_get (by omega)) (k106 hE (L := 1024) (by decide) (nb_chk hd (by omega))) ⟨by simp only [Int.ofNat_eq_natCast]; omega, by simp only [Int.ofNat_eq_natCast]; omega⟩ (Nat.mul_one _) (nb_drop (by omega)) (k106 hE (L := 1024) (by decide) (nb_chk hc (by omega))) rfl rfl (iIe (by simp only [Int.ofNat_eq_natCast]; rw [wrap_id (by omega) (by omega)]; try omega)) (l117 hE hc hd n p a hn hp hm ha m (i + 1) _ (by omega)) j
theorem K117 (hE : EnvOk E) {ws ps : List Nat} (hc : ∀ b ∈ ws, chkW 1024 b = 0) (hd : ∀ b ∈ ps, chkW 1024 b = 0) (n p a : Nat) (hn : ws.length = n) (hp : ps.length = p) (hm : n ≤ 4000000) (ha : a + p ≤ n) : COut E 0 [] 117 [.e (.one (.dp (.s ((fDT ws).drop a) (n - a) 1))), .e (.one (.dp (.s (fDT ps) p 1)))] (iI (cr ws ps a p 0 0)) [] :=
 cOut_start Tryz.func117 rfl (p117a hE ((fDT ws).drop a) (fDT ps) (n - a) (p) 0 0 0 0 0 0 0 0 0 0 0 0 0 0 0 false [] [] [] [] (l117 hE hc hd n p a hn hp hm ha p 0 0 rfl) fun _ => undef)
def chkPi (ps : List Nat) : Int := firstI [if ps.length = 0 then 12 else 0, if 64 < ps.length then 5 else chkL ps]
theorem K97p (hE : EnvOk E) (ws : List Nat) (hm : ws.length ≤ 4000000) : COut E 0 [] 97 [.e (.one (dF ws).ac), iI 64, .e (.one (.v (.func (.func 24) #[] #[])))] (iI (if 64 < ws.length then 5 else chkL ws)) [] := by
 by_cases h : 64 < ws.length
 ·rw [if_pos h]
  exact cOut_start Tryz.func97 rfl (p97a hE _ _ 64 0 (decide_eq_true (by omega)) (fun j => outK_ret (ends_ret (by kernel_rfl))) fun _ => undef)
 ·rw [if_neg h]
  exact cOut_start Tryz.func97 rfl (p97b hE _ _ 64 _ (decide_eq_false (by omega)) (K98 hE ws hm) (fun j => outK_ret (ends_ret (by kernel_rfl))) fun _ => undef)
theorem get3 {f g h : Int} : ∀ (k : Nat) (x : Int), [f, g, h][k]? = some x → getL [AC.v (.int .i64 f), AC.v (.int .i64 g), AC.v (.int .i64 h)] (0 + k) = some (.v (.int .i64 x)) := by
 intro k x hk
 match k, hk with
 | 0, hk => simp at hk; subst hk; rfl
 | 1, hk => simp at hk; subst hk; rfl
 | 2, hk => simp at hk; subst hk; rfl
 | k + 3, hk => simp at hk
theorem len0 (n : Nat) (c d : Int) : (if ((n : Int) == 0) = true then c else d) = if n = 0 then c else d := by
 by_cases h : n = 0
 ·simp [h]
 ·rw [if_neg h, if_neg (by simpa using h)]
theorem K116 (hE : EnvOk E) (ps : List Nat) (p : Nat) (hp : ps.length = p) (hm : p ≤ 4000000) : COut E 0 [] 116 [.e (.one (.dp (.s (fDT ps) p 1)))] (iI (chkPi ps)) [] := by
 subst hp
 have h1 := k107 hE ((ps.length : Int) == 0) 12
 rw [len0] at h1
 exact cOut_clear (cOut_start Tryz.func116 rfl (p116 hE [] (fDT ps) 0 (ps.length) 0 0 0 0 0 (if ps.length = 0 then 12 else 0) (if 64 < ps.length then 5 else chkL ps) (chkPi ps) 0 0 0 0 0 0 0 false [] [] [] [] h1 (K97p hE ps hm) (k102 hE [if ps.length = 0 then 12 else 0, if 64 < ps.length then 5 else chkL ps] rfl (by decide) get2) (fun j => outK_ret (ends_ret (by kernel_rfl))) fun _ => undef)) rfl
theorem K50 (hE : EnvOk E) (ps : List Nat) (p : Nat) (hp : ps.length = p) (hm : p ≤ 4000000) : COut E 0 [] 50 [.e (.one (.dp (.s (fDT ps) p 1)))] (iI (chkPi ps)) [] := by
 subst hp
 have h1 := k60 hE ((ps.length : Int) == 0) 12
 rw [len0] at h1
 have h2 := k60 hE (decide ((ps.length : Int) > 64)) 5
 have e : chkPi ps = firstI [if ps.length = 0 then 12 else 0, if decide ((ps.length : Int) > 64) = true then 5 else 0, chkL ps] := by
  unfold chkPi
  by_cases h : 64 < ps.length
  ·rw [if_pos h, decide_eq_true (show (ps.length : Int) > 64 by omega)]
   by_cases h0 : ps.length = 0
   ·omega
   ·rw [if_neg h0]; rfl
  ·rw [if_neg h, decide_eq_false (show ¬ (ps.length : Int) > 64 by omega)]
   by_cases h0 : ps.length = 0
   ·rw [if_pos h0]; rfl
   ·rw [if_neg h0]; simp [firstI]
 rw [e]
 exact cOut_clear (cOut_start Tryz.func50 rfl (p50 hE [] (fDT ps) 0 (ps.length) 0 0 0 0 0 (if ps.length = 0 then 12 else 0) (if decide ((ps.length : Int) > 64) = true then 5 else 0) (chkL ps) (_) 0 0 0 0 0 0 false [] [] [] [] h1 h2 (K38 hE ps hm) (k104 hE [_, _, _] rfl (by decide) get3) (fun j => outK_ret (ends_ret (by kernel_rfl))) fun _ => undef)) rfl
def hp2 : Option AB := some ⟨[.v (.int .i64 0), .v (.int .i64 0)], 2, 80, true, .cells⟩
abbrev iCC (l : List Int) : List AC := (iD l).map DT.ac
theorem flat_iCC (l : List Int) : FlatC (iCC l) := by
 intro x hx
 simp only [iCC, iD, List.mem_map] at hx
 obtain ⟨_, ⟨z, _, rfl⟩, rfl⟩ := hx
 exact ⟨_, rfl⟩
theorem oneCC (l : List Int) : (iCC l).all AC.isOne = true := by
 rw [List.all_eq_true]
 intro x hx
 simp only [iCC, iD, List.mem_map] at hx
 obtain ⟨_, ⟨z, _, rfl⟩, rfl⟩ := hx
 rfl
theorem K120 (hE : EnvOk E) (xs : List Int) (n a : Nat) (hn : xs.length = n) (hm : n ≤ 100000) (ha : a < n) : COut E 0 [hp2, some ⟨iCC xs, n, 3, false, .cells⟩] 120 [.e (.one (.slc 1 0 n 1 n false)), iI (Int.ofNat a), iI (Int.ofNat (a + 1))] (.e (.one (.slc 1 0 (n - 1) 1 n false))) [hp2, some ⟨iCC (oth xs a ++ [0]), n, 3, false, .cells⟩] := by
 by_cases h : a + 1 < n
 ·have e1 : takeL (dropL (iCC xs) (a + 1)) ((n - (a + 1)) * 1) = some (iCC (xs.drop (a + 1))) := by
   rw [Nat.mul_one, takeL_eq, dropL_eq, if_pos (by simp; omega), ← List.map_drop, ← List.map_drop, List.take_of_length_le (by simp; omega)]
  have e2 : overL (iCC (xs.drop (a + 1))) (iCC xs) (0 + a * 1) = iCC (oth xs a ++ xs.drop (n - 1)) := by
   rw [Nat.mul_one, Nat.zero_add, overL_eq _ _ _ (by simp; omega)]
   simp only [iCC, iD, List.map_append, List.map_take, List.map_drop, oth, List.length_map, List.length_drop]
   rw [show a + (xs.length - (a + 1)) = n - 1 by omega]
  have e3 : overL (repeatC [AC.v (.int .i64 0)] 1) (iCC (oth xs a ++ xs.drop (n - 1))) (n - 1) = iCC (oth xs a ++ [0]) := by
   have hl : (oth xs a).length = n - 1 := by rw [oth_len (by omega)]; omega
   rw [show repeatC [AC.v (.int .i64 0)] 1 = [AC.v (.int .i64 0)] from rfl, overL_eq _ _ _ (by simp [hl]; omega)]
   simp only [iCC, iD, List.map_append]
   rw [List.take_append_of_le_length (by simp [hl]), List.take_of_length_le (by simp [hl]), List.drop_of_length_le (by simp [hl]; omega)]
   simp
   rfl
  exact cOut_start Tryz.func120 rfl (p120 hE [] [] (n) 0 (n - (a + 1)) (a) (n - 1) 0 0 0 0 0 0 0 0 0 0 0 0 false (iCC xs) (iCC (oth xs a ++ xs.drop (n - 1))) (iCC (oth xs a ++ [0])) (iCC (xs.drop (a + 1))) ⟨by omega, by omega, by omega⟩ (by first | rfl | (show _ = 0 + _ * 1; omega)) (by omega) (beq_eq_false_iff_ne.2 (by simp only [Int.ofNat_eq_natCast]; omega)) ⟨by omega, by omega⟩ (by omega) (by omega) ⟨by omega, by omega⟩ (by first | rfl | (show _ = 0 + _ * 1; omega)) (by omega) (by omega) (by omega) (by omega) (by simp [small]; omega) e1 (oneCC _) (show 0 + _ * 1 ≤ _ by omega) e2 ⟨by omega, by omega⟩ (by first | rfl | (show _ = 0 + _ * 1; omega)) (by omega) (by omega) (by omega) (by omega) (by omega) e3 (fun j => outK_ret (ends_ret (by kernel_rfl))) fun _ => undef)
 ·have ea : a = n - 1 := by omega
  have e3 : overL (repeatC [AC.v (.int .i64 0)] 1) (iCC xs) a = iCC (oth xs a ++ [0]) := by
   rw [show repeatC [AC.v (.int .i64 0)] 1 = [AC.v (.int .i64 0)] from rfl, overL_eq _ _ _ (by simp; omega)]
   simp only [iCC, iD, List.map_append, oth, List.map_take, List.map_drop]
   rw [List.drop_of_length_le (by simp; omega)]
   rw [List.drop_of_length_le (by simp; omega)]
   simp
   rfl
  rw [← ea]
  exact cOut_start Tryz.func120 rfl (p120z hE [] [] (n) 0 0 (a) 0 0 0 0 0 0 0 0 0 0 0 0 0 false (iCC xs) [] (iCC (oth xs a ++ [0])) [] ⟨by omega, by omega, by omega⟩ (by first | rfl | (show _ = 0 + _ * 1; omega)) (by omega) (beq_eq_false_iff_ne.2 (by simp only [Int.ofNat_eq_natCast]; omega)) ⟨by omega, by omega⟩ (by omega) (by omega) ⟨by omega, by omega⟩ (by first | rfl | (show _ = 0 + _ * 1; omega)) (by omega) (by omega) ⟨by omega, by omega⟩ (by first | rfl | (show _ = 0 + _ * 1; omega)) (by omega) (by omega) (by omega) (by omega) (by omega) e3 (fun j => outK_ret (ends_ret (by kernel_rfl))) fun _ => undef)
end
end Go.Proofs.YtbmcfhkedgpldaaGreatDoor
end

/-! SePe -/
section
open Go Go.Ev
namespace Go.Proofs.YtbmcfhkedgpldaaGreatDoor
noncomputable section
set_option maxRecDepth 100000
set_option maxHeartbeats 20000000
open Ieee
theorem lend2 (lv : Nat) (_hE : EnvOk E) (f : FuncId) (xs : List Int) (r : Int) (ty : Nat) (fl : Bool) (hc : COut E 0 [] f [dI xs] (iI r) []) (h : Heap) (i : Nat) (hh : getL h i = some (some ⟨(iD xs).map DT.ac, xs.length, ty, fl, .cells⟩)) : COut E lv h f [.e (.one (.slc i 0 xs.length 1 xs.length true))] (iI r) h :=
 cOut_lend h hc ⟨.inr ⟨i, 0, xs.length, 1, xs.length, true, iD xs, iD xs, xs.length, ty, fl, rfl, rfl, hh, by rw [takeL_eq, dropL_eq, List.drop_zero, if_pos (by simp), List.take_of_length_le (by simp)]⟩, trivial⟩ rfl rfl
end
end Go.Proofs.YtbmcfhkedgpldaaGreatDoor
end

/-! SeEqF -/
section
open Go Go.Ev Go.RowKit
namespace Go.Proofs.YtbmcfhkedgpldaaGreatDoor
noncomputable section
section
variable {P : Program} (w : World)
theorem run_equalIn_cells (d : Nat) (t e : TypeId) (n : Nat) {u : TypeDesc} (hag : isAggD u = false) (ht : P.underlying t = some (.array n e)) (he : P.underlying e = some u) (hsz : ∀ w, (sizeOf e).run P w = .ok 1 w)
  (xs ys : List Value) (hx : xs.length = n) (hy : ys.length = n) (q : Nat → Bool) (hq : ∀ i x y, xs[i]? = some x → ys[i]? = some y → (Op.equalIn (d + 1) e x y).run P w = .ok (q i) w) :
  (Op.equalIn (d + 2) t (.agg xs.toArray) (.agg ys.toArray)).run P w = .ok ((List.range n).all q) w := by
 rw [List.range_eq_range', Op.equalIn]
 simp only [Sem.run_bind, run_underlying ht, Result.andThen_ok, hsz, Std.Legacy.Range.forIn_eq_forIn_range', Std.Legacy.Range.size, Nat.sub_zero, Nat.add_sub_cancel, Nat.div_one]
 have hl : ∀ i ∈ List.range' 0 n 1, i < n := fun i hi => by simpa using (List.mem_range'_1.1 hi).2
 generalize List.range' 0 n 1 = l at hl ⊢
 induction l with
 | nil => simp
 | cons i l ih =>
  have hi : i < n := hl i (by simp)
  have gx : xs[i]? = some xs[i] := List.getElem?_eq_getElem (show i < xs.length by omega)
  have gy : ys[i]? = some ys[i] := List.getElem?_eq_getElem (show i < ys.length by omega)
  have part_one : ∀ (zs : List Value) (z : Value), zs[i]? = some z → (part e zs.toArray (i * 1)).run P w = .ok z w := by
   intro zs z hz
   have : (isAgg e).run P w = .ok false w := by
    simp only [isAgg, Sem.run_bind, run_underlying he, Result.andThen_ok]
    cases u <;> simp_all [isAggD]
   simp [part, this, hz]
  simp only [List.forIn_cons, Sem.run_bind, part_one xs _ gx, part_one ys _ gy, hq i _ _ gx gy, Result.andThen_ok, List.all_cons]
  cases hb : q i
  ·simp
  ·simp only [Bool.not_true, Bool.false_eq_true, if_false, Sem.run_pure, Result.andThen_ok, Bool.true_and]
   exact ih fun j hj => hl j (by simp [hj])
theorem run_equalIn_float (d : Nat) {e : TypeId} {k : FloatKind} (he : P.underlying e = some (.float k)) (a b : Nat) : (Op.equalIn (d + 1) e (.float k a) (.float k b)).run P w = .ok (Op.floatEq k a b) w := by
 simp [Op.equalIn, run_underlying he]
end
theorem cells_of {m : M} : ∀ {l : List Value} {cs : List Value}, All2 (CR m) (l.map AC.v) cs → cs = l
 | [], [], _ => rfl
 | [], _ :: _, h => h.elim
 | _ :: _, [], h => h.elim
 | x :: l, c :: cs, h => by
  obtain ⟨h1, h2⟩ := h
  rw [cells_of h2, show c = x from h1]
theorem some_of {α β : Type} {o : Option α} {f : α → β} {b : β} (h : o.map f = some b) : ∃ a, o = some a ∧ f a = b := by
 cases o with
 | none => simp at h
 | some a => exact ⟨a, rfl, by simpa using h⟩
theorem size1 {e : TypeId} (h : (Tryz.prog.info? e).map (·.size) = some 1) (w : World) : (sizeOf e).run Tryz.prog w = .ok 1 w := by
 obtain ⟨i, hi, hz⟩ := some_of h
 rw [Go.Ev.run_sizeOf hi w, hz]
theorem eqArr {t e n : Nat} {u : TypeDesc} (hag : isAggD u = false) (ht : Tryz.prog.underlying t = some (.array n e)) (he : Tryz.prog.underlying e = some u) (hsz : (Tryz.prog.info? e).map (·.size) = some 1)
  {xs ys : List Value} (hx : xs.length = n) (hy : ys.length = n) (q : Nat → Bool) (hq : ∀ (w : World) i x y, xs[i]? = some x → ys[i]? = some y → (Op.equalIn 9999 e x y).run Tryz.prog w = .ok (q i) w) : EqOk E t (xs.map AC.v) (ys.map AC.v) ((List.range n).all q) := by
 intro m c1 c2 w h1 h2
 have e1 : c1 = xs.toArray := by rw [← Array.toList_inj]; exact cells_of h1
 have e2 : c2 = ys.toArray := by rw [← Array.toList_inj]; exact cells_of h2
 subst e1 e2
 show (Op.equalIn 10000 t _ _).run Tryz.prog w = _
 exact run_equalIn_cells w 9998 t e n hag ht he (size1 hsz) xs ys hx hy q (hq w)
end
end Go.Proofs.YtbmcfhkedgpldaaGreatDoor
end

/-! SePf -/
section
open Go Go.Ev
namespace Go.Proofs.YtbmcfhkedgpldaaGreatDoor
noncomputable section
set_option maxRecDepth 100000
set_option maxHeartbeats 20000000
def s4 (C : List DT) (n : Nat) (m0 m1 m2 : Bool) (L _e1 _e2 _g _s : Int) (_P _V : List DT) (_p _v : Nat) (_j : Nat → Value) : St := startK Tryz.f4 [] [(.e (.one (.dp (.s C n 1)))), .e (.agg [.v (.bool m0), .v (.bool m1), .v (.bool m2)]), iI L]
open Ieee
theorem K28 (hE : EnvOk E) (ws : List Nat) (hm : ws.length ≤ 1000000) : COut E 0 [] 28 [.e (.one (dF ws).ac)] (.e (.one (dF ws).ac)) [] := by
 have hfl : FlatC ((fDT ws).map DT.ac) := by
  intro c hc
  simp only [List.map_map, List.mem_map] at hc
  obtain ⟨x, _, rfl⟩ := hc
  exact ⟨_, rfl⟩
 have h1 : ((fDT ws).map DT.ac).all AC.isOne = true := by simp [List.all_map, DT.ac, AC.isOne]
 have hc1 : COut E 0 [] 28 [.e (.one (dF ws).ac)] (.e (.one (.slc 0 0 ws.length 1 ws.length (decide (ws.length = 0))))) [some ⟨(fDT ws).map DT.ac, ws.length, 23, decide (ws.length = 0), .cells⟩] := by
  refine cOut_start Tryz.func28 rfl (p28 hE (fDT ws) ws.length ((fDT ws).map DT.ac) (decide (ws.length = 0)) ?_ (Nat.mul_one _) hfl (fun j => outK_ret (ends_ret (by kernel_rfl))) fun _ => undef)
  by_cases h0 : ws.length = 0
  ·exact .inl ⟨decide_eq_true h0, h0, by simp [List.eq_nil_of_length_eq_zero h0], _, _, by rw [h0]⟩
  ·exact .inr (.inl ⟨decide_eq_false h0, by omega, by simp [small]; omega, h1, _, rfl, rfl, by simp⟩)
 exact cOut_clear (cOut_freeze 0 hc1 rfl (Nat.zero_le _) (ds := fDT ws) (.inr ⟨0, ws.length, 1, ws.length, _, fDT ws, rfl, rfl, by rw [takeL_eq, dropL_eq, List.drop_zero, if_pos (by simp), List.take_of_length_le (by simp)]⟩)) rfl
end
end Go.Proofs.YtbmcfhkedgpldaaGreatDoor
end
