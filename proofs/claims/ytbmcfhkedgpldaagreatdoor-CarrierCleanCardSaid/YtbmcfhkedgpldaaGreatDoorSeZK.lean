/-
  Part of the proof: SeMf, SeMg, SeCm, SyO, SeCq.
-/
import Derived.Test.YtbmcfhkedgpldaaGreatDoorSeZJ

/-! SeMf -/
section
open Go Go.Ev
namespace Go.Proofs.YtbmcfhkedgpldaaGreatDoor
noncomputable section
set_option maxRecDepth 100000
set_option maxHeartbeats 20000000
def sI (T : Tm) (ps : Array Tmp) (asg bod : Code) (C : List DT) (n _i _k _m _N _N2 _m7 _N7 _M7 : Nat) (_ph _qq c d _c' _d' : Int) (_D _D2 _D7 _E7 : List AC) (_b0 _b1 _b2 _b3 : Nat) (_w0 _w1 _w2 _w3 : Int) (_r : List DT) (_j : Nat → Value) : St := startK Tryz.f155 [some ⟨[.v (.slice none 0 0)], 1, 25, true, .cells⟩, some ⟨[.v (.slice none 0 0)], 1, 25, true, .cells⟩, some ⟨[.v (.int .i64 c), .v (.int .i64 d)], 2, 160, true, .cells⟩, some ⟨[.dp (.s C n 1)], 1, 42, true, .cells⟩, some markEnt, lpV T ps asg bod] [.e (.one (.yld 5)), .e (.one (.ptr 3 0))]
def qIn (T : Tm) (ps : Array Tmp) (asg bod : Code) (C : List DT) (n i k _m _N _N2 _m7 _N7 _M7 : Nat) (_ph _qq c d _c' _d' : Int) (_D _D2 _D7 _E7 : List AC) (_b0 _b1 _b2 _b3 : Nat) (_w0 _w1 _w2 _w3 : Int) (_r : List DT) (j : Nat → Value) : St := ⟨[some ⟨[.v (.slice none 0 0)], 1, 25, true, .cells⟩, some ⟨[.v (.slice none 0 0)], 1, 25, true, .cells⟩, some ⟨[.v (.int .i64 c), .v (.int .i64 d)], 2, 160, true, .cells⟩, some ⟨[.dp (.s C n 1)], 1, 42, true, .cells⟩, some markEnt, lpV T ps asg bod], [(.code (atC [1, 0, 0] (bodyOf Tryz.f155))), (.inLoop (atC [1, 0, 0] (bodyOf Tryz.f155))), (.inBlock 0)], mkT j [(0, (.e (.one (.yld 5)))), (1, (.e (.one (.ptr 3 0)))), (6, (iI (Int.ofNat k))), (7, (iI (Int.ofNat i)))] 22 0⟩
def qIi (T : Tm) (ps : Array Tmp) (asg bod : Code) (C : List DT) (n i k m N _N2 _m7 _N7 _M7 : Nat) (_ph _qq c d _c' _d' : Int) (D _D2 _D7 _E7 : List AC) (_b0 _b1 _b2 _b3 : Nat) (_w0 _w1 _w2 _w3 : Int) (_r : List DT) (j : Nat → Value) : St := ⟨[some ⟨[.slc 6 0 m 1 m false], 1, 25, true, .cells⟩, some ⟨[.v (.slice none 0 0)], 1, 25, true, .cells⟩, some ⟨[.v (.int .i64 c), .v (.int .i64 d)], 2, 160, true, .cells⟩, some ⟨[.dp (.s C n 1)], 1, 42, true, .cells⟩, some markEnt, lpV T ps asg bod, some ⟨D, N, 3, false, .cells⟩], [(.code (atC [1, 0, 0] (bodyOf Tryz.f155))), (.inLoop (atC [1, 0, 0] (bodyOf Tryz.f155))), (.inBlock 0)], mkT j [(0, (.e (.one (.yld 5)))), (1, (.e (.one (.ptr 3 0)))), (6, (iI (Int.ofNat k))), (7, (iI (Int.ofNat i)))] 22 0⟩
def qId (T : Tm) (ps : Array Tmp) (asg bod : Code) (C : List DT) (n i k m N _N2 m7 N7 _M7 : Nat) (_ph _qq c d _c' _d' : Int) (D _D2 D7 _E7 : List AC) (_b0 _b1 _b2 _b3 : Nat) (_w0 _w1 _w2 _w3 : Int) (_r : List DT) (j : Nat → Value) : St := ⟨[some ⟨[.slc 6 0 m 1 m false], 1, 25, true, .cells⟩, some ⟨[.slc 7 0 m7 1 m7 false], 1, 25, true, .cells⟩, some ⟨[.v (.int .i64 c), .v (.int .i64 d)], 2, 160, true, .cells⟩, some ⟨[.dp (.s C n 1)], 1, 42, true, .cells⟩, some markEnt, lpV T ps asg bod, some ⟨D, N, 3, false, .cells⟩, some ⟨D7, N7, 3, false, .cells⟩], [(.code (atC [1, 0, 0] (bodyOf Tryz.f155))), (.inLoop (atC [1, 0, 0] (bodyOf Tryz.f155))), (.inBlock 0)], mkT j [(0, (.e (.one (.yld 5)))), (1, (.e (.one (.ptr 3 0)))), (6, (iI (Int.ofNat k))), (7, (iI (Int.ofNat i)))] 22 0⟩
def pIa_end (T : Tm) (ps : Array Tmp) (asg : Code) (bod : Code) (C : List DT) (n _i k _m _N _N2 _m7 _N7 _M7 : Nat) (_ph _qq c d _c' _d' : Int) (_D _D2 _D7 _E7 : List AC) (_b0 _b1 _b2 _b3 : Nat) (_w0 _w1 _w2 _w3 : Int) (_r : List DT) (j : Nat → Value) : St := ⟨[(.some ⟨[(.v (.slice none 0 0))], 1, 25, true, .cells⟩), (.some ⟨[(.v (.slice none 0 0))], 1, 25, true, .cells⟩), (.some ⟨[(.v (.int .i64 (c))), (.v (.int .i64 (d)))], 2, 160, true, .cells⟩), (.some ⟨[(.dp (.s (C) (n) 1))], 1, 42, true, .cells⟩), (.some ⟨[], 0, 0, false, .mark⟩), (.some ⟨[], 0, 0, false, (.loop .ready none (T) (ps) (asg) (bod))⟩)], [(.code (atC [1, 0, 0] (bodyOf Tryz.f155))), (.inLoop (atC [1, 0, 0] (bodyOf Tryz.f155))), (.inBlock 0)], mkT j [(0, (.e (.one (.yld 5)))), (1, (.e (.one (.ptr 3 0)))), (6, (iI (Int.ofNat k))), (7, (iI 0))] 22 0⟩
theorem pIa (hE : EnvOk E) (T : Tm) (ps : Array Tmp) (asg : Code) (bod : Code) (C : List DT) (n i k m N N2 m7 N7 M7 : Nat) (ph qq c d c' d' : Int) (D D2 D7 E7 : List AC) (b0 b1 b2 b3 : Nat) (w0 w1 w2 w3 : Int) (r : List DT) (h0 : ((iI (wrapF IntKind.i64 ((↑n : Int).tdiv (4 : Int)))) : AV) = (iI (Int.ofNat k))) {Φ : Res → Prop} (ho : ∀ j, OutK E 0 6 (pIa_end T ps asg bod C n i k m N N2 m7 N7 M7 ph qq c d c' d' D D2 D7 E7 b0 b1 b2 b3 w0 w1 w2 w3 r j) Φ) (j : Nat → Value) : OutK E 0 6 (sI T ps asg bod C n i k m N N2 m7 N7 M7 ph qq c d c' d' D D2 D7 E7 b0 b1 b2 b3 w0 w1 w2 w3 r j) Φ :=
 outK_seg hE (R0_ok hE) [.run 1, (.ops [(2, (.rn (iI (Int.ofNat k)))), (1, (.d .len))] []), .run 2] [0, 1, 6, 7] (fun j => by kernel_rfl) (aP h0 <| aZ)
  ho
def pIn0_end (T : Tm) (ps : Array Tmp) (asg : Code) (bod : Code) (C : List DT) (n i k _m _N _N2 _m7 _N7 _M7 : Nat) (_ph _qq _c _d c' d' : Int) (_D _D2 _D7 _E7 : List AC) (_b0 _b1 _b2 _b3 : Nat) (_w0 _w1 _w2 _w3 : Int) (_r : List DT) (j : Nat → Value) : St := ⟨[(.some ⟨[(.v (.slice none 0 0))], 1, 25, true, .cells⟩), (.some ⟨[(.v (.slice none 0 0))], 1, 25, true, .cells⟩), (.some ⟨[(.v (.int .i64 (c'))), (.v (.int .i64 (d')))], 2, 160, true, .cells⟩), (.some ⟨[(.dp (.s (C) (n) 1))], 1, 42, true, .cells⟩), (.some ⟨[], 0, 0, false, .mark⟩), (.some ⟨[], 0, 0, false, (.loop .ready none (T) (ps) (asg) (bod))⟩)], [(.code (atC [1, 0, 0] (bodyOf Tryz.f155))), (.inLoop (atC [1, 0, 0] (bodyOf Tryz.f155))), (.inBlock 0)], mkT j [(0, (.e (.one (.yld 5)))), (1, (.e (.one (.ptr 3 0)))), (6, (iI (Int.ofNat k))), (7, (iI (Int.ofNat (i + 1))))] 22 0⟩
theorem pIn0 (hE : EnvOk E) (T : Tm) (ps : Array Tmp) (asg : Code) (bod : Code) (C : List DT) (n i k m N N2 m7 N7 M7 : Nat) (ph qq c d c' d' : Int) (D D2 D7 E7 : List AC) (b0 b1 b2 b3 : Nat) (w0 w1 w2 w3 : Int) (r : List DT) (h0 : (decide (Int.ofNat i < Int.ofNat k) : Bool) = true) (h1 : (wrapF IntKind.i64 ((4 : Int) * Int.ofNat i) : Int) = Int.ofNat ((4 : Nat) * i)) (h3 : (4 : Nat) * i ≤ n ∧ n ≤ n) (h4 : (takeL (dropL C ((4 : Nat) * i * nat_lit 1)) ((n - (4 : Nat) * i) * nat_lit 1) : Option (List DT)) = (.some (r))) (h5 : (4 : Nat) ≤ n - (4 : Nat) * i) (h6 : (takeL (dropL r (0 : Nat)) (4 : Nat) : Option (List DT)) = (.some [(.v (.float .f32 (b0))), (.v (.float .f32 (b1))), (.v (.float .f32 (b2))), (.v (.float .f32 (b3)))])) (h7 : COut E 0 [] 100 [(.e (.agg [(.v (.float .f32 (b0))), (.v (.float .f32 (b1))), (.v (.float .f32 (b2))), (.v (.float .f32 (b3)))]))] (.e (.agg [(.v (.int .i64 (w0))), (.v (.int .i64 (w1))), (.v (.int .i64 (w2))), (.v (.int .i64 (w3)))])) []) (h9 : RoundK E 0 [(.some ⟨[(.v (.slice none 0 0))], 1, 25, true, .cells⟩), (.some ⟨[(.v (.slice none 0 0))], 1, 25, true, .cells⟩), (.some ⟨[(.v (.int .i64 (c))), (.v (.int .i64 (d)))], 2, 160, true, .cells⟩), (.some ⟨[(.dp (.s (C) (n) 1))], 1, 42, true, .cells⟩), (.some ⟨[], 0, 0, false, .mark⟩), (.some ⟨[], 0, 0, false, (.loop .ready none (T) (ps) (asg) (bod))⟩)] 5 [(iI (Int.ofNat i)), (.e (.agg [(.v (.int .i64 (w0))), (.v (.int .i64 (w1))), (.v (.int .i64 (w2))), (.v (.int .i64 (w3)))]))] (iB true) [(.some ⟨[(.v (.slice none 0 0))], 1, 25, true, .cells⟩), (.some ⟨[(.v (.slice none 0 0))], 1, 25, true, .cells⟩), (.some ⟨[(.v (.int .i64 (c'))), (.v (.int .i64 (d')))], 2, 160, true, .cells⟩), (.some ⟨[(.dp (.s (C) (n) 1))], 1, 42, true, .cells⟩), (.some ⟨[], 0, 0, false, .mark⟩), (.some ⟨[], 0, 0, false, (.loop .ready none (T) (ps) (asg) (bod))⟩)]) (h10 : ((iI (wrapF IntKind.i64 (Int.ofNat i + (1 : Int)))) : AV) = (iI (Int.ofNat (i + 1)))) {Φ : Res → Prop} (ho : ∀ j, OutK E 0 6 (pIn0_end T ps asg bod C n i k m N N2 m7 N7 M7 ph qq c d c' d' D D2 D7 E7 b0 b1 b2 b3 w0 w1 w2 w3 r j) Φ) (j : Nat → Value) : OutK E 0 6 (qIn T ps asg bod C n i k m N N2 m7 N7 M7 ph qq c d c' d' D D2 D7 E7 b0 b1 b2 b3 w0 w1 w2 w3 r j) Φ :=
 outK_seg hE (R0_ok hE) [.run 3, (.cond true), .run 6, (.ops [(5, (.d (.sl ((4 : Nat) * i) (n) (r)))), (6, (.d .sp)), (7, (.d (.ldn [(.v (.float .f32 (b0))), (.v (.float .f32 (b1))), (.v (.float .f32 (b2))), (.v (.float .f32 (b3)))]))), (8, (.c0 (.e (.agg [(.v (.int .i64 (w0))), (.v (.int .i64 (w1))), (.v (.int .i64 (w2))), (.v (.int .i64 (w3)))])))), (9, (.yd (iB true) [(.some ⟨[(.v (.slice none 0 0))], 1, 25, true, .cells⟩), (.some ⟨[(.v (.slice none 0 0))], 1, 25, true, .cells⟩), (.some ⟨[(.v (.int .i64 (c'))), (.v (.int .i64 (d')))], 2, 160, true, .cells⟩), (.some ⟨[(.dp (.s (C) (n) 1))], 1, 42, true, .cells⟩), (.some ⟨[], 0, 0, false, .mark⟩), (.some ⟨[], 0, 0, false, (.loop .ready none (T) (ps) (asg) (bod))⟩)]))] []), .run 3, (.ops [(0, (.rn (iI (Int.ofNat (i + 1)))))] []), .run 1] [0, 1, 6, 7] (fun j => by kernel_rfl) (aP h0 <| aP h1 <| aP (rfl : (Int.ofNat n : Int) = Int.ofNat n) <| aP h3 <| aP h4 <| aP h5 <| aP h6 <| aP h7 <| aN <| aP h9 <| aP h10 <| aZ)
  ho
def pInf_end (T : Tm) (ps : Array Tmp) (asg : Code) (bod : Code) (C : List DT) (n i k _m _N _N2 _m7 _N7 _M7 : Nat) (ph _qq _c _d c' d' : Int) (_D _D2 _D7 _E7 : List AC) (_b0 _b1 _b2 _b3 : Nat) (_w0 _w1 _w2 _w3 : Int) (_r : List DT) (j : Nat → Value) : St := ⟨[(.some ⟨[(.slc 6 0 1 1 1 false)], 1, 25, true, .cells⟩), (.some ⟨[(.v (.slice none 0 0))], 1, 25, true, .cells⟩), (.some ⟨[(.v (.int .i64 (c'))), (.v (.int .i64 (d')))], 2, 160, true, .cells⟩), (.some ⟨[(.dp (.s (C) (n) 1))], 1, 42, true, .cells⟩), (.some ⟨[], 0, 0, false, .mark⟩), (.some ⟨[], 0, 0, false, (.loop .ready none (T) (ps) (asg) (bod))⟩), (.some ⟨[(.v (.int .i64 (ph)))], 1, 3, false, .cells⟩)], [(.code (atC [1, 0, 0] (bodyOf Tryz.f155))), (.inLoop (atC [1, 0, 0] (bodyOf Tryz.f155))), (.inBlock 0)], mkT j [(0, (.e (.one (.yld 5)))), (1, (.e (.one (.ptr 3 0)))), (6, (iI (Int.ofNat k))), (7, (iI (Int.ofNat (i + 1))))] 22 0⟩
theorem pInf (hE : EnvOk E) (T : Tm) (ps : Array Tmp) (asg : Code) (bod : Code) (C : List DT) (n i k m N N2 m7 N7 M7 : Nat) (ph qq c d c' d' : Int) (D D2 D7 E7 : List AC) (b0 b1 b2 b3 : Nat) (w0 w1 w2 w3 : Int) (r : List DT) (h0 : (decide (Int.ofNat i < Int.ofNat k) : Bool) = true) (h1 : (wrapF IntKind.i64 ((4 : Int) * Int.ofNat i) : Int) = Int.ofNat ((4 : Nat) * i)) (h3 : (4 : Nat) * i ≤ n ∧ n ≤ n) (h4 : (takeL (dropL C ((4 : Nat) * i * nat_lit 1)) ((n - (4 : Nat) * i) * nat_lit 1) : Option (List DT)) = (.some (r))) (h5 : (4 : Nat) ≤ n - (4 : Nat) * i) (h6 : (takeL (dropL r (0 : Nat)) (4 : Nat) : Option (List DT)) = (.some [(.v (.float .f32 (b0))), (.v (.float .f32 (b1))), (.v (.float .f32 (b2))), (.v (.float .f32 (b3)))])) (h7 : COut E 0 [] 100 [(.e (.agg [(.v (.float .f32 (b0))), (.v (.float .f32 (b1))), (.v (.float .f32 (b2))), (.v (.float .f32 (b3)))]))] (.e (.agg [(.v (.int .i64 (w0))), (.v (.int .i64 (w1))), (.v (.int .i64 (w2))), (.v (.int .i64 (w3)))])) []) (h9 : RoundK E 0 [(.some ⟨[(.v (.slice none 0 0))], 1, 25, true, .cells⟩), (.some ⟨[(.v (.slice none 0 0))], 1, 25, true, .cells⟩), (.some ⟨[(.v (.int .i64 (c))), (.v (.int .i64 (d)))], 2, 160, true, .cells⟩), (.some ⟨[(.dp (.s (C) (n) 1))], 1, 42, true, .cells⟩), (.some ⟨[], 0, 0, false, .mark⟩), (.some ⟨[], 0, 0, false, (.loop .ready none (T) (ps) (asg) (bod))⟩)] 5 [(iI (Int.ofNat i)), (.e (.agg [(.v (.int .i64 (w0))), (.v (.int .i64 (w1))), (.v (.int .i64 (w2))), (.v (.int .i64 (w3)))]))] (iB true) [(.some ⟨[(.slc 6 0 1 1 1 false)], 1, 25, true, .cells⟩), (.some ⟨[(.v (.slice none 0 0))], 1, 25, true, .cells⟩), (.some ⟨[(.v (.int .i64 (c'))), (.v (.int .i64 (d')))], 2, 160, true, .cells⟩), (.some ⟨[(.dp (.s (C) (n) 1))], 1, 42, true, .cells⟩), (.some ⟨[], 0, 0, false, .mark⟩), (.some ⟨[], 0, 0, false, (.loop .ready none (T) (ps) (asg) (bod))⟩), (.some ⟨[(.v (.int .i64 (ph)))], 1, 3, false, .cells⟩)]) (h10 : ((iI (wrapF IntKind.i64 (Int.ofNat i + (1 : Int)))) : AV) = (iI (Int.ofNat (i + 1)))) {Φ : Res → Prop} (ho : ∀ j, OutK E 0 6 (pInf_end T ps asg bod C n i k m N N2 m7 N7 M7 ph qq c d c' d' D D2 D7 E7 b0 b1 b2 b3 w0 w1 w2 w3 r j) Φ) (j : Nat → Value) : OutK E 0 6 (qIn T ps asg bod C n i k m N N2 m7 N7 M7 ph qq c d c' d' D D2 D7 E7 b0 b1 b2 b3 w0 w1 w2 w3 r j) Φ :=
 outK_seg hE (R0_ok hE) [.run 3, (.cond true), .run 6, (.ops [(5, (.d (.sl ((4 : Nat) * i) (n) (r)))), (6, (.d .sp)), (7, (.d (.ldn [(.v (.float .f32 (b0))), (.v (.float .f32 (b1))), (.v (.float .f32 (b2))), (.v (.float .f32 (b3)))]))), (8, (.c0 (.e (.agg [(.v (.int .i64 (w0))), (.v (.int .i64 (w1))), (.v (.int .i64 (w2))), (.v (.int .i64 (w3)))])))), (9, (.yd (iB true) [(.some ⟨[(.slc 6 0 1 1 1 false)], 1, 25, true, .cells⟩), (.some ⟨[(.v (.slice none 0 0))], 1, 25, true, .cells⟩), (.some ⟨[(.v (.int .i64 (c'))), (.v (.int .i64 (d')))], 2, 160, true, .cells⟩), (.some ⟨[(.dp (.s (C) (n) 1))], 1, 42, true, .cells⟩), (.some ⟨[], 0, 0, false, .mark⟩), (.some ⟨[], 0, 0, false, (.loop .ready none (T) (ps) (asg) (bod))⟩), (.some ⟨[(.v (.int .i64 (ph)))], 1, 3, false, .cells⟩)]))] []), .run 3, (.ops [(0, (.rn (iI (Int.ofNat (i + 1)))))] []), .run 1] [0, 1, 6, 7] (fun j => by kernel_rfl) (aP h0 <| aP h1 <| aP (rfl : (Int.ofNat n : Int) = Int.ofNat n) <| aP h3 <| aP h4 <| aP h5 <| aP h6 <| aP h7 <| aN <| aP h9 <| aP h10 <| aZ)
  ho
def pInt_end (T : Tm) (ps : Array Tmp) (asg : Code) (bod : Code) (C : List DT) (n i k _m _N _N2 _m7 _N7 _M7 : Nat) (ph qq _c _d c' d' : Int) (_D _D2 _D7 _E7 : List AC) (_b0 _b1 _b2 _b3 : Nat) (_w0 _w1 _w2 _w3 : Int) (_r : List DT) (j : Nat → Value) : St := ⟨[(.some ⟨[(.slc 6 0 1 1 1 false)], 1, 25, true, .cells⟩), (.some ⟨[(.slc 7 0 1 1 1 false)], 1, 25, true, .cells⟩), (.some ⟨[(.v (.int .i64 (c'))), (.v (.int .i64 (d')))], 2, 160, true, .cells⟩), (.some ⟨[(.dp (.s (C) (n) 1))], 1, 42, true, .cells⟩), (.some ⟨[], 0, 0, false, .mark⟩), (.some ⟨[], 0, 0, false, (.loop .ready none (T) (ps) (asg) (bod))⟩), (.some ⟨[(.v (.int .i64 (ph)))], 1, 3, false, .cells⟩), (.some ⟨[(.v (.int .i64 (qq)))], 1, 3, false, .cells⟩)], [(.code (atC [1, 0, 0] (bodyOf Tryz.f155))), (.inLoop (atC [1, 0, 0] (bodyOf Tryz.f155))), (.inBlock 0)], mkT j [(0, (.e (.one (.yld 5)))), (1, (.e (.one (.ptr 3 0)))), (6, (iI (Int.ofNat k))), (7, (iI (Int.ofNat (i + 1))))] 22 0⟩
theorem pInt (hE : EnvOk E) (T : Tm) (ps : Array Tmp) (asg : Code) (bod : Code) (C : List DT) (n i k m N N2 m7 N7 M7 : Nat) (ph qq c d c' d' : Int) (D D2 D7 E7 : List AC) (b0 b1 b2 b3 : Nat) (w0 w1 w2 w3 : Int) (r : List DT) (h0 : (decide (Int.ofNat i < Int.ofNat k) : Bool) = true) (h1 : (wrapF IntKind.i64 ((4 : Int) * Int.ofNat i) : Int) = Int.ofNat ((4 : Nat) * i)) (h3 : (4 : Nat) * i ≤ n ∧ n ≤ n) (h4 : (takeL (dropL C ((4 : Nat) * i * nat_lit 1)) ((n - (4 : Nat) * i) * nat_lit 1) : Option (List DT)) = (.some (r))) (h5 : (4 : Nat) ≤ n - (4 : Nat) * i) (h6 : (takeL (dropL r (0 : Nat)) (4 : Nat) : Option (List DT)) = (.some [(.v (.float .f32 (b0))), (.v (.float .f32 (b1))), (.v (.float .f32 (b2))), (.v (.float .f32 (b3)))])) (h7 : COut E 0 [] 100 [(.e (.agg [(.v (.float .f32 (b0))), (.v (.float .f32 (b1))), (.v (.float .f32 (b2))), (.v (.float .f32 (b3)))]))] (.e (.agg [(.v (.int .i64 (w0))), (.v (.int .i64 (w1))), (.v (.int .i64 (w2))), (.v (.int .i64 (w3)))])) []) (h9 : RoundK E 0 [(.some ⟨[(.v (.slice none 0 0))], 1, 25, true, .cells⟩), (.some ⟨[(.v (.slice none 0 0))], 1, 25, true, .cells⟩), (.some ⟨[(.v (.int .i64 (c))), (.v (.int .i64 (d)))], 2, 160, true, .cells⟩), (.some ⟨[(.dp (.s (C) (n) 1))], 1, 42, true, .cells⟩), (.some ⟨[], 0, 0, false, .mark⟩), (.some ⟨[], 0, 0, false, (.loop .ready none (T) (ps) (asg) (bod))⟩)] 5 [(iI (Int.ofNat i)), (.e (.agg [(.v (.int .i64 (w0))), (.v (.int .i64 (w1))), (.v (.int .i64 (w2))), (.v (.int .i64 (w3)))]))] (iB true) [(.some ⟨[(.slc 6 0 1 1 1 false)], 1, 25, true, .cells⟩), (.some ⟨[(.slc 7 0 1 1 1 false)], 1, 25, true, .cells⟩), (.some ⟨[(.v (.int .i64 (c'))), (.v (.int .i64 (d')))], 2, 160, true, .cells⟩), (.some ⟨[(.dp (.s (C) (n) 1))], 1, 42, true, .cells⟩), (.some ⟨[], 0, 0, false, .mark⟩), (.some ⟨[], 0, 0, false, (.loop .ready none (T) (ps) (asg) (bod))⟩), (.some ⟨[(.v (.int .i64 (ph)))], 1, 3, false, .cells⟩), (.some ⟨[(.v (.int .i64 (qq)))], 1, 3, false, .cells⟩)]) (h10 : ((iI (wrapF IntKind.i64 (Int.ofNat i + (1 : Int)))) : AV) = (iI (Int.ofNat (i + 1)))) {Φ : Res → Prop} (ho : ∀ j, OutK E 0 6 (pInt_end T ps asg bod C n i k m N N2 m7 N7 M7 ph qq c d c' d' D D2 D7 E7 b0 b1 b2 b3 w0 w1 w2 w3 r j) Φ) (j : Nat → Value) : OutK E 0 6 (qIn T ps asg bod C n i k m N N2 m7 N7 M7 ph qq c d c' d' D D2 D7 E7 b0 b1 b2 b3 w0 w1 w2 w3 r j) Φ :=
 outK_seg hE (R0_ok hE) [.run 3, (.cond true), .run 6, (.ops [(5, (.d (.sl ((4 : Nat) * i) (n) (r)))), (6, (.d .sp)), (7, (.d (.ldn [(.v (.float .f32 (b0))), (.v (.float .f32 (b1))), (.v (.float .f32 (b2))), (.v (.float .f32 (b3)))]))), (8, (.c0 (.e (.agg [(.v (.int .i64 (w0))), (.v (.int .i64 (w1))), (.v (.int .i64 (w2))), (.v (.int .i64 (w3)))])))), (9, (.yd (iB true) [(.some ⟨[(.slc 6 0 1 1 1 false)], 1, 25, true, .cells⟩), (.some ⟨[(.slc 7 0 1 1 1 false)], 1, 25, true, .cells⟩), (.some ⟨[(.v (.int .i64 (c'))), (.v (.int .i64 (d')))], 2, 160, true, .cells⟩), (.some ⟨[(.dp (.s (C) (n) 1))], 1, 42, true, .cells⟩), (.some ⟨[], 0, 0, false, .mark⟩), (.some ⟨[], 0, 0, false, (.loop .ready none (T) (ps) (asg) (bod))⟩), (.some ⟨[(.v (.int .i64 (ph)))], 1, 3, false, .cells⟩), (.some ⟨[(.v (.int .i64 (qq)))], 1, 3, false, .cells⟩)]))] []), .run 3, (.ops [(0, (.rn (iI (Int.ofNat (i + 1)))))] []), .run 1] [0, 1, 6, 7] (fun j => by kernel_rfl) (aP h0 <| aP h1 <| aP (rfl : (Int.ofNat n : Int) = Int.ofNat n) <| aP h3 <| aP h4 <| aP h5 <| aP h6 <| aP h7 <| aN <| aP h9 <| aP h10 <| aZ)
  ho
def pIif_end (T : Tm) (ps : Array Tmp) (asg : Code) (bod : Code) (C : List DT) (n i k m _N N2 _m7 _N7 _M7 : Nat) (_ph _qq _c _d c' d' : Int) (_D D2 _D7 _E7 : List AC) (_b0 _b1 _b2 _b3 : Nat) (_w0 _w1 _w2 _w3 : Int) (_r : List DT) (j : Nat → Value) : St := ⟨[(.some ⟨[(.slc 7 0 (m + 1) 1 (m + 1) false)], 1, 25, true, .cells⟩), (.some ⟨[(.v (.slice none 0 0))], 1, 25, true, .cells⟩), (.some ⟨[(.v (.int .i64 (c'))), (.v (.int .i64 (d')))], 2, 160, true, .cells⟩), (.some ⟨[(.dp (.s (C) (n) 1))], 1, 42, true, .cells⟩), (.some ⟨[], 0, 0, false, .mark⟩), (.some ⟨[], 0, 0, false, (.loop .ready none (T) (ps) (asg) (bod))⟩), none, (.some ⟨(D2), (N2), 3, false, .cells⟩)], [(.code (atC [1, 0, 0] (bodyOf Tryz.f155))), (.inLoop (atC [1, 0, 0] (bodyOf Tryz.f155))), (.inBlock 0)], mkT j [(0, (.e (.one (.yld 5)))), (1, (.e (.one (.ptr 3 0)))), (6, (iI (Int.ofNat k))), (7, (iI (Int.ofNat (i + 1))))] 22 0⟩
theorem pIif (hE : EnvOk E) (T : Tm) (ps : Array Tmp) (asg : Code) (bod : Code) (C : List DT) (n i k m N N2 m7 N7 M7 : Nat) (ph qq c d c' d' : Int) (D D2 D7 E7 : List AC) (b0 b1 b2 b3 : Nat) (w0 w1 w2 w3 : Int) (r : List DT) (h0 : (decide (Int.ofNat i < Int.ofNat k) : Bool) = true) (h1 : (wrapF IntKind.i64 ((4 : Int) * Int.ofNat i) : Int) = Int.ofNat ((4 : Nat) * i)) (h3 : (4 : Nat) * i ≤ n ∧ n ≤ n) (h4 : (takeL (dropL C ((4 : Nat) * i * nat_lit 1)) ((n - (4 : Nat) * i) * nat_lit 1) : Option (List DT)) = (.some (r))) (h5 : (4 : Nat) ≤ n - (4 : Nat) * i) (h6 : (takeL (dropL r (0 : Nat)) (4 : Nat) : Option (List DT)) = (.some [(.v (.float .f32 (b0))), (.v (.float .f32 (b1))), (.v (.float .f32 (b2))), (.v (.float .f32 (b3)))])) (h7 : COut E 0 [] 100 [(.e (.agg [(.v (.float .f32 (b0))), (.v (.float .f32 (b1))), (.v (.float .f32 (b2))), (.v (.float .f32 (b3)))]))] (.e (.agg [(.v (.int .i64 (w0))), (.v (.int .i64 (w1))), (.v (.int .i64 (w2))), (.v (.int .i64 (w3)))])) []) (h9 : RoundK E 0 [(.some ⟨[(.slc 6 0 (m) 1 (m) false)], 1, 25, true, .cells⟩), (.some ⟨[(.v (.slice none 0 0))], 1, 25, true, .cells⟩), (.some ⟨[(.v (.int .i64 (c))), (.v (.int .i64 (d)))], 2, 160, true, .cells⟩), (.some ⟨[(.dp (.s (C) (n) 1))], 1, 42, true, .cells⟩), (.some ⟨[], 0, 0, false, .mark⟩), (.some ⟨[], 0, 0, false, (.loop .ready none (T) (ps) (asg) (bod))⟩), (.some ⟨(D), (N), 3, false, .cells⟩)] 5 [(iI (Int.ofNat i)), (.e (.agg [(.v (.int .i64 (w0))), (.v (.int .i64 (w1))), (.v (.int .i64 (w2))), (.v (.int .i64 (w3)))]))] (iB true) [(.some ⟨[(.slc 7 0 (m + 1) 1 (m + 1) false)], 1, 25, true, .cells⟩), (.some ⟨[(.v (.slice none 0 0))], 1, 25, true, .cells⟩), (.some ⟨[(.v (.int .i64 (c'))), (.v (.int .i64 (d')))], 2, 160, true, .cells⟩), (.some ⟨[(.dp (.s (C) (n) 1))], 1, 42, true, .cells⟩), (.some ⟨[], 0, 0, false, .mark⟩), (.some ⟨[], 0, 0, false, (.loop .ready none (T) (ps) (asg) (bod))⟩), none, (.some ⟨(D2), (N2), 3, false, .cells⟩)]) (h10 : ((iI (wrapF IntKind.i64 (Int.ofNat i + (1 : Int)))) : AV) = (iI (Int.ofNat (i + 1)))) {Φ : Res → Prop} (ho : ∀ j, OutK E 0 6 (pIif_end T ps asg bod C n i k m N N2 m7 N7 M7 ph qq c d c' d' D D2 D7 E7 b0 b1 b2 b3 w0 w1 w2 w3 r j) Φ) (j : Nat → Value) : OutK E 0 6 (qIi T ps asg bod C n i k m N N2 m7 N7 M7 ph qq c d c' d' D D2 D7 E7 b0 b1 b2 b3 w0 w1 w2 w3 r j) Φ :=
 outK_seg hE (R0_ok hE) [.run 3, (.cond true), .run 6, (.ops [(5, (.d (.sl ((4 : Nat) * i) (n) (r)))), (6, (.d .sp)), (7, (.d (.ldn [(.v (.float .f32 (b0))), (.v (.float .f32 (b1))), (.v (.float .f32 (b2))), (.v (.float .f32 (b3)))]))), (8, (.c0 (.e (.agg [(.v (.int .i64 (w0))), (.v (.int .i64 (w1))), (.v (.int .i64 (w2))), (.v (.int .i64 (w3)))])))), (9, (.yd (iB true) [(.some ⟨[(.slc 7 0 (m + 1) 1 (m + 1) false)], 1, 25, true, .cells⟩), (.some ⟨[(.v (.slice none 0 0))], 1, 25, true, .cells⟩), (.some ⟨[(.v (.int .i64 (c'))), (.v (.int .i64 (d')))], 2, 160, true, .cells⟩), (.some ⟨[(.dp (.s (C) (n) 1))], 1, 42, true, .cells⟩), (.some ⟨[], 0, 0, false, .mark⟩), (.some ⟨[], 0, 0, false, (.loop .ready none (T) (ps) (asg) (bod))⟩), none, (.some ⟨(D2), (N2), 3, false, .cells⟩)]))] []), .run 3, (.ops [(0, (.rn (iI (Int.ofNat (i + 1)))))] []), .run 1] [0, 1, 6, 7] (fun j => by kernel_rfl) (aP h0 <| aP h1 <| aP (rfl : (Int.ofNat n : Int) = Int.ofNat n) <| aP h3 <| aP h4 <| aP h5 <| aP h6 <| aP h7 <| aN <| aP h9 <| aP h10 <| aZ)
  ho
def pIit_end (T : Tm) (ps : Array Tmp) (asg : Code) (bod : Code) (C : List DT) (n i k m _N N2 _m7 _N7 _M7 : Nat) (_ph qq _c _d c' d' : Int) (_D D2 _D7 _E7 : List AC) (_b0 _b1 _b2 _b3 : Nat) (_w0 _w1 _w2 _w3 : Int) (_r : List DT) (j : Nat → Value) : St := ⟨[(.some ⟨[(.slc 7 0 (m + 1) 1 (m + 1) false)], 1, 25, true, .cells⟩), (.some ⟨[(.slc 8 0 1 1 1 false)], 1, 25, true, .cells⟩), (.some ⟨[(.v (.int .i64 (c'))), (.v (.int .i64 (d')))], 2, 160, true, .cells⟩), (.some ⟨[(.dp (.s (C) (n) 1))], 1, 42, true, .cells⟩), (.some ⟨[], 0, 0, false, .mark⟩), (.some ⟨[], 0, 0, false, (.loop .ready none (T) (ps) (asg) (bod))⟩), none, (.some ⟨(D2), (N2), 3, false, .cells⟩), (.some ⟨[(.v (.int .i64 (qq)))], 1, 3, false, .cells⟩)], [(.code (atC [1, 0, 0] (bodyOf Tryz.f155))), (.inLoop (atC [1, 0, 0] (bodyOf Tryz.f155))), (.inBlock 0)], mkT j [(0, (.e (.one (.yld 5)))), (1, (.e (.one (.ptr 3 0)))), (6, (iI (Int.ofNat k))), (7, (iI (Int.ofNat (i + 1))))] 22 0⟩
theorem pIit (hE : EnvOk E) (T : Tm) (ps : Array Tmp) (asg : Code) (bod : Code) (C : List DT) (n i k m N N2 m7 N7 M7 : Nat) (ph qq c d c' d' : Int) (D D2 D7 E7 : List AC) (b0 b1 b2 b3 : Nat) (w0 w1 w2 w3 : Int) (r : List DT) (h0 : (decide (Int.ofNat i < Int.ofNat k) : Bool) = true) (h1 : (wrapF IntKind.i64 ((4 : Int) * Int.ofNat i) : Int) = Int.ofNat ((4 : Nat) * i)) (h3 : (4 : Nat) * i ≤ n ∧ n ≤ n) (h4 : (takeL (dropL C ((4 : Nat) * i * nat_lit 1)) ((n - (4 : Nat) * i) * nat_lit 1) : Option (List DT)) = (.some (r))) (h5 : (4 : Nat) ≤ n - (4 : Nat) * i) (h6 : (takeL (dropL r (0 : Nat)) (4 : Nat) : Option (List DT)) = (.some [(.v (.float .f32 (b0))), (.v (.float .f32 (b1))), (.v (.float .f32 (b2))), (.v (.float .f32 (b3)))])) (h7 : COut E 0 [] 100 [(.e (.agg [(.v (.float .f32 (b0))), (.v (.float .f32 (b1))), (.v (.float .f32 (b2))), (.v (.float .f32 (b3)))]))] (.e (.agg [(.v (.int .i64 (w0))), (.v (.int .i64 (w1))), (.v (.int .i64 (w2))), (.v (.int .i64 (w3)))])) []) (h9 : RoundK E 0 [(.some ⟨[(.slc 6 0 (m) 1 (m) false)], 1, 25, true, .cells⟩), (.some ⟨[(.v (.slice none 0 0))], 1, 25, true, .cells⟩), (.some ⟨[(.v (.int .i64 (c))), (.v (.int .i64 (d)))], 2, 160, true, .cells⟩), (.some ⟨[(.dp (.s (C) (n) 1))], 1, 42, true, .cells⟩), (.some ⟨[], 0, 0, false, .mark⟩), (.some ⟨[], 0, 0, false, (.loop .ready none (T) (ps) (asg) (bod))⟩), (.some ⟨(D), (N), 3, false, .cells⟩)] 5 [(iI (Int.ofNat i)), (.e (.agg [(.v (.int .i64 (w0))), (.v (.int .i64 (w1))), (.v (.int .i64 (w2))), (.v (.int .i64 (w3)))]))] (iB true) [(.some ⟨[(.slc 7 0 (m + 1) 1 (m + 1) false)], 1, 25, true, .cells⟩), (.some ⟨[(.slc 8 0 1 1 1 false)], 1, 25, true, .cells⟩), (.some ⟨[(.v (.int .i64 (c'))), (.v (.int .i64 (d')))], 2, 160, true, .cells⟩), (.some ⟨[(.dp (.s (C) (n) 1))], 1, 42, true, .cells⟩), (.some ⟨[], 0, 0, false, .mark⟩), (.some ⟨[], 0, 0, false, (.loop .ready none (T) (ps) (asg) (bod))⟩), none, (.some ⟨(D2), (N2), 3, false, .cells⟩), (.some ⟨[(.v (.int .i64 (qq)))], 1, 3, false, .cells⟩)]) (h10 : ((iI (wrapF IntKind.i64 (Int.ofNat i + (1 : Int)))) : AV) = (iI (Int.ofNat (i + 1)))) {Φ : Res → Prop} (ho : ∀ j, OutK E 0 6 (pIit_end T ps asg bod C n i k m N N2 m7 N7 M7 ph qq c d c' d' D D2 D7 E7 b0 b1 b2 b3 w0 w1 w2 w3 r j) Φ) (j : Nat → Value) : OutK E 0 6 (qIi T ps asg bod C n i k m N N2 m7 N7 M7 ph qq c d c' d' D D2 D7 E7 b0 b1 b2 b3 w0 w1 w2 w3 r j) Φ :=
 outK_seg hE (R0_ok hE) [.run 3, (.cond true), .run 6, (.ops [(5, (.d (.sl ((4 : Nat) * i) (n) (r)))), (6, (.d .sp)), (7, (.d (.ldn [(.v (.float .f32 (b0))), (.v (.float .f32 (b1))), (.v (.float .f32 (b2))), (.v (.float .f32 (b3)))]))), (8, (.c0 (.e (.agg [(.v (.int .i64 (w0))), (.v (.int .i64 (w1))), (.v (.int .i64 (w2))), (.v (.int .i64 (w3)))])))), (9, (.yd (iB true) [(.some ⟨[(.slc 7 0 (m + 1) 1 (m + 1) false)], 1, 25, true, .cells⟩), (.some ⟨[(.slc 8 0 1 1 1 false)], 1, 25, true, .cells⟩), (.some ⟨[(.v (.int .i64 (c'))), (.v (.int .i64 (d')))], 2, 160, true, .cells⟩), (.some ⟨[(.dp (.s (C) (n) 1))], 1, 42, true, .cells⟩), (.some ⟨[], 0, 0, false, .mark⟩), (.some ⟨[], 0, 0, false, (.loop .ready none (T) (ps) (asg) (bod))⟩), none, (.some ⟨(D2), (N2), 3, false, .cells⟩), (.some ⟨[(.v (.int .i64 (qq)))], 1, 3, false, .cells⟩)]))] []), .run 3, (.ops [(0, (.rn (iI (Int.ofNat (i + 1)))))] []), .run 1] [0, 1, 6, 7] (fun j => by kernel_rfl) (aP h0 <| aP h1 <| aP (rfl : (Int.ofNat n : Int) = Int.ofNat n) <| aP h3 <| aP h4 <| aP h5 <| aP h6 <| aP h7 <| aN <| aP h9 <| aP h10 <| aZ)
  ho
def pIdf_end (T : Tm) (ps : Array Tmp) (asg : Code) (bod : Code) (C : List DT) (n i k m _N N2 m7 N7 _M7 : Nat) (_ph _qq _c _d c' d' : Int) (_D D2 D7 _E7 : List AC) (_b0 _b1 _b2 _b3 : Nat) (_w0 _w1 _w2 _w3 : Int) (_r : List DT) (j : Nat → Value) : St := ⟨[(.some ⟨[(.slc 8 0 (m + 1) 1 (m + 1) false)], 1, 25, true, .cells⟩), (.some ⟨[(.slc 7 0 (m7) 1 (m7) false)], 1, 25, true, .cells⟩), (.some ⟨[(.v (.int .i64 (c'))), (.v (.int .i64 (d')))], 2, 160, true, .cells⟩), (.some ⟨[(.dp (.s (C) (n) 1))], 1, 42, true, .cells⟩), (.some ⟨[], 0, 0, false, .mark⟩), (.some ⟨[], 0, 0, false, (.loop .ready none (T) (ps) (asg) (bod))⟩), none, (.some ⟨(D7), (N7), 3, false, .cells⟩), (.some ⟨(D2), (N2), 3, false, .cells⟩)], [(.code (atC [1, 0, 0] (bodyOf Tryz.f155))), (.inLoop (atC [1, 0, 0] (bodyOf Tryz.f155))), (.inBlock 0)], mkT j [(0, (.e (.one (.yld 5)))), (1, (.e (.one (.ptr 3 0)))), (6, (iI (Int.ofNat k))), (7, (iI (Int.ofNat (i + 1))))] 22 0⟩
theorem pIdf (hE : EnvOk E) (T : Tm) (ps : Array Tmp) (asg : Code) (bod : Code) (C : List DT) (n i k m N N2 m7 N7 M7 : Nat) (ph qq c d c' d' : Int) (D D2 D7 E7 : List AC) (b0 b1 b2 b3 : Nat) (w0 w1 w2 w3 : Int) (r : List DT) (h0 : (decide (Int.ofNat i < Int.ofNat k) : Bool) = true) (h1 : (wrapF IntKind.i64 ((4 : Int) * Int.ofNat i) : Int) = Int.ofNat ((4 : Nat) * i)) (h3 : (4 : Nat) * i ≤ n ∧ n ≤ n) (h4 : (takeL (dropL C ((4 : Nat) * i * nat_lit 1)) ((n - (4 : Nat) * i) * nat_lit 1) : Option (List DT)) = (.some (r))) (h5 : (4 : Nat) ≤ n - (4 : Nat) * i) (h6 : (takeL (dropL r (0 : Nat)) (4 : Nat) : Option (List DT)) = (.some [(.v (.float .f32 (b0))), (.v (.float .f32 (b1))), (.v (.float .f32 (b2))), (.v (.float .f32 (b3)))])) (h7 : COut E 0 [] 100 [(.e (.agg [(.v (.float .f32 (b0))), (.v (.float .f32 (b1))), (.v (.float .f32 (b2))), (.v (.float .f32 (b3)))]))] (.e (.agg [(.v (.int .i64 (w0))), (.v (.int .i64 (w1))), (.v (.int .i64 (w2))), (.v (.int .i64 (w3)))])) []) (h9 : RoundK E 0 [(.some ⟨[(.slc 6 0 (m) 1 (m) false)], 1, 25, true, .cells⟩), (.some ⟨[(.slc 7 0 (m7) 1 (m7) false)], 1, 25, true, .cells⟩), (.some ⟨[(.v (.int .i64 (c))), (.v (.int .i64 (d)))], 2, 160, true, .cells⟩), (.some ⟨[(.dp (.s (C) (n) 1))], 1, 42, true, .cells⟩), (.some ⟨[], 0, 0, false, .mark⟩), (.some ⟨[], 0, 0, false, (.loop .ready none (T) (ps) (asg) (bod))⟩), (.some ⟨(D), (N), 3, false, .cells⟩), (.some ⟨(D7), (N7), 3, false, .cells⟩)] 5 [(iI (Int.ofNat i)), (.e (.agg [(.v (.int .i64 (w0))), (.v (.int .i64 (w1))), (.v (.int .i64 (w2))), (.v (.int .i64 (w3)))]))] (iB true) [(.some ⟨[(.slc 8 0 (m + 1) 1 (m + 1) false)], 1, 25, true, .cells⟩), (.some ⟨[(.slc 7 0 (m7) 1 (m7) false)], 1, 25, true, .cells⟩), (.some ⟨[(.v (.int .i64 (c'))), (.v (.int .i64 (d')))], 2, 160, true, .cells⟩), (.some ⟨[(.dp (.s (C) (n) 1))], 1, 42, true, .cells⟩), (.some ⟨[], 0, 0, false, .mark⟩), (.some ⟨[], 0, 0, false, (.loop .ready none (T) (ps) (asg) (bod))⟩), none, (.some ⟨(D7), (N7), 3, false, .cells⟩), (.some ⟨(D2), (N2), 3, false, .cells⟩)]) (h10 : ((iI (wrapF IntKind.i64 (Int.ofNat i + (1 : Int)))) : AV) = (iI (Int.ofNat (i + 1)))) {Φ : Res → Prop} (ho : ∀ j, OutK E 0 6 (pIdf_end T ps asg bod C n i k m N N2 m7 N7 M7 ph qq c d c' d' D D2 D7 E7 b0 b1 b2 b3 w0 w1 w2 w3 r j) Φ) (j : Nat → Value) : OutK E 0 6 (qId T ps asg bod C n i k m N N2 m7 N7 M7 ph qq c d c' d' D D2 D7 E7 b0 b1 b2 b3 w0 w1 w2 w3 r j) Φ :=
 outK_seg hE (R0_ok hE) [.run 3, (.cond true), .run 6, (.ops [(5, (.d (.sl ((4 : Nat) * i) (n) (r)))), (6, (.d .sp)), (7, (.d (.ldn [(.v (.float .f32 (b0))), (.v (.float .f32 (b1))), (.v (.float .f32 (b2))), (.v (.float .f32 (b3)))]))), (8, (.c0 (.e (.agg [(.v (.int .i64 (w0))), (.v (.int .i64 (w1))), (.v (.int .i64 (w2))), (.v (.int .i64 (w3)))])))), (9, (.yd (iB true) [(.some ⟨[(.slc 8 0 (m + 1) 1 (m + 1) false)], 1, 25, true, .cells⟩), (.some ⟨[(.slc 7 0 (m7) 1 (m7) false)], 1, 25, true, .cells⟩), (.some ⟨[(.v (.int .i64 (c'))), (.v (.int .i64 (d')))], 2, 160, true, .cells⟩), (.some ⟨[(.dp (.s (C) (n) 1))], 1, 42, true, .cells⟩), (.some ⟨[], 0, 0, false, .mark⟩), (.some ⟨[], 0, 0, false, (.loop .ready none (T) (ps) (asg) (bod))⟩), none, (.some ⟨(D7), (N7), 3, false, .cells⟩), (.some ⟨(D2), (N2), 3, false, .cells⟩)]))] []), .run 3, (.ops [(0, (.rn (iI (Int.ofNat (i + 1)))))] []), .run 1] [0, 1, 6, 7] (fun j => by kernel_rfl) (aP h0 <| aP h1 <| aP (rfl : (Int.ofNat n : Int) = Int.ofNat n) <| aP h3 <| aP h4 <| aP h5 <| aP h6 <| aP h7 <| aN <| aP h9 <| aP h10 <| aZ)
  ho
def pIdt_end (T : Tm) (ps : Array Tmp) (asg : Code) (bod : Code) (C : List DT) (n i k m _N N2 m7 _N7 M7 : Nat) (_ph _qq _c _d c' d' : Int) (_D D2 _D7 E7 : List AC) (_b0 _b1 _b2 _b3 : Nat) (_w0 _w1 _w2 _w3 : Int) (_r : List DT) (j : Nat → Value) : St := ⟨[(.some ⟨[(.slc 8 0 (m + 1) 1 (m + 1) false)], 1, 25, true, .cells⟩), (.some ⟨[(.slc 9 0 (m7 + 1) 1 (m7 + 1) false)], 1, 25, true, .cells⟩), (.some ⟨[(.v (.int .i64 (c'))), (.v (.int .i64 (d')))], 2, 160, true, .cells⟩), (.some ⟨[(.dp (.s (C) (n) 1))], 1, 42, true, .cells⟩), (.some ⟨[], 0, 0, false, .mark⟩), (.some ⟨[], 0, 0, false, (.loop .ready none (T) (ps) (asg) (bod))⟩), none, none, (.some ⟨(D2), (N2), 3, false, .cells⟩), (.some ⟨(E7), (M7), 3, false, .cells⟩)], [(.code (atC [1, 0, 0] (bodyOf Tryz.f155))), (.inLoop (atC [1, 0, 0] (bodyOf Tryz.f155))), (.inBlock 0)], mkT j [(0, (.e (.one (.yld 5)))), (1, (.e (.one (.ptr 3 0)))), (6, (iI (Int.ofNat k))), (7, (iI (Int.ofNat (i + 1))))] 22 0⟩
theorem pIdt (hE : EnvOk E) (T : Tm) (ps : Array Tmp) (asg : Code) (bod : Code) (C : List DT) (n i k m N N2 m7 N7 M7 : Nat) (ph qq c d c' d' : Int) (D D2 D7 E7 : List AC) (b0 b1 b2 b3 : Nat) (w0 w1 w2 w3 : Int) (r : List DT) (h0 : (decide (Int.ofNat i < Int.ofNat k) : Bool) = true) (h1 : (wrapF IntKind.i64 ((4 : Int) * Int.ofNat i) : Int) = Int.ofNat ((4 : Nat) * i)) (h3 : (4 : Nat) * i ≤ n ∧ n ≤ n) (h4 : (takeL (dropL C ((4 : Nat) * i * nat_lit 1)) ((n - (4 : Nat) * i) * nat_lit 1) : Option (List DT)) = (.some (r))) (h5 : (4 : Nat) ≤ n - (4 : Nat) * i) (h6 : (takeL (dropL r (0 : Nat)) (4 : Nat) : Option (List DT)) = (.some [(.v (.float .f32 (b0))), (.v (.float .f32 (b1))), (.v (.float .f32 (b2))), (.v (.float .f32 (b3)))])) (h7 : COut E 0 [] 100 [(.e (.agg [(.v (.float .f32 (b0))), (.v (.float .f32 (b1))), (.v (.float .f32 (b2))), (.v (.float .f32 (b3)))]))] (.e (.agg [(.v (.int .i64 (w0))), (.v (.int .i64 (w1))), (.v (.int .i64 (w2))), (.v (.int .i64 (w3)))])) []) (h9 : RoundK E 0 [(.some ⟨[(.slc 6 0 (m) 1 (m) false)], 1, 25, true, .cells⟩), (.some ⟨[(.slc 7 0 (m7) 1 (m7) false)], 1, 25, true, .cells⟩), (.some ⟨[(.v (.int .i64 (c))), (.v (.int .i64 (d)))], 2, 160, true, .cells⟩), (.some ⟨[(.dp (.s (C) (n) 1))], 1, 42, true, .cells⟩), (.some ⟨[], 0, 0, false, .mark⟩), (.some ⟨[], 0, 0, false, (.loop .ready none (T) (ps) (asg) (bod))⟩), (.some ⟨(D), (N), 3, false, .cells⟩), (.some ⟨(D7), (N7), 3, false, .cells⟩)] 5 [(iI (Int.ofNat i)), (.e (.agg [(.v (.int .i64 (w0))), (.v (.int .i64 (w1))), (.v (.int .i64 (w2))), (.v (.int .i64 (w3)))]))] (iB true) [(.some ⟨[(.slc 8 0 (m + 1) 1 (m + 1) false)], 1, 25, true, .cells⟩), (.some ⟨[(.slc 9 0 (m7 + 1) 1 (m7 + 1) false)], 1, 25, true, .cells⟩), (.some ⟨[(.v (.int .i64 (c'))), (.v (.int .i64 (d')))], 2, 160, true, .cells⟩), (.some ⟨[(.dp (.s (C) (n) 1))], 1, 42, true, .cells⟩), (.some ⟨[], 0, 0, false, .mark⟩), (.some ⟨[], 0, 0, false, (.loop .ready none (T) (ps) (asg) (bod))⟩), none, none, (.some ⟨(D2), (N2), 3, false, .cells⟩), (.some ⟨(E7), (M7), 3, false, .cells⟩)]) (h10 : ((iI (wrapF IntKind.i64 (Int.ofNat i + (1 : Int)))) : AV) = (iI (Int.ofNat (i + 1)))) {Φ : Res → Prop} (ho : ∀ j, OutK E 0 6 (pIdt_end T ps asg bod C n i k m N N2 m7 N7 M7 ph qq c d c' d' D D2 D7 E7 b0 b1 b2 b3 w0 w1 w2 w3 r j) Φ) (j : Nat → Value) : OutK E 0 6 (qId T ps asg bod C n i k m N N2 m7 N7 M7 ph qq c d c' d' D D2 D7 E7 b0 b1 b2 b3 w0 w1 w2 w3 r j) Φ :=
 outK_seg hE (R0_ok hE) [.run 3, (.cond true), .run 6, (.ops [(5, (.d (.sl ((4 : Nat) * i) (n) (r)))), (6, (.d .sp)), (7, (.d (.ldn [(.v (.float .f32 (b0))), (.v (.float .f32 (b1))), (.v (.float .f32 (b2))), (.v (.float .f32 (b3)))]))), (8, (.c0 (.e (.agg [(.v (.int .i64 (w0))), (.v (.int .i64 (w1))), (.v (.int .i64 (w2))), (.v (.int .i64 (w3)))])))), (9, (.yd (iB true) [(.some ⟨[(.slc 8 0 (m + 1) 1 (m + 1) false)], 1, 25, true, .cells⟩), (.some ⟨[(.slc 9 0 (m7 + 1) 1 (m7 + 1) false)], 1, 25, true, .cells⟩), (.some ⟨[(.v (.int .i64 (c'))), (.v (.int .i64 (d')))], 2, 160, true, .cells⟩), (.some ⟨[(.dp (.s (C) (n) 1))], 1, 42, true, .cells⟩), (.some ⟨[], 0, 0, false, .mark⟩), (.some ⟨[], 0, 0, false, (.loop .ready none (T) (ps) (asg) (bod))⟩), none, none, (.some ⟨(D2), (N2), 3, false, .cells⟩), (.some ⟨(E7), (M7), 3, false, .cells⟩)]))] []), .run 3, (.ops [(0, (.rn (iI (Int.ofNat (i + 1)))))] []), .run 1] [0, 1, 6, 7] (fun j => by kernel_rfl) (aP h0 <| aP h1 <| aP (rfl : (Int.ofNat n : Int) = Int.ofNat n) <| aP h3 <| aP h4 <| aP h5 <| aP h6 <| aP h7 <| aN <| aP h9 <| aP h10 <| aZ)
  ho
def pIxi_end (T : Tm) (ps : Array Tmp) (asg : Code) (bod : Code) (C : List DT) (n _i _k m N _N2 _m7 _N7 _M7 : Nat) (_ph _qq c d _c' _d' : Int) (D _D2 _D7 _E7 : List AC) (_b0 _b1 _b2 _b3 : Nat) (_w0 _w1 _w2 _w3 : Int) (_r : List DT) (j : Nat → Value) : St := ⟨[(.some ⟨[(.slc 6 0 (m) 1 (m) false)], 1, 25, true, .cells⟩), (.some ⟨[(.v (.slice none 0 0))], 1, 25, true, .cells⟩), (.some ⟨[(.v (.int .i64 (c))), (.v (.int .i64 (d)))], 2, 160, true, .cells⟩), (.some ⟨[(.dp (.s (C) (n) 1))], 1, 42, true, .cells⟩), (.some ⟨[], 0, 0, false, .mark⟩), (.some ⟨[], 0, 0, false, (.loop .ready none (T) (ps) (asg) (bod))⟩), (.some ⟨(D), (N), 3, false, .cells⟩)], [], mkT j [] 22 0⟩
theorem pIxi (hE : EnvOk E) (T : Tm) (ps : Array Tmp) (asg : Code) (bod : Code) (C : List DT) (n i k m N N2 m7 N7 M7 : Nat) (ph qq c d c' d' : Int) (D D2 D7 E7 : List AC) (b0 b1 b2 b3 : Nat) (w0 w1 w2 w3 : Int) (r : List DT) (h0 : (decide (Int.ofNat i < Int.ofNat k) : Bool) = false) {Φ : Res → Prop} (ho : ∀ j, OutK E 0 6 (pIxi_end T ps asg bod C n i k m N N2 m7 N7 M7 ph qq c d c' d' D D2 D7 E7 b0 b1 b2 b3 w0 w1 w2 w3 r j) Φ) (j : Nat → Value) : OutK E 0 6 (qIi T ps asg bod C n i k m N N2 m7 N7 M7 ph qq c d c' d' D D2 D7 E7 b0 b1 b2 b3 w0 w1 w2 w3 r j) Φ :=
 outK_seg hE (R0_ok hE) [.run 3, (.cond false), .run 1] [] (fun j => by kernel_rfl) (aP h0 <| aZ)
  ho
def pIxd_end (T : Tm) (ps : Array Tmp) (asg : Code) (bod : Code) (C : List DT) (n _i _k m N _N2 m7 N7 _M7 : Nat) (_ph _qq c d _c' _d' : Int) (D _D2 D7 _E7 : List AC) (_b0 _b1 _b2 _b3 : Nat) (_w0 _w1 _w2 _w3 : Int) (_r : List DT) (j : Nat → Value) : St := ⟨[(.some ⟨[(.slc 6 0 (m) 1 (m) false)], 1, 25, true, .cells⟩), (.some ⟨[(.slc 7 0 (m7) 1 (m7) false)], 1, 25, true, .cells⟩), (.some ⟨[(.v (.int .i64 (c))), (.v (.int .i64 (d)))], 2, 160, true, .cells⟩), (.some ⟨[(.dp (.s (C) (n) 1))], 1, 42, true, .cells⟩), (.some ⟨[], 0, 0, false, .mark⟩), (.some ⟨[], 0, 0, false, (.loop .ready none (T) (ps) (asg) (bod))⟩), (.some ⟨(D), (N), 3, false, .cells⟩), (.some ⟨(D7), (N7), 3, false, .cells⟩)], [], mkT j [] 22 0⟩
theorem pIxd (hE : EnvOk E) (T : Tm) (ps : Array Tmp) (asg : Code) (bod : Code) (C : List DT) (n i k m N N2 m7 N7 M7 : Nat) (ph qq c d c' d' : Int) (D D2 D7 E7 : List AC) (b0 b1 b2 b3 : Nat) (w0 w1 w2 w3 : Int) (r : List DT) (h0 : (decide (Int.ofNat i < Int.ofNat k) : Bool) = false) {Φ : Res → Prop} (ho : ∀ j, OutK E 0 6 (pIxd_end T ps asg bod C n i k m N N2 m7 N7 M7 ph qq c d c' d' D D2 D7 E7 b0 b1 b2 b3 w0 w1 w2 w3 r j) Φ) (j : Nat → Value) : OutK E 0 6 (qId T ps asg bod C n i k m N N2 m7 N7 M7 ph qq c d c' d' D D2 D7 E7 b0 b1 b2 b3 w0 w1 w2 w3 r j) Φ :=
 outK_seg hE (R0_ok hE) [.run 3, (.cond false), .run 1] [] (fun j => by kernel_rfl) (aP h0 <| aZ)
  ho
open Ieee
def HI (z : Nat → Value) (ws : List Nat) (c d : Int) (t : Nat) (P : List Int) : List Int → Heap
 | [] => [some ⟨[.slc 6 0 t 1 t false], 1, 25, true, .cells⟩, some ⟨[.v (.slice none 0 0)], 1, 25, true, .cells⟩, some ⟨[.v (.int .i64 c), .v (.int .i64 d)], 2, 160, true, .cells⟩, some ⟨[.dp (.s (fDT ws) ws.length 1)], 1, 42, true, .cells⟩, some markEnt, lpV (T44 z) #[27, 28] asg44 bod44, some ⟨(iC P), t, 3, false, .cells⟩]
 | y :: Q => [some ⟨[.slc 6 0 t 1 t false], 1, 25, true, .cells⟩, some ⟨[.slc 7 0 (Q.length + 1) 1 (Q.length + 1) false], 1, 25, true, .cells⟩, some ⟨[.v (.int .i64 c), .v (.int .i64 d)], 2, 160, true, .cells⟩, some ⟨[.dp (.s (fDT ws) ws.length 1)], 1, 42, true, .cells⟩, some markEnt, lpV (T44 z) #[27, 28] asg44 bod44, some ⟨(iC P), t, 3, false, .cells⟩, some ⟨(iC (y :: Q)), (Q.length + 1), 3, false, .cells⟩]
theorem HI_app {z : Nat → Value} {ws : List Nat} {c d : Int} {t : Nat} {P : List Int} (y : Int) (Q : List Int) (x : Int) : HI z ws c d t P (y :: Q ++ [x]) = [some ⟨[.slc 6 0 t 1 t false], 1, 25, true, .cells⟩, some ⟨[.slc 7 0 (Q.length + 1 + 1) 1 (Q.length + 1 + 1) false], 1, 25, true, .cells⟩, some ⟨[.v (.int .i64 c), .v (.int .i64 d)], 2, 160, true, .cells⟩, some ⟨[.dp (.s (fDT ws) ws.length 1)], 1, 42, true, .cells⟩, some markEnt, lpV (T44 z) #[27, 28] asg44 bod44, some ⟨(iC P), t, 3, false, .cells⟩, some ⟨(iC (y :: (Q ++ [x]))), (Q.length + 1 + 1), 3, false, .cells⟩] := by simp [HI]
abbrev hn (z : Nat → Value) (ws : List Nat) (c d : Int) : Heap := [some ⟨[.v (.slice none 0 0)], 1, 25, true, .cells⟩, some ⟨[.v (.slice none 0 0)], 1, 25, true, .cells⟩, some ⟨[.v (.int .i64 c), .v (.int .i64 d)], 2, 160, true, .cells⟩, some ⟨[.dp (.s (fDT ws) ws.length 1)], 1, 42, true, .cells⟩, some markEnt, lpV (T44 z) #[27, 28] asg44 bod44]
theorem LI (hE : EnvOk E) (z : Nat → Value) {ws : List Nat} (hc : ∀ b ∈ ws, chkW 1024 b = 0) (K : Nat) (hk : ws.length = 4 * (K + 1)) (hK : K ≤ 1100) :
  ∀ r t P Q, r + t = K → P = demP ws t → Q = demD ws t → Q.length ≤ t → ∀ j, OutK E 0 6 ⟨HI z ws (er ws t) (ei ws t) t P Q, (qIi (T44 z) #[27, 28] asg44 bod44 (fDT ws) ws.length (t + 1) (K + 1) 0 0 0 0 0 0 0 0 0 0 0 0 [] [] [] [] 0 0 0 0 0 0 0 0 [] j).todo, (qIi (T44 z) #[27, 28] asg44 bod44 (fDT ws) ws.length (t + 1) (K + 1) 0 0 0 0 0 0 0 0 0 0 0 0 [] [] [] [] 0 0 0 0 0 0 0 0 [] j).tm⟩ (Go.Ev.Ends E Tryz.f155 (.tup []) (HI z ws (er ws K) (ei ws K) K (demP ws K) (demD ws K)))
 | 0, t, P, Q, ht, hP, hQ, hl, j => by
  obtain rfl : t = K := by omega
  subst hP hQ
  cases hv : demD ws t with
  | nil => exact pIxi hE (T44 z) #[27, 28] asg44 bod44 (fDT ws) ws.length (t + 1) (t + 1) t t 0 0 0 0 0 0 (er ws t) (ei ws t) 0 0 (iC (demP ws t)) [] [] [] 0 0 0 0 0 0 0 0 [] (decide_eq_false (by simp only [Int.ofNat_eq_natCast]; omega)) (fun j => outK_fell (ends_fell (by kernel_rfl))) j
  | cons y Q => exact pIxd hE (T44 z) #[27, 28] asg44 bod44 (fDT ws) ws.length (t + 1) (t + 1) t t 0 (Q.length + 1) (Q.length + 1) 0 0 0 (er ws t) (ei ws t) 0 0 (iC (demP ws t)) [] (iC (y :: Q)) [] 0 0 0 0 0 0 0 0 [] (decide_eq_false (by simp only [Int.ofNat_eq_natCast]; omega)) (fun j => outK_fell (ends_fell (by kernel_rfl))) j
 | r + 1, t, P, Q, ht, hP, hQ, hl, j => by
  have hlt : 4 * (t + 1) + 4 ≤ ws.length := by omega
  have eP : P ++ [Int.ofNat (phN ws t)] = demP ws (t + 1) := by rw [hP]; rfl
  cases hd : dbN ws t with
  | true =>
   have eQ : Q ++ [Int.ofNat t] = demD ws (t + 1) := by simp [demD, hd, hQ]
   cases Q with
   | nil =>
    have ho := LI hE z hc K hk hK r (t + 1) _ [Int.ofNat t] (by omega) eP eQ (by simp) 
    refine pIit hE (T44 z) #[27, 28] asg44 bod44 (fDT ws) ws.length (t + 1) (K + 1) t t (t + 1) 0 0 0 (Int.ofNat (phN ws t)) (Int.ofNat t) (er ws t) (ei ws t) (er ws (t + 1)) (ei ws (t + 1)) (iC P) (iC (P ++ [Int.ofNat (phN ws t)])) [] [] (bw ws (4 * (t + 1))) (bw ws (4 * (t + 1) + 1)) (bw ws (4 * (t + 1) + 2)) (bw ws (4 * (t + 1) + 3)) (ww ws (4 * (t + 1))) (ww ws (4 * (t + 1) + 1)) (ww ws (4 * (t + 1) + 2)) (ww ws (4 * (t + 1) + 3)) ((fDT ws).drop (4 * (t + 1))) (decide_eq_true (by simp only [Int.ofNat_eq_natCast]; omega)) (mul4 (by omega)) ⟨by omega, by omega⟩ (take4a rfl hlt) (by omega) (take4b rfl hlt) (KW hE hc hlt) (R44it hE z ws hc t hlt (by omega) t P (by omega) hd) (iIn (t + 1) (by omega)) (fun j => ?_) j
    exact outK_gcF [0, 1, 2, 3, 4, 5, 7, 8] [false, false, false, false, false, false, true, false] (h' := [some ⟨[.slc 6 0 (t + 1) 1 (t + 1) false], 1, 25, true, .cells⟩, some ⟨[.slc 7 0 1 1 1 false], 1, 25, true, .cells⟩, some ⟨[.v (.int .i64 (er ws (t + 1))), .v (.int .i64 (ei ws (t + 1)))], 2, 160, true, .cells⟩, some ⟨[.dp (.s (fDT ws) ws.length 1)], 1, 42, true, .cells⟩, some markEnt, lpV (T44 z) #[27, 28] asg44 bod44, some ⟨(iC (P ++ [Int.ofNat (phN ws t)])), (t + 1), 3, false, .cells⟩, some ⟨(iC [Int.ofNat t]), 1, 3, false, .cells⟩]) (by decide) (by kernel_rfl) (by kernel_rfl) ⟨flat_iC _, trivial⟩ (by kernel_rfl) (ho j)
   | cons y Q =>
    have ho := LI hE z hc K hk hK r (t + 1) _ (y :: Q ++ [Int.ofNat t]) (by omega) eP eQ (by simp at hl ⊢; omega)
    rw [HI_app] at ho
    refine pIdt hE (T44 z) #[27, 28] asg44 bod44 (fDT ws) ws.length (t + 1) (K + 1) t t (t + 1) (Q.length + 1) (Q.length + 1) (Q.length + 1 + 1) (Int.ofNat (phN ws t)) (Int.ofNat t) (er ws t) (ei ws t) (er ws (t + 1)) (ei ws (t + 1)) (iC P) (iC (P ++ [Int.ofNat (phN ws t)])) (iC (y :: Q)) (iC (y :: (Q ++ [Int.ofNat t]))) (bw ws (4 * (t + 1))) (bw ws (4 * (t + 1) + 1)) (bw ws (4 * (t + 1) + 2)) (bw ws (4 * (t + 1) + 3)) (ww ws (4 * (t + 1))) (ww ws (4 * (t + 1) + 1)) (ww ws (4 * (t + 1) + 2)) (ww ws (4 * (t + 1) + 3)) ((fDT ws).drop (4 * (t + 1))) (decide_eq_true (by simp only [Int.ofNat_eq_natCast]; omega)) (mul4 (by omega)) ⟨by omega, by omega⟩ (take4a rfl hlt) (by omega) (take4b rfl hlt) (KW hE hc hlt) (R44dt hE z ws hc t hlt (by omega) t P (by omega) (Q.length + 1) (y :: Q) (by simp at hl; omega) hd) (iIn (t + 1) (by omega)) (fun j => ?_) j
    exact outK_gcF [0, 1, 2, 3, 4, 5, 8, 9] [false, false, false, false, false, false, true, true] (h' := [some ⟨[.slc 6 0 (t + 1) 1 (t + 1) false], 1, 25, true, .cells⟩, some ⟨[.slc 7 0 (Q.length + 1 + 1) 1 (Q.length + 1 + 1) false], 1, 25, true, .cells⟩, some ⟨[.v (.int .i64 (er ws (t + 1))), .v (.int .i64 (ei ws (t + 1)))], 2, 160, true, .cells⟩, some ⟨[.dp (.s (fDT ws) ws.length 1)], 1, 42, true, .cells⟩, some markEnt, lpV (T44 z) #[27, 28] asg44 bod44, some ⟨(iC (P ++ [Int.ofNat (phN ws t)])), (t + 1), 3, false, .cells⟩, some ⟨(iC (y :: (Q ++ [Int.ofNat t]))), (Q.length + 1 + 1), 3, false, .cells⟩]) (by decide) (by kernel_rfl) (by kernel_rfl) ⟨flat_iC _, flat_iC _, trivial⟩ (by kernel_rfl) (ho j)
  | false =>
   have eQ : Q = demD ws (t + 1) := by simp [demD, hd, hQ]
   cases Q with
   | nil =>
    have ho := LI hE z hc K hk hK r (t + 1) _ [] (by omega) eP eQ (by simp)
    refine pIif hE (T44 z) #[27, 28] asg44 bod44 (fDT ws) ws.length (t + 1) (K + 1) t t (t + 1) 0 0 0 (Int.ofNat (phN ws t)) (Int.ofNat t) (er ws t) (ei ws t) (er ws (t + 1)) (ei ws (t + 1)) (iC P) (iC (P ++ [Int.ofNat (phN ws t)])) [] [] (bw ws (4 * (t + 1))) (bw ws (4 * (t + 1) + 1)) (bw ws (4 * (t + 1) + 2)) (bw ws (4 * (t + 1) + 3)) (ww ws (4 * (t + 1))) (ww ws (4 * (t + 1) + 1)) (ww ws (4 * (t + 1) + 2)) (ww ws (4 * (t + 1) + 3)) ((fDT ws).drop (4 * (t + 1))) (decide_eq_true (by simp only [Int.ofNat_eq_natCast]; omega)) (mul4 (by omega)) ⟨by omega, by omega⟩ (take4a rfl hlt) (by omega) (take4b rfl hlt) (KW hE hc hlt) (R44if hE z ws hc t hlt (by omega) t P (by omega) hd) (iIn (t + 1) (by omega)) (fun j => ?_) j
    exact outK_gcF [0, 1, 2, 3, 4, 5, 7] [false, false, false, false, false, false, true] (h' := [some ⟨[.slc 6 0 (t + 1) 1 (t + 1) false], 1, 25, true, .cells⟩, some ⟨[.v (.slice none 0 0)], 1, 25, true, .cells⟩, some ⟨[.v (.int .i64 (er ws (t + 1))), .v (.int .i64 (ei ws (t + 1)))], 2, 160, true, .cells⟩, some ⟨[.dp (.s (fDT ws) ws.length 1)], 1, 42, true, .cells⟩, some markEnt, lpV (T44 z) #[27, 28] asg44 bod44, some ⟨(iC (P ++ [Int.ofNat (phN ws t)])), (t + 1), 3, false, .cells⟩]) (by decide) (by kernel_rfl) (by kernel_rfl) ⟨flat_iC _, trivial⟩ (by kernel_rfl) (ho j)
   | cons y Q =>
    have ho := LI hE z hc K hk hK r (t + 1) _ (y :: Q) (by omega) eP eQ (by simp at hl ⊢; omega)
    refine pIdf hE (T44 z) #[27, 28] asg44 bod44 (fDT ws) ws.length (t + 1) (K + 1) t t (t + 1) (Q.length + 1) (Q.length + 1) 0 (Int.ofNat (phN ws t)) (Int.ofNat t) (er ws t) (ei ws t) (er ws (t + 1)) (ei ws (t + 1)) (iC P) (iC (P ++ [Int.ofNat (phN ws t)])) (iC (y :: Q)) [] (bw ws (4 * (t + 1))) (bw ws (4 * (t + 1) + 1)) (bw ws (4 * (t + 1) + 2)) (bw ws (4 * (t + 1) + 3)) (ww ws (4 * (t + 1))) (ww ws (4 * (t + 1) + 1)) (ww ws (4 * (t + 1) + 2)) (ww ws (4 * (t + 1) + 3)) ((fDT ws).drop (4 * (t + 1))) (decide_eq_true (by simp only [Int.ofNat_eq_natCast]; omega)) (mul4 (by omega)) ⟨by omega, by omega⟩ (take4a rfl hlt) (by omega) (take4b rfl hlt) (KW hE hc hlt) (R44df hE z ws hc t hlt (by omega) t P (by omega) (Q.length + 1) (y :: Q) (by simp at hl; omega) hd) (iIn (t + 1) (by omega)) (fun j => ?_) j
    exact outK_gcF [0, 1, 2, 3, 4, 5, 8, 7] [false, false, false, false, false, false, true, true] (h' := [some ⟨[.slc 6 0 (t + 1) 1 (t + 1) false], 1, 25, true, .cells⟩, some ⟨[.slc 7 0 (Q.length + 1) 1 (Q.length + 1) false], 1, 25, true, .cells⟩, some ⟨[.v (.int .i64 (er ws (t + 1))), .v (.int .i64 (ei ws (t + 1)))], 2, 160, true, .cells⟩, some ⟨[.dp (.s (fDT ws) ws.length 1)], 1, 42, true, .cells⟩, some markEnt, lpV (T44 z) #[27, 28] asg44 bod44, some ⟨(iC (P ++ [Int.ofNat (phN ws t)])), (t + 1), 3, false, .cells⟩, some ⟨(iC (y :: Q)), (Q.length + 1), 3, false, .cells⟩]) (by decide) (by kernel_rfl) (by kernel_rfl) ⟨flat_iC _, flat_iC _, trivial⟩ (by kernel_rfl) (ho j)
theorem itI (hE : EnvOk E) (z : Nat → Value) {ws : List Nat} (hc : ∀ b ∈ ws, chkW 1024 b = 0) (K : Nat) (hk : ws.length = 4 * (K + 1)) (h1 : 1 ≤ K) (hK : K ≤ 1100) : COut E 0 (hn z ws 0 0) 155 [.e (.one (.yld 5)), .e (.one (.ptr 3 0))] (.tup []) (HI z ws (er ws K) (ei ws K) K (demP ws K) (demD ws K)) := by
 refine cOut_start Tryz.func155 rfl (pIa hE (T44 z) #[27, 28] asg44 bod44 (fDT ws) ws.length 0 (K + 1) 0 0 0 0 0 0 0 0 0 0 0 0 [] [] [] [] 0 0 0 0 0 0 0 0 [] (quo4 hk (by omega)) (fun j => ?_) fun _ => undef)
 have hlt : 4 * 0 + 4 ≤ ws.length := by omega
 refine pIn0 hE (T44 z) #[27, 28] asg44 bod44 (fDT ws) ws.length 0 (K + 1) 0 0 0 0 0 0 0 0 0 0 (er ws 0) (ei ws 0) [] [] [] [] (bw ws (4 * 0)) (bw ws (4 * 0 + 1)) (bw ws (4 * 0 + 2)) (bw ws (4 * 0 + 3)) (ww ws (4 * 0)) (ww ws (4 * 0 + 1)) (ww ws (4 * 0 + 2)) (ww ws (4 * 0 + 3)) ((fDT ws).drop (4 * 0)) (decide_eq_true (by simp only [Int.ofNat_eq_natCast]; omega)) (mul4 (by omega)) ⟨by omega, by omega⟩ (take4a rfl hlt) (by omega) (take4b rfl hlt) (KW hE hc hlt) (R44n0 hE z ws hc (by omega)) (iIn 0 (by decide)) (fun j => ?_) j
 have hlt : 4 * (0 + 1) + 4 ≤ ws.length := by omega
 cases hd : dbN ws 0 with
 | true => exact pInt hE (T44 z) #[27, 28] asg44 bod44 (fDT ws) ws.length (0 + 1) (K + 1) 0 0 0 0 0 0 (Int.ofNat (phN ws 0)) (Int.ofNat 0) (er ws 0) (ei ws 0) (er ws (0 + 1)) (ei ws (0 + 1)) [] [] [] [] (bw ws (4 * (0 + 1))) (bw ws (4 * (0 + 1) + 1)) (bw ws (4 * (0 + 1) + 2)) (bw ws (4 * (0 + 1) + 3)) (ww ws (4 * (0 + 1))) (ww ws (4 * (0 + 1) + 1)) (ww ws (4 * (0 + 1) + 2)) (ww ws (4 * (0 + 1) + 3)) ((fDT ws).drop (4 * (0 + 1))) (decide_eq_true (by simp only [Int.ofNat_eq_natCast]; omega)) (mul4 (by omega)) ⟨by omega, by omega⟩ (take4a rfl hlt) (by omega) (take4b rfl hlt) (KW hE hc hlt) (R44nt hE z ws hc 0 hlt (by decide) hd) (iIn (0 + 1) (by decide)) (LI hE z hc K hk hK (K - 1) 1 [Int.ofNat (phN ws 0)] [Int.ofNat 0] (by omega) rfl (by simp [demD, hd]) (by simp)) j
 | false => exact pInf hE (T44 z) #[27, 28] asg44 bod44 (fDT ws) ws.length (0 + 1) (K + 1) 0 0 0 0 0 0 (Int.ofNat (phN ws 0)) (Int.ofNat 0) (er ws 0) (ei ws 0) (er ws (0 + 1)) (ei ws (0 + 1)) [] [] [] [] (bw ws (4 * (0 + 1))) (bw ws (4 * (0 + 1) + 1)) (bw ws (4 * (0 + 1) + 2)) (bw ws (4 * (0 + 1) + 3)) (ww ws (4 * (0 + 1))) (ww ws (4 * (0 + 1) + 1)) (ww ws (4 * (0 + 1) + 2)) (ww ws (4 * (0 + 1) + 3)) ((fDT ws).drop (4 * (0 + 1))) (decide_eq_true (by simp only [Int.ofNat_eq_natCast]; omega)) (mul4 (by omega)) ⟨by omega, by omega⟩ (take4a rfl hlt) (by omega) (take4b rfl hlt) (KW hE hc hlt) (R44nf hE z ws hc 0 hlt (by decide) hd) (iIn (0 + 1) (by decide)) (LI hE z hc K hk hK (K - 1) 1 [Int.ofNat (phN ws 0)] [] (by omega) rfl (by simp [demD, hd]) (by simp)) j
def chkD (ws : List Nat) : Int := firstI [chkQ ws, if ws.length < 8 then 16 else 0]
theorem lt8 (n : Nat) (c d : Int) : (if (decide ((↑n : Int) < (8 : Int))) = true then c else d) = if n < 8 then c else d := by
 by_cases h : n < 8
 ·rw [if_pos h, if_pos (decide_eq_true (by omega))]
 ·rw [if_neg h, if_neg (by simp; omega)]
theorem K44 (hE : EnvOk E) {ws : List Nat} (h0 : chkD ws = 0) (hc : ∀ b ∈ ws, chkW 1024 b = 0) (K : Nat) (hk : ws.length = 4 * (K + 1)) (h1 : 1 ≤ K) (hK : K ≤ 1100) : COut E 0 [] 44 [.e (.one (dF ws).ac)] (demR (demP ws K) K (demD ws K)) [] := by
 have k85 := k107 hE (decide ((↑ws.length : Int) < (8 : Int))) 16
 rw [lt8] at k85
 have k79 := k102 hE [chkQ ws, if ws.length < 8 then 16 else 0] rfl (by simp) get2 (N := 2) (ty := 26) (o := 0) (cap := 2) (fl := true) (ex := true)
 rw [show firstI [chkQ ws, if ws.length < 8 then 16 else 0] = 0 from h0] at k79
 have hit := fun z => itI hE z hc K hk h1 hK
 have hPl := demP_len ws K
 have tk : ∀ (l : List Int) (n : Nat), l.length = n → takeL (dropL (iD l) 0) (n * 1) = some (iD l) := by
  intro l n h
  rw [takeL_eq, dropL_eq, List.drop_zero, if_pos (by simp [h]), List.take_of_length_le (by simp [h])]
 revert hit hPl
 generalize demD ws K = Q
 generalize demP ws K = P
 intro hit hPl
 cases Q with
 | nil =>
  have hc1 : COut E 0 [] 44 [.e (.one (dF ws).ac)] (.tup [.one (.slc 5 0 K 1 K false), .one (.v (.slice none 0 0)), .one (.v (.int .i64 0))]) [some ⟨[.slc 5 0 K 1 K false], 1, 25, true, .cells⟩, some ⟨[.v (.slice none 0 0)], 1, 25, true, .cells⟩, some ⟨[.v (.int .i64 (er ws K)), .v (.int .i64 (ei ws K))], 2, 160, true, .cells⟩, some ⟨[.dp (.s (fDT ws) ws.length 1)], 1, 42, true, .cells⟩, none, some ⟨iC P, K, 3, false, .cells⟩] := by
   refine cOut_startM Tryz.func44 rfl (p44a hE (fDT ws) ws.length (chkQ ws) _ 0 (K91 hE ws (by omega)) k85 k79 rfl (K92 hE _ _) trivial trivial (fun j => ?_) fun _ => undef)
   refine (?_ : OutK E 0 0 ⟨[some ⟨[.v (.slice none 0 0)], 1, 25, true, .cells⟩, some ⟨[.v (.slice none 0 0)], 1, 25, true, .cells⟩, some ⟨[.v (.int .i64 0), .v (.int .i64 0)], 2, 160, true, .cells⟩, some ⟨[.dp (.s (fDT ws) ws.length 1)], 1, 42, true, .cells⟩], .code (.rangeFunc (.tmp 26) #[27, 28] asg44 bod44) :: [.inBlock 0, .code (atC [1, 1, 1, 1, 1] (bodyOf Tryz.f44))], T44 j⟩ _)
   refine outK_loop hE (g := 155) (v := .tup []) (h2 := HI j ws (er ws K) (ei ws K) K P []) (a := loopEnt .ready none (T44 j) #[27, 28] asg44 bod44) rfl Tryz.func155 rfl rfl (hit j) (by kernel_rfl) rfl (by intro h; cases h) ?_
   exact pE44i hE j (fDT ws) ws.length 0 0 K K 0 0 0 0 0 0 0 0 0 0 0 0 0 0 0 0 (er ws K) (ei ws K) 0 0 0 0 false (iC P) [] [] [] (flat_iC _)  (fun j => outK_ret ⟨rfl, by kernel_rfl, by kernel_rfl⟩) j
  have h1 := cOut_freeze 5 hc1 rfl (Nat.zero_le _) (ds := iD P) (v' := .tup [.one (.dp (.s (iD P) K 1)), .one (.v (.slice none 0 0)), .one (.v (.int .i64 0))]) ⟨.inr ⟨0, K, 1, K, false, iD P, rfl, rfl, tk P K hPl⟩, .inl rfl, .inl rfl, trivial⟩
  exact cOut_clear (cOut_weak h1 (nil_32 1)) rfl
 | cons y Q =>
  have hc1 : COut E 0 [] 44 [.e (.one (dF ws).ac)] (.tup [.one (.slc 5 0 K 1 K false), .one (.slc 6 0 (Q.length + 1) 1 (Q.length + 1) false), .one (.v (.int .i64 0))]) [some ⟨[.slc 5 0 K 1 K false], 1, 25, true, .cells⟩, some ⟨[.slc 6 0 (Q.length + 1) 1 (Q.length + 1) false], 1, 25, true, .cells⟩, some ⟨[.v (.int .i64 (er ws K)), .v (.int .i64 (ei ws K))], 2, 160, true, .cells⟩, some ⟨[.dp (.s (fDT ws) ws.length 1)], 1, 42, true, .cells⟩, none, some ⟨iC P, K, 3, false, .cells⟩, some ⟨iC (y :: Q), Q.length + 1, 3, false, .cells⟩] := by
   refine cOut_startM Tryz.func44 rfl (p44a hE (fDT ws) ws.length (chkQ ws) _ 0 (K91 hE ws (by omega)) k85 k79 rfl (K92 hE _ _) trivial trivial (fun j => ?_) fun _ => undef)
   refine (?_ : OutK E 0 0 ⟨[some ⟨[.v (.slice none 0 0)], 1, 25, true, .cells⟩, some ⟨[.v (.slice none 0 0)], 1, 25, true, .cells⟩, some ⟨[.v (.int .i64 0), .v (.int .i64 0)], 2, 160, true, .cells⟩, some ⟨[.dp (.s (fDT ws) ws.length 1)], 1, 42, true, .cells⟩], .code (.rangeFunc (.tmp 26) #[27, 28] asg44 bod44) :: [.inBlock 0, .code (atC [1, 1, 1, 1, 1] (bodyOf Tryz.f44))], T44 j⟩ _)
   refine outK_loop hE (g := 155) (v := .tup []) (h2 := HI j ws (er ws K) (ei ws K) K P (y :: Q)) (a := loopEnt .ready none (T44 j) #[27, 28] asg44 bod44) rfl Tryz.func155 rfl rfl (hit j) (by kernel_rfl) rfl (by intro h; cases h) ?_
   exact pE44d hE j (fDT ws) ws.length 0 0 K K 0 (Q.length + 1) (Q.length + 1) 0 0 0 0 0 0 0 0 0 0 0 0 0 (er ws K) (ei ws K) 0 0 0 0 false (iC P) [] (iC (y :: Q)) [] (flat_iC _) (flat_iC _)  (fun j => outK_ret ⟨rfl, by kernel_rfl, by kernel_rfl⟩) j
  have h1 := cOut_freeze 5 hc1 rfl (Nat.zero_le _) (ds := iD P) (v' := .tup [.one (.dp (.s (iD P) K 1)), .one (.slc 6 0 (Q.length + 1) 1 (Q.length + 1) false), .one (.v (.int .i64 0))]) ⟨.inr ⟨0, K, 1, K, false, iD P, rfl, rfl, tk P K hPl⟩, .inl rfl, .inl rfl, trivial⟩
  have h2 := cOut_freeze 6 h1 rfl (Nat.zero_le _) (ds := iD (y :: Q)) (v' := demR P K (y :: Q)) ⟨.inl rfl, .inr ⟨0, Q.length + 1, 1, Q.length + 1, false, iD (y :: Q), rfl, rfl, tk (y :: Q) (Q.length + 1) rfl⟩, .inl rfl, trivial⟩
  exact cOut_clear h2 rfl
end
end Go.Proofs.YtbmcfhkedgpldaaGreatDoor
end

/-! SeMg -/
section
open Go Go.Ev
namespace Go.Proofs.YtbmcfhkedgpldaaGreatDoor
noncomputable section
set_option maxRecDepth 100000
set_option maxHeartbeats 20000000
def q6 (C X : List DT) (n x : Nat) (lv _e1 _e2 _e3 _g _h : Int) (_A _P _V : List DT) (_na _np _nv : Nat) (_sh : Bool) (j : Nat → Value) : St := ⟨[], [(.code (atC [1, 1, 0] (bodyOf Tryz.f6))), (.code (atC [1, 1, 1] (bodyOf Tryz.f6)))], mkT j [(0, (iI (lv))), (1, (.e (.one (.dp (.s (X) (x) 1))))), (2, (.e (.one (.dp (.s (C) (n) 1)))))] 88 0⟩
open Ieee
end
end Go.Proofs.YtbmcfhkedgpldaaGreatDoor
end

/-! SeCm -/
section
open Go Go.Ev
namespace Go.Proofs.YtbmcfhkedgpldaaGreatDoor
noncomputable section
set_option maxRecDepth 100000
open Ieee
theorem mul_abs {a b d : Int} (ha : -d ≤ a ∧ a ≤ d) (hb : -d ≤ b ∧ b ≤ d) : -(d * d) ≤ a * b ∧ a * b ≤ d * d := by
 have h1 : (a * b).natAbs ≤ d.natAbs * d.natAbs := by
  rw [Int.natAbs_mul]
  exact Nat.mul_le_mul (by omega) (by omega)
 have h2 : ((d.natAbs * d.natAbs : Nat) : Int) = d * d := Int.natAbs_mul_self
 omega
theorem noise_pos {u v a b q d : Int} (hu : q ≤ u) (hv : q ≤ v) (hq : 1 ≤ q) (hd : 3 * d ≤ q) (hd0 : 0 ≤ d) (ha : -d ≤ a ∧ a ≤ d) (hb : -d ≤ b ∧ b ≤ d) : 0 < u * v + 2 * (a * b) := by
 have h1 : q * q ≤ u * v := Int.mul_le_mul hu hv (by omega) (by omega)
 have h2 := mul_abs ha hb
 have h3 : (3 * d) * (3 * d) ≤ q * q := Int.mul_le_mul hd hd (by omega) (by omega)
 have h4 : (3 * d) * (3 * d) = 9 * (d * d) := by rw [Int.mul_assoc, Int.mul_left_comm d 3 d, ← Int.mul_assoc]; rfl
 have h5 : (1 : Int) * 1 ≤ q * q := Int.mul_le_mul hq hq (by decide) (by omega)
 have h6 : 0 ≤ d * d := Int.mul_nonneg hd0 hd0
 omega
theorem noise_core {N d a1 a2 b1 b2 : Int} (hN : 1 ≤ N) (hd0 : 0 ≤ d) (hd : 5 * d ≤ N) (ha1 : -d ≤ a1 ∧ a1 ≤ d) (ha2 : -d ≤ a2 ∧ a2 ≤ d) (hb1 : -d ≤ b1 ∧ b1 ≤ d) (hb2 : -d ≤ b2 ∧ b2 ≤ d) :
  ∃ m x : Int, (N + a2) * (N + a1) + b2 * b1 = m ∧ b2 * (N + a1) - (N + a2) * b1 = x ∧ x < m ∧ -x < m ∧ 0 < m := by
 refine ⟨_, _, rfl, rfl, ?_⟩
 have g1 : N - d ≤ N + a1 := by omega
 have g2 : N - d ≤ N + a2 := by omega
 generalize N + a1 = P1 at *
 generalize N + a2 = P2 at *
 have e1 := noise_pos (u := P2 - b2) (v := P1 + b1) (a := b2) (b := b1) (q := N - 2 * d) (d := d) (by omega) (by omega) (by omega) (by omega) hd0 hb2 hb1
 have e2 := noise_pos (u := P2 + b2) (v := P1 - b1) (a := b2) (b := b1) (q := N - 2 * d) (d := d) (by omega) (by omega) (by omega) (by omega) hd0 hb2 hb1
 have x1 : (P2 - b2) * (P1 + b1) = P2 * P1 + P2 * b1 - b2 * P1 - b2 * b1 := by
  rw [Int.sub_mul, Int.mul_add, Int.mul_add]; omega
 have x2 : (P2 + b2) * (P1 - b1) = P2 * P1 - P2 * b1 + b2 * P1 - b2 * b1 := by
  rw [Int.add_mul, Int.mul_sub, Int.mul_sub]; omega
 rw [x1] at e1
 rw [x2] at e2
 omega
def Sym (N d : Int) (s : Nat) (r i : Int) : Prop := ∃ a b : Int, (-d ≤ a ∧ a ≤ d) ∧ (-d ≤ b ∧ b ≤ d) ∧ ((s = 0 ∧ r = N + a ∧ i = b) ∨ (s = 1 ∧ r = -b ∧ i = N + a) ∨ (s = 2 ∧ r = -(N + a) ∧ i = -b) ∨ (s = 3 ∧ r = b ∧ i = -(N + a)))
theorem am_step (f : Nat → Int) (k : Nat) : am f (k + 1) = if f k > f (am f k) then k else am f k := rfl
theorem cn_step (f : Nat → Int) (p k : Nat) : cn f p (k + 1) = if f k = f p then cn f p k + 1 else cn f p k := rfl
theorem am_lt4 (f : Nat → Int) : ∀ k, am f (k + 1) ≤ k
 | 0 => by rw [am_step]; split <;> simp [am]
 | k + 1 => by
  have := am_lt4 f k
  rw [am_step]; split <;> omega
theorem am_top {f : Nat → Int} {p : Nat} (hp : p < 4) (h : ∀ k, k < 4 → k ≠ p → f k < f p) : am f 4 = p ∧ cn f p 4 = 1 := by
 have low : am f (p + 1) = p := by
  rw [am_step]
  match p, hp, h with
  | 0, _, _ => split <;> rfl
  | q + 1, hp, h =>
   have hl := am_lt4 f q
   rw [if_pos (h _ (by omega) (by omega))]
 have up : ∀ k, p + 1 ≤ k → k ≤ 4 → am f k = p := by
  intro k
  induction k with
  | zero => intro h1; omega
  | succ k ih =>
   intro h1 h2
   by_cases e : k = p
   ·rw [e]; exact low
   ·rw [am_step, ih (by omega) (by omega), if_neg (by have := h k (by omega) e; omega)]
 refine ⟨up 4 (by omega) (Nat.le_refl _), ?_⟩
 have ne (k : Nat) (hk : k < 4) (e : k ≠ p) : cn f p (k + 1) = cn f p k := by
  rw [cn_step, if_neg (by have := h k hk e; omega)]
 have eq : cn f p (p + 1) = cn f p p + 1 := by rw [cn_step, if_pos rfl]
 have z : cn f p 0 = 0 := rfl
 have hc : p = 0 ∨ p = 1 ∨ p = 2 ∨ p = 3 := by omega
 rcases hc with rfl | rfl | rfl | rfl
 ·rw [ne 3 (by omega) (by omega), ne 2 (by omega) (by omega), ne 1 (by omega) (by omega), eq, z]
 ·rw [ne 3 (by omega) (by omega), ne 2 (by omega) (by omega), eq, ne 0 (by omega) (by omega), z]
 ·rw [ne 3 (by omega) (by omega), eq, ne 1 (by omega) (by omega), ne 0 (by omega) (by omega), z]
 ·rw [eq, ne 2 (by omega) (by omega), ne 1 (by omega) (by omega), ne 0 (by omega) (by omega), z]
theorem gv_am {a b m x : Int} {p : Nat} (h1 : x < m) (h2 : -x < m) (h3 : 0 < m) (h : (p = 0 ∧ a = m ∧ b = x) ∨ (p = 1 ∧ a = -x ∧ b = m) ∨ (p = 2 ∧ a = -m ∧ b = -x) ∨ (p = 3 ∧ a = x ∧ b = -m)) : am (gv a b) 4 = p ∧ cn (gv a b) p 4 = 1 := by
 refine am_top (by omega) (fun k hk hne => ?_)
 have hc : k = 0 ∨ k = 1 ∨ k = 2 ∨ k = 3 := by omega
 rcases h with ⟨rfl, rfl, rfl⟩ | ⟨rfl, rfl, rfl⟩ | ⟨rfl, rfl, rfl⟩ | ⟨rfl, rfl, rfl⟩ <;> rcases hc with rfl | rfl | rfl | rfl <;> simp only [gv] <;> omega
theorem noise_phase {N d : Int} {s x : Nat} {r1 i1 r2 i2 : Int} (hN : 1 ≤ N) (hd0 : 0 ≤ d) (hd : 5 * d ≤ N) (hs : s < 4) (hx : x < 4) (h1 : Sym N d s r1 i1) (h2 : Sym N d ((s + x) % 4) r2 i2) :
  am (gv (r2 * r1 - i2 * (-i1)) (r2 * (-i1) + i2 * r1)) 4 = x ∧ cn (gv (r2 * r1 - i2 * (-i1)) (r2 * (-i1) + i2 * r1)) x 4 = 1 := by
 obtain ⟨a1, b1, ha1, hb1, h1⟩ := h1
 obtain ⟨a2, b2, ha2, hb2, h2⟩ := h2
 obtain ⟨m, y, em, ey, c1, c2, c3⟩ := noise_core hN hd0 hd ha1 ha2 hb1 hb2
 refine gv_am (m := m) (x := y) c1 c2 c3 ?_
 generalize N + a1 = P1 at *
 generalize N + a2 = P2 at *
 rcases h1 with ⟨rfl, rfl, rfl⟩ | ⟨rfl, rfl, rfl⟩ | ⟨rfl, rfl, rfl⟩ | ⟨rfl, rfl, rfl⟩ <;>
 rcases h2 with ⟨h, rfl, rfl⟩ | ⟨h, rfl, rfl⟩ | ⟨h, rfl, rfl⟩ | ⟨h, rfl, rfl⟩ <;>
 simp only [Int.neg_mul, Int.mul_neg, Int.neg_neg] <;>
 omega
def smpL (V : Nat → Int) (n : Nat) : List Nat := (corL V n).map smpW
theorem smpL_len (V : Nat → Int) (n : Nat) : (smpL V n).length = n := by simp [smpL, corL_len]
theorem smpL_bw {V : Nat → Int} {n k : Nat} (h : k < n) : bw (smpL V n) k = smpW (V k) := by
 simp [bw, smpL, List.getD, corL_get V n k h]
theorem smpL_mem {V : Nat → Int} {n : Nat} (hV : ∀ i, i < n → (V i).natAbs ≤ 16384) : ∀ b ∈ smpL V n, chkW 1024 b = 0 ∧ Own b := by
 intro b hb
 simp only [smpL, List.mem_map] at hb
 obtain ⟨v, hv, rfl⟩ := hb
 obtain ⟨i, hi, rfl⟩ := (corL_mem V n v).1 hv
 have := hV i hi
 exact ⟨(smp_chk (L := 1024) (by omega) (by decide)).1, own_smp (by omega)⟩
theorem smpL_ww {V : Nat → Int} {n k : Nat} (hV : ∀ i, i < n → (V i).natAbs ≤ 16384) (h : k < n) : ww (smpL V n) k = V k := by
 have := hV k h
 rw [ww, smpL_bw h, (smp_chk (L := 1024) (by omega) (by decide)).2]
def st (A : Nat → Int) : Nat → Nat
 | 0 => 0
 | t + 1 => (st A t + (A t).toNat) % 4
def symV (lv : Int) (A : Nat → Int) (i : Nat) : Int := lv * reQ (st A (i / 4) + i % 4)
def fin4 (s : Nat) : List Int → Nat
 | [] => s
 | x :: r => fin4 ((s + x.toNat) % 4) r
theorem fin4_snoc : ∀ (xs : List Int) (s : Nat) (x : Int), fin4 s (xs ++ [x]) = (fin4 s xs + x.toNat) % 4
 | [], _, _ => rfl
 | _y :: r, _s, x => fin4_snoc r _ x
theorem fin4_st (A : Nat → Int) : ∀ n, fin4 0 (corL A n) = st A n
 | 0 => rfl
 | n + 1 => by rw [corL, fin4_snoc, fin4_st A n]; rfl
theorem modL_snoc (lv : Int) : ∀ (xs : List Int) (s : Nat) (x : Int), modL lv s (xs ++ [x]) = modL lv s xs ++ sy lv ((fin4 s xs + x.toNat) % 4)
 | [], s, x => by simp [modL, fin4]
 | y :: r, s, x => by
  show sy lv ((s + y.toNat) % 4) ++ modL lv ((s + y.toNat) % 4) (r ++ [x]) = (sy lv ((s + y.toNat) % 4) ++ modL lv ((s + y.toNat) % 4) r) ++ _
  rw [modL_snoc lv r, List.append_assoc]; rfl
theorem smpL_four (V : Nat → Int) (n : Nat) : smpL V (n + 4) = smpL V n ++ [smpW (V n), smpW (V (n + 1)), smpW (V (n + 2)), smpW (V (n + 3))] := by
 simp [smpL, corL]
theorem modA_smp (lv : Int) (A : Nat → Int) : ∀ n, modA lv (corL A n) = smpL (symV lv A) (4 * n + 4)
 | 0 => by
  rw [show 4 * 0 + 4 = 0 + 4 from rfl, smpL_four]
  rfl
 | n + 1 => by
  have ih := modA_smp lv A n
  have e : modA lv (corL A (n + 1)) = modA lv (corL A n) ++ sy lv (st A (n + 1)) := by
   simp only [modA, corL]
   rw [modL_snoc, fin4_st, ← List.append_assoc]; rfl
  have hv (j : Nat) (hj : j < 4) : symV lv A (4 * n + 4 + j) = lv * reQ (st A (n + 1) + j) := by
   unfold symV
   rw [show (4 * n + 4 + j) / 4 = n + 1 by omega, show (4 * n + 4 + j) % 4 = j by omega]
  rw [e, ih, show 4 * (n + 1) + 4 = (4 * n + 4) + 4 by omega, smpL_four _ (4 * n + 4), hv 1 (by omega), hv 2 (by omega), hv 3 (by omega)]
  have h0 := hv 0 (by omega)
  rw [Nat.add_zero, Nat.add_zero] at h0
  rw [h0]; rfl
theorem st_lt (A : Nat → Int) : ∀ n, st A n < 4
 | 0 => by simp [st]
 | n + 1 => Nat.mod_lt _ (by decide)
theorem reQ_or (q : Nat) : reQ q = 1 ∨ reQ q = 0 ∨ reQ q = -1 := by
 unfold reQ; split <;> simp
theorem symV_b {lv : Int} (h0 : 0 ≤ lv) (h1 : lv ≤ 9000) (A : Nat → Int) (i : Nat) : (symV lv A i).natAbs ≤ 9000 := by
 unfold symV
 rcases reQ_or (st A (i / 4) + i % 4) with e | e | e <;> rw [e] <;> omega
theorem sym_of {lv d : Int} {V : Nat → Int} {A : Nat → Int} {e : Nat → Int} {n t : Nat} (hV : ∀ i, i < n → (V i).natAbs ≤ 16384) (hVe : ∀ i, i < n → V i = symV lv A i + e i) (he : ∀ i, i < n → -d ≤ e i ∧ e i ≤ d) (ht : 4 * t + 4 ≤ n) :
  Sym (2 * lv) (2 * d) (st A t) (er (smpL V n) t) (ei (smpL V n) t) := by
 have f (j : Nat) (hj : j < 4) : ww (smpL V n) (4 * t + j) = lv * reQ (st A t + j) + e (4 * t + j) := by
  rw [smpL_ww hV (by omega), hVe _ (by omega), symV, show (4 * t + j) / 4 = t by omega, show (4 * t + j) % 4 = j by omega]
 have f0 := f 0 (by omega); have f1 := f 1 (by omega); have f2 := f 2 (by omega); have f3 := f 3 (by omega)
 rw [Nat.add_zero, Nat.add_zero] at f0
 have e0 := he (4 * t) (by omega); have e1 := he (4 * t + 1) (by omega); have e2 := he (4 * t + 2) (by omega); have e3 := he (4 * t + 3) (by omega)
 unfold er ei
 rw [f0, f1, f2, f3]
 have hs := st_lt A t
 generalize st A t = s at *
 have hc : s = 0 ∨ s = 1 ∨ s = 2 ∨ s = 3 := by omega
 rcases hc with rfl | rfl | rfl | rfl
 ·refine ⟨e (4 * t) - e (4 * t + 2), e (4 * t + 3) - e (4 * t + 1), by omega, by omega, .inl ⟨rfl, ?_, ?_⟩⟩
  ·rw [show reQ 0 = 1 from rfl, show reQ (0 + 2) = -1 from rfl]; omega
  ·rw [show reQ (0 + 1) = 0 from rfl, show reQ (0 + 3) = 0 from rfl]; omega
 ·refine ⟨e (4 * t + 3) - e (4 * t + 1), e (4 * t + 2) - e (4 * t), by omega, by omega, .inr (.inl ⟨rfl, ?_, ?_⟩)⟩
  ·rw [show reQ 1 = 0 from rfl, show reQ (1 + 2) = 0 from rfl]; omega
  ·rw [show reQ (1 + 1) = -1 from rfl, show reQ (1 + 3) = 1 from rfl]; omega
 ·refine ⟨e (4 * t + 2) - e (4 * t), e (4 * t + 1) - e (4 * t + 3), by omega, by omega, .inr (.inr (.inl ⟨rfl, ?_, ?_⟩))⟩
  ·rw [show reQ 2 = -1 from rfl, show reQ (2 + 2) = 1 from rfl]; omega
  ·rw [show reQ (2 + 1) = 0 from rfl, show reQ (2 + 3) = 0 from rfl]; omega
 ·refine ⟨e (4 * t + 1) - e (4 * t + 3), e (4 * t) - e (4 * t + 2), by omega, by omega, .inr (.inr (.inr ⟨rfl, ?_, ?_⟩))⟩
  ·rw [show reQ 3 = 0 from rfl, show reQ (3 + 2) = 0 from rfl]; omega
  ·rw [show reQ (3 + 1) = 1 from rfl, show reQ (3 + 3) = -1 from rfl]; omega
theorem dem_of {lv d : Int} {V : Nat → Int} {A : Nat → Int} {e : Nat → Int} {K : Nat} (hl : 1 ≤ lv) (hd0 : 0 ≤ d) (hd : 5 * d ≤ lv) (hA : ∀ t, t < K → 0 ≤ A t ∧ A t ≤ 3) (hV : ∀ i, i < 4 * (K + 1) → (V i).natAbs ≤ 16384) (hVe : ∀ i, i < 4 * (K + 1) → V i = symV lv A i + e i) (he : ∀ i, i < 4 * (K + 1) → -d ≤ e i ∧ e i ≤ d) :
  ∀ k, k ≤ K → demP (smpL V (4 * (K + 1))) k = corL A k ∧ demD (smpL V (4 * (K + 1))) k = []
 | 0, _ => ⟨rfl, rfl⟩
 | k + 1, hk => by
  obtain ⟨i1, i2⟩ := dem_of hl hd0 hd hA hV hVe he k (by omega)
  have h1 := sym_of hV hVe he (t := k) (by omega)
  have h2 := sym_of hV hVe he (t := k + 1) (by omega)
  have ha := hA k (by omega)
  obtain ⟨g1, g2⟩ := noise_phase (N := 2 * lv) (d := 2 * d) (x := (A k).toNat) (by omega) (by omega) (by omega) (st_lt A k) (by omega) h1 h2
  have hp : phN (smpL V (4 * (K + 1))) k = (A k).toNat := g1
  have hdb : dbN (smpL V (4 * (K + 1))) k = false := by
   unfold dbN
   rw [hp]
   exact decide_eq_false (by rw [show cn (gv (za (smpL V (4 * (K + 1))) k) (zb (smpL V (4 * (K + 1))) k)) (A k).toNat 4 = 1 from g2]; decide)
  constructor
  ·rw [demP, i1, hp, corL]
   congr 2
   simp only [Int.ofNat_eq_natCast]; omega
  ·rw [demD, hdb, i2]; rfl
theorem pw_of {lv : Int} {A : Nat → Int} {n t : Nat} (h0 : 0 ≤ lv) (h1 : lv ≤ 9000) (ht : 4 * t + 4 ≤ n) :
  pw0 (ww (smpL (symV lv A) n) (4 * t)) (ww (smpL (symV lv A) n) (4 * t + 1)) (ww (smpL (symV lv A) n) (4 * t + 2)) (ww (smpL (symV lv A) n) (4 * t + 3)) = 0 ∧
  pw1 (ww (smpL (symV lv A) n) (4 * t)) (ww (smpL (symV lv A) n) (4 * t + 1)) (ww (smpL (symV lv A) n) (4 * t + 2)) (ww (smpL (symV lv A) n) (4 * t + 3)) = 4 * lv * lv ∧
  pw2 (ww (smpL (symV lv A) n) (4 * t)) (ww (smpL (symV lv A) n) (4 * t + 1)) (ww (smpL (symV lv A) n) (4 * t + 2)) (ww (smpL (symV lv A) n) (4 * t + 3)) = 0 := by
 have hV : ∀ i, i < n → (symV lv A i).natAbs ≤ 16384 := fun i _ => by have := symV_b h0 h1 A i; omega
 have f (j : Nat) (hj : j < 4) : ww (smpL (symV lv A) n) (4 * t + j) = lv * reQ (st A t + j) := by
  rw [smpL_ww hV (by omega), symV, show (4 * t + j) / 4 = t by omega, show (4 * t + j) % 4 = j by omega]
 have f0 := f 0 (by omega); have f1 := f 1 (by omega); have f2 := f 2 (by omega); have f3 := f 3 (by omega)
 rw [Nat.add_zero, Nat.add_zero] at f0
 rw [f0, f1, f2, f3]
 have hs := st_lt A t
 generalize st A t = s at *
 have q4 : 4 * lv * lv = 4 * (lv * lv) := by rw [Int.mul_assoc]
 have n1 : (lv + lv) * (lv + lv) = 4 * (lv * lv) := by rw [Int.add_mul, Int.mul_add]; omega
 have n2 : (-lv + -lv) * (-lv + -lv) = 4 * (lv * lv) := by rw [← Int.neg_add, Int.neg_mul_neg, n1]
 have hc : s = 0 ∨ s = 1 ∨ s = 2 ∨ s = 3 := by omega
 rcases hc with rfl | rfl | rfl | rfl
 ·rw [show reQ 0 = 1 from rfl, show reQ (0 + 1) = 0 from rfl, show reQ (0 + 2) = -1 from rfl, show reQ (0 + 3) = 0 from rfl]
  unfold pw0 pw1 pw2
  refine ⟨?_, ?_, ?_⟩ <;> simp [q4, n1, Int.add_right_neg]
 ·rw [show reQ 1 = 0 from rfl, show reQ (1 + 1) = -1 from rfl, show reQ (1 + 2) = 0 from rfl, show reQ (1 + 3) = 1 from rfl]
  unfold pw0 pw1 pw2
  refine ⟨?_, ?_, ?_⟩ <;> simp [q4, n1, Int.add_left_neg, Int.add_right_neg]
 ·rw [show reQ 2 = -1 from rfl, show reQ (2 + 1) = 0 from rfl, show reQ (2 + 2) = 1 from rfl, show reQ (2 + 3) = 0 from rfl]
  unfold pw0 pw1 pw2
  refine ⟨?_, ?_, ?_⟩ <;> simp [q4, n2, Int.add_left_neg]
 ·rw [show reQ 3 = 0 from rfl, show reQ (3 + 1) = 1 from rfl, show reQ (3 + 2) = 0 from rfl, show reQ (3 + 3) = -1 from rfl]
  unfold pw0 pw1 pw2
  refine ⟨?_, ?_, ?_⟩ <;> simp [q4, n2, Int.add_left_neg, Int.add_right_neg]
def pwE (v : Int) : Nat → List Int
 | 0 => []
 | k + 1 => pwE v k ++ [0, v, 0]
theorem pwE_of {lv : Int} {A : Nat → Int} {n : Nat} (h0 : 0 ≤ lv) (h1 : lv ≤ 9000) : ∀ k, 4 * k ≤ n → pwL (smpL (symV lv A) n) k = pwE (4 * lv * lv) k
 | 0, _ => rfl
 | k + 1, hk => by
  obtain ⟨g0, g1, g2⟩ := pw_of (A := A) h0 h1 (t := k) (n := n) (by omega)
  rw [pwL, pwE_of h0 h1 k (by omega), g0, g1, g2]; rfl
theorem pwE_len (v : Int) : ∀ k, (pwE v k).length = k * 3
 | 0 => rfl
 | k + 1 => by simp [pwE, pwE_len v k]; omega
theorem pwE_row (v : Int) : ∀ k i, i < k → ((pwE v k).drop (i * 3)).take 3 = [0, v, 0]
 | k + 1, i, h => by
  by_cases c : i = k
  ·subst c
   rw [pwE, List.drop_append_of_le_length (by rw [pwE_len]; omega), List.drop_of_length_le (by rw [pwE_len]; omega)]; rfl
  ·rw [pwE, List.drop_append_of_le_length (by rw [pwE_len]; omega), List.take_append_of_le_length (by rw [List.length_drop, pwE_len]; omega)]
   exact pwE_row v k i (by omega)
theorem vio_of {lv : Int} {A : Nat → Int} {n : Nat} (h0 : 0 ≤ lv) (h1 : lv ≤ 9000) : ∀ k, 4 * k ≤ n → vioL true false true 0 (smpL (symV lv A) n) k = []
 | 0, _ => rfl
 | k + 1, hk => by
  obtain ⟨g0, g1, g2⟩ := pw_of (A := A) h0 h1 (t := k) (n := n) (by omega)
  have hv : vio true false true 0 (smpL (symV lv A) n) k = false := by
   unfold vio
   rw [g0, g2]; rfl
  rw [vioL, vio_of h0 h1 k (by omega), hv]; rfl
theorem smpL_take (V : Nat → Int) : ∀ n m, m ≤ n → (smpL V n).take m = smpL V m := by
  have h : ∀ n m, m ≤ n → (corL V n).take m = corL V m := by
    intro n
    induction n with
    | zero => intro m hm; have : m = 0 := by omega
              subst this; rfl
    | succ n ih =>
      intro m hm
      by_cases c : m = n + 1
      · subst c; rw [List.take_of_length_le (by rw [corL_len]; exact Nat.le_refl _)]
      · rw [corL, List.take_append_of_le_length (by rw [corL_len]; omega)]
        exact ih m (by omega)
  intro n m hm
  rw [smpL, ← List.map_take, h n m hm]; rfl
theorem gr_gr {z : Int} (h : 0 ≤ z ∧ z ≤ 3) : gr (gr z) = z ∧ 0 ≤ gr z ∧ gr z ≤ 3 := by
 have hc : z = 0 ∨ z = 1 ∨ z = 2 ∨ z = 3 := by omega
 rcases hc with rfl | rfl | rfl | rfl <;> decide
theorem unF_phF {B : Nat → Int} {m : Nat} (hB : ∀ i, i < 2 * m → 0 ≤ B i ∧ B i ≤ 1) : corL (unF (phF B)) (m * 2) = corL B (2 * m) := by
 rw [Nat.mul_comm m 2]
 apply corL_congr
 intro j hj
 have h1 := hB (2 * (j / 2)) (by omega)
 have h2 := hB (2 * (j / 2) + 1) (by omega)
 unfold unF phF
 rw [(gr_gr (z := 2 * B (2 * (j / 2)) + B (2 * (j / 2) + 1)) (by omega)).1]
 by_cases c : j % 2 = 0
 ·rw [if_pos c, show 2 * (j / 2) = j by omega] at *
  omega
 ·rw [if_neg c, show 2 * (j / 2) + 1 = j by omega] at *
  omega
theorem bitF_b {s : List Int} (j : Nat) : 0 ≤ bitF s j ∧ bitF s j ≤ 1 := by
 unfold bitF bt; omega
theorem byte_of {s : List Int} {j : Nat} (h : 0 ≤ nI s j ∧ nI s j < 256) : acc (bitF s) (j * 8) 8 = nI s j := by
 have f (k : Nat) (hk : k < 8) : bitF s (j * 8 + k) = bt (nI s j) (7 - k) := by
  unfold bitF
  rw [show (j * 8 + k) / 8 = j by omega, show (j * 8 + k) % 8 = k by omega]
 simp only [acc]
 rw [f 0 (by omega), f 1 (by omega), f 2 (by omega), f 3 (by omega), f 4 (by omega), f 5 (by omega), f 6 (by omega), f 7 (by omega)]
 unfold bt
 simp only [Nat.sub_zero, show 7 - 1 = 6 from rfl, show 7 - 2 = 5 from rfl, show 7 - 3 = 4 from rfl, show 7 - 4 = 3 from rfl, show 7 - 5 = 2 from rfl, show 7 - 6 = 1 from rfl, show 7 - 7 = 0 from rfl,
  show (2 : Int) ^ 7 = 128 from rfl, show (2 : Int) ^ 6 = 64 from rfl, show (2 : Int) ^ 5 = 32 from rfl, show (2 : Int) ^ 4 = 16 from rfl, show (2 : Int) ^ 3 = 8 from rfl, show (2 : Int) ^ 2 = 4 from rfl, show (2 : Int) ^ 1 = 2 from rfl, show (2 : Int) ^ 0 = 1 from rfl]
 omega
theorem bytes_of {s : List Int} {n : Nat} (hn : s.length = n) (hb : ∀ i, i < n → 0 ≤ nI s i ∧ nI s i < 256) : corL (paF (bitF s) (8 * n)) n = s := by
 apply List.ext_getElem?
 intro j
 by_cases hj : j < n
 ·rw [corL_get _ _ _ hj, paF, show min (8 * n - j * 8) 8 = 8 by omega, byte_of (hb j hj), nI, List.getElem?_eq_getElem (by omega)]; rfl
 ·rw [List.getElem?_eq_none (by rw [corL_len]; omega), List.getElem?_eq_none (by omega)]
end
end Go.Proofs.YtbmcfhkedgpldaaGreatDoor
end

/-! SyO -/
section
namespace Go.Ev
open Go.RowKit
noncomputable section
section
variable {E : Env} {lvl K : Nat} {rd : Option Nat} {Φ : Res → Prop}
def FrzB (i : Nat) (ds : List DT) : Option AB → Option AB → Prop
 | none, none => True
 | some a, some a' => a' = a ∨ (a.ext = .cells ∧ a'.ext = .cells ∧ a'.n = a.n ∧ a'.elem = a.elem ∧ a'.full = a.full ∧ All2 (FrzC i ds) a.cells a'.cells)
 | _, _ => False
theorem all2_len {α β : Type} {R : α → β → Prop} : ∀ {l : List α} {ys : List β}, All2 R l ys → l.length = ys.length
 | [], [], _ => rfl
 | _ :: _, _ :: _, h => by simp [all2_len h.2]
theorem outK_freeze (i : Nat) {ds : List DT} {N el : Nat} {fl : Bool} {h h' : Heap} {todo : List Item} {tm tm' : Tm} (hi : getL h i = some (some ⟨ds.map DT.ac, N, el, fl, .cells⟩)) (hl : lvl ≤ i)
  (hh : All2 (FrzB i ds) (setL h i none) h') (ht : All2 (FrzV i ds) tm tm') (ho : OutK E lvl K ⟨h', todo, tm'⟩ Φ rd) : OutK E lvl K ⟨h, todo, tm⟩ Φ rd := by
 rw [getL_eq] at hi
 rw [setL_eq] at hh
 refine .before (s' := ⟨h', todo, tm'⟩) (fun fr t cs w m base hT H G => ?_) ho
 obtain ⟨m2, H2, hle, hn, hρ, hκ, hV, hC⟩ := HR.freeze H hi hl
 have hlen := all2_len hh
 have back : ∀ (b : Nat) (a' : AB), h'[b]? = some (some a') → ∃ a : AB, (h.set i none)[b]? = some (some a) ∧ (a' = a ∨ (a.ext = .cells ∧ a'.ext = .cells ∧ a'.n = a.n ∧ a'.elem = a.elem ∧ a'.full = a.full ∧ All2 (FrzC i ds) a.cells a'.cells)) := by
  intro b a' hb
  obtain ⟨x, hx, hr⟩ := hh.get' hb
  cases x with
  | none => exact hr.elim
  | some a => exact ⟨a, hx, hr⟩
 have hxm : ∀ {x x' : AC} {y : Value}, FrzC i ds x x' → CR m2 x y → CR m x y ∨ CR m2 x' y := fun {x x' y} hf hy => by
  rcases hf with rfl | _
  ·exact .inr hy
  ·left
   rename_i hf
   obtain ⟨o, len, sz, cap, ex, r, rfl, rfl, hr⟩ := hf
   obtain ⟨hb, c, o', hy', rest⟩ := hy
   exact ⟨by rw [← hn]; exact hb, c, o', by rw [← hρ]; exact hy', by rw [← hκ]; exact rest⟩
 refine ⟨t, w, m2, .refl _ _, all2_map (R := VR m) (T := FrzV i ds) (S := VR m2) (fun a b c h0 h3 => hV a c b h0 h3) ht hT, ⟨by rw [H2.n, hlen], by rw [← hlen]; exact H2.lvlLe, H2.baseLe, fun b a' hb => ?_, fun b hb hb2 => H2.own b hb (by rw [hlen]; exact hb2), ?_, H2.lo, fun p hp => ⟨(H2.tab p hp).1, fun b a' hb ha => ?_⟩⟩, hle, Below.refl _ _⟩
 ·obtain ⟨a, ha, hr⟩ := back b a' hb
  rcases hr with rfl | ⟨r1, r2, r3, r4, r5, r6⟩
  ·exact H2.ent b a' ha
  ·obtain ⟨B, _⟩ := H2.ent b a ha
   obtain ⟨b1, b2, c, fz, b3, b4, b5, b6, b7⟩ := B r1
   refine ⟨fun _ => ⟨by rw [← all2_len r6, b1, r3], fun hf => by rw [r3]; exact b2 (by rw [← r5]; exact hf), c, fz, by rw [r4]; exact b3, b4, b5, by rw [r3]; exact b6, ?_⟩, by rw [r2]; trivial⟩
   rw [r3]
   exact all2_map (R := CR m2) (T := FrzC i ds) (S := CR m2) (fun x y x' h0 h3 => (hxm h0 h3).elim (fun h => hC x x' y h0 h) id) r6 b7
 ·intro b b' hb hb' h1 h2 h3 h4
  refine H2.inj b b' (by rw [hlen]; exact hb) (by rw [hlen]; exact hb') ?_ ?_ h3 h4
  ·obtain ⟨a, ha⟩ := h1; obtain ⟨a0, h0, _⟩ := back b a ha; exact ⟨a0, h0⟩
  ·obtain ⟨a, ha⟩ := h2; obtain ⟨a0, h0, _⟩ := back b' a ha; exact ⟨a0, h0⟩
 ·obtain ⟨a, ha0, _⟩ := back b a' ha
  exact (H2.tab p hp).2 b a hb ha0
end
end
end Go.Ev
end

/-! SeCq -/
section
open Go Go.Ev
namespace Go.Proofs.YtbmcfhkedgpldaaGreatDoor
noncomputable section
set_option maxRecDepth 100000
set_option maxHeartbeats 20000000
def s54 (S : List DT) (n : Nat) (_l : List AC) (_b : Bool) (_bs : List UInt8) (_j : Nat → Value) : St := startK Tryz.f54 [] [(.e (.one (.dp (.s S n 1))))]
def s57 (S : List DT) (n : Nat) (_l : List AC) (_b : Bool) (_bs : List UInt8) (_j : Nat → Value) : St := startK Tryz.f57 [] [(.e (.one (.dp (.s S n 1)))), (.e (.one (.dp (.s S n 1))))]
def p54_end (_S : List DT) (n : Nat) (l : List AC) (b : Bool) (_bs : List UInt8) (j : Nat → Value) : St := ⟨[(.some ⟨(l), (n), 5, (b), .cells⟩)], [(.code .ret)], mkT j [(2, (.e (.one (.slc 0 0 (n) 1 (n) (b)))))] 6 0⟩
theorem p54 (hE : EnvOk E) (S : List DT) (n : Nat) (l : List AC) (b : Bool) (bs : List UInt8) (h0 : CopyOk [(.some ⟨[], 0, 5, true, .cells⟩)] 1 1 (.e (.one (.dp (.s (S) (n) 1)))) n l b) (h1 : (n * 1 : Nat) = n) (g0 : FlatC (l)) {Φ : Res → Prop} (ho : ∀ j, OutK E 0 0 (p54_end S n l b bs j) Φ) (j : Nat → Value) : OutK E 0 0 (s54 S n l b bs j) Φ :=
 outK_seg hE (R0_ok hE) [.run 3, (.ops [(2, (.cpu (n) (n) (l) (b)))] [])] [2] (s' := fun j => ⟨[none, (.some ⟨(l), (n), 5, (b), .cells⟩)], [(.code .ret)], mkT j [(2, (.e (.one (.slc 1 0 (n) 1 (n) (b)))))] 6 0⟩) (fun j => by kernel_rfl) (aP h0 <| aP h1 <| aZ)
  fun j => outK_gcF [1] [true] (h' := [(.some ⟨(l), (n), 5, (b), .cells⟩)]) (by decide) (by kernel_rfl) (by kernel_rfl) ⟨g0, trivial⟩ (by kernel_rfl) (ho j)
def p57_end (_S : List DT) (_n : Nat) (_l : List AC) (_b : Bool) (bs : List UInt8) (j : Nat → Value) : St := ⟨[], [(.code .ret)], mkT j [(4, (iB ({ data := bs.toArray : ByteArray }.toList == { data := bs.toArray : ByteArray }.toList)))] 10 0⟩
theorem p57 (hE : EnvOk E) (S : List DT) (n : Nat) (l : List AC) (b : Bool) (bs : List UInt8) (h0 : StrOk [] (.e (.one (.dp (.s (S) (n) 1)))) bs) (h1 : StrOk [] (.e (.one (.dp (.s (S) (n) 1)))) bs) {Φ : Res → Prop} (ho : ∀ j, OutK E 0 0 (p57_end S n l b bs j) Φ) (j : Nat → Value) : OutK E 0 0 (s57 S n l b bs j) Φ :=
 outK_seg hE (R0_ok hE) [.run 3, (.ops [(1, (.str (bs))), (3, (.str (bs)))] [])] [4] (fun j => by kernel_rfl) (aP h0 <| aP h1 <| aZ)
  ho
theorem K28c (hE : EnvOk E) (ws : List Nat) (hm : ws.length ≤ 1000000) (h0 : 0 < ws.length) : COut E 0 [] 28 [.e (.one (dF ws).ac)] (.e (.one (.slc 0 0 ws.length 1 ws.length false))) [some ⟨(fDT ws).map DT.ac, ws.length, 23, false, .cells⟩] := by
 have hfl : FlatC ((fDT ws).map DT.ac) := by
  intro c hc
  simp only [List.map_map, List.mem_map] at hc
  obtain ⟨x, _, rfl⟩ := hc
  exact ⟨_, rfl⟩
 have h1 : ((fDT ws).map DT.ac).all AC.isOne = true := by simp [List.all_map, DT.ac, AC.isOne]
 exact cOut_start Tryz.func28 rfl (p28 hE (fDT ws) ws.length ((fDT ws).map DT.ac) false (.inr (.inl ⟨rfl, by omega, by simp [small]; omega, h1, _, rfl, rfl, by simp⟩)) (Nat.mul_one _) hfl (fun j => outK_ret (ends_ret (by kernel_rfl))) fun _ => undef)
theorem K54 (hE : EnvOk E) (s : List Int) (n : Nat) (hn : s.length = n) (hm : n ≤ 1000000) (h0 : 0 < n) : COut E 0 [] 54 [.e (.one (.dp (.s (bD s) n 1)))] (.e (.one (.dp (.s (bD s) n 1)))) [] := by
 have hl : (bD s).length = n := by simp [bD, hn]
 have hfl : FlatC ((bD s).map DT.ac) := by
  intro c hc
  simp only [bD, List.map_map, List.mem_map] at hc
  obtain ⟨x, _, rfl⟩ := hc
  exact ⟨_, rfl⟩
 have h1 : ((bD s).map DT.ac).all AC.isOne = true := by simp [bD, List.all_map, DT.ac, AC.isOne]
 have hc1 : COut E 0 [] 54 [.e (.one (.dp (.s (bD s) n 1)))] (.e (.one (.slc 0 0 n 1 n false))) [some ⟨(bD s).map DT.ac, n, 5, false, .cells⟩] := cOut_start Tryz.func54 rfl (p54 hE (bD s) n ((bD s).map DT.ac) false [] (.inr (.inl ⟨rfl, by omega, by simp [small]; omega, h1, _, rfl, rfl, by simp [hl]⟩)) (Nat.mul_one _) hfl (fun j => outK_ret (ends_ret (by kernel_rfl))) fun _ => undef)
 exact cOut_clear (cOut_freeze 0 hc1 rfl (Nat.zero_le _) (ds := bD s) (.inr ⟨0, n, 1, n, _, bD s, rfl, rfl, by rw [takeL_eq, dropL_eq, List.drop_zero, if_pos (by simp [hl]), List.take_of_length_le (by simp [hl])]⟩)) rfl
theorem K57 (hE : EnvOk E) (s : List Int) (n : Nat) (hn : s.length = n) (h0 : 0 < n) (hb : ∀ x ∈ s, 0 ≤ x ∧ x < 256) : COut E 0 [] 57 [.e (.one (.dp (.s (bD s) n 1))), .e (.one (.dp (.s (bD s) n 1)))] (iB true) [] := by
 have hs : StrOk [] (.e (.one (.dp (.s (bD s) n 1)))) (s.map fun x => UInt8.ofNat x.toNat) := by
  refine .inr (.inr ⟨bD s, by rw [List.length_map, hn], by rw [List.length_map]; omega, ?_⟩)
  simp only [bD, List.map_map]
  apply List.map_congr_left
  intro x hx
  obtain ⟨a, b⟩ := hb x hx
  have e : ((UInt8.ofNat x.toNat).toNat : Int) = x := by
   simp only [UInt8.toNat_ofNat']; omega
  show AC.v (.int .u8 x) = AC.v (.int .u8 ((UInt8.ofNat x.toNat).toNat : Int))
  rw [e]
 have key : COut E 0 [] 57 [.e (.one (.dp (.s (bD s) n 1))), .e (.one (.dp (.s (bD s) n 1)))] (iB ((⟨(s.map fun x => UInt8.ofNat x.toNat).toArray⟩ : ByteArray).toList == (⟨(s.map fun x => UInt8.ofNat x.toNat).toArray⟩ : ByteArray).toList)) [] := cOut_start Tryz.func57 rfl (p57 hE (bD s) n [] false (s.map fun x => UInt8.ofNat x.toNat) hs hs (fun j => outK_ret (ends_ret (by kernel_rfl))) fun _ => undef)
 rw [beq_self_eq_true] at key
 exact key
end
end Go.Proofs.YtbmcfhkedgpldaaGreatDoor
end
