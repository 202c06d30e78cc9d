/-
  Part of the proof: SeHb, SeAcc, SeBa, SeEqB, SeCl.
-/
import Derived.Test.YtneaafigbnjceaaGreatDoorSeZH
import Derived.Ground.SlgnProg
import Derived.Shelf.SlicesG.Clone
import Derived.Stop.BytesEq

/-! SeHb -/
section
open Go Go.Ev
namespace Go.Proofs.YtneaafigbnjceaaGreatDoor
noncomputable section
set_option maxRecDepth 100000
set_option maxHeartbeats 20000000
def h166 (_z : Nat → Value) (C : List DT) (n _i _k : Nat) (_x _q _s _e t _u _y _r _v : Int) (_d0 _d1 _d2 _d3 _d4 _d5 _d6 _w : Bool) (_f _l : Int) (_j : Nat → Value) : St := startK Tryz.f122 [] [.e (.one (.dp (.s C n 9))), iI t]
def h148 (_z : Nat → Value) (C : List DT) (n _i _k : Nat) (_x _q _s _e t _u _y _r _v : Int) (_d0 _d1 _d2 _d3 _d4 _d5 _d6 _w : Bool) (_f _l : Int) (_j : Nat → Value) : St := startK Tryz.f98 [] [.e (.one (.dp (.s C n 9))), iI t]
def h108 (_z : Nat → Value) (C : List DT) (n _i _k : Nat) (_x _q _s _e t _u _y _r _v : Int) (_d0 _d1 _d2 _d3 _d4 _d5 _d6 _w : Bool) (_f _l : Int) (_j : Nat → Value) : St := startK Tryz.f67 [] [.e (.one (.dp (.s C n 9))), iI t]
abbrev lpV (T : Tm) (ps : Array Tmp) (asg bod : Code) : Option AB := some (loopEnt .ready none T ps asg bod)
def h165 (T : Tm) (ps : Array Tmp) (asg bod : Code) (C : List DT) (n : Nat) (t _u _r _v : Int) (_j : Nat → Value) : St := startK Tryz.f121 [bK [.dp (.s C n 9)] 1 70, bK [.v (.int .i64 0)] 1 3, bK [.v (.int .i64 0)] 1 36, bK [.dp (.s C n 9)] 1 70, bK [.v (.int .i64 t)] 1 3, some markEnt, lpV T ps asg bod] [.e (.one (.yld 6)), .e (.one (.ptr 4 0)), .e (.one (.ptr 3 0))]
def r166 (_z : Nat → Value) (C : List DT) (n i _k : Nat) (_x _q s e t _u _y _r _v : Int) (_d0 _d1 _d2 _d3 _d4 _d5 _d6 _w : Bool) (_f _l : Int) (j : Nat → Value) : St := ⟨[], [(.code (atC [1, 1, 0, 1, 0, 0] (bodyOf Tryz.f122))), (.inLoop (atC [1, 1, 0, 1, 0, 0] (bodyOf Tryz.f122))), (.inBlock 0), (.code (atC [1, 1, 1] (bodyOf Tryz.f122)))], mkT j [(1, (iI (t))), (5, (iI (s))), (6, (iI e)), (11, (.e (.one (.dp (.s (C) (n) 9))))), (12, (iI (Int.ofNat n))), (13, (iI (Int.ofNat i)))] 33 0⟩
def r165 (T : Tm) (ps : Array Tmp) (asg bod : Code) (C : List DT) (n : Nat) (t _u _r _v : Int) (j : Nat → Value) : St := ⟨[(bK [(.dp (.s (C) (n) 9))] 1 70), (bK [(.v (.int .i64 0))] 1 3), (bK [(.v (.int .i64 0))] 1 36), (bK [(.dp (.s (C) (n) 9))] 1 70), (bK [(.v (.int .i64 (t)))] 1 3), (.some ⟨[], 0, 0, false, .mark⟩), (.some ⟨[], 0, 0, false, (.loop .ready none (T) (ps) (asg) (bod))⟩)], [(.code (atC [0, 0] (bodyOf Tryz.f121))), (.inLoop (atC [0, 0] (bodyOf Tryz.f121))), (.inBlock 0)], mkT j [(0, (.e (.one (.yld 6)))), (1, (.e (.one (.ptr 4 0)))), (2, (.e (.one (.ptr 3 0))))] 14 0⟩
abbrev T108 (z : Nat → Value) : Tm := mkT z [(2, .e (.one (.ptr 0 0))), (4, .e (.one (.ptr 1 0))), (5, .e (.one (.ptr 2 0))), (6, .tup []), (9, .e (.one (.clo 121 [] [.one (.ptr 4 0), .one (.ptr 3 0)]))), (10, .tup [])] 16 0
def asg108 : Code := atC [1, 0, 1, 0, 0] (bodyOf Tryz.f67)
def bod108 : Code := atC [1, 0, 1, 0, 1] (bodyOf Tryz.f67)
abbrev lp108 (st : LoopState) (pd : Option Code) (z : Nat → Value) : Option AB := some (loopEnt st pd (T108 z) #[10] asg108 bod108)
def sR108 (z : Nat → Value) (C : List DT) (n _i _k : Nat) (_x _q _s _e t _u _y _r _v : Int) (_d0 _d1 _d2 _d3 _d4 _d5 _d6 _w : Bool) (_f _l : Int) (_j : Nat → Value) : St := ⟨[bK [.dp (.s C n 9)] 1 70, bK [.v (.int .i64 0)] 1 3, bK [.v (.int .i64 0)] 1 36, bK [.dp (.s C n 9)] 1 70, bK [.v (.int .i64 t)] 1 3, some markEnt, lp108 .ready none z], [.code asg108, .beginRound, .code bod108], mkT z [(2, .e (.one (.ptr 0 0))), (4, .e (.one (.ptr 1 0))), (5, .e (.one (.ptr 2 0))), (6, .tup []), (9, .e (.one (.clo 121 [] [.one (.ptr 4 0), .one (.ptr 3 0)]))), (10, iI t)] 16 0⟩
def sB108 (z : Nat → Value) (C : List DT) (n _i _k : Nat) (_x _q _s _e t _u _y _r _v : Int) (_d0 _d1 _d2 _d3 _d4 _d5 _d6 _w : Bool) (_f _l : Int) (j : Nat → Value) : St := ⟨[bK [.dp (.s C n 9)] 1 70, bK [.v (.int .i64 0)] 1 3, bK [.v (.int .i64 0)] 1 36, bK [.dp (.s C n 9)] 1 70, bK [.v (.int .i64 t)] 1 3, some markEnt, lp108 .busy none z], [.code bod108], mkT j [(2, (.e (.one (.ptr 0 0)))), (4, (.e (.one (.ptr 1 0)))), (5, (.e (.one (.ptr 2 0)))), (6, (iI (t)))] 16 0⟩
def sE108t (z : Nat → Value) (C : List DT) (n _i _k : Nat) (_x _q _s _e t _u _y _r _v : Int) (_d0 _d1 _d2 _d3 _d4 _d5 _d6 _w : Bool) (_f _l : Int) (j : Nat → Value) : St := ⟨[bK [.dp (.s C n 9)] 1 70, bK [.v (.int .i64 0)] 1 3, bK [.v (.int .i64 0)] 1 36, bK [.dp (.s C n 9)] 1 70, bK [.v (.int .i64 t)] 1 3, some markEnt, lp108 .exhausted none z], [.inBlock 0, .code (atC [1, 1] (bodyOf Tryz.f67))], T108 j⟩
def sE108f (z : Nat → Value) (C : List DT) (n _i _k : Nat) (_x _q _s _e t _u _y _r _v : Int) (_d0 _d1 _d2 _d3 _d4 _d5 _d6 _w : Bool) (_f _l : Int) (j : Nat → Value) : St := ⟨[bK [.dp (.s C n 9)] 1 70, bK [.v (.int .i64 t)] 1 3, bK [.v (.int .i64 0)] 1 36, bK [.dp (.s C n 9)] 1 70, bK [.v (.int .i64 t)] 1 3, some markEnt, lp108 .exhausted (some .ret) z], [.code .ret, .inBlock 0, .code (atC [1, 1] (bodyOf Tryz.f67))], T108 j⟩
def h41 (_z : Nat → Value) (C : List DT) (n _i _k : Nat) (_x _q _s _e t _u _y _r _v : Int) (_d0 _d1 _d2 _d3 _d4 _d5 _d6 _w : Bool) (_f _l : Int) (_j : Nat → Value) : St := startK Tryz.f29 [] [.e (.one (.dp (.s C n 9))), iI t]
def h43 (_z : Nat → Value) (C : List DT) (n _i _k : Nat) (_x _q _s _e t _u _y _r _v : Int) (_d0 _d1 _d2 _d3 _d4 _d5 _d6 _w : Bool) (_f _l : Int) (_j : Nat → Value) : St := startK Tryz.f26 [] [.e (.one (.dp (.s C n 9))), iI t]
def p166a_end (_z : Nat → Value) (C : List DT) (n _i _k : Nat) (_x _q s _e t _u _y _r _v : Int) (_d0 _d1 _d2 _d3 _d4 _d5 _d6 _w : Bool) (_f _l : Int) (j : Nat → Value) : St := ⟨[], [(.code (atC [1, 1, 0, 1, 0, 0] (bodyOf Tryz.f122))), (.inLoop (atC [1, 1, 0, 1, 0, 0] (bodyOf Tryz.f122))), (.inBlock 0), (.code (atC [1, 1, 1] (bodyOf Tryz.f122)))], mkT j [(1, (iI (t))), (5, (iI (s))), (6, (iI 86400)), (11, (.e (.one (.dp (.s (C) (n) 9))))), (12, (iI (Int.ofNat n))), (13, (iI 0))] 33 0⟩
theorem p166a (hE : EnvOk E) (z : Nat → Value) (C : List DT) (n i k : Nat) (x q s e t u y r v : Int) (d0 d1 d2 d3 d4 d5 d6 w : Bool) (f l : Int) (h0 : ((iI (t.tmod (86400 : Int))) : AV) = (iI (s))) {Φ : Res → Prop} (ho : ∀ j, OutK E 0 0 (p166a_end z C n i k x q s e t u y r v d0 d1 d2 d3 d4 d5 d6 w f l j) Φ) (j : Nat → Value) : OutK E 0 0 (h166 z C n i k x q s e t u y r v d0 d1 d2 d3 d4 d5 d6 w f l j) Φ :=
 oS hE [.run 3, (.ops [(1, (.rn (iI (s))))] []), .run 2, (.ops [(1, (.d .len))] []), .run 2] [1, 5, 6, 11, 12, 13] (aP h0 <| aZ)
  ho
def p148_end (_z : Nat → Value) (C : List DT) (n _i _k : Nat) (_x _q _s _e t _u _y _r _v : Int) (_d0 _d1 _d2 _d3 _d4 _d5 _d6 _w : Bool) (_f _l : Int) (j : Nat → Value) : St := ⟨[(bK [(.dp (.s (C) (n) 9))] 1 70), (bK [(.v (.int .i64 (t)))] 1 3)], [(.code .ret)], mkT j [(4, (.e (.one (.clo 121 [] [(.one (.ptr 1 0)), (.one (.ptr 0 0))]))))] 6 0⟩
theorem p148 (hE : EnvOk E) (z : Nat → Value) (C : List DT) (n i k : Nat) (x q s e t u y r v : Int) (d0 d1 d2 d3 d4 d5 d6 w : Bool) (f l : Int)  {Φ : Res → Prop} (ho : ∀ j, OutK E 0 0 (p148_end z C n i k x q s e t u y r v d0 d1 d2 d3 d4 d5 d6 w f l j) Φ) (j : Nat → Value) : OutK E 0 0 (h148 z C n i k x q s e t u y r v d0 d1 d2 d3 d4 d5 d6 w f l j) Φ :=
 oS hE [.run 4] [4] (ps := []) trivial
  ho
def p108a_end (_z : Nat → Value) (C : List DT) (n _i _k : Nat) (_x _q _s _e t _u _y _r _v : Int) (_d0 _d1 _d2 _d3 _d4 _d5 _d6 _w : Bool) (_f _l : Int) (j : Nat → Value) : St := ⟨[(bK [(.dp (.s (C) (n) 9))] 1 70), (bK [(.v (.int .i64 0))] 1 3), (bK [(.v (.int .i64 0))] 1 36), (bK [(.dp (.s (C) (n) 9))] 1 70), (bK [(.v (.int .i64 (t)))] 1 3)], [(.code (atC [1, 0, 1, 0] (bodyOf Tryz.f67))), (.inBlock 0), (.code (atC [1, 1] (bodyOf Tryz.f67)))], mkT j [(2, (.e (.one (.ptr 0 0)))), (4, (.e (.one (.ptr 1 0)))), (5, (.e (.one (.ptr 2 0)))), (6, (.tup [])), (9, (.e (.one (.clo 121 [] [(.one (.ptr 4 0)), (.one (.ptr 3 0))])))), (10, (.tup []))] 16 0⟩
theorem p108a (hE : EnvOk E) (z : Nat → Value) (C : List DT) (n i k : Nat) (x q s e t u y r v : Int) (d0 d1 d2 d3 d4 d5 d6 w : Bool) (f l : Int) (h0 : COut E 0 [] 98 [(.e (.one (.dp (.s (C) (n) 9)))), (iI (t))] (.e (.one (.clo 121 [] [(.one (.ptr 1 0)), (.one (.ptr 0 0))]))) [(bK [(.dp (.s (C) (n) 9))] 1 70), (bK [(.v (.int .i64 (t)))] 1 3)]) (h3 : True) (h5 : True) {Φ : Res → Prop} (ho : ∀ j, OutK E 0 0 (p108a_end z C n i k x q s e t u y r v d0 d1 d2 d3 d4 d5 d6 w f l j) Φ) (j : Nat → Value) : OutK E 0 0 (h108 z C n i k x q s e t u y r v d0 d1 d2 d3 d4 d5 d6 w f l j) Φ :=
 oS hE [.run 4, (.ops [(2, (.cl [] [] [(.e (.one (.dp (.s (C) (n) 9)))), (iI (t))] [] (.e (.one (.clo 121 [] [(.one (.ptr 1 0)), (.one (.ptr 0 0))]))) [(bK [(.dp (.s (C) (n) 9))] 1 70), (bK [(.v (.int .i64 (t)))] 1 3)] (.e (.one (.clo 121 [] [(.one (.ptr 4 0)), (.one (.ptr 3 0))]))) [false, false] [(bK [(.dp (.s (C) (n) 9))] 1 70), (bK [(.v (.int .i64 (t)))] 1 3)]))] []), .run 1] [2, 4, 5, 6, 9, 10] (aP h0 <| aP (rfl : ([(.e (.one (.dp (.s (C) (n) 9)))), (iI (t))] : List AV) = [(.e (.one (.dp (.s (C) (n) 9)))), (iI (t))]) <| aP (rfl : ([] : List (Option (Option AB))) = []) <| aP h3 <| aP (rfl : ([(.some (bK [(.dp (.s (C) (n) 9))] 1 70)), (.some (bK [(.v (.int .i64 (t)))] 1 3))] : List (Option (Option AB))) = [(.some (bK [(.dp (.s (C) (n) 9))] 1 70)), (.some (bK [(.v (.int .i64 (t)))] 1 3))]) <| aP h5 <| aP (rfl : ((.e (.one (.clo 121 [] [(.one (.ptr 4 0)), (.one (.ptr 3 0))]))) : AV) = (.e (.one (.clo 121 [] [(.one (.ptr 4 0)), (.one (.ptr 3 0))])))) <| aZ)
  ho
def p165a_end (T : Tm) (ps : Array Tmp) (asg : Code) (bod : Code) (C : List DT) (n : Nat) (t _u _r _v : Int) (j : Nat → Value) : St := ⟨[(bK [(.dp (.s (C) (n) 9))] 1 70), (bK [(.v (.int .i64 0))] 1 3), (bK [(.v (.int .i64 0))] 1 36), (bK [(.dp (.s (C) (n) 9))] 1 70), (bK [(.v (.int .i64 (t)))] 1 3), (.some ⟨[], 0, 0, false, .mark⟩), (.some ⟨[], 0, 0, false, (.loop .ready none (T) (ps) (asg) (bod))⟩)], [(.code (atC [0, 0] (bodyOf Tryz.f121))), (.inLoop (atC [0, 0] (bodyOf Tryz.f121))), (.inBlock 0)], mkT j [(0, (.e (.one (.yld 6)))), (1, (.e (.one (.ptr 4 0)))), (2, (.e (.one (.ptr 3 0))))] 14 0⟩
theorem p165a (hE : EnvOk E) (T : Tm) (ps : Array Tmp) (asg : Code) (bod : Code) (C : List DT) (n : Nat) (t u r v : Int)  {Φ : Res → Prop} (ho : ∀ j, OutK E 0 7 (p165a_end T ps asg bod C n t u r v j) Φ) (j : Nat → Value) : OutK E 0 7 (h165 T ps asg bod C n t u r v j) Φ :=
 oS hE [.run 2] [0, 1, 2] (ps := []) trivial
  ho
def p166n_end (_z : Nat → Value) (C : List DT) (n i _k : Nat) (_x _q s e t _u _y _r _v : Int) (_d0 _d1 _d2 _d3 _d4 _d5 _d6 _w : Bool) (_f _l : Int) (j : Nat → Value) : St := ⟨[], [(.code (atC [1, 1, 0, 1, 0, 0] (bodyOf Tryz.f122))), (.inLoop (atC [1, 1, 0, 1, 0, 0] (bodyOf Tryz.f122))), (.inBlock 0), (.code (atC [1, 1, 1] (bodyOf Tryz.f122)))], mkT j [(1, (iI (t))), (5, (iI (s))), (6, (iI (e))), (11, (.e (.one (.dp (.s (C) (n) 9))))), (12, (iI (Int.ofNat n))), (13, (iI (Int.ofNat (i + 1))))] 33 0⟩
theorem p166n (hE : EnvOk E) (z : Nat → Value) (C : List DT) (n i k : Nat) (x q s e t u y r v : Int) (d0 d1 d2 d3 d4 d5 d6 w : Bool) (f l : Int) (h0 : (decide (Int.ofNat i < Int.ofNat n) : Bool) = true) (h1 : (0 : Int) ≤ Int.ofNat i ∧ Int.ofNat i < (↑n : Int)) (h2 : ((Int.ofNat i).toNat * nat_lit 9 : Nat) = i.mul (nat_lit 9)) (h3 : (takeL (dropL C (i.mul (nat_lit 9))) (9 : Nat) : Option (List DT)) = (.some [(.v (.bool (d0))), (.v (.bool (d1))), (.v (.bool (d2))), (.v (.bool (d3))), (.v (.bool (d4))), (.v (.bool (d5))), (.v (.bool (d6))), (.v (.int .i64 (f))), (.v (.int .i64 (l)))])) (h4 : (decide (l > s) : Bool) = false) (h5 : ((iI (wrapF IntKind.i64 (Int.ofNat i + (1 : Int)))) : AV) = (iI (Int.ofNat (i + 1)))) {Φ : Res → Prop} (ho : ∀ j, OutK E 0 0 (p166n_end z C n i k x q s e t u y r v d0 d1 d2 d3 d4 d5 d6 w f l j) Φ) (j : Nat → Value) : OutK E 0 0 (r166 z C n i k x q s e t u y r v d0 d1 d2 d3 d4 d5 d6 w f l j) Φ :=
 oS hE [.run 3, (.cond true), .run 4, (.ops [(1, (.d (.ldn [(.v (.bool (d0))), (.v (.bool (d1))), (.v (.bool (d2))), (.v (.bool (d3))), (.v (.bool (d4))), (.v (.bool (d5))), (.v (.bool (d6))), (.v (.int .i64 (f))), (.v (.int .i64 (l)))]))), (0, (.d (.ix (i.mul (nat_lit 9)))))] []), .run 2, (.cond false), .run 2, (.ops [(0, (.rn (iI (Int.ofNat (i + 1)))))] []), .run 1] [1, 5, 6, 11, 12, 13] (s' := fun j => ⟨[(bK [(.v (.bool (d0))), (.v (.bool (d1))), (.v (.bool (d2))), (.v (.bool (d3))), (.v (.bool (d4))), (.v (.bool (d5))), (.v (.bool (d6))), (.v (.int .i64 (f))), (.v (.int .i64 (l)))] 9 130)], [(.code (atC [1, 1, 0, 1, 0, 0] (bodyOf Tryz.f122))), (.inLoop (atC [1, 1, 0, 1, 0, 0] (bodyOf Tryz.f122))), (.inBlock 0), (.code (atC [1, 1, 1] (bodyOf Tryz.f122)))], mkT j [(1, (iI (t))), (5, (iI (s))), (6, (iI (e))), (11, (.e (.one (.dp (.s (C) (n) 9))))), (12, (iI (Int.ofNat n))), (13, (iI (Int.ofNat (i + 1))))] 33 0⟩) (aP h0 <| aP h1 <| aP h2 <| aP h3 <| aP h4 <| aP h5 <| aZ)
  fun j => gZ [] (ho j)
def p166s_end (_z : Nat → Value) (C : List DT) (n i _k : Nat) (_x _q s _e t u _y _r _v : Int) (_d0 _d1 _d2 _d3 _d4 _d5 _d6 _w : Bool) (_f _l : Int) (j : Nat → Value) : St := ⟨[], [(.code (atC [1, 1, 0, 1, 0, 0] (bodyOf Tryz.f122))), (.inLoop (atC [1, 1, 0, 1, 0, 0] (bodyOf Tryz.f122))), (.inBlock 0), (.code (atC [1, 1, 1] (bodyOf Tryz.f122)))], mkT j [(1, (iI (t))), (5, (iI (s))), (6, (iI (u))), (11, (.e (.one (.dp (.s (C) (n) 9))))), (12, (iI (Int.ofNat n))), (13, (iI (Int.ofNat (i + 1))))] 33 0⟩
theorem p166s (hE : EnvOk E) (z : Nat → Value) (C : List DT) (n i k : Nat) (x q s e t u y r v : Int) (d0 d1 d2 d3 d4 d5 d6 w : Bool) (f l : Int) (h0 : (decide (Int.ofNat i < Int.ofNat n) : Bool) = true) (h1 : (0 : Int) ≤ Int.ofNat i ∧ Int.ofNat i < (↑n : Int)) (h2 : ((Int.ofNat i).toNat * nat_lit 9 : Nat) = i.mul (nat_lit 9)) (h3 : (takeL (dropL C (i.mul (nat_lit 9))) (9 : Nat) : Option (List DT)) = (.some [(.v (.bool (d0))), (.v (.bool (d1))), (.v (.bool (d2))), (.v (.bool (d3))), (.v (.bool (d4))), (.v (.bool (d5))), (.v (.bool (d6))), (.v (.int .i64 (f))), (.v (.int .i64 (l)))])) (h4 : (decide (l > s) : Bool) = true) (h5 : ((iI (if l < e then l else e)) : AV) = (iI (u))) (h6 : ((iI (wrapF IntKind.i64 (Int.ofNat i + (1 : Int)))) : AV) = (iI (Int.ofNat (i + 1)))) {Φ : Res → Prop} (ho : ∀ j, OutK E 0 0 (p166s_end z C n i k x q s e t u y r v d0 d1 d2 d3 d4 d5 d6 w f l j) Φ) (j : Nat → Value) : OutK E 0 0 (r166 z C n i k x q s e t u y r v d0 d1 d2 d3 d4 d5 d6 w f l j) Φ :=
 oS hE [.run 3, (.cond true), .run 4, (.ops [(1, (.d (.ldn [(.v (.bool (d0))), (.v (.bool (d1))), (.v (.bool (d2))), (.v (.bool (d3))), (.v (.bool (d4))), (.v (.bool (d5))), (.v (.bool (d6))), (.v (.int .i64 (f))), (.v (.int .i64 (l)))]))), (0, (.d (.ix (i.mul (nat_lit 9)))))] []), .run 2, (.cond true), (.ops [(4, (.rn (iI (u))))] []), .run 1, (.ops [(0, (.rn (iI (Int.ofNat (i + 1)))))] []), .run 1] [1, 5, 6, 11, 12, 13] (s' := fun j => ⟨[(bK [(.v (.bool (d0))), (.v (.bool (d1))), (.v (.bool (d2))), (.v (.bool (d3))), (.v (.bool (d4))), (.v (.bool (d5))), (.v (.bool (d6))), (.v (.int .i64 (f))), (.v (.int .i64 (l)))] 9 130)], [(.code (atC [1, 1, 0, 1, 0, 0] (bodyOf Tryz.f122))), (.inLoop (atC [1, 1, 0, 1, 0, 0] (bodyOf Tryz.f122))), (.inBlock 0), (.code (atC [1, 1, 1] (bodyOf Tryz.f122)))], mkT j [(1, (iI (t))), (5, (iI (s))), (6, (iI (u))), (11, (.e (.one (.dp (.s (C) (n) 9))))), (12, (iI (Int.ofNat n))), (13, (iI (Int.ofNat (i + 1))))] 33 0⟩) (aP h0 <| aP h1 <| aP h2 <| aP h3 <| aP h4 <| aP h5 <| aP h6 <| aZ)
  fun j => gZ [] (ho j)
def p166x_end (_z : Nat → Value) (_C : List DT) (_n _i _k : Nat) (_x _q _s _e _t _u _y r _v : Int) (_d0 _d1 _d2 _d3 _d4 _d5 _d6 _w : Bool) (_f _l : Int) (j : Nat → Value) : St := ⟨[], [(.code .ret)], mkT j [(4, (iI (r)))] 33 0⟩
theorem p166x (hE : EnvOk E) (z : Nat → Value) (C : List DT) (n i k : Nat) (x q s e t u y r v : Int) (d0 d1 d2 d3 d4 d5 d6 w : Bool) (f l : Int) (h0 : (decide (Int.ofNat i < Int.ofNat n) : Bool) = false) (h1 : ((iI (wrapF IntKind.i64 (wrapF IntKind.i64 (t - s) + e))) : AV) = (iI (r))) {Φ : Res → Prop} (ho : ∀ j, OutK E 0 0 (p166x_end z C n i k x q s e t u y r v d0 d1 d2 d3 d4 d5 d6 w f l j) Φ) (j : Nat → Value) : OutK E 0 0 (r166 z C n i k x q s e t u y r v d0 d1 d2 d3 d4 d5 d6 w f l j) Φ :=
 oS hE [.run 3, (.cond false), .run 2, (.ops [(4, (.rn (iI (r))))] [])] [4] (aP h0 <| aP h1 <| aZ)
  ho
def pR108_end (z : Nat → Value) (C : List DT) (n _i _k : Nat) (_x _q _s _e t _u _y _r _v : Int) (_d0 _d1 _d2 _d3 _d4 _d5 _d6 _w : Bool) (_f _l : Int) (j : Nat → Value) : St := ⟨[(bK [(.dp (.s (C) (n) 9))] 1 70), (bK [(.v (.int .i64 0))] 1 3), (bK [(.v (.int .i64 0))] 1 36), (bK [(.dp (.s (C) (n) 9))] 1 70), (bK [(.v (.int .i64 (t)))] 1 3), (.some ⟨[], 0, 0, false, .mark⟩), (.some ⟨[], 0, 0, false, (.loop .ready none [(.e (.one (.v (z (0 : Nat))))), (.e (.one (.v (z (1 : Nat))))), (.e (.one (.ptr 0 0))), (.e (.one (.v (z (3 : Nat))))), (.e (.one (.ptr 1 0))), (.e (.one (.ptr 2 0))), (.tup []), (.e (.one (.v (z (7 : Nat))))), (.e (.one (.v (z (8 : Nat))))), (.e (.one (.clo 121 [] [(.one (.ptr 4 0)), (.one (.ptr 3 0))]))), (.tup []), (.e (.one (.v (z (11 : Nat))))), (.e (.one (.v (z (12 : Nat))))), (.e (.one (.v (z (13 : Nat))))), (.e (.one (.v (z (14 : Nat))))), (.e (.one (.v (z (15 : Nat)))))] #[10] (atC [1, 0, 1, 0, 0] (bodyOf Tryz.f67)) (atC [1, 0, 1, 0, 1] (bodyOf Tryz.f67)))⟩)], [.beginRound, (.code (atC [1, 0, 1, 0, 1] (bodyOf Tryz.f67)))], mkT j [(2, (.e (.one (.ptr 0 0)))), (4, (.e (.one (.ptr 1 0)))), (5, (.e (.one (.ptr 2 0)))), (6, (iI (t)))] 16 0⟩
theorem pR108 (hE : EnvOk E) (z : Nat → Value) (C : List DT) (n i k : Nat) (x q s e t u y r v : Int) (d0 d1 d2 d3 d4 d5 d6 w : Bool) (f l : Int)  {Φ : Res → Prop} (ho : ∀ j, OutK E 0 7 (pR108_end z C n i k x q s e t u y r v d0 d1 d2 d3 d4 d5 d6 w f l j) Φ (some 6)) (j : Nat → Value) : OutK E 0 7 (sR108 z C n i k x q s e t u y r v d0 d1 d2 d3 d4 d5 d6 w f l j) Φ (some 6) :=
 oS hE [.run 1] [2, 4, 5, 6] (ps := []) trivial
  ho
def p165s_end (T : Tm) (ps : Array Tmp) (asg : Code) (bod : Code) (C : List DT) (n : Nat) (_t u _r _v : Int) (j : Nat → Value) : St := ⟨[(bK [(.dp (.s (C) (n) 9))] 1 70), (bK [(.v (.int .i64 0))] 1 3), (bK [(.v (.int .i64 0))] 1 36), (bK [(.dp (.s (C) (n) 9))] 1 70), (bK [(.v (.int .i64 (u)))] 1 3), (.some ⟨[], 0, 0, false, .mark⟩), (.some ⟨[], 0, 0, false, (.loop .ready none (T) (ps) (asg) (bod))⟩)], [(.code (atC [0, 0] (bodyOf Tryz.f121))), (.inLoop (atC [0, 0] (bodyOf Tryz.f121))), (.inBlock 0)], mkT j [(0, (.e (.one (.yld 6)))), (1, (.e (.one (.ptr 4 0)))), (2, (.e (.one (.ptr 3 0))))] 14 0⟩
theorem p165s (hE : EnvOk E) (T : Tm) (ps : Array Tmp) (asg : Code) (bod : Code) (C : List DT) (n : Nat) (t u r v : Int) (h0 : (decide (t ≤ (100000000 : Int)) == true : Bool) = true) (h1 : (decide (t ≤ (100000000 : Int)) == true : Bool) = true) (h2 : (decide (t ≤ (100000000 : Int)) == true : Bool) = true) (h3 : RoundK E 0 [(bK [(.dp (.s (C) (n) 9))] 1 70), (bK [(.v (.int .i64 0))] 1 3), (bK [(.v (.int .i64 0))] 1 36), (bK [(.dp (.s (C) (n) 9))] 1 70), (bK [(.v (.int .i64 (t)))] 1 3), (.some ⟨[], 0, 0, false, .mark⟩), (.some ⟨[], 0, 0, false, (.loop .ready none (T) (ps) (asg) (bod))⟩)] 6 [(iI (t))] (iB true) [(bK [(.dp (.s (C) (n) 9))] 1 70), (bK [(.v (.int .i64 0))] 1 3), (bK [(.v (.int .i64 0))] 1 36), (bK [(.dp (.s (C) (n) 9))] 1 70), (bK [(.v (.int .i64 (t)))] 1 3), (.some ⟨[], 0, 0, false, .mark⟩), (.some ⟨[], 0, 0, false, (.loop .ready none (T) (ps) (asg) (bod))⟩)]) (h4 : (decide (t ≤ (100000000 : Int)) : Bool) = true) (h5 : COut E 0 [] 122 [(.e (.one (.dp (.s (C) (n) 9)))), (iI (t))] (iI (u)) []) {Φ : Res → Prop} (ho : ∀ j, OutK E 0 7 (p165s_end T ps asg bod C n t u r v j) Φ) (j : Nat → Value) : OutK E 0 7 (r165 T ps asg bod C n t u r v j) Φ :=
 oS hE [.run 2, (.ops [(5, (.yd (iB true) [(bK [(.dp (.s (C) (n) 9))] 1 70), (bK [(.v (.int .i64 0))] 1 3), (bK [(.v (.int .i64 0))] 1 36), (bK [(.dp (.s (C) (n) 9))] 1 70), (bK [(.v (.int .i64 (t)))] 1 3), (.some ⟨[], 0, 0, false, .mark⟩), (.some ⟨[], 0, 0, false, (.loop .ready none (T) (ps) (asg) (bod))⟩)])), (6, (.pk true))] [(3, true), (4, true), (5, true)]), .run 3, (.ops [(2, (.c0 (iI (u))))] []), .run 2] [0, 1, 2] (aP h0 <| aP h1 <| aP h2 <| aP h3 <| aP h4 <| aP h5 <| aN <| aZ)
  ho
def p165e_end (T : Tm) (ps : Array Tmp) (asg : Code) (bod : Code) (C : List DT) (n : Nat) (t _u _r _v : Int) (j : Nat → Value) : St := ⟨[(bK [(.dp (.s (C) (n) 9))] 1 70), (bK [(.v (.int .i64 (t)))] 1 3), (bK [(.v (.int .i64 0))] 1 36), (bK [(.dp (.s (C) (n) 9))] 1 70), (bK [(.v (.int .i64 (t)))] 1 3), (.some ⟨[], 0, 0, false, .mark⟩), (.some ⟨[], 0, 0, false, (.loop .done (.some .ret) (T) (ps) (asg) (bod))⟩)], [], mkT j [] 14 0⟩
theorem p165e (hE : EnvOk E) (T : Tm) (ps : Array Tmp) (asg : Code) (bod : Code) (C : List DT) (n : Nat) (t u r v : Int) (h0 : (decide (t ≤ (100000000 : Int)) == true : Bool) = true) (h1 : (decide (t ≤ (100000000 : Int)) == true : Bool) = true) (h2 : (decide (t ≤ (100000000 : Int)) == true : Bool) = true) (h3 : RoundK E 0 [(bK [(.dp (.s (C) (n) 9))] 1 70), (bK [(.v (.int .i64 0))] 1 3), (bK [(.v (.int .i64 0))] 1 36), (bK [(.dp (.s (C) (n) 9))] 1 70), (bK [(.v (.int .i64 (t)))] 1 3), (.some ⟨[], 0, 0, false, .mark⟩), (.some ⟨[], 0, 0, false, (.loop .ready none (T) (ps) (asg) (bod))⟩)] 6 [(iI (t))] (iB false) [(bK [(.dp (.s (C) (n) 9))] 1 70), (bK [(.v (.int .i64 (t)))] 1 3), (bK [(.v (.int .i64 0))] 1 36), (bK [(.dp (.s (C) (n) 9))] 1 70), (bK [(.v (.int .i64 (t)))] 1 3), (.some ⟨[], 0, 0, false, .mark⟩), (.some ⟨[], 0, 0, false, (.loop .done (.some .ret) (T) (ps) (asg) (bod))⟩)]) (h4 : (decide (t ≤ (100000000 : Int)) : Bool) = true) {Φ : Res → Prop} (ho : ∀ j, OutK E 0 7 (p165e_end T ps asg bod C n t u r v j) Φ) (j : Nat → Value) : OutK E 0 7 (r165 T ps asg bod C n t u r v j) Φ :=
 oS hE [.run 2, (.ops [(5, (.yd (iB false) [(bK [(.dp (.s (C) (n) 9))] 1 70), (bK [(.v (.int .i64 (t)))] 1 3), (bK [(.v (.int .i64 0))] 1 36), (bK [(.dp (.s (C) (n) 9))] 1 70), (bK [(.v (.int .i64 (t)))] 1 3), (.some ⟨[], 0, 0, false, .mark⟩), (.some ⟨[], 0, 0, false, (.loop .done (.some .ret) (T) (ps) (asg) (bod))⟩)])), (6, (.pk true))] [(3, true), (4, true), (5, true)]), .run 2] [] (aP h0 <| aP h1 <| aP h2 <| aP h3 <| aP h4 <| aZ)
  ho
def p165x_end (T : Tm) (ps : Array Tmp) (asg : Code) (bod : Code) (C : List DT) (n : Nat) (t _u _r _v : Int) (j : Nat → Value) : St := ⟨[(bK [(.dp (.s (C) (n) 9))] 1 70), (bK [(.v (.int .i64 0))] 1 3), (bK [(.v (.int .i64 0))] 1 36), (bK [(.dp (.s (C) (n) 9))] 1 70), (bK [(.v (.int .i64 (t)))] 1 3), (.some ⟨[], 0, 0, false, .mark⟩), (.some ⟨[], 0, 0, false, (.loop .ready none (T) (ps) (asg) (bod))⟩)], [], mkT j [] 14 0⟩
theorem p165x (hE : EnvOk E) (T : Tm) (ps : Array Tmp) (asg : Code) (bod : Code) (C : List DT) (n : Nat) (t u r v : Int) (h0 : (decide (t ≤ (100000000 : Int)) == true : Bool) = false) (h1 : (decide (t ≤ (100000000 : Int)) == true : Bool) = false) (h2 : (decide (t ≤ (100000000 : Int)) == true : Bool) = false) (h3 : (decide (t ≤ (100000000 : Int)) : Bool) = false) {Φ : Res → Prop} (ho : ∀ j, OutK E 0 7 (p165x_end T ps asg bod C n t u r v j) Φ) (j : Nat → Value) : OutK E 0 7 (r165 T ps asg bod C n t u r v j) Φ :=
 oS hE [.run 2, (.ops [(6, (.pk false))] [(3, false), (4, false), (5, false)]), .run 2] [] (aP h0 <| aP h1 <| aP h2 <| aP h3 <| aZ)
  ho
def pB108t_end (z : Nat → Value) (C : List DT) (n _i _k : Nat) (_x _q _s _e t _u _y _r _v : Int) (_d0 _d1 _d2 _d3 _d4 _d5 _d6 _w : Bool) (_f _l : Int) (j : Nat → Value) : St := ⟨[(bK [(.dp (.s (C) (n) 9))] 1 70), (bK [(.v (.int .i64 0))] 1 3), (bK [(.v (.int .i64 0))] 1 36), (bK [(.dp (.s (C) (n) 9))] 1 70), (bK [(.v (.int .i64 (t)))] 1 3), (.some ⟨[], 0, 0, false, .mark⟩), (.some ⟨[], 0, 0, false, (.loop .busy none [(.e (.one (.v (z (0 : Nat))))), (.e (.one (.v (z (1 : Nat))))), (.e (.one (.ptr 0 0))), (.e (.one (.v (z (3 : Nat))))), (.e (.one (.ptr 1 0))), (.e (.one (.ptr 2 0))), (.tup []), (.e (.one (.v (z (7 : Nat))))), (.e (.one (.v (z (8 : Nat))))), (.e (.one (.clo 121 [] [(.one (.ptr 4 0)), (.one (.ptr 3 0))]))), (.tup []), (.e (.one (.v (z (11 : Nat))))), (.e (.one (.v (z (12 : Nat))))), (.e (.one (.v (z (13 : Nat))))), (.e (.one (.v (z (14 : Nat))))), (.e (.one (.v (z (15 : Nat)))))] #[10] (atC [1, 0, 1, 0, 0] (bodyOf Tryz.f67)) (atC [1, 0, 1, 0, 1] (bodyOf Tryz.f67)))⟩)], [], mkT j [(4, (.e (.one (.ptr 1 0)))), (5, (.e (.one (.ptr 2 0))))] 16 0⟩
theorem pB108t (hE : EnvOk E) (z : Nat → Value) (C : List DT) (n i k : Nat) (x q s e t u y r v : Int) (d0 d1 d2 d3 d4 d5 d6 w : Bool) (f l : Int) (h0 : COut E 0 [] 69 [(.e (.one (.dp (.s (C) (n) 9)))), (iI (t))] (iB (w)) []) (h2 : (!w : Bool) = false) {Φ : Res → Prop} (ho : ∀ j, OutK E 0 7 (pB108t_end z C n i k x q s e t u y r v d0 d1 d2 d3 d4 d5 d6 w f l j) Φ (some 6)) (j : Nat → Value) : OutK E 0 7 (sB108 z C n i k x q s e t u y r v d0 d1 d2 d3 d4 d5 d6 w f l j) Φ (some 6) :=
 oS hE [.run 2, (.ops [(2, (.c0 (iB (w))))] []), (.cond false), .run 2] [4, 5] (aP h0 <| aN <| aP h2 <| aZ)
  ho
def pB108f_end (z : Nat → Value) (C : List DT) (n _i _k : Nat) (_x _q _s _e t _u _y _r _v : Int) (_d0 _d1 _d2 _d3 _d4 _d5 _d6 _w : Bool) (_f _l : Int) (j : Nat → Value) : St := ⟨[(bK [(.dp (.s (C) (n) 9))] 1 70), (bK [(.v (.int .i64 (t)))] 1 3), (bK [(.v (.int .i64 0))] 1 36), (bK [(.dp (.s (C) (n) 9))] 1 70), (bK [(.v (.int .i64 (t)))] 1 3), (.some ⟨[], 0, 0, false, .mark⟩), (.some ⟨[], 0, 0, false, (.loop .busy none [(.e (.one (.v (z (0 : Nat))))), (.e (.one (.v (z (1 : Nat))))), (.e (.one (.ptr 0 0))), (.e (.one (.v (z (3 : Nat))))), (.e (.one (.ptr 1 0))), (.e (.one (.ptr 2 0))), (.tup []), (.e (.one (.v (z (7 : Nat))))), (.e (.one (.v (z (8 : Nat))))), (.e (.one (.clo 121 [] [(.one (.ptr 4 0)), (.one (.ptr 3 0))]))), (.tup []), (.e (.one (.v (z (11 : Nat))))), (.e (.one (.v (z (12 : Nat))))), (.e (.one (.v (z (13 : Nat))))), (.e (.one (.v (z (14 : Nat))))), (.e (.one (.v (z (15 : Nat)))))] #[10] (atC [1, 0, 1, 0, 0] (bodyOf Tryz.f67)) (atC [1, 0, 1, 0, 1] (bodyOf Tryz.f67)))⟩)], [(.code .ret), (.inBlock 1)], mkT j [(4, (.e (.one (.ptr 1 0)))), (5, (.e (.one (.ptr 2 0))))] 16 0⟩
theorem pB108f (hE : EnvOk E) (z : Nat → Value) (C : List DT) (n i k : Nat) (x q s e t u y r v : Int) (d0 d1 d2 d3 d4 d5 d6 w : Bool) (f l : Int) (h0 : COut E 0 [] 69 [(.e (.one (.dp (.s (C) (n) 9)))), (iI (t))] (iB (w)) []) (h2 : (!w : Bool) = true) {Φ : Res → Prop} (ho : ∀ j, OutK E 0 7 (pB108f_end z C n i k x q s e t u y r v d0 d1 d2 d3 d4 d5 d6 w f l j) Φ (some 6)) (j : Nat → Value) : OutK E 0 7 (sB108 z C n i k x q s e t u y r v d0 d1 d2 d3 d4 d5 d6 w f l j) Φ (some 6) :=
 oS hE [.run 2, (.ops [(2, (.c0 (iB (w))))] []), (.cond true), .run 2] [4, 5] (aP h0 <| aN <| aP h2 <| aZ)
  ho
def pE108t_end (_z : Nat → Value) (C : List DT) (n _i _k : Nat) (_x _q _s _e t _u _y _r _v : Int) (_d0 _d1 _d2 _d3 _d4 _d5 _d6 _w : Bool) (_f _l : Int) (j : Nat → Value) : St := ⟨[(bK [(.dp (.s (C) (n) 9))] 1 70), (bK [(.v (.int .i64 0))] 1 3), (bK [(.v (.int .i64 7))] 1 36), (bK [(.dp (.s (C) (n) 9))] 1 70), (bK [(.v (.int .i64 (t)))] 1 3), (.some ⟨[], 0, 0, false, .mark⟩)], [(.code .ret)], mkT j [(4, (.e (.one (.ptr 1 0)))), (5, (.e (.one (.ptr 2 0))))] 16 0⟩
theorem pE108t (hE : EnvOk E) (z : Nat → Value) (C : List DT) (n i k : Nat) (x q s e t u y r v : Int) (d0 d1 d2 d3 d4 d5 d6 w : Bool) (f l : Int)  {Φ : Res → Prop} (ho : ∀ j, OutK E 0 6 (pE108t_end z C n i k x q s e t u y r v d0 d1 d2 d3 d4 d5 d6 w f l j) Φ) (j : Nat → Value) : OutK E 0 6 (sE108t z C n i k x q s e t u y r v d0 d1 d2 d3 d4 d5 d6 w f l j) Φ :=
 oS hE [.run 3] [4, 5] (s' := fun j => ⟨[(bK [(.dp (.s (C) (n) 9))] 1 70), (bK [(.v (.int .i64 0))] 1 3), (bK [(.v (.int .i64 7))] 1 36), (bK [(.dp (.s (C) (n) 9))] 1 70), (bK [(.v (.int .i64 (t)))] 1 3), (.some ⟨[], 0, 0, false, .mark⟩), (.some ⟨[], 0, 0, false, (.loop .exhausted none [(.e (.one (.v (z (0 : Nat))))), (.e (.one (.v (z (1 : Nat))))), (.e (.one (.ptr 0 0))), (.e (.one (.v (z (3 : Nat))))), (.e (.one (.ptr 1 0))), (.e (.one (.ptr 2 0))), (.tup []), (.e (.one (.v (z (7 : Nat))))), (.e (.one (.v (z (8 : Nat))))), (.e (.one (.clo 121 [] [(.one (.ptr 4 0)), (.one (.ptr 3 0))]))), (.tup []), (.e (.one (.v (z (11 : Nat))))), (.e (.one (.v (z (12 : Nat))))), (.e (.one (.v (z (13 : Nat))))), (.e (.one (.v (z (14 : Nat))))), (.e (.one (.v (z (15 : Nat)))))] #[10] (atC [1, 0, 1, 0, 0] (bodyOf Tryz.f67)) (atC [1, 0, 1, 0, 1] (bodyOf Tryz.f67)))⟩)], [(.code .ret)], mkT j [(4, (.e (.one (.ptr 1 0)))), (5, (.e (.one (.ptr 2 0))))] 16 0⟩) (ps := []) trivial
  fun j => gZ [0, 1, 2, 3, 4, 5] (ho j)
def pE108f_end (_z : Nat → Value) (C : List DT) (n _i _k : Nat) (_x _q _s _e t _u _y _r _v : Int) (_d0 _d1 _d2 _d3 _d4 _d5 _d6 _w : Bool) (_f _l : Int) (j : Nat → Value) : St := ⟨[(bK [(.dp (.s (C) (n) 9))] 1 70), (bK [(.v (.int .i64 (t)))] 1 3), (bK [(.v (.int .i64 0))] 1 36), (bK [(.dp (.s (C) (n) 9))] 1 70), (bK [(.v (.int .i64 (t)))] 1 3), (.some ⟨[], 0, 0, false, .mark⟩)], [(.code .ret), (.inBlock 0), (.code (atC [1, 1] (bodyOf Tryz.f67)))], mkT j [(4, (.e (.one (.ptr 1 0)))), (5, (.e (.one (.ptr 2 0))))] 16 0⟩
theorem pE108f (hE : EnvOk E) (z : Nat → Value) (C : List DT) (n i k : Nat) (x q s e t u y r v : Int) (d0 d1 d2 d3 d4 d5 d6 w : Bool) (f l : Int)  {Φ : Res → Prop} (ho : ∀ j, OutK E 0 6 (pE108f_end z C n i k x q s e t u y r v d0 d1 d2 d3 d4 d5 d6 w f l j) Φ) (j : Nat → Value) : OutK E 0 6 (sE108f z C n i k x q s e t u y r v d0 d1 d2 d3 d4 d5 d6 w f l j) Φ :=
 oS hE [] [4, 5] (s' := fun j => ⟨[(bK [(.dp (.s (C) (n) 9))] 1 70), (bK [(.v (.int .i64 (t)))] 1 3), (bK [(.v (.int .i64 0))] 1 36), (bK [(.dp (.s (C) (n) 9))] 1 70), (bK [(.v (.int .i64 (t)))] 1 3), (.some ⟨[], 0, 0, false, .mark⟩), (.some ⟨[], 0, 0, false, (.loop .exhausted (.some .ret) [(.e (.one (.v (z (0 : Nat))))), (.e (.one (.v (z (1 : Nat))))), (.e (.one (.ptr 0 0))), (.e (.one (.v (z (3 : Nat))))), (.e (.one (.ptr 1 0))), (.e (.one (.ptr 2 0))), (.tup []), (.e (.one (.v (z (7 : Nat))))), (.e (.one (.v (z (8 : Nat))))), (.e (.one (.clo 121 [] [(.one (.ptr 4 0)), (.one (.ptr 3 0))]))), (.tup []), (.e (.one (.v (z (11 : Nat))))), (.e (.one (.v (z (12 : Nat))))), (.e (.one (.v (z (13 : Nat))))), (.e (.one (.v (z (14 : Nat))))), (.e (.one (.v (z (15 : Nat)))))] #[10] (atC [1, 0, 1, 0, 0] (bodyOf Tryz.f67)) (atC [1, 0, 1, 0, 1] (bodyOf Tryz.f67)))⟩)], [(.code .ret), (.inBlock 0), (.code (atC [1, 1] (bodyOf Tryz.f67)))], mkT j [(4, (.e (.one (.ptr 1 0)))), (5, (.e (.one (.ptr 2 0))))] 16 0⟩) (ps := []) trivial
  fun j => gZ [0, 1, 2, 3, 4, 5] (ho j)
def p41_end (_z : Nat → Value) (_C : List DT) (_n _i _k : Nat) (_x _q _s _e _t _u _y _r _v : Int) (_d0 _d1 _d2 _d3 _d4 _d5 _d6 w : Bool) (_f _l : Int) (j : Nat → Value) : St := ⟨[], [(.code .ret)], mkT j [(4, (iB (w))), (5, (iI 0))] 19 0⟩
theorem p41 (hE : EnvOk E) (z : Nat → Value) (C : List DT) (n i k : Nat) (x q s e t u y r v : Int) (d0 d1 d2 d3 d4 d5 d6 w : Bool) (f l : Int) (h0 : COut E 0 [] 65 [(.e (.one (.dp (.s (C) (n) 9))))] (iI (e)) []) (h2 : COut E 0 [] 66 [(iI (t))] (iI (s)) []) (h4 : COut E 1 [(bK [(.v (.int .i64 (e))), (.v (.int .i64 (s)))] 2 36)] 53 [(.e (.one (.slc 0 0 2 1 2 true)))] (iI (q)) [(bK [(.v (.int .i64 (e))), (.v (.int .i64 (s)))] 2 36)]) (h6 : (q != (0 : Int) : Bool) = false) (h7 : COut E 0 [] 69 [(.e (.one (.dp (.s (C) (n) 9)))), (iI (t))] (iB (w)) []) {Φ : Res → Prop} (ho : ∀ j, OutK E 0 0 (p41_end z C n i k x q s e t u y r v d0 d1 d2 d3 d4 d5 d6 w f l j) Φ) (j : Nat → Value) : OutK E 0 0 (h41 z C n i k x q s e t u y r v d0 d1 d2 d3 d4 d5 d6 w f l j) Φ :=
 oS hE [.run 4, (.ops [(1, (.c0 (iI (e)))), (3, (.c0 (iI (s)))), (5, (.d (.c1 (iI (q)))))] []), .run 2, (.cond false), .run 2, (.ops [(2, (.c0 (iB (w))))] [])] [4, 5] (s' := fun j => ⟨[(bK [(.v (.int .i64 (e))), (.v (.int .i64 (s)))] 2 36)], [(.code .ret)], mkT j [(4, (iB (w))), (5, (iI 0))] 19 0⟩) (aP h0 <| aN <| aP h2 <| aN <| aP h4 <| aN <| aP h6 <| aP h7 <| aN <| aZ)
  fun j => gZ [] (ho j)
def p43_end (_z : Nat → Value) (_C : List DT) (_n _i _k : Nat) (_x _q _s _e _t _u _y r v : Int) (_d0 _d1 _d2 _d3 _d4 _d5 _d6 _w : Bool) (_f _l : Int) (j : Nat → Value) : St := ⟨[], [(.code .ret)], mkT j [(4, (iI (r))), (5, (iI (v)))] 21 0⟩
theorem p43 (hE : EnvOk E) (z : Nat → Value) (C : List DT) (n i k : Nat) (x q s e t u y r v : Int) (d0 d1 d2 d3 d4 d5 d6 w : Bool) (f l : Int) (h0 : COut E 0 [] 65 [(.e (.one (.dp (.s (C) (n) 9))))] (iI (e)) []) (h2 : COut E 0 [] 66 [(iI (t))] (iI (s)) []) (h4 : COut E 1 [(bK [(.v (.int .i64 (e))), (.v (.int .i64 (s)))] 2 36)] 53 [(.e (.one (.slc 0 0 2 1 2 true)))] (iI (q)) [(bK [(.v (.int .i64 (e))), (.v (.int .i64 (s)))] 2 36)]) (h6 : (q != (0 : Int) : Bool) = false) (h7 : COut E 0 [] 67 [(.e (.one (.dp (.s (C) (n) 9)))), (iI (t))] (.tup [(.one (.v (.int .i64 (r)))), (.one (.v (.int .i64 (v))))]) []) {Φ : Res → Prop} (ho : ∀ j, OutK E 0 0 (p43_end z C n i k x q s e t u y r v d0 d1 d2 d3 d4 d5 d6 w f l j) Φ) (j : Nat → Value) : OutK E 0 0 (h43 z C n i k x q s e t u y r v d0 d1 d2 d3 d4 d5 d6 w f l j) Φ :=
 oS hE [.run 4, (.ops [(1, (.c0 (iI (e)))), (3, (.c0 (iI (s)))), (5, (.d (.c1 (iI (q)))))] []), .run 2, (.cond false), .run 2, (.ops [(2, (.c0 (.tup [(.one (.v (.int .i64 (r)))), (.one (.v (.int .i64 (v))))])))] [])] [4, 5] (s' := fun j => ⟨[(bK [(.v (.int .i64 (e))), (.v (.int .i64 (s)))] 2 36)], [(.code .ret)], mkT j [(4, (iI (r))), (5, (iI (v)))] 21 0⟩) (aP h0 <| aN <| aP h2 <| aN <| aP h4 <| aN <| aP h6 <| aP h7 <| aN <| aZ)
  fun j => gZ [] (ho j)
theorem l166 (hE : EnvOk E) (L : List Hr) (t : Int) (ht : 0 ≤ t ∧ t ≤ 100000000) (hm : L.length ≤ 100000) : ∀ (k i : Nat), k + i = L.length → ∀ e : Int, secO t < e → e ≤ 86400 → ∀ j, OutK E 0 0 (r166 (fun _ => undef) (hrD L) (L.length) (i) 0 0 0 (secO t) (e) (t) 0 0 0 0 false false false false false false false false 0 0 j) (Go.Ev.Ends E Tryz.f122 (iI (t - secO t + enR (secO t) (L.drop i) e)) [])
 | 0, i, hk, e, h0, h1, j => by
  have hs := @secO_b t
  rw [List.drop_eq_nil_of_le (by omega)]
  exact p166x hE (fun _ => undef) (hrD L) (L.length) (i) 0 0 0 (secO t) (e) (t) 0 0 (t - secO t + e) 0 false false false false false false false false 0 0 (decide_eq_false (by (try simp only [Int.ofNat_eq_natCast]); omega)) (iIe (by rw [wrap_id (n := t - secO t) (by omega) (by omega), wrap_id (by omega) (by omega)])) (fun j => outK_ret (ends_ret (by kernel_rfl))) j
 | k + 1, i, hk, e, h0, h1, j => by
  have hs := @secO_b t
  have hl : i < L.length := by omega
  have hx : L[i]? = some L[i] := List.getElem?_eq_getElem hl
  rw [List.drop_eq_getElem_cons hl]
  generalize L[i] = x at hx
  by_cases hc : x.l > secO t
  ·have ih := l166 hE L t ht hm k (i + 1) (by omega) (min e x.l) (by omega) (by omega)
   have he : enR (secO t) (x :: L.drop (i + 1)) e = enR (secO t) (L.drop (i + 1)) (min e x.l) := by
    show enR _ _ (if x.l > secO t then min e x.l else e) = _
    rw [if_pos hc]
   rw [he]
   exact p166s hE (fun _ => undef) (hrD L) (L.length) (i) 0 0 0 (secO t) (e) (t) (min e x.l) 0 0 0 (x.d0) (x.d1) (x.d2) (x.d3) (x.d4) (x.d5) (x.d6) false (x.f) (x.l) (decide_eq_true (by (try simp only [Int.ofNat_eq_natCast]); omega)) ⟨by (try simp only [Int.ofNat_eq_natCast]); omega, by (try simp only [Int.ofNat_eq_natCast]); omega⟩ rfl (hr_get hx) (decide_eq_true hc) (iIe (by split <;> omega)) (iIe (by (try simp only [Int.ofNat_eq_natCast]); rw [wrap_id (by omega) (by omega)]; try omega)) ih j
  ·have ih := l166 hE L t ht hm k (i + 1) (by omega) e h0 h1
   have he : enR (secO t) (x :: L.drop (i + 1)) e = enR (secO t) (L.drop (i + 1)) e := by
    show enR _ _ (if x.l > secO t then min e x.l else e) = _
    rw [if_neg hc]
   rw [he]
   exact p166n hE (fun _ => undef) (hrD L) (L.length) (i) 0 0 0 (secO t) (e) (t) 0 0 0 0 (x.d0) (x.d1) (x.d2) (x.d3) (x.d4) (x.d5) (x.d6) false (x.f) (x.l) (decide_eq_true (by (try simp only [Int.ofNat_eq_natCast]); omega)) ⟨by (try simp only [Int.ofNat_eq_natCast]); omega, by (try simp only [Int.ofNat_eq_natCast]); omega⟩ rfl (hr_get hx) (decide_eq_false hc) (iIe (by (try simp only [Int.ofNat_eq_natCast]); rw [wrap_id (by omega) (by omega)]; try omega)) ih j
theorem K166 (hE : EnvOk E) (L : List Hr) (t : Int) (ht : 0 ≤ t ∧ t ≤ 100000000) (hm : L.length ≤ 100000) : COut E 0 [] 122 [dHr L, iI t] (iI (nxC L t)) [] :=
 cOut_start Tryz.func122 rfl (p166a hE (fun _ => undef) (hrD L) (L.length) 0 0 0 0 (secO t) 0 (t) 0 0 0 0 false false false false false false false false 0 0 (iIe (sec_eq ht)) (l166 hE L t ht hm L.length 0 rfl 86400 secO_b.2 (Int.le_refl _)) fun _ => undef)
theorem Rt (hE : EnvOk E) (z : Nat → Value) (L : List Hr) (t : Int) (ht : 0 ≤ t ∧ t ≤ 100000000) (hm : L.length ≤ 100000) (hp : protB L t = true) : RoundK E 0 [bK [.dp (.s (hrD L) L.length 9)] 1 70, bK [.v (.int .i64 0)] 1 3, bK [.v (.int .i64 0)] 1 36, bK [.dp (.s (hrD L) L.length 9)] 1 70, bK [.v (.int .i64 t)] 1 3, some markEnt, lp108 .ready none z] 6 [iI t] (iB true) [bK [.dp (.s (hrD L) L.length 9)] 1 70, bK [.v (.int .i64 0)] 1 3, bK [.v (.int .i64 0)] 1 36, bK [.dp (.s (hrD L) L.length 9)] 1 70, bK [.v (.int .i64 t)] 1 3, some markEnt, lp108 .ready none z] := by
 refine roundK_of (a := loopEnt .ready none (T108 z) #[10] asg108 bod108) rfl rfl (by kernel_rfl) ?_
 have e : (⟨[bK [.dp (.s (hrD L) L.length 9)] 1 70, bK [.v (.int .i64 0)] 1 3, bK [.v (.int .i64 0)] 1 36, bK [.dp (.s (hrD L) L.length 9)] 1 70, bK [.v (.int .i64 t)] 1 3, some markEnt, lp108 .ready none z], [.code asg108, .beginRound, .code bod108], setParams (#[10] : Array Tmp).toList [iI t] (T108 z)⟩ : St) = sR108 (z) (hrD L) (L.length) 0 0 0 0 0 0 (t) 0 0 0 0 false false false false false false false false 0 0 (fun _ => undef) := by kernel_rfl
 rw [e]
 refine pR108 hE (z) (hrD L) (L.length) 0 0 0 0 0 0 (t) 0 0 0 0 false false false false false false false false 0 0 (fun j => ?_) _
 refine outK_begin (a := loopEnt .ready none (T108 z) #[10] asg108 bod108) rfl rfl rfl ?_
 exact pB108t hE (z) (hrD L) (L.length) 0 0 0 0 0 0 (t) 0 0 0 0 false false false false false false false (true) 0 0 (iBg (K107 hE L t ht hm) hp) (by first | rfl | omega | simp) (fun j => outK_fell ⟨rfl, _, _, _, _, _, _, _, rfl, rfl, rfl, by kernel_rfl⟩) j
theorem Rf (hE : EnvOk E) (z : Nat → Value) (L : List Hr) (t : Int) (ht : 0 ≤ t ∧ t ≤ 100000000) (hm : L.length ≤ 100000) (hp : protB L t = false) : RoundK E 0 [bK [.dp (.s (hrD L) L.length 9)] 1 70, bK [.v (.int .i64 0)] 1 3, bK [.v (.int .i64 0)] 1 36, bK [.dp (.s (hrD L) L.length 9)] 1 70, bK [.v (.int .i64 t)] 1 3, some markEnt, lp108 .ready none z] 6 [iI t] (iB false) [bK [.dp (.s (hrD L) L.length 9)] 1 70, bK [.v (.int .i64 t)] 1 3, bK [.v (.int .i64 0)] 1 36, bK [.dp (.s (hrD L) L.length 9)] 1 70, bK [.v (.int .i64 t)] 1 3, some markEnt, lp108 .done (some .ret) z] := by
 refine roundK_of (a := loopEnt .ready none (T108 z) #[10] asg108 bod108) rfl rfl (by kernel_rfl) ?_
 have e : (⟨[bK [.dp (.s (hrD L) L.length 9)] 1 70, bK [.v (.int .i64 0)] 1 3, bK [.v (.int .i64 0)] 1 36, bK [.dp (.s (hrD L) L.length 9)] 1 70, bK [.v (.int .i64 t)] 1 3, some markEnt, lp108 .ready none z], [.code asg108, .beginRound, .code bod108], setParams (#[10] : Array Tmp).toList [iI t] (T108 z)⟩ : St) = sR108 (z) (hrD L) (L.length) 0 0 0 0 0 0 (t) 0 0 0 0 false false false false false false false false 0 0 (fun _ => undef) := by kernel_rfl
 rw [e]
 refine pR108 hE (z) (hrD L) (L.length) 0 0 0 0 0 0 (t) 0 0 0 0 false false false false false false false false 0 0 (fun j => ?_) _
 refine outK_begin (a := loopEnt .ready none (T108 z) #[10] asg108 bod108) rfl rfl rfl ?_
 exact pB108f hE (z) (hrD L) (L.length) 0 0 0 0 0 0 (t) 0 0 0 0 false false false false false false false (false) 0 0 (iBg (K107 hE L t ht hm) hp) (by first | rfl | omega | simp) (fun j => outK_ret ⟨rfl, _, _, _, _, _, _, _, rfl, rfl, rfl, by kernel_rfl⟩) j
def frT (L : List Hr) : Nat → Int → Int
 | 0, t => t
 | k + 1, t => if t ≤ 100000000 then (if protB L t = true then frT L k (nxC L t) else t) else t
theorem l165 (hE : EnvOk E) (z : Nat → Value) (L : List Hr) (hm : L.length ≤ 100000) : ∀ (k : Nat) (t : Int), 0 ≤ t → 100000000 < t + k →
  (∃ r, frC L k t = some r ∧ ∀ j, OutK E 0 7 (r165 (T108 z) (#[10]) (asg108) (bod108) (hrD L) (L.length) (t) 0 0 0 j) (Go.Ev.Ends E Tryz.f121 (.tup []) [bK [.dp (.s (hrD L) L.length 9)] 1 70, bK [.v (.int .i64 r)] 1 3, bK [.v (.int .i64 0)] 1 36, bK [.dp (.s (hrD L) L.length 9)] 1 70, bK [.v (.int .i64 r)] 1 3, some markEnt, lp108 .done (some .ret) z])) ∨
  (frC L k t = none ∧ ∀ j, OutK E 0 7 (r165 (T108 z) (#[10]) (asg108) (bod108) (hrD L) (L.length) (t) 0 0 0 j) (Go.Ev.Ends E Tryz.f121 (.tup []) [bK [.dp (.s (hrD L) L.length 9)] 1 70, bK [.v (.int .i64 0)] 1 3, bK [.v (.int .i64 0)] 1 36, bK [.dp (.s (hrD L) L.length 9)] 1 70, bK [.v (.int .i64 (frT L k t))] 1 3, some markEnt, lp108 .ready none z]))
 | 0, t, h1, h2 => by
  have h0 : decide (t ≤ 100000000) = false := decide_eq_false (by omega)
  exact .inr ⟨rfl, fun j => p165x hE (T108 z) (#[10]) (asg108) (bod108) (hrD L) (L.length) (t) 0 0 0 (by rw [h0]; rfl) (by rw [h0]; rfl) (by rw [h0]; rfl) h0 (fun j => outK_fell (ends_fell (by kernel_rfl))) j⟩
 | k + 1, t, h1, h2 => by
  by_cases ht : t ≤ 100000000
  ·have h0 : decide (t ≤ 100000000) = true := decide_eq_true ht
   by_cases hp : protB L t = true
   ·have hn := @nxC_ge L t
    have e : frC L (k + 1) t = frC L k (nxC L t) := by
     show (if t ≤ 100000000 then (if protB L t = true then frC L k (nxC L t) else some t) else none) = _
     rw [if_pos ht, if_pos hp]
    rw [e]
    have st := fun {Φ} (ho : ∀ j, OutK E 0 7 (r165 (T108 z) (#[10]) (asg108) (bod108) (hrD L) (L.length) (nxC L t) 0 0 0 j) Φ) => p165s hE (T108 z) (#[10]) (asg108) (bod108) (hrD L) (L.length) (t) (nxC L t) 0 0 (by rw [h0]; rfl) (by rw [h0]; rfl) (by rw [h0]; rfl) (Rt hE z L t ⟨h1, ht⟩ hm hp) h0 (K166 hE L t ⟨h1, ht⟩ hm) ho
    have eT : frT L (k + 1) t = frT L k (nxC L t) := by
     show (if t ≤ 100000000 then (if protB L t = true then frT L k (nxC L t) else t) else t) = _
     rw [if_pos ht, if_pos hp]
    rcases l165 hE z L hm k (nxC L t) (by omega) (by omega) with ⟨r, h3, h4⟩ | ⟨h3, h4⟩
    ·exact .inl ⟨r, h3, fun j => st h4 j⟩
    ·exact .inr ⟨h3, fun j => by rw [eT]; exact st h4 j⟩
   ·have hp : protB L t = false := by simpa using hp
    refine .inl ⟨t, ?_, fun j => p165e hE (T108 z) (#[10]) (asg108) (bod108) (hrD L) (L.length) (t) 0 0 0 (by rw [h0]; rfl) (by rw [h0]; rfl) (by rw [h0]; rfl) (Rf hE z L t ⟨h1, ht⟩ hm hp) h0 (fun j => outK_fell (ends_fell (by kernel_rfl))) j⟩
    show (if t ≤ 100000000 then (if protB L t = true then frC L k (nxC L t) else some t) else none) = _
    rw [if_pos ht, if_neg (by rw [hp]; decide)]
  ·have h0 : decide (t ≤ 100000000) = false := decide_eq_false ht
   have eT : frT L (k + 1) t = t := by
    show (if t ≤ 100000000 then (if protB L t = true then frT L k (nxC L t) else t) else t) = _
    rw [if_neg ht]
   rw [eT]
   refine .inr ⟨?_, fun j => p165x hE (T108 z) (#[10]) (asg108) (bod108) (hrD L) (L.length) (t) 0 0 0 (by rw [h0]; rfl) (by rw [h0]; rfl) (by rw [h0]; rfl) h0 (fun j => outK_fell (ends_fell (by kernel_rfl))) j⟩
   show (if t ≤ 100000000 then (if protB L t = true then frC L k (nxC L t) else some t) else none) = _
   rw [if_neg ht]
def frV : Option Int → Int
 | some r => r
 | none => 0
def frE : Option Int → Int
 | some _ => 0
 | none => 7
abbrev frP (o : Option Int) : AV := .tup [.one (.v (.int .i64 (frV o))), .one (.v (.int .i64 (frE o)))]
theorem K148 (hE : EnvOk E) (L : List Hr) (t : Int) : COut E 0 [] 98 [dHr L, iI t] (.e (.one (.clo 121 [] [.one (.ptr 1 0), .one (.ptr 0 0)]))) [bK [.dp (.s (hrD L) L.length 9)] 1 70, bK [.v (.int .i64 t)] 1 3] :=
 cOut_start Tryz.func98 rfl (p148 hE (fun _ => undef) (hrD L) (L.length) 0 0 0 0 0 0 (t) 0 0 0 0 false false false false false false false false 0 0 (fun j => outK_ret (ends_ret (by kernel_rfl))) fun _ => undef)
theorem K108 (hE : EnvOk E) (L : List Hr) (t : Int) (hm : L.length ≤ 100000) (h1 : 0 ≤ t) (k : Nat) (h2 : 100000000 < t + k) : COut E 0 [] 67 [dHr L, iI t] (frP (frC L k t)) [] := by
 have h3 := fun j => l165 hE j L hm k t h1 h2
 cases hc : frC L k t with
 | some r =>
  have h4 : ∀ z j, OutK E 0 7 (r165 (T108 z) (#[10]) (asg108) (bod108) (hrD L) (L.length) (t) 0 0 0 j) (Go.Ev.Ends E Tryz.f121 (.tup []) [bK [.dp (.s (hrD L) L.length 9)] 1 70, bK [.v (.int .i64 r)] 1 3, bK [.v (.int .i64 0)] 1 36, bK [.dp (.s (hrD L) L.length 9)] 1 70, bK [.v (.int .i64 r)] 1 3, some markEnt, lp108 .done (some .ret) z]) := fun z => by
   rcases h3 z with ⟨r', h5, h6⟩ | ⟨h5, _⟩
   ·rw [hc] at h5; obtain rfl : r = r' := by simpa using h5
    exact h6
   ·rw [hc] at h5; exact absurd h5 (by simp)
  have h7 : ∀ z, COut E 0 [bK [.dp (.s (hrD L) L.length 9)] 1 70, bK [.v (.int .i64 0)] 1 3, bK [.v (.int .i64 0)] 1 36, bK [.dp (.s (hrD L) L.length 9)] 1 70, bK [.v (.int .i64 t)] 1 3, some markEnt, lp108 .ready none z] 121 [.e (.one (.yld 6)), .e (.one (.ptr 4 0)), .e (.one (.ptr 3 0))] (.tup []) [bK [.dp (.s (hrD L) L.length 9)] 1 70, bK [.v (.int .i64 r)] 1 3, bK [.v (.int .i64 0)] 1 36, bK [.dp (.s (hrD L) L.length 9)] 1 70, bK [.v (.int .i64 r)] 1 3, some markEnt, lp108 .done (some .ret) z] := fun z => cOut_start Tryz.func121 rfl (p165a hE (T108 z) (#[10]) (asg108) (bod108) (hrD L) (L.length) (t) 0 0 0 (h4 z) fun _ => undef)
  refine cOut_clear (h := [bK [.dp (.s (hrD L) L.length 9)] 1 70, bK [.v (.int .i64 r)] 1 3, bK [.v (.int .i64 0)] 1 36, bK [.dp (.s (hrD L) L.length 9)] 1 70, bK [.v (.int .i64 r)] 1 3, none]) (cOut_startM Tryz.func67 rfl (p108a hE (fun _ => undef) (hrD L) (L.length) 0 0 0 0 0 0 (t) 0 0 0 0 false false false false false false false false 0 0 (K148 hE L t) trivial trivial (fun j => ?_) fun _ => undef)) rfl
  refine (?_ : OutK E 0 0 ⟨[bK [.dp (.s (hrD L) L.length 9)] 1 70, bK [.v (.int .i64 0)] 1 3, bK [.v (.int .i64 0)] 1 36, bK [.dp (.s (hrD L) L.length 9)] 1 70, bK [.v (.int .i64 t)] 1 3], .code (.rangeFunc (.tmp 9) #[10] asg108 bod108) :: [.inBlock 0, .code (atC [1, 1] (bodyOf Tryz.f67))], T108 j⟩ _)
  refine outK_loop hE (g := 121) (v := .tup []) (h2 := [bK [.dp (.s (hrD L) L.length 9)] 1 70, bK [.v (.int .i64 r)] 1 3, bK [.v (.int .i64 0)] 1 36, bK [.dp (.s (hrD L) L.length 9)] 1 70, bK [.v (.int .i64 r)] 1 3, some markEnt, lp108 .done (some .ret) j]) (a := loopEnt .done (some .ret) (T108 j) #[10] asg108 bod108) rfl Tryz.func121 rfl rfl (h7 j) (by kernel_rfl) rfl (by intro h; cases h) ?_
  exact pE108f hE (j) (hrD L) (L.length) 0 0 0 0 0 0 (r) 0 0 0 0 false false false false false false false false 0 0 (fun j => outK_ret ⟨rfl, by kernel_rfl, by kernel_rfl⟩) j
 | none =>
  have h4 : ∀ z j, OutK E 0 7 (r165 (T108 z) (#[10]) (asg108) (bod108) (hrD L) (L.length) (t) 0 0 0 j) (Go.Ev.Ends E Tryz.f121 (.tup []) [bK [.dp (.s (hrD L) L.length 9)] 1 70, bK [.v (.int .i64 0)] 1 3, bK [.v (.int .i64 0)] 1 36, bK [.dp (.s (hrD L) L.length 9)] 1 70, bK [.v (.int .i64 (frT L k t))] 1 3, some markEnt, lp108 .ready none z]) := fun z => by
   rcases h3 z with ⟨r', h5, h6⟩ | ⟨_, h6⟩
   ·rw [hc] at h5; exact absurd h5 (by simp)
   ·exact h6
  have h7 : ∀ z, COut E 0 [bK [.dp (.s (hrD L) L.length 9)] 1 70, bK [.v (.int .i64 0)] 1 3, bK [.v (.int .i64 0)] 1 36, bK [.dp (.s (hrD L) L.length 9)] 1 70, bK [.v (.int .i64 t)] 1 3, some markEnt, lp108 .ready none z] 121 [.e (.one (.yld 6)), .e (.one (.ptr 4 0)), .e (.one (.ptr 3 0))] (.tup []) [bK [.dp (.s (hrD L) L.length 9)] 1 70, bK [.v (.int .i64 0)] 1 3, bK [.v (.int .i64 0)] 1 36, bK [.dp (.s (hrD L) L.length 9)] 1 70, bK [.v (.int .i64 (frT L k t))] 1 3, some markEnt, lp108 .ready none z] := fun z => cOut_start Tryz.func121 rfl (p165a hE (T108 z) (#[10]) (asg108) (bod108) (hrD L) (L.length) (t) 0 0 0 (h4 z) fun _ => undef)
  refine cOut_clear (h := [bK [.dp (.s (hrD L) L.length 9)] 1 70, bK [.v (.int .i64 0)] 1 3, bK [.v (.int .i64 7)] 1 36, bK [.dp (.s (hrD L) L.length 9)] 1 70, bK [.v (.int .i64 (frT L k t))] 1 3, none]) (cOut_startM Tryz.func67 rfl (p108a hE (fun _ => undef) (hrD L) (L.length) 0 0 0 0 0 0 (t) 0 0 0 0 false false false false false false false false 0 0 (K148 hE L t) trivial trivial (fun j => ?_) fun _ => undef)) rfl
  refine (?_ : OutK E 0 0 ⟨[bK [.dp (.s (hrD L) L.length 9)] 1 70, bK [.v (.int .i64 0)] 1 3, bK [.v (.int .i64 0)] 1 36, bK [.dp (.s (hrD L) L.length 9)] 1 70, bK [.v (.int .i64 t)] 1 3], .code (.rangeFunc (.tmp 9) #[10] asg108 bod108) :: [.inBlock 0, .code (atC [1, 1] (bodyOf Tryz.f67))], T108 j⟩ _)
  refine outK_loop hE (g := 121) (v := .tup []) (h2 := [bK [.dp (.s (hrD L) L.length 9)] 1 70, bK [.v (.int .i64 0)] 1 3, bK [.v (.int .i64 0)] 1 36, bK [.dp (.s (hrD L) L.length 9)] 1 70, bK [.v (.int .i64 (frT L k t))] 1 3, some markEnt, lp108 .ready none j]) (a := loopEnt .ready none (T108 j) #[10] asg108 bod108) rfl Tryz.func121 rfl rfl (h7 j) (by kernel_rfl) rfl (by intro h; cases h) ?_
  exact pE108t hE (j) (hrD L) (L.length) 0 0 0 0 0 0 ((frT L k t)) 0 0 0 0 false false false false false false false false 0 0 (fun j => outK_ret ⟨rfl, by kernel_rfl, by kernel_rfl⟩) j
end
end Go.Proofs.YtneaafigbnjceaaGreatDoor
end

/-! SeAcc -/
section
open Go Go.Ev
namespace Go.Proofs.YtneaafigbnjceaaGreatDoor
structure AccP where
 b : Int
 d : Int
 s : Int
 e : Int
 k0 : Int
 k1 : Int
 k2 : Int
 k3 : Int
 k4 : Int
 k5 : Int
 k6 : Int
 k7 : Int
 m0 : Int
 m1 : Int
 m2 : Int
 m3 : Int
 m4 : Int
 m5 : Int
 m6 : Int
 m7 : Int
abbrev accN (V : AccP) (r : List AC) : List AC := .v (.int .i64 V.b) :: .v (.int .i64 V.d) :: .v (.int .i64 V.s) :: .v (.int .i64 V.e) :: .v (.int .u8 V.k0) :: .v (.int .u8 V.k1) :: .v (.int .u8 V.k2) :: .v (.int .u8 V.k3) :: .v (.int .u8 V.k4) :: .v (.int .u8 V.k5) :: .v (.int .u8 V.k6) :: .v (.int .u8 V.k7) :: .v (.int .u8 V.m0) :: .v (.int .u8 V.m1) :: .v (.int .u8 V.m2) :: .v (.int .u8 V.m3) :: .v (.int .u8 V.m4) :: .v (.int .u8 V.m5) :: .v (.int .u8 V.m6) :: .v (.int .u8 V.m7) :: r
abbrev accZ (r : List AC) : List AC := .v (.int .i64 0) :: .v (.int .i64 0) :: .v (.int .i64 0) :: .v (.int .i64 0) :: .v (.int .u8 0) :: .v (.int .u8 0) :: .v (.int .u8 0) :: .v (.int .u8 0) :: .v (.int .u8 0) :: .v (.int .u8 0) :: .v (.int .u8 0) :: .v (.int .u8 0) :: .v (.int .u8 0) :: .v (.int .u8 0) :: .v (.int .u8 0) :: .v (.int .u8 0) :: .v (.int .u8 0) :: .v (.int .u8 0) :: .v (.int .u8 0) :: .v (.int .u8 0) :: r
def vZ : AccP := ⟨0, 0, 0, 0, 0, 0, 0, 0, 0, 0, 0, 0, 0, 0, 0, 0, 0, 0, 0, 0⟩
abbrev zB8 (a b c d e f g h : Int) : List AC := [.v (.int .u8 a), .v (.int .u8 b), .v (.int .u8 c), .v (.int .u8 d), .v (.int .u8 e), .v (.int .u8 f), .v (.int .u8 g), .v (.int .u8 h)]
abbrev zTk (t m a b c d e f g h : Int) : List AC := [.v (.int .i64 t), .v (.int .i64 m), .v (.int .u8 a), .v (.int .u8 b), .v (.int .u8 c), .v (.int .u8 d), .v (.int .u8 e), .v (.int .u8 f), .v (.int .u8 g), .v (.int .u8 h)]
abbrev zU (l : List Int) : List AC := l.map fun x => .v (.int .u8 x)
abbrev zI2 (a b : Int) : List AC := [.v (.int .i64 a), .v (.int .i64 b)]
abbrev zAc (V : AccP) (c : Bool) (U : List DT) (n : Nat) : List AC := accN V [.v (.bool c), .dp (.s U n 1)]
abbrev zAz : List AC := accZ [.v (.bool false), .v (.slice none 0 0)]
abbrev zBk (c : List AC) (n t : Nat) : Option AB := some ⟨c, n, t, true, .cells⟩
abbrev zBf (c : List AC) (n t : Nat) : Option AB := some ⟨c, n, t, false, .cells⟩
end Go.Proofs.YtneaafigbnjceaaGreatDoor
end

/-! SeBa -/
section
open Go Go.Ev
namespace Go.Proofs.YtneaafigbnjceaaGreatDoor.Bk
noncomputable section
set_option maxRecDepth 100000
set_option maxHeartbeats 20000000
abbrev ztBa1 : List Item := [(.code (atC [1, 0, 1, 0, 0] (bodyOf Tryz.f116))), (.inLoop (atC [1, 0, 1, 0, 0] (bodyOf Tryz.f116))), (.inBlock 0), (.code (atC [1, 1] (bodyOf Tryz.f116)))]
abbrev ztBa2 : List Item := [(.code (atC [1, 0, 1, 0, 0] (bodyOf Tryz.f53))), (.inLoop (atC [1, 0, 1, 0, 0] (bodyOf Tryz.f53))), (.inBlock 0), (.code (atC [1, 1] (bodyOf Tryz.f53)))]
abbrev ztBa3 : List Item := [(.code (atC [1, 0, 1, 0, 0] (bodyOf Tryz.f36))), (.inLoop (atC [1, 0, 1, 0, 0] (bodyOf Tryz.f36))), (.inBlock 0), (.code (atC [1, 1] (bodyOf Tryz.f36)))]
def s78 (_V : AccP) (_U _C _C2 : List DT) (_un _n _p _i : Nat) (_x _b _lo _hi e _f _g _z _w : Int) (c _ac : Bool) (_D : List AC) (_j : Nat → Value) : St := startK Tryz.f61 [] [iB c, iI e]
def s83 (_V : AccP) (_U _C _C2 : List DT) (_un _n _p _i : Nat) (_x _b _lo _hi e _f _g _z _w : Int) (c _ac : Bool) (_D : List AC) (_j : Nat → Value) : St := startK Tryz.f38 [] [iB c, iI e]
def s77 (_V : AccP) (_U _C _C2 : List DT) (_un _n _p _i : Nat) (x _b lo hi _e _f _g _z _w : Int) (_c _ac : Bool) (_D : List AC) (_j : Nat → Value) : St := startK Tryz.f63 [] [iI x, iI lo, iI hi]
def s17 (_V : AccP) (_U _C _C2 : List DT) (_un _n _p _i : Nat) (x _b lo hi _e _f _g _z _w : Int) (_c _ac : Bool) (_D : List AC) (_j : Nat → Value) : St := startK Tryz.f37 [] [iI x, iI lo, iI hi]
def s88 (_V : AccP) (_U _C _C2 : List DT) (_un _n _p _i : Nat) (x _b _lo _hi _e _f _g _z _w : Int) (_c _ac : Bool) (_D : List AC) (_j : Nat → Value) : St := startK Tryz.f85 [] [iI x]
def s84 (_V : AccP) (_U _C _C2 : List DT) (_un _n _p _i : Nat) (x _b _lo _hi _e _f _g _z _w : Int) (_c _ac : Bool) (_D : List AC) (_j : Nat → Value) : St := startK Tryz.f39 [] [iI x]
def s76 (_V : AccP) (_U C _C2 : List DT) (_un n _p _i : Nat) (_x _b _lo _hi _e _f _g _z _w : Int) (_c _ac : Bool) (_D : List AC) (_j : Nat → Value) : St := startK Tryz.f53 [] [(.e (.one (.dp (.s C n 1))))]
def s82 (_V : AccP) (_U C _C2 : List DT) (_un n _p _i : Nat) (_x _b _lo _hi _e _f _g _z _w : Int) (_c _ac : Bool) (_D : List AC) (_j : Nat → Value) : St := startK Tryz.f36 [] [(.e (.one (.dp (.s C n 1))))]
def s136 (V : AccP) (U _C _C2 : List DT) (un _n _p _i : Nat) (x b _lo _hi _e _f _g _z _w : Int) (_c ac : Bool) (_D : List AC) (_j : Nat → Value) : St := startK Tryz.f115 [bK (zAc V ac U un) 22 44, bK [.v (.int .i64 b)] 1 3, bK [.clo 115 [] [.one (.ptr 1 0)]] 1 129] [iI x, (.e (.one (.ptr 1 0)))]
def s87 (V : AccP) (U _C _C2 : List DT) (un _n _p _i : Nat) (x b _lo _hi _e _f _g _z _w : Int) (_c ac : Bool) (_D : List AC) (_j : Nat → Value) : St := startK Tryz.f89 [bK (zAc V ac U un) 22 44, bK [.v (.int .i64 b)] 1 3, bK [.clo 115 [] [.one (.ptr 1 0)]] 1 129] [iI x, (.e (.one (.ptr 2 0)))]
def s137 (V : AccP) (U C _C2 : List DT) (un n _p _i : Nat) (_x b _lo _hi _e _f _g _z _w : Int) (_c ac : Bool) (_D : List AC) (_j : Nat → Value) : St := startK Tryz.f116 [bK (zAc V ac U un) 22 44, bK [.v (.int .i64 b)] 1 3, bK [.clo 115 [] [.one (.ptr 1 0)]] 1 129] [(.e (.one (.dp (.s C n 1)))), (.e (.one (.clo 89 [] [.one (.ptr 2 0)])))]
def s86 (V : AccP) (U C _C2 : List DT) (un n _p _i : Nat) (_x b lo _hi _e _f _g _z _w : Int) (_c ac : Bool) (_D : List AC) (_j : Nat → Value) : St := startK Tryz.f88 [bK (zAc V ac U un) 22 44, bK [.v (.int .i64 b)] 1 3, bK [.clo 115 [] [.one (.ptr 1 0)]] 1 129] [(.e (.one (.dp (.s C n 1)))), iI lo, (.e (.one (.clo 89 [] [.one (.ptr 2 0)])))]
def q76 (_V : AccP) (_U C _C2 : List DT) (_un n _p i : Nat) (_x _b _lo _hi _e _f _g _z _w : Int) (_c _ac : Bool) (_D : List AC) (j : Nat → Value) : St := ⟨[], ztBa2, mkT j [(5, (.e (.one (.dp (.s (C) (n) 1))))), (6, (iI (Int.ofNat n))), (7, (iI (Int.ofNat i)))] 15 0⟩
def q82 (_V : AccP) (_U C _C2 : List DT) (_un n _p i : Nat) (_x _b _lo _hi _e _f _g _z _w : Int) (_c _ac : Bool) (_D : List AC) (j : Nat → Value) : St := ⟨[], ztBa3, mkT j [(0, (.e (.one (.dp (.s (C) (n) 1))))), (3, (iI (Int.ofNat i)))] 19 0⟩
def q137 (V : AccP) (U C _C2 : List DT) (un n _p i : Nat) (_x b _lo _hi _e _f _g _z _w : Int) (_c ac : Bool) (_D : List AC) (j : Nat → Value) : St := ⟨[(zBk (zAc V ac U un) 22 44), (zBk [.v (.int .i64 b)] 1 3), (zBk [(.clo 115 [] [(.one (.ptr 1 0))])] 1 129)], ztBa1, mkT j [(1, (.e (.one (.clo 89 [] [(.one (.ptr 2 0))])))), (8, (.e (.one (.dp (.s (C) (n) 1))))), (9, (iI (Int.ofNat n))), (10, (iI (Int.ofNat i)))] 21 0⟩
def p78t_end (_V : AccP) (_U : List DT) (_C : List DT) (_C2 : List DT) (_un _n _p _i : Nat) (_x _b _lo _hi e _f _g _z _w : Int) (_c _ac : Bool) (_D : List AC) (j : Nat → Value) : St := ⟨[], [(.code .ret), (.code (atC [1, 1] (bodyOf Tryz.f61)))], mkT j [(4, (iI (e)))] 7 0⟩
theorem p78t (hE : EnvOk E) (V : AccP) (U : List DT) (C : List DT) (C2 : List DT) (un n p i : Nat) (x b lo hi e f g z w : Int) (c ac : Bool) (D : List AC) (h0 : (c : Bool) = true) : Sg 0 0 (s78 V U C C2 un n p i x b lo hi e f g z w c ac D) (p78t_end V U C C2 un n p i x b lo hi e f g z w c ac D) := fun ho j =>
 oS hE [.run 5, (.cond true), .run 2] [4] (aP h0 <| aZ)
  ho
def p78f_end (_V : AccP) (_U : List DT) (_C : List DT) (_C2 : List DT) (_un _n _p _i : Nat) (_x _b _lo _hi _e _f _g _z _w : Int) (_c _ac : Bool) (_D : List AC) (j : Nat → Value) : St := ⟨[], [(.code .ret)], mkT j [(4, (iI 0))] 7 0⟩
theorem p78f (hE : EnvOk E) (V : AccP) (U : List DT) (C : List DT) (C2 : List DT) (un n p i : Nat) (x b lo hi e f g z w : Int) (c ac : Bool) (D : List AC) (h0 : (c : Bool) = false) : Sg 0 0 (s78 V U C C2 un n p i x b lo hi e f g z w c ac D) (p78f_end V U C C2 un n p i x b lo hi e f g z w c ac D) := fun ho j =>
 oS hE [.run 5, (.cond false), .run 3] [4] (aP h0 <| aZ)
  ho
def p83t_end (_V : AccP) (_U : List DT) (_C : List DT) (_C2 : List DT) (_un _n _p _i : Nat) (_x _b _lo _hi e _f _g _z _w : Int) (_c _ac : Bool) (_D : List AC) (j : Nat → Value) : St := ⟨[], [(.code .ret), (.code (atC [1, 1] (bodyOf Tryz.f38)))], mkT j [(4, (iI (e)))] 7 0⟩
theorem p83t (hE : EnvOk E) (V : AccP) (U : List DT) (C : List DT) (C2 : List DT) (un n p i : Nat) (x b lo hi e f g z w : Int) (c ac : Bool) (D : List AC) (h0 : (c : Bool) = true) : Sg 0 0 (s83 V U C C2 un n p i x b lo hi e f g z w c ac D) (p83t_end V U C C2 un n p i x b lo hi e f g z w c ac D) := fun ho j =>
 oS hE [.run 5, (.cond true), .run 2] [4] (aP h0 <| aZ)
  ho
def p83f_end (_V : AccP) (_U : List DT) (_C : List DT) (_C2 : List DT) (_un _n _p _i : Nat) (_x _b _lo _hi _e _f _g _z _w : Int) (_c _ac : Bool) (_D : List AC) (j : Nat → Value) : St := ⟨[], [(.code .ret)], mkT j [(4, (iI 0))] 7 0⟩
theorem p83f (hE : EnvOk E) (V : AccP) (U : List DT) (C : List DT) (C2 : List DT) (un n p i : Nat) (x b lo hi e f g z w : Int) (c ac : Bool) (D : List AC) (h0 : (c : Bool) = false) : Sg 0 0 (s83 V U C C2 un n p i x b lo hi e f g z w c ac D) (p83f_end V U C C2 un n p i x b lo hi e f g z w c ac D) := fun ho j =>
 oS hE [.run 5, (.cond false), .run 3] [4] (aP h0 <| aZ)
  ho
def p77a_end (_V : AccP) (_U : List DT) (_C : List DT) (_C2 : List DT) (_un _n _p _i : Nat) (_x _b _lo _hi e _f _g _z _w : Int) (_c _ac : Bool) (_D : List AC) (j : Nat → Value) : St := ⟨[], [(.code .ret)], mkT j [(6, (iI (e)))] 16 0⟩
theorem p77a (hE : EnvOk E) (V : AccP) (U : List DT) (C : List DT) (C2 : List DT) (un n p i : Nat) (x b lo hi e f g z w : Int) (c ac : Bool) (D : List AC) (h0 : (decide (x < lo) == false : Bool) = false) (h1 : (decide (x < lo) == false : Bool) = false) (h2 : (decide (x < lo) == false : Bool) = false) (h3 : (decide (x < lo) : Bool) = true) (h4 : COut E 0 [] 61 [(iB true), (iI 3)] (iI (e)) []) : Sg 0 0 (s77 V U C C2 un n p i x b lo hi e f g z w c ac D) (p77a_end V U C C2 un n p i x b lo hi e f g z w c ac D) := fun ho j =>
 oS hE [.run 3, (.ops [(8, (.c0 (iI (e)))), (7, (.pk true))] [(4, false), (5, false), (6, false)])] [6] (aP h0 <| aP h1 <| aP h2 <| aP h3 <| aP h4 <| aN <| aZ)
  ho
def p77b_end (_V : AccP) (_U : List DT) (_C : List DT) (_C2 : List DT) (_un _n _p _i : Nat) (_x _b _lo _hi e _f _g _z _w : Int) (_c _ac : Bool) (_D : List AC) (j : Nat → Value) : St := ⟨[], [(.code .ret)], mkT j [(6, (iI (e)))] 16 0⟩
theorem p77b (hE : EnvOk E) (V : AccP) (U : List DT) (C : List DT) (C2 : List DT) (un n p i : Nat) (x b lo hi e f g z w : Int) (c ac : Bool) (D : List AC) (h0 : (decide (x < lo) == false : Bool) = true) (h1 : (decide (x < lo) == false : Bool) = true) (h2 : (decide (x < lo) == false : Bool) = true) (h3 : (decide (x < lo) : Bool) = false) (h4 : COut E 0 [] 61 [(iB (decide (x > hi))), (iI 3)] (iI (e)) []) : Sg 0 0 (s77 V U C C2 un n p i x b lo hi e f g z w c ac D) (p77b_end V U C C2 un n p i x b lo hi e f g z w c ac D) := fun ho j =>
 oS hE [.run 3, (.ops [(8, (.c0 (iI (e)))), (7, (.pk false))] [(4, true), (5, true), (6, true)])] [6] (aP h0 <| aP h1 <| aP h2 <| aP h3 <| aP h4 <| aN <| aZ)
  ho
def p17a_end (_V : AccP) (_U : List DT) (_C : List DT) (_C2 : List DT) (_un _n _p _i : Nat) (_x _b _lo _hi e _f _g _z _w : Int) (_c _ac : Bool) (_D : List AC) (j : Nat → Value) : St := ⟨[], [(.code .ret)], mkT j [(6, (iI (e)))] 16 0⟩
theorem p17a (hE : EnvOk E) (V : AccP) (U : List DT) (C : List DT) (C2 : List DT) (un n p i : Nat) (x b lo hi e f g z w : Int) (c ac : Bool) (D : List AC) (h0 : (decide (x < lo) == false : Bool) = false) (h1 : (decide (x < lo) == false : Bool) = false) (h2 : (decide (x < lo) == false : Bool) = false) (h3 : (decide (x < lo) : Bool) = true) (h4 : COut E 0 [] 38 [(iB true), (iI 3)] (iI (e)) []) : Sg 0 0 (s17 V U C C2 un n p i x b lo hi e f g z w c ac D) (p17a_end V U C C2 un n p i x b lo hi e f g z w c ac D) := fun ho j =>
 oS hE [.run 3, (.ops [(8, (.c0 (iI (e)))), (7, (.pk true))] [(4, false), (5, false), (6, false)])] [6] (aP h0 <| aP h1 <| aP h2 <| aP h3 <| aP h4 <| aN <| aZ)
  ho
def p17b_end (_V : AccP) (_U : List DT) (_C : List DT) (_C2 : List DT) (_un _n _p _i : Nat) (_x _b _lo _hi e _f _g _z _w : Int) (_c _ac : Bool) (_D : List AC) (j : Nat → Value) : St := ⟨[], [(.code .ret)], mkT j [(6, (iI (e)))] 16 0⟩
theorem p17b (hE : EnvOk E) (V : AccP) (U : List DT) (C : List DT) (C2 : List DT) (un n p i : Nat) (x b lo hi e f g z w : Int) (c ac : Bool) (D : List AC) (h0 : (decide (x < lo) == false : Bool) = true) (h1 : (decide (x < lo) == false : Bool) = true) (h2 : (decide (x < lo) == false : Bool) = true) (h3 : (decide (x < lo) : Bool) = false) (h4 : COut E 0 [] 38 [(iB (decide (x > hi))), (iI 3)] (iI (e)) []) : Sg 0 0 (s17 V U C C2 un n p i x b lo hi e f g z w c ac D) (p17b_end V U C C2 un n p i x b lo hi e f g z w c ac D) := fun ho j =>
 oS hE [.run 3, (.ops [(8, (.c0 (iI (e)))), (7, (.pk false))] [(4, true), (5, true), (6, true)])] [6] (aP h0 <| aP h1 <| aP h2 <| aP h3 <| aP h4 <| aN <| aZ)
  ho
def p88_end (_V : AccP) (_U : List DT) (_C : List DT) (_C2 : List DT) (_un _n _p _i : Nat) (_x _b _lo _hi e _f _g _z _w : Int) (_c _ac : Bool) (_D : List AC) (j : Nat → Value) : St := ⟨[], [(.code .ret)], mkT j [(2, (iI (e)))] 5 0⟩
theorem p88 (hE : EnvOk E) (V : AccP) (U : List DT) (C : List DT) (C2 : List DT) (un n p i : Nat) (x b lo hi e f g z w : Int) (c ac : Bool) (D : List AC) (h0 : COut E 0 [] 63 [(iI (x)), (iI 1), (iI 999999999)] (iI (e)) []) : Sg 0 0 (s88 V U C C2 un n p i x b lo hi e f g z w c ac D) (p88_end V U C C2 un n p i x b lo hi e f g z w c ac D) := fun ho j =>
 oS hE [.run 3, (.ops [(1, (.c0 (iI (e))))] [])] [2] (aP h0 <| aN <| aZ)
  ho
def p84_end (_V : AccP) (_U : List DT) (_C : List DT) (_C2 : List DT) (_un _n _p _i : Nat) (_x _b _lo _hi e _f _g _z _w : Int) (_c _ac : Bool) (_D : List AC) (j : Nat → Value) : St := ⟨[], [(.code .ret)], mkT j [(2, (iI (e)))] 5 0⟩
theorem p84 (hE : EnvOk E) (V : AccP) (U : List DT) (C : List DT) (C2 : List DT) (un n p i : Nat) (x b lo hi e f g z w : Int) (c ac : Bool) (D : List AC) (h0 : COut E 0 [] 37 [(iI (x)), (iI 1), (iI 999999999)] (iI (e)) []) : Sg 0 0 (s84 V U C C2 un n p i x b lo hi e f g z w c ac D) (p84_end V U C C2 un n p i x b lo hi e f g z w c ac D) := fun ho j =>
 oS hE [.run 3, (.ops [(1, (.c0 (iI (e))))] [])] [2] (aP h0 <| aN <| aZ)
  ho
def p76a_end (_V : AccP) (_U : List DT) (C : List DT) (_C2 : List DT) (_un n _p _i : Nat) (_x _b _lo _hi _e _f _g _z _w : Int) (_c _ac : Bool) (_D : List AC) (j : Nat → Value) : St := ⟨[], ztBa2, mkT j [(5, (.e (.one (.dp (.s (C) (n) 1))))), (6, (iI (Int.ofNat n))), (7, (iI 0))] 15 0⟩
theorem p76a (hE : EnvOk E) (V : AccP) (U : List DT) (C : List DT) (C2 : List DT) (un n p i : Nat) (x b lo hi e f g z w : Int) (c ac : Bool) (D : List AC) : Sg 0 0 (s76 V U C C2 un n p i x b lo hi e f g z w c ac D) (p76a_end V U C C2 un n p i x b lo hi e f g z w c ac D) := fun ho j =>
 oS hE [.run 4, (.ops [(1, (.d .len))] []), .run 2] [5, 6, 7] (ps := []) trivial
  ho
def p82a_end (_V : AccP) (_U : List DT) (C : List DT) (_C2 : List DT) (_un n _p _i : Nat) (_x _b _lo _hi _e _f _g _z _w : Int) (_c _ac : Bool) (_D : List AC) (j : Nat → Value) : St := ⟨[], ztBa3, mkT j [(0, (.e (.one (.dp (.s (C) (n) 1))))), (3, (iI 0))] 19 0⟩
theorem p82a (hE : EnvOk E) (V : AccP) (U : List DT) (C : List DT) (C2 : List DT) (un n p i : Nat) (x b lo hi e f g z w : Int) (c ac : Bool) (D : List AC) : Sg 0 0 (s82 V U C C2 un n p i x b lo hi e f g z w c ac D) (p82a_end V U C C2 un n p i x b lo hi e f g z w c ac D) := fun ho j =>
 oS hE [.run 7] [0, 3] (ps := []) trivial
  ho
def p137a_end (V : AccP) (U : List DT) (C : List DT) (_C2 : List DT) (un n _p _i : Nat) (_x b _lo _hi _e _f _g _z _w : Int) (_c ac : Bool) (_D : List AC) (j : Nat → Value) : St := ⟨[(zBk (zAc V ac U un) 22 44), (zBk [.v (.int .i64 b)] 1 3), (zBk [(.clo 115 [] [(.one (.ptr 1 0))])] 1 129)], ztBa1, mkT j [(1, (.e (.one (.clo 89 [] [(.one (.ptr 2 0))])))), (8, (.e (.one (.dp (.s (C) (n) 1))))), (9, (iI (Int.ofNat n))), (10, (iI 0))] 21 0⟩
theorem p137a (hE : EnvOk E) (V : AccP) (U : List DT) (C : List DT) (C2 : List DT) (un n p i : Nat) (x b lo hi e f g z w : Int) (c ac : Bool) (D : List AC) : Sg 0 3 (s137 V U C C2 un n p i x b lo hi e f g z w c ac D) (p137a_end V U C C2 un n p i x b lo hi e f g z w c ac D) := fun ho j =>
 oS hE [.run 4, (.ops [(1, (.d .len))] []), .run 2] [1, 8, 9, 10] (ps := []) trivial
  ho
def p136_end (V : AccP) (U : List DT) (_C : List DT) (_C2 : List DT) (un _n _p _i : Nat) (x _b _lo _hi e _f _g _z _w : Int) (_c ac : Bool) (_D : List AC) (j : Nat → Value) : St := ⟨[(zBk (zAc V ac U un) 22 44), (zBk [.v (.int .i64 x)] 1 3), (zBk [(.clo 115 [] [(.one (.ptr 1 0))])] 1 129)], [(.code .ret)], mkT j [(3, (iI (e)))] 11 0⟩
theorem p136 (hE : EnvOk E) (V : AccP) (U : List DT) (C : List DT) (C2 : List DT) (un n p i : Nat) (x b lo hi e f g z w : Int) (c ac : Bool) (D : List AC) (h0 : COut E 0 [] 61 [(iB (decide (x ≤ b))), (iI 11)] (iI (e)) []) : Sg 0 3 (s136 V U C C2 un n p i x b lo hi e f g z w c ac D) (p136_end V U C C2 un n p i x b lo hi e f g z w c ac D) := fun ho j =>
 oS hE [.run 3, (.ops [(3, (.c0 (iI (e))))] []), .run 4] [3] (aP h0 <| aN <| aZ)
  ho
def p87_end (V : AccP) (U : List DT) (_C : List DT) (_C2 : List DT) (un _n _p _i : Nat) (x _b _lo _hi e _f _g _z _w : Int) (_c ac : Bool) (_D : List AC) (j : Nat → Value) : St := ⟨[(zBk (zAc V ac U un) 22 44), (zBk [.v (.int .i64 x)] 1 3), (zBk [(.clo 115 [] [(.one (.ptr 1 0))])] 1 129)], [(.code .ret)], mkT j [(3, (iI (e)))] 11 0⟩
theorem p87 (hE : EnvOk E) (V : AccP) (U : List DT) (C : List DT) (C2 : List DT) (un n p i : Nat) (x b lo hi e f g z w : Int) (c ac : Bool) (D : List AC) (h0 : COut E 0 [] 85 [(iI (x))] (iI (f)) []) (h3 : COut E 0 [(zBk (zAc V ac U un) 22 44), (zBk [.v (.int .i64 b)] 1 3), (zBk [(.clo 115 [] [(.one (.ptr 1 0))])] 1 129)] 115 [(iI (x)), (.e (.one (.ptr 1 0)))] (iI (g)) [(zBk (zAc V ac U un) 22 44), (zBk [.v (.int .i64 x)] 1 3), (zBk [(.clo 115 [] [(.one (.ptr 1 0))])] 1 129)]) (h4 : COut E 4 [(zBk (zAc V ac U un) 22 44), (zBk [.v (.int .i64 x)] 1 3), (zBk [(.clo 115 [] [(.one (.ptr 1 0))])] 1 129), (zBk (zI2 f g) 2 36)] 53 [(.e (.one (.slc 3 0 2 1 2 true)))] (iI (e)) [(zBk (zAc V ac U un) 22 44), (zBk [.v (.int .i64 x)] 1 3), (zBk [(.clo 115 [] [(.one (.ptr 1 0))])] 1 129), (zBk (zI2 f g) 2 36)]) : Sg 0 3 (s87 V U C C2 un n p i x b lo hi e f g z w c ac D) (p87_end V U C C2 un n p i x b lo hi e f g z w c ac D) := fun ho j =>
 oS hE [.run 3, (.ops [(1, (.c0 (iI (f)))), (4, (.cw (iI (g)) [(zBk (zAc V ac U un) 22 44), (zBk [.v (.int .i64 x)] 1 3), (zBk [(.clo 115 [] [(.one (.ptr 1 0))])] 1 129)])), (6, (.d (.c1 (iI (e)))))] [])] [3] (s' := fun j => ⟨[(zBk (zAc V ac U un) 22 44), (zBk [.v (.int .i64 x)] 1 3), (zBk [(.clo 115 [] [(.one (.ptr 1 0))])] 1 129), (zBk (zI2 f g) 2 36)], [(.code .ret)], mkT j [(3, (iI (e)))] 11 0⟩) (aP h0 <| aN <| aP (rfl : (true : Bool) = true) <| aP h3 <| aP h4 <| aN <| aZ)
  fun j => gZ [0, 1, 2] (ho j)
def p86m_end (V : AccP) (U : List DT) (_C : List DT) (_C2 : List DT) (un _n _p _i : Nat) (_x b _lo _hi _e _f _g _z _w : Int) (_c ac : Bool) (_D : List AC) (j : Nat → Value) : St := ⟨[(zBk (zAc V ac U un) 22 44), (zBk [.v (.int .i64 b)] 1 3), (zBk [(.clo 115 [] [(.one (.ptr 1 0))])] 1 129)], [(.code .ret), (.code (atC [1, 1] (bodyOf Tryz.f88)))], mkT j [(6, (iI 5))] 14 0⟩
theorem p86m (hE : EnvOk E) (V : AccP) (U : List DT) (C : List DT) (C2 : List DT) (un n p i : Nat) (x b lo hi e f g z w : Int) (c ac : Bool) (D : List AC) (h0 : (decide ((↑n : Int) > lo) : Bool) = true) : Sg 0 3 (s86 V U C C2 un n p i x b lo hi e f g z w c ac D) (p86m_end V U C C2 un n p i x b lo hi e f g z w c ac D) := fun ho j =>
 oS hE [.run 4, (.ops [(1, (.d .len))] []), (.cond true), .run 2] [6] (aP h0 <| aZ)
  ho
def p86_end (V : AccP) (U : List DT) (_C : List DT) (_C2 : List DT) (un _n _p _i : Nat) (_x _b _lo _hi e _f _g z _w : Int) (_c ac : Bool) (_D : List AC) (j : Nat → Value) : St := ⟨[(zBk (zAc V ac U un) 22 44), (zBk [.v (.int .i64 z)] 1 3), (zBk [(.clo 115 [] [(.one (.ptr 1 0))])] 1 129)], [(.code .ret)], mkT j [(6, (iI (e)))] 14 0⟩
theorem p86 (hE : EnvOk E) (V : AccP) (U : List DT) (C : List DT) (C2 : List DT) (un n p i : Nat) (x b lo hi e f g z w : Int) (c ac : Bool) (D : List AC) (h0 : (decide ((↑n : Int) > lo) : Bool) = false) (h1 : COut E 0 [(zBk (zAc V ac U un) 22 44), (zBk [.v (.int .i64 b)] 1 3), (zBk [(.clo 115 [] [(.one (.ptr 1 0))])] 1 129)] 116 [(.e (.one (.dp (.s (C) (n) 1)))), (.e (.one (.clo 89 [] [(.one (.ptr 2 0))])))] (iI (e)) [(zBk (zAc V ac U un) 22 44), (zBk [.v (.int .i64 z)] 1 3), (zBk [(.clo 115 [] [(.one (.ptr 1 0))])] 1 129)]) : Sg 0 3 (s86 V U C C2 un n p i x b lo hi e f g z w c ac D) (p86_end V U C C2 un n p i x b lo hi e f g z w c ac D) := fun ho j =>
 oS hE [.run 4, (.ops [(1, (.d .len))] []), (.cond false), .run 2, (.ops [(2, (.cw (iI (e)) [(zBk (zAc V ac U un) 22 44), (zBk [.v (.int .i64 z)] 1 3), (zBk [(.clo 115 [] [(.one (.ptr 1 0))])] 1 129)]))] [])] [6] (aP h0 <| aP h1 <| aZ)
  ho
def p76s_end (_V : AccP) (_U : List DT) (C : List DT) (_C2 : List DT) (_un n _p i : Nat) (_x _b _lo _hi _e _f _g _z _w : Int) (_c _ac : Bool) (_D : List AC) (j : Nat → Value) : St := ⟨[], ztBa2, mkT j [(5, (.e (.one (.dp (.s (C) (n) 1))))), (6, (iI (Int.ofNat n))), (7, (iI (Int.ofNat (i + 1))))] 15 0⟩
theorem p76s (hE : EnvOk E) (V : AccP) (U : List DT) (C : List DT) (C2 : List DT) (un n p i : Nat) (x b lo hi e f g z w : Int) (c ac : Bool) (D : List AC) (h0 : (decide (Int.ofNat i < Int.ofNat n) : Bool) = true) (h1 : (0 : Int) ≤ Int.ofNat i ∧ Int.ofNat i < (↑n : Int)) (h2 : ((Int.ofNat i).toNat * nat_lit 1 : Nat) = i) (h3 : (getL C i : Option DT) = (.some (.v (.int .i64 z)))) (h4 : (z != (0 : Int) : Bool) = false) (h5 : ((iI (wrapF IntKind.i64 (Int.ofNat i + (1 : Int)))) : AV) = (iI (Int.ofNat (i + 1)))) : Sg 0 0 (q76 V U C C2 un n p i x b lo hi e f g z w c ac D) (p76s_end V U C C2 un n p i x b lo hi e f g z w c ac D) := fun ho j =>
 oS hE [.run 3, (.cond true), .run 4, (.ops [(1, (.d (.ld (.v (.int .i64 z))))), (0, (.d (.ix (i))))] []), .run 2, (.cond false), .run 2, (.ops [(0, (.rn (iI (Int.ofNat (i + 1)))))] []), .run 1] [5, 6, 7] (aP h0 <| aP h1 <| aP h2 <| aP h3 <| aP h4 <| aP h5 <| aZ)
  ho
def p76e_end (_V : AccP) (_U : List DT) (_C : List DT) (_C2 : List DT) (_un _n _p _i : Nat) (_x _b _lo _hi _e _f _g z _w : Int) (_c _ac : Bool) (_D : List AC) (j : Nat → Value) : St := ⟨[], [(.code .ret), (.inBlock 1), (.code (atC [1, 0, 1, 0, 0, 1, 1, 1] (bodyOf Tryz.f53))), (.inLoop (atC [1, 0, 1, 0, 0] (bodyOf Tryz.f53))), (.inBlock 0), (.code (atC [1, 1] (bodyOf Tryz.f53)))], mkT j [(2, (iI (z)))] 15 0⟩
theorem p76e (hE : EnvOk E) (V : AccP) (U : List DT) (C : List DT) (C2 : List DT) (un n p i : Nat) (x b lo hi e f g z w : Int) (c ac : Bool) (D : List AC) (h0 : (decide (Int.ofNat i < Int.ofNat n) : Bool) = true) (h1 : (0 : Int) ≤ Int.ofNat i ∧ Int.ofNat i < (↑n : Int)) (h2 : ((Int.ofNat i).toNat * nat_lit 1 : Nat) = i) (h3 : (getL C i : Option DT) = (.some (.v (.int .i64 z)))) (h4 : (z != (0 : Int) : Bool) = true) : Sg 0 0 (q76 V U C C2 un n p i x b lo hi e f g z w c ac D) (p76e_end V U C C2 un n p i x b lo hi e f g z w c ac D) := fun ho j =>
 oS hE [.run 3, (.cond true), .run 4, (.ops [(1, (.d (.ld (.v (.int .i64 z))))), (0, (.d (.ix (i))))] []), .run 2, (.cond true), .run 2] [2] (aP h0 <| aP h1 <| aP h2 <| aP h3 <| aP h4 <| aZ)
  ho
def p76x_end (_V : AccP) (_U : List DT) (_C : List DT) (_C2 : List DT) (_un _n _p _i : Nat) (_x _b _lo _hi _e _f _g _z _w : Int) (_c _ac : Bool) (_D : List AC) (j : Nat → Value) : St := ⟨[], [(.code .ret)], mkT j [(2, (iI 0))] 15 0⟩
theorem p76x (hE : EnvOk E) (V : AccP) (U : List DT) (C : List DT) (C2 : List DT) (un n p i : Nat) (x b lo hi e f g z w : Int) (c ac : Bool) (D : List AC) (h0 : (decide (Int.ofNat i < Int.ofNat n) : Bool) = false) : Sg 0 0 (q76 V U C C2 un n p i x b lo hi e f g z w c ac D) (p76x_end V U C C2 un n p i x b lo hi e f g z w c ac D) := fun ho j =>
 oS hE [.run 3, (.cond false), .run 3] [2] (aP h0 <| aZ)
  ho
def p82s_end (_V : AccP) (_U : List DT) (C : List DT) (_C2 : List DT) (_un n _p i : Nat) (_x _b _lo _hi _e _f _g _z _w : Int) (_c _ac : Bool) (_D : List AC) (j : Nat → Value) : St := ⟨[], ztBa3, mkT j [(0, (.e (.one (.dp (.s (C) (n) 1))))), (3, (iI (Int.ofNat (i + 1))))] 19 0⟩
theorem p82s (hE : EnvOk E) (V : AccP) (U : List DT) (C : List DT) (C2 : List DT) (un n p i : Nat) (x b lo hi e f g z w : Int) (c ac : Bool) (D : List AC) (h0 : (decide (Int.ofNat i < (↑n : Int)) : Bool) = true) (h1 : (0 : Int) ≤ Int.ofNat i ∧ Int.ofNat i < (↑n : Int)) (h2 : ((Int.ofNat i).toNat * nat_lit 1 : Nat) = i) (h3 : (getL C i : Option DT) = (.some (.v (.int .i64 z)))) (h4 : (z != (0 : Int) : Bool) = false) (h5 : ((iI (wrapF IntKind.i64 (Int.ofNat i + (1 : Int)))) : AV) = (iI (Int.ofNat (i + 1)))) : Sg 0 0 (q82 V U C C2 un n p i x b lo hi e f g z w c ac D) (p82s_end V U C C2 un n p i x b lo hi e f g z w c ac D) := fun ho j =>
 oS hE [.run 2, (.ops [(2, (.d .len))] []), (.cond true), .run 4, (.ops [(3, (.d (.ld (.v (.int .i64 z))))), (2, (.d (.ix (i))))] []), (.cond false), .run 2, (.ops [(1, (.rn (iI (Int.ofNat (i + 1)))))] []), .run 1] [0, 3] (aP h0 <| aP h1 <| aP h2 <| aP h3 <| aP h4 <| aP h5 <| aZ)
  ho
def p82e_end (_V : AccP) (_U : List DT) (_C : List DT) (_C2 : List DT) (_un _n _p _i : Nat) (_x _b _lo _hi _e _f _g z _w : Int) (_c _ac : Bool) (_D : List AC) (j : Nat → Value) : St := ⟨[], [(.code .ret), (.inBlock 1), (.code (atC [1, 0, 1, 0, 0, 1, 1] (bodyOf Tryz.f36))), (.inLoop (atC [1, 0, 1, 0, 0] (bodyOf Tryz.f36))), (.inBlock 0), (.code (atC [1, 1] (bodyOf Tryz.f36)))], mkT j [(2, (iI (z)))] 19 0⟩
theorem p82e (hE : EnvOk E) (V : AccP) (U : List DT) (C : List DT) (C2 : List DT) (un n p i : Nat) (x b lo hi e f g z w : Int) (c ac : Bool) (D : List AC) (h0 : (decide (Int.ofNat i < (↑n : Int)) : Bool) = true) (h1 : (0 : Int) ≤ Int.ofNat i ∧ Int.ofNat i < (↑n : Int)) (h2 : ((Int.ofNat i).toNat * nat_lit 1 : Nat) = i) (h3 : (getL C i : Option DT) = (.some (.v (.int .i64 z)))) (h4 : (z != (0 : Int) : Bool) = true) (h5 : (0 : Int) ≤ Int.ofNat i ∧ Int.ofNat i < (↑n : Int)) (h6 : ((Int.ofNat i).toNat * nat_lit 1 : Nat) = i) (h7 : (getL C i : Option DT) = (.some (.v (.int .i64 z)))) : Sg 0 0 (q82 V U C C2 un n p i x b lo hi e f g z w c ac D) (p82e_end V U C C2 un n p i x b lo hi e f g z w c ac D) := fun ho j =>
 oS hE [.run 2, (.ops [(2, (.d .len))] []), (.cond true), .run 4, (.ops [(3, (.d (.ld (.v (.int .i64 z))))), (2, (.d (.ix (i))))] []), (.cond true), .run 1, (.ops [(3, (.d (.ld (.v (.int .i64 z))))), (2, (.d (.ix (i))))] [])] [2] (aP h0 <| aP h1 <| aP h2 <| aP h3 <| aP h4 <| aP h5 <| aP h6 <| aP h7 <| aZ)
  ho
def p82x_end (_V : AccP) (_U : List DT) (_C : List DT) (_C2 : List DT) (_un _n _p _i : Nat) (_x _b _lo _hi _e _f _g _z _w : Int) (_c _ac : Bool) (_D : List AC) (j : Nat → Value) : St := ⟨[], [(.code .ret)], mkT j [(2, (iI 0))] 19 0⟩
theorem p82x (hE : EnvOk E) (V : AccP) (U : List DT) (C : List DT) (C2 : List DT) (un n p i : Nat) (x b lo hi e f g z w : Int) (c ac : Bool) (D : List AC) (h0 : (decide (Int.ofNat i < (↑n : Int)) : Bool) = false) : Sg 0 0 (q82 V U C C2 un n p i x b lo hi e f g z w c ac D) (p82x_end V U C C2 un n p i x b lo hi e f g z w c ac D) := fun ho j =>
 oS hE [.run 2, (.ops [(2, (.d .len))] []), (.cond false), .run 3] [2] (aP h0 <| aZ)
  ho
def p137s_end (V : AccP) (U : List DT) (C : List DT) (_C2 : List DT) (un n _p i : Nat) (_x _b _lo _hi _e _f _g z _w : Int) (_c ac : Bool) (_D : List AC) (j : Nat → Value) : St := ⟨[(zBk (zAc V ac U un) 22 44), (zBk [.v (.int .i64 z)] 1 3), (zBk [(.clo 115 [] [(.one (.ptr 1 0))])] 1 129)], ztBa1, mkT j [(1, (.e (.one (.clo 89 [] [(.one (.ptr 2 0))])))), (8, (.e (.one (.dp (.s (C) (n) 1))))), (9, (iI (Int.ofNat n))), (10, (iI (Int.ofNat (i + 1))))] 21 0⟩
theorem p137s (hE : EnvOk E) (V : AccP) (U : List DT) (C : List DT) (C2 : List DT) (un n p i : Nat) (x b lo hi e f g z w : Int) (c ac : Bool) (D : List AC) (h0 : (decide (Int.ofNat i < Int.ofNat n) : Bool) = true) (h1 : (0 : Int) ≤ Int.ofNat i ∧ Int.ofNat i < (↑n : Int)) (h2 : ((Int.ofNat i).toNat * nat_lit 1 : Nat) = i) (h3 : (getL C i : Option DT) = (.some (.v (.int .i64 z)))) (h4 : COut E 0 [(zBk (zAc V ac U un) 22 44), (zBk [.v (.int .i64 b)] 1 3), (zBk [(.clo 115 [] [(.one (.ptr 1 0))])] 1 129)] 89 [(iI (z)), (.e (.one (.ptr 2 0)))] (iI (e)) [(zBk (zAc V ac U un) 22 44), (zBk [.v (.int .i64 z)] 1 3), (zBk [(.clo 115 [] [(.one (.ptr 1 0))])] 1 129)]) (h5 : (e != (0 : Int) : Bool) = false) (h6 : ((iI (wrapF IntKind.i64 (Int.ofNat i + (1 : Int)))) : AV) = (iI (Int.ofNat (i + 1)))) : Sg 0 3 (q137 V U C C2 un n p i x b lo hi e f g z w c ac D) (p137s_end V U C C2 un n p i x b lo hi e f g z w c ac D) := fun ho j =>
 oS hE [.run 3, (.cond true), .run 4, (.ops [(1, (.d (.ld (.v (.int .i64 z))))), (0, (.d (.ix (i))))] []), .run 1, (.ops [(2, (.cw (iI (e)) [(zBk (zAc V ac U un) 22 44), (zBk [.v (.int .i64 z)] 1 3), (zBk [(.clo 115 [] [(.one (.ptr 1 0))])] 1 129)]))] []), .run 2, (.cond false), .run 2, (.ops [(0, (.rn (iI (Int.ofNat (i + 1)))))] []), .run 1] [1, 8, 9, 10] (aP h0 <| aP h1 <| aP h2 <| aP h3 <| aP h4 <| aP h5 <| aP h6 <| aZ)
  ho
def p137e_end (V : AccP) (U : List DT) (_C : List DT) (_C2 : List DT) (un _n _p _i : Nat) (_x _b _lo _hi e _f _g z _w : Int) (_c ac : Bool) (_D : List AC) (j : Nat → Value) : St := ⟨[(zBk (zAc V ac U un) 22 44), (zBk [.v (.int .i64 z)] 1 3), (zBk [(.clo 115 [] [(.one (.ptr 1 0))])] 1 129)], [(.code .ret), (.inBlock 1), (.code (atC [1, 0, 1, 0, 0, 1, 1, 1] (bodyOf Tryz.f116))), (.inLoop (atC [1, 0, 1, 0, 0] (bodyOf Tryz.f116))), (.inBlock 0), (.code (atC [1, 1] (bodyOf Tryz.f116)))], mkT j [(4, (iI (e)))] 21 0⟩
theorem p137e (hE : EnvOk E) (V : AccP) (U : List DT) (C : List DT) (C2 : List DT) (un n p i : Nat) (x b lo hi e f g z w : Int) (c ac : Bool) (D : List AC) (h0 : (decide (Int.ofNat i < Int.ofNat n) : Bool) = true) (h1 : (0 : Int) ≤ Int.ofNat i ∧ Int.ofNat i < (↑n : Int)) (h2 : ((Int.ofNat i).toNat * nat_lit 1 : Nat) = i) (h3 : (getL C i : Option DT) = (.some (.v (.int .i64 z)))) (h4 : COut E 0 [(zBk (zAc V ac U un) 22 44), (zBk [.v (.int .i64 b)] 1 3), (zBk [(.clo 115 [] [(.one (.ptr 1 0))])] 1 129)] 89 [(iI (z)), (.e (.one (.ptr 2 0)))] (iI (e)) [(zBk (zAc V ac U un) 22 44), (zBk [.v (.int .i64 z)] 1 3), (zBk [(.clo 115 [] [(.one (.ptr 1 0))])] 1 129)]) (h5 : (e != (0 : Int) : Bool) = true) : Sg 0 3 (q137 V U C C2 un n p i x b lo hi e f g z w c ac D) (p137e_end V U C C2 un n p i x b lo hi e f g z w c ac D) := fun ho j =>
 oS hE [.run 3, (.cond true), .run 4, (.ops [(1, (.d (.ld (.v (.int .i64 z))))), (0, (.d (.ix (i))))] []), .run 1, (.ops [(2, (.cw (iI (e)) [(zBk (zAc V ac U un) 22 44), (zBk [.v (.int .i64 z)] 1 3), (zBk [(.clo 115 [] [(.one (.ptr 1 0))])] 1 129)]))] []), .run 2, (.cond true), .run 2] [4] (aP h0 <| aP h1 <| aP h2 <| aP h3 <| aP h4 <| aP h5 <| aZ)
  ho
def p137x_end (V : AccP) (U : List DT) (_C : List DT) (_C2 : List DT) (un _n _p _i : Nat) (_x b _lo _hi _e _f _g _z _w : Int) (_c ac : Bool) (_D : List AC) (j : Nat → Value) : St := ⟨[(zBk (zAc V ac U un) 22 44), (zBk [.v (.int .i64 b)] 1 3), (zBk [(.clo 115 [] [(.one (.ptr 1 0))])] 1 129)], [(.code .ret)], mkT j [(4, (iI 0))] 21 0⟩
theorem p137x (hE : EnvOk E) (V : AccP) (U : List DT) (C : List DT) (C2 : List DT) (un n p i : Nat) (x b lo hi e f g z w : Int) (c ac : Bool) (D : List AC) (h0 : (decide (Int.ofNat i < Int.ofNat n) : Bool) = false) : Sg 0 3 (q137 V U C C2 un n p i x b lo hi e f g z w c ac D) (p137x_end V U C C2 un n p i x b lo hi e f g z w c ac D) := fun ho j =>
 oS hE [.run 3, (.cond false), .run 3] [4] (aP h0 <| aZ)
  ho
theorem K78 (hE : EnvOk E) (c : Bool) (e : Int) : COut E 0 [] 61 [iB c, iI e] (iI (if c = true then e else 0)) [] := by
 cases c with
 | true => exact cOut_start Tryz.func61 rfl (p78t hE vZ [] [] [] 0 0 0 0 0 0 0 0 (e) 0 0 0 0 (true) false [] rfl (fun j => outK_ret (ends_ret (by kernel_rfl))) fun _ => undef)
 | false => exact cOut_start Tryz.func61 rfl (p78f hE vZ [] [] [] 0 0 0 0 0 0 0 0 (e) 0 0 0 0 (false) false [] rfl (fun j => outK_ret (ends_ret (by kernel_rfl))) fun _ => undef)
theorem K83 (hE : EnvOk E) (c : Bool) (e : Int) : COut E 0 [] 38 [iB c, iI e] (iI (if c = true then e else 0)) [] := by
 cases c with
 | true => exact cOut_start Tryz.func38 rfl (p83t hE vZ [] [] [] 0 0 0 0 0 0 0 0 (e) 0 0 0 0 (true) false [] rfl (fun j => outK_ret (ends_ret (by kernel_rfl))) fun _ => undef)
 | false => exact cOut_start Tryz.func38 rfl (p83f hE vZ [] [] [] 0 0 0 0 0 0 0 0 (e) 0 0 0 0 (false) false [] rfl (fun j => outK_ret (ends_ret (by kernel_rfl))) fun _ => undef)
def rngI (a b z : Int) : Int := if z < a ∨ b < z then 3 else 0
theorem K77 (hE : EnvOk E) (z a b : Int) : COut E 0 [] 63 [iI z, iI a, iI b] (iI (rngI a b z)) [] := by
 by_cases h : z < a
 ·have e : rngI a b z = 3 := by simp [rngI, h]
  rw [e]
  exact cOut_start Tryz.func63 rfl (p77a hE vZ [] [] [] 0 0 0 0 (z) 0 (a) (b) (3) 0 0 0 0 false false [] (by simp [h]) (by simp [h]) (by simp [h]) (decide_eq_true (by (try simp only [Int.ofNat_eq_natCast]); omega)) (K78 hE true 3) (fun j => outK_ret (ends_ret (by kernel_rfl))) fun _ => undef)
 ·have e : rngI a b z = (if decide (z > b) = true then 3 else 0) := by simp [rngI, h]
  rw [e]
  exact cOut_start Tryz.func63 rfl (p77b hE vZ [] [] [] 0 0 0 0 (z) 0 (a) (b) (if decide (z > b) = true then 3 else 0) 0 0 0 0 false false [] (by rw [decide_eq_false (by omega)]; rfl) (by rw [decide_eq_false (by omega)]; rfl) (by rw [decide_eq_false (by omega)]; rfl) (decide_eq_false (by (try simp only [Int.ofNat_eq_natCast]); omega)) (K78 hE _ 3) (fun j => outK_ret (ends_ret (by kernel_rfl))) fun _ => undef)
theorem K17 (hE : EnvOk E) (z a b : Int) : COut E 0 [] 37 [iI z, iI a, iI b] (iI (rngI a b z)) [] := by
 by_cases h : z < a
 ·have e : rngI a b z = 3 := by simp [rngI, h]
  rw [e]
  exact cOut_start Tryz.func37 rfl (p17a hE vZ [] [] [] 0 0 0 0 (z) 0 (a) (b) (3) 0 0 0 0 false false [] (by simp [h]) (by simp [h]) (by simp [h]) (decide_eq_true (by (try simp only [Int.ofNat_eq_natCast]); omega)) (K83 hE true 3) (fun j => outK_ret (ends_ret (by kernel_rfl))) fun _ => undef)
 ·have e : rngI a b z = (if decide (z > b) = true then 3 else 0) := by simp [rngI, h]
  rw [e]
  exact cOut_start Tryz.func37 rfl (p17b hE vZ [] [] [] 0 0 0 0 (z) 0 (a) (b) (if decide (z > b) = true then 3 else 0) 0 0 0 0 false false [] (by rw [decide_eq_false (by omega)]; rfl) (by rw [decide_eq_false (by omega)]; rfl) (by rw [decide_eq_false (by omega)]; rfl) (decide_eq_false (by (try simp only [Int.ofNat_eq_natCast]); omega)) (K83 hE _ 3) (fun j => outK_ret (ends_ret (by kernel_rfl))) fun _ => undef)
def num (z : Int) : Int := rngI 1 999999999 z
theorem K88 (hE : EnvOk E) (z : Int) : COut E 0 [] 85 [iI z] (iI (num z)) [] :=
 cOut_start Tryz.func85 rfl (p88 hE vZ [] [] [] 0 0 0 0 (z) 0 0 0 (num z) 0 0 0 0 false false [] (K77 hE z 1 999999999) (fun j => outK_ret (ends_ret (by kernel_rfl))) fun _ => undef)
theorem K84 (hE : EnvOk E) (z : Int) : COut E 0 [] 39 [iI z] (iI (num z)) [] :=
 cOut_start Tryz.func39 rfl (p84 hE vZ [] [] [] 0 0 0 0 (z) 0 0 0 (num z) 0 0 0 0 false false [] (K17 hE z 1 999999999) (fun j => outK_ret (ends_ret (by kernel_rfl))) fun _ => undef)
def firstI : List Int → Int
 | [] => 0
 | x :: r => if x = 0 then firstI r else x
theorem l76 (hE : EnvOk E) (xs : List Int) (n : Nat) (hn : xs.length = n) (hm : n ≤ 4000000) : ∀ m i, m + i = n → ∀ j, OutK E 0 0 (q76 vZ [] (iD xs) [] 0 (n) 0 (i) 0 0 0 0 0 0 0 0 0 false false [] j) (Go.Ev.Ends E Tryz.f53 (iI (firstI (xs.drop i))) [])
 | 0, i, hk, j => by
  rw [List.drop_eq_nil_of_le (by omega)]
  exact p76x hE vZ [] (iD xs) [] 0 (n) 0 (i) 0 0 0 0 0 0 0 0 0 false false [] (decide_eq_false (by (try simp only [Int.ofNat_eq_natCast]); omega)) (fun j => outK_ret (ends_ret (by kernel_rfl))) j
 | m + 1, i, hk, j => by
  have hlt : i < xs.length := by omega
  have hx : xs[i]? = some xs[i] := List.getElem?_eq_getElem hlt
  rw [List.drop_eq_getElem_cons hlt]
  generalize xs[i] = z at hx
  have hu : firstI (z :: xs.drop (i + 1)) = if z = 0 then firstI (xs.drop (i + 1)) else z := rfl
  rw [hu]
  by_cases hz : z = 0
  ·rw [if_pos hz]
   exact p76s hE vZ [] (iD xs) [] 0 (n) 0 (i) 0 0 0 0 0 0 0 (z) 0 false false [] (decide_eq_true (by (try simp only [Int.ofNat_eq_natCast]); omega)) ⟨by (try simp only [Int.ofNat_eq_natCast]); omega, by (try simp only [Int.ofNat_eq_natCast]); omega⟩ (Nat.mul_one _) (getI hx) (by rw [hz]; rfl) (iIe (by (try simp only [Int.ofNat_eq_natCast]); rw [wrap_id (by omega) (by omega)]; try omega)) (l76 hE xs n hn hm m (i + 1) (by omega)) j
  ·rw [if_neg hz]
   exact p76e hE vZ [] (iD xs) [] 0 (n) 0 (i) 0 0 0 0 0 0 0 (z) 0 false false [] (decide_eq_true (by (try simp only [Int.ofNat_eq_natCast]); omega)) ⟨by (try simp only [Int.ofNat_eq_natCast]); omega, by (try simp only [Int.ofNat_eq_natCast]); omega⟩ (Nat.mul_one _) (getI hx) (bne_iff_ne.2 hz) (fun j => outK_ret (ends_ret (by kernel_rfl))) j
theorem K76 (hE : EnvOk E) (xs : List Int) (hm : xs.length ≤ 4000000) : COut E 0 [] 53 [dI xs] (iI (firstI xs)) [] :=
 cOut_start Tryz.func53 rfl (p76a hE vZ [] (iD xs) [] 0 (xs.length) 0 0 0 0 0 0 0 0 0 0 0 false false [] (l76 hE xs _ rfl hm xs.length 0 rfl) fun _ => undef)
theorem l82 (hE : EnvOk E) (xs : List Int) (n : Nat) (hn : xs.length = n) (hm : n ≤ 4000000) : ∀ m i, m + i = n → ∀ j, OutK E 0 0 (q82 vZ [] (iD xs) [] 0 (n) 0 (i) 0 0 0 0 0 0 0 0 0 false false [] j) (Go.Ev.Ends E Tryz.f36 (iI (firstI (xs.drop i))) [])
 | 0, i, hk, j => by
  rw [List.drop_eq_nil_of_le (by omega)]
  exact p82x hE vZ [] (iD xs) [] 0 (n) 0 (i) 0 0 0 0 0 0 0 0 0 false false [] (decide_eq_false (by (try simp only [Int.ofNat_eq_natCast]); omega)) (fun j => outK_ret (ends_ret (by kernel_rfl))) j
 | m + 1, i, hk, j => by
  have hlt : i < xs.length := by omega
  have hx : xs[i]? = some xs[i] := List.getElem?_eq_getElem hlt
  rw [List.drop_eq_getElem_cons hlt]
  generalize xs[i] = z at hx
  have hu : firstI (z :: xs.drop (i + 1)) = if z = 0 then firstI (xs.drop (i + 1)) else z := rfl
  rw [hu]
  by_cases hz : z = 0
  ·rw [if_pos hz]
   exact p82s hE vZ [] (iD xs) [] 0 (n) 0 (i) 0 0 0 0 0 0 0 (z) 0 false false [] (decide_eq_true (by (try simp only [Int.ofNat_eq_natCast]); omega)) ⟨by (try simp only [Int.ofNat_eq_natCast]); omega, by (try simp only [Int.ofNat_eq_natCast]); omega⟩ (Nat.mul_one _) (getI hx) (by rw [hz]; rfl) (iIe (by (try simp only [Int.ofNat_eq_natCast]); rw [wrap_id (by omega) (by omega)]; try omega)) (l82 hE xs n hn hm m (i + 1) (by omega)) j
  ·rw [if_neg hz]
   exact p82e hE vZ [] (iD xs) [] 0 (n) 0 (i) 0 0 0 0 0 0 0 (z) 0 false false [] (decide_eq_true (by (try simp only [Int.ofNat_eq_natCast]); omega)) ⟨by (try simp only [Int.ofNat_eq_natCast]); omega, by (try simp only [Int.ofNat_eq_natCast]); omega⟩ (Nat.mul_one _) (getI hx) (bne_iff_ne.2 hz) ⟨by (try simp only [Int.ofNat_eq_natCast]); omega, by (try simp only [Int.ofNat_eq_natCast]); omega⟩ (Nat.mul_one _) (getI hx) (fun j => outK_ret (ends_ret (by kernel_rfl))) j
theorem K82 (hE : EnvOk E) (xs : List Int) (hm : xs.length ≤ 4000000) : COut E 0 [] 36 [dI xs] (iI (firstI xs)) [] :=
 cOut_start Tryz.func36 rfl (p82a hE vZ [] (iD xs) [] 0 (xs.length) 0 0 0 0 0 0 0 0 0 0 0 false false [] (l82 hE xs _ rfl hm xs.length 0 rfl) fun _ => undef)
def HB (V : AccP) (U : List DT) (un : Nat) (ac : Bool) (b : Int) : Heap := [bK (zAc V ac U un) 22 44, bK [.v (.int .i64 b)] 1 3, bK [.clo 115 [] [.one (.ptr 1 0)]] 1 129]
theorem K136 (hE : EnvOk E) (V : AccP) (U : List DT) (un : Nat) (ac : Bool) (x b : Int) : COut E 0 (HB V U un ac b) 115 [iI x, .e (.one (.ptr 1 0))] (iI (if x ≤ b then 11 else 0)) (HB V U un ac x) := by
 have k := K78 hE (decide (x ≤ b)) 11
 rw [show (if decide (x ≤ b) = true then (11 : Int) else 0) = if x ≤ b then 11 else 0 by simp] at k
 exact cOut_start Tryz.func115 rfl (p136 hE (V) (U) [] [] (un) 0 0 0 (x) (b) 0 0 (if x ≤ b then 11 else 0) 0 0 0 0 false (ac) [] k (fun j => outK_ret (ends_ret (by kernel_rfl))) fun _ => undef)
def rise1 (b x : Int) : Int := firstI [num x, if x ≤ b then 11 else 0]
theorem K87 (hE : EnvOk E) (V : AccP) (U : List DT) (un : Nat) (ac : Bool) (x b : Int) : COut E 0 (HB V U un ac b) 89 [iI x, .e (.one (.ptr 2 0))] (iI (rise1 b x)) (HB V U un ac x) :=
 cOut_start Tryz.func89 rfl (p87 hE (V) (U) [] [] (un) 0 0 0 (x) (b) 0 0 (rise1 b x) (num x) (if x ≤ b then 11 else 0) 0 0 false (ac) [] (K88 hE x) (K136 hE V U un ac x b) (lend2 4 hE 53 [num x, if x ≤ b then 11 else 0] _ 36 true (K76 hE _ (by simp)) _ 3 rfl) (fun j => outK_ret (ends_ret (by kernel_rfl))) fun _ => undef)
def riseE : Int → List Int → Int
 | _, [] => 0
 | b, z :: l => if rise1 b z = 0 then riseE z l else rise1 b z
def riseB : Int → List Int → Int
 | b, [] => b
 | b, z :: l => if rise1 b z = 0 then riseB z l else z
theorem l137 (hE : EnvOk E) (V : AccP) (U : List DT) (un : Nat) (ac : Bool) (xs : List Int) (n : Nat) (hn : xs.length = n) (hm : n ≤ 4000000) : ∀ m i b, m + i = n → ∀ j, OutK E 0 3 (q137 (V) (U) (iD xs) [] (un) (n) 0 (i) 0 (b) 0 0 0 0 0 0 0 false (ac) [] j) (Go.Ev.Ends E Tryz.f116 (iI (riseE b (xs.drop i))) (HB V U un ac (riseB b (xs.drop i))))
 | 0, i, b, hk, j => by
  rw [List.drop_eq_nil_of_le (by omega)]
  exact p137x hE (V) (U) (iD xs) [] (un) (n) 0 (i) 0 (b) 0 0 0 0 0 0 0 false (ac) [] (decide_eq_false (by (try simp only [Int.ofNat_eq_natCast]); omega)) (fun j => outK_ret (ends_ret (by kernel_rfl))) j
 | m + 1, i, b, hk, j => by
  have hlt : i < xs.length := by omega
  have hx : xs[i]? = some xs[i] := List.getElem?_eq_getElem hlt
  rw [List.drop_eq_getElem_cons hlt]
  generalize xs[i] = z at hx
  have h1 : riseE b (z :: xs.drop (i + 1)) = if rise1 b z = 0 then riseE z (xs.drop (i + 1)) else rise1 b z := rfl
  have h2 : riseB b (z :: xs.drop (i + 1)) = if rise1 b z = 0 then riseB z (xs.drop (i + 1)) else z := rfl
  rw [h1, h2]
  by_cases hz : rise1 b z = 0
  ·rw [if_pos hz, if_pos hz]
   exact p137s hE (V) (U) (iD xs) [] (un) (n) 0 (i) 0 (b) 0 0 (rise1 b z) 0 0 (z) 0 false (ac) [] (decide_eq_true (by (try simp only [Int.ofNat_eq_natCast]); omega)) ⟨by (try simp only [Int.ofNat_eq_natCast]); omega, by (try simp only [Int.ofNat_eq_natCast]); omega⟩ (Nat.mul_one _) (getI hx) (K87 hE V U un ac z b) (by rw [hz]; rfl) (iIe (by (try simp only [Int.ofNat_eq_natCast]); rw [wrap_id (by omega) (by omega)]; try omega)) (l137 hE V U un ac xs n hn hm m (i + 1) z (by omega)) j
  ·rw [if_neg hz, if_neg hz]
   exact p137e hE (V) (U) (iD xs) [] (un) (n) 0 (i) 0 (b) 0 0 (rise1 b z) 0 0 (z) 0 false (ac) [] (decide_eq_true (by (try simp only [Int.ofNat_eq_natCast]); omega)) ⟨by (try simp only [Int.ofNat_eq_natCast]); omega, by (try simp only [Int.ofNat_eq_natCast]); omega⟩ (Nat.mul_one _) (getI hx) (K87 hE V U un ac z b) (bne_iff_ne.2 hz) (fun j => outK_ret (ends_ret (by kernel_rfl))) j
theorem K137 (hE : EnvOk E) (V : AccP) (U : List DT) (un : Nat) (ac : Bool) (xs : List Int) (n : Nat) (hn : xs.length = n) (hm : n ≤ 4000000) (b : Int) : COut E 0 (HB V U un ac b) 116 [.e (.one (.dp (.s (iD xs) n 1))), (.e (.one (.clo 89 [] [.one (.ptr 2 0)])))] (iI (riseE b xs)) (HB V U un ac (riseB b xs)) :=
 cOut_start Tryz.func116 rfl (p137a hE (V) (U) (iD xs) [] (un) (n) 0 0 0 (b) 0 0 0 0 0 0 0 false (ac) []  (l137 hE V U un ac xs n hn hm n 0 b rfl) fun _ => undef)
theorem K86 (hE : EnvOk E) (V : AccP) (U : List DT) (un : Nat) (ac : Bool) (xs : List Int) (n : Nat) (hn : xs.length = n) (hm : n ≤ 4000000) (b : Int) : COut E 0 (HB V U un ac b) 88 [.e (.one (.dp (.s (iD xs) n 1))), iI 256, (.e (.one (.clo 89 [] [.one (.ptr 2 0)])))] (iI (if 256 < n then 5 else riseE b xs)) (HB V U un ac (if 256 < n then b else riseB b xs)) := by
 by_cases h : 256 < n
 ·rw [if_pos h, if_pos h]
  exact cOut_start Tryz.func88 rfl (p86m hE (V) (U) (iD xs) [] (un) (n) 0 0 0 (b) (256) 0 0 0 0 0 0 false (ac) [] (decide_eq_true (by (try simp only [Int.ofNat_eq_natCast]); omega)) (fun j => outK_ret (ends_ret (by kernel_rfl))) fun _ => undef)
 ·rw [if_neg h, if_neg h]
  exact cOut_start Tryz.func88 rfl (p86 hE (V) (U) (iD xs) [] (un) (n) 0 0 0 (b) (256) 0 (riseE b xs) 0 0 (riseB b xs) 0 false (ac) [] (decide_eq_false (by (try simp only [Int.ofNat_eq_natCast]); omega)) (K137 hE V U un ac xs n hn hm b) (fun j => outK_ret (ends_ret (by kernel_rfl))) fun _ => undef)
end
end Go.Proofs.YtneaafigbnjceaaGreatDoor.Bk
end

/-! SeEqB -/
section
open Go Go.Ev Go.RowKit
open Extern.Stop
namespace Go.Proofs.YtneaafigbnjceaaGreatDoor
noncomputable section
section
variable {P : Program} (w : World)
theorem run_equalIn_cells (d : Nat) (t e : TypeId) (n : Nat) {u : TypeDesc} (hag : isAggD u = false) (ht : P.underlying t = some (.array n e)) (he : P.underlying e = some u) (hsz : ∀ w, (sizeOf e).run P w = .ok 1 w)
  (xs ys : List Value) (hx : xs.length = n) (hy : ys.length = n) (q : Nat → Bool) (hq : ∀ i x y, xs[i]? = some x → ys[i]? = some y → (Op.equalIn (d + 1) e x y).run P w = .ok (q i) w) :
  (Op.equalIn (d + 2) t (.agg xs.toArray) (.agg ys.toArray)).run P w = .ok ((List.range n).all q) w := by
 rw [List.range_eq_range', Op.equalIn]
 simp only [Sem.run_bind, run_underlying ht, Result.andThen_ok, hsz, Std.Legacy.Range.forIn_eq_forIn_range', Std.Legacy.Range.size, Nat.sub_zero, Nat.add_sub_cancel, Nat.div_one]
 have hl : ∀ i ∈ List.range' 0 n 1, i < n := fun i hi => by simpa using (List.mem_range'_1.1 hi).2
 generalize List.range' 0 n 1 = l at hl ⊢
 induction l with
 | nil => simp
 | cons i l ih =>
  have hi : i < n := hl i (by simp)
  have gx : xs[i]? = some xs[i] := List.getElem?_eq_getElem (show i < xs.length by omega)
  have gy : ys[i]? = some ys[i] := List.getElem?_eq_getElem (show i < ys.length by omega)
  have part_one : ∀ (zs : List Value) (z : Value), zs[i]? = some z → (part e zs.toArray (i * 1)).run P w = .ok z w := by
   intro zs z hz
   have : (isAgg e).run P w = .ok false w := by
    simp only [isAgg, Sem.run_bind, run_underlying he, Result.andThen_ok]
    cases u <;> simp_all [isAggD]
   simp [part, this, hz]
  simp only [List.forIn_cons, Sem.run_bind, part_one xs _ gx, part_one ys _ gy, hq i _ _ gx gy, Result.andThen_ok, List.all_cons]
  cases hb : q i
  ·simp
  ·simp only [Bool.not_true, Bool.false_eq_true, if_false, Sem.run_pure, Result.andThen_ok, Bool.true_and]
   exact ih fun j hj => hl j (by simp [hj])
end
theorem some_of {α β : Type} {o : Option α} {f : α → β} {b : β} (h : o.map f = some b) : ∃ a, o = some a ∧ f a = b := by
 cases o with
 | none => simp at h
 | some a => exact ⟨a, rfl, by simpa using h⟩
theorem size1 {e : TypeId} (h : (Tryz.prog.info? e).map (·.size) = some 1) (w : World) : (sizeOf e).run Tryz.prog w = .ok 1 w := by
 obtain ⟨i, hi, hz⟩ := some_of h
 rw [Go.Ev.run_sizeOf hi w, hz]
theorem eqArr {t e n : Nat} {u : TypeDesc} (hag : isAggD u = false) (ht : Tryz.prog.underlying t = some (.array n e)) (he : Tryz.prog.underlying e = some u) (hsz : (Tryz.prog.info? e).map (·.size) = some 1)
  {xs ys : List Value} (hx : xs.length = n) (hy : ys.length = n) (q : Nat → Bool) (hq : ∀ (w : World) i x y, xs[i]? = some x → ys[i]? = some y → (Op.equalIn 9999 e x y).run Tryz.prog w = .ok (q i) w) : EqOk E t (xs.map AC.v) (ys.map AC.v) ((List.range n).all q) := by
 intro m c1 c2 w h1 h2
 have e1 : c1 = xs.toArray := by rw [← Array.toList_inj]; exact cells_of h1
 have e2 : c2 = ys.toArray := by rw [← Array.toList_inj]; exact cells_of h2
 subst e1 e2
 show (Op.equalIn 10000 t _ _).run Tryz.prog w = _
 exact run_equalIn_cells w 9998 t e n hag ht he (size1 hsz) xs ys hx hy q (hq w)
theorem u23_ : Tryz.prog.underlying 23 = some (.array 8 5) := by kernel_rfl
theorem u5_ : Tryz.prog.underlying 5 = some (.int .u8) := by kernel_rfl
def sameK (l l' : List Int) : Bool := (List.range 8).all fun i => (l[i]?.getD 0) == (l'[i]?.getD 0)
theorem eqK (l l' : List Int) (h : l.length = 8) (h' : l'.length = 8) : EqOk E 23 ((l.map (Value.int .u8)).map AC.v) ((l'.map (Value.int .u8)).map AC.v) (sameK l l') :=
 eqArr (t := 23) (e := 5) (n := 8) (u := .int .u8) rfl u23_ u5_ (by kernel_rfl) (by simp [h]) (by simp [h']) (fun i => (l[i]?.getD 0) == (l'[i]?.getD 0)) (fun w i x y hx hy => by
  rw [List.getElem?_map] at hx hy
  cases e1 : l[i]? with
  | none => rw [e1] at hx; simp at hx
  | some a =>
   cases e2 : l'[i]? with
   | none => rw [e2] at hy; simp at hy
   | some b =>
    rw [e1] at hx; rw [e2] at hy
    simp only [Option.map_some, Option.some.injEq] at hx hy
    subst hx hy
    rw [show (9999 : Nat) = 9998 + 1 from rfl]
    exact run_equalIn_int w 9998 5 .u8 .u8 a b u5_)
end
end Go.Proofs.YtneaafigbnjceaaGreatDoor
end

/-! SeCl -/
section
open Go Go.Shelf Go.Ev Go.RowKit Go.Lib Go.Proofs
namespace Go.Proofs.YtneaafigbnjceaaGreatDoor
set_option maxRecDepth 100000
end Go.Proofs.YtneaafigbnjceaaGreatDoor
end
