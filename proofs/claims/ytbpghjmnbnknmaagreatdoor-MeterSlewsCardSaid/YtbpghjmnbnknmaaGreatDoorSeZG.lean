/-
  Part of the proof: SeIw, SeSw, SeEn, SeSt.
-/
import Derived.Test.YtbpghjmnbnknmaaGreatDoorSeZF

/-! SeIw -/
section
open Go Go.Ev
namespace Go.Proofs.YtbpghjmnbnknmaaGreatDoor
noncomputable section
set_option maxRecDepth 100000
set_option maxHeartbeats 20000000
theorem nil_2 {z : AE} {p : Option Addr} {c : Nat} (sz : Nat) (m : M) (y : Value) (h : VR m (.tup [.one (.v (.slice p 0 c)), z]) y) : VR m (.tup [.one (.dp (.s [] 0 sz)), z]) y := by
  obtain ⟨vs, e, hv⟩ := h
  refine ⟨vs, e, ?_⟩
  revert hv
  generalize vs.toList = l
  intro hv
  match l, hv with
  | [a, b], hv => exact ⟨.inl ⟨rfl, p, c, hv.1⟩, hv.2.1, trivial⟩
/-- what Boundaries says of its arguments -/
def eB (s o l v f e w : Int) : Int := firstI [chkC s o l v, chkTk f e, rngI 2 100000 w]
theorem eB0 {s o l v f e w : Int} (h : eB s o l v f e w = 0) : chkC s o l v = 0 ∧ (0 ≤ f ∧ f ≤ e ∧ e ≤ 100000000 ∧ e - f ≤ 4096) ∧ 2 ≤ w ∧ w ≤ 100000 := by
  have := first0 h
  exact ⟨this _ (by simp), chkTk0 (this _ (by simp)), rng0 (this _ (by simp))⟩
theorem k68_3 (hE : EnvOk E) (a b c : Int) (lv : Nat) (h : Heap) (i : Nat) (hh : getL h i = some (some ⟨(iD [a, b, c]).map DT.ac, 3, 32, true, .cells⟩)) : COut E lv h 68 [.e (.one (.slc i 0 3 1 3 true))] (iI (firstI [a, b, c])) h :=
  lend2 lv hE 68 [a, b, c] _ 32 true (K68 hE _ (by simp)) h i hh
/-- the list of Boundaries -/
abbrev bB (s o l v f e w : Int) : List Int := bL s o l v w f (e - f).toNat
theorem takeD (xs : List Int) : takeL (dropL (iD xs) 0) (xs.length * 1) = some (iD xs) := by
  rw [takeL_eq, dropL_eq, List.drop_zero, if_pos (by simp), List.take_of_length_le (by simp)]
theorem K59 (hE : EnvOk E) (s o l v f e w : Int) (h : eB s o l v f e w = 0) : COut E 0 [] 59 [clA s o l v, .e (.agg [.v (.int .i64 f), .v (.int .i64 e)]), iI w] (.tup [.one (.dp (.s (iD (bB s o l v f e w)) (bB s o l v f e w).length 1)), .one (.v (.int .i64 0))]) [] := by
  obtain ⟨hc, ⟨hf, hfe, he, hd⟩, hw, hw2⟩ := eB0 h
  have k := fun i h hh => k68_3 hE (chkC s o l v) (chkTk f e) (rngI 2 100000 w) 3 h i hh
  rw [show firstI _ = 0 from h] at k
  have en : wrapF .i64 (e - f) = Int.ofNat (e - f).toNat := by rw [wrap_id (by omega) (by omega)]; simp only [Int.ofNat_eq_natCast]; omega
  have hl := l59 (e := e) hE hc hf (e - f).toNat (by omega) (by omega) hw hw2 (e - f).toNat 0 (by omega)
  have hc1 : COut E 0 [] 59 [clA s o l v, .e (.agg [.v (.int .i64 f), .v (.int .i64 e)]), iI w] (.tup [resA (bB s o l v f e w), .one (.v (.int .i64 0))]) (resH (bB s o l v f e w)) :=
    cOut_start Tryz.func59 rfl (p59a hE (s) (o) (l) (v) (f) (e) (w) 0 0 0 0 _ _ _ (0) 0 ((e - f).toNat) 0 0 0 0 [] [] (K57 hE s o l v) (K103 hE f e) (K81 hE _ _ _) (k _ _ rfl) rfl (iIe en) hl fun _ => undef)
  generalize bB s o l v f e w = L at hc1 ⊢
  cases L with
  | nil => exact cOut_weak hc1 (nil_2 (p := none) (c := 0) 1)
  | cons x r => exact cOut_clear (cOut_freeze 0 hc1 rfl (Nat.zero_le _) (ds := iD (x :: r)) ⟨.inr ⟨0, r.length + 1, 1, r.length + 1, false, iD (x :: r), rfl, rfl, takeD (x :: r)⟩, .inl rfl, trivial⟩) rfl
end
end Go.Proofs.YtbpghjmnbnknmaaGreatDoor

end

/-! SeSw -/
section
open Go Go.Ev
namespace Go.Proofs.YtbpghjmnbnknmaaGreatDoor
noncomputable section
set_option maxRecDepth 100000
set_option maxHeartbeats 20000000
def s12 (s o l v n0 n1 n2 n3 _a _b _y _z _w _d _t0 _last _cnt _tt _tm _r0 _r1 _r2 _r3 _g _u _h _k _x _x2 _gg _J _r4 : Int) (_i _n : Nat) (_C : List DT) (_j : Nat → Value) : St := startK Tryz.f12 [] [.e (.agg [.v (.int .i64 s), .v (.int .i64 o), .v (.int .i64 l), .v (.int .i64 v)]), .e (.agg [.v (.int .u16 n0), .v (.int .u16 n1), .v (.int .u16 n2), .v (.int .u16 n3)])]
def q12 (_s _o _l _v n0 n1 n2 n3 _a b y z w d t0 last cnt tt _tm _r0 _r1 _r2 _r3 _g _u _h _k _x _x2 _gg _J _r4 : Int) (_i _n : Nat) (_C : List DT) (j : Nat → Value) : St := ⟨[(.some ⟨[(.v (.int .u16 (n0))), (.v (.int .u16 (n1))), (.v (.int .u16 (n2))), (.v (.int .u16 (n3)))], 4, 131, true, .cells⟩), (.some ⟨[(.v (.int .i64 (b))), (.v (.int .i64 (d))), (.v (.int .i64 (y))), (.v (.int .i64 (z)))], 4, 106, true, .cells⟩)], [(.code (atC [1, 1, 1, 1, 1, 1, 1, 1, 1, 1, 0, 1, 0, 0] (bodyOf Tryz.f12))), (.inLoop (atC [1, 1, 1, 1, 1, 1, 1, 1, 1, 1, 0, 1, 0, 0] (bodyOf Tryz.f12))), (.inBlock 0), (.code (atC [1, 1, 1, 1, 1, 1, 1, 1, 1, 1, 1] (bodyOf Tryz.f12)))], mkT j [(3, (.e (.one (.ptr 0 0)))), (5, (iI (b))), (6, (iI (y))), (8, (iI (w))), (9, (.e (.one (.ptr 1 0)))), (11, (iI (t0))), (15, (iI last)), (16, (iI cnt)), (17, (iI tt))] 272 0⟩
def r12 (_s _o _l _v n0 n1 n2 n3 _a b y z w d t0 _last cnt tt tm _r0 _r1 _r2 _r3 _g _u _h k _x _x2 _gg _J _r4 : Int) (_i _n : Nat) (_C : List DT) (j : Nat → Value) : St := ⟨[(.some ⟨[(.v (.int .u16 (n0))), (.v (.int .u16 (n1))), (.v (.int .u16 (n2))), (.v (.int .u16 (n3)))], 4, 131, true, .cells⟩), (.some ⟨[(.v (.int .i64 (b))), (.v (.int .i64 (d))), (.v (.int .i64 (y))), (.v (.int .i64 (z)))], 4, 106, true, .cells⟩)], [(.code (atC [1, 1, 1, 1, 1, 1, 1, 1, 1, 1, 0, 1, 0, 0, 1, 0, 0, 1, 1, 0, 1, 0, 0] (bodyOf Tryz.f12))), (.inLoop (atC [1, 1, 1, 1, 1, 1, 1, 1, 1, 1, 0, 1, 0, 0, 1, 0, 0, 1, 1, 0, 1, 0, 0] (bodyOf Tryz.f12))), (.inBlock 2), (.code (atC [1, 1, 1, 1, 1, 1, 1, 1, 1, 1, 0, 1, 0, 0, 1, 0, 0, 1, 1, 1] (bodyOf Tryz.f12))), (.inBlock 1), (.code (atC [1, 1, 1, 1, 1, 1, 1, 1, 1, 1, 0, 1, 0, 0, 1, 1] (bodyOf Tryz.f12))), (.inLoop (atC [1, 1, 1, 1, 1, 1, 1, 1, 1, 1, 0, 1, 0, 0] (bodyOf Tryz.f12))), (.inBlock 0), (.code (atC [1, 1, 1, 1, 1, 1, 1, 1, 1, 1, 1] (bodyOf Tryz.f12)))], mkT j [(3, (.e (.one (.ptr 0 0)))), (5, (iI (b))), (6, (iI (y))), (8, (iI (w))), (9, (.e (.one (.ptr 1 0)))), (11, (iI (t0))), (16, (iI cnt)), (17, (iI (tt))), (18, (iI (tm))), (20, (iI k))] 272 0⟩
def l12 (_s _o _l _v n0 n1 n2 n3 _a b y z _w d _t0 last _cnt _tt _tm _r0 _r1 _r2 _r3 _g _u _h _k _x _x2 _gg _J _r4 : Int) (i n : Nat) (C : List DT) (j : Nat → Value) : St := ⟨[(.some ⟨[(.v (.int .u16 (n0))), (.v (.int .u16 (n1))), (.v (.int .u16 (n2))), (.v (.int .u16 (n3)))], 4, 131, true, .cells⟩), (.some ⟨[(.v (.int .i64 (b))), (.v (.int .i64 (d))), (.v (.int .i64 (y))), (.v (.int .i64 (z)))], 4, 106, true, .cells⟩)], [(.code (atC [1, 1, 1, 1, 1, 1, 1, 1, 1, 1, 1, 1, 1, 0, 1, 0, 0] (bodyOf Tryz.f12))), (.inLoop (atC [1, 1, 1, 1, 1, 1, 1, 1, 1, 1, 1, 1, 1, 0, 1, 0, 0] (bodyOf Tryz.f12))), (.inBlock 4), (.code (atC [1, 1, 1, 1, 1, 1, 1, 1, 1, 1, 1, 1, 1, 1] (bodyOf Tryz.f12)))], mkT j [(3, (.e (.one (.ptr 0 0)))), (5, (iI (b))), (9, (.e (.one (.ptr 1 0)))), (15, (iI (last))), (21, (.e (.one (.dp (.s (C) (n) 1))))), (181, (.e (.one (.dp (.s (C) (n) 1))))), (182, (iI (Int.ofNat n))), (183, (iI (Int.ofNat i)))] 272 0⟩
def p12T1_end (_s _o _l _v _n0 _n1 _n2 _n3 _a _b _y _z _w _d _t0 _last _cnt _tt _tm _r0 _r1 _r2 _r3 _g _u _h _k _x _x2 _gg _J _r4 : Int) (_i _n : Nat) (_C : List DT) (j : Nat → Value) : St := ⟨[], [(.code .ret), (.code (atC [1, 1] (bodyOf Tryz.f12)))], mkT j [(4, (iB true))] 272 0⟩
theorem p12T1 (hE : EnvOk E) (s o l v n0 n1 n2 n3 a b y z w d t0 last cnt tt tm r0 r1 r2 r3 g u h k x x2 gg J r4 : Int) (i n : Nat) (C : List DT) (h0 : COut E 0 [] 58 [(.e (.agg [(.v (.int .i64 (s))), (.v (.int .i64 (o))), (.v (.int .i64 (l))), (.v (.int .i64 (v)))]))] (iI (g)) []) (h2 : ((g != (0 : Int)) == false : Bool) = (nat_lit 4, false).snd) (h3 : ((g != (0 : Int)) == false : Bool) = (nat_lit 5, false).snd) (h4 : ((g != (0 : Int)) == false : Bool) = (nat_lit 6, false).snd) (h5 : ((g != (0 : Int)) == false : Bool) = (nat_lit 7, false).snd) (h6 : ((g != (0 : Int)) == false : Bool) = (nat_lit 8, false).snd) (h7 : ((g != (0 : Int)) == false : Bool) = (nat_lit 9, false).snd) (h8 : ((g != (0 : Int)) == false : Bool) = (nat_lit 10, false).snd) (h9 : (g != (0 : Int) : Bool) = true) (h10 : COut E 0 [] 14 [] (iB true) []) {Φ : Res → Prop} (ho : ∀ j, OutK E 0 0 (p12T1_end s o l v n0 n1 n2 n3 a b y z w d t0 last cnt tt tm r0 r1 r2 r3 g u h k x x2 gg J r4 i n C j) Φ) (j : Nat → Value) : OutK E 0 0 (s12 s o l v n0 n1 n2 n3 a b y z w d t0 last cnt tt tm r0 r1 r2 r3 g u h k x x2 gg J r4 i n C j) Φ :=
  outK_seg hE (R0_ok hE) [.run 4, (.ops [(1, (.c0 (iI (g)))), (8, (.rn (iI (u)))), (9, (.rn (iI (h)))), (11, (.pk true))] [(4, false), (5, false), (6, false), (7, false), (8, false), (9, false), (10, false)]), .run 2, (.ops [(0, (.c0 (iB true)))] [])] [4] (s' := fun j => ⟨[(.some ⟨[(.v (.int .i64 (s))), (.v (.int .i64 (o))), (.v (.int .i64 (l))), (.v (.int .i64 (v)))], 4, 102, true, .cells⟩), (.some ⟨[(.v (.int .u16 (n0))), (.v (.int .u16 (n1))), (.v (.int .u16 (n2))), (.v (.int .u16 (n3)))], 4, 131, true, .cells⟩)], [(.code .ret), (.code (atC [1, 1] (bodyOf Tryz.f12)))], mkT j [(4, (iB true))] 272 0⟩) (fun j => by kernel_rfl) (aP h0 <| aN <| aP h2 <| aP h3 <| aP h4 <| aP h5 <| aP h6 <| aP h7 <| aP h8 <| aP h9 <| aP h10 <| aN <| aZ)
    fun j => outK_gc [] (by decide) (by kernel_rfl) (by kernel_rfl) (by kernel_rfl) (ho j)
def p12T2_end (_s _o _l _v _n0 _n1 _n2 _n3 _a _b _y _z _w _d _t0 _last _cnt _tt _tm _r0 _r1 _r2 _r3 _g _u _h _k _x _x2 _gg _J _r4 : Int) (_i _n : Nat) (_C : List DT) (j : Nat → Value) : St := ⟨[], [(.code .ret), (.code (atC [1, 1] (bodyOf Tryz.f12)))], mkT j [(4, (iB true))] 272 0⟩
theorem p12T2 (hE : EnvOk E) (s o l v n0 n1 n2 n3 a b y z w d t0 last cnt tt tm r0 r1 r2 r3 g u h k x x2 gg J r4 : Int) (i n : Nat) (C : List DT) (h0 : COut E 0 [] 58 [(.e (.agg [(.v (.int .i64 (s))), (.v (.int .i64 (o))), (.v (.int .i64 (l))), (.v (.int .i64 (v)))]))] (iI (g)) []) (h2 : ((g != (0 : Int)) == false : Bool) = (nat_lit 4, true).snd) (h3 : ((g != (0 : Int)) == false : Bool) = (nat_lit 5, true).snd) (h4 : ((g != (0 : Int)) == false : Bool) = (nat_lit 6, true).snd) (h5 : ((g != (0 : Int)) == false : Bool) = (nat_lit 7, true).snd) (h6 : ((g != (0 : Int)) == false : Bool) = (nat_lit 8, true).snd) (h7 : ((iI (IntKind.i64.wrap ((0 : Int) - o))) : AV) = (iI (u))) (h8 : ((g != (0 : Int)) == false : Bool) = (nat_lit 9, true).snd) (h9 : ((iI (if u > o then u else o)) : AV) = (iI (h))) (h10 : ((g != (0 : Int)) == false : Bool) = (nat_lit 10, true).snd) (h11 : (g != (0 : Int) : Bool) = false) (h12 : (decide (h > (10000 : Int)) == false : Bool) = (nat_lit 13, false).snd) (h13 : (decide (h > (10000 : Int)) == false : Bool) = (nat_lit 14, false).snd) (h14 : (decide (h > (10000 : Int)) == false : Bool) = (nat_lit 15, false).snd) (h15 : (decide (h > (10000 : Int)) : Bool) = true) (h16 : COut E 0 [] 14 [] (iB true) []) {Φ : Res → Prop} (ho : ∀ j, OutK E 0 0 (p12T2_end s o l v n0 n1 n2 n3 a b y z w d t0 last cnt tt tm r0 r1 r2 r3 g u h k x x2 gg J r4 i n C j) Φ) (j : Nat → Value) : OutK E 0 0 (s12 s o l v n0 n1 n2 n3 a b y z w d t0 last cnt tt tm r0 r1 r2 r3 g u h k x x2 gg J r4 i n C j) Φ :=
  outK_seg hE (R0_ok hE) [.run 4, (.ops [(1, (.c0 (iI (g)))), (8, (.rn (iI (u)))), (9, (.rn (iI (h)))), (11, (.pk false)), (16, (.pk true))] [(4, true), (5, true), (6, true), (7, true), (8, true), (9, true), (10, true), (13, false), (14, false), (15, false)]), .run 2, (.ops [(0, (.c0 (iB true)))] [])] [4] (s' := fun j => ⟨[(.some ⟨[(.v (.int .i64 (s))), (.v (.int .i64 (o))), (.v (.int .i64 (l))), (.v (.int .i64 (v)))], 4, 102, true, .cells⟩), (.some ⟨[(.v (.int .u16 (n0))), (.v (.int .u16 (n1))), (.v (.int .u16 (n2))), (.v (.int .u16 (n3)))], 4, 131, true, .cells⟩)], [(.code .ret), (.code (atC [1, 1] (bodyOf Tryz.f12)))], mkT j [(4, (iB true))] 272 0⟩) (fun j => by kernel_rfl) (aP h0 <| aN <| aP h2 <| aP h3 <| aP h4 <| aP h5 <| aP h6 <| aP h7 <| aP h8 <| aP h9 <| aP h10 <| aP h11 <| aP h12 <| aP h13 <| aP h14 <| aP h15 <| aP h16 <| aN <| aZ)
    fun j => outK_gc [] (by decide) (by kernel_rfl) (by kernel_rfl) (by kernel_rfl) (ho j)
def p12T3_end (_s _o _l _v _n0 _n1 _n2 _n3 _a _b _y _z _w _d _t0 _last _cnt _tt _tm _r0 _r1 _r2 _r3 _g _u _h _k _x _x2 _gg _J _r4 : Int) (_i _n : Nat) (_C : List DT) (j : Nat → Value) : St := ⟨[], [(.code .ret), (.code (atC [1, 1] (bodyOf Tryz.f12)))], mkT j [(4, (iB true))] 272 0⟩
theorem p12T3 (hE : EnvOk E) (s o l v n0 n1 n2 n3 a b y z w d t0 last cnt tt tm r0 r1 r2 r3 g u h k x x2 gg J r4 : Int) (i n : Nat) (C : List DT) (h0 : COut E 0 [] 58 [(.e (.agg [(.v (.int .i64 (s))), (.v (.int .i64 (o))), (.v (.int .i64 (l))), (.v (.int .i64 (v)))]))] (iI (g)) []) (h2 : ((g != (0 : Int)) == false : Bool) = (nat_lit 4, true).snd) (h3 : ((g != (0 : Int)) == false : Bool) = (nat_lit 5, true).snd) (h4 : ((g != (0 : Int)) == false : Bool) = (nat_lit 6, true).snd) (h5 : ((g != (0 : Int)) == false : Bool) = (nat_lit 7, true).snd) (h6 : ((g != (0 : Int)) == false : Bool) = (nat_lit 8, true).snd) (h7 : ((iI (IntKind.i64.wrap ((0 : Int) - o))) : AV) = (iI (u))) (h8 : ((g != (0 : Int)) == false : Bool) = (nat_lit 9, true).snd) (h9 : ((iI (if u > o then u else o)) : AV) = (iI (h))) (h10 : ((g != (0 : Int)) == false : Bool) = (nat_lit 10, true).snd) (h11 : (g != (0 : Int) : Bool) = false) (h12 : (decide (h > (10000 : Int)) == false : Bool) = (nat_lit 13, true).snd) (h13 : (decide (h > (10000 : Int)) == false : Bool) = (nat_lit 14, true).snd) (h14 : (decide (h > (10000 : Int)) == false : Bool) = (nat_lit 15, true).snd) (h15 : (decide (h > (10000 : Int)) : Bool) = false) (h16 : (decide (s > (99980000 : Int)) : Bool) = true) (h17 : COut E 0 [] 14 [] (iB true) []) {Φ : Res → Prop} (ho : ∀ j, OutK E 0 0 (p12T3_end s o l v n0 n1 n2 n3 a b y z w d t0 last cnt tt tm r0 r1 r2 r3 g u h k x x2 gg J r4 i n C j) Φ) (j : Nat → Value) : OutK E 0 0 (s12 s o l v n0 n1 n2 n3 a b y z w d t0 last cnt tt tm r0 r1 r2 r3 g u h k x x2 gg J r4 i n C j) Φ :=
  outK_seg hE (R0_ok hE) [.run 4, (.ops [(1, (.c0 (iI (g)))), (8, (.rn (iI (u)))), (9, (.rn (iI (h)))), (11, (.pk false)), (16, (.pk false))] [(4, true), (5, true), (6, true), (7, true), (8, true), (9, true), (10, true), (13, true), (14, true), (15, true)]), (.cond true), .run 1, (.ops [(0, (.c0 (iB true)))] [])] [4] (s' := fun j => ⟨[(.some ⟨[(.v (.int .i64 (s))), (.v (.int .i64 (o))), (.v (.int .i64 (l))), (.v (.int .i64 (v)))], 4, 102, true, .cells⟩), (.some ⟨[(.v (.int .u16 (n0))), (.v (.int .u16 (n1))), (.v (.int .u16 (n2))), (.v (.int .u16 (n3)))], 4, 131, true, .cells⟩)], [(.code .ret), (.code (atC [1, 1] (bodyOf Tryz.f12)))], mkT j [(4, (iB true))] 272 0⟩) (fun j => by kernel_rfl) (aP h0 <| aN <| aP h2 <| aP h3 <| aP h4 <| aP h5 <| aP h6 <| aP h7 <| aP h8 <| aP h9 <| aP h10 <| aP h11 <| aP h12 <| aP h13 <| aP h14 <| aP h15 <| aP h16 <| aP h17 <| aN <| aZ)
    fun j => outK_gc [] (by decide) (by kernel_rfl) (by kernel_rfl) (by kernel_rfl) (ho j)
def p12M_end (_s _o _l _v n0 n1 n2 n3 _a b y z w d t0 _last _cnt tt _tm _r0 _r1 _r2 _r3 _g _u _h _k _x _x2 _gg _J _r4 : Int) (_i _n : Nat) (_C : List DT) (j : Nat → Value) : St := ⟨[(.some ⟨[(.v (.int .u16 (n0))), (.v (.int .u16 (n1))), (.v (.int .u16 (n2))), (.v (.int .u16 (n3)))], 4, 131, true, .cells⟩), (.some ⟨[(.v (.int .i64 (b))), (.v (.int .i64 (d))), (.v (.int .i64 (y))), (.v (.int .i64 (z)))], 4, 106, true, .cells⟩)], [(.code (atC [1, 1, 1, 1, 1, 1, 1, 1, 1, 1, 0, 1, 0, 0] (bodyOf Tryz.f12))), (.inLoop (atC [1, 1, 1, 1, 1, 1, 1, 1, 1, 1, 0, 1, 0, 0] (bodyOf Tryz.f12))), (.inBlock 0), (.code (atC [1, 1, 1, 1, 1, 1, 1, 1, 1, 1, 1] (bodyOf Tryz.f12)))], mkT j [(3, (.e (.one (.ptr 0 0)))), (5, (iI (b))), (6, (iI (y))), (8, (iI (w))), (9, (.e (.one (.ptr 1 0)))), (11, (iI (t0))), (15, (iI (t0))), (16, (iI 0)), (17, (iI (tt)))] 272 0⟩
theorem p12M (hE : EnvOk E) (s o l v n0 n1 n2 n3 a b y z w d t0 last cnt tt tm r0 r1 r2 r3 g u h k x x2 gg J r4 : Int) (i n : Nat) (C : List DT) (h0 : COut E 0 [] 58 [(.e (.agg [(.v (.int .i64 (s))), (.v (.int .i64 (o))), (.v (.int .i64 (l))), (.v (.int .i64 (v)))]))] (iI (g)) []) (h2 : ((g != (0 : Int)) == false : Bool) = (nat_lit 4, true).snd) (h3 : ((g != (0 : Int)) == false : Bool) = (nat_lit 5, true).snd) (h4 : ((g != (0 : Int)) == false : Bool) = (nat_lit 6, true).snd) (h5 : ((g != (0 : Int)) == false : Bool) = (nat_lit 7, true).snd) (h6 : ((g != (0 : Int)) == false : Bool) = (nat_lit 8, true).snd) (h7 : ((iI (IntKind.i64.wrap ((0 : Int) - o))) : AV) = (iI (u))) (h8 : ((g != (0 : Int)) == false : Bool) = (nat_lit 9, true).snd) (h9 : ((iI (if u > o then u else o)) : AV) = (iI (h))) (h10 : ((g != (0 : Int)) == false : Bool) = (nat_lit 10, true).snd) (h11 : (g != (0 : Int) : Bool) = false) (h12 : (decide (h > (10000 : Int)) == false : Bool) = (nat_lit 13, true).snd) (h13 : (decide (h > (10000 : Int)) == false : Bool) = (nat_lit 14, true).snd) (h14 : (decide (h > (10000 : Int)) == false : Bool) = (nat_lit 15, true).snd) (h15 : (decide (h > (10000 : Int)) : Bool) = false) (h16 : (decide (s > (99980000 : Int)) : Bool) = false) (h17 : ((iI (IntKind.i64.wrap n0)) : AV) = (iI (n0))) (h18 : ((100 : Int) : Int) ≠ (0 : Int)) (h19 : (n0.tmod (100 : Int) : Int) = r0) (h20 : ((iI (wrapF IntKind.i64 (s + r0))) : AV) = (iI (b))) (h21 : ((iI (IntKind.i64.wrap n1)) : AV) = (iI (n1))) (h22 : ((81 : Int) : Int) ≠ (0 : Int)) (h23 : (n1.tmod (81 : Int) : Int) = r1) (h24 : ((iI (wrapF IntKind.i64 (r1 - (40 : Int)))) : AV) = (iI (y))) (h25 : ((iI (IntKind.i64.wrap n2)) : AV) = (iI (n2))) (h26 : ((4 : Int) : Int) ≠ (0 : Int)) (h27 : (n2.tmod (4 : Int) : Int) = r2) (h28 : ((iI (wrapF IntKind.i64 ((2 : Int) + r2))) : AV) = (iI (z))) (h30 : ((iI (IntKind.i64.wrap n3)) : AV) = (iI (n3))) (h31 : ((50 : Int) : Int) ≠ (0 : Int)) (h32 : (n3.tmod (50 : Int) : Int) = r3) (h33 : ((iI (wrapF IntKind.i64 ((2 : Int) + r3))) : AV) = (iI (w))) (h34 : COut E 0 [] 53 [(.e (.agg [(.v (.int .i64 (s))), (.v (.int .i64 (o))), (.v (.int .i64 (l))), (.v (.int .i64 (v)))])), (iI (b)), (iI (y)), (iI (z))] (.tup [(.agg [(.v (.int .i64 (b))), (.v (.int .i64 (d))), (.v (.int .i64 (y))), (.v (.int .i64 (z)))]), (.one (.v (.int .i64 0)))]) []) (h36 : COut E 0 [] 51 [(.e (.agg [(.v (.int .i64 (s))), (.v (.int .i64 (o))), (.v (.int .i64 (l))), (.v (.int .i64 (v)))])), (iI (b))] (.tup [(.one (.v (.int .i64 (t0)))), (.one (.v (.int .i64 0)))]) []) (h38 : COut E 0 [] 51 [(.e (.agg [(.v (.int .i64 (b))), (.v (.int .i64 (d))), (.v (.int .i64 (y))), (.v (.int .i64 (z)))])), (iI (b))] (.tup [(.one (.v (.int .i64 (t0)))), (.one (.v (.int .i64 0)))]) []) (h50 : ((t0 != t0) == false : Bool) = (nat_lit 16, true).snd) (h51 : ((t0 != t0) == false : Bool) = (nat_lit 17, true).snd) (h52 : COut E 0 [] 58 [(.e (.agg [(.v (.int .i64 (b))), (.v (.int .i64 (d))), (.v (.int .i64 (y))), (.v (.int .i64 (z)))]))] (iI 0) []) (h54 : ((t0 != t0) == false : Bool) = (nat_lit 18, true).snd) (h55 : (t0 != t0 : Bool) = false) (h56 : ((iI (wrapF IntKind.i64 (b + (1 : Int)))) : AV) = (iI (tt))) {Φ : Res → Prop} (ho : ∀ j, OutK E 0 0 (p12M_end s o l v n0 n1 n2 n3 a b y z w d t0 last cnt tt tm r0 r1 r2 r3 g u h k x x2 gg J r4 i n C j) Φ) (j : Nat → Value) : OutK E 0 0 (s12 s o l v n0 n1 n2 n3 a b y z w d t0 last cnt tt tm r0 r1 r2 r3 g u h k x x2 gg J r4 i n C j) Φ :=
  outK_seg hE (R0_ok hE) [.run 4, (.ops [(1, (.c0 (iI (g)))), (8, (.rn (iI (u)))), (9, (.rn (iI (h)))), (11, (.pk false)), (16, (.pk false))] [(4, true), (5, true), (6, true), (7, true), (8, true), (9, true), (10, true), (13, true), (14, true), (15, true)]), (.cond false), .run 2, (.ops [(4, (.rn (iI (n0)))), (5, (.quo (r0))), (6, (.rn (iI (b))))] []), .run 1, (.ops [(2, (.rn (iI (n1)))), (3, (.quo (r1))), (4, (.rn (iI (y)))), (7, (.rn (iI (n2)))), (8, (.quo (r2))), (9, (.rn (iI (z))))] []), .run 1, (.ops [(2, (.rn (iI (n3)))), (3, (.quo (r3))), (4, (.rn (iI (w))))] []), .run 1, (.ops [(4, (.c0 (.tup [(.agg [(.v (.int .i64 (b))), (.v (.int .i64 (d))), (.v (.int .i64 (y))), (.v (.int .i64 (z)))]), (.one (.v (.int .i64 0)))])))] []), .run 1, (.ops [(2, (.c0 (.tup [(.one (.v (.int .i64 (t0)))), (.one (.v (.int .i64 0)))])))] []), .run 1, (.ops [(2, (.c0 (.tup [(.one (.v (.int .i64 (t0)))), (.one (.v (.int .i64 0)))])))] []), .run 2, (.ops [(17, (.c0 (iI 0))), (5, (.pk false)), (9, (.pk false)), (14, (.pk false)), (19, (.pk false))] [(3, true), (4, true), (7, true), (8, true), (11, true), (12, true), (13, true), (16, true), (17, true), (18, true)]), .run 6, (.ops [(1, (.rn (iI (tt))))] []), .run 2] [3, 5, 6, 8, 9, 11, 15, 16, 17] (s' := fun j => ⟨[(.some ⟨[(.v (.int .i64 (s))), (.v (.int .i64 (o))), (.v (.int .i64 (l))), (.v (.int .i64 (v)))], 4, 102, true, .cells⟩), (.some ⟨[(.v (.int .u16 (n0))), (.v (.int .u16 (n1))), (.v (.int .u16 (n2))), (.v (.int .u16 (n3)))], 4, 131, true, .cells⟩), (.some ⟨[(.v (.int .i64 (b))), (.v (.int .i64 (d))), (.v (.int .i64 (y))), (.v (.int .i64 (z)))], 4, 106, true, .cells⟩)], [(.code (atC [1, 1, 1, 1, 1, 1, 1, 1, 1, 1, 0, 1, 0, 0] (bodyOf Tryz.f12))), (.inLoop (atC [1, 1, 1, 1, 1, 1, 1, 1, 1, 1, 0, 1, 0, 0] (bodyOf Tryz.f12))), (.inBlock 0), (.code (atC [1, 1, 1, 1, 1, 1, 1, 1, 1, 1, 1] (bodyOf Tryz.f12)))], mkT j [(3, (.e (.one (.ptr 1 0)))), (5, (iI (b))), (6, (iI (y))), (8, (iI (w))), (9, (.e (.one (.ptr 2 0)))), (11, (iI (t0))), (15, (iI (t0))), (16, (iI 0)), (17, (iI (tt)))] 272 0⟩) (fun j => by kernel_rfl) (aP h0 <| aN <| aP h2 <| aP h3 <| aP h4 <| aP h5 <| aP h6 <| aP h7 <| aP h8 <| aP h9 <| aP h10 <| aP h11 <| aP h12 <| aP h13 <| aP h14 <| aP h15 <| aP h16 <| aP h17 <| aP h18 <| aP h19 <| aP h20 <| aP h21 <| aP h22 <| aP h23 <| aP h24 <| aP h25 <| aP h26 <| aP h27 <| aP h28 <| aP (rfl : (true : Bool) = true) <| aP h30 <| aP h31 <| aP h32 <| aP h33 <| aP h34 <| aN <| aP h36 <| aN <| aP h38 <| aN <| aP (rfl : (true : Bool) = true) <| aP (rfl : (true : Bool) = true) <| aP (rfl : (false : Bool) = false) <| aP (rfl : (true : Bool) = true) <| aP (rfl : (true : Bool) = true) <| aP (rfl : (false : Bool) = false) <| aP (rfl : (true : Bool) = true) <| aP (rfl : (true : Bool) = true) <| aP (rfl : (true : Bool) = true) <| aP (rfl : (false : Bool) = false) <| aP h50 <| aP h51 <| aP h52 <| aN <| aP h54 <| aP h55 <| aP h56 <| aZ)
    fun j => outK_gc [1, 2] (by decide) (by kernel_rfl) (by kernel_rfl) (by kernel_rfl) (ho j)
def p12s_end (_s _o _l _v n0 n1 n2 n3 _a b y z w d t0 _last cnt tt tm _r0 _r1 _r2 _r3 _g _u _h k _x _x2 _gg _J _r4 : Int) (_i _n : Nat) (_C : List DT) (j : Nat → Value) : St := ⟨[(.some ⟨[(.v (.int .u16 (n0))), (.v (.int .u16 (n1))), (.v (.int .u16 (n2))), (.v (.int .u16 (n3)))], 4, 131, true, .cells⟩), (.some ⟨[(.v (.int .i64 (b))), (.v (.int .i64 (d))), (.v (.int .i64 (y))), (.v (.int .i64 (z)))], 4, 106, true, .cells⟩)], [(.code (atC [1, 1, 1, 1, 1, 1, 1, 1, 1, 1, 0, 1, 0, 0, 1, 0, 0, 1, 1, 0, 1, 0, 0] (bodyOf Tryz.f12))), (.inLoop (atC [1, 1, 1, 1, 1, 1, 1, 1, 1, 1, 0, 1, 0, 0, 1, 0, 0, 1, 1, 0, 1, 0, 0] (bodyOf Tryz.f12))), (.inBlock 2), (.code (atC [1, 1, 1, 1, 1, 1, 1, 1, 1, 1, 0, 1, 0, 0, 1, 0, 0, 1, 1, 1] (bodyOf Tryz.f12))), (.inBlock 1), (.code (atC [1, 1, 1, 1, 1, 1, 1, 1, 1, 1, 0, 1, 0, 0, 1, 1] (bodyOf Tryz.f12))), (.inLoop (atC [1, 1, 1, 1, 1, 1, 1, 1, 1, 1, 0, 1, 0, 0] (bodyOf Tryz.f12))), (.inBlock 0), (.code (atC [1, 1, 1, 1, 1, 1, 1, 1, 1, 1, 1] (bodyOf Tryz.f12)))], mkT j [(3, (.e (.one (.ptr 0 0)))), (5, (iI (b))), (6, (iI (y))), (8, (iI (w))), (9, (.e (.one (.ptr 1 0)))), (11, (iI (t0))), (16, (iI (cnt))), (17, (iI (tt))), (18, (iI (tm))), (20, (iI (k)))] 272 0⟩
theorem p12s (hE : EnvOk E) (s o l v n0 n1 n2 n3 a b y z w d t0 last cnt tt tm r0 r1 r2 r3 g u h k x x2 gg J r4 : Int) (i n : Nat) (C : List DT) (h0 : ((iI (wrapF IntKind.i64 (b + (200 : Int)))) : AV) = (iI (u))) (h1 : (decide (tt ≤ u) : Bool) = true) (h2 : COut E 0 [] 51 [(.e (.agg [(.v (.int .i64 (b))), (.v (.int .i64 (d))), (.v (.int .i64 (y))), (.v (.int .i64 (z)))])), (iI (tt))] (.tup [(.one (.v (.int .i64 (tm)))), (.one (.v (.int .i64 0)))]) []) (h8 : (decide (tm < last) == false : Bool) = (nat_lit 8, true).snd) (h9 : (decide (tm < last) == false : Bool) = (nat_lit 9, true).snd) (h10 : (decide (tm < last) == false : Bool) = (nat_lit 10, true).snd) (h11 : ((iI (wrapF IntKind.i64 (last + (2 : Int)))) : AV) = (iI (x2))) (h12 : (decide (tm < last) == false : Bool) = (nat_lit 11, true).snd) (h13 : (decide (tm < last) : Bool) = false) (h14 : (decide (tm > x2) : Bool) = false) (h15 : ((iI (wrapF IntKind.i64 (last + (1 : Int)))) : AV) = (iI (k))) {Φ : Res → Prop} (ho : ∀ j, OutK E 0 0 (p12s_end s o l v n0 n1 n2 n3 a b y z w d t0 last cnt tt tm r0 r1 r2 r3 g u h k x x2 gg J r4 i n C j) Φ) (j : Nat → Value) : OutK E 0 0 (q12 s o l v n0 n1 n2 n3 a b y z w d t0 last cnt tt tm r0 r1 r2 r3 g u h k x x2 gg J r4 i n C j) Φ :=
  outK_seg hE (R0_ok hE) [.run 2, (.ops [(2, (.rn (iI (u))))] []), (.cond true), .run 4, (.ops [(2, (.c0 (.tup [(.one (.v (.int .i64 (tm)))), (.one (.v (.int .i64 0)))])))] []), .run 2, (.ops [(10, (.rn (iI (x2)))), (6, (.pk false)), (12, (.pk false))] [(3, true), (4, true), (5, true), (8, true), (9, true), (10, true), (11, true)]), (.cond false), .run 3, (.ops [(1, (.rn (iI (k))))] []), .run 2] [3, 5, 6, 8, 9, 11, 16, 17, 18, 20] (fun j => by kernel_rfl) (aP h0 <| aP h1 <| aP h2 <| aN <| aP (rfl : (true : Bool) = true) <| aP (rfl : (true : Bool) = true) <| aP (rfl : (true : Bool) = true) <| aP (rfl : (false : Bool) = false) <| aP h8 <| aP h9 <| aP h10 <| aP h11 <| aP h12 <| aP h13 <| aP h14 <| aP h15 <| aZ)
    ho
def p12x_end (_s _o _l _v n0 n1 n2 n3 _a b y z _w d _t0 last _cnt _tt _tm _r0 _r1 _r2 _r3 _g _u _h _k _x _x2 _gg _J _r4 : Int) (_i n : Nat) (C : List DT) (j : Nat → Value) : St := ⟨[(.some ⟨[(.v (.int .u16 (n0))), (.v (.int .u16 (n1))), (.v (.int .u16 (n2))), (.v (.int .u16 (n3)))], 4, 131, true, .cells⟩), (.some ⟨[(.v (.int .i64 (b))), (.v (.int .i64 (d))), (.v (.int .i64 (y))), (.v (.int .i64 (z)))], 4, 106, true, .cells⟩)], [(.code (atC [1, 1, 1, 1, 1, 1, 1, 1, 1, 1, 1, 1, 1, 0, 1, 0, 0] (bodyOf Tryz.f12))), (.inLoop (atC [1, 1, 1, 1, 1, 1, 1, 1, 1, 1, 1, 1, 1, 0, 1, 0, 0] (bodyOf Tryz.f12))), (.inBlock 4), (.code (atC [1, 1, 1, 1, 1, 1, 1, 1, 1, 1, 1, 1, 1, 1] (bodyOf Tryz.f12)))], mkT j [(3, (.e (.one (.ptr 0 0)))), (5, (iI (b))), (9, (.e (.one (.ptr 1 0)))), (15, (iI (last))), (21, (.e (.one (.dp (.s (C) (n) 1))))), (181, (.e (.one (.dp (.s (C) (n) 1))))), (182, (iI (Int.ofNat n))), (183, (iI 0))] 272 0⟩
theorem p12x (hE : EnvOk E) (s o l v n0 n1 n2 n3 a b y z w d t0 last cnt tt tm r0 r1 r2 r3 g u h k x x2 gg J r4 : Int) (i n : Nat) (C : List DT) (h0 : ((iI (wrapF IntKind.i64 (b + (200 : Int)))) : AV) = (iI (u))) (h1 : (decide (tt ≤ u) : Bool) = false) (h2 : ((iI (wrapF IntKind.i64 (b + (201 : Int)))) : AV) = (iI (h))) (h3 : COut E 0 [] 59 [(.e (.agg [(.v (.int .i64 (b))), (.v (.int .i64 (d))), (.v (.int .i64 (y))), (.v (.int .i64 (z)))])), (.e (.agg [(.v (.int .i64 (b))), (.v (.int .i64 (h)))])), (iI (w))] (.tup [(.one (.dp (.s (C) (n) 1))), (.one (.v (.int .i64 0)))]) []) (h10 : (((↑n : Int) != cnt) == false : Bool) = (nat_lit 9, true).snd) (h11 : (((↑n : Int) != cnt) == false : Bool) = (nat_lit 10, true).snd) (h12 : (((↑n : Int) != cnt) == false : Bool) = (nat_lit 11, true).snd) (h13 : ((iI (wrapF IntKind.i64 (t0 + (200 : Int)))) : AV) = (iI (x))) (h14 : (((↑n : Int) != cnt) == false : Bool) = (nat_lit 12, true).snd) (h15 : (((↑n : Int) != cnt) == false : Bool) = (nat_lit 13, true).snd) (h16 : ((iI (wrapF IntKind.i64 (x + y))) : AV) = (iI (last))) (h17 : (((↑n : Int) != cnt) == false : Bool) = (nat_lit 14, true).snd) (h18 : ((↑n : Int) != cnt : Bool) = false) (h19 : (last != last : Bool) = false) {Φ : Res → Prop} (ho : ∀ j, OutK E 0 0 (p12x_end s o l v n0 n1 n2 n3 a b y z w d t0 last cnt tt tm r0 r1 r2 r3 g u h k x x2 gg J r4 i n C j) Φ) (j : Nat → Value) : OutK E 0 0 (q12 s o l v n0 n1 n2 n3 a b y z w d t0 last cnt tt tm r0 r1 r2 r3 g u h k x x2 gg J r4 i n C j) Φ :=
  outK_seg hE (R0_ok hE) [.run 2, (.ops [(2, (.rn (iI (u))))] []), (.cond false), .run 2, (.ops [(3, (.rn (iI (h)))), (6, (.c0 (.tup [(.one (.dp (.s (C) (n) 1))), (.one (.v (.int .i64 0)))])))] []), .run 2, (.ops [(11, (.rn (iI (x)))), (13, (.rn (iI (last)))), (4, (.d .len)), (7, (.pk false)), (15, (.pk false))] [(3, true), (4, true), (5, true), (6, true), (9, true), (10, true), (11, true), (12, true), (13, true), (14, true)]), (.cond false), .run 3, (.ops [(1, (.d .len))] []), .run 2] [3, 5, 9, 15, 21, 181, 182, 183] (fun j => by kernel_rfl) (aP h0 <| aP h1 <| aP h2 <| aP h3 <| aN <| aP (rfl : (true : Bool) = true) <| aP (rfl : (true : Bool) = true) <| aP (rfl : (true : Bool) = true) <| aP (rfl : (true : Bool) = true) <| aP (rfl : (false : Bool) = false) <| aP h10 <| aP h11 <| aP h12 <| aP h13 <| aP h14 <| aP h15 <| aP h16 <| aP h17 <| aP h18 <| aP h19 <| aZ)
    ho
def p12h_end (_s _o _l _v n0 n1 n2 n3 _a b y z w d t0 _last _cnt tt tm _r0 _r1 _r2 _r3 _g _u h _k x _x2 _gg _J _r4 : Int) (_i _n : Nat) (_C : List DT) (j : Nat → Value) : St := ⟨[(.some ⟨[(.v (.int .u16 (n0))), (.v (.int .u16 (n1))), (.v (.int .u16 (n2))), (.v (.int .u16 (n3)))], 4, 131, true, .cells⟩), (.some ⟨[(.v (.int .i64 (b))), (.v (.int .i64 (d))), (.v (.int .i64 (y))), (.v (.int .i64 (z)))], 4, 106, true, .cells⟩)], [(.code (atC [1, 1, 1, 1, 1, 1, 1, 1, 1, 1, 0, 1, 0, 0, 1, 0, 0, 1, 1, 0, 1, 0, 0] (bodyOf Tryz.f12))), (.inLoop (atC [1, 1, 1, 1, 1, 1, 1, 1, 1, 1, 0, 1, 0, 0, 1, 0, 0, 1, 1, 0, 1, 0, 0] (bodyOf Tryz.f12))), (.inBlock 2), (.code (atC [1, 1, 1, 1, 1, 1, 1, 1, 1, 1, 0, 1, 0, 0, 1, 0, 0, 1, 1, 1] (bodyOf Tryz.f12))), (.inBlock 1), (.code (atC [1, 1, 1, 1, 1, 1, 1, 1, 1, 1, 0, 1, 0, 0, 1, 1] (bodyOf Tryz.f12))), (.inLoop (atC [1, 1, 1, 1, 1, 1, 1, 1, 1, 1, 0, 1, 0, 0] (bodyOf Tryz.f12))), (.inBlock 0), (.code (atC [1, 1, 1, 1, 1, 1, 1, 1, 1, 1, 1] (bodyOf Tryz.f12)))], mkT j [(3, (.e (.one (.ptr 0 0)))), (5, (iI (b))), (6, (iI (y))), (8, (iI (w))), (9, (.e (.one (.ptr 1 0)))), (11, (iI (t0))), (16, (iI (x))), (17, (iI (tt))), (18, (iI (tm))), (20, (iI (h)))] 272 0⟩
theorem p12h (hE : EnvOk E) (s o l v n0 n1 n2 n3 a b y z w d t0 last cnt tt tm r0 r1 r2 r3 g u h k x x2 gg J r4 : Int) (i n : Nat) (C : List DT) (h0 : (decide (k ≤ tm) : Bool) = true) (h1 : (w : Int) ≠ (0 : Int)) (h2 : (k.tmod w : Int) = (0 : Int)) (h3 : ((iI (wrapF IntKind.i64 (cnt + (1 : Int)))) : AV) = (iI (x))) (h4 : ((iI (wrapF IntKind.i64 (k + (1 : Int)))) : AV) = (iI (h))) {Φ : Res → Prop} (ho : ∀ j, OutK E 0 0 (p12h_end s o l v n0 n1 n2 n3 a b y z w d t0 last cnt tt tm r0 r1 r2 r3 g u h k x x2 gg J r4 i n C j) Φ) (j : Nat → Value) : OutK E 0 0 (r12 s o l v n0 n1 n2 n3 a b y z w d t0 last cnt tt tm r0 r1 r2 r3 g u h k x x2 gg J r4 i n C j) Φ :=
  outK_seg hE (R0_ok hE) [.run 3, (.cond true), .run 4, (.ops [(2, (.quo 0))] []), .run 1, (.ops [(1, (.rn (iI (x))))] []), .run 1, (.ops [(1, (.rn (iI (h))))] []), .run 1] [3, 5, 6, 8, 9, 11, 16, 17, 18, 20] (fun j => by kernel_rfl) (aP h0 <| aP h1 <| aP h2 <| aP h3 <| aP h4 <| aZ)
    ho
def p12m_end (_s _o _l _v n0 n1 n2 n3 _a b y z w d t0 _last cnt tt tm _r0 _r1 _r2 _r3 _g _u h _k _x _x2 _gg _J _r4 : Int) (_i _n : Nat) (_C : List DT) (j : Nat → Value) : St := ⟨[(.some ⟨[(.v (.int .u16 (n0))), (.v (.int .u16 (n1))), (.v (.int .u16 (n2))), (.v (.int .u16 (n3)))], 4, 131, true, .cells⟩), (.some ⟨[(.v (.int .i64 (b))), (.v (.int .i64 (d))), (.v (.int .i64 (y))), (.v (.int .i64 (z)))], 4, 106, true, .cells⟩)], [(.code (atC [1, 1, 1, 1, 1, 1, 1, 1, 1, 1, 0, 1, 0, 0, 1, 0, 0, 1, 1, 0, 1, 0, 0] (bodyOf Tryz.f12))), (.inLoop (atC [1, 1, 1, 1, 1, 1, 1, 1, 1, 1, 0, 1, 0, 0, 1, 0, 0, 1, 1, 0, 1, 0, 0] (bodyOf Tryz.f12))), (.inBlock 2), (.code (atC [1, 1, 1, 1, 1, 1, 1, 1, 1, 1, 0, 1, 0, 0, 1, 0, 0, 1, 1, 1] (bodyOf Tryz.f12))), (.inBlock 1), (.code (atC [1, 1, 1, 1, 1, 1, 1, 1, 1, 1, 0, 1, 0, 0, 1, 1] (bodyOf Tryz.f12))), (.inLoop (atC [1, 1, 1, 1, 1, 1, 1, 1, 1, 1, 0, 1, 0, 0] (bodyOf Tryz.f12))), (.inBlock 0), (.code (atC [1, 1, 1, 1, 1, 1, 1, 1, 1, 1, 1] (bodyOf Tryz.f12)))], mkT j [(3, (.e (.one (.ptr 0 0)))), (5, (iI (b))), (6, (iI (y))), (8, (iI (w))), (9, (.e (.one (.ptr 1 0)))), (11, (iI (t0))), (16, (iI (cnt))), (17, (iI (tt))), (18, (iI (tm))), (20, (iI (h)))] 272 0⟩
theorem p12m (hE : EnvOk E) (s o l v n0 n1 n2 n3 a b y z w d t0 last cnt tt tm r0 r1 r2 r3 g u h k x x2 gg J r4 : Int) (i n : Nat) (C : List DT) (h0 : (decide (k ≤ tm) : Bool) = true) (h1 : (w : Int) ≠ (0 : Int)) (h2 : (k.tmod w : Int) = g) (h3 : (g == (0 : Int) : Bool) = false) (h4 : ((iI (wrapF IntKind.i64 (k + (1 : Int)))) : AV) = (iI (h))) {Φ : Res → Prop} (ho : ∀ j, OutK E 0 0 (p12m_end s o l v n0 n1 n2 n3 a b y z w d t0 last cnt tt tm r0 r1 r2 r3 g u h k x x2 gg J r4 i n C j) Φ) (j : Nat → Value) : OutK E 0 0 (r12 s o l v n0 n1 n2 n3 a b y z w d t0 last cnt tt tm r0 r1 r2 r3 g u h k x x2 gg J r4 i n C j) Φ :=
  outK_seg hE (R0_ok hE) [.run 3, (.cond true), .run 4, (.ops [(2, (.quo (g)))] []), (.cond false), .run 2, (.ops [(1, (.rn (iI (h))))] []), .run 1] [3, 5, 6, 8, 9, 11, 16, 17, 18, 20] (fun j => by kernel_rfl) (aP h0 <| aP h1 <| aP h2 <| aP h3 <| aP h4 <| aZ)
    ho
def p12e_end (_s _o _l _v n0 n1 n2 n3 _a b y z w d t0 _last cnt _tt tm _r0 _r1 _r2 _r3 _g _u h _k _x _x2 _gg _J _r4 : Int) (_i _n : Nat) (_C : List DT) (j : Nat → Value) : St := ⟨[(.some ⟨[(.v (.int .u16 (n0))), (.v (.int .u16 (n1))), (.v (.int .u16 (n2))), (.v (.int .u16 (n3)))], 4, 131, true, .cells⟩), (.some ⟨[(.v (.int .i64 (b))), (.v (.int .i64 (d))), (.v (.int .i64 (y))), (.v (.int .i64 (z)))], 4, 106, true, .cells⟩)], [(.code (atC [1, 1, 1, 1, 1, 1, 1, 1, 1, 1, 0, 1, 0, 0] (bodyOf Tryz.f12))), (.inLoop (atC [1, 1, 1, 1, 1, 1, 1, 1, 1, 1, 0, 1, 0, 0] (bodyOf Tryz.f12))), (.inBlock 0), (.code (atC [1, 1, 1, 1, 1, 1, 1, 1, 1, 1, 1] (bodyOf Tryz.f12)))], mkT j [(3, (.e (.one (.ptr 0 0)))), (5, (iI (b))), (6, (iI (y))), (8, (iI (w))), (9, (.e (.one (.ptr 1 0)))), (11, (iI (t0))), (15, (iI (tm))), (16, (iI (cnt))), (17, (iI (h)))] 272 0⟩
theorem p12e (hE : EnvOk E) (s o l v n0 n1 n2 n3 a b y z w d t0 last cnt tt tm r0 r1 r2 r3 g u h k x x2 gg J r4 : Int) (i n : Nat) (C : List DT) (h0 : (decide (k ≤ tm) : Bool) = false) (h1 : ((iI (wrapF IntKind.i64 (tt + (1 : Int)))) : AV) = (iI (h))) {Φ : Res → Prop} (ho : ∀ j, OutK E 0 0 (p12e_end s o l v n0 n1 n2 n3 a b y z w d t0 last cnt tt tm r0 r1 r2 r3 g u h k x x2 gg J r4 i n C j) Φ) (j : Nat → Value) : OutK E 0 0 (r12 s o l v n0 n1 n2 n3 a b y z w d t0 last cnt tt tm r0 r1 r2 r3 g u h k x x2 gg J r4 i n C j) Φ :=
  outK_seg hE (R0_ok hE) [.run 3, (.cond false), .run 3, (.ops [(1, (.rn (iI (h))))] []), .run 1] [3, 5, 6, 8, 9, 11, 15, 16, 17] (fun j => by kernel_rfl) (aP h0 <| aP h1 <| aZ)
    ho
def p12l0_end (_s _o _l _v n0 n1 n2 n3 _a b y z _w d _t0 last _cnt _tt _tm _r0 _r1 _r2 _r3 _g _u _h _k _x _x2 _gg _J _r4 : Int) (i n : Nat) (C : List DT) (j : Nat → Value) : St := ⟨[(.some ⟨[(.v (.int .u16 (n0))), (.v (.int .u16 (n1))), (.v (.int .u16 (n2))), (.v (.int .u16 (n3)))], 4, 131, true, .cells⟩), (.some ⟨[(.v (.int .i64 (b))), (.v (.int .i64 (d))), (.v (.int .i64 (y))), (.v (.int .i64 (z)))], 4, 106, true, .cells⟩)], [(.code (atC [1, 1, 1, 1, 1, 1, 1, 1, 1, 1, 1, 1, 1, 0, 1, 0, 0] (bodyOf Tryz.f12))), (.inLoop (atC [1, 1, 1, 1, 1, 1, 1, 1, 1, 1, 1, 1, 1, 0, 1, 0, 0] (bodyOf Tryz.f12))), (.inBlock 4), (.code (atC [1, 1, 1, 1, 1, 1, 1, 1, 1, 1, 1, 1, 1, 1] (bodyOf Tryz.f12)))], mkT j [(3, (.e (.one (.ptr 0 0)))), (5, (iI (b))), (9, (.e (.one (.ptr 1 0)))), (15, (iI (last))), (21, (.e (.one (.dp (.s (C) (n) 1))))), (181, (.e (.one (.dp (.s (C) (n) 1))))), (182, (iI (Int.ofNat n))), (183, (iI (Int.ofNat (i + 1))))] 272 0⟩
theorem p12l0 (hE : EnvOk E) (s o l v n0 n1 n2 n3 a b y z w d t0 last cnt tt tm r0 r1 r2 r3 g u h k x x2 gg J r4 : Int) (i n : Nat) (C : List DT) (h0 : (decide (Int.ofNat i < Int.ofNat n) : Bool) = true) (h1 : (0 : Int) ≤ Int.ofNat i ∧ Int.ofNat i < (↑n : Int)) (h2 : ((Int.ofNat i).toNat * nat_lit 1 : Nat) = i) (h3 : (getL C i : Option DT) = (.some (.v (.int .i64 (x))))) (h4 : (decide (x ≤ b) == false : Bool) = (nat_lit 4, true).snd) (h5 : (decide (x ≤ b) == false : Bool) = (nat_lit 5, true).snd) (h6 : (decide (x ≤ b) == false : Bool) = (nat_lit 6, true).snd) (h7 : ((iI (wrapF IntKind.i64 (b + (200 : Int)))) : AV) = (iI (u))) (h8 : (decide (x ≤ b) == false : Bool) = (nat_lit 7, true).snd) (h9 : (decide (x ≤ b) : Bool) = false) (h10 : (decide (x > u) == false : Bool) = (nat_lit 10, true).snd) (h11 : (decide (x > u) == false : Bool) = (nat_lit 11, true).snd) (h12 : (decide (x > u) == false : Bool) = (nat_lit 12, true).snd) (h13 : (decide (Int.ofNat i > (0 : Int)) == true : Bool) = (nat_lit 13, false).snd) (h14 : (decide (Int.ofNat i > (0 : Int)) == true : Bool) = (nat_lit 14, false).snd) (h15 : (decide (Int.ofNat i > (0 : Int)) == true : Bool) = (nat_lit 15, false).snd) (h16 : (decide (Int.ofNat i > (0 : Int)) == true : Bool) = (nat_lit 16, false).snd) (h17 : (decide (Int.ofNat i > (0 : Int)) == true : Bool) = (nat_lit 17, false).snd) (h18 : (decide (Int.ofNat i > (0 : Int)) == true : Bool) = (nat_lit 18, false).snd) (h19 : (decide (Int.ofNat i > (0 : Int)) == true : Bool) = (nat_lit 19, false).snd) (h20 : (decide (x > u) == false : Bool) = (nat_lit 20, true).snd) (h21 : (decide (Int.ofNat i > (0 : Int)) : Bool) = false) (h22 : (decide (x > u) : Bool) = false) (h23 : ((iI (wrapF IntKind.i64 (Int.ofNat i + (1 : Int)))) : AV) = (iI (Int.ofNat (i + 1)))) {Φ : Res → Prop} (ho : ∀ j, OutK E 0 0 (p12l0_end s o l v n0 n1 n2 n3 a b y z w d t0 last cnt tt tm r0 r1 r2 r3 g u h k x x2 gg J r4 i n C j) Φ) (j : Nat → Value) : OutK E 0 0 (l12 s o l v n0 n1 n2 n3 a b y z w d t0 last cnt tt tm r0 r1 r2 r3 g u h k x x2 gg J r4 i n C j) Φ :=
  outK_seg hE (R0_ok hE) [.run 3, (.cond true), .run 4, (.ops [(2, (.d (.ld (.v (.int .i64 (x)))))), (1, (.d (.ix (i))))] []), .run 1, (.ops [(6, (.rn (iI (u)))), (8, (.pk false)), (20, (.pk false)), (21, (.pk false))] [(4, true), (5, true), (6, true), (7, true), (10, true), (11, true), (12, true), (13, false), (14, false), (15, false), (16, false), (17, false), (18, false), (19, false), (20, true)]), .run 3, (.ops [(0, (.rn (iI (Int.ofNat (i + 1)))))] []), .run 1] [3, 5, 9, 15, 21, 181, 182, 183] (fun j => by kernel_rfl) (aP h0 <| aP h1 <| aP h2 <| aP h3 <| aP h4 <| aP h5 <| aP h6 <| aP h7 <| aP h8 <| aP h9 <| aP h10 <| aP h11 <| aP h12 <| aP h13 <| aP h14 <| aP h15 <| aP h16 <| aP h17 <| aP h18 <| aP h19 <| aP h20 <| aP h21 <| aP h22 <| aP h23 <| aZ)
    ho
def p12l1_end (_s _o _l _v n0 n1 n2 n3 _a b y z _w d _t0 last _cnt _tt _tm _r0 _r1 _r2 _r3 _g _u _h _k _x _x2 _gg _J _r4 : Int) (i n : Nat) (C : List DT) (j : Nat → Value) : St := ⟨[(.some ⟨[(.v (.int .u16 (n0))), (.v (.int .u16 (n1))), (.v (.int .u16 (n2))), (.v (.int .u16 (n3)))], 4, 131, true, .cells⟩), (.some ⟨[(.v (.int .i64 (b))), (.v (.int .i64 (d))), (.v (.int .i64 (y))), (.v (.int .i64 (z)))], 4, 106, true, .cells⟩)], [(.code (atC [1, 1, 1, 1, 1, 1, 1, 1, 1, 1, 1, 1, 1, 0, 1, 0, 0] (bodyOf Tryz.f12))), (.inLoop (atC [1, 1, 1, 1, 1, 1, 1, 1, 1, 1, 1, 1, 1, 0, 1, 0, 0] (bodyOf Tryz.f12))), (.inBlock 4), (.code (atC [1, 1, 1, 1, 1, 1, 1, 1, 1, 1, 1, 1, 1, 1] (bodyOf Tryz.f12)))], mkT j [(3, (.e (.one (.ptr 0 0)))), (5, (iI (b))), (9, (.e (.one (.ptr 1 0)))), (15, (iI (last))), (21, (.e (.one (.dp (.s (C) (n) 1))))), (181, (.e (.one (.dp (.s (C) (n) 1))))), (182, (iI (Int.ofNat n))), (183, (iI (Int.ofNat (i + 1))))] 272 0⟩
theorem p12l1 (hE : EnvOk E) (s o l v n0 n1 n2 n3 a b y z w d t0 last cnt tt tm r0 r1 r2 r3 g u h k x x2 gg J r4 : Int) (i n : Nat) (C : List DT) (h0 : (decide (Int.ofNat i < Int.ofNat n) : Bool) = true) (h1 : (0 : Int) ≤ Int.ofNat i ∧ Int.ofNat i < (↑n : Int)) (h2 : ((Int.ofNat i).toNat * nat_lit 1 : Nat) = i) (h3 : (getL C i : Option DT) = (.some (.v (.int .i64 (x))))) (h4 : (decide (x ≤ b) == false : Bool) = (nat_lit 4, true).snd) (h5 : (decide (x ≤ b) == false : Bool) = (nat_lit 5, true).snd) (h6 : (decide (x ≤ b) == false : Bool) = (nat_lit 6, true).snd) (h7 : ((iI (wrapF IntKind.i64 (b + (200 : Int)))) : AV) = (iI (u))) (h8 : (decide (x ≤ b) == false : Bool) = (nat_lit 7, true).snd) (h9 : (decide (x ≤ b) : Bool) = false) (h10 : (decide (x > u) == false : Bool) = (nat_lit 10, true).snd) (h11 : (decide (x > u) == false : Bool) = (nat_lit 11, true).snd) (h12 : (decide (x > u) == false : Bool) = (nat_lit 12, true).snd) (h13 : (decide (Int.ofNat i > (0 : Int)) == true : Bool) = (nat_lit 13, true).snd) (h14 : (decide (Int.ofNat i > (0 : Int)) == true : Bool) = (nat_lit 14, true).snd) (h15 : (decide (Int.ofNat i > (0 : Int)) == true : Bool) = (nat_lit 15, true).snd) (h16 : (decide (Int.ofNat i > (0 : Int)) == true : Bool) = (nat_lit 16, true).snd) (h17 : ((iI (wrapF IntKind.i64 (Int.ofNat i - (1 : Int)))) : AV) = (iI (Int.ofNat (i - (1 : Nat))))) (h18 : (decide (Int.ofNat i > (0 : Int)) == true : Bool) = (nat_lit 17, true).snd) (h19 : (0 : Int) ≤ Int.ofNat (i - (1 : Nat)) ∧ Int.ofNat (i - (1 : Nat)) < (↑n : Int)) (h20 : ((Int.ofNat (i - (1 : Nat))).toNat * nat_lit 1 : Nat) = i - (1 : Nat)) (h21 : (decide (Int.ofNat i > (0 : Int)) == true : Bool) = (nat_lit 18, true).snd) (h22 : (getL C (i - (1 : Nat)) : Option DT) = (.some (.v (.int .i64 (x2))))) (h23 : (decide (Int.ofNat i > (0 : Int)) == true : Bool) = (nat_lit 19, true).snd) (h24 : (decide (x > u) == false : Bool) = (nat_lit 20, true).snd) (h25 : (decide (Int.ofNat i > (0 : Int)) : Bool) = true) (h26 : (decide (x > u) : Bool) = false) (h27 : (decide (x ≤ x2) : Bool) = false) (h28 : ((iI (wrapF IntKind.i64 (Int.ofNat i + (1 : Int)))) : AV) = (iI (Int.ofNat (i + 1)))) {Φ : Res → Prop} (ho : ∀ j, OutK E 0 0 (p12l1_end s o l v n0 n1 n2 n3 a b y z w d t0 last cnt tt tm r0 r1 r2 r3 g u h k x x2 gg J r4 i n C j) Φ) (j : Nat → Value) : OutK E 0 0 (l12 s o l v n0 n1 n2 n3 a b y z w d t0 last cnt tt tm r0 r1 r2 r3 g u h k x x2 gg J r4 i n C j) Φ :=
  outK_seg hE (R0_ok hE) [.run 3, (.cond true), .run 4, (.ops [(2, (.d (.ld (.v (.int .i64 (x)))))), (1, (.d (.ix (i))))] []), .run 1, (.ops [(6, (.rn (iI (u)))), (16, (.rn (iI (Int.ofNat (i - (1 : Nat)))))), (18, (.d (.ld (.v (.int .i64 (x2)))))), (8, (.pk false)), (17, (.d (.ix (i - (1 : Nat))))), (20, (.pk true)), (21, (.pk false))] [(4, true), (5, true), (6, true), (7, true), (10, true), (11, true), (12, true), (13, true), (14, true), (15, true), (16, true), (17, true), (18, true), (19, true), (20, true)]), (.cond false), .run 2, (.ops [(0, (.rn (iI (Int.ofNat (i + 1)))))] []), .run 1] [3, 5, 9, 15, 21, 181, 182, 183] (fun j => by kernel_rfl) (aP h0 <| aP h1 <| aP h2 <| aP h3 <| aP h4 <| aP h5 <| aP h6 <| aP h7 <| aP h8 <| aP h9 <| aP h10 <| aP h11 <| aP h12 <| aP h13 <| aP h14 <| aP h15 <| aP h16 <| aP h17 <| aP h18 <| aP h19 <| aP h20 <| aP h21 <| aP h22 <| aP h23 <| aP h24 <| aP h25 <| aP h26 <| aP h27 <| aP h28 <| aZ)
    ho
def p12z_end (_s _o _l _v _n0 _n1 _n2 _n3 _a _b _y _z _w _d _t0 _last _cnt _tt _tm _r0 _r1 _r2 _r3 _g _u _h _k _x _x2 _gg _J _r4 : Int) (_i _n : Nat) (_C : List DT) (j : Nat → Value) : St := ⟨[], [(.code .ret)], mkT j [(4, (iB true))] 272 0⟩
theorem p12z (hE : EnvOk E) (s o l v n0 n1 n2 n3 a b y z w d t0 last cnt tt tm r0 r1 r2 r3 g u h k x x2 gg J r4 : Int) (i n : Nat) (C : List DT) (h0 : (decide (Int.ofNat i < Int.ofNat n) : Bool) = false) (h1 : ((iI (wrapF IntKind.i64 (b + (200 : Int)))) : AV) = (iI (u))) (h2 : ((iI (IntKind.i64.wrap n1)) : AV) = (iI (n1))) (h3 : ((9000 : Int) : Int) ≠ (0 : Int)) (h4 : (n1.tmod (9000 : Int) : Int) = r4) (h5 : ((iI (wrapF IntKind.i64 (u + r4))) : AV) = (iI (gg))) (h6 : ((iI (wrapF IntKind.i64 (b + (200 : Int)))) : AV) = (iI (u))) (h7 : COut E 0 [] 52 [(.e (.agg [(.v (.int .i64 (b))), (.v (.int .i64 (d))), (.v (.int .i64 (y))), (.v (.int .i64 (z)))])), (iI (u)), (iI (gg))] (.tup [(.agg [(.v (.int .i64 (u))), (.v (.int .i64 (r4))), (.v (.int .i64 0)), (.v (.int .i64 (z)))]), (.one (.v (.int .i64 (J)))), (.one (.v (.int .i64 0)))]) []) (h9 : ((iI (wrapF IntKind.i64 (b + (200 : Int)))) : AV) = (iI (u))) (h10 : COut E 0 [] 51 [(.e (.agg [(.v (.int .i64 (u))), (.v (.int .i64 (r4))), (.v (.int .i64 0)), (.v (.int .i64 (z)))])), (iI (u))] (.tup [(.one (.v (.int .i64 (gg)))), (.one (.v (.int .i64 0)))]) []) (h12 : ((iI (wrapF IntKind.i64 (b + (260 : Int)))) : AV) = (iI (h))) (h13 : COut E 0 [] 51 [(.e (.agg [(.v (.int .i64 (u))), (.v (.int .i64 (r4))), (.v (.int .i64 0)), (.v (.int .i64 (z)))])), (iI (h))] (.tup [(.one (.v (.int .i64 (x)))), (.one (.v (.int .i64 0)))]) []) (h25 : ((gg == gg) == true : Bool) = (nat_lit 16, true).snd) (h26 : ((gg == gg) == true : Bool) = (nat_lit 17, true).snd) (h27 : ((gg == gg) == true : Bool) = (nat_lit 18, true).snd) (h28 : ((iI (wrapF IntKind.i64 (gg + (60 : Int)))) : AV) = (iI (x))) (h29 : ((gg == gg) == true : Bool) = (nat_lit 19, true).snd) (h30 : (gg == gg : Bool) = true) (h31 : ((x == x) == true : Bool) = (nat_lit 22, true).snd) (h32 : ((x == x) == true : Bool) = (nat_lit 23, true).snd) (h33 : ((x == x) == true : Bool) = (nat_lit 24, true).snd) (h34 : ((x == x) == true : Bool) = (nat_lit 25, true).snd) (h35 : ((iI (wrapF IntKind.i64 (gg - last))) : AV) = (iI (J))) (h36 : ((x == x) == true : Bool) = (nat_lit 26, true).snd) (h37 : (x == x : Bool) = true) (h38 : ((J == J) == true : Bool) = (nat_lit 29, true).snd) (h39 : COut E 0 [] 14 [] (iB true) []) (h41 : (J == J : Bool) = true) {Φ : Res → Prop} (ho : ∀ j, OutK E 0 0 (p12z_end s o l v n0 n1 n2 n3 a b y z w d t0 last cnt tt tm r0 r1 r2 r3 g u h k x x2 gg J r4 i n C j) Φ) (j : Nat → Value) : OutK E 0 0 (l12 s o l v n0 n1 n2 n3 a b y z w d t0 last cnt tt tm r0 r1 r2 r3 g u h k x x2 gg J r4 i n C j) Φ :=
  outK_seg hE (R0_ok hE) [.run 3, (.cond false), .run 2, (.ops [(1, (.rn (iI (u)))), (4, (.rn (iI (n1)))), (5, (.quo (r4))), (6, (.rn (iI (gg))))] []), .run 1, (.ops [(2, (.rn (iI (u)))), (4, (.c0 (.tup [(.agg [(.v (.int .i64 (u))), (.v (.int .i64 (r4))), (.v (.int .i64 0)), (.v (.int .i64 (z)))]), (.one (.v (.int .i64 (J)))), (.one (.v (.int .i64 0)))])))] []), .run 1, (.ops [(2, (.rn (iI (u)))), (3, (.c0 (.tup [(.one (.v (.int .i64 (gg)))), (.one (.v (.int .i64 0)))])))] []), .run 1, (.ops [(2, (.rn (iI (h)))), (3, (.c0 (.tup [(.one (.v (.int .i64 (x)))), (.one (.v (.int .i64 0)))])))] []), .run 1, (.ops [(18, (.rn (iI (x)))), (25, (.rn (iI (J)))), (29, (.c0 (iB true))), (5, (.pk true)), (9, (.pk true)), (14, (.pk true)), (20, (.pk true)), (27, (.pk true)), (30, (.pk true))] [(3, true), (4, true), (7, true), (8, true), (11, true), (12, true), (13, true), (16, true), (17, true), (18, true), (19, true), (22, true), (23, true), (24, true), (25, true), (26, true), (29, true)])] [4] (s' := fun j => ⟨[(.some ⟨[(.v (.int .u16 (n0))), (.v (.int .u16 (n1))), (.v (.int .u16 (n2))), (.v (.int .u16 (n3)))], 4, 131, true, .cells⟩), (.some ⟨[(.v (.int .i64 (b))), (.v (.int .i64 (d))), (.v (.int .i64 (y))), (.v (.int .i64 (z)))], 4, 106, true, .cells⟩), (.some ⟨[(.v (.int .i64 (u))), (.v (.int .i64 (r4))), (.v (.int .i64 0)), (.v (.int .i64 (z)))], 4, 106, true, .cells⟩)], [(.code .ret)], mkT j [(4, (iB true))] 272 0⟩) (fun j => by kernel_rfl) (aP h0 <| aP h1 <| aP h2 <| aP h3 <| aP h4 <| aP h5 <| aP h6 <| aP h7 <| aN <| aP h9 <| aP h10 <| aN <| aP h12 <| aP h13 <| aN <| aP (rfl : (true : Bool) = true) <| aP (rfl : (true : Bool) = true) <| aP (rfl : (true : Bool) = true) <| aP (rfl : (true : Bool) = true) <| aP (rfl : (true : Bool) = true) <| aP (rfl : (true : Bool) = true) <| aP (rfl : (true : Bool) = true) <| aP (rfl : (true : Bool) = true) <| aP (rfl : (true : Bool) = true) <| aP (rfl : (true : Bool) = true) <| aP h25 <| aP h26 <| aP h27 <| aP h28 <| aP h29 <| aP h30 <| aP h31 <| aP h32 <| aP h33 <| aP h34 <| aP h35 <| aP h36 <| aP h37 <| aP h38 <| aP h39 <| aN <| aP h41 <| aZ)
    fun j => outK_gc [] (by decide) (by kernel_rfl) (by kernel_rfl) (by kernel_rfl) (ho j)

/-! Quotients. -/
theorem flr_div {t w : Int} (hw : 0 < w) : flr t w = t / w := by
  have e := Int.tdiv_mul_add_tmod t w
  have b1 := Int.tmod_lt_of_pos t hw
  have b2 : -w < t.tmod w := by
    have := Int.tmod_lt_of_pos (-t) hw
    rw [Int.neg_tmod] at this
    omega
  unfold flr
  symm
  by_cases c : t.tmod w < 0
  · rw [if_pos c]
    refine ((Int.ediv_emod_unique (r := t.tmod w + w) hw).2 ⟨?_, by omega, by omega⟩).1
    rw [Int.mul_sub, Int.mul_comm w]
    omega
  · rw [if_neg c]
    refine ((Int.ediv_emod_unique (r := t.tmod w) hw).2 ⟨?_, by omega, by omega⟩).1
    rw [Int.mul_comm w]
    omega
theorem succ_div {k w : Int} (hw : 2 ≤ w) : (k + 1) / w = k / w + if (k + 1).tmod w = 0 then 1 else 0 := by
  have e := Int.mul_ediv_add_emod k w
  have b1 := Int.emod_nonneg k (show w ≠ 0 by omega)
  have b2 := Int.emod_lt_of_pos k (show 0 < w by omega)
  generalize k / w = q at e ⊢
  generalize k % w = r at e b1 b2
  have hd : (k + 1).tmod w = 0 ↔ (k + 1) % w = 0 := by
    rw [← Int.dvd_iff_emod_eq_zero, ← Int.dvd_iff_tmod_eq_zero]
  by_cases c : r + 1 = w
  · have u := (Int.ediv_emod_unique (a := k + 1) (r := 0) (q := q + 1) (show 0 < w by omega)).2 ⟨by rw [Int.mul_add]; omega, by omega, by omega⟩
    rw [u.1, if_pos (hd.2 u.2)]
  · have u := (Int.ediv_emod_unique (a := k + 1) (r := r + 1) (q := q) (show 0 < w by omega)).2 ⟨by omega, by omega, by omega⟩
    rw [u.1, if_neg (fun h => by have := hd.1 h; rw [u.2] at this; omega)]
    omega
theorem div_two {a c w : Int} (h0 : a ≤ c) (h1 : c ≤ a + 2) (hw : 2 ≤ w) : a / w ≤ c / w ∧ c / w ≤ a / w + 1 := by
  have e := Int.mul_ediv_add_emod a w
  have b1 := Int.emod_nonneg a (show w ≠ 0 by omega)
  have b2 := Int.emod_lt_of_pos a (show 0 < w by omega)
  refine ⟨Int.ediv_le_ediv (by omega) h0, ?_⟩
  have : c / w < a / w + 2 := Int.ediv_lt_of_lt_mul (by omega) (by rw [Int.add_mul, Int.mul_comm (a / w)]; omega)
  omega
/-! The ticks of a slewed clock. -/
structure Sl (b d y z w : Int) : Prop where
  b0 : 0 ≤ b
  b1 : b ≤ 99980200
  y0 : -40 ≤ y
  y1 : y ≤ 40
  z0 : z = 2 ∨ z = 3 ∨ z = 4 ∨ z = 5
  w0 : 2 ≤ w
  w1 : w ≤ 60
  d0 : -20000 ≤ d
  d1 : d ≤ 20000
theorem Sl.chk {b d y z w : Int} (h : Sl b d y z w) : chkC b d y z = 0 := by
  obtain ⟨h1, h2, h3, h4, h5, h6, h7, h8, h9⟩ := h
  unfold chkC rngI
  rw [if_neg (by omega), if_neg (by omega), if_neg (by omega), if_neg (by omega)]
  rfl
theorem Sl.chkT {b d y z w t : Int} (h : Sl b d y z w) (h0 : b ≤ t) (h1 : t ≤ b + 260) : chkT b d y z t = 0 :=
  chkT_of h.chk (by have := h.b0; omega) (by have := h.b1; omega) h0
theorem Sl.at {b d y z w : Int} (_h : Sl b d y z w) {t : Int} (h0 : b ≤ t) : tmC b d y z t = t + d + (if y < 0 then -(if (t - b) / z < -y then (t - b) / z else -y) else (if (t - b) / z < y then (t - b) / z else y)) := by
  unfold tmC
  rw [Int.tdiv_eq_ediv_of_nonneg (by omega)]
  split <;> omega
theorem Sl.step {b d y z w : Int} (h : Sl b d y z w) {t : Int} (h0 : b < t) : tmC b d y z (t - 1) ≤ tmC b d y z t ∧ tmC b d y z t ≤ tmC b d y z (t - 1) + 2 := by
  rw [h.at (by omega), h.at (by omega)]
  rcases h.z0 with rfl | rfl | rfl | rfl <;> (repeat' split) <;> omega
theorem Sl.first {b d y z w : Int} (h : Sl b d y z w) : tmC b d y z b = b + d := by
  rw [h.at (by omega)]
  have := h.y0
  rcases h.z0 with rfl | rfl | rfl | rfl <;> (repeat' split) <;> omega
theorem Sl.last {b d y z w : Int} (h : Sl b d y z w) : tmC b d y z (b + 200) = b + d + 200 + y := by
  rw [h.at (by omega)]
  have := h.y0
  have := h.y1
  rcases h.z0 with rfl | rfl | rfl | rfl <;> (repeat' split) <;> omega
theorem Sl.bnds {b d y z w : Int} (h : Sl b d y z w) {t : Int} (h0 : b ≤ t) (h1 : t ≤ b + 260) : -100000 ≤ tmC b d y z t ∧ tmC b d y z t ≤ 100100000 := by
  rw [h.at h0]
  have a1 := h.b0; have a2 := h.b1; have a3 := h.y0; have a4 := h.y1; have a5 := h.d0; have a6 := h.d1
  rcases h.z0 with rfl | rfl | rfl | rfl <;> (repeat' split) <;> omega
/-- how many intervals have begun -/
theorem Sl.count {b d y z w : Int} (h : Sl b d y z w) (i : Nat) : ((bL b d y z w b (i + 1 + 1)).length : Int) = (bL b d y z w b (i + 1)).length + (tmC b d y z (b + i + 1) / w - tmC b d y z (b + i) / w) := by
  have hs := h.step (t := b + i + 1) (by omega)
  rw [show b + (i : Int) + 1 - 1 = b + i by omega] at hs
  have hd := div_two hs.1 hs.2 h.w0
  have e : bL b d y z w b (i + 1 + 1) = bL b d y z w b (i + 1) ++ if bnd b d y z w (b + (i + 1 : Nat)) then [b + ((i + 1 : Nat) : Int)] else [] := rfl
  rw [e, show b + ((i + 1 : Nat) : Int) = b + i + 1 by omega]
  unfold bnd
  have hw := h.w0
  rw [flr_div (by omega), flr_div (by omega), show b + (i : Int) + 1 - 1 = b + i by omega, decide_eq_true (show b + (i : Int) + 1 > b by omega), Bool.true_and, List.length_append]
  by_cases c : tmC b d y z (b + i + 1) / w > tmC b d y z (b + i) / w
  · rw [decide_eq_true c, if_pos rfl]; simp only [List.length_singleton]; omega
  · rw [decide_eq_false c, if_neg (by decide)]; simp only [List.length_nil]; omega
theorem bL_asc (s o l v w f : Int) : ∀ k, (bL s o l v w f k).Pairwise (· < ·) ∧ ∀ x ∈ bL s o l v w f k, s < x ∧ x < f + k
  | 0 => ⟨List.Pairwise.nil, fun x hx => by cases hx⟩
  | k + 1 => by
    obtain ⟨h1, h2⟩ := bL_asc s o l v w f k
    have e : bL s o l v w f (k + 1) = bL s o l v w f k ++ if bnd s o l v w (f + k) then [f + (k : Int)] else [] := rfl
    rw [e]
    by_cases c : bnd s o l v w (f + k) = true
    · rw [if_pos c]
      have hc : s < f + k := by
        unfold bnd at c
        rw [Bool.and_eq_true, decide_eq_true_eq] at c
        exact c.1
      refine ⟨List.pairwise_append.2 ⟨h1, List.pairwise_singleton _ _, fun x hx y hy => ?_⟩, fun x hx => ?_⟩
      · rw [List.mem_singleton] at hy
        have := (h2 x hx).2
        omega
      · rcases List.mem_append.1 hx with hx | hx
        · have := h2 x hx; omega
        · rw [List.mem_singleton] at hx; omega
    · rw [if_neg c, List.append_nil]
      exact ⟨h1, fun x hx => by have := h2 x hx; omega⟩
/-! The law's loops. -/
abbrev EN12 : Res → Prop := Go.Ev.Ends E Tryz.f12 (iB true) []
theorem in12 (hE : EnvOk E) {n0 n1 n2 n3 b y z w d t0 tt tm : Int} (h : Sl b d y z w) (ht0 : -1000000 ≤ tm) (ht1 : tm ≤ 1000000000) (htt : 0 ≤ tt) (htt1 : tt ≤ 1000000000) :
    ∀ (m : Nat) (k cnt : Int), k + m = tm + 1 → -1000000 ≤ k → 0 ≤ cnt → cnt + m ≤ 1000000 → (∀ j, OutK E 0 0 (q12 0 0 0 0 (n0) (n1) (n2) (n3) 0 (b) (y) (z) (w) (d) (t0) (tm) (cnt + (tm / w - (k - 1) / w)) (tt + 1) 0 0 0 0 0 0 0 0 0 0 0 0 0 0 0 0 [] j) EN12) → ∀ j, OutK E 0 0 (r12 0 0 0 0 (n0) (n1) (n2) (n3) 0 (b) (y) (z) (w) (d) (t0) 0 (cnt) (tt) (tm) 0 0 0 0 0 0 0 (k) 0 0 0 0 0 0 0 [] j) EN12
  | 0, k, cnt, hk, hk0, hc, hc1, ho, j => by
    rw [show k - 1 = tm by omega, Int.sub_self, Int.add_zero] at ho
    exact p12e hE 0 0 0 0 (n0) (n1) (n2) (n3) 0 (b) (y) (z) (w) (d) (t0) 0 (cnt) (tt) (tm) 0 0 0 0 0 0 (tt + 1) (k) 0 0 0 0 0 0 0 [] (decide_eq_false (by omega)) (iIe (wrap_id (by omega) (by omega))) ho j
  | m + 1, k, cnt, hk, hk0, hc, hc1, ho, j => by
    have hw := h.w0
    have sd := succ_div (k := k - 1) hw
    rw [Int.sub_add_cancel] at sd
    by_cases ht : k.tmod w = 0
    · rw [if_pos ht] at sd
      refine p12h hE 0 0 0 0 (n0) (n1) (n2) (n3) 0 (b) (y) (z) (w) (d) (t0) 0 (cnt) (tt) (tm) 0 0 0 0 0 0 (k + 1) (k) (cnt + 1) 0 0 0 0 0 0 [] (decide_eq_true (by omega)) (by omega) ht (iIe (wrap_id (by omega) (by omega))) (iIe (wrap_id (by omega) (by omega))) (in12 hE h ht0 ht1 htt htt1 m (k + 1) (cnt + 1) (by omega) (by omega) (by omega) (by omega) ?_) j
      rw [Int.add_sub_cancel, show cnt + 1 + (tm / w - k / w) = cnt + (tm / w - (k - 1) / w) by omega]
      exact ho
    · rw [if_neg ht] at sd
      refine p12m hE 0 0 0 0 (n0) (n1) (n2) (n3) 0 (b) (y) (z) (w) (d) (t0) 0 (cnt) (tt) (tm) 0 0 0 0 _ 0 (k + 1) (k) 0 0 0 0 0 0 0 [] (decide_eq_true (by omega)) (by omega) rfl (beq_eq_false_iff_ne.2 ht) (iIe (wrap_id (by omega) (by omega))) (in12 hE h ht0 ht1 htt htt1 m (k + 1) cnt (by omega) (by omega) (by omega) (by omega) ?_) j
      rw [Int.add_sub_cancel, show cnt + (tm / w - k / w) = cnt + (tm / w - (k - 1) / w) by omega]
      exact ho
theorem K51o (hE : EnvOk E) {s o l v t : Int} (h : chkT s o l v t = 0) : COut E 0 [] 51 [clA s o l v, iI t] (.tup [.one (.v (.int .i64 (tmC s o l v t))), .one (.v (.int .i64 0))]) [] := by
  have k := K51 hE s o l v t
  rw [if_pos h, h] at k
  exact k
theorem lp12 (hE : EnvOk E) {n0 n1 n2 n3 b y z w d t0 : Int} (h : Sl b d y z w) (c : Nat → Int) (hc : ∀ i : Nat, c (i + 1) = c i + (tmC b d y z (b + i + 1) / w - tmC b d y z (b + i) / w)) (hc0 : ∀ i, 0 ≤ c i ∧ c i ≤ i + 1) (la en : Int) (hla : la = tmC b d y z (b + 200)) (hen : en = b + 201) (c2 : Int) (hc2 : c2 = c 200)
    (hx : ∀ j, OutK E 0 0 (q12 0 0 0 0 (n0) (n1) (n2) (n3) 0 (b) (y) (z) (w) (d) (t0) (la) (c2) (en) 0 0 0 0 0 0 0 0 0 0 0 0 0 0 0 0 [] j) EN12) :
    ∀ m i : Nat, m + i = 200 → ∀ (x t : Int), x = tmC b d y z (b + i) → t = b + i + 1 → ∀ j, OutK E 0 0 (q12 0 0 0 0 (n0) (n1) (n2) (n3) 0 (b) (y) (z) (w) (d) (t0) (x) (c i) (t) 0 0 0 0 0 0 0 0 0 0 0 0 0 0 0 0 [] j) EN12
  | 0, i, hk, x, t, ex, et, j => by
    have e : i = 200 := by omega
    have e1 : x = la := by rw [ex, hla, e]; rfl
    have e2 : t = en := by omega
    have e3 : c i = c2 := by rw [hc2, e]
    rw [e1, e2, e3]
    exact hx j
  | m + 1, i, hk, la0, tt0, ex, et, j => by
    have ih := lp12 hE h c hc hc0 la en hla hen c2 hc2 hx m (i + 1) (by omega) (tmC b d y z (b + i + 1)) (tt0 + 1) (by rw [show b + ((i + 1 : Nat) : Int) = b + i + 1 by omega]) (by omega)
    have hs := h.step (t := b + i + 1) (by omega)
    rw [show b + (i : Int) + 1 - 1 = b + i by omega, ← ex] at hs
    have hb0 := h.b0
    have hb1 := h.b1
    have k51 : COut E 0 [] 51 [clA b d y z, iI tt0] (.tup [.one (.v (.int .i64 (tmC b d y z (b + i + 1)))), .one (.v (.int .i64 0))]) [] := by
      rw [et]
      exact K51o hE (h.chkT (t := b + i + 1) (by omega) (by omega))
    have hB := h.bnds (t := b + i + 1) (by omega) (by omega)
    have hBl := h.bnds (t := b + i) (by omega) (by omega)
    have hci := hc0 i
    rw [hc i, ← ex] at ih
    rw [← ex] at hBl
    clear hx
    generalize tmC b d y z (b + i + 1) = tm at k51 hB hs ih
    have h1 : decide (tm < la0) = false := decide_eq_false (by omega)
    have h2 : decide (tm > la0 + 2) = false := decide_eq_false (by omega)
    generalize c i = ci at ih hci ⊢
    have hin := in12 (n0 := n0) (n1 := n1) (n2 := n2) (n3 := n3) (t0 := t0) (tt := tt0) (tm := tm) hE h (by omega) (by omega) (by omega) (by omega) (tm - la0).toNat (la0 + 1) ci (by omega) (by omega) (by omega) (by omega)
    rw [show la0 + 1 - 1 = la0 by omega] at hin
    exact p12s hE 0 0 0 0 (n0) (n1) (n2) (n3) 0 (b) (y) (z) (w) (d) (t0) (la0) (ci) (tt0) (tm) 0 0 0 0 0 (b + 200) 0 (la0 + 1) 0 (la0 + 2) 0 0 0 0 0 [] (iIe (wrap_id (by omega) (by omega))) (decide_eq_true (by omega)) k51 (by rw [h1]; rfl) (by rw [h1]; rfl) (by rw [h1]; rfl) (iIe (wrap_id (by omega) (by omega))) (by rw [h1]; rfl) h1 h2 (iIe (wrap_id (by omega) (by omega))) (hin ih) j
theorem lq12 (hE : EnvOk E) {n0 n1 n2 n3 b y z w d t0 last : Int} (h : Sl b d y z w) (L : List Int) (hp : L.Pairwise (· < ·)) (hm : ∀ x ∈ L, b < x ∧ x < b + 201) (hln : L.length ≤ 201) (hx : ∀ j, OutK E 0 0 (l12 0 0 0 0 (n0) (n1) (n2) (n3) 0 (b) (y) (z) (w) (d) (t0) (last) 0 0 0 0 0 0 0 0 0 0 0 0 0 0 0 0 (L.length) (L.length) (iD L) j) EN12) :
    ∀ m i : Nat, m + i = L.length → ∀ j, OutK E 0 0 (l12 0 0 0 0 (n0) (n1) (n2) (n3) 0 (b) (y) (z) (w) (d) (t0) (last) 0 0 0 0 0 0 0 0 0 0 0 0 0 0 0 0 (i) (L.length) (iD L) j) EN12
  | 0, i, hk, j => by
    have e : i = L.length := by omega
    rw [e]
    exact hx j
  | m + 1, i, hk, j => by
    have ih := lq12 (last := last) hE h L hp hm hln hx m (i + 1) (by omega)
    have hlt : i < L.length := by omega
    have hx : L[i]? = some L[i] := List.getElem?_eq_getElem hlt
    have hxm := hm _ (List.getElem_mem hlt)
    have hb0 := h.b0
    have hb1 := h.b1
    have h1 : decide (L[i] ≤ b) = false := decide_eq_false (by omega)
    have h2 : decide (L[i] > b + 200) = false := decide_eq_false (by omega)
    cases i with
    | zero =>
      have h3 : decide (Int.ofNat 0 > (0 : Int)) = false := by decide
      exact p12l0 hE 0 0 0 0 (n0) (n1) (n2) (n3) 0 (b) (y) (z) (w) (d) (t0) (last) 0 0 0 0 0 0 0 0 (b + 200) 0 0 (L[0]) 0 0 0 0 (0) (L.length) (iD L) (decide_eq_true (by simp only [Int.ofNat_eq_natCast]; omega)) ⟨(by simp only [Int.ofNat_eq_natCast]; omega), (by simp only [Int.ofNat_eq_natCast]; omega)⟩ (Nat.mul_one _) (getI hx) (by rw [h1]; rfl) (by rw [h1]; rfl) (by rw [h1]; rfl) (iIe (wrap_id (by omega) (by omega))) (by rw [h1]; rfl) h1 (by rw [h2]; rfl) (by rw [h2]; rfl) (by rw [h2]; rfl) (by rw [h3]; rfl) (by rw [h3]; rfl) (by rw [h3]; rfl) (by rw [h3]; rfl) (by rw [h3]; rfl) (by rw [h3]; rfl) (by rw [h3]; rfl) (by rw [h2]; rfl) h3 h2 (iIn 0 (by omega)) ih j
    | succ i =>
      have h3 : decide (Int.ofNat (i + 1) > (0 : Int)) = true := decide_eq_true (by simp only [Int.ofNat_eq_natCast]; omega)
      have hx2 : L[i + 1 - 1]? = some L[i] := List.getElem?_eq_getElem (by omega)
      have hlt2 := List.pairwise_iff_getElem.1 hp i (i + 1) (by omega) hlt (by omega)
      exact p12l1 hE 0 0 0 0 (n0) (n1) (n2) (n3) 0 (b) (y) (z) (w) (d) (t0) (last) 0 0 0 0 0 0 0 0 (b + 200) 0 0 (L[i + 1]) (L[i]) 0 0 0 (i + 1) (L.length) (iD L) (decide_eq_true (by simp only [Int.ofNat_eq_natCast]; omega)) ⟨(by simp only [Int.ofNat_eq_natCast]; omega), (by simp only [Int.ofNat_eq_natCast]; omega)⟩ (Nat.mul_one _) (getI hx) (by rw [h1]; rfl) (by rw [h1]; rfl) (by rw [h1]; rfl) (iIe (wrap_id (by omega) (by omega))) (by rw [h1]; rfl) h1 (by rw [h2]; rfl) (by rw [h2]; rfl) (by rw [h2]; rfl) (by rw [h3]; rfl) (by rw [h3]; rfl) (by rw [h3]; rfl) (by rw [h3]; rfl) (iIe (by rw [wrap_id (by simp only [Int.ofNat_eq_natCast]; omega) (by simp only [Int.ofNat_eq_natCast]; omega)]; simp only [Int.ofNat_eq_natCast]; omega)) (by rw [h3]; rfl) ⟨(by simp only [Int.ofNat_eq_natCast]; omega), (by simp only [Int.ofNat_eq_natCast]; omega)⟩ (Nat.mul_one _) (by rw [h3]; rfl) (getI hx2) (by rw [h3]; rfl) (by rw [h2]; rfl) h3 h2 (decide_eq_false (by omega)) (iIn (i + 1) (by omega)) ih j
/-- a clock that is set -/
theorem set_at {u r z t : Int} (hz : 2 ≤ z) (h0 : u ≤ t) : tmC u r 0 z t = t + r := by
  unfold tmC
  rw [if_neg (by omega), Int.tdiv_eq_ediv_of_nonneg (by omega)]
  have := Int.ediv_nonneg (show 0 ≤ t - u by omega) (show 0 ≤ z by omega)
  rw [if_neg (by omega), Int.add_zero]
theorem slwFin (hE : EnvOk E) (hA : COut E 0 [] 14 [] (iB true) []) (s o l v n0 n1 n2 n3 b y z w : Int) (g1 : 0 ≤ n1 ∧ n1 < 65536) (hc : chkC s o l v = 0) (ho : -10000 ≤ o ∧ o ≤ 10000) (hs : s ≤ b) (hb : b ≤ 99980200) (y0 : -40 ≤ y) (y1 : y ≤ 40) (hz : z = 2 ∨ z = 3 ∨ z = 4 ∨ z = 5) (w0 : 2 ≤ w) (w1 : w ≤ 60) (m4 : 0 ≤ n1.tmod 9000 ∧ n1.tmod 9000 < 9000) : ∃ d t0 : Int, COut E 0 [] 53 [clA s o l v, iI b, iI y, iI z] (.tup [.agg [.v (.int .i64 b), .v (.int .i64 d), .v (.int .i64 y), .v (.int .i64 z)], .one (.v (.int .i64 0))]) [] ∧
    COut E 0 [] 51 [clA s o l v, iI b] (.tup [.one (.v (.int .i64 t0)), .one (.v (.int .i64 0))]) [] ∧ COut E 0 [] 51 [clA b d y z, iI b] (.tup [.one (.v (.int .i64 t0)), .one (.v (.int .i64 0))]) [] ∧ COut E 0 [] 58 [clA b d y z] (iI 0) [] ∧
    ∀ j, OutK E 0 0 (q12 0 0 0 0 (n0) (n1) (n2) (n3) 0 (b) (y) (z) (w) (d) (t0) (t0) (0) (b + 1) 0 0 0 0 0 0 0 0 0 0 0 0 0 0 0 0 [] j) EN12 := by
  obtain ⟨cs, co, cl, cv⟩ := chkC0 hc
  have ct : chkT s o l v b = 0 := chkT_of hc (by omega) (by omega) hs
  have hT : -12000 ≤ tmC s o l v b - b ∧ tmC s o l v b - b ≤ 12000 := by
    have hq := stepsB (v := v) hs cs.1 (show b ≤ 100000000 by omega) (by omega)
    unfold tmC
    repeat' split
    all_goals omega
  obtain ⟨T, eT⟩ : ∃ T, T = tmC s o l v b := ⟨_, rfl⟩
  rw [← eT] at hT
  have ew : wrapF .i64 (T - b) = T - b := wrap_id (by omega) (by omega)
  have h : Sl b (T - b) y z w := ⟨by omega, hb, y0, y1, hz, w0, w1, by omega, by omega⟩
  have k53 := K53o hE s o l v b y z (by unfold eThr rngI; rw [ct, if_neg (by omega), if_neg (by omega)]; rfl) ct (by rw [← eT, ew]; unfold rngI; rw [if_neg (by omega)])
  rw [← eT, ew] at k53
  have k51a := K51o hE ct
  rw [← eT] at k51a
  have k51b := K51o hE (h.chkT (t := b) (by omega) (by omega))
  rw [h.first, show b + (T - b) = T by omega] at k51b
  have k58 := K58 hE b (T - b) y z
  rw [h.chk] at k58
  refine ⟨T - b, T, k53, k51a, k51b, k58, ?_⟩
  obtain ⟨d, ed⟩ : ∃ d, d = T - b := ⟨_, rfl⟩
  rw [← ed] at h ⊢
  have hl := h.last
  obtain ⟨L, eL⟩ : ∃ L, L = bL b d y z w b (200 + 1) := ⟨_, rfl⟩
  have hlen : L.length ≤ 201 := by rw [eL]; exact bL_len b d y z w b (200 + 1)
  have hasc := bL_asc b d y z w b (200 + 1)
  rw [← eL] at hasc
  obtain ⟨c, ec⟩ : ∃ c : Nat → Int, c = fun i => ((bL b d y z w b (i + 1)).length : Int) := ⟨_, rfl⟩
  have c0 : c 0 = 0 := by
    rw [ec]
    show ((bL b d y z w b 1).length : Int) = 0
    rw [bL_nil b d y z w b 1 (by omega)]
    rfl
  have hcs : ∀ i : Nat, c (i + 1) = c i + (tmC b d y z (b + i + 1) / w - tmC b d y z (b + i) / w) := fun i => by rw [ec]; exact h.count i
  have hcb : ∀ i, 0 ≤ c i ∧ c i ≤ i + 1 := fun i => by
    have := bL_len b d y z w b (i + 1)
    rw [ec]
    simp only
    omega
  have hc2 : (L.length : Int) = c 200 := by rw [ec, eL]
  have e0 : eB b d y z b (b + 201) w = 0 := by
    unfold eB chkTk rngI
    rw [h.chk, if_neg (by omega), if_neg (by omega), if_neg (by rw [wrap_id (by omega) (by omega)]; omega), if_neg (by omega)]
    rfl
  have k59 := K59 hE b d y z b (b + 201) w e0
  have eLL : bB b d y z b (b + 201) w = L := by
    rw [eL]
    show bL b d y z w b (b + 201 - b).toNat = _
    rw [show (b + 201 - b).toNat = 200 + 1 by omega]
  rw [eLL] at k59
  clear eL eLL ec
  have hr4 : n1.tmod 9000 = n1.tmod 9000 := rfl
  obtain ⟨r4, er4⟩ : ∃ r4, r4 = n1.tmod 9000 := ⟨_, rfl⟩
  have hes : eS b d y z (b + 200) (b + 200 + r4) = 0 := by
    rw [eS_eq]
    have e2 : eTwo b d y z (b + 200) (b + 200 + r4) = 0 := by
      unfold eTwo rngI
      rw [h.chkT (by omega) (by omega), if_neg (by omega)]
      rfl
    rw [if_pos e2, off_rng, wrap_id (by omega) (by omega)]
    unfold rngI
    rw [if_neg (show ¬ (b + 200 + r4 - (b + 200) < -1000000 ∨ 1000000 < b + 200 + r4 - (b + 200)) by omega)]
    rfl
  have k52 := K52o hE b d y z (b + 200) (b + 200 + r4) hes (h.chkT (by omega) (by omega))
  rw [show wrapF .i64 (b + 200 + r4 - (b + 200)) = r4 by rw [wrap_id (by omega) (by omega)]; omega, hl] at k52
  have hJ : wrapF .i64 (b + 200 + r4 - (b + d + 200 + y)) = b + 200 + r4 - (b + d + 200 + y) := wrap_id (by omega) (by omega)
  rw [hJ] at k52
  have cset : chkC (b + 200) r4 0 z = 0 := by
    unfold chkC rngI
    rw [if_neg (by omega), if_neg (by omega), if_neg (by omega), if_neg (by omega)]
    rfl
  have k51u := K51o hE (chkT_of cset (t := b + 200) (by omega) (by omega) (by omega))
  rw [set_at (by omega) (by omega)] at k51u
  have k51h := K51o hE (chkT_of cset (t := b + 260) (by omega) (by omega) (by omega))
  rw [set_at (by omega) (by omega), show b + 260 + r4 = b + 200 + r4 + 60 by omega] at k51h
  have hr4 : n1.tmod 9000 = r4 := er4.symm
  have hz : ∀ j, OutK E 0 0 (l12 0 0 0 0 (n0) (n1) (n2) (n3) 0 (b) (y) (z) (w) (d) (T) (b + d + 200 + y) 0 0 0 0 0 0 0 0 0 0 0 0 0 0 0 0 (L.length) (L.length) (iD L) j) EN12 := fun j =>
    p12z hE 0 0 0 0 (n0) (n1) (n2) (n3) 0 (b) (y) (z) (w) (d) (T) (b + d + 200 + y) 0 0 0 0 0 0 0 0 (b + 200) (b + 260) 0 (b + 200 + r4 + 60) 0 (b + 200 + r4) (b + 200 + r4 - (b + d + 200 + y)) (r4) (L.length) (L.length) (iD L) (decide_eq_false (by simp only [Int.ofNat_eq_natCast]; omega)) (iIe (wrap_id (by omega) (by omega))) (iIe (wrapS (by omega) (by omega))) (by decide) hr4 (iIe (wrap_id (by omega) (by omega))) (iIe (wrap_id (by omega) (by omega))) k52 (iIe (wrap_id (by omega) (by omega))) k51u (iIe (wrap_id (by omega) (by omega))) k51h (by simp) (by simp) (by simp) (iIe (wrap_id (by omega) (by omega))) (by simp) (by simp) (by simp) (by simp) (by simp) (by simp) (iIe hJ) (by simp) (by simp) (by simp) hA (by simp) (fun j => outK_ret (ends_ret (by kernel_rfl))) j
  have hq := lq12 (n0 := n0) (n1 := n1) (n2 := n2) (n3 := n3) (t0 := T) (last := b + d + 200 + y) hE h L hasc.1 (fun x hx => by have := hasc.2 x hx; omega) hlen hz L.length 0 (by omega)
  have hx : ∀ j, OutK E 0 0 (q12 0 0 0 0 (n0) (n1) (n2) (n3) 0 (b) (y) (z) (w) (d) (T) (tmC b d y z (b + 200)) ((L.length : Int)) (b + 201) 0 0 0 0 0 0 0 0 0 0 0 0 0 0 0 0 [] j) EN12 := fun j => by
    rw [hl]
    have hn : ((L.length : Int) != (L.length : Int)) = false := by simp
    exact p12x hE 0 0 0 0 (n0) (n1) (n2) (n3) 0 (b) (y) (z) (w) (d) (T) (b + d + 200 + y) ((L.length : Int)) (b + 201) 0 0 0 0 0 0 (b + 200) (b + 201) 0 (T + 200) 0 0 0 0 0 (L.length) (iD L) (iIe (by rw [wrap_id (by omega) (by omega)] <;> omega)) (decide_eq_false (by omega)) (iIe (by rw [wrap_id (by omega) (by omega)] <;> omega)) k59 (by rw [hn]; rfl) (by rw [hn]; rfl) (by rw [hn]; rfl) (iIe (by rw [wrap_id (by omega) (by omega)] <;> omega)) (by rw [hn]; rfl) (by rw [hn]; rfl) (iIe (by rw [wrap_id (by omega) (by omega)] <;> omega)) (by rw [hn]; rfl) hn (by simp) hq j
  have hq2 := lp12 (n0 := n0) (n1 := n1) (n2 := n2) (n3 := n3) (t0 := T) hE h c hcs hcb _ _ rfl rfl _ hc2 hx 200 0 rfl T (b + 1) (by rw [show b + ((0 : Nat) : Int) = b by omega, h.first]; omega) (by omega)
  rw [c0] at hq2
  exact hq2
/-- The law's run. -/
theorem slwRun (hE : EnvOk E) (hA : COut E 0 [] 14 [] (iB true) []) (s o l v n0 n1 n2 n3 : Int) (g0 : 0 ≤ n0 ∧ n0 < 65536) (g1 : 0 ≤ n1 ∧ n1 < 65536) (g2 : 0 ≤ n2 ∧ n2 < 65536) (g3 : 0 ≤ n3 ∧ n3 < 65536) : COut E 0 [] 12 [clA s o l v, .e (.agg [.v (.int .u16 n0), .v (.int .u16 n1), .v (.int .u16 n2), .v (.int .u16 n3)])] (iB true) [] := by
  have k58s := K58 hE s o l v
  by_cases hg' : chkC s o l v = 0
  · obtain ⟨cs, co, cl, cv⟩ := chkC0 hg'
    rw [hg'] at k58s
    have e1 : IntKind.i64.wrap ((0 : Int) - o) = -o := by rw [Int.zero_sub]; exact wrapS (by omega) (by omega)
    have hg : ((0 : Int) != 0) = false := rfl
    by_cases hh' : (if -o > o then -o else o) > 10000
    · have hh : decide ((if -o > o then -o else o) > (10000 : Int)) = true := decide_eq_true hh'
      exact cOut_start Tryz.func12 rfl (p12T2 hE (s) (o) (l) (v) (n0) (n1) (n2) (n3) 0 (0) (0) (0) (0) (0) (0) 0 0 0 0 0 0 0 0 (0) (-o) (if -o > o then -o else o) 0 0 0 0 0 0 0 0 [] k58s (by rw [hg]; rfl) (by rw [hg]; rfl) (by rw [hg]; rfl) (by rw [hg]; rfl) (by rw [hg]; rfl) (iIe e1) (by rw [hg]; rfl) rfl (by rw [hg]; rfl) hg (by rw [hh]; rfl) (by rw [hh]; rfl) (by rw [hh]; rfl) hh hA (fun j => outK_ret (ends_ret (by kernel_rfl))) fun _ => undef)
    · have hh : decide ((if -o > o then -o else o) > (10000 : Int)) = false := decide_eq_false hh'
      by_cases hs' : s > 99980000
      · have hs : decide (s > (99980000 : Int)) = true := decide_eq_true hs'
        exact cOut_start Tryz.func12 rfl (p12T3 hE (s) (o) (l) (v) (n0) (n1) (n2) (n3) 0 (0) (0) (0) (0) (0) (0) 0 0 0 0 0 0 0 0 (0) (-o) (if -o > o then -o else o) 0 0 0 0 0 0 0 0 [] k58s (by rw [hg]; rfl) (by rw [hg]; rfl) (by rw [hg]; rfl) (by rw [hg]; rfl) (by rw [hg]; rfl) (iIe e1) (by rw [hg]; rfl) rfl (by rw [hg]; rfl) hg (by rw [hh]; rfl) (by rw [hh]; rfl) (by rw [hh]; rfl) hh hs hA (fun j => outK_ret (ends_ret (by kernel_rfl))) fun _ => undef)
      · have hs : decide (s > (99980000 : Int)) = false := decide_eq_false hs'
        have ho : -10000 ≤ o ∧ o ≤ 10000 := by split at hh' <;> omega
        have m0 : 0 ≤ n0.tmod 100 ∧ n0.tmod 100 < 100 := ⟨Int.tmod_nonneg _ g0.1, Int.tmod_lt_of_pos _ (by decide)⟩
        have m1 : 0 ≤ n1.tmod 81 ∧ n1.tmod 81 < 81 := ⟨Int.tmod_nonneg _ g1.1, Int.tmod_lt_of_pos _ (by decide)⟩
        have m2 : 0 ≤ n2.tmod 4 ∧ n2.tmod 4 < 4 := ⟨Int.tmod_nonneg _ g2.1, Int.tmod_lt_of_pos _ (by decide)⟩
        have m3 : 0 ≤ n3.tmod 50 ∧ n3.tmod 50 < 50 := ⟨Int.tmod_nonneg _ g3.1, Int.tmod_lt_of_pos _ (by decide)⟩
        have m4 : 0 ≤ n1.tmod 9000 ∧ n1.tmod 9000 < 9000 := ⟨Int.tmod_nonneg _ g1.1, Int.tmod_lt_of_pos _ (by decide)⟩
        have fin := fun (b y z w : Int) (eb : b = s + n0.tmod 100) (ey : y = n1.tmod 81 - 40) (ez : z = 2 + n2.tmod 4) (ew : w = 2 + n3.tmod 50) => slwFin hE hA s o l v n0 n1 n2 n3 b y z w g1 hg' ho (by omega) (by omega) (by omega) (by omega) (by omega) (by omega) (by omega) m4
        obtain ⟨d, t0, k53, k51a, k51b, k58d, hfin⟩ := fin _ _ _ _ rfl rfl rfl rfl
        exact cOut_start Tryz.func12 rfl (p12M hE (s) (o) (l) (v) (n0) (n1) (n2) (n3) 0 (s + n0.tmod 100) (n1.tmod 81 - 40) (2 + n2.tmod 4) (2 + n3.tmod 50) (d) (t0) 0 0 (s + n0.tmod 100 + 1) 0 (n0.tmod 100) (n1.tmod 81) (n2.tmod 4) (n3.tmod 50) (0) (-o) (if -o > o then -o else o) 0 0 0 0 0 0 0 0 [] k58s (by decide) (by decide) (by decide) (by decide) (by decide) (iIe e1) (by decide) rfl (by decide) rfl (by rw [hh]; rfl) (by rw [hh]; rfl) (by rw [hh]; rfl) hh hs (iIe (wrapS (by omega) (by omega))) (by decide) rfl (iIe (wrap_id (by omega) (by omega))) (iIe (wrapS (by omega) (by omega))) (by decide) rfl (iIe (wrap_id (by omega) (by omega))) (iIe (wrapS (by omega) (by omega))) (by decide) rfl (iIe (wrap_id (by omega) (by omega))) (iIe (wrapS (by omega) (by omega))) (by decide) rfl (iIe (wrap_id (by omega) (by omega))) k53 k51a k51b (by simp) (by simp) k58d (by simp) (by simp) (iIe (wrap_id (by omega) (by omega))) hfin fun _ => undef)
  · have hg : (chkC s o l v != (0 : Int)) = true := bne_iff_ne.2 hg'
    exact cOut_start Tryz.func12 rfl (p12T1 hE (s) (o) (l) (v) (n0) (n1) (n2) (n3) 0 (0) (0) (0) (0) (0) (0) 0 0 0 0 0 0 0 0 _ 0 0 0 0 0 0 0 0 0 0 [] (K58 hE s o l v) (by rw [hg]; rfl) (by rw [hg]; rfl) (by rw [hg]; rfl) (by rw [hg]; rfl) (by rw [hg]; rfl) (by rw [hg]; rfl) (by rw [hg]; rfl) hg hA (fun j => outK_ret (ends_ret (by kernel_rfl))) fun _ => undef)
end
end Go.Proofs.YtbpghjmnbnknmaaGreatDoor

end

/-! SeEn -/
section
open Go Go.Ev
namespace Go.Proofs.YtbpghjmnbnknmaaGreatDoor
noncomputable section
set_option maxRecDepth 100000
set_option maxHeartbeats 20000000
def s46 (C : List DT) (n _i _N _N2 : Nat) (_a _b _c _d _e : Int) (_D _D2 : List AC) (_j : Nat → Value) : St := startK Tryz.f46 [] [(.e (.one (.dp (.s C n 5))))]
def s45 (C : List DT) (n _i _N _N2 : Nat) (_a _b _c _d _e : Int) (_D _D2 : List AC) (_j : Nat → Value) : St := startK Tryz.f45 [] [(.e (.one (.dp (.s C n 5)))), (.e (.one (.dp (.s C n 5))))]
def q46n (C : List DT) (n _i _N _N2 : Nat) (_a _b _c _d _e : Int) (_D _D2 : List AC) (j : Nat → Value) : St := ⟨[], [(.code (atC [1, 1, 0, 1, 0, 0] (bodyOf Tryz.f46))), (.inLoop (atC [1, 1, 0, 1, 0, 0] (bodyOf Tryz.f46))), (.inBlock 0), (.code (atC [1, 1, 1] (bodyOf Tryz.f46)))], mkT j [(3, (.e (.one (.v (.slice none 0 0))))), (6, (.e (.one (.dp (.s (C) (n) 5))))), (7, (iI (Int.ofNat n))), (8, (iI (Int.ofNat 0)))] 18 0⟩
def q46 (C : List DT) (n i N _N2 : Nat) (_a _b _c _d _e : Int) (D _D2 : List AC) (j : Nat → Value) : St := ⟨[some ⟨D, N, 60, false, .cells⟩], [(.code (atC [1, 1, 0, 1, 0, 0] (bodyOf Tryz.f46))), (.inLoop (atC [1, 1, 0, 1, 0, 0] (bodyOf Tryz.f46))), (.inBlock 0), (.code (atC [1, 1, 1] (bodyOf Tryz.f46)))], mkT j [(3, (.e (.one (.slc 0 0 i 5 i false)))), (6, (.e (.one (.dp (.s (C) (n) 5))))), (7, (iI (Int.ofNat n))), (8, (iI (Int.ofNat i)))] 18 0⟩
def q45 (C : List DT) (n i _N _N2 : Nat) (_a _b _c _d _e : Int) (_D _D2 : List AC) (j : Nat → Value) : St := ⟨[], [(.code (atC [1, 1, 0, 1, 0, 0] (bodyOf Tryz.f45))), (.inLoop (atC [1, 1, 0, 1, 0, 0] (bodyOf Tryz.f45))), (.inBlock 0), (.code (atC [1, 1, 1] (bodyOf Tryz.f45)))], mkT j [(0, (.e (.one (.dp (.s (C) (n) 5))))), (1, (.e (.one (.dp (.s (C) (n) 5))))), (5, (iI (Int.ofNat i)))] 26 0⟩
def p46a_end (C : List DT) (n _i _N _N2 : Nat) (_a _b _c _d _e : Int) (_D _D2 : List AC) (j : Nat → Value) : St := ⟨[], [(.code (atC [1, 1, 0, 1, 0, 0] (bodyOf Tryz.f46))), (.inLoop (atC [1, 1, 0, 1, 0, 0] (bodyOf Tryz.f46))), (.inBlock 0), (.code (atC [1, 1, 1] (bodyOf Tryz.f46)))], mkT j [(3, (.e (.one (.v (.slice none 0 0))))), (6, (.e (.one (.dp (.s (C) (n) 5))))), (7, (iI (Int.ofNat n))), (8, (iI 0))] 18 0⟩
theorem p46a (hE : EnvOk E) (C : List DT) (n i N N2 : Nat) (a b c d e : Int) (D D2 : List AC)  {Φ : Res → Prop} (ho : ∀ j, OutK E 0 0 (p46a_end C n i N N2 a b c d e D D2 j) Φ) (j : Nat → Value) : OutK E 0 0 (s46 C n i N N2 a b c d e D D2 j) Φ :=
  outK_seg hE (R0_ok hE) [.run 6, (.ops [(1, (.d .len))] []), .run 2] [3, 6, 7, 8] (ps := []) (fun j => by kernel_rfl) trivial
    ho
def p45a_end (C : List DT) (n _i _N _N2 : Nat) (_a _b _c _d _e : Int) (_D _D2 : List AC) (j : Nat → Value) : St := ⟨[], [(.code (atC [1, 1, 0, 1, 0, 0] (bodyOf Tryz.f45))), (.inLoop (atC [1, 1, 0, 1, 0, 0] (bodyOf Tryz.f45))), (.inBlock 0), (.code (atC [1, 1, 1] (bodyOf Tryz.f45)))], mkT j [(0, (.e (.one (.dp (.s (C) (n) 5))))), (1, (.e (.one (.dp (.s (C) (n) 5))))), (5, (iI 0))] 26 0⟩
theorem p45a (hE : EnvOk E) (C : List DT) (n i N N2 : Nat) (a b c d e : Int) (D D2 : List AC) (h0 : ((↑n : Int) != (↑n : Int) : Bool) = false) {Φ : Res → Prop} (ho : ∀ j, OutK E 0 0 (p45a_end C n i N N2 a b c d e D D2 j) Φ) (j : Nat → Value) : OutK E 0 0 (s45 C n i N N2 a b c d e D D2 j) Φ :=
  outK_seg hE (R0_ok hE) [.run 4, (.ops [(1, (.d .len)), (3, (.d .len))] []), (.cond false), .run 6] [0, 1, 5] (fun j => by kernel_rfl) (aP h0 <| aZ)
    ho
def p46f_end (C : List DT) (n _i _N _N2 : Nat) (a b c d e : Int) (_D _D2 : List AC) (j : Nat → Value) : St := ⟨[(.some ⟨[(.v (.int .i64 (a))), (.v (.int .i64 (b))), (.v (.int .i64 (c))), (.v (.int .i64 (d))), (.v (.int .i64 (e)))], 5, 60, false, .cells⟩)], [(.code (atC [1, 1, 0, 1, 0, 0] (bodyOf Tryz.f46))), (.inLoop (atC [1, 1, 0, 1, 0, 0] (bodyOf Tryz.f46))), (.inBlock 0), (.code (atC [1, 1, 1] (bodyOf Tryz.f46)))], mkT j [(3, (.e (.one (.slc 0 0 1 5 1 false)))), (6, (.e (.one (.dp (.s (C) (n) 5))))), (7, (iI (Int.ofNat n))), (8, (iI 1))] 18 0⟩
theorem p46f (hE : EnvOk E) (C : List DT) (n i N N2 : Nat) (a b c d e : Int) (D D2 : List AC) (h0 : (decide (Int.ofNat (nat_lit 0) < Int.ofNat n) : Bool) = true) (h1 : (0 : Int) ≤ Int.ofNat (nat_lit 0) ∧ Int.ofNat (nat_lit 0) < (↑n : Int)) (h3 : (takeL (dropL C (0 : Nat)) (5 : Nat) : Option (List DT)) = (.some [(.v (.int .i64 (a))), (.v (.int .i64 (b))), (.v (.int .i64 (c))), (.v (.int .i64 (d))), (.v (.int .i64 (e)))])) {Φ : Res → Prop} (ho : ∀ j, OutK E 0 0 (p46f_end C n i N N2 a b c d e D D2 j) Φ) (j : Nat → Value) : OutK E 0 0 (q46n C n i N N2 a b c d e D D2 j) Φ :=
  outK_seg hE (R0_ok hE) [.run 3, (.cond true), .run 4, (.ops [(1, (.d (.ldn [(.v (.int .i64 (a))), (.v (.int .i64 (b))), (.v (.int .i64 (c))), (.v (.int .i64 (d))), (.v (.int .i64 (e)))]))), (0, (.d (.ix 0)))] []), .run 4] [3, 6, 7, 8] (s' := fun j => ⟨[(.some ⟨[(.v (.int .i64 (a))), (.v (.int .i64 (b))), (.v (.int .i64 (c))), (.v (.int .i64 (d))), (.v (.int .i64 (e)))], 5, 68, true, .cells⟩), (.some ⟨[(.v (.int .i64 (a))), (.v (.int .i64 (b))), (.v (.int .i64 (c))), (.v (.int .i64 (d))), (.v (.int .i64 (e)))], 5, 60, true, .cells⟩), (.some ⟨[(.v (.int .i64 (a))), (.v (.int .i64 (b))), (.v (.int .i64 (c))), (.v (.int .i64 (d))), (.v (.int .i64 (e)))], 5, 60, false, .cells⟩)], [(.code (atC [1, 1, 0, 1, 0, 0] (bodyOf Tryz.f46))), (.inLoop (atC [1, 1, 0, 1, 0, 0] (bodyOf Tryz.f46))), (.inBlock 0), (.code (atC [1, 1, 1] (bodyOf Tryz.f46)))], mkT j [(3, (.e (.one (.slc 2 0 1 5 1 false)))), (6, (.e (.one (.dp (.s (C) (n) 5))))), (7, (iI (Int.ofNat n))), (8, (iI 1))] 18 0⟩) (fun j => by kernel_rfl) (aP h0 <| aP h1 <| aP (rfl : ((0 : Nat) : Nat) = (0 : Nat)) <| aP h3 <| aZ)
    fun j => outK_gc [2] (by decide) (by kernel_rfl) (by kernel_rfl) (by kernel_rfl) (ho j)
def p46x0_end (_C : List DT) (_n _i _N _N2 : Nat) (_a _b _c _d _e : Int) (_D _D2 : List AC) (j : Nat → Value) : St := ⟨[], [(.code .ret)], mkT j [(2, (.e (.one (.v (.slice none 0 0)))))] 18 0⟩
theorem p46x0 (hE : EnvOk E) (C : List DT) (n i N N2 : Nat) (a b c d e : Int) (D D2 : List AC) (h0 : (decide (Int.ofNat (nat_lit 0) < Int.ofNat n) : Bool) = false) {Φ : Res → Prop} (ho : ∀ j, OutK E 0 0 (p46x0_end C n i N N2 a b c d e D D2 j) Φ) (j : Nat → Value) : OutK E 0 0 (q46n C n i N N2 a b c d e D D2 j) Φ :=
  outK_seg hE (R0_ok hE) [.run 3, (.cond false), .run 3] [2] (fun j => by kernel_rfl) (aP h0 <| aZ)
    ho
def p46s_end (C : List DT) (n i _N N2 : Nat) (_a _b _c _d _e : Int) (_D D2 : List AC) (j : Nat → Value) : St := ⟨[(.some ⟨(D2), (N2), 60, false, .cells⟩)], [(.code (atC [1, 1, 0, 1, 0, 0] (bodyOf Tryz.f46))), (.inLoop (atC [1, 1, 0, 1, 0, 0] (bodyOf Tryz.f46))), (.inBlock 0), (.code (atC [1, 1, 1] (bodyOf Tryz.f46)))], mkT j [(3, (.e (.one (.slc 0 0 (i + 1) 5 (i + 1) false)))), (6, (.e (.one (.dp (.s (C) (n) 5))))), (7, (iI (Int.ofNat n))), (8, (iI (Int.ofNat (i + 1))))] 18 0⟩
theorem p46s (hE : EnvOk E) (C : List DT) (n i N N2 : Nat) (a b c d e : Int) (D D2 : List AC) (h0 : (decide (Int.ofNat i < Int.ofNat n) : Bool) = true) (h1 : (0 : Int) ≤ Int.ofNat i ∧ Int.ofNat i < (↑n : Int)) (h2 : ((Int.ofNat i).toNat * nat_lit 5 : Nat) = i.mul (nat_lit 5)) (h3 : (takeL (dropL C (i.mul (nat_lit 5))) (5 : Nat) : Option (List DT)) = (.some [(.v (.int .i64 (a))), (.v (.int .i64 (b))), (.v (.int .i64 (c))), (.v (.int .i64 (d))), (.v (.int .i64 (e)))])) (h4 : ¬i + 1 ≤ i) (h5 : (small (i + 1) (5 : Nat) (40 : Nat) : Bool) = true) (h6 : (N : Nat) = i * nat_lit 5) (h7 : (appL D ((fun x => AC.v (Value.int IntKind.i64 a) :: x) ((fun x => AC.v (Value.int IntKind.i64 b) :: x) ((fun x => AC.v (Value.int IntKind.i64 c) :: x) ((fun x => AC.v (Value.int IntKind.i64 d) :: x) ((fun x => AC.v (Value.int IntKind.i64 e) :: x) []))))) : List AC) = D2) (h9 : ((i + 1) * nat_lit 5 : Nat) = N2) (h10 : ((iI (wrapF IntKind.i64 (Int.ofNat i + (1 : Int)))) : AV) = (iI (Int.ofNat (i + 1)))) (g0 : FlatC (D2)) {Φ : Res → Prop} (ho : ∀ j, OutK E 0 0 (p46s_end C n i N N2 a b c d e D D2 j) Φ) (j : Nat → Value) : OutK E 0 0 (q46 C n i N N2 a b c d e D D2 j) Φ :=
  outK_seg hE (R0_ok hE) [.run 3, (.cond true), .run 4, (.ops [(1, (.d (.ldn [(.v (.int .i64 (a))), (.v (.int .i64 (b))), (.v (.int .i64 (c))), (.v (.int .i64 (d))), (.v (.int .i64 (e)))]))), (0, (.d (.ix (i.mul (nat_lit 5)))))] []), (.ops [(3, (.app (i + 1) (N2) (D2)))] []), .run 1, (.ops [(0, (.rn (iI (Int.ofNat (i + 1)))))] []), .run 1] [3, 6, 7, 8] (s' := fun j => ⟨[none, (.some ⟨[(.v (.int .i64 (a))), (.v (.int .i64 (b))), (.v (.int .i64 (c))), (.v (.int .i64 (d))), (.v (.int .i64 (e)))], 5, 68, true, .cells⟩), (.some ⟨[(.v (.int .i64 (a))), (.v (.int .i64 (b))), (.v (.int .i64 (c))), (.v (.int .i64 (d))), (.v (.int .i64 (e)))], 5, 60, true, .cells⟩), (.some ⟨(D2), (N2), 60, false, .cells⟩)], [(.code (atC [1, 1, 0, 1, 0, 0] (bodyOf Tryz.f46))), (.inLoop (atC [1, 1, 0, 1, 0, 0] (bodyOf Tryz.f46))), (.inBlock 0), (.code (atC [1, 1, 1] (bodyOf Tryz.f46)))], mkT j [(3, (.e (.one (.slc 3 0 (i + 1) 5 (i + 1) false)))), (6, (.e (.one (.dp (.s (C) (n) 5))))), (7, (iI (Int.ofNat n))), (8, (iI (Int.ofNat (i + 1))))] 18 0⟩) (fun j => by kernel_rfl) (aP h0 <| aP h1 <| aP h2 <| aP h3 <| aP h4 <| aP h5 <| aP h6 <| aP h7 <| aP (rfl : (i + 1 : Nat) = i + 1) <| aP h9 <| aP h10 <| aZ)
    fun j => outK_gcF [3] [true] (h' := [(.some ⟨(D2), (N2), 60, false, .cells⟩)]) (by decide) (by kernel_rfl) (by kernel_rfl) ⟨g0, trivial⟩ (by kernel_rfl) (ho j)
def p46x_end (_C : List DT) (_n i N _N2 : Nat) (_a _b _c _d _e : Int) (D _D2 : List AC) (j : Nat → Value) : St := ⟨[(.some ⟨(D), (N), 60, false, .cells⟩)], [(.code .ret)], mkT j [(2, (.e (.one (.slc 0 0 (i) 5 (i) false))))] 18 0⟩
theorem p46x (hE : EnvOk E) (C : List DT) (n i N N2 : Nat) (a b c d e : Int) (D D2 : List AC) (h0 : (decide (Int.ofNat i < Int.ofNat n) : Bool) = false) {Φ : Res → Prop} (ho : ∀ j, OutK E 0 0 (p46x_end C n i N N2 a b c d e D D2 j) Φ) (j : Nat → Value) : OutK E 0 0 (q46 C n i N N2 a b c d e D D2 j) Φ :=
  outK_seg hE (R0_ok hE) [.run 3, (.cond false), .run 3] [2] (fun j => by kernel_rfl) (aP h0 <| aZ)
    ho
def p45s_end (C : List DT) (n i _N _N2 : Nat) (_a _b _c _d _e : Int) (_D _D2 : List AC) (j : Nat → Value) : St := ⟨[], [(.code (atC [1, 1, 0, 1, 0, 0] (bodyOf Tryz.f45))), (.inLoop (atC [1, 1, 0, 1, 0, 0] (bodyOf Tryz.f45))), (.inBlock 0), (.code (atC [1, 1, 1] (bodyOf Tryz.f45)))], mkT j [(0, (.e (.one (.dp (.s (C) (n) 5))))), (1, (.e (.one (.dp (.s (C) (n) 5))))), (5, (iI (Int.ofNat (i + 1))))] 26 0⟩
theorem p45s (hE : EnvOk E) (C : List DT) (n i N N2 : Nat) (a b c d e : Int) (D D2 : List AC) (h0 : (decide (Int.ofNat i < (↑n : Int)) : Bool) = true) (h1 : (0 : Int) ≤ Int.ofNat i ∧ Int.ofNat i < (↑n : Int)) (h2 : ((Int.ofNat i).toNat * nat_lit 5 : Nat) = i.mul (nat_lit 5)) (h3 : (takeL (dropL C (i.mul (nat_lit 5))) (5 : Nat) : Option (List DT)) = (.some [(.v (.int .i64 (a))), (.v (.int .i64 (b))), (.v (.int .i64 (c))), (.v (.int .i64 (d))), (.v (.int .i64 (e)))])) (h4 : (0 : Int) ≤ Int.ofNat i ∧ Int.ofNat i < (↑n : Int)) (h5 : ((Int.ofNat i).toNat * nat_lit 5 : Nat) = i.mul (nat_lit 5)) (h6 : (takeL (dropL C (i.mul (nat_lit 5))) (5 : Nat) : Option (List DT)) = (.some [(.v (.int .i64 (a))), (.v (.int .i64 (b))), (.v (.int .i64 (c))), (.v (.int .i64 (d))), (.v (.int .i64 (e)))])) (h8 : EqOk E 60 [(.v (.int .i64 (a))), (.v (.int .i64 (b))), (.v (.int .i64 (c))), (.v (.int .i64 (d))), (.v (.int .i64 (e)))] [(.v (.int .i64 (a))), (.v (.int .i64 (b))), (.v (.int .i64 (c))), (.v (.int .i64 (d))), (.v (.int .i64 (e)))] true) (h9 : ((iI (wrapF IntKind.i64 (Int.ofNat i + (1 : Int)))) : AV) = (iI (Int.ofNat (i + 1)))) {Φ : Res → Prop} (ho : ∀ j, OutK E 0 0 (p45s_end C n i N N2 a b c d e D D2 j) Φ) (j : Nat → Value) : OutK E 0 0 (q45 C n i N N2 a b c d e D D2 j) Φ :=
  outK_seg hE (R0_ok hE) [.run 2, (.ops [(2, (.d .len))] []), (.cond true), .run 4, (.ops [(3, (.d (.ldn [(.v (.int .i64 (a))), (.v (.int .i64 (b))), (.v (.int .i64 (c))), (.v (.int .i64 (d))), (.v (.int .i64 (e)))]))), (7, (.d (.ldn [(.v (.int .i64 (a))), (.v (.int .i64 (b))), (.v (.int .i64 (c))), (.v (.int .i64 (d))), (.v (.int .i64 (e)))]))), (8, (.eqs false)), (2, (.d (.ix (i.mul (nat_lit 5))))), (6, (.d (.ix (i.mul (nat_lit 5)))))] []), .run 3, (.ops [(1, (.rn (iI (Int.ofNat (i + 1)))))] []), .run 1] [0, 1, 5] (fun j => by kernel_rfl) (aP h0 <| aP h1 <| aP h2 <| aP h3 <| aP h4 <| aP h5 <| aP h6 <| aP (rfl : (true : Bool) = true) <| aP h8 <| aP h9 <| aZ)
    ho
def p45x_end (_C : List DT) (_n _i _N _N2 : Nat) (_a _b _c _d _e : Int) (_D _D2 : List AC) (j : Nat → Value) : St := ⟨[], [(.code .ret)], mkT j [(4, (iB true))] 26 0⟩
theorem p45x (hE : EnvOk E) (C : List DT) (n i N N2 : Nat) (a b c d e : Int) (D D2 : List AC) (h0 : (decide (Int.ofNat i < (↑n : Int)) : Bool) = false) {Φ : Res → Prop} (ho : ∀ j, OutK E 0 0 (p45x_end C n i N N2 a b c d e D D2 j) Φ) (j : Nat → Value) : OutK E 0 0 (q45 C n i N N2 a b c d e D D2 j) Φ :=
  outK_seg hE (R0_ok hE) [.run 2, (.ops [(2, (.d .len))] []), (.cond false), .run 3] [4] (fun j => by kernel_rfl) (aP h0 <| aZ)
    ho

theorem five {l : List Int} (h : l.length = 5) : ∃ a b c d e, l = [a, b, c, d, e] := by
  match l, h with
  | [a, b, c, d, e], _ => exact ⟨a, b, c, d, e, rfl⟩
theorem eqE (a b c d e : Int) : EqOk E 60 [.v (.int .i64 a), .v (.int .i64 b), .v (.int .i64 c), .v (.int .i64 d), .v (.int .i64 e)] [.v (.int .i64 a), .v (.int .i64 b), .v (.int .i64 c), .v (.int .i64 d), .v (.int .i64 e)] true := by
  have h := eqIs (t := 60) (n := 5) (by kernel_rfl) (by kernel_rfl) (by kernel_rfl) [a, b, c, d, e] [a, b, c, d, e] rfl rfl
  have e : ([a, b, c, d, e] == [a, b, c, d, e]) = true := by simp
  rw [e] at h
  exact h
theorem l46 (hE : EnvOk E) (l : List Int) (n : Nat) (hl : l.length = n * 5) (hn : n ≤ 5000) : ∀ m i, m + i = n → 0 < i → ∀ j, OutK E 0 0 (q46 (iD l) n i (i * 5) 0 0 0 0 0 0 (iC (l.take (i * 5))) [] j) (Go.Ev.Ends E Tryz.f46 (.e (.one (.slc 0 0 n 5 n false))) [some ⟨iC l, n * 5, 60, false, .cells⟩])
  | 0, i, hk, hi, j => by
    have e : i = n := by omega
    subst e
    rw [List.take_of_length_le (by omega)]
    exact p46x hE (iD l) i i (i * 5) 0 0 0 0 0 0 (iC l) [] (decide_eq_false (by simp only [Int.ofNat_eq_natCast]; omega)) (fun j => outK_ret (ends_ret (by kernel_rfl))) j
  | m + 1, i, hk, hi, j => by
    have hlt : i < n := by omega
    obtain ⟨a, b, c, d, e, he⟩ := five (row_len 5 l n i hl hlt)
    have hrow := row_of 5 l n i hl hlt
    rw [he] at hrow
    have ht := take_succ_row 5 l i
    rw [he] at ht
    have ih := l46 hE l n hl hn m (i + 1) (by omega) (by omega)
    have happ : appL (iC (l.take (i * 5))) (iC [a, b, c, d, e]) = iC (l.take ((i + 1) * 5)) := by rw [iC_app, ht]
    exact p46s hE (iD l) n i (i * 5) ((i + 1) * 5) a b c d e (iC (l.take (i * 5))) (iC (l.take ((i + 1) * 5))) (decide_eq_true (by simp only [Int.ofNat_eq_natCast]; omega)) ⟨(by simp only [Int.ofNat_eq_natCast]; omega), (by simp only [Int.ofNat_eq_natCast]; omega)⟩ rfl hrow (by omega) (by simp [small]; omega) rfl happ rfl (iIn i (by omega)) (flat_iC _) ih j
theorem K46 (hE : EnvOk E) (l : List Int) (n : Nat) (hl : l.length = n * 5) (hn : n ≤ 5000) : COut E 0 [] 46 [.e (.one (.dp (.s (iD l) n 5)))] (.e (.one (.dp (.s (iD l) n 5)))) [] := by
  by_cases h0 : 0 < n
  · obtain ⟨a, b, c, d, e, he⟩ := five (row_len 5 l n 0 hl h0)
    have hrow := row_of 5 l n 0 hl h0
    rw [he] at hrow
    have ht := take_succ_row 5 l 0
    rw [he] at ht
    have h5 := l46 hE l n hl hn (n - 1) 1 (by omega) (by omega)
    have e1 : iC (l.take (1 * 5)) = iC [a, b, c, d, e] := by rw [show l.take (1 * 5) = [a, b, c, d, e] by simpa using ht]
    rw [e1] at h5
    have hc1 : COut E 0 [] 46 [.e (.one (.dp (.s (iD l) n 5)))] (.e (.one (.slc 0 0 n 5 n false))) [some ⟨iC l, n * 5, 60, false, .cells⟩] :=
      cOut_start Tryz.func46 rfl (p46a hE (iD l) n 0 0 0 0 0 0 0 0 [] [] (p46f hE (iD l) n 0 0 0 a b c d e [] [] (decide_eq_true (by simp only [Int.ofNat_eq_natCast]; omega)) ⟨(by simp only [Int.ofNat_eq_natCast]; omega), (by simp only [Int.ofNat_eq_natCast]; omega)⟩ hrow h5) fun _ => undef)
    exact cOut_clear (cOut_freeze 0 hc1 rfl (Nat.zero_le _) (ds := iD l) (.inr ⟨0, n, 5, n, false, iD l, rfl, rfl, by rw [takeL_eq, dropL_eq, List.drop_zero, if_pos (by simp [hl]), List.take_of_length_le (by simp [hl])]⟩)) rfl
  · have e : n = 0 := by omega
    subst e
    have : l = [] := List.eq_nil_of_length_eq_zero (by omega)
    subst this
    exact cOut_nil1 (p := none) (c := 0) 5 (cOut_start Tryz.func46 rfl (p46a hE (iD []) 0 0 0 0 0 0 0 0 0 [] [] (p46x0 hE (iD []) 0 0 0 0 0 0 0 0 0 [] [] (decide_eq_false (by simp only [Int.ofNat_eq_natCast]; omega)) (fun j => outK_ret (ends_ret (by kernel_rfl)))) fun _ => undef))
theorem l45 (hE : EnvOk E) (l : List Int) (n : Nat) (hl : l.length = n * 5) (hn : n ≤ 5000) : ∀ m i, m + i = n → ∀ j, OutK E 0 0 (q45 (iD l) n i 0 0 0 0 0 0 0 [] [] j) (Go.Ev.Ends E Tryz.f45 (iB true) [])
  | 0, i, hk, j => p45x hE (iD l) n i 0 0 0 0 0 0 0 [] [] (decide_eq_false (by simp only [Int.ofNat_eq_natCast]; omega)) (fun j => outK_ret (ends_ret (by kernel_rfl))) j
  | m + 1, i, hk, j => by
    have hlt : i < n := by omega
    obtain ⟨a, b, c, d, e, he⟩ := five (row_len 5 l n i hl hlt)
    have hrow := row_of 5 l n i hl hlt
    rw [he] at hrow
    exact p45s hE (iD l) n i 0 0 a b c d e [] [] (decide_eq_true (by simp only [Int.ofNat_eq_natCast]; omega)) ⟨(by simp only [Int.ofNat_eq_natCast]; omega), (by simp only [Int.ofNat_eq_natCast]; omega)⟩ rfl hrow ⟨(by simp only [Int.ofNat_eq_natCast]; omega), (by simp only [Int.ofNat_eq_natCast]; omega)⟩ rfl hrow (eqE _ _ _ _ _) (iIn i (by omega)) (l45 hE l n hl hn m (i + 1) (by omega)) j
theorem K45 (hE : EnvOk E) (l : List Int) (n : Nat) (hl : l.length = n * 5) (hn : n ≤ 5000) : COut E 0 [] 45 [.e (.one (.dp (.s (iD l) n 5))), .e (.one (.dp (.s (iD l) n 5)))] (iB true) [] :=
  cOut_start Tryz.func45 rfl (p45a hE (iD l) n 0 0 0 0 0 0 0 0 [] [] (by simp) (l45 hE l n hl hn n 0 (by omega)) fun _ => undef)
end
end Go.Proofs.YtbpghjmnbnknmaaGreatDoor

end

/-! SeSt -/
section
open Go Go.Ev
namespace Go.Proofs.YtbpghjmnbnknmaaGreatDoor
noncomputable section
set_option maxRecDepth 100000
set_option maxHeartbeats 20000000
def s32 (_u : Unit) (_j : Nat → Value) : St := startK Tryz.f32 [some ⟨[.v (.int .i64 7), .v (.int .i64 10), .v (.int .i64 0), .v (.int .i64 0), .v (.int .i64 0), .v (.int .i64 8), .v (.int .i64 20), .v (.int .i64 0), .v (.int .i64 0), .v (.int .i64 0)], 10, 68, true, .cells⟩] [.e (.agg [.v (.int .i64 2), .slc 0 0 2 5 2 true]), .e (.agg [.v (.int .i64 9), .v (.int .i64 30), .v (.int .i64 0), .v (.int .i64 0), .v (.int .i64 0)])]
def q32x (_u : Unit) (j : Nat → Value) : St := ⟨[(.some ⟨[(.v (.int .i64 7)), (.v (.int .i64 10)), (.v (.int .i64 0)), (.v (.int .i64 0)), (.v (.int .i64 0)), (.v (.int .i64 8)), (.v (.int .i64 20)), (.v (.int .i64 0)), (.v (.int .i64 0)), (.v (.int .i64 0))], 10, 68, true, .cells⟩), (.some ⟨[(.v (.int .i64 2)), (.slc 0 0 2 5 2 true)], 2, 64, true, .cells⟩), (.some ⟨[(.v (.int .i64 9)), (.v (.int .i64 30)), (.v (.int .i64 0)), (.v (.int .i64 0)), (.v (.int .i64 0))], 5, 68, true, .cells⟩), (.some ⟨[(.v (.int .i64 0)), (.v (.slice none 0 0))], 2, 64, true, .cells⟩), (.some ⟨[(.v (.int .i64 7)), (.v (.int .i64 10)), (.v (.int .i64 0)), (.v (.int .i64 0)), (.v (.int .i64 0)), (.v (.int .i64 8)), (.v (.int .i64 20)), (.v (.int .i64 0)), (.v (.int .i64 0)), (.v (.int .i64 0))], 10, 68, false, .cells⟩)], [(.code (atC [1, 1, 1, 1, 0] (bodyOf Tryz.f32))), (.code .ret)], mkT j [(2, (.e (.one (.ptr 1 0)))), (3, (.e (.one (.ptr 2 0)))), (4, (.e (.one (.ptr 3 0)))), (7, (.e (.one (.slc 4 5 1 5 1 true))))] 39 0⟩
def q32m (_u : Unit) (j : Nat → Value) : St := ⟨[(.some ⟨[(.v (.int .i64 7)), (.v (.int .i64 10)), (.v (.int .i64 0)), (.v (.int .i64 0)), (.v (.int .i64 0)), (.v (.int .i64 8)), (.v (.int .i64 20)), (.v (.int .i64 0)), (.v (.int .i64 0)), (.v (.int .i64 0))], 10, 68, true, .cells⟩), (.some ⟨[(.v (.int .i64 2)), (.slc 0 0 2 5 2 true)], 2, 64, true, .cells⟩), (.some ⟨[(.v (.int .i64 9)), (.v (.int .i64 30)), (.v (.int .i64 0)), (.v (.int .i64 0)), (.v (.int .i64 0))], 5, 68, true, .cells⟩), (.some ⟨[(.v (.int .i64 0)), (.v (.slice none 0 0))], 2, 64, true, .cells⟩), (.some ⟨[(.v (.int .i64 7)), (.v (.int .i64 10)), (.v (.int .i64 0)), (.v (.int .i64 0)), (.v (.int .i64 0)), (.v (.int .i64 8)), (.v (.int .i64 20)), (.v (.int .i64 0)), (.v (.int .i64 0)), (.v (.int .i64 0))], 10, 68, false, .cells⟩)], [(.code (atC [1, 1, 1, 1, 0] (bodyOf Tryz.f32))), (.code .ret)], mkT j [(2, (.e (.one (.ptr 1 0)))), (3, (.e (.one (.ptr 2 0)))), (4, (.e (.one (.ptr 3 0)))), (7, (.e (.one (.slc 4 5 1 5 2 false))))] 39 0⟩
def p32a_end (_u : Unit) (j : Nat → Value) : St := ⟨[(.some ⟨[(.v (.int .i64 7)), (.v (.int .i64 10)), (.v (.int .i64 0)), (.v (.int .i64 0)), (.v (.int .i64 0)), (.v (.int .i64 8)), (.v (.int .i64 20)), (.v (.int .i64 0)), (.v (.int .i64 0)), (.v (.int .i64 0))], 10, 68, true, .cells⟩), (.some ⟨[(.v (.int .i64 2)), (.slc 0 0 2 5 2 true)], 2, 64, true, .cells⟩), (.some ⟨[(.v (.int .i64 9)), (.v (.int .i64 30)), (.v (.int .i64 0)), (.v (.int .i64 0)), (.v (.int .i64 0))], 5, 68, true, .cells⟩), (.some ⟨[(.v (.int .i64 0)), (.v (.slice none 0 0))], 2, 64, true, .cells⟩), (.some ⟨[(.v (.int .i64 7)), (.v (.int .i64 10)), (.v (.int .i64 0)), (.v (.int .i64 0)), (.v (.int .i64 0)), (.v (.int .i64 8)), (.v (.int .i64 20)), (.v (.int .i64 0)), (.v (.int .i64 0)), (.v (.int .i64 0))], 10, 68, false, .cells⟩)], [(.code (atC [1, 1, 1, 1, 0] (bodyOf Tryz.f32))), (.code .ret)], mkT j [(2, (.e (.one (.ptr 1 0)))), (3, (.e (.one (.ptr 2 0)))), (4, (.e (.one (.ptr 3 0)))), (7, (.e (.one (.slc 4 5 1 5 1 false))))] 39 0⟩
theorem p32a (hE : EnvOk E) (u : Unit)  {Φ : Res → Prop} (ho : ∀ j, OutK E 1 1 (p32a_end u j) Φ) (j : Nat → Value) : OutK E 1 1 (s32 u j) Φ :=
  outK_seg hE (R4_ok hE) [.run 17] [2, 3, 4, 7] (s' := fun j => ⟨[(.some ⟨[(.v (.int .i64 7)), (.v (.int .i64 10)), (.v (.int .i64 0)), (.v (.int .i64 0)), (.v (.int .i64 0)), (.v (.int .i64 8)), (.v (.int .i64 20)), (.v (.int .i64 0)), (.v (.int .i64 0)), (.v (.int .i64 0))], 10, 68, true, .cells⟩), (.some ⟨[(.v (.int .i64 2)), (.slc 0 0 2 5 2 true)], 2, 64, true, .cells⟩), (.some ⟨[(.v (.int .i64 9)), (.v (.int .i64 30)), (.v (.int .i64 0)), (.v (.int .i64 0)), (.v (.int .i64 0))], 5, 68, true, .cells⟩), (.some ⟨[(.v (.int .i64 0)), (.v (.slice none 0 0))], 2, 64, true, .cells⟩), (.some ⟨[(.v (.int .i64 0)), (.v (.int .i64 0)), (.v (.int .i64 0))], 3, 32, true, .cells⟩), (.some ⟨[(.v (.int .i64 7)), (.v (.int .i64 10)), (.v (.int .i64 0)), (.v (.int .i64 0)), (.v (.int .i64 0)), (.v (.int .i64 8)), (.v (.int .i64 20)), (.v (.int .i64 0)), (.v (.int .i64 0)), (.v (.int .i64 0))], 10, 68, false, .cells⟩)], [(.code (atC [1, 1, 1, 1, 0] (bodyOf Tryz.f32))), (.code .ret)], mkT j [(2, (.e (.one (.ptr 1 0)))), (3, (.e (.one (.ptr 2 0)))), (4, (.e (.one (.ptr 3 0)))), (7, (.e (.one (.slc 5 5 1 5 1 false))))] 39 0⟩) (ps := []) (fun j => by kernel_rfl) trivial
    fun j => outK_gc [0, 1, 2, 3, 5] (by decide) (by kernel_rfl) (by kernel_rfl) (by kernel_rfl) (ho j)
def p32x_end (_u : Unit) (j : Nat → Value) : St := ⟨[(.some ⟨[(.v (.int .i64 7)), (.v (.int .i64 10)), (.v (.int .i64 0)), (.v (.int .i64 0)), (.v (.int .i64 0)), (.v (.int .i64 8)), (.v (.int .i64 20)), (.v (.int .i64 0)), (.v (.int .i64 0)), (.v (.int .i64 0))], 10, 68, true, .cells⟩), (.some ⟨[(.v (.int .i64 2)), (.slc 2 0 2 5 2 false)], 2, 64, true, .cells⟩), (.some ⟨[(.v (.int .i64 8)), (.v (.int .i64 20)), (.v (.int .i64 0)), (.v (.int .i64 0)), (.v (.int .i64 0)), (.v (.int .i64 9)), (.v (.int .i64 30)), (.v (.int .i64 0)), (.v (.int .i64 0)), (.v (.int .i64 0))], 10, 68, false, .cells⟩)], [(.code .ret)], mkT j [(4, (.e (.one (.ptr 1 0)))), (5, (iI 0))] 39 0⟩
theorem p32x (hE : EnvOk E) (u : Unit)  {Φ : Res → Prop} (ho : ∀ j, OutK E 1 1 (p32x_end u j) Φ) (j : Nat → Value) : OutK E 1 1 (q32x u j) Φ :=
  outK_seg hE (R4_ok hE) [.run 1] [4, 5] (s' := fun j => ⟨[(.some ⟨[(.v (.int .i64 7)), (.v (.int .i64 10)), (.v (.int .i64 0)), (.v (.int .i64 0)), (.v (.int .i64 0)), (.v (.int .i64 8)), (.v (.int .i64 20)), (.v (.int .i64 0)), (.v (.int .i64 0)), (.v (.int .i64 0))], 10, 68, true, .cells⟩), (.some ⟨[(.v (.int .i64 2)), (.slc 0 0 2 5 2 true)], 2, 64, true, .cells⟩), (.some ⟨[(.v (.int .i64 9)), (.v (.int .i64 30)), (.v (.int .i64 0)), (.v (.int .i64 0)), (.v (.int .i64 0))], 5, 68, true, .cells⟩), (.some ⟨[(.v (.int .i64 2)), (.slc 6 0 2 5 2 false)], 2, 64, true, .cells⟩), (.some ⟨[(.v (.int .i64 7)), (.v (.int .i64 10)), (.v (.int .i64 0)), (.v (.int .i64 0)), (.v (.int .i64 0)), (.v (.int .i64 8)), (.v (.int .i64 20)), (.v (.int .i64 0)), (.v (.int .i64 0)), (.v (.int .i64 0))], 10, 68, false, .cells⟩), (.some ⟨[(.v (.int .i64 9)), (.v (.int .i64 30)), (.v (.int .i64 0)), (.v (.int .i64 0)), (.v (.int .i64 0))], 5, 68, true, .cells⟩), (.some ⟨[(.v (.int .i64 8)), (.v (.int .i64 20)), (.v (.int .i64 0)), (.v (.int .i64 0)), (.v (.int .i64 0)), (.v (.int .i64 9)), (.v (.int .i64 30)), (.v (.int .i64 0)), (.v (.int .i64 0)), (.v (.int .i64 0))], 10, 68, false, .cells⟩)], [(.code .ret)], mkT j [(4, (.e (.one (.ptr 3 0)))), (5, (iI 0))] 39 0⟩) (ps := []) (fun j => by kernel_rfl) trivial
    fun j => outK_gc [0, 3, 6] (by decide) (by kernel_rfl) (by kernel_rfl) (by kernel_rfl) (ho j)
def p32m_end (_u : Unit) (j : Nat → Value) : St := ⟨[(.some ⟨[(.v (.int .i64 7)), (.v (.int .i64 10)), (.v (.int .i64 0)), (.v (.int .i64 0)), (.v (.int .i64 0)), (.v (.int .i64 8)), (.v (.int .i64 20)), (.v (.int .i64 0)), (.v (.int .i64 0)), (.v (.int .i64 0))], 10, 68, true, .cells⟩), (.some ⟨[(.v (.int .i64 2)), (.slc 2 5 2 5 2 false)], 2, 64, true, .cells⟩), (.some ⟨[(.v (.int .i64 7)), (.v (.int .i64 10)), (.v (.int .i64 0)), (.v (.int .i64 0)), (.v (.int .i64 0)), (.v (.int .i64 8)), (.v (.int .i64 20)), (.v (.int .i64 0)), (.v (.int .i64 0)), (.v (.int .i64 0)), (.v (.int .i64 9)), (.v (.int .i64 30)), (.v (.int .i64 0)), (.v (.int .i64 0)), (.v (.int .i64 0))], 15, 68, false, .cells⟩)], [(.code .ret)], mkT j [(4, (.e (.one (.ptr 1 0)))), (5, (iI 0))] 39 0⟩
theorem p32m (hE : EnvOk E) (u : Unit)  {Φ : Res → Prop} (ho : ∀ j, OutK E 1 1 (p32m_end u j) Φ) (j : Nat → Value) : OutK E 1 1 (q32m u j) Φ :=
  outK_draw' hE (h := (q32m u j).heap) (ops := opsOf (atC [1, 1, 1, 1, 0] (bodyOf Tryz.f32))) (id := idOf (atC [1, 1, 1, 1, 0] (bodyOf Tryz.f32))) (todo := [(.code .ret)]) (tm := (q32m u j).tm) (by kernel_rfl) (outR_split 1 5 rfl (outR_seg hE (R0_ok hE) [0, 1, 2, 3, 4, 5, 6, 7, 8] [] [] [4, 5] (s' := fun j => ⟨[(.some ⟨[(.v (.int .i64 7)), (.v (.int .i64 10)), (.v (.int .i64 0)), (.v (.int .i64 0)), (.v (.int .i64 0)), (.v (.int .i64 8)), (.v (.int .i64 20)), (.v (.int .i64 0)), (.v (.int .i64 0)), (.v (.int .i64 0))], 10, 68, true, .cells⟩), (.some ⟨[(.v (.int .i64 2)), (.slc 0 0 2 5 2 true)], 2, 64, true, .cells⟩), (.some ⟨[(.v (.int .i64 9)), (.v (.int .i64 30)), (.v (.int .i64 0)), (.v (.int .i64 0)), (.v (.int .i64 0))], 5, 68, true, .cells⟩), (.some ⟨[(.v (.int .i64 2)), (.slc 6 5 2 5 2 false)], 2, 64, true, .cells⟩), none, (.some ⟨[(.v (.int .i64 9)), (.v (.int .i64 30)), (.v (.int .i64 0)), (.v (.int .i64 0)), (.v (.int .i64 0))], 5, 68, true, .cells⟩), (.some ⟨[(.v (.int .i64 7)), (.v (.int .i64 10)), (.v (.int .i64 0)), (.v (.int .i64 0)), (.v (.int .i64 0)), (.v (.int .i64 8)), (.v (.int .i64 20)), (.v (.int .i64 0)), (.v (.int .i64 0)), (.v (.int .i64 0)), (.v (.int .i64 9)), (.v (.int .i64 30)), (.v (.int .i64 0)), (.v (.int .i64 0)), (.v (.int .i64 0))], 15, 68, false, .cells⟩)], [(.code .ret)], mkT j [(4, (.e (.one (.ptr 3 0)))), (5, (iI 0))] 39 0⟩) (ps := [(true : Bool) = true]) (by kernel_rfl) (fun j => by kernel_rfl) ⟨rfl, trivial⟩ (fun j => outK_gc [0, 3, 6] (by decide) (by kernel_rfl) (by kernel_rfl) (by kernel_rfl) (ho j))) (outR_split 0 5 rfl (outR_seg hE (R0_ok hE) [0, 2, 3, 4, 5, 1, 6, 7, 8] [] [] [4, 5] (s' := fun j => ⟨[(.some ⟨[(.v (.int .i64 7)), (.v (.int .i64 10)), (.v (.int .i64 0)), (.v (.int .i64 0)), (.v (.int .i64 0)), (.v (.int .i64 8)), (.v (.int .i64 20)), (.v (.int .i64 0)), (.v (.int .i64 0)), (.v (.int .i64 0))], 10, 68, true, .cells⟩), (.some ⟨[(.v (.int .i64 2)), (.slc 0 0 2 5 2 true)], 2, 64, true, .cells⟩), (.some ⟨[(.v (.int .i64 9)), (.v (.int .i64 30)), (.v (.int .i64 0)), (.v (.int .i64 0)), (.v (.int .i64 0))], 5, 68, true, .cells⟩), (.some ⟨[(.v (.int .i64 2)), (.slc 6 5 2 5 2 false)], 2, 64, true, .cells⟩), none, (.some ⟨[(.v (.int .i64 9)), (.v (.int .i64 30)), (.v (.int .i64 0)), (.v (.int .i64 0)), (.v (.int .i64 0))], 5, 68, true, .cells⟩), (.some ⟨[(.v (.int .i64 7)), (.v (.int .i64 10)), (.v (.int .i64 0)), (.v (.int .i64 0)), (.v (.int .i64 0)), (.v (.int .i64 8)), (.v (.int .i64 20)), (.v (.int .i64 0)), (.v (.int .i64 0)), (.v (.int .i64 0)), (.v (.int .i64 9)), (.v (.int .i64 30)), (.v (.int .i64 0)), (.v (.int .i64 0)), (.v (.int .i64 0))], 15, 68, false, .cells⟩)], [(.code .ret)], mkT j [(4, (.e (.one (.ptr 3 0)))), (5, (iI 0))] 39 0⟩) (ps := [(true : Bool) = true]) (by kernel_rfl) (fun j => by kernel_rfl) ⟨rfl, trivial⟩ (fun j => outK_gc [0, 3, 6] (by decide) (by kernel_rfl) (by kernel_rfl) (by kernel_rfl) (ho j))) (outR_seg hE (R0_ok hE) [2, 3, 4, 5, 0, 1, 6, 7, 8] [] [] [4, 5] (s' := fun j => ⟨[(.some ⟨[(.v (.int .i64 7)), (.v (.int .i64 10)), (.v (.int .i64 0)), (.v (.int .i64 0)), (.v (.int .i64 0)), (.v (.int .i64 8)), (.v (.int .i64 20)), (.v (.int .i64 0)), (.v (.int .i64 0)), (.v (.int .i64 0))], 10, 68, true, .cells⟩), (.some ⟨[(.v (.int .i64 2)), (.slc 0 0 2 5 2 true)], 2, 64, true, .cells⟩), (.some ⟨[(.v (.int .i64 9)), (.v (.int .i64 30)), (.v (.int .i64 0)), (.v (.int .i64 0)), (.v (.int .i64 0))], 5, 68, true, .cells⟩), (.some ⟨[(.v (.int .i64 2)), (.slc 6 5 2 5 2 false)], 2, 64, true, .cells⟩), none, (.some ⟨[(.v (.int .i64 9)), (.v (.int .i64 30)), (.v (.int .i64 0)), (.v (.int .i64 0)), (.v (.int .i64 0))], 5, 68, true, .cells⟩), (.some ⟨[(.v (.int .i64 7)), (.v (.int .i64 10)), (.v (.int .i64 0)), (.v (.int .i64 0)), (.v (.int .i64 0)), (.v (.int .i64 8)), (.v (.int .i64 20)), (.v (.int .i64 0)), (.v (.int .i64 0)), (.v (.int .i64 0)), (.v (.int .i64 9)), (.v (.int .i64 30)), (.v (.int .i64 0)), (.v (.int .i64 0)), (.v (.int .i64 0))], 15, 68, false, .cells⟩)], [(.code .ret)], mkT j [(4, (.e (.one (.ptr 3 0)))), (5, (iI 0))] 39 0⟩) (ps := [(true : Bool) = true]) (by kernel_rfl) (fun j => by kernel_rfl) ⟨rfl, trivial⟩ (fun j => outK_gc [0, 3, 6] (by decide) (by kernel_rfl) (by kernel_rfl) (by kernel_rfl) (ho j)))))

def dsK : List DT := [.v (.int .i64 8), .v (.int .i64 20), .v (.int .i64 0), .v (.int .i64 0), .v (.int .i64 0), .v (.int .i64 9), .v (.int .i64 30), .v (.int .i64 0), .v (.int .i64 0), .v (.int .i64 0)]
abbrev PK : Option AB := some ⟨[.v (.int .i64 7), .v (.int .i64 10), .v (.int .i64 0), .v (.int .i64 0), .v (.int .i64 0), .v (.int .i64 8), .v (.int .i64 20), .v (.int .i64 0), .v (.int .i64 0), .v (.int .i64 0)], 10, 68, true, .cells⟩
def hK : Heap := [PK, some ⟨[.v (.int .i64 2), .dp (.s dsK 2 5)], 2, 64, true, .cells⟩, none]
theorem frz_refl {i : Nat} {ds : List DT} : ∀ (x : AV), (∃ c, x = .e (.one c)) → FrzV i ds x x
  | _, ⟨c, rfl⟩ => .inl rfl
theorem frz_mk {i : Nat} {ds : List DT} (j : Nat → Value) (l : List (Nat × AV)) (hl : ∀ p ∈ l, ∃ c, p.2 = .e (.one c)) : ∀ n k, All2 (FrzV i ds) (mkT j l n k) (mkT j l n k)
  | 0, _ => trivial
  | n + 1, k => by
    refine ⟨?_, frz_mk j l hl n (k + 1)⟩
    show FrzV i ds (match lookT l k with | some x => x | none => .e (.one (.v (j k)))) _
    cases h : lookT l k with
    | none => exact .inl rfl
    | some x => exact frz_refl x (hl _ (lookT_mem h))
theorem end32 (_hE : EnvOk E) (j : Nat → Value) : OutK E 1 1 ⟨hK, [.code .ret], mkT j [(4, .e (.one (.ptr 1 0))), (5, iI 0)] 39 0⟩ (Go.Ev.Ends E Tryz.f32 (.tup [.agg [.v (.int .i64 2), .dp (.s dsK 2 5)], .one (.v (.int .i64 0))]) hK) :=
  outK_ret (ends_ret (by kernel_rfl))
theorem K32c (hE : EnvOk E) : COut E 1 [PK] 32 [.e (.agg [.v (.int .i64 2), .slc 0 0 2 5 2 true]), .e (.agg [.v (.int .i64 9), .v (.int .i64 30), .v (.int .i64 0), .v (.int .i64 0), .v (.int .i64 0)])] (.tup [.agg [.v (.int .i64 2), .dp (.s dsK 2 5)], .one (.v (.int .i64 0))]) [PK] := by
  have h1 : COut E 1 [PK] 32 [.e (.agg [.v (.int .i64 2), .slc 0 0 2 5 2 true]), .e (.agg [.v (.int .i64 9), .v (.int .i64 30), .v (.int .i64 0), .v (.int .i64 0), .v (.int .i64 0)])] (.tup [.agg [.v (.int .i64 2), .dp (.s dsK 2 5)], .one (.v (.int .i64 0))]) hK := by
    refine cOut_start Tryz.func32 rfl (p32a hE () (fun j => ?_) fun _ => undef)
    refine outK_cap 7 (b := 4) (o := 5) (len := 1) (sz := 5) (cap := 1) (by kernel_rfl) ?_ ?_
    · refine p32x hE () (fun j => ?_) j
      refine outK_freeze 2 (ds := dsK) (N := 10) (el := 68) (fl := false) (h' := hK) (by kernel_rfl) (by decide) ⟨.inl rfl, .inr ⟨rfl, rfl, rfl, rfl, rfl, .inl rfl, .inr ⟨0, 2, 5, 2, false, dsK, rfl, rfl, rfl⟩, trivial⟩, trivial, trivial⟩ (frz_mk j _ ?_ _ _) (end32 hE j)
      intro p hp; simp at hp; rcases hp with rfl | rfl <;> exact ⟨_, rfl⟩
    · refine p32m hE () (fun j => ?_) j
      refine outK_freeze 2 (ds := [.v (.int .i64 7), .v (.int .i64 10), .v (.int .i64 0), .v (.int .i64 0), .v (.int .i64 0)] ++ dsK) (N := 15) (el := 68) (fl := false) (h' := hK) (by kernel_rfl) (by decide) ⟨.inl rfl, .inr ⟨rfl, rfl, rfl, rfl, rfl, .inl rfl, .inr ⟨5, 2, 5, 2, false, dsK, rfl, rfl, rfl⟩, trivial⟩, trivial, trivial⟩ (frz_mk j _ ?_ _ _) (end32 hE j)
      intro p hp; simp at hp; rcases hp with rfl | rfl <;> exact ⟨_, rfl⟩
  exact cOut_gc [0] (by decide) h1 (by kernel_rfl) (by kernel_rfl) (by kernel_rfl)
end
end Go.Proofs.YtbpghjmnbnknmaaGreatDoor

end
