/-
  Part of the proof: SeHa, SeHc.
-/
import Derived.Test.YtneaafigbnjceaaGreatDoorSeZG

/-! SeHa -/
section
open Go Go.Ev
namespace Go.Proofs.YtneaafigbnjceaaGreatDoor
noncomputable section
set_option maxRecDepth 100000
set_option maxHeartbeats 20000000
abbrev ztHa0 : List Item := [.code (atC [1, 1, 0, 1, 0, 0] (bodyOf Tryz.f27)), .inLoop (atC [1, 1, 0, 1, 0, 0] (bodyOf Tryz.f27)), .inBlock 0, .code (atC [1, 1, 1] (bodyOf Tryz.f27))]
abbrev ztHa1 : List Item := [.code (atC [1, 1, 0, 1, 0, 0] (bodyOf Tryz.f25)), .inLoop (atC [1, 1, 0, 1, 0, 0] (bodyOf Tryz.f25)), .inBlock 0, .code (atC [1, 1, 1] (bodyOf Tryz.f25))]
abbrev ztHa3 : List Item := [.code (atC [1, 0, 1, 0, 0] (bodyOf Tryz.f120)), .inLoop (atC [1, 0, 1, 0, 0] (bodyOf Tryz.f120)), .inBlock 0, .code (atC [1, 1] (bodyOf Tryz.f120))]
abbrev ztHa4 : List Item := [.code (atC [1, 0, 1, 0, 0] (bodyOf Tryz.f123)), .inLoop (atC [1, 0, 1, 0, 0] (bodyOf Tryz.f123)), .inBlock 0, .code (atC [1, 1] (bodyOf Tryz.f123))]
def h42 (C : List DT) (n _i _k _N : Nat) (_x _q _s _e _t : Int) (_d0 _d1 _d2 _d3 _d4 _d5 _d6 _w : Bool) (_f _l : Int) (_D _Y : List AC) (_j : Nat → Value) : St := startK Tryz.f27 [] [.e (.one (.dp (.s C n 9)))]
def h45 (C : List DT) (n _i _k _N : Nat) (_x _q _s _e _t : Int) (_d0 _d1 _d2 _d3 _d4 _d5 _d6 _w : Bool) (_f _l : Int) (_D _Y : List AC) (_j : Nat → Value) : St := startK Tryz.f25 [] [.e (.one (.dp (.s C n 9)))]
def h50 (C : List DT) (n _i _k _N : Nat) (_x _q _s _e _t : Int) (_d0 _d1 _d2 _d3 _d4 _d5 _d6 _w : Bool) (_f _l : Int) (_D _Y : List AC) (_j : Nat → Value) : St := startK Tryz.f65 [] [.e (.one (.dp (.s C n 9)))]
def h149 (C : List DT) (n _i _k _N : Nat) (_x _q _s _e _t : Int) (_d0 _d1 _d2 _d3 _d4 _d5 _d6 _w : Bool) (_f _l : Int) (_D _Y : List AC) (_j : Nat → Value) : St := startK Tryz.f120 [] [.e (.one (.dp (.s C n 9))), .e (.one (.v (.func (.func 97) #[] #[])))]
def h111 (C : List DT) (n _i _k _N : Nat) (_x _q _s _e _t : Int) (_d0 _d1 _d2 _d3 _d4 _d5 _d6 _w : Bool) (_f _l : Int) (_D _Y : List AC) (_j : Nat → Value) : St := startK Tryz.f96 [] [.e (.one (.dp (.s C n 9))), iI 16, .e (.one (.v (.func (.func 97) #[] #[])))]
def h112 (_C : List DT) (_n _i _k _N : Nat) (_x _q _s _e _t : Int) (d0 d1 d2 d3 d4 d5 d6 _w : Bool) (f l : Int) (_D _Y : List AC) (_j : Nat → Value) : St := startK Tryz.f97 [] [.e (.agg [.v (.bool d0), .v (.bool d1), .v (.bool d2), .v (.bool d3), .v (.bool d4), .v (.bool d5), .v (.bool d6), .v (.int .i64 f), .v (.int .i64 l)])]
def h110 (_C : List DT) (_n _i _k _N : Nat) (x _q _s _e _t : Int) (_d0 _d1 _d2 _d3 _d4 _d5 _d6 _w : Bool) (f l : Int) (_D _Y : List AC) (_j : Nat → Value) : St := startK Tryz.f64 [] [.e (.agg [.v (.int .i64 f), .v (.int .i64 l)]), iI x]
def h147 (_s t f l : Int) (d0 d1 d2 d3 d4 d5 d6 : Bool) (_j : Nat → Value) : St := startK Tryz.f101 [] [.e (.agg [.v (.bool d0), .v (.bool d1), .v (.bool d2), .v (.bool d3), .v (.bool d4), .v (.bool d5), .v (.bool d6), .v (.int .i64 f), .v (.int .i64 l)]), iI t]
def h146 (_C : List DT) (_n _i _k _N : Nat) (_x _q _s _e t : Int) (d0 d1 d2 d3 d4 d5 d6 _w : Bool) (f l : Int) (_D _Y : List AC) (_j : Nat → Value) : St := startK Tryz.f100 [bK [.v (.int .i64 t)] 1 3] [.e (.agg [.v (.bool d0), .v (.bool d1), .v (.bool d2), .v (.bool d3), .v (.bool d4), .v (.bool d5), .v (.bool d6), .v (.int .i64 f), .v (.int .i64 l)]), .e (.one (.ptr 0 0))]
def h164 (C : List DT) (n _i _k _N : Nat) (_x _q _s _e t : Int) (_d0 _d1 _d2 _d3 _d4 _d5 _d6 _w : Bool) (_f _l : Int) (_D _Y : List AC) (_j : Nat → Value) : St := startK Tryz.f123 [bK [.v (.int .i64 t)] 1 3] [.e (.one (.dp (.s C n 9))), .e (.one (.clo 100 [] [.one (.ptr 0 0)]))]
def h145 (C : List DT) (n _i _k _N : Nat) (_x _q _s _e t : Int) (_d0 _d1 _d2 _d3 _d4 _d5 _d6 _w : Bool) (_f _l : Int) (_D _Y : List AC) (_j : Nat → Value) : St := startK Tryz.f99 [bK [.v (.int .i64 t)] 1 3] [.e (.one (.dp (.s C n 9))), .e (.one (.clo 100 [] [.one (.ptr 0 0)]))]
def h107 (C : List DT) (n _i _k _N : Nat) (_x _q _s _e t : Int) (_d0 _d1 _d2 _d3 _d4 _d5 _d6 _w : Bool) (_f _l : Int) (_D _Y : List AC) (_j : Nat → Value) : St := startK Tryz.f69 [] [.e (.one (.dp (.s C n 9))), iI t]
def r42n (C : List DT) (n i _k _N : Nat) (_x _q _s _e _t : Int) (_d0 _d1 _d2 _d3 _d4 _d5 _d6 _w : Bool) (_f _l : Int) (_D _Y : List AC) (j : Nat → Value) : St := ⟨[], ztHa0, mkT j [(3, .e (.one (.v (.slice none 0 0)))), (6, .e (.one (.dp (.s C n 9)))), (7, (iI (Int.ofNat n))), (8, (iI (Int.ofNat i)))] 18 0⟩
def r149 (C : List DT) (n i _k _N : Nat) (_x _q _s _e _t : Int) (_d0 _d1 _d2 _d3 _d4 _d5 _d6 _w : Bool) (_f _l : Int) (_D _Y : List AC) (j : Nat → Value) : St := ⟨[], ztHa3, mkT j [(1, .e (.one (.v (.func (.func 97) #[] #[])))), (8, .e (.one (.dp (.s C n 9)))), (9, (iI (Int.ofNat n))), (10, (iI (Int.ofNat i)))] 21 0⟩
def r45 (C : List DT) (n i _k _N : Nat) (_x _q _s _e _t : Int) (_d0 _d1 _d2 _d3 _d4 _d5 _d6 _w : Bool) (_f _l : Int) (_D _Y : List AC) (j : Nat → Value) : St := ⟨[], ztHa1, mkT j [(0, .e (.one (.dp (.s C n 9)))), (3, (iI (Int.ofNat i)))] 23 0⟩
def r164 (C : List DT) (n i _k _N : Nat) (_x _q _s _e t : Int) (_d0 _d1 _d2 _d3 _d4 _d5 _d6 _w : Bool) (_f _l : Int) (_D _Y : List AC) (j : Nat → Value) : St := ⟨[bK [.v (.int .i64 t)] 1 3], ztHa4, mkT j [(0, .e (.one (.dp (.s C n 9)))), (1, .e (.one (.clo 100 [] [.one (.ptr 0 0)]))), (7, (iI (Int.ofNat n))), (8, (iI (Int.ofNat i)))] 19 0⟩
def r42 (C : List DT) (n i _k N : Nat) (_x _q _s _e _t : Int) (_d0 _d1 _d2 _d3 _d4 _d5 _d6 _w : Bool) (_f _l : Int) (D _Y : List AC) (j : Nat → Value) : St := ⟨[some ⟨D, N * 9, 130, false, .cells⟩], ztHa0, mkT j [(3, .e (.one (.slc 0 0 N 9 N false))), (6, .e (.one (.dp (.s C n 9)))), (7, (iI (Int.ofNat n))), (8, (iI (Int.ofNat i)))] 18 0⟩
def A112_ff_end (_C : List DT) (_n _i _k _N : Nat) (_x _q _s _e _t : Int) (_d0 _d1 _d2 _d3 _d4 _d5 _d6 _w : Bool) (_f l : Int) (_D _Y : List AC) (j : Nat → Value) : St := ⟨[], [.code .ret], mkT j [(2, (iI (A78_r0 (decide (l > (86400 : Int))) (Int.ofNat (nat_lit 14)))))] 23 0⟩
theorem A112_ff (hE : EnvOk E) (C : List DT) (n i k N : Nat) (x q s e t : Int) (d0 d1 d2 d3 d4 d5 d6 w : Bool) (f l : Int) (D Y : List AC) (c0 : (decide (f < (0 : Int)) : Bool) = false) (c1 : (decide (f ≥ l) : Bool) = false) : Sg 0 0 (h112 C n i k N x q s e t d0 d1 d2 d3 d4 d5 d6 w f l D Y) (A112_ff_end C n i k N x q s e t d0 d1 d2 d3 d4 d5 d6 w f l D Y) := fun ho j =>
 oS hE [.run 3, .ops [(12, .pk false), (18, .pk false), (19, .c0 (iI (A78_r0 (decide (l > (86400 : Int))) (Int.ofNat (nat_lit 14)))))] [(5, true), (6, true), (7, true), (8, true), (9, true), (10, true), (11, true), (14, true), (15, true), (16, true), (17, true)]] [2] (s' := fun j => ⟨[bK [.v (.bool d0), .v (.bool d1), .v (.bool d2), .v (.bool d3), .v (.bool d4), .v (.bool d5), .v (.bool d6), .v (.int .i64 f), .v (.int .i64 l)] 9 130], [.code .ret], mkT j [(2, (iI (A78_r0 (decide (l > (86400 : Int))) (Int.ofNat (nat_lit 14)))))] 23 0⟩) (ps := [(decide (f < (0 : Int)) == false : Bool) = true, (decide (f < (0 : Int)) == false : Bool) = true, (decide (f < (0 : Int)) == false : Bool) = true, (decide (f < (0 : Int)) == false : Bool) = true, (decide (f < (0 : Int)) == false : Bool) = true, (decide (f < (0 : Int)) == false : Bool) = true, (decide (f < (0 : Int)) == false : Bool) = true, (decide (f < (0 : Int)) : Bool) = false, (decide (f ≥ l) == false : Bool) = true, (decide (f ≥ l) == false : Bool) = true, (decide (f ≥ l) == false : Bool) = true, (decide (f ≥ l) == false : Bool) = true, (decide (f ≥ l) : Bool) = false, COut E 0 [] 61 [(iB (decide (l > (86400 : Int)))), (iI 14)] (iI (A78_r0 (decide (l > (86400 : Int))) (Int.ofNat (nat_lit 14)))) [], ([] : List Nat) = []]) ⟨(by rw [c0]; rfl), (by rw [c0]; rfl), (by rw [c0]; rfl), (by rw [c0]; rfl), (by rw [c0]; rfl), (by rw [c0]; rfl), (by rw [c0]; rfl), c0, (by rw [c1]; rfl), (by rw [c1]; rfl), (by rw [c1]; rfl), (by rw [c1]; rfl), c1, (A78_all hE _ _), rfl, trivial⟩
  fun j => gZ [] (ho j)
theorem A112_ff_c (hE : EnvOk E) (C : List DT) (n i k N : Nat) (x q s e t : Int) (d0 d1 d2 d3 d4 d5 d6 w : Bool) (f l : Int) (D Y : List AC) (c0 : (decide (f < (0 : Int)) : Bool) = false) (c1 : (decide (f ≥ l) : Bool) = false)  : COut E 0 [] 97 [.e (.agg [.v (.bool d0), .v (.bool d1), .v (.bool d2), .v (.bool d3), .v (.bool d4), .v (.bool d5), .v (.bool d6), .v (.int .i64 f), .v (.int .i64 l)])] (iI (A78_r0 (decide (l > (86400 : Int))) (Int.ofNat (nat_lit 14)))) [] := cOut_start Tryz.func97 rfl (A112_ff hE C n i k N x q s e t d0 d1 d2 d3 d4 d5 d6 w f l D Y c0 c1  (fun j => outK_ret (ends_ret (by kernel_rfl))) fun _ => undef)
def A112_ft_end (_C : List DT) (_n _i _k _N : Nat) (_x _q _s _e _t : Int) (_d0 _d1 _d2 _d3 _d4 _d5 _d6 _w : Bool) (_f _l : Int) (_D _Y : List AC) (j : Nat → Value) : St := ⟨[], [.code .ret], mkT j [(2, (iI 14))] 23 0⟩
theorem A112_ft (hE : EnvOk E) (C : List DT) (n i k N : Nat) (x q s e t : Int) (d0 d1 d2 d3 d4 d5 d6 w : Bool) (f l : Int) (D Y : List AC) (c0 : (decide (f < (0 : Int)) : Bool) = false) (c1 : (decide (f ≥ l) : Bool) = true) : Sg 0 0 (h112 C n i k N x q s e t d0 d1 d2 d3 d4 d5 d6 w f l D Y) (A112_ft_end C n i k N x q s e t d0 d1 d2 d3 d4 d5 d6 w f l D Y) := fun ho j =>
 oS hE [.run 3, .ops [(12, .pk false), (18, .pk true), (19, .c0 (iI 14))] [(5, true), (6, true), (7, true), (8, true), (9, true), (10, true), (11, true), (14, false), (15, false), (16, false), (17, false)]] [2] (s' := fun j => ⟨[bK [.v (.bool d0), .v (.bool d1), .v (.bool d2), .v (.bool d3), .v (.bool d4), .v (.bool d5), .v (.bool d6), .v (.int .i64 f), .v (.int .i64 l)] 9 130], [.code .ret], mkT j [(2, (iI 14))] 23 0⟩) (ps := [(decide (f < (0 : Int)) == false : Bool) = true, (decide (f < (0 : Int)) == false : Bool) = true, (decide (f < (0 : Int)) == false : Bool) = true, (decide (f < (0 : Int)) == false : Bool) = true, (decide (f < (0 : Int)) == false : Bool) = true, (decide (f < (0 : Int)) == false : Bool) = true, (decide (f < (0 : Int)) == false : Bool) = true, (decide (f < (0 : Int)) : Bool) = false, (decide (f ≥ l) == false : Bool) = false, (decide (f ≥ l) == false : Bool) = false, (decide (f ≥ l) == false : Bool) = false, (decide (f ≥ l) == false : Bool) = false, (decide (f ≥ l) : Bool) = true, COut E 0 [] 61 [(iB true), (iI 14)] (iI 14) [], ([] : List Nat) = []]) ⟨(by rw [c0]; rfl), (by rw [c0]; rfl), (by rw [c0]; rfl), (by rw [c0]; rfl), (by rw [c0]; rfl), (by rw [c0]; rfl), (by rw [c0]; rfl), c0, (by rw [c1]; rfl), (by rw [c1]; rfl), (by rw [c1]; rfl), (by rw [c1]; rfl), c1, (A78_all hE _ _), rfl, trivial⟩
  fun j => gZ [] (ho j)
theorem A112_ft_c (hE : EnvOk E) (C : List DT) (n i k N : Nat) (x q s e t : Int) (d0 d1 d2 d3 d4 d5 d6 w : Bool) (f l : Int) (D Y : List AC) (c0 : (decide (f < (0 : Int)) : Bool) = false) (c1 : (decide (f ≥ l) : Bool) = true)  : COut E 0 [] 97 [.e (.agg [.v (.bool d0), .v (.bool d1), .v (.bool d2), .v (.bool d3), .v (.bool d4), .v (.bool d5), .v (.bool d6), .v (.int .i64 f), .v (.int .i64 l)])] (iI 14) [] := cOut_start Tryz.func97 rfl (A112_ft hE C n i k N x q s e t d0 d1 d2 d3 d4 d5 d6 w f l D Y c0 c1  (fun j => outK_ret (ends_ret (by kernel_rfl))) fun _ => undef)
def A112_t_end (_C : List DT) (_n _i _k _N : Nat) (_x _q _s _e _t : Int) (_d0 _d1 _d2 _d3 _d4 _d5 _d6 _w : Bool) (_f _l : Int) (_D _Y : List AC) (j : Nat → Value) : St := ⟨[], [.code .ret], mkT j [(2, (iI 14))] 23 0⟩
theorem A112_t (hE : EnvOk E) (C : List DT) (n i k N : Nat) (x q s e t : Int) (d0 d1 d2 d3 d4 d5 d6 w : Bool) (f l : Int) (D Y : List AC) (c0 : (decide (f < (0 : Int)) : Bool) = true) : Sg 0 0 (h112 C n i k N x q s e t d0 d1 d2 d3 d4 d5 d6 w f l D Y) (A112_t_end C n i k N x q s e t d0 d1 d2 d3 d4 d5 d6 w f l D Y) := fun ho j =>
 oS hE [.run 3, .ops [(12, .pk true), (19, .c0 (iI 14))] [(5, false), (6, false), (7, false), (8, false), (9, false), (10, false), (11, false)]] [2] (s' := fun j => ⟨[bK [.v (.bool d0), .v (.bool d1), .v (.bool d2), .v (.bool d3), .v (.bool d4), .v (.bool d5), .v (.bool d6), .v (.int .i64 f), .v (.int .i64 l)] 9 130], [.code .ret], mkT j [(2, (iI 14))] 23 0⟩) (ps := [(decide (f < (0 : Int)) == false : Bool) = false, (decide (f < (0 : Int)) == false : Bool) = false, (decide (f < (0 : Int)) == false : Bool) = false, (decide (f < (0 : Int)) == false : Bool) = false, (decide (f < (0 : Int)) == false : Bool) = false, (decide (f < (0 : Int)) == false : Bool) = false, (decide (f < (0 : Int)) == false : Bool) = false, (decide (f < (0 : Int)) : Bool) = true, COut E 0 [] 61 [(iB true), (iI 14)] (iI 14) [], ([] : List Nat) = []]) ⟨(by rw [c0]; rfl), (by rw [c0]; rfl), (by rw [c0]; rfl), (by rw [c0]; rfl), (by rw [c0]; rfl), (by rw [c0]; rfl), (by rw [c0]; rfl), c0, (A78_all hE _ _), rfl, trivial⟩
  fun j => gZ [] (ho j)
theorem A112_t_c (hE : EnvOk E) (C : List DT) (n i k N : Nat) (x q s e t : Int) (d0 d1 d2 d3 d4 d5 d6 w : Bool) (f l : Int) (D Y : List AC) (c0 : (decide (f < (0 : Int)) : Bool) = true)  : COut E 0 [] 97 [.e (.agg [.v (.bool d0), .v (.bool d1), .v (.bool d2), .v (.bool d3), .v (.bool d4), .v (.bool d5), .v (.bool d6), .v (.int .i64 f), .v (.int .i64 l)])] (iI 14) [] := cOut_start Tryz.func97 rfl (A112_t hE C n i k N x q s e t d0 d1 d2 d3 d4 d5 d6 w f l D Y c0  (fun j => outK_ret (ends_ret (by kernel_rfl))) fun _ => undef)
def A112_r0 (_C : List DT) (_n _i _k _N : Nat) (_x _q _s _e _t : Int) (_d0 _d1 _d2 _d3 _d4 _d5 _d6 _w : Bool) (f l : Int) (_D _Y : List AC) : Int := (bif decide (f < (0 : Int)) then 14 else (bif decide (f ≥ l) then 14 else (A78_r0 (decide (l > (86400 : Int))) (Int.ofNat (nat_lit 14)))))
theorem A112_all (hE : EnvOk E) (C : List DT) (n i k N : Nat) (x q s e t : Int) (d0 d1 d2 d3 d4 d5 d6 w : Bool) (f l : Int) (D Y : List AC) : COut E 0 [] 97 [.e (.agg [.v (.bool d0), .v (.bool d1), .v (.bool d2), .v (.bool d3), .v (.bool d4), .v (.bool d5), .v (.bool d6), .v (.int .i64 f), .v (.int .i64 l)])] (iI (A112_r0 C n i k N x q s e t d0 d1 d2 d3 d4 d5 d6 w f l D Y)) [] := by
 rcases Bool.eq_false_or_eq_true (decide (f < (0 : Int))) with c0 | c0
 ·skip
  have e0 : A112_r0 C n i k N x q s e t d0 d1 d2 d3 d4 d5 d6 w f l D Y = 14 := by unfold A112_r0; rw [c0]; first | done | rfl
  rw [e0]
  exact A112_t_c hE C n i k N x q s e t d0 d1 d2 d3 d4 d5 d6 w f l D Y c0 
 ·skip
  rcases Bool.eq_false_or_eq_true (decide (f ≥ l)) with c1 | c1
  ·skip
   have e0 : A112_r0 C n i k N x q s e t d0 d1 d2 d3 d4 d5 d6 w f l D Y = 14 := by unfold A112_r0; rw [c0, c1]; first | done | rfl
   rw [e0]
   exact A112_ft_c hE C n i k N x q s e t d0 d1 d2 d3 d4 d5 d6 w f l D Y c0 c1 
  ·skip
   have e0 : A112_r0 C n i k N x q s e t d0 d1 d2 d3 d4 d5 d6 w f l D Y = (A78_r0 (decide (l > (86400 : Int))) (Int.ofNat (nat_lit 14))) := by unfold A112_r0; rw [c0, c1]; first | done | rfl
   rw [e0]
   exact A112_ff_c hE C n i k N x q s e t d0 d1 d2 d3 d4 d5 d6 w f l D Y c0 c1 
def A110_ff_end (_C : List DT) (_n _i _k _N : Nat) (x _q _s _e _t : Int) (_d0 _d1 _d2 _d3 _d4 _d5 _d6 _w : Bool) (_f l : Int) (_D _Y : List AC) (j : Nat → Value) : St := ⟨[], [.code .ret], mkT j [(4, (iI (A83_r0 (decide (l > x)) (Int.ofNat (nat_lit 14)))))] 22 0⟩
theorem A110_ff (hE : EnvOk E) (C : List DT) (n i k N : Nat) (x q s e t : Int) (d0 d1 d2 d3 d4 d5 d6 w : Bool) (f l : Int) (D Y : List AC) (c0 : (decide (f < (0 : Int)) : Bool) = false) (c1 : (decide (f ≥ l) : Bool) = false) : Sg 0 0 (h110 C n i k N x q s e t d0 d1 d2 d3 d4 d5 d6 w f l D Y) (A110_ff_end C n i k N x q s e t d0 d1 d2 d3 d4 d5 d6 w f l D Y) := fun ho j =>
 oS hE [.run 3, .ops [(9, .pk false), (15, .pk false), (16, .c0 (iI (A83_r0 (decide (l > x)) (Int.ofNat (nat_lit 14)))))] [(4, true), (5, true), (6, true), (7, true), (8, true), (11, true), (12, true), (13, true), (14, true)]] [4] (s' := fun j => ⟨[bK [.v (.int .i64 f), .v (.int .i64 l)] 2 125], [.code .ret], mkT j [(4, (iI (A83_r0 (decide (l > x)) (Int.ofNat (nat_lit 14)))))] 22 0⟩) (ps := [(decide (f < (0 : Int)) == false : Bool) = true, (decide (f < (0 : Int)) == false : Bool) = true, (decide (f < (0 : Int)) == false : Bool) = true, (decide (f < (0 : Int)) == false : Bool) = true, (decide (f < (0 : Int)) == false : Bool) = true, (decide (f < (0 : Int)) : Bool) = false, (decide (f ≥ l) == false : Bool) = true, (decide (f ≥ l) == false : Bool) = true, (decide (f ≥ l) == false : Bool) = true, (decide (f ≥ l) == false : Bool) = true, (decide (f ≥ l) : Bool) = false, COut E 0 [] 38 [(iB (decide (l > x))), (iI 14)] (iI (A83_r0 (decide (l > x)) (Int.ofNat (nat_lit 14)))) [], ([] : List Nat) = []]) ⟨(by rw [c0]; rfl), (by rw [c0]; rfl), (by rw [c0]; rfl), (by rw [c0]; rfl), (by rw [c0]; rfl), c0, (by rw [c1]; rfl), (by rw [c1]; rfl), (by rw [c1]; rfl), (by rw [c1]; rfl), c1, (A83_all hE _ _), rfl, trivial⟩
  fun j => gZ [] (ho j)
theorem A110_ff_c (hE : EnvOk E) (C : List DT) (n i k N : Nat) (x q s e t : Int) (d0 d1 d2 d3 d4 d5 d6 w : Bool) (f l : Int) (D Y : List AC) (c0 : (decide (f < (0 : Int)) : Bool) = false) (c1 : (decide (f ≥ l) : Bool) = false)  : COut E 0 [] 64 [.e (.agg [.v (.int .i64 f), .v (.int .i64 l)]), (iI x)] (iI (A83_r0 (decide (l > x)) (Int.ofNat (nat_lit 14)))) [] := cOut_start Tryz.func64 rfl (A110_ff hE C n i k N x q s e t d0 d1 d2 d3 d4 d5 d6 w f l D Y c0 c1  (fun j => outK_ret (ends_ret (by kernel_rfl))) fun _ => undef)
def A110_ft_end (_C : List DT) (_n _i _k _N : Nat) (_x _q _s _e _t : Int) (_d0 _d1 _d2 _d3 _d4 _d5 _d6 _w : Bool) (_f _l : Int) (_D _Y : List AC) (j : Nat → Value) : St := ⟨[], [.code .ret], mkT j [(4, (iI 14))] 22 0⟩
theorem A110_ft (hE : EnvOk E) (C : List DT) (n i k N : Nat) (x q s e t : Int) (d0 d1 d2 d3 d4 d5 d6 w : Bool) (f l : Int) (D Y : List AC) (c0 : (decide (f < (0 : Int)) : Bool) = false) (c1 : (decide (f ≥ l) : Bool) = true) : Sg 0 0 (h110 C n i k N x q s e t d0 d1 d2 d3 d4 d5 d6 w f l D Y) (A110_ft_end C n i k N x q s e t d0 d1 d2 d3 d4 d5 d6 w f l D Y) := fun ho j =>
 oS hE [.run 3, .ops [(9, .pk false), (15, .pk true), (16, .c0 (iI 14))] [(4, true), (5, true), (6, true), (7, true), (8, true), (11, false), (12, false), (13, false), (14, false)]] [4] (s' := fun j => ⟨[bK [.v (.int .i64 f), .v (.int .i64 l)] 2 125], [.code .ret], mkT j [(4, (iI 14))] 22 0⟩) (ps := [(decide (f < (0 : Int)) == false : Bool) = true, (decide (f < (0 : Int)) == false : Bool) = true, (decide (f < (0 : Int)) == false : Bool) = true, (decide (f < (0 : Int)) == false : Bool) = true, (decide (f < (0 : Int)) == false : Bool) = true, (decide (f < (0 : Int)) : Bool) = false, (decide (f ≥ l) == false : Bool) = false, (decide (f ≥ l) == false : Bool) = false, (decide (f ≥ l) == false : Bool) = false, (decide (f ≥ l) == false : Bool) = false, (decide (f ≥ l) : Bool) = true, COut E 0 [] 38 [(iB true), (iI 14)] (iI 14) [], ([] : List Nat) = []]) ⟨(by rw [c0]; rfl), (by rw [c0]; rfl), (by rw [c0]; rfl), (by rw [c0]; rfl), (by rw [c0]; rfl), c0, (by rw [c1]; rfl), (by rw [c1]; rfl), (by rw [c1]; rfl), (by rw [c1]; rfl), c1, (A83_all hE _ _), rfl, trivial⟩
  fun j => gZ [] (ho j)
theorem A110_ft_c (hE : EnvOk E) (C : List DT) (n i k N : Nat) (x q s e t : Int) (d0 d1 d2 d3 d4 d5 d6 w : Bool) (f l : Int) (D Y : List AC) (c0 : (decide (f < (0 : Int)) : Bool) = false) (c1 : (decide (f ≥ l) : Bool) = true)  : COut E 0 [] 64 [.e (.agg [.v (.int .i64 f), .v (.int .i64 l)]), (iI x)] (iI 14) [] := cOut_start Tryz.func64 rfl (A110_ft hE C n i k N x q s e t d0 d1 d2 d3 d4 d5 d6 w f l D Y c0 c1  (fun j => outK_ret (ends_ret (by kernel_rfl))) fun _ => undef)
def A110_t_end (_C : List DT) (_n _i _k _N : Nat) (_x _q _s _e _t : Int) (_d0 _d1 _d2 _d3 _d4 _d5 _d6 _w : Bool) (_f _l : Int) (_D _Y : List AC) (j : Nat → Value) : St := ⟨[], [.code .ret], mkT j [(4, (iI 14))] 22 0⟩
theorem A110_t (hE : EnvOk E) (C : List DT) (n i k N : Nat) (x q s e t : Int) (d0 d1 d2 d3 d4 d5 d6 w : Bool) (f l : Int) (D Y : List AC) (c0 : (decide (f < (0 : Int)) : Bool) = true) : Sg 0 0 (h110 C n i k N x q s e t d0 d1 d2 d3 d4 d5 d6 w f l D Y) (A110_t_end C n i k N x q s e t d0 d1 d2 d3 d4 d5 d6 w f l D Y) := fun ho j =>
 oS hE [.run 3, .ops [(9, .pk true), (16, .c0 (iI 14))] [(4, false), (5, false), (6, false), (7, false), (8, false)]] [4] (s' := fun j => ⟨[bK [.v (.int .i64 f), .v (.int .i64 l)] 2 125], [.code .ret], mkT j [(4, (iI 14))] 22 0⟩) (ps := [(decide (f < (0 : Int)) == false : Bool) = false, (decide (f < (0 : Int)) == false : Bool) = false, (decide (f < (0 : Int)) == false : Bool) = false, (decide (f < (0 : Int)) == false : Bool) = false, (decide (f < (0 : Int)) == false : Bool) = false, (decide (f < (0 : Int)) : Bool) = true, COut E 0 [] 38 [(iB true), (iI 14)] (iI 14) [], ([] : List Nat) = []]) ⟨(by rw [c0]; rfl), (by rw [c0]; rfl), (by rw [c0]; rfl), (by rw [c0]; rfl), (by rw [c0]; rfl), c0, (A83_all hE _ _), rfl, trivial⟩
  fun j => gZ [] (ho j)
theorem A110_t_c (hE : EnvOk E) (C : List DT) (n i k N : Nat) (x q s e t : Int) (d0 d1 d2 d3 d4 d5 d6 w : Bool) (f l : Int) (D Y : List AC) (c0 : (decide (f < (0 : Int)) : Bool) = true)  : COut E 0 [] 64 [.e (.agg [.v (.int .i64 f), .v (.int .i64 l)]), (iI x)] (iI 14) [] := cOut_start Tryz.func64 rfl (A110_t hE C n i k N x q s e t d0 d1 d2 d3 d4 d5 d6 w f l D Y c0  (fun j => outK_ret (ends_ret (by kernel_rfl))) fun _ => undef)
def A110_r0 (_C : List DT) (_n _i _k _N : Nat) (x _q _s _e _t : Int) (_d0 _d1 _d2 _d3 _d4 _d5 _d6 _w : Bool) (f l : Int) (_D _Y : List AC) : Int := (bif decide (f < (0 : Int)) then 14 else (bif decide (f ≥ l) then 14 else (A83_r0 (decide (l > x)) (Int.ofNat (nat_lit 14)))))
theorem A110_all (hE : EnvOk E) (C : List DT) (n i k N : Nat) (x q s e t : Int) (d0 d1 d2 d3 d4 d5 d6 w : Bool) (f l : Int) (D Y : List AC) : COut E 0 [] 64 [.e (.agg [.v (.int .i64 f), .v (.int .i64 l)]), (iI x)] (iI (A110_r0 C n i k N x q s e t d0 d1 d2 d3 d4 d5 d6 w f l D Y)) [] := by
 rcases Bool.eq_false_or_eq_true (decide (f < (0 : Int))) with c0 | c0
 ·skip
  have e0 : A110_r0 C n i k N x q s e t d0 d1 d2 d3 d4 d5 d6 w f l D Y = 14 := by unfold A110_r0; rw [c0]; first | done | rfl
  rw [e0]
  exact A110_t_c hE C n i k N x q s e t d0 d1 d2 d3 d4 d5 d6 w f l D Y c0 
 ·skip
  rcases Bool.eq_false_or_eq_true (decide (f ≥ l)) with c1 | c1
  ·skip
   have e0 : A110_r0 C n i k N x q s e t d0 d1 d2 d3 d4 d5 d6 w f l D Y = 14 := by unfold A110_r0; rw [c0, c1]; first | done | rfl
   rw [e0]
   exact A110_ft_c hE C n i k N x q s e t d0 d1 d2 d3 d4 d5 d6 w f l D Y c0 c1 
  ·skip
   have e0 : A110_r0 C n i k N x q s e t d0 d1 d2 d3 d4 d5 d6 w f l D Y = (A83_r0 (decide (l > x)) (Int.ofNat (nat_lit 14))) := by unfold A110_r0; rw [c0, c1]; first | done | rfl
   rw [e0]
   exact A110_ff_c hE C n i k N x q s e t d0 d1 d2 d3 d4 d5 d6 w f l D Y c0 c1 
def p42a_end (C : List DT) (n _i _k _N : Nat) (_x _q _s _e _t : Int) (_d0 _d1 _d2 _d3 _d4 _d5 _d6 _w : Bool) (_f _l : Int) (_D _Y : List AC) (j : Nat → Value) : St := ⟨[], ztHa0, mkT j [(3, .e (.one (.v (.slice none 0 0)))), (6, .e (.one (.dp (.s C n 9)))), (7, (iI (Int.ofNat n))), (8, (iI 0))] 18 0⟩
theorem p42a (hE : EnvOk E) (C : List DT) (n i k N : Nat) (x q s e t : Int) (d0 d1 d2 d3 d4 d5 d6 w : Bool) (f l : Int) (D Y : List AC) : Sg 0 0 (h42 C n i k N x q s e t d0 d1 d2 d3 d4 d5 d6 w f l D Y) (p42a_end C n i k N x q s e t d0 d1 d2 d3 d4 d5 d6 w f l D Y) := fun ho j =>
 oS hE [.run 6, .ops [(1, .d .len)] [], .run 2] [3, 6, 7, 8] (ps := []) trivial
  ho
def p149a_end (C : List DT) (n _i _k _N : Nat) (_x _q _s _e _t : Int) (_d0 _d1 _d2 _d3 _d4 _d5 _d6 _w : Bool) (_f _l : Int) (_D _Y : List AC) (j : Nat → Value) : St := ⟨[], ztHa3, mkT j [(1, .e (.one (.v (.func (.func 97) #[] #[])))), (8, .e (.one (.dp (.s C n 9)))), (9, (iI (Int.ofNat n))), (10, (iI 0))] 21 0⟩
theorem p149a (hE : EnvOk E) (C : List DT) (n i k N : Nat) (x q s e t : Int) (d0 d1 d2 d3 d4 d5 d6 w : Bool) (f l : Int) (D Y : List AC) : Sg 0 0 (h149 C n i k N x q s e t d0 d1 d2 d3 d4 d5 d6 w f l D Y) (p149a_end C n i k N x q s e t d0 d1 d2 d3 d4 d5 d6 w f l D Y) := fun ho j =>
 oS hE [.run 4, .ops [(1, .d .len)] [], .run 2] [1, 8, 9, 10] (ps := []) trivial
  ho
def p111z_end (_C : List DT) (_n _i _k _N : Nat) (_x _q _s _e _t : Int) (_d0 _d1 _d2 _d3 _d4 _d5 _d6 _w : Bool) (_f _l : Int) (_D _Y : List AC) (j : Nat → Value) : St := ⟨[], [.code .ret, .code (atC [1, 1] (bodyOf Tryz.f96))], mkT j [(6, (iI 5))] 14 0⟩
theorem p111z (hE : EnvOk E) (C : List DT) (n i k N : Nat) (x q s e t : Int) (d0 d1 d2 d3 d4 d5 d6 w : Bool) (f l : Int) (D Y : List AC) (h0 : (decide ((↑n : Int) > Int.ofNat (nat_lit 16)) : Bool) = true) : Sg 0 0 (h111 C n i k N x q s e t d0 d1 d2 d3 d4 d5 d6 w f l D Y) (p111z_end C n i k N x q s e t d0 d1 d2 d3 d4 d5 d6 w f l D Y) := fun ho j =>
 oS hE [.run 4, .ops [(1, .d .len)] [], .cond true, .run 2] [6] (aP h0 <| aZ)
  ho
def p111_end (_C : List DT) (_n _i _k _N : Nat) (_x _q _s e _t : Int) (_d0 _d1 _d2 _d3 _d4 _d5 _d6 _w : Bool) (_f _l : Int) (_D _Y : List AC) (j : Nat → Value) : St := ⟨[], [.code .ret], mkT j [(6, (iI e))] 14 0⟩
theorem p111 (hE : EnvOk E) (C : List DT) (n i k N : Nat) (x q s e t : Int) (d0 d1 d2 d3 d4 d5 d6 w : Bool) (f l : Int) (D Y : List AC) (h0 : (decide ((↑n : Int) > Int.ofNat (nat_lit 16)) : Bool) = false) (h1 : COut E 0 [] 120 [.e (.one (.dp (.s C n 9))), .e (.one (.v (.func (.func 97) #[] #[])))] (iI e) []) : Sg 0 0 (h111 C n i k N x q s e t d0 d1 d2 d3 d4 d5 d6 w f l D Y) (p111_end C n i k N x q s e t d0 d1 d2 d3 d4 d5 d6 w f l D Y) := fun ho j =>
 oS hE [.run 4, .ops [(1, .d .len)] [], .cond false, .run 2, .ops [(2, .c0 (iI e))] []] [6] (aP h0 <| aP h1 <| aN <| aZ)
  ho
def p50_end (_C : List DT) (_n _i _k _N : Nat) (_x _q _s e _t : Int) (_d0 _d1 _d2 _d3 _d4 _d5 _d6 _w : Bool) (_f _l : Int) (_D _Y : List AC) (j : Nat → Value) : St := ⟨[], [.code .ret], mkT j [(2, (iI e))] 5 0⟩
theorem p50 (hE : EnvOk E) (C : List DT) (n i k N : Nat) (x q s e t : Int) (d0 d1 d2 d3 d4 d5 d6 w : Bool) (f l : Int) (D Y : List AC) (h0 : COut E 0 [] 96 [.e (.one (.dp (.s C n 9))), (iI 16), .e (.one (.v (.func (.func 97) #[] #[])))] (iI e) []) : Sg 0 0 (h50 C n i k N x q s e t d0 d1 d2 d3 d4 d5 d6 w f l D Y) (p50_end C n i k N x q s e t d0 d1 d2 d3 d4 d5 d6 w f l D Y) := fun ho j =>
 oS hE [.run 3, .ops [(1, .c0 (iI e))] []] [2] (aP h0 <| aN <| aZ)
  ho
def p45z_end (_C : List DT) (_n _i _k _N : Nat) (_x _q _s _e _t : Int) (_d0 _d1 _d2 _d3 _d4 _d5 _d6 _w : Bool) (_f _l : Int) (_D _Y : List AC) (j : Nat → Value) : St := ⟨[], [.code .ret, .code (atC [1, 1] (bodyOf Tryz.f25))], mkT j [(2, (iI 5))] 23 0⟩
theorem p45z (hE : EnvOk E) (C : List DT) (n i k N : Nat) (x q s e t : Int) (d0 d1 d2 d3 d4 d5 d6 w : Bool) (f l : Int) (D Y : List AC) (h0 : (decide ((↑n : Int) > (16 : Int)) : Bool) = true) : Sg 0 0 (h45 C n i k N x q s e t d0 d1 d2 d3 d4 d5 d6 w f l D Y) (p45z_end C n i k N x q s e t d0 d1 d2 d3 d4 d5 d6 w f l D Y) := fun ho j =>
 oS hE [.run 4, .ops [(1, .d .len)] [], .cond true, .run 2] [2] (aP h0 <| aZ)
  ho
def p45a_end (C : List DT) (n _i _k _N : Nat) (_x _q _s _e _t : Int) (_d0 _d1 _d2 _d3 _d4 _d5 _d6 _w : Bool) (_f _l : Int) (_D _Y : List AC) (j : Nat → Value) : St := ⟨[], ztHa1, mkT j [(0, .e (.one (.dp (.s C n 9)))), (3, (iI 0))] 23 0⟩
theorem p45a (hE : EnvOk E) (C : List DT) (n i k N : Nat) (x q s e t : Int) (d0 d1 d2 d3 d4 d5 d6 w : Bool) (f l : Int) (D Y : List AC) (h0 : (decide ((↑n : Int) > (16 : Int)) : Bool) = false) : Sg 0 0 (h45 C n i k N x q s e t d0 d1 d2 d3 d4 d5 d6 w f l D Y) (p45a_end C n i k N x q s e t d0 d1 d2 d3 d4 d5 d6 w f l D Y) := fun ho j =>
 oS hE [.run 4, .ops [(1, .d .len)] [], .cond false, .run 6] [0, 3] (aP h0 <| aZ)
  ho
def p147_0_end (s _t _f l : Int) (_d0 _d1 _d2 _d3 _d4 _d5 _d6 : Bool) (j : Nat → Value) : St := ⟨[], [.code .ret], mkT j [(4, (iB (decide (s < l))))] 30 0⟩
theorem p147_0 (hE : EnvOk E) (s t f l : Int) (d0 d1 d2 d3 d4 d5 d6 : Bool) (h0 : ((iI ((wrapF IntKind.i64 (t.tdiv (86400 : Int))).tmod (7 : Int))) : AV) = (iI 0)) (h1 : ((iI (t.tmod (86400 : Int))) : AV) = (iI s)) (h2 : (d0 == true : Bool) = true) (h3 : (d0 == true : Bool) = true) (h4 : (d0 == true : Bool) = true) (h5 : (d0 == true : Bool) = true) (h6 : (d0 == true : Bool) = true) (h7 : (d0 : Bool) = true) (h8 : (decide (s ≥ f) == true : Bool) = true) (h9 : (decide (s ≥ f) == true : Bool) = true) (h10 : (decide (s ≥ f) == true : Bool) = true) (h11 : (decide (s ≥ f) == true : Bool) = true) (h12 : (decide (s ≥ f) == true : Bool) = true) (h13 : (decide (s ≥ f) : Bool) = true) : Sg 0 0 (h147 s t f l d0 d1 d2 d3 d4 d5 d6) (p147_0_end s t f l d0 d1 d2 d3 d4 d5 d6) := fun ho j =>
 oS hE [.run 3, .ops [(2, .rn (iI 0)), (4, .rn (iI s))] [], .run 1, .ops [(10, .pk true), (17, .pk true)] [(5, true), (6, true), (7, true), (8, true), (9, true), (12, true), (13, true), (14, true), (15, true), (16, true)]] [4] (s' := fun j => ⟨[bK [.v (.bool d0), .v (.bool d1), .v (.bool d2), .v (.bool d3), .v (.bool d4), .v (.bool d5), .v (.bool d6), .v (.int .i64 f), .v (.int .i64 l)] 9 130], [.code .ret], mkT j [(4, (iB (decide (s < l))))] 30 0⟩) (aP h0 <| aP h1 <| aP h2 <| aP h3 <| aP h4 <| aP h5 <| aP h6 <| aP h7 <| aP h8 <| aP h9 <| aP h10 <| aP h11 <| aP h12 <| aP h13 <| aZ)
  fun j => gZ [] (ho j)
def p147n_0_end (_s _t _f _l : Int) (_d0 _d1 _d2 _d3 _d4 _d5 _d6 : Bool) (j : Nat → Value) : St := ⟨[], [.code .ret], mkT j [(4, (iB false))] 30 0⟩
theorem p147n_0 (hE : EnvOk E) (s t f l : Int) (d0 d1 d2 d3 d4 d5 d6 : Bool) (h0 : ((iI ((wrapF IntKind.i64 (t.tdiv (86400 : Int))).tmod (7 : Int))) : AV) = (iI 0)) (h1 : ((iI (t.tmod (86400 : Int))) : AV) = (iI s)) (h2 : (d0 == true : Bool) = false) (h3 : (d0 == true : Bool) = false) (h4 : (d0 == true : Bool) = false) (h5 : (d0 == true : Bool) = false) (h6 : (d0 == true : Bool) = false) (h7 : (d0 : Bool) = false) : Sg 0 0 (h147 s t f l d0 d1 d2 d3 d4 d5 d6) (p147n_0_end s t f l d0 d1 d2 d3 d4 d5 d6) := fun ho j =>
 oS hE [.run 3, .ops [(2, .rn (iI 0)), (4, .rn (iI s))] [], .run 1, .ops [(10, .pk false)] [(5, false), (6, false), (7, false), (8, false), (9, false)]] [4] (s' := fun j => ⟨[bK [.v (.bool d0), .v (.bool d1), .v (.bool d2), .v (.bool d3), .v (.bool d4), .v (.bool d5), .v (.bool d6), .v (.int .i64 f), .v (.int .i64 l)] 9 130], [.code .ret], mkT j [(4, (iB false))] 30 0⟩) (aP h0 <| aP h1 <| aP h2 <| aP h3 <| aP h4 <| aP h5 <| aP h6 <| aP h7 <| aZ)
  fun j => gZ [] (ho j)
def p147m_0_end (_s _t _f _l : Int) (_d0 _d1 _d2 _d3 _d4 _d5 _d6 : Bool) (j : Nat → Value) : St := ⟨[], [.code .ret], mkT j [(4, (iB false))] 30 0⟩
theorem p147m_0 (hE : EnvOk E) (s t f l : Int) (d0 d1 d2 d3 d4 d5 d6 : Bool) (h0 : ((iI ((wrapF IntKind.i64 (t.tdiv (86400 : Int))).tmod (7 : Int))) : AV) = (iI 0)) (h1 : ((iI (t.tmod (86400 : Int))) : AV) = (iI s)) (h2 : (d0 == true : Bool) = true) (h3 : (d0 == true : Bool) = true) (h4 : (d0 == true : Bool) = true) (h5 : (d0 == true : Bool) = true) (h6 : (d0 == true : Bool) = true) (h7 : (d0 : Bool) = true) (h8 : (decide (s ≥ f) == true : Bool) = false) (h9 : (decide (s ≥ f) == true : Bool) = false) (h10 : (decide (s ≥ f) == true : Bool) = false) (h11 : (decide (s ≥ f) == true : Bool) = false) (h12 : (decide (s ≥ f) == true : Bool) = false) (h13 : (decide (s ≥ f) : Bool) = false) : Sg 0 0 (h147 s t f l d0 d1 d2 d3 d4 d5 d6) (p147m_0_end s t f l d0 d1 d2 d3 d4 d5 d6) := fun ho j =>
 oS hE [.run 3, .ops [(2, .rn (iI 0)), (4, .rn (iI s))] [], .run 1, .ops [(10, .pk true), (17, .pk false)] [(5, true), (6, true), (7, true), (8, true), (9, true), (12, false), (13, false), (14, false), (15, false), (16, false)]] [4] (s' := fun j => ⟨[bK [.v (.bool d0), .v (.bool d1), .v (.bool d2), .v (.bool d3), .v (.bool d4), .v (.bool d5), .v (.bool d6), .v (.int .i64 f), .v (.int .i64 l)] 9 130], [.code .ret], mkT j [(4, (iB false))] 30 0⟩) (aP h0 <| aP h1 <| aP h2 <| aP h3 <| aP h4 <| aP h5 <| aP h6 <| aP h7 <| aP h8 <| aP h9 <| aP h10 <| aP h11 <| aP h12 <| aP h13 <| aZ)
  fun j => gZ [] (ho j)
def p147_1_end (s _t _f l : Int) (_d0 _d1 _d2 _d3 _d4 _d5 _d6 : Bool) (j : Nat → Value) : St := ⟨[], [.code .ret], mkT j [(4, (iB (decide (s < l))))] 30 0⟩
theorem p147_1 (hE : EnvOk E) (s t f l : Int) (d0 d1 d2 d3 d4 d5 d6 : Bool) (h0 : ((iI ((wrapF IntKind.i64 (t.tdiv (86400 : Int))).tmod (7 : Int))) : AV) = (iI 1)) (h1 : ((iI (t.tmod (86400 : Int))) : AV) = (iI s)) (h2 : (d1 == true : Bool) = true) (h3 : (d1 == true : Bool) = true) (h4 : (d1 == true : Bool) = true) (h5 : (d1 == true : Bool) = true) (h6 : (d1 == true : Bool) = true) (h7 : (d1 : Bool) = true) (h8 : (decide (s ≥ f) == true : Bool) = true) (h9 : (decide (s ≥ f) == true : Bool) = true) (h10 : (decide (s ≥ f) == true : Bool) = true) (h11 : (decide (s ≥ f) == true : Bool) = true) (h12 : (decide (s ≥ f) == true : Bool) = true) (h13 : (decide (s ≥ f) : Bool) = true) : Sg 0 0 (h147 s t f l d0 d1 d2 d3 d4 d5 d6) (p147_1_end s t f l d0 d1 d2 d3 d4 d5 d6) := fun ho j =>
 oS hE [.run 3, .ops [(2, .rn (iI 1)), (4, .rn (iI s))] [], .run 1, .ops [(10, .pk true), (17, .pk true)] [(5, true), (6, true), (7, true), (8, true), (9, true), (12, true), (13, true), (14, true), (15, true), (16, true)]] [4] (s' := fun j => ⟨[bK [.v (.bool d0), .v (.bool d1), .v (.bool d2), .v (.bool d3), .v (.bool d4), .v (.bool d5), .v (.bool d6), .v (.int .i64 f), .v (.int .i64 l)] 9 130], [.code .ret], mkT j [(4, (iB (decide (s < l))))] 30 0⟩) (aP h0 <| aP h1 <| aP h2 <| aP h3 <| aP h4 <| aP h5 <| aP h6 <| aP h7 <| aP h8 <| aP h9 <| aP h10 <| aP h11 <| aP h12 <| aP h13 <| aZ)
  fun j => gZ [] (ho j)
def p147n_1_end (_s _t _f _l : Int) (_d0 _d1 _d2 _d3 _d4 _d5 _d6 : Bool) (j : Nat → Value) : St := ⟨[], [.code .ret], mkT j [(4, (iB false))] 30 0⟩
theorem p147n_1 (hE : EnvOk E) (s t f l : Int) (d0 d1 d2 d3 d4 d5 d6 : Bool) (h0 : ((iI ((wrapF IntKind.i64 (t.tdiv (86400 : Int))).tmod (7 : Int))) : AV) = (iI 1)) (h1 : ((iI (t.tmod (86400 : Int))) : AV) = (iI s)) (h2 : (d1 == true : Bool) = false) (h3 : (d1 == true : Bool) = false) (h4 : (d1 == true : Bool) = false) (h5 : (d1 == true : Bool) = false) (h6 : (d1 == true : Bool) = false) (h7 : (d1 : Bool) = false) : Sg 0 0 (h147 s t f l d0 d1 d2 d3 d4 d5 d6) (p147n_1_end s t f l d0 d1 d2 d3 d4 d5 d6) := fun ho j =>
 oS hE [.run 3, .ops [(2, .rn (iI 1)), (4, .rn (iI s))] [], .run 1, .ops [(10, .pk false)] [(5, false), (6, false), (7, false), (8, false), (9, false)]] [4] (s' := fun j => ⟨[bK [.v (.bool d0), .v (.bool d1), .v (.bool d2), .v (.bool d3), .v (.bool d4), .v (.bool d5), .v (.bool d6), .v (.int .i64 f), .v (.int .i64 l)] 9 130], [.code .ret], mkT j [(4, (iB false))] 30 0⟩) (aP h0 <| aP h1 <| aP h2 <| aP h3 <| aP h4 <| aP h5 <| aP h6 <| aP h7 <| aZ)
  fun j => gZ [] (ho j)
def p147m_1_end (_s _t _f _l : Int) (_d0 _d1 _d2 _d3 _d4 _d5 _d6 : Bool) (j : Nat → Value) : St := ⟨[], [.code .ret], mkT j [(4, (iB false))] 30 0⟩
theorem p147m_1 (hE : EnvOk E) (s t f l : Int) (d0 d1 d2 d3 d4 d5 d6 : Bool) (h0 : ((iI ((wrapF IntKind.i64 (t.tdiv (86400 : Int))).tmod (7 : Int))) : AV) = (iI 1)) (h1 : ((iI (t.tmod (86400 : Int))) : AV) = (iI s)) (h2 : (d1 == true : Bool) = true) (h3 : (d1 == true : Bool) = true) (h4 : (d1 == true : Bool) = true) (h5 : (d1 == true : Bool) = true) (h6 : (d1 == true : Bool) = true) (h7 : (d1 : Bool) = true) (h8 : (decide (s ≥ f) == true : Bool) = false) (h9 : (decide (s ≥ f) == true : Bool) = false) (h10 : (decide (s ≥ f) == true : Bool) = false) (h11 : (decide (s ≥ f) == true : Bool) = false) (h12 : (decide (s ≥ f) == true : Bool) = false) (h13 : (decide (s ≥ f) : Bool) = false) : Sg 0 0 (h147 s t f l d0 d1 d2 d3 d4 d5 d6) (p147m_1_end s t f l d0 d1 d2 d3 d4 d5 d6) := fun ho j =>
 oS hE [.run 3, .ops [(2, .rn (iI 1)), (4, .rn (iI s))] [], .run 1, .ops [(10, .pk true), (17, .pk false)] [(5, true), (6, true), (7, true), (8, true), (9, true), (12, false), (13, false), (14, false), (15, false), (16, false)]] [4] (s' := fun j => ⟨[bK [.v (.bool d0), .v (.bool d1), .v (.bool d2), .v (.bool d3), .v (.bool d4), .v (.bool d5), .v (.bool d6), .v (.int .i64 f), .v (.int .i64 l)] 9 130], [.code .ret], mkT j [(4, (iB false))] 30 0⟩) (aP h0 <| aP h1 <| aP h2 <| aP h3 <| aP h4 <| aP h5 <| aP h6 <| aP h7 <| aP h8 <| aP h9 <| aP h10 <| aP h11 <| aP h12 <| aP h13 <| aZ)
  fun j => gZ [] (ho j)
def p147_2_end (s _t _f l : Int) (_d0 _d1 _d2 _d3 _d4 _d5 _d6 : Bool) (j : Nat → Value) : St := ⟨[], [.code .ret], mkT j [(4, (iB (decide (s < l))))] 30 0⟩
theorem p147_2 (hE : EnvOk E) (s t f l : Int) (d0 d1 d2 d3 d4 d5 d6 : Bool) (h0 : ((iI ((wrapF IntKind.i64 (t.tdiv (86400 : Int))).tmod (7 : Int))) : AV) = (iI 2)) (h1 : ((iI (t.tmod (86400 : Int))) : AV) = (iI s)) (h2 : (d2 == true : Bool) = true) (h3 : (d2 == true : Bool) = true) (h4 : (d2 == true : Bool) = true) (h5 : (d2 == true : Bool) = true) (h6 : (d2 == true : Bool) = true) (h7 : (d2 : Bool) = true) (h8 : (decide (s ≥ f) == true : Bool) = true) (h9 : (decide (s ≥ f) == true : Bool) = true) (h10 : (decide (s ≥ f) == true : Bool) = true) (h11 : (decide (s ≥ f) == true : Bool) = true) (h12 : (decide (s ≥ f) == true : Bool) = true) (h13 : (decide (s ≥ f) : Bool) = true) : Sg 0 0 (h147 s t f l d0 d1 d2 d3 d4 d5 d6) (p147_2_end s t f l d0 d1 d2 d3 d4 d5 d6) := fun ho j =>
 oS hE [.run 3, .ops [(2, .rn (iI 2)), (4, .rn (iI s))] [], .run 1, .ops [(10, .pk true), (17, .pk true)] [(5, true), (6, true), (7, true), (8, true), (9, true), (12, true), (13, true), (14, true), (15, true), (16, true)]] [4] (s' := fun j => ⟨[bK [.v (.bool d0), .v (.bool d1), .v (.bool d2), .v (.bool d3), .v (.bool d4), .v (.bool d5), .v (.bool d6), .v (.int .i64 f), .v (.int .i64 l)] 9 130], [.code .ret], mkT j [(4, (iB (decide (s < l))))] 30 0⟩) (aP h0 <| aP h1 <| aP h2 <| aP h3 <| aP h4 <| aP h5 <| aP h6 <| aP h7 <| aP h8 <| aP h9 <| aP h10 <| aP h11 <| aP h12 <| aP h13 <| aZ)
  fun j => gZ [] (ho j)
def p147n_2_end (_s _t _f _l : Int) (_d0 _d1 _d2 _d3 _d4 _d5 _d6 : Bool) (j : Nat → Value) : St := ⟨[], [.code .ret], mkT j [(4, (iB false))] 30 0⟩
theorem p147n_2 (hE : EnvOk E) (s t f l : Int) (d0 d1 d2 d3 d4 d5 d6 : Bool) (h0 : ((iI ((wrapF IntKind.i64 (t.tdiv (86400 : Int))).tmod (7 : Int))) : AV) = (iI 2)) (h1 : ((iI (t.tmod (86400 : Int))) : AV) = (iI s)) (h2 : (d2 == true : Bool) = false) (h3 : (d2 == true : Bool) = false) (h4 : (d2 == true : Bool) = false) (h5 : (d2 == true : Bool) = false) (h6 : (d2 == true : Bool) = false) (h7 : (d2 : Bool) = false) : Sg 0 0 (h147 s t f l d0 d1 d2 d3 d4 d5 d6) (p147n_2_end s t f l d0 d1 d2 d3 d4 d5 d6) := fun ho j =>
 oS hE [.run 3, .ops [(2, .rn (iI 2)), (4, .rn (iI s))] [], .run 1, .ops [(10, .pk false)] [(5, false), (6, false), (7, false), (8, false), (9, false)]] [4] (s' := fun j => ⟨[bK [.v (.bool d0), .v (.bool d1), .v (.bool d2), .v (.bool d3), .v (.bool d4), .v (.bool d5), .v (.bool d6), .v (.int .i64 f), .v (.int .i64 l)] 9 130], [.code .ret], mkT j [(4, (iB false))] 30 0⟩) (aP h0 <| aP h1 <| aP h2 <| aP h3 <| aP h4 <| aP h5 <| aP h6 <| aP h7 <| aZ)
  fun j => gZ [] (ho j)
def p147m_2_end (_s _t _f _l : Int) (_d0 _d1 _d2 _d3 _d4 _d5 _d6 : Bool) (j : Nat → Value) : St := ⟨[], [.code .ret], mkT j [(4, (iB false))] 30 0⟩
theorem p147m_2 (hE : EnvOk E) (s t f l : Int) (d0 d1 d2 d3 d4 d5 d6 : Bool) (h0 : ((iI ((wrapF IntKind.i64 (t.tdiv (86400 : Int))).tmod (7 : Int))) : AV) = (iI 2)) (h1 : ((iI (t.tmod (86400 : Int))) : AV) = (iI s)) (h2 : (d2 == true : Bool) = true) (h3 : (d2 == true : Bool) = true) (h4 : (d2 == true : Bool) = true) (h5 : (d2 == true : Bool) = true) (h6 : (d2 == true : Bool) = true) (h7 : (d2 : Bool) = true) (h8 : (decide (s ≥ f) == true : Bool) = false) (h9 : (decide (s ≥ f) == true : Bool) = false) (h10 : (decide (s ≥ f) == true : Bool) = false) (h11 : (decide (s ≥ f) == true : Bool) = false) (h12 : (decide (s ≥ f) == true : Bool) = false) (h13 : (decide (s ≥ f) : Bool) = false) : Sg 0 0 (h147 s t f l d0 d1 d2 d3 d4 d5 d6) (p147m_2_end s t f l d0 d1 d2 d3 d4 d5 d6) := fun ho j =>
 oS hE [.run 3, .ops [(2, .rn (iI 2)), (4, .rn (iI s))] [], .run 1, .ops [(10, .pk true), (17, .pk false)] [(5, true), (6, true), (7, true), (8, true), (9, true), (12, false), (13, false), (14, false), (15, false), (16, false)]] [4] (s' := fun j => ⟨[bK [.v (.bool d0), .v (.bool d1), .v (.bool d2), .v (.bool d3), .v (.bool d4), .v (.bool d5), .v (.bool d6), .v (.int .i64 f), .v (.int .i64 l)] 9 130], [.code .ret], mkT j [(4, (iB false))] 30 0⟩) (aP h0 <| aP h1 <| aP h2 <| aP h3 <| aP h4 <| aP h5 <| aP h6 <| aP h7 <| aP h8 <| aP h9 <| aP h10 <| aP h11 <| aP h12 <| aP h13 <| aZ)
  fun j => gZ [] (ho j)
def p147_3_end (s _t _f l : Int) (_d0 _d1 _d2 _d3 _d4 _d5 _d6 : Bool) (j : Nat → Value) : St := ⟨[], [.code .ret], mkT j [(4, (iB (decide (s < l))))] 30 0⟩
theorem p147_3 (hE : EnvOk E) (s t f l : Int) (d0 d1 d2 d3 d4 d5 d6 : Bool) (h0 : ((iI ((wrapF IntKind.i64 (t.tdiv (86400 : Int))).tmod (7 : Int))) : AV) = (iI 3)) (h1 : ((iI (t.tmod (86400 : Int))) : AV) = (iI s)) (h2 : (d3 == true : Bool) = true) (h3 : (d3 == true : Bool) = true) (h4 : (d3 == true : Bool) = true) (h5 : (d3 == true : Bool) = true) (h6 : (d3 == true : Bool) = true) (h7 : (d3 : Bool) = true) (h8 : (decide (s ≥ f) == true : Bool) = true) (h9 : (decide (s ≥ f) == true : Bool) = true) (h10 : (decide (s ≥ f) == true : Bool) = true) (h11 : (decide (s ≥ f) == true : Bool) = true) (h12 : (decide (s ≥ f) == true : Bool) = true) (h13 : (decide (s ≥ f) : Bool) = true) : Sg 0 0 (h147 s t f l d0 d1 d2 d3 d4 d5 d6) (p147_3_end s t f l d0 d1 d2 d3 d4 d5 d6) := fun ho j =>
 oS hE [.run 3, .ops [(2, .rn (iI 3)), (4, .rn (iI s))] [], .run 1, .ops [(10, .pk true), (17, .pk true)] [(5, true), (6, true), (7, true), (8, true), (9, true), (12, true), (13, true), (14, true), (15, true), (16, true)]] [4] (s' := fun j => ⟨[bK [.v (.bool d0), .v (.bool d1), .v (.bool d2), .v (.bool d3), .v (.bool d4), .v (.bool d5), .v (.bool d6), .v (.int .i64 f), .v (.int .i64 l)] 9 130], [.code .ret], mkT j [(4, (iB (decide (s < l))))] 30 0⟩) (aP h0 <| aP h1 <| aP h2 <| aP h3 <| aP h4 <| aP h5 <| aP h6 <| aP h7 <| aP h8 <| aP h9 <| aP h10 <| aP h11 <| aP h12 <| aP h13 <| aZ)
  fun j => gZ [] (ho j)
def p147n_3_end (_s _t _f _l : Int) (_d0 _d1 _d2 _d3 _d4 _d5 _d6 : Bool) (j : Nat → Value) : St := ⟨[], [.code .ret], mkT j [(4, (iB false))] 30 0⟩
theorem p147n_3 (hE : EnvOk E) (s t f l : Int) (d0 d1 d2 d3 d4 d5 d6 : Bool) (h0 : ((iI ((wrapF IntKind.i64 (t.tdiv (86400 : Int))).tmod (7 : Int))) : AV) = (iI 3)) (h1 : ((iI (t.tmod (86400 : Int))) : AV) = (iI s)) (h2 : (d3 == true : Bool) = false) (h3 : (d3 == true : Bool) = false) (h4 : (d3 == true : Bool) = false) (h5 : (d3 == true : Bool) = false) (h6 : (d3 == true : Bool) = false) (h7 : (d3 : Bool) = false) : Sg 0 0 (h147 s t f l d0 d1 d2 d3 d4 d5 d6) (p147n_3_end s t f l d0 d1 d2 d3 d4 d5 d6) := fun ho j =>
 oS hE [.run 3, .ops [(2, .rn (iI 3)), (4, .rn (iI s))] [], .run 1, .ops [(10, .pk false)] [(5, false), (6, false), (7, false), (8, false), (9, false)]] [4] (s' := fun j => ⟨[bK [.v (.bool d0), .v (.bool d1), .v (.bool d2), .v (.bool d3), .v (.bool d4), .v (.bool d5), .v (.bool d6), .v (.int .i64 f), .v (.int .i64 l)] 9 130], [.code .ret], mkT j [(4, (iB false))] 30 0⟩) (aP h0 <| aP h1 <| aP h2 <| aP h3 <| aP h4 <| aP h5 <| aP h6 <| aP h7 <| aZ)
  fun j => gZ [] (ho j)
def p147m_3_end (_s _t _f _l : Int) (_d0 _d1 _d2 _d3 _d4 _d5 _d6 : Bool) (j : Nat → Value) : St := ⟨[], [.code .ret], mkT j [(4, (iB false))] 30 0⟩
theorem p147m_3 (hE : EnvOk E) (s t f l : Int) (d0 d1 d2 d3 d4 d5 d6 : Bool) (h0 : ((iI ((wrapF IntKind.i64 (t.tdiv (86400 : Int))).tmod (7 : Int))) : AV) = (iI 3)) (h1 : ((iI (t.tmod (86400 : Int))) : AV) = (iI s)) (h2 : (d3 == true : Bool) = true) (h3 : (d3 == true : Bool) = true) (h4 : (d3 == true : Bool) = true) (h5 : (d3 == true : Bool) = true) (h6 : (d3 == true : Bool) = true) (h7 : (d3 : Bool) = true) (h8 : (decide (s ≥ f) == true : Bool) = false) (h9 : (decide (s ≥ f) == true : Bool) = false) (h10 : (decide (s ≥ f) == true : Bool) = false) (h11 : (decide (s ≥ f) == true : Bool) = false) (h12 : (decide (s ≥ f) == true : Bool) = false) (h13 : (decide (s ≥ f) : Bool) = false) : Sg 0 0 (h147 s t f l d0 d1 d2 d3 d4 d5 d6) (p147m_3_end s t f l d0 d1 d2 d3 d4 d5 d6) := fun ho j =>
 oS hE [.run 3, .ops [(2, .rn (iI 3)), (4, .rn (iI s))] [], .run 1, .ops [(10, .pk true), (17, .pk false)] [(5, true), (6, true), (7, true), (8, true), (9, true), (12, false), (13, false), (14, false), (15, false), (16, false)]] [4] (s' := fun j => ⟨[bK [.v (.bool d0), .v (.bool d1), .v (.bool d2), .v (.bool d3), .v (.bool d4), .v (.bool d5), .v (.bool d6), .v (.int .i64 f), .v (.int .i64 l)] 9 130], [.code .ret], mkT j [(4, (iB false))] 30 0⟩) (aP h0 <| aP h1 <| aP h2 <| aP h3 <| aP h4 <| aP h5 <| aP h6 <| aP h7 <| aP h8 <| aP h9 <| aP h10 <| aP h11 <| aP h12 <| aP h13 <| aZ)
  fun j => gZ [] (ho j)
def p147_4_end (s _t _f l : Int) (_d0 _d1 _d2 _d3 _d4 _d5 _d6 : Bool) (j : Nat → Value) : St := ⟨[], [.code .ret], mkT j [(4, (iB (decide (s < l))))] 30 0⟩
theorem p147_4 (hE : EnvOk E) (s t f l : Int) (d0 d1 d2 d3 d4 d5 d6 : Bool) (h0 : ((iI ((wrapF IntKind.i64 (t.tdiv (86400 : Int))).tmod (7 : Int))) : AV) = (iI 4)) (h1 : ((iI (t.tmod (86400 : Int))) : AV) = (iI s)) (h2 : (d4 == true : Bool) = true) (h3 : (d4 == true : Bool) = true) (h4 : (d4 == true : Bool) = true) (h5 : (d4 == true : Bool) = true) (h6 : (d4 == true : Bool) = true) (h7 : (d4 : Bool) = true) (h8 : (decide (s ≥ f) == true : Bool) = true) (h9 : (decide (s ≥ f) == true : Bool) = true) (h10 : (decide (s ≥ f) == true : Bool) = true) (h11 : (decide (s ≥ f) == true : Bool) = true) (h12 : (decide (s ≥ f) == true : Bool) = true) (h13 : (decide (s ≥ f) : Bool) = true) : Sg 0 0 (h147 s t f l d0 d1 d2 d3 d4 d5 d6) (p147_4_end s t f l d0 d1 d2 d3 d4 d5 d6) := fun ho j =>
 oS hE [.run 3, .ops [(2, .rn (iI 4)), (4, .rn (iI s))] [], .run 1, .ops [(10, .pk true), (17, .pk true)] [(5, true), (6, true), (7, true), (8, true), (9, true), (12, true), (13, true), (14, true), (15, true), (16, true)]] [4] (s' := fun j => ⟨[bK [.v (.bool d0), .v (.bool d1), .v (.bool d2), .v (.bool d3), .v (.bool d4), .v (.bool d5), .v (.bool d6), .v (.int .i64 f), .v (.int .i64 l)] 9 130], [.code .ret], mkT j [(4, (iB (decide (s < l))))] 30 0⟩) (aP h0 <| aP h1 <| aP h2 <| aP h3 <| aP h4 <| aP h5 <| aP h6 <| aP h7 <| aP h8 <| aP h9 <| aP h10 <| aP h11 <| aP h12 <| aP h13 <| aZ)
  fun j => gZ [] (ho j)
def p147n_4_end (_s _t _f _l : Int) (_d0 _d1 _d2 _d3 _d4 _d5 _d6 : Bool) (j : Nat → Value) : St := ⟨[], [.code .ret], mkT j [(4, (iB false))] 30 0⟩
theorem p147n_4 (hE : EnvOk E) (s t f l : Int) (d0 d1 d2 d3 d4 d5 d6 : Bool) (h0 : ((iI ((wrapF IntKind.i64 (t.tdiv (86400 : Int))).tmod (7 : Int))) : AV) = (iI 4)) (h1 : ((iI (t.tmod (86400 : Int))) : AV) = (iI s)) (h2 : (d4 == true : Bool) = false) (h3 : (d4 == true : Bool) = false) (h4 : (d4 == true : Bool) = false) (h5 : (d4 == true : Bool) = false) (h6 : (d4 == true : Bool) = false) (h7 : (d4 : Bool) = false) : Sg 0 0 (h147 s t f l d0 d1 d2 d3 d4 d5 d6) (p147n_4_end s t f l d0 d1 d2 d3 d4 d5 d6) := fun ho j =>
 oS hE [.run 3, .ops [(2, .rn (iI 4)), (4, .rn (iI s))] [], .run 1, .ops [(10, .pk false)] [(5, false), (6, false), (7, false), (8, false), (9, false)]] [4] (s' := fun j => ⟨[bK [.v (.bool d0), .v (.bool d1), .v (.bool d2), .v (.bool d3), .v (.bool d4), .v (.bool d5), .v (.bool d6), .v (.int .i64 f), .v (.int .i64 l)] 9 130], [.code .ret], mkT j [(4, (iB false))] 30 0⟩) (aP h0 <| aP h1 <| aP h2 <| aP h3 <| aP h4 <| aP h5 <| aP h6 <| aP h7 <| aZ)
  fun j => gZ [] (ho j)
def p147m_4_end (_s _t _f _l : Int) (_d0 _d1 _d2 _d3 _d4 _d5 _d6 : Bool) (j : Nat → Value) : St := ⟨[], [.code .ret], mkT j [(4, (iB false))] 30 0⟩
theorem p147m_4 (hE : EnvOk E) (s t f l : Int) (d0 d1 d2 d3 d4 d5 d6 : Bool) (h0 : ((iI ((wrapF IntKind.i64 (t.tdiv (86400 : Int))).tmod (7 : Int))) : AV) = (iI 4)) (h1 : ((iI (t.tmod (86400 : Int))) : AV) = (iI s)) (h2 : (d4 == true : Bool) = true) (h3 : (d4 == true : Bool) = true) (h4 : (d4 == true : Bool) = true) (h5 : (d4 == true : Bool) = true) (h6 : (d4 == true : Bool) = true) (h7 : (d4 : Bool) = true) (h8 : (decide (s ≥ f) == true : Bool) = false) (h9 : (decide (s ≥ f) == true : Bool) = false) (h10 : (decide (s ≥ f) == true : Bool) = false) (h11 : (decide (s ≥ f) == true : Bool) = false) (h12 : (decide (s ≥ f) == true : Bool) = false) (h13 : (decide (s ≥ f) : Bool) = false) : Sg 0 0 (h147 s t f l d0 d1 d2 d3 d4 d5 d6) (p147m_4_end s t f l d0 d1 d2 d3 d4 d5 d6) := fun ho j =>
 oS hE [.run 3, .ops [(2, .rn (iI 4)), (4, .rn (iI s))] [], .run 1, .ops [(10, .pk true), (17, .pk false)] [(5, true), (6, true), (7, true), (8, true), (9, true), (12, false), (13, false), (14, false), (15, false), (16, false)]] [4] (s' := fun j => ⟨[bK [.v (.bool d0), .v (.bool d1), .v (.bool d2), .v (.bool d3), .v (.bool d4), .v (.bool d5), .v (.bool d6), .v (.int .i64 f), .v (.int .i64 l)] 9 130], [.code .ret], mkT j [(4, (iB false))] 30 0⟩) (aP h0 <| aP h1 <| aP h2 <| aP h3 <| aP h4 <| aP h5 <| aP h6 <| aP h7 <| aP h8 <| aP h9 <| aP h10 <| aP h11 <| aP h12 <| aP h13 <| aZ)
  fun j => gZ [] (ho j)
def p147_5_end (s _t _f l : Int) (_d0 _d1 _d2 _d3 _d4 _d5 _d6 : Bool) (j : Nat → Value) : St := ⟨[], [.code .ret], mkT j [(4, (iB (decide (s < l))))] 30 0⟩
theorem p147_5 (hE : EnvOk E) (s t f l : Int) (d0 d1 d2 d3 d4 d5 d6 : Bool) (h0 : ((iI ((wrapF IntKind.i64 (t.tdiv (86400 : Int))).tmod (7 : Int))) : AV) = (iI 5)) (h1 : ((iI (t.tmod (86400 : Int))) : AV) = (iI s)) (h2 : (d5 == true : Bool) = true) (h3 : (d5 == true : Bool) = true) (h4 : (d5 == true : Bool) = true) (h5 : (d5 == true : Bool) = true) (h6 : (d5 == true : Bool) = true) (h7 : (d5 : Bool) = true) (h8 : (decide (s ≥ f) == true : Bool) = true) (h9 : (decide (s ≥ f) == true : Bool) = true) (h10 : (decide (s ≥ f) == true : Bool) = true) (h11 : (decide (s ≥ f) == true : Bool) = true) (h12 : (decide (s ≥ f) == true : Bool) = true) (h13 : (decide (s ≥ f) : Bool) = true) : Sg 0 0 (h147 s t f l d0 d1 d2 d3 d4 d5 d6) (p147_5_end s t f l d0 d1 d2 d3 d4 d5 d6) := fun ho j =>
 oS hE [.run 3, .ops [(2, .rn (iI 5)), (4, .rn (iI s))] [], .run 1, .ops [(10, .pk true), (17, .pk true)] [(5, true), (6, true), (7, true), (8, true), (9, true), (12, true), (13, true), (14, true), (15, true), (16, true)]] [4] (s' := fun j => ⟨[bK [.v (.bool d0), .v (.bool d1), .v (.bool d2), .v (.bool d3), .v (.bool d4), .v (.bool d5), .v (.bool d6), .v (.int .i64 f), .v (.int .i64 l)] 9 130], [.code .ret], mkT j [(4, (iB (decide (s < l))))] 30 0⟩) (aP h0 <| aP h1 <| aP h2 <| aP h3 <| aP h4 <| aP h5 <| aP h6 <| aP h7 <| aP h8 <| aP h9 <| aP h10 <| aP h11 <| aP h12 <| aP h13 <| aZ)
  fun j => gZ [] (ho j)
def p147n_5_end (_s _t _f _l : Int) (_d0 _d1 _d2 _d3 _d4 _d5 _d6 : Bool) (j : Nat → Value) : St := ⟨[], [.code .ret], mkT j [(4, (iB false))] 30 0⟩
theorem p147n_5 (hE : EnvOk E) (s t f l : Int) (d0 d1 d2 d3 d4 d5 d6 : Bool) (h0 : ((iI ((wrapF IntKind.i64 (t.tdiv (86400 : Int))).tmod (7 : Int))) : AV) = (iI 5)) (h1 : ((iI (t.tmod (86400 : Int))) : AV) = (iI s)) (h2 : (d5 == true : Bool) = false) (h3 : (d5 == true : Bool) = false) (h4 : (d5 == true : Bool) = false) (h5 : (d5 == true : Bool) = false) (h6 : (d5 == true : Bool) = false) (h7 : (d5 : Bool) = false) : Sg 0 0 (h147 s t f l d0 d1 d2 d3 d4 d5 d6) (p147n_5_end s t f l d0 d1 d2 d3 d4 d5 d6) := fun ho j =>
 oS hE [.run 3, .ops [(2, .rn (iI 5)), (4, .rn (iI s))] [], .run 1, .ops [(10, .pk false)] [(5, false), (6, false), (7, false), (8, false), (9, false)]] [4] (s' := fun j => ⟨[bK [.v (.bool d0), .v (.bool d1), .v (.bool d2), .v (.bool d3), .v (.bool d4), .v (.bool d5), .v (.bool d6), .v (.int .i64 f), .v (.int .i64 l)] 9 130], [.code .ret], mkT j [(4, (iB false))] 30 0⟩) (aP h0 <| aP h1 <| aP h2 <| aP h3 <| aP h4 <| aP h5 <| aP h6 <| aP h7 <| aZ)
  fun j => gZ [] (ho j)
def p147m_5_end (_s _t _f _l : Int) (_d0 _d1 _d2 _d3 _d4 _d5 _d6 : Bool) (j : Nat → Value) : St := ⟨[], [.code .ret], mkT j [(4, (iB false))] 30 0⟩
theorem p147m_5 (hE : EnvOk E) (s t f l : Int) (d0 d1 d2 d3 d4 d5 d6 : Bool) (h0 : ((iI ((wrapF IntKind.i64 (t.tdiv (86400 : Int))).tmod (7 : Int))) : AV) = (iI 5)) (h1 : ((iI (t.tmod (86400 : Int))) : AV) = (iI s)) (h2 : (d5 == true : Bool) = true) (h3 : (d5 == true : Bool) = true) (h4 : (d5 == true : Bool) = true) (h5 : (d5 == true : Bool) = true) (h6 : (d5 == true : Bool) = true) (h7 : (d5 : Bool) = true) (h8 : (decide (s ≥ f) == true : Bool) = false) (h9 : (decide (s ≥ f) == true : Bool) = false) (h10 : (decide (s ≥ f) == true : Bool) = false) (h11 : (decide (s ≥ f) == true : Bool) = false) (h12 : (decide (s ≥ f) == true : Bool) = false) (h13 : (decide (s ≥ f) : Bool) = false) : Sg 0 0 (h147 s t f l d0 d1 d2 d3 d4 d5 d6) (p147m_5_end s t f l d0 d1 d2 d3 d4 d5 d6) := fun ho j =>
 oS hE [.run 3, .ops [(2, .rn (iI 5)), (4, .rn (iI s))] [], .run 1, .ops [(10, .pk true), (17, .pk false)] [(5, true), (6, true), (7, true), (8, true), (9, true), (12, false), (13, false), (14, false), (15, false), (16, false)]] [4] (s' := fun j => ⟨[bK [.v (.bool d0), .v (.bool d1), .v (.bool d2), .v (.bool d3), .v (.bool d4), .v (.bool d5), .v (.bool d6), .v (.int .i64 f), .v (.int .i64 l)] 9 130], [.code .ret], mkT j [(4, (iB false))] 30 0⟩) (aP h0 <| aP h1 <| aP h2 <| aP h3 <| aP h4 <| aP h5 <| aP h6 <| aP h7 <| aP h8 <| aP h9 <| aP h10 <| aP h11 <| aP h12 <| aP h13 <| aZ)
  fun j => gZ [] (ho j)
def p147_6_end (s _t _f l : Int) (_d0 _d1 _d2 _d3 _d4 _d5 _d6 : Bool) (j : Nat → Value) : St := ⟨[], [.code .ret], mkT j [(4, (iB (decide (s < l))))] 30 0⟩
theorem p147_6 (hE : EnvOk E) (s t f l : Int) (d0 d1 d2 d3 d4 d5 d6 : Bool) (h0 : ((iI ((wrapF IntKind.i64 (t.tdiv (86400 : Int))).tmod (7 : Int))) : AV) = (iI 6)) (h1 : ((iI (t.tmod (86400 : Int))) : AV) = (iI s)) (h2 : (d6 == true : Bool) = true) (h3 : (d6 == true : Bool) = true) (h4 : (d6 == true : Bool) = true) (h5 : (d6 == true : Bool) = true) (h6 : (d6 == true : Bool) = true) (h7 : (d6 : Bool) = true) (h8 : (decide (s ≥ f) == true : Bool) = true) (h9 : (decide (s ≥ f) == true : Bool) = true) (h10 : (decide (s ≥ f) == true : Bool) = true) (h11 : (decide (s ≥ f) == true : Bool) = true) (h12 : (decide (s ≥ f) == true : Bool) = true) (h13 : (decide (s ≥ f) : Bool) = true) : Sg 0 0 (h147 s t f l d0 d1 d2 d3 d4 d5 d6) (p147_6_end s t f l d0 d1 d2 d3 d4 d5 d6) := fun ho j =>
 oS hE [.run 3, .ops [(2, .rn (iI 6)), (4, .rn (iI s))] [], .run 1, .ops [(10, .pk true), (17, .pk true)] [(5, true), (6, true), (7, true), (8, true), (9, true), (12, true), (13, true), (14, true), (15, true), (16, true)]] [4] (s' := fun j => ⟨[bK [.v (.bool d0), .v (.bool d1), .v (.bool d2), .v (.bool d3), .v (.bool d4), .v (.bool d5), .v (.bool d6), .v (.int .i64 f), .v (.int .i64 l)] 9 130], [.code .ret], mkT j [(4, (iB (decide (s < l))))] 30 0⟩) (aP h0 <| aP h1 <| aP h2 <| aP h3 <| aP h4 <| aP h5 <| aP h6 <| aP h7 <| aP h8 <| aP h9 <| aP h10 <| aP h11 <| aP h12 <| aP h13 <| aZ)
  fun j => gZ [] (ho j)
def p147n_6_end (_s _t _f _l : Int) (_d0 _d1 _d2 _d3 _d4 _d5 _d6 : Bool) (j : Nat → Value) : St := ⟨[], [.code .ret], mkT j [(4, (iB false))] 30 0⟩
theorem p147n_6 (hE : EnvOk E) (s t f l : Int) (d0 d1 d2 d3 d4 d5 d6 : Bool) (h0 : ((iI ((wrapF IntKind.i64 (t.tdiv (86400 : Int))).tmod (7 : Int))) : AV) = (iI 6)) (h1 : ((iI (t.tmod (86400 : Int))) : AV) = (iI s)) (h2 : (d6 == true : Bool) = false) (h3 : (d6 == true : Bool) = false) (h4 : (d6 == true : Bool) = false) (h5 : (d6 == true : Bool) = false) (h6 : (d6 == true : Bool) = false) (h7 : (d6 : Bool) = false) : Sg 0 0 (h147 s t f l d0 d1 d2 d3 d4 d5 d6) (p147n_6_end s t f l d0 d1 d2 d3 d4 d5 d6) := fun ho j =>
 oS hE [.run 3, .ops [(2, .rn (iI 6)), (4, .rn (iI s))] [], .run 1, .ops [(10, .pk false)] [(5, false), (6, false), (7, false), (8, false), (9, false)]] [4] (s' := fun j => ⟨[bK [.v (.bool d0), .v (.bool d1), .v (.bool d2), .v (.bool d3), .v (.bool d4), .v (.bool d5), .v (.bool d6), .v (.int .i64 f), .v (.int .i64 l)] 9 130], [.code .ret], mkT j [(4, (iB false))] 30 0⟩) (aP h0 <| aP h1 <| aP h2 <| aP h3 <| aP h4 <| aP h5 <| aP h6 <| aP h7 <| aZ)
  fun j => gZ [] (ho j)
def p147m_6_end (_s _t _f _l : Int) (_d0 _d1 _d2 _d3 _d4 _d5 _d6 : Bool) (j : Nat → Value) : St := ⟨[], [.code .ret], mkT j [(4, (iB false))] 30 0⟩
theorem p147m_6 (hE : EnvOk E) (s t f l : Int) (d0 d1 d2 d3 d4 d5 d6 : Bool) (h0 : ((iI ((wrapF IntKind.i64 (t.tdiv (86400 : Int))).tmod (7 : Int))) : AV) = (iI 6)) (h1 : ((iI (t.tmod (86400 : Int))) : AV) = (iI s)) (h2 : (d6 == true : Bool) = true) (h3 : (d6 == true : Bool) = true) (h4 : (d6 == true : Bool) = true) (h5 : (d6 == true : Bool) = true) (h6 : (d6 == true : Bool) = true) (h7 : (d6 : Bool) = true) (h8 : (decide (s ≥ f) == true : Bool) = false) (h9 : (decide (s ≥ f) == true : Bool) = false) (h10 : (decide (s ≥ f) == true : Bool) = false) (h11 : (decide (s ≥ f) == true : Bool) = false) (h12 : (decide (s ≥ f) == true : Bool) = false) (h13 : (decide (s ≥ f) : Bool) = false) : Sg 0 0 (h147 s t f l d0 d1 d2 d3 d4 d5 d6) (p147m_6_end s t f l d0 d1 d2 d3 d4 d5 d6) := fun ho j =>
 oS hE [.run 3, .ops [(2, .rn (iI 6)), (4, .rn (iI s))] [], .run 1, .ops [(10, .pk true), (17, .pk false)] [(5, true), (6, true), (7, true), (8, true), (9, true), (12, false), (13, false), (14, false), (15, false), (16, false)]] [4] (s' := fun j => ⟨[bK [.v (.bool d0), .v (.bool d1), .v (.bool d2), .v (.bool d3), .v (.bool d4), .v (.bool d5), .v (.bool d6), .v (.int .i64 f), .v (.int .i64 l)] 9 130], [.code .ret], mkT j [(4, (iB false))] 30 0⟩) (aP h0 <| aP h1 <| aP h2 <| aP h3 <| aP h4 <| aP h5 <| aP h6 <| aP h7 <| aP h8 <| aP h9 <| aP h10 <| aP h11 <| aP h12 <| aP h13 <| aZ)
  fun j => gZ [] (ho j)
def p146_end (_C : List DT) (_n _i _k _N : Nat) (_x _q _s _e t : Int) (_d0 _d1 _d2 _d3 _d4 _d5 _d6 w : Bool) (_f _l : Int) (_D _Y : List AC) (j : Nat → Value) : St := ⟨[bK [.v (.int .i64 t)] 1 3], [.code .ret], mkT j [(3, (iB w))] 7 0⟩
theorem p146 (hE : EnvOk E) (C : List DT) (n i k N : Nat) (x q s e t : Int) (d0 d1 d2 d3 d4 d5 d6 w : Bool) (f l : Int) (D Y : List AC) (h0 : COut E 0 [] 101 [.e (.agg [.v (.bool d0), .v (.bool d1), .v (.bool d2), .v (.bool d3), .v (.bool d4), .v (.bool d5), .v (.bool d6), .v (.int .i64 f), .v (.int .i64 l)]), (iI t)] (iB w) []) : Sg 0 1 (h146 C n i k N x q s e t d0 d1 d2 d3 d4 d5 d6 w f l D Y) (p146_end C n i k N x q s e t d0 d1 d2 d3 d4 d5 d6 w f l D Y) := fun ho j =>
 oS hE [.run 3, .ops [(2, .c0 (iB w))] []] [3] (s' := fun j => ⟨[bK [.v (.int .i64 t)] 1 3, bK [.v (.bool d0), .v (.bool d1), .v (.bool d2), .v (.bool d3), .v (.bool d4), .v (.bool d5), .v (.bool d6), .v (.int .i64 f), .v (.int .i64 l)] 9 130], [.code .ret], mkT j [(3, (iB w))] 7 0⟩) (aP h0 <| aN <| aZ)
  fun j => gZ [0] (ho j)
def p164a_end (C : List DT) (n _i _k _N : Nat) (_x _q _s _e t : Int) (_d0 _d1 _d2 _d3 _d4 _d5 _d6 _w : Bool) (_f _l : Int) (_D _Y : List AC) (j : Nat → Value) : St := ⟨[bK [.v (.int .i64 t)] 1 3], ztHa4, mkT j [(0, .e (.one (.dp (.s C n 9)))), (1, .e (.one (.clo 100 [] [.one (.ptr 0 0)]))), (7, (iI (Int.ofNat n))), (8, (iI 0))] 19 0⟩
theorem p164a (hE : EnvOk E) (C : List DT) (n i k N : Nat) (x q s e t : Int) (d0 d1 d2 d3 d4 d5 d6 w : Bool) (f l : Int) (D Y : List AC) : Sg 0 1 (h164 C n i k N x q s e t d0 d1 d2 d3 d4 d5 d6 w f l D Y) (p164a_end C n i k N x q s e t d0 d1 d2 d3 d4 d5 d6 w f l D Y) := fun ho j =>
 oS hE [.run 4, .ops [(1, .d .len)] [], .run 2] [0, 1, 7, 8] (ps := []) trivial
  ho
def p145_end (_C : List DT) (_n _i _k _N : Nat) (x _q _s _e t : Int) (_d0 _d1 _d2 _d3 _d4 _d5 _d6 _w : Bool) (_f _l : Int) (_D _Y : List AC) (j : Nat → Value) : St := ⟨[bK [.v (.int .i64 t)] 1 3], [.code .ret], mkT j [(4, (iB (decide (x ≥ (0 : Int)))))] 9 0⟩
theorem p145 (hE : EnvOk E) (C : List DT) (n i k N : Nat) (x q s e t : Int) (d0 d1 d2 d3 d4 d5 d6 w : Bool) (f l : Int) (D Y : List AC) (h0 : COut E 0 [bK [.v (.int .i64 t)] 1 3] 123 [.e (.one (.dp (.s C n 9))), .e (.one (.clo 100 [] [.one (.ptr 0 0)]))] (iI x) [bK [.v (.int .i64 t)] 1 3]) : Sg 0 1 (h145 C n i k N x q s e t d0 d1 d2 d3 d4 d5 d6 w f l D Y) (p145_end C n i k N x q s e t d0 d1 d2 d3 d4 d5 d6 w f l D Y) := fun ho j =>
 oS hE [.run 3, .ops [(2, .cw (iI x) [bK [.v (.int .i64 t)] 1 3])] []] [4] (aP h0 <| aZ)
  ho
def p107_end (_C : List DT) (_n _i _k _N : Nat) (_x _q _s _e _t : Int) (_d0 _d1 _d2 _d3 _d4 _d5 _d6 w : Bool) (_f _l : Int) (_D _Y : List AC) (j : Nat → Value) : St := ⟨[], [.code .ret], mkT j [(4, (iB w))] 8 0⟩
theorem p107 (hE : EnvOk E) (C : List DT) (n i k N : Nat) (x q s e t : Int) (d0 d1 d2 d3 d4 d5 d6 w : Bool) (f l : Int) (D Y : List AC) (h0 : COut E 0 [bK [.v (.int .i64 t)] 1 3] 99 [.e (.one (.dp (.s C n 9))), .e (.one (.clo 100 [] [.one (.ptr 0 0)]))] (iB w) [bK [.v (.int .i64 t)] 1 3]) : Sg 0 0 (h107 C n i k N x q s e t d0 d1 d2 d3 d4 d5 d6 w f l D Y) (p107_end C n i k N x q s e t d0 d1 d2 d3 d4 d5 d6 w f l D Y) := fun ho j =>
 oS hE [.run 3, .ops [(2, .cw (iB w) [bK [.v (.int .i64 t)] 1 3])] []] [4] (s' := fun j => ⟨[bK [.v (.int .i64 t)] 1 3], [.code .ret], mkT j [(4, (iB w))] 8 0⟩) (aP h0 <| aZ)
  fun j => gZ [] (ho j)
def p42n_end (C : List DT) (n i _k _N : Nat) (_x _q _s _e _t : Int) (d0 d1 d2 d3 d4 d5 d6 _w : Bool) (f l : Int) (_D _Y : List AC) (j : Nat → Value) : St := ⟨[.some ⟨[.v (.bool d0), .v (.bool d1), .v (.bool d2), .v (.bool d3), .v (.bool d4), .v (.bool d5), .v (.bool d6), .v (.int .i64 f), .v (.int .i64 l)], 9, 130, false, .cells⟩], ztHa0, mkT j [(3, .e (.one (.slc 0 0 1 9 1 false))), (6, .e (.one (.dp (.s C n 9)))), (7, (iI (Int.ofNat n))), (8, (iI (Int.ofNat (i + 1))))] 18 0⟩
theorem p42n (hE : EnvOk E) (C : List DT) (n i k N : Nat) (x q s e t : Int) (d0 d1 d2 d3 d4 d5 d6 w : Bool) (f l : Int) (D Y : List AC) (h0 : (decide (Int.ofNat i < Int.ofNat n) : Bool) = true) (h1 : (0 : Int) ≤ Int.ofNat i ∧ Int.ofNat i < (↑n : Int)) (h2 : ((Int.ofNat i).toNat * nat_lit 9 : Nat) = i.mul (nat_lit 9)) (h3 : (takeL (dropL C (i.mul (nat_lit 9))) (9 : Nat) : Option (List DT)) = (.some [.v (.bool d0), .v (.bool d1), .v (.bool d2), .v (.bool d3), .v (.bool d4), .v (.bool d5), .v (.bool d6), .v (.int .i64 f), .v (.int .i64 l)])) (h4 : ((iI (wrapF IntKind.i64 (Int.ofNat i + (1 : Int)))) : AV) = (iI (Int.ofNat (i + 1)))) : Sg 0 0 (r42n C n i k N x q s e t d0 d1 d2 d3 d4 d5 d6 w f l D Y) (p42n_end C n i k N x q s e t d0 d1 d2 d3 d4 d5 d6 w f l D Y) := fun ho j =>
 oS hE [.run 3, .cond true, .run 4, .ops [(1, .d (.ldn [.v (.bool d0), .v (.bool d1), .v (.bool d2), .v (.bool d3), .v (.bool d4), .v (.bool d5), .v (.bool d6), .v (.int .i64 f), .v (.int .i64 l)])), (0, .d (.ix (i.mul (nat_lit 9))))] [], .run 2, .ops [(0, .rn (iI (Int.ofNat (i + 1))))] [], .run 1] [3, 6, 7, 8] (s' := fun j => ⟨[bK [.v (.bool d0), .v (.bool d1), .v (.bool d2), .v (.bool d3), .v (.bool d4), .v (.bool d5), .v (.bool d6), .v (.int .i64 f), .v (.int .i64 l)] 9 127, bK [.v (.bool d0), .v (.bool d1), .v (.bool d2), .v (.bool d3), .v (.bool d4), .v (.bool d5), .v (.bool d6), .v (.int .i64 f), .v (.int .i64 l)] 9 130, .some ⟨[.v (.bool d0), .v (.bool d1), .v (.bool d2), .v (.bool d3), .v (.bool d4), .v (.bool d5), .v (.bool d6), .v (.int .i64 f), .v (.int .i64 l)], 9, 130, false, .cells⟩], ztHa0, mkT j [(3, .e (.one (.slc 2 0 1 9 1 false))), (6, .e (.one (.dp (.s C n 9)))), (7, (iI (Int.ofNat n))), (8, (iI (Int.ofNat (i + 1))))] 18 0⟩) (aP h0 <| aP h1 <| aP h2 <| aP h3 <| aP h4 <| aZ)
  fun j => gZ [2] (ho j)
def p42z_end (_C : List DT) (_n _i _k _N : Nat) (_x _q _s _e _t : Int) (_d0 _d1 _d2 _d3 _d4 _d5 _d6 _w : Bool) (_f _l : Int) (_D _Y : List AC) (j : Nat → Value) : St := ⟨[], [.code .ret], mkT j [(2, .e (.one (.v (.slice none 0 0))))] 18 0⟩
theorem p42z (hE : EnvOk E) (C : List DT) (n i k N : Nat) (x q s e t : Int) (d0 d1 d2 d3 d4 d5 d6 w : Bool) (f l : Int) (D Y : List AC) (h0 : (decide (Int.ofNat i < Int.ofNat n) : Bool) = false) : Sg 0 0 (r42n C n i k N x q s e t d0 d1 d2 d3 d4 d5 d6 w f l D Y) (p42z_end C n i k N x q s e t d0 d1 d2 d3 d4 d5 d6 w f l D Y) := fun ho j =>
 oS hE [.run 3, .cond false, .run 3] [2] (aP h0 <| aZ)
  ho
def p149s_end (C : List DT) (n i _k _N : Nat) (_x _q _s _e _t : Int) (_d0 _d1 _d2 _d3 _d4 _d5 _d6 _w : Bool) (_f _l : Int) (_D _Y : List AC) (j : Nat → Value) : St := ⟨[], ztHa3, mkT j [(1, .e (.one (.v (.func (.func 97) #[] #[])))), (8, .e (.one (.dp (.s C n 9)))), (9, (iI (Int.ofNat n))), (10, (iI (Int.ofNat (i + 1))))] 21 0⟩
theorem p149s (hE : EnvOk E) (C : List DT) (n i k N : Nat) (x q s e t : Int) (d0 d1 d2 d3 d4 d5 d6 w : Bool) (f l : Int) (D Y : List AC) (h0 : (decide (Int.ofNat i < Int.ofNat n) : Bool) = true) (h1 : (0 : Int) ≤ Int.ofNat i ∧ Int.ofNat i < (↑n : Int)) (h2 : ((Int.ofNat i).toNat * nat_lit 9 : Nat) = i.mul (nat_lit 9)) (h3 : (takeL (dropL C (i.mul (nat_lit 9))) (9 : Nat) : Option (List DT)) = (.some [.v (.bool d0), .v (.bool d1), .v (.bool d2), .v (.bool d3), .v (.bool d4), .v (.bool d5), .v (.bool d6), .v (.int .i64 f), .v (.int .i64 l)])) (h4 : COut E 0 [] 97 [.e (.agg [.v (.bool d0), .v (.bool d1), .v (.bool d2), .v (.bool d3), .v (.bool d4), .v (.bool d5), .v (.bool d6), .v (.int .i64 f), .v (.int .i64 l)])] (iI e) []) (h6 : (e != (0 : Int) : Bool) = false) (h7 : ((iI (wrapF IntKind.i64 (Int.ofNat i + (1 : Int)))) : AV) = (iI (Int.ofNat (i + 1)))) : Sg 0 0 (r149 C n i k N x q s e t d0 d1 d2 d3 d4 d5 d6 w f l D Y) (p149s_end C n i k N x q s e t d0 d1 d2 d3 d4 d5 d6 w f l D Y) := fun ho j =>
 oS hE [.run 3, .cond true, .run 4, .ops [(1, .d (.ldn [.v (.bool d0), .v (.bool d1), .v (.bool d2), .v (.bool d3), .v (.bool d4), .v (.bool d5), .v (.bool d6), .v (.int .i64 f), .v (.int .i64 l)])), (0, .d (.ix (i.mul (nat_lit 9))))] [], .run 1, .ops [(2, .c0 (iI e))] [], .run 2, .cond false, .run 2, .ops [(0, .rn (iI (Int.ofNat (i + 1))))] [], .run 1] [1, 8, 9, 10] (s' := fun j => ⟨[bK [.v (.bool d0), .v (.bool d1), .v (.bool d2), .v (.bool d3), .v (.bool d4), .v (.bool d5), .v (.bool d6), .v (.int .i64 f), .v (.int .i64 l)] 9 130], ztHa3, mkT j [(1, .e (.one (.v (.func (.func 97) #[] #[])))), (8, .e (.one (.dp (.s C n 9)))), (9, (iI (Int.ofNat n))), (10, (iI (Int.ofNat (i + 1))))] 21 0⟩) (aP h0 <| aP h1 <| aP h2 <| aP h3 <| aP h4 <| aN <| aP h6 <| aP h7 <| aZ)
  fun j => gZ [] (ho j)
def p149e_end (_C : List DT) (_n _i _k _N : Nat) (_x _q _s e _t : Int) (_d0 _d1 _d2 _d3 _d4 _d5 _d6 _w : Bool) (_f _l : Int) (_D _Y : List AC) (j : Nat → Value) : St := ⟨[], [.code .ret, .inBlock 1, .code (atC [1, 0, 1, 0, 0, 1, 1, 1] (bodyOf Tryz.f120)), .inLoop (atC [1, 0, 1, 0, 0] (bodyOf Tryz.f120)), .inBlock 0, .code (atC [1, 1] (bodyOf Tryz.f120))], mkT j [(4, (iI e))] 21 0⟩
theorem p149e (hE : EnvOk E) (C : List DT) (n i k N : Nat) (x q s e t : Int) (d0 d1 d2 d3 d4 d5 d6 w : Bool) (f l : Int) (D Y : List AC) (h0 : (decide (Int.ofNat i < Int.ofNat n) : Bool) = true) (h1 : (0 : Int) ≤ Int.ofNat i ∧ Int.ofNat i < (↑n : Int)) (h2 : ((Int.ofNat i).toNat * nat_lit 9 : Nat) = i.mul (nat_lit 9)) (h3 : (takeL (dropL C (i.mul (nat_lit 9))) (9 : Nat) : Option (List DT)) = (.some [.v (.bool d0), .v (.bool d1), .v (.bool d2), .v (.bool d3), .v (.bool d4), .v (.bool d5), .v (.bool d6), .v (.int .i64 f), .v (.int .i64 l)])) (h4 : COut E 0 [] 97 [.e (.agg [.v (.bool d0), .v (.bool d1), .v (.bool d2), .v (.bool d3), .v (.bool d4), .v (.bool d5), .v (.bool d6), .v (.int .i64 f), .v (.int .i64 l)])] (iI e) []) (h6 : (e != (0 : Int) : Bool) = true) : Sg 0 0 (r149 C n i k N x q s e t d0 d1 d2 d3 d4 d5 d6 w f l D Y) (p149e_end C n i k N x q s e t d0 d1 d2 d3 d4 d5 d6 w f l D Y) := fun ho j =>
 oS hE [.run 3, .cond true, .run 4, .ops [(1, .d (.ldn [.v (.bool d0), .v (.bool d1), .v (.bool d2), .v (.bool d3), .v (.bool d4), .v (.bool d5), .v (.bool d6), .v (.int .i64 f), .v (.int .i64 l)])), (0, .d (.ix (i.mul (nat_lit 9))))] [], .run 1, .ops [(2, .c0 (iI e))] [], .run 2, .cond true, .run 2] [4] (s' := fun j => ⟨[bK [.v (.bool d0), .v (.bool d1), .v (.bool d2), .v (.bool d3), .v (.bool d4), .v (.bool d5), .v (.bool d6), .v (.int .i64 f), .v (.int .i64 l)] 9 130], [.code .ret, .inBlock 1, .code (atC [1, 0, 1, 0, 0, 1, 1, 1] (bodyOf Tryz.f120)), .inLoop (atC [1, 0, 1, 0, 0] (bodyOf Tryz.f120)), .inBlock 0, .code (atC [1, 1] (bodyOf Tryz.f120))], mkT j [(4, (iI e))] 21 0⟩) (aP h0 <| aP h1 <| aP h2 <| aP h3 <| aP h4 <| aN <| aP h6 <| aZ)
  fun j => gZ [] (ho j)
def p149x_end (_C : List DT) (_n _i _k _N : Nat) (_x _q _s _e _t : Int) (_d0 _d1 _d2 _d3 _d4 _d5 _d6 _w : Bool) (_f _l : Int) (_D _Y : List AC) (j : Nat → Value) : St := ⟨[], [.code .ret], mkT j [(4, (iI 0))] 21 0⟩
theorem p149x (hE : EnvOk E) (C : List DT) (n i k N : Nat) (x q s e t : Int) (d0 d1 d2 d3 d4 d5 d6 w : Bool) (f l : Int) (D Y : List AC) (h0 : (decide (Int.ofNat i < Int.ofNat n) : Bool) = false) : Sg 0 0 (r149 C n i k N x q s e t d0 d1 d2 d3 d4 d5 d6 w f l D Y) (p149x_end C n i k N x q s e t d0 d1 d2 d3 d4 d5 d6 w f l D Y) := fun ho j =>
 oS hE [.run 3, .cond false, .run 3] [4] (aP h0 <| aZ)
  ho
def p45s_end (C : List DT) (n i _k _N : Nat) (_x _q _s _e _t : Int) (_d0 _d1 _d2 _d3 _d4 _d5 _d6 _w : Bool) (_f _l : Int) (_D _Y : List AC) (j : Nat → Value) : St := ⟨[], ztHa1, mkT j [(0, .e (.one (.dp (.s C n 9)))), (3, (iI (Int.ofNat (i + 1))))] 23 0⟩
theorem p45s (hE : EnvOk E) (C : List DT) (n i k N : Nat) (x q s e t : Int) (d0 d1 d2 d3 d4 d5 d6 w : Bool) (f l : Int) (D Y : List AC) (h0 : (decide (Int.ofNat i < (↑n : Int)) : Bool) = true) (h1 : (0 : Int) ≤ Int.ofNat i ∧ Int.ofNat i < (↑n : Int)) (h2 : ((Int.ofNat i).toNat * nat_lit 9 : Nat) = i.mul (nat_lit 9)) (h3 : (takeL (dropL C (i.mul (nat_lit 9) + 7)) (2 : Nat) : Option (List DT)) = (.some [.v (.int .i64 f), .v (.int .i64 l)])) (h4 : COut E 0 [] 64 [.e (.agg [.v (.int .i64 f), .v (.int .i64 l)]), (iI 86400)] (iI e) []) (h6 : (e != (0 : Int) : Bool) = false) (h7 : ((iI (wrapF IntKind.i64 (Int.ofNat i + (1 : Int)))) : AV) = (iI (Int.ofNat (i + 1)))) : Sg 0 0 (r45 C n i k N x q s e t d0 d1 d2 d3 d4 d5 d6 w f l D Y) (p45s_end C n i k N x q s e t d0 d1 d2 d3 d4 d5 d6 w f l D Y) := fun ho j =>
 oS hE [.run 2, .ops [(2, .d .len)] [], .cond true, .run 4, .ops [(4, .d (.ldn [.v (.int .i64 f), .v (.int .i64 l)])), (5, .c0 (iI e)), (2, .d (.ix (i.mul (nat_lit 9)))), (3, .d .fa)] [], .run 2, .cond false, .run 2, .ops [(1, .rn (iI (Int.ofNat (i + 1))))] [], .run 1] [0, 3] (aP h0 <| aP h1 <| aP h2 <| aP h3 <| aP h4 <| aN <| aP h6 <| aP h7 <| aZ)
  ho
def p45e_end (_C : List DT) (_n _i _k _N : Nat) (_x _q _s e _t : Int) (_d0 _d1 _d2 _d3 _d4 _d5 _d6 _w : Bool) (_f _l : Int) (_D _Y : List AC) (j : Nat → Value) : St := ⟨[], [.code .ret, .inBlock 1, .code (atC [1, 1, 0, 1, 0, 0, 1, 1] (bodyOf Tryz.f25)), .inLoop (atC [1, 1, 0, 1, 0, 0] (bodyOf Tryz.f25)), .inBlock 0, .code (atC [1, 1, 1] (bodyOf Tryz.f25))], mkT j [(2, (iI e))] 23 0⟩
theorem p45e (hE : EnvOk E) (C : List DT) (n i k N : Nat) (x q s e t : Int) (d0 d1 d2 d3 d4 d5 d6 w : Bool) (f l : Int) (D Y : List AC) (h0 : (decide (Int.ofNat i < (↑n : Int)) : Bool) = true) (h1 : (0 : Int) ≤ Int.ofNat i ∧ Int.ofNat i < (↑n : Int)) (h2 : ((Int.ofNat i).toNat * nat_lit 9 : Nat) = i.mul (nat_lit 9)) (h3 : (takeL (dropL C (i.mul (nat_lit 9) + 7)) (2 : Nat) : Option (List DT)) = (.some [.v (.int .i64 f), .v (.int .i64 l)])) (h4 : COut E 0 [] 64 [.e (.agg [.v (.int .i64 f), .v (.int .i64 l)]), (iI 86400)] (iI e) []) (h6 : (e != (0 : Int) : Bool) = true) : Sg 0 0 (r45 C n i k N x q s e t d0 d1 d2 d3 d4 d5 d6 w f l D Y) (p45e_end C n i k N x q s e t d0 d1 d2 d3 d4 d5 d6 w f l D Y) := fun ho j =>
 oS hE [.run 2, .ops [(2, .d .len)] [], .cond true, .run 4, .ops [(4, .d (.ldn [.v (.int .i64 f), .v (.int .i64 l)])), (5, .c0 (iI e)), (2, .d (.ix (i.mul (nat_lit 9)))), (3, .d .fa)] [], .run 2, .cond true, .run 2] [2] (aP h0 <| aP h1 <| aP h2 <| aP h3 <| aP h4 <| aN <| aP h6 <| aZ)
  ho
def p45x_end (_C : List DT) (_n _i _k _N : Nat) (_x _q _s _e _t : Int) (_d0 _d1 _d2 _d3 _d4 _d5 _d6 _w : Bool) (_f _l : Int) (_D _Y : List AC) (j : Nat → Value) : St := ⟨[], [.code .ret], mkT j [(2, (iI 0))] 23 0⟩
theorem p45x (hE : EnvOk E) (C : List DT) (n i k N : Nat) (x q s e t : Int) (d0 d1 d2 d3 d4 d5 d6 w : Bool) (f l : Int) (D Y : List AC) (h0 : (decide (Int.ofNat i < (↑n : Int)) : Bool) = false) : Sg 0 0 (r45 C n i k N x q s e t d0 d1 d2 d3 d4 d5 d6 w f l D Y) (p45x_end C n i k N x q s e t d0 d1 d2 d3 d4 d5 d6 w f l D Y) := fun ho j =>
 oS hE [.run 2, .ops [(2, .d .len)] [], .cond false, .run 3] [2] (aP h0 <| aZ)
  ho
def p164s_end (C : List DT) (n i _k _N : Nat) (_x _q _s _e t : Int) (_d0 _d1 _d2 _d3 _d4 _d5 _d6 _w : Bool) (_f _l : Int) (_D _Y : List AC) (j : Nat → Value) : St := ⟨[bK [.v (.int .i64 t)] 1 3], ztHa4, mkT j [(0, .e (.one (.dp (.s C n 9)))), (1, .e (.one (.clo 100 [] [.one (.ptr 0 0)]))), (7, (iI (Int.ofNat n))), (8, (iI (Int.ofNat (i + 1))))] 19 0⟩
theorem p164s (hE : EnvOk E) (C : List DT) (n i k N : Nat) (x q s e t : Int) (d0 d1 d2 d3 d4 d5 d6 w : Bool) (f l : Int) (D Y : List AC) (h0 : (decide (Int.ofNat i < Int.ofNat n) : Bool) = true) (h1 : (0 : Int) ≤ Int.ofNat i ∧ Int.ofNat i < (↑n : Int)) (h2 : ((Int.ofNat i).toNat * nat_lit 9 : Nat) = i.mul (nat_lit 9)) (h3 : (takeL (dropL C (i.mul (nat_lit 9))) (9 : Nat) : Option (List DT)) = (.some [.v (.bool d0), .v (.bool d1), .v (.bool d2), .v (.bool d3), .v (.bool d4), .v (.bool d5), .v (.bool d6), .v (.int .i64 f), .v (.int .i64 l)])) (h4 : COut E 0 [bK [.v (.int .i64 t)] 1 3] 100 [.e (.agg [.v (.bool d0), .v (.bool d1), .v (.bool d2), .v (.bool d3), .v (.bool d4), .v (.bool d5), .v (.bool d6), .v (.int .i64 f), .v (.int .i64 l)]), .e (.one (.ptr 0 0))] (iB w) [bK [.v (.int .i64 t)] 1 3]) (h5 : (w : Bool) = false) (h6 : ((iI (wrapF IntKind.i64 (Int.ofNat i + (1 : Int)))) : AV) = (iI (Int.ofNat (i + 1)))) : Sg 0 1 (r164 C n i k N x q s e t d0 d1 d2 d3 d4 d5 d6 w f l D Y) (p164s_end C n i k N x q s e t d0 d1 d2 d3 d4 d5 d6 w f l D Y) := fun ho j =>
 oS hE [.run 3, .cond true, .run 6, .ops [(4, .d (.ldn [.v (.bool d0), .v (.bool d1), .v (.bool d2), .v (.bool d3), .v (.bool d4), .v (.bool d5), .v (.bool d6), .v (.int .i64 f), .v (.int .i64 l)])), (5, .cw (iB w) [bK [.v (.int .i64 t)] 1 3]), (3, .d (.ix (i.mul (nat_lit 9))))] [], .cond false, .run 2, .ops [(0, .rn (iI (Int.ofNat (i + 1))))] [], .run 1] [0, 1, 7, 8] (aP h0 <| aP h1 <| aP h2 <| aP h3 <| aP h4 <| aP h5 <| aP h6 <| aZ)
  ho
def p164e_end (_C : List DT) (_n i _k _N : Nat) (_x _q _s _e t : Int) (_d0 _d1 _d2 _d3 _d4 _d5 _d6 _w : Bool) (_f _l : Int) (_D _Y : List AC) (j : Nat → Value) : St := ⟨[bK [.v (.int .i64 t)] 1 3], [.code .ret, .inBlock 1, .code (atC [1, 0, 1, 0, 0, 1, 1, 1] (bodyOf Tryz.f123)), .inLoop (atC [1, 0, 1, 0, 0] (bodyOf Tryz.f123)), .inBlock 0, .code (atC [1, 1] (bodyOf Tryz.f123))], mkT j [(4, (iI (Int.ofNat i)))] 19 0⟩
theorem p164e (hE : EnvOk E) (C : List DT) (n i k N : Nat) (x q s e t : Int) (d0 d1 d2 d3 d4 d5 d6 w : Bool) (f l : Int) (D Y : List AC) (h0 : (decide (Int.ofNat i < Int.ofNat n) : Bool) = true) (h1 : (0 : Int) ≤ Int.ofNat i ∧ Int.ofNat i < (↑n : Int)) (h2 : ((Int.ofNat i).toNat * nat_lit 9 : Nat) = i.mul (nat_lit 9)) (h3 : (takeL (dropL C (i.mul (nat_lit 9))) (9 : Nat) : Option (List DT)) = (.some [.v (.bool d0), .v (.bool d1), .v (.bool d2), .v (.bool d3), .v (.bool d4), .v (.bool d5), .v (.bool d6), .v (.int .i64 f), .v (.int .i64 l)])) (h4 : COut E 0 [bK [.v (.int .i64 t)] 1 3] 100 [.e (.agg [.v (.bool d0), .v (.bool d1), .v (.bool d2), .v (.bool d3), .v (.bool d4), .v (.bool d5), .v (.bool d6), .v (.int .i64 f), .v (.int .i64 l)]), .e (.one (.ptr 0 0))] (iB w) [bK [.v (.int .i64 t)] 1 3]) (h5 : (w : Bool) = true) : Sg 0 1 (r164 C n i k N x q s e t d0 d1 d2 d3 d4 d5 d6 w f l D Y) (p164e_end C n i k N x q s e t d0 d1 d2 d3 d4 d5 d6 w f l D Y) := fun ho j =>
 oS hE [.run 3, .cond true, .run 6, .ops [(4, .d (.ldn [.v (.bool d0), .v (.bool d1), .v (.bool d2), .v (.bool d3), .v (.bool d4), .v (.bool d5), .v (.bool d6), .v (.int .i64 f), .v (.int .i64 l)])), (5, .cw (iB w) [bK [.v (.int .i64 t)] 1 3]), (3, .d (.ix (i.mul (nat_lit 9))))] [], .cond true, .run 2] [4] (aP h0 <| aP h1 <| aP h2 <| aP h3 <| aP h4 <| aP h5 <| aZ)
  ho
def p164x_end (_C : List DT) (_n _i _k _N : Nat) (_x _q _s _e t : Int) (_d0 _d1 _d2 _d3 _d4 _d5 _d6 _w : Bool) (_f _l : Int) (_D _Y : List AC) (j : Nat → Value) : St := ⟨[bK [.v (.int .i64 t)] 1 3], [.code .ret], mkT j [(4, (iI (-1)))] 19 0⟩
theorem p164x (hE : EnvOk E) (C : List DT) (n i k N : Nat) (x q s e t : Int) (d0 d1 d2 d3 d4 d5 d6 w : Bool) (f l : Int) (D Y : List AC) (h0 : (decide (Int.ofNat i < Int.ofNat n) : Bool) = false) : Sg 0 1 (r164 C n i k N x q s e t d0 d1 d2 d3 d4 d5 d6 w f l D Y) (p164x_end C n i k N x q s e t d0 d1 d2 d3 d4 d5 d6 w f l D Y) := fun ho j =>
 oS hE [.run 3, .cond false, .run 3] [4] (aP h0 <| aZ)
  ho
def p42s_end (C : List DT) (n i _k N : Nat) (_x _q _s _e _t : Int) (_d0 _d1 _d2 _d3 _d4 _d5 _d6 _w : Bool) (_f _l : Int) (_D Y : List AC) (j : Nat → Value) : St := ⟨[.some ⟨(Y), ((N + 1) * 9), 130, false, .cells⟩], ztHa0, mkT j [(3, .e (.one (.slc 0 0 (N + 1) 9 (N + 1) false))), (6, .e (.one (.dp (.s C n 9)))), (7, (iI (Int.ofNat n))), (8, (iI (Int.ofNat (i + 1))))] 18 0⟩
theorem p42s (hE : EnvOk E) (C : List DT) (n i k N : Nat) (x q s e t : Int) (d0 d1 d2 d3 d4 d5 d6 w : Bool) (f l : Int) (D Y : List AC) (h0 : (decide (Int.ofNat i < Int.ofNat n) : Bool) = true) (h1 : (0 : Int) ≤ Int.ofNat i ∧ Int.ofNat i < (↑n : Int)) (h2 : ((Int.ofNat i).toNat * nat_lit 9 : Nat) = i.mul (nat_lit 9)) (h3 : (takeL (dropL C (i.mul (nat_lit 9))) (9 : Nat) : Option (List DT)) = (.some [.v (.bool d0), .v (.bool d1), .v (.bool d2), .v (.bool d3), .v (.bool d4), .v (.bool d5), .v (.bool d6), .v (.int .i64 f), .v (.int .i64 l)])) (h4 : ¬N + 1 ≤ N) (h5 : (small (N + 1) (9 : Nat) (24 : Nat) : Bool) = true) (h6 : (N * 9 : Nat) = N * nat_lit 9) (h7 : (appL D ((fun x => AC.v (Value.bool d0) :: x) ((fun x => AC.v (Value.bool d1) :: x) ((fun x => AC.v (Value.bool d2) :: x) ((fun x => AC.v (Value.bool d3) :: x) ((fun x => AC.v (Value.bool d4) :: x) ((fun x => AC.v (Value.bool d5) :: x) ((fun x => AC.v (Value.bool d6) :: x) ((fun x => AC.v (Value.int IntKind.i64 f) :: x) ((fun x => AC.v (Value.int IntKind.i64 l) :: x) []))))))))) : List AC) = Y) (h9 : ((N + 1) * nat_lit 9 : Nat) = (N + 1) * 9) (h10 : ((iI (wrapF IntKind.i64 (Int.ofNat i + (1 : Int)))) : AV) = (iI (Int.ofNat (i + 1)))) (g0 : FlatC Y) : Sg 0 0 (r42 C n i k N x q s e t d0 d1 d2 d3 d4 d5 d6 w f l D Y) (p42s_end C n i k N x q s e t d0 d1 d2 d3 d4 d5 d6 w f l D Y) := fun ho j =>
 oS hE [.run 3, .cond true, .run 4, .ops [(1, .d (.ldn [.v (.bool d0), .v (.bool d1), .v (.bool d2), .v (.bool d3), .v (.bool d4), .v (.bool d5), .v (.bool d6), .v (.int .i64 f), .v (.int .i64 l)])), (0, .d (.ix (i.mul (nat_lit 9))))] [], .ops [(3, .app (N + 1) ((N + 1) * 9) Y)] [], .run 1, .ops [(0, .rn (iI (Int.ofNat (i + 1))))] [], .run 1] [3, 6, 7, 8] (s' := fun j => ⟨[none, bK [.v (.bool d0), .v (.bool d1), .v (.bool d2), .v (.bool d3), .v (.bool d4), .v (.bool d5), .v (.bool d6), .v (.int .i64 f), .v (.int .i64 l)] 9 127, bK [.v (.bool d0), .v (.bool d1), .v (.bool d2), .v (.bool d3), .v (.bool d4), .v (.bool d5), .v (.bool d6), .v (.int .i64 f), .v (.int .i64 l)] 9 130, .some ⟨(Y), ((N + 1) * 9), 130, false, .cells⟩], ztHa0, mkT j [(3, .e (.one (.slc 3 0 (N + 1) 9 (N + 1) false))), (6, .e (.one (.dp (.s C n 9)))), (7, (iI (Int.ofNat n))), (8, (iI (Int.ofNat (i + 1))))] 18 0⟩) (aP h0 <| aP h1 <| aP h2 <| aP h3 <| aP h4 <| aP h5 <| aP h6 <| aP h7 <| aP (rfl : (N + 1 : Nat) = N + 1) <| aP h9 <| aP h10 <| aZ)
  fun j => outK_gcF [3] [true] (h' := [.some ⟨(Y), ((N + 1) * 9), 130, false, .cells⟩]) (by decide) (by kernel_rfl) (by kernel_rfl) ⟨g0, trivial⟩ (by kernel_rfl) (ho j)
def p42x_end (_C : List DT) (_n _i _k N : Nat) (_x _q _s _e _t : Int) (_d0 _d1 _d2 _d3 _d4 _d5 _d6 _w : Bool) (_f _l : Int) (D _Y : List AC) (j : Nat → Value) : St := ⟨[.some ⟨(D), (N * 9), 130, false, .cells⟩], [.code .ret], mkT j [(2, .e (.one (.slc 0 0 N 9 N false)))] 18 0⟩
theorem p42x (hE : EnvOk E) (C : List DT) (n i k N : Nat) (x q s e t : Int) (d0 d1 d2 d3 d4 d5 d6 w : Bool) (f l : Int) (D Y : List AC) (h0 : (decide (Int.ofNat i < Int.ofNat n) : Bool) = false) : Sg 0 0 (r42 C n i k N x q s e t d0 d1 d2 d3 d4 d5 d6 w f l D Y) (p42x_end C n i k N x q s e t d0 d1 d2 d3 d4 d5 d6 w f l D Y) := fun ho j =>
 oS hE [.run 3, .cond false, .run 3] [2] (aP h0 <| aZ)
  ho
theorem iBg {f : FuncId} {args : List AV} {a b : Bool} {h h' : Heap} {lvl : Nat} (hc : COut E lvl h f args (iB a) h') (e : a = b) : COut E lvl h f args (iB b) h' := e ▸ hc
def resH (l : List Hr) : AV := .e (.one (.slc 0 0 l.length 9 l.length false))
def resHh (l : List Hr) : Heap := [some ⟨hrC l, l.length * 9, 130, false, .cells⟩]
theorem l42 (hE : EnvOk E) (L : List Hr) (hm : L.length ≤ 100000) : ∀ k i, k + i = L.length → ∀ (o : List Hr), o.length ≤ i → ∀ j, OutK E 0 0 (r42 (hrD L) (L.length) (i) 0 (o.length) 0 0 0 0 0 false false false false false false false false 0 0 (hrC o) [] j) (Go.Ev.Ends E Tryz.f27 (resH (o ++ L.drop i)) (resHh (o ++ L.drop i)))
 | 0, i, hk, o, ho, j => by
  rw [List.drop_eq_nil_of_le (by omega), List.append_nil]
  exact p42x hE (hrD L) (L.length) i 0 (o.length) 0 0 0 0 0 false false false false false false false false 0 0 (hrC o) [] (decide_eq_false (by (try simp only [Int.ofNat_eq_natCast]); omega)) (fun j => outK_ret (ends_ret (by kernel_rfl))) j
 | k + 1, i, hk, o, ho, j => by
  have hl : i < L.length := by omega
  have hx : L[i]? = some L[i] := List.getElem?_eq_getElem hl
  rw [List.drop_eq_getElem_cons hl]
  generalize L[i] = x at hx
  have ih := l42 hE L hm k (i + 1) (by omega) (o ++ [x]) (by simp; omega)
  rw [show o ++ x :: L.drop (i + 1) = o ++ [x] ++ L.drop (i + 1) by simp]
  rw [show (o ++ [x]).length = o.length + 1 by simp] at ih
  exact p42s hE (hrD L) (L.length) i 0 (o.length) 0 0 0 0 0 (x.d0) (x.d1) (x.d2) (x.d3) (x.d4) (x.d5) (x.d6) false (x.f) (x.l) (hrC o) (hrC (o ++ [x])) (decide_eq_true (by (try simp only [Int.ofNat_eq_natCast]); omega)) ⟨by (try simp only [Int.ofNat_eq_natCast]); omega, by (try simp only [Int.ofNat_eq_natCast]); omega⟩ rfl (hr_get hx) (by omega) (by simp [small]; omega) (by first | rfl | omega | simp) (rows_app (f := Hr.d) o x) (by first | rfl | omega | simp) (iIe (by (try simp only [Int.ofNat_eq_natCast]); rw [wrap_id (by omega) (by omega)]; try omega)) (flat_rows _) ih j
theorem K42 (hE : EnvOk E) (L : List Hr) (hm : L.length ≤ 100000) : COut E 0 [] 27 [dHr L] (dHr L) [] := by
 rcases L with _ | ⟨x, L⟩
 ·exact cOut_nil1 (p := none) (c := 0) 9 (cOut_start Tryz.func27 rfl (p42a hE (hrD []) (0) 0 0 0 0 0 0 0 0 false false false false false false false false 0 0 [] [] (p42z hE (hrD []) (0) (0) 0 0 0 0 0 0 0 false false false false false false false false 0 0 [] [] (by decide) (fun j => outK_ret (ends_ret (by kernel_rfl)))) fun _ => undef))
 ·have hx : (x :: L)[0]? = some x := rfl
  have hc : COut E 0 [] 27 [dHr (x :: L)] (resH (x :: L)) (resHh (x :: L)) :=
   cOut_start Tryz.func27 rfl (p42a hE (hrD (x :: L)) ((x :: L).length) 0 0 0 0 0 0 0 0 false false false false false false false false 0 0 [] [] (p42n hE (hrD (x :: L)) ((x :: L).length) (0) 0 0 0 0 0 0 0 (x.d0) (x.d1) (x.d2) (x.d3) (x.d4) (x.d5) (x.d6) false (x.f) (x.l) [] [] (decide_eq_true (by simp)) ⟨by simp, by simp⟩ rfl (hr_get hx) (iIe (by (try simp only [Int.ofNat_eq_natCast]); rw [wrap_id (by omega) (by omega)]; try omega)) (l42 hE (x :: L) hm L.length 1 rfl [x] (Nat.le_refl _))) fun _ => undef)
  exact cOut_clear (cOut_freeze 0 hc rfl (Nat.zero_le _) (ds := hrD (x :: L)) (frzAll _ _ 9 _ _ (hrD_len _))) rfl
def hrE (x : Hr) : Int := if x.f < 0 ∨ x.f ≥ x.l ∨ x.l > 86400 then 14 else 0
theorem K112 (hE : EnvOk E) (x : Hr) : COut E 0 [] 97 [aHr x] (iI (hrE x)) [] := by
 refine strI_cast (A112_all hE [] 0 0 0 0 0 0 0 0 0 (x.d0) (x.d1) (x.d2) (x.d3) (x.d4) (x.d5) (x.d6) false (x.f) (x.l) [] []) ?_
 unfold A112_r0 A78_r0 hrE
 by_cases h1 : x.f < 0 <;> by_cases h2 : x.f ≥ x.l <;> by_cases h3 : x.l > 86400 <;> simp [h1, h2, h3]
theorem K110 (hE : EnvOk E) (x : Hr) : COut E 0 [] 64 [.e (.agg [.v (.int .i64 x.f), .v (.int .i64 x.l)]), iI 86400] (iI (hrE x)) [] := by
 refine strI_cast (A110_all hE [] 0 0 0 0 (86400) 0 0 0 0 false false false false false false false false (x.f) (x.l) [] []) ?_
 unfold A110_r0 A83_r0 hrE
 by_cases h1 : x.f < 0 <;> by_cases h2 : x.f ≥ x.l <;> by_cases h3 : x.l > 86400 <;> simp [h1, h2, h3]
def hrsE (L : List Hr) : Int := firstI (L.map hrE)
def hoursE (L : List Hr) : Int := if 16 < L.length then 5 else hrsE L
theorem hrsE_c (x : Hr) (L : List Hr) : hrsE (x :: L) = if hrE x = 0 then hrsE L else hrE x := rfl
theorem l149 (hE : EnvOk E) (L : List Hr) (hm : L.length ≤ 100000) : ∀ k i, k + i = L.length → ∀ j, OutK E 0 0 (r149 (hrD L) (L.length) (i) 0 0 0 0 0 0 0 false false false false false false false false 0 0 [] [] j) (Go.Ev.Ends E Tryz.f120 (iI (hrsE (L.drop i))) [])
 | 0, i, hk, j => by
  rw [List.drop_eq_nil_of_le (by omega)]
  exact p149x hE (hrD L) (L.length) i 0 0 0 0 0 0 0 false false false false false false false false 0 0 [] [] (decide_eq_false (by (try simp only [Int.ofNat_eq_natCast]); omega)) (fun j => outK_ret (ends_ret (by kernel_rfl))) j
 | k + 1, i, hk, j => by
  have hl : i < L.length := by omega
  have hx : L[i]? = some L[i] := List.getElem?_eq_getElem hl
  rw [List.drop_eq_getElem_cons hl]
  generalize L[i] = x at hx
  rw [hrsE_c]
  by_cases he : hrE x = 0
  ·rw [if_pos he]
   exact p149s hE (hrD L) (L.length) i 0 0 0 0 0 (hrE x) 0 (x.d0) (x.d1) (x.d2) (x.d3) (x.d4) (x.d5) (x.d6) false (x.f) (x.l) [] [] (decide_eq_true (by (try simp only [Int.ofNat_eq_natCast]); omega)) ⟨by (try simp only [Int.ofNat_eq_natCast]); omega, by (try simp only [Int.ofNat_eq_natCast]); omega⟩ rfl (hr_get hx) (K112 hE x) (by rw [he]; rfl) (iIe (by (try simp only [Int.ofNat_eq_natCast]); rw [wrap_id (by omega) (by omega)]; try omega)) (l149 hE L hm k (i + 1) (by omega)) j
  ·rw [if_neg he]
   exact p149e hE (hrD L) (L.length) i 0 0 0 0 0 (hrE x) 0 (x.d0) (x.d1) (x.d2) (x.d3) (x.d4) (x.d5) (x.d6) false (x.f) (x.l) [] [] (decide_eq_true (by (try simp only [Int.ofNat_eq_natCast]); omega)) ⟨by (try simp only [Int.ofNat_eq_natCast]); omega, by (try simp only [Int.ofNat_eq_natCast]); omega⟩ rfl (hr_get hx) (K112 hE x) (bne_iff_ne.2 he) (fun j => outK_ret (ends_ret (by kernel_rfl))) j
theorem l45 (hE : EnvOk E) (L : List Hr) (hm : L.length ≤ 100000) : ∀ k i, k + i = L.length → ∀ j, OutK E 0 0 (r45 (hrD L) (L.length) (i) 0 0 0 0 0 0 0 false false false false false false false false 0 0 [] [] j) (Go.Ev.Ends E Tryz.f25 (iI (hrsE (L.drop i))) [])
 | 0, i, hk, j => by
  rw [List.drop_eq_nil_of_le (by omega)]
  exact p45x hE (hrD L) (L.length) i 0 0 0 0 0 0 0 false false false false false false false false 0 0 [] [] (decide_eq_false (by (try simp only [Int.ofNat_eq_natCast]); omega)) (fun j => outK_ret (ends_ret (by kernel_rfl))) j
 | k + 1, i, hk, j => by
  have hl : i < L.length := by omega
  have hx : L[i]? = some L[i] := List.getElem?_eq_getElem hl
  rw [List.drop_eq_getElem_cons hl]
  generalize L[i] = x at hx
  rw [hrsE_c]
  by_cases he : hrE x = 0
  ·rw [if_pos he]
   exact p45s hE (hrD L) (L.length) i 0 0 0 0 0 (hrE x) 0 (x.d0) (x.d1) (x.d2) (x.d3) (x.d4) (x.d5) (x.d6) false (x.f) (x.l) [] [] (decide_eq_true (by (try simp only [Int.ofNat_eq_natCast]); omega)) ⟨by (try simp only [Int.ofNat_eq_natCast]); omega, by (try simp only [Int.ofNat_eq_natCast]); omega⟩ rfl (hr_span hx) (K110 hE x) (by rw [he]; rfl) (iIe (by (try simp only [Int.ofNat_eq_natCast]); rw [wrap_id (by omega) (by omega)]; try omega)) (l45 hE L hm k (i + 1) (by omega)) j
  ·rw [if_neg he]
   exact p45e hE (hrD L) (L.length) i 0 0 0 0 0 (hrE x) 0 (x.d0) (x.d1) (x.d2) (x.d3) (x.d4) (x.d5) (x.d6) false (x.f) (x.l) [] [] (decide_eq_true (by (try simp only [Int.ofNat_eq_natCast]); omega)) ⟨by (try simp only [Int.ofNat_eq_natCast]); omega, by (try simp only [Int.ofNat_eq_natCast]); omega⟩ rfl (hr_span hx) (K110 hE x) (bne_iff_ne.2 he) (fun j => outK_ret (ends_ret (by kernel_rfl))) j
theorem K149 (hE : EnvOk E) (L : List Hr) (hm : L.length ≤ 100000) : COut E 0 [] 120 [dHr L, .e (.one (.v (.func (.func 97) #[] #[])))] (iI (hrsE L)) [] :=
 cOut_start Tryz.func120 rfl (p149a hE (hrD L) (L.length) 0 0 0 0 0 0 0 0 false false false false false false false false 0 0 [] [] (l149 hE L hm L.length 0 rfl) fun _ => undef)
theorem K50 (hE : EnvOk E) (L : List Hr) (hm : L.length ≤ 100000) : COut E 0 [] 65 [dHr L] (iI (hoursE L)) [] := by
 have h111 : COut E 0 [] 96 [dHr L, iI 16, .e (.one (.v (.func (.func 97) #[] #[])))] (iI (hoursE L)) [] := by
  unfold hoursE
  by_cases h : 16 < L.length
  ·rw [if_pos h]
   exact cOut_start Tryz.func96 rfl (p111z hE (hrD L) (L.length) 0 0 0 0 0 0 0 0 false false false false false false false false 0 0 [] [] (decide_eq_true (by (try simp only [Int.ofNat_eq_natCast]); omega)) (fun j => outK_ret (ends_ret (by kernel_rfl))) fun _ => undef)
  ·rw [if_neg h]
   exact cOut_start Tryz.func96 rfl (p111 hE (hrD L) (L.length) 0 0 0 0 0 0 (hrsE L) 0 false false false false false false false false 0 0 [] [] (decide_eq_false (by (try simp only [Int.ofNat_eq_natCast]); omega)) (K149 hE L hm) (fun j => outK_ret (ends_ret (by kernel_rfl))) fun _ => undef)
 exact cOut_start Tryz.func65 rfl (p50 hE (hrD L) (L.length) 0 0 0 0 0 0 (hoursE L) 0 false false false false false false false false 0 0 [] [] h111 (fun j => outK_ret (ends_ret (by kernel_rfl))) fun _ => undef)
theorem K45 (hE : EnvOk E) (L : List Hr) (hm : L.length ≤ 100000) : COut E 0 [] 25 [dHr L] (iI (hoursE L)) [] := by
 unfold hoursE
 by_cases h : 16 < L.length
 ·rw [if_pos h]
  exact cOut_start Tryz.func25 rfl (p45z hE (hrD L) (L.length) 0 0 0 0 0 0 0 0 false false false false false false false false 0 0 [] [] (decide_eq_true (by (try simp only [Int.ofNat_eq_natCast]); omega)) (fun j => outK_ret (ends_ret (by kernel_rfl))) fun _ => undef)
 ·rw [if_neg h]
  exact cOut_start Tryz.func25 rfl (p45a hE (hrD L) (L.length) 0 0 0 0 0 0 0 0 false false false false false false false false 0 0 [] [] (decide_eq_false (by (try simp only [Int.ofNat_eq_natCast]); omega)) (l45 hE L hm L.length 0 rfl) fun _ => undef)
def dayO (t : Int) : Nat := ((t / 86400) % 7).toNat
def secO (t : Int) : Int := t % 86400
theorem dayO_lt (t : Int) : dayO t < 7 := by unfold dayO; omega
def Hr.have (x : Hr) (t : Int) : Bool := x.day (dayO t) && decide (secO t ≥ x.f) && decide (secO t < x.l)
theorem day_eq {t : Int} (ht : 0 ≤ t ∧ t ≤ 100000000) : (wrapF IntKind.i64 (t.tdiv 86400)).tmod 7 = Int.ofNat (dayO t) := by
 have h1 : t.tdiv 86400 = t / 86400 := Int.tdiv_eq_ediv_of_nonneg ht.1
 rw [h1, wrap_id (by omega) (by omega)]
 rw [Int.tmod_eq_emod_of_nonneg (by omega)]
 unfold dayO
 simp only [Int.ofNat_eq_natCast]
 omega
theorem sec_eq {t : Int} (ht : 0 ≤ t ∧ t ≤ 100000000) : t.tmod 86400 = secO t := Int.tmod_eq_emod_of_nonneg ht.1
theorem K147d (hE : EnvOk E) (x : Hr) (t : Int) (ht : 0 ≤ t ∧ t ≤ 100000000) : ∀ k, dayO t = k → COut E 0 [] 101 [aHr x, iI t] (iB (x.have t)) []
 | 0, hk => by
  unfold Hr.have
  rw [hk]
  cases hd : x.d0 with
  | false => exact strB_cast (cOut_start Tryz.func101 rfl (p147n_0 hE (secO t) t (x.f) (x.l) (x.d0) (x.d1) (x.d2) (x.d3) (x.d4) (x.d5) (x.d6) (iIe ((day_eq ht).trans (by rw [hk]; rfl))) (iIe (sec_eq ht)) (by rw [hd]; rfl) (by rw [hd]; rfl) (by rw [hd]; rfl) (by rw [hd]; rfl) (by rw [hd]; rfl) hd (fun j => outK_ret (ends_ret (by kernel_rfl))) fun _ => undef)) (by show false = (x.d0 && _ && _); rw [hd] <;> rfl)
  | true =>
   cases h2 : decide (secO t ≥ x.f) with
   | false => exact strB_cast (cOut_start Tryz.func101 rfl (p147m_0 hE (secO t) t (x.f) (x.l) (x.d0) (x.d1) (x.d2) (x.d3) (x.d4) (x.d5) (x.d6) (iIe ((day_eq ht).trans (by rw [hk]; rfl))) (iIe (sec_eq ht)) (by rw [hd]; rfl) (by rw [hd]; rfl) (by rw [hd]; rfl) (by rw [hd]; rfl) (by rw [hd]; rfl) hd (by rw [h2]; rfl) (by rw [h2]; rfl) (by rw [h2]; rfl) (by rw [h2]; rfl) (by rw [h2]; rfl) h2 (fun j => outK_ret (ends_ret (by kernel_rfl))) fun _ => undef)) (by show false = (x.d0 && _ && _); rw [hd] <;> rfl)
   | true => exact strB_cast (cOut_start Tryz.func101 rfl (p147_0 hE (secO t) t (x.f) (x.l) (x.d0) (x.d1) (x.d2) (x.d3) (x.d4) (x.d5) (x.d6) (iIe ((day_eq ht).trans (by rw [hk]; rfl))) (iIe (sec_eq ht)) (by rw [hd]; rfl) (by rw [hd]; rfl) (by rw [hd]; rfl) (by rw [hd]; rfl) (by rw [hd]; rfl) hd (by rw [h2]; rfl) (by rw [h2]; rfl) (by rw [h2]; rfl) (by rw [h2]; rfl) (by rw [h2]; rfl) h2 (fun j => outK_ret (ends_ret (by kernel_rfl))) fun _ => undef)) (by show _ = (x.d0 && _ && _); rw [hd] <;> rfl)
 | 1, hk => by
  unfold Hr.have
  rw [hk]
  cases hd : x.d1 with
  | false => exact strB_cast (cOut_start Tryz.func101 rfl (p147n_1 hE (secO t) t (x.f) (x.l) (x.d0) (x.d1) (x.d2) (x.d3) (x.d4) (x.d5) (x.d6) (iIe ((day_eq ht).trans (by rw [hk]; rfl))) (iIe (sec_eq ht)) (by rw [hd]; rfl) (by rw [hd]; rfl) (by rw [hd]; rfl) (by rw [hd]; rfl) (by rw [hd]; rfl) hd (fun j => outK_ret (ends_ret (by kernel_rfl))) fun _ => undef)) (by show false = (x.d1 && _ && _); rw [hd] <;> rfl)
  | true =>
   cases h2 : decide (secO t ≥ x.f) with
   | false => exact strB_cast (cOut_start Tryz.func101 rfl (p147m_1 hE (secO t) t (x.f) (x.l) (x.d0) (x.d1) (x.d2) (x.d3) (x.d4) (x.d5) (x.d6) (iIe ((day_eq ht).trans (by rw [hk]; rfl))) (iIe (sec_eq ht)) (by rw [hd]; rfl) (by rw [hd]; rfl) (by rw [hd]; rfl) (by rw [hd]; rfl) (by rw [hd]; rfl) hd (by rw [h2]; rfl) (by rw [h2]; rfl) (by rw [h2]; rfl) (by rw [h2]; rfl) (by rw [h2]; rfl) h2 (fun j => outK_ret (ends_ret (by kernel_rfl))) fun _ => undef)) (by show false = (x.d1 && _ && _); rw [hd] <;> rfl)
   | true => exact strB_cast (cOut_start Tryz.func101 rfl (p147_1 hE (secO t) t (x.f) (x.l) (x.d0) (x.d1) (x.d2) (x.d3) (x.d4) (x.d5) (x.d6) (iIe ((day_eq ht).trans (by rw [hk]; rfl))) (iIe (sec_eq ht)) (by rw [hd]; rfl) (by rw [hd]; rfl) (by rw [hd]; rfl) (by rw [hd]; rfl) (by rw [hd]; rfl) hd (by rw [h2]; rfl) (by rw [h2]; rfl) (by rw [h2]; rfl) (by rw [h2]; rfl) (by rw [h2]; rfl) h2 (fun j => outK_ret (ends_ret (by kernel_rfl))) fun _ => undef)) (by show _ = (x.d1 && _ && _); rw [hd] <;> rfl)
 | 2, hk => by
  unfold Hr.have
  rw [hk]
  cases hd : x.d2 with
  | false => exact strB_cast (cOut_start Tryz.func101 rfl (p147n_2 hE (secO t) t (x.f) (x.l) (x.d0) (x.d1) (x.d2) (x.d3) (x.d4) (x.d5) (x.d6) (iIe ((day_eq ht).trans (by rw [hk]; rfl))) (iIe (sec_eq ht)) (by rw [hd]; rfl) (by rw [hd]; rfl) (by rw [hd]; rfl) (by rw [hd]; rfl) (by rw [hd]; rfl) hd (fun j => outK_ret (ends_ret (by kernel_rfl))) fun _ => undef)) (by show false = (x.d2 && _ && _); rw [hd] <;> rfl)
  | true =>
   cases h2 : decide (secO t ≥ x.f) with
   | false => exact strB_cast (cOut_start Tryz.func101 rfl (p147m_2 hE (secO t) t (x.f) (x.l) (x.d0) (x.d1) (x.d2) (x.d3) (x.d4) (x.d5) (x.d6) (iIe ((day_eq ht).trans (by rw [hk]; rfl))) (iIe (sec_eq ht)) (by rw [hd]; rfl) (by rw [hd]; rfl) (by rw [hd]; rfl) (by rw [hd]; rfl) (by rw [hd]; rfl) hd (by rw [h2]; rfl) (by rw [h2]; rfl) (by rw [h2]; rfl) (by rw [h2]; rfl) (by rw [h2]; rfl) h2 (fun j => outK_ret (ends_ret (by kernel_rfl))) fun _ => undef)) (by show false = (x.d2 && _ && _); rw [hd] <;> rfl)
   | true => exact strB_cast (cOut_start Tryz.func101 rfl (p147_2 hE (secO t) t (x.f) (x.l) (x.d0) (x.d1) (x.d2) (x.d3) (x.d4) (x.d5) (x.d6) (iIe ((day_eq ht).trans (by rw [hk]; rfl))) (iIe (sec_eq ht)) (by rw [hd]; rfl) (by rw [hd]; rfl) (by rw [hd]; rfl) (by rw [hd]; rfl) (by rw [hd]; rfl) hd (by rw [h2]; rfl) (by rw [h2]; rfl) (by rw [h2]; rfl) (by rw [h2]; rfl) (by rw [h2]; rfl) h2 (fun j => outK_ret (ends_ret (by kernel_rfl))) fun _ => undef)) (by show _ = (x.d2 && _ && _); rw [hd] <;> rfl)
 | 3, hk => by
  unfold Hr.have
  rw [hk]
  cases hd : x.d3 with
  | false => exact strB_cast (cOut_start Tryz.func101 rfl (p147n_3 hE (secO t) t (x.f) (x.l) (x.d0) (x.d1) (x.d2) (x.d3) (x.d4) (x.d5) (x.d6) (iIe ((day_eq ht).trans (by rw [hk]; rfl))) (iIe (sec_eq ht)) (by rw [hd]; rfl) (by rw [hd]; rfl) (by rw [hd]; rfl) (by rw [hd]; rfl) (by rw [hd]; rfl) hd (fun j => outK_ret (ends_ret (by kernel_rfl))) fun _ => undef)) (by show false = (x.d3 && _ && _); rw [hd] <;> rfl)
  | true =>
   cases h2 : decide (secO t ≥ x.f) with
   | false => exact strB_cast (cOut_start Tryz.func101 rfl (p147m_3 hE (secO t) t (x.f) (x.l) (x.d0) (x.d1) (x.d2) (x.d3) (x.d4) (x.d5) (x.d6) (iIe ((day_eq ht).trans (by rw [hk]; rfl))) (iIe (sec_eq ht)) (by rw [hd]; rfl) (by rw [hd]; rfl) (by rw [hd]; rfl) (by rw [hd]; rfl) (by rw [hd]; rfl) hd (by rw [h2]; rfl) (by rw [h2]; rfl) (by rw [h2]; rfl) (by rw [h2]; rfl) (by rw [h2]; rfl) h2 (fun j => outK_ret (ends_ret (by kernel_rfl))) fun _ => undef)) (by show false = (x.d3 && _ && _); rw [hd] <;> rfl)
   | true => exact strB_cast (cOut_start Tryz.func101 rfl (p147_3 hE (secO t) t (x.f) (x.l) (x.d0) (x.d1) (x.d2) (x.d3) (x.d4) (x.d5) (x.d6) (iIe ((day_eq ht).trans (by rw [hk]; rfl))) (iIe (sec_eq ht)) (by rw [hd]; rfl) (by rw [hd]; rfl) (by rw [hd]; rfl) (by rw [hd]; rfl) (by rw [hd]; rfl) hd (by rw [h2]; rfl) (by rw [h2]; rfl) (by rw [h2]; rfl) (by rw [h2]; rfl) (by rw [h2]; rfl) h2 (fun j => outK_ret (ends_ret (by kernel_rfl))) fun _ => undef)) (by show _ = (x.d3 && _ && _); rw [hd] <;> rfl)
 | 4, hk => by
  unfold Hr.have
  rw [hk]
  cases hd : x.d4 with
  | false => exact strB_cast (cOut_start Tryz.func101 rfl (p147n_4 hE (secO t) t (x.f) (x.l) (x.d0) (x.d1) (x.d2) (x.d3) (x.d4) (x.d5) (x.d6) (iIe ((day_eq ht).trans (by rw [hk]; rfl))) (iIe (sec_eq ht)) (by rw [hd]; rfl) (by rw [hd]; rfl) (by rw [hd]; rfl) (by rw [hd]; rfl) (by rw [hd]; rfl) hd (fun j => outK_ret (ends_ret (by kernel_rfl))) fun _ => undef)) (by show false = (x.d4 && _ && _); rw [hd] <;> rfl)
  | true =>
   cases h2 : decide (secO t ≥ x.f) with
   | false => exact strB_cast (cOut_start Tryz.func101 rfl (p147m_4 hE (secO t) t (x.f) (x.l) (x.d0) (x.d1) (x.d2) (x.d3) (x.d4) (x.d5) (x.d6) (iIe ((day_eq ht).trans (by rw [hk]; rfl))) (iIe (sec_eq ht)) (by rw [hd]; rfl) (by rw [hd]; rfl) (by rw [hd]; rfl) (by rw [hd]; rfl) (by rw [hd]; rfl) hd (by rw [h2]; rfl) (by rw [h2]; rfl) (by rw [h2]; rfl) (by rw [h2]; rfl) (by rw [h2]; rfl) h2 (fun j => outK_ret (ends_ret (by kernel_rfl))) fun _ => undef)) (by show false = (x.d4 && _ && _); rw [hd] <;> rfl)
   | true => exact strB_cast (cOut_start Tryz.func101 rfl (p147_4 hE (secO t) t (x.f) (x.l) (x.d0) (x.d1) (x.d2) (x.d3) (x.d4) (x.d5) (x.d6) (iIe ((day_eq ht).trans (by rw [hk]; rfl))) (iIe (sec_eq ht)) (by rw [hd]; rfl) (by rw [hd]; rfl) (by rw [hd]; rfl) (by rw [hd]; rfl) (by rw [hd]; rfl) hd (by rw [h2]; rfl) (by rw [h2]; rfl) (by rw [h2]; rfl) (by rw [h2]; rfl) (by rw [h2]; rfl) h2 (fun j => outK_ret (ends_ret (by kernel_rfl))) fun _ => undef)) (by show _ = (x.d4 && _ && _); rw [hd] <;> rfl)
 | 5, hk => by
  unfold Hr.have
  rw [hk]
  cases hd : x.d5 with
  | false => exact strB_cast (cOut_start Tryz.func101 rfl (p147n_5 hE (secO t) t (x.f) (x.l) (x.d0) (x.d1) (x.d2) (x.d3) (x.d4) (x.d5) (x.d6) (iIe ((day_eq ht).trans (by rw [hk]; rfl))) (iIe (sec_eq ht)) (by rw [hd]; rfl) (by rw [hd]; rfl) (by rw [hd]; rfl) (by rw [hd]; rfl) (by rw [hd]; rfl) hd (fun j => outK_ret (ends_ret (by kernel_rfl))) fun _ => undef)) (by show false = (x.d5 && _ && _); rw [hd] <;> rfl)
  | true =>
   cases h2 : decide (secO t ≥ x.f) with
   | false => exact strB_cast (cOut_start Tryz.func101 rfl (p147m_5 hE (secO t) t (x.f) (x.l) (x.d0) (x.d1) (x.d2) (x.d3) (x.d4) (x.d5) (x.d6) (iIe ((day_eq ht).trans (by rw [hk]; rfl))) (iIe (sec_eq ht)) (by rw [hd]; rfl) (by rw [hd]; rfl) (by rw [hd]; rfl) (by rw [hd]; rfl) (by rw [hd]; rfl) hd (by rw [h2]; rfl) (by rw [h2]; rfl) (by rw [h2]; rfl) (by rw [h2]; rfl) (by rw [h2]; rfl) h2 (fun j => outK_ret (ends_ret (by kernel_rfl))) fun _ => undef)) (by show false = (x.d5 && _ && _); rw [hd] <;> rfl)
   | true => exact strB_cast (cOut_start Tryz.func101 rfl (p147_5 hE (secO t) t (x.f) (x.l) (x.d0) (x.d1) (x.d2) (x.d3) (x.d4) (x.d5) (x.d6) (iIe ((day_eq ht).trans (by rw [hk]; rfl))) (iIe (sec_eq ht)) (by rw [hd]; rfl) (by rw [hd]; rfl) (by rw [hd]; rfl) (by rw [hd]; rfl) (by rw [hd]; rfl) hd (by rw [h2]; rfl) (by rw [h2]; rfl) (by rw [h2]; rfl) (by rw [h2]; rfl) (by rw [h2]; rfl) h2 (fun j => outK_ret (ends_ret (by kernel_rfl))) fun _ => undef)) (by show _ = (x.d5 && _ && _); rw [hd] <;> rfl)
 | 6, hk => by
  unfold Hr.have
  rw [hk]
  cases hd : x.d6 with
  | false => exact strB_cast (cOut_start Tryz.func101 rfl (p147n_6 hE (secO t) t (x.f) (x.l) (x.d0) (x.d1) (x.d2) (x.d3) (x.d4) (x.d5) (x.d6) (iIe ((day_eq ht).trans (by rw [hk]; rfl))) (iIe (sec_eq ht)) (by rw [hd]; rfl) (by rw [hd]; rfl) (by rw [hd]; rfl) (by rw [hd]; rfl) (by rw [hd]; rfl) hd (fun j => outK_ret (ends_ret (by kernel_rfl))) fun _ => undef)) (by show false = (x.d6 && _ && _); rw [hd] <;> rfl)
  | true =>
   cases h2 : decide (secO t ≥ x.f) with
   | false => exact strB_cast (cOut_start Tryz.func101 rfl (p147m_6 hE (secO t) t (x.f) (x.l) (x.d0) (x.d1) (x.d2) (x.d3) (x.d4) (x.d5) (x.d6) (iIe ((day_eq ht).trans (by rw [hk]; rfl))) (iIe (sec_eq ht)) (by rw [hd]; rfl) (by rw [hd]; rfl) (by rw [hd]; rfl) (by rw [hd]; rfl) (by rw [hd]; rfl) hd (by rw [h2]; rfl) (by rw [h2]; rfl) (by rw [h2]; rfl) (by rw [h2]; rfl) (by rw [h2]; rfl) h2 (fun j => outK_ret (ends_ret (by kernel_rfl))) fun _ => undef)) (by show false = (x.d6 && _ && _); rw [hd] <;> rfl)
   | true => exact strB_cast (cOut_start Tryz.func101 rfl (p147_6 hE (secO t) t (x.f) (x.l) (x.d0) (x.d1) (x.d2) (x.d3) (x.d4) (x.d5) (x.d6) (iIe ((day_eq ht).trans (by rw [hk]; rfl))) (iIe (sec_eq ht)) (by rw [hd]; rfl) (by rw [hd]; rfl) (by rw [hd]; rfl) (by rw [hd]; rfl) (by rw [hd]; rfl) hd (by rw [h2]; rfl) (by rw [h2]; rfl) (by rw [h2]; rfl) (by rw [h2]; rfl) (by rw [h2]; rfl) h2 (fun j => outK_ret (ends_ret (by kernel_rfl))) fun _ => undef)) (by show _ = (x.d6 && _ && _); rw [hd] <;> rfl)
 | k + 7, hk => absurd (dayO_lt t) (by omega)
theorem K147 (hE : EnvOk E) (x : Hr) (t : Int) (ht : 0 ≤ t ∧ t ≤ 100000000) : COut E 0 [] 101 [aHr x, iI t] (iB (x.have t)) [] := K147d hE x t ht _ rfl
abbrev hbT (t : Int) : Heap := [bK [.v (.int .i64 t)] 1 3]
theorem K146 (hE : EnvOk E) (x : Hr) (t : Int) (ht : 0 ≤ t ∧ t ≤ 100000000) : COut E 0 (hbT t) 100 [aHr x, .e (.one (.ptr 0 0))] (iB (x.have t)) (hbT t) :=
 cOut_start Tryz.func100 rfl (p146 hE [] 0 0 0 0 0 0 0 0 t (x.d0) (x.d1) (x.d2) (x.d3) (x.d4) (x.d5) (x.d6) (x.have t) (x.f) (x.l) [] [] (K147 hE x t ht) (fun j => outK_ret (ends_ret (by kernel_rfl))) fun _ => undef)
def protB (L : List Hr) (t : Int) : Bool := L.any fun x => x.have t
theorem l164 (hE : EnvOk E) (L : List Hr) (t : Int) (ht : 0 ≤ t ∧ t ≤ 100000000) (hm : L.length ≤ 100000) : ∀ k i, k + i = L.length → ∃ x, (decide (x ≥ 0) = protB (L.drop i) t) ∧ ∀ j, OutK E 0 1 (r164 (hrD L) (L.length) (i) 0 0 0 0 0 0 t false false false false false false false false 0 0 [] [] j) (Go.Ev.Ends E Tryz.f123 (iI x) (hbT t))
 | 0, i, hk => by
  rw [List.drop_eq_nil_of_le (by omega)]
  exact ⟨-1, rfl, fun j => p164x hE (hrD L) (L.length) i 0 0 0 0 0 0 t false false false false false false false false 0 0 [] [] (decide_eq_false (by (try simp only [Int.ofNat_eq_natCast]); omega)) (fun j => outK_ret (ends_ret (by kernel_rfl))) j⟩
 | k + 1, i, hk => by
  have hl : i < L.length := by omega
  have hx : L[i]? = some L[i] := List.getElem?_eq_getElem hl
  rw [List.drop_eq_getElem_cons hl]
  generalize L[i] = x at hx
  have hp : protB (x :: L.drop (i + 1)) t = (x.have t || protB (L.drop (i + 1)) t) := rfl
  rw [hp]
  cases he : x.have t with
  | true => exact ⟨Int.ofNat i, by simp, fun j => p164e hE (hrD L) (L.length) i 0 0 0 0 0 0 t (x.d0) (x.d1) (x.d2) (x.d3) (x.d4) (x.d5) (x.d6) true (x.f) (x.l) [] [] (decide_eq_true (by (try simp only [Int.ofNat_eq_natCast]); omega)) ⟨by (try simp only [Int.ofNat_eq_natCast]); omega, by (try simp only [Int.ofNat_eq_natCast]); omega⟩ rfl (hr_get hx) (iBg (K146 hE x t ht) he) (by first | rfl | omega | simp) (fun j => outK_ret (ends_ret (by kernel_rfl))) j⟩
  | false =>
   obtain ⟨z, hz, ih⟩ := l164 hE L t ht hm k (i + 1) (by omega)
   exact ⟨z, by rw [hz]; rfl, fun j => p164s hE (hrD L) (L.length) i 0 0 0 0 0 0 t (x.d0) (x.d1) (x.d2) (x.d3) (x.d4) (x.d5) (x.d6) false (x.f) (x.l) [] [] (decide_eq_true (by (try simp only [Int.ofNat_eq_natCast]); omega)) ⟨by (try simp only [Int.ofNat_eq_natCast]); omega, by (try simp only [Int.ofNat_eq_natCast]); omega⟩ rfl (hr_get hx) (iBg (K146 hE x t ht) he) (by first | rfl | omega | simp) (iIe (by (try simp only [Int.ofNat_eq_natCast]); rw [wrap_id (by omega) (by omega)]; try omega)) ih j⟩
theorem K107 (hE : EnvOk E) (L : List Hr) (t : Int) (ht : 0 ≤ t ∧ t ≤ 100000000) (hm : L.length ≤ 100000) : COut E 0 [] 69 [dHr L, iI t] (iB (protB L t)) [] := by
 obtain ⟨z, hz, h⟩ := l164 hE L t ht hm L.length 0 rfl
 have h164 : COut E 0 (hbT t) 123 [dHr L, .e (.one (.clo 100 [] [.one (.ptr 0 0)]))] (iI z) (hbT t) := cOut_start Tryz.func123 rfl (p164a hE (hrD L) (L.length) 0 0 0 0 0 0 0 t false false false false false false false false 0 0 [] [] h fun _ => undef)
 have h145 : COut E 0 (hbT t) 99 [dHr L, .e (.one (.clo 100 [] [.one (.ptr 0 0)]))] (iB (protB L t)) (hbT t) := by
  rw [show protB L t = decide (z ≥ 0) from hz.symm]
  exact cOut_start Tryz.func99 rfl (p145 hE (hrD L) (L.length) 0 0 0 z 0 0 0 t false false false false false false false false 0 0 [] [] h164 (fun j => outK_ret (ends_ret (by kernel_rfl))) fun _ => undef)
 exact cOut_clear (cOut_start Tryz.func69 rfl (p107 hE (hrD L) (L.length) 0 0 0 0 0 0 0 t false false false false false false false (protB L t) 0 0 [] [] h145 (fun j => outK_ret (ends_ret (by kernel_rfl))) fun _ => undef)) rfl
end
end Go.Proofs.YtneaafigbnjceaaGreatDoor
end

/-! SeHc -/
section
open Go Go.Ev
namespace Go.Proofs.YtneaafigbnjceaaGreatDoor
noncomputable section
def enR (s : Int) : List Hr → Int → Int
 | [], e => e
 | x :: l, e => enR s l (if x.l > s then min e x.l else e)
def nxC (L : List Hr) (t : Int) : Int := t - secO t + enR (secO t) L 86400
def nxR (t : Int) : List Hr → Int → Int
 | [], n => n
 | x :: l, n => nxR t l (if x.day (dayO t) = true ∧ secO t ≥ x.f ∧ t - secO t + x.l > n then t - secO t + x.l else n)
def frC (L : List Hr) : Nat → Int → Option Int
 | 0, _ => none
 | k + 1, t => if t ≤ 100000000 then (if protB L t = true then frC L k (nxC L t) else some t) else none
def frR (L : List Hr) (t0 : Int) : Nat → Int → Option Int
 | 0, _ => none
 | k + 1, t => if t ≤ 100000000 ∧ t < t0 + 691200 then (if protB L t = true then frR L t0 k (nxR t L (t + 1)) else some t) else none
def okH (L : List Hr) : Prop := ∀ x ∈ L, 0 ≤ x.f ∧ x.f < x.l ∧ x.l ≤ 86400
theorem okH_of : ∀ {L : List Hr}, hrsE L = 0 → okH L
 | [], _ => fun x hx => by simp at hx
 | y :: L, h => fun x hx => by
  rw [hrsE_c] at h
  by_cases hy : hrE y = 0
  ·rw [if_pos hy] at h
   rcases List.mem_cons.1 hx with rfl | hx
   ·unfold hrE at hy
    split at hy
    ·omega
    ·omega
   ·exact okH_of h x hx
  ·rw [if_neg hy] at h; exact absurd h hy
theorem okH_hours {L : List Hr} (h : hoursE L = 0) : okH L ∧ L.length ≤ 16 := by
 unfold hoursE at h
 split at h
 ·omega
 ·exact ⟨okH_of h, by omega⟩
theorem secO_b {t : Int} : 0 ≤ secO t ∧ secO t < 86400 := by unfold secO; omega
theorem have_iff {x : Hr} {t : Int} : x.have t = true ↔ x.day (dayO t) = true ∧ x.f ≤ secO t ∧ secO t < x.l := by
 unfold Hr.have
 simp [Bool.and_eq_true, and_assoc]
theorem prot_iff {L : List Hr} {t : Int} : protB L t = true ↔ ∃ x ∈ L, x.day (dayO t) = true ∧ x.f ≤ secO t ∧ secO t < x.l := by
 unfold protB
 simp [List.any_eq_true, have_iff]
theorem same_day {t s : Int} (h0 : t ≤ s) (h1 : s < t - secO t + 86400) : dayO s = dayO t ∧ secO s = secO t + (s - t) := by
 unfold dayO secO at *
 have : s / 86400 = t / 86400 := by omega
 rw [this]
 exact ⟨rfl, by omega⟩
theorem enR_le (s : Int) : ∀ (L : List Hr) (e : Int), enR s L e ≤ e ∧ (∀ x ∈ L, x.l > s → enR s L e ≤ x.l) ∧ (s < e → s < enR s L e)
 | [], e => ⟨Int.le_refl _, fun x hx => by simp at hx, id⟩
 | y :: L, e => by
  obtain ⟨h1, h2, h3⟩ := enR_le s L (if y.l > s then min e y.l else e)
  refine ⟨?_, ?_, ?_⟩
  ·show enR s L _ ≤ e
   split at h1 <;> rename_i h <;> simp only [h, if_true, if_false] at h1 ⊢ <;> omega
  ·intro x hx hl
   rcases List.mem_cons.1 hx with rfl | hx
   ·show enR s L _ ≤ x.l
    rw [if_pos hl] at h1 ⊢; omega
   ·exact h2 x hx hl
  ·intro he
   show s < enR s L _
   apply h3
   split <;> omega
theorem nxC_spec {L : List Hr} {t : Int} (hp : protB L t = true) : t < nxC L t ∧ ∀ s, t ≤ s → s < nxC L t → protB L s = true := by
 obtain ⟨x, hx, hd, hf, hl⟩ := prot_iff.1 hp
 obtain ⟨h1, h2, h3⟩ := enR_le (secO t) L 86400
 have hs := @secO_b t
 have h4 := h3 hs.2
 have h5 := h2 x hx hl
 unfold nxC
 refine ⟨by omega, fun s h6 h7 => ?_⟩
 obtain ⟨e1, e2⟩ := same_day h6 (by omega)
 exact prot_iff.2 ⟨x, hx, by rw [e1]; exact hd, by omega, by omega⟩
theorem nxC_ge {L : List Hr} {t : Int} : t < nxC L t ∧ nxC L t ≤ t + 86400 := by
 obtain ⟨h1, _, h3⟩ := enR_le (secO t) L 86400
 have hs := @secO_b t
 have h4 := h3 hs.2
 unfold nxC; omega
theorem nxR_spec {L0 : List Hr} {t : Int} (ho : okH L0) : ∀ (L : List Hr) (n : Int), (∀ x ∈ L, x ∈ L0) → t < n → n ≤ t - secO t + 86400 + 1 → (∀ s, t ≤ s → s < n → protB L0 s = true) →
  t < nxR t L n ∧ nxR t L n ≤ t - secO t + 86400 + 1 ∧ ∀ s, t ≤ s → s < nxR t L n → protB L0 s = true
 | [], n, _, h1, h2, h3 => ⟨h1, h2, h3⟩
 | y :: L, n, hm, h1, h2, h3 => by
  have hy := hm y (List.mem_cons_self ..)
  obtain ⟨o1, o2, o3⟩ := ho y hy
  have hs := @secO_b t
  refine nxR_spec ho L _ (fun x hx => hm x (List.mem_cons_of_mem _ hx)) ?_ ?_ ?_
  ·split <;> omega
  ·split <;> omega
  ·split
   ·rename_i hc
    intro s h4 h5
    obtain ⟨e1, e2⟩ := same_day h4 (by omega)
    exact prot_iff.2 ⟨y, hy, by rw [e1]; exact hc.1, by omega, by omega⟩
   ·exact h3
theorem nxR_all {L : List Hr} {t : Int} (ho : okH L) (hp : protB L t = true) : t < nxR t L (t + 1) ∧ nxR t L (t + 1) ≤ t + 86401 ∧ ∀ s, t ≤ s → s < nxR t L (t + 1) → protB L s = true := by
 have hs := @secO_b t
 have h := nxR_spec (t := t) ho L (t + 1) (fun _ h => h) (by omega) (by omega) (fun s h4 h5 => by
  obtain rfl : s = t := by omega
  exact hp)
 exact ⟨h.1, by omega, h.2.2⟩
def FF (L : List Hr) (t r : Int) : Prop := t ≤ r ∧ protB L r = false ∧ ∀ s, t ≤ s → s < r → protB L s = true
theorem frC_some {L : List Hr} : ∀ k t r, frC L k t = some r → FF L t r ∧ r ≤ 100000000
 | 0, t, r, h => by simp [frC] at h
 | k + 1, t, r, h => by
  unfold frC at h
  split at h
  ·split at h
   ·rename_i h1 h2
    obtain ⟨⟨a, b, c⟩, d⟩ := frC_some k _ r h
    obtain ⟨e, f⟩ := nxC_spec h2
    refine ⟨⟨by omega, b, fun s h3 h4 => ?_⟩, d⟩
    by_cases h5 : s < nxC L t
    ·exact f s h3 h5
    ·exact c s (by omega) h4
   ·rename_i h1 h2
    simp only [Option.some.injEq] at h
    subst h
    exact ⟨⟨Int.le_refl _, by simpa using h2, fun s h3 h4 => by omega⟩, h1⟩
  ·simp at h
theorem frC_none {L : List Hr} : ∀ (k : Nat) (t : Int), 100000000 < t + k → frC L k t = none → ∀ s, t ≤ s → s ≤ 100000000 → protB L s = true
 | 0, t, hk, h => fun s h1 h2 => by omega
 | k + 1, t, hk, h => by
  unfold frC at h
  split at h
  ·split at h
   ·rename_i h1 h2
    obtain ⟨e, f⟩ := nxC_spec h2
    intro s h3 h4
    by_cases h5 : s < nxC L t
    ·exact f s h3 h5
    ·exact frC_none k _ (by omega) h s (by omega) h4
   ·simp at h
  ·intro s h3 h4; omega
theorem frR_some {L : List Hr} (ho : okH L) (t0 : Int) : ∀ k t r, frR L t0 k t = some r → FF L t r ∧ r ≤ 100000000
 | 0, t, r, h => by simp [frR] at h
 | k + 1, t, r, h => by
  unfold frR at h
  split at h
  ·split at h
   ·rename_i h1 h2
    obtain ⟨⟨a, b, c⟩, d⟩ := frR_some ho t0 k _ r h
    obtain ⟨e, _, f⟩ := nxR_all ho h2
    refine ⟨⟨by omega, b, fun s h3 h4 => ?_⟩, d⟩
    by_cases h5 : s < nxR t L (t + 1)
    ·exact f s h3 h5
    ·exact c s (by omega) h4
   ·rename_i h1 h2
    simp only [Option.some.injEq] at h
    subst h
    exact ⟨⟨Int.le_refl _, by simpa using h2, fun s h3 h4 => by omega⟩, h1.1⟩
  ·simp at h
theorem frR_none {L : List Hr} (ho : okH L) (t0 : Int) : ∀ (k : Nat) (t : Int), t0 + 691200 < t + k → frR L t0 k t = none → ∀ s, t ≤ s → s ≤ 100000000 → s < t0 + 691200 → protB L s = true
 | 0, t, hk, h => fun s h1 h2 => by omega
 | k + 1, t, hk, h => by
  unfold frR at h
  split at h
  ·split at h
   ·rename_i h1 h2
    obtain ⟨e, _, f⟩ := nxR_all ho h2
    intro s h3 h4 h6
    by_cases h5 : s < nxR t L (t + 1)
    ·exact f s h3 h5
    ·exact frR_none ho t0 k _ (by omega) h s (by omega) h4 h6
   ·simp at h
  ·intro s h3 h4; omega
theorem prot_week {L : List Hr} {t : Int} : protB L (t + 604800) = protB L t := by
 have e1 : dayO (t + 604800) = dayO t := by unfold dayO; omega
 have e2 : secO (t + 604800) = secO t := by unfold secO; omega
 rw [Bool.eq_iff_iff, prot_iff, prot_iff, e1, e2]
theorem prot_all {L : List Hr} {t0 : Int} (h : ∀ s, t0 ≤ s → s < t0 + 691200 → protB L s = true) : ∀ (k : Nat) (s : Int), t0 ≤ s → s < t0 + 604800 * k → protB L s = true
 | 0, s, h1, h2 => by omega
 | k + 1, s, h1, h2 => by
  by_cases h3 : s < t0 + 691200
  ·exact h s h1 h3
  ·have h4 := prot_all h k (s - 604800) (by omega) (by omega)
   rw [show s = s - 604800 + 604800 by omega, prot_week]; exact h4
theorem FF_one {L : List Hr} {t r s : Int} (h1 : FF L t r) (h2 : FF L t s) : r = s := by
 obtain ⟨a, b, c⟩ := h1
 obtain ⟨d, e, f⟩ := h2
 rcases Int.lt_trichotomy r s with h | h | h
 ·rw [f r a h] at b; exact absurd b (by decide)
 ·exact h
 ·rw [c s d h] at e; exact absurd e (by decide)
theorem fr_eq {L : List Hr} (ho : okH L) {t : Int} {k m : Nat} (hk : 100000000 < t + k) (hm : 691200 < (m : Int)) : frC L k t = frR L t m t := by
 have hR : frR L t m t = none → frC L k t = none := fun h => by
  have h1 := frR_none ho t m t (by omega) h
  have h2 : ∀ s, t ≤ s → s ≤ 100000000 → protB L s = true := by
   intro s h3 h4
   by_cases h5 : t + 691200 ≤ 100000000
   ·have h6 : ∀ s, t ≤ s → s < t + 691200 → protB L s = true := fun s a b => h1 s a (by omega) b
    exact prot_all h6 (s - t + 1).toNat s h3 (by omega)
   ·exact h1 s h3 h4 (by omega)
  cases hc : frC L k t with
  | none => rfl
  | some r =>
   obtain ⟨⟨a, b, c⟩, d⟩ := frC_some k t r hc
   rw [h2 r a d] at b
   exact absurd b (by decide)
 cases h : frR L t m t with
 | none => exact hR h
 | some r =>
  obtain ⟨hr, hr2⟩ := frR_some ho t m t r h
  cases hc : frC L k t with
  | some s => obtain ⟨hs, _⟩ := frC_some k t s hc; rw [FF_one hr hs]
  | none =>
   have := frC_none k t hk hc r hr.1 hr2
   rw [hr.2.1] at this
   exact absurd this (by decide)
end
end Go.Proofs.YtneaafigbnjceaaGreatDoor
end
