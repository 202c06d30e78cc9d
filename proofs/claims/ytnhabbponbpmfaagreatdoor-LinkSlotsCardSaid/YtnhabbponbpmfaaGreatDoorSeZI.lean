/-
  Part of the proof: SeSc, SeSm.
-/
import Derived.Test.YtnhabbponbpmfaaGreatDoorSeZH

/-! SeSc -/
section
open Go Go.Ev
namespace Go.Proofs.YtnhabbponbpmfaaGreatDoor
noncomputable section
set_option maxRecDepth 100000
set_option maxHeartbeats 20000000
abbrev ztSc0 : List Item := [.code (atC [1, 1, 1, 0, 1, 0, 0] (bodyOf Tryz.f149)), .inLoop (atC [1, 1, 1, 0, 1, 0, 0] (bodyOf Tryz.f149)), .inBlock 0, .code (atC [1, 1, 1, 1] (bodyOf Tryz.f149))]
abbrev ztSc1 : List Item := [.code (atC [1, 1, 0, 1, 0, 0] (bodyOf Tryz.f151)), .inLoop (atC [1, 1, 0, 1, 0, 0] (bodyOf Tryz.f151)), .inBlock 0, .code (atC [1, 1, 1] (bodyOf Tryz.f151))]
abbrev ztSc2 : List Item := [.code (atC [1, 1, 0, 1, 0, 0] (bodyOf Tryz.f63)), .inLoop (atC [1, 1, 0, 1, 0, 0] (bodyOf Tryz.f63)), .inBlock 0, .code (atC [1, 1, 1] (bodyOf Tryz.f63))]
abbrev ztSc3 : List Item := [.code (atC [1, 1, 0, 1, 0, 0] (bodyOf Tryz.f71)), .inLoop (atC [1, 1, 0, 1, 0, 0] (bodyOf Tryz.f71)), .inBlock 0, .code (atC [1, 1, 1] (bodyOf Tryz.f71))]
def s168 (_C _W : List DT) (_n _m _i _k _N : Nat) (_o _q _r : ByteArray) (_p _f _s x y _z _c _d _t _e _g _h _u _v : Int) (_w : Bool) (_D _Y _X : List AC) (_j : Nat → Value) : St := startK Tryz.f168 [] [iI x, iI y]
def s150 (_C _W : List DT) (_n _m _i _k _N : Nat) (o q _r : ByteArray) (p f s x y z _c _d _t _e _g _h _u _v : Int) (_w : Bool) (_D _Y _X : List AC) (_j : Nat → Value) : St := startK Tryz.f150 [] [.e (.agg (zSt o p f s)), .e (.agg (zSt q x y z))]
def s153 (_C _W : List DT) (_n _m _i _k _N : Nat) (o q _r : ByteArray) (p f s x y z _c _d _t _e _g _h _u _v : Int) (_w : Bool) (_D _Y _X : List AC) (_j : Nat → Value) : St := startK Tryz.f153 [] [.e (.agg (zSt o p f s)), .e (.agg (zSt q x y z))]
def s149 (C _W : List DT) (n _m _i _k _N : Nat) (_o _q _r : ByteArray) (_p _f _s _x _y _z _c _d _t _e _g _h _u _v : Int) (_w : Bool) (_D _Y _X : List AC) (_j : Nat → Value) : St := startK Tryz.f149 [] [.e (.one (.dp (.s C n 4))), .e (.one (.v (.func (.func 150) #[] #[])))]
def s107 (C _W : List DT) (n _m _i _k _N : Nat) (_o _q _r : ByteArray) (_p _f _s _x _y _z _c _d _t _e _g _h _u _v : Int) (_w : Bool) (_D _Y _X : List AC) (_j : Nat → Value) : St := startK Tryz.f107 [] [.e (.one (.dp (.s C n 4)))]
def s152 (C _W : List DT) (n _m _i k N : Nat) (o _q _r : ByteArray) (p f s _x _y _z _c _d _t _e _g _h _u _v : Int) (_w : Bool) (D _Y _X : List AC) (_j : Nat → Value) : St := startK Tryz.f152 [bK [.dp (.s C n 4)] 1 110, bK [.v (.int .i64 (Int.ofNat k))] 1 3, some ⟨D, N, 138, true, .cells⟩, bK (zSt o p f s) 4 138] [.e (.agg (zSt o p f s)), .e (.one (.ptr 0 0)), .e (.one (.ptr 1 0))]
def s151 (C _W : List DT) (n _m _i k _N : Nat) (_o _q _r : ByteArray) (_p _f _s _x _y _z _c _d _t _e _g _h _u _v : Int) (_w : Bool) (_D _Y _X : List AC) (_j : Nat → Value) : St := startK Tryz.f151 [bK [.dp (.s C n 4)] 1 110, bK [.v (.int .i64 (Int.ofNat k))] 1 3] [.e (.one (.dp (.s C n 4))), .e (.one (.clo 152 [] [.one (.ptr 0 0), .one (.ptr 1 0)]))]
def s110 (C _W : List DT) (n _m _i _k _N : Nat) (_o _q _r : ByteArray) (_p _f _s _x _y _z _c _d _t _e _g _h _u _v : Int) (_w : Bool) (_D _Y _X : List AC) (_j : Nat → Value) : St := startK Tryz.f110 [] [.e (.one (.dp (.s C n 4)))]
def s109 (C _W : List DT) (n _m _i _k _N : Nat) (_o _q _r : ByteArray) (_p _f _s _x _y _z _c _d _t _e _g _h _u _v : Int) (_w : Bool) (_D _Y _X : List AC) (_j : Nat → Value) : St := startK Tryz.f109 [] [.e (.one (.dp (.s C n 4)))]
def s109v (_C _W : List DT) (_n _m _i _k _N : Nat) (_o _q _r : ByteArray) (_p _f _s _x _y _z _c _d _t _e _g _h _u _v : Int) (_w : Bool) (_D _Y _X : List AC) (cp : Nat) (_j : Nat → Value) : St := startK Tryz.f109 [] [.e (.one (.v (.slice none 0 cp)))]
def s109w (_C _W : List DT) (_n _m _i _k _N : Nat) (_o _q _r : ByteArray) (_p _f _s _x _y _z _c _d _t _e _g _h _u _v : Int) (_w : Bool) (_D _Y _X : List AC) (cp : Nat) (ad : Addr) (_j : Nat → Value) : St := startK Tryz.f109 [] [.e (.one (.v (.slice (some ad) 0 cp)))]
def s63 (C _W : List DT) (n _m _i _k _N : Nat) (_o _q _r : ByteArray) (_p _f _s _x _y _z _c _d _t _e _g _h _u _v : Int) (_w : Bool) (_D _Y _X : List AC) (_j : Nat → Value) : St := startK Tryz.f63 [] [.e (.one (.dp (.s C n 4)))]
def s71 (C _W : List DT) (n _m _i k _N : Nat) (_o _q _r : ByteArray) (_p _f _s _x _y _z _c _d _t _e _g _h _u _v : Int) (_w : Bool) (_D _Y _X : List AC) (_j : Nat → Value) : St := startK Tryz.f71 [] [.e (.one (.dp (.s C n 4))), (iI (Int.ofNat k))]
def q149 (C _W : List DT) (n _m i _k _N : Nat) (_o q _r : ByteArray) (_p _f _s x y z _c _d _t _e _g _h _u _v : Int) (_w : Bool) (_D _Y _X : List AC) (j : Nat → Value) : St := ⟨[bK (zSt ⟨#[]⟩ 0 0 0) 4 138, bK (zSt q x y z) 4 138], ztSc0, mkT j [(0, .e (.one (.dp (.s C n 4)))), (1, .e (.one (.v (.func (.func 150) #[] #[])))), (4, .e (.one (.ptr 0 0))), (5, .e (.one (.ptr 1 0))), (6, (iI (Int.ofNat i)))] 33 0⟩
def q151 (C _W : List DT) (n _m i k N : Nat) (_o _q _r : ByteArray) (_p _f _s _x _y _z _c _d _t _e _g _h _u _v : Int) (_w : Bool) (D _Y _X : List AC) (j : Nat → Value) : St := ⟨[bK [.dp (.s C n 4)] 1 110, bK [.v (.int .i64 (Int.ofNat k))] 1 3, bK (D) N 138], ztSc1, mkT j [(1, .e (.one (.clo 152 [] [.one (.ptr 0 0), .one (.ptr 1 0)]))), (5, .e (.one (.slc 2 0 n 4 n true))), (11, .e (.one (.dp (.s C n 4)))), (12, (iI (Int.ofNat n))), (13, (iI (Int.ofNat i)))] 26 0⟩
def q63 (C _W : List DT) (n _m i _k _N : Nat) (_o _q _r : ByteArray) (_p _f _s _x _y z _c _d _t _e _g _h _u _v : Int) (_w : Bool) (_D _Y _X : List AC) (j : Nat → Value) : St := ⟨[], ztSc2, mkT j [(0, .e (.one (.dp (.s C n 4)))), (3, (iI z)), (4, (iI (Int.ofNat i)))] 50 0⟩
def q71 (_C _W : List DT) (n _m i k N : Nat) (_o _q _r : ByteArray) (_p _f _s _x _y _z _c _d _t _e _g _h _u _v : Int) (_w : Bool) (D _Y _X : List AC) (j : Nat → Value) : St := ⟨[.some ⟨(D), N, 136, false, .cells⟩], ztSc3, mkT j [(1, (iI (Int.ofNat k))), (5, .e (.one (.slc 0 0 (n) 4 (n) false))), (6, (iI (Int.ofNat i)))] 53 0⟩
def A168_ffff_end (_C : List DT) (_W : List DT) (_n _m _i _k _N : Nat) (_o : ByteArray) (_q : ByteArray) (_r : ByteArray) (_p _f _s _x _y _z _c _d _t _e _g _h _u _v : Int) (_w : Bool) (_D _Y _X : List AC) (j : Nat → Value) : St := ⟨[], [.code .ret], mkT j [(4, (iI 0))] 20 0⟩
theorem A168_ffff (hE : EnvOk E) (C : List DT) (W : List DT) (n m i k N : Nat) (o : ByteArray) (q : ByteArray) (r : ByteArray) (p f s x y z c d t e g h u v : Int) (w : Bool) (D Y X : List AC) (c0 : (x != x : Bool) = false) (c1 : (y != y : Bool) = false) (c2 : (decide (x < y) : Bool) = false) (c3 : (decide (x > y) : Bool) = false) : Sg 0 0 (s168 C W n m i k N o q r p f s x y z c d t e g h u v w D Y X) (A168_ffff_end C W n m i k N o q r p f s x y z c d t e g h u v w D Y X) := fun ho j =>
 oS hE [.run 3, .ops [(1, .c0 (iB (x != x)))] [], .run 1, .ops [(1, .c0 (iB (y != y)))] [], .run 3, .cond false, .run 4, .cond false, .run 4, .cond false, .run 4, .cond false, .run 3] [4] (ps := [COut E 0 [] 191 [(iI x)] (iB (x != x)) [], ([] : List Nat) = [], COut E 0 [] 191 [(iI y)] (iB (y != y)) [], ([] : List Nat) = [], (x != x : Bool) = false, (y != y : Bool) = false, (decide (x < y) : Bool) = false, (decide (x > y) : Bool) = false]) ⟨(S191 hE _), rfl, (S191 hE _), rfl, c0, c1, c2, c3, trivial⟩
  ho
theorem A168_ffff_c (hE : EnvOk E) (C : List DT) (W : List DT) (n m i k N : Nat) (o : ByteArray) (q : ByteArray) (r : ByteArray) (p f s x y z c d t e g h u v : Int) (w : Bool) (D Y X : List AC) (c0 : (x != x : Bool) = false) (c1 : (y != y : Bool) = false) (c2 : (decide (x < y) : Bool) = false) (c3 : (decide (x > y) : Bool) = false)  : COut E 0 [] 168 [(iI x), (iI y)] (iI 0) [] := cOut_start Tryz.func168 rfl (A168_ffff hE C W n m i k N o q r p f s x y z c d t e g h u v w D Y X c0 c1 c2 c3  (fun j => outK_ret (ends_ret (by kernel_rfl))) fun _ => undef)
def A168_ffft_end (_C : List DT) (_W : List DT) (_n _m _i _k _N : Nat) (_o : ByteArray) (_q : ByteArray) (_r : ByteArray) (_p _f _s _x _y _z _c _d _t _e _g _h _u _v : Int) (_w : Bool) (_D _Y _X : List AC) (j : Nat → Value) : St := ⟨[], [.code .ret, .code (atC [1, 1, 1, 1, 1, 1, 1] (bodyOf Tryz.f168))], mkT j [(4, (iI 1))] 20 0⟩
theorem A168_ffft (hE : EnvOk E) (C : List DT) (W : List DT) (n m i k N : Nat) (o : ByteArray) (q : ByteArray) (r : ByteArray) (p f s x y z c d t e g h u v : Int) (w : Bool) (D Y X : List AC) (c0 : (x != x : Bool) = false) (c1 : (y != y : Bool) = false) (c2 : (decide (x < y) : Bool) = false) (c3 : (decide (x > y) : Bool) = true) : Sg 0 0 (s168 C W n m i k N o q r p f s x y z c d t e g h u v w D Y X) (A168_ffft_end C W n m i k N o q r p f s x y z c d t e g h u v w D Y X) := fun ho j =>
 oS hE [.run 3, .ops [(1, .c0 (iB (x != x)))] [], .run 1, .ops [(1, .c0 (iB (y != y)))] [], .run 3, .cond false, .run 4, .cond false, .run 4, .cond false, .run 4, .cond true, .run 2] [4] (ps := [COut E 0 [] 191 [(iI x)] (iB (x != x)) [], ([] : List Nat) = [], COut E 0 [] 191 [(iI y)] (iB (y != y)) [], ([] : List Nat) = [], (x != x : Bool) = false, (y != y : Bool) = false, (decide (x < y) : Bool) = false, (decide (x > y) : Bool) = true]) ⟨(S191 hE _), rfl, (S191 hE _), rfl, c0, c1, c2, c3, trivial⟩
  ho
theorem A168_ffft_c (hE : EnvOk E) (C : List DT) (W : List DT) (n m i k N : Nat) (o : ByteArray) (q : ByteArray) (r : ByteArray) (p f s x y z c d t e g h u v : Int) (w : Bool) (D Y X : List AC) (c0 : (x != x : Bool) = false) (c1 : (y != y : Bool) = false) (c2 : (decide (x < y) : Bool) = false) (c3 : (decide (x > y) : Bool) = true)  : COut E 0 [] 168 [(iI x), (iI y)] (iI 1) [] := cOut_start Tryz.func168 rfl (A168_ffft hE C W n m i k N o q r p f s x y z c d t e g h u v w D Y X c0 c1 c2 c3  (fun j => outK_ret (ends_ret (by kernel_rfl))) fun _ => undef)
def A168_fft_end (_C : List DT) (_W : List DT) (_n _m _i _k _N : Nat) (_o : ByteArray) (_q : ByteArray) (_r : ByteArray) (_p _f _s _x _y _z _c _d _t _e _g _h _u _v : Int) (_w : Bool) (_D _Y _X : List AC) (j : Nat → Value) : St := ⟨[], [.code .ret, .code (atC [1, 1, 1, 1, 1, 1] (bodyOf Tryz.f168))], mkT j [(4, (iI (-1)))] 20 0⟩
theorem A168_fft (hE : EnvOk E) (C : List DT) (W : List DT) (n m i k N : Nat) (o : ByteArray) (q : ByteArray) (r : ByteArray) (p f s x y z c d t e g h u v : Int) (w : Bool) (D Y X : List AC) (c0 : (x != x : Bool) = false) (c1 : (y != y : Bool) = false) (c2 : (decide (x < y) : Bool) = true) : Sg 0 0 (s168 C W n m i k N o q r p f s x y z c d t e g h u v w D Y X) (A168_fft_end C W n m i k N o q r p f s x y z c d t e g h u v w D Y X) := fun ho j =>
 oS hE [.run 3, .ops [(1, .c0 (iB (x != x)))] [], .run 1, .ops [(1, .c0 (iB (y != y)))] [], .run 3, .cond false, .run 4, .cond false, .run 4, .cond true, .run 2] [4] (ps := [COut E 0 [] 191 [(iI x)] (iB (x != x)) [], ([] : List Nat) = [], COut E 0 [] 191 [(iI y)] (iB (y != y)) [], ([] : List Nat) = [], (x != x : Bool) = false, (y != y : Bool) = false, (decide (x < y) : Bool) = true]) ⟨(S191 hE _), rfl, (S191 hE _), rfl, c0, c1, c2, trivial⟩
  ho
theorem A168_fft_c (hE : EnvOk E) (C : List DT) (W : List DT) (n m i k N : Nat) (o : ByteArray) (q : ByteArray) (r : ByteArray) (p f s x y z c d t e g h u v : Int) (w : Bool) (D Y X : List AC) (c0 : (x != x : Bool) = false) (c1 : (y != y : Bool) = false) (c2 : (decide (x < y) : Bool) = true)  : COut E 0 [] 168 [(iI x), (iI y)] (iI (-1)) [] := cOut_start Tryz.func168 rfl (A168_fft hE C W n m i k N o q r p f s x y z c d t e g h u v w D Y X c0 c1 c2  (fun j => outK_ret (ends_ret (by kernel_rfl))) fun _ => undef)
def A168_ft_end (_C : List DT) (_W : List DT) (_n _m _i _k _N : Nat) (_o : ByteArray) (_q : ByteArray) (_r : ByteArray) (_p _f _s _x _y _z _c _d _t _e _g _h _u _v : Int) (_w : Bool) (_D _Y _X : List AC) (j : Nat → Value) : St := ⟨[], [.code .ret, .code (atC [1, 1, 1, 1, 1] (bodyOf Tryz.f168))], mkT j [(4, (iI 1))] 20 0⟩
theorem A168_ft (hE : EnvOk E) (C : List DT) (W : List DT) (n m i k N : Nat) (o : ByteArray) (q : ByteArray) (r : ByteArray) (p f s x y z c d t e g h u v : Int) (w : Bool) (D Y X : List AC) (c0 : (x != x : Bool) = false) (c1 : (y != y : Bool) = true) : Sg 0 0 (s168 C W n m i k N o q r p f s x y z c d t e g h u v w D Y X) (A168_ft_end C W n m i k N o q r p f s x y z c d t e g h u v w D Y X) := fun ho j =>
 oS hE [.run 3, .ops [(1, .c0 (iB (x != x)))] [], .run 1, .ops [(1, .c0 (iB (y != y)))] [], .run 3, .cond false, .run 4, .cond true, .run 2] [4] (ps := [COut E 0 [] 191 [(iI x)] (iB (x != x)) [], ([] : List Nat) = [], COut E 0 [] 191 [(iI y)] (iB (y != y)) [], ([] : List Nat) = [], (x != x : Bool) = false, (y != y : Bool) = true]) ⟨(S191 hE _), rfl, (S191 hE _), rfl, c0, c1, trivial⟩
  ho
theorem A168_ft_c (hE : EnvOk E) (C : List DT) (W : List DT) (n m i k N : Nat) (o : ByteArray) (q : ByteArray) (r : ByteArray) (p f s x y z c d t e g h u v : Int) (w : Bool) (D Y X : List AC) (c0 : (x != x : Bool) = false) (c1 : (y != y : Bool) = true)  : COut E 0 [] 168 [(iI x), (iI y)] (iI 1) [] := cOut_start Tryz.func168 rfl (A168_ft hE C W n m i k N o q r p f s x y z c d t e g h u v w D Y X c0 c1  (fun j => outK_ret (ends_ret (by kernel_rfl))) fun _ => undef)
def A168_tf_end (_C : List DT) (_W : List DT) (_n _m _i _k _N : Nat) (_o : ByteArray) (_q : ByteArray) (_r : ByteArray) (_p _f _s _x _y _z _c _d _t _e _g _h _u _v : Int) (_w : Bool) (_D _Y _X : List AC) (j : Nat → Value) : St := ⟨[], [.code .ret, .code (atC [1, 1, 1, 1] (bodyOf Tryz.f168))], mkT j [(4, (iI (-1)))] 20 0⟩
theorem A168_tf (hE : EnvOk E) (C : List DT) (W : List DT) (n m i k N : Nat) (o : ByteArray) (q : ByteArray) (r : ByteArray) (p f s x y z c d t e g h u v : Int) (w : Bool) (D Y X : List AC) (c0 : (x != x : Bool) = true) (c1 : (y != y : Bool) = false) : Sg 0 0 (s168 C W n m i k N o q r p f s x y z c d t e g h u v w D Y X) (A168_tf_end C W n m i k N o q r p f s x y z c d t e g h u v w D Y X) := fun ho j =>
 oS hE [.run 3, .ops [(1, .c0 (iB (x != x)))] [], .run 1, .ops [(1, .c0 (iB (y != y)))] [], .run 3, .cond true, .run 3, .cond false, .run 3] [4] (ps := [COut E 0 [] 191 [(iI x)] (iB (x != x)) [], ([] : List Nat) = [], COut E 0 [] 191 [(iI y)] (iB (y != y)) [], ([] : List Nat) = [], (x != x : Bool) = true, (y != y : Bool) = false]) ⟨(S191 hE _), rfl, (S191 hE _), rfl, c0, c1, trivial⟩
  ho
theorem A168_tf_c (hE : EnvOk E) (C : List DT) (W : List DT) (n m i k N : Nat) (o : ByteArray) (q : ByteArray) (r : ByteArray) (p f s x y z c d t e g h u v : Int) (w : Bool) (D Y X : List AC) (c0 : (x != x : Bool) = true) (c1 : (y != y : Bool) = false)  : COut E 0 [] 168 [(iI x), (iI y)] (iI (-1)) [] := cOut_start Tryz.func168 rfl (A168_tf hE C W n m i k N o q r p f s x y z c d t e g h u v w D Y X c0 c1  (fun j => outK_ret (ends_ret (by kernel_rfl))) fun _ => undef)
def A168_tt_end (_C : List DT) (_W : List DT) (_n _m _i _k _N : Nat) (_o : ByteArray) (_q : ByteArray) (_r : ByteArray) (_p _f _s _x _y _z _c _d _t _e _g _h _u _v : Int) (_w : Bool) (_D _Y _X : List AC) (j : Nat → Value) : St := ⟨[], [.code .ret, .code (atC [1, 1, 1, 0, 1, 0, 1] (bodyOf Tryz.f168)), .code (atC [1, 1, 1, 1] (bodyOf Tryz.f168))], mkT j [(4, (iI 0))] 20 0⟩
theorem A168_tt (hE : EnvOk E) (C : List DT) (W : List DT) (n m i k N : Nat) (o : ByteArray) (q : ByteArray) (r : ByteArray) (p f s x y z c d t e g h u v : Int) (w : Bool) (D Y X : List AC) (c0 : (x != x : Bool) = true) (c1 : (y != y : Bool) = true) : Sg 0 0 (s168 C W n m i k N o q r p f s x y z c d t e g h u v w D Y X) (A168_tt_end C W n m i k N o q r p f s x y z c d t e g h u v w D Y X) := fun ho j =>
 oS hE [.run 3, .ops [(1, .c0 (iB (x != x)))] [], .run 1, .ops [(1, .c0 (iB (y != y)))] [], .run 3, .cond true, .run 3, .cond true, .run 2] [4] (ps := [COut E 0 [] 191 [(iI x)] (iB (x != x)) [], ([] : List Nat) = [], COut E 0 [] 191 [(iI y)] (iB (y != y)) [], ([] : List Nat) = [], (x != x : Bool) = true, (y != y : Bool) = true]) ⟨(S191 hE _), rfl, (S191 hE _), rfl, c0, c1, trivial⟩
  ho
theorem A168_tt_c (hE : EnvOk E) (C : List DT) (W : List DT) (n m i k N : Nat) (o : ByteArray) (q : ByteArray) (r : ByteArray) (p f s x y z c d t e g h u v : Int) (w : Bool) (D Y X : List AC) (c0 : (x != x : Bool) = true) (c1 : (y != y : Bool) = true)  : COut E 0 [] 168 [(iI x), (iI y)] (iI 0) [] := cOut_start Tryz.func168 rfl (A168_tt hE C W n m i k N o q r p f s x y z c d t e g h u v w D Y X c0 c1  (fun j => outK_ret (ends_ret (by kernel_rfl))) fun _ => undef)
def A168_r0 (_C : List DT) (_W : List DT) (_n _m _i _k _N : Nat) (_o : ByteArray) (_q : ByteArray) (_r : ByteArray) (_p _f _s x y _z _c _d _t _e _g _h _u _v : Int) (_w : Bool) (_D _Y _X : List AC) : Int := (bif x != x then (bif y != y then 0 else (-1)) else (bif y != y then 1 else (bif decide (x < y) then (-1) else (bif decide (x > y) then 1 else 0))))
theorem A168_all (hE : EnvOk E) (C : List DT) (W : List DT) (n m i k N : Nat) (o : ByteArray) (q : ByteArray) (r : ByteArray) (p f s x y z c d t e g h u v : Int) (w : Bool) (D Y X : List AC) : COut E 0 [] 168 [(iI x), (iI y)] (iI (A168_r0 C W n m i k N o q r p f s x y z c d t e g h u v w D Y X)) [] := by
 rcases Bool.eq_false_or_eq_true (x != x) with c0 | c0
 ·skip
  rcases Bool.eq_false_or_eq_true (y != y) with c1 | c1
  ·skip
   have e0 : A168_r0 C W n m i k N o q r p f s x y z c d t e g h u v w D Y X = 0 := by unfold A168_r0; rw [c0, c1]; first | done | rfl
   rw [e0]
   exact A168_tt_c hE C W n m i k N o q r p f s x y z c d t e g h u v w D Y X c0 c1 
  ·skip
   have e0 : A168_r0 C W n m i k N o q r p f s x y z c d t e g h u v w D Y X = (-1) := by unfold A168_r0; rw [c0, c1]; first | done | rfl
   rw [e0]
   exact A168_tf_c hE C W n m i k N o q r p f s x y z c d t e g h u v w D Y X c0 c1 
 ·skip
  rcases Bool.eq_false_or_eq_true (y != y) with c1 | c1
  ·skip
   have e0 : A168_r0 C W n m i k N o q r p f s x y z c d t e g h u v w D Y X = 1 := by unfold A168_r0; rw [c0, c1]; first | done | rfl
   rw [e0]
   exact A168_ft_c hE C W n m i k N o q r p f s x y z c d t e g h u v w D Y X c0 c1 
  ·skip
   rcases Bool.eq_false_or_eq_true (decide (x < y)) with c2 | c2
   ·skip
    have e0 : A168_r0 C W n m i k N o q r p f s x y z c d t e g h u v w D Y X = (-1) := by unfold A168_r0; rw [c0, c1, c2]; first | done | rfl
    rw [e0]
    exact A168_fft_c hE C W n m i k N o q r p f s x y z c d t e g h u v w D Y X c0 c1 c2 
   ·skip
    rcases Bool.eq_false_or_eq_true (decide (x > y)) with c3 | c3
    ·skip
     have e0 : A168_r0 C W n m i k N o q r p f s x y z c d t e g h u v w D Y X = 1 := by unfold A168_r0; rw [c0, c1, c2, c3]; first | done | rfl
     rw [e0]
     exact A168_ffft_c hE C W n m i k N o q r p f s x y z c d t e g h u v w D Y X c0 c1 c2 c3 
    ·skip
     have e0 : A168_r0 C W n m i k N o q r p f s x y z c d t e g h u v w D Y X = 0 := by unfold A168_r0; rw [c0, c1, c2, c3]; first | done | rfl
     rw [e0]
     exact A168_ffff_c hE C W n m i k N o q r p f s x y z c d t e g h u v w D Y X c0 c1 c2 c3 
def p150_end (_C : List DT) (_W : List DT) (_n _m _i _k _N : Nat) (_o : ByteArray) (_q : ByteArray) (_r : ByteArray) (_p _f _s _x _y _z _c d _t _e _g _h _u _v : Int) (_w : Bool) (_D _Y _X : List AC) (j : Nat → Value) : St := ⟨[], [.code .ret], mkT j [(4, (iI d))] 19 0⟩
theorem p150 (hE : EnvOk E) (C : List DT) (W : List DT) (n m i k N : Nat) (o : ByteArray) (q : ByteArray) (r : ByteArray) (p f s x y z c d t e g h u v : Int) (w : Bool) (D Y X : List AC) (h0 : ((iI (if (1 : Int) < f then (1 : Int) else f)) : AV) = (iI e)) (h1 : ((iI (if (1 : Int) < y then (1 : Int) else y)) : AV) = (iI g)) (h2 : COut E 0 [] 168 [(iI e), (iI g)] (iI h) []) (h4 : COut E 0 [] 176 [.e (.agg (zSt o p f s))] (iI u) []) (h7 : COut E 0 [] 176 [.e (.agg (zSt q x y z))] (iI v) []) (h9 : COut E 0 [] 168 [(iI u), (iI v)] (iI c) []) (h11 : COut E 3 [bK (zSt o p f s) 4 138, bK (zSt q x y z) 4 138, bK [.v (.int .i64 h), .v (.int .i64 c)] 2 3] 175 [.e (.one (.slc 2 0 2 1 2 true))] (iI d) [bK (zSt o p f s) 4 138, bK (zSt q x y z) 4 138, bK [.v (.int .i64 h), .v (.int .i64 c)] 2 3]) : Sg 0 0 (s150 C W n m i k N o q r p f s x y z c d t e g h u v w D Y X) (p150_end C W n m i k N o q r p f s x y z c d t e g h u v w D Y X) := fun ho j =>
 oS hE [.run 3, .ops [(2, .rn (iI e)), (5, .rn (iI g)), (6, .c0 (iI h)), (8, .c0 (iI u)), (10, .c0 (iI v)), (11, .c0 (iI c)), (13, .d (.c1 (iI d)))] []] [4] (s' := fun j => ⟨[bK (zSt o p f s) 4 138, bK (zSt q x y z) 4 138, bK [.v (.int .i64 h), .v (.int .i64 c)] 2 3], [.code .ret], mkT j [(4, (iI d))] 19 0⟩) (aP h0 <| aP h1 <| aP h2 <| aN <| aP h4 <| aN <| aP (rfl : (true : Bool) = true) <| aP h7 <| aN <| aP h9 <| aN <| aP h11 <| aN <| aZ)
  fun j => gZ [] (ho j)
def p153a_end (_C : List DT) (_W : List DT) (_n _m _i _k _N : Nat) (o : ByteArray) (_q : ByteArray) (_r : ByteArray) (p _f _s _x _y _z _c _d _t e _g _h _u _v : Int) (_w : Bool) (_D _Y _X : List AC) (j : Nat → Value) : St := ⟨[bK (zSt o p e 0) 4 138], [.code .ret], mkT j [(4, .e (.one (.ptr 0 0)))] 25 0⟩
theorem p153a (hE : EnvOk E) (C : List DT) (W : List DT) (n m i k N : Nat) (o : ByteArray) (q : ByteArray) (r : ByteArray) (p f s x y z c d t e g h u v : Int) (w : Bool) (D Y X : List AC) (h0 : EqOk E 138 [.v (.string o), .v (.int .i64 p), .v (.int .i64 f), .v (.int .i64 s)] [.v (.string q), .v (.int .i64 x), .v (.int .i64 y), .v (.int .i64 z)] w) (h1 : (w : Bool) = true) (h2 : ((iI (wrapF IntKind.i64 (f - (1 : Int)))) : AV) = (iI e)) : Sg 0 0 (s153 C W n m i k N o q r p f s x y z c d t e g h u v w D Y X) (p153a_end C W n m i k N o q r p f s x y z c d t e g h u v w D Y X) := fun ho j =>
 oS hE [.run 5, .ops [(2, .eqs w)] [], .cond true, .run 1, .ops [(2, .rn (iI e))] [], .run 4] [4] (s' := fun j => ⟨[bK (zSt o p e 0) 4 138, bK (zSt q x y z) 4 138, bK (zSt o p e 0) 4 138], [.code .ret], mkT j [(4, .e (.one (.ptr 2 0)))] 25 0⟩) (aP h0 <| aP h1 <| aP h2 <| aZ)
  fun j => gZ [2] (ho j)
def p153b_end (_C : List DT) (_W : List DT) (_n _m _i _k _N : Nat) (o : ByteArray) (_q : ByteArray) (_r : ByteArray) (p f _s _x _y _z _c _d _t _e g _h _u _v : Int) (_w : Bool) (_D _Y _X : List AC) (j : Nat → Value) : St := ⟨[bK (zSt o p f g) 4 138], [.code .ret], mkT j [(4, .e (.one (.ptr 0 0)))] 25 0⟩
theorem p153b (hE : EnvOk E) (C : List DT) (W : List DT) (n m i k N : Nat) (o : ByteArray) (q : ByteArray) (r : ByteArray) (p f s x y z c d t e g h u v : Int) (w : Bool) (D Y X : List AC) (h0 : EqOk E 138 [.v (.string o), .v (.int .i64 p), .v (.int .i64 f), .v (.int .i64 s)] [.v (.string q), .v (.int .i64 x), .v (.int .i64 y), .v (.int .i64 z)] w) (h1 : (w : Bool) = false) (h2 : (decide (f > (0 : Int)) : Bool) = true) (h3 : ((iI (wrapF IntKind.i64 (s + (1 : Int)))) : AV) = (iI e)) (h4 : ((iI (if (1000 : Int) < e then (1000 : Int) else e)) : AV) = (iI g)) : Sg 0 0 (s153 C W n m i k N o q r p f s x y z c d t e g h u v w D Y X) (p153b_end C W n m i k N o q r p f s x y z c d t e g h u v w D Y X) := fun ho j =>
 oS hE [.run 5, .ops [(2, .eqs w)] [], .cond false, .run 2, .cond true, .ops [(2, .rn (iI e)), (3, .rn (iI g))] [], .run 3] [4] (s' := fun j => ⟨[bK (zSt o p f g) 4 138, bK (zSt q x y z) 4 138, bK (zSt o p f g) 4 138], [.code .ret], mkT j [(4, .e (.one (.ptr 2 0)))] 25 0⟩) (aP h0 <| aP h1 <| aP h2 <| aP h3 <| aP h4 <| aZ)
  fun j => gZ [2] (ho j)
def p153c_end (_C : List DT) (_W : List DT) (_n _m _i _k _N : Nat) (o : ByteArray) (_q : ByteArray) (_r : ByteArray) (p f _s _x _y _z _c _d _t _e _g _h _u _v : Int) (_w : Bool) (_D _Y _X : List AC) (j : Nat → Value) : St := ⟨[bK (zSt o p f 0) 4 138], [.code .ret], mkT j [(4, .e (.one (.ptr 0 0)))] 25 0⟩
theorem p153c (hE : EnvOk E) (C : List DT) (W : List DT) (n m i k N : Nat) (o : ByteArray) (q : ByteArray) (r : ByteArray) (p f s x y z c d t e g h u v : Int) (w : Bool) (D Y X : List AC) (h0 : EqOk E 138 [.v (.string o), .v (.int .i64 p), .v (.int .i64 f), .v (.int .i64 s)] [.v (.string q), .v (.int .i64 x), .v (.int .i64 y), .v (.int .i64 z)] w) (h1 : (w : Bool) = false) (h2 : (decide (f > (0 : Int)) : Bool) = false) : Sg 0 0 (s153 C W n m i k N o q r p f s x y z c d t e g h u v w D Y X) (p153c_end C W n m i k N o q r p f s x y z c d t e g h u v w D Y X) := fun ho j =>
 oS hE [.run 5, .ops [(2, .eqs w)] [], .cond false, .run 2, .cond false, .run 4] [4] (s' := fun j => ⟨[bK (zSt o p f 0) 4 138, bK (zSt q x y z) 4 138, bK (zSt o p f 0) 4 138], [.code .ret], mkT j [(4, .e (.one (.ptr 2 0)))] 25 0⟩) (aP h0 <| aP h1 <| aP h2 <| aZ)
  fun j => gZ [2] (ho j)
def p149a_end (C : List DT) (_W : List DT) (n _m _i _k _N : Nat) (o : ByteArray) (_q : ByteArray) (_r : ByteArray) (p f s _x _y _z _c _d _t _e _g _h _u _v : Int) (_w : Bool) (_D _Y _X : List AC) (j : Nat → Value) : St := ⟨[bK (zSt ⟨#[]⟩ 0 0 0) 4 138, bK (zSt o p f s) 4 138], ztSc0, mkT j [(0, .e (.one (.dp (.s C n 4)))), (1, .e (.one (.v (.func (.func 150) #[] #[])))), (4, .e (.one (.ptr 0 0))), (5, .e (.one (.ptr 1 0))), (6, (iI 1))] 33 0⟩
theorem p149a (hE : EnvOk E) (C : List DT) (W : List DT) (n m i k N : Nat) (o : ByteArray) (q : ByteArray) (r : ByteArray) (p f s x y z c d t e g h u v : Int) (w : Bool) (D Y X : List AC) (h0 : (decide ((↑n : Int) < (1 : Int)) : Bool) = false) (h1 : (0 : Int) ≤ (0 : Int) ∧ (0 : Int) < (↑n : Int)) (h3 : (takeL (dropL C (0 : Nat)) (4 : Nat) : Option (List DT)) = (.some (zSd o p f s))) : Sg 0 0 (s149 C W n m i k N o q r p f s x y z c d t e g h u v w D Y X) (p149a_end C W n m i k N o q r p f s x y z c d t e g h u v w D Y X) := fun ho j =>
 oS hE [.run 4, .ops [(1, .d .len)] [], .cond false, .run 2, .ops [(2, .d (.ldn (zSd o p f s))), (1, .d (.ix 0))] [], .run 5] [0, 1, 4, 5, 6] (aP h0 <| aP h1 <| aP (rfl : ((0 : Nat) : Nat) = (0 : Nat)) <| aP h3 <| aZ)
  ho
def p107z_end (_C : List DT) (_W : List DT) (_n _m _i _k _N : Nat) (_o : ByteArray) (_q : ByteArray) (_r : ByteArray) (_p _f _s _x _y _z _c _d _t _e _g _h _u _v : Int) (_w : Bool) (_D _Y _X : List AC) (j : Nat → Value) : St := ⟨[], [.code .ret, .code (atC [1, 1] (bodyOf Tryz.f107))], mkT j [(2, (iI (-1)))] 10 0⟩
theorem p107z (hE : EnvOk E) (C : List DT) (W : List DT) (n m i k N : Nat) (o : ByteArray) (q : ByteArray) (r : ByteArray) (p f s x y z c d t e g h u v : Int) (w : Bool) (D Y X : List AC) (h0 : COut E 0 [] 146 [.e (.one (.dp (.s C n 4))), .e (.one (.v (.func (.func 147) #[] #[])))] (iB w) []) (h2 : (!w : Bool) = true) : Sg 0 0 (s107 C W n m i k N o q r p f s x y z c d t e g h u v w D Y X) (p107z_end C W n m i k N o q r p f s x y z c d t e g h u v w D Y X) := fun ho j =>
 oS hE [.run 4, .ops [(1, .c0 (iB w))] [], .cond true, .run 2] [2] (aP h0 <| aN <| aP h2 <| aZ)
  ho
def p107_end (_C : List DT) (_W : List DT) (_n _m _i _k _N : Nat) (_o : ByteArray) (_q : ByteArray) (_r : ByteArray) (_p _f _s _x _y z _c _d _t _e _g _h _u _v : Int) (_w : Bool) (_D _Y _X : List AC) (j : Nat → Value) : St := ⟨[], [.code .ret], mkT j [(2, (iI z))] 10 0⟩
theorem p107 (hE : EnvOk E) (C : List DT) (W : List DT) (n m i k N : Nat) (o : ByteArray) (q : ByteArray) (r : ByteArray) (p f s x y z c d t e g h u v : Int) (w : Bool) (D Y X : List AC) (h0 : COut E 0 [] 146 [.e (.one (.dp (.s C n 4))), .e (.one (.v (.func (.func 147) #[] #[])))] (iB w) []) (h2 : (!w : Bool) = false) (h3 : COut E 0 [] 149 [.e (.one (.dp (.s C n 4))), .e (.one (.v (.func (.func 150) #[] #[])))] (.e (.agg (zSt o p f s))) []) (h5 : COut E 0 [] 148 [.e (.one (.dp (.s C n 4))), .e (.agg (zSt o p f s))] (iI z) []) : Sg 0 0 (s107 C W n m i k N o q r p f s x y z c d t e g h u v w D Y X) (p107_end C W n m i k N o q r p f s x y z c d t e g h u v w D Y X) := fun ho j =>
 oS hE [.run 4, .ops [(1, .c0 (iB w))] [], .cond false, .run 2, .ops [(2, .c0 (.e (.agg (zSt o p f s)))), (3, .c0 (iI z))] []] [2] (aP h0 <| aN <| aP h2 <| aP h3 <| aN <| aP h5 <| aN <| aZ)
  ho
def p152_end (C : List DT) (_W : List DT) (n _m _i k N : Nat) (o : ByteArray) (_q : ByteArray) (r : ByteArray) (p f s _x _y _z c d t _e _g _h _u _v : Int) (_w : Bool) (D _Y _X : List AC) (j : Nat → Value) : St := ⟨[bK [.dp (.s C n 4)] 1 110, bK [.v (.int .i64 (Int.ofNat k))] 1 3, bK (D) N 138, bK (zSt o p f s) 4 138, bK (zSt r c d t) 4 138], [.code .ret], mkT j [(4, .e (.one (.ptr 4 0)))] 11 0⟩
theorem p152 (hE : EnvOk E) (C : List DT) (W : List DT) (n m i k N : Nat) (o : ByteArray) (q : ByteArray) (r : ByteArray) (p f s x y z c d t e g h u v : Int) (w : Bool) (D Y X : List AC) (h0 : (0 : Int) ≤ Int.ofNat k ∧ Int.ofNat k < (↑n : Int)) (h1 : ((Int.ofNat k).toNat * nat_lit 4 : Nat) = k * 4) (h2 : (takeL (dropL C (k * 4)) (4 : Nat) : Option (List DT)) = (.some (zSd q x y z))) (h4 : COut E 0 [] 153 [.e (.agg (zSt o p f s)), .e (.agg (zSt q x y z))] (.e (.agg (zSt r c d t))) []) (g0 : FlatC D) : Sg 2 4 (s152 C W n m i k N o q r p f s x y z c d t e g h u v w D Y X) (p152_end C W n m i k N o q r p f s x y z c d t e g h u v w D Y X) := fun ho j =>
 oS hE [.run 3, .ops [(3, .d (.ix (k * 4))), (4, .d (.ldn (zSd q x y z))), (5, .c0 (.e (.agg (zSt r c d t))))] []] [4] (s' := fun j => ⟨[bK [.dp (.s C n 4)] 1 110, bK [.v (.int .i64 (Int.ofNat k))] 1 3, bK (D) N 138, bK (zSt o p f s) 4 138, bK (zSt o p f s) 4 138, bK (zSt r c d t) 4 138], [.code .ret], mkT j [(4, .e (.one (.ptr 5 0)))] 11 0⟩) (aP h0 <| aP h1 <| aP h2 <| aP (rfl : (true : Bool) = true) <| aP h4 <| aN <| aZ)
  fun j => outK_gcF [0, 1, 2, 3, 5] [false, false, true, false, false] (h' := [bK [.dp (.s C n 4)] 1 110, bK [.v (.int .i64 (Int.ofNat k))] 1 3, bK (D) N 138, bK (zSt o p f s) 4 138, bK (zSt r c d t) 4 138]) (by decide) (by kernel_rfl) (by kernel_rfl) ⟨g0, trivial⟩ (by kernel_rfl) (ho j)
def p151a_end (C : List DT) (_W : List DT) (n _m _i k N : Nat) (_o : ByteArray) (_q : ByteArray) (_r : ByteArray) (_p _f _s _x _y _z _c _d _t _e _g _h _u _v : Int) (_w : Bool) (D _Y _X : List AC) (j : Nat → Value) : St := ⟨[bK [.dp (.s C n 4)] 1 110, bK [.v (.int .i64 (Int.ofNat k))] 1 3, bK (D) N 138], ztSc1, mkT j [(1, .e (.one (.clo 152 [] [.one (.ptr 0 0), .one (.ptr 1 0)]))), (5, .e (.one (.slc 2 0 n 4 n true))), (11, .e (.one (.dp (.s C n 4)))), (12, (iI (Int.ofNat n))), (13, (iI 0))] 26 0⟩
theorem p151a (hE : EnvOk E) (C : List DT) (W : List DT) (n m i k N : Nat) (o : ByteArray) (q : ByteArray) (r : ByteArray) (p f s x y z c d t e g h u v : Int) (w : Bool) (D Y X : List AC) (h0 : (0 : Int) ≤ (↑n : Int) ∧ (↑n : Int) ≤ (↑n : Int)) (h1 : (small (↑n : Int).toNat (4 : Nat) (40 : Nat) : Bool) = true) (h2 : ((↑n : Int).toNat : Nat) = n) (h3 : ((↑n : Int).toNat : Nat) = n) (h4 : (n * 4 : Nat) = N) (h5 : (repeatC ((fun z => List.map AC.v z.cells.toList) (Value.agg #[Value.string { data := #[] : ByteArray }, Value.int IntKind.i64 (0 : Int), Value.int IntKind.i64 (0 : Int), Value.int IntKind.i64 (0 : Int)])) n : List AC) = D) : Sg 2 2 (s151 C W n m i k N o q r p f s x y z c d t e g h u v w D Y X) (p151a_end C W n m i k N o q r p f s x y z c d t e g h u v w D Y X) := fun ho j =>
 oS hE [.run 3, .ops [(2, .mk n n N D), (1, .d .len)] [], .run 2, .ops [(1, .d .len)] [], .run 2] [1, 5, 11, 12, 13] (aP h0 <| aP h1 <| aP h2 <| aP h3 <| aP h4 <| aP h5 <| aZ)
  ho
def p110z_end (C : List DT) (_W : List DT) (n _m _i _k _N : Nat) (_o : ByteArray) (_q : ByteArray) (_r : ByteArray) (_p _f _s _x _y _z _c _d _t _e _g _h _u _v : Int) (_w : Bool) (_D _Y _X : List AC) (j : Nat → Value) : St := ⟨[], [.code .ret, .code (atC [1, 1, 1] (bodyOf Tryz.f110))], mkT j [(2, (iI (-1))), (3, .e (.one (.dp (.s C n 4))))] 14 0⟩
theorem p110z (hE : EnvOk E) (C : List DT) (W : List DT) (n m i k N : Nat) (o : ByteArray) (q : ByteArray) (r : ByteArray) (p f s x y z c d t e g h u v : Int) (w : Bool) (D Y X : List AC) (h0 : COut E 0 [] 107 [.e (.one (.dp (.s C n 4)))] (iI (-1)) []) : Sg 0 0 (s110 C W n m i k N o q r p f s x y z c d t e g h u v w D Y X) (p110z_end C W n m i k N o q r p f s x y z c d t e g h u v w D Y X) := fun ho j =>
 oS hE [.run 3, .ops [(1, .c0 (iI (-1)))] [], .run 6] [2, 3] (s' := fun j => ⟨[bK [.dp (.s C n 4)] 1 110, bK [.v (.int .i64 (-1))] 1 3], [.code .ret, .code (atC [1, 1, 1] (bodyOf Tryz.f110))], mkT j [(2, (iI (-1))), (3, .e (.one (.dp (.s C n 4))))] 14 0⟩) (aP h0 <| aN <| aZ)
  fun j => gZ [] (ho j)
def p110_end (_C : List DT) (W : List DT) (_n m _i k _N : Nat) (_o : ByteArray) (_q : ByteArray) (_r : ByteArray) (_p _f _s _x _y _z _c _d _t _e _g _h _u _v : Int) (_w : Bool) (_D _Y _X : List AC) (j : Nat → Value) : St := ⟨[], [.code .ret], mkT j [(2, (iI (Int.ofNat k))), (3, .e (.one (.dp (.s (W) (m) 4))))] 14 0⟩
theorem p110 (hE : EnvOk E) (C : List DT) (W : List DT) (n m i k N : Nat) (o : ByteArray) (q : ByteArray) (r : ByteArray) (p f s x y z c d t e g h u v : Int) (w : Bool) (D Y X : List AC) (h0 : COut E 0 [] 107 [.e (.one (.dp (.s C n 4)))] (iI (Int.ofNat k)) []) (h2 : COut E 2 [bK [.dp (.s C n 4)] 1 110, bK [.v (.int .i64 (Int.ofNat k))] 1 3] 151 [.e (.one (.dp (.s C n 4))), .e (.one (.clo 152 [] [.one (.ptr 0 0), .one (.ptr 1 0)]))] (.e (.one (.dp (.s W m 4)))) [bK [.dp (.s C n 4)] 1 110, bK [.v (.int .i64 (Int.ofNat k))] 1 3]) : Sg 0 0 (s110 C W n m i k N o q r p f s x y z c d t e g h u v w D Y X) (p110_end C W n m i k N o q r p f s x y z c d t e g h u v w D Y X) := fun ho j =>
 oS hE [.run 3, .ops [(1, .c0 (iI (Int.ofNat k)))] [], .run 6, .ops [(3, .cw (.e (.one (.dp (.s W m 4)))) [bK [.dp (.s C n 4)] 1 110, bK [.v (.int .i64 (Int.ofNat k))] 1 3])] []] [2, 3] (s' := fun j => ⟨[bK [.dp (.s C n 4)] 1 110, bK [.v (.int .i64 (Int.ofNat k))] 1 3], [.code .ret], mkT j [(2, (iI (Int.ofNat k))), (3, .e (.one (.dp (.s (W) (m) 4))))] 14 0⟩) (aP h0 <| aN <| aP h2 <| aP (rfl : (true : Bool) = true) <| aZ)
  fun j => gZ [] (ho j)
def p109_end (_C : List DT) (_W : List DT) (n _m _i _k N : Nat) (_o : ByteArray) (_q : ByteArray) (_r : ByteArray) (_p _f _s _x _y _z _c _d _t _e _g _h _u _v : Int) (_w : Bool) (D _Y _X : List AC) (j : Nat → Value) : St := ⟨[.some ⟨(D), N, 138, false, .cells⟩], [.code .ret], mkT j [(2, .e (.one (.slc 0 0 n 4 n false)))] 8 0⟩
theorem p109 (hE : EnvOk E) (C : List DT) (W : List DT) (n m i k N : Nat) (o : ByteArray) (q : ByteArray) (r : ByteArray) (p f s x y z c d t e g h u v : Int) (w : Bool) (D Y X : List AC) (h0 : (0 : Nat) < n) (h1 : CopyOk [bK [] 0 138] 4 40 (.e (.one (.dp (.s C n 4)))) n D false) (h2 : (n * 4 : Nat) = N) (g0 : FlatC D) : Sg 0 0 (s109 C W n m i k N o q r p f s x y z c d t e g h u v w D Y X) (p109_end C W n m i k N o q r p f s x y z c d t e g h u v w D Y X) := fun ho j =>
 oS hE [.run 4, .ops [(1, .d .nc)] [], .run 3, .ops [(2, .cpu n N D false)] []] [2] (s' := fun j => ⟨[none, .some ⟨(D), N, 138, false, .cells⟩], [.code .ret], mkT j [(2, .e (.one (.slc 1 0 n 4 n false)))] 8 0⟩) (aP h0 <| aP h1 <| aP h2 <| aZ)
  fun j => outK_gcF [1] [true] (h' := [.some ⟨(D), N, 138, false, .cells⟩]) (by decide) (by kernel_rfl) (by kernel_rfl) ⟨g0, trivial⟩ (by kernel_rfl) (ho j)
def p109v_end (_C : List DT) (_W : List DT) (_n _m _i _k _N : Nat) (_o : ByteArray) (_q : ByteArray) (_r : ByteArray) (_p _f _s _x _y _z _c _d _t _e _g _h _u _v : Int) (_w : Bool) (_D _Y _X : List AC) (_cp : Nat) (j : Nat → Value) : St := ⟨[], [.code .ret, .code (atC [1, 1] (bodyOf Tryz.f109))], mkT j [(2, .e (.one (.v (.slice none 0 0))))] 8 0⟩
theorem p109v (hE : EnvOk E) (C : List DT) (W : List DT) (n m i k N : Nat) (o : ByteArray) (q : ByteArray) (r : ByteArray) (p f s x y z c d t e g h u v : Int) (w : Bool) (D Y X : List AC) (cp : Nat) : Sg 0 0 (s109v C W n m i k N o q r p f s x y z c d t e g h u v w D Y X cp) (p109v_end C W n m i k N o q r p f s x y z c d t e g h u v w D Y X cp) := fun ho j =>
 oS hE [.run 8] [2] (ps := []) trivial
  ho
def p109w_end (_C : List DT) (_W : List DT) (_n _m _i _k _N : Nat) (_o : ByteArray) (_q : ByteArray) (_r : ByteArray) (_p _f _s _x _y _z _c _d _t _e _g _h _u _v : Int) (_w : Bool) (_D _Y _X : List AC) (_cp : Nat) (_ad : Addr) (j : Nat → Value) : St := ⟨[bK [] 0 138], [.code .ret], mkT j [(2, .e (.one (.slc 0 0 0 4 0 true)))] 8 0⟩
theorem p109w (hE : EnvOk E) (C : List DT) (W : List DT) (n m i k N : Nat) (o : ByteArray) (q : ByteArray) (r : ByteArray) (p f s x y z c d t e g h u v : Int) (w : Bool) (D Y X : List AC) (cp : Nat) (ad : Addr) (h0 : CopyOk [bK [] 0 138] 4 40 (.e (.one (.v (.slice (.some ad) 0 cp)))) 0 [] true) : Sg 0 0 (s109w C W n m i k N o q r p f s x y z c d t e g h u v w D Y X cp ad) (p109w_end C W n m i k N o q r p f s x y z c d t e g h u v w D Y X cp ad) := fun ho j =>
 oS hE [.run 8, .ops [(2, .cpu 0 0 [] true)] []] [2] (s' := fun j => ⟨[none, bK [] 0 138], [.code .ret], mkT j [(2, .e (.one (.slc 1 0 0 4 0 true)))] 8 0⟩) (aP h0 <| aP (rfl : ((0 : Nat) : Nat) = (0 : Nat)) <| aZ)
  fun j => gZ [1] (ho j)
def p63a_end (C : List DT) (_W : List DT) (n _m _i _k _N : Nat) (_o : ByteArray) (_q : ByteArray) (_r : ByteArray) (_p _f _s _x _y _z _c _d _t _e _g _h _u _v : Int) (_w : Bool) (_D _Y _X : List AC) (j : Nat → Value) : St := ⟨[], ztSc2, mkT j [(0, .e (.one (.dp (.s C n 4)))), (3, (iI (-1))), (4, (iI 0))] 50 0⟩
theorem p63a (hE : EnvOk E) (C : List DT) (W : List DT) (n m i k N : Nat) (o : ByteArray) (q : ByteArray) (r : ByteArray) (p f s x y z c d t e g h u v : Int) (w : Bool) (D Y X : List AC) : Sg 0 0 (s63 C W n m i k N o q r p f s x y z c d t e g h u v w D Y X) (p63a_end C W n m i k N o q r p f s x y z c d t e g h u v w D Y X) := fun ho j =>
 oS hE [.run 9] [0, 3, 4] (ps := []) trivial
  ho
def p71a_end (_C : List DT) (_W : List DT) (n _m _i k N : Nat) (_o : ByteArray) (_q : ByteArray) (_r : ByteArray) (_p _f _s _x _y _z _c _d _t _e _g _h _u _v : Int) (_w : Bool) (D _Y _X : List AC) (j : Nat → Value) : St := ⟨[.some ⟨(D), N, 136, false, .cells⟩], ztSc3, mkT j [(1, (iI (Int.ofNat k))), (5, .e (.one (.slc 0 0 (n) 4 (n) false))), (6, (iI 0))] 53 0⟩
theorem p71a (hE : EnvOk E) (C : List DT) (W : List DT) (n m i k N : Nat) (o : ByteArray) (q : ByteArray) (r : ByteArray) (p f s x y z c d t e g h u v : Int) (w : Bool) (D Y X : List AC) (h0 : CopyOk [bK [] 0 136] 4 40 (.e (.one (.dp (.s C n 4)))) n D false) (h1 : (n * 4 : Nat) = N) (g0 : FlatC D) : Sg 0 0 (s71 C W n m i k N o q r p f s x y z c d t e g h u v w D Y X) (p71a_end C W n m i k N o q r p f s x y z c d t e g h u v w D Y X) := fun ho j =>
 oS hE [.run 3, .ops [(2, .cpu n N D false)] [], .run 5] [1, 5, 6] (s' := fun j => ⟨[none, .some ⟨(D), N, 136, false, .cells⟩], ztSc3, mkT j [(1, (iI (Int.ofNat k))), (5, .e (.one (.slc 1 0 (n) 4 (n) false))), (6, (iI 0))] 53 0⟩) (aP h0 <| aP h1 <| aZ)
  fun j => outK_gcF [1] [true] (h' := [.some ⟨(D), N, 136, false, .cells⟩]) (by decide) (by kernel_rfl) (by kernel_rfl) ⟨g0, trivial⟩ (by kernel_rfl) (ho j)
def p71z_end (_C : List DT) (_W : List DT) (_n _m _i _k _N : Nat) (_o : ByteArray) (_q : ByteArray) (_r : ByteArray) (_p _f _s _x _y _z _c _d _t _e _g _h _u _v : Int) (_w : Bool) (_D _Y _X : List AC) (j : Nat → Value) : St := ⟨[bK [] 0 136], [.code .ret], mkT j [(4, .e (.one (.slc 0 0 0 4 0 true)))] 53 0⟩
theorem p71z (hE : EnvOk E) (C : List DT) (W : List DT) (n m i k N : Nat) (o : ByteArray) (q : ByteArray) (r : ByteArray) (p f s x y z c d t e g h u v : Int) (w : Bool) (D Y X : List AC) (h0 : CopyOk [bK [] 0 136] 4 40 (.e (.one (.dp (.s C n 4)))) 0 [] true) : Sg 0 0 (s71 C W n m i k N o q r p f s x y z c d t e g h u v w D Y X) (p71z_end C W n m i k N o q r p f s x y z c d t e g h u v w D Y X) := fun ho j =>
 oS hE [.run 3, .ops [(2, .cpu 0 0 [] true)] [], .run 12] [4] (s' := fun j => ⟨[none, bK [] 0 136], [.code .ret], mkT j [(4, .e (.one (.slc 1 0 0 4 0 true)))] 53 0⟩) (aP h0 <| aP (rfl : ((0 : Nat) : Nat) = (0 : Nat)) <| aZ)
  fun j => gZ [1] (ho j)
def p149s_end (C : List DT) (_W : List DT) (n _m i _k _N : Nat) (o : ByteArray) (_q : ByteArray) (_r : ByteArray) (p f s _x _y _z _c _d _t _e _g _h _u _v : Int) (_w : Bool) (_D _Y _X : List AC) (j : Nat → Value) : St := ⟨[bK (zSt ⟨#[]⟩ 0 0 0) 4 138, bK (zSt o p f s) 4 138], ztSc0, mkT j [(0, .e (.one (.dp (.s C n 4)))), (1, .e (.one (.v (.func (.func 150) #[] #[])))), (4, .e (.one (.ptr 0 0))), (5, .e (.one (.ptr 1 0))), (6, (iI (Int.ofNat (i + 1))))] 33 0⟩
theorem p149s (hE : EnvOk E) (C : List DT) (W : List DT) (n m i k N : Nat) (o : ByteArray) (q : ByteArray) (r : ByteArray) (p f s x y z c d t e g h u v : Int) (w : Bool) (D Y X : List AC) (h0 : (decide (Int.ofNat i < (↑n : Int)) : Bool) = true) (h1 : (0 : Int) ≤ Int.ofNat i ∧ Int.ofNat i < (↑n : Int)) (h2 : ((Int.ofNat i).toNat * nat_lit 4 : Nat) = i.mul (nat_lit 4)) (h3 : (takeL (dropL C (i.mul (nat_lit 4))) (4 : Nat) : Option (List DT)) = (.some (zSd o p f s))) (h5 : COut E 0 [] 150 [.e (.agg (zSt o p f s)), .e (.agg (zSt q x y z))] (iI e) []) (h7 : (decide (e > (0 : Int)) : Bool) = true) (h8 : (0 : Int) ≤ Int.ofNat i ∧ Int.ofNat i < (↑n : Int)) (h9 : ((Int.ofNat i).toNat * nat_lit 4 : Nat) = i.mul (nat_lit 4)) (h10 : (takeL (dropL C (i.mul (nat_lit 4))) (4 : Nat) : Option (List DT)) = (.some (zSd o p f s))) (h11 : ((iI (wrapF IntKind.i64 (Int.ofNat i + (1 : Int)))) : AV) = (iI (Int.ofNat (i + 1)))) : Sg 0 0 (q149 C W n m i k N o q r p f s x y z c d t e g h u v w D Y X) (p149s_end C W n m i k N o q r p f s x y z c d t e g h u v w D Y X) := fun ho j =>
 oS hE [.run 2, .ops [(2, .d .len)] [], .cond true, .run 4, .ops [(4, .d (.ldn (zSd o p f s))), (6, .c0 (iI e)), (3, .d (.ix (i.mul (nat_lit 4))))] [], .cond true, .ops [(3, .d (.ldn (zSd o p f s))), (2, .d (.ix (i.mul (nat_lit 4))))] [], .run 1, .ops [(1, .rn (iI (Int.ofNat (i + 1))))] [], .run 1] [0, 1, 4, 5, 6] (aP h0 <| aP h1 <| aP h2 <| aP h3 <| aP (rfl : (true : Bool) = true) <| aP h5 <| aN <| aP h7 <| aP h8 <| aP h9 <| aP h10 <| aP h11 <| aZ)
  ho
def p149k_end (C : List DT) (_W : List DT) (n _m i _k _N : Nat) (_o : ByteArray) (q : ByteArray) (_r : ByteArray) (_p _f _s x y z _c _d _t _e _g _h _u _v : Int) (_w : Bool) (_D _Y _X : List AC) (j : Nat → Value) : St := ⟨[bK (zSt ⟨#[]⟩ 0 0 0) 4 138, bK (zSt q x y z) 4 138], ztSc0, mkT j [(0, .e (.one (.dp (.s C n 4)))), (1, .e (.one (.v (.func (.func 150) #[] #[])))), (4, .e (.one (.ptr 0 0))), (5, .e (.one (.ptr 1 0))), (6, (iI (Int.ofNat (i + 1))))] 33 0⟩
theorem p149k (hE : EnvOk E) (C : List DT) (W : List DT) (n m i k N : Nat) (o : ByteArray) (q : ByteArray) (r : ByteArray) (p f s x y z c d t e g h u v : Int) (w : Bool) (D Y X : List AC) (h0 : (decide (Int.ofNat i < (↑n : Int)) : Bool) = true) (h1 : (0 : Int) ≤ Int.ofNat i ∧ Int.ofNat i < (↑n : Int)) (h2 : ((Int.ofNat i).toNat * nat_lit 4 : Nat) = i.mul (nat_lit 4)) (h3 : (takeL (dropL C (i.mul (nat_lit 4))) (4 : Nat) : Option (List DT)) = (.some (zSd o p f s))) (h5 : COut E 0 [] 150 [.e (.agg (zSt o p f s)), .e (.agg (zSt q x y z))] (iI e) []) (h7 : (decide (e > (0 : Int)) : Bool) = false) (h8 : ((iI (wrapF IntKind.i64 (Int.ofNat i + (1 : Int)))) : AV) = (iI (Int.ofNat (i + 1)))) : Sg 0 0 (q149 C W n m i k N o q r p f s x y z c d t e g h u v w D Y X) (p149k_end C W n m i k N o q r p f s x y z c d t e g h u v w D Y X) := fun ho j =>
 oS hE [.run 2, .ops [(2, .d .len)] [], .cond true, .run 4, .ops [(4, .d (.ldn (zSd o p f s))), (6, .c0 (iI e)), (3, .d (.ix (i.mul (nat_lit 4))))] [], .cond false, .run 2, .ops [(1, .rn (iI (Int.ofNat (i + 1))))] [], .run 1] [0, 1, 4, 5, 6] (aP h0 <| aP h1 <| aP h2 <| aP h3 <| aP (rfl : (true : Bool) = true) <| aP h5 <| aN <| aP h7 <| aP h8 <| aZ)
  ho
def p149x_end (_C : List DT) (_W : List DT) (_n _m _i _k _N : Nat) (_o : ByteArray) (q : ByteArray) (_r : ByteArray) (_p _f _s x y z _c _d _t _e _g _h _u _v : Int) (_w : Bool) (_D _Y _X : List AC) (j : Nat → Value) : St := ⟨[bK (zSt q x y z) 4 138], [.code .ret], mkT j [(4, .e (.one (.ptr 0 0)))] 33 0⟩
theorem p149x (hE : EnvOk E) (C : List DT) (W : List DT) (n m i k N : Nat) (o : ByteArray) (q : ByteArray) (r : ByteArray) (p f s x y z c d t e g h u v : Int) (w : Bool) (D Y X : List AC) (h0 : (decide (Int.ofNat i < (↑n : Int)) : Bool) = false) : Sg 0 0 (q149 C W n m i k N o q r p f s x y z c d t e g h u v w D Y X) (p149x_end C W n m i k N o q r p f s x y z c d t e g h u v w D Y X) := fun ho j =>
 oS hE [.run 2, .ops [(2, .d .len)] [], .cond false, .run 3] [4] (s' := fun j => ⟨[bK (zSt q x y z) 4 138, bK (zSt q x y z) 4 138], [.code .ret], mkT j [(4, .e (.one (.ptr 0 0)))] 33 0⟩) (aP h0 <| aZ)
  fun j => gZ [0] (ho j)
def p151s_end (C : List DT) (_W : List DT) (n _m i k N : Nat) (_o : ByteArray) (_q : ByteArray) (_r : ByteArray) (_p _f _s _x _y _z _c _d _t _e _g _h _u _v : Int) (_w : Bool) (_D _Y X : List AC) (j : Nat → Value) : St := ⟨[bK [.dp (.s C n 4)] 1 110, bK [.v (.int .i64 (Int.ofNat k))] 1 3, bK (X) N 138], ztSc1, mkT j [(1, .e (.one (.clo 152 [] [.one (.ptr 0 0), .one (.ptr 1 0)]))), (5, .e (.one (.slc 2 0 n 4 n true))), (11, .e (.one (.dp (.s C n 4)))), (12, (iI (Int.ofNat n))), (13, (iI (Int.ofNat (i + 1))))] 26 0⟩
theorem p151s (hE : EnvOk E) (C : List DT) (W : List DT) (n m i k N : Nat) (o : ByteArray) (q : ByteArray) (r : ByteArray) (p f s x y z c d t e g h u v : Int) (w : Bool) (D Y X : List AC) (h0 : (decide (Int.ofNat i < Int.ofNat n) : Bool) = true) (h1 : (0 : Int) ≤ Int.ofNat i ∧ Int.ofNat i < (↑n : Int)) (h2 : ((Int.ofNat i).toNat * nat_lit 4 : Nat) = i.mul (nat_lit 4)) (h3 : (takeL (dropL C (i.mul (nat_lit 4))) (4 : Nat) : Option (List DT)) = (.some (zSd o p f s))) (h4 : COut E 2 [bK [.dp (.s C n 4)] 1 110, bK [.v (.int .i64 (Int.ofNat k))] 1 3, bK (D) N 138, bK (zSt o p f s) 4 138] 152 [.e (.agg (zSt o p f s)), .e (.one (.ptr 0 0)), .e (.one (.ptr 1 0))] (.e (.agg (zSt r c d t))) [bK [.dp (.s C n 4)] 1 110, bK [.v (.int .i64 (Int.ofNat k))] 1 3, bK (D) N 138, bK (zSt o p f s) 4 138]) (h5 : (0 : Int) ≤ Int.ofNat i ∧ Int.ofNat i < (↑n : Int)) (h6 : (nat_lit 0 + (Int.ofNat i).toNat * nat_lit 4 : Nat) = i * 4) (h7 : i * 4 + 4 ≤ N) (h8 : (overL [AC.v (Value.string r), AC.v (Value.int IntKind.i64 c), AC.v (Value.int IntKind.i64 d), AC.v (Value.int IntKind.i64 t)] D (i * 4) : List AC) = X) (h9 : ((iI (wrapF IntKind.i64 (Int.ofNat i + (1 : Int)))) : AV) = (iI (Int.ofNat (i + 1)))) (g0 : FlatC X) : Sg 2 2 (q151 C W n m i k N o q r p f s x y z c d t e g h u v w D Y X) (p151s_end C W n m i k N o q r p f s x y z c d t e g h u v w D Y X) := fun ho j =>
 oS hE [.run 3, .cond true, .run 4, .ops [(2, .d (.ldn (zSd o p f s))), (1, .d (.ix (i.mul (nat_lit 4))))] [], .ops [(4, .cw (.e (.agg (zSt r c d t))) [bK [.dp (.s C n 4)] 1 110, bK [.v (.int .i64 (Int.ofNat k))] 1 3, bK (D) N 138, bK (zSt o p f s) 4 138]), (5, .ix (i * 4)), (6, .st X)] [], .run 1, .ops [(0, .rn (iI (Int.ofNat (i + 1))))] [], .run 1] [1, 5, 11, 12, 13] (s' := fun j => ⟨[bK [.dp (.s C n 4)] 1 110, bK [.v (.int .i64 (Int.ofNat k))] 1 3, bK (X) N 138, bK (zSt o p f s) 4 138], ztSc1, mkT j [(1, .e (.one (.clo 152 [] [.one (.ptr 0 0), .one (.ptr 1 0)]))), (5, .e (.one (.slc 2 0 n 4 n true))), (11, .e (.one (.dp (.s C n 4)))), (12, (iI (Int.ofNat n))), (13, (iI (Int.ofNat (i + 1))))] 26 0⟩) (aP h0 <| aP h1 <| aP h2 <| aP h3 <| aP h4 <| aP h5 <| aP h6 <| aP h7 <| aP h8 <| aP h9 <| aZ)
  fun j => outK_gcF [0, 1, 2] [false, false, true] (h' := [bK [.dp (.s C n 4)] 1 110, bK [.v (.int .i64 (Int.ofNat k))] 1 3, bK (X) N 138]) (by decide) (by kernel_rfl) (by kernel_rfl) ⟨g0, trivial⟩ (by kernel_rfl) (ho j)
def p151x_end (C : List DT) (_W : List DT) (n _m _i k N : Nat) (_o : ByteArray) (_q : ByteArray) (_r : ByteArray) (_p _f _s _x _y _z _c _d _t _e _g _h _u _v : Int) (_w : Bool) (D _Y _X : List AC) (j : Nat → Value) : St := ⟨[bK [.dp (.s C n 4)] 1 110, bK [.v (.int .i64 (Int.ofNat k))] 1 3, bK (D) N 138], [.code .ret], mkT j [(4, .e (.one (.slc 2 0 n 4 n true)))] 26 0⟩
theorem p151x (hE : EnvOk E) (C : List DT) (W : List DT) (n m i k N : Nat) (o : ByteArray) (q : ByteArray) (r : ByteArray) (p f s x y z c d t e g h u v : Int) (w : Bool) (D Y X : List AC) (h0 : (decide (Int.ofNat i < Int.ofNat n) : Bool) = false) : Sg 2 2 (q151 C W n m i k N o q r p f s x y z c d t e g h u v w D Y X) (p151x_end C W n m i k N o q r p f s x y z c d t e g h u v w D Y X) := fun ho j =>
 oS hE [.run 3, .cond false, .run 3] [4] (aP h0 <| aZ)
  ho
def p63k_end (C : List DT) (_W : List DT) (n _m i _k _N : Nat) (_o : ByteArray) (_q : ByteArray) (_r : ByteArray) (_p _f _s _x _y z _c _d _t _e _g _h _u _v : Int) (_w : Bool) (_D _Y _X : List AC) (j : Nat → Value) : St := ⟨[], ztSc2, mkT j [(0, .e (.one (.dp (.s C n 4)))), (3, (iI z)), (4, (iI (Int.ofNat (i + 1))))] 50 0⟩
theorem p63k (hE : EnvOk E) (C : List DT) (W : List DT) (n m i k N : Nat) (o : ByteArray) (q : ByteArray) (r : ByteArray) (p f s x y z c d t e g h u v : Int) (w : Bool) (D Y X : List AC) (h0 : (decide (Int.ofNat i < (↑n : Int)) : Bool) = true) (h1 : (0 : Int) ≤ Int.ofNat i ∧ Int.ofNat i < (↑n : Int)) (h2 : ((Int.ofNat i).toNat * nat_lit 4 : Nat) = i.mul (nat_lit 4)) (h3 : (getL C (i.mul (nat_lit 4) + 2) : Option DT) = (.some (.v (.int .i64 f)))) (h4 : ((iB (decide (f > (0 : Int)))) : AV) = (iB false)) (h6 : ((iI (wrapF IntKind.i64 (Int.ofNat i + (1 : Int)))) : AV) = (iI (Int.ofNat (i + 1)))) : Sg 0 0 (q63 C W n m i k N o q r p f s x y z c d t e g h u v w D Y X) (p63k_end C W n m i k N o q r p f s x y z c d t e g h u v w D Y X) := fun ho j =>
 oS hE [.run 2, .ops [(2, .d .len)] [], .cond true, .run 4, .ops [(4, .d (.ld (.v (.int .i64 f)))), (5, .rn (iB false)), (2, .d (.ix (i.mul (nat_lit 4)))), (3, .d .fa)] [], .run 3, .ops [(1, .rn (iI (Int.ofNat (i + 1))))] [], .run 1] [0, 3, 4] (aP h0 <| aP h1 <| aP h2 <| aP h3 <| aP h4 <| aP (rfl : (true : Bool) = true) <| aP h6 <| aZ)
  ho
def p63n_end (C : List DT) (_W : List DT) (n _m i _k _N : Nat) (_o : ByteArray) (_q : ByteArray) (_r : ByteArray) (_p _f _s _x _y _z _c _d _t _e _g _h _u _v : Int) (_w : Bool) (_D _Y _X : List AC) (j : Nat → Value) : St := ⟨[], ztSc2, mkT j [(0, .e (.one (.dp (.s C n 4)))), (3, (iI (Int.ofNat i))), (4, (iI (Int.ofNat (i + 1))))] 50 0⟩
theorem p63n (hE : EnvOk E) (C : List DT) (W : List DT) (n m i k N : Nat) (o : ByteArray) (q : ByteArray) (r : ByteArray) (p f s x y z c d t e g h u v : Int) (w : Bool) (D Y X : List AC) (h0 : (decide (Int.ofNat i < (↑n : Int)) : Bool) = true) (h1 : (0 : Int) ≤ Int.ofNat i ∧ Int.ofNat i < (↑n : Int)) (h2 : ((Int.ofNat i).toNat * nat_lit 4 : Nat) = i.mul (nat_lit 4)) (h3 : (getL C (i.mul (nat_lit 4) + 2) : Option DT) = (.some (.v (.int .i64 f)))) (h4 : ((iB (decide (f > (0 : Int)))) : AV) = (iB true)) (h5 : ((iB (decide (z < (0 : Int)))) : AV) = (iB true)) (h7 : ((iI (wrapF IntKind.i64 (Int.ofNat i + (1 : Int)))) : AV) = (iI (Int.ofNat (i + 1)))) : Sg 0 0 (q63 C W n m i k N o q r p f s x y z c d t e g h u v w D Y X) (p63n_end C W n m i k N o q r p f s x y z c d t e g h u v w D Y X) := fun ho j =>
 oS hE [.run 2, .ops [(2, .d .len)] [], .cond true, .run 4, .ops [(4, .d (.ld (.v (.int .i64 f)))), (5, .rn (iB true)), (8, .rn (iB true)), (2, .d (.ix (i.mul (nat_lit 4)))), (3, .d .fa)] [], .run 3, .ops [(1, .rn (iI (Int.ofNat (i + 1))))] [], .run 1] [0, 3, 4] (aP h0 <| aP h1 <| aP h2 <| aP h3 <| aP h4 <| aP h5 <| aP (rfl : (true : Bool) = true) <| aP h7 <| aZ)
  ho
def p63s_end (C : List DT) (_W : List DT) (n _m i _k _N : Nat) (_o : ByteArray) (_q : ByteArray) (_r : ByteArray) (_p _f _s _x _y _z _c _d _t _e _g _h _u _v : Int) (_w : Bool) (_D _Y _X : List AC) (j : Nat → Value) : St := ⟨[], ztSc2, mkT j [(0, .e (.one (.dp (.s C n 4)))), (3, (iI (Int.ofNat i))), (4, (iI (Int.ofNat (i + 1))))] 50 0⟩
theorem p63s (hE : EnvOk E) (C : List DT) (W : List DT) (n m i k N : Nat) (o : ByteArray) (q : ByteArray) (r : ByteArray) (p f s x y z c d t e g h u v : Int) (w : Bool) (D Y X : List AC) (h0 : (decide (Int.ofNat i < (↑n : Int)) : Bool) = true) (h1 : (0 : Int) ≤ Int.ofNat i ∧ Int.ofNat i < (↑n : Int)) (h2 : ((Int.ofNat i).toNat * nat_lit 4 : Nat) = i.mul (nat_lit 4)) (h3 : (getL C (i.mul (nat_lit 4) + 2) : Option DT) = (.some (.v (.int .i64 f)))) (h4 : ((iB (decide (f > (0 : Int)))) : AV) = (iB true)) (h5 : ((iB (decide (z < (0 : Int)))) : AV) = (iB false)) (h6 : (0 : Int) ≤ Int.ofNat i ∧ Int.ofNat i < (↑n : Int)) (h7 : ((Int.ofNat i).toNat * nat_lit 4 : Nat) = i.mul (nat_lit 4)) (h8 : (getL C (i.mul (nat_lit 4) + 1) : Option DT) = (.some (.v (.int .i64 p)))) (h9 : (0 : Int) ≤ Int.ofNat i ∧ Int.ofNat i < (↑n : Int)) (h10 : ((Int.ofNat i).toNat * nat_lit 4 : Nat) = i.mul (nat_lit 4)) (h11 : (getL C (i.mul (nat_lit 4) + 3) : Option DT) = (.some (.v (.int .i64 s)))) (h12 : ((iI (wrapF IntKind.i64 (p + s))) : AV) = (iI e)) (h13 : ((iI (if z > (0 : Int) then z else (0 : Int))) : AV) = (iI (Int.ofNat k))) (h14 : (0 : Int) ≤ Int.ofNat k ∧ Int.ofNat k < (↑n : Int)) (h15 : ((Int.ofNat k).toNat * nat_lit 4 : Nat) = k.mul (nat_lit 4)) (h16 : (getL C (k.mul (nat_lit 4) + 1) : Option DT) = (.some (.v (.int .i64 x)))) (h17 : ((iI (if z > (0 : Int) then z else (0 : Int))) : AV) = (iI (Int.ofNat k))) (h18 : (0 : Int) ≤ Int.ofNat k ∧ Int.ofNat k < (↑n : Int)) (h19 : ((Int.ofNat k).toNat * nat_lit 4 : Nat) = k.mul (nat_lit 4)) (h20 : (getL C (k.mul (nat_lit 4) + 3) : Option DT) = (.some (.v (.int .i64 y)))) (h21 : ((iI (wrapF IntKind.i64 (x + y))) : AV) = (iI g)) (h23 : ((iB (decide (e > g))) : AV) = (iB true)) (h24 : ((iI (wrapF IntKind.i64 (Int.ofNat i + (1 : Int)))) : AV) = (iI (Int.ofNat (i + 1)))) : Sg 0 0 (q63 C W n m i k N o q r p f s x y z c d t e g h u v w D Y X) (p63s_end C W n m i k N o q r p f s x y z c d t e g h u v w D Y X) := fun ho j =>
 oS hE [.run 2, .ops [(2, .d .len)] [], .cond true, .run 4, .ops [(4, .d (.ld (.v (.int .i64 f)))), (5, .rn (iB true)), (8, .rn (iB false)), (14, .d (.ld (.v (.int .i64 p)))), (19, .d (.ld (.v (.int .i64 s)))), (20, .rn (iI e)), (23, .rn (iI (Int.ofNat k))), (26, .d (.ld (.v (.int .i64 (x))))), (29, .rn (iI (Int.ofNat k))), (32, .d (.ld (.v (.int .i64 (y))))), (33, .rn (iI g)), (34, .rn (iB true)), (2, .d (.ix (i.mul (nat_lit 4)))), (3, .d .fa), (12, .d (.ix (i.mul (nat_lit 4)))), (13, .d .fa), (17, .d (.ix (i.mul (nat_lit 4)))), (18, .d .fa), (24, .d (.ix (k.mul (nat_lit 4)))), (25, .d .fa), (30, .d (.ix (k.mul (nat_lit 4)))), (31, .d .fa)] [], .run 3, .ops [(1, .rn (iI (Int.ofNat (i + 1))))] [], .run 1] [0, 3, 4] (aP h0 <| aP h1 <| aP h2 <| aP h3 <| aP h4 <| aP h5 <| aP h6 <| aP h7 <| aP h8 <| aP h9 <| aP h10 <| aP h11 <| aP h12 <| aP h13 <| aP h14 <| aP h15 <| aP h16 <| aP h17 <| aP h18 <| aP h19 <| aP h20 <| aP h21 <| aP (rfl : (true : Bool) = true) <| aP h23 <| aP h24 <| aZ)
  ho
def p63j_end (C : List DT) (_W : List DT) (n _m i _k _N : Nat) (_o : ByteArray) (_q : ByteArray) (_r : ByteArray) (_p _f _s _x _y z _c _d _t _e _g _h _u _v : Int) (_w : Bool) (_D _Y _X : List AC) (j : Nat → Value) : St := ⟨[], ztSc2, mkT j [(0, .e (.one (.dp (.s C n 4)))), (3, (iI z)), (4, (iI (Int.ofNat (i + 1))))] 50 0⟩
theorem p63j (hE : EnvOk E) (C : List DT) (W : List DT) (n m i k N : Nat) (o : ByteArray) (q : ByteArray) (r : ByteArray) (p f s x y z c d t e g h u v : Int) (w : Bool) (D Y X : List AC) (h0 : (decide (Int.ofNat i < (↑n : Int)) : Bool) = true) (h1 : (0 : Int) ≤ Int.ofNat i ∧ Int.ofNat i < (↑n : Int)) (h2 : ((Int.ofNat i).toNat * nat_lit 4 : Nat) = i.mul (nat_lit 4)) (h3 : (getL C (i.mul (nat_lit 4) + 2) : Option DT) = (.some (.v (.int .i64 f)))) (h4 : ((iB (decide (f > (0 : Int)))) : AV) = (iB true)) (h5 : ((iB (decide (z < (0 : Int)))) : AV) = (iB false)) (h6 : (0 : Int) ≤ Int.ofNat i ∧ Int.ofNat i < (↑n : Int)) (h7 : ((Int.ofNat i).toNat * nat_lit 4 : Nat) = i.mul (nat_lit 4)) (h8 : (getL C (i.mul (nat_lit 4) + 1) : Option DT) = (.some (.v (.int .i64 p)))) (h9 : (0 : Int) ≤ Int.ofNat i ∧ Int.ofNat i < (↑n : Int)) (h10 : ((Int.ofNat i).toNat * nat_lit 4 : Nat) = i.mul (nat_lit 4)) (h11 : (getL C (i.mul (nat_lit 4) + 3) : Option DT) = (.some (.v (.int .i64 s)))) (h12 : ((iI (wrapF IntKind.i64 (p + s))) : AV) = (iI e)) (h13 : ((iI (if z > (0 : Int) then z else (0 : Int))) : AV) = (iI (Int.ofNat k))) (h14 : (0 : Int) ≤ Int.ofNat k ∧ Int.ofNat k < (↑n : Int)) (h15 : ((Int.ofNat k).toNat * nat_lit 4 : Nat) = k.mul (nat_lit 4)) (h16 : (getL C (k.mul (nat_lit 4) + 1) : Option DT) = (.some (.v (.int .i64 x)))) (h17 : ((iI (if z > (0 : Int) then z else (0 : Int))) : AV) = (iI (Int.ofNat k))) (h18 : (0 : Int) ≤ Int.ofNat k ∧ Int.ofNat k < (↑n : Int)) (h19 : ((Int.ofNat k).toNat * nat_lit 4 : Nat) = k.mul (nat_lit 4)) (h20 : (getL C (k.mul (nat_lit 4) + 3) : Option DT) = (.some (.v (.int .i64 y)))) (h21 : ((iI (wrapF IntKind.i64 (x + y))) : AV) = (iI g)) (h23 : ((iB (decide (e > g))) : AV) = (iB false)) (h24 : ((iI (wrapF IntKind.i64 (Int.ofNat i + (1 : Int)))) : AV) = (iI (Int.ofNat (i + 1)))) : Sg 0 0 (q63 C W n m i k N o q r p f s x y z c d t e g h u v w D Y X) (p63j_end C W n m i k N o q r p f s x y z c d t e g h u v w D Y X) := fun ho j =>
 oS hE [.run 2, .ops [(2, .d .len)] [], .cond true, .run 4, .ops [(4, .d (.ld (.v (.int .i64 f)))), (5, .rn (iB true)), (8, .rn (iB false)), (14, .d (.ld (.v (.int .i64 p)))), (19, .d (.ld (.v (.int .i64 s)))), (20, .rn (iI e)), (23, .rn (iI (Int.ofNat k))), (26, .d (.ld (.v (.int .i64 (x))))), (29, .rn (iI (Int.ofNat k))), (32, .d (.ld (.v (.int .i64 (y))))), (33, .rn (iI g)), (34, .rn (iB false)), (2, .d (.ix (i.mul (nat_lit 4)))), (3, .d .fa), (12, .d (.ix (i.mul (nat_lit 4)))), (13, .d .fa), (17, .d (.ix (i.mul (nat_lit 4)))), (18, .d .fa), (24, .d (.ix (k.mul (nat_lit 4)))), (25, .d .fa), (30, .d (.ix (k.mul (nat_lit 4)))), (31, .d .fa)] [], .run 3, .ops [(1, .rn (iI (Int.ofNat (i + 1))))] [], .run 1] [0, 3, 4] (aP h0 <| aP h1 <| aP h2 <| aP h3 <| aP h4 <| aP h5 <| aP h6 <| aP h7 <| aP h8 <| aP h9 <| aP h10 <| aP h11 <| aP h12 <| aP h13 <| aP h14 <| aP h15 <| aP h16 <| aP h17 <| aP h18 <| aP h19 <| aP h20 <| aP h21 <| aP (rfl : (true : Bool) = true) <| aP h23 <| aP h24 <| aZ)
  ho
def p63x_end (_C : List DT) (_W : List DT) (_n _m _i _k _N : Nat) (_o : ByteArray) (_q : ByteArray) (_r : ByteArray) (_p _f _s _x _y z _c _d _t _e _g _h _u _v : Int) (_w : Bool) (_D _Y _X : List AC) (j : Nat → Value) : St := ⟨[], [.code .ret], mkT j [(2, (iI z))] 50 0⟩
theorem p63x (hE : EnvOk E) (C : List DT) (W : List DT) (n m i k N : Nat) (o : ByteArray) (q : ByteArray) (r : ByteArray) (p f s x y z c d t e g h u v : Int) (w : Bool) (D Y X : List AC) (h0 : (decide (Int.ofNat i < (↑n : Int)) : Bool) = false) : Sg 0 0 (q63 C W n m i k N o q r p f s x y z c d t e g h u v w D Y X) (p63x_end C W n m i k N o q r p f s x y z c d t e g h u v w D Y X) := fun ho j =>
 oS hE [.run 2, .ops [(2, .d .len)] [], .cond false, .run 3] [2] (aP h0 <| aZ)
  ho
def p71w_end (_C : List DT) (_W : List DT) (n _m i k N : Nat) (_o : ByteArray) (_q : ByteArray) (_r : ByteArray) (_p _f _s _x _y _z _c _d _t _e _g _h _u _v : Int) (_w : Bool) (_D Y _X : List AC) (j : Nat → Value) : St := ⟨[.some ⟨(Y), N, 136, false, .cells⟩], ztSc3, mkT j [(1, (iI (Int.ofNat k))), (5, .e (.one (.slc 0 0 (n) 4 (n) false))), (6, (iI (Int.ofNat (i + 1))))] 53 0⟩
theorem p71w (hE : EnvOk E) (C : List DT) (W : List DT) (n m i k N : Nat) (o : ByteArray) (q : ByteArray) (r : ByteArray) (p f s x y z c d t e g h u v : Int) (w : Bool) (D Y X : List AC) (h0 : (decide (Int.ofNat i < (↑n : Int)) : Bool) = true) (h1 : (Int.ofNat i == Int.ofNat k : Bool) = true) (h2 : (0 : Int) ≤ Int.ofNat i ∧ Int.ofNat i < (↑n : Int)) (h3 : (nat_lit 0 + (Int.ofNat i).toNat * nat_lit 4 : Nat) = i * 4) (h4 : (getL D (i * 4 + 2) : Option AC) = (.some (.v (.int .i64 f)))) (h5 : ((iI (wrapF IntKind.i64 (f - (1 : Int)))) : AV) = (iI e)) (h6 : (0 : Int) ≤ Int.ofNat i ∧ Int.ofNat i < (↑n : Int)) (h7 : (nat_lit 0 + (Int.ofNat i).toNat * nat_lit 4 : Nat) = i * 4) (h8 : i * 4 + 2 + 1 ≤ N) (h9 : (overL [AC.v (Value.int IntKind.i64 e)] D (i * 4 + 2) : List AC) = X) (h10 : (0 : Int) ≤ Int.ofNat i ∧ Int.ofNat i < (↑n : Int)) (h11 : (nat_lit 0 + (Int.ofNat i).toNat * nat_lit 4 : Nat) = i * 4) (h12 : i * 4 + 3 + 1 ≤ N) (h13 : (overL [AC.v (Value.int IntKind.i64 (0 : Int))] X (i * 4 + 3) : List AC) = Y) (h14 : ((iI (wrapF IntKind.i64 (Int.ofNat i + (1 : Int)))) : AV) = (iI (Int.ofNat (i + 1)))) : Sg 0 0 (q71 C W n m i k N o q r p f s x y z c d t e g h u v w D Y X) (p71w_end C W n m i k N o q r p f s x y z c d t e g h u v w D Y X) := fun ho j =>
 oS hE [.run 3, .cond true, .run 5, .cond true, .run 1, .ops [(2, .ix (i * 4)), (4, .ld (.v (.int .i64 f))), (5, .rn (iI e)), (6, .ix (i * 4)), (8, .st X)] [], .ops [(2, .ix (i * 4)), (4, .st Y)] [], .run 1, .ops [(1, .rn (iI (Int.ofNat (i + 1))))] [], .run 1] [1, 5, 6] (aP h0 <| aP h1 <| aP h2 <| aP h3 <| aP h4 <| aP h5 <| aP h6 <| aP h7 <| aP h8 <| aP h9 <| aP h10 <| aP h11 <| aP h12 <| aP h13 <| aP h14 <| aZ)
  ho
def p71g_end (_C : List DT) (_W : List DT) (n _m i k N : Nat) (_o : ByteArray) (_q : ByteArray) (_r : ByteArray) (_p _f _s _x _y _z _c _d _t _e _g _h _u _v : Int) (_w : Bool) (_D Y _X : List AC) (j : Nat → Value) : St := ⟨[.some ⟨(Y), N, 136, false, .cells⟩], ztSc3, mkT j [(1, (iI (Int.ofNat k))), (5, .e (.one (.slc 0 0 (n) 4 (n) false))), (6, (iI (Int.ofNat (i + 1))))] 53 0⟩
theorem p71g (hE : EnvOk E) (C : List DT) (W : List DT) (n m i k N : Nat) (o : ByteArray) (q : ByteArray) (r : ByteArray) (p f s x y z c d t e g h u v : Int) (w : Bool) (D Y X : List AC) (h0 : (decide (Int.ofNat i < (↑n : Int)) : Bool) = true) (h1 : (Int.ofNat i == Int.ofNat k : Bool) = false) (h2 : (0 : Int) ≤ Int.ofNat i ∧ Int.ofNat i < (↑n : Int)) (h3 : (nat_lit 0 + (Int.ofNat i).toNat * nat_lit 4 : Nat) = i * 4) (h4 : (getL D (i * 4 + 2) : Option AC) = (.some (.v (.int .i64 f)))) (h5 : (decide (f > (0 : Int)) : Bool) = true) (h6 : (0 : Int) ≤ Int.ofNat i ∧ Int.ofNat i < (↑n : Int)) (h7 : (nat_lit 0 + (Int.ofNat i).toNat * nat_lit 4 : Nat) = i * 4) (h8 : (getL D (i * 4 + 3) : Option AC) = (.some (.v (.int .i64 s)))) (h9 : ((iI (wrapF IntKind.i64 (s + (1 : Int)))) : AV) = (iI e)) (h10 : ((iI (if e < (1000 : Int) then e else (1000 : Int))) : AV) = (iI g)) (h11 : (0 : Int) ≤ Int.ofNat i ∧ Int.ofNat i < (↑n : Int)) (h12 : (nat_lit 0 + (Int.ofNat i).toNat * nat_lit 4 : Nat) = i * 4) (h13 : i * 4 + 3 + 1 ≤ N) (h14 : (overL [AC.v (Value.int IntKind.i64 g)] D (i * 4 + 3) : List AC) = Y) (h15 : ((iI (wrapF IntKind.i64 (Int.ofNat i + (1 : Int)))) : AV) = (iI (Int.ofNat (i + 1)))) : Sg 0 0 (q71 C W n m i k N o q r p f s x y z c d t e g h u v w D Y X) (p71g_end C W n m i k N o q r p f s x y z c d t e g h u v w D Y X) := fun ho j =>
 oS hE [.run 3, .cond true, .run 5, .cond false, .run 1, .ops [(2, .ix (i * 4)), (4, .ld (.v (.int .i64 f)))] [], .cond true, .ops [(4, .ix (i * 4)), (6, .ld (.v (.int .i64 s))), (7, .rn (iI e)), (8, .rn (iI g)), (9, .ix (i * 4)), (11, .st Y)] [], .run 1, .ops [(1, .rn (iI (Int.ofNat (i + 1))))] [], .run 1] [1, 5, 6] (aP h0 <| aP h1 <| aP h2 <| aP h3 <| aP h4 <| aP h5 <| aP h6 <| aP h7 <| aP h8 <| aP h9 <| aP h10 <| aP h11 <| aP h12 <| aP h13 <| aP h14 <| aP h15 <| aZ)
  ho
def p71k_end (_C : List DT) (_W : List DT) (n _m i k N : Nat) (_o : ByteArray) (_q : ByteArray) (_r : ByteArray) (_p _f _s _x _y _z _c _d _t _e _g _h _u _v : Int) (_w : Bool) (_D Y _X : List AC) (j : Nat → Value) : St := ⟨[.some ⟨(Y), N, 136, false, .cells⟩], ztSc3, mkT j [(1, (iI (Int.ofNat k))), (5, .e (.one (.slc 0 0 (n) 4 (n) false))), (6, (iI (Int.ofNat (i + 1))))] 53 0⟩
theorem p71k (hE : EnvOk E) (C : List DT) (W : List DT) (n m i k N : Nat) (o : ByteArray) (q : ByteArray) (r : ByteArray) (p f s x y z c d t e g h u v : Int) (w : Bool) (D Y X : List AC) (h0 : (decide (Int.ofNat i < (↑n : Int)) : Bool) = true) (h1 : (Int.ofNat i == Int.ofNat k : Bool) = false) (h2 : (0 : Int) ≤ Int.ofNat i ∧ Int.ofNat i < (↑n : Int)) (h3 : (nat_lit 0 + (Int.ofNat i).toNat * nat_lit 4 : Nat) = i * 4) (h4 : (getL D (i * 4 + 2) : Option AC) = (.some (.v (.int .i64 f)))) (h5 : (decide (f > (0 : Int)) : Bool) = false) (h6 : (0 : Int) ≤ Int.ofNat i ∧ Int.ofNat i < (↑n : Int)) (h7 : (nat_lit 0 + (Int.ofNat i).toNat * nat_lit 4 : Nat) = i * 4) (h8 : i * 4 + 3 + 1 ≤ N) (h9 : (overL [AC.v (Value.int IntKind.i64 (0 : Int))] D (i * 4 + 3) : List AC) = Y) (h10 : ((iI (wrapF IntKind.i64 (Int.ofNat i + (1 : Int)))) : AV) = (iI (Int.ofNat (i + 1)))) : Sg 0 0 (q71 C W n m i k N o q r p f s x y z c d t e g h u v w D Y X) (p71k_end C W n m i k N o q r p f s x y z c d t e g h u v w D Y X) := fun ho j =>
 oS hE [.run 3, .cond true, .run 5, .cond false, .run 1, .ops [(2, .ix (i * 4)), (4, .ld (.v (.int .i64 f)))] [], .cond false, .ops [(2, .ix (i * 4)), (4, .st Y)] [], .run 1, .ops [(1, .rn (iI (Int.ofNat (i + 1))))] [], .run 1] [1, 5, 6] (aP h0 <| aP h1 <| aP h2 <| aP h3 <| aP h4 <| aP h5 <| aP h6 <| aP h7 <| aP h8 <| aP h9 <| aP h10 <| aZ)
  ho
def p71x_end (_C : List DT) (_W : List DT) (n _m _i _k N : Nat) (_o : ByteArray) (_q : ByteArray) (_r : ByteArray) (_p _f _s _x _y _z _c _d _t _e _g _h _u _v : Int) (_w : Bool) (D _Y _X : List AC) (j : Nat → Value) : St := ⟨[.some ⟨(D), N, 136, false, .cells⟩], [.code .ret], mkT j [(4, .e (.one (.slc 0 0 n 4 n false)))] 53 0⟩
theorem p71x (hE : EnvOk E) (C : List DT) (W : List DT) (n m i k N : Nat) (o : ByteArray) (q : ByteArray) (r : ByteArray) (p f s x y z c d t e g h u v : Int) (w : Bool) (D Y X : List AC) (h0 : (decide (Int.ofNat i < (↑n : Int)) : Bool) = false) : Sg 0 0 (q71 C W n m i k N o q r p f s x y z c d t e g h u v w D Y X) (p71x_end C W n m i k N o q r p f s x y z c d t e g h u v w D Y X) := fun ho j =>
 oS hE [.run 3, .cond false, .run 3] [4] (aP h0 <| aZ)
  ho
structure okS (x : Sn) : Prop where
 p0 : 0 ≤ x.p
 p1 : x.p ≤ 3
 f0 : 0 ≤ x.f
 f1 : x.f ≤ 64
 w0 : 0 ≤ x.w
 w1 : x.w ≤ 1000
def cmI (x y : Int) : Int := if x < y then -1 else if x > y then 1 else 0
def rkS (x : Sn) : Int := x.p + x.w
def mnF (x : Sn) : Int := if 1 < x.f then 1 else x.f
def agS (x b : Sn) : Int := firstI [cmI (mnF x) (mnF b), cmI (rkS x) (rkS b)]
theorem K168 (hE : EnvOk E) (x y : Int) : COut E 0 [] 168 [iI x, iI y] (iI (cmI x y)) [] := by
 refine tI (A168_all hE [] [] 0 0 0 0 0 zE zE zE 0 0 0 x y 0 0 0 0 0 0 0 0 0 false [] [] []) ?_
 unfold A168_r0 cmI
 rw [bne_self_eq_false, bne_self_eq_false]
 by_cases h1 : x < y <;> by_cases h2 : x > y <;> simp [h1, h2]
theorem K176 (hE : EnvOk E) (x : Sn) (hv : okS x) : COut E 0 [] 176 [aSn x] (iI (rkS x)) [] := tI (A176_all hE [] [] 0 0 0 (x.o) zE (x.p) (x.f) (x.w) 0 0 0 0 false) (wrap_id (by have := hv.p0; have := hv.w0; omega) (by have := hv.p1; have := hv.w1; omega))
theorem C175s (hE : EnvOk E) {h : Heap} {i n lvl : Nat} {l : List Int} (hb : readI h i n = some l) (hn : Nat.ble n 100 = true) (hl : lenL h = lvl) : COut E lvl h 175 [.e (.one (.slc i 0 n 1 n true))] (iI (firstI l)) h := hl ▸ C175 hE h i n l hb hn
theorem K150 (hE : EnvOk E) (x b : Sn) (hv : okS x) (hb : okS b) : COut E 0 [] 150 [aSn x, aSn b] (iI (agS x b)) [] :=
 cOut_start Tryz.func150 rfl (p150 hE [] [] 0 0 0 0 0 (x.o) (b.o) zE (x.p) (x.f) (x.w) (b.p) (b.f) (b.w) (cmI (rkS x) (rkS b)) (agS x b) 0 (mnF x) (mnF b) (cmI (mnF x) (mnF b)) (rkS x) (rkS b) false [] [] [] (by first | rfl | omega | simp) (by first | rfl | omega | simp) (K168 hE _ _) (K176 hE x hv) (K176 hE b hb) (K168 hE _ _) (C175s hE (l := [cmI (mnF x) (mnF b), cmI (rkS x) (rkS b)]) rfl rfl rfl) (fun j => outK_ret (ends_ret (by kernel_rfl))) fun _ => undef)
abbrev bxS (b : Sn) : Heap := [bK (zSt b.o b.p b.f b.w) 4 138]
def mxS : Sn → List Sn → Sn
 | b, [] => b
 | b, x :: r => if agS x b > 0 then mxS x r else mxS b r
theorem l149 (hE : EnvOk E) (L : List Sn) (hv : ∀ x ∈ L, okS x) (hm : L.length ≤ 100000) : ∀ k i, k + i = L.length → ∀ b, okS b → ∀ j, OutK E 0 0 (q149 (snD L) [] (L.length) 0 i 0 0 zE (b.o) zE 0 0 0 (b.p) (b.f) (b.w) 0 0 0 0 0 0 0 0 false [] [] [] j) (Go.Ev.Ends E Tryz.f149 (aSn (mxS b (L.drop i))) (bxS (mxS b (L.drop i))))
 | 0, i, hk, b, hb, j => by
  rw [List.drop_eq_nil_of_le (by omega), show mxS b [] = b from rfl]
  exact p149x hE (snD L) [] (L.length) 0 i 0 0 zE (b.o) zE 0 0 0 (b.p) (b.f) (b.w) 0 0 0 0 0 0 0 0 false [] [] [] zF (fun j => outK_ret (ends_ret (by kernel_rfl))) j
 | k + 1, i, hk, b, hb, j => by
  have hl : i < L.length := by omega
  have hx : L[i]? = some L[i] := List.getElem?_eq_getElem hl
  have hvx := hv _ (List.mem_of_getElem? hx)
  rw [List.drop_eq_getElem_cons hl]
  generalize L[i] = x at hx hvx
  have hu : mxS b (x :: L.drop (i + 1)) = if agS x b > 0 then mxS x (L.drop (i + 1)) else mxS b (L.drop (i + 1)) := rfl
  rw [hu]
  by_cases h : agS x b > 0
  ·rw [if_pos h]
   exact p149s hE (snD L) [] (L.length) 0 i 0 0 (x.o) (b.o) zE (x.p) (x.f) (x.w) (b.p) (b.f) (b.w) 0 0 0 (agS x b) 0 0 0 0 false [] [] [] zT zB rfl (sn_get hx) (K150 hE x b hvx hb) (decide_eq_true h) zB rfl (sn_get hx) zW (l149 hE L hv hm k (i + 1) (by omega) x hvx) j
  ·rw [if_neg h]
   exact p149k hE (snD L) [] (L.length) 0 i 0 0 (x.o) (b.o) zE (x.p) (x.f) (x.w) (b.p) (b.f) (b.w) 0 0 0 (agS x b) 0 0 0 0 false [] [] [] zT zB rfl (sn_get hx) (K150 hE x b hvx hb) (decide_eq_false h) zW (l149 hE L hv hm k (i + 1) (by omega) b hb) j
theorem K149 (hE : EnvOk E) (x : Sn) (L : List Sn) (hv : ∀ y ∈ x :: L, okS y) (hm : (x :: L).length ≤ 100000) : COut E 0 [] 149 [dSn (x :: L), .e (.one (.v (.func (.func 150) #[] #[])))] (aSn (mxS x L)) [] := by
 have hx : (x :: L)[0]? = some x := rfl
 exact cOut_clear (cOut_start Tryz.func149 rfl (p149a hE (snD (x :: L)) [] ((x :: L).length) 0 0 0 0 (x.o) zE zE (x.p) (x.f) (x.w) 0 0 0 0 0 0 0 0 0 0 0 false [] [] [] (decide_eq_false (by simp only [List.length_cons]; omega)) ⟨by simp, by simp⟩ (sn_get hx) (l149 hE (x :: L) hv hm L.length 1 rfl x (hv x (List.mem_cons_self ..))) fun _ => undef)) rfl
def wiC : List Sn → Int
 | [] => -1
 | x :: L => if (x :: L).any gtF = true then idxP (eqN (mxS x L)) (x :: L) 0 else -1
theorem K107 (hE : EnvOk E) (L : List Sn) (hv : ∀ y ∈ L, okS y) (hm : L.length ≤ 100000) : COut E 0 [] 107 [dSn L] (iI (wiC L)) [] := by
 have h0 := K146 hE L hm
 rcases L with _ | ⟨x, L⟩
 ·exact cOut_start Tryz.func107 rfl (p107z hE (snD []) [] 0 0 0 0 0 zE zE zE 0 0 0 0 0 0 0 0 0 0 0 0 0 0 false [] [] [] h0 rfl (fun j => outK_ret (ends_ret (by kernel_rfl))) fun _ => undef)
 ·rw [show wiC (x :: L) = if (x :: L).any gtF = true then idxP (eqN (mxS x L)) (x :: L) 0 else -1 from rfl]
  by_cases h : (x :: L).any gtF = true
  ·rw [if_pos h]
   rw [h] at h0
   exact cOut_start Tryz.func107 rfl (p107 hE (snD (x :: L)) [] ((x :: L).length) 0 0 0 0 ((mxS x L).o) zE zE ((mxS x L).p) ((mxS x L).f) ((mxS x L).w) 0 0 (idxP (eqN (mxS x L)) (x :: L) 0) 0 0 0 0 0 0 0 0 true [] [] [] h0 rfl (K149 hE x L hv hm) (K148 hE (mxS x L) (x :: L) hm) (fun j => outK_ret (ends_ret (by kernel_rfl))) fun _ => undef)
  ·rw [if_neg h]
   have h : (x :: L).any gtF = false := by simpa using h
   rw [h] at h0
   exact cOut_start Tryz.func107 rfl (p107z hE (snD (x :: L)) [] ((x :: L).length) 0 0 0 0 zE zE zE 0 0 0 0 0 0 0 0 0 0 0 0 0 0 false [] [] [] h0 rfl (fun j => outK_ret (ends_ret (by kernel_rfl))) fun _ => undef)
def wiO : List Sn → Nat → Option (Nat × Sn) → Int
 | [], _, none => -1
 | [], _, some (k, _) => Int.ofNat k
 | x :: r, i, none => if gtF x = true then wiO r (i + 1) (some (i, x)) else wiO r (i + 1) none
 | x :: r, i, some (k, y) => if gtF x = true ∧ rkS x > rkS y then wiO r (i + 1) (some (i, x)) else wiO r (i + 1) (some (k, y))
def wiN (L : List Sn) : Int := wiO L 0 none
theorem l63s (hE : EnvOk E) (L : List Sn) (hv : ∀ x ∈ L, okS x) (hm : L.length ≤ 100000) : ∀ k i, k + i = L.length → ∀ n b, L[n]? = some b → ∀ j, OutK E 0 0 (q63 (snD L) [] (L.length) 0 i 0 0 zE zE zE 0 0 0 0 0 (Int.ofNat n) 0 0 0 0 0 0 0 0 false [] [] [] j) (Go.Ev.Ends E Tryz.f63 (iI (wiO (L.drop i) i (some (n, b)))) [])
 | 0, i, hk, n, b, hb, j => by
  rw [List.drop_eq_nil_of_le (by omega), show wiO [] i (some (n, b)) = Int.ofNat n from rfl]
  exact p63x hE (snD L) [] (L.length) 0 i 0 0 zE zE zE 0 0 0 0 0 (Int.ofNat n) 0 0 0 0 0 0 0 0 false [] [] [] zF (fun j => outK_ret (ends_ret (by kernel_rfl))) j
 | k + 1, i, hk, n, b, hb, j => by
  have hl : i < L.length := by omega
  have hx : L[i]? = some L[i] := List.getElem?_eq_getElem hl
  have hvx := hv _ (List.mem_of_getElem? hx)
  have hvb := hv _ (List.mem_of_getElem? hb)
  rw [List.drop_eq_getElem_cons hl]
  generalize L[i] = x at hx hvx
  have hn : n < L.length := by
   rcases Nat.lt_or_ge n L.length with h | h
   ·exact h
   ·rw [List.getElem?_eq_none h] at hb; exact absurd hb (by simp)
  have hu : wiO (x :: L.drop (i + 1)) i (some (n, b)) = if gtF x = true ∧ rkS x > rkS b then wiO (L.drop (i + 1)) (i + 1) (some (i, x)) else wiO (L.drop (i + 1)) (i + 1) (some (n, b)) := rfl
  have hp1 := hvx.p0; have hp2 := hvx.p1; have hp3 := hvx.w0; have hp4 := hvx.w1; have hp5 := hvb.p0; have hp6 := hvb.p1; have hp7 := hvb.w0; have hp8 := hvb.w1
  rw [hu]
  cases hg : gtF x with
  | false =>
   rw [if_neg (fun h => absurd h.1 (by decide))]
   exact p63k hE (snD L) [] (L.length) 0 i 0 0 zE zE zE 0 (x.f) 0 0 0 (Int.ofNat n) 0 0 0 0 0 0 0 0 false [] [] [] zT zB rfl (sn_f hx) (congrArg (fun b : Bool => iB b) hg) zW (l63s hE L hv hm k (i + 1) (by omega) n b hb) j
  | true =>
   by_cases hr : rkS x > rkS b
   ·rw [if_pos ⟨rfl, hr⟩]
    exact p63s hE (snD L) [] (L.length) 0 i n 0 zE zE zE (x.p) (x.f) (x.w) (b.p) (b.w) (Int.ofNat n) 0 0 0 (rkS x) (rkS b) 0 0 0 false [] [] [] zT zB rfl (sn_f hx) (congrArg (fun b : Bool => iB b) hg) (congrArg (fun b : Bool => iB b) (decide_eq_false (by simp))) zB rfl (sn_p hx) zB rfl (sn_w hx) (iIe (wrap_id (by omega) (by omega))) (iIe (by simp only [Int.ofNat_eq_natCast]; split <;> omega)) zB rfl (sn_p hb) (iIe (by simp only [Int.ofNat_eq_natCast]; split <;> omega)) zB rfl (sn_w hb) (iIe (wrap_id (by omega) (by omega))) (congrArg (fun b : Bool => iB b) (decide_eq_true hr)) zW (l63s hE L hv hm k (i + 1) (by omega) i x hx) j
   ·rw [if_neg (fun h => hr h.2)]
    exact p63j hE (snD L) [] (L.length) 0 i n 0 zE zE zE (x.p) (x.f) (x.w) (b.p) (b.w) (Int.ofNat n) 0 0 0 (rkS x) (rkS b) 0 0 0 false [] [] [] zT zB rfl (sn_f hx) (congrArg (fun b : Bool => iB b) hg) (congrArg (fun b : Bool => iB b) (decide_eq_false (by simp))) zB rfl (sn_p hx) zB rfl (sn_w hx) (iIe (wrap_id (by omega) (by omega))) (iIe (by simp only [Int.ofNat_eq_natCast]; split <;> omega)) zB rfl (sn_p hb) (iIe (by simp only [Int.ofNat_eq_natCast]; split <;> omega)) zB rfl (sn_w hb) (iIe (wrap_id (by omega) (by omega))) (congrArg (fun b : Bool => iB b) (decide_eq_false hr)) zW (l63s hE L hv hm k (i + 1) (by omega) n b hb) j
theorem l63n (hE : EnvOk E) (L : List Sn) (hv : ∀ x ∈ L, okS x) (hm : L.length ≤ 100000) : ∀ k i, k + i = L.length → ∀ j, OutK E 0 0 (q63 (snD L) [] (L.length) 0 i 0 0 zE zE zE 0 0 0 0 0 (-1) 0 0 0 0 0 0 0 0 false [] [] [] j) (Go.Ev.Ends E Tryz.f63 (iI (wiO (L.drop i) i none)) [])
 | 0, i, hk, j => by
  rw [List.drop_eq_nil_of_le (by omega), show wiO [] i none = -1 from rfl]
  exact p63x hE (snD L) [] (L.length) 0 i 0 0 zE zE zE 0 0 0 0 0 (-1) 0 0 0 0 0 0 0 0 false [] [] [] zF (fun j => outK_ret (ends_ret (by kernel_rfl))) j
 | k + 1, i, hk, j => by
  have hl : i < L.length := by omega
  have hx : L[i]? = some L[i] := List.getElem?_eq_getElem hl
  rw [List.drop_eq_getElem_cons hl]
  generalize L[i] = x at hx
  have hu : wiO (x :: L.drop (i + 1)) i none = if gtF x = true then wiO (L.drop (i + 1)) (i + 1) (some (i, x)) else wiO (L.drop (i + 1)) (i + 1) none := rfl
  rw [hu]
  cases hg : gtF x with
  | false =>
   rw [if_neg (by decide)]
   exact p63k hE (snD L) [] (L.length) 0 i 0 0 zE zE zE 0 (x.f) 0 0 0 (-1) 0 0 0 0 0 0 0 0 false [] [] [] zT zB rfl (sn_f hx) (congrArg (fun b : Bool => iB b) hg) zW (l63n hE L hv hm k (i + 1) (by omega)) j
  | true =>
   rw [if_pos rfl]
   exact p63n hE (snD L) [] (L.length) 0 i 0 0 zE zE zE 0 (x.f) 0 0 0 (-1) 0 0 0 0 0 0 0 0 false [] [] [] zT zB rfl (sn_f hx) (congrArg (fun b : Bool => iB b) hg) (by first | rfl | omega | simp) zW (l63s hE L hv hm k (i + 1) (by omega) i x hx) j
theorem K63 (hE : EnvOk E) (L : List Sn) (hv : ∀ x ∈ L, okS x) (hm : L.length ≤ 100000) : COut E 0 [] 63 [dSn L] (iI (wiN L)) [] :=
 cOut_start Tryz.func63 rfl (p63a hE (snD L) [] (L.length) 0 0 0 0 zE zE zE 0 0 0 0 0 0 0 0 0 0 0 0 0 0 false [] [] [] (l63n hE L hv hm L.length 0 rfl) fun _ => undef)
def chS (b : Bool) (x : Sn) : Sn := if b = true then ⟨x.o, x.p, x.f - 1, 0⟩ else if gtF x = true then ⟨x.o, x.p, x.f, if 1000 < x.w + 1 then 1000 else x.w + 1⟩ else ⟨x.o, x.p, x.f, 0⟩
theorem K153 (hE : EnvOk E) (x b : Sn) (hv : okS x) : COut E 0 [] 153 [aSn x, aSn b] (aSn (chS (eqN x b) x)) [] := by
 have h1 := hv.f0; have h2 := hv.f1; have h3 := hv.w0; have h4 := hv.w1
 have he := e138 x b
 unfold chS
 cases hq : eqN x b with
 | true =>
  rw [hq] at he
  rw [if_pos rfl]
  exact cOut_clear (cOut_start Tryz.func153 rfl (p153a hE [] [] 0 0 0 0 0 (x.o) (b.o) zE (x.p) (x.f) (x.w) (b.p) (b.f) (b.w) 0 0 0 (x.f - 1) 0 0 0 0 true [] [] [] he rfl (iIe (wrap_id (by omega) (by omega))) (fun j => outK_ret (ends_ret (by kernel_rfl))) fun _ => undef)) rfl
 | false =>
  rw [hq] at he
  rw [if_neg (by decide)]
  cases hg : gtF x with
  | true =>
   rw [if_pos rfl]
   exact cOut_clear (cOut_start Tryz.func153 rfl (p153b hE [] [] 0 0 0 0 0 (x.o) (b.o) zE (x.p) (x.f) (x.w) (b.p) (b.f) (b.w) 0 0 0 (x.w + 1) (if 1000 < x.w + 1 then 1000 else x.w + 1) 0 0 0 false [] [] [] he rfl hg (iIe (wrap_id (by omega) (by omega))) rfl (fun j => outK_ret (ends_ret (by kernel_rfl))) fun _ => undef)) rfl
  | false =>
   rw [if_neg (by decide)]
   exact cOut_clear (cOut_start Tryz.func153 rfl (p153c hE [] [] 0 0 0 0 0 (x.o) (b.o) zE (x.p) (x.f) (x.w) (b.p) (b.f) (b.w) 0 0 0 0 0 0 0 0 false [] [] [] he rfl hg (fun j => outK_ret (ends_ret (by kernel_rfl))) fun _ => undef)) rfl
theorem copyS (L : List Sn) (hm : L.length ≤ 100000) (h0 : 0 < L.length) (h : Heap) : CopyOk h 4 40 (.e (.one (.dp (.s (snD L) L.length 4)))) L.length (snC L) false := by
 refine .inr (.inl ⟨rfl, h0, by simp [small]; omega, ?_, _, rfl, rfl, snD_len L⟩)
 simp only [snC, snD, List.all_map, List.all_flatMap]
 rw [List.all_eq_true]
 intro x _
 rfl
theorem K109 (hE : EnvOk E) (L : List Sn) (hm : L.length ≤ 100000) : COut E 0 [] 109 [dSn L] (dSn L) [] := by
 rcases L with _ | ⟨x, L⟩
 ·refine cOut_emp1 4 (fun cp => ?_) (fun a cp => ?_)
  ·exact cOut_nil1 (p := none) (c := 0) 4 (cOut_start Tryz.func109 rfl (p109v hE [] [] 0 0 0 0 0 zE zE zE 0 0 0 0 0 0 0 0 0 0 0 0 0 0 false [] [] [] cp (fun j => outK_ret (ends_ret (by kernel_rfl))) fun _ => undef))
  ·have hc : COut E 0 [] 109 [.e (.one (.v (.slice (some a) 0 cp)))] (.e (.one (.slc 0 0 0 4 0 true))) [bK [] 0 138] := cOut_start Tryz.func109 rfl (p109w hE [] [] 0 0 0 0 0 zE zE zE 0 0 0 0 0 0 0 0 0 0 0 0 0 0 false [] [] [] cp a (.inr (.inr (.inl ⟨rfl, rfl, rfl, _, _, rfl⟩))) (fun j => outK_ret (ends_ret (by kernel_rfl))) fun _ => undef)
   exact cOut_clear (cOut_freeze 0 hc rfl (Nat.zero_le _) (ds := []) (.inr ⟨0, 0, 4, 0, true, [], rfl, rfl, rfl⟩)) rfl
 ·have hc : COut E 0 [] 109 [dSn (x :: L)] (.e (.one (.slc 0 0 (x :: L).length 4 (x :: L).length false))) [some ⟨snC (x :: L), (x :: L).length * 4, 138, false, .cells⟩] :=
   cOut_start Tryz.func109 rfl (p109 hE (snD (x :: L)) [] ((x :: L).length) 0 0 0 ((x :: L).length * 4) zE zE zE 0 0 0 0 0 0 0 0 0 0 0 0 0 0 false (snC (x :: L)) [] [] (Nat.succ_pos _) (copyS (x :: L) hm (Nat.succ_pos _) _) rfl (flat_rows _) (fun j => outK_ret (ends_ret (by kernel_rfl))) fun _ => undef)
  exact cOut_clear (cOut_freeze 0 hc rfl (Nat.zero_le _) (ds := snD (x :: L)) (frzAll _ _ 4 _ _ (snD_len _))) rfl
def afM (b : Sn) (x : Sn) : Sn := chS (eqN x b) x
def HSm (L : List Sn) (k : Nat) : Heap := [bK [.dp (.s (snD L) L.length 4)] 1 110, bK [.v (.int .i64 (Int.ofNat k))] 1 3]
abbrev zSn : List AC := zSt ⟨#[]⟩ 0 0 0
theorem flat_zS : FlatC zSn := by
 intro c hc
 simp only [zSn, List.mem_cons, List.not_mem_nil, or_false] at hc
 rcases hc with rfl | rfl | rfl | rfl <;> rfl
theorem K152 (hE : EnvOk E) (L : List Sn) (_hm : L.length ≤ 100000) (k : Nat) (b x : Sn) (hb : L[k]? = some b) (hv : okS x) (D : List AC) (N : Nat) (hD : FlatC D) : COut E 2 [bK [.dp (.s (snD L) L.length 4)] 1 110, bK [.v (.int .i64 (Int.ofNat k))] 1 3, some ⟨D, N, 138, true, .cells⟩, bK (zSt x.o x.p x.f x.w) 4 138] 152 [aSn x, .e (.one (.ptr 0 0)), .e (.one (.ptr 1 0))] (aSn (afM b x)) [bK [.dp (.s (snD L) L.length 4)] 1 110, bK [.v (.int .i64 (Int.ofNat k))] 1 3, some ⟨D, N, 138, true, .cells⟩, bK (zSt x.o x.p x.f x.w) 4 138] := by
 have hn : k < L.length := by
  rcases Nat.lt_or_ge k L.length with h | h
  ·exact h
  ·rw [List.getElem?_eq_none h] at hb; exact absurd hb (by simp)
 have hc : COut E 2 [bK [.dp (.s (snD L) L.length 4)] 1 110, bK [.v (.int .i64 (Int.ofNat k))] 1 3, some ⟨D, N, 138, true, .cells⟩, bK (zSt x.o x.p x.f x.w) 4 138] 152 [aSn x, .e (.one (.ptr 0 0)), .e (.one (.ptr 1 0))] (aSn (afM b x)) ([bK [.dp (.s (snD L) L.length 4)] 1 110, bK [.v (.int .i64 (Int.ofNat k))] 1 3, some ⟨D, N, 138, true, .cells⟩, bK (zSt x.o x.p x.f x.w) 4 138] ++ bxS (afM b x)) :=
  cOut_start Tryz.func152 rfl (p152 hE (snD L) [] (L.length) 0 0 k N (x.o) (b.o) ((afM b x).o) (x.p) (x.f) (x.w) (b.p) (b.f) (b.w) ((afM b x).p) ((afM b x).f) ((afM b x).w) 0 0 0 0 0 false D [] [] ⟨by simp, by simp only [Int.ofNat_eq_natCast]; omega⟩ rfl (sn_get hb) (K153 hE x b hv) hD (fun j => outK_ret (ends_ret (by kernel_rfl))) fun _ => undef)
 exact cOut_gcF (h' := [bK [.dp (.s (snD L) L.length 4)] 1 110, bK [.v (.int .i64 (Int.ofNat k))] 1 3, some ⟨D, N, 138, true, .cells⟩, bK (zSt x.o x.p x.f x.w) 4 138]) [0, 1, 2, 3] [false, false, true, false] (Nat.le_of_ble_eq_true rfl) hc rfl rfl ⟨hD, trivial⟩ rfl
theorem l151 (hE : EnvOk E) (L : List Sn) (hv : ∀ x ∈ L, okS x) (hm : L.length ≤ 100000) (n : Nat) (b : Sn) (hb : L[n]? = some b) : ∀ k i, k + i = L.length → ∀ P : List Sn, P.length = i → ∀ j, OutK E 2 2 (q151 (snD L) [] (L.length) 0 i n (L.length * 4) zE zE zE 0 0 0 0 0 0 0 0 0 0 0 0 0 0 false (wrC Sn.d zSn P k) [] [] j) (Go.Ev.Ends E Tryz.f151 (.e (.one (.slc 2 0 L.length 4 L.length true))) (HSm L n ++ [bK (snC (P ++ (L.drop i).map (afM b))) (L.length * 4) 138]))
 | 0, i, hk, P, hP, j => by
  rw [List.drop_eq_nil_of_le (by omega), List.map_nil, List.append_nil, wr_all]
  exact p151x hE (snD L) [] (L.length) 0 i n (L.length * 4) zE zE zE 0 0 0 0 0 0 0 0 0 0 0 0 0 0 false (snC P) [] [] zF (fun j => outK_ret (ends_ret (by kernel_rfl))) j
 | k + 1, i, hk, P, hP, j => by
  have hl : i < L.length := by omega
  have hx : L[i]? = some L[i] := List.getElem?_eq_getElem hl
  have hvx := hv _ (List.mem_of_getElem? hx)
  rw [List.drop_eq_getElem_cons hl]
  generalize L[i] = x at hx hvx
  have ih := l151 hE L hv hm n b hb k (i + 1) (by omega) (P ++ [afM b x]) (by simp; omega)
  rw [List.append_assoc] at ih
  rw [List.map_cons]
  exact p151s hE (snD L) [] (L.length) 0 i n (L.length * 4) (x.o) zE ((afM b x).o) (x.p) (x.f) (x.w) 0 0 0 ((afM b x).p) ((afM b x).f) ((afM b x).w) 0 0 0 0 0 false (wrC Sn.d zSn P (k + 1)) [] (wrC Sn.d zSn (P ++ [afM b x]) k) zT zB rfl (sn_get hx) (K152 hE L hm n b x hb hvx _ _ (flat_wr flat_zS _ _)) zB (by simp) (by first | rfl | omega | simp) (wr_set Sn.len rfl P (afM b x) k _ (by rw [hP])) zW (flat_wr flat_zS _ _) ih j
theorem K151 (hE : EnvOk E) (L : List Sn) (hv : ∀ x ∈ L, okS x) (hm : L.length ≤ 100000) (n : Nat) (b : Sn) (hb : L[n]? = some b) : COut E 2 (HSm L n) 151 [dSn L, .e (.one (.clo 152 [] [.one (.ptr 0 0), .one (.ptr 1 0)]))] (dSn (L.map (afM b))) (HSm L n) := by
 have hc : COut E 2 (HSm L n) 151 [dSn L, .e (.one (.clo 152 [] [.one (.ptr 0 0), .one (.ptr 1 0)]))] (.e (.one (.slc 2 0 L.length 4 L.length true))) (HSm L n ++ [bK (snC (L.map (afM b))) (L.length * 4) 138]) :=
  cOut_start Tryz.func151 rfl (p151a hE (snD L) [] (L.length) 0 0 n (L.length * 4) zE zE zE 0 0 0 0 0 0 0 0 0 0 0 0 0 0 false (wrC Sn.d zSn [] L.length) [] [] ⟨by simp, by simp⟩ (by simp [small]; omega) (by simp) (by simp) rfl rfl (l151 hE L hv hm n b hb L.length 0 rfl [] rfl) fun _ => undef)
 have hl : L.length = (L.map (afM b)).length := (List.length_map _).symm
 have hf := cOut_freeze 2 hc rfl (Nat.le_refl _) (ds := snD (L.map (afM b))) (v' := .e (.one (.dp (.s (snD (L.map (afM b))) L.length 4)))) (frzAll _ _ 4 _ _ (by rw [snD_len, List.length_map]))
 rw [hl] at hf
 rw [← hl] at hf
 have := cOut_gc (h' := HSm L n) (v' := .e (.one (.dp (.s (snD (L.map (afM b))) L.length 4)))) [0, 1] (Nat.le_of_ble_eq_true rfl) hf rfl rfl rfl
 show COut E 2 (HSm L n) 151 [dSn L, .e (.one (.clo 152 [] [.one (.ptr 0 0), .one (.ptr 1 0)]))] (.e (.one (.dp (.s (snD (L.map (afM b))) (L.map (afM b)).length 4)))) (HSm L n)
 rw [List.length_map]
 exact this
theorem K110 (hE : EnvOk E) (L : List Sn) (hv : ∀ x ∈ L, okS x) (hm : L.length ≤ 100000) : (wiC L = -1 → COut E 0 [] 110 [dSn L] (.tup [.one (.v (.int .i64 (-1))), .one (.dp (.s (snD L) L.length 4))]) []) ∧ ∀ (n : Nat) (b : Sn), wiC L = Int.ofNat n → L[n]? = some b → COut E 0 [] 110 [dSn L] (.tup [.one (.v (.int .i64 (Int.ofNat n))), .one (.dp (.s (snD (L.map (afM b))) (L.map (afM b)).length 4))]) [] := by
 have h0 := K107 hE L hv hm
 constructor
 ·intro h
  rw [h] at h0
  exact cOut_start Tryz.func110 rfl (p110z hE (snD L) [] (L.length) 0 0 0 0 zE zE zE 0 0 0 0 0 0 0 0 0 0 0 0 0 0 false [] [] [] h0 (fun j => outK_ret (ends_ret (by kernel_rfl))) fun _ => undef)
 ·intro n b h hb
  rw [h] at h0
  exact cOut_start Tryz.func110 rfl (p110 hE (snD L) (snD (L.map (afM b))) (L.length) ((L.map (afM b)).length) 0 n 0 zE zE zE 0 0 0 0 0 0 0 0 0 0 0 0 0 0 false [] [] [] h0 (K151 hE L hv hm n b hb) (fun j => outK_ret (ends_ret (by kernel_rfl))) fun _ => undef)
end
end Go.Proofs.YtnhabbponbpmfaaGreatDoor
end

/-! SeSm -/
section
open Go Go.Ev
namespace Go.Proofs.YtnhabbponbpmfaaGreatDoor
noncomputable section
theorem firstI_zero : ∀ {l : List Int}, firstI l = 0 → ∀ z ∈ l, z = 0
 | [], _, z, hz => by simp at hz
 | x :: r, h, z, hz => by
  have h : (if x = 0 then firstI r else x) = 0 := h
  by_cases hx : x = 0
  ·rw [if_pos hx] at h
   rcases List.mem_cons.1 hz with rfl | hz
   ·exact hx
   ·exact firstI_zero h z hz
  ·rw [if_neg hx] at h; exact absurd h hx
theorem rgS_zero {x l h : Int} (hr : rgS x l h = 0) : l ≤ x ∧ x ≤ h := by
 unfold rgS at hr
 by_cases h1 : x < l ∨ x > h
 ·rw [if_pos h1] at hr; exact absurd hr (by decide)
 ·omega
theorem snE_zero {pre : List ByteArray} {x : Sn} (h : snE pre x = 0) : okS x ∧ x.o ∉ pre := by
 have hz := firstI_zero (show firstI [nmE x.o, if hasW pre x.o = true then 9 else 0, rgS x.p 0 3, rgS x.f 0 64, rgS x.w 0 1000] = 0 from h)
 have h1 := rgS_zero (hz (rgS x.p 0 3) (by simp))
 have h2 := rgS_zero (hz (rgS x.f 0 64) (by simp))
 have h3 := rgS_zero (hz (rgS x.w 0 1000) (by simp))
 have h4 := hz (if hasW pre x.o = true then 9 else 0) (by simp)
 refine ⟨⟨h1.1, h1.2, h2.1, h2.2, h3.1, h3.2⟩, fun hm => ?_⟩
 rw [if_pos (hasW_iff.2 hm)] at h4
 exact absurd h4 (by decide)
structure VL (L : List Sn) : Prop where
 ok : ∀ x ∈ L, okS x
 nd : (L.map Sn.o).Nodup
theorem snsE_zero : ∀ {L : List Sn} {pre : List ByteArray}, snsE pre L = 0 → (∀ x ∈ L, okS x ∧ x.o ∉ pre) ∧ (L.map Sn.o).Nodup
 | [], _, _ => ⟨fun _ h => by simp at h, List.nodup_nil⟩
 | x :: L, pre, h => by
  by_cases he : snE pre x = 0
  ·rw [snsE_s he] at h
   obtain ⟨h1, h2⟩ := snsE_zero h
   obtain ⟨h3, h4⟩ := snE_zero he
   refine ⟨fun y hy => ?_, ?_⟩
   ·rcases List.mem_cons.1 hy with rfl | hy
    ·exact ⟨h3, h4⟩
    ·exact ⟨(h1 y hy).1, fun hm => (h1 y hy).2 (List.mem_append_left _ hm)⟩
   ·rw [List.map_cons, List.nodup_cons]
    refine ⟨fun hm => ?_, h2⟩
    obtain ⟨y, hy, ho⟩ := List.mem_map.1 hm
    exact (h1 y hy).2 (by rw [ho]; simp)
  ·rw [snsE_e he] at h; exact absurd h he
theorem VL_of {L : List Sn} (h : chkS L = 0) : VL L := by
 unfold chkS at h
 by_cases h8 : 8 < L.length
 ·rw [if_pos h8] at h; exact absurd h (by decide)
 ·rw [if_neg h8] at h
  obtain ⟨h1, h2⟩ := snsE_zero h
  exact ⟨fun x hx => (h1 x hx).1, h2⟩
theorem gt_pos {x : Sn} (h : gtF x = true) : x.f > 0 := of_decide_eq_true h
theorem gt_neg {x : Sn} (h : gtF x = false) : ¬ x.f > 0 := of_decide_eq_false h
theorem ag_some {x b : Sn} (hx : okS x) (hb : gtF b = true) : agS x b > 0 ↔ gtF x = true ∧ rkS x > rkS b := by
 have h1 := gt_pos hb
 have hm : mnF b = 1 := by unfold mnF; split <;> omega
 have h0 := hx.f0
 unfold agS
 rw [hm]
 cases hg : gtF x with
 | true =>
  have h2 := gt_pos hg
  have hn : mnF x = 1 := by unfold mnF; split <;> omega
  rw [hn]
  simp only [cmI, firstI]
  by_cases h3 : rkS x < rkS b
  ·simp [h3]; omega
  ·by_cases h4 : rkS x > rkS b
   ·have : rkS b < rkS x := h4
    simp [h3, this]
   ·have : ¬ rkS b < rkS x := h4
    simp [h3, this]
 | false =>
  have h2 := gt_neg hg
  have hn : mnF x = 0 := by unfold mnF; split <;> omega
  rw [hn]
  simp [cmI, firstI]
theorem ag_none {x b : Sn} (hb : okS b) (hg : gtF x = true) (hn : gtF b = false) : agS x b > 0 := by
 have h1 := gt_pos hg
 have h2 := gt_neg hn
 have h3 := hb.f0
 have e1 : mnF x = 1 := by unfold mnF; split <;> omega
 have e2 : mnF b = 0 := by unfold mnF; split <;> omega
 unfold agS
 rw [e1, e2]
 simp [cmI, firstI]
theorem idx_first : ∀ (l : List Sn) (i k : Nat) (b : Sn), l[k]? = some b → (∀ j, j < k → l[j]? ≠ some b) → idxP (eqN b) l i = Int.ofNat (i + k)
 | [], _, k, b, h, _ => by simp at h
 | x :: r, i, 0, b, h, _ => by
  have : x = b := by simpa using h
  rw [idxP_e (eqN_iff.2 this.symm)]; rfl
 | x :: r, i, k + 1, b, h, hj => by
  have hne : eqN b x = false := by
   cases hq : eqN b x with
   | false => rfl
   | true => exact absurd (by rw [eqN_iff.1 hq]; rfl) (hj 0 (Nat.succ_pos _))
  rw [idxP_s hne, idx_first r (i + 1) k b (by simpa using h) (fun j hk => by simpa using hj (j + 1) (by omega)), show i + 1 + k = i + (k + 1) by omega]
theorem mx_cons (b x : Sn) (r : List Sn) : mxS b (x :: r) = if agS x b > 0 then mxS x r else mxS b r := rfl
theorem wi_some (L : List Sn) (hv : ∀ x ∈ L, okS x) : ∀ (r P : List Sn) (k : Nat) (y : Sn), L = P ++ r → k < P.length → L[k]? = some y → gtF y = true → (∀ u ∈ P, gtF u = true → rkS u ≤ rkS y) → (∀ j, j < k → L[j]? ≠ some y) → wiO r P.length (some (k, y)) = idxP (eqN (mxS y r)) L 0
 | [], P, k, y, _, _, hy, _, _, hj => by
  rw [show mxS y [] = y from rfl, idx_first L 0 k y hy hj, Nat.zero_add]; rfl
 | x :: r, P, k, y, hL, hk, hy, hg, hu, hj => by
  have hx : x ∈ L := by rw [hL]; simp
  have hag := ag_some (hv x hx) hg
  have hw : wiO (x :: r) P.length (some (k, y)) = if gtF x = true ∧ rkS x > rkS y then wiO r (P.length + 1) (some (P.length, x)) else wiO r (P.length + 1) (some (k, y)) := rfl
  have hl : (P ++ [x]).length = P.length + 1 := by simp
  have hL' : L = (P ++ [x]) ++ r := by rw [hL]; simp
  have hgx : L[P.length]? = some x := by rw [hL]; simp
  rw [hw, mx_cons, ← hl]
  by_cases h : gtF x = true ∧ rkS x > rkS y
  ·rw [if_pos h, if_pos (hag.2 h)]
   refine wi_some L hv r (P ++ [x]) P.length x hL' (by omega) hgx h.1 (fun u hm hgu => ?_) (fun j hjl he => ?_)
   ·rcases List.mem_append.1 hm with hm | hm
    ·have h1 := hu u hm hgu; have h2 := h.2; omega
    ·rw [List.mem_singleton.1 hm]; omega
   ·have hm : x ∈ P := by
     rw [hL, List.getElem?_append_left hjl] at he
     exact List.mem_of_getElem? he
    have h1 := hu x hm h.1; have h2 := h.2; omega
  ·rw [if_neg h, if_neg (fun hp => h (hag.1 hp))]
   refine wi_some L hv r (P ++ [x]) k y hL' (by omega) hy hg (fun u hm hgu => ?_) hj
   rcases List.mem_append.1 hm with hm | hm
   ·exact hu u hm hgu
   ·rw [List.mem_singleton.1 hm] at hgu ⊢
    rcases Int.lt_or_le (rkS y) (rkS x) with h1 | h1
    ·exact absurd ⟨hgu, h1⟩ h
    ·exact h1
theorem any_app {P r : List Sn} (h : ∀ u ∈ P, gtF u = false) : (P ++ r).any gtF = r.any gtF := by
 rw [List.any_append]
 have : P.any gtF = false := by
  rw [List.any_eq_false]
  intro u hu; rw [h u hu]; decide
 rw [this, Bool.false_or]
theorem wi_none (L : List Sn) (hv : ∀ x ∈ L, okS x) : ∀ (r P : List Sn) (b : Sn), L = P ++ r → (∀ u ∈ P, gtF u = false) → okS b → gtF b = false → wiO r P.length none = if L.any gtF = true then idxP (eqN (mxS b r)) L 0 else -1
 | [], P, b, hL, hP, _, _ => by
  rw [hL, any_app hP]; rfl
 | x :: r, P, b, hL, hP, hb, hg => by
  have hx : x ∈ L := by rw [hL]; simp
  have hl : (P ++ [x]).length = P.length + 1 := by simp
  have hL' : L = (P ++ [x]) ++ r := by rw [hL]; simp
  have hgx : L[P.length]? = some x := by rw [hL]; simp
  have hw : wiO (x :: r) P.length none = if gtF x = true then wiO r (P.length + 1) (some (P.length, x)) else wiO r (P.length + 1) none := rfl
  rw [hw, mx_cons, ← hl]
  cases h : gtF x with
  | true =>
   rw [if_pos rfl, if_pos (ag_none hb h hg), if_pos (by rw [hL, any_app hP, List.any_cons, h, Bool.true_or])]
   refine wi_some L hv r (P ++ [x]) P.length x hL' (by omega) hgx h (fun u hm hgu => ?_) (fun j hjl he => ?_)
   ·rcases List.mem_append.1 hm with hm | hm
    ·rw [hP u hm] at hgu; exact absurd hgu (by decide)
    ·rw [List.mem_singleton.1 hm]; omega
   ·have hm : x ∈ P := by
     rw [hL, List.getElem?_append_left hjl] at he
     exact List.mem_of_getElem? he
    rw [hP x hm] at h; exact absurd h (by decide)
  | false =>
   rw [if_neg (by decide)]
   have hP' : ∀ u ∈ P ++ [x], gtF u = false := fun u hm => by
    rcases List.mem_append.1 hm with hm | hm
    ·exact hP u hm
    ·rw [List.mem_singleton.1 hm]; exact h
   by_cases ha : agS x b > 0
   ·rw [if_pos ha]; exact wi_none L hv r (P ++ [x]) x hL' hP' (hv x hx) h
   ·rw [if_neg ha]; exact wi_none L hv r (P ++ [x]) b hL' hP' hb hg
theorem wi_eq (L : List Sn) (hv : ∀ x ∈ L, okS x) : wiC L = wiN L := by
 rcases L with _ | ⟨x, r⟩
 ·rfl
 ·have e : wiN (x :: r) = if gtF x = true then wiO r 1 (some (0, x)) else wiO r 1 none := rfl
  rw [e, show wiC (x :: r) = if (x :: r).any gtF = true then idxP (eqN (mxS x r)) (x :: r) 0 else -1 from rfl]
  cases h : gtF x with
  | true =>
   rw [if_pos rfl, if_pos (by rw [List.any_cons, h, Bool.true_or])]
   exact (wi_some (x :: r) hv r [x] 0 x rfl (by simp) rfl h (fun u hm hgu => by rw [List.mem_singleton.1 hm]; omega) (fun j hj => absurd hj (by omega))).symm
  | false =>
   rw [if_neg (show ¬ (false = true) by decide)]
   exact (wi_none (x :: r) hv r [x] x rfl (fun u hm => by rw [List.mem_singleton.1 hm]; exact h) (hv x (by simp)) h).symm
theorem wi_spec_s (L : List Sn) : ∀ (r P : List Sn) (k : Nat) (y : Sn), L = P ++ r → L[k]? = some y → gtF y = true → ∃ n b, wiO r P.length (some (k, y)) = Int.ofNat n ∧ L[n]? = some b ∧ gtF b = true
 | [], P, k, y, _, hy, hg => ⟨k, y, rfl, hy, hg⟩
 | x :: r, P, k, y, hL, hy, hg => by
  have hw : wiO (x :: r) P.length (some (k, y)) = if gtF x = true ∧ rkS x > rkS y then wiO r (P.length + 1) (some (P.length, x)) else wiO r (P.length + 1) (some (k, y)) := rfl
  have hl : (P ++ [x]).length = P.length + 1 := by simp
  have hL' : L = (P ++ [x]) ++ r := by rw [hL]; simp
  have hgx : L[P.length]? = some x := by rw [hL]; simp
  rw [hw, ← hl]
  by_cases h : gtF x = true ∧ rkS x > rkS y
  ·rw [if_pos h]; exact wi_spec_s L r (P ++ [x]) P.length x hL' hgx h.1
  ·rw [if_neg h]; exact wi_spec_s L r (P ++ [x]) k y hL' hy hg
theorem wi_spec_n (L : List Sn) : ∀ (r P : List Sn), L = P ++ r → wiO r P.length none = -1 ∨ ∃ n b, wiO r P.length none = Int.ofNat n ∧ L[n]? = some b ∧ gtF b = true
 | [], _, _ => .inl rfl
 | x :: r, P, hL => by
  have hw : wiO (x :: r) P.length none = if gtF x = true then wiO r (P.length + 1) (some (P.length, x)) else wiO r (P.length + 1) none := rfl
  have hl : (P ++ [x]).length = P.length + 1 := by simp
  have hL' : L = (P ++ [x]) ++ r := by rw [hL]; simp
  have hgx : L[P.length]? = some x := by rw [hL]; simp
  rw [hw, ← hl]
  by_cases h : gtF x = true
  ·rw [if_pos h]; exact .inr (wi_spec_s L r (P ++ [x]) P.length x hL' hgx h)
  ·rw [if_neg h]; exact wi_spec_n L r (P ++ [x]) hL'
theorem wi_spec (L : List Sn) : wiN L = -1 ∨ ∃ n b, wiN L = Int.ofNat n ∧ L[n]? = some b ∧ gtF b = true := wi_spec_n L L [] rfl
def afR (k : Nat) : Nat → List Sn → List Sn
 | _, [] => []
 | i, x :: r => chS (decide (i = k)) x :: afR k (i + 1) r
theorem afR_map (b : Sn) (k : Nat) : ∀ (r : List Sn) (i : Nat), (∀ j x, r[j]? = some x → eqN x b = decide (i + j = k)) → afR k i r = r.map (afM b)
 | [], _, _ => rfl
 | x :: r, i, h => by
  have h0 := h 0 x rfl
  rw [Nat.add_zero] at h0
  rw [List.map_cons, ← afR_map b k r (i + 1) (fun j y hy => by have := h (j + 1) y (by simpa using hy); rwa [show i + (j + 1) = i + 1 + j by omega] at this)]
  show chS (decide (i = k)) x :: _ = chS (eqN x b) x :: _
  rw [h0]
theorem nd_inj {L : List Sn} (h : (L.map Sn.o).Nodup) {j k : Nat} {x : Sn} (hj : L[j]? = some x) (hk : L[k]? = some x) : j = k := by
 have hp := List.pairwise_iff_getElem.1 h
 obtain ⟨hj1, hj2⟩ := List.getElem?_eq_some_iff.1 hj
 obtain ⟨hk1, hk2⟩ := List.getElem?_eq_some_iff.1 hk
 rcases Nat.lt_trichotomy j k with hlt | he | hlt
 ·exact absurd (by rw [List.getElem_map, List.getElem_map, hj2, hk2]) (hp j k (by simpa using hj1) (by simpa using hk1) hlt)
 ·exact he
 ·exact absurd (by rw [List.getElem_map, List.getElem_map, hj2, hk2]) (hp k j (by simpa using hk1) (by simpa using hj1) hlt)
theorem af_eq {L : List Sn} (h : VL L) {k : Nat} {b : Sn} (hb : L[k]? = some b) : afR k 0 L = L.map (afM b) := by
 refine afR_map b k L 0 fun j x hx => ?_
 rw [Nat.zero_add]
 cases hq : eqN x b with
 | true =>
  rw [eqN_iff.1 hq] at hx
  exact (decide_eq_true (nd_inj h.nd hx hb)).symm
 | false =>
  refine (decide_eq_false fun he => ?_).symm
  subst he
  rw [hx] at hb
  have : x = b := by simpa using hb
  rw [eqN_iff.2 this] at hq
  exact absurd hq (by decide)
theorem ch_o (c : Bool) (x : Sn) : (chS c x).o = x.o := by
 unfold chS
 split
 ·rfl
 ·split <;> rfl
theorem ch_ok {x : Sn} {c : Bool} (h : okS x) (hc : c = true → x.f > 0) : okS (chS c x) := by
 obtain ⟨a1, a2, a3, a4, a5, a6⟩ := h
 unfold chS
 split
 ·rename_i h
  have := hc h
  exact ⟨a1, a2, by show 0 ≤ x.f - 1; omega, by show x.f - 1 ≤ 64; omega, by show (0 : Int) ≤ 0; omega, by show (0 : Int) ≤ 1000; omega⟩
 ·split
  ·refine ⟨a1, a2, a3, a4, ?_, ?_⟩
   ·show 0 ≤ (if 1000 < x.w + 1 then 1000 else x.w + 1); split <;> omega
   ·show (if 1000 < x.w + 1 then 1000 else x.w + 1) ≤ 1000; split <;> omega
  ·exact ⟨a1, a2, a3, a4, by show (0 : Int) ≤ 0; omega, by show (0 : Int) ≤ 1000; omega⟩
theorem VL.af {L : List Sn} (h : VL L) {b : Sn} (hg : gtF b = true) : VL (L.map (afM b)) := by
 refine ⟨fun y hy => ?_, ?_⟩
 ·obtain ⟨x, hx, rfl⟩ := List.mem_map.1 hy
  exact ch_ok (h.ok x hx) fun hq => by rw [eqN_iff.1 hq]; exact gt_pos hg
 ·rw [List.map_map, show (Sn.o ∘ afM b) = Sn.o from funext fun x => ch_o _ x]
  exact h.nd
end
end Go.Proofs.YtnhabbponbpmfaaGreatDoor
end
