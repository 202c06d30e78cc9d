/-
  Part of the proof: SeSa, SeSb.
-/
import Derived.Test.YtnhabbponbpmfaaGreatDoorSeZG

/-! SeSa -/
section
open Go Go.Ev
namespace Go.Proofs.YtnhabbponbpmfaaGreatDoor
noncomputable section
set_option maxRecDepth 100000
set_option maxHeartbeats 20000000
abbrev ztSa0 : List Item := [.code (atC [1, 1, 1, 0, 1, 0, 0] (bodyOf Tryz.f59)), .inLoop (atC [1, 1, 1, 0, 1, 0, 0] (bodyOf Tryz.f59)), .inBlock 0, .code (atC [1, 1, 1, 1] (bodyOf Tryz.f59))]
abbrev ztSa1 : List Item := [.code (atC [1, 0, 1, 0, 0] (bodyOf Tryz.f114)), .inLoop (atC [1, 0, 1, 0, 0] (bodyOf Tryz.f114)), .inBlock 0, .code (atC [1, 1] (bodyOf Tryz.f114))]
abbrev ztSa2 : List Item := [.code (atC [1, 0, 1, 0, 0] (bodyOf Tryz.f156)), .inLoop (atC [1, 0, 1, 0, 0] (bodyOf Tryz.f156)), .inBlock 0, .code (atC [1, 1] (bodyOf Tryz.f156))]
abbrev ztSa3 : List Item := [.code (atC [1, 0, 1, 0, 0] (bodyOf Tryz.f52)), .inLoop (atC [1, 0, 1, 0, 0] (bodyOf Tryz.f52)), .inBlock 0, .code (atC [1, 1] (bodyOf Tryz.f52))]
def s113 (_C _W : List DT) (_n _m _i _k _N : Nat) (o _q : ByteArray) (_p _f _s _x _y _z _e _g _h _u _v : Int) (_a _b _w : Bool) (_D _Y : List AC) (_kv _kv2 : List (Value × Value)) (_j : Nat → Value) : St := startK Tryz.f113 [] [.e (.one (.v (.string o)))]
def s117 (_C _W : List DT) (_n _m _i _k _N : Nat) (o _q : ByteArray) (_p _f _s _x _y _z _e _g _h _u _v : Int) (_a _b _w : Bool) (_D _Y : List AC) (_kv _kv2 : List (Value × Value)) (_j : Nat → Value) : St := startK Tryz.f117 [] [.e (.one (.v (.string o)))]
def s114 (_C W : List DT) (_n m _i _k _N : Nat) (o _q : ByteArray) (_p _f _s _x _y _z _e _g _h _u _v : Int) (_a _b _w : Bool) (_D _Y : List AC) (_kv _kv2 : List (Value × Value)) (_j : Nat → Value) : St := startK Tryz.f114 [] [.e (.one (.dp (.s W m 1))), .e (.one (.v (.string o)))]
def s52 (C _W : List DT) (n _m _i _k _N : Nat) (_o _q : ByteArray) (_p _f _s _x _y _z _e _g _h _u _v : Int) (_a _b _w : Bool) (_D _Y : List AC) (_kv _kv2 : List (Value × Value)) (_j : Nat → Value) : St := startK Tryz.f52 [] [.e (.one (.dp (.s C n 4)))]
def s59 (C _W : List DT) (n _m _i _k _N : Nat) (_o _q : ByteArray) (_p _f _s _x _y _z _e _g _h _u _v : Int) (_a _b _w : Bool) (_D _Y : List AC) (_kv _kv2 : List (Value × Value)) (_j : Nat → Value) : St := startK Tryz.f59 [] [.e (.one (.dp (.s C n 4)))]
def s69 (C _W : List DT) (n _m _i _k _N : Nat) (_o _q : ByteArray) (_p _f _s _x _y _z _e _g _h _u _v : Int) (_a _b _w : Bool) (_D _Y : List AC) (_kv _kv2 : List (Value × Value)) (_j : Nat → Value) : St := startK Tryz.f69 [] [.e (.one (.dp (.s C n 4)))]
def s116 (_C _W : List DT) (_n _m _i _k _N : Nat) (o _q : ByteArray) (p f s _x _y _z _e _g _h _u _v : Int) (_a _b _w : Bool) (_D _Y : List AC) (kv _kv2 : List (Value × Value)) (_j : Nat → Value) : St := startK Tryz.f116 [some ⟨[], 0, 0, false, .map kv⟩, bK [.mp 0] 1 195, bK (zSt o p f s) 4 138] [.e (.agg (zSt o p f s)), .e (.one (.ptr 1 0))]
def s156 (C _W : List DT) (n _m _i _k _N : Nat) (_o _q : ByteArray) (_p _f _s _x _y _z _e _g _h _u _v : Int) (_a _b _w : Bool) (_D _Y : List AC) (kv _kv2 : List (Value × Value)) (_j : Nat → Value) : St := startK Tryz.f156 [some ⟨[], 0, 0, false, .map kv⟩, bK [.mp 0] 1 195] [.e (.one (.dp (.s C n 4))), .e (.one (.clo 116 [] [.one (.ptr 1 0)]))]
def s115 (C _W : List DT) (n _m _i _k _N : Nat) (_o _q : ByteArray) (_p _f _s _x _y _z _e _g _h _u _v : Int) (_a _b _w : Bool) (_D _Y : List AC) (kv _kv2 : List (Value × Value)) (_j : Nat → Value) : St := startK Tryz.f115 [some ⟨[], 0, 0, false, .map kv⟩, bK [.mp 0] 1 195] [.e (.one (.dp (.s C n 4))), iI 8, .e (.one (.clo 116 [] [.one (.ptr 1 0)]))]
def q114 (_C W : List DT) (_n m i _k _N : Nat) (o _q : ByteArray) (_p _f _s _x _y _z _e _g _h _u _v : Int) (_a _b _w : Bool) (_D _Y : List AC) (_kv _kv2 : List (Value × Value)) (j : Nat → Value) : St := ⟨[], ztSa1, mkT j [(0, .e (.one (.dp (.s W m 1)))), (1, .e (.one (.v (.string o)))), (5, (iI (Int.ofNat i)))] 18 0⟩
def q52 (C _W : List DT) (n _m i _k _N : Nat) (_o _q : ByteArray) (_p _f _s _x _y _z _e _g _h _u _v : Int) (_a _b _w : Bool) (_D _Y : List AC) (_kv _kv2 : List (Value × Value)) (j : Nat → Value) : St := ⟨[], ztSa3, mkT j [(0, .e (.one (.dp (.s C n 4)))), (3, (iI (Int.ofNat i)))] 20 0⟩
def q156 (C _W : List DT) (n _m i _k _N : Nat) (_o _q : ByteArray) (_p _f _s _x _y _z _e _g _h _u _v : Int) (_a _b _w : Bool) (_D _Y : List AC) (kv _kv2 : List (Value × Value)) (j : Nat → Value) : St := ⟨[.some ⟨[], 0, 0, false, .map kv⟩, bK [.mp 0] 1 195], ztSa2, mkT j [(1, .e (.one (.clo 116 [] [.one (.ptr 1 0)]))), (8, .e (.one (.dp (.s C n 4)))), (9, (iI (Int.ofNat n))), (10, (iI (Int.ofNat i)))] 21 0⟩
def q59n (C _W : List DT) (n _m i _k _N : Nat) (_o _q : ByteArray) (_p _f _s _x _y _z _e _g _h _u _v : Int) (_a _b _w : Bool) (_D _Y : List AC) (_kv _kv2 : List (Value × Value)) (j : Nat → Value) : St := ⟨[], ztSa0, mkT j [(0, .e (.one (.dp (.s C n 4)))), (3, .e (.one (.v (.slice none 0 0)))), (4, (iI (Int.ofNat i)))] 47 0⟩
def q59 (C _W : List DT) (n _m i _k N : Nat) (_o _q : ByteArray) (_p _f _s _x _y _z _e _g _h _u _v : Int) (_a _b _w : Bool) (D _Y : List AC) (_kv _kv2 : List (Value × Value)) (j : Nat → Value) : St := ⟨[some ⟨D, N, 9, false, .cells⟩], ztSa0, mkT j [(0, .e (.one (.dp (.s C n 4)))), (3, .e (.one (.slc 0 0 N 1 N false))), (4, (iI (Int.ofNat i)))] 47 0⟩
def A113__end (_C : List DT) (_W : List DT) (_n _m _i _k _N : Nat) (o : ByteArray) (_q : ByteArray) (_p _f _s _x _y _z _e _g _h _u _v : Int) (_a _b _w : Bool) (_D _Y : List AC) (_kv : List (Value × Value)) (_kv2 : List (Value × Value)) (j : Nat → Value) : St := ⟨[], [.code .ret], mkT j [(2, (iI (A65_r0 (!nameB o) (Int.ofNat (nat_lit 8)))))] 7 0⟩
theorem A113_ (hE : EnvOk E) (C : List DT) (W : List DT) (n m i k N : Nat) (o : ByteArray) (q : ByteArray) (p f s x y z e g h u v : Int) (a b w : Bool) (D Y : List AC) (kv : List (Value × Value)) (kv2 : List (Value × Value)) : Sg 0 0 (s113 C W n m i k N o q p f s x y z e g h u v a b w D Y kv kv2) (A113__end C W n m i k N o q p f s x y z e g h u v a b w D Y kv kv2) := fun ho j =>
 oS hE [.run 3, .ops [(1, .c0 (iB (nameB o))), (3, .c0 (iI (A65_r0 (!nameB o) (Int.ofNat (nat_lit 8)))))] []] [2] (ps := [COut E 0 [] 155 [.e (.one (.v (.string o)))] (iB (nameB o)) [], ([] : List Nat) = [], COut E 0 [] 65 [(iB (!nameB o)), (iI 8)] (iI (A65_r0 (!nameB o) (Int.ofNat (nat_lit 8)))) [], ([] : List Nat) = []]) ⟨(nK20 hE _), rfl, (A65_all hE _ _), rfl, trivial⟩
  ho
theorem A113__c (hE : EnvOk E) (C : List DT) (W : List DT) (n m i k N : Nat) (o : ByteArray) (q : ByteArray) (p f s x y z e g h u v : Int) (a b w : Bool) (D Y : List AC) (kv : List (Value × Value)) (kv2 : List (Value × Value))   : COut E 0 [] 113 [.e (.one (.v (.string o)))] (iI (A65_r0 (!nameB o) (Int.ofNat (nat_lit 8)))) [] := cOut_start Tryz.func113 rfl (A113_ hE C W n m i k N o q p f s x y z e g h u v a b w D Y kv kv2   zR fun _ => undef)
theorem A113_all (hE : EnvOk E) (C : List DT) (W : List DT) (n m i k N : Nat) (o : ByteArray) (q : ByteArray) (p f s x y z e g h u v : Int) (a b w : Bool) (D Y : List AC) (kv : List (Value × Value)) (kv2 : List (Value × Value)) : COut E 0 [] 113 [.e (.one (.v (.string o)))] (iI (A65_r0 (!nameB o) (Int.ofNat (nat_lit 8)))) [] := by
 exact A113__c hE C W n m i k N o q p f s x y z e g h u v a b w D Y kv kv2  
def A117__end (_C : List DT) (_W : List DT) (_n _m _i _k _N : Nat) (o : ByteArray) (_q : ByteArray) (_p _f _s _x _y _z _e _g _h _u _v : Int) (_a _b _w : Bool) (_D _Y : List AC) (_kv : List (Value × Value)) (_kv2 : List (Value × Value)) (j : Nat → Value) : St := ⟨[], [.code .ret], mkT j [(2, (iI (A80_r0 (!nameB o) (Int.ofNat (nat_lit 8)))))] 7 0⟩
theorem A117_ (hE : EnvOk E) (C : List DT) (W : List DT) (n m i k N : Nat) (o : ByteArray) (q : ByteArray) (p f s x y z e g h u v : Int) (a b w : Bool) (D Y : List AC) (kv : List (Value × Value)) (kv2 : List (Value × Value)) : Sg 0 0 (s117 C W n m i k N o q p f s x y z e g h u v a b w D Y kv kv2) (A117__end C W n m i k N o q p f s x y z e g h u v a b w D Y kv kv2) := fun ho j =>
 oS hE [.run 3, .ops [(1, .c0 (iB (nameB o))), (3, .c0 (iI (A80_r0 (!nameB o) (Int.ofNat (nat_lit 8)))))] []] [2] (ps := [COut E 0 [] 157 [.e (.one (.v (.string o)))] (iB (nameB o)) [], ([] : List Nat) = [], COut E 0 [] 80 [(iB (!nameB o)), (iI 8)] (iI (A80_r0 (!nameB o) (Int.ofNat (nat_lit 8)))) [], ([] : List Nat) = []]) ⟨(nK19 hE _), rfl, (A80_all hE _ _), rfl, trivial⟩
  ho
theorem A117__c (hE : EnvOk E) (C : List DT) (W : List DT) (n m i k N : Nat) (o : ByteArray) (q : ByteArray) (p f s x y z e g h u v : Int) (a b w : Bool) (D Y : List AC) (kv : List (Value × Value)) (kv2 : List (Value × Value))   : COut E 0 [] 117 [.e (.one (.v (.string o)))] (iI (A80_r0 (!nameB o) (Int.ofNat (nat_lit 8)))) [] := cOut_start Tryz.func117 rfl (A117_ hE C W n m i k N o q p f s x y z e g h u v a b w D Y kv kv2   zR fun _ => undef)
theorem A117_all (hE : EnvOk E) (C : List DT) (W : List DT) (n m i k N : Nat) (o : ByteArray) (q : ByteArray) (p f s x y z e g h u v : Int) (a b w : Bool) (D Y : List AC) (kv : List (Value × Value)) (kv2 : List (Value × Value)) : COut E 0 [] 117 [.e (.one (.v (.string o)))] (iI (A80_r0 (!nameB o) (Int.ofNat (nat_lit 8)))) [] := by
 exact A117__c hE C W n m i k N o q p f s x y z e g h u v a b w D Y kv kv2  
def p114a_end (_C : List DT) (W : List DT) (_n m _i _k _N : Nat) (o : ByteArray) (_q : ByteArray) (_p _f _s _x _y _z _e _g _h _u _v : Int) (_a _b _w : Bool) (_D _Y : List AC) (_kv : List (Value × Value)) (_kv2 : List (Value × Value)) (j : Nat → Value) : St := ⟨[], ztSa1, mkT j [(0, .e (.one (.dp (.s W m 1)))), (1, .e (.one (.v (.string o)))), (5, (iI 0))] 18 0⟩
theorem p114a (hE : EnvOk E) (C : List DT) (W : List DT) (n m i k N : Nat) (o : ByteArray) (q : ByteArray) (p f s x y z e g h u v : Int) (a b w : Bool) (D Y : List AC) (kv : List (Value × Value)) (kv2 : List (Value × Value)) : Sg 0 0 (s114 C W n m i k N o q p f s x y z e g h u v a b w D Y kv kv2) (p114a_end C W n m i k N o q p f s x y z e g h u v a b w D Y kv kv2) := fun ho j =>
 oS hE [.run 7] [0, 1, 5] (ps := []) trivial
  ho
def p52a_end (C : List DT) (_W : List DT) (n _m _i _k _N : Nat) (_o : ByteArray) (_q : ByteArray) (_p _f _s _x _y _z _e _g _h _u _v : Int) (_a _b _w : Bool) (_D _Y : List AC) (_kv : List (Value × Value)) (_kv2 : List (Value × Value)) (j : Nat → Value) : St := ⟨[], ztSa3, mkT j [(0, .e (.one (.dp (.s C n 4)))), (3, (iI 0))] 20 0⟩
theorem p52a (hE : EnvOk E) (C : List DT) (W : List DT) (n m i k N : Nat) (o : ByteArray) (q : ByteArray) (p f s x y z e g h u v : Int) (a b w : Bool) (D Y : List AC) (kv : List (Value × Value)) (kv2 : List (Value × Value)) : Sg 0 0 (s52 C W n m i k N o q p f s x y z e g h u v a b w D Y kv kv2) (p52a_end C W n m i k N o q p f s x y z e g h u v a b w D Y kv kv2) := fun ho j =>
 oS hE [.run 7] [0, 3] (ps := []) trivial
  ho
def p59z_end (_C : List DT) (_W : List DT) (_n _m _i _k _N : Nat) (_o : ByteArray) (_q : ByteArray) (_p _f _s _x _y _z _e _g _h _u _v : Int) (_a _b _w : Bool) (_D _Y : List AC) (_kv : List (Value × Value)) (_kv2 : List (Value × Value)) (j : Nat → Value) : St := ⟨[], [.code .ret, .code (atC [1, 1] (bodyOf Tryz.f59))], mkT j [(2, (iI 5))] 47 0⟩
theorem p59z (hE : EnvOk E) (C : List DT) (W : List DT) (n m i k N : Nat) (o : ByteArray) (q : ByteArray) (p f s x y z e g h u v : Int) (a b w : Bool) (D Y : List AC) (kv : List (Value × Value)) (kv2 : List (Value × Value)) (h0 : (decide ((↑n : Int) > (8 : Int)) : Bool) = true) : Sg 0 0 (s59 C W n m i k N o q p f s x y z e g h u v a b w D Y kv kv2) (p59z_end C W n m i k N o q p f s x y z e g h u v a b w D Y kv kv2) := fun ho j =>
 oS hE [.run 4, .ops [(1, .d .len)] [], .cond true, .run 2] [2] (aP h0 <| aZ)
  ho
def p59a_end (C : List DT) (_W : List DT) (n _m _i _k _N : Nat) (_o : ByteArray) (_q : ByteArray) (_p _f _s _x _y _z _e _g _h _u _v : Int) (_a _b _w : Bool) (_D _Y : List AC) (_kv : List (Value × Value)) (_kv2 : List (Value × Value)) (j : Nat → Value) : St := ⟨[], ztSa0, mkT j [(0, .e (.one (.dp (.s C n 4)))), (3, .e (.one (.v (.slice none 0 0)))), (4, (iI 0))] 47 0⟩
theorem p59a (hE : EnvOk E) (C : List DT) (W : List DT) (n m i k N : Nat) (o : ByteArray) (q : ByteArray) (p f s x y z e g h u v : Int) (a b w : Bool) (D Y : List AC) (kv : List (Value × Value)) (kv2 : List (Value × Value)) (h0 : (decide ((↑n : Int) > (8 : Int)) : Bool) = false) : Sg 0 0 (s59 C W n m i k N o q p f s x y z e g h u v a b w D Y kv kv2) (p59a_end C W n m i k N o q p f s x y z e g h u v a b w D Y kv kv2) := fun ho j =>
 oS hE [.run 4, .ops [(1, .d .len)] [], .cond false, .run 8] [0, 3, 4] (aP h0 <| aZ)
  ho
def p69_end (_C : List DT) (_W : List DT) (_n _m _i _k _N : Nat) (_o : ByteArray) (_q : ByteArray) (_p _f _s _x _y _z e _g _h _u _v : Int) (_a _b _w : Bool) (_D _Y : List AC) (_kv : List (Value × Value)) (_kv2 : List (Value × Value)) (j : Nat → Value) : St := ⟨[], [.code .ret], mkT j [(2, (iI e))] 8 0⟩
theorem p69 (hE : EnvOk E) (C : List DT) (W : List DT) (n m i k N : Nat) (o : ByteArray) (q : ByteArray) (p f s x y z e g h u v : Int) (a b w : Bool) (D Y : List AC) (kv : List (Value × Value)) (kv2 : List (Value × Value)) (h0 : COut E 0 [.some ⟨[], 0, 0, false, .map []⟩, bK [.mp 0] 1 195] 115 [.e (.one (.dp (.s C n 4))), (iI 8), .e (.one (.clo 116 [] [.one (.ptr 1 0)]))] (iI e) [.some ⟨[], 0, 0, false, .map kv2⟩, bK [.mp 0] 1 195]) : Sg 0 0 (s69 C W n m i k N o q p f s x y z e g h u v a b w D Y kv kv2) (p69_end C W n m i k N o q p f s x y z e g h u v a b w D Y kv kv2) := fun ho j =>
 oS hE [.run 5, .ops [(2, .cw (iI e) [.some ⟨[], 0, 0, false, .map kv2⟩, bK [.mp 0] 1 195])] []] [2] (s' := fun j => ⟨[.some ⟨[], 0, 0, false, .map kv2⟩, bK [.mp 0] 1 195], [.code .ret], mkT j [(2, (iI e))] 8 0⟩) (aP h0 <| aZ)
  fun j => gZ [] (ho j)
def p116_end (_C : List DT) (_W : List DT) (_n _m _i _k _N : Nat) (o : ByteArray) (_q : ByteArray) (p f s _x _y z _e _g _h _u _v : Int) (_a _b _w : Bool) (_D _Y : List AC) (_kv : List (Value × Value)) (kv2 : List (Value × Value)) (j : Nat → Value) : St := ⟨[.some ⟨[], 0, 0, false, .map kv2⟩, bK [.mp 0] 1 195, bK (zSt o p f s) 4 138], [.code .ret], mkT j [(3, (iI z))] 28 0⟩
theorem p116 (hE : EnvOk E) (C : List DT) (W : List DT) (n m i k N : Nat) (o : ByteArray) (q : ByteArray) (p f s x y z e g h u v : Int) (a b w : Bool) (D Y : List AC) (kv : List (Value × Value)) (kv2 : List (Value × Value)) (h0 : (seeKV { desc := TypeDesc.string, str := "string", size := (1 : Nat), bytes := (16 : Nat), hasPointers := true, align := (8 : Nat), fieldAlign := (8 : Nat), zero := some (Value.string { data := #[] : ByteArray }), comparable := true, methods := #[] : TypeInfo }.desc (Value.string o) kv (Value.bool false) : Option (Value × Bool)) = (.some (.bool w, w))) (h2 : (Option.map (putKV (Value.string o) (Value.bool true) kv) (findKV { desc := TypeDesc.string, str := "string", size := (1 : Nat), bytes := (16 : Nat), hasPointers := true, align := (8 : Nat), fieldAlign := (8 : Nat), zero := some (Value.string { data := #[] : ByteArray }), comparable := true, methods := #[] : TypeInfo }.desc (Value.string o) kv (0 : Nat)) : Option (List (Value × Value))) = (.some kv2)) (h4 : COut E 0 [] 117 [.e (.one (.v (.string o)))] (iI e) []) (h6 : COut E 0 [] 80 [(iB w), (iI 9)] (iI g) []) (h8 : COut E 0 [] 79 [(iI p), (iI 0), (iI 3)] (iI h) []) (h10 : COut E 0 [] 79 [(iI f), (iI 0), (iI 64)] (iI u) []) (h13 : COut E 0 [] 79 [(iI s), (iI 0), (iI 1000)] (iI v) []) (h15 : COut E 5 [.some ⟨[], 0, 0, false, .map kv2⟩, bK [.mp 0] 1 195, bK (zSt o p f s) 4 138, bK (zSt o p f s) 4 138, bK [.v (.int .i64 e), .v (.int .i64 g), .v (.int .i64 h), .v (.int .i64 u), .v (.int .i64 v)] 5 31] 78 [.e (.one (.slc 4 0 5 1 5 true))] (iI z) [.some ⟨[], 0, 0, false, .map kv2⟩, bK [.mp 0] 1 195, bK (zSt o p f s) 4 138, bK (zSt o p f s) 4 138, bK [.v (.int .i64 e), .v (.int .i64 g), .v (.int .i64 h), .v (.int .i64 u), .v (.int .i64 v)] 5 31]) : Sg 0 3 (s116 C W n m i k N o q p f s x y z e g h u v a b w D Y kv kv2) (p116_end C W n m i k N o q p f s x y z e g h u v a b w D Y kv kv2) := fun ho j =>
 oS hE [.run 3, .ops [(3, .lk (.bool w) w)] [], .run 1, .ops [(3, .mu kv2)] [], .run 1, .ops [(2, .c0 (iI e)), (4, .c0 (iI g)), (7, .c0 (iI h)), (10, .c0 (iI u)), (13, .c0 (iI v)), (15, .d (.c1 (iI z)))] []] [3] (s' := fun j => ⟨[.some ⟨[], 0, 0, false, .map kv2⟩, bK [.mp 0] 1 195, bK (zSt o p f s) 4 138, bK (zSt o p f s) 4 138, bK [.v (.int .i64 e), .v (.int .i64 g), .v (.int .i64 h), .v (.int .i64 u), .v (.int .i64 v)] 5 31], [.code .ret], mkT j [(3, (iI z))] 28 0⟩) (aP h0 <| aP (rfl : (true : Bool) = true) <| aP h2 <| aP (rfl : (true : Bool) = true) <| aP h4 <| aN <| aP h6 <| aN <| aP h8 <| aN <| aP h10 <| aN <| aP (rfl : (true : Bool) = true) <| aP h13 <| aN <| aP h15 <| aN <| aZ)
  fun j => gZ [0, 1, 2] (ho j)
def p156a_end (C : List DT) (_W : List DT) (n _m _i _k _N : Nat) (_o : ByteArray) (_q : ByteArray) (_p _f _s _x _y _z _e _g _h _u _v : Int) (_a _b _w : Bool) (_D _Y : List AC) (kv : List (Value × Value)) (_kv2 : List (Value × Value)) (j : Nat → Value) : St := ⟨[.some ⟨[], 0, 0, false, .map kv⟩, bK [.mp 0] 1 195], ztSa2, mkT j [(1, .e (.one (.clo 116 [] [.one (.ptr 1 0)]))), (8, .e (.one (.dp (.s C n 4)))), (9, (iI (Int.ofNat n))), (10, (iI 0))] 21 0⟩
theorem p156a (hE : EnvOk E) (C : List DT) (W : List DT) (n m i k N : Nat) (o : ByteArray) (q : ByteArray) (p f s x y z e g h u v : Int) (a b w : Bool) (D Y : List AC) (kv : List (Value × Value)) (kv2 : List (Value × Value)) : Sg 0 2 (s156 C W n m i k N o q p f s x y z e g h u v a b w D Y kv kv2) (p156a_end C W n m i k N o q p f s x y z e g h u v a b w D Y kv kv2) := fun ho j =>
 oS hE [.run 4, .ops [(1, .d .len)] [], .run 2] [1, 8, 9, 10] (ps := []) trivial
  ho
def p115z_end (_C : List DT) (_W : List DT) (_n _m _i _k _N : Nat) (_o : ByteArray) (_q : ByteArray) (_p _f _s _x _y _z _e _g _h _u _v : Int) (_a _b _w : Bool) (_D _Y : List AC) (kv : List (Value × Value)) (_kv2 : List (Value × Value)) (j : Nat → Value) : St := ⟨[.some ⟨[], 0, 0, false, .map kv⟩, bK [.mp 0] 1 195], [.code .ret, .code (atC [1, 1] (bodyOf Tryz.f115))], mkT j [(6, (iI 5))] 14 0⟩
theorem p115z (hE : EnvOk E) (C : List DT) (W : List DT) (n m i k N : Nat) (o : ByteArray) (q : ByteArray) (p f s x y z e g h u v : Int) (a b w : Bool) (D Y : List AC) (kv : List (Value × Value)) (kv2 : List (Value × Value)) (h0 : (decide ((↑n : Int) > Int.ofNat (nat_lit 8)) : Bool) = true) : Sg 0 2 (s115 C W n m i k N o q p f s x y z e g h u v a b w D Y kv kv2) (p115z_end C W n m i k N o q p f s x y z e g h u v a b w D Y kv kv2) := fun ho j =>
 oS hE [.run 4, .ops [(1, .d .len)] [], .cond true, .run 2] [6] (aP h0 <| aZ)
  ho
def p115_end (_C : List DT) (_W : List DT) (_n _m _i _k _N : Nat) (_o : ByteArray) (_q : ByteArray) (_p _f _s _x _y _z e _g _h _u _v : Int) (_a _b _w : Bool) (_D _Y : List AC) (_kv : List (Value × Value)) (kv2 : List (Value × Value)) (j : Nat → Value) : St := ⟨[.some ⟨[], 0, 0, false, .map kv2⟩, bK [.mp 0] 1 195], [.code .ret], mkT j [(6, (iI e))] 14 0⟩
theorem p115 (hE : EnvOk E) (C : List DT) (W : List DT) (n m i k N : Nat) (o : ByteArray) (q : ByteArray) (p f s x y z e g h u v : Int) (a b w : Bool) (D Y : List AC) (kv : List (Value × Value)) (kv2 : List (Value × Value)) (h0 : (decide ((↑n : Int) > Int.ofNat (nat_lit 8)) : Bool) = false) (h1 : COut E 0 [.some ⟨[], 0, 0, false, .map kv⟩, bK [.mp 0] 1 195] 156 [.e (.one (.dp (.s C n 4))), .e (.one (.clo 116 [] [.one (.ptr 1 0)]))] (iI e) [.some ⟨[], 0, 0, false, .map kv2⟩, bK [.mp 0] 1 195]) : Sg 0 2 (s115 C W n m i k N o q p f s x y z e g h u v a b w D Y kv kv2) (p115_end C W n m i k N o q p f s x y z e g h u v a b w D Y kv kv2) := fun ho j =>
 oS hE [.run 4, .ops [(1, .d .len)] [], .cond false, .run 2, .ops [(2, .cw (iI e) [.some ⟨[], 0, 0, false, .map kv2⟩, bK [.mp 0] 1 195])] []] [6] (aP h0 <| aP h1 <| aZ)
  ho
def p114s_end (_C : List DT) (W : List DT) (_n m i _k _N : Nat) (o : ByteArray) (_q : ByteArray) (_p _f _s _x _y _z _e _g _h _u _v : Int) (_a _b _w : Bool) (_D _Y : List AC) (_kv : List (Value × Value)) (_kv2 : List (Value × Value)) (j : Nat → Value) : St := ⟨[], ztSa1, mkT j [(0, .e (.one (.dp (.s W m 1)))), (1, .e (.one (.v (.string o)))), (5, (iI (Int.ofNat (i + 1))))] 18 0⟩
theorem p114s (hE : EnvOk E) (C : List DT) (W : List DT) (n m i k N : Nat) (o : ByteArray) (q : ByteArray) (p f s x y z e g h u v : Int) (a b w : Bool) (D Y : List AC) (kv : List (Value × Value)) (kv2 : List (Value × Value)) (h0 : (decide (Int.ofNat i < (↑m : Int)) : Bool) = true) (h1 : (0 : Int) ≤ Int.ofNat i ∧ Int.ofNat i < (↑m : Int)) (h2 : ((Int.ofNat i).toNat * nat_lit 1 : Nat) = i) (h3 : (getL W i : Option DT) = (.some (.v (.string q)))) (h4 : ((iB (q.toList == o.toList)) : AV) = (iB w)) (h5 : (w : Bool) = false) (h6 : ((iI (wrapF IntKind.i64 (Int.ofNat i + (1 : Int)))) : AV) = (iI (Int.ofNat (i + 1)))) : Sg 0 0 (q114 C W n m i k N o q p f s x y z e g h u v a b w D Y kv kv2) (p114s_end C W n m i k N o q p f s x y z e g h u v a b w D Y kv kv2) := fun ho j =>
 oS hE [.run 2, .ops [(2, .d .len)] [], .cond true, .run 4, .ops [(3, .d (.ld (.v (.string q)))), (5, .rn (iB w)), (2, .d (.ix i))] [], .cond false, .run 2, .ops [(1, .rn (iI (Int.ofNat (i + 1))))] [], .run 1] [0, 1, 5] (aP h0 <| aP h1 <| aP h2 <| aP h3 <| aP h4 <| aP h5 <| aP h6 <| aZ)
  ho
def p114e_end (_C : List DT) (_W : List DT) (_n _m _i _k _N : Nat) (_o : ByteArray) (_q : ByteArray) (_p _f _s _x _y _z _e _g _h _u _v : Int) (_a _b _w : Bool) (_D _Y : List AC) (_kv : List (Value × Value)) (_kv2 : List (Value × Value)) (j : Nat → Value) : St := ⟨[], [.code .ret, .inBlock 1, .code (atC [1, 0, 1, 0, 0, 1, 1] (bodyOf Tryz.f114)), .inLoop (atC [1, 0, 1, 0, 0] (bodyOf Tryz.f114)), .inBlock 0, .code (atC [1, 1] (bodyOf Tryz.f114))], mkT j [(4, (iB true))] 18 0⟩
theorem p114e (hE : EnvOk E) (C : List DT) (W : List DT) (n m i k N : Nat) (o : ByteArray) (q : ByteArray) (p f s x y z e g h u v : Int) (a b w : Bool) (D Y : List AC) (kv : List (Value × Value)) (kv2 : List (Value × Value)) (h0 : (decide (Int.ofNat i < (↑m : Int)) : Bool) = true) (h1 : (0 : Int) ≤ Int.ofNat i ∧ Int.ofNat i < (↑m : Int)) (h2 : ((Int.ofNat i).toNat * nat_lit 1 : Nat) = i) (h3 : (getL W i : Option DT) = (.some (.v (.string q)))) (h4 : ((iB (q.toList == o.toList)) : AV) = (iB w)) (h5 : (w : Bool) = true) : Sg 0 0 (q114 C W n m i k N o q p f s x y z e g h u v a b w D Y kv kv2) (p114e_end C W n m i k N o q p f s x y z e g h u v a b w D Y kv kv2) := fun ho j =>
 oS hE [.run 2, .ops [(2, .d .len)] [], .cond true, .run 4, .ops [(3, .d (.ld (.v (.string q)))), (5, .rn (iB w)), (2, .d (.ix i))] [], .cond true, .run 2] [4] (aP h0 <| aP h1 <| aP h2 <| aP h3 <| aP h4 <| aP h5 <| aZ)
  ho
def p114x_end (_C : List DT) (_W : List DT) (_n _m _i _k _N : Nat) (_o : ByteArray) (_q : ByteArray) (_p _f _s _x _y _z _e _g _h _u _v : Int) (_a _b _w : Bool) (_D _Y : List AC) (_kv : List (Value × Value)) (_kv2 : List (Value × Value)) (j : Nat → Value) : St := ⟨[], [.code .ret], mkT j [(4, (iB false))] 18 0⟩
theorem p114x (hE : EnvOk E) (C : List DT) (W : List DT) (n m i k N : Nat) (o : ByteArray) (q : ByteArray) (p f s x y z e g h u v : Int) (a b w : Bool) (D Y : List AC) (kv : List (Value × Value)) (kv2 : List (Value × Value)) (h0 : (decide (Int.ofNat i < (↑m : Int)) : Bool) = false) : Sg 0 0 (q114 C W n m i k N o q p f s x y z e g h u v a b w D Y kv kv2) (p114x_end C W n m i k N o q p f s x y z e g h u v a b w D Y kv kv2) := fun ho j =>
 oS hE [.run 2, .ops [(2, .d .len)] [], .cond false, .run 3] [4] (aP h0 <| aZ)
  ho
def p52s_end (C : List DT) (_W : List DT) (n _m i _k _N : Nat) (_o : ByteArray) (_q : ByteArray) (_p _f _s _x _y _z _e _g _h _u _v : Int) (_a _b _w : Bool) (_D _Y : List AC) (_kv : List (Value × Value)) (_kv2 : List (Value × Value)) (j : Nat → Value) : St := ⟨[], ztSa3, mkT j [(0, .e (.one (.dp (.s C n 4)))), (3, (iI (Int.ofNat (i + 1))))] 20 0⟩
theorem p52s (hE : EnvOk E) (C : List DT) (W : List DT) (n m i k N : Nat) (o : ByteArray) (q : ByteArray) (p f s x y z e g h u v : Int) (a b w : Bool) (D Y : List AC) (kv : List (Value × Value)) (kv2 : List (Value × Value)) (h0 : (decide (Int.ofNat i < (↑n : Int)) : Bool) = true) (h1 : (0 : Int) ≤ Int.ofNat i ∧ Int.ofNat i < (↑n : Int)) (h2 : ((Int.ofNat i).toNat * nat_lit 4 : Nat) = i.mul (nat_lit 4)) (h3 : (getL C (i.mul (nat_lit 4) + 0) : Option DT) = (.some (.v (.string o)))) (h4 : ((iI (Int.ofNat o.size)) : AV) = (iI x)) (h5 : (decide (x > (40 : Int)) : Bool) = false) (h6 : ((iI (wrapF IntKind.i64 (Int.ofNat i + (1 : Int)))) : AV) = (iI (Int.ofNat (i + 1)))) : Sg 0 0 (q52 C W n m i k N o q p f s x y z e g h u v a b w D Y kv kv2) (p52s_end C W n m i k N o q p f s x y z e g h u v a b w D Y kv kv2) := fun ho j =>
 oS hE [.run 2, .ops [(2, .d .len)] [], .cond true, .run 4, .ops [(4, .d (.ld (.v (.string o)))), (5, .rn (iI x)), (2, .d (.ix (i.mul (nat_lit 4)))), (3, .d .fa)] [], .cond false, .run 2, .ops [(1, .rn (iI (Int.ofNat (i + 1))))] [], .run 1] [0, 3] (aP h0 <| aP h1 <| aP h2 <| aP h3 <| aP h4 <| aP h5 <| aP h6 <| aZ)
  ho
def p52e_end (_C : List DT) (_W : List DT) (_n _m _i _k _N : Nat) (_o : ByteArray) (_q : ByteArray) (_p _f _s _x _y _z _e _g _h _u _v : Int) (_a _b _w : Bool) (_D _Y : List AC) (_kv : List (Value × Value)) (_kv2 : List (Value × Value)) (j : Nat → Value) : St := ⟨[], [.code .ret, .inBlock 1, .code (atC [1, 0, 1, 0, 0, 1, 1] (bodyOf Tryz.f52)), .inLoop (atC [1, 0, 1, 0, 0] (bodyOf Tryz.f52)), .inBlock 0, .code (atC [1, 1] (bodyOf Tryz.f52))], mkT j [(2, (iB false))] 20 0⟩
theorem p52e (hE : EnvOk E) (C : List DT) (W : List DT) (n m i k N : Nat) (o : ByteArray) (q : ByteArray) (p f s x y z e g h u v : Int) (a b w : Bool) (D Y : List AC) (kv : List (Value × Value)) (kv2 : List (Value × Value)) (h0 : (decide (Int.ofNat i < (↑n : Int)) : Bool) = true) (h1 : (0 : Int) ≤ Int.ofNat i ∧ Int.ofNat i < (↑n : Int)) (h2 : ((Int.ofNat i).toNat * nat_lit 4 : Nat) = i.mul (nat_lit 4)) (h3 : (getL C (i.mul (nat_lit 4) + 0) : Option DT) = (.some (.v (.string o)))) (h4 : ((iI (Int.ofNat o.size)) : AV) = (iI x)) (h5 : (decide (x > (40 : Int)) : Bool) = true) : Sg 0 0 (q52 C W n m i k N o q p f s x y z e g h u v a b w D Y kv kv2) (p52e_end C W n m i k N o q p f s x y z e g h u v a b w D Y kv kv2) := fun ho j =>
 oS hE [.run 2, .ops [(2, .d .len)] [], .cond true, .run 4, .ops [(4, .d (.ld (.v (.string o)))), (5, .rn (iI x)), (2, .d (.ix (i.mul (nat_lit 4)))), (3, .d .fa)] [], .cond true, .run 2] [2] (aP h0 <| aP h1 <| aP h2 <| aP h3 <| aP h4 <| aP h5 <| aZ)
  ho
def p52x_end (_C : List DT) (_W : List DT) (_n _m _i _k _N : Nat) (_o : ByteArray) (_q : ByteArray) (_p _f _s _x _y _z _e _g _h _u _v : Int) (_a _b w : Bool) (_D _Y : List AC) (_kv : List (Value × Value)) (_kv2 : List (Value × Value)) (j : Nat → Value) : St := ⟨[], [.code .ret], mkT j [(2, (iB w))] 20 0⟩
theorem p52x (hE : EnvOk E) (C : List DT) (W : List DT) (n m i k N : Nat) (o : ByteArray) (q : ByteArray) (p f s x y z e g h u v : Int) (a b w : Bool) (D Y : List AC) (kv : List (Value × Value)) (kv2 : List (Value × Value)) (h0 : (decide (Int.ofNat i < (↑n : Int)) : Bool) = false) (h1 : ((iB (decide ((↑n : Int) ≤ (9 : Int)))) : AV) = (iB w)) : Sg 0 0 (q52 C W n m i k N o q p f s x y z e g h u v a b w D Y kv kv2) (p52x_end C W n m i k N o q p f s x y z e g h u v a b w D Y kv kv2) := fun ho j =>
 oS hE [.run 2, .ops [(2, .d .len)] [], .cond false, .run 2, .ops [(2, .rn (iB w)), (1, .d .len)] []] [2] (aP h0 <| aP h1 <| aZ)
  ho
def p156s_end (C : List DT) (_W : List DT) (n _m i _k _N : Nat) (_o : ByteArray) (_q : ByteArray) (_p _f _s _x _y _z _e _g _h _u _v : Int) (_a _b _w : Bool) (_D _Y : List AC) (_kv : List (Value × Value)) (kv2 : List (Value × Value)) (j : Nat → Value) : St := ⟨[.some ⟨[], 0, 0, false, .map kv2⟩, bK [.mp 0] 1 195], ztSa2, mkT j [(1, .e (.one (.clo 116 [] [.one (.ptr 1 0)]))), (8, .e (.one (.dp (.s C n 4)))), (9, (iI (Int.ofNat n))), (10, (iI (Int.ofNat (i + 1))))] 21 0⟩
theorem p156s (hE : EnvOk E) (C : List DT) (W : List DT) (n m i k N : Nat) (o : ByteArray) (q : ByteArray) (p f s x y z e g h u v : Int) (a b w : Bool) (D Y : List AC) (kv : List (Value × Value)) (kv2 : List (Value × Value)) (h0 : (decide (Int.ofNat i < Int.ofNat n) : Bool) = true) (h1 : (0 : Int) ≤ Int.ofNat i ∧ Int.ofNat i < (↑n : Int)) (h2 : ((Int.ofNat i).toNat * nat_lit 4 : Nat) = i.mul (nat_lit 4)) (h3 : (takeL (dropL C (i.mul (nat_lit 4))) (4 : Nat) : Option (List DT)) = (.some (zSd o p f s))) (h4 : COut E 0 [.some ⟨[], 0, 0, false, .map kv⟩, bK [.mp 0] 1 195, bK (zSt o p f s) 4 138] 116 [.e (.agg (zSt o p f s)), .e (.one (.ptr 1 0))] (iI e) [.some ⟨[], 0, 0, false, .map kv2⟩, bK [.mp 0] 1 195, bK (zSt o p f s) 4 138]) (h5 : (e != (0 : Int) : Bool) = false) (h6 : ((iI (wrapF IntKind.i64 (Int.ofNat i + (1 : Int)))) : AV) = (iI (Int.ofNat (i + 1)))) : Sg 0 2 (q156 C W n m i k N o q p f s x y z e g h u v a b w D Y kv kv2) (p156s_end C W n m i k N o q p f s x y z e g h u v a b w D Y kv kv2) := fun ho j =>
 oS hE [.run 3, .cond true, .run 4, .ops [(1, .d (.ldn (zSd o p f s))), (0, .d (.ix (i.mul (nat_lit 4))))] [], .run 1, .ops [(2, .cw (iI e) [.some ⟨[], 0, 0, false, .map kv2⟩, bK [.mp 0] 1 195, bK (zSt o p f s) 4 138])] [], .run 2, .cond false, .run 2, .ops [(0, .rn (iI (Int.ofNat (i + 1))))] [], .run 1] [1, 8, 9, 10] (s' := fun j => ⟨[.some ⟨[], 0, 0, false, .map kv2⟩, bK [.mp 0] 1 195, bK (zSt o p f s) 4 138], ztSa2, mkT j [(1, .e (.one (.clo 116 [] [.one (.ptr 1 0)]))), (8, .e (.one (.dp (.s C n 4)))), (9, (iI (Int.ofNat n))), (10, (iI (Int.ofNat (i + 1))))] 21 0⟩) (aP h0 <| aP h1 <| aP h2 <| aP h3 <| aP h4 <| aP h5 <| aP h6 <| aZ)
  fun j => gZ [0, 1] (ho j)
def p156e_end (_C : List DT) (_W : List DT) (_n _m _i _k _N : Nat) (_o : ByteArray) (_q : ByteArray) (_p _f _s _x _y _z e _g _h _u _v : Int) (_a _b _w : Bool) (_D _Y : List AC) (_kv : List (Value × Value)) (kv2 : List (Value × Value)) (j : Nat → Value) : St := ⟨[.some ⟨[], 0, 0, false, .map kv2⟩, bK [.mp 0] 1 195], [.code .ret, .inBlock 1, .code (atC [1, 0, 1, 0, 0, 1, 1, 1] (bodyOf Tryz.f156)), .inLoop (atC [1, 0, 1, 0, 0] (bodyOf Tryz.f156)), .inBlock 0, .code (atC [1, 1] (bodyOf Tryz.f156))], mkT j [(4, (iI e))] 21 0⟩
theorem p156e (hE : EnvOk E) (C : List DT) (W : List DT) (n m i k N : Nat) (o : ByteArray) (q : ByteArray) (p f s x y z e g h u v : Int) (a b w : Bool) (D Y : List AC) (kv : List (Value × Value)) (kv2 : List (Value × Value)) (h0 : (decide (Int.ofNat i < Int.ofNat n) : Bool) = true) (h1 : (0 : Int) ≤ Int.ofNat i ∧ Int.ofNat i < (↑n : Int)) (h2 : ((Int.ofNat i).toNat * nat_lit 4 : Nat) = i.mul (nat_lit 4)) (h3 : (takeL (dropL C (i.mul (nat_lit 4))) (4 : Nat) : Option (List DT)) = (.some (zSd o p f s))) (h4 : COut E 0 [.some ⟨[], 0, 0, false, .map kv⟩, bK [.mp 0] 1 195, bK (zSt o p f s) 4 138] 116 [.e (.agg (zSt o p f s)), .e (.one (.ptr 1 0))] (iI e) [.some ⟨[], 0, 0, false, .map kv2⟩, bK [.mp 0] 1 195, bK (zSt o p f s) 4 138]) (h5 : (e != (0 : Int) : Bool) = true) : Sg 0 2 (q156 C W n m i k N o q p f s x y z e g h u v a b w D Y kv kv2) (p156e_end C W n m i k N o q p f s x y z e g h u v a b w D Y kv kv2) := fun ho j =>
 oS hE [.run 3, .cond true, .run 4, .ops [(1, .d (.ldn (zSd o p f s))), (0, .d (.ix (i.mul (nat_lit 4))))] [], .run 1, .ops [(2, .cw (iI e) [.some ⟨[], 0, 0, false, .map kv2⟩, bK [.mp 0] 1 195, bK (zSt o p f s) 4 138])] [], .run 2, .cond true, .run 2] [4] (s' := fun j => ⟨[.some ⟨[], 0, 0, false, .map kv2⟩, bK [.mp 0] 1 195, bK (zSt o p f s) 4 138], [.code .ret, .inBlock 1, .code (atC [1, 0, 1, 0, 0, 1, 1, 1] (bodyOf Tryz.f156)), .inLoop (atC [1, 0, 1, 0, 0] (bodyOf Tryz.f156)), .inBlock 0, .code (atC [1, 1] (bodyOf Tryz.f156))], mkT j [(4, (iI e))] 21 0⟩) (aP h0 <| aP h1 <| aP h2 <| aP h3 <| aP h4 <| aP h5 <| aZ)
  fun j => gZ [0, 1] (ho j)
def p156x_end (_C : List DT) (_W : List DT) (_n _m _i _k _N : Nat) (_o : ByteArray) (_q : ByteArray) (_p _f _s _x _y _z _e _g _h _u _v : Int) (_a _b _w : Bool) (_D _Y : List AC) (kv : List (Value × Value)) (_kv2 : List (Value × Value)) (j : Nat → Value) : St := ⟨[.some ⟨[], 0, 0, false, .map kv⟩, bK [.mp 0] 1 195], [.code .ret], mkT j [(4, (iI 0))] 21 0⟩
theorem p156x (hE : EnvOk E) (C : List DT) (W : List DT) (n m i k N : Nat) (o : ByteArray) (q : ByteArray) (p f s x y z e g h u v : Int) (a b w : Bool) (D Y : List AC) (kv : List (Value × Value)) (kv2 : List (Value × Value)) (h0 : (decide (Int.ofNat i < Int.ofNat n) : Bool) = false) : Sg 0 2 (q156 C W n m i k N o q p f s x y z e g h u v a b w D Y kv kv2) (p156x_end C W n m i k N o q p f s x y z e g h u v a b w D Y kv kv2) := fun ho j =>
 oS hE [.run 3, .cond false, .run 3] [4] (aP h0 <| aZ)
  ho
def p59f_end (C : List DT) (_W : List DT) (n _m i _k _N : Nat) (o : ByteArray) (_q : ByteArray) (_p _f _s _x _y _z _e _g _h _u _v : Int) (_a _b _w : Bool) (_D _Y : List AC) (_kv : List (Value × Value)) (_kv2 : List (Value × Value)) (j : Nat → Value) : St := ⟨[.some ⟨[.v (.string o)], 1, 9, false, .cells⟩], ztSa0, mkT j [(0, .e (.one (.dp (.s C n 4)))), (3, .e (.one (.slc 0 0 1 1 1 false))), (4, (iI (Int.ofNat (i + 1))))] 47 0⟩
theorem p59f (hE : EnvOk E) (C : List DT) (W : List DT) (n m i k N : Nat) (o : ByteArray) (q : ByteArray) (p f s x y z e g h u v : Int) (a b w : Bool) (D Y : List AC) (kv : List (Value × Value)) (kv2 : List (Value × Value)) (h0 : (decide (Int.ofNat i < (↑n : Int)) : Bool) = true) (h1 : (0 : Int) ≤ Int.ofNat i ∧ Int.ofNat i < (↑n : Int)) (h2 : ((Int.ofNat i).toNat * nat_lit 4 : Nat) = i.mul (nat_lit 4)) (h3 : (takeL (dropL C (i.mul (nat_lit 4))) (4 : Nat) : Option (List DT)) = (.some (zSd o p f s))) (h4 : COut E 0 [] 113 [.e (.one (.v (.string o)))] (iI e) []) (h6 : COut E 0 [] 114 [.e (.one (.v (.slice none 0 0))), .e (.one (.v (.string o)))] (iB w) []) (h8 : COut E 0 [] 65 [(iB w), (iI 9)] (iI g) []) (h10 : COut E 0 [] 61 [(iI p), (iI 0), (iI 3)] (iI h) []) (h12 : COut E 0 [] 61 [(iI f), (iI 0), (iI 64)] (iI u) []) (h15 : COut E 0 [] 61 [(iI s), (iI 0), (iI 1000)] (iI v) []) (h17 : COut E 2 [bK (zSt o p f s) 4 136, bK [.v (.int .i64 e), .v (.int .i64 g), .v (.int .i64 h), .v (.int .i64 u), .v (.int .i64 v)] 5 3] 88 [.e (.one (.slc 1 0 5 1 5 true))] (iI z) [bK (zSt o p f s) 4 136, bK [.v (.int .i64 e), .v (.int .i64 g), .v (.int .i64 h), .v (.int .i64 u), .v (.int .i64 v)] 5 3]) (h19 : (z != (0 : Int) : Bool) = false) (h20 : ((iI (wrapF IntKind.i64 (Int.ofNat i + (1 : Int)))) : AV) = (iI (Int.ofNat (i + 1)))) : Sg 0 0 (q59n C W n m i k N o q p f s x y z e g h u v a b w D Y kv kv2) (p59f_end C W n m i k N o q p f s x y z e g h u v a b w D Y kv kv2) := fun ho j =>
 oS hE [.run 2, .ops [(2, .d .len)] [], .cond true, .run 4, .ops [(3, .d (.ldn (zSd o p f s))), (2, .d (.ix (i.mul (nat_lit 4))))] [], .run 2, .ops [(2, .c0 (iI e)), (6, .c0 (iB w)), (7, .c0 (iI g)), (10, .c0 (iI h)), (13, .c0 (iI u)), (16, .c0 (iI v)), (18, .d (.c1 (iI z)))] [], .run 2, .cond false, .run 3, .ops [(1, .rn (iI (Int.ofNat (i + 1))))] [], .run 1] [0, 3, 4] (s' := fun j => ⟨[bK (zSt o p f s) 4 136, bK [.v (.int .i64 e), .v (.int .i64 g), .v (.int .i64 h), .v (.int .i64 u), .v (.int .i64 v)] 5 3, bK [.v (.string o)] 1 9, .some ⟨[.v (.string o)], 1, 9, false, .cells⟩], ztSa0, mkT j [(0, .e (.one (.dp (.s C n 4)))), (3, .e (.one (.slc 3 0 1 1 1 false))), (4, (iI (Int.ofNat (i + 1))))] 47 0⟩) (aP h0 <| aP h1 <| aP h2 <| aP h3 <| aP h4 <| aN <| aP h6 <| aN <| aP h8 <| aN <| aP h10 <| aN <| aP h12 <| aN <| aP (rfl : (true : Bool) = true) <| aP h15 <| aN <| aP h17 <| aN <| aP h19 <| aP h20 <| aZ)
  fun j => gZ [3] (ho j)
def p59g_end (_C : List DT) (_W : List DT) (_n _m _i _k _N : Nat) (_o : ByteArray) (_q : ByteArray) (_p _f _s _x _y z _e _g _h _u _v : Int) (_a _b _w : Bool) (_D _Y : List AC) (_kv : List (Value × Value)) (_kv2 : List (Value × Value)) (j : Nat → Value) : St := ⟨[], [.code .ret, .code (atC [1, 1, 1, 0, 1, 0, 0, 1, 0, 0, 1, 1] (bodyOf Tryz.f59)), .inBlock 1, .code (atC [1, 1, 1, 0, 1, 0, 0, 1, 1] (bodyOf Tryz.f59)), .inLoop (atC [1, 1, 1, 0, 1, 0, 0] (bodyOf Tryz.f59)), .inBlock 0, .code (atC [1, 1, 1, 1] (bodyOf Tryz.f59))], mkT j [(2, (iI z))] 47 0⟩
theorem p59g (hE : EnvOk E) (C : List DT) (W : List DT) (n m i k N : Nat) (o : ByteArray) (q : ByteArray) (p f s x y z e g h u v : Int) (a b w : Bool) (D Y : List AC) (kv : List (Value × Value)) (kv2 : List (Value × Value)) (h0 : (decide (Int.ofNat i < (↑n : Int)) : Bool) = true) (h1 : (0 : Int) ≤ Int.ofNat i ∧ Int.ofNat i < (↑n : Int)) (h2 : ((Int.ofNat i).toNat * nat_lit 4 : Nat) = i.mul (nat_lit 4)) (h3 : (takeL (dropL C (i.mul (nat_lit 4))) (4 : Nat) : Option (List DT)) = (.some (zSd o p f s))) (h4 : COut E 0 [] 113 [.e (.one (.v (.string o)))] (iI e) []) (h6 : COut E 0 [] 114 [.e (.one (.v (.slice none 0 0))), .e (.one (.v (.string o)))] (iB w) []) (h8 : COut E 0 [] 65 [(iB w), (iI 9)] (iI g) []) (h10 : COut E 0 [] 61 [(iI p), (iI 0), (iI 3)] (iI h) []) (h12 : COut E 0 [] 61 [(iI f), (iI 0), (iI 64)] (iI u) []) (h15 : COut E 0 [] 61 [(iI s), (iI 0), (iI 1000)] (iI v) []) (h17 : COut E 2 [bK (zSt o p f s) 4 136, bK [.v (.int .i64 e), .v (.int .i64 g), .v (.int .i64 h), .v (.int .i64 u), .v (.int .i64 v)] 5 3] 88 [.e (.one (.slc 1 0 5 1 5 true))] (iI z) [bK (zSt o p f s) 4 136, bK [.v (.int .i64 e), .v (.int .i64 g), .v (.int .i64 h), .v (.int .i64 u), .v (.int .i64 v)] 5 3]) (h19 : (z != (0 : Int) : Bool) = true) : Sg 0 0 (q59n C W n m i k N o q p f s x y z e g h u v a b w D Y kv kv2) (p59g_end C W n m i k N o q p f s x y z e g h u v a b w D Y kv kv2) := fun ho j =>
 oS hE [.run 2, .ops [(2, .d .len)] [], .cond true, .run 4, .ops [(3, .d (.ldn (zSd o p f s))), (2, .d (.ix (i.mul (nat_lit 4))))] [], .run 2, .ops [(2, .c0 (iI e)), (6, .c0 (iB w)), (7, .c0 (iI g)), (10, .c0 (iI h)), (13, .c0 (iI u)), (16, .c0 (iI v)), (18, .d (.c1 (iI z)))] [], .run 2, .cond true, .run 2] [2] (s' := fun j => ⟨[bK (zSt o p f s) 4 136, bK [.v (.int .i64 e), .v (.int .i64 g), .v (.int .i64 h), .v (.int .i64 u), .v (.int .i64 v)] 5 3], [.code .ret, .code (atC [1, 1, 1, 0, 1, 0, 0, 1, 0, 0, 1, 1] (bodyOf Tryz.f59)), .inBlock 1, .code (atC [1, 1, 1, 0, 1, 0, 0, 1, 1] (bodyOf Tryz.f59)), .inLoop (atC [1, 1, 1, 0, 1, 0, 0] (bodyOf Tryz.f59)), .inBlock 0, .code (atC [1, 1, 1, 1] (bodyOf Tryz.f59))], mkT j [(2, (iI z))] 47 0⟩) (aP h0 <| aP h1 <| aP h2 <| aP h3 <| aP h4 <| aN <| aP h6 <| aN <| aP h8 <| aN <| aP h10 <| aN <| aP h12 <| aN <| aP (rfl : (true : Bool) = true) <| aP h15 <| aN <| aP h17 <| aN <| aP h19 <| aZ)
  fun j => gZ [] (ho j)
def p59y_end (_C : List DT) (_W : List DT) (_n _m _i _k _N : Nat) (_o : ByteArray) (_q : ByteArray) (_p _f _s _x _y _z _e _g _h _u _v : Int) (_a _b _w : Bool) (_D _Y : List AC) (_kv : List (Value × Value)) (_kv2 : List (Value × Value)) (j : Nat → Value) : St := ⟨[], [.code .ret], mkT j [(2, (iI 0))] 47 0⟩
theorem p59y (hE : EnvOk E) (C : List DT) (W : List DT) (n m i k N : Nat) (o : ByteArray) (q : ByteArray) (p f s x y z e g h u v : Int) (a b w : Bool) (D Y : List AC) (kv : List (Value × Value)) (kv2 : List (Value × Value)) (h0 : (decide (Int.ofNat i < (↑n : Int)) : Bool) = false) : Sg 0 0 (q59n C W n m i k N o q p f s x y z e g h u v a b w D Y kv kv2) (p59y_end C W n m i k N o q p f s x y z e g h u v a b w D Y kv kv2) := fun ho j =>
 oS hE [.run 2, .ops [(2, .d .len)] [], .cond false, .run 3] [2] (aP h0 <| aZ)
  ho
def p59s_end (C : List DT) (_W : List DT) (n _m i _k N : Nat) (_o : ByteArray) (_q : ByteArray) (_p _f _s _x _y _z _e _g _h _u _v : Int) (_a _b _w : Bool) (_D Y : List AC) (_kv : List (Value × Value)) (_kv2 : List (Value × Value)) (j : Nat → Value) : St := ⟨[.some ⟨(Y), (N + 1), 9, false, .cells⟩], ztSa0, mkT j [(0, .e (.one (.dp (.s C n 4)))), (3, .e (.one (.slc 0 0 (N + 1) 1 (N + 1) false))), (4, (iI (Int.ofNat (i + 1))))] 47 0⟩
theorem p59s (hE : EnvOk E) (C : List DT) (W : List DT) (n m i k N : Nat) (o : ByteArray) (q : ByteArray) (p f s x y z e g h u v : Int) (a b w : Bool) (D Y : List AC) (kv : List (Value × Value)) (kv2 : List (Value × Value)) (h0 : (decide (Int.ofNat i < (↑n : Int)) : Bool) = true) (h1 : (0 : Int) ≤ Int.ofNat i ∧ Int.ofNat i < (↑n : Int)) (h2 : ((Int.ofNat i).toNat * nat_lit 4 : Nat) = i.mul (nat_lit 4)) (h3 : (takeL (dropL C (i.mul (nat_lit 4))) (4 : Nat) : Option (List DT)) = (.some (zSd o p f s))) (h4 : COut E 0 [] 113 [.e (.one (.v (.string o)))] (iI e) []) (h6 : COut E 2 [.some ⟨(D), N, 9, false, .cells⟩, bK (zSt o p f s) 4 136] 114 [.e (.one (.slc 0 0 N 1 N false)), .e (.one (.v (.string o)))] (iB w) [.some ⟨(D), N, 9, false, .cells⟩, bK (zSt o p f s) 4 136]) (h8 : COut E 0 [] 65 [(iB w), (iI 9)] (iI g) []) (h10 : COut E 0 [] 61 [(iI p), (iI 0), (iI 3)] (iI h) []) (h12 : COut E 0 [] 61 [(iI f), (iI 0), (iI 64)] (iI u) []) (h15 : COut E 0 [] 61 [(iI s), (iI 0), (iI 1000)] (iI v) []) (h17 : COut E 3 [.some ⟨(D), N, 9, false, .cells⟩, bK (zSt o p f s) 4 136, bK [.v (.int .i64 e), .v (.int .i64 g), .v (.int .i64 h), .v (.int .i64 u), .v (.int .i64 v)] 5 3] 88 [.e (.one (.slc 2 0 5 1 5 true))] (iI z) [.some ⟨(D), N, 9, false, .cells⟩, bK (zSt o p f s) 4 136, bK [.v (.int .i64 e), .v (.int .i64 g), .v (.int .i64 h), .v (.int .i64 u), .v (.int .i64 v)] 5 3]) (h19 : (z != (0 : Int) : Bool) = false) (h20 : ¬N + 1 ≤ N) (h21 : (small (N + 1) (1 : Nat) (16 : Nat) : Bool) = true) (h22 : (N : Nat) = N * nat_lit 1) (h23 : (appL D ((fun x => AC.v (Value.string o) :: x) []) : List AC) = Y) (h25 : ((N + 1) * nat_lit 1 : Nat) = N + 1) (h26 : ((iI (wrapF IntKind.i64 (Int.ofNat i + (1 : Int)))) : AV) = (iI (Int.ofNat (i + 1)))) (g0 : FlatC Y) : Sg 0 0 (q59 C W n m i k N o q p f s x y z e g h u v a b w D Y kv kv2) (p59s_end C W n m i k N o q p f s x y z e g h u v a b w D Y kv kv2) := fun ho j =>
 oS hE [.run 2, .ops [(2, .d .len)] [], .cond true, .run 4, .ops [(3, .d (.ldn (zSd o p f s))), (2, .d (.ix (i.mul (nat_lit 4))))] [], .run 2, .ops [(2, .c0 (iI e)), (6, .d (.c1 (iB w))), (7, .c0 (iI g)), (10, .c0 (iI h)), (13, .c0 (iI u)), (16, .c0 (iI v)), (18, .d (.c1 (iI z)))] [], .run 2, .cond false, .run 1, .ops [(4, .app (N + 1) (N + 1) Y)] [], .run 1, .ops [(1, .rn (iI (Int.ofNat (i + 1))))] [], .run 1] [0, 3, 4] (s' := fun j => ⟨[none, bK (zSt o p f s) 4 136, bK [.v (.int .i64 e), .v (.int .i64 g), .v (.int .i64 h), .v (.int .i64 u), .v (.int .i64 v)] 5 3, bK [.v (.string o)] 1 9, .some ⟨(Y), (N + 1), 9, false, .cells⟩], ztSa0, mkT j [(0, .e (.one (.dp (.s C n 4)))), (3, .e (.one (.slc 4 0 (N + 1) 1 (N + 1) false))), (4, (iI (Int.ofNat (i + 1))))] 47 0⟩) (aP h0 <| aP h1 <| aP h2 <| aP h3 <| aP h4 <| aN <| aP h6 <| aN <| aP h8 <| aN <| aP h10 <| aN <| aP h12 <| aN <| aP (rfl : (true : Bool) = true) <| aP h15 <| aN <| aP h17 <| aN <| aP h19 <| aP h20 <| aP h21 <| aP h22 <| aP h23 <| aP (rfl : (N + 1 : Nat) = N + 1) <| aP h25 <| aP h26 <| aZ)
  fun j => outK_gcF [4] [true] (h' := [.some ⟨(Y), (N + 1), 9, false, .cells⟩]) (by decide) (by kernel_rfl) (by kernel_rfl) ⟨g0, trivial⟩ (by kernel_rfl) (ho j)
def p59e_end (_C : List DT) (_W : List DT) (_n _m _i _k _N : Nat) (_o : ByteArray) (_q : ByteArray) (_p _f _s _x _y z _e _g _h _u _v : Int) (_a _b _w : Bool) (_D _Y : List AC) (_kv : List (Value × Value)) (_kv2 : List (Value × Value)) (j : Nat → Value) : St := ⟨[], [.code .ret, .code (atC [1, 1, 1, 0, 1, 0, 0, 1, 0, 0, 1, 1] (bodyOf Tryz.f59)), .inBlock 1, .code (atC [1, 1, 1, 0, 1, 0, 0, 1, 1] (bodyOf Tryz.f59)), .inLoop (atC [1, 1, 1, 0, 1, 0, 0] (bodyOf Tryz.f59)), .inBlock 0, .code (atC [1, 1, 1, 1] (bodyOf Tryz.f59))], mkT j [(2, (iI z))] 47 0⟩
theorem p59e (hE : EnvOk E) (C : List DT) (W : List DT) (n m i k N : Nat) (o : ByteArray) (q : ByteArray) (p f s x y z e g h u v : Int) (a b w : Bool) (D Y : List AC) (kv : List (Value × Value)) (kv2 : List (Value × Value)) (h0 : (decide (Int.ofNat i < (↑n : Int)) : Bool) = true) (h1 : (0 : Int) ≤ Int.ofNat i ∧ Int.ofNat i < (↑n : Int)) (h2 : ((Int.ofNat i).toNat * nat_lit 4 : Nat) = i.mul (nat_lit 4)) (h3 : (takeL (dropL C (i.mul (nat_lit 4))) (4 : Nat) : Option (List DT)) = (.some (zSd o p f s))) (h4 : COut E 0 [] 113 [.e (.one (.v (.string o)))] (iI e) []) (h6 : COut E 2 [.some ⟨(D), N, 9, false, .cells⟩, bK (zSt o p f s) 4 136] 114 [.e (.one (.slc 0 0 N 1 N false)), .e (.one (.v (.string o)))] (iB w) [.some ⟨(D), N, 9, false, .cells⟩, bK (zSt o p f s) 4 136]) (h8 : COut E 0 [] 65 [(iB w), (iI 9)] (iI g) []) (h10 : COut E 0 [] 61 [(iI p), (iI 0), (iI 3)] (iI h) []) (h12 : COut E 0 [] 61 [(iI f), (iI 0), (iI 64)] (iI u) []) (h15 : COut E 0 [] 61 [(iI s), (iI 0), (iI 1000)] (iI v) []) (h17 : COut E 3 [.some ⟨(D), N, 9, false, .cells⟩, bK (zSt o p f s) 4 136, bK [.v (.int .i64 e), .v (.int .i64 g), .v (.int .i64 h), .v (.int .i64 u), .v (.int .i64 v)] 5 3] 88 [.e (.one (.slc 2 0 5 1 5 true))] (iI z) [.some ⟨(D), N, 9, false, .cells⟩, bK (zSt o p f s) 4 136, bK [.v (.int .i64 e), .v (.int .i64 g), .v (.int .i64 h), .v (.int .i64 u), .v (.int .i64 v)] 5 3]) (h19 : (z != (0 : Int) : Bool) = true) : Sg 0 0 (q59 C W n m i k N o q p f s x y z e g h u v a b w D Y kv kv2) (p59e_end C W n m i k N o q p f s x y z e g h u v a b w D Y kv kv2) := fun ho j =>
 oS hE [.run 2, .ops [(2, .d .len)] [], .cond true, .run 4, .ops [(3, .d (.ldn (zSd o p f s))), (2, .d (.ix (i.mul (nat_lit 4))))] [], .run 2, .ops [(2, .c0 (iI e)), (6, .d (.c1 (iB w))), (7, .c0 (iI g)), (10, .c0 (iI h)), (13, .c0 (iI u)), (16, .c0 (iI v)), (18, .d (.c1 (iI z)))] [], .run 2, .cond true, .run 2] [2] (s' := fun j => ⟨[.some ⟨(D), N, 9, false, .cells⟩, bK (zSt o p f s) 4 136, bK [.v (.int .i64 e), .v (.int .i64 g), .v (.int .i64 h), .v (.int .i64 u), .v (.int .i64 v)] 5 3], [.code .ret, .code (atC [1, 1, 1, 0, 1, 0, 0, 1, 0, 0, 1, 1] (bodyOf Tryz.f59)), .inBlock 1, .code (atC [1, 1, 1, 0, 1, 0, 0, 1, 1] (bodyOf Tryz.f59)), .inLoop (atC [1, 1, 1, 0, 1, 0, 0] (bodyOf Tryz.f59)), .inBlock 0, .code (atC [1, 1, 1, 1] (bodyOf Tryz.f59))], mkT j [(2, (iI z))] 47 0⟩) (aP h0 <| aP h1 <| aP h2 <| aP h3 <| aP h4 <| aN <| aP h6 <| aN <| aP h8 <| aN <| aP h10 <| aN <| aP h12 <| aN <| aP (rfl : (true : Bool) = true) <| aP h15 <| aN <| aP h17 <| aN <| aP h19 <| aZ)
  fun j => gZ [] (ho j)
def p59x_end (_C : List DT) (_W : List DT) (_n _m _i _k _N : Nat) (_o : ByteArray) (_q : ByteArray) (_p _f _s _x _y _z _e _g _h _u _v : Int) (_a _b _w : Bool) (_D _Y : List AC) (_kv : List (Value × Value)) (_kv2 : List (Value × Value)) (j : Nat → Value) : St := ⟨[], [.code .ret], mkT j [(2, (iI 0))] 47 0⟩
theorem p59x (hE : EnvOk E) (C : List DT) (W : List DT) (n m i k N : Nat) (o : ByteArray) (q : ByteArray) (p f s x y z e g h u v : Int) (a b w : Bool) (D Y : List AC) (kv : List (Value × Value)) (kv2 : List (Value × Value)) (h0 : (decide (Int.ofNat i < (↑n : Int)) : Bool) = false) : Sg 0 0 (q59 C W n m i k N o q p f s x y z e g h u v a b w D Y kv kv2) (p59x_end C W n m i k N o q p f s x y z e g h u v a b w D Y kv kv2) := fun ho j =>
 oS hE [.run 2, .ops [(2, .d .len)] [], .cond false, .run 3] [2] (s' := fun j => ⟨[.some ⟨(D), N, 9, false, .cells⟩], [.code .ret], mkT j [(2, (iI 0))] 47 0⟩) (aP h0 <| aZ)
  fun j => gZ [] (ho j)
theorem tI {f : FuncId} {args : List AV} {a b : Int} (h : COut E 0 [] f args (iI a) []) (e : a = b) : COut E 0 [] f args (iI b) [] := e ▸ h
theorem tBo {f : FuncId} {args : List AV} {a b : Bool} (h : COut E 0 [] f args (iB a) []) (e : a = b) : COut E 0 [] f args (iB b) [] := e ▸ h
def rgS (x l h : Int) : Int := if x < l ∨ x > h then 3 else 0
theorem w79 (x l h : Int) : A79_r0 x l h = rgS x l h := by
 unfold A79_r0 A80_r0 rgS
 by_cases h1 : x < l <;> by_cases h2 : x > h <;> simp [h1, h2]
theorem w61 (x l h : Int) : A61_r0 x l h = rgS x l h := by
 unfold A61_r0 A65_r0 rgS
 by_cases h1 : x < l <;> by_cases h2 : x > h <;> simp [h1, h2]
theorem S79 (hE : EnvOk E) (x l h : Int) : COut E 0 [] 79 [iI x, iI l, iI h] (iI (rgS x l h)) [] := tI (A79_all hE x l h) (w79 x l h)
theorem S61 (hE : EnvOk E) (x l h : Int) : COut E 0 [] 61 [iI x, iI l, iI h] (iI (rgS x l h)) [] := tI (A61_all hE x l h) (w61 x l h)
theorem S80 (hE : EnvOk E) (c : Bool) (e : Int) : COut E 0 [] 80 [iB c, iI e] (iI (if c = true then e else 0)) [] := tI (A80_all hE c e) (by unfold A80_r0; cases c <;> rfl)
theorem S65 (hE : EnvOk E) (c : Bool) (e : Int) : COut E 0 [] 65 [iB c, iI e] (iI (if c = true then e else 0)) [] := tI (A65_all hE c e) (by unfold A65_r0; cases c <;> rfl)
def nmE (s : ByteArray) : Int := if nameB s = true then 0 else 8
theorem K117 (hE : EnvOk E) (s : ByteArray) : COut E 0 [] 117 [.e (.one (.v (.string s)))] (iI (nmE s)) [] := tI (A117_all hE [] [] 0 0 0 0 0 s zE 0 0 0 0 0 0 0 0 0 0 0 false false false [] [] ([]) ([])) (by unfold nmE A80_r0; cases nameB s <;> rfl)
theorem K113 (hE : EnvOk E) (s : ByteArray) : COut E 0 [] 113 [.e (.one (.v (.string s)))] (iI (nmE s)) [] := tI (A113_all hE [] [] 0 0 0 0 0 s zE 0 0 0 0 0 0 0 0 0 0 0 false false false [] [] ([]) ([])) (by unfold nmE A65_r0; cases nameB s <;> rfl)
def eqS (x y : ByteArray) : Bool := x.toList == y.toList
theorem loopS (s : ByteArray) : ∀ m i r, m + i = s.size → ByteArray.toList.loop s i r = r.reverse ++ s.data.toList.drop i
 | 0, i, r, h => by
  unfold ByteArray.toList.loop
  rw [if_neg (by omega), List.drop_eq_nil_of_le (by simpa using (by omega : s.size ≤ i))]; simp
 | m + 1, i, r, h => by
  unfold ByteArray.toList.loop
  have hi : i < s.data.toList.length := by simpa using (by omega : i < s.size)
  rw [if_pos (by omega), loopS s m (i + 1) _ (by omega), List.drop_eq_getElem_cons hi]
  have : s.get! i = s.data.toList[i] := by
   have hi' : i < s.data.size := by simpa using hi
   show s.data[i]! = _
   rw [getElem!_pos s.data i hi']; simp
  rw [this]; simp
theorem toListS (s : ByteArray) : s.toList = s.data.toList := by
 have := loopS s s.size 0 [] rfl
 unfold ByteArray.toList
 rw [this]; simp
theorem eqS_iff {x y : ByteArray} : eqS x y = true ↔ x = y := by
 unfold eqS
 rw [toListS, toListS, beq_iff_eq, Array.toList_inj]
 constructor
 ·intro h; cases x; cases y; simp_all
 ·rintro rfl; rfl
def hasW (l : List ByteArray) (s : ByteArray) : Bool := l.any fun q => eqS q s
theorem hasW_iff {l : List ByteArray} {s : ByteArray} : hasW l s = true ↔ s ∈ l := by
 unfold hasW
 rw [List.any_eq_true]
 constructor
 ·rintro ⟨q, h1, h2⟩; rw [← eqS_iff.1 h2]; exact h1
 ·intro h; exact ⟨s, h, eqS_iff.2 rfl⟩
theorem l114 (hE : EnvOk E) (l : List ByteArray) (s : ByteArray) (hm : l.length ≤ 100000) : ∀ k i, k + i = l.length → ∀ j, OutK E 0 0 (q114 [] (wD l) 0 (l.length) i 0 0 s zE 0 0 0 0 0 0 0 0 0 0 0 false false false [] [] ([]) ([]) j) (Go.Ev.Ends E Tryz.f114 (iB (hasW (l.drop i) s)) [])
 | 0, i, hk, j => by
  rw [List.drop_eq_nil_of_le (by omega)]
  exact p114x hE [] (wD l) 0 (l.length) i 0 0 s zE 0 0 0 0 0 0 0 0 0 0 0 false false false [] [] ([]) ([]) zF zR j
 | k + 1, i, hk, j => by
  have hl : i < l.length := by omega
  have hx : l[i]? = some l[i] := List.getElem?_eq_getElem hl
  rw [List.drop_eq_getElem_cons hl]
  generalize l[i] = x at hx
  have hw : getL (wD l) i = some (.v (.string x)) := by have := w_get hx; rwa [show i.mul 1 = i from Nat.mul_one i] at this
  have hp : hasW (x :: l.drop (i + 1)) s = (eqS x s || hasW (l.drop (i + 1)) s) := rfl
  rw [hp]
  cases he : eqS x s with
  | true => exact p114e hE [] (wD l) 0 (l.length) i 0 0 s x 0 0 0 0 0 0 0 0 0 0 0 false false true [] [] ([]) ([]) zT zB (by simp) hw (by rw [show (x.toList == s.toList) = true from he]) (by first | rfl | omega | simp) zR j
  | false => exact p114s hE [] (wD l) 0 (l.length) i 0 0 s x 0 0 0 0 0 0 0 0 0 0 0 false false false [] [] ([]) ([]) zT zB (by simp) hw (by rw [show (x.toList == s.toList) = false from he]) (by first | rfl | omega | simp) zW (l114 hE l s hm k (i + 1) (by omega)) j
theorem K114 (hE : EnvOk E) (l : List ByteArray) (s : ByteArray) (hm : l.length ≤ 100000) : COut E 0 [] 114 [.e (.one (.dp (.s (wD l) l.length 1))), .e (.one (.v (.string s)))] (iB (hasW l s)) [] :=
 cOut_start Tryz.func114 rfl (p114a hE [] (wD l) 0 (l.length) 0 0 0 s zE 0 0 0 0 0 0 0 0 0 0 0 false false false [] [] ([]) ([]) (l114 hE l s hm l.length 0 rfl) fun _ => undef)
theorem args2 {f : FuncId} {args args' : List AV} {v : AV} {h : Heap} (hc : COut E 0 [] f args v h) (hw : ∀ m : M, All2 (fun a' a => ∀ y, VR m a' y → VR m a y) args' args) : COut E 0 [] f args' v h :=
 fun m base w argsC ha H G => hc m base w argsC (by
  have g : ∀ {l l' : List AV} {ys : List Value}, All2 (fun a' a => ∀ y, VR m a' y → VR m a y) l' l → All2 (VR m) l' ys → All2 (VR m) l ys := fun {l} => by
   induction l with
   | nil => intro l' ys h1 h2; cases l' <;> cases ys <;> first | trivial | exact h1.elim | exact h2.elim
   | cons a l ih => intro l' ys h1 h2; cases l' with
    | nil => exact h1.elim
    | cons b l' => cases ys with
     | nil => exact h2.elim
     | cons y ys => exact ⟨h1.1 y h2.1, ih h1.2 h2.2⟩
  exact g (hw m) ha) H G
theorem K114n (hE : EnvOk E) (s : ByteArray) : COut E 0 [] 114 [.e (.one (.v (.slice none 0 0))), .e (.one (.v (.string s)))] (iB false) [] :=
 args2 (K114 hE [] s (by simp)) fun m => ⟨fun _ h => nil_dp m 1 h, fun _ h => h, trivial⟩
def snE (pre : List ByteArray) (x : Sn) : Int := firstI [nmE x.o, if hasW pre x.o = true then 9 else 0, rgS x.p 0 3, rgS x.f 0 64, rgS x.w 0 1000]
def snsE : List ByteArray → List Sn → Int
 | _, [] => 0
 | pre, x :: l => if snE pre x = 0 then snsE (pre ++ [x.o]) l else snE pre x
def chkS (L : List Sn) : Int := if 8 < L.length then 5 else snsE [] L
theorem snsE_s {pre : List ByteArray} {x : Sn} {l : List Sn} (h : snE pre x = 0) : snsE pre (x :: l) = snsE (pre ++ [x.o]) l := by
 show (if snE pre x = 0 then _ else _) = _
 rw [if_pos h]
theorem snsE_e {pre : List ByteArray} {x : Sn} {l : List Sn} (h : snE pre x ≠ 0) : snsE pre (x :: l) = snE pre x := by
 show (if snE pre x = 0 then _ else _) = _
 rw [if_neg h]
theorem C78s (hE : EnvOk E) {h : Heap} {i n lvl : Nat} {l : List Int} (hb : readI h i n = some l) (hn : Nat.ble n 100 = true) (hl : lenL h = lvl) : COut E lvl h 78 [.e (.one (.slc i 0 n 1 n true))] (iI (firstI l)) h := hl ▸ C78 hE h i n l hb hn
theorem C88s (hE : EnvOk E) {h : Heap} {i n lvl : Nat} {l : List Int} (hb : readI h i n = some l) (hn : Nat.ble n 100 = true) (hl : lenL h = lvl) : COut E lvl h 88 [.e (.one (.slc i 0 n 1 n true))] (iI (firstI l)) h := hl ▸ C88 hE h i n l hb hn
abbrev hMp (kv : List (Value × Value)) : Heap := [some ⟨[], 0, 0, false, .map kv⟩, bK [.mp 0] 1 195]
abbrev hMx (kv : List (Value × Value)) (x : Sn) : Heap := [some ⟨[], 0, 0, false, .map kv⟩, bK [.mp 0] 1 195, bK (zSt x.o x.p x.f x.w) 4 138]
def Same (ks pre : List ByteArray) : Prop := ∀ y, y ∈ ks ↔ y ∈ pre
theorem Same.add {ks pre : List ByteArray} (h : Same ks pre) (x : ByteArray) : Same (addS ks x) (pre ++ [x]) := fun y => by
 rw [mem_addS, h y, List.mem_append, List.mem_singleton]
theorem Same.has {ks pre : List ByteArray} (h : Same ks pre) (x : ByteArray) : decide (x ∈ ks) = hasW pre x := by
 cases hw : hasW pre x with
 | true => exact decide_eq_true ((h x).2 (hasW_iff.1 hw))
 | false => exact decide_eq_false fun hm => by rw [hasW_iff.2 ((h x).1 hm)] at hw; exact absurd hw (by decide)
theorem K116 (hE : EnvOk E) (ks pre : List ByteArray) (hs : Same ks pre) (x : Sn) : COut E 0 (hMx (kvS ks) x) 116 [aSn x, .e (.one (.ptr 1 0))] (iI (snE pre x)) (hMx (kvS (addS ks x.o)) x) :=
 cOut_start Tryz.func116 rfl (p116 hE [] [] 0 0 0 0 0 (x.o) zE (x.p) (x.f) (x.w) 0 0 (snE pre x) (nmE x.o) (if hasW pre x.o = true then 9 else 0) (rgS x.p 0 3) (rgS x.f 0 64) (rgS x.w 0 1000) false false (hasW pre x.o) [] [] (kvS ks) (kvS (addS ks x.o)) (by rw [← hs.has x.o]; exact see_kvS ks x.o) (put_kvS ks x.o) (K117 hE x.o) (S80 hE _ 9) (S79 hE x.p 0 3) (S79 hE x.f 0 64) (S79 hE x.w 0 1000) (C78s hE (l := [nmE x.o, if hasW pre x.o = true then 9 else 0, rgS x.p 0 3, rgS x.f 0 64, rgS x.w 0 1000]) rfl rfl rfl) zR fun _ => undef)
theorem l156 (hE : EnvOk E) (L : List Sn) (hm : L.length ≤ 100000) : ∀ k i, k + i = L.length → ∀ (ks pre : List ByteArray), Same ks pre → ∃ ks', ∀ j, OutK E 0 2 (q156 (snD L) [] (L.length) 0 i 0 0 zE zE 0 0 0 0 0 0 0 0 0 0 0 false false false [] [] (kvS ks) ([]) j) (Go.Ev.Ends E Tryz.f156 (iI (snsE pre (L.drop i))) (hMp (kvS ks')))
 | 0, i, hk, ks, pre, hs => by
  rw [List.drop_eq_nil_of_le (by omega)]
  exact ⟨ks, fun j => p156x hE (snD L) [] (L.length) 0 i 0 0 zE zE 0 0 0 0 0 0 0 0 0 0 0 false false false [] [] (kvS ks) ([]) zF zR j⟩
 | k + 1, i, hk, ks, pre, hs => by
  have hl : i < L.length := by omega
  have hx : L[i]? = some L[i] := List.getElem?_eq_getElem hl
  rw [List.drop_eq_getElem_cons hl]
  generalize L[i] = x at hx
  have hc := K116 hE ks pre hs x
  by_cases he : snE pre x = 0
  ·rw [snsE_s he]
   obtain ⟨ks', ih⟩ := l156 hE L hm k (i + 1) (by omega) _ _ (hs.add x.o)
   exact ⟨ks', fun j => p156s hE (snD L) [] (L.length) 0 i 0 0 (x.o) zE (x.p) (x.f) (x.w) 0 0 0 (snE pre x) 0 0 0 0 false false false [] [] (kvS ks) (kvS (addS ks x.o)) zT zB rfl (sn_get hx) hc (by rw [he]; rfl) zW ih j⟩
  ·rw [snsE_e he]
   exact ⟨addS ks x.o, fun j => p156e hE (snD L) [] (L.length) 0 i 0 0 (x.o) zE (x.p) (x.f) (x.w) 0 0 0 (snE pre x) 0 0 0 0 false false false [] [] (kvS ks) (kvS (addS ks x.o)) zT zB rfl (sn_get hx) hc (bne_iff_ne.2 he) zR j⟩
theorem K69 (hE : EnvOk E) (L : List Sn) (hm : L.length ≤ 100000) : COut E 0 [] 69 [dSn L] (iI (chkS L)) [] := by
 obtain ⟨ks, h⟩ := l156 hE L hm L.length 0 rfl [] [] (fun _ => Iff.rfl)
 have h156 : COut E 0 (hMp []) 156 [dSn L, .e (.one (.clo 116 [] [.one (.ptr 1 0)]))] (iI (snsE [] L)) (hMp (kvS ks)) := cOut_start Tryz.func156 rfl (p156a hE (snD L) [] (L.length) 0 0 0 0 zE zE 0 0 0 0 0 0 0 0 0 0 0 false false false [] [] ([]) ([]) h fun _ => undef)
 have h115 : ∃ ks, COut E 0 (hMp []) 115 [dSn L, iI 8, .e (.one (.clo 116 [] [.one (.ptr 1 0)]))] (iI (chkS L)) (hMp (kvS ks)) := by
  unfold chkS
  by_cases h8 : 8 < L.length
  ·rw [if_pos h8]
   exact ⟨[], cOut_start Tryz.func115 rfl (p115z hE (snD L) [] (L.length) 0 0 0 0 zE zE 0 0 0 0 0 0 0 0 0 0 0 false false false [] [] ([]) ([]) zT zR fun _ => undef)⟩
  ·rw [if_neg h8]
   exact ⟨ks, cOut_start Tryz.func115 rfl (p115 hE (snD L) [] (L.length) 0 0 0 0 zE zE 0 0 0 0 0 0 (snsE [] L) 0 0 0 0 false false false [] [] ([]) (kvS ks) zF h156 zR fun _ => undef)⟩
 obtain ⟨ks2, h⟩ := h115
 exact cOut_clear (cOut_start Tryz.func69 rfl (p69 hE (snD L) [] (L.length) 0 0 0 0 zE zE 0 0 0 0 0 0 (chkS L) 0 0 0 0 false false false [] [] ([]) (kvS ks2) h zR fun _ => undef)) rfl
theorem lendW (hE : EnvOk E) (pre : List ByteArray) (s : ByteArray) (X : Option AB) (hm : pre.length ≤ 100000) : COut E 2 [some ⟨wC pre, pre.length, 9, false, .cells⟩, X] 114 [.e (.one (.slc 0 0 pre.length 1 pre.length false)), .e (.one (.v (.string s)))] (iB (hasW pre s)) [some ⟨wC pre, pre.length, 9, false, .cells⟩, X] :=
 cOut_lend _ (K114 hE pre s hm) ⟨.inr ⟨0, 0, pre.length, 1, pre.length, false, wD pre, wD pre, pre.length, 9, false, rfl, rfl, rfl, by rw [takeL_eq, dropL_eq, List.drop_zero, if_pos (by rw [wD_len]; exact Nat.le_refl _), List.take_of_length_le (by rw [wD_len]; exact Nat.le_refl _)]⟩, .inl ⟨rfl, rfl⟩, trivial⟩ rfl rfl
theorem l59 (hE : EnvOk E) (L : List Sn) (hm : L.length ≤ 100000) : ∀ k i, k + i = L.length → ∀ (pre : List ByteArray), pre.length = i → ∀ j, OutK E 0 0 (q59 (snD L) [] (L.length) 0 i 0 (pre.length) zE zE 0 0 0 0 0 0 0 0 0 0 0 false false false (wC pre) [] ([]) ([]) j) (Go.Ev.Ends E Tryz.f59 (iI (snsE pre (L.drop i))) [])
 | 0, i, hk, pre, hp, j => by
  rw [List.drop_eq_nil_of_le (by omega)]
  exact p59x hE (snD L) [] (L.length) 0 i 0 (pre.length) zE zE 0 0 0 0 0 0 0 0 0 0 0 false false false (wC pre) [] ([]) ([]) zF zR j
 | k + 1, i, hk, pre, hp, j => by
  have hl : i < L.length := by omega
  have hx : L[i]? = some L[i] := List.getElem?_eq_getElem hl
  rw [List.drop_eq_getElem_cons hl]
  generalize L[i] = x at hx
  have hw := lendW hE pre x.o (bK (zSt x.o x.p x.f x.w) 4 136) (by omega)
  by_cases he : snE pre x = 0
  ·rw [snsE_s he]
   have ih := l59 hE L hm k (i + 1) (by omega) (pre ++ [x.o]) (by simp; omega)
   rw [show (pre ++ [x.o]).length = pre.length + 1 by simp] at ih
   exact p59s hE (snD L) [] (L.length) 0 i 0 (pre.length) (x.o) zE (x.p) (x.f) (x.w) 0 0 (snE pre x) (nmE x.o) (if hasW pre x.o = true then 9 else 0) (rgS x.p 0 3) (rgS x.f 0 64) (rgS x.w 0 1000) false false (hasW pre x.o) (wC pre) (wC (pre ++ [x.o])) ([]) ([]) zT zB rfl (sn_get hx) (K113 hE x.o) hw (S65 hE _ 9) (S61 hE x.p 0 3) (S61 hE x.f 0 64) (S61 hE x.w 0 1000) (C88s hE (l := [nmE x.o, if hasW pre x.o = true then 9 else 0, rgS x.p 0 3, rgS x.f 0 64, rgS x.w 0 1000]) rfl rfl rfl) (by rw [he]; rfl) (by omega) (by simp [small]; omega) (by simp) (rows_app (f := fun s : ByteArray => ([.v (.string s)] : List DT)) pre x.o) (by simp) zW (flat_rows _) ih j
  ·rw [snsE_e he]
   exact p59e hE (snD L) [] (L.length) 0 i 0 (pre.length) (x.o) zE (x.p) (x.f) (x.w) 0 0 (snE pre x) (nmE x.o) (if hasW pre x.o = true then 9 else 0) (rgS x.p 0 3) (rgS x.f 0 64) (rgS x.w 0 1000) false false (hasW pre x.o) (wC pre) [] ([]) ([]) zT zB rfl (sn_get hx) (K113 hE x.o) hw (S65 hE _ 9) (S61 hE x.p 0 3) (S61 hE x.f 0 64) (S61 hE x.w 0 1000) (C88s hE (l := [nmE x.o, if hasW pre x.o = true then 9 else 0, rgS x.p 0 3, rgS x.f 0 64, rgS x.w 0 1000]) rfl rfl rfl) (bne_iff_ne.2 he) zR j
theorem K59 (hE : EnvOk E) (L : List Sn) (hm : L.length ≤ 100000) : COut E 0 [] 59 [dSn L] (iI (chkS L)) [] := by
 unfold chkS
 by_cases h8 : 8 < L.length
 ·rw [if_pos h8]
  exact cOut_start Tryz.func59 rfl (p59z hE (snD L) [] (L.length) 0 0 0 0 zE zE 0 0 0 0 0 0 0 0 0 0 0 false false false [] [] ([]) ([]) zT zR fun _ => undef)
 ·rw [if_neg h8]
  refine cOut_start Tryz.func59 rfl (p59a hE (snD L) [] (L.length) 0 0 0 0 zE zE 0 0 0 0 0 0 0 0 0 0 0 false false false [] [] ([]) ([]) zF ?_ fun _ => undef)
  rcases L with _ | ⟨x, L⟩
  ·exact p59y hE (snD []) [] (0) 0 (0) 0 0 zE zE 0 0 0 0 0 0 0 0 0 0 0 false false false [] [] ([]) ([]) (by decide) zR
  ·have hx : (x :: L)[0]? = some x := rfl
   have hw := K114n hE x.o
   by_cases he : snE [] x = 0
   ·rw [snsE_s he]
    exact p59f hE (snD (x :: L)) [] ((x :: L).length) 0 (0) 0 0 (x.o) zE (x.p) (x.f) (x.w) 0 0 (snE [] x) (nmE x.o) (0) (rgS x.p 0 3) (rgS x.f 0 64) (rgS x.w 0 1000) false false false [] [] ([]) ([]) (decide_eq_true (by simp)) ⟨by simp, by simp⟩ rfl (sn_get hx) (K113 hE x.o) hw (S65 hE _ 9) (S61 hE x.p 0 3) (S61 hE x.f 0 64) (S61 hE x.w 0 1000) (C88s hE (l := [nmE x.o, 0, rgS x.p 0 3, rgS x.f 0 64, rgS x.w 0 1000]) rfl rfl rfl) (by rw [he]; rfl) zW (l59 hE (x :: L) hm L.length 1 rfl [x.o] rfl)
   ·rw [snsE_e he]
    exact p59g hE (snD (x :: L)) [] ((x :: L).length) 0 (0) 0 0 (x.o) zE (x.p) (x.f) (x.w) 0 0 (snE [] x) (nmE x.o) (0) (rgS x.p 0 3) (rgS x.f 0 64) (rgS x.w 0 1000) false false false [] [] ([]) ([]) (decide_eq_true (by simp)) ⟨by simp, by simp⟩ rfl (sn_get hx) (K113 hE x.o) hw (S65 hE _ 9) (S61 hE x.p 0 3) (S61 hE x.f 0 64) (S61 hE x.w 0 1000) (C88s hE (l := [nmE x.o, 0, rgS x.p 0 3, rgS x.f 0 64, rgS x.w 0 1000]) rfl rfl rfl) (bne_iff_ne.2 he) zR
def shS (L : List Sn) : Bool := L.all fun x => decide (x.o.size ≤ 40)
theorem l52 (hE : EnvOk E) (L : List Sn) (hm : L.length ≤ 9223372036854775807) : ∀ k i, k + i = L.length → ∀ j, OutK E 0 0 (q52 (snD L) [] (L.length) 0 i 0 0 zE zE 0 0 0 0 0 0 0 0 0 0 0 false false false [] [] ([]) ([]) j) (Go.Ev.Ends E Tryz.f52 (iB (shS (L.drop i) && decide (L.length ≤ 9))) [])
 | 0, i, hk, j => by
  rw [List.drop_eq_nil_of_le (by omega)]
  exact p52x hE (snD L) [] (L.length) 0 i 0 0 zE zE 0 0 0 0 0 0 0 0 0 0 0 false false (decide (L.length ≤ 9)) [] [] ([]) ([]) zF (congrArg (fun b : Bool => iB b) (decide_eq_decide.2 (by omega))) zR j
 | k + 1, i, hk, j => by
  have hl : i < L.length := by omega
  have hx : L[i]? = some L[i] := List.getElem?_eq_getElem hl
  rw [List.drop_eq_getElem_cons hl]
  generalize L[i] = x at hx
  have hp : shS (x :: L.drop (i + 1)) = (decide (x.o.size ≤ 40) && shS (L.drop (i + 1))) := rfl
  rw [hp]
  by_cases h : x.o.size ≤ 40
  ·rw [decide_eq_true h]
   exact p52s hE (snD L) [] (L.length) 0 i 0 0 (x.o) zE 0 0 0 (Int.ofNat x.o.size) 0 0 0 0 0 0 0 false false false [] [] ([]) ([]) zT zB rfl (sn_o hx) (by first | rfl | omega | simp) (decide_eq_false (by simp only [Int.ofNat_eq_natCast]; omega)) zW (l52 hE L hm k (i + 1) (by omega)) j
  ·rw [decide_eq_false h]
   exact p52e hE (snD L) [] (L.length) 0 i 0 0 (x.o) zE 0 0 0 (Int.ofNat x.o.size) 0 0 0 0 0 0 0 false false false [] [] ([]) ([]) zT zB rfl (sn_o hx) (by first | rfl | omega | simp) (decide_eq_true (by simp only [Int.ofNat_eq_natCast]; omega)) zR j
theorem K52 (hE : EnvOk E) (L : List Sn) (hm : L.length ≤ 9223372036854775807) : COut E 0 [] 52 [dSn L] (iB (shS L && decide (L.length ≤ 9))) [] :=
 cOut_start Tryz.func52 rfl (p52a hE (snD L) [] (L.length) 0 0 0 0 zE zE 0 0 0 0 0 0 0 0 0 0 0 false false false [] [] ([]) ([]) (l52 hE L hm L.length 0 rfl) fun _ => undef)
end
end Go.Proofs.YtnhabbponbpmfaaGreatDoor
end

/-! SeSb -/
section
open Go Go.Ev
namespace Go.Proofs.YtnhabbponbpmfaaGreatDoor
noncomputable section
set_option maxRecDepth 100000
set_option maxHeartbeats 20000000
abbrev ztSb0 : List Item := [.code (atC [1, 1, 0, 1, 0, 0] (bodyOf Tryz.f175)), .inLoop (atC [1, 1, 0, 1, 0, 0] (bodyOf Tryz.f175)), .inBlock 0, .code (atC [1, 1, 1] (bodyOf Tryz.f175))]
abbrev ztSb1 : List Item := [.code (atC [1, 1, 0, 1, 0, 0] (bodyOf Tryz.f118)), .inLoop (atC [1, 1, 0, 1, 0, 0] (bodyOf Tryz.f118)), .inBlock 0, .code (atC [1, 1, 1] (bodyOf Tryz.f118))]
abbrev ztSb2 : List Item := [.code (atC [1, 1, 0, 1, 0, 0] (bodyOf Tryz.f44)), .inLoop (atC [1, 1, 0, 1, 0, 0] (bodyOf Tryz.f44)), .inBlock 0, .code (atC [1, 1, 1] (bodyOf Tryz.f44))]
abbrev ztSb3 : List Item := [.code (atC [1, 0, 1, 0, 0] (bodyOf Tryz.f174)), .inLoop (atC [1, 0, 1, 0, 0] (bodyOf Tryz.f174)), .inBlock 0, .code (atC [1, 1] (bodyOf Tryz.f174))]
abbrev ztSb4 : List Item := [.code (atC [1, 0, 1, 0, 0] (bodyOf Tryz.f148)), .inLoop (atC [1, 0, 1, 0, 0] (bodyOf Tryz.f148)), .inBlock 0, .code (atC [1, 1] (bodyOf Tryz.f148))]
abbrev ztSb5 : List Item := [.code (atC [1, 0, 1, 0, 0] (bodyOf Tryz.f177)), .inLoop (atC [1, 0, 1, 0, 0] (bodyOf Tryz.f177)), .inBlock 0, .code (atC [1, 1] (bodyOf Tryz.f177))]
abbrev ztSb6 : List Item := [.code (atC [1, 0, 1, 0, 0] (bodyOf Tryz.f66)), .inLoop (atC [1, 0, 1, 0, 0] (bodyOf Tryz.f66)), .inBlock 0, .code (atC [1, 1] (bodyOf Tryz.f66))]
def s191 (_C _W : List DT) (_n _m _i : Nat) (_o _q : ByteArray) (_p _f _s x _y _z _e : Int) (_w : Bool) (_j : Nat → Value) : St := startK Tryz.f191 [] [iI x]
def s147 (_C _W : List DT) (_n _m _i : Nat) (o _q : ByteArray) (p f s _x _y _z _e : Int) (_w : Bool) (_j : Nat → Value) : St := startK Tryz.f147 [] [.e (.agg (zSt o p f s))]
def s176 (_C _W : List DT) (_n _m _i : Nat) (o _q : ByteArray) (p f s _x _y _z _e : Int) (_w : Bool) (_j : Nat → Value) : St := startK Tryz.f176 [] [.e (.agg (zSt o p f s))]
def s108 (_C _W : List DT) (_n _m _i : Nat) (_o _q : ByteArray) (_p _f _s x _y _z _e : Int) (_w : Bool) (_j : Nat → Value) : St := startK Tryz.f108 [] [iI x]
def s60 (_C _W : List DT) (_n _m _i : Nat) (_o _q : ByteArray) (_p _f _s x _y _z _e : Int) (_w : Bool) (_j : Nat → Value) : St := startK Tryz.f60 [] [iI x]
def s56 (_C _W : List DT) (_n _m _i : Nat) (_o _q : ByteArray) (_p _f _s x _y _z _e : Int) (_w : Bool) (_j : Nat → Value) : St := startK Tryz.f56 [] [iI x]
def s111 (C _W : List DT) (n _m _i : Nat) (_o _q : ByteArray) (_p _f _s _x _y _z _e : Int) (_w : Bool) (_j : Nat → Value) : St := startK Tryz.f111 [] [.e (.one (.dp (.s C n 1)))]
def s62 (C _W : List DT) (n _m _i : Nat) (_o _q : ByteArray) (_p _f _s _x _y _z _e : Int) (_w : Bool) (_j : Nat → Value) : St := startK Tryz.f62 [] [.e (.one (.dp (.s C n 1)))]
def s66 (C _W : List DT) (n _m _i : Nat) (_o _q : ByteArray) (_p _f _s _x _y _z _e : Int) (_w : Bool) (_j : Nat → Value) : St := startK Tryz.f66 [] [.e (.one (.dp (.s C n 1)))]
def s112 (C _W : List DT) (n _m _i : Nat) (_o _q : ByteArray) (_p _f _s _x _y _z _e : Int) (_w : Bool) (_j : Nat → Value) : St := startK Tryz.f112 [] [.e (.one (.dp (.s C n 1)))]
def s175 (C _W : List DT) (n _m _i : Nat) (_o _q : ByteArray) (_p _f _s _x _y _z _e : Int) (_w : Bool) (_j : Nat → Value) : St := startK Tryz.f175 [] [.e (.one (.dp (.s C n 1)))]
def s174 (C _W : List DT) (n _m _i : Nat) (_o _q : ByteArray) (_p _f _s _x _y _z _e : Int) (_w : Bool) (_j : Nat → Value) : St := startK Tryz.f174 [] [.e (.one (.dp (.s C n 4))), .e (.one (.v (.func (.func 147) #[] #[])))]
def s146 (C _W : List DT) (n _m _i : Nat) (_o _q : ByteArray) (_p _f _s _x _y _z _e : Int) (_w : Bool) (_j : Nat → Value) : St := startK Tryz.f146 [] [.e (.one (.dp (.s C n 4))), .e (.one (.v (.func (.func 147) #[] #[])))]
def s148 (C _W : List DT) (n _m _i : Nat) (_o q : ByteArray) (_p _f _s x y z _e : Int) (_w : Bool) (_j : Nat → Value) : St := startK Tryz.f148 [] [.e (.one (.dp (.s C n 4))), .e (.agg (zSt q x y z))]
def s177 (C _W : List DT) (n _m _i : Nat) (_o _q : ByteArray) (_p _f _s _x _y _z _e : Int) (_w : Bool) (_j : Nat → Value) : St := startK Tryz.f177 [] [.e (.one (.dp (.s C n 1))), iB true]
def s154 (C _W : List DT) (n _m _i : Nat) (_o _q : ByteArray) (_p _f _s _x _y _z _e : Int) (_w : Bool) (_j : Nat → Value) : St := startK Tryz.f154 [] [.e (.one (.dp (.s C n 1))), iB true]
def s44 (C W : List DT) (n m _i : Nat) (_o _q : ByteArray) (_p _f _s _x _y _z _e : Int) (_w : Bool) (_j : Nat → Value) : St := startK Tryz.f44 [] [.e (.one (.dp (.s C n 1))), .e (.one (.dp (.s W m 1)))]
def s118 (C W : List DT) (n m _i : Nat) (_o _q : ByteArray) (_p _f _s _x _y _z _e : Int) (_w : Bool) (_j : Nat → Value) : St := startK Tryz.f118 [] [.e (.one (.dp (.s C n 4))), .e (.one (.dp (.s W m 4)))]
def q175 (C _W : List DT) (n _m i : Nat) (_o _q : ByteArray) (_p _f _s _x _y _z _e : Int) (_w : Bool) (j : Nat → Value) : St := ⟨[], ztSb0, mkT j [(3, (iI 0)), (6, .e (.one (.dp (.s C n 1)))), (7, (iI (Int.ofNat n))), (8, (iI (Int.ofNat i)))] 18 0⟩
def q174 (C _W : List DT) (n _m i : Nat) (_o _q : ByteArray) (_p _f _s _x _y _z _e : Int) (_w : Bool) (j : Nat → Value) : St := ⟨[], ztSb3, mkT j [(0, .e (.one (.dp (.s C n 4)))), (1, .e (.one (.v (.func (.func 147) #[] #[])))), (7, (iI (Int.ofNat n))), (8, (iI (Int.ofNat i)))] 19 0⟩
def q148 (C _W : List DT) (n _m i : Nat) (_o q : ByteArray) (_p _f _s x y z _e : Int) (_w : Bool) (j : Nat → Value) : St := ⟨[bK (zSt q x y z) 4 138], ztSb4, mkT j [(0, .e (.one (.dp (.s C n 4)))), (3, .e (.one (.ptr 0 0))), (7, (iI (Int.ofNat n))), (8, (iI (Int.ofNat i)))] 19 0⟩
def q177 (C _W : List DT) (n _m i : Nat) (_o _q : ByteArray) (_p _f _s _x _y _z _e : Int) (_w : Bool) (j : Nat → Value) : St := ⟨[], ztSb5, mkT j [(0, .e (.one (.dp (.s C n 1)))), (1, (iB true)), (7, (iI (Int.ofNat n))), (8, (iI (Int.ofNat i)))] 19 0⟩
def q66 (C _W : List DT) (n _m i : Nat) (_o _q : ByteArray) (_p _f _s _x _y _z _e : Int) (_w : Bool) (j : Nat → Value) : St := ⟨[], ztSb6, mkT j [(0, .e (.one (.dp (.s C n 1)))), (3, (iI (Int.ofNat i)))] 14 0⟩
def q44 (C W : List DT) (n m i : Nat) (_o _q : ByteArray) (_p _f _s _x _y _z _e : Int) (_w : Bool) (j : Nat → Value) : St := ⟨[], ztSb2, mkT j [(0, .e (.one (.dp (.s C n 1)))), (1, .e (.one (.dp (.s W m 1)))), (5, (iI (Int.ofNat i)))] 26 0⟩
def q118 (C W : List DT) (n m i : Nat) (_o _q : ByteArray) (_p _f _s _x _y _z _e : Int) (_w : Bool) (j : Nat → Value) : St := ⟨[], ztSb1, mkT j [(0, .e (.one (.dp (.s C n 4)))), (1, .e (.one (.dp (.s W m 4)))), (5, (iI (Int.ofNat i)))] 26 0⟩
def A191__end (_C : List DT) (_W : List DT) (_n _m _i : Nat) (_o : ByteArray) (_q : ByteArray) (_p _f _s x _y _z _e : Int) (_w : Bool) (j : Nat → Value) : St := ⟨[], [.code .ret], mkT j [(2, (iB (x != x)))] 6 0⟩
theorem A191_ (hE : EnvOk E) (C : List DT) (W : List DT) (n m i : Nat) (o : ByteArray) (q : ByteArray) (p f s x y z e : Int) (w : Bool) : Sg 0 0 (s191 C W n m i o q p f s x y z e w) (A191__end C W n m i o q p f s x y z e w) := fun ho j =>
 oS hE [.run 4] [2] (ps := []) trivial
  ho
theorem A191__c (hE : EnvOk E) (C : List DT) (W : List DT) (n m i : Nat) (o : ByteArray) (q : ByteArray) (p f s x y z e : Int) (w : Bool)   : COut E 0 [] 191 [(iI x)] (iB (x != x)) [] := cOut_start Tryz.func191 rfl (A191_ hE C W n m i o q p f s x y z e w   zR fun _ => undef)
theorem A191_all (hE : EnvOk E) (C : List DT) (W : List DT) (n m i : Nat) (o : ByteArray) (q : ByteArray) (p f s x y z e : Int) (w : Bool) : COut E 0 [] 191 [(iI x)] (iB (x != x)) [] := by
 exact A191__c hE C W n m i o q p f s x y z e w  
def A147__end (_C : List DT) (_W : List DT) (_n _m _i : Nat) (_o : ByteArray) (_q : ByteArray) (_p f _s _x _y _z _e : Int) (_w : Bool) (j : Nat → Value) : St := ⟨[], [.code .ret], mkT j [(2, (iB (decide (f > (0 : Int)))))] 6 0⟩
theorem A147_ (hE : EnvOk E) (C : List DT) (W : List DT) (n m i : Nat) (o : ByteArray) (q : ByteArray) (p f s x y z e : Int) (w : Bool) : Sg 0 0 (s147 C W n m i o q p f s x y z e w) (A147__end C W n m i o q p f s x y z e w) := fun ho j =>
 oS hE [.run 4] [2] (s' := fun j => ⟨[bK (zSt o p f s) 4 138], [.code .ret], mkT j [(2, (iB (decide (f > (0 : Int)))))] 6 0⟩) (ps := []) trivial
  fun j => gZ [] (ho j)
theorem A147__c (hE : EnvOk E) (C : List DT) (W : List DT) (n m i : Nat) (o : ByteArray) (q : ByteArray) (p f s x y z e : Int) (w : Bool)   : COut E 0 [] 147 [.e (.agg (zSt o p f s))] (iB (decide (f > (0 : Int)))) [] := cOut_start Tryz.func147 rfl (A147_ hE C W n m i o q p f s x y z e w   zR fun _ => undef)
theorem A147_all (hE : EnvOk E) (C : List DT) (W : List DT) (n m i : Nat) (o : ByteArray) (q : ByteArray) (p f s x y z e : Int) (w : Bool) : COut E 0 [] 147 [.e (.agg (zSt o p f s))] (iB (decide (f > (0 : Int)))) [] := by
 exact A147__c hE C W n m i o q p f s x y z e w  
def A176__end (_C : List DT) (_W : List DT) (_n _m _i : Nat) (_o : ByteArray) (_q : ByteArray) (p _f s _x _y _z _e : Int) (_w : Bool) (j : Nat → Value) : St := ⟨[], [.code .ret], mkT j [(2, (iI (wrapF IntKind.i64 (p + s))))] 8 0⟩
theorem A176_ (hE : EnvOk E) (C : List DT) (W : List DT) (n m i : Nat) (o : ByteArray) (q : ByteArray) (p f s x y z e : Int) (w : Bool) : Sg 0 0 (s176 C W n m i o q p f s x y z e w) (A176__end C W n m i o q p f s x y z e w) := fun ho j =>
 oS hE [.run 4] [2] (s' := fun j => ⟨[bK (zSt o p f s) 4 138], [.code .ret], mkT j [(2, (iI (wrapF IntKind.i64 (p + s))))] 8 0⟩) (ps := []) trivial
  fun j => gZ [] (ho j)
theorem A176__c (hE : EnvOk E) (C : List DT) (W : List DT) (n m i : Nat) (o : ByteArray) (q : ByteArray) (p f s x y z e : Int) (w : Bool)   : COut E 0 [] 176 [.e (.agg (zSt o p f s))] (iI (wrapF IntKind.i64 (p + s))) [] := cOut_start Tryz.func176 rfl (A176_ hE C W n m i o q p f s x y z e w   zR fun _ => undef)
theorem A176_all (hE : EnvOk E) (C : List DT) (W : List DT) (n m i : Nat) (o : ByteArray) (q : ByteArray) (p f s x y z e : Int) (w : Bool) : COut E 0 [] 176 [.e (.agg (zSt o p f s))] (iI (wrapF IntKind.i64 (p + s))) [] := by
 exact A176__c hE C W n m i o q p f s x y z e w  
def A108__end (_C : List DT) (_W : List DT) (_n _m _i : Nat) (_o : ByteArray) (_q : ByteArray) (_p _f _s x _y _z _e : Int) (_w : Bool) (j : Nat → Value) : St := ⟨[], [.code .ret], mkT j [(2, (iI (rgS x (Int.ofNat (nat_lit 0)) (Int.ofNat (nat_lit 256)))))] 5 0⟩
theorem A108_ (hE : EnvOk E) (C : List DT) (W : List DT) (n m i : Nat) (o : ByteArray) (q : ByteArray) (p f s x y z e : Int) (w : Bool) : Sg 0 0 (s108 C W n m i o q p f s x y z e w) (A108__end C W n m i o q p f s x y z e w) := fun ho j =>
 oS hE [.run 3, .ops [(1, .c0 (iI (rgS x (Int.ofNat (nat_lit 0)) (Int.ofNat (nat_lit 256)))))] []] [2] (ps := [COut E 0 [] 79 [(iI x), (iI 0), (iI 256)] (iI (rgS x (Int.ofNat (nat_lit 0)) (Int.ofNat (nat_lit 256)))) [], ([] : List Nat) = []]) ⟨(S79 hE _ _ _), rfl, trivial⟩
  ho
theorem A108__c (hE : EnvOk E) (C : List DT) (W : List DT) (n m i : Nat) (o : ByteArray) (q : ByteArray) (p f s x y z e : Int) (w : Bool)   : COut E 0 [] 108 [(iI x)] (iI (rgS x (Int.ofNat (nat_lit 0)) (Int.ofNat (nat_lit 256)))) [] := cOut_start Tryz.func108 rfl (A108_ hE C W n m i o q p f s x y z e w   zR fun _ => undef)
theorem A108_all (hE : EnvOk E) (C : List DT) (W : List DT) (n m i : Nat) (o : ByteArray) (q : ByteArray) (p f s x y z e : Int) (w : Bool) : COut E 0 [] 108 [(iI x)] (iI (rgS x (Int.ofNat (nat_lit 0)) (Int.ofNat (nat_lit 256)))) [] := by
 exact A108__c hE C W n m i o q p f s x y z e w  
def A56_f_end (_C : List DT) (_W : List DT) (_n _m _i : Nat) (_o : ByteArray) (_q : ByteArray) (_p _f _s x _y _z _e : Int) (_w : Bool) (j : Nat → Value) : St := ⟨[], [.code .ret], mkT j [(2, (iI (wrapF IntKind.i64 (x + (3 : Int))))), (3, (iI 0))] 12 0⟩
theorem A56_f (hE : EnvOk E) (C : List DT) (W : List DT) (n m i : Nat) (o : ByteArray) (q : ByteArray) (p f s x y z e : Int) (w : Bool) (c0 : (rgS x (Int.ofNat (nat_lit 1)) (Int.ofNat (nat_lit 8)) != (0 : Int) : Bool) = false) : Sg 0 0 (s56 C W n m i o q p f s x y z e w) (A56_f_end C W n m i o q p f s x y z e w) := fun ho j =>
 oS hE [.run 4, .ops [(1, .c0 (iI (rgS x (Int.ofNat (nat_lit 1)) (Int.ofNat (nat_lit 8)))))] [], .run 2, .cond false, .run 3] [2, 3] (ps := [COut E 0 [] 79 [(iI x), (iI 1), (iI 8)] (iI (rgS x (Int.ofNat (nat_lit 1)) (Int.ofNat (nat_lit 8)))) [], ([] : List Nat) = [], (rgS x (Int.ofNat (nat_lit 1)) (Int.ofNat (nat_lit 8)) != (0 : Int) : Bool) = false]) ⟨(S79 hE _ _ _), rfl, c0, trivial⟩
  ho
theorem A56_f_c (hE : EnvOk E) (C : List DT) (W : List DT) (n m i : Nat) (o : ByteArray) (q : ByteArray) (p f s x y z e : Int) (w : Bool) (c0 : (rgS x (Int.ofNat (nat_lit 1)) (Int.ofNat (nat_lit 8)) != (0 : Int) : Bool) = false)  : COut E 0 [] 56 [(iI x)] (.tup [.one (.v (.int .i64 (wrapF IntKind.i64 (x + (3 : Int))))), .one (.v (.int .i64 0))]) [] := cOut_start Tryz.func56 rfl (A56_f hE C W n m i o q p f s x y z e w c0  zR fun _ => undef)
def A56_t_end (_C : List DT) (_W : List DT) (_n _m _i : Nat) (_o : ByteArray) (_q : ByteArray) (_p _f _s x _y _z _e : Int) (_w : Bool) (j : Nat → Value) : St := ⟨[], [.code .ret, .code (atC [1, 1] (bodyOf Tryz.f56))], mkT j [(2, (iI 0)), (3, (iI (rgS x (Int.ofNat (nat_lit 1)) (Int.ofNat (nat_lit 8)))))] 12 0⟩
theorem A56_t (hE : EnvOk E) (C : List DT) (W : List DT) (n m i : Nat) (o : ByteArray) (q : ByteArray) (p f s x y z e : Int) (w : Bool) (c0 : (rgS x (Int.ofNat (nat_lit 1)) (Int.ofNat (nat_lit 8)) != (0 : Int) : Bool) = true) : Sg 0 0 (s56 C W n m i o q p f s x y z e w) (A56_t_end C W n m i o q p f s x y z e w) := fun ho j =>
 oS hE [.run 4, .ops [(1, .c0 (iI (rgS x (Int.ofNat (nat_lit 1)) (Int.ofNat (nat_lit 8)))))] [], .run 2, .cond true, .run 2] [2, 3] (ps := [COut E 0 [] 79 [(iI x), (iI 1), (iI 8)] (iI (rgS x (Int.ofNat (nat_lit 1)) (Int.ofNat (nat_lit 8)))) [], ([] : List Nat) = [], (rgS x (Int.ofNat (nat_lit 1)) (Int.ofNat (nat_lit 8)) != (0 : Int) : Bool) = true]) ⟨(S79 hE _ _ _), rfl, c0, trivial⟩
  ho
theorem A56_t_c (hE : EnvOk E) (C : List DT) (W : List DT) (n m i : Nat) (o : ByteArray) (q : ByteArray) (p f s x y z e : Int) (w : Bool) (c0 : (rgS x (Int.ofNat (nat_lit 1)) (Int.ofNat (nat_lit 8)) != (0 : Int) : Bool) = true)  : COut E 0 [] 56 [(iI x)] (.tup [.one (.v (.int .i64 0)), .one (.v (.int .i64 (rgS x (Int.ofNat (nat_lit 1)) (Int.ofNat (nat_lit 8)))))]) [] := cOut_start Tryz.func56 rfl (A56_t hE C W n m i o q p f s x y z e w c0  zR fun _ => undef)
def A56_r0 (_C : List DT) (_W : List DT) (_n _m _i : Nat) (_o : ByteArray) (_q : ByteArray) (_p _f _s x _y _z _e : Int) (_w : Bool) : Int := (bif rgS x (Int.ofNat (nat_lit 1)) (Int.ofNat (nat_lit 8)) != (0 : Int) then 0 else (wrapF IntKind.i64 (x + (3 : Int))))
def A56_r1 (_C : List DT) (_W : List DT) (_n _m _i : Nat) (_o : ByteArray) (_q : ByteArray) (_p _f _s x _y _z _e : Int) (_w : Bool) : Int := (bif rgS x (Int.ofNat (nat_lit 1)) (Int.ofNat (nat_lit 8)) != (0 : Int) then (rgS x (Int.ofNat (nat_lit 1)) (Int.ofNat (nat_lit 8))) else 0)
theorem A56_all (hE : EnvOk E) (C : List DT) (W : List DT) (n m i : Nat) (o : ByteArray) (q : ByteArray) (p f s x y z e : Int) (w : Bool) : COut E 0 [] 56 [(iI x)] (.tup [.one (.v (.int .i64 (A56_r0 C W n m i o q p f s x y z e w))), .one (.v (.int .i64 (A56_r1 C W n m i o q p f s x y z e w)))]) [] := by
 rcases Bool.eq_false_or_eq_true (rgS x (Int.ofNat (nat_lit 1)) (Int.ofNat (nat_lit 8)) != (0 : Int)) with c0 | c0
 ·skip
  have e0 : A56_r0 C W n m i o q p f s x y z e w = 0 := by unfold A56_r0; rw [c0]; first | done | rfl
  have e1 : A56_r1 C W n m i o q p f s x y z e w = (rgS x (Int.ofNat (nat_lit 1)) (Int.ofNat (nat_lit 8))) := by unfold A56_r1; rw [c0]; first | done | rfl
  rw [e0, e1]
  exact A56_t_c hE C W n m i o q p f s x y z e w c0 
 ·skip
  have e0 : A56_r0 C W n m i o q p f s x y z e w = (wrapF IntKind.i64 (x + (3 : Int))) := by unfold A56_r0; rw [c0]; first | done | rfl
  have e1 : A56_r1 C W n m i o q p f s x y z e w = 0 := by unfold A56_r1; rw [c0]; first | done | rfl
  rw [e0, e1]
  exact A56_f_c hE C W n m i o q p f s x y z e w c0 
def A60__end (_C : List DT) (_W : List DT) (_n _m _i : Nat) (_o : ByteArray) (_q : ByteArray) (_p _f _s x _y _z _e : Int) (_w : Bool) (j : Nat → Value) : St := ⟨[], [.code .ret], mkT j [(2, (iI (rgS x (Int.ofNat (nat_lit 0)) (Int.ofNat (nat_lit 256)))))] 5 0⟩
theorem A60_ (hE : EnvOk E) (C : List DT) (W : List DT) (n m i : Nat) (o : ByteArray) (q : ByteArray) (p f s x y z e : Int) (w : Bool) : Sg 0 0 (s60 C W n m i o q p f s x y z e w) (A60__end C W n m i o q p f s x y z e w) := fun ho j =>
 oS hE [.run 3, .ops [(1, .c0 (iI (rgS x (Int.ofNat (nat_lit 0)) (Int.ofNat (nat_lit 256)))))] []] [2] (ps := [COut E 0 [] 61 [(iI x), (iI 0), (iI 256)] (iI (rgS x (Int.ofNat (nat_lit 0)) (Int.ofNat (nat_lit 256)))) [], ([] : List Nat) = []]) ⟨(S61 hE _ _ _), rfl, trivial⟩
  ho
theorem A60__c (hE : EnvOk E) (C : List DT) (W : List DT) (n m i : Nat) (o : ByteArray) (q : ByteArray) (p f s x y z e : Int) (w : Bool)   : COut E 0 [] 60 [(iI x)] (iI (rgS x (Int.ofNat (nat_lit 0)) (Int.ofNat (nat_lit 256)))) [] := cOut_start Tryz.func60 rfl (A60_ hE C W n m i o q p f s x y z e w   zR fun _ => undef)
theorem A60_all (hE : EnvOk E) (C : List DT) (W : List DT) (n m i : Nat) (o : ByteArray) (q : ByteArray) (p f s x y z e : Int) (w : Bool) : COut E 0 [] 60 [(iI x)] (iI (rgS x (Int.ofNat (nat_lit 0)) (Int.ofNat (nat_lit 256)))) [] := by
 exact A60__c hE C W n m i o q p f s x y z e w  
def A62__end (_C : List DT) (_W : List DT) (n _m _i : Nat) (_o : ByteArray) (_q : ByteArray) (_p _f _s _x _y _z _e : Int) (_w : Bool) (j : Nat → Value) : St := ⟨[], [.code .ret], mkT j [(2, (iI (firstI
 [if ((↑n : Int) == (0 : Int)) = true then Int.ofNat (nat_lit 12) else (0 : Int),
  if decide ((↑n : Int) > (16 : Int)) = true then Int.ofNat (nat_lit 5) else (0 : Int)])))] 13 0⟩
theorem A62_ (hE : EnvOk E) (C : List DT) (W : List DT) (n m i : Nat) (o : ByteArray) (q : ByteArray) (p f s x y z e : Int) (w : Bool) : Sg 0 0 (s62 C W n m i o q p f s x y z e w) (A62__end C W n m i o q p f s x y z e w) := fun ho j =>
 oS hE [.run 3, .ops [(1, .d .len), (3, .c0 (iI (if ((↑n : Int) == (0 : Int)) = true then Int.ofNat (nat_lit 12) else (0 : Int)))), (5, .d .len), (7, .c0 (iI (if decide ((↑n : Int) > (16 : Int)) = true then Int.ofNat (nat_lit 5) else (0 : Int)))), (9, .d (.c1 (iI (firstI
 [if ((↑n : Int) == (0 : Int)) = true then Int.ofNat (nat_lit 12) else (0 : Int),
  if decide ((↑n : Int) > (16 : Int)) = true then Int.ofNat (nat_lit 5) else (0 : Int)]))))] []] [2] (s' := fun j => ⟨[bK [.v (.int .i64 (if ((↑n : Int) == (0 : Int)) = true then Int.ofNat (nat_lit 12) else (0 : Int))), .v (.int .i64 (if decide ((↑n : Int) > (16 : Int)) = true then Int.ofNat (nat_lit 5) else (0 : Int)))] 2 3], [.code .ret], mkT j [(2, (iI (firstI
 [if ((↑n : Int) == (0 : Int)) = true then Int.ofNat (nat_lit 12) else (0 : Int),
  if decide ((↑n : Int) > (16 : Int)) = true then Int.ofNat (nat_lit 5) else (0 : Int)])))] 13 0⟩) (ps := [COut E 0 [] 65 [(iB ((↑n : Int) == (0 : Int))), (iI 12)] (iI (if ((↑n : Int) == (0 : Int)) = true then Int.ofNat (nat_lit 12) else (0 : Int))) [], ([] : List Nat) = [], COut E 0 [] 65 [(iB (decide ((↑n : Int) > (16 : Int)))), (iI 5)] (iI (if decide ((↑n : Int) > (16 : Int)) = true then Int.ofNat (nat_lit 5) else (0 : Int))) [], ([] : List Nat) = [], COut E 1 [bK [.v (.int .i64 (if ((↑n : Int) == (0 : Int)) = true then Int.ofNat (nat_lit 12) else (0 : Int))), .v (.int .i64 (if decide ((↑n : Int) > (16 : Int)) = true then Int.ofNat (nat_lit 5) else (0 : Int)))] 2 3] 88 [.e (.one (.slc 0 0 2 1 2 true))] (iI (firstI
 [if ((↑n : Int) == (0 : Int)) = true then Int.ofNat (nat_lit 12) else (0 : Int),
  if decide ((↑n : Int) > (16 : Int)) = true then Int.ofNat (nat_lit 5) else (0 : Int)])) [bK [.v (.int .i64 (if ((↑n : Int) == (0 : Int)) = true then Int.ofNat (nat_lit 12) else (0 : Int))), .v (.int .i64 (if decide ((↑n : Int) > (16 : Int)) = true then Int.ofNat (nat_lit 5) else (0 : Int)))] 2 3], ([] : List Nat) = []]) ⟨(S65 hE _ _), rfl, (S65 hE _ _), rfl, (C88 hE [bK [.v (.int .i64 (if ((↑n : Int) == (0 : Int)) = true then Int.ofNat (nat_lit 12) else (0 : Int))), .v (.int .i64 (if decide ((↑n : Int) > (16 : Int)) = true then Int.ofNat (nat_lit 5) else (0 : Int)))] 2 3] _ _ _ rfl rfl), rfl, trivial⟩
  fun j => gZ [] (ho j)
theorem A62__c (hE : EnvOk E) (C : List DT) (W : List DT) (n m i : Nat) (o : ByteArray) (q : ByteArray) (p f s x y z e : Int) (w : Bool)   : COut E 0 [] 62 [.e (.one (.dp (.s C n 1)))] (iI (firstI
 [if ((↑n : Int) == (0 : Int)) = true then Int.ofNat (nat_lit 12) else (0 : Int),
  if decide ((↑n : Int) > (16 : Int)) = true then Int.ofNat (nat_lit 5) else (0 : Int)])) [] := cOut_start Tryz.func62 rfl (A62_ hE C W n m i o q p f s x y z e w   zR fun _ => undef)
theorem A62_all (hE : EnvOk E) (C : List DT) (W : List DT) (n m i : Nat) (o : ByteArray) (q : ByteArray) (p f s x y z e : Int) (w : Bool) : COut E 0 [] 62 [.e (.one (.dp (.s C n 1)))] (iI (firstI
 [if ((↑n : Int) == (0 : Int)) = true then Int.ofNat (nat_lit 12) else (0 : Int),
  if decide ((↑n : Int) > (16 : Int)) = true then Int.ofNat (nat_lit 5) else (0 : Int)])) [] := by
 exact A62__c hE C W n m i o q p f s x y z e w  
def A111__end (_C : List DT) (_W : List DT) (n _m _i : Nat) (_o : ByteArray) (_q : ByteArray) (_p _f _s _x _y _z _e : Int) (_w : Bool) (j : Nat → Value) : St := ⟨[], [.code .ret], mkT j [(2, (iI (firstI
 [if ((↑n : Int) == (0 : Int)) = true then Int.ofNat (nat_lit 12) else (0 : Int),
  if decide ((↑n : Int) > (16 : Int)) = true then Int.ofNat (nat_lit 5) else (0 : Int)])))] 13 0⟩
theorem A111_ (hE : EnvOk E) (C : List DT) (W : List DT) (n m i : Nat) (o : ByteArray) (q : ByteArray) (p f s x y z e : Int) (w : Bool) : Sg 0 0 (s111 C W n m i o q p f s x y z e w) (A111__end C W n m i o q p f s x y z e w) := fun ho j =>
 oS hE [.run 3, .ops [(1, .d .len), (3, .c0 (iI (if ((↑n : Int) == (0 : Int)) = true then Int.ofNat (nat_lit 12) else (0 : Int)))), (5, .d .len), (7, .c0 (iI (if decide ((↑n : Int) > (16 : Int)) = true then Int.ofNat (nat_lit 5) else (0 : Int)))), (9, .d (.c1 (iI (firstI
 [if ((↑n : Int) == (0 : Int)) = true then Int.ofNat (nat_lit 12) else (0 : Int),
  if decide ((↑n : Int) > (16 : Int)) = true then Int.ofNat (nat_lit 5) else (0 : Int)]))))] []] [2] (s' := fun j => ⟨[bK [.v (.int .i64 (if ((↑n : Int) == (0 : Int)) = true then Int.ofNat (nat_lit 12) else (0 : Int))), .v (.int .i64 (if decide ((↑n : Int) > (16 : Int)) = true then Int.ofNat (nat_lit 5) else (0 : Int)))] 2 31], [.code .ret], mkT j [(2, (iI (firstI
 [if ((↑n : Int) == (0 : Int)) = true then Int.ofNat (nat_lit 12) else (0 : Int),
  if decide ((↑n : Int) > (16 : Int)) = true then Int.ofNat (nat_lit 5) else (0 : Int)])))] 13 0⟩) (ps := [COut E 0 [] 80 [(iB ((↑n : Int) == (0 : Int))), (iI 12)] (iI (if ((↑n : Int) == (0 : Int)) = true then Int.ofNat (nat_lit 12) else (0 : Int))) [], ([] : List Nat) = [], COut E 0 [] 80 [(iB (decide ((↑n : Int) > (16 : Int)))), (iI 5)] (iI (if decide ((↑n : Int) > (16 : Int)) = true then Int.ofNat (nat_lit 5) else (0 : Int))) [], ([] : List Nat) = [], COut E 1 [bK [.v (.int .i64 (if ((↑n : Int) == (0 : Int)) = true then Int.ofNat (nat_lit 12) else (0 : Int))), .v (.int .i64 (if decide ((↑n : Int) > (16 : Int)) = true then Int.ofNat (nat_lit 5) else (0 : Int)))] 2 31] 78 [.e (.one (.slc 0 0 2 1 2 true))] (iI (firstI
 [if ((↑n : Int) == (0 : Int)) = true then Int.ofNat (nat_lit 12) else (0 : Int),
  if decide ((↑n : Int) > (16 : Int)) = true then Int.ofNat (nat_lit 5) else (0 : Int)])) [bK [.v (.int .i64 (if ((↑n : Int) == (0 : Int)) = true then Int.ofNat (nat_lit 12) else (0 : Int))), .v (.int .i64 (if decide ((↑n : Int) > (16 : Int)) = true then Int.ofNat (nat_lit 5) else (0 : Int)))] 2 31], ([] : List Nat) = []]) ⟨(S80 hE _ _), rfl, (S80 hE _ _), rfl, (C78 hE [bK [.v (.int .i64 (if ((↑n : Int) == (0 : Int)) = true then Int.ofNat (nat_lit 12) else (0 : Int))), .v (.int .i64 (if decide ((↑n : Int) > (16 : Int)) = true then Int.ofNat (nat_lit 5) else (0 : Int)))] 2 31] _ _ _ rfl rfl), rfl, trivial⟩
  fun j => gZ [] (ho j)
theorem A111__c (hE : EnvOk E) (C : List DT) (W : List DT) (n m i : Nat) (o : ByteArray) (q : ByteArray) (p f s x y z e : Int) (w : Bool)   : COut E 0 [] 111 [.e (.one (.dp (.s C n 1)))] (iI (firstI
 [if ((↑n : Int) == (0 : Int)) = true then Int.ofNat (nat_lit 12) else (0 : Int),
  if decide ((↑n : Int) > (16 : Int)) = true then Int.ofNat (nat_lit 5) else (0 : Int)])) [] := cOut_start Tryz.func111 rfl (A111_ hE C W n m i o q p f s x y z e w   zR fun _ => undef)
theorem A111_all (hE : EnvOk E) (C : List DT) (W : List DT) (n m i : Nat) (o : ByteArray) (q : ByteArray) (p f s x y z e : Int) (w : Bool) : COut E 0 [] 111 [.e (.one (.dp (.s C n 1)))] (iI (firstI
 [if ((↑n : Int) == (0 : Int)) = true then Int.ofNat (nat_lit 12) else (0 : Int),
  if decide ((↑n : Int) > (16 : Int)) = true then Int.ofNat (nat_lit 5) else (0 : Int)])) [] := by
 exact A111__c hE C W n m i o q p f s x y z e w  
def p175a_end (C : List DT) (_W : List DT) (n _m _i : Nat) (_o : ByteArray) (_q : ByteArray) (_p _f _s _x _y _z _e : Int) (_w : Bool) (j : Nat → Value) : St := ⟨[], ztSb0, mkT j [(3, (iI 0)), (6, .e (.one (.dp (.s C n 1)))), (7, (iI (Int.ofNat n))), (8, (iI 0))] 18 0⟩
theorem p175a (hE : EnvOk E) (C : List DT) (W : List DT) (n m i : Nat) (o : ByteArray) (q : ByteArray) (p f s x y z e : Int) (w : Bool) : Sg 0 0 (s175 C W n m i o q p f s x y z e w) (p175a_end C W n m i o q p f s x y z e w) := fun ho j =>
 oS hE [.run 6, .ops [(1, .d .len)] [], .run 2] [3, 6, 7, 8] (ps := []) trivial
  ho
def p174a_end (C : List DT) (_W : List DT) (n _m _i : Nat) (_o : ByteArray) (_q : ByteArray) (_p _f _s _x _y _z _e : Int) (_w : Bool) (j : Nat → Value) : St := ⟨[], ztSb3, mkT j [(0, .e (.one (.dp (.s C n 4)))), (1, .e (.one (.v (.func (.func 147) #[] #[])))), (7, (iI (Int.ofNat n))), (8, (iI 0))] 19 0⟩
theorem p174a (hE : EnvOk E) (C : List DT) (W : List DT) (n m i : Nat) (o : ByteArray) (q : ByteArray) (p f s x y z e : Int) (w : Bool) : Sg 0 0 (s174 C W n m i o q p f s x y z e w) (p174a_end C W n m i o q p f s x y z e w) := fun ho j =>
 oS hE [.run 4, .ops [(1, .d .len)] [], .run 2] [0, 1, 7, 8] (ps := []) trivial
  ho
def p148a_end (C : List DT) (_W : List DT) (n _m _i : Nat) (_o : ByteArray) (q : ByteArray) (_p _f _s x y z _e : Int) (_w : Bool) (j : Nat → Value) : St := ⟨[bK (zSt q x y z) 4 138], ztSb4, mkT j [(0, .e (.one (.dp (.s C n 4)))), (3, .e (.one (.ptr 0 0))), (7, (iI (Int.ofNat n))), (8, (iI 0))] 19 0⟩
theorem p148a (hE : EnvOk E) (C : List DT) (W : List DT) (n m i : Nat) (o : ByteArray) (q : ByteArray) (p f s x y z e : Int) (w : Bool) : Sg 0 0 (s148 C W n m i o q p f s x y z e w) (p148a_end C W n m i o q p f s x y z e w) := fun ho j =>
 oS hE [.run 4, .ops [(1, .d .len)] [], .run 2] [0, 3, 7, 8] (ps := []) trivial
  ho
def p177a_end (C : List DT) (_W : List DT) (n _m _i : Nat) (_o : ByteArray) (_q : ByteArray) (_p _f _s _x _y _z _e : Int) (_w : Bool) (j : Nat → Value) : St := ⟨[], ztSb5, mkT j [(0, .e (.one (.dp (.s C n 1)))), (1, (iB true)), (7, (iI (Int.ofNat n))), (8, (iI 0))] 19 0⟩
theorem p177a (hE : EnvOk E) (C : List DT) (W : List DT) (n m i : Nat) (o : ByteArray) (q : ByteArray) (p f s x y z e : Int) (w : Bool) : Sg 0 0 (s177 C W n m i o q p f s x y z e w) (p177a_end C W n m i o q p f s x y z e w) := fun ho j =>
 oS hE [.run 4, .ops [(1, .d .len)] [], .run 2] [0, 1, 7, 8] (ps := []) trivial
  ho
def p66a_end (C : List DT) (_W : List DT) (n _m _i : Nat) (_o : ByteArray) (_q : ByteArray) (_p _f _s _x _y _z _e : Int) (_w : Bool) (j : Nat → Value) : St := ⟨[], ztSb6, mkT j [(0, .e (.one (.dp (.s C n 1)))), (3, (iI 0))] 14 0⟩
theorem p66a (hE : EnvOk E) (C : List DT) (W : List DT) (n m i : Nat) (o : ByteArray) (q : ByteArray) (p f s x y z e : Int) (w : Bool) : Sg 0 0 (s66 C W n m i o q p f s x y z e w) (p66a_end C W n m i o q p f s x y z e w) := fun ho j =>
 oS hE [.run 7] [0, 3] (ps := []) trivial
  ho
def p44a_end (C : List DT) (W : List DT) (n m _i : Nat) (_o : ByteArray) (_q : ByteArray) (_p _f _s _x _y _z _e : Int) (_w : Bool) (j : Nat → Value) : St := ⟨[], ztSb2, mkT j [(0, .e (.one (.dp (.s C n 1)))), (1, .e (.one (.dp (.s W m 1)))), (5, (iI 0))] 26 0⟩
theorem p44a (hE : EnvOk E) (C : List DT) (W : List DT) (n m i : Nat) (o : ByteArray) (q : ByteArray) (p f s x y z e : Int) (w : Bool) (h0 : ((↑n : Int) != (↑m : Int) : Bool) = false) : Sg 0 0 (s44 C W n m i o q p f s x y z e w) (p44a_end C W n m i o q p f s x y z e w) := fun ho j =>
 oS hE [.run 4, .ops [(1, .d .len), (3, .d .len)] [], .cond false, .run 6] [0, 1, 5] (aP h0 <| aZ)
  ho
def p118a_end (C : List DT) (W : List DT) (n m _i : Nat) (_o : ByteArray) (_q : ByteArray) (_p _f _s _x _y _z _e : Int) (_w : Bool) (j : Nat → Value) : St := ⟨[], ztSb1, mkT j [(0, .e (.one (.dp (.s C n 4)))), (1, .e (.one (.dp (.s W m 4)))), (5, (iI 0))] 26 0⟩
theorem p118a (hE : EnvOk E) (C : List DT) (W : List DT) (n m i : Nat) (o : ByteArray) (q : ByteArray) (p f s x y z e : Int) (w : Bool) (h0 : ((↑n : Int) != (↑m : Int) : Bool) = false) : Sg 0 0 (s118 C W n m i o q p f s x y z e w) (p118a_end C W n m i o q p f s x y z e w) := fun ho j =>
 oS hE [.run 4, .ops [(1, .d .len), (3, .d .len)] [], .cond false, .run 6] [0, 1, 5] (aP h0 <| aZ)
  ho
def p146_end (_C : List DT) (_W : List DT) (_n _m _i : Nat) (_o : ByteArray) (_q : ByteArray) (_p _f _s _x _y _z e : Int) (_w : Bool) (j : Nat → Value) : St := ⟨[], [.code .ret], mkT j [(4, (iB (decide (e ≥ (0 : Int)))))] 9 0⟩
theorem p146 (hE : EnvOk E) (C : List DT) (W : List DT) (n m i : Nat) (o : ByteArray) (q : ByteArray) (p f s x y z e : Int) (w : Bool) (h0 : COut E 0 [] 174 [.e (.one (.dp (.s C n 4))), .e (.one (.v (.func (.func 147) #[] #[])))] (iI e) []) : Sg 0 0 (s146 C W n m i o q p f s x y z e w) (p146_end C W n m i o q p f s x y z e w) := fun ho j =>
 oS hE [.run 3, .ops [(2, .c0 (iI e))] []] [4] (aP h0 <| aN <| aZ)
  ho
def p154_end (_C : List DT) (_W : List DT) (_n _m _i : Nat) (_o : ByteArray) (_q : ByteArray) (_p _f _s _x _y _z e : Int) (_w : Bool) (j : Nat → Value) : St := ⟨[], [.code .ret], mkT j [(4, (iB (decide (e ≥ (0 : Int)))))] 9 0⟩
theorem p154 (hE : EnvOk E) (C : List DT) (W : List DT) (n m i : Nat) (o : ByteArray) (q : ByteArray) (p f s x y z e : Int) (w : Bool) (h0 : COut E 0 [] 177 [.e (.one (.dp (.s C n 1))), (iB true)] (iI e) []) : Sg 0 0 (s154 C W n m i o q p f s x y z e w) (p154_end C W n m i o q p f s x y z e w) := fun ho j =>
 oS hE [.run 3, .ops [(2, .c0 (iI e))] []] [4] (aP h0 <| aN <| aZ)
  ho
def p112_end (_C : List DT) (_W : List DT) (_n _m _i : Nat) (_o : ByteArray) (_q : ByteArray) (_p _f _s _x _y _z e : Int) (_w : Bool) (j : Nat → Value) : St := ⟨[], [.code .ret], mkT j [(2, (iI e))] 7 0⟩
theorem p112 (hE : EnvOk E) (C : List DT) (W : List DT) (n m i : Nat) (o : ByteArray) (q : ByteArray) (p f s x y z e : Int) (w : Bool) (h0 : COut E 0 [] 154 [.e (.one (.dp (.s C n 1))), (iB true)] (iB w) []) (h2 : COut E 0 [] 80 [(iB (!w)), (iI 7)] (iI e) []) : Sg 0 0 (s112 C W n m i o q p f s x y z e w) (p112_end C W n m i o q p f s x y z e w) := fun ho j =>
 oS hE [.run 3, .ops [(1, .c0 (iB w)), (3, .c0 (iI e))] []] [2] (aP h0 <| aN <| aP h2 <| aN <| aZ)
  ho
def p175s_end (C : List DT) (_W : List DT) (n _m i : Nat) (_o : ByteArray) (_q : ByteArray) (_p _f _s _x _y _z _e : Int) (_w : Bool) (j : Nat → Value) : St := ⟨[], ztSb0, mkT j [(3, (iI 0)), (6, .e (.one (.dp (.s C n 1)))), (7, (iI (Int.ofNat n))), (8, (iI (Int.ofNat (i + 1))))] 18 0⟩
theorem p175s (hE : EnvOk E) (C : List DT) (W : List DT) (n m i : Nat) (o : ByteArray) (q : ByteArray) (p f s x y z e : Int) (w : Bool) (h0 : (decide (Int.ofNat i < Int.ofNat n) : Bool) = true) (h1 : (0 : Int) ≤ Int.ofNat i ∧ Int.ofNat i < (↑n : Int)) (h2 : ((Int.ofNat i).toNat * nat_lit 1 : Nat) = i) (h3 : (getL C i : Option DT) = (.some (.v (.int .i64 z)))) (h4 : (z != Int.ofNat (nat_lit 0) : Bool) = false) (h5 : ((iI (wrapF IntKind.i64 (Int.ofNat i + (1 : Int)))) : AV) = (iI (Int.ofNat (i + 1)))) : Sg 0 0 (q175 C W n m i o q p f s x y z e w) (p175s_end C W n m i o q p f s x y z e w) := fun ho j =>
 oS hE [.run 3, .cond true, .run 4, .ops [(1, .d (.ld (.v (.int .i64 z)))), (0, .d (.ix i))] [], .run 2, .cond false, .run 2, .ops [(0, .rn (iI (Int.ofNat (i + 1))))] [], .run 1] [3, 6, 7, 8] (aP h0 <| aP h1 <| aP h2 <| aP h3 <| aP h4 <| aP h5 <| aZ)
  ho
def p175e_end (_C : List DT) (_W : List DT) (_n _m _i : Nat) (_o : ByteArray) (_q : ByteArray) (_p _f _s _x _y z _e : Int) (_w : Bool) (j : Nat → Value) : St := ⟨[], [.code .ret, .inBlock 1, .code (atC [1, 1, 0, 1, 0, 0, 1, 1, 1] (bodyOf Tryz.f175)), .inLoop (atC [1, 1, 0, 1, 0, 0] (bodyOf Tryz.f175)), .inBlock 0, .code (atC [1, 1, 1] (bodyOf Tryz.f175))], mkT j [(2, (iI z))] 18 0⟩
theorem p175e (hE : EnvOk E) (C : List DT) (W : List DT) (n m i : Nat) (o : ByteArray) (q : ByteArray) (p f s x y z e : Int) (w : Bool) (h0 : (decide (Int.ofNat i < Int.ofNat n) : Bool) = true) (h1 : (0 : Int) ≤ Int.ofNat i ∧ Int.ofNat i < (↑n : Int)) (h2 : ((Int.ofNat i).toNat * nat_lit 1 : Nat) = i) (h3 : (getL C i : Option DT) = (.some (.v (.int .i64 z)))) (h4 : (z != Int.ofNat (nat_lit 0) : Bool) = true) : Sg 0 0 (q175 C W n m i o q p f s x y z e w) (p175e_end C W n m i o q p f s x y z e w) := fun ho j =>
 oS hE [.run 3, .cond true, .run 4, .ops [(1, .d (.ld (.v (.int .i64 z)))), (0, .d (.ix i))] [], .run 2, .cond true, .run 2] [2] (aP h0 <| aP h1 <| aP h2 <| aP h3 <| aP h4 <| aZ)
  ho
def p175x_end (_C : List DT) (_W : List DT) (_n _m _i : Nat) (_o : ByteArray) (_q : ByteArray) (_p _f _s _x _y _z _e : Int) (_w : Bool) (j : Nat → Value) : St := ⟨[], [.code .ret], mkT j [(2, (iI 0))] 18 0⟩
theorem p175x (hE : EnvOk E) (C : List DT) (W : List DT) (n m i : Nat) (o : ByteArray) (q : ByteArray) (p f s x y z e : Int) (w : Bool) (h0 : (decide (Int.ofNat i < Int.ofNat n) : Bool) = false) : Sg 0 0 (q175 C W n m i o q p f s x y z e w) (p175x_end C W n m i o q p f s x y z e w) := fun ho j =>
 oS hE [.run 3, .cond false, .run 3] [2] (aP h0 <| aZ)
  ho
def p174s_end (C : List DT) (_W : List DT) (n _m i : Nat) (_o : ByteArray) (_q : ByteArray) (_p _f _s _x _y _z _e : Int) (_w : Bool) (j : Nat → Value) : St := ⟨[], ztSb3, mkT j [(0, .e (.one (.dp (.s C n 4)))), (1, .e (.one (.v (.func (.func 147) #[] #[])))), (7, (iI (Int.ofNat n))), (8, (iI (Int.ofNat (i + 1))))] 19 0⟩
theorem p174s (hE : EnvOk E) (C : List DT) (W : List DT) (n m i : Nat) (o : ByteArray) (q : ByteArray) (p f s x y z e : Int) (w : Bool) (h0 : (decide (Int.ofNat i < Int.ofNat n) : Bool) = true) (h1 : (0 : Int) ≤ Int.ofNat i ∧ Int.ofNat i < (↑n : Int)) (h2 : ((Int.ofNat i).toNat * nat_lit 4 : Nat) = i.mul (nat_lit 4)) (h3 : (takeL (dropL C (i.mul (nat_lit 4))) (4 : Nat) : Option (List DT)) = (.some (zSd o p f s))) (h4 : COut E 0 [] 147 [.e (.agg (zSt o p f s))] (iB w) []) (h6 : (w : Bool) = false) (h7 : ((iI (wrapF IntKind.i64 (Int.ofNat i + (1 : Int)))) : AV) = (iI (Int.ofNat (i + 1)))) : Sg 0 0 (q174 C W n m i o q p f s x y z e w) (p174s_end C W n m i o q p f s x y z e w) := fun ho j =>
 oS hE [.run 3, .cond true, .run 6, .ops [(4, .d (.ldn (zSd o p f s))), (5, .c0 (iB w)), (3, .d (.ix (i.mul (nat_lit 4))))] [], .cond false, .run 2, .ops [(0, .rn (iI (Int.ofNat (i + 1))))] [], .run 1] [0, 1, 7, 8] (aP h0 <| aP h1 <| aP h2 <| aP h3 <| aP h4 <| aN <| aP h6 <| aP h7 <| aZ)
  ho
def p174e_end (_C : List DT) (_W : List DT) (_n _m i : Nat) (_o : ByteArray) (_q : ByteArray) (_p _f _s _x _y _z _e : Int) (_w : Bool) (j : Nat → Value) : St := ⟨[], [.code .ret, .inBlock 1, .code (atC [1, 0, 1, 0, 0, 1, 1, 1] (bodyOf Tryz.f174)), .inLoop (atC [1, 0, 1, 0, 0] (bodyOf Tryz.f174)), .inBlock 0, .code (atC [1, 1] (bodyOf Tryz.f174))], mkT j [(4, (iI (Int.ofNat i)))] 19 0⟩
theorem p174e (hE : EnvOk E) (C : List DT) (W : List DT) (n m i : Nat) (o : ByteArray) (q : ByteArray) (p f s x y z e : Int) (w : Bool) (h0 : (decide (Int.ofNat i < Int.ofNat n) : Bool) = true) (h1 : (0 : Int) ≤ Int.ofNat i ∧ Int.ofNat i < (↑n : Int)) (h2 : ((Int.ofNat i).toNat * nat_lit 4 : Nat) = i.mul (nat_lit 4)) (h3 : (takeL (dropL C (i.mul (nat_lit 4))) (4 : Nat) : Option (List DT)) = (.some (zSd o p f s))) (h4 : COut E 0 [] 147 [.e (.agg (zSt o p f s))] (iB w) []) (h6 : (w : Bool) = true) : Sg 0 0 (q174 C W n m i o q p f s x y z e w) (p174e_end C W n m i o q p f s x y z e w) := fun ho j =>
 oS hE [.run 3, .cond true, .run 6, .ops [(4, .d (.ldn (zSd o p f s))), (5, .c0 (iB w)), (3, .d (.ix (i.mul (nat_lit 4))))] [], .cond true, .run 2] [4] (aP h0 <| aP h1 <| aP h2 <| aP h3 <| aP h4 <| aN <| aP h6 <| aZ)
  ho
def p174x_end (_C : List DT) (_W : List DT) (_n _m _i : Nat) (_o : ByteArray) (_q : ByteArray) (_p _f _s _x _y _z _e : Int) (_w : Bool) (j : Nat → Value) : St := ⟨[], [.code .ret], mkT j [(4, (iI (-1)))] 19 0⟩
theorem p174x (hE : EnvOk E) (C : List DT) (W : List DT) (n m i : Nat) (o : ByteArray) (q : ByteArray) (p f s x y z e : Int) (w : Bool) (h0 : (decide (Int.ofNat i < Int.ofNat n) : Bool) = false) : Sg 0 0 (q174 C W n m i o q p f s x y z e w) (p174x_end C W n m i o q p f s x y z e w) := fun ho j =>
 oS hE [.run 3, .cond false, .run 3] [4] (aP h0 <| aZ)
  ho
def p148s_end (C : List DT) (_W : List DT) (n _m i : Nat) (_o : ByteArray) (q : ByteArray) (_p _f _s x y z _e : Int) (_w : Bool) (j : Nat → Value) : St := ⟨[bK (zSt q x y z) 4 138], ztSb4, mkT j [(0, .e (.one (.dp (.s C n 4)))), (3, .e (.one (.ptr 0 0))), (7, (iI (Int.ofNat n))), (8, (iI (Int.ofNat (i + 1))))] 19 0⟩
theorem p148s (hE : EnvOk E) (C : List DT) (W : List DT) (n m i : Nat) (o : ByteArray) (q : ByteArray) (p f s x y z e : Int) (w : Bool) (h0 : (decide (Int.ofNat i < Int.ofNat n) : Bool) = true) (h1 : (0 : Int) ≤ Int.ofNat i ∧ Int.ofNat i < (↑n : Int)) (h2 : ((Int.ofNat i).toNat * nat_lit 4 : Nat) = i.mul (nat_lit 4)) (h3 : (takeL (dropL C (i.mul (nat_lit 4))) (4 : Nat) : Option (List DT)) = (.some (zSd o p f s))) (h5 : EqOk E 138 [.v (.string q), .v (.int .i64 x), .v (.int .i64 y), .v (.int .i64 z)] [.v (.string o), .v (.int .i64 p), .v (.int .i64 f), .v (.int .i64 s)] w) (h6 : (w : Bool) = false) (h7 : ((iI (wrapF IntKind.i64 (Int.ofNat i + (1 : Int)))) : AV) = (iI (Int.ofNat (i + 1)))) : Sg 0 0 (q148 C W n m i o q p f s x y z e w) (p148s_end C W n m i o q p f s x y z e w) := fun ho j =>
 oS hE [.run 3, .cond true, .run 6, .ops [(4, .d (.ldn (zSd o p f s))), (5, .eqs w), (3, .d (.ix (i.mul (nat_lit 4))))] [], .cond false, .run 2, .ops [(0, .rn (iI (Int.ofNat (i + 1))))] [], .run 1] [0, 3, 7, 8] (aP h0 <| aP h1 <| aP h2 <| aP h3 <| aP (rfl : (true : Bool) = true) <| aP h5 <| aP h6 <| aP h7 <| aZ)
  ho
def p148e_end (_C : List DT) (_W : List DT) (_n _m i : Nat) (_o : ByteArray) (_q : ByteArray) (_p _f _s _x _y _z _e : Int) (_w : Bool) (j : Nat → Value) : St := ⟨[], [.code .ret, .inBlock 1, .code (atC [1, 0, 1, 0, 0, 1, 1, 1] (bodyOf Tryz.f148)), .inLoop (atC [1, 0, 1, 0, 0] (bodyOf Tryz.f148)), .inBlock 0, .code (atC [1, 1] (bodyOf Tryz.f148))], mkT j [(4, (iI (Int.ofNat i)))] 19 0⟩
theorem p148e (hE : EnvOk E) (C : List DT) (W : List DT) (n m i : Nat) (o : ByteArray) (q : ByteArray) (p f s x y z e : Int) (w : Bool) (h0 : (decide (Int.ofNat i < Int.ofNat n) : Bool) = true) (h1 : (0 : Int) ≤ Int.ofNat i ∧ Int.ofNat i < (↑n : Int)) (h2 : ((Int.ofNat i).toNat * nat_lit 4 : Nat) = i.mul (nat_lit 4)) (h3 : (takeL (dropL C (i.mul (nat_lit 4))) (4 : Nat) : Option (List DT)) = (.some (zSd o p f s))) (h5 : EqOk E 138 [.v (.string q), .v (.int .i64 x), .v (.int .i64 y), .v (.int .i64 z)] [.v (.string o), .v (.int .i64 p), .v (.int .i64 f), .v (.int .i64 s)] w) (h6 : (w : Bool) = true) : Sg 0 0 (q148 C W n m i o q p f s x y z e w) (p148e_end C W n m i o q p f s x y z e w) := fun ho j =>
 oS hE [.run 3, .cond true, .run 6, .ops [(4, .d (.ldn (zSd o p f s))), (5, .eqs w), (3, .d (.ix (i.mul (nat_lit 4))))] [], .cond true, .run 2] [4] (s' := fun j => ⟨[bK (zSt q x y z) 4 138], [.code .ret, .inBlock 1, .code (atC [1, 0, 1, 0, 0, 1, 1, 1] (bodyOf Tryz.f148)), .inLoop (atC [1, 0, 1, 0, 0] (bodyOf Tryz.f148)), .inBlock 0, .code (atC [1, 1] (bodyOf Tryz.f148))], mkT j [(4, (iI (Int.ofNat i)))] 19 0⟩) (aP h0 <| aP h1 <| aP h2 <| aP h3 <| aP (rfl : (true : Bool) = true) <| aP h5 <| aP h6 <| aZ)
  fun j => gZ [] (ho j)
def p148x_end (_C : List DT) (_W : List DT) (_n _m _i : Nat) (_o : ByteArray) (_q : ByteArray) (_p _f _s _x _y _z _e : Int) (_w : Bool) (j : Nat → Value) : St := ⟨[], [.code .ret], mkT j [(4, (iI (-1)))] 19 0⟩
theorem p148x (hE : EnvOk E) (C : List DT) (W : List DT) (n m i : Nat) (o : ByteArray) (q : ByteArray) (p f s x y z e : Int) (w : Bool) (h0 : (decide (Int.ofNat i < Int.ofNat n) : Bool) = false) : Sg 0 0 (q148 C W n m i o q p f s x y z e w) (p148x_end C W n m i o q p f s x y z e w) := fun ho j =>
 oS hE [.run 3, .cond false, .run 3] [4] (s' := fun j => ⟨[bK (zSt q x y z) 4 138], [.code .ret], mkT j [(4, (iI (-1)))] 19 0⟩) (aP h0 <| aZ)
  fun j => gZ [] (ho j)
def p177s_end (C : List DT) (_W : List DT) (n _m i : Nat) (_o : ByteArray) (_q : ByteArray) (_p _f _s _x _y _z _e : Int) (_w : Bool) (j : Nat → Value) : St := ⟨[], ztSb5, mkT j [(0, .e (.one (.dp (.s C n 1)))), (1, (iB true)), (7, (iI (Int.ofNat n))), (8, (iI (Int.ofNat (i + 1))))] 19 0⟩
theorem p177s (hE : EnvOk E) (C : List DT) (W : List DT) (n m i : Nat) (o : ByteArray) (q : ByteArray) (p f s x y z e : Int) (w : Bool) (h0 : (decide (Int.ofNat i < Int.ofNat n) : Bool) = true) (h1 : (0 : Int) ≤ Int.ofNat i ∧ Int.ofNat i < (↑n : Int)) (h2 : ((Int.ofNat i).toNat * nat_lit 1 : Nat) = i) (h3 : (getL C i : Option DT) = (.some (.v (.bool w)))) (h4 : ((iB (true == w)) : AV) = (iB w)) (h5 : (w : Bool) = false) (h6 : ((iI (wrapF IntKind.i64 (Int.ofNat i + (1 : Int)))) : AV) = (iI (Int.ofNat (i + 1)))) : Sg 0 0 (q177 C W n m i o q p f s x y z e w) (p177s_end C W n m i o q p f s x y z e w) := fun ho j =>
 oS hE [.run 3, .cond true, .run 6, .ops [(4, .d (.ld (.v (.bool w)))), (5, .rn (iB w)), (3, .d (.ix i))] [], .cond false, .run 2, .ops [(0, .rn (iI (Int.ofNat (i + 1))))] [], .run 1] [0, 1, 7, 8] (aP h0 <| aP h1 <| aP h2 <| aP h3 <| aP h4 <| aP h5 <| aP h6 <| aZ)
  ho
def p177e_end (_C : List DT) (_W : List DT) (_n _m i : Nat) (_o : ByteArray) (_q : ByteArray) (_p _f _s _x _y _z _e : Int) (_w : Bool) (j : Nat → Value) : St := ⟨[], [.code .ret, .inBlock 1, .code (atC [1, 0, 1, 0, 0, 1, 1, 1] (bodyOf Tryz.f177)), .inLoop (atC [1, 0, 1, 0, 0] (bodyOf Tryz.f177)), .inBlock 0, .code (atC [1, 1] (bodyOf Tryz.f177))], mkT j [(4, (iI (Int.ofNat i)))] 19 0⟩
theorem p177e (hE : EnvOk E) (C : List DT) (W : List DT) (n m i : Nat) (o : ByteArray) (q : ByteArray) (p f s x y z e : Int) (w : Bool) (h0 : (decide (Int.ofNat i < Int.ofNat n) : Bool) = true) (h1 : (0 : Int) ≤ Int.ofNat i ∧ Int.ofNat i < (↑n : Int)) (h2 : ((Int.ofNat i).toNat * nat_lit 1 : Nat) = i) (h3 : (getL C i : Option DT) = (.some (.v (.bool w)))) (h4 : ((iB (true == w)) : AV) = (iB w)) (h5 : (w : Bool) = true) : Sg 0 0 (q177 C W n m i o q p f s x y z e w) (p177e_end C W n m i o q p f s x y z e w) := fun ho j =>
 oS hE [.run 3, .cond true, .run 6, .ops [(4, .d (.ld (.v (.bool w)))), (5, .rn (iB w)), (3, .d (.ix i))] [], .cond true, .run 2] [4] (aP h0 <| aP h1 <| aP h2 <| aP h3 <| aP h4 <| aP h5 <| aZ)
  ho
def p177x_end (_C : List DT) (_W : List DT) (_n _m _i : Nat) (_o : ByteArray) (_q : ByteArray) (_p _f _s _x _y _z _e : Int) (_w : Bool) (j : Nat → Value) : St := ⟨[], [.code .ret], mkT j [(4, (iI (-1)))] 19 0⟩
theorem p177x (hE : EnvOk E) (C : List DT) (W : List DT) (n m i : Nat) (o : ByteArray) (q : ByteArray) (p f s x y z e : Int) (w : Bool) (h0 : (decide (Int.ofNat i < Int.ofNat n) : Bool) = false) : Sg 0 0 (q177 C W n m i o q p f s x y z e w) (p177x_end C W n m i o q p f s x y z e w) := fun ho j =>
 oS hE [.run 3, .cond false, .run 3] [4] (aP h0 <| aZ)
  ho
def p66s_end (C : List DT) (_W : List DT) (n _m i : Nat) (_o : ByteArray) (_q : ByteArray) (_p _f _s _x _y _z _e : Int) (_w : Bool) (j : Nat → Value) : St := ⟨[], ztSb6, mkT j [(0, .e (.one (.dp (.s C n 1)))), (3, (iI (Int.ofNat (i + 1))))] 14 0⟩
theorem p66s (hE : EnvOk E) (C : List DT) (W : List DT) (n m i : Nat) (o : ByteArray) (q : ByteArray) (p f s x y z e : Int) (w : Bool) (h0 : (decide (Int.ofNat i < (↑n : Int)) : Bool) = true) (h1 : (0 : Int) ≤ Int.ofNat i ∧ Int.ofNat i < (↑n : Int)) (h2 : ((Int.ofNat i).toNat * nat_lit 1 : Nat) = i) (h3 : (getL C i : Option DT) = (.some (.v (.bool w)))) (h4 : (w : Bool) = false) (h5 : ((iI (wrapF IntKind.i64 (Int.ofNat i + (1 : Int)))) : AV) = (iI (Int.ofNat (i + 1)))) : Sg 0 0 (q66 C W n m i o q p f s x y z e w) (p66s_end C W n m i o q p f s x y z e w) := fun ho j =>
 oS hE [.run 2, .ops [(2, .d .len)] [], .cond true, .run 4, .ops [(3, .d (.ld (.v (.bool w)))), (2, .d (.ix i))] [], .cond false, .run 2, .ops [(1, .rn (iI (Int.ofNat (i + 1))))] [], .run 1] [0, 3] (aP h0 <| aP h1 <| aP h2 <| aP h3 <| aP h4 <| aP h5 <| aZ)
  ho
def p66e_end (_C : List DT) (_W : List DT) (_n _m _i : Nat) (_o : ByteArray) (_q : ByteArray) (_p _f _s _x _y _z _e : Int) (_w : Bool) (j : Nat → Value) : St := ⟨[], [.code .ret, .inBlock 1, .code (atC [1, 0, 1, 0, 0, 1, 1] (bodyOf Tryz.f66)), .inLoop (atC [1, 0, 1, 0, 0] (bodyOf Tryz.f66)), .inBlock 0, .code (atC [1, 1] (bodyOf Tryz.f66))], mkT j [(2, (iB true))] 14 0⟩
theorem p66e (hE : EnvOk E) (C : List DT) (W : List DT) (n m i : Nat) (o : ByteArray) (q : ByteArray) (p f s x y z e : Int) (w : Bool) (h0 : (decide (Int.ofNat i < (↑n : Int)) : Bool) = true) (h1 : (0 : Int) ≤ Int.ofNat i ∧ Int.ofNat i < (↑n : Int)) (h2 : ((Int.ofNat i).toNat * nat_lit 1 : Nat) = i) (h3 : (getL C i : Option DT) = (.some (.v (.bool w)))) (h4 : (w : Bool) = true) : Sg 0 0 (q66 C W n m i o q p f s x y z e w) (p66e_end C W n m i o q p f s x y z e w) := fun ho j =>
 oS hE [.run 2, .ops [(2, .d .len)] [], .cond true, .run 4, .ops [(3, .d (.ld (.v (.bool w)))), (2, .d (.ix i))] [], .cond true, .run 2] [2] (aP h0 <| aP h1 <| aP h2 <| aP h3 <| aP h4 <| aZ)
  ho
def p66x_end (_C : List DT) (_W : List DT) (_n _m _i : Nat) (_o : ByteArray) (_q : ByteArray) (_p _f _s _x _y _z _e : Int) (_w : Bool) (j : Nat → Value) : St := ⟨[], [.code .ret], mkT j [(2, (iB false))] 14 0⟩
theorem p66x (hE : EnvOk E) (C : List DT) (W : List DT) (n m i : Nat) (o : ByteArray) (q : ByteArray) (p f s x y z e : Int) (w : Bool) (h0 : (decide (Int.ofNat i < (↑n : Int)) : Bool) = false) : Sg 0 0 (q66 C W n m i o q p f s x y z e w) (p66x_end C W n m i o q p f s x y z e w) := fun ho j =>
 oS hE [.run 2, .ops [(2, .d .len)] [], .cond false, .run 3] [2] (aP h0 <| aZ)
  ho
def p44s_end (C : List DT) (W : List DT) (n m i : Nat) (_o : ByteArray) (_q : ByteArray) (_p _f _s _x _y _z _e : Int) (_w : Bool) (j : Nat → Value) : St := ⟨[], ztSb2, mkT j [(0, .e (.one (.dp (.s C n 1)))), (1, .e (.one (.dp (.s W m 1)))), (5, (iI (Int.ofNat (i + 1))))] 26 0⟩
theorem p44s (hE : EnvOk E) (C : List DT) (W : List DT) (n m i : Nat) (o : ByteArray) (q : ByteArray) (p f s x y z e : Int) (w : Bool) (h0 : (decide (Int.ofNat i < (↑n : Int)) : Bool) = true) (h1 : (0 : Int) ≤ Int.ofNat i ∧ Int.ofNat i < (↑n : Int)) (h2 : ((Int.ofNat i).toNat * nat_lit 1 : Nat) = i) (h3 : (getL C i : Option DT) = (.some (.v (.int .i64 x)))) (h4 : (0 : Int) ≤ Int.ofNat i ∧ Int.ofNat i < (↑m : Int)) (h5 : ((Int.ofNat i).toNat * nat_lit 1 : Nat) = i) (h6 : (getL W i : Option DT) = (.some (.v (.int .i64 y)))) (h8 : (x != y : Bool) = false) (h9 : ((iI (wrapF IntKind.i64 (Int.ofNat i + (1 : Int)))) : AV) = (iI (Int.ofNat (i + 1)))) : Sg 0 0 (q44 C W n m i o q p f s x y z e w) (p44s_end C W n m i o q p f s x y z e w) := fun ho j =>
 oS hE [.run 2, .ops [(2, .d .len)] [], .cond true, .run 4, .ops [(3, .d (.ld (.v (.int .i64 x)))), (7, .d (.ld (.v (.int .i64 y)))), (2, .d (.ix i)), (6, .d (.ix i))] [], .cond false, .run 2, .ops [(1, .rn (iI (Int.ofNat (i + 1))))] [], .run 1] [0, 1, 5] (aP h0 <| aP h1 <| aP h2 <| aP h3 <| aP h4 <| aP h5 <| aP h6 <| aP (rfl : (true : Bool) = true) <| aP h8 <| aP h9 <| aZ)
  ho
def p44x_end (_C : List DT) (_W : List DT) (_n _m _i : Nat) (_o : ByteArray) (_q : ByteArray) (_p _f _s _x _y _z _e : Int) (_w : Bool) (j : Nat → Value) : St := ⟨[], [.code .ret], mkT j [(4, (iB true))] 26 0⟩
theorem p44x (hE : EnvOk E) (C : List DT) (W : List DT) (n m i : Nat) (o : ByteArray) (q : ByteArray) (p f s x y z e : Int) (w : Bool) (h0 : (decide (Int.ofNat i < (↑n : Int)) : Bool) = false) : Sg 0 0 (q44 C W n m i o q p f s x y z e w) (p44x_end C W n m i o q p f s x y z e w) := fun ho j =>
 oS hE [.run 2, .ops [(2, .d .len)] [], .cond false, .run 3] [4] (aP h0 <| aZ)
  ho
def p118s_end (C : List DT) (W : List DT) (n m i : Nat) (_o : ByteArray) (_q : ByteArray) (_p _f _s _x _y _z _e : Int) (_w : Bool) (j : Nat → Value) : St := ⟨[], ztSb1, mkT j [(0, .e (.one (.dp (.s C n 4)))), (1, .e (.one (.dp (.s W m 4)))), (5, (iI (Int.ofNat (i + 1))))] 26 0⟩
theorem p118s (hE : EnvOk E) (C : List DT) (W : List DT) (n m i : Nat) (o : ByteArray) (q : ByteArray) (p f s x y z e : Int) (w : Bool) (h0 : (decide (Int.ofNat i < (↑n : Int)) : Bool) = true) (h1 : (0 : Int) ≤ Int.ofNat i ∧ Int.ofNat i < (↑n : Int)) (h2 : ((Int.ofNat i).toNat * nat_lit 4 : Nat) = i.mul (nat_lit 4)) (h3 : (takeL (dropL C (i.mul (nat_lit 4))) (4 : Nat) : Option (List DT)) = (.some (zSd o p f s))) (h4 : (0 : Int) ≤ Int.ofNat i ∧ Int.ofNat i < (↑m : Int)) (h5 : ((Int.ofNat i).toNat * nat_lit 4 : Nat) = i.mul (nat_lit 4)) (h6 : (takeL (dropL W (i.mul (nat_lit 4))) (4 : Nat) : Option (List DT)) = (.some (zSd q x y z))) (h8 : EqOk E 136 [.v (.string o), .v (.int .i64 p), .v (.int .i64 f), .v (.int .i64 s)] [.v (.string q), .v (.int .i64 x), .v (.int .i64 y), .v (.int .i64 z)] true) (h9 : ((iI (wrapF IntKind.i64 (Int.ofNat i + (1 : Int)))) : AV) = (iI (Int.ofNat (i + 1)))) : Sg 0 0 (q118 C W n m i o q p f s x y z e w) (p118s_end C W n m i o q p f s x y z e w) := fun ho j =>
 oS hE [.run 2, .ops [(2, .d .len)] [], .cond true, .run 4, .ops [(3, .d (.ldn (zSd o p f s))), (7, .d (.ldn (zSd q x y z))), (8, .eqs false), (2, .d (.ix (i.mul (nat_lit 4)))), (6, .d (.ix (i.mul (nat_lit 4))))] [], .run 3, .ops [(1, .rn (iI (Int.ofNat (i + 1))))] [], .run 1] [0, 1, 5] (aP h0 <| aP h1 <| aP h2 <| aP h3 <| aP h4 <| aP h5 <| aP h6 <| aP (rfl : (true : Bool) = true) <| aP h8 <| aP h9 <| aZ)
  ho
def p118x_end (_C : List DT) (_W : List DT) (_n _m _i : Nat) (_o : ByteArray) (_q : ByteArray) (_p _f _s _x _y _z _e : Int) (_w : Bool) (j : Nat → Value) : St := ⟨[], [.code .ret], mkT j [(4, (iB true))] 26 0⟩
theorem p118x (hE : EnvOk E) (C : List DT) (W : List DT) (n m i : Nat) (o : ByteArray) (q : ByteArray) (p f s x y z e : Int) (w : Bool) (h0 : (decide (Int.ofNat i < (↑n : Int)) : Bool) = false) : Sg 0 0 (q118 C W n m i o q p f s x y z e w) (p118x_end C W n m i o q p f s x y z e w) := fun ho j =>
 oS hE [.run 2, .ops [(2, .d .len)] [], .cond false, .run 3] [4] (aP h0 <| aZ)
  ho
def bbD (l : List Bool) : List DT := l.flatMap fun s => [.v (.bool s)]
theorem bb_len (s : Bool) : ([.v (.bool s)] : List DT).length = 1 := rfl
theorem bb_get {l : List Bool} {i : Nat} {x : Bool} (h : l[i]? = some x) : getL (bbD l) i = some (.v (.bool x)) := by
 have := rows_part (f := fun s : Bool => ([.v (.bool s)] : List DT)) (o := 0) bb_len h rfl
 rwa [show i.mul 1 + 0 = i from Nat.mul_one i] at this
theorem bbD_len (l : List Bool) : (bbD l).length = l.length * 1 := rows_len bb_len l
abbrev dB (l : List Bool) : AV := .e (.one (.dp (.s (bbD l) l.length 1)))
def idxP {α : Type} (p : α → Bool) : List α → Nat → Int
 | [], _ => -1
 | x :: r, i => if p x = true then Int.ofNat i else idxP p r (i + 1)
theorem idxP_s {α : Type} {p : α → Bool} {x : α} {r : List α} {i : Nat} (h : p x = false) : idxP p (x :: r) i = idxP p r (i + 1) := by
 show (if p x = true then _ else _) = _
 rw [h]; rfl
theorem idxP_e {α : Type} {p : α → Bool} {x : α} {r : List α} {i : Nat} (h : p x = true) : idxP p (x :: r) i = Int.ofNat i := by
 show (if p x = true then _ else _) = _
 rw [h]; rfl
theorem idxP_any {α : Type} (p : α → Bool) : ∀ (l : List α) (i : Nat), decide (idxP p l i ≥ 0) = l.any p
 | [], _ => rfl
 | x :: r, i => by
  cases h : p x with
  | true => rw [idxP_e h, List.any_cons, h, Bool.true_or]; exact decide_eq_true (Int.natCast_nonneg i)
  | false => rw [idxP_s h, List.any_cons, h, Bool.false_or]; exact idxP_any p r (i + 1)
def eqN (x y : Sn) : Bool := eqS x.o y.o && (x.p == y.p && (x.f == y.f && x.w == y.w))
theorem eqN_iff {x y : Sn} : eqN x y = true ↔ x = y := by
 unfold eqN
 rw [Bool.and_eq_true, Bool.and_eq_true, Bool.and_eq_true, eqS_iff, beq_iff_eq, beq_iff_eq, beq_iff_eq]
 constructor
 ·rintro ⟨h1, h2, h3, h4⟩; cases x; cases y; simp_all
 ·rintro rfl; exact ⟨rfl, rfl, rfl, rfl⟩
theorem u9_ : Tryz.prog.underlying 9 = some .string := by kernel_rfl
theorem eqSn {t : TypeId} (hu : Tryz.prog.underlying t = some (.struct (Tryz.prog.fieldsOf t))) (hst : Tryz.prog.stoodInHeld t = false) (hfs : (Tryz.prog.fieldsOf t).toList.map (fun f => (f.name == "_", f.type, f.offset)) = [(false, 9, 0), (false, 3, 1), (false, 3, 2), (false, 3, 3)]) (x y : Sn) (o q : ByteArray) (ho : o = x.o) (hq : q = y.o) : EqOk E t [.v (.string o), .v (.int .i64 x.p), .v (.int .i64 x.f), .v (.int .i64 x.w)] [.v (.string q), .v (.int .i64 y.p), .v (.int .i64 y.f), .v (.int .i64 y.w)] (eqN x y) := by
 subst ho hq
 intro mm c1 c2 w g1 g2
 have e1 : c1 = #[.string x.o, .int .i64 x.p, .int .i64 x.f, .int .i64 x.w] := by rw [← Array.toList_inj]; exact cells_of (l := [.string x.o, .int .i64 x.p, .int .i64 x.f, .int .i64 x.w]) g1
 have e2 : c2 = #[.string y.o, .int .i64 y.p, .int .i64 y.f, .int .i64 y.w] := by rw [← Array.toList_inj]; exact cells_of (l := [.string y.o, .int .i64 y.p, .int .i64 y.f, .int .i64 y.w]) g2
 subst e1 e2
 show (Op.equalIn 10000 t _ _).run Tryz.prog w = _
 rw [show (10000 : Nat) = 9999 + 1 from rfl, run_equalIn_struct w 9999 t _ _ hu hst]
 generalize (Tryz.prog.fieldsOf t).toList = fs at hfs
 rcases fs with _ | ⟨f0, _ | ⟨f1, _ | ⟨f2, _ | ⟨f3, _ | ⟨f4, r⟩⟩⟩⟩⟩
 iterate 4 (· simp at hfs)
 ·simp only [List.map_cons, List.map_nil, List.cons.injEq, Prod.mk.injEq, and_true] at hfs
  obtain ⟨⟨a0, a1, a2⟩, ⟨b0, b1, b2⟩, ⟨c0, c1, c2⟩, d0, d1, d2⟩ := hfs
  have p0 : ∀ x : Sn, (part 9 #[.string x.o, .int .i64 x.p, .int .i64 x.f, .int .i64 x.w] 0).run Tryz.prog w = .ok (.string x.o) w := fun x => by simp [part, isAgg, run_underlying u9_]
  have p1 : ∀ x : Sn, (part 3 #[.string x.o, .int .i64 x.p, .int .i64 x.f, .int .i64 x.w] 1).run Tryz.prog w = .ok (.int .i64 x.p) w := fun x => by simp [part, isAgg, run_underlying u3_]
  have p2 : ∀ x : Sn, (part 3 #[.string x.o, .int .i64 x.p, .int .i64 x.f, .int .i64 x.w] 2).run Tryz.prog w = .ok (.int .i64 x.f) w := fun x => by simp [part, isAgg, run_underlying u3_]
  have p3 : ∀ x : Sn, (part 3 #[.string x.o, .int .i64 x.p, .int .i64 x.f, .int .i64 x.w] 3).run Tryz.prog w = .ok (.int .i64 x.w) w := fun x => by simp [part, isAgg, run_underlying u3_]
  have q9 : (Op.equalIn 9999 9 (.string x.o) (.string y.o)).run Tryz.prog w = .ok (eqS x.o y.o) w := by
   rw [show (9999 : Nat) = 9998 + 1 from rfl]
   exact run_equalIn_string w 9998 9 x.o y.o u9_
  rw [eq_step Tryz.prog w (by simpa using a0) a1 a2 (p0 x) (p0 y) q9, eq_step Tryz.prog w (by simpa using b0) b1 b2 (p1 x) (p1 y) (q3_ w x.p y.p), eq_step Tryz.prog w (by simpa using c0) c1 c2 (p2 x) (p2 y) (q3_ w x.f y.f), eq_step Tryz.prog w (by simpa using d0) d1 d2 (p3 x) (p3 y) (q3_ w x.w y.w), eq_nil]
  unfold eqN
  cases eqS x.o y.o <;> cases x.p == y.p <;> cases x.f == y.f <;> cases x.w == y.w <;> rfl
 ·simp at hfs
theorem e138 (x y : Sn) : EqOk E 138 [.v (.string x.o), .v (.int .i64 x.p), .v (.int .i64 x.f), .v (.int .i64 x.w)] [.v (.string y.o), .v (.int .i64 y.p), .v (.int .i64 y.f), .v (.int .i64 y.w)] (eqN x y) := eqSn (by kernel_rfl) (by kernel_rfl) (by kernel_rfl) x y _ _ rfl rfl
theorem e136 (x : Sn) : EqOk E 136 [.v (.string x.o), .v (.int .i64 x.p), .v (.int .i64 x.f), .v (.int .i64 x.w)] [.v (.string x.o), .v (.int .i64 x.p), .v (.int .i64 x.f), .v (.int .i64 x.w)] true := by
 have h := eqSn (t := 136) (by kernel_rfl) (by kernel_rfl) (by kernel_rfl) x x _ _ rfl rfl
 rwa [eqN_iff.2 rfl] at h
theorem S191 (hE : EnvOk E) (x : Int) : COut E 0 [] 191 [iI x] (iB (x != x)) [] := A191_all hE [] [] 0 0 0 zE zE 0 0 0 x 0 0 0 false
def gtF (x : Sn) : Bool := decide (x.f > 0)
theorem K147 (hE : EnvOk E) (x : Sn) : COut E 0 [] 147 [aSn x] (iB (gtF x)) [] := A147_all hE [] [] 0 0 0 (x.o) zE (x.p) (x.f) (x.w) 0 0 0 0 false
theorem K108 (hE : EnvOk E) (x : Int) : COut E 0 [] 108 [iI x] (iI (rgS x 0 256)) [] := A108_all hE [] [] 0 0 0 zE zE 0 0 0 x 0 0 0 false
theorem K60 (hE : EnvOk E) (x : Int) : COut E 0 [] 60 [iI x] (iI (rgS x 0 256)) [] := A60_all hE [] [] 0 0 0 zE zE 0 0 0 x 0 0 0 false
def cyE (l : List Bool) : Int := firstI [if ((l.length : Int) == 0) = true then 12 else 0, if decide ((l.length : Int) > 16) = true then 5 else 0]
theorem K62 (hE : EnvOk E) (l : List Bool) : COut E 0 [] 62 [dB l] (iI (cyE l)) [] := A62_all hE (bbD l) [] (l.length) 0 0 zE zE 0 0 0 0 0 0 0 false
theorem K111 (hE : EnvOk E) (l : List Bool) : COut E 0 [] 111 [dB l] (iI (cyE l)) [] := A111_all hE (bbD l) [] (l.length) 0 0 zE zE 0 0 0 0 0 0 0 false
theorem K56 (hE : EnvOk E) (x : Int) : COut E 0 [] 56 [iI x] (.tup [.one (.v (.int .i64 (if rgS x 1 8 = 0 then x + 3 else 0))), .one (.v (.int .i64 (rgS x 1 8)))]) [] := by
 have h := A56_all hE [] [] 0 0 0 zE zE 0 0 0 x 0 0 0 false
 unfold A56_r0 A56_r1 at h
 by_cases hr : rgS x 1 8 = 0
 ·rw [show rgS x (Int.ofNat (nat_lit 1)) (Int.ofNat (nat_lit 8)) = 0 from hr] at h
  have hx : 1 ≤ x ∧ x ≤ 8 := by
   unfold rgS at hr
   by_cases h1 : x < 1 ∨ x > 8
   ·rw [if_pos h1] at hr; exact absurd hr (by decide)
   ·omega
  rw [if_pos hr, hr]
  have hw : wrapF .i64 (x + 3) = x + 3 := wrap_id (by omega) (by omega)
  have e : (bif (0 : Int) != 0 then 0 else wrapF IntKind.i64 (x + (3 : Int))) = x + 3 := hw
  rw [e] at h
  exact h
 ·rw [if_neg hr]
  have hb : (rgS x (Int.ofNat (nat_lit 1)) (Int.ofNat (nat_lit 8)) != (0 : Int)) = true := bne_iff_ne.2 hr
  rw [hb] at h
  exact h
theorem l175 (hE : EnvOk E) (L : List Int) (hm : L.length ≤ 4000000) : ∀ k i, k + i = L.length → ∀ j, OutK E 0 0 (q175 (iD L) [] (L.length) 0 i zE zE 0 0 0 0 0 0 0 false j) (Go.Ev.Ends E Tryz.f175 (iI (firstI (L.drop i))) [])
 | 0, i, hk, j => by
  rw [List.drop_eq_nil_of_le (by omega), show firstI [] = 0 from rfl]
  exact p175x hE (iD L) [] (L.length) 0 i zE zE 0 0 0 0 0 0 0 false zF zR j
 | k + 1, i, hk, j => by
  have hl : i < L.length := by omega
  have hx : L[i]? = some L[i] := List.getElem?_eq_getElem hl
  rw [List.drop_eq_getElem_cons hl]
  generalize L[i] = x at hx
  have hu : firstI (x :: L.drop (i + 1)) = if x = 0 then firstI (L.drop (i + 1)) else x := rfl
  rw [hu]
  by_cases h : x = 0
  ·rw [if_pos h]
   exact p175s hE (iD L) [] (L.length) 0 i zE zE 0 0 0 0 0 x 0 false zT zB (Nat.mul_one _) (getI hx) (by rw [h]; rfl) zW (l175 hE L hm k (i + 1) (by omega)) j
  ·rw [if_neg h]
   exact p175e hE (iD L) [] (L.length) 0 i zE zE 0 0 0 0 0 x 0 false zT zB (Nat.mul_one _) (getI hx) (bne_iff_ne.2 h) zR j
theorem K175 (hE : EnvOk E) (L : List Int) (hm : L.length ≤ 4000000) : COut E 0 [] 175 [dI L] (iI (firstI L)) [] :=
 cOut_start Tryz.func175 rfl (p175a hE (iD L) [] (L.length) 0 0 zE zE 0 0 0 0 0 0 0 false (l175 hE L hm L.length 0 rfl) fun _ => undef)
theorem C175 (hE : EnvOk E) (h : Heap) (i n : Nat) (l : List Int) (hb : readI h i n = some l) (hn : Nat.ble n 100 = true) : COut E (lenL h) h 175 [.e (.one (.slc i 0 n 1 n true))] (iI (firstI l)) h := lendF hE (K175 hE) h i n l hb hn
theorem l174 (hE : EnvOk E) (L : List Sn) (hm : L.length ≤ 100000) : ∀ k i, k + i = L.length → ∀ j, OutK E 0 0 (q174 (snD L) [] (L.length) 0 i zE zE 0 0 0 0 0 0 0 false j) (Go.Ev.Ends E Tryz.f174 (iI (idxP gtF (L.drop i) i)) [])
 | 0, i, hk, j => by
  rw [List.drop_eq_nil_of_le (by omega), show idxP gtF [] i = -1 from rfl]
  exact p174x hE (snD L) [] (L.length) 0 i zE zE 0 0 0 0 0 0 0 false zF zR j
 | k + 1, i, hk, j => by
  have hl : i < L.length := by omega
  have hx : L[i]? = some L[i] := List.getElem?_eq_getElem hl
  rw [List.drop_eq_getElem_cons hl]
  generalize L[i] = x at hx
  cases he : gtF x with
  | true =>
   rw [idxP_e he]
   exact p174e hE (snD L) [] (L.length) 0 i (x.o) zE (x.p) (x.f) (x.w) 0 0 0 0 true zT zB rfl (sn_get hx) (tBo (K147 hE x) he) (by first | rfl | omega | simp) zR j
  | false =>
   rw [idxP_s he]
   exact p174s hE (snD L) [] (L.length) 0 i (x.o) zE (x.p) (x.f) (x.w) 0 0 0 0 false zT zB rfl (sn_get hx) (tBo (K147 hE x) he) (by first | rfl | omega | simp) zW (l174 hE L hm k (i + 1) (by omega)) j
theorem K146 (hE : EnvOk E) (L : List Sn) (hm : L.length ≤ 100000) : COut E 0 [] 146 [dSn L, .e (.one (.v (.func (.func 147) #[] #[])))] (iB (L.any gtF)) [] := by
 have h : COut E 0 [] 174 [dSn L, .e (.one (.v (.func (.func 147) #[] #[])))] (iI (idxP gtF L 0)) [] := cOut_start Tryz.func174 rfl (p174a hE (snD L) [] (L.length) 0 0 zE zE 0 0 0 0 0 0 0 false (l174 hE L hm L.length 0 rfl) fun _ => undef)
 exact tBo (cOut_start Tryz.func146 rfl (p146 hE (snD L) [] (L.length) 0 0 zE zE 0 0 0 0 0 0 (idxP gtF L 0) false h zR fun _ => undef)) (idxP_any gtF L 0)
theorem l148 (hE : EnvOk E) (b : Sn) (L : List Sn) (hm : L.length ≤ 100000) : ∀ k i, k + i = L.length → ∀ j, OutK E 0 0 (q148 (snD L) [] (L.length) 0 i zE (b.o) 0 0 0 (b.p) (b.f) (b.w) 0 false j) (Go.Ev.Ends E Tryz.f148 (iI (idxP (eqN b) (L.drop i) i)) [])
 | 0, i, hk, j => by
  rw [List.drop_eq_nil_of_le (by omega), show idxP (eqN b) [] i = -1 from rfl]
  exact p148x hE (snD L) [] (L.length) 0 i zE (b.o) 0 0 0 (b.p) (b.f) (b.w) 0 false zF zR j
 | k + 1, i, hk, j => by
  have hl : i < L.length := by omega
  have hx : L[i]? = some L[i] := List.getElem?_eq_getElem hl
  rw [List.drop_eq_getElem_cons hl]
  generalize L[i] = x at hx
  cases he : eqN b x with
  | true =>
   rw [idxP_e he]
   exact p148e hE (snD L) [] (L.length) 0 i (x.o) (b.o) (x.p) (x.f) (x.w) (b.p) (b.f) (b.w) 0 true zT zB rfl (sn_get hx) (he ▸ e138 b x) (by first | rfl | omega | simp) zR j
  | false =>
   rw [idxP_s he]
   exact p148s hE (snD L) [] (L.length) 0 i (x.o) (b.o) (x.p) (x.f) (x.w) (b.p) (b.f) (b.w) 0 false zT zB rfl (sn_get hx) (he ▸ e138 b x) (by first | rfl | omega | simp) zW (l148 hE b L hm k (i + 1) (by omega)) j
theorem K148 (hE : EnvOk E) (b : Sn) (L : List Sn) (hm : L.length ≤ 100000) : COut E 0 [] 148 [dSn L, aSn b] (iI (idxP (eqN b) L 0)) [] :=
 cOut_start Tryz.func148 rfl (p148a hE (snD L) [] (L.length) 0 0 zE (b.o) 0 0 0 (b.p) (b.f) (b.w) 0 false (l148 hE b L hm L.length 0 rfl) fun _ => undef)
theorem l177 (hE : EnvOk E) (L : List Bool) (hm : L.length ≤ 100000) : ∀ k i, k + i = L.length → ∀ j, OutK E 0 0 (q177 (bbD L) [] (L.length) 0 i zE zE 0 0 0 0 0 0 0 false j) (Go.Ev.Ends E Tryz.f177 (iI (idxP (fun x => x) (L.drop i) i)) [])
 | 0, i, hk, j => by
  rw [List.drop_eq_nil_of_le (by omega), show idxP (fun x : Bool => x) [] i = -1 from rfl]
  exact p177x hE (bbD L) [] (L.length) 0 i zE zE 0 0 0 0 0 0 0 false zF zR j
 | k + 1, i, hk, j => by
  have hl : i < L.length := by omega
  have hx : L[i]? = some L[i] := List.getElem?_eq_getElem hl
  rw [List.drop_eq_getElem_cons hl]
  generalize L[i] = x at hx
  cases x with
  | true =>
   rw [idxP_e rfl]
   exact p177e hE (bbD L) [] (L.length) 0 i zE zE 0 0 0 0 0 0 0 true zT zB (Nat.mul_one _) (bb_get hx) (by first | rfl | omega | simp) (by first | rfl | omega | simp) zR j
  | false =>
   rw [idxP_s rfl]
   exact p177s hE (bbD L) [] (L.length) 0 i zE zE 0 0 0 0 0 0 0 false zT zB (Nat.mul_one _) (bb_get hx) (by first | rfl | omega | simp) (by first | rfl | omega | simp) zW (l177 hE L hm k (i + 1) (by omega)) j
theorem K154 (hE : EnvOk E) (L : List Bool) (hm : L.length ≤ 100000) : COut E 0 [] 154 [dB L, iB true] (iB (L.any fun x => x)) [] := by
 have h : COut E 0 [] 177 [dB L, iB true] (iI (idxP (fun x => x) L 0)) [] := cOut_start Tryz.func177 rfl (p177a hE (bbD L) [] (L.length) 0 0 zE zE 0 0 0 0 0 0 0 false (l177 hE L hm L.length 0 rfl) fun _ => undef)
 exact tBo (cOut_start Tryz.func154 rfl (p154 hE (bbD L) [] (L.length) 0 0 zE zE 0 0 0 0 0 0 (idxP (fun x => x) L 0) false h zR fun _ => undef)) (idxP_any _ L 0)
def opE (L : List Bool) : Int := if (!L.any fun x => x) = true then 7 else 0
theorem K112 (hE : EnvOk E) (L : List Bool) (hm : L.length ≤ 100000) : COut E 0 [] 112 [dB L] (iI (opE L)) [] :=
 cOut_start Tryz.func112 rfl (p112 hE (bbD L) [] (L.length) 0 0 zE zE 0 0 0 0 0 0 (opE L) (L.any fun x => x) (K154 hE L hm) (S80 hE _ 7) zR fun _ => undef)
theorem l66 (hE : EnvOk E) (L : List Bool) (hm : L.length ≤ 100000) : ∀ k i, k + i = L.length → ∀ j, OutK E 0 0 (q66 (bbD L) [] (L.length) 0 i zE zE 0 0 0 0 0 0 0 false j) (Go.Ev.Ends E Tryz.f66 (iB ((L.drop i).any fun x => x)) [])
 | 0, i, hk, j => by
  rw [List.drop_eq_nil_of_le (by omega)]
  exact p66x hE (bbD L) [] (L.length) 0 i zE zE 0 0 0 0 0 0 0 false zF zR j
 | k + 1, i, hk, j => by
  have hl : i < L.length := by omega
  have hx : L[i]? = some L[i] := List.getElem?_eq_getElem hl
  rw [List.drop_eq_getElem_cons hl]
  generalize L[i] = x at hx
  cases x with
  | true => exact p66e hE (bbD L) [] (L.length) 0 i zE zE 0 0 0 0 0 0 0 true zT zB (Nat.mul_one _) (bb_get hx) (by first | rfl | omega | simp) zR j
  | false => exact p66s hE (bbD L) [] (L.length) 0 i zE zE 0 0 0 0 0 0 0 false zT zB (Nat.mul_one _) (bb_get hx) (by first | rfl | omega | simp) zW (l66 hE L hm k (i + 1) (by omega)) j
theorem K66 (hE : EnvOk E) (L : List Bool) (hm : L.length ≤ 100000) : COut E 0 [] 66 [dB L] (iB (L.any fun x => x)) [] :=
 cOut_start Tryz.func66 rfl (p66a hE (bbD L) [] (L.length) 0 0 zE zE 0 0 0 0 0 0 0 false (l66 hE L hm L.length 0 rfl) fun _ => undef)
theorem l44 (hE : EnvOk E) (L : List Int) (hm : L.length ≤ 100000) : ∀ k i, k + i = L.length → ∀ j, OutK E 0 0 (q44 (iD L) (iD L) (L.length) (L.length) i zE zE 0 0 0 0 0 0 0 false j) (Go.Ev.Ends E Tryz.f44 (iB true) [])
 | 0, i, hk, j => p44x hE (iD L) (iD L) (L.length) (L.length) i zE zE 0 0 0 0 0 0 0 false zF zR j
 | k + 1, i, hk, j => by
  have hl : i < L.length := by omega
  have hx : L[i]? = some L[i] := List.getElem?_eq_getElem hl
  generalize L[i] = x at hx
  exact p44s hE (iD L) (iD L) (L.length) (L.length) i zE zE 0 0 0 x x 0 0 false zT zB (Nat.mul_one _) (getI hx) zB (Nat.mul_one _) (getI hx) (bne_self_eq_false _) zW (l44 hE L hm k (i + 1) (by omega)) j
theorem K44 (hE : EnvOk E) (L : List Int) (hm : L.length ≤ 100000) : COut E 0 [] 44 [dI L, dI L] (iB true) [] :=
 cOut_start Tryz.func44 rfl (p44a hE (iD L) (iD L) (L.length) (L.length) 0 zE zE 0 0 0 0 0 0 0 false (bne_self_eq_false _) (l44 hE L hm L.length 0 rfl) fun _ => undef)
theorem l118 (hE : EnvOk E) (L : List Sn) (hm : L.length ≤ 100000) : ∀ k i, k + i = L.length → ∀ j, OutK E 0 0 (q118 (snD L) (snD L) (L.length) (L.length) i zE zE 0 0 0 0 0 0 0 false j) (Go.Ev.Ends E Tryz.f118 (iB true) [])
 | 0, i, hk, j => p118x hE (snD L) (snD L) (L.length) (L.length) i zE zE 0 0 0 0 0 0 0 false zF zR j
 | k + 1, i, hk, j => by
  have hl : i < L.length := by omega
  have hx : L[i]? = some L[i] := List.getElem?_eq_getElem hl
  generalize L[i] = x at hx
  exact p118s hE (snD L) (snD L) (L.length) (L.length) i (x.o) (x.o) (x.p) (x.f) (x.w) (x.p) (x.f) (x.w) 0 false zT zB rfl (sn_get hx) zB rfl (sn_get hx) (e136 x) zW (l118 hE L hm k (i + 1) (by omega)) j
theorem K118 (hE : EnvOk E) (L : List Sn) (hm : L.length ≤ 100000) : COut E 0 [] 118 [dSn L, dSn L] (iB true) [] :=
 cOut_start Tryz.func118 rfl (p118a hE (snD L) (snD L) (L.length) (L.length) 0 zE zE 0 0 0 0 0 0 0 false (bne_self_eq_false _) (l118 hE L hm L.length 0 rfl) fun _ => undef)
end
end Go.Proofs.YtnhabbponbpmfaaGreatDoor
end
