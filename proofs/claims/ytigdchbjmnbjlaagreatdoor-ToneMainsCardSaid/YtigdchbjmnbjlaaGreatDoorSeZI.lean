/-
  Part of the proof.
-/
import Derived.Test.YtigdchbjmnbjlaaGreatDoorSeZH
set_option maxHeartbeats 20000000
set_option maxRecDepth 100000
section
open Go Go.Ev
namespace Go.Proofs.YtigdchbjmnbjlaaGreatDoor
noncomputable section
def sn82 (G C L F : List DT) (g n l q : Nat) (c a : Int) (s : ByteArray) (_j : JN) : St := startK Tryz.f82 [] [.e (.agg (mQ c G g C n L l)), .e (.agg [.v (.int .i64 a), .v (.string s), .dp (.s F q 2)])]
def sn81 (G C L F : List DT) (g n l q : Nat) (c a : Int) (s : ByteArray) (_j : JN) : St := startK Tryz.f81 [bK (mQ c G g C n L l) 4 37] [.e (.agg [.v (.int .i64 a), .v (.string s), .dp (.s F q 2)]), .e (.one (.ptr 0 0))]
def sn147 (G C L : List DT) (g n l : Nat) (c : Int) (_j : JN) : St := startK Tryz.f147 [bK (mQ c G g C n L l) 4 37] [(.e (.one (.dp (.s L l 3)))), (.e (.one (.clo 81 [] [.one (.ptr 0 0)])))]
def sn80 (G C L : List DT) (g n l : Nat) (c : Int) (_j : JN) : St := startK Tryz.f80 [bK (mQ c G g C n L l) 4 37] [(.e (.one (.dp (.s L l 3)))), iI 16, (.e (.one (.clo 81 [] [.one (.ptr 0 0)])))]
def sn146 (F T : List DT) (q i : Nat) (c u p : Int) (s : ByteArray) (_j : JN) : St := startK Tryz.f146 [] [(.e (.one (.dp (.s T i 4)))), .e (.agg [.v (.string s), .v (.int .i64 u), .v (.int .i64 p), .dp (.s F q 2)]), iI c]
def sn144 (C F : List DT) (n q : Nat) (c u p z : Int) (s : ByteArray) (kv : List (Value × Value)) (_j : JN) : St := startK Tryz.f144 [bK [.dp (.s C n 4)] 1 34, bK [.v (.int .i64 c)] 1 3, some ⟨[], 0, 0, false, .map kv⟩, bK [.mp 2] 1 214, bK [.v (.int .i64 z)] 1 3, bK [.v (.string s), .v (.int .i64 u), .v (.int .i64 p), .dp (.s F q 2)] 4 131] [.e (.agg [.v (.string s), .v (.int .i64 u), .v (.int .i64 p), .dp (.s F q 2)]), .e (.one (.ptr 4 0)), .e (.one (.ptr 3 0)), .e (.one (.ptr 0 0)), .e (.one (.ptr 1 0))]
def sn195 (C : List DT) (n : Nat) (c z : Int) (kv : List (Value × Value)) (_j : JN) : St := startK Tryz.f195 [bK [.dp (.s C n 4)] 1 34, bK [.v (.int .i64 c)] 1 3, some ⟨[], 0, 0, false, .map kv⟩, bK [.mp 2] 1 214, bK [.v (.int .i64 z)] 1 3] [(.e (.one (.dp (.s C n 4)))), (.e (.one (.clo 144 [] [.one (.ptr 4 0), .one (.ptr 3 0), .one (.ptr 0 0), .one (.ptr 1 0)])))]
def sn180 (C : List DT) (n : Nat) (c z : Int) (kv : List (Value × Value)) (_j : JN) : St := startK Tryz.f180 [bK [.dp (.s C n 4)] 1 34, bK [.v (.int .i64 c)] 1 3, some ⟨[], 0, 0, false, .map kv⟩, bK [.mp 2] 1 214, bK [.v (.int .i64 z)] 1 3] [(.e (.one (.dp (.s C n 4)))), iI 16, (.e (.one (.clo 144 [] [.one (.ptr 4 0), .one (.ptr 3 0), .one (.ptr 0 0), .one (.ptr 1 0)])))]
def sn143 (C : List DT) (n : Nat) (c z : Int) (kv : List (Value × Value)) (_j : JN) : St := startK Tryz.f143 [bK [.dp (.s C n 4)] 1 34, bK [.v (.int .i64 c)] 1 3, some ⟨[], 0, 0, false, .map kv⟩, bK [.mp 2] 1 214, bK [.v (.int .i64 z)] 1 3] [(.e (.one (.dp (.s C n 4)))), iI 16, (.e (.one (.clo 144 [] [.one (.ptr 4 0), .one (.ptr 3 0), .one (.ptr 0 0), .one (.ptr 1 0)])))]
def sn79 (C : List DT) (n : Nat) (c : Int) (_j : JN) : St := startK Tryz.f79 [] [(.e (.one (.dp (.s C n 4)))), iI c]
def sn18 (G C L : List DT) (g n l : Nat) (c : Int) (_j : JN) : St := startK Tryz.f18 [] [.e (.agg (mQ c G g C n L l))]
def tn147 (G C L : List DT) (g n l i : Nat) (c : Int) (j : JN) : St := ⟨[(bK (mQ c G g C n L l) 4 37)], [(.code (aF [1, 0, 1, 0, 0] Tryz.f147)), (.inLoop (aF [1, 0, 1, 0, 0] Tryz.f147)), (.inBlock 0), (.code (aF [1, 1] Tryz.f147))], mkT j [(1, (.e (.one (.clo 81 [] [(.one (.ptr 0 0))])))), (8, (.e (.one (.dp (.s L l 3))))), (9, (iN l)), (10, (iN i))] 21 0⟩
def tn195 (C : List DT) (n i : Nat) (c z : Int) (kv : List (Value × Value)) (j : JN) : St := ⟨[(bK [(.dp (.s C n 4))] 1 34), (bK [(.v (.int .i64 c))] 1 3), (.some ⟨[], 0, 0, false, (.map kv)⟩), (bK [(.mp 2)] 1 214), (bK [(.v (.int .i64 z))] 1 3)], [(.code (aF [1, 0, 1, 0, 0] Tryz.f195)), (.inLoop (aF [1, 0, 1, 0, 0] Tryz.f195)), (.inBlock 0), (.code (aF [1, 1] Tryz.f195))], mkT j [(1, (.e (.one (.clo 144 [] [(.one (.ptr 4 0)), (.one (.ptr 3 0)), (.one (.ptr 0 0)), (.one (.ptr 1 0))])))), (8, (.e (.one (.dp (.s C n 4))))), (9, (iN n)), (10, (iN i))] 21 0⟩
def pn82_end (e : Int) (j : JN) : St := ⟨[], [(.code .ret)], mkT j [(4, (iI e))] 21 0⟩
theorem pn82 (hE : EnvOk E) (G C L F : List DT) (g n l q : Nat) (c a b e f p : Int) (s : ByteArray) (h0 : COut E 0 [] 83 [(iI a), (iN n)] (iI b) []) (h2 : COut E 0 [] 98 [(.e (.one (.v (.string s))))] (iI p) []) (h5 : COut E 0 [] 78 [(.e (.one (.dp (.s F q 2)))), (iI c)] (iI f) []) (h7 : COut E 3 [(bK (mQ c G g C n L l) 4 37), (bK [(.v (.int .i64 a)), (.v (.string s)), (.dp (.s F q 2))] 3 132), (bK [(.v (.int .i64 b)), (.v (.int .i64 p)), (.v (.int .i64 f))] 3 31)] 76 [(.e (.one (.slc 2 0 3 1 3 true)))] (iI e) [(bK (mQ c G g C n L l) 4 37), (bK [(.v (.int .i64 a)), (.v (.string s)), (.dp (.s F q 2))] 3 132), (bK [(.v (.int .i64 b)), (.v (.int .i64 p)), (.v (.int .i64 f))] 3 31)]) {Φ : Res → Prop} (ho : ∀ j, OutK E 0 0 (pn82_end e j) Φ) (j : JN) : OutK E 0 0 (sn82 G C L F g n l q c a s j) Φ :=
 oS hE [.run 3, (.ops [(5, (.c0 (iI b))), (8, (.c0 (iI p))), (13, (.c0 (iI f))), (15, (.d (.c1 (iI e)))), (4, (.d .len))] [])] [4] (s' := fun j => ⟨[(bK (mQ c G g C n L l) 4 37), (bK [(.v (.int .i64 a)), (.v (.string s)), (.dp (.s F q 2))] 3 132), (bK [(.v (.int .i64 b)), (.v (.int .i64 p)), (.v (.int .i64 f))] 3 31)], [(.code .ret)], mkT j [(4, (iI e))] 21 0⟩) (aP h0 <| aN <| aP h2 <| aN <| aV <| aP h5 <| aN <| aP h7 <| aN <| aZ)
  fun j => gZ [] (ho j)
def pn81_end (G C L : List DT) (g n l : Nat) (c e : Int) (j : JN) : St := ⟨[(bK (mQ c G g C n L l) 4 37)], [(.code .ret)], mkT j [(3, (iI e))] 7 0⟩
theorem pn81 (hE : EnvOk E) (G C L F : List DT) (g n l q : Nat) (c a e : Int) (s : ByteArray) (h0 : COut E 0 [] 82 [(.e (.agg (mQ c G g C n L l))), (.e (.agg [(.v (.int .i64 a)), (.v (.string s)), (.dp (.s F q 2))]))] (iI e) []) {Φ : Res → Prop} (ho : ∀ j, OutK E 1 1 (pn81_end G C L g n l c e j) Φ) (j : JN) : OutK E 1 1 (sn81 G C L F g n l q c a s j) Φ :=
 oS hE [.run 3, (.ops [(2, (.c0 (iI e)))] [])] [3] (s' := fun j => ⟨[(bK (mQ c G g C n L l) 4 37), (bK [(.v (.int .i64 a)), (.v (.string s)), (.dp (.s F q 2))] 3 132)], [(.code .ret)], mkT j [(3, (iI e))] 7 0⟩) (aP h0 <| aN <| aZ)
  fun j => gZ [0] (ho j)
def pn147a_end (G C L : List DT) (g n l : Nat) (c : Int) (j : JN) : St := ⟨[(bK (mQ c G g C n L l) 4 37)], [(.code (aF [1, 0, 1, 0, 0] Tryz.f147)), (.inLoop (aF [1, 0, 1, 0, 0] Tryz.f147)), (.inBlock 0), (.code (aF [1, 1] Tryz.f147))], mkT j [(1, (.e (.one (.clo 81 [] [(.one (.ptr 0 0))])))), (8, (.e (.one (.dp (.s L l 3))))), (9, (iN l)), (10, (iI 0))] 21 0⟩
theorem pn147a (hE : EnvOk E) (G C L : List DT) (g n l : Nat) (c : Int) {Φ : Res → Prop} (ho : ∀ j, OutK E 1 1 (pn147a_end G C L g n l c j) Φ) (j : JN) : OutK E 1 1 (sn147 G C L g n l c j) Φ :=
 oS hE [.run 4, (.ops [(1, (.d .len))] []), .run 2] [1, 8, 9, 10] (ps := []) trivial
  ho
def pn80z_end (G C L : List DT) (g n l : Nat) (c : Int) (j : JN) : St := ⟨[(bK (mQ c G g C n L l) 4 37)], [(.code .ret), (.code (aF [1, 1] Tryz.f80))], mkT j [(6, (iI 5))] 14 0⟩
theorem pn80z (hE : EnvOk E) (G C L : List DT) (g n l : Nat) (c : Int) (h0 : (decide ((↑l : Int) > Int.ofNat (nat_lit 16)) : Bool) = true) {Φ : Res → Prop} (ho : ∀ j, OutK E 1 1 (pn80z_end G C L g n l c j) Φ) (j : JN) : OutK E 1 1 (sn80 G C L g n l c j) Φ :=
 oS hE [.run 4, (.ops [(1, (.d .len))] []), (.cond true), .run 2] [6] (aP h0 <| aZ)
  ho
def pn80_end (G C L : List DT) (g n l : Nat) (c e : Int) (j : JN) : St := ⟨[(bK (mQ c G g C n L l) 4 37)], [(.code .ret)], mkT j [(6, (iI e))] 14 0⟩
theorem pn80 (hE : EnvOk E) (G C L : List DT) (g n l : Nat) (c e : Int) (h0 : (decide ((↑l : Int) > Int.ofNat (nat_lit 16)) : Bool) = false) (h1 : COut E 1 [(bK (mQ c G g C n L l) 4 37)] 147 [(.e (.one (.dp (.s L l 3)))), (.e (.one (.clo 81 [] [(.one (.ptr 0 0))])))] (iI e) [(bK (mQ c G g C n L l) 4 37)]) (h4 : True) {Φ : Res → Prop} (ho : ∀ j, OutK E 1 1 (pn80_end G C L g n l c e j) Φ) (j : JN) : OutK E 1 1 (sn80 G C L g n l c j) Φ :=
 oS hE [.run 4, (.ops [(1, (.d .len))] []), (.cond false), .run 2, (.ops [(2, (.cl [0] [false] [(.e (.one (.dp (.s L l 3)))), (.e (.one (.clo 81 [] [(.one (.ptr 0 0))])))] [(bK (mQ c G g C n L l) 4 37)] (iI e) [(bK (mQ c G g C n L l) 4 37)] (iI e) [] []))] [])] [6] (aP h0 <| aP h1 <| aP (rfl : ([(.e (.one (.dp (.s L l 3)))), (.e (.one (.clo 81 [] [(.one (.ptr 0 0))])))] : List AV) = [(.e (.one (.dp (.s L l 3)))), (.e (.one (.clo 81 [] [(.one (.ptr 0 0))])))]) <| aP (rfl : ([(.some (bK (mQ c G g C n L l) 4 37))] : List (Option (Option AB))) = [(.some (bK (mQ c G g C n L l) 4 37))]) <| aP h4 <| aP (rfl : ([] : List (Option (Option AB))) = []) <| aP h4 <| aP (rfl : ((iI e) : AV) = (iI e)) <| aZ)
  ho
def pn146z1_end (e : Int) (j : JN) : St := ⟨[], [(.code .ret), (.code (aF [1, 1] Tryz.f146))], mkT j [(6, (iI e))] 58 0⟩
theorem pn146z1 (hE : EnvOk E) (F T : List DT) (q i : Nat) (c e u p : Int) (s : ByteArray) (h0 : ((↑i : Int) == (0 : Int) : Bool) = true) (h1 : ((u != (0 : Int)) == false : Bool) = false) (h4 : (u != (0 : Int) : Bool) = true) (h5 : COut E 0 [] 102 [(iB true), (iI 21)] (iI e) []) {Φ : Res → Prop} (ho : ∀ j, OutK E 0 0 (pn146z1_end e j) Φ) (j : JN) : OutK E 0 0 (sn146 F T q i c u p s j) Φ :=
 oS hE [.run 4, (.ops [(1, (.d .len))] []), (.cond true), .run 1, (.ops [(14, (.c0 (iI e))), (7, (.pk true))] [(4, false), (5, false), (6, false)])] [6] (s' := fun j => ⟨[(bK [(.v (.string s)), (.v (.int .i64 u)), (.v (.int .i64 p)), (.dp (.s F q 2))] 4 131)], [(.code .ret), (.code (aF [1, 1] Tryz.f146))], mkT j [(6, (iI e))] 58 0⟩) (aQ h0 h1 h1 h1 <| aP h4 <| aP h5 <| aN <| aZ)
  fun j => gZ [] (ho j)
def pn146z2_end (e : Int) (j : JN) : St := ⟨[], [(.code .ret), (.code (aF [1, 1] Tryz.f146))], mkT j [(6, (iI e))] 58 0⟩
theorem pn146z2 (hE : EnvOk E) (F T : List DT) (q i : Nat) (c e u p : Int) (s : ByteArray) (h0 : ((↑i : Int) == (0 : Int) : Bool) = true) (h1 : ((u != (0 : Int)) == false : Bool) = true) (h4 : (u != (0 : Int) : Bool) = false) (h5 : ((p != (0 : Int)) == false : Bool) = false) (h9 : (p != (0 : Int) : Bool) = true) (h10 : COut E 0 [] 102 [(iB true), (iI 21)] (iI e) []) {Φ : Res → Prop} (ho : ∀ j, OutK E 0 0 (pn146z2_end e j) Φ) (j : JN) : OutK E 0 0 (sn146 F T q i c u p s j) Φ :=
 oS hE [.run 4, (.ops [(1, (.d .len))] []), (.cond true), .run 1, (.ops [(14, (.c0 (iI e))), (7, (.pk false)), (13, (.pk true))] [(4, true), (5, true), (6, true), (9, false), (10, false), (11, false), (12, false)])] [6] (s' := fun j => ⟨[(bK [(.v (.string s)), (.v (.int .i64 u)), (.v (.int .i64 p)), (.dp (.s F q 2))] 4 131)], [(.code .ret), (.code (aF [1, 1] Tryz.f146))], mkT j [(6, (iI e))] 58 0⟩) (aQ h0 h1 h1 h1 <| aQ h4 h5 h5 h5 <| aP h5 <| aP h9 <| aP h10 <| aN <| aZ)
  fun j => gZ [] (ho j)
def pn146z3_end (e : Int) (j : JN) : St := ⟨[], [(.code .ret), (.code (aF [1, 1] Tryz.f146))], mkT j [(6, (iI e))] 58 0⟩
theorem pn146z3 (hE : EnvOk E) (F T : List DT) (q i : Nat) (c e u p : Int) (s : ByteArray) (h0 : ((↑i : Int) == (0 : Int) : Bool) = true) (h1 : ((u != (0 : Int)) == false : Bool) = true) (h4 : (u != (0 : Int) : Bool) = false) (h5 : ((p != (0 : Int)) == false : Bool) = true) (h9 : (p != (0 : Int) : Bool) = false) (h10 : COut E 0 [] 102 [(iB (decide ((↑q : Int) > (0 : Int)))), (iI 21)] (iI e) []) {Φ : Res → Prop} (ho : ∀ j, OutK E 0 0 (pn146z3_end e j) Φ) (j : JN) : OutK E 0 0 (sn146 F T q i c u p s j) Φ :=
 oS hE [.run 4, (.ops [(1, (.d .len))] []), (.cond true), .run 1, (.ops [(14, (.c0 (iI e))), (7, (.pk false)), (11, (.d .len)), (13, (.pk false))] [(4, true), (5, true), (6, true), (9, true), (10, true), (11, true), (12, true)])] [6] (s' := fun j => ⟨[(bK [(.v (.string s)), (.v (.int .i64 u)), (.v (.int .i64 p)), (.dp (.s F q 2))] 4 131)], [(.code .ret), (.code (aF [1, 1] Tryz.f146))], mkT j [(6, (iI e))] 58 0⟩) (aQ h0 h1 h1 h1 <| aQ h4 h5 h5 h5 <| aP h5 <| aP h9 <| aP h10 <| aN <| aZ)
  fun j => gZ [] (ho j)
def pn146i_end (a : Int) (j : JN) : St := ⟨[], [(.code .ret), (.code (aF [1, 1, 1] Tryz.f146))], mkT j [(6, (iI a))] 58 0⟩
theorem pn146i (hE : EnvOk E) (F T : List DT) (q i : Nat) (c a u p : Int) (s : ByteArray) (h0 : ((↑i : Int) == (0 : Int) : Bool) = false) (h1 : COut E 0 [] 83 [(iI u), (iN i)] (iI a) []) (h3 : (a != (0 : Int) : Bool) = true) {Φ : Res → Prop} (ho : ∀ j, OutK E 0 0 (pn146i_end a j) Φ) (j : JN) : OutK E 0 0 (sn146 F T q i c u p s j) Φ :=
 oS hE [.run 4, (.ops [(1, (.d .len))] []), (.cond false), .run 3, (.ops [(4, (.c0 (iI a))), (3, (.d .len))] []), .run 2, (.cond true), .run 2] [6] (s' := fun j => ⟨[(bK [(.v (.string s)), (.v (.int .i64 u)), (.v (.int .i64 p)), (.dp (.s F q 2))] 4 131)], [(.code .ret), (.code (aF [1, 1, 1] Tryz.f146))], mkT j [(6, (iI a))] 58 0⟩) (aP h0 <| aP h1 <| aN <| aP h3 <| aZ)
  fun j => gZ [] (ho j)
def pn146y_end (e : Int) (j : JN) : St := ⟨[], [(.code .ret)], mkT j [(6, (iI e))] 58 0⟩
theorem pn146y (hE : EnvOk E) (F T : List DT) (q i m : Nat) (c a b e f u p y : Int) (s : ByteArray) (h0 : ((↑i : Int) == (0 : Int) : Bool) = false) (h1 : COut E 0 [] 83 [(iI u), (iN i)] (iI 0) []) (h3 : COut E 0 [] 77 [(iI p), (iI 1), (iI 3)] (iI a) []) (h5 : ((u != (0 : Int)) == true : Bool) = true) (h11 : (0 : Int) ≤ u ∧ u < (↑i : Int)) (h12 : (u.toNat * nat_lit 4 : Nat) = m.mul (4 : Nat)) (h15 : (getL T (m.mul (4 : Nat) + 2) : Option DT) = (.some (.v (.int .i64 y)))) (h17 : (u != (0 : Int) : Bool) = true) (h18 : COut E 0 [] 102 [(iB (p != y)), (iI 24)] (iI b) []) (h21 : COut E 0 [] 78 [(.e (.one (.dp (.s F q 2)))), (iI c)] (iI f) []) (h23 : COut E 2 [(bK [(.v (.string s)), (.v (.int .i64 u)), (.v (.int .i64 p)), (.dp (.s F q 2))] 4 131), (bK [(.v (.int .i64 a)), (.v (.int .i64 b)), (.v (.int .i64 f))] 3 31)] 76 [(.e (.one (.slc 1 0 3 1 3 true)))] (iI e) [(bK [(.v (.string s)), (.v (.int .i64 u)), (.v (.int .i64 p)), (.dp (.s F q 2))] 4 131), (bK [(.v (.int .i64 a)), (.v (.int .i64 b)), (.v (.int .i64 f))] 3 31)]) {Φ : Res → Prop} (ho : ∀ j, OutK E 0 0 (pn146y_end e j) Φ) (j : JN) : OutK E 0 0 (sn146 F T q i c u p s j) Φ :=
 oS hE [.run 4, (.ops [(1, (.d .len))] []), (.cond false), .run 3, (.ops [(4, (.c0 (iI 0))), (3, (.d .len))] []), .run 5, (.ops [(2, (.c0 (iI a))), (12, (.d (.ix (m.mul (4 : Nat))))), (14, (.d (.ld (.v (.int .i64 y))))), (17, (.c0 (iI b))), (21, (.c0 (iI f))), (23, (.d (.c1 (iI e)))), (13, (.d .fa)), (16, (.pk true))] [(7, true), (8, true), (9, true), (10, true), (11, true), (12, true), (13, true), (14, true), (15, true)])] [6] (s' := fun j => ⟨[(bK [(.v (.string s)), (.v (.int .i64 u)), (.v (.int .i64 p)), (.dp (.s F q 2))] 4 131), (bK [(.v (.int .i64 a)), (.v (.int .i64 b)), (.v (.int .i64 f))] 3 31)], [(.code .ret)], mkT j [(6, (iI e))] 58 0⟩) (aP h0 <| aP h1 <| aN <| aP h3 <| aN <| aQ h5 h5 h5 h5 <| aQ h5 h5 h11 h12 <| aQ h5 h5 h15 h5 <| aP h17 <| aP h18 <| aN <| aV <| aP h21 <| aN <| aP h23 <| aN <| aZ)
  fun j => gZ [] (ho j)
def pn146x_end (e : Int) (j : JN) : St := ⟨[], [(.code .ret)], mkT j [(6, (iI e))] 58 0⟩
theorem pn146x (hE : EnvOk E) (F T : List DT) (q i : Nat) (c a b e f u p : Int) (s : ByteArray) (h0 : ((↑i : Int) == (0 : Int) : Bool) = false) (h1 : COut E 0 [] 83 [(iI u), (iN i)] (iI 0) []) (h3 : COut E 0 [] 77 [(iI p), (iI 1), (iI 3)] (iI a) []) (h5 : ((u != (0 : Int)) == true : Bool) = false) (h14 : (u != (0 : Int) : Bool) = false) (h15 : COut E 0 [] 102 [(iB false), (iI 24)] (iI b) []) (h18 : COut E 0 [] 78 [(.e (.one (.dp (.s F q 2)))), (iI c)] (iI f) []) (h20 : COut E 2 [(bK [(.v (.string s)), (.v (.int .i64 u)), (.v (.int .i64 p)), (.dp (.s F q 2))] 4 131), (bK [(.v (.int .i64 a)), (.v (.int .i64 b)), (.v (.int .i64 f))] 3 31)] 76 [(.e (.one (.slc 1 0 3 1 3 true)))] (iI e) [(bK [(.v (.string s)), (.v (.int .i64 u)), (.v (.int .i64 p)), (.dp (.s F q 2))] 4 131), (bK [(.v (.int .i64 a)), (.v (.int .i64 b)), (.v (.int .i64 f))] 3 31)]) {Φ : Res → Prop} (ho : ∀ j, OutK E 0 0 (pn146x_end e j) Φ) (j : JN) : OutK E 0 0 (sn146 F T q i c u p s j) Φ :=
 oS hE [.run 4, (.ops [(1, (.d .len))] []), (.cond false), .run 3, (.ops [(4, (.c0 (iI 0))), (3, (.d .len))] []), .run 5, (.ops [(2, (.c0 (iI a))), (17, (.c0 (iI b))), (21, (.c0 (iI f))), (23, (.d (.c1 (iI e)))), (16, (.pk false))] [(7, false), (8, false), (9, false), (10, false), (11, false), (12, false), (13, false), (14, false), (15, false)])] [6] (s' := fun j => ⟨[(bK [(.v (.string s)), (.v (.int .i64 u)), (.v (.int .i64 p)), (.dp (.s F q 2))] 4 131), (bK [(.v (.int .i64 a)), (.v (.int .i64 b)), (.v (.int .i64 f))] 3 31)], [(.code .ret)], mkT j [(6, (iI e))] 58 0⟩) (aP h0 <| aP h1 <| aN <| aP h3 <| aN <| aQ h5 h5 h5 h5 <| aQ h5 h5 h5 h5 <| aP h5 <| aP h14 <| aP h15 <| aN <| aV <| aP h18 <| aN <| aP h20 <| aN <| aZ)
  fun j => gZ [] (ho j)
def pn144_end (C F : List DT) (n q : Nat) (c e u p t : Int) (s : ByteArray) (kv2 : List (Value × Value)) (j : JN) : St := ⟨[(bK [(.dp (.s C n 4))] 1 34), (bK [(.v (.int .i64 c))] 1 3), (.some ⟨[], 0, 0, false, (.map kv2)⟩), (bK [(.mp 2)] 1 214), (bK [(.v (.int .i64 t))] 1 3), (bK [(.v (.string s)), (.v (.int .i64 u)), (.v (.int .i64 p)), (.dp (.s F q 2))] 4 131)], [(.code .ret)], mkT j [(6, (iI e))] 30 0⟩
theorem pn144 (hE : EnvOk E) (C F T : List DT) (n q i : Nat) (c a b e f u p t z : Int) (s : ByteArray) (w : Bool) (kv kv2 : List (Value × Value)) (h0 : ((iI (wrapF IntKind.i64 (z + (1 : Int)))) : AV) = (iI t)) (h1 : (seeKV { desc := TypeDesc.string, str := "string", size := (1 : Nat), bytes := (16 : Nat), hasPointers := true, align := (8 : Nat), fieldAlign := (8 : Nat), zero := some (Value.string { data := #[] : ByteArray }), comparable := true, methods := #[] : TypeInfo }.desc (Value.string s) kv (Value.bool false) : Option (Value × Bool)) = (.some ((.bool w), w))) (h3 : (Option.map (putKV (Value.string s) (Value.bool true) kv) (findKV { desc := TypeDesc.string, str := "string", size := (1 : Nat), bytes := (16 : Nat), hasPointers := true, align := (8 : Nat), fieldAlign := (8 : Nat), zero := some (Value.string { data := #[] : ByteArray }), comparable := true, methods := #[] : TypeInfo }.desc (Value.string s) kv (0 : Nat)) : Option (List (Value × Value))) = (.some kv2)) (h5 : COut E 0 [] 145 [(.e (.one (.v (.string s))))] (iI a) []) (h7 : COut E 0 [] 102 [(iB w), (iI 9)] (iI b) []) (h10 : (t : Int) = Int.ofNat i) (h11 : (0 : Nat) ≤ i ∧ i ≤ n) (h12 : (takeL (dropL C (0 : Nat)) ((i - (0 : Nat)) * nat_lit 4) : Option (List DT)) = (.some T)) (h14 : COut E 0 [] 146 [(.e (.one (.dp (.s T (i - (0 : Nat)) 4)))), (.e (.agg [(.v (.string s)), (.v (.int .i64 u)), (.v (.int .i64 p)), (.dp (.s F q 2))])), (iI c)] (iI f) []) (h16 : COut E 8 [(bK [(.dp (.s C n 4))] 1 34), (bK [(.v (.int .i64 c))] 1 3), (.some ⟨[], 0, 0, false, (.map kv2)⟩), (bK [(.mp 2)] 1 214), (bK [(.v (.int .i64 t))] 1 3), (bK [(.v (.string s)), (.v (.int .i64 u)), (.v (.int .i64 p)), (.dp (.s F q 2))] 4 131), (bK [(.v (.string s)), (.v (.int .i64 u)), (.v (.int .i64 p)), (.dp (.s F q 2))] 4 131), (bK [(.v (.int .i64 a)), (.v (.int .i64 b)), (.v (.int .i64 f))] 3 31)] 76 [(.e (.one (.slc 7 0 3 1 3 true)))] (iI e) [(bK [(.dp (.s C n 4))] 1 34), (bK [(.v (.int .i64 c))] 1 3), (.some ⟨[], 0, 0, false, (.map kv2)⟩), (bK [(.mp 2)] 1 214), (bK [(.v (.int .i64 t))] 1 3), (bK [(.v (.string s)), (.v (.int .i64 u)), (.v (.int .i64 p)), (.dp (.s F q 2))] 4 131), (bK [(.v (.string s)), (.v (.int .i64 u)), (.v (.int .i64 p)), (.dp (.s F q 2))] 4 131), (bK [(.v (.int .i64 a)), (.v (.int .i64 b)), (.v (.int .i64 f))] 3 31)]) {Φ : Res → Prop} (ho : ∀ j, OutK E 0 6 (pn144_end C F n q c e u p t s kv2 j) Φ) (j : JN) : OutK E 0 6 (sn144 C F n q c u p z s kv j) Φ :=
 oS hE [.run 3, (.ops [(1, (.rn (iI t)))] []), .run 1, (.ops [(3, (.lk (.bool w) w))] []), .run 1, (.ops [(3, (.mu kv2))] []), .run 1, (.ops [(2, (.c0 (iI a))), (4, (.c0 (iI b))), (7, (.d (.sl 0 i T))), (10, (.c0 (iI f))), (12, (.d (.c1 (iI e))))] [])] [6] (s' := fun j => ⟨[(bK [(.dp (.s C n 4))] 1 34), (bK [(.v (.int .i64 c))] 1 3), (.some ⟨[], 0, 0, false, (.map kv2)⟩), (bK [(.mp 2)] 1 214), (bK [(.v (.int .i64 t))] 1 3), (bK [(.v (.string s)), (.v (.int .i64 u)), (.v (.int .i64 p)), (.dp (.s F q 2))] 4 131), (bK [(.v (.string s)), (.v (.int .i64 u)), (.v (.int .i64 p)), (.dp (.s F q 2))] 4 131), (bK [(.v (.int .i64 a)), (.v (.int .i64 b)), (.v (.int .i64 f))] 3 31)], [(.code .ret)], mkT j [(6, (iI e))] 30 0⟩) (aP h0 <| aP h1 <| aV <| aP h3 <| aV <| aP h5 <| aN <| aP h7 <| aN <| aP (rfl : ((0 : Int) : Int) = Int.ofNat (0 : Nat)) <| aP h10 <| aP h11 <| aP h12 <| aV <| aP h14 <| aN <| aP h16 <| aN <| aZ)
  fun j => gZ [0, 1, 2, 3, 4, 5] (ho j)
def pn195a_end (C : List DT) (n : Nat) (c z : Int) (kv : List (Value × Value)) (j : JN) : St := ⟨[(bK [(.dp (.s C n 4))] 1 34), (bK [(.v (.int .i64 c))] 1 3), (.some ⟨[], 0, 0, false, (.map kv)⟩), (bK [(.mp 2)] 1 214), (bK [(.v (.int .i64 z))] 1 3)], [(.code (aF [1, 0, 1, 0, 0] Tryz.f195)), (.inLoop (aF [1, 0, 1, 0, 0] Tryz.f195)), (.inBlock 0), (.code (aF [1, 1] Tryz.f195))], mkT j [(1, (.e (.one (.clo 144 [] [(.one (.ptr 4 0)), (.one (.ptr 3 0)), (.one (.ptr 0 0)), (.one (.ptr 1 0))])))), (8, (.e (.one (.dp (.s C n 4))))), (9, (iN n)), (10, (iI 0))] 21 0⟩
theorem pn195a (hE : EnvOk E) (C : List DT) (n : Nat) (c z : Int) (kv : List (Value × Value)) {Φ : Res → Prop} (ho : ∀ j, OutK E 0 5 (pn195a_end C n c z kv j) Φ) (j : JN) : OutK E 0 5 (sn195 C n c z kv j) Φ :=
 oS hE [.run 4, (.ops [(1, (.d .len))] []), .run 2] [1, 8, 9, 10] (ps := []) trivial
  ho
def pn180z_end (C : List DT) (n : Nat) (c z : Int) (kv : List (Value × Value)) (j : JN) : St := ⟨[(bK [(.dp (.s C n 4))] 1 34), (bK [(.v (.int .i64 c))] 1 3), (.some ⟨[], 0, 0, false, (.map kv)⟩), (bK [(.mp 2)] 1 214), (bK [(.v (.int .i64 z))] 1 3)], [(.code .ret), (.code (aF [1, 1] Tryz.f180))], mkT j [(6, (iI 5))] 14 0⟩
theorem pn180z (hE : EnvOk E) (C : List DT) (n : Nat) (c z : Int) (kv : List (Value × Value)) (h0 : (decide ((↑n : Int) > Int.ofNat (nat_lit 16)) : Bool) = true) {Φ : Res → Prop} (ho : ∀ j, OutK E 0 5 (pn180z_end C n c z kv j) Φ) (j : JN) : OutK E 0 5 (sn180 C n c z kv j) Φ :=
 oS hE [.run 4, (.ops [(1, (.d .len))] []), (.cond true), .run 2] [6] (aP h0 <| aZ)
  ho
def pn180_end (C : List DT) (n : Nat) (c e t : Int) (kv2 : List (Value × Value)) (j : JN) : St := ⟨[(bK [(.dp (.s C n 4))] 1 34), (bK [(.v (.int .i64 c))] 1 3), (.some ⟨[], 0, 0, false, (.map kv2)⟩), (bK [(.mp 2)] 1 214), (bK [(.v (.int .i64 t))] 1 3)], [(.code .ret)], mkT j [(6, (iI e))] 14 0⟩
theorem pn180 (hE : EnvOk E) (C : List DT) (n : Nat) (c e t z : Int) (kv kv2 : List (Value × Value)) (h0 : (decide ((↑n : Int) > Int.ofNat (nat_lit 16)) : Bool) = false) (h1 : COut E 0 [(bK [(.dp (.s C n 4))] 1 34), (bK [(.v (.int .i64 c))] 1 3), (.some ⟨[], 0, 0, false, (.map kv)⟩), (bK [(.mp 2)] 1 214), (bK [(.v (.int .i64 z))] 1 3)] 195 [(.e (.one (.dp (.s C n 4)))), (.e (.one (.clo 144 [] [(.one (.ptr 4 0)), (.one (.ptr 3 0)), (.one (.ptr 0 0)), (.one (.ptr 1 0))])))] (iI e) [(bK [(.dp (.s C n 4))] 1 34), (bK [(.v (.int .i64 c))] 1 3), (.some ⟨[], 0, 0, false, (.map kv2)⟩), (bK [(.mp 2)] 1 214), (bK [(.v (.int .i64 t))] 1 3)]) {Φ : Res → Prop} (ho : ∀ j, OutK E 0 5 (pn180_end C n c e t kv2 j) Φ) (j : JN) : OutK E 0 5 (sn180 C n c z kv j) Φ :=
 oS hE [.run 4, (.ops [(1, (.d .len))] []), (.cond false), .run 2, (.ops [(2, (.cw (iI e) [(bK [(.dp (.s C n 4))] 1 34), (bK [(.v (.int .i64 c))] 1 3), (.some ⟨[], 0, 0, false, (.map kv2)⟩), (bK [(.mp 2)] 1 214), (bK [(.v (.int .i64 t))] 1 3)]))] [])] [6] (aP h0 <| aP h1 <| aZ)
  ho
def pn143z_end (C : List DT) (n : Nat) (c z : Int) (kv : List (Value × Value)) (j : JN) : St := ⟨[(bK [(.dp (.s C n 4))] 1 34), (bK [(.v (.int .i64 c))] 1 3), (.some ⟨[], 0, 0, false, (.map kv)⟩), (bK [(.mp 2)] 1 214), (bK [(.v (.int .i64 z))] 1 3)], [(.code .ret), (.code (aF [1, 1] Tryz.f143))], mkT j [(6, (iI 12))] 14 0⟩
theorem pn143z (hE : EnvOk E) (C : List DT) (n : Nat) (c z : Int) (kv : List (Value × Value)) (h0 : ((↑n : Int) == (0 : Int) : Bool) = true) {Φ : Res → Prop} (ho : ∀ j, OutK E 0 5 (pn143z_end C n c z kv j) Φ) (j : JN) : OutK E 0 5 (sn143 C n c z kv j) Φ :=
 oS hE [.run 4, (.ops [(1, (.d .len))] []), (.cond true), .run 2] [6] (aP h0 <| aZ)
  ho
def pn143_end (C : List DT) (n : Nat) (c e t : Int) (kv2 : List (Value × Value)) (j : JN) : St := ⟨[(bK [(.dp (.s C n 4))] 1 34), (bK [(.v (.int .i64 c))] 1 3), (.some ⟨[], 0, 0, false, (.map kv2)⟩), (bK [(.mp 2)] 1 214), (bK [(.v (.int .i64 t))] 1 3)], [(.code .ret)], mkT j [(6, (iI e))] 14 0⟩
theorem pn143 (hE : EnvOk E) (C : List DT) (n : Nat) (c e t z : Int) (kv kv2 : List (Value × Value)) (h0 : ((↑n : Int) == (0 : Int) : Bool) = false) (h1 : COut E 0 [(bK [(.dp (.s C n 4))] 1 34), (bK [(.v (.int .i64 c))] 1 3), (.some ⟨[], 0, 0, false, (.map kv)⟩), (bK [(.mp 2)] 1 214), (bK [(.v (.int .i64 z))] 1 3)] 180 [(.e (.one (.dp (.s C n 4)))), (iI 16), (.e (.one (.clo 144 [] [(.one (.ptr 4 0)), (.one (.ptr 3 0)), (.one (.ptr 0 0)), (.one (.ptr 1 0))])))] (iI e) [(bK [(.dp (.s C n 4))] 1 34), (bK [(.v (.int .i64 c))] 1 3), (.some ⟨[], 0, 0, false, (.map kv2)⟩), (bK [(.mp 2)] 1 214), (bK [(.v (.int .i64 t))] 1 3)]) {Φ : Res → Prop} (ho : ∀ j, OutK E 0 5 (pn143_end C n c e t kv2 j) Φ) (j : JN) : OutK E 0 5 (sn143 C n c z kv j) Φ :=
 oS hE [.run 4, (.ops [(1, (.d .len))] []), (.cond false), .run 2, (.ops [(3, (.cw (iI e) [(bK [(.dp (.s C n 4))] 1 34), (bK [(.v (.int .i64 c))] 1 3), (.some ⟨[], 0, 0, false, (.map kv2)⟩), (bK [(.mp 2)] 1 214), (bK [(.v (.int .i64 t))] 1 3)]))] [])] [6] (aP h0 <| aP h1 <| aZ)
  ho
def pn79_end (e : Int) (j : JN) : St := ⟨[], [(.code .ret)], mkT j [(4, (iI e))] 11 0⟩
theorem pn79 (hE : EnvOk E) (C : List DT) (n : Nat) (c e t : Int) (kv2 : List (Value × Value)) (h0 : COut E 0 [(bK [(.dp (.s C n 4))] 1 34), (bK [(.v (.int .i64 c))] 1 3), (.some ⟨[], 0, 0, false, (.map [])⟩), (bK [(.mp 2)] 1 214), (bK [(.v (.int .i64 (-1)))] 1 3)] 143 [(.e (.one (.dp (.s C n 4)))), (iI 16), (.e (.one (.clo 144 [] [(.one (.ptr 4 0)), (.one (.ptr 3 0)), (.one (.ptr 0 0)), (.one (.ptr 1 0))])))] (iI e) [(bK [(.dp (.s C n 4))] 1 34), (bK [(.v (.int .i64 c))] 1 3), (.some ⟨[], 0, 0, false, (.map kv2)⟩), (bK [(.mp 2)] 1 214), (bK [(.v (.int .i64 t))] 1 3)]) {Φ : Res → Prop} (ho : ∀ j, OutK E 0 0 (pn79_end e j) Φ) (j : JN) : OutK E 0 0 (sn79 C n c j) Φ :=
 oS hE [.run 7, (.ops [(2, (.cw (iI e) [(bK [(.dp (.s C n 4))] 1 34), (bK [(.v (.int .i64 c))] 1 3), (.some ⟨[], 0, 0, false, (.map kv2)⟩), (bK [(.mp 2)] 1 214), (bK [(.v (.int .i64 t))] 1 3)]))] [])] [4] (s' := fun j => ⟨[(bK [(.dp (.s C n 4))] 1 34), (bK [(.v (.int .i64 c))] 1 3), (.some ⟨[], 0, 0, false, (.map kv2)⟩), (bK [(.mp 2)] 1 214), (bK [(.v (.int .i64 t))] 1 3)], [(.code .ret)], mkT j [(4, (iI e))] 11 0⟩) (aP h0 <| aZ)
  fun j => gZ [] (ho j)
def pn18_end (e : Int) (j : JN) : St := ⟨[], [(.code .ret)], mkT j [(2, (iI e))] 22 0⟩
theorem pn18 (hE : EnvOk E) (G C L : List DT) (g n l : Nat) (c a b e f p : Int) (h0 : COut E 0 [] 77 [(iI c), (iI 1), (iI 8)] (iI a) []) (h2 : COut E 0 [] 78 [(.e (.one (.dp (.s G g 2)))), (iI c)] (iI b) []) (h4 : COut E 0 [] 79 [(.e (.one (.dp (.s C n 4)))), (iI c)] (iI f) []) (h7 : COut E 1 [(bK (mQ c G g C n L l) 4 37)] 80 [(.e (.one (.dp (.s L l 3)))), (iI 16), (.e (.one (.clo 81 [] [(.one (.ptr 0 0))])))] (iI p) [(bK (mQ c G g C n L l) 4 37)]) (h9 : COut E 2 [(bK (mQ c G g C n L l) 4 37), (bK [(.v (.int .i64 a)), (.v (.int .i64 b)), (.v (.int .i64 f)), (.v (.int .i64 p))] 4 31)] 76 [(.e (.one (.slc 1 0 4 1 4 true)))] (iI e) [(bK (mQ c G g C n L l) 4 37), (bK [(.v (.int .i64 a)), (.v (.int .i64 b)), (.v (.int .i64 f)), (.v (.int .i64 p))] 4 31)]) {Φ : Res → Prop} (ho : ∀ j, OutK E 0 0 (pn18_end e j) Φ) (j : JN) : OutK E 0 0 (sn18 G C L g n l c j) Φ :=
 oS hE [.run 3, (.ops [(2, (.c0 (iI a))), (7, (.c0 (iI b))), (12, (.c0 (iI f))), (16, (.d (.c1 (iI p)))), (18, (.d (.c1 (iI e))))] [])] [2] (s' := fun j => ⟨[(bK (mQ c G g C n L l) 4 37), (bK [(.v (.int .i64 a)), (.v (.int .i64 b)), (.v (.int .i64 f)), (.v (.int .i64 p))] 4 31)], [(.code .ret)], mkT j [(2, (iI e))] 22 0⟩) (aP h0 <| aN <| aP h2 <| aN <| aP h4 <| aN <| aV <| aP h7 <| aN <| aP h9 <| aN <| aZ)
  fun j => gZ [] (ho j)
def pn147s_end (G C L : List DT) (g n l i : Nat) (c : Int) (j : JN) : St := ⟨[(bK (mQ c G g C n L l) 4 37)], [(.code (aF [1, 0, 1, 0, 0] Tryz.f147)), (.inLoop (aF [1, 0, 1, 0, 0] Tryz.f147)), (.inBlock 0), (.code (aF [1, 1] Tryz.f147))], mkT j [(1, (.e (.one (.clo 81 [] [(.one (.ptr 0 0))])))), (8, (.e (.one (.dp (.s L l 3))))), (9, (iN l)), (10, (iN (i + 1)))] 21 0⟩
theorem pn147s (hE : EnvOk E) (G C L F : List DT) (g n l q i : Nat) (c a e : Int) (s : ByteArray) (h0 : (decide (Int.ofNat i < Int.ofNat l) : Bool) = true) (h1 : (0 : Int) ≤ Int.ofNat i ∧ Int.ofNat i < (↑l : Int)) (h2 : ((Int.ofNat i).toNat * nat_lit 3 : Nat) = i.mul (nat_lit 3)) (h3 : (takeL (dropL L (i.mul (nat_lit 3))) (3 : Nat) : Option (List DT)) = (.some [(.v (.int .i64 a)), (.v (.string s)), (.s F q 2)])) (h4 : COut E 1 [(bK (mQ c G g C n L l) 4 37)] 81 [(.e (.agg [(.v (.int .i64 a)), (.v (.string s)), (.dp (.s F q 2))])), (.e (.one (.ptr 0 0)))] (iI e) [(bK (mQ c G g C n L l) 4 37)]) (h7 : True) (h11 : (e != (0 : Int) : Bool) = false) (h12 : ((iI (wrapF IntKind.i64 (Int.ofNat i + (1 : Int)))) : AV) = (iN (i + 1))) {Φ : Res → Prop} (ho : ∀ j, OutK E 1 1 (pn147s_end G C L g n l i c j) Φ) (j : JN) : OutK E 1 1 (tn147 G C L g n l i c j) Φ :=
 oS hE [.run 3, (.cond true), .run 4, (.ops [(1, (.d (.ldn [(.v (.int .i64 a)), (.v (.string s)), (.s F q 2)]))), (0, (.d (.ix (i.mul (nat_lit 3)))))] []), .run 1, (.ops [(2, (.cl [0] [false] [(.e (.agg [(.v (.int .i64 a)), (.v (.string s)), (.dp (.s F q 2))])), (.e (.one (.ptr 0 0)))] [(bK (mQ c G g C n L l) 4 37)] (iI e) [(bK (mQ c G g C n L l) 4 37)] (iI e) [] []))] []), .run 2, (.cond false), .run 2, (.ops [(0, (.rn (iN (i + 1))))] []), .run 1] [1, 8, 9, 10] (s' := fun j => ⟨[(bK (mQ c G g C n L l) 4 37), (bK [(.v (.int .i64 a)), (.v (.string s)), (.dp (.s F q 2))] 3 132)], [(.code (aF [1, 0, 1, 0, 0] Tryz.f147)), (.inLoop (aF [1, 0, 1, 0, 0] Tryz.f147)), (.inBlock 0), (.code (aF [1, 1] Tryz.f147))], mkT j [(1, (.e (.one (.clo 81 [] [(.one (.ptr 0 0))])))), (8, (.e (.one (.dp (.s L l 3))))), (9, (iN l)), (10, (iN (i + 1)))] 21 0⟩) (aQ h0 h1 h2 h3 <| aP h4 <| aP (rfl : ([(.e (.agg [(.v (.int .i64 a)), (.v (.string s)), (.dp (.s F q 2))])), (.e (.one (.ptr 0 0)))] : List AV) = [(.e (.agg [(.v (.int .i64 a)), (.v (.string s)), (.dp (.s F q 2))])), (.e (.one (.ptr 0 0)))]) <| aP (rfl : ([(.some (bK (mQ c G g C n L l) 4 37))] : List (Option (Option AB))) = [(.some (bK (mQ c G g C n L l) 4 37))]) <| aP h7 <| aP (rfl : ([] : List (Option (Option AB))) = []) <| aP h7 <| aP (rfl : ((iI e) : AV) = (iI e)) <| aP h11 <| aP h12 <| aZ)
  fun j => gZ [0] (ho j)
def pn147f_end (G C L : List DT) (g n l : Nat) (c e : Int) (j : JN) : St := ⟨[(bK (mQ c G g C n L l) 4 37)], [(.code .ret), (.inBlock 1), (.code (aF [1, 0, 1, 0, 0, 1, 1, 1] Tryz.f147)), (.inLoop (aF [1, 0, 1, 0, 0] Tryz.f147)), (.inBlock 0), (.code (aF [1, 1] Tryz.f147))], mkT j [(4, (iI e))] 21 0⟩
theorem pn147f (hE : EnvOk E) (G C L F : List DT) (g n l q i : Nat) (c a e : Int) (s : ByteArray) (h0 : (decide (Int.ofNat i < Int.ofNat l) : Bool) = true) (h1 : (0 : Int) ≤ Int.ofNat i ∧ Int.ofNat i < (↑l : Int)) (h2 : ((Int.ofNat i).toNat * nat_lit 3 : Nat) = i.mul (nat_lit 3)) (h3 : (takeL (dropL L (i.mul (nat_lit 3))) (3 : Nat) : Option (List DT)) = (.some [(.v (.int .i64 a)), (.v (.string s)), (.s F q 2)])) (h4 : COut E 1 [(bK (mQ c G g C n L l) 4 37)] 81 [(.e (.agg [(.v (.int .i64 a)), (.v (.string s)), (.dp (.s F q 2))])), (.e (.one (.ptr 0 0)))] (iI e) [(bK (mQ c G g C n L l) 4 37)]) (h7 : True) (h11 : (e != (0 : Int) : Bool) = true) {Φ : Res → Prop} (ho : ∀ j, OutK E 1 1 (pn147f_end G C L g n l c e j) Φ) (j : JN) : OutK E 1 1 (tn147 G C L g n l i c j) Φ :=
 oS hE [.run 3, (.cond true), .run 4, (.ops [(1, (.d (.ldn [(.v (.int .i64 a)), (.v (.string s)), (.s F q 2)]))), (0, (.d (.ix (i.mul (nat_lit 3)))))] []), .run 1, (.ops [(2, (.cl [0] [false] [(.e (.agg [(.v (.int .i64 a)), (.v (.string s)), (.dp (.s F q 2))])), (.e (.one (.ptr 0 0)))] [(bK (mQ c G g C n L l) 4 37)] (iI e) [(bK (mQ c G g C n L l) 4 37)] (iI e) [] []))] []), .run 2, (.cond true), .run 2] [4] (s' := fun j => ⟨[(bK (mQ c G g C n L l) 4 37), (bK [(.v (.int .i64 a)), (.v (.string s)), (.dp (.s F q 2))] 3 132)], [(.code .ret), (.inBlock 1), (.code (aF [1, 0, 1, 0, 0, 1, 1, 1] Tryz.f147)), (.inLoop (aF [1, 0, 1, 0, 0] Tryz.f147)), (.inBlock 0), (.code (aF [1, 1] Tryz.f147))], mkT j [(4, (iI e))] 21 0⟩) (aQ h0 h1 h2 h3 <| aP h4 <| aP (rfl : ([(.e (.agg [(.v (.int .i64 a)), (.v (.string s)), (.dp (.s F q 2))])), (.e (.one (.ptr 0 0)))] : List AV) = [(.e (.agg [(.v (.int .i64 a)), (.v (.string s)), (.dp (.s F q 2))])), (.e (.one (.ptr 0 0)))]) <| aP (rfl : ([(.some (bK (mQ c G g C n L l) 4 37))] : List (Option (Option AB))) = [(.some (bK (mQ c G g C n L l) 4 37))]) <| aP h7 <| aP (rfl : ([] : List (Option (Option AB))) = []) <| aP h7 <| aP (rfl : ((iI e) : AV) = (iI e)) <| aP h11 <| aZ)
  fun j => gZ [0] (ho j)
def pn147x_end (G C L : List DT) (g n l : Nat) (c : Int) (j : JN) : St := ⟨[(bK (mQ c G g C n L l) 4 37)], [(.code .ret)], mkT j [(4, (iI 0))] 21 0⟩
theorem pn147x (hE : EnvOk E) (G C L : List DT) (g n l i : Nat) (c : Int) (h0 : (decide (Int.ofNat i < Int.ofNat l) : Bool) = false) {Φ : Res → Prop} (ho : ∀ j, OutK E 1 1 (pn147x_end G C L g n l c j) Φ) (j : JN) : OutK E 1 1 (tn147 G C L g n l i c j) Φ :=
 oS hE [.run 3, (.cond false), .run 3] [4] (aP h0 <| aZ)
  ho
def pn195s_end (C : List DT) (n i : Nat) (c t : Int) (kv2 : List (Value × Value)) (j : JN) : St := ⟨[(bK [(.dp (.s C n 4))] 1 34), (bK [(.v (.int .i64 c))] 1 3), (.some ⟨[], 0, 0, false, (.map kv2)⟩), (bK [(.mp 2)] 1 214), (bK [(.v (.int .i64 t))] 1 3)], [(.code (aF [1, 0, 1, 0, 0] Tryz.f195)), (.inLoop (aF [1, 0, 1, 0, 0] Tryz.f195)), (.inBlock 0), (.code (aF [1, 1] Tryz.f195))], mkT j [(1, (.e (.one (.clo 144 [] [(.one (.ptr 4 0)), (.one (.ptr 3 0)), (.one (.ptr 0 0)), (.one (.ptr 1 0))])))), (8, (.e (.one (.dp (.s C n 4))))), (9, (iN n)), (10, (iN (i + 1)))] 21 0⟩
theorem pn195s (hE : EnvOk E) (C F : List DT) (n q i : Nat) (c e u p t z : Int) (s : ByteArray) (kv kv2 : List (Value × Value)) (h0 : (decide (Int.ofNat i < Int.ofNat n) : Bool) = true) (h1 : (0 : Int) ≤ Int.ofNat i ∧ Int.ofNat i < (↑n : Int)) (h2 : ((Int.ofNat i).toNat * nat_lit 4 : Nat) = i.mul (nat_lit 4)) (h3 : (takeL (dropL C (i.mul (nat_lit 4))) (4 : Nat) : Option (List DT)) = (.some [(.v (.string s)), (.v (.int .i64 u)), (.v (.int .i64 p)), (.s F q 2)])) (h4 : COut E 0 [(bK [(.dp (.s C n 4))] 1 34), (bK [(.v (.int .i64 c))] 1 3), (.some ⟨[], 0, 0, false, (.map kv)⟩), (bK [(.mp 2)] 1 214), (bK [(.v (.int .i64 z))] 1 3), (bK [(.v (.string s)), (.v (.int .i64 u)), (.v (.int .i64 p)), (.dp (.s F q 2))] 4 131)] 144 [(.e (.agg [(.v (.string s)), (.v (.int .i64 u)), (.v (.int .i64 p)), (.dp (.s F q 2))])), (.e (.one (.ptr 4 0))), (.e (.one (.ptr 3 0))), (.e (.one (.ptr 0 0))), (.e (.one (.ptr 1 0)))] (iI e) [(bK [(.dp (.s C n 4))] 1 34), (bK [(.v (.int .i64 c))] 1 3), (.some ⟨[], 0, 0, false, (.map kv2)⟩), (bK [(.mp 2)] 1 214), (bK [(.v (.int .i64 t))] 1 3), (bK [(.v (.string s)), (.v (.int .i64 u)), (.v (.int .i64 p)), (.dp (.s F q 2))] 4 131)]) (h5 : (e != (0 : Int) : Bool) = false) (h6 : ((iI (wrapF IntKind.i64 (Int.ofNat i + (1 : Int)))) : AV) = (iN (i + 1))) {Φ : Res → Prop} (ho : ∀ j, OutK E 0 5 (pn195s_end C n i c t kv2 j) Φ) (j : JN) : OutK E 0 5 (tn195 C n i c z kv j) Φ :=
 oS hE [.run 3, (.cond true), .run 4, (.ops [(1, (.d (.ldn [(.v (.string s)), (.v (.int .i64 u)), (.v (.int .i64 p)), (.s F q 2)]))), (0, (.d (.ix (i.mul (nat_lit 4)))))] []), .run 1, (.ops [(2, (.cw (iI e) [(bK [(.dp (.s C n 4))] 1 34), (bK [(.v (.int .i64 c))] 1 3), (.some ⟨[], 0, 0, false, (.map kv2)⟩), (bK [(.mp 2)] 1 214), (bK [(.v (.int .i64 t))] 1 3), (bK [(.v (.string s)), (.v (.int .i64 u)), (.v (.int .i64 p)), (.dp (.s F q 2))] 4 131)]))] []), .run 2, (.cond false), .run 2, (.ops [(0, (.rn (iN (i + 1))))] []), .run 1] [1, 8, 9, 10] (s' := fun j => ⟨[(bK [(.dp (.s C n 4))] 1 34), (bK [(.v (.int .i64 c))] 1 3), (.some ⟨[], 0, 0, false, (.map kv2)⟩), (bK [(.mp 2)] 1 214), (bK [(.v (.int .i64 t))] 1 3), (bK [(.v (.string s)), (.v (.int .i64 u)), (.v (.int .i64 p)), (.dp (.s F q 2))] 4 131)], [(.code (aF [1, 0, 1, 0, 0] Tryz.f195)), (.inLoop (aF [1, 0, 1, 0, 0] Tryz.f195)), (.inBlock 0), (.code (aF [1, 1] Tryz.f195))], mkT j [(1, (.e (.one (.clo 144 [] [(.one (.ptr 4 0)), (.one (.ptr 3 0)), (.one (.ptr 0 0)), (.one (.ptr 1 0))])))), (8, (.e (.one (.dp (.s C n 4))))), (9, (iN n)), (10, (iN (i + 1)))] 21 0⟩) (aQ h0 h1 h2 h3 <| aP h4 <| aP h5 <| aP h6 <| aZ)
  fun j => gZ [0, 1, 2, 3, 4] (ho j)
def pn195f_end (C : List DT) (n : Nat) (c e t : Int) (kv2 : List (Value × Value)) (j : JN) : St := ⟨[(bK [(.dp (.s C n 4))] 1 34), (bK [(.v (.int .i64 c))] 1 3), (.some ⟨[], 0, 0, false, (.map kv2)⟩), (bK [(.mp 2)] 1 214), (bK [(.v (.int .i64 t))] 1 3)], [(.code .ret), (.inBlock 1), (.code (aF [1, 0, 1, 0, 0, 1, 1, 1] Tryz.f195)), (.inLoop (aF [1, 0, 1, 0, 0] Tryz.f195)), (.inBlock 0), (.code (aF [1, 1] Tryz.f195))], mkT j [(4, (iI e))] 21 0⟩
theorem pn195f (hE : EnvOk E) (C F : List DT) (n q i : Nat) (c e u p t z : Int) (s : ByteArray) (kv kv2 : List (Value × Value)) (h0 : (decide (Int.ofNat i < Int.ofNat n) : Bool) = true) (h1 : (0 : Int) ≤ Int.ofNat i ∧ Int.ofNat i < (↑n : Int)) (h2 : ((Int.ofNat i).toNat * nat_lit 4 : Nat) = i.mul (nat_lit 4)) (h3 : (takeL (dropL C (i.mul (nat_lit 4))) (4 : Nat) : Option (List DT)) = (.some [(.v (.string s)), (.v (.int .i64 u)), (.v (.int .i64 p)), (.s F q 2)])) (h4 : COut E 0 [(bK [(.dp (.s C n 4))] 1 34), (bK [(.v (.int .i64 c))] 1 3), (.some ⟨[], 0, 0, false, (.map kv)⟩), (bK [(.mp 2)] 1 214), (bK [(.v (.int .i64 z))] 1 3), (bK [(.v (.string s)), (.v (.int .i64 u)), (.v (.int .i64 p)), (.dp (.s F q 2))] 4 131)] 144 [(.e (.agg [(.v (.string s)), (.v (.int .i64 u)), (.v (.int .i64 p)), (.dp (.s F q 2))])), (.e (.one (.ptr 4 0))), (.e (.one (.ptr 3 0))), (.e (.one (.ptr 0 0))), (.e (.one (.ptr 1 0)))] (iI e) [(bK [(.dp (.s C n 4))] 1 34), (bK [(.v (.int .i64 c))] 1 3), (.some ⟨[], 0, 0, false, (.map kv2)⟩), (bK [(.mp 2)] 1 214), (bK [(.v (.int .i64 t))] 1 3), (bK [(.v (.string s)), (.v (.int .i64 u)), (.v (.int .i64 p)), (.dp (.s F q 2))] 4 131)]) (h5 : (e != (0 : Int) : Bool) = true) {Φ : Res → Prop} (ho : ∀ j, OutK E 0 5 (pn195f_end C n c e t kv2 j) Φ) (j : JN) : OutK E 0 5 (tn195 C n i c z kv j) Φ :=
 oS hE [.run 3, (.cond true), .run 4, (.ops [(1, (.d (.ldn [(.v (.string s)), (.v (.int .i64 u)), (.v (.int .i64 p)), (.s F q 2)]))), (0, (.d (.ix (i.mul (nat_lit 4)))))] []), .run 1, (.ops [(2, (.cw (iI e) [(bK [(.dp (.s C n 4))] 1 34), (bK [(.v (.int .i64 c))] 1 3), (.some ⟨[], 0, 0, false, (.map kv2)⟩), (bK [(.mp 2)] 1 214), (bK [(.v (.int .i64 t))] 1 3), (bK [(.v (.string s)), (.v (.int .i64 u)), (.v (.int .i64 p)), (.dp (.s F q 2))] 4 131)]))] []), .run 2, (.cond true), .run 2] [4] (s' := fun j => ⟨[(bK [(.dp (.s C n 4))] 1 34), (bK [(.v (.int .i64 c))] 1 3), (.some ⟨[], 0, 0, false, (.map kv2)⟩), (bK [(.mp 2)] 1 214), (bK [(.v (.int .i64 t))] 1 3), (bK [(.v (.string s)), (.v (.int .i64 u)), (.v (.int .i64 p)), (.dp (.s F q 2))] 4 131)], [(.code .ret), (.inBlock 1), (.code (aF [1, 0, 1, 0, 0, 1, 1, 1] Tryz.f195)), (.inLoop (aF [1, 0, 1, 0, 0] Tryz.f195)), (.inBlock 0), (.code (aF [1, 1] Tryz.f195))], mkT j [(4, (iI e))] 21 0⟩) (aQ h0 h1 h2 h3 <| aP h4 <| aP h5 <| aZ)
  fun j => gZ [0, 1, 2, 3, 4] (ho j)
def pn195x_end (C : List DT) (n : Nat) (c z : Int) (kv : List (Value × Value)) (j : JN) : St := ⟨[(bK [(.dp (.s C n 4))] 1 34), (bK [(.v (.int .i64 c))] 1 3), (.some ⟨[], 0, 0, false, (.map kv)⟩), (bK [(.mp 2)] 1 214), (bK [(.v (.int .i64 z))] 1 3)], [(.code .ret)], mkT j [(4, (iI 0))] 21 0⟩
theorem pn195x (hE : EnvOk E) (C : List DT) (n i : Nat) (c z : Int) (kv : List (Value × Value)) (h0 : (decide (Int.ofNat i < Int.ofNat n) : Bool) = false) {Φ : Res → Prop} (ho : ∀ j, OutK E 0 5 (pn195x_end C n c z kv j) Φ) (j : JN) : OutK E 0 5 (tn195 C n i c z kv j) Φ :=
 oS hE [.run 3, (.cond false), .run 3] [4] (aP h0 <| aZ)
  ho
def eqS (x y : ByteArray) : Bool := x.toList == y.toList
theorem loopS (s : ByteArray) : ∀ m i r, m + i = s.size → ByteArray.toList.loop s i r = r.reverse ++ s.data.toList.drop i
 | 0, i, r, h => by
  unfold ByteArray.toList.loop
  rw [if_neg (by omega), List.drop_eq_nil_of_le (by simpa using (by omega : s.size ≤ i))]; simp
 | m + 1, i, r, h => by
  unfold ByteArray.toList.loop
  have hi : i < s.data.toList.length := by simpa using (by omega : i < s.size)
  rw [if_pos (by omega), loopS s m (i + 1) _ (by omega), List.drop_eq_getElem_cons hi]
  have : s.get! i = s.data.toList[i] := by
   have hi' : i < s.data.size := by simpa using hi
   show s.data[i]! = _
   rw [getElem!_pos s.data i hi']; simp
  rw [this]; simp
theorem toListS (s : ByteArray) : s.toList = s.data.toList := by
 have := loopS s s.size 0 [] rfl
 unfold ByteArray.toList
 rw [this]; simp
theorem eqS_iff {x y : ByteArray} : eqS x y = true ↔ x = y := by
 unfold eqS
 rw [toListS, toListS, beq_iff_eq, Array.toList_inj]
 constructor
 ·intro h; cases x; cases y; simp_all
 ·rintro rfl; rfl
theorem K82m (hE : EnvOk E) (c : Int) (g : List Gs) (N : List Nd) (L : List Ld) (x : Ld) (hq : x.f.length ≤ 9223372036854775807) : COut E 0 [] 82 [aM c g N L, (.e (.agg [.v (.int .i64 x.k), .v (.string x.s), .dp (.s (gD x.f) x.f.length 2)]))] (iI (ldE c N x)) [] :=
 cOut_clear (cOut_start Tryz.func82 rfl (pn82 hE (gD g) (ndD N) (ldD L) (gD x.f) g.length N.length L.length x.f.length c x.k (ixE x.k N.length) (ldE c N x) (facE c x.f) (stE x.s) x.s (K71 hE _ _) (K98s hE _) (K78 hE _ _ hq) (lend2 _ hE 76 _ _ 31 true (K69 hE [ixE x.k N.length, stE x.s, facE c x.f] (by simp)) _ 2 rfl) (fun j => outK_ret (ends_ret (by kernel_rfl))) uD)) rfl
theorem K81m (hE : EnvOk E) (c : Int) (g : List Gs) (N : List Nd) (L : List Ld) (x : Ld) (hq : x.f.length ≤ 9223372036854775807) : COut E 1 [bK (mnC c g N L) 4 37] 81 [(.e (.agg [.v (.int .i64 x.k), .v (.string x.s), .dp (.s (gD x.f) x.f.length 2)])), (.e (.one (.ptr 0 0)))] (iI (ldE c N x)) [bK (mnC c g N L) 4 37] :=
 cOut_gcF [0] [false] (h' := [bK (mnC c g N L) 4 37]) (Nat.le_refl _) (cOut_start Tryz.func81 rfl (pn81 hE (gD g) (ndD N) (ldD L) (gD x.f) g.length N.length L.length x.f.length c x.k (ldE c N x) x.s (K82m hE c g N L x hq) (fun j => outK_ret (ends_ret (by kernel_rfl))) uD)) rfl rfl trivial rfl
theorem l147 (hE : EnvOk E) (c : Int) (g : List Gs) (N : List Nd) (L : List Ld) (hL : L.length ≤ 9223372036854775807) (hl : ∀ x ∈ L, x.f.length ≤ 9223372036854775807) : ∀ k i, k + i = L.length → ∀ j, OutK E 1 1 (tn147 (gD g) (ndD N) (ldD L) g.length N.length L.length i c j) (Go.Ev.Ends E Tryz.f147 (iI (loadsE c N (L.drop i))) [bK (mnC c g N L) 4 37])
 | 0, i, hk, j => by
  obtain rfl : i = L.length := by omega
  rw [List.drop_length]
  exact pn147x hE (gD g) (ndD N) (ldD L) g.length N.length L.length L.length c dF (fun j => outK_ret (ends_ret (by kernel_rfl))) j
 | k + 1, i, hk, j => by
  have hi : i < L.length := by omega
  have hx := List.getElem?_eq_getElem hi
  have hq := hl L[i] (List.getElem_mem hi)
  rw [List.drop_eq_getElem_cons hi]
  have ih := l147 hE c g N L hL hl k (i + 1) (by omega)
  generalize L[i] = x at hx hq
  have k81 := K81m hE c g N L x hq
  by_cases h : ldE c N x = 0
  ·rw [show loadsE c N (x :: L.drop (i + 1)) = loadsE c N (L.drop (i + 1)) from if_pos h]
   rw [h] at k81
   exact pn147s hE (gD g) (ndD N) (ldD L) (gD x.f) g.length N.length L.length x.f.length i c x.k 0 x.s dT bP rfl (ld_get hx) k81 oB oB wQ ih j
  ·rw [show loadsE c N (x :: L.drop (i + 1)) = ldE c N x from if_neg h]
   exact pn147f hE (gD g) (ndD N) (ldD L) (gD x.f) g.length N.length L.length x.f.length i c x.k (ldE c N x) x.s dT bP rfl (ld_get hx) k81 oB (bne_iff_ne.2 h) (fun j => outK_ret (ends_ret (by kernel_rfl))) j
theorem K147 (hE : EnvOk E) (c : Int) (g : List Gs) (N : List Nd) (L : List Ld) (hL : L.length ≤ 9223372036854775807) (hl : ∀ x ∈ L, x.f.length ≤ 9223372036854775807) : COut E 1 [bK (mnC c g N L) 4 37] 147 [(.e (.one (.dp (.s (ldD L) L.length 3)))), (.e (.one (.clo 81 [] [.one (.ptr 0 0)])))] (iI (loadsE c N L)) [bK (mnC c g N L) 4 37] :=
 cOut_start Tryz.func147 rfl (pn147a hE (gD g) (ndD N) (ldD L) g.length N.length L.length c  (l147 hE c g N L hL hl L.length 0 rfl) uD)
theorem K80m (hE : EnvOk E) (c : Int) (g : List Gs) (N : List Nd) (L : List Ld) (hL : L.length ≤ 9223372036854775807) (hl : ∀ x ∈ L, x.f.length ≤ 9223372036854775807) : COut E 1 [bK (mnC c g N L) 4 37] 80 [(.e (.one (.dp (.s (ldD L) L.length 3)))), iI 16, (.e (.one (.clo 81 [] [.one (.ptr 0 0)])))] (iI (mostL c N L)) [bK (mnC c g N L) 4 37] := by
 unfold mostL
 by_cases h : 16 < L.length
 ·rw [if_pos h]
  exact cOut_start Tryz.func80 rfl (pn80z hE (gD g) (ndD N) (ldD L) g.length N.length L.length c dT (fun j => outK_ret (ends_ret (by kernel_rfl))) uD)
 ·rw [if_neg h]
  exact cOut_start Tryz.func80 rfl (pn80 hE (gD g) (ndD N) (ldD L) g.length N.length L.length c (loadsE c N L) dF (K147 hE c g N L hL hl) oB (fun j => outK_ret (ends_ret (by kernel_rfl))) uD)
theorem tk_rows (N : List Nd) (i : Nat) (hi : i ≤ N.length) : takeL (dropL (ndD N) 0) ((i - 0) * 4) = some (ndD (N.take i)) := by
 have e : (ndD N).length = N.length * 4 := rows_len Nd.len N
 rw [takeL_eq, dropL_eq, List.drop_zero, if_pos (by rw [e]; omega), Nat.sub_zero]
 congr 1
 induction N generalizing i with
 | nil => simp [ndD]
 | cons a l ih =>
  cases i with
  | zero => simp [ndD]
  | succ i =>
   have := ih i (by simpa using hi) (rows_len Nd.len l)
   rw [show (i + 1) * 4 = i * 4 + 1 + 1 + 1 + 1 by omega]
   show List.take (i * 4 + 1 + 1 + 1 + 1) (_ :: _ :: _ :: _ :: ndD l) = _ :: _ :: _ :: _ :: ndD (l.take i)
   rw [List.take_succ_cons, List.take_succ_cons, List.take_succ_cons, List.take_succ_cons, this]
theorem bne_c (a b : Int) : (a != b) = (b != a) := by
 show (!(a == b)) = !(b == a)
 rw [BEq.comm]
theorem K146m (hE : EnvOk E) (c : Int) (N : List Nd) (i : Nat) (x : Nd) (hi : i ≤ N.length) (hq : x.f.length ≤ 9223372036854775807) : COut E 0 [] 146 [(.e (.one (.dp (.s (ndD (N.take i)) i 4)))), (.e (.agg [.v (.string x.s), .v (.int .i64 x.u), .v (.int .i64 x.p), .dp (.s (gD x.f) x.f.length 2)])), iI c] (iI (plE c N i x)) [] := by
 unfold plE
 by_cases hz : i = 0
 ·subst hz
  rw [if_pos rfl]
  by_cases h1 : x.u = 0
  ·have e1 : (x.u != 0) = false := bne_eq_false_iff_eq.2 h1
   by_cases h2 : x.p = 0
   ·have e2 : (x.p != 0) = false := bne_eq_false_iff_eq.2 h2
    rw [e1, e2, Bool.false_or, Bool.false_or]
    have k := K85 hE (decide (0 < x.f.length)) 21
    rw [show decide (0 < x.f.length) = decide ((x.f.length : Int) > 0) by simp] at k ⊢
    exact cOut_clear (cOut_start Tryz.func146 rfl (pn146z3 hE (gD x.f) (ndD (N.take 0)) x.f.length 0 c (fI (decide ((x.f.length : Int) > 0)) 21) x.u x.p x.s rfl (by rw [e1]; rfl) e1 (by rw [e2]; rfl) e2 k (fun j => outK_ret (ends_ret (by kernel_rfl))) uD)) rfl
   ·have e2 : (x.p != 0) = true := bne_iff_ne.2 h2
    rw [e1, e2]
    exact cOut_clear (cOut_start Tryz.func146 rfl (pn146z2 hE (gD x.f) (ndD (N.take 0)) x.f.length 0 c (fI true 21) x.u x.p x.s rfl (by rw [e1]; rfl) e1 (by rw [e2]; rfl) e2 (K85 hE true 21) (fun j => outK_ret (ends_ret (by kernel_rfl))) uD)) rfl
  ·have e1 : (x.u != 0) = true := bne_iff_ne.2 h1
   rw [e1]
   exact cOut_clear (cOut_start Tryz.func146 rfl (pn146z1 hE (gD x.f) (ndD (N.take 0)) x.f.length 0 c (fI true 21) x.u x.p x.s rfl (by rw [e1]; rfl) e1 (K85 hE true 21) (fun j => outK_ret (ends_ret (by kernel_rfl))) uD)) rfl
 ·rw [if_neg hz]
  have i0 : ((i : Int) == (0 : Int)) = false := beq_eq_false_iff_ne.2 (by omega)
  have k83 := K71 hE x.u (Int.ofNat i)
  by_cases h1 : x.u < 0 ∨ (i : Int) ≤ x.u
  ·rw [if_pos h1]
   rw [show ixE x.u (Int.ofNat i) = 10 from if_pos h1] at k83
   exact cOut_clear (cOut_start Tryz.func146 rfl (pn146i hE (gD x.f) (ndD (N.take i)) x.f.length i c 10 x.u x.p x.s i0 k83 oB (fun j => outK_ret (ends_ret (by kernel_rfl))) uD)) rfl
  ·rw [if_neg h1]
   rw [show ixE x.u (Int.ofNat i) = 0 from if_neg h1] at k83
   have k78 := K78 hE c x.f hq
   by_cases h3 : x.u > 0
   ·have hy := List.getElem?_eq_getElem (show x.u.toNat < N.length by omega)
    generalize N[x.u.toNat] = y at hy
    rw [decide_eq_true h3, Bool.true_and, ph_at hy, bne_c]
    have hy : (N.take i)[x.u.toNat]? = some y := by rw [List.getElem?_take, if_pos (by omega)]; exact hy
    have eu : (x.u != 0) = true := bne_iff_ne.2 (by omega)
    exact cOut_clear (cOut_start Tryz.func146 rfl (pn146y hE (gD x.f) (ndD (N.take i)) x.f.length i x.u.toNat c (rg x.p 1 3) (fI (x.p != y.p) 24) (firstI [rg x.p 1 3, fI (x.p != y.p) 24, facE c x.f]) (facE c x.f) x.u x.p y.p x.s i0 k83 (K72 hE _ _ _) (by rw [eu]; rfl) ⟨by omega, by omega⟩ rfl (nd_p hy) eu (K85 hE _ _) k78 (lend2 _ hE 76 _ _ 31 true (K69 hE [rg x.p 1 3, fI (x.p != y.p) 24, facE c x.f] (by simp)) _ 1 rfl) (fun j => outK_ret (ends_ret (by kernel_rfl))) uD)) rfl
   ·rw [decide_eq_false h3, Bool.false_and]
    have eu : (x.u != 0) = false := bne_eq_false_iff_eq.2 (by omega)
    exact cOut_clear (cOut_start Tryz.func146 rfl (pn146x hE (gD x.f) (ndD (N.take i)) x.f.length i c (rg x.p 1 3) (fI false 24) (firstI [rg x.p 1 3, fI false 24, facE c x.f]) (facE c x.f) x.u x.p x.s i0 k83 (K72 hE _ _ _) (by rw [eu]; rfl) eu (K85 hE _ _) k78 (lend2 _ hE 76 _ _ 31 true (K69 hE [rg x.p 1 3, fI false 24, facE c x.f] (by simp)) _ 1 rfl) (fun j => outK_ret (ends_ret (by kernel_rfl))) uD)) rfl
def Same (ks : List ByteArray) (L : List Nd) : Prop := ∀ y, y ∈ ks ↔ y ∈ L.map Nd.s
theorem Same.add {ks : List ByteArray} {N : List Nd} {i : Nat} {x : Nd} (h : Same ks (N.take i)) (hx : N[i]? = some x) : Same (addS ks x.s) (N.take (i + 1)) := fun y => by
 obtain ⟨hi, e⟩ := List.getElem?_eq_some_iff.1 hx
 rw [mem_addS, h y, ← List.take_append_getElem hi, e, List.map_append, List.mem_append, List.map_singleton, List.mem_singleton]
theorem tw_iff {L : List Nd} {s : ByteArray} : twiceB L s = true ↔ s ∈ L.map Nd.s := by
 unfold twiceB
 rw [List.any_eq_true, List.mem_map]
 constructor
 ·rintro ⟨y, hy, e⟩; exact ⟨y, hy, eqS_iff.1 e⟩
 ·rintro ⟨y, hy, e⟩; exact ⟨y, hy, eqS_iff.2 e⟩
theorem Same.has {ks : List ByteArray} {L : List Nd} (h : Same ks L) (s : ByteArray) : decide (s ∈ ks) = twiceB L s := by
 cases hw : twiceB L s with
 | true => exact decide_eq_true ((h s).2 (tw_iff.1 hw))
 | false => exact decide_eq_false fun hm => by rw [tw_iff.2 ((h s).1 hm)] at hw; exact absurd hw (by decide)
theorem K144m (hE : EnvOk E) (c : Int) (N : List Nd) (i : Nat) (x : Nd) (ks : List ByteArray) (hs : Same ks (N.take i)) (hi : i < N.length) (hi9 : i ≤ 9223372036854775806) (hq : x.f.length ≤ 9223372036854775807) : COut E 0 [bK [.dp (.s (ndD N) N.length 4)] 1 34, bK [.v (.int .i64 c)] 1 3, some ⟨[], 0, 0, false, .map (kvS ks)⟩, bK [.mp 2] 1 214, bK [.v (.int .i64 ((i : Int) - 1))] 1 3, bK [.v (.string x.s), .v (.int .i64 x.u), .v (.int .i64 x.p), .dp (.s (gD x.f) x.f.length 2)] 4 131] 144 [(.e (.agg [.v (.string x.s), .v (.int .i64 x.u), .v (.int .i64 x.p), .dp (.s (gD x.f) x.f.length 2)])), .e (.one (.ptr 4 0)), .e (.one (.ptr 3 0)), .e (.one (.ptr 0 0)), .e (.one (.ptr 1 0))] (iI (ndE c N i x)) [bK [.dp (.s (ndD N) N.length 4)] 1 34, bK [.v (.int .i64 c)] 1 3, some ⟨[], 0, 0, false, .map (kvS (addS ks x.s))⟩, bK [.mp 2] 1 214, bK [.v (.int .i64 (Int.ofNat i))] 1 3, bK [.v (.string x.s), .v (.int .i64 x.u), .v (.int .i64 x.p), .dp (.s (gD x.f) x.f.length 2)] 4 131] := by
 have k146 := K146m hE c N i x (by omega) hq
 exact cOut_start Tryz.func144 rfl (pn144 hE (ndD N) (gD x.f) (ndD (N.take i)) N.length x.f.length i c (nmE x.s) (fI (twiceB (N.take i) x.s) 9) (ndE c N i x) (plE c N i x) x.u x.p (Int.ofNat i) ((i : Int) - 1) x.s (twiceB (N.take i) x.s) (kvS ks) (kvS (addS ks x.s)) (iIe (by simp only [Int.ofNat_eq_natCast]; rw [wrap_id (by omega) (by omega)]; omega)) (by rw [← hs.has x.s]; exact see_kvS ks x.s) (put_kvS ks x.s) (K145 hE _) (K85 hE _ _) oB ⟨Nat.zero_le _, by omega⟩ (tk_rows N i (by omega)) k146 (lend2 _ hE 76 _ _ 31 true (K69 hE [nmE x.s, fI (twiceB (N.take i) x.s) 9, plE c N i x] (by simp)) _ 7 rfl) (fun j => outK_ret (ends_ret (by kernel_rfl))) uD)
theorem l195 (hE : EnvOk E) (c : Int) (N : List Nd) (hN : N.length ≤ 9223372036854775806) (hf : ∀ x ∈ N, x.f.length ≤ 9223372036854775807) : ∀ k i, k + i = N.length → ∀ ks, Same ks (N.take i) → ∃ ks' z', ∀ j, OutK E 0 5 (tn195 (ndD N) N.length i c ((i : Int) - 1) (kvS ks) j) (Go.Ev.Ends E Tryz.f195 (iI (nodesE c N i (N.drop i))) [bK [.dp (.s (ndD N) N.length 4)] 1 34, bK [.v (.int .i64 c)] 1 3, some ⟨[], 0, 0, false, .map (kvS ks')⟩, bK [.mp 2] 1 214, bK [.v (.int .i64 (z'))] 1 3])
 | 0, i, hk, ks, hs => by
  obtain rfl : i = N.length := by omega
  rw [List.drop_length]
  exact ⟨ks, _, fun j => pn195x hE (ndD N) N.length N.length c ((N.length : Int) - 1) (kvS ks) dF (fun j => outK_ret (ends_ret (by kernel_rfl))) j⟩
 | k + 1, i, hk, ks, hs => by
  have hi : i < N.length := by omega
  have hx := List.getElem?_eq_getElem hi
  have hq := hf N[i] (List.getElem_mem hi)
  rw [List.drop_eq_getElem_cons hi]
  generalize N[i] = x at hx hq
  have k144 := K144m hE c N i x ks hs hi (by omega) hq
  obtain ⟨ks', z', ih⟩ := l195 hE c N hN hf k (i + 1) (by omega) _ (hs.add hx)
  by_cases h : ndE c N i x = 0
  ·rw [show nodesE c N i (x :: N.drop (i + 1)) = nodesE c N (i + 1) (N.drop (i + 1)) from if_pos h]
   rw [h] at k144
   have ez : (((i + 1 : Nat) : Int)) - 1 = Int.ofNat i := by simp only [Int.ofNat_eq_natCast]; omega
   rw [ez] at ih
   exact ⟨ks', z', fun j => pn195s hE (ndD N) (gD x.f) N.length x.f.length i c 0 x.u x.p (Int.ofNat i) ((i : Int) - 1) x.s (kvS ks) (kvS (addS ks x.s)) dT bP rfl (nd_get hx) k144 oB wQ ih j⟩
  ·rw [show nodesE c N i (x :: N.drop (i + 1)) = ndE c N i x from if_neg h]
   exact ⟨_, _, fun j => pn195f hE (ndD N) (gD x.f) N.length x.f.length i c (ndE c N i x) x.u x.p (Int.ofNat i) ((i : Int) - 1) x.s (kvS ks) (kvS (addS ks x.s)) dT bP rfl (nd_get hx) k144 (bne_iff_ne.2 h) (fun j => outK_ret (ends_ret (by kernel_rfl))) j⟩
theorem K79m (hE : EnvOk E) (c : Int) (N : List Nd) (hN : N.length ≤ 9223372036854775806) (hf : ∀ x ∈ N, x.f.length ≤ 9223372036854775807) : COut E 0 [] 79 [(.e (.one (.dp (.s (ndD N) N.length 4)))), iI c] (iI (someN c N)) [] := by
 obtain ⟨ks, z, h⟩ := l195 hE c N hN hf N.length 0 rfl [] (fun y => by simp)
 rw [show (((0 : Nat) : Int)) - 1 = -1 from rfl] at h
 have h195 : COut E 0 [bK [.dp (.s (ndD N) N.length 4)] 1 34, bK [.v (.int .i64 c)] 1 3, some ⟨[], 0, 0, false, .map []⟩, bK [.mp 2] 1 214, bK [.v (.int .i64 (-1))] 1 3] 195 [(.e (.one (.dp (.s (ndD N) N.length 4)))), (.e (.one (.clo 144 [] [.one (.ptr 4 0), .one (.ptr 3 0), .one (.ptr 0 0), .one (.ptr 1 0)])))] (iI (nodesE c N 0 N)) [bK [.dp (.s (ndD N) N.length 4)] 1 34, bK [.v (.int .i64 c)] 1 3, some ⟨[], 0, 0, false, .map (kvS ks)⟩, bK [.mp 2] 1 214, bK [.v (.int .i64 z)] 1 3] := cOut_start Tryz.func195 rfl (pn195a hE (ndD N) N.length c (-1) ([])  h uD)
 have h180 : ∃ ks z, COut E 0 [bK [.dp (.s (ndD N) N.length 4)] 1 34, bK [.v (.int .i64 c)] 1 3, some ⟨[], 0, 0, false, .map []⟩, bK [.mp 2] 1 214, bK [.v (.int .i64 (-1))] 1 3] 180 [(.e (.one (.dp (.s (ndD N) N.length 4)))), iI 16, (.e (.one (.clo 144 [] [.one (.ptr 4 0), .one (.ptr 3 0), .one (.ptr 0 0), .one (.ptr 1 0)])))] (iI (if 16 < N.length then 5 else nodesE c N 0 N)) [bK [.dp (.s (ndD N) N.length 4)] 1 34, bK [.v (.int .i64 c)] 1 3, some ⟨[], 0, 0, false, .map (kvS ks)⟩, bK [.mp 2] 1 214, bK [.v (.int .i64 z)] 1 3] := by
  by_cases h8 : 16 < N.length
  ·rw [if_pos h8]
   exact ⟨[], -1, cOut_start Tryz.func180 rfl (pn180z hE (ndD N) N.length c (-1) ([]) dT (fun j => outK_ret (ends_ret (by kernel_rfl))) uD)⟩
  ·rw [if_neg h8]
   exact ⟨ks, z, cOut_start Tryz.func180 rfl (pn180 hE (ndD N) N.length c (nodesE c N 0 N) z (-1) ([]) (kvS ks) dF h195 (fun j => outK_ret (ends_ret (by kernel_rfl))) uD)⟩
 obtain ⟨ks1, z1, h180⟩ := h180
 have h143 : ∃ ks z, COut E 0 [bK [.dp (.s (ndD N) N.length 4)] 1 34, bK [.v (.int .i64 c)] 1 3, some ⟨[], 0, 0, false, .map []⟩, bK [.mp 2] 1 214, bK [.v (.int .i64 (-1))] 1 3] 143 [(.e (.one (.dp (.s (ndD N) N.length 4)))), iI 16, (.e (.one (.clo 144 [] [.one (.ptr 4 0), .one (.ptr 3 0), .one (.ptr 0 0), .one (.ptr 1 0)])))] (iI (someN c N)) [bK [.dp (.s (ndD N) N.length 4)] 1 34, bK [.v (.int .i64 c)] 1 3, some ⟨[], 0, 0, false, .map (kvS ks)⟩, bK [.mp 2] 1 214, bK [.v (.int .i64 z)] 1 3] := by
  unfold someN
  by_cases h8 : N.length = 0
  ·rw [if_pos h8]
   exact ⟨[], -1, cOut_start Tryz.func143 rfl (pn143z hE (ndD N) N.length c (-1) ([]) (beq_iff_eq.2 (by omega)) (fun j => outK_ret (ends_ret (by kernel_rfl))) uD)⟩
  ·rw [if_neg h8]
   exact ⟨ks1, z1, cOut_start Tryz.func143 rfl (pn143 hE (ndD N) N.length c ((if 16 < N.length then 5 else nodesE c N 0 N)) z1 (-1) ([]) (kvS ks1) (beq_eq_false_iff_ne.2 (by omega)) h180 (fun j => outK_ret (ends_ret (by kernel_rfl))) uD)⟩
 obtain ⟨ks2, z2, h143⟩ := h143
 exact cOut_clear (cOut_start Tryz.func79 rfl (pn79 hE (ndD N) N.length c (someN c N) z2 (kvS ks2) h143 (fun j => outK_ret (ends_ret (by kernel_rfl))) uD)) rfl
theorem K18m (hE : EnvOk E) (c : Int) (g : List Gs) (N : List Nd) (L : List Ld) (hg : g.length ≤ 9223372036854775807) (hf : ∀ x ∈ N, x.f.length ≤ 9223372036854775807) (hN : N.length ≤ 9223372036854775806) (hL : L.length ≤ 9223372036854775807) (hl : ∀ x ∈ L, x.f.length ≤ 9223372036854775807) : COut E 0 [] 18 [aM c g N L] (iI (manE c g N L)) [] :=
 cOut_clear (cOut_start Tryz.func18 rfl (pn18 hE (gD g) (ndD N) (ldD L) g.length N.length L.length c (rg c 1 8) (facE c g) (manE c g N L) (someN c N) (mostL c N L) (K72 hE _ _ _) (K78 hE _ _ hg) (K79m hE c N hN hf) (K80m hE c g N L hL hl) (lend2 _ hE 76 _ _ 31 true (K69 hE [rg c 1 8, facE c g, someN c N, mostL c N L] (by simp)) _ 1 rfl) (fun j => outK_ret (ends_ret (by kernel_rfl))) uD)) rfl
end
end Go.Proofs.YtigdchbjmnbjlaaGreatDoor
end
section
open Go Go.Ev
namespace Go.Proofs.YtigdchbjmnbjlaaGreatDoor
noncomputable section
def so75 (G C L : List DT) (g n l : Nat) (c x : Int) (_j : JN) : St := startK Tryz.f75 [] [.e (.agg (mQ c G g C n L l)), iI x]
def so17 (G C L : List DT) (g n l : Nat) (c x y : Int) (_j : JN) : St := startK Tryz.f17 [] [.e (.agg (mQ c G g C n L l)), iI x, iI y]
def so69 (G C L : List DT) (g n l : Nat) (c x y : Int) (_j : JN) : St := startK Tryz.f69 [] [.e (.agg (mQ c G g C n L l)), iI x, iI y]
def to75 (G C L : List DT) (g n l i k : Nat) (c : Int) (D : List AC) (j : JN) : St := ⟨[bK (mQ c G g C n L l) 4 26, some ⟨D, k, 3, false, .cells⟩], [(.code (aF [1, 1, 0, 0, 0] Tryz.f75)), (.inLoop (aF [1, 1, 0, 0, 0] Tryz.f75)), (.inBlock 0), (.code (aF [1, 1, 1] Tryz.f75))], mkT j [(1, (iN i)), (2, (.e (.one (.ptr 0 0)))), (5, (.e (.one (.slc 1 0 k 1 k false))))] 21 0⟩
def to17n (A B : List DT) (i m t : Nat) (j : JN) : St := ⟨[], [(.code (aF [1, 1, 1, 1, 0, 0, 0] Tryz.f17)), (.inLoop (aF [1, 1, 1, 1, 0, 0, 0] Tryz.f17)), (.inBlock 0), (.code (aF [1, 1, 1, 1, 1] Tryz.f17))], mkT j [(7, (dQ A m)), (8, (dQ B t)), (9, (.e (.one (.v (.slice none 0 0))))), (10, (iN i))] 66 0⟩
def to17o (A B : List DT) (i k m t : Nat) (D : List AC) (j : JN) : St := ⟨[some ⟨D, k, 3, false, .cells⟩], [(.code (aF [1, 1, 1, 1, 0, 0, 0] Tryz.f17)), (.inLoop (aF [1, 1, 1, 1, 0, 0, 0] Tryz.f17)), (.inBlock 0), (.code (aF [1, 1, 1, 1, 1] Tryz.f17))], mkT j [(7, (dQ A m)), (8, (dQ B t)), (9, (.e (.one (.slc 0 0 k 1 k false)))), (10, (iN i))] 66 0⟩
def to75z (G C L : List DT) (g n l : Nat) (c x : Int) (j : JN) : St := ⟨[(bK (mQ c G g C n L l) 4 26), (bK [(.v (.int .i64 x))] 1 3)], [(.code (aF [1, 1, 0, 0, 0] Tryz.f75)), (.inLoop (aF [1, 1, 0, 0, 0] Tryz.f75)), (.inBlock 0), (.code (aF [1, 1, 1] Tryz.f75))], mkT j [(1, (iI x)), (2, (.e (.one (.ptr 0 0)))), (5, (.e (.one (.slc 1 0 1 1 1 true))))] 21 0⟩
def uo17 (A B : List DT) (i k m t p : Nat) (D : List AC) (j : JN) : St := ⟨[some ⟨D, k, 3, false, .cells⟩], [(.code (aF [1, 1, 1, 1, 1, 1, 1, 0, 0, 0] Tryz.f17)), (.inLoop (aF [1, 1, 1, 1, 1, 1, 1, 0, 0, 0] Tryz.f17)), (.inBlock 2), (.code (aF [1, 1, 1, 1, 1, 1, 1, 1] Tryz.f17))], mkT j [(7, (dQ A m)), (8, (dQ B t)), (9, (.e (.one (.slc 0 0 k 1 k false)))), (10, (iN i)), (11, (iN p))] 66 0⟩
def vo17 (B : List DT) (k t : Nat) (z : Int) (D : List AC) (j : JN) : St := ⟨[(.some ⟨(D), k, 3, false, .cells⟩)], [(.code (aF [1, 1, 1, 1, 1, 1, 1, 1, 0, 1, 0, 0] Tryz.f17)), (.inLoop (aF [1, 1, 1, 1, 1, 1, 1, 1, 0, 1, 0, 0] Tryz.f17)), (.inBlock 4), (.code (aF [1, 1, 1, 1, 1, 1, 1, 1, 1] Tryz.f17))], mkT j [(8, (dQ B t)), (9, (.e (.one (.slc 0 0 k 1 k false)))), (11, (iI z))] 66 0⟩
def po75a_end (G C L : List DT) (g n l : Nat) (c x : Int) (j : JN) : St := ⟨[(bK (mQ c G g C n L l) 4 26), (bK [(.v (.int .i64 x))] 1 3)], [(.code (aF [1, 1, 0, 0, 0] Tryz.f75)), (.inLoop (aF [1, 1, 0, 0, 0] Tryz.f75)), (.inBlock 0), (.code (aF [1, 1, 1] Tryz.f75))], mkT j [(1, (iI x)), (2, (.e (.one (.ptr 0 0)))), (5, (.e (.one (.slc 1 0 1 1 1 true))))] 21 0⟩
theorem po75a (hE : EnvOk E) (G C L : List DT) (g n l : Nat) (c x : Int) {Φ : Res → Prop} (ho : ∀ j, OutK E 0 0 (po75a_end G C L g n l c x j) Φ) (j : JN) : OutK E 0 0 (so75 G C L g n l c x j) Φ :=
 oS hE [.run 7] [1, 2, 5] (ps := []) trivial
  ho
def po17a_end (A B : List DT) (m t : Nat) (j : JN) : St := ⟨[], [(.code (aF [1, 1, 1, 1, 0, 0, 0] Tryz.f17)), (.inLoop (aF [1, 1, 1, 1, 0, 0, 0] Tryz.f17)), (.inBlock 0), (.code (aF [1, 1, 1, 1, 1] Tryz.f17))], mkT j [(7, (dQ A m)), (8, (dQ B t)), (9, (.e (.one (.v (.slice none 0 0))))), (10, (iI 0))] 66 0⟩
theorem po17a (hE : EnvOk E) (G C L A B : List DT) (g n l m t : Nat) (c x y : Int) (h0 : COut E 0 [] 75 [(.e (.agg (mQ c G g C n L l))), (iI x)] (dQ A m) []) (h3 : COut E 0 [] 75 [(.e (.agg (mQ c G g C n L l))), (iI y)] (dQ B t) []) {Φ : Res → Prop} (ho : ∀ j, OutK E 0 0 (po17a_end A B m t j) Φ) (j : JN) : OutK E 0 0 (so17 G C L g n l c x y j) Φ :=
 oS hE [.run 3, (.ops [(2, (.c0 (dQ A m))), (5, (.c0 (dQ B t)))] []), .run 7] [7, 8, 9, 10] (s' := fun j => ⟨[(bK (mQ c G g C n L l) 4 26)], [(.code (aF [1, 1, 1, 1, 0, 0, 0] Tryz.f17)), (.inLoop (aF [1, 1, 1, 1, 0, 0, 0] Tryz.f17)), (.inBlock 0), (.code (aF [1, 1, 1, 1, 1] Tryz.f17))], mkT j [(7, (dQ A m)), (8, (dQ B t)), (9, (.e (.one (.v (.slice none 0 0))))), (10, (iI 0))] 66 0⟩) (aP h0 <| aN <| aV <| aP h3 <| aN <| aZ)
  fun j => gZ [] (ho j)
def po69_end (e : Int) (j : JN) : St := ⟨[], [(.code .ret)], mkT j [(6, (iI e))] 21 0⟩
theorem po69 (hE : EnvOk E) (G C L : List DT) (g n l : Nat) (c x a b e u y : Int) (h0 : COut E 0 [] 18 [(.e (.agg (mQ c G g C n L l)))] (iI a) []) (h2 : COut E 0 [] 83 [(iI x), (iN n)] (iI b) []) (h5 : COut E 0 [] 83 [(iI y), (iN n)] (iI u) []) (h7 : COut E 2 [(bK (mQ c G g C n L l) 4 37), (bK [(.v (.int .i64 a)), (.v (.int .i64 b)), (.v (.int .i64 u))] 3 31)] 76 [(.e (.one (.slc 1 0 3 1 3 true)))] (iI e) [(bK (mQ c G g C n L l) 4 37), (bK [(.v (.int .i64 a)), (.v (.int .i64 b)), (.v (.int .i64 u))] 3 31)]) {Φ : Res → Prop} (ho : ∀ j, OutK E 0 0 (po69_end e j) Φ) (j : JN) : OutK E 0 0 (so69 G C L g n l c x y j) Φ :=
 oS hE [.run 3, (.ops [(1, (.c0 (iI a))), (6, (.c0 (iI b))), (11, (.c0 (iI u))), (13, (.d (.c1 (iI e)))), (5, (.d .len)), (10, (.d .len))] [])] [6] (s' := fun j => ⟨[(bK (mQ c G g C n L l) 4 37), (bK [(.v (.int .i64 a)), (.v (.int .i64 b)), (.v (.int .i64 u))] 3 31)], [(.code .ret)], mkT j [(6, (iI e))] 21 0⟩) (aP h0 <| aN <| aP h2 <| aN <| aV <| aP h5 <| aN <| aP h7 <| aN <| aZ)
  fun j => gZ [] (ho j)
def po75s_end (G C L : List DT) (g n l k : Nat) (c u : Int) (V : List AC) (j : JN) : St := ⟨[(bK (mQ c G g C n L l) 4 26), (.some ⟨(V), (k + 1), 3, false, .cells⟩)], [(.code (aF [1, 1, 0, 0, 0] Tryz.f75)), (.inLoop (aF [1, 1, 0, 0, 0] Tryz.f75)), (.inBlock 0), (.code (aF [1, 1, 1] Tryz.f75))], mkT j [(1, (iI u)), (2, (.e (.one (.ptr 0 0)))), (5, (.e (.one (.slc 1 0 (k + 1) 1 (k + 1) false))))] 21 0⟩
theorem po75s (hE : EnvOk E) (G C L : List DT) (g n l i k : Nat) (c _x u : Int) (D V : List AC) (h0 : (decide (Int.ofNat i > (0 : Int)) : Bool) = true) (h1 : (0 : Int) ≤ Int.ofNat i ∧ Int.ofNat i < (↑n : Int)) (h2 : ((Int.ofNat i).toNat * nat_lit 4 : Nat) = i.mul (nat_lit 4)) (h3 : (getL C (i.mul (nat_lit 4) + 1) : Option DT) = (.some (.v (.int .i64 u)))) (h4 : ¬k + 1 ≤ k) (h5 : (small (k + 1) (1 : Nat) (8 : Nat) : Bool) = true) (h6 : (k : Nat) = k * nat_lit 1) (h7 : (appL D ((fun x => AC.v (Value.int IntKind.i64 u) :: x) []) : List AC) = V) (h9 : ((k + 1) * nat_lit 1 : Nat) = k + 1) (g0 : FlatC V) {Φ : Res → Prop} (ho : ∀ j, OutK E 0 0 (po75s_end G C L g n l k c u V j) Φ) (j : JN) : OutK E 0 0 (to75 G C L g n l i k c D j) Φ :=
 oS hE [.run 3, (.cond true), .run 3, (.ops [(5, (.d (.ld (.v (.int .i64 u))))), (3, (.d (.ix (i.mul (nat_lit 4))))), (4, (.d .fa))] []), (.ops [(3, (.app (k + 1) (k + 1) V))] []), .run 2] [1, 2, 5] (s' := fun j => ⟨[(bK (mQ c G g C n L l) 4 26), none, (bK [(.v (.int .i64 u))] 1 3), (.some ⟨(V), (k + 1), 3, false, .cells⟩)], [(.code (aF [1, 1, 0, 0, 0] Tryz.f75)), (.inLoop (aF [1, 1, 0, 0, 0] Tryz.f75)), (.inBlock 0), (.code (aF [1, 1, 1] Tryz.f75))], mkT j [(1, (iI u)), (2, (.e (.one (.ptr 0 0)))), (5, (.e (.one (.slc 3 0 (k + 1) 1 (k + 1) false))))] 21 0⟩) (aQ h0 h1 h2 h3 <| aQ h4 h5 h6 h7 <| aP (rfl : (k + 1 : Nat) = k + 1) <| aP h9 <| aZ)
  fun j => outK_gcF [0, 3] [false, true] (h' := [(bK (mQ c G g C n L l) 4 26), (.some ⟨(V), (k + 1), 3, false, .cells⟩)]) (by decide) (by kernel_rfl) (by kernel_rfl) ⟨g0, trivial⟩ (by kernel_rfl) (ho j)
def po75x_end (k : Nat) (D : List AC) (j : JN) : St := ⟨[(.some ⟨(D), k, 3, false, .cells⟩)], [(.code .ret)], mkT j [(4, (.e (.one (.slc 0 0 k 1 k false))))] 21 0⟩
theorem po75x (hE : EnvOk E) (G C L : List DT) (g n l i k : Nat) (c : Int) (D : List AC) (h0 : (decide (Int.ofNat i > (0 : Int)) : Bool) = false) (g0 : FlatC D) {Φ : Res → Prop} (ho : ∀ j, OutK E 0 0 (po75x_end k D j) Φ) (j : JN) : OutK E 0 0 (to75 G C L g n l i k c D j) Φ :=
 oS hE [.run 3, (.cond false), .run 3] [4] (s' := fun j => ⟨[(bK (mQ c G g C n L l) 4 26), (.some ⟨(D), k, 3, false, .cells⟩)], [(.code .ret)], mkT j [(4, (.e (.one (.slc 1 0 k 1 k false))))] 21 0⟩) (aP h0 <| aZ)
  fun j => outK_gcF [1] [true] (h' := [(.some ⟨(D), k, 3, false, .cells⟩)]) (by decide) (by kernel_rfl) (by kernel_rfl) ⟨g0, trivial⟩ (by kernel_rfl) (ho j)
def po17n_end (A B : List DT) (i m t : Nat) (u : Int) (j : JN) : St := ⟨[(.some ⟨[(.v (.int .i64 u))], 1, 3, false, .cells⟩)], [(.code (aF [1, 1, 1, 1, 0, 0, 0] Tryz.f17)), (.inLoop (aF [1, 1, 1, 1, 0, 0, 0] Tryz.f17)), (.inBlock 0), (.code (aF [1, 1, 1, 1, 1] Tryz.f17))], mkT j [(7, (dQ A m)), (8, (dQ B t)), (9, (.e (.one (.slc 0 0 1 1 1 false)))), (10, (iN (i + 1)))] 66 0⟩
theorem po17n (hE : EnvOk E) (A B : List DT) (i m t : Nat) (u : Int) (h0 : (0 : Int) ≤ Int.ofNat i ∧ Int.ofNat i < (↑m : Int)) (h1 : ((Int.ofNat i).toNat * nat_lit 1 : Nat) = i) (h2 : (getL A i : Option DT) = (.some (.v (.int .i64 u)))) (h3 : COut E 0 [] 48 [(dQ B t), (iI u)] (iB false) []) (h8 : ((iI (wrapF IntKind.i64 (Int.ofNat i + (1 : Int)))) : AV) = (iN (i + 1))) {Φ : Res → Prop} (ho : ∀ j, OutK E 0 0 (po17n_end A B i m t u j) Φ) (j : JN) : OutK E 0 0 (to17n A B i m t j) Φ :=
 oS hE [.run 2, (.ops [(4, (.d (.ld (.v (.int .i64 u))))), (5, (.c0 (iB false))), (3, (.d (.ix i)))] []), .run 4, (.ops [(4, (.d (.ld (.v (.int .i64 u))))), (3, (.d (.ix i)))] []), (.ops [(1, (.rn (iN (i + 1))))] []), .run 2] [7, 8, 9, 10] (s' := fun j => ⟨[(bK [(.v (.int .i64 u))] 1 3), (.some ⟨[(.v (.int .i64 u))], 1, 3, false, .cells⟩)], [(.code (aF [1, 1, 1, 1, 0, 0, 0] Tryz.f17)), (.inLoop (aF [1, 1, 1, 1, 0, 0, 0] Tryz.f17)), (.inBlock 0), (.code (aF [1, 1, 1, 1, 1] Tryz.f17))], mkT j [(7, (dQ A m)), (8, (dQ B t)), (9, (.e (.one (.slc 1 0 1 1 1 false)))), (10, (iN (i + 1)))] 66 0⟩) (aQ h0 h1 h2 h3 <| aN <| aQ h0 h1 h2 h8 <| aZ)
  fun j => gZ [1] (ho j)
def po17o_end (A B : List DT) (i k m t : Nat) (V : List AC) (j : JN) : St := ⟨[(.some ⟨(V), (k + 1), 3, false, .cells⟩)], [(.code (aF [1, 1, 1, 1, 0, 0, 0] Tryz.f17)), (.inLoop (aF [1, 1, 1, 1, 0, 0, 0] Tryz.f17)), (.inBlock 0), (.code (aF [1, 1, 1, 1, 1] Tryz.f17))], mkT j [(7, (dQ A m)), (8, (dQ B t)), (9, (.e (.one (.slc 0 0 (k + 1) 1 (k + 1) false)))), (10, (iN (i + 1)))] 66 0⟩
theorem po17o (hE : EnvOk E) (A B : List DT) (i k m t : Nat) (_x u : Int) (D V : List AC) (h0 : (0 : Int) ≤ Int.ofNat i ∧ Int.ofNat i < (↑m : Int)) (h1 : ((Int.ofNat i).toNat * nat_lit 1 : Nat) = i) (h2 : (getL A i : Option DT) = (.some (.v (.int .i64 u)))) (h3 : COut E 0 [] 48 [(dQ B t), (iI u)] (iB false) []) (h8 : ¬k + 1 ≤ k) (h9 : (small (k + 1) (1 : Nat) (8 : Nat) : Bool) = true) (h10 : (k : Nat) = k * nat_lit 1) (h11 : (appL D ((fun x => AC.v (Value.int IntKind.i64 u) :: x) []) : List AC) = V) (h13 : ((k + 1) * nat_lit 1 : Nat) = k + 1) (h14 : ((iI (wrapF IntKind.i64 (Int.ofNat i + (1 : Int)))) : AV) = (iN (i + 1))) (g0 : FlatC V) {Φ : Res → Prop} (ho : ∀ j, OutK E 0 0 (po17o_end A B i k m t V j) Φ) (j : JN) : OutK E 0 0 (to17o A B i k m t D j) Φ :=
 oS hE [.run 2, (.ops [(4, (.d (.ld (.v (.int .i64 u))))), (5, (.c0 (iB false))), (3, (.d (.ix i)))] []), .run 4, (.ops [(4, (.d (.ld (.v (.int .i64 u))))), (6, (.app (k + 1) (k + 1) V)), (3, (.d (.ix i)))] []), (.ops [(1, (.rn (iN (i + 1))))] []), .run 2] [7, 8, 9, 10] (s' := fun j => ⟨[none, (bK [(.v (.int .i64 u))] 1 3), (.some ⟨(V), (k + 1), 3, false, .cells⟩)], [(.code (aF [1, 1, 1, 1, 0, 0, 0] Tryz.f17)), (.inLoop (aF [1, 1, 1, 1, 0, 0, 0] Tryz.f17)), (.inBlock 0), (.code (aF [1, 1, 1, 1, 1] Tryz.f17))], mkT j [(7, (dQ A m)), (8, (dQ B t)), (9, (.e (.one (.slc 2 0 (k + 1) 1 (k + 1) false)))), (10, (iN (i + 1)))] 66 0⟩) (aQ h0 h1 h2 h3 <| aN <| aQ h0 h1 h2 h8 <| aP h9 <| aP h10 <| aP h11 <| aP (rfl : (k + 1 : Nat) = k + 1) <| aP h13 <| aP h14 <| aZ)
  fun j => outK_gcF [2] [true] (h' := [(.some ⟨(V), (k + 1), 3, false, .cells⟩)]) (by decide) (by kernel_rfl) (by kernel_rfl) ⟨g0, trivial⟩ (by kernel_rfl) (ho j)
def po17N_end (A B : List DT) (i m t : Nat) (u : Int) (j : JN) : St := ⟨[(.some ⟨[(.v (.int .i64 u))], 1, 3, false, .cells⟩)], [(.code (aF [1, 1, 1, 1, 1, 1, 1, 0, 0, 0] Tryz.f17)), (.inLoop (aF [1, 1, 1, 1, 1, 1, 1, 0, 0, 0] Tryz.f17)), (.inBlock 2), (.code (aF [1, 1, 1, 1, 1, 1, 1, 1] Tryz.f17))], mkT j [(7, (dQ A m)), (8, (dQ B t)), (9, (.e (.one (.slc 0 0 1 1 1 false)))), (10, (iN i)), (11, (iI 0))] 66 0⟩
theorem po17N (hE : EnvOk E) (A B : List DT) (i m t : Nat) (u : Int) (h0 : (0 : Int) ≤ Int.ofNat i ∧ Int.ofNat i < (↑m : Int)) (h1 : ((Int.ofNat i).toNat * nat_lit 1 : Nat) = i) (h2 : (getL A i : Option DT) = (.some (.v (.int .i64 u)))) (h3 : COut E 0 [] 48 [(dQ B t), (iI u)] (iB true) []) {Φ : Res → Prop} (ho : ∀ j, OutK E 0 0 (po17N_end A B i m t u j) Φ) (j : JN) : OutK E 0 0 (to17n A B i m t j) Φ :=
 oS hE [.run 2, (.ops [(4, (.d (.ld (.v (.int .i64 u))))), (5, (.c0 (iB true))), (3, (.d (.ix i)))] []), .run 3, (.ops [(4, (.d (.ld (.v (.int .i64 u))))), (3, (.d (.ix i)))] []), .run 5] [7, 8, 9, 10, 11] (s' := fun j => ⟨[(bK [(.v (.int .i64 u))] 1 3), (.some ⟨[(.v (.int .i64 u))], 1, 3, false, .cells⟩)], [(.code (aF [1, 1, 1, 1, 1, 1, 1, 0, 0, 0] Tryz.f17)), (.inLoop (aF [1, 1, 1, 1, 1, 1, 1, 0, 0, 0] Tryz.f17)), (.inBlock 2), (.code (aF [1, 1, 1, 1, 1, 1, 1, 1] Tryz.f17))], mkT j [(7, (dQ A m)), (8, (dQ B t)), (9, (.e (.one (.slc 1 0 1 1 1 false)))), (10, (iN i)), (11, (iI 0))] 66 0⟩) (aQ h0 h1 h2 h3 <| aN <| aP h0 <| aP h1 <| aP h2 <| aZ)
  fun j => gZ [1] (ho j)
def po17O_end (A B : List DT) (i k m t : Nat) (V : List AC) (j : JN) : St := ⟨[(.some ⟨(V), (k + 1), 3, false, .cells⟩)], [(.code (aF [1, 1, 1, 1, 1, 1, 1, 0, 0, 0] Tryz.f17)), (.inLoop (aF [1, 1, 1, 1, 1, 1, 1, 0, 0, 0] Tryz.f17)), (.inBlock 2), (.code (aF [1, 1, 1, 1, 1, 1, 1, 1] Tryz.f17))], mkT j [(7, (dQ A m)), (8, (dQ B t)), (9, (.e (.one (.slc 0 0 (k + 1) 1 (k + 1) false)))), (10, (iN i)), (11, (iI 0))] 66 0⟩
theorem po17O (hE : EnvOk E) (A B : List DT) (i k m t : Nat) (_x u : Int) (D V : List AC) (h0 : (0 : Int) ≤ Int.ofNat i ∧ Int.ofNat i < (↑m : Int)) (h1 : ((Int.ofNat i).toNat * nat_lit 1 : Nat) = i) (h2 : (getL A i : Option DT) = (.some (.v (.int .i64 u)))) (h3 : COut E 0 [] 48 [(dQ B t), (iI u)] (iB true) []) (h8 : ¬k + 1 ≤ k) (h9 : (small (k + 1) (1 : Nat) (8 : Nat) : Bool) = true) (h10 : (k : Nat) = k * nat_lit 1) (h11 : (appL D ((fun x => AC.v (Value.int IntKind.i64 u) :: x) []) : List AC) = V) (h13 : ((k + 1) * nat_lit 1 : Nat) = k + 1) (g0 : FlatC V) {Φ : Res → Prop} (ho : ∀ j, OutK E 0 0 (po17O_end A B i k m t V j) Φ) (j : JN) : OutK E 0 0 (to17o A B i k m t D j) Φ :=
 oS hE [.run 2, (.ops [(4, (.d (.ld (.v (.int .i64 u))))), (5, (.c0 (iB true))), (3, (.d (.ix i)))] []), .run 3, (.ops [(4, (.d (.ld (.v (.int .i64 u))))), (6, (.app (k + 1) (k + 1) V)), (3, (.d (.ix i)))] []), .run 5] [7, 8, 9, 10, 11] (s' := fun j => ⟨[none, (bK [(.v (.int .i64 u))] 1 3), (.some ⟨(V), (k + 1), 3, false, .cells⟩)], [(.code (aF [1, 1, 1, 1, 1, 1, 1, 0, 0, 0] Tryz.f17)), (.inLoop (aF [1, 1, 1, 1, 1, 1, 1, 0, 0, 0] Tryz.f17)), (.inBlock 2), (.code (aF [1, 1, 1, 1, 1, 1, 1, 1] Tryz.f17))], mkT j [(7, (dQ A m)), (8, (dQ B t)), (9, (.e (.one (.slc 2 0 (k + 1) 1 (k + 1) false)))), (10, (iN i)), (11, (iI 0))] 66 0⟩) (aQ h0 h1 h2 h3 <| aN <| aQ h0 h1 h2 h8 <| aP h9 <| aP h10 <| aP h11 <| aP (rfl : (k + 1 : Nat) = k + 1) <| aP h13 <| aZ)
  fun j => outK_gcF [2] [true] (h' := [(.some ⟨(V), (k + 1), 3, false, .cells⟩)]) (by decide) (by kernel_rfl) (by kernel_rfl) ⟨g0, trivial⟩ (by kernel_rfl) (ho j)
def po75s1_end (G C L : List DT) (g n l : Nat) (c x u : Int) (j : JN) : St := ⟨[(bK (mQ c G g C n L l) 4 26), (.some ⟨[(.v (.int .i64 x)), (.v (.int .i64 u))], 2, 3, false, .cells⟩)], [(.code (aF [1, 1, 0, 0, 0] Tryz.f75)), (.inLoop (aF [1, 1, 0, 0, 0] Tryz.f75)), (.inBlock 0), (.code (aF [1, 1, 1] Tryz.f75))], mkT j [(1, (iI u)), (2, (.e (.one (.ptr 0 0)))), (5, (.e (.one (.slc 1 0 2 1 2 false))))] 21 0⟩
theorem po75s1 (hE : EnvOk E) (G C L : List DT) (g n l i : Nat) (c x u : Int) (h0 : (decide (x > (0 : Int)) : Bool) = true) (h1 : (0 : Int) ≤ x ∧ x < (↑n : Int)) (h2 : (x.toNat * nat_lit 4 : Nat) = i.mul (4 : Nat)) (h3 : (getL C (i.mul (4 : Nat) + 1) : Option DT) = (.some (.v (.int .i64 u)))) {Φ : Res → Prop} (ho : ∀ j, OutK E 0 0 (po75s1_end G C L g n l c x u j) Φ) (j : JN) : OutK E 0 0 (to75z G C L g n l c x j) Φ :=
 oS hE [.run 3, (.cond true), .run 3, (.ops [(3, (.d (.ix (i.mul (4 : Nat))))), (5, (.d (.ld (.v (.int .i64 u))))), (4, (.d .fa))] []), .run 3] [1, 2, 5] (s' := fun j => ⟨[(bK (mQ c G g C n L l) 4 26), (bK [(.v (.int .i64 x))] 1 3), (bK [(.v (.int .i64 u))] 1 3), (.some ⟨[(.v (.int .i64 x)), (.v (.int .i64 u))], 2, 3, false, .cells⟩)], [(.code (aF [1, 1, 0, 0, 0] Tryz.f75)), (.inLoop (aF [1, 1, 0, 0, 0] Tryz.f75)), (.inBlock 0), (.code (aF [1, 1, 1] Tryz.f75))], mkT j [(1, (iI u)), (2, (.e (.one (.ptr 0 0)))), (5, (.e (.one (.slc 3 0 2 1 2 false))))] 21 0⟩) (aQ h0 h1 h2 h3 <| aZ)
  fun j => gZ [0, 3] (ho j)
def po75x1_end (x : Int) (j : JN) : St := ⟨[(bK [(.v (.int .i64 x))] 1 3)], [(.code .ret)], mkT j [(4, (.e (.one (.slc 0 0 1 1 1 true))))] 21 0⟩
theorem po75x1 (hE : EnvOk E) (G C L : List DT) (g n l : Nat) (c x : Int) (h0 : (decide (x > (0 : Int)) : Bool) = false) {Φ : Res → Prop} (ho : ∀ j, OutK E 0 0 (po75x1_end x j) Φ) (j : JN) : OutK E 0 0 (to75z G C L g n l c x j) Φ :=
 oS hE [.run 3, (.cond false), .run 3] [4] (s' := fun j => ⟨[(bK (mQ c G g C n L l) 4 26), (bK [(.v (.int .i64 x))] 1 3)], [(.code .ret)], mkT j [(4, (.e (.one (.slc 1 0 1 1 1 true))))] 21 0⟩) (aP h0 <| aZ)
  fun j => gZ [1] (ho j)
def po17g_end (A B : List DT) (i k m t p : Nat) (D : List AC) (j : JN) : St := ⟨[(.some ⟨(D), k, 3, false, .cells⟩)], [(.code (aF [1, 1, 1, 1, 1, 1, 1, 0, 0, 0] Tryz.f17)), (.inLoop (aF [1, 1, 1, 1, 1, 1, 1, 0, 0, 0] Tryz.f17)), (.inBlock 2), (.code (aF [1, 1, 1, 1, 1, 1, 1, 1] Tryz.f17))], mkT j [(7, (dQ A m)), (8, (dQ B t)), (9, (.e (.one (.slc 0 0 k 1 k false)))), (10, (iN i)), (11, (iN (p + 1)))] 66 0⟩
theorem po17g (hE : EnvOk E) (A B : List DT) (i k m t p : Nat) (u z : Int) (D : List AC) (h0 : (0 : Int) ≤ Int.ofNat p ∧ Int.ofNat p < (↑t : Int)) (h1 : ((Int.ofNat p).toNat * nat_lit 1 : Nat) = p) (h2 : (getL B p : Option DT) = (.some (.v (.int .i64 z)))) (h3 : (0 : Int) ≤ Int.ofNat i ∧ Int.ofNat i < (↑m : Int)) (h4 : ((Int.ofNat i).toNat * nat_lit 1 : Nat) = i) (h5 : (getL A i : Option DT) = (.some (.v (.int .i64 u)))) (h7 : (z != u : Bool) = true) (h8 : ((iI (wrapF IntKind.i64 (Int.ofNat p + (1 : Int)))) : AV) = (iN (p + 1))) {Φ : Res → Prop} (ho : ∀ j, OutK E 0 0 (po17g_end A B i k m t p D j) Φ) (j : JN) : OutK E 0 0 (uo17 A B i k m t p D j) Φ :=
 oS hE [.run 2, (.ops [(3, (.d (.ld (.v (.int .i64 z))))), (7, (.d (.ld (.v (.int .i64 u))))), (2, (.d (.ix p))), (6, (.d (.ix i)))] []), (.cond true), .run 2, (.ops [(1, (.rn (iN (p + 1))))] []), .run 2] [7, 8, 9, 10, 11] (aQ h0 h1 h2 h3 <| aP h4 <| aP h5 <| aV <| aP h7 <| aP h8 <| aZ)
  ho
def po17h_end (B : List DT) (k t : Nat) (y : Int) (D : List AC) (j : JN) : St := ⟨[(.some ⟨(D), k, 3, false, .cells⟩)], [(.code (aF [1, 1, 1, 1, 1, 1, 1, 1, 0, 1, 0, 0] Tryz.f17)), (.inLoop (aF [1, 1, 1, 1, 1, 1, 1, 1, 0, 1, 0, 0] Tryz.f17)), (.inBlock 4), (.code (aF [1, 1, 1, 1, 1, 1, 1, 1, 1] Tryz.f17))], mkT j [(8, (dQ B t)), (9, (.e (.one (.slc 0 0 k 1 k false)))), (11, (iI y))] 66 0⟩
theorem po17h (hE : EnvOk E) (A B : List DT) (i k m t p : Nat) (u y z : Int) (D : List AC) (h0 : (0 : Int) ≤ Int.ofNat p ∧ Int.ofNat p < (↑t : Int)) (h1 : ((Int.ofNat p).toNat * nat_lit 1 : Nat) = p) (h2 : (getL B p : Option DT) = (.some (.v (.int .i64 z)))) (h3 : (0 : Int) ≤ Int.ofNat i ∧ Int.ofNat i < (↑m : Int)) (h4 : ((Int.ofNat i).toNat * nat_lit 1 : Nat) = i) (h5 : (getL A i : Option DT) = (.some (.v (.int .i64 u)))) (h7 : (z != u : Bool) = false) (h8 : ((iI (wrapF IntKind.i64 (Int.ofNat p - (1 : Int)))) : AV) = (iI y)) {Φ : Res → Prop} (ho : ∀ j, OutK E 0 0 (po17h_end B k t y D j) Φ) (j : JN) : OutK E 0 0 (uo17 A B i k m t p D j) Φ :=
 oS hE [.run 2, (.ops [(3, (.d (.ld (.v (.int .i64 z))))), (7, (.d (.ld (.v (.int .i64 u))))), (2, (.d (.ix p))), (6, (.d (.ix i)))] []), (.cond false), .run 3, (.ops [(1, (.rn (iI y)))] []), .run 2] [8, 9, 11] (aQ h0 h1 h2 h3 <| aP h4 <| aP h5 <| aV <| aP h7 <| aP h8 <| aZ)
  ho
def po17r_end (B : List DT) (k t : Nat) (y : Int) (V : List AC) (j : JN) : St := ⟨[(.some ⟨(V), (k + 1), 3, false, .cells⟩)], [(.code (aF [1, 1, 1, 1, 1, 1, 1, 1, 0, 1, 0, 0] Tryz.f17)), (.inLoop (aF [1, 1, 1, 1, 1, 1, 1, 1, 0, 1, 0, 0] Tryz.f17)), (.inBlock 4), (.code (aF [1, 1, 1, 1, 1, 1, 1, 1, 1] Tryz.f17))], mkT j [(8, (dQ B t)), (9, (.e (.one (.slc 0 0 (k + 1) 1 (k + 1) false)))), (11, (iI y))] 66 0⟩
theorem po17r (hE : EnvOk E) (B : List DT) (k t p : Nat) (_x u y z : Int) (D V : List AC) (h0 : (decide (z ≥ (0 : Int)) : Bool) = true) (h1 : (0 : Int) ≤ z ∧ z < (↑t : Int)) (h2 : (z.toNat * nat_lit 1 : Nat) = p) (h3 : (getL B p : Option DT) = (.some (.v (.int .i64 u)))) (h4 : ¬k + 1 ≤ k) (h5 : (small (k + 1) (1 : Nat) (8 : Nat) : Bool) = true) (h6 : (k : Nat) = k * nat_lit 1) (h7 : (appL D ((fun x => AC.v (Value.int IntKind.i64 u) :: x) []) : List AC) = V) (h9 : ((k + 1) * nat_lit 1 : Nat) = k + 1) (h10 : ((iI (wrapF IntKind.i64 (z - (1 : Int)))) : AV) = (iI y)) (g0 : FlatC V) {Φ : Res → Prop} (ho : ∀ j, OutK E 0 0 (po17r_end B k t y V j) Φ) (j : JN) : OutK E 0 0 (vo17 B k t z D j) Φ :=
 oS hE [.run 3, (.cond true), .run 3, (.ops [(3, (.d (.ix p))), (4, (.d (.ld (.v (.int .i64 u))))), (6, (.app (k + 1) (k + 1) V))] []), .run 1, (.ops [(1, (.rn (iI y)))] []), .run 1] [8, 9, 11] (s' := fun j => ⟨[none, (bK [(.v (.int .i64 u))] 1 3), (.some ⟨(V), (k + 1), 3, false, .cells⟩)], [(.code (aF [1, 1, 1, 1, 1, 1, 1, 1, 0, 1, 0, 0] Tryz.f17)), (.inLoop (aF [1, 1, 1, 1, 1, 1, 1, 1, 0, 1, 0, 0] Tryz.f17)), (.inBlock 4), (.code (aF [1, 1, 1, 1, 1, 1, 1, 1, 1] Tryz.f17))], mkT j [(8, (dQ B t)), (9, (.e (.one (.slc 2 0 (k + 1) 1 (k + 1) false)))), (11, (iI y))] 66 0⟩) (aQ h0 h1 h2 h3 <| aQ h4 h5 h6 h7 <| aP (rfl : (k + 1 : Nat) = k + 1) <| aP h9 <| aP h10 <| aZ)
  fun j => outK_gcF [2] [true] (h' := [(.some ⟨(V), (k + 1), 3, false, .cells⟩)]) (by decide) (by kernel_rfl) (by kernel_rfl) ⟨g0, trivial⟩ (by kernel_rfl) (ho j)
def po17y_end (k : Nat) (D : List AC) (j : JN) : St := ⟨[(.some ⟨(D), k, 3, false, .cells⟩)], [(.code .ret)], mkT j [(6, (.e (.one (.slc 0 0 k 1 k false))))] 66 0⟩
theorem po17y (hE : EnvOk E) (B : List DT) (k t : Nat) (z : Int) (D : List AC) (h0 : (decide (z ≥ (0 : Int)) : Bool) = false) {Φ : Res → Prop} (ho : ∀ j, OutK E 0 0 (po17y_end k D j) Φ) (j : JN) : OutK E 0 0 (vo17 B k t z D j) Φ :=
 oS hE [.run 3, (.cond false), .run 3] [6] (aP h0 <| aZ)
  ho
def UpOk (N : List Nd) : Prop := ∀ (i : Nat) (x : Nd), N[i]? = some x → 0 < i → 0 ≤ x.u ∧ x.u < (i : Int)
def upN (N : List Nd) (i : Nat) : Nat := ((N[i]?).map fun x => x.u.toNat).getD 0
def abv (N : List Nd) : Nat → List Int
 | 0 => [0]
 | i + 1 => Int.ofNat (i + 1) :: abv N (min i (upN N (i + 1)))
termination_by i => i
decreasing_by omega
theorem abv_at {N : List Nd} (h : UpOk N) {i q : Nat} {x : Nd} (hx : N[i]? = some x) (h0 : 0 < i) (hq : x.u = Int.ofNat q) : abv N i = Int.ofNat i :: abv N q ∧ q < i := by
 obtain ⟨h1, h2⟩ := h i x hx h0
 cases i with
 | zero => omega
 | succ i =>
  have e : upN N (i + 1) = q := by unfold upN; rw [hx]; simp [hq]
  have hqi : q < i + 1 := by rw [hq] at h2; simp only [Int.ofNat_eq_natCast] at h2; omega
  refine ⟨?_, hqi⟩
  rw [abv, e, Nat.min_eq_right (by omega)]
theorem abv_hd (N : List Nd) (i : Nat) : abv N i = Int.ofNat i :: (abv N i).tail := by cases i <;> rw [abv] <;> rfl
theorem abv_0 (N : List Nd) : 0 ∈ abv N 0 := by rw [abv]; exact List.mem_singleton.2 rfl
theorem abv_le (N : List Nd) : ∀ i, ∀ z ∈ abv N i, z ≤ Int.ofNat i ∧ 0 ≤ z := by
 intro i
 induction i using Nat.strongRecOn with
 | _ i ih =>
  intro z hz
  cases i with
  | zero => rw [abv, List.mem_singleton] at hz; subst hz; exact ⟨by decide, by decide⟩
  | succ i =>
   rw [abv] at hz
   rcases List.mem_cons.1 hz with rfl | hz
   ·exact ⟨Int.le_refl _, by simp only [Int.ofNat_eq_natCast]; omega⟩
   ·have := ih _ (by omega) z hz
    simp only [Int.ofNat_eq_natCast] at this ⊢
    omega
theorem abv_end (N : List Nd) : ∀ i, 0 ∈ abv N i := by
 intro i
 induction i using Nat.strongRecOn with
 | _ i ih =>
  cases i with
  | zero => exact abv_0 N
  | succ i => rw [abv]; exact List.mem_cons_of_mem _ (ih _ (by omega))
theorem abv_len (N : List Nd) : ∀ i, (abv N i).length ≤ i + 1 := by
 intro i
 induction i using Nat.strongRecOn with
 | _ i ih =>
  cases i with
  | zero => rw [abv]; exact Nat.le_refl _
  | succ i => rw [abv, List.length_cons]; have := ih (min i (upN N (i + 1))) (by omega); omega
theorem ofN {z : Int} (h : 0 ≤ z) : ∃ q : Nat, z = Int.ofNat q := ⟨z.toNat, by simp only [Int.ofNat_eq_natCast]; omega⟩
theorem iD_get {l : List Int} {i : Nat} {x : Int} (h : l[i]? = some x) : getL (iD l) i = some (.v (.int .i64 x)) := by rw [getL_eq, List.getElem?_map, h]; rfl
theorem len1 (V : List Int) (x : Int) : (V ++ [x]).length = V.length + 1 := by simp
theorem l75 (hE : EnvOk E) (c : Int) (g : List Gs) (N : List Nd) (L : List Ld) (hN : N.length ≤ 9223372036854775807) (h : UpOk N) : ∀ m i, i ≤ m → i < N.length → ∀ V : List Int, V.length + i ≤ 100000 → ∀ j, OutK E 0 0 (to75 (gD g) (ndD N) (ldD L) g.length N.length L.length i V.length c (iC V) j) (Go.Ev.Ends E Tryz.f75 (.e (.one (.slc 0 0 (V ++ (abv N i).tail).length 1 (V ++ (abv N i).tail).length false))) [some ⟨iC (V ++ (abv N i).tail), (V ++ (abv N i).tail).length, 3, false, .cells⟩]) := by
 intro m
 induction m with
 | zero =>
  intro i hi hn V hV j
  obtain rfl : i = 0 := by omega
  rw [show V ++ (abv N 0).tail = V by rw [abv]; simp]
  exact po75x hE (gD g) (ndD N) (ldD L) g.length N.length L.length 0 V.length c (iC V) dF (flat_iC _) (fun j => outK_ret (ends_ret (by kernel_rfl))) j
 | succ m ih =>
  intro i hi hn V hV j
  by_cases h0 : i = 0
  ·subst h0
   rw [show V ++ (abv N 0).tail = V by rw [abv]; simp]
   exact po75x hE (gD g) (ndD N) (ldD L) g.length N.length L.length 0 V.length c (iC V) dF (flat_iC _) (fun j => outK_ret (ends_ret (by kernel_rfl))) j
  ·have hx := List.getElem?_eq_getElem hn
   generalize N[i] = x at hx
   obtain ⟨q, hq⟩ := ofN (h i x hx (by omega)).1
   obtain ⟨e, hqi⟩ := abv_at h hx (by omega) hq
   have hu := nd_u hx
   rw [hq] at hu
   have st := ih q (by omega) (by omega) (V ++ [Int.ofNat q]) (by rw [len1]; omega)
   have e2 : V ++ (abv N i).tail = V ++ [Int.ofNat q] ++ (abv N q).tail := by rw [e, List.tail_cons, abv_hd N q, List.tail_cons]; simp
   rw [e2]
   rw [len1] at st
   exact po75s hE (gD g) (ndD N) (ldD L) g.length N.length L.length i V.length c 0 (Int.ofNat q) (iC V) (iC (V ++ [Int.ofNat q])) dT bP rfl hu oB sQ oB (iC_app _ [_]) oB (flat_iC _) st j
theorem frzI (R : List Int) (n cp : Nat) (fl : Bool) (hn : R.length = n) : FrzV 0 (iD R) (.e (.one (.slc 0 0 n 1 cp fl))) (.e (.one (.dp (.s (iD R) n 1)))) := frzAll (b := 0) (iD R) n 1 cp fl (by rw [List.length_map, hn, Nat.mul_one])
theorem K75a (hE : EnvOk E) (c : Int) (g : List Gs) (N : List Nd) (L : List Ld) (hN : N.length ≤ 100000) (h : UpOk N) (i : Nat) (hi : i < N.length) : COut E 0 [] 75 [aM c g N L, iI (Int.ofNat i)] (dI (abv N i)) [] := by
 by_cases h0 : i = 0
 ·subst h0
  have e : abv N 0 = [0] := by rw [abv]
  rw [e]
  exact cOut_clear (cOut_freeze 0 (cOut_start Tryz.func75 rfl (po75a hE (gD g) (ndD N) (ldD L) g.length N.length L.length c (Int.ofNat 0) (po75x1 hE (gD g) (ndD N) (ldD L) g.length N.length L.length c (Int.ofNat 0) dF (fun j => outK_ret (ends_ret (by kernel_rfl)))) uD)) rfl (Nat.zero_le _) (ds := iD [0]) (v' := dI [0]) (frzI [0] 1 1 true rfl)) rfl
 ·have hx := List.getElem?_eq_getElem hi
  generalize N[i] = x at hx
  obtain ⟨q, hq⟩ := ofN (h i x hx (by omega)).1
  obtain ⟨e, hqi⟩ := abv_at h hx (by omega) hq
  have hu := nd_u hx
  rw [hq] at hu
  have st := l75 hE c g N L (by omega) h q q (Nat.le_refl _) (by omega) [Int.ofNat i, Int.ofNat q] (by show 2 + q ≤ 100000; omega)
  have e2 : [Int.ofNat i, Int.ofNat q] ++ (abv N q).tail = abv N i := by rw [e]; show Int.ofNat i :: (Int.ofNat q :: (abv N q).tail) = _; rw [← abv_hd]
  rw [e2] at st
  exact cOut_clear (cOut_freeze 0 (cOut_start Tryz.func75 rfl (po75a hE (gD g) (ndD N) (ldD L) g.length N.length L.length c (Int.ofNat i) (po75s1 hE (gD g) (ndD N) (ldD L) g.length N.length L.length i c (Int.ofNat i) (Int.ofNat q) dT bP rfl hu st) uD)) rfl (Nat.zero_le _) (ds := iD (abv N i)) (v' := dI (abv N i)) (frzI _ _ _ _ rfl)) rfl
def rp : List Int → List Int → List Int
 | [], _ => []
 | x :: A, B => if x ∈ B then x :: (B.takeWhile (· != x)).reverse else x :: rp A B
theorem l17c (hE : EnvOk E) (A B : List Int) (hB : B.length ≤ 1000) : ∀ p, p ≤ B.length → ∀ W : List Int, W.length + p ≤ 100000 → ∀ j, OutK E 0 0 (vo17 (iD B) W.length B.length (Int.ofNat p - 1) (iC W) j) (Go.Ev.Ends E Tryz.f17 (.e (.one (.slc 0 0 (W ++ (B.take p).reverse).length 1 (W ++ (B.take p).reverse).length false))) [some ⟨iC (W ++ (B.take p).reverse), (W ++ (B.take p).reverse).length, 3, false, .cells⟩])
 | 0, hp, W, hW, j => by
  rw [List.take_zero, List.reverse_nil, List.append_nil]
  exact po17y hE (iD B) W.length B.length (Int.ofNat 0 - 1) (iC W) dF (fun j => outK_ret (ends_ret (by kernel_rfl))) j
 | p + 1, hp, W, hW, j => by
  have hx := List.getElem?_eq_getElem (show p < B.length by omega)
  rw [List.take_add_one, hx]
  generalize B[p] = x at hx
  have st := l17c hE A B hB p (by omega) (W ++ [x]) (by rw [len1]; omega)
  have e : W ++ (B.take p ++ (some x).toList).reverse = W ++ [x] ++ (B.take p).reverse := by simp
  rw [e]
  rw [len1] at st
  exact po17r hE (iD B) W.length B.length p 0 x (Int.ofNat p - 1) (Int.ofNat (p + 1) - 1) (iC W) (iC (W ++ [x])) dT bP (by simp only [Int.ofNat_eq_natCast]; omega) (iD_get hx) oB sQ oB (iC_app _ [_]) oB wQ (flat_iC _) st j
theorem l17b (hE : EnvOk E) (A B : List Int) (hB : B.length ≤ 1000) (hA : A.length ≤ 1000) {i : Nat} {u : Int} (hu : A[i]? = some u) (W : List Int) (hW : W.length ≤ 10000) : ∀ m p, m + p = B.length → u ∈ B.drop p → ∀ j, OutK E 0 0 (uo17 (iD A) (iD B) i W.length A.length B.length p (iC W) j) (Go.Ev.Ends E Tryz.f17 (.e (.one (.slc 0 0 (W ++ (B.take p ++ (B.drop p).takeWhile (· != u)).reverse).length 1 (W ++ (B.take p ++ (B.drop p).takeWhile (· != u)).reverse).length false))) [some ⟨iC (W ++ (B.take p ++ (B.drop p).takeWhile (· != u)).reverse), (W ++ (B.take p ++ (B.drop p).takeWhile (· != u)).reverse).length, 3, false, .cells⟩])
 | 0, p, hk, hm, j => by
  rw [List.drop_eq_nil_of_le (by omega)] at hm
  cases hm
 | m + 1, p, hk, hm, j => by
  have hp : p < B.length := by omega
  have hi := (List.getElem?_eq_some_iff.1 hu).1
  have hx := List.getElem?_eq_getElem hp
  rw [List.drop_eq_getElem_cons hp] at hm ⊢
  have ih := l17b hE A B hB hA hu W hW m (p + 1) (by omega)
  rw [List.take_add_one, hx] at ih
  generalize B[p] = x at hx hm ih ⊢
  by_cases h : x = u
  ·subst h
   rw [List.takeWhile_cons_of_neg (by simp), List.append_nil]
   exact po17h hE (iD A) (iD B) i W.length A.length B.length p x (Int.ofNat p - 1) x (iC W) bP (Nat.mul_one _) (iD_get hx) bP (Nat.mul_one _) (iD_get hu) (bne_self_eq_false' (a := x)) (iIe (by (try simp only [Int.ofNat_eq_natCast]); rw [wrap_id (by omega) (by omega)])) (l17c hE A B hB p (by omega) W (by omega)) j
  ·rw [List.takeWhile_cons_of_pos (by simpa using h)]
   have hm' : u ∈ B.drop (p + 1) := by rcases List.mem_cons.1 hm with e | e; exact absurd e.symm h; exact e
   have st := ih hm'
   rw [show W ++ (B.take p ++ x :: (B.drop (p + 1)).takeWhile (· != u)).reverse = W ++ (B.take p ++ (some x).toList ++ (B.drop (p + 1)).takeWhile (· != u)).reverse by simp]
   exact po17g hE (iD A) (iD B) i W.length A.length B.length p u x (iC W) bP (Nat.mul_one _) (iD_get hx) bP (Nat.mul_one _) (iD_get hu) (bne_iff_ne.2 h) wQ st j
theorem l17a (hE : EnvOk E) (A B : List Int) (hB : B.length ≤ 1000) (hA : A.length ≤ 1000) : ∀ m i, m + i = A.length → (∃ z ∈ A.drop i, z ∈ B) → ∀ W : List Int, W.length + m ≤ 1000 → ∀ j, OutK E 0 0 (to17o (iD A) (iD B) i W.length A.length B.length (iC W) j) (Go.Ev.Ends E Tryz.f17 (.e (.one (.slc 0 0 (W ++ rp (A.drop i) B).length 1 (W ++ rp (A.drop i) B).length false))) [some ⟨iC (W ++ rp (A.drop i) B), (W ++ rp (A.drop i) B).length, 3, false, .cells⟩])
 | 0, i, hk, hm, W, hW, j => by
  rw [List.drop_eq_nil_of_le (by omega)] at hm
  obtain ⟨z, hz, _⟩ := hm
  cases hz
 | m + 1, i, hk, hm, W, hW, j => by
  have hi : i < A.length := by omega
  have hx := List.getElem?_eq_getElem hi
  rw [List.drop_eq_getElem_cons hi] at hm ⊢
  have ih := l17a hE A B hB hA m (i + 1) (by omega)
  generalize A[i] = x at hx hm ⊢
  have k48 := K129 hE B x (by omega)
  by_cases h : x ∈ B
  ·have st := l17b hE A B hB hA hx (W ++ [x]) (by rw [len1]; omega) B.length 0 rfl (by rw [List.drop_zero]; exact h)
   rw [decide_eq_true h] at k48
   rw [List.take_zero, List.drop_zero, List.nil_append] at st
   rw [show W ++ rp (x :: A.drop (i + 1)) B = W ++ [x] ++ (B.takeWhile (· != x)).reverse by rw [rp, if_pos h]; simp]
   rw [len1] at st
   exact po17O hE (iD A) (iD B) i W.length A.length B.length 0 x (iC W) (iC (W ++ [x])) bP (Nat.mul_one _) (iD_get hx) k48 oB sQ oB (iC_app _ [_]) oB (flat_iC _) st j
  ·have hm' : ∃ z ∈ A.drop (i + 1), z ∈ B := by
    obtain ⟨z, hz, hb⟩ := hm
    rcases List.mem_cons.1 hz with rfl | e
    ·exact absurd hb h
    ·exact ⟨z, e, hb⟩
   have st := ih hm' (W ++ [x]) (by rw [len1]; omega)
   rw [decide_eq_false h] at k48
   rw [show W ++ rp (x :: A.drop (i + 1)) B = W ++ [x] ++ rp (A.drop (i + 1)) B by rw [rp, if_neg h]; simp]
   rw [len1] at st
   exact po17o hE (iD A) (iD B) i W.length A.length B.length 0 x (iC W) (iC (W ++ [x])) bP (Nat.mul_one _) (iD_get hx) k48 oB sQ oB (iC_app _ [_]) oB wQ (flat_iC _) st j
def refP (N : List Nd) (a b : Nat) : List Int := rp (abv N a) (abv N b)
theorem K17p (hE : EnvOk E) (c : Int) (g : List Gs) (N : List Nd) (L : List Ld) (hN : N.length ≤ 900) (h : UpOk N) (a b : Nat) (ha : a < N.length) (hb : b < N.length) : COut E 0 [] 17 [aM c g N L, iI (Int.ofNat a), iI (Int.ofNat b)] (dI (refP N a b)) [] := by
  unfold refP
  have k1 := K75a hE c g N L (by omega) h a ha
  have k2 := K75a hE c g N L (by omega) h b hb
  have hA := abv_len N a
  have hB := abv_len N b
  have hm : ∃ z ∈ (abv N a).drop 0, z ∈ abv N b := ⟨0, by rw [List.drop_zero]; exact abv_end N a, abv_end N b⟩
  have hd : 0 < (abv N a).length := by rw [abv_hd]; simp
  generalize abv N a = A at *
  generalize abv N b = B at *
  suffices hc : COut E 0 [] 17 [aM c g N L, iI (Int.ofNat a), iI (Int.ofNat b)] (.e (.one (.slc 0 0 (rp A B).length 1 (rp A B).length false))) [some ⟨iC (rp A B), (rp A B).length, 3, false, .cells⟩] from cOut_clear (cOut_freeze 0 hc rfl (Nat.zero_le _) (ds := iD (rp A B)) (v' := dI (rp A B)) (frzI _ _ _ _ rfl)) rfl
  refine cOut_start Tryz.func17 rfl (po17a hE (gD g) (ndD N) (ldD L) (iD A) (iD B) g.length N.length L.length A.length B.length c (Int.ofNat a) (Int.ofNat b) k1 k2 ?_ uD)
  have hx := List.getElem?_eq_getElem hd
  rw [List.drop_eq_getElem_cons hd] at hm
  have e0 : A = A[0] :: A.drop 1 := by conv => lhs; rw [← List.drop_zero (l := A), List.drop_eq_getElem_cons hd]
  generalize A[0] = x at hx hm e0
  have k48 := K129 hE B x (by omega)
  intro j
  by_cases hc : x ∈ B
  · have st := l17b hE A B (by omega) (by omega) hx [x] (by simp) B.length 0 rfl (by rw [List.drop_zero]; exact hc)
    rw [decide_eq_true hc] at k48
    rw [List.take_zero, List.drop_zero, List.nil_append] at st
    rw [show rp A B = [x] ++ (B.takeWhile (· != x)).reverse from (congrArg (rp · B) e0).trans (by rw [rp, if_pos hc]; rfl)]
    exact po17N hE (iD A) (iD B) 0 A.length B.length x bP (Nat.mul_one _) (iD_get hx) k48 st j
  · have hm' : ∃ z ∈ A.drop (0 + 1), z ∈ B := by
      obtain ⟨z, hz, hb⟩ := hm
      rcases List.mem_cons.1 hz with rfl | e
      · exact absurd hb hc
      · exact ⟨z, e, hb⟩
    have st := l17a hE A B (by omega) (by omega) (A.length - 1) 1 (by omega) hm' [x] (by show 1 + _ ≤ _; omega)
    rw [decide_eq_false hc] at k48
    rw [show rp A B = [x] ++ rp (A.drop 1) B from (congrArg (rp · B) e0).trans (by rw [rp, if_neg hc]; rfl)]
    exact po17n hE (iD A) (iD B) 0 A.length B.length x bP (Nat.mul_one _) (iD_get hx) k48 wQ st j
theorem K69e (hE : EnvOk E) (c : Int) (g : List Gs) (N : List Nd) (L : List Ld) (hg : g.length ≤ 9223372036854775807) (hf : ∀ x ∈ N, x.f.length ≤ 9223372036854775807) (hN : N.length ≤ 9223372036854775806) (hL : L.length ≤ 9223372036854775807) (hl : ∀ x ∈ L, x.f.length ≤ 9223372036854775807) (x y : Int) : COut E 0 [] 69 [aM c g N L, iI x, iI y] (iI (firstI [manE c g N L, ixE x N.length, ixE y N.length])) [] := by
 have k18 := K18m hE c g N L hg hf hN hL hl
 exact cOut_clear (cOut_start Tryz.func69 rfl (po69 hE (gD g) (ndD N) (ldD L) g.length N.length L.length c x (manE c g N L) (ixE x N.length) (firstI [manE c g N L, ixE x N.length, ixE y N.length]) (ixE y N.length) y k18 (K71 hE _ _) (K71 hE _ _) (lend2 _ hE 76 _ _ 31 true (K69 hE [manE c g N L, ixE x N.length, ixE y N.length] (by simp)) _ 1 rfl) (fun j => outK_ret (ends_ret (by kernel_rfl))) uD)) rfl
end
end Go.Proofs.YtigdchbjmnbjlaaGreatDoor
end
