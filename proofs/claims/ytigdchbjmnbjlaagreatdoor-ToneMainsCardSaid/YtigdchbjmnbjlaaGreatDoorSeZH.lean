/-
  Part of the proof.
-/
import Derived.Test.YtigdchbjmnbjlaaGreatDoorSeZG
section
open Go Go.Ev
namespace Go.Proofs.YtigdchbjmnbjlaaGreatDoor
noncomputable section
set_option maxRecDepth 100000
set_option maxHeartbeats 20000000
def sm11 (G C L : List DT) (g n l : Nat) (c : Int) (_j : JN) : St := startK Tryz.f11 [] [.e (.agg (mQ c G g C n L l))]
def sm16 (G C L : List DT) (g n l : Nat) (c x : Int) (_j : JN) : St := startK Tryz.f16 [] [.e (.agg (mQ c G g C n L l)), iI x]
def sm74 (G C L : List DT) (g n l i : Nat) (c : Int) (_j : JN) : St := startK Tryz.f74 [] [.e (.agg (mQ c G g C n L l)), (iN i)]
def sm14 (G C L : List DT) (g n l : Nat) (c : Int) (_j : JN) : St := startK Tryz.f14 [] [.e (.agg (mQ c G g C n L l))]
def tm11 (G C L : List DT) (g n l i : Nat) (c : Int) (j : JN) : St := ⟨[(bK (mQ c G g C n L l) 4 26)], [(.code (aF [1, 1, 0, 1, 0, 0] Tryz.f11)), (.inLoop (aF [1, 1, 0, 1, 0, 0] Tryz.f11)), (.inBlock 0), (.code (aF [1, 1, 1] Tryz.f11))], mkT j [(1, (.e (.one (.ptr 0 0)))), (3, (iN i))] 71 0⟩
def tm74 (G C L F : List DT) (g n l q i k : Nat) (c u p : Int) (s : ByteArray) (j : JN) : St := ⟨[(bK (mQ c G g C n L l) 4 26), (bK [(.v (.string s)), (.v (.int .i64 u)), (.v (.int .i64 p)), (.dp (.s F q 2))] 4 97)], [(.code (aF [1, 1, 1, 0, 1, 0, 0] Tryz.f74)), (.inLoop (aF [1, 1, 1, 0, 1, 0, 0] Tryz.f74)), (.inBlock 0), (.code (aF [1, 1, 1, 1] Tryz.f74))], mkT j [(1, (iN i)), (2, (.e (.one (.ptr 0 0)))), (5, (.e (.one (.ptr 1 0)))), (7, (iN k))] 85 0⟩
def tm14 (G C L : List DT) (g n l i : Nat) (c : Int) (j : JN) : St := ⟨[(bK (mQ c G g C n L l) 4 26)], [(.code (aF [1, 1, 1, 0, 1, 0, 0] Tryz.f14)), (.inLoop (aF [1, 1, 1, 0, 1, 0, 0] Tryz.f14)), (.inBlock 0), (.code (aF [1, 1, 1, 1] Tryz.f14))], mkT j [(1, (.e (.one (.ptr 0 0)))), (5, (iN i))] 82 0⟩
def um11 (G C L : List DT) (g n l i : Nat) (c : Int) (j : JN) : St := ⟨[(bK (mQ c G g C n L l) 4 26)], [(.code (aF [1, 1, 1, 0, 1, 0, 0] Tryz.f11)), (.inLoop (aF [1, 1, 1, 0, 1, 0, 0] Tryz.f11)), (.inBlock 2), (.code (aF [1, 1, 1, 1] Tryz.f11))], mkT j [(1, (.e (.one (.ptr 0 0)))), (4, (iN i))] 71 0⟩
def um14 (G C L : List DT) (g n l i : Nat) (c : Int) (j : JN) : St := ⟨[(bK (mQ c G g C n L l) 4 26)], [(.code (aF [1, 1, 1, 1, 1, 0, 1, 0, 0] Tryz.f14)), (.inLoop (aF [1, 1, 1, 1, 1, 0, 1, 0, 0] Tryz.f14)), (.inBlock 2), (.code (aF [1, 1, 1, 1, 1, 1] Tryz.f14))], mkT j [(1, (.e (.one (.ptr 0 0)))), (7, (iN i))] 82 0⟩
def pm11g_end (j : JN) : St := ⟨[], [(.code .ret), (.code (aF [1, 1] Tryz.f11))], mkT j [(2, (iB false))] 71 0⟩
theorem pm11g (hE : EnvOk E) (G C L : List DT) (g n l : Nat) (c : Int) (h0 : (decide ((↑g : Int) > (9 : Int)) == false : Bool) = false) (h4 : (decide ((↑g : Int) > (9 : Int)) : Bool) = true) {Φ : Res → Prop} (ho : ∀ j, OutK E 0 0 (pm11g_end j) Φ) (j : JN) : OutK E 0 0 (sm11 G C L g n l c j) Φ :=
 oS hE [.run 4, (.ops [(2, (.d .len)), (9, (.pk true))] [(5, false), (6, false), (7, false), (8, false)]), .run 3] [2] (s' := fun j => ⟨[(bK (mQ c G g C n L l) 4 26)], [(.code .ret), (.code (aF [1, 1] Tryz.f11))], mkT j [(2, (iB false))] 71 0⟩) (aQ h0 h0 h0 h0 <| aP h4 <| aZ)
  fun j => gZ [] (ho j)
def pm11n_end (j : JN) : St := ⟨[], [(.code .ret), (.code (aF [1, 1] Tryz.f11))], mkT j [(2, (iB false))] 71 0⟩
theorem pm11n (hE : EnvOk E) (G C L : List DT) (g n l : Nat) (c : Int) (h0 : (decide ((↑g : Int) > (9 : Int)) == false : Bool) = true) (h4 : (decide ((↑g : Int) > (9 : Int)) : Bool) = false) (h5 : (decide ((↑n : Int) > (17 : Int)) == false : Bool) = false) (h9 : (decide ((↑n : Int) > (17 : Int)) : Bool) = true) {Φ : Res → Prop} (ho : ∀ j, OutK E 0 0 (pm11n_end j) Φ) (j : JN) : OutK E 0 0 (sm11 G C L g n l c j) Φ :=
 oS hE [.run 4, (.ops [(2, (.d .len)), (7, (.d .len)), (9, (.pk false)), (15, (.pk true))] [(5, true), (6, true), (7, true), (8, true), (11, false), (12, false), (13, false), (14, false)]), .run 3] [2] (s' := fun j => ⟨[(bK (mQ c G g C n L l) 4 26)], [(.code .ret), (.code (aF [1, 1] Tryz.f11))], mkT j [(2, (iB false))] 71 0⟩) (aQ h0 h0 h0 h0 <| aQ h4 h5 h5 h5 <| aP h5 <| aP h9 <| aZ)
  fun j => gZ [] (ho j)
def pm11l_end (j : JN) : St := ⟨[], [(.code .ret), (.code (aF [1, 1] Tryz.f11))], mkT j [(2, (iB false))] 71 0⟩
theorem pm11l (hE : EnvOk E) (G C L : List DT) (g n l : Nat) (c : Int) (h0 : (decide ((↑g : Int) > (9 : Int)) == false : Bool) = true) (h4 : (decide ((↑g : Int) > (9 : Int)) : Bool) = false) (h5 : (decide ((↑n : Int) > (17 : Int)) == false : Bool) = true) (h9 : (decide ((↑n : Int) > (17 : Int)) : Bool) = false) (h10 : (decide ((↑l : Int) > (17 : Int)) : Bool) = true) {Φ : Res → Prop} (ho : ∀ j, OutK E 0 0 (pm11l_end j) Φ) (j : JN) : OutK E 0 0 (sm11 G C L g n l c j) Φ :=
 oS hE [.run 4, (.ops [(2, (.d .len)), (7, (.d .len)), (9, (.pk false)), (13, (.d .len)), (15, (.pk false))] [(5, true), (6, true), (7, true), (8, true), (11, true), (12, true), (13, true), (14, true)]), (.cond true), .run 2] [2] (s' := fun j => ⟨[(bK (mQ c G g C n L l) 4 26)], [(.code .ret), (.code (aF [1, 1] Tryz.f11))], mkT j [(2, (iB false))] 71 0⟩) (aQ h0 h0 h0 h0 <| aQ h4 h5 h5 h5 <| aP h5 <| aP h9 <| aP h10 <| aZ)
  fun j => gZ [] (ho j)
def pm11a_end (G C L : List DT) (g n l : Nat) (c : Int) (j : JN) : St := ⟨[(bK (mQ c G g C n L l) 4 26)], [(.code (aF [1, 1, 0, 1, 0, 0] Tryz.f11)), (.inLoop (aF [1, 1, 0, 1, 0, 0] Tryz.f11)), (.inBlock 0), (.code (aF [1, 1, 1] Tryz.f11))], mkT j [(1, (.e (.one (.ptr 0 0)))), (3, (iI 0))] 71 0⟩
theorem pm11a (hE : EnvOk E) (G C L : List DT) (g n l : Nat) (c : Int) (h0 : (decide ((↑g : Int) > (9 : Int)) == false : Bool) = true) (h4 : (decide ((↑g : Int) > (9 : Int)) : Bool) = false) (h5 : (decide ((↑n : Int) > (17 : Int)) == false : Bool) = true) (h9 : (decide ((↑n : Int) > (17 : Int)) : Bool) = false) (h10 : (decide ((↑l : Int) > (17 : Int)) : Bool) = false) {Φ : Res → Prop} (ho : ∀ j, OutK E 0 0 (pm11a_end G C L g n l c j) Φ) (j : JN) : OutK E 0 0 (sm11 G C L g n l c j) Φ :=
 oS hE [.run 4, (.ops [(2, (.d .len)), (7, (.d .len)), (9, (.pk false)), (13, (.d .len)), (15, (.pk false))] [(5, true), (6, true), (7, true), (8, true), (11, true), (12, true), (13, true), (14, true)]), (.cond false), .run 6] [1, 3] (aQ h0 h0 h0 h0 <| aQ h4 h5 h5 h5 <| aP h5 <| aP h9 <| aP h10 <| aZ)
  ho
def pm16_end (e : Int) (j : JN) : St := ⟨[], [(.code .ret)], mkT j [(4, (iI e))] 10 0⟩
theorem pm16 (hE : EnvOk E) (G C L : List DT) (g n l : Nat) (c x e : Int) (h0 : COut E 0 [] 27 [(iN n), (iI x)] (iI e) []) {Φ : Res → Prop} (ho : ∀ j, OutK E 0 0 (pm16_end e j) Φ) (j : JN) : OutK E 0 0 (sm16 G C L g n l c x j) Φ :=
 oS hE [.run 3, (.ops [(4, (.c0 (iI e))), (2, (.d .len))] [])] [4] (s' := fun j => ⟨[(bK (mQ c G g C n L l) 4 26)], [(.code .ret)], mkT j [(4, (iI e))] 10 0⟩) (aP h0 <| aN <| aZ)
  fun j => gZ [] (ho j)
def pm74e_end (a : Int) (j : JN) : St := ⟨[], [(.code .ret), (.code (aF [1, 1, 1] Tryz.f74))], mkT j [(4, (iI a))] 85 0⟩
theorem pm74e (hE : EnvOk E) (G C L F : List DT) (g n l q i : Nat) (c a u p : Int) (s : ByteArray) (h0 : (0 : Int) ≤ Int.ofNat i ∧ Int.ofNat i < (↑n : Int)) (h1 : ((Int.ofNat i).toNat * nat_lit 4 : Nat) = i.mul (nat_lit 4)) (h2 : (takeL (dropL C (i.mul (nat_lit 4))) (4 : Nat) : Option (List DT)) = (.some [(.v (.string s)), (.v (.int .i64 u)), (.v (.int .i64 p)), (.s F q 2)])) (h3 : COut E 0 [] 140 [(.e (.one (.v (.string s))))] (iI a) []) (h5 : (a != (0 : Int) : Bool) = true) {Φ : Res → Prop} (ho : ∀ j, OutK E 0 0 (pm74e_end a j) Φ) (j : JN) : OutK E 0 0 (sm74 G C L g n l i c j) Φ :=
 oS hE [.run 3, (.ops [(4, (.d (.ldn [(.v (.string s)), (.v (.int .i64 u)), (.v (.int .i64 p)), (.s F q 2)]))), (3, (.d (.ix (i.mul (nat_lit 4)))))] []), .run 2, (.ops [(2, (.c0 (iI a)))] []), .run 2, (.cond true), .run 2] [4] (s' := fun j => ⟨[(bK (mQ c G g C n L l) 4 26), (bK [(.v (.string s)), (.v (.int .i64 u)), (.v (.int .i64 p)), (.dp (.s F q 2))] 4 97)], [(.code .ret), (.code (aF [1, 1, 1] Tryz.f74))], mkT j [(4, (iI a))] 85 0⟩) (aQ h0 h1 h2 h3 <| aN <| aP h5 <| aZ)
  fun j => gZ [] (ho j)
def pm74a_end (G C L F : List DT) (g n l q i : Nat) (c u p : Int) (s : ByteArray) (j : JN) : St := ⟨[(bK (mQ c G g C n L l) 4 26), (bK [(.v (.string s)), (.v (.int .i64 u)), (.v (.int .i64 p)), (.dp (.s F q 2))] 4 97)], [(.code (aF [1, 1, 1, 0, 1, 0, 0] Tryz.f74)), (.inLoop (aF [1, 1, 1, 0, 1, 0, 0] Tryz.f74)), (.inBlock 0), (.code (aF [1, 1, 1, 1] Tryz.f74))], mkT j [(1, (iN i)), (2, (.e (.one (.ptr 0 0)))), (5, (.e (.one (.ptr 1 0)))), (7, (iI 0))] 85 0⟩
theorem pm74a (hE : EnvOk E) (G C L F : List DT) (g n l q i : Nat) (c a u p : Int) (s : ByteArray) (h0 : (0 : Int) ≤ Int.ofNat i ∧ Int.ofNat i < (↑n : Int)) (h1 : ((Int.ofNat i).toNat * nat_lit 4 : Nat) = i.mul (nat_lit 4)) (h2 : (takeL (dropL C (i.mul (nat_lit 4))) (4 : Nat) : Option (List DT)) = (.some [(.v (.string s)), (.v (.int .i64 u)), (.v (.int .i64 p)), (.s F q 2)])) (h3 : COut E 0 [] 140 [(.e (.one (.v (.string s))))] (iI a) []) (h5 : (a != (0 : Int) : Bool) = false) {Φ : Res → Prop} (ho : ∀ j, OutK E 0 0 (pm74a_end G C L F g n l q i c u p s j) Φ) (j : JN) : OutK E 0 0 (sm74 G C L g n l i c j) Φ :=
 oS hE [.run 3, (.ops [(4, (.d (.ldn [(.v (.string s)), (.v (.int .i64 u)), (.v (.int .i64 p)), (.s F q 2)]))), (3, (.d (.ix (i.mul (nat_lit 4)))))] []), .run 2, (.ops [(2, (.c0 (iI a)))] []), .run 2, (.cond false), .run 6] [1, 2, 5, 7] (aQ h0 h1 h2 h3 <| aN <| aP h5 <| aZ)
  ho
def pm14e_end (a : Int) (j : JN) : St := ⟨[], [(.code .ret), (.code (aF [1, 1] Tryz.f14))], mkT j [(2, (iI a))] 82 0⟩
theorem pm14e (hE : EnvOk E) (G C L : List DT) (g n l : Nat) (c a : Int) (h0 : COut E 0 [] 41 [(iI c), (iI 1), (iI 8)] (iI a) []) (h2 : (a != (0 : Int) : Bool) = true) {Φ : Res → Prop} (ho : ∀ j, OutK E 0 0 (pm14e_end a j) Φ) (j : JN) : OutK E 0 0 (sm14 G C L g n l c j) Φ :=
 oS hE [.run 4, (.ops [(2, (.c0 (iI a)))] []), .run 2, (.cond true), .run 2] [2] (s' := fun j => ⟨[(bK (mQ c G g C n L l) 4 26)], [(.code .ret), (.code (aF [1, 1] Tryz.f14))], mkT j [(2, (iI a))] 82 0⟩) (aP h0 <| aN <| aP h2 <| aZ)
  fun j => gZ [] (ho j)
def pm14f_end (e : Int) (j : JN) : St := ⟨[], [(.code .ret), (.code (aF [1, 1, 1] Tryz.f14))], mkT j [(2, (iI e))] 82 0⟩
theorem pm14f (hE : EnvOk E) (G C L : List DT) (g n l : Nat) (c a b e u p : Int) (h0 : COut E 0 [] 41 [(iI c), (iI 1), (iI 8)] (iI a) []) (h2 : (a != (0 : Int) : Bool) = false) (h3 : COut E 0 [] 72 [(iI c), (.e (.one (.dp (.s G g 2))))] (iI b) []) (h5 : COut E 0 [] 73 [(iB ((↑n : Int) == (0 : Int))), (iI 12)] (iI u) []) (h8 : COut E 0 [] 73 [(iB (decide ((↑n : Int) > (16 : Int)))), (iI 5)] (iI p) []) (h10 : COut E 2 [(bK (mQ c G g C n L l) 4 26), (bK [(.v (.int .i64 b)), (.v (.int .i64 u)), (.v (.int .i64 p))] 3 3)] 15 [(.e (.one (.slc 1 0 3 1 3 true)))] (iI e) [(bK (mQ c G g C n L l) 4 26), (bK [(.v (.int .i64 b)), (.v (.int .i64 u)), (.v (.int .i64 p))] 3 3)]) (h12 : (e != (0 : Int) : Bool) = true) {Φ : Res → Prop} (ho : ∀ j, OutK E 0 0 (pm14f_end e j) Φ) (j : JN) : OutK E 0 0 (sm14 G C L g n l c j) Φ :=
 oS hE [.run 4, (.ops [(2, (.c0 (iI a)))] []), .run 2, (.cond false), .run 3, (.ops [(4, (.c0 (iI b))), (9, (.c0 (iI u))), (14, (.c0 (iI p))), (16, (.d (.c1 (iI e)))), (7, (.d .len)), (12, (.d .len))] []), .run 2, (.cond true), .run 2] [2] (s' := fun j => ⟨[(bK (mQ c G g C n L l) 4 26), (bK [(.v (.int .i64 b)), (.v (.int .i64 u)), (.v (.int .i64 p))] 3 3)], [(.code .ret), (.code (aF [1, 1, 1] Tryz.f14))], mkT j [(2, (iI e))] 82 0⟩) (aP h0 <| aN <| aP h2 <| aP h3 <| aN <| aP h5 <| aN <| aV <| aP h8 <| aN <| aP h10 <| aN <| aP h12 <| aZ)
  fun j => gZ [] (ho j)
def pm14a_end (G C L : List DT) (g n l : Nat) (c : Int) (j : JN) : St := ⟨[(bK (mQ c G g C n L l) 4 26)], [(.code (aF [1, 1, 1, 0, 1, 0, 0] Tryz.f14)), (.inLoop (aF [1, 1, 1, 0, 1, 0, 0] Tryz.f14)), (.inBlock 0), (.code (aF [1, 1, 1, 1] Tryz.f14))], mkT j [(1, (.e (.one (.ptr 0 0)))), (5, (iI 0))] 82 0⟩
theorem pm14a (hE : EnvOk E) (G C L : List DT) (g n l : Nat) (c a b e u p : Int) (h0 : COut E 0 [] 41 [(iI c), (iI 1), (iI 8)] (iI a) []) (h2 : (a != (0 : Int) : Bool) = false) (h3 : COut E 0 [] 72 [(iI c), (.e (.one (.dp (.s G g 2))))] (iI b) []) (h5 : COut E 0 [] 73 [(iB ((↑n : Int) == (0 : Int))), (iI 12)] (iI u) []) (h8 : COut E 0 [] 73 [(iB (decide ((↑n : Int) > (16 : Int)))), (iI 5)] (iI p) []) (h10 : COut E 2 [(bK (mQ c G g C n L l) 4 26), (bK [(.v (.int .i64 b)), (.v (.int .i64 u)), (.v (.int .i64 p))] 3 3)] 15 [(.e (.one (.slc 1 0 3 1 3 true)))] (iI e) [(bK (mQ c G g C n L l) 4 26), (bK [(.v (.int .i64 b)), (.v (.int .i64 u)), (.v (.int .i64 p))] 3 3)]) (h12 : (e != (0 : Int) : Bool) = false) {Φ : Res → Prop} (ho : ∀ j, OutK E 0 0 (pm14a_end G C L g n l c j) Φ) (j : JN) : OutK E 0 0 (sm14 G C L g n l c j) Φ :=
 oS hE [.run 4, (.ops [(2, (.c0 (iI a)))] []), .run 2, (.cond false), .run 3, (.ops [(4, (.c0 (iI b))), (9, (.c0 (iI u))), (14, (.c0 (iI p))), (16, (.d (.c1 (iI e)))), (7, (.d .len)), (12, (.d .len))] []), .run 2, (.cond false), .run 6] [1, 5] (s' := fun j => ⟨[(bK (mQ c G g C n L l) 4 26), (bK [(.v (.int .i64 b)), (.v (.int .i64 u)), (.v (.int .i64 p))] 3 3)], [(.code (aF [1, 1, 1, 0, 1, 0, 0] Tryz.f14)), (.inLoop (aF [1, 1, 1, 0, 1, 0, 0] Tryz.f14)), (.inBlock 0), (.code (aF [1, 1, 1, 1] Tryz.f14))], mkT j [(1, (.e (.one (.ptr 0 0)))), (5, (iI 0))] 82 0⟩) (aP h0 <| aN <| aP h2 <| aP h3 <| aN <| aP h5 <| aN <| aV <| aP h8 <| aN <| aP h10 <| aN <| aP h12 <| aZ)
  fun j => gZ [0] (ho j)
def pm11p_end (j : JN) : St := ⟨[], [(.code .ret), (.inBlock 1), (.code (aF [1, 1, 0, 1, 0, 0, 1, 1] Tryz.f11)), (.inLoop (aF [1, 1, 0, 1, 0, 0] Tryz.f11)), (.inBlock 0), (.code (aF [1, 1, 1] Tryz.f11))], mkT j [(2, (iB false))] 71 0⟩
theorem pm11p (hE : EnvOk E) (G C L : List DT) (g n l i : Nat) (c : Int) (s : ByteArray) (w : Bool) (h0 : (decide (Int.ofNat i < (↑n : Int)) : Bool) = true) (h1 : (0 : Int) ≤ Int.ofNat i ∧ Int.ofNat i < (↑n : Int)) (h2 : ((Int.ofNat i).toNat * nat_lit 4 : Nat) = i.mul (nat_lit 4)) (h3 : (getL C (i.mul (nat_lit 4) + 0) : Option DT) = (.some (.v (.string s)))) (h4 : ((iB (decide ((↑s.size : Int) > (40 : Int)))) : AV) = (iB w)) (h5 : (w == false : Bool) = false) (h13 : (w : Bool) = true) {Φ : Res → Prop} (ho : ∀ j, OutK E 0 0 (pm11p_end j) Φ) (j : JN) : OutK E 0 0 (tm11 G C L g n l i c j) Φ :=
 oS hE [.run 2, (.ops [(3, (.d .len))] []), (.cond true), .run 4, (.ops [(5, (.d (.ld (.v (.string s))))), (7, (.rn (iB w))), (3, (.d (.ix (i.mul (nat_lit 4))))), (4, (.d .fa)), (17, (.pk true))] [(9, false), (10, false), (11, false), (12, false), (13, false), (14, false), (15, false), (16, false)]), .run 3] [2] (s' := fun j => ⟨[(bK (mQ c G g C n L l) 4 26)], [(.code .ret), (.inBlock 1), (.code (aF [1, 1, 0, 1, 0, 0, 1, 1] Tryz.f11)), (.inLoop (aF [1, 1, 0, 1, 0, 0] Tryz.f11)), (.inBlock 0), (.code (aF [1, 1, 1] Tryz.f11))], mkT j [(2, (iB false))] 71 0⟩) (aQ h0 h1 h2 h3 <| aQ h4 h5 h5 h5 <| aQ h5 h5 h5 h5 <| aP h5 <| aP h13 <| aZ)
  fun j => gZ [] (ho j)
def pm11q_end (j : JN) : St := ⟨[], [(.code .ret), (.inBlock 1), (.code (aF [1, 1, 0, 1, 0, 0, 1, 1] Tryz.f11)), (.inLoop (aF [1, 1, 0, 1, 0, 0] Tryz.f11)), (.inBlock 0), (.code (aF [1, 1, 1] Tryz.f11))], mkT j [(2, (iB false))] 71 0⟩
theorem pm11q (hE : EnvOk E) (G C L F : List DT) (g n l q i : Nat) (c : Int) (s : ByteArray) (w : Bool) (h0 : (decide (Int.ofNat i < (↑n : Int)) : Bool) = true) (h1 : (0 : Int) ≤ Int.ofNat i ∧ Int.ofNat i < (↑n : Int)) (h2 : ((Int.ofNat i).toNat * nat_lit 4 : Nat) = i.mul (nat_lit 4)) (h3 : (getL C (i.mul (nat_lit 4) + 0) : Option DT) = (.some (.v (.string s)))) (h4 : ((iB (decide ((↑s.size : Int) > (40 : Int)))) : AV) = (iB w)) (h5 : (w == false : Bool) = true) (h13 : (getL C (i.mul (nat_lit 4) + 3) : Option DT) = (.some (.s F q 2))) (h16 : (w : Bool) = false) (h17 : (decide ((↑q : Int) > (9 : Int)) : Bool) = true) {Φ : Res → Prop} (ho : ∀ j, OutK E 0 0 (pm11q_end j) Φ) (j : JN) : OutK E 0 0 (tm11 G C L g n l i c j) Φ :=
 oS hE [.run 2, (.ops [(3, (.d .len))] []), (.cond true), .run 4, (.ops [(5, (.d (.ld (.v (.string s))))), (7, (.rn (iB w))), (14, (.d (.ld (.s F q 2)))), (3, (.d (.ix (i.mul (nat_lit 4))))), (4, (.d .fa)), (12, (.d (.ix (i.mul (nat_lit 4))))), (13, (.d .fa)), (15, (.d .len)), (17, (.pk false))] [(9, true), (10, true), (11, true), (12, true), (13, true), (14, true), (15, true), (16, true)]), (.cond true), .run 2] [2] (s' := fun j => ⟨[(bK (mQ c G g C n L l) 4 26)], [(.code .ret), (.inBlock 1), (.code (aF [1, 1, 0, 1, 0, 0, 1, 1] Tryz.f11)), (.inLoop (aF [1, 1, 0, 1, 0, 0] Tryz.f11)), (.inBlock 0), (.code (aF [1, 1, 1] Tryz.f11))], mkT j [(2, (iB false))] 71 0⟩) (aQ h0 h1 h2 h3 <| aQ h4 h5 h5 h5 <| aQ h5 h1 h2 h5 <| aQ h5 h13 h5 h5 <| aP h16 <| aP h17 <| aZ)
  fun j => gZ [] (ho j)
def pm11s_end (G C L : List DT) (g n l i : Nat) (c : Int) (j : JN) : St := ⟨[(bK (mQ c G g C n L l) 4 26)], [(.code (aF [1, 1, 0, 1, 0, 0] Tryz.f11)), (.inLoop (aF [1, 1, 0, 1, 0, 0] Tryz.f11)), (.inBlock 0), (.code (aF [1, 1, 1] Tryz.f11))], mkT j [(1, (.e (.one (.ptr 0 0)))), (3, (iN (i + 1)))] 71 0⟩
theorem pm11s (hE : EnvOk E) (G C L F : List DT) (g n l q i : Nat) (c : Int) (s : ByteArray) (w : Bool) (h0 : (decide (Int.ofNat i < (↑n : Int)) : Bool) = true) (h1 : (0 : Int) ≤ Int.ofNat i ∧ Int.ofNat i < (↑n : Int)) (h2 : ((Int.ofNat i).toNat * nat_lit 4 : Nat) = i.mul (nat_lit 4)) (h3 : (getL C (i.mul (nat_lit 4) + 0) : Option DT) = (.some (.v (.string s)))) (h4 : ((iB (decide ((↑s.size : Int) > (40 : Int)))) : AV) = (iB w)) (h5 : (w == false : Bool) = true) (h13 : (getL C (i.mul (nat_lit 4) + 3) : Option DT) = (.some (.s F q 2))) (h16 : (w : Bool) = false) (h17 : (decide ((↑q : Int) > (9 : Int)) : Bool) = false) (h18 : ((iI (wrapF IntKind.i64 (Int.ofNat i + (1 : Int)))) : AV) = (iN (i + 1))) {Φ : Res → Prop} (ho : ∀ j, OutK E 0 0 (pm11s_end G C L g n l i c j) Φ) (j : JN) : OutK E 0 0 (tm11 G C L g n l i c j) Φ :=
 oS hE [.run 2, (.ops [(3, (.d .len))] []), (.cond true), .run 4, (.ops [(5, (.d (.ld (.v (.string s))))), (7, (.rn (iB w))), (14, (.d (.ld (.s F q 2)))), (3, (.d (.ix (i.mul (nat_lit 4))))), (4, (.d .fa)), (12, (.d (.ix (i.mul (nat_lit 4))))), (13, (.d .fa)), (15, (.d .len)), (17, (.pk false))] [(9, true), (10, true), (11, true), (12, true), (13, true), (14, true), (15, true), (16, true)]), (.cond false), .run 2, (.ops [(1, (.rn (iN (i + 1))))] []), .run 1] [1, 3] (aQ h0 h1 h2 h3 <| aQ h4 h5 h5 h5 <| aQ h5 h1 h2 h5 <| aQ h5 h13 h5 h5 <| aP h16 <| aP h17 <| aP h18 <| aZ)
  ho
def pm11x_end (G C L : List DT) (g n l : Nat) (c : Int) (j : JN) : St := ⟨[(bK (mQ c G g C n L l) 4 26)], [(.code (aF [1, 1, 1, 0, 1, 0, 0] Tryz.f11)), (.inLoop (aF [1, 1, 1, 0, 1, 0, 0] Tryz.f11)), (.inBlock 2), (.code (aF [1, 1, 1, 1] Tryz.f11))], mkT j [(1, (.e (.one (.ptr 0 0)))), (4, (iI 0))] 71 0⟩
theorem pm11x (hE : EnvOk E) (G C L : List DT) (g n l i : Nat) (c : Int) (h0 : (decide (Int.ofNat i < (↑n : Int)) : Bool) = false) {Φ : Res → Prop} (ho : ∀ j, OutK E 0 0 (pm11x_end G C L g n l c j) Φ) (j : JN) : OutK E 0 0 (tm11 G C L g n l i c j) Φ :=
 oS hE [.run 2, (.ops [(3, (.d .len))] []), (.cond false), .run 6] [1, 4] (aP h0 <| aZ)
  ho
def pm74t_end (j : JN) : St := ⟨[], [(.code .ret), (.inBlock 1), (.code (aF [1, 1, 1, 0, 1, 0, 0, 1, 1] Tryz.f74)), (.inLoop (aF [1, 1, 1, 0, 1, 0, 0] Tryz.f74)), (.inBlock 0), (.code (aF [1, 1, 1, 1] Tryz.f74))], mkT j [(4, (iI 9))] 85 0⟩
theorem pm74t (hE : EnvOk E) (G C L F : List DT) (g n l q i k : Nat) (c u p : Int) (s z : ByteArray) (w : Bool) (h0 : (decide (Int.ofNat k < Int.ofNat i) : Bool) = true) (h1 : (0 : Int) ≤ Int.ofNat k ∧ Int.ofNat k < (↑n : Int)) (h2 : ((Int.ofNat k).toNat * nat_lit 4 : Nat) = k.mul (nat_lit 4)) (h3 : (getL C (k.mul (nat_lit 4) + 0) : Option DT) = (.some (.v (.string z)))) (h5 : ((iB (z.toList == s.toList)) : AV) = (iB w)) (h6 : (w : Bool) = true) {Φ : Res → Prop} (ho : ∀ j, OutK E 0 0 (pm74t_end j) Φ) (j : JN) : OutK E 0 0 (tm74 G C L F g n l q i k c u p s j) Φ :=
 oS hE [.run 3, (.cond true), .run 4, (.ops [(5, (.d (.ld (.v (.string z))))), (8, (.rn (iB w))), (3, (.d (.ix (k.mul (nat_lit 4))))), (4, (.d .fa))] []), (.cond true), .run 2] [4] (s' := fun j => ⟨[(bK (mQ c G g C n L l) 4 26), (bK [(.v (.string s)), (.v (.int .i64 u)), (.v (.int .i64 p)), (.dp (.s F q 2))] 4 97)], [(.code .ret), (.inBlock 1), (.code (aF [1, 1, 1, 0, 1, 0, 0, 1, 1] Tryz.f74)), (.inLoop (aF [1, 1, 1, 0, 1, 0, 0] Tryz.f74)), (.inBlock 0), (.code (aF [1, 1, 1, 1] Tryz.f74))], mkT j [(4, (iI 9))] 85 0⟩) (aQ h0 h1 h2 h3 <| aV <| aP h5 <| aP h6 <| aZ)
  fun j => gZ [] (ho j)
def pm74s_end (G C L F : List DT) (g n l q i k : Nat) (c u p : Int) (s : ByteArray) (j : JN) : St := ⟨[(bK (mQ c G g C n L l) 4 26), (bK [(.v (.string s)), (.v (.int .i64 u)), (.v (.int .i64 p)), (.dp (.s F q 2))] 4 97)], [(.code (aF [1, 1, 1, 0, 1, 0, 0] Tryz.f74)), (.inLoop (aF [1, 1, 1, 0, 1, 0, 0] Tryz.f74)), (.inBlock 0), (.code (aF [1, 1, 1, 1] Tryz.f74))], mkT j [(1, (iN i)), (2, (.e (.one (.ptr 0 0)))), (5, (.e (.one (.ptr 1 0)))), (7, (iN (k + 1)))] 85 0⟩
theorem pm74s (hE : EnvOk E) (G C L F : List DT) (g n l q i k : Nat) (c u p : Int) (s z : ByteArray) (w : Bool) (h0 : (decide (Int.ofNat k < Int.ofNat i) : Bool) = true) (h1 : (0 : Int) ≤ Int.ofNat k ∧ Int.ofNat k < (↑n : Int)) (h2 : ((Int.ofNat k).toNat * nat_lit 4 : Nat) = k.mul (nat_lit 4)) (h3 : (getL C (k.mul (nat_lit 4) + 0) : Option DT) = (.some (.v (.string z)))) (h5 : ((iB (z.toList == s.toList)) : AV) = (iB w)) (h6 : (w : Bool) = false) (h7 : ((iI (wrapF IntKind.i64 (Int.ofNat k + (1 : Int)))) : AV) = (iN (k + 1))) {Φ : Res → Prop} (ho : ∀ j, OutK E 0 0 (pm74s_end G C L F g n l q i k c u p s j) Φ) (j : JN) : OutK E 0 0 (tm74 G C L F g n l q i k c u p s j) Φ :=
 oS hE [.run 3, (.cond true), .run 4, (.ops [(5, (.d (.ld (.v (.string z))))), (8, (.rn (iB w))), (3, (.d (.ix (k.mul (nat_lit 4))))), (4, (.d .fa))] []), (.cond false), .run 2, (.ops [(1, (.rn (iN (k + 1))))] []), .run 1] [1, 2, 5, 7] (aQ h0 h1 h2 h3 <| aV <| aP h5 <| aP h6 <| aP h7 <| aZ)
  ho
def pm74z1_end (e : Int) (j : JN) : St := ⟨[], [(.code .ret), (.code (aF [1, 1, 1, 1, 1] Tryz.f74))], mkT j [(4, (iI e))] 85 0⟩
theorem pm74z1 (hE : EnvOk E) (G C L F : List DT) (g n l q i k : Nat) (c e u p : Int) (s : ByteArray) (h0 : (decide (Int.ofNat k < Int.ofNat i) : Bool) = false) (h1 : (Int.ofNat i == (0 : Int) : Bool) = true) (h2 : ((u != (0 : Int)) == false : Bool) = false) (h5 : (u != (0 : Int) : Bool) = true) (h6 : COut E 0 [] 73 [(iB true), (iI 21)] (iI e) []) {Φ : Res → Prop} (ho : ∀ j, OutK E 0 0 (pm74z1_end e j) Φ) (j : JN) : OutK E 0 0 (tm74 G C L F g n l q i k c u p s j) Φ :=
 oS hE [.run 3, (.cond false), .run 4, (.cond true), .run 1, (.ops [(14, (.c0 (iI e))), (7, (.pk true))] [(4, false), (5, false), (6, false)])] [4] (s' := fun j => ⟨[(bK (mQ c G g C n L l) 4 26), (bK [(.v (.string s)), (.v (.int .i64 u)), (.v (.int .i64 p)), (.dp (.s F q 2))] 4 97)], [(.code .ret), (.code (aF [1, 1, 1, 1, 1] Tryz.f74))], mkT j [(4, (iI e))] 85 0⟩) (aQ h0 h1 h2 h2 <| aP h2 <| aP h5 <| aP h6 <| aN <| aZ)
  fun j => gZ [] (ho j)
def pm74z2_end (e : Int) (j : JN) : St := ⟨[], [(.code .ret), (.code (aF [1, 1, 1, 1, 1] Tryz.f74))], mkT j [(4, (iI e))] 85 0⟩
theorem pm74z2 (hE : EnvOk E) (G C L F : List DT) (g n l q i k : Nat) (c e u p : Int) (s : ByteArray) (h0 : (decide (Int.ofNat k < Int.ofNat i) : Bool) = false) (h1 : (Int.ofNat i == (0 : Int) : Bool) = true) (h2 : ((u != (0 : Int)) == false : Bool) = true) (h5 : (u != (0 : Int) : Bool) = false) (h6 : ((p != (0 : Int)) == false : Bool) = false) (h10 : (p != (0 : Int) : Bool) = true) (h11 : COut E 0 [] 73 [(iB true), (iI 21)] (iI e) []) {Φ : Res → Prop} (ho : ∀ j, OutK E 0 0 (pm74z2_end e j) Φ) (j : JN) : OutK E 0 0 (tm74 G C L F g n l q i k c u p s j) Φ :=
 oS hE [.run 3, (.cond false), .run 4, (.cond true), .run 1, (.ops [(14, (.c0 (iI e))), (7, (.pk false)), (13, (.pk true))] [(4, true), (5, true), (6, true), (9, false), (10, false), (11, false), (12, false)])] [4] (s' := fun j => ⟨[(bK (mQ c G g C n L l) 4 26), (bK [(.v (.string s)), (.v (.int .i64 u)), (.v (.int .i64 p)), (.dp (.s F q 2))] 4 97)], [(.code .ret), (.code (aF [1, 1, 1, 1, 1] Tryz.f74))], mkT j [(4, (iI e))] 85 0⟩) (aQ h0 h1 h2 h2 <| aQ h2 h5 h6 h6 <| aQ h6 h6 h10 h11 <| aN <| aZ)
  fun j => gZ [] (ho j)
def pm74z3_end (e : Int) (j : JN) : St := ⟨[], [(.code .ret), (.code (aF [1, 1, 1, 1, 1] Tryz.f74))], mkT j [(4, (iI e))] 85 0⟩
theorem pm74z3 (hE : EnvOk E) (G C L F : List DT) (g n l q i k : Nat) (c e u p : Int) (s : ByteArray) (h0 : (decide (Int.ofNat k < Int.ofNat i) : Bool) = false) (h1 : (Int.ofNat i == (0 : Int) : Bool) = true) (h2 : ((u != (0 : Int)) == false : Bool) = true) (h5 : (u != (0 : Int) : Bool) = false) (h6 : ((p != (0 : Int)) == false : Bool) = true) (h10 : (p != (0 : Int) : Bool) = false) (h11 : COut E 0 [] 73 [(iB (decide ((↑q : Int) > (0 : Int)))), (iI 21)] (iI e) []) {Φ : Res → Prop} (ho : ∀ j, OutK E 0 0 (pm74z3_end e j) Φ) (j : JN) : OutK E 0 0 (tm74 G C L F g n l q i k c u p s j) Φ :=
 oS hE [.run 3, (.cond false), .run 4, (.cond true), .run 1, (.ops [(14, (.c0 (iI e))), (7, (.pk false)), (11, (.d .len)), (13, (.pk false))] [(4, true), (5, true), (6, true), (9, true), (10, true), (11, true), (12, true)])] [4] (s' := fun j => ⟨[(bK (mQ c G g C n L l) 4 26), (bK [(.v (.string s)), (.v (.int .i64 u)), (.v (.int .i64 p)), (.dp (.s F q 2))] 4 97)], [(.code .ret), (.code (aF [1, 1, 1, 1, 1] Tryz.f74))], mkT j [(4, (iI e))] 85 0⟩) (aQ h0 h1 h2 h2 <| aQ h2 h5 h6 h6 <| aQ h6 h6 h10 h11 <| aN <| aZ)
  fun j => gZ [] (ho j)
def pm74l_end (j : JN) : St := ⟨[], [(.code .ret), (.code (aF [1, 1, 1, 1, 1, 1] Tryz.f74))], mkT j [(4, (iI 10))] 85 0⟩
theorem pm74l (hE : EnvOk E) (G C L F : List DT) (g n l q i k : Nat) (c u p : Int) (s : ByteArray) (h0 : (decide (Int.ofNat k < Int.ofNat i) : Bool) = false) (h1 : (Int.ofNat i == (0 : Int) : Bool) = false) (h2 : (decide (u < (0 : Int)) == false : Bool) = false) (h6 : (decide (u < (0 : Int)) : Bool) = true) {Φ : Res → Prop} (ho : ∀ j, OutK E 0 0 (pm74l_end j) Φ) (j : JN) : OutK E 0 0 (tm74 G C L F g n l q i k c u p s j) Φ :=
 oS hE [.run 3, (.cond false), .run 4, (.cond false), .run 3, (.ops [(8, (.pk true))] [(4, false), (5, false), (6, false), (7, false)]), .run 3] [4] (s' := fun j => ⟨[(bK (mQ c G g C n L l) 4 26), (bK [(.v (.string s)), (.v (.int .i64 u)), (.v (.int .i64 p)), (.dp (.s F q 2))] 4 97)], [(.code .ret), (.code (aF [1, 1, 1, 1, 1, 1] Tryz.f74))], mkT j [(4, (iI 10))] 85 0⟩) (aQ h0 h1 h2 h2 <| aP h2 <| aP h2 <| aP h6 <| aZ)
  fun j => gZ [] (ho j)
def pm74h_end (j : JN) : St := ⟨[], [(.code .ret), (.code (aF [1, 1, 1, 1, 1, 1] Tryz.f74))], mkT j [(4, (iI 10))] 85 0⟩
theorem pm74h (hE : EnvOk E) (G C L F : List DT) (g n l q i k : Nat) (c u p : Int) (s : ByteArray) (h0 : (decide (Int.ofNat k < Int.ofNat i) : Bool) = false) (h1 : (Int.ofNat i == (0 : Int) : Bool) = false) (h2 : (decide (u < (0 : Int)) == false : Bool) = true) (h6 : (decide (u < (0 : Int)) : Bool) = false) (h7 : (decide (u ≥ Int.ofNat i) : Bool) = true) {Φ : Res → Prop} (ho : ∀ j, OutK E 0 0 (pm74h_end j) Φ) (j : JN) : OutK E 0 0 (tm74 G C L F g n l q i k c u p s j) Φ :=
 oS hE [.run 3, (.cond false), .run 4, (.cond false), .run 3, (.ops [(8, (.pk false))] [(4, true), (5, true), (6, true), (7, true)]), (.cond true), .run 2] [4] (s' := fun j => ⟨[(bK (mQ c G g C n L l) 4 26), (bK [(.v (.string s)), (.v (.int .i64 u)), (.v (.int .i64 p)), (.dp (.s F q 2))] 4 97)], [(.code .ret), (.code (aF [1, 1, 1, 1, 1, 1] Tryz.f74))], mkT j [(4, (iI 10))] 85 0⟩) (aQ h0 h1 h2 h2 <| aQ h2 h2 h6 h7 <| aZ)
  fun j => gZ [] (ho j)
def pm74y_end (e : Int) (j : JN) : St := ⟨[], [(.code .ret)], mkT j [(4, (iI e))] 85 0⟩
theorem pm74y (hE : EnvOk E) (G C L F : List DT) (g n l q i k m : Nat) (c a b e f u p y : Int) (s : ByteArray) (h0 : (decide (Int.ofNat k < Int.ofNat i) : Bool) = false) (h1 : (Int.ofNat i == (0 : Int) : Bool) = false) (h2 : (decide (u < (0 : Int)) == false : Bool) = true) (h6 : (decide (u < (0 : Int)) : Bool) = false) (h7 : (decide (u ≥ Int.ofNat i) : Bool) = false) (h8 : COut E 0 [] 41 [(iI p), (iI 1), (iI 3)] (iI a) []) (h10 : (decide (u > (0 : Int)) == true : Bool) = true) (h15 : (0 : Int) ≤ u ∧ u < (↑n : Int)) (h16 : (u.toNat * nat_lit 4 : Nat) = m.mul (4 : Nat)) (h19 : (getL C (m.mul (4 : Nat) + 2) : Option DT) = (.some (.v (.int .i64 y)))) (h23 : (decide (u > (0 : Int)) : Bool) = true) (h24 : COut E 0 [] 73 [(iB (y != p)), (iI 24)] (iI b) []) (h27 : COut E 0 [] 72 [(iI c), (.e (.one (.dp (.s F q 2))))] (iI f) []) (h29 : COut E 3 [(bK (mQ c G g C n L l) 4 26), (bK [(.v (.string s)), (.v (.int .i64 u)), (.v (.int .i64 p)), (.dp (.s F q 2))] 4 97), (bK [(.v (.int .i64 a)), (.v (.int .i64 b)), (.v (.int .i64 f))] 3 3)] 15 [(.e (.one (.slc 2 0 3 1 3 true)))] (iI e) [(bK (mQ c G g C n L l) 4 26), (bK [(.v (.string s)), (.v (.int .i64 u)), (.v (.int .i64 p)), (.dp (.s F q 2))] 4 97), (bK [(.v (.int .i64 a)), (.v (.int .i64 b)), (.v (.int .i64 f))] 3 3)]) {Φ : Res → Prop} (ho : ∀ j, OutK E 0 0 (pm74y_end e j) Φ) (j : JN) : OutK E 0 0 (tm74 G C L F g n l q i k c u p s j) Φ :=
 oS hE [.run 3, (.cond false), .run 4, (.cond false), .run 3, (.ops [(8, (.pk false))] [(4, true), (5, true), (6, true), (7, true)]), (.cond false), .run 2, (.ops [(2, (.c0 (iI a))), (11, (.d (.ix (m.mul (4 : Nat))))), (13, (.d (.ld (.v (.int .i64 y))))), (18, (.c0 (iI b))), (23, (.c0 (iI f))), (25, (.d (.c1 (iI e)))), (12, (.d .fa)), (17, (.pk true))] [(7, true), (8, true), (9, true), (10, true), (11, true), (12, true), (13, true), (14, true), (15, true), (16, true)])] [4] (s' := fun j => ⟨[(bK (mQ c G g C n L l) 4 26), (bK [(.v (.string s)), (.v (.int .i64 u)), (.v (.int .i64 p)), (.dp (.s F q 2))] 4 97), (bK [(.v (.int .i64 a)), (.v (.int .i64 b)), (.v (.int .i64 f))] 3 3)], [(.code .ret)], mkT j [(4, (iI e))] 85 0⟩) (aQ h0 h1 h2 h2 <| aQ h2 h2 h6 h7 <| aP h8 <| aN <| aQ h10 h10 h10 h10 <| aQ h10 h15 h16 h10 <| aQ h10 h19 h10 h10 <| aP h10 <| aP h23 <| aP h24 <| aN <| aV <| aP h27 <| aN <| aP h29 <| aN <| aZ)
  fun j => gZ [] (ho j)
def pm74x_end (e : Int) (j : JN) : St := ⟨[], [(.code .ret)], mkT j [(4, (iI e))] 85 0⟩
theorem pm74x (hE : EnvOk E) (G C L F : List DT) (g n l q i k : Nat) (c a b e f u p : Int) (s : ByteArray) (h0 : (decide (Int.ofNat k < Int.ofNat i) : Bool) = false) (h1 : (Int.ofNat i == (0 : Int) : Bool) = false) (h2 : (decide (u < (0 : Int)) == false : Bool) = true) (h6 : (decide (u < (0 : Int)) : Bool) = false) (h7 : (decide (u ≥ Int.ofNat i) : Bool) = false) (h8 : COut E 0 [] 41 [(iI p), (iI 1), (iI 3)] (iI a) []) (h10 : (decide (u > (0 : Int)) == true : Bool) = false) (h20 : (decide (u > (0 : Int)) : Bool) = false) (h21 : COut E 0 [] 73 [(iB false), (iI 24)] (iI b) []) (h24 : COut E 0 [] 72 [(iI c), (.e (.one (.dp (.s F q 2))))] (iI f) []) (h26 : COut E 3 [(bK (mQ c G g C n L l) 4 26), (bK [(.v (.string s)), (.v (.int .i64 u)), (.v (.int .i64 p)), (.dp (.s F q 2))] 4 97), (bK [(.v (.int .i64 a)), (.v (.int .i64 b)), (.v (.int .i64 f))] 3 3)] 15 [(.e (.one (.slc 2 0 3 1 3 true)))] (iI e) [(bK (mQ c G g C n L l) 4 26), (bK [(.v (.string s)), (.v (.int .i64 u)), (.v (.int .i64 p)), (.dp (.s F q 2))] 4 97), (bK [(.v (.int .i64 a)), (.v (.int .i64 b)), (.v (.int .i64 f))] 3 3)]) {Φ : Res → Prop} (ho : ∀ j, OutK E 0 0 (pm74x_end e j) Φ) (j : JN) : OutK E 0 0 (tm74 G C L F g n l q i k c u p s j) Φ :=
 oS hE [.run 3, (.cond false), .run 4, (.cond false), .run 3, (.ops [(8, (.pk false))] [(4, true), (5, true), (6, true), (7, true)]), (.cond false), .run 2, (.ops [(2, (.c0 (iI a))), (18, (.c0 (iI b))), (23, (.c0 (iI f))), (25, (.d (.c1 (iI e)))), (17, (.pk false))] [(7, false), (8, false), (9, false), (10, false), (11, false), (12, false), (13, false), (14, false), (15, false), (16, false)])] [4] (s' := fun j => ⟨[(bK (mQ c G g C n L l) 4 26), (bK [(.v (.string s)), (.v (.int .i64 u)), (.v (.int .i64 p)), (.dp (.s F q 2))] 4 97), (bK [(.v (.int .i64 a)), (.v (.int .i64 b)), (.v (.int .i64 f))] 3 3)], [(.code .ret)], mkT j [(4, (iI e))] 85 0⟩) (aQ h0 h1 h2 h2 <| aQ h2 h2 h6 h7 <| aP h8 <| aN <| aQ h10 h10 h10 h10 <| aQ h10 h10 h10 h10 <| aQ h10 h10 h20 h21 <| aN <| aV <| aP h24 <| aN <| aP h26 <| aN <| aZ)
  fun j => gZ [] (ho j)
def pm14n_end (e : Int) (j : JN) : St := ⟨[], [(.code .ret), (.inBlock 1), (.code (aF [1, 1, 1, 0, 1, 0, 0, 1, 1] Tryz.f14)), (.inLoop (aF [1, 1, 1, 0, 1, 0, 0] Tryz.f14)), (.inBlock 0), (.code (aF [1, 1, 1, 1] Tryz.f14))], mkT j [(2, (iI e))] 82 0⟩
theorem pm14n (hE : EnvOk E) (G C L : List DT) (g n l i : Nat) (c e : Int) (h0 : (decide (Int.ofNat i < (↑n : Int)) : Bool) = true) (h1 : COut E 0 [] 74 [(.e (.agg (mQ c G g C n L l))), (iN i)] (iI e) []) (h3 : (e != (0 : Int) : Bool) = true) {Φ : Res → Prop} (ho : ∀ j, OutK E 0 0 (pm14n_end e j) Φ) (j : JN) : OutK E 0 0 (tm14 G C L g n l i c j) Φ :=
 oS hE [.run 2, (.ops [(3, (.d .len))] []), (.cond true), .run 4, (.ops [(2, (.c0 (iI e)))] []), .run 2, (.cond true), .run 2] [2] (s' := fun j => ⟨[(bK (mQ c G g C n L l) 4 26)], [(.code .ret), (.inBlock 1), (.code (aF [1, 1, 1, 0, 1, 0, 0, 1, 1] Tryz.f14)), (.inLoop (aF [1, 1, 1, 0, 1, 0, 0] Tryz.f14)), (.inBlock 0), (.code (aF [1, 1, 1, 1] Tryz.f14))], mkT j [(2, (iI e))] 82 0⟩) (aP h0 <| aP h1 <| aN <| aP h3 <| aZ)
  fun j => gZ [] (ho j)
def pm14s_end (G C L : List DT) (g n l i : Nat) (c : Int) (j : JN) : St := ⟨[(bK (mQ c G g C n L l) 4 26)], [(.code (aF [1, 1, 1, 0, 1, 0, 0] Tryz.f14)), (.inLoop (aF [1, 1, 1, 0, 1, 0, 0] Tryz.f14)), (.inBlock 0), (.code (aF [1, 1, 1, 1] Tryz.f14))], mkT j [(1, (.e (.one (.ptr 0 0)))), (5, (iN (i + 1)))] 82 0⟩
theorem pm14s (hE : EnvOk E) (G C L : List DT) (g n l i : Nat) (c e : Int) (h0 : (decide (Int.ofNat i < (↑n : Int)) : Bool) = true) (h1 : COut E 0 [] 74 [(.e (.agg (mQ c G g C n L l))), (iN i)] (iI e) []) (h3 : (e != (0 : Int) : Bool) = false) (h4 : ((iI (wrapF IntKind.i64 (Int.ofNat i + (1 : Int)))) : AV) = (iN (i + 1))) {Φ : Res → Prop} (ho : ∀ j, OutK E 0 0 (pm14s_end G C L g n l i c j) Φ) (j : JN) : OutK E 0 0 (tm14 G C L g n l i c j) Φ :=
 oS hE [.run 2, (.ops [(3, (.d .len))] []), (.cond true), .run 4, (.ops [(2, (.c0 (iI e)))] []), .run 2, (.cond false), .run 2, (.ops [(1, (.rn (iN (i + 1))))] []), .run 1] [1, 5] (aP h0 <| aP h1 <| aN <| aP h3 <| aP h4 <| aZ)
  ho
def pm14m_end (j : JN) : St := ⟨[], [(.code .ret), (.code (aF [1, 1, 1, 1, 1] Tryz.f14))], mkT j [(2, (iI 5))] 82 0⟩
theorem pm14m (hE : EnvOk E) (G C L : List DT) (g n l i : Nat) (c : Int) (h0 : (decide (Int.ofNat i < (↑n : Int)) : Bool) = false) (h1 : (decide ((↑l : Int) > (16 : Int)) : Bool) = true) {Φ : Res → Prop} (ho : ∀ j, OutK E 0 0 (pm14m_end j) Φ) (j : JN) : OutK E 0 0 (tm14 G C L g n l i c j) Φ :=
 oS hE [.run 2, (.ops [(3, (.d .len))] []), (.cond false), .run 3, (.ops [(2, (.d .len))] []), (.cond true), .run 2] [2] (s' := fun j => ⟨[(bK (mQ c G g C n L l) 4 26)], [(.code .ret), (.code (aF [1, 1, 1, 1, 1] Tryz.f14))], mkT j [(2, (iI 5))] 82 0⟩) (aP h0 <| aP h1 <| aZ)
  fun j => gZ [] (ho j)
def pm14x_end (G C L : List DT) (g n l : Nat) (c : Int) (j : JN) : St := ⟨[(bK (mQ c G g C n L l) 4 26)], [(.code (aF [1, 1, 1, 1, 1, 0, 1, 0, 0] Tryz.f14)), (.inLoop (aF [1, 1, 1, 1, 1, 0, 1, 0, 0] Tryz.f14)), (.inBlock 2), (.code (aF [1, 1, 1, 1, 1, 1] Tryz.f14))], mkT j [(1, (.e (.one (.ptr 0 0)))), (7, (iI 0))] 82 0⟩
theorem pm14x (hE : EnvOk E) (G C L : List DT) (g n l i : Nat) (c : Int) (h0 : (decide (Int.ofNat i < (↑n : Int)) : Bool) = false) (h1 : (decide ((↑l : Int) > (16 : Int)) : Bool) = false) {Φ : Res → Prop} (ho : ∀ j, OutK E 0 0 (pm14x_end G C L g n l c j) Φ) (j : JN) : OutK E 0 0 (tm14 G C L g n l i c j) Φ :=
 oS hE [.run 2, (.ops [(3, (.d .len))] []), (.cond false), .run 3, (.ops [(2, (.d .len))] []), (.cond false), .run 6] [1, 7] (aP h0 <| aP h1 <| aZ)
  ho
def pm11P_end (j : JN) : St := ⟨[], [(.code .ret), (.inBlock 3), (.code (aF [1, 1, 1, 0, 1, 0, 0, 1, 1] Tryz.f11)), (.inLoop (aF [1, 1, 1, 0, 1, 0, 0] Tryz.f11)), (.inBlock 2), (.code (aF [1, 1, 1, 1] Tryz.f11))], mkT j [(2, (iB false))] 71 0⟩
theorem pm11P (hE : EnvOk E) (G C L : List DT) (g n l i : Nat) (c : Int) (s : ByteArray) (w : Bool) (h0 : (decide (Int.ofNat i < (↑l : Int)) : Bool) = true) (h1 : (0 : Int) ≤ Int.ofNat i ∧ Int.ofNat i < (↑l : Int)) (h2 : ((Int.ofNat i).toNat * nat_lit 3 : Nat) = i.mul (nat_lit 3)) (h3 : (getL L (i.mul (nat_lit 3) + 1) : Option DT) = (.some (.v (.string s)))) (h4 : ((iB (decide ((↑s.size : Int) > (40 : Int)))) : AV) = (iB w)) (h5 : (w == false : Bool) = false) (h13 : (w : Bool) = true) {Φ : Res → Prop} (ho : ∀ j, OutK E 0 0 (pm11P_end j) Φ) (j : JN) : OutK E 0 0 (um11 G C L g n l i c j) Φ :=
 oS hE [.run 2, (.ops [(3, (.d .len))] []), (.cond true), .run 4, (.ops [(5, (.d (.ld (.v (.string s))))), (7, (.rn (iB w))), (3, (.d (.ix (i.mul (nat_lit 3))))), (4, (.d .fa)), (17, (.pk true))] [(9, false), (10, false), (11, false), (12, false), (13, false), (14, false), (15, false), (16, false)]), .run 3] [2] (s' := fun j => ⟨[(bK (mQ c G g C n L l) 4 26)], [(.code .ret), (.inBlock 3), (.code (aF [1, 1, 1, 0, 1, 0, 0, 1, 1] Tryz.f11)), (.inLoop (aF [1, 1, 1, 0, 1, 0, 0] Tryz.f11)), (.inBlock 2), (.code (aF [1, 1, 1, 1] Tryz.f11))], mkT j [(2, (iB false))] 71 0⟩) (aQ h0 h1 h2 h3 <| aQ h4 h5 h5 h5 <| aQ h5 h5 h5 h5 <| aP h5 <| aP h13 <| aZ)
  fun j => gZ [] (ho j)
def pm11Q_end (j : JN) : St := ⟨[], [(.code .ret), (.inBlock 3), (.code (aF [1, 1, 1, 0, 1, 0, 0, 1, 1] Tryz.f11)), (.inLoop (aF [1, 1, 1, 0, 1, 0, 0] Tryz.f11)), (.inBlock 2), (.code (aF [1, 1, 1, 1] Tryz.f11))], mkT j [(2, (iB false))] 71 0⟩
theorem pm11Q (hE : EnvOk E) (G C L F : List DT) (g n l q i : Nat) (c : Int) (s : ByteArray) (w : Bool) (h0 : (decide (Int.ofNat i < (↑l : Int)) : Bool) = true) (h1 : (0 : Int) ≤ Int.ofNat i ∧ Int.ofNat i < (↑l : Int)) (h2 : ((Int.ofNat i).toNat * nat_lit 3 : Nat) = i.mul (nat_lit 3)) (h3 : (getL L (i.mul (nat_lit 3) + 1) : Option DT) = (.some (.v (.string s)))) (h4 : ((iB (decide ((↑s.size : Int) > (40 : Int)))) : AV) = (iB w)) (h5 : (w == false : Bool) = true) (h13 : (getL L (i.mul (nat_lit 3) + 2) : Option DT) = (.some (.s F q 2))) (h16 : (w : Bool) = false) (h17 : (decide ((↑q : Int) > (9 : Int)) : Bool) = true) {Φ : Res → Prop} (ho : ∀ j, OutK E 0 0 (pm11Q_end j) Φ) (j : JN) : OutK E 0 0 (um11 G C L g n l i c j) Φ :=
 oS hE [.run 2, (.ops [(3, (.d .len))] []), (.cond true), .run 4, (.ops [(5, (.d (.ld (.v (.string s))))), (7, (.rn (iB w))), (14, (.d (.ld (.s F q 2)))), (3, (.d (.ix (i.mul (nat_lit 3))))), (4, (.d .fa)), (12, (.d (.ix (i.mul (nat_lit 3))))), (13, (.d .fa)), (15, (.d .len)), (17, (.pk false))] [(9, true), (10, true), (11, true), (12, true), (13, true), (14, true), (15, true), (16, true)]), (.cond true), .run 2] [2] (s' := fun j => ⟨[(bK (mQ c G g C n L l) 4 26)], [(.code .ret), (.inBlock 3), (.code (aF [1, 1, 1, 0, 1, 0, 0, 1, 1] Tryz.f11)), (.inLoop (aF [1, 1, 1, 0, 1, 0, 0] Tryz.f11)), (.inBlock 2), (.code (aF [1, 1, 1, 1] Tryz.f11))], mkT j [(2, (iB false))] 71 0⟩) (aQ h0 h1 h2 h3 <| aQ h4 h5 h5 h5 <| aQ h5 h1 h2 h5 <| aQ h5 h13 h5 h5 <| aP h16 <| aP h17 <| aZ)
  fun j => gZ [] (ho j)
def pm11S_end (G C L : List DT) (g n l i : Nat) (c : Int) (j : JN) : St := ⟨[(bK (mQ c G g C n L l) 4 26)], [(.code (aF [1, 1, 1, 0, 1, 0, 0] Tryz.f11)), (.inLoop (aF [1, 1, 1, 0, 1, 0, 0] Tryz.f11)), (.inBlock 2), (.code (aF [1, 1, 1, 1] Tryz.f11))], mkT j [(1, (.e (.one (.ptr 0 0)))), (4, (iN (i + 1)))] 71 0⟩
theorem pm11S (hE : EnvOk E) (G C L F : List DT) (g n l q i : Nat) (c : Int) (s : ByteArray) (w : Bool) (h0 : (decide (Int.ofNat i < (↑l : Int)) : Bool) = true) (h1 : (0 : Int) ≤ Int.ofNat i ∧ Int.ofNat i < (↑l : Int)) (h2 : ((Int.ofNat i).toNat * nat_lit 3 : Nat) = i.mul (nat_lit 3)) (h3 : (getL L (i.mul (nat_lit 3) + 1) : Option DT) = (.some (.v (.string s)))) (h4 : ((iB (decide ((↑s.size : Int) > (40 : Int)))) : AV) = (iB w)) (h5 : (w == false : Bool) = true) (h13 : (getL L (i.mul (nat_lit 3) + 2) : Option DT) = (.some (.s F q 2))) (h16 : (w : Bool) = false) (h17 : (decide ((↑q : Int) > (9 : Int)) : Bool) = false) (h18 : ((iI (wrapF IntKind.i64 (Int.ofNat i + (1 : Int)))) : AV) = (iN (i + 1))) {Φ : Res → Prop} (ho : ∀ j, OutK E 0 0 (pm11S_end G C L g n l i c j) Φ) (j : JN) : OutK E 0 0 (um11 G C L g n l i c j) Φ :=
 oS hE [.run 2, (.ops [(3, (.d .len))] []), (.cond true), .run 4, (.ops [(5, (.d (.ld (.v (.string s))))), (7, (.rn (iB w))), (14, (.d (.ld (.s F q 2)))), (3, (.d (.ix (i.mul (nat_lit 3))))), (4, (.d .fa)), (12, (.d (.ix (i.mul (nat_lit 3))))), (13, (.d .fa)), (15, (.d .len)), (17, (.pk false))] [(9, true), (10, true), (11, true), (12, true), (13, true), (14, true), (15, true), (16, true)]), (.cond false), .run 2, (.ops [(1, (.rn (iN (i + 1))))] []), .run 1] [1, 4] (aQ h0 h1 h2 h3 <| aQ h4 h5 h5 h5 <| aQ h5 h1 h2 h5 <| aQ h5 h13 h5 h5 <| aP h16 <| aP h17 <| aP h18 <| aZ)
  ho
def pm11X_end (j : JN) : St := ⟨[], [(.code .ret)], mkT j [(2, (iB true))] 71 0⟩
theorem pm11X (hE : EnvOk E) (G C L : List DT) (g n l i : Nat) (c : Int) (h0 : (decide (Int.ofNat i < (↑l : Int)) : Bool) = false) {Φ : Res → Prop} (ho : ∀ j, OutK E 0 0 (pm11X_end j) Φ) (j : JN) : OutK E 0 0 (um11 G C L g n l i c j) Φ :=
 oS hE [.run 2, (.ops [(3, (.d .len))] []), (.cond false), .run 3] [2] (s' := fun j => ⟨[(bK (mQ c G g C n L l) 4 26)], [(.code .ret)], mkT j [(2, (iB true))] 71 0⟩) (aP h0 <| aZ)
  fun j => gZ [] (ho j)
def pm14L_end (e : Int) (j : JN) : St := ⟨[], [(.code .ret), (.inBlock 3), (.code (aF [1, 1, 1, 1, 1, 0, 1, 0, 0, 1, 1] Tryz.f14)), (.inLoop (aF [1, 1, 1, 1, 1, 0, 1, 0, 0] Tryz.f14)), (.inBlock 2), (.code (aF [1, 1, 1, 1, 1, 1] Tryz.f14))], mkT j [(2, (iI e))] 82 0⟩
theorem pm14L (hE : EnvOk E) (G C L F : List DT) (g n l q i : Nat) (c a b e f p : Int) (s : ByteArray) (h0 : (decide (Int.ofNat i < (↑l : Int)) : Bool) = true) (h1 : (0 : Int) ≤ Int.ofNat i ∧ Int.ofNat i < (↑l : Int)) (h2 : ((Int.ofNat i).toNat * nat_lit 3 : Nat) = i.mul (nat_lit 3)) (h3 : (takeL (dropL L (i.mul (nat_lit 3))) (3 : Nat) : Option (List DT)) = (.some [(.v (.int .i64 a)), (.v (.string s)), (.s F q 2)])) (h4 : COut E 0 [] 16 [(.e (.agg (mQ c G g C n L l))), (iI a)] (iI b) []) (h6 : COut E 0 [] 28 [(.e (.one (.v (.string s))))] (iI p) []) (h9 : COut E 0 [] 72 [(iI c), (.e (.one (.dp (.s F q 2))))] (iI f) []) (h11 : COut E 3 [(bK (mQ c G g C n L l) 4 26), (bK [(.v (.int .i64 a)), (.v (.string s)), (.dp (.s F q 2))] 3 99), (bK [(.v (.int .i64 b)), (.v (.int .i64 p)), (.v (.int .i64 f))] 3 3)] 15 [(.e (.one (.slc 2 0 3 1 3 true)))] (iI e) [(bK (mQ c G g C n L l) 4 26), (bK [(.v (.int .i64 a)), (.v (.string s)), (.dp (.s F q 2))] 3 99), (bK [(.v (.int .i64 b)), (.v (.int .i64 p)), (.v (.int .i64 f))] 3 3)]) (h13 : (e != (0 : Int) : Bool) = true) {Φ : Res → Prop} (ho : ∀ j, OutK E 0 0 (pm14L_end e j) Φ) (j : JN) : OutK E 0 0 (um14 G C L g n l i c j) Φ :=
 oS hE [.run 2, (.ops [(3, (.d .len))] []), (.cond true), .run 4, (.ops [(4, (.d (.ldn [(.v (.int .i64 a)), (.v (.string s)), (.s F q 2)]))), (3, (.d (.ix (i.mul (nat_lit 3)))))] []), .run 1, (.ops [(3, (.c0 (iI b))), (6, (.c0 (iI p))), (11, (.c0 (iI f))), (13, (.d (.c1 (iI e))))] []), .run 2, (.cond true), .run 2] [2] (s' := fun j => ⟨[(bK (mQ c G g C n L l) 4 26), (bK [(.v (.int .i64 a)), (.v (.string s)), (.dp (.s F q 2))] 3 99), (bK [(.v (.int .i64 b)), (.v (.int .i64 p)), (.v (.int .i64 f))] 3 3)], [(.code .ret), (.inBlock 3), (.code (aF [1, 1, 1, 1, 1, 0, 1, 0, 0, 1, 1] Tryz.f14)), (.inLoop (aF [1, 1, 1, 1, 1, 0, 1, 0, 0] Tryz.f14)), (.inBlock 2), (.code (aF [1, 1, 1, 1, 1, 1] Tryz.f14))], mkT j [(2, (iI e))] 82 0⟩) (aQ h0 h1 h2 h3 <| aP h4 <| aN <| aP h6 <| aN <| aV <| aP h9 <| aN <| aP h11 <| aN <| aP h13 <| aZ)
  fun j => gZ [] (ho j)
def pm14S_end (G C L : List DT) (g n l i : Nat) (c : Int) (j : JN) : St := ⟨[(bK (mQ c G g C n L l) 4 26)], [(.code (aF [1, 1, 1, 1, 1, 0, 1, 0, 0] Tryz.f14)), (.inLoop (aF [1, 1, 1, 1, 1, 0, 1, 0, 0] Tryz.f14)), (.inBlock 2), (.code (aF [1, 1, 1, 1, 1, 1] Tryz.f14))], mkT j [(1, (.e (.one (.ptr 0 0)))), (7, (iN (i + 1)))] 82 0⟩
theorem pm14S (hE : EnvOk E) (G C L F : List DT) (g n l q i : Nat) (c a b e f p : Int) (s : ByteArray) (h0 : (decide (Int.ofNat i < (↑l : Int)) : Bool) = true) (h1 : (0 : Int) ≤ Int.ofNat i ∧ Int.ofNat i < (↑l : Int)) (h2 : ((Int.ofNat i).toNat * nat_lit 3 : Nat) = i.mul (nat_lit 3)) (h3 : (takeL (dropL L (i.mul (nat_lit 3))) (3 : Nat) : Option (List DT)) = (.some [(.v (.int .i64 a)), (.v (.string s)), (.s F q 2)])) (h4 : COut E 0 [] 16 [(.e (.agg (mQ c G g C n L l))), (iI a)] (iI b) []) (h6 : COut E 0 [] 28 [(.e (.one (.v (.string s))))] (iI p) []) (h9 : COut E 0 [] 72 [(iI c), (.e (.one (.dp (.s F q 2))))] (iI f) []) (h11 : COut E 3 [(bK (mQ c G g C n L l) 4 26), (bK [(.v (.int .i64 a)), (.v (.string s)), (.dp (.s F q 2))] 3 99), (bK [(.v (.int .i64 b)), (.v (.int .i64 p)), (.v (.int .i64 f))] 3 3)] 15 [(.e (.one (.slc 2 0 3 1 3 true)))] (iI e) [(bK (mQ c G g C n L l) 4 26), (bK [(.v (.int .i64 a)), (.v (.string s)), (.dp (.s F q 2))] 3 99), (bK [(.v (.int .i64 b)), (.v (.int .i64 p)), (.v (.int .i64 f))] 3 3)]) (h13 : (e != (0 : Int) : Bool) = false) (h14 : ((iI (wrapF IntKind.i64 (Int.ofNat i + (1 : Int)))) : AV) = (iN (i + 1))) {Φ : Res → Prop} (ho : ∀ j, OutK E 0 0 (pm14S_end G C L g n l i c j) Φ) (j : JN) : OutK E 0 0 (um14 G C L g n l i c j) Φ :=
 oS hE [.run 2, (.ops [(3, (.d .len))] []), (.cond true), .run 4, (.ops [(4, (.d (.ldn [(.v (.int .i64 a)), (.v (.string s)), (.s F q 2)]))), (3, (.d (.ix (i.mul (nat_lit 3)))))] []), .run 1, (.ops [(3, (.c0 (iI b))), (6, (.c0 (iI p))), (11, (.c0 (iI f))), (13, (.d (.c1 (iI e))))] []), .run 2, (.cond false), .run 2, (.ops [(1, (.rn (iN (i + 1))))] []), .run 1] [1, 7] (s' := fun j => ⟨[(bK (mQ c G g C n L l) 4 26), (bK [(.v (.int .i64 a)), (.v (.string s)), (.dp (.s F q 2))] 3 99), (bK [(.v (.int .i64 b)), (.v (.int .i64 p)), (.v (.int .i64 f))] 3 3)], [(.code (aF [1, 1, 1, 1, 1, 0, 1, 0, 0] Tryz.f14)), (.inLoop (aF [1, 1, 1, 1, 1, 0, 1, 0, 0] Tryz.f14)), (.inBlock 2), (.code (aF [1, 1, 1, 1, 1, 1] Tryz.f14))], mkT j [(1, (.e (.one (.ptr 0 0)))), (7, (iN (i + 1)))] 82 0⟩) (aQ h0 h1 h2 h3 <| aP h4 <| aN <| aP h6 <| aN <| aV <| aP h9 <| aN <| aP h11 <| aN <| aP h13 <| aP h14 <| aZ)
  fun j => gZ [0] (ho j)
def pm14X_end (j : JN) : St := ⟨[], [(.code .ret)], mkT j [(2, (iI 0))] 82 0⟩
theorem pm14X (hE : EnvOk E) (G C L : List DT) (g n l i : Nat) (c : Int) (h0 : (decide (Int.ofNat i < (↑l : Int)) : Bool) = false) {Φ : Res → Prop} (ho : ∀ j, OutK E 0 0 (pm14X_end j) Φ) (j : JN) : OutK E 0 0 (um14 G C L g n l i c j) Φ :=
 oS hE [.run 2, (.ops [(3, (.d .len))] []), (.cond false), .run 3] [2] (s' := fun j => ⟨[(bK (mQ c G g C n L l) 4 26)], [(.code .ret)], mkT j [(2, (iI 0))] 82 0⟩) (aP h0 <| aZ)
  fun j => gZ [] (ho j)
def sameS (z s : ByteArray) : Bool := z.toList == s.toList
def twiceB (N : List Nd) (s : ByteArray) : Bool := N.any fun y => sameS y.s s
def phs (N : List Nd) (u : Int) : Int := ((N[u.toNat]?).map Nd.p).getD 0
def plE (c : Int) (N : List Nd) (i : Nat) (x : Nd) : Int := if i = 0 then fI (x.u != 0 || x.p != 0 || decide (0 < x.f.length)) 21 else if x.u < 0 ∨ (i : Int) ≤ x.u then 10 else firstI [rg x.p 1 3, fI (decide (x.u > 0) && (phs N x.u != x.p)) 24, facE c x.f]
def ndE (c : Int) (N : List Nd) (i : Nat) (x : Nd) : Int := firstI [nmE x.s, fI (twiceB (N.take i) x.s) 9, plE c N i x]
def nodesE (c : Int) (N : List Nd) : Nat → List Nd → Int
 | _, [] => 0
 | i, x :: r => if ndE c N i x = 0 then nodesE c N (i + 1) r else ndE c N i x
def ldE (c : Int) (N : List Nd) (x : Ld) : Int := firstI [ixE x.k N.length, stE x.s, facE c x.f]
def loadsE (c : Int) (N : List Nd) : List Ld → Int
 | [] => 0
 | x :: r => if ldE c N x = 0 then loadsE c N r else ldE c N x
def someN (c : Int) (N : List Nd) : Int := if N.length = 0 then 12 else if 16 < N.length then 5 else nodesE c N 0 N
def mostL (c : Int) (N : List Nd) (L : List Ld) : Int := if 16 < L.length then 5 else loadsE c N L
def manE (c : Int) (g : List Gs) (N : List Nd) (L : List Ld) : Int := firstI [rg c 1 8, facE c g, someN c N, mostL c N L]
def nBm (x : Nd) : Bool := decide (x.s.size ≤ 40) && decide (x.f.length ≤ 9)
def lBm (x : Ld) : Bool := decide (x.s.size ≤ 40) && decide (x.f.length ≤ 9)
def shortM (g : List Gs) (N : List Nd) (L : List Ld) : Bool := (decide (g.length ≤ 9) && decide (N.length ≤ 17) && decide (L.length ≤ 17)) && (N.all nBm && L.all lBm)
theorem l11b (hE : EnvOk E) (c : Int) (g : List Gs) (N : List Nd) (L : List Ld) (hL : L.length ≤ 9223372036854775807) : ∀ k i, k + i = L.length → ∀ j, OutK E 0 0 (um11 (gD g) (ndD N) (ldD L) g.length N.length L.length i c j) (Go.Ev.Ends E Tryz.f11 (iB ((L.drop i).all lBm)) [])
 | 0, i, hk, j => by
  obtain rfl : i = L.length := by omega
  rw [List.drop_length]
  exact pm11X hE (gD g) (ndD N) (ldD L) g.length N.length L.length L.length c dF (fun j => outK_ret (ends_ret (by kernel_rfl))) j
 | k + 1, i, hk, j => by
  have hi : i < L.length := by omega
  have hx := List.getElem?_eq_getElem hi
  rw [List.drop_eq_getElem_cons hi, List.all_cons]
  have ih := l11b hE c g N L hL k (i + 1) (by omega)
  generalize L[i] = x at hx
  by_cases h1 : x.s.size ≤ 40
  ·by_cases h2 : x.f.length ≤ 9
   ·rw [show lBm x = true by unfold lBm; rw [decide_eq_true h1, decide_eq_true h2]; rfl]
    exact pm11S hE (gD g) (ndD N) (ldD L) (gD x.f) g.length N.length L.length x.f.length i c x.s false dT bP rfl (ld_s hx) (congrArg iB (decide_eq_false (by omega))) rfl (ld_f hx) rfl dF wQ ih j
   ·rw [show lBm x = false by unfold lBm; rw [decide_eq_false h2, Bool.and_false]]
    exact pm11Q hE (gD g) (ndD N) (ldD L) (gD x.f) g.length N.length L.length x.f.length i c x.s false dT bP rfl (ld_s hx) (congrArg iB (decide_eq_false (by omega))) rfl (ld_f hx) rfl dT (fun j => outK_ret (ends_ret (by kernel_rfl))) j
  ·rw [show lBm x = false by unfold lBm; rw [decide_eq_false h1]; rfl]
   exact pm11P hE (gD g) (ndD N) (ldD L) g.length N.length L.length i c x.s true dT bP rfl (ld_s hx) (congrArg iB (decide_eq_true (by omega))) rfl rfl (fun j => outK_ret (ends_ret (by kernel_rfl))) j
theorem l11a (hE : EnvOk E) (c : Int) (g : List Gs) (N : List Nd) (L : List Ld) (hN : N.length ≤ 9223372036854775807) (hL : L.length ≤ 9223372036854775807) : ∀ k i, k + i = N.length → ∀ j, OutK E 0 0 (tm11 (gD g) (ndD N) (ldD L) g.length N.length L.length i c j) (Go.Ev.Ends E Tryz.f11 (iB ((N.drop i).all nBm && L.all lBm)) [])
 | 0, i, hk, j => by
  obtain rfl : i = N.length := by omega
  rw [List.drop_length]
  exact pm11x hE (gD g) (ndD N) (ldD L) g.length N.length L.length N.length c dF (l11b hE c g N L hL L.length 0 rfl) j
 | k + 1, i, hk, j => by
  have hi : i < N.length := by omega
  have hx := List.getElem?_eq_getElem hi
  rw [List.drop_eq_getElem_cons hi, List.all_cons, Bool.and_assoc]
  have ih := l11a hE c g N L hN hL k (i + 1) (by omega)
  generalize N[i] = x at hx
  by_cases h1 : x.s.size ≤ 40
  ·by_cases h2 : x.f.length ≤ 9
   ·rw [show nBm x = true by unfold nBm; rw [decide_eq_true h1, decide_eq_true h2]; rfl]
    exact pm11s hE (gD g) (ndD N) (ldD L) (gD x.f) g.length N.length L.length x.f.length i c x.s false dT bP rfl (nd_s hx) (congrArg iB (decide_eq_false (by omega))) rfl (nd_f hx) rfl dF wQ ih j
   ·rw [show nBm x = false by unfold nBm; rw [decide_eq_false h2, Bool.and_false]]
    exact pm11q hE (gD g) (ndD N) (ldD L) (gD x.f) g.length N.length L.length x.f.length i c x.s false dT bP rfl (nd_s hx) (congrArg iB (decide_eq_false (by omega))) rfl (nd_f hx) rfl dT (fun j => outK_ret (ends_ret (by kernel_rfl))) j
  ·rw [show nBm x = false by unfold nBm; rw [decide_eq_false h1]; rfl]
   exact pm11p hE (gD g) (ndD N) (ldD L) g.length N.length L.length i c x.s true dT bP rfl (nd_s hx) (congrArg iB (decide_eq_true (by omega))) rfl rfl (fun j => outK_ret (ends_ret (by kernel_rfl))) j
theorem K11 (hE : EnvOk E) (c : Int) (g : List Gs) (N : List Nd) (L : List Ld) (hN : N.length ≤ 9223372036854775807) (hL : L.length ≤ 9223372036854775807) : COut E 0 [] 11 [aM c g N L] (iB (shortM g N L)) [] := by
 unfold shortM
 by_cases h1 : g.length ≤ 9
 ·by_cases h2 : N.length ≤ 17
  ·by_cases h3 : L.length ≤ 17
   ·rw [decide_eq_true h1, decide_eq_true h2, decide_eq_true h3]
    exact cOut_clear (cOut_start Tryz.func11 rfl (pm11a hE (gD g) (ndD N) (ldD L) g.length N.length L.length c (by rw [decide_eq_false (by (try simp only [Int.ofNat_eq_natCast]); omega)]; rfl) dF (by rw [decide_eq_false (by (try simp only [Int.ofNat_eq_natCast]); omega)]; rfl) dF dF (l11a hE c g N L hN hL N.length 0 rfl) uD)) rfl
   ·rw [decide_eq_false h3, Bool.and_false, Bool.false_and]
    exact cOut_clear (cOut_start Tryz.func11 rfl (pm11l hE (gD g) (ndD N) (ldD L) g.length N.length L.length c (by rw [decide_eq_false (by (try simp only [Int.ofNat_eq_natCast]); omega)]; rfl) dF (by rw [decide_eq_false (by (try simp only [Int.ofNat_eq_natCast]); omega)]; rfl) dF dT (fun j => outK_ret (ends_ret (by kernel_rfl))) uD)) rfl
  ·rw [decide_eq_false h2, Bool.and_false, Bool.false_and, Bool.false_and]
   exact cOut_clear (cOut_start Tryz.func11 rfl (pm11n hE (gD g) (ndD N) (ldD L) g.length N.length L.length c (by rw [decide_eq_false (by (try simp only [Int.ofNat_eq_natCast]); omega)]; rfl) dF (by rw [decide_eq_true (by (try simp only [Int.ofNat_eq_natCast]); omega)]; rfl) dT (fun j => outK_ret (ends_ret (by kernel_rfl))) uD)) rfl
 ·rw [decide_eq_false h1, Bool.false_and, Bool.false_and, Bool.false_and]
  exact cOut_clear (cOut_start Tryz.func11 rfl (pm11g hE (gD g) (ndD N) (ldD L) g.length N.length L.length c (by rw [decide_eq_true (by (try simp only [Int.ofNat_eq_natCast]); omega)]; rfl) dT (fun j => outK_ret (ends_ret (by kernel_rfl))) uD)) rfl
theorem K16n (hE : EnvOk E) (c : Int) (g : List Gs) (N : List Nd) (L : List Ld) (x : Int) : COut E 0 [] 16 [aM c g N L, iI x] (iI (ixE x N.length)) [] :=
 cOut_clear (cOut_start Tryz.func16 rfl (pm16 hE (gD g) (ndD N) (ldD L) g.length N.length L.length c x (ixE x N.length) (K16 hE _ _) (fun j => outK_ret (ends_ret (by kernel_rfl))) uD)) rfl
theorem tw_s {N : List Nd} {k : Nat} {y : Nd} {s : ByteArray} (h : N[k]? = some y) : twiceB (N.take (k + 1)) s = (twiceB (N.take k) s || sameS y.s s) := by
 obtain ⟨hi, e⟩ := List.getElem?_eq_some_iff.1 h
 rw [← List.take_append_getElem hi, e]
 unfold twiceB
 rw [List.any_append]
 simp
theorem ph_at {N : List Nd} {u : Int} {y : Nd} (h : N[u.toNat]? = some y) : phs N u = y.p := by unfold phs; rw [h]; rfl
theorem last74 (hE : EnvOk E) (c : Int) (g : List Gs) (N : List Nd) (L : List Ld) (i : Nat) (x : Nd) (hx : N[i]? = some x) (hq : x.f.length ≤ 9223372036854775807) : ∀ j, OutK E 0 0 (tm74 (gD g) (ndD N) (ldD L) (gD x.f) g.length N.length L.length x.f.length i i c x.u x.p x.s j) (Go.Ev.Ends E Tryz.f74 (iI (plE c N i x)) []) := fun j => by
 have hi := (List.getElem?_eq_some_iff.1 hx).1
 unfold plE
 by_cases hz : i = 0
 ·subst hz
  rw [if_pos rfl]
  by_cases h1 : x.u = 0
  ·have e1 : (x.u != 0) = false := bne_eq_false_iff_eq.2 h1
   by_cases h2 : x.p = 0
   ·have e2 : (x.p != 0) = false := bne_eq_false_iff_eq.2 h2
    rw [e1, e2, Bool.false_or, Bool.false_or]
    exact pm74z3 hE (gD g) (ndD N) (ldD L) (gD x.f) g.length N.length L.length x.f.length 0 0 c (fI (decide (0 < x.f.length)) 21) x.u x.p x.s dF rfl (by rw [e1]; rfl) e1 (by rw [e2]; rfl) e2 (by have := K32 hE (decide (0 < x.f.length)) 21; rwa [show decide (0 < x.f.length) = decide ((x.f.length : Int) > 0) by simp] at this ⊢) (fun j => outK_ret (ends_ret (by kernel_rfl))) j
   ·have e2 : (x.p != 0) = true := bne_iff_ne.2 h2
    rw [e2, Bool.or_true, Bool.true_or]
    exact pm74z2 hE (gD g) (ndD N) (ldD L) (gD x.f) g.length N.length L.length x.f.length 0 0 c (fI true 21) x.u x.p x.s dF rfl (by rw [e1]; rfl) e1 (by rw [e2]; rfl) e2 (K32 hE true 21) (fun j => outK_ret (ends_ret (by kernel_rfl))) j
  ·have e1 : (x.u != 0) = true := bne_iff_ne.2 h1
   rw [e1, Bool.true_or, Bool.true_or]
   exact pm74z1 hE (gD g) (ndD N) (ldD L) (gD x.f) g.length N.length L.length x.f.length 0 0 c (fI true 21) x.u x.p x.s dF rfl (by rw [e1]; rfl) e1 (K32 hE true 21) (fun j => outK_ret (ends_ret (by kernel_rfl))) j
 ·rw [if_neg hz]
  have i0 : (Int.ofNat i == (0 : Int)) = false := beq_eq_false_iff_ne.2 (by simp only [Int.ofNat_eq_natCast]; omega)
  by_cases h1 : x.u < 0
  ·rw [if_pos (.inl h1)]
   exact pm74l hE (gD g) (ndD N) (ldD L) (gD x.f) g.length N.length L.length x.f.length i i c x.u x.p x.s dF i0 (by rw [decide_eq_true (by (try simp only [Int.ofNat_eq_natCast]); omega)]; rfl) dT (fun j => outK_ret (ends_ret (by kernel_rfl))) j
  ·by_cases h2 : (i : Int) ≤ x.u
   ·rw [if_pos (.inr h2)]
    exact pm74h hE (gD g) (ndD N) (ldD L) (gD x.f) g.length N.length L.length x.f.length i i c x.u x.p x.s dF i0 (by rw [decide_eq_false (by (try simp only [Int.ofNat_eq_natCast]); omega)]; rfl) dF dT (fun j => outK_ret (ends_ret (by kernel_rfl))) j
   ·rw [if_neg (by omega)]
    have k72 := K72f hE c x.f hq
    by_cases h3 : x.u > 0
    ·have hy := List.getElem?_eq_getElem (show x.u.toNat < N.length by omega)
     generalize N[x.u.toNat] = y at hy
     rw [decide_eq_true h3, Bool.true_and, ph_at hy]
     exact pm74y hE (gD g) (ndD N) (ldD L) (gD x.f) g.length N.length L.length x.f.length i i x.u.toNat c (rg x.p 1 3) (fI (y.p != x.p) 24) (firstI [rg x.p 1 3, fI (y.p != x.p) 24, facE c x.f]) (facE c x.f) x.u x.p y.p x.s dF i0 (by rw [decide_eq_false (by (try simp only [Int.ofNat_eq_natCast]); omega)]; rfl) dF dF (K18 hE _ _ _) (by rw [decide_eq_true (by (try simp only [Int.ofNat_eq_natCast]); omega)]; rfl) ⟨by omega, by omega⟩ rfl (nd_p hy) dT (K32 hE _ _) k72 (lend2 _ hE 15 _ _ 3 true (K17 hE [rg x.p 1 3, fI (y.p != x.p) 24, facE c x.f] (by simp)) _ 2 rfl) (fun j => outK_ret (ends_ret (by kernel_rfl))) j
    ·rw [decide_eq_false h3, Bool.false_and]
     exact pm74x hE (gD g) (ndD N) (ldD L) (gD x.f) g.length N.length L.length x.f.length i i c (rg x.p 1 3) (fI false 24) (firstI [rg x.p 1 3, fI false 24, facE c x.f]) (facE c x.f) x.u x.p x.s dF i0 (by rw [decide_eq_false (by (try simp only [Int.ofNat_eq_natCast]); omega)]; rfl) dF dF (K18 hE _ _ _) (by rw [decide_eq_false (by (try simp only [Int.ofNat_eq_natCast]); omega)]; rfl) dF (K32 hE _ _) k72 (lend2 _ hE 15 _ _ 3 true (K17 hE [rg x.p 1 3, fI false 24, facE c x.f] (by simp)) _ 2 rfl) (fun j => outK_ret (ends_ret (by kernel_rfl))) j
theorem l74 (hE : EnvOk E) (c : Int) (g : List Gs) (N : List Nd) (L : List Ld) (i : Nat) (x : Nd) (hx : N[i]? = some x) (hi9 : i ≤ 9223372036854775806) (hq : x.f.length ≤ 9223372036854775807) : ∀ m k, m + k = i → twiceB (N.take k) x.s = false → ∀ j, OutK E 0 0 (tm74 (gD g) (ndD N) (ldD L) (gD x.f) g.length N.length L.length x.f.length i k c x.u x.p x.s j) (Go.Ev.Ends E Tryz.f74 (iI (firstI [fI (twiceB (N.take i) x.s) 9, plE c N i x])) [])
 | 0, k, hk, ht, j => by
  obtain rfl : k = i := by omega
  rw [ht, firstI_or]
  show OutK E 0 0 _ (Go.Ev.Ends E Tryz.f74 (iI (orE 0 (firstI [plE c N k x]))) [])
  rw [orE_z rfl, firstI_or]
  show OutK E 0 0 _ (Go.Ev.Ends E Tryz.f74 (iI (orE (plE c N k x) 0)) [])
  rw [orE_0]
  exact last74 hE c g N L k x hx hq j
 | m + 1, k, hk, ht, j => by
  have hi := (List.getElem?_eq_some_iff.1 hx).1
  have hy := List.getElem?_eq_getElem (show k < N.length by omega)
  generalize N[k] = y at hy
  have ts := tw_s (s := x.s) hy
  rw [ht, Bool.false_or] at ts
  cases hs : sameS y.s x.s with
  | false =>
   rw [hs] at ts
   exact pm74s hE (gD g) (ndD N) (ldD L) (gD x.f) g.length N.length L.length x.f.length i k c x.u x.p x.s y.s false dT bP rfl (nd_s hy) (congrArg iB hs) rfl wQ (l74 hE c g N L i x hx hi9 hq m (k + 1) (by omega) ts) j
  | true =>
   have tt : twiceB (N.take i) x.s = true := by
    rw [hs] at ts
    unfold twiceB at ts ⊢
    obtain ⟨v, hv, e⟩ := List.any_eq_true.1 ts
    exact List.any_eq_true.2 ⟨v, (List.take_sublist_take_left (by omega : k + 1 ≤ i)).mem hv, e⟩
   rw [tt]
   exact pm74t hE (gD g) (ndD N) (ldD L) (gD x.f) g.length N.length L.length x.f.length i k c x.u x.p x.s y.s true dT bP rfl (nd_s hy) (congrArg iB hs) rfl (fun j => outK_ret (ends_ret (by kernel_rfl))) j
theorem K74n (hE : EnvOk E) (c : Int) (g : List Gs) (N : List Nd) (L : List Ld) (i : Nat) (x : Nd) (hx : N[i]? = some x) (hi9 : i ≤ 9223372036854775806) (hq : x.f.length ≤ 9223372036854775807) : COut E 0 [] 74 [aM c g N L, iI (Int.ofNat i)] (iI (ndE c N i x)) [] := by
 have hi := (List.getElem?_eq_some_iff.1 hx).1
 have k140 := K140 hE x.s
 unfold ndE
 rw [firstI_or]
 by_cases h : nmE x.s = 0
 ·rw [orE_z h]
  rw [h] at k140
  exact cOut_clear (cOut_start Tryz.func74 rfl (pm74a hE (gD g) (ndD N) (ldD L) (gD x.f) g.length N.length L.length x.f.length i c 0 x.u x.p x.s bP rfl (nd_get hx) k140 oB (l74 hE c g N L i x hx hi9 hq i 0 rfl rfl) uD)) rfl
 ·rw [orE_n h]
  exact cOut_clear (cOut_start Tryz.func74 rfl (pm74e hE (gD g) (ndD N) (ldD L) (gD x.f) g.length N.length L.length x.f.length i c (nmE x.s) x.u x.p x.s bP rfl (nd_get hx) k140 (bne_iff_ne.2 h) (fun j => outK_ret (ends_ret (by kernel_rfl))) uD)) rfl
theorem l14b (hE : EnvOk E) (c : Int) (g : List Gs) (N : List Nd) (L : List Ld) (hg : g.length ≤ 9223372036854775807) (hf : ∀ x ∈ N, x.f.length ≤ 9223372036854775807) (hN : N.length ≤ 9223372036854775807) (hL : L.length ≤ 9223372036854775807) (hl : ∀ x ∈ L, x.f.length ≤ 9223372036854775807) : ∀ k i, k + i = L.length → ∀ j, OutK E 0 0 (um14 (gD g) (ndD N) (ldD L) g.length N.length L.length i c j) (Go.Ev.Ends E Tryz.f14 (iI (loadsE c N (L.drop i))) [])
 | 0, i, hk, j => by
  obtain rfl : i = L.length := by omega
  rw [List.drop_length]
  exact pm14X hE (gD g) (ndD N) (ldD L) g.length N.length L.length L.length c dF (fun j => outK_ret (ends_ret (by kernel_rfl))) j
 | k + 1, i, hk, j => by
  have hi : i < L.length := by omega
  have hx := List.getElem?_eq_getElem hi
  have hq := hl L[i] (List.getElem_mem hi)
  rw [List.drop_eq_getElem_cons hi]
  have ih := l14b hE c g N L hg hf hN hL hl k (i + 1) (by omega)
  generalize L[i] = x at hx hq
  have k72 := K72f hE c x.f hq
  have k15 := K17 hE [ixE x.k N.length, stE x.s, facE c x.f] (by simp)
  by_cases h : ldE c N x = 0
  ·rw [show loadsE c N (x :: L.drop (i + 1)) = loadsE c N (L.drop (i + 1)) from if_pos h]
   rw [show firstI [ixE x.k N.length, stE x.s, facE c x.f] = 0 from h] at k15
   exact pm14S hE (gD g) (ndD N) (ldD L) (gD x.f) g.length N.length L.length x.f.length i c x.k (ixE x.k N.length) 0 (facE c x.f) (stE x.s) x.s dT bP rfl (ld_get hx) (K16n hE c g N L _) (K28s hE _) k72 (lend2 _ hE 15 _ _ 3 true k15 _ 2 rfl) oB wQ ih j
  ·rw [show loadsE c N (x :: L.drop (i + 1)) = ldE c N x from if_neg h]
   exact pm14L hE (gD g) (ndD N) (ldD L) (gD x.f) g.length N.length L.length x.f.length i c x.k (ixE x.k N.length) (ldE c N x) (facE c x.f) (stE x.s) x.s dT bP rfl (ld_get hx) (K16n hE c g N L _) (K28s hE _) k72 (lend2 _ hE 15 _ _ 3 true k15 _ 2 rfl) (bne_iff_ne.2 h) (fun j => outK_ret (ends_ret (by kernel_rfl))) j
theorem l14a (hE : EnvOk E) (c : Int) (g : List Gs) (N : List Nd) (L : List Ld) (hg : g.length ≤ 9223372036854775807) (hf : ∀ x ∈ N, x.f.length ≤ 9223372036854775807) (hN : N.length ≤ 9223372036854775807) (hL : L.length ≤ 9223372036854775807) (hl : ∀ x ∈ L, x.f.length ≤ 9223372036854775807) : ∀ k i, k + i = N.length → ∀ j, OutK E 0 0 (tm14 (gD g) (ndD N) (ldD L) g.length N.length L.length i c j) (Go.Ev.Ends E Tryz.f14 (iI (firstI [nodesE c N i (N.drop i), mostL c N L])) [])
 | 0, i, hk, j => by
  obtain rfl : i = N.length := by omega
  rw [List.drop_length]
  have e : firstI [nodesE c N N.length [], mostL c N L] = mostL c N L := by rw [firstI_or, orE_z (show nodesE c N N.length [] = 0 from rfl), firstI_or]; exact orE_0 _
  rw [e]
  unfold mostL
  by_cases h : 16 < L.length
  ·rw [if_pos h]
   exact pm14m hE (gD g) (ndD N) (ldD L) g.length N.length L.length N.length c dF dT (fun j => outK_ret (ends_ret (by kernel_rfl))) j
  ·rw [if_neg h]
   exact pm14x hE (gD g) (ndD N) (ldD L) g.length N.length L.length N.length c dF dF (l14b hE c g N L hg hf hN hL hl L.length 0 rfl) j
 | k + 1, i, hk, j => by
  have hi : i < N.length := by omega
  have hx := List.getElem?_eq_getElem hi
  have hq := hf N[i] (List.getElem_mem hi)
  rw [List.drop_eq_getElem_cons hi]
  have ih := l14a hE c g N L hg hf hN hL hl k (i + 1) (by omega)
  generalize N[i] = x at hx hq
  have k74 := K74n hE c g N L i x hx (by omega) hq
  by_cases h : ndE c N i x = 0
  ·rw [show nodesE c N i (x :: N.drop (i + 1)) = nodesE c N (i + 1) (N.drop (i + 1)) from if_pos h]
   rw [h] at k74
   exact pm14s hE (gD g) (ndD N) (ldD L) g.length N.length L.length i c 0 dT k74 oB wQ ih j
  ·rw [show nodesE c N i (x :: N.drop (i + 1)) = ndE c N i x from if_neg h, firstI_or, orE_n h]
   exact pm14n hE (gD g) (ndD N) (ldD L) g.length N.length L.length i c (ndE c N i x) dT k74 (bne_iff_ne.2 h) (fun j => outK_ret (ends_ret (by kernel_rfl))) j
theorem K14m (hE : EnvOk E) (c : Int) (g : List Gs) (N : List Nd) (L : List Ld) (hg : g.length ≤ 9223372036854775807) (hf : ∀ x ∈ N, x.f.length ≤ 9223372036854775807) (hN : N.length ≤ 9223372036854775807) (hL : L.length ≤ 9223372036854775807) (hl : ∀ x ∈ L, x.f.length ≤ 9223372036854775807) : COut E 0 [] 14 [aM c g N L] (iI (manE c g N L)) [] := by
 have k41 := K18 hE c 1 8
 have k72 := K72f hE c g hg
 have k15 := K17 hE [facE c g, fI ((N.length : Int) == 0) 12, fI (decide ((N.length : Int) > 16)) 5] (by simp)
 unfold manE
 rw [firstI_or]
 by_cases h1 : rg c 1 8 = 0
 ·rw [orE_z h1]
  rw [h1] at k41
  have eN : firstI [facE c g, someN c N, mostL c N L] = orE (firstI [facE c g, fI ((N.length : Int) == 0) 12, fI (decide ((N.length : Int) > 16)) 5]) (firstI [nodesE c N 0 N, mostL c N L]) := by
   rw [firstI_or, firstI_or, firstI_or, firstI_or, firstI_or]
   unfold someN
   by_cases a : facE c g = 0
   ·rw [orE_z a, orE_z a]
    by_cases b : N.length = 0
    ·rw [if_pos b, orE_n (by decide), show ((N.length : Int) == 0) = true from beq_iff_eq.2 (by omega)]
     rfl
    ·rw [if_neg b, show ((N.length : Int) == 0) = false from beq_eq_false_iff_ne.2 (by omega)]
     show _ = orE (orE 0 _) _
     rw [orE_z rfl]
     by_cases d : 16 < N.length
     ·rw [if_pos d, orE_n (by decide), decide_eq_true (by omega)]
      rfl
     ·rw [if_neg d, decide_eq_false (by omega)]
      show _ = orE (orE 0 _) _
      rw [orE_z rfl]
      show _ = orE 0 _
      rw [orE_z rfl, firstI_or]
      rfl
   ·rw [orE_n a, orE_n a, orE_n a]
  rw [eN]
  by_cases h2 : firstI [facE c g, fI ((N.length : Int) == 0) 12, fI (decide ((N.length : Int) > 16)) 5] = 0
  ·rw [orE_z h2]
   rw [h2] at k15
   exact cOut_clear (cOut_start Tryz.func14 rfl (pm14a hE (gD g) (ndD N) (ldD L) g.length N.length L.length c 0 (facE c g) 0 (fI ((N.length : Int) == 0) 12) (fI (decide ((N.length : Int) > 16)) 5) k41 oB k72 (K32 hE _ _) (K32 hE _ _) (lend2 _ hE 15 _ _ 3 true k15 _ 1 rfl) oB (l14a hE c g N L hg hf hN hL hl N.length 0 rfl) uD)) rfl
  ·rw [orE_n h2]
   exact cOut_clear (cOut_start Tryz.func14 rfl (pm14f hE (gD g) (ndD N) (ldD L) g.length N.length L.length c 0 (facE c g) (firstI [facE c g, fI ((N.length : Int) == 0) 12, fI (decide ((N.length : Int) > 16)) 5]) (fI ((N.length : Int) == 0) 12) (fI (decide ((N.length : Int) > 16)) 5) k41 oB k72 (K32 hE _ _) (K32 hE _ _) (lend2 _ hE 15 _ _ 3 true k15 _ 1 rfl) (bne_iff_ne.2 h2) (fun j => outK_ret (ends_ret (by kernel_rfl))) uD)) rfl
 ·rw [orE_n h1]
  exact cOut_clear (cOut_start Tryz.func14 rfl (pm14e hE (gD g) (ndD N) (ldD L) g.length N.length L.length c (rg c 1 8) k41 (bne_iff_ne.2 h1) (fun j => outK_ret (ends_ret (by kernel_rfl))) uD)) rfl
end
end Go.Proofs.YtigdchbjmnbjlaaGreatDoor
end
section
open Go Go.Ev
namespace Go.Ev
theorem ba_beq (x y : ByteArray) : (x == y) = true ↔ x = y := by
 constructor
 ·intro h
  have h : (x.data == y.data) = true := h
  rw [beq_iff_eq] at h
  cases x; cases y; simp_all
 ·rintro rfl
  show (x.data == x.data) = true
  simp
instance lawBA : LawfulBEq ByteArray where
 eq_of_beq := fun h => (ba_beq _ _).1 h
 rfl := (ba_beq _ _).2 rfl
def kvS (ks : List ByteArray) : List (Value × Value) := ks.map fun k => (Value.string k, Value.bool true)
def addS (ks : List ByteArray) (x : ByteArray) : List ByteArray := if x ∈ ks then ks else ks ++ [x]
theorem findKV_outS (x : ByteArray) : ∀ (ks : List ByteArray) (i : Nat), x ∉ ks → findKV .string (.string x) (kvS ks) i = some none
 | [], _, _ => rfl
 | k :: ks, i, h => by
  have h1 : ¬ x = k := fun e => h (e ▸ List.mem_cons_self)
  have h2 : ¬ k = x := fun e => h1 e.symm
  have e : sameK .string (.string x) (.string k) = some false := by simp [sameK, h1]
  have ih := findKV_outS x ks (i + 1) fun hm => h (List.mem_cons_of_mem _ hm)
  show (match sameK .string (.string x) (.string k) with | some true => some (some (i, Value.bool true)) | some false => findKV .string (.string x) (kvS ks) (i + 1) | none => none) = _
  rw [e]; exact ih
theorem findKV_inS (x : ByteArray) : ∀ (ks : List ByteArray) (i : Nat), x ∈ ks → ∃ j, ks[j]? = some x ∧ findKV .string (.string x) (kvS ks) i = some (some (i + j, .bool true))
 | [], _, h => by simp at h
 | k :: ks, i, h => by
  by_cases h1 : x = k
  ·subst h1
   refine ⟨0, rfl, ?_⟩
   have e : sameK .string (.string x) (.string x) = some true := by simp [sameK]
   show (match sameK .string (.string x) (.string x) with | some true => some (some (i, Value.bool true)) | some false => findKV .string (.string x) (kvS ks) (i + 1) | none => none) = _
   rw [e]; rfl
  ·have hm : x ∈ ks := (List.mem_cons.1 h).resolve_left h1
   obtain ⟨j, hj, ih⟩ := findKV_inS x ks (i + 1) hm
   refine ⟨j + 1, by simpa using hj, ?_⟩
   have e : sameK .string (.string x) (.string k) = some false := by simp [sameK, h1]
   show (match sameK .string (.string x) (.string k) with | some true => some (some (i, Value.bool true)) | some false => findKV .string (.string x) (kvS ks) (i + 1) | none => none) = _
   rw [e]
   show findKV .string (.string x) (kvS ks) (i + 1) = _
   rw [ih]
   congr 3; omega
theorem put_kvS (ks : List ByteArray) (x : ByteArray) : (findKV .string (.string x) (kvS ks) 0).map (putKV (.string x) (.bool true) (kvS ks)) = some (kvS (addS ks x)) := by
 by_cases h : x ∈ ks
 ·obtain ⟨j, hj, e⟩ := findKV_inS x ks 0 h
  rw [e]
  simp only [Option.map_some, putKV, addS, if_pos h, setL_eq, Nat.zero_add]
  congr 1
  apply List.ext_getElem?
  intro i
  rw [List.getElem?_set]
  by_cases hij : j = i
  ·subst hij
   have hl : j < (kvS ks).length := by
    have := (List.getElem?_eq_some_iff.1 hj).1
    simpa [kvS] using this
   rw [if_pos rfl, if_pos hl]
   simp [kvS, hj]
  ·rw [if_neg hij]
 ·rw [findKV_outS x ks 0 h]
  simp only [Option.map_some, putKV, addS, if_neg h, appL_eq]
  simp [kvS]
theorem see_kvS (ks : List ByteArray) (x : ByteArray) : seeKV .string (.string x) (kvS ks) (.bool false) = some (.bool (decide (x ∈ ks)), decide (x ∈ ks)) := by
 unfold seeKV
 by_cases h : x ∈ ks
 ·obtain ⟨j, _, e⟩ := findKV_inS x ks 0 h
  rw [e, decide_eq_true h]; rfl
 ·rw [findKV_outS x ks 0 h, decide_eq_false h]; rfl
theorem mem_addS (ks : List ByteArray) (x y : ByteArray) : y ∈ addS ks x ↔ y ∈ ks ∨ y = x := by
 unfold addS
 split
 ·rename_i h
  constructor
  ·exact .inl
  ·rintro (h1 | rfl)
   ·exact h1
   ·exact h
 ·simp
end Go.Ev
end
