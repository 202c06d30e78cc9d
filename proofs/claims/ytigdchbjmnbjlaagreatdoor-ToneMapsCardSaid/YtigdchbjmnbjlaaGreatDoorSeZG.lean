/-
  Part of the proof: SeDa, SeDb, SeDc, SeDd.
-/
import Derived.Test.YtigdchbjmnbjlaaGreatDoorSeZF

/-! SeDa -/
section
open Go Go.Ev
namespace Go.Proofs.YtigdchbjmnbjlaaGreatDoor
noncomputable section
set_option maxRecDepth 100000
set_option maxHeartbeats 20000000
def x10 (C N O : List DT) (s n o : Nat) (mg ms : Int) (_j : JN) : St := startK Tryz.f33 [] [.e (.agg (tQ C s N n mg ms O o))]
def x12 (C N O : List DT) (s n o : Nat) (mg ms : Int) (_j : JN) : St := startK Tryz.f36 [] [.e (.agg (tQ C s N n mg ms O o))]
def x16 (x z : Int) (_j : JN) : St := startK Tryz.f27 [] [iI z, iI x]
def x71 (x z : Int) (_j : JN) : St := startK Tryz.f83 [] [iI x, iI z]
def x129 (C : List DT) (s : Nat) (x : Int) (_j : JN) : St := startK Tryz.f48 [] [(dQ C s), iI x]
def y10 (C N O : List DT) (s n o i : Nat) (mg ms : Int) (j : JN) : St := ⟨[(bK (tQ C s N n mg ms O o) 5 71)], [(.code (aF [1, 0, 1, 0, 0] Tryz.f33)), (.inLoop (aF [1, 0, 1, 0, 0] Tryz.f33)), (.inBlock 0), (.code (aF [1, 1] Tryz.f33))], mkT j [(1, (.e (.one (.ptr 0 0)))), (3, (iN i))] 34 0⟩
def y129 (C : List DT) (s i : Nat) (x : Int) (j : JN) : St := ⟨[], [(.code (aF [1, 0, 1, 0, 0] Tryz.f48)), (.inLoop (aF [1, 0, 1, 0, 0] Tryz.f48)), (.inBlock 0), (.code (aF [1, 1] Tryz.f48))], mkT j [(0, (dQ C s)), (1, (iI x)), (5, (iN i))] 18 0⟩
def A16_f_end (_C _N _O _R : List DT) (_s _n _o _m _i : Nat) (_mg _ms x z : Int) (j : JN) : St := ⟨[], [(.code .ret)], mkT j [(4, (iI (fI (decide (x ≥ z)) (Int.ofNat (nat_lit 10)))))] 13 0⟩
theorem A16_f (hE : EnvOk E) (C N O R : List DT) (s n o m i : Nat) (mg ms x z : Int) (c0 : (decide (x < (0 : Int)) : Bool) = false) {Φ : Res → Prop} (ho : ∀ j, OutK E 0 0 (A16_f_end C N O R s n o m i mg ms x z j) Φ) (j : JN) : OutK E 0 0 (x16 x z j) Φ :=
 oS hE [.run 3, (.ops [(6, (.pk false)), (7, (.c0 (iI (fI (decide (x ≥ z)) (Int.ofNat (nat_lit 10))))))] [(3, true), (4, true), (5, true)])] [4] (ps := [(decide (x < (0 : Int)) == false : Bool) = true, (decide (x < (0 : Int)) == false : Bool) = true, (decide (x < (0 : Int)) == false : Bool) = true, (decide (x < (0 : Int)) : Bool) = false, COut E 0 [] 73 [(iB (decide (x ≥ z))), (iI 10)] (iI (fI (decide (x ≥ z)) (Int.ofNat (nat_lit 10)))) [], ([] : List Nat) = []]) ⟨(by rw [c0]; rfl), (by rw [c0]; rfl), (by rw [c0]; rfl), c0, (K32 hE _ _), rfl, trivial⟩
  ho
theorem A16_f_c (hE : EnvOk E) (C N O R : List DT) (s n o m i : Nat) (mg ms x z : Int) (c0 : (decide (x < (0 : Int)) : Bool) = false) : COut E 0 [] 27 [(iI z), (iI x)] (iI (fI (decide (x ≥ z)) (Int.ofNat (nat_lit 10)))) [] := cOut_start Tryz.func27 rfl (A16_f hE C N O R s n o m i mg ms x z c0  (fun j => outK_ret (ends_ret (by kernel_rfl))) fun _ => undef)
def A16_t_end (_C _N _O _R : List DT) (_s _n _o _m _i : Nat) (_mg _ms _x _z : Int) (j : JN) : St := ⟨[], [(.code .ret)], mkT j [(4, (iI 10))] 13 0⟩
theorem A16_t (hE : EnvOk E) (C N O R : List DT) (s n o m i : Nat) (mg ms x z : Int) (c0 : (decide (x < (0 : Int)) : Bool) = true) {Φ : Res → Prop} (ho : ∀ j, OutK E 0 0 (A16_t_end C N O R s n o m i mg ms x z j) Φ) (j : JN) : OutK E 0 0 (x16 x z j) Φ :=
 oS hE [.run 3, (.ops [(6, (.pk true)), (7, (.c0 (iI 10)))] [(3, false), (4, false), (5, false)])] [4] (ps := [(decide (x < (0 : Int)) == false : Bool) = false, (decide (x < (0 : Int)) == false : Bool) = false, (decide (x < (0 : Int)) == false : Bool) = false, (decide (x < (0 : Int)) : Bool) = true, COut E 0 [] 73 [(iB true), (iI 10)] (iI 10) [], ([] : List Nat) = []]) ⟨(by rw [c0]; rfl), (by rw [c0]; rfl), (by rw [c0]; rfl), c0, (K32 hE _ _), rfl, trivial⟩
  ho
theorem A16_t_c (hE : EnvOk E) (C N O R : List DT) (s n o m i : Nat) (mg ms x z : Int) (c0 : (decide (x < (0 : Int)) : Bool) = true) : COut E 0 [] 27 [(iI z), (iI x)] (iI 10) [] := cOut_start Tryz.func27 rfl (A16_t hE C N O R s n o m i mg ms x z c0  (fun j => outK_ret (ends_ret (by kernel_rfl))) fun _ => undef)
def A16_r0 (x z : Int) : Int := (bif decide (x < (0 : Int)) then 10 else (fI (decide (x ≥ z)) (Int.ofNat (nat_lit 10))))
theorem A16_all (hE : EnvOk E) (C N O R : List DT) (s n o m i : Nat) (mg ms x z : Int) : COut E 0 [] 27 [(iI z), (iI x)] (iI (A16_r0 x z)) [] := by
 rcases Bool.eq_false_or_eq_true (decide (x < (0 : Int))) with c0 | c0
 ·skip
  have e0 : A16_r0 x z = 10 := by unfold A16_r0; rw [c0]; first | done | rfl
  rw [e0]
  exact A16_t_c hE C N O R s n o m i mg ms x z c0 
 ·skip
  have e0 : A16_r0 x z = (fI (decide (x ≥ z)) (Int.ofNat (nat_lit 10))) := by unfold A16_r0; rw [c0]; first | done | rfl
  rw [e0]
  exact A16_f_c hE C N O R s n o m i mg ms x z c0 
def A71_f_end (_C _N _O _R : List DT) (_s _n _o _m _i : Nat) (_mg _ms x z : Int) (j : JN) : St := ⟨[], [(.code .ret)], mkT j [(4, (iI (fI (decide (x ≥ z)) (Int.ofNat (nat_lit 10)))))] 13 0⟩
theorem A71_f (hE : EnvOk E) (C N O R : List DT) (s n o m i : Nat) (mg ms x z : Int) (c0 : (decide (x < (0 : Int)) : Bool) = false) {Φ : Res → Prop} (ho : ∀ j, OutK E 0 0 (A71_f_end C N O R s n o m i mg ms x z j) Φ) (j : JN) : OutK E 0 0 (x71 x z j) Φ :=
 oS hE [.run 3, (.ops [(6, (.pk false)), (7, (.c0 (iI (fI (decide (x ≥ z)) (Int.ofNat (nat_lit 10))))))] [(3, true), (4, true), (5, true)])] [4] (ps := [(decide (x < (0 : Int)) == false : Bool) = true, (decide (x < (0 : Int)) == false : Bool) = true, (decide (x < (0 : Int)) == false : Bool) = true, (decide (x < (0 : Int)) : Bool) = false, COut E 0 [] 102 [(iB (decide (x ≥ z))), (iI 10)] (iI (fI (decide (x ≥ z)) (Int.ofNat (nat_lit 10)))) [], ([] : List Nat) = []]) ⟨(by rw [c0]; rfl), (by rw [c0]; rfl), (by rw [c0]; rfl), c0, (K85 hE _ _), rfl, trivial⟩
  ho
theorem A71_f_c (hE : EnvOk E) (C N O R : List DT) (s n o m i : Nat) (mg ms x z : Int) (c0 : (decide (x < (0 : Int)) : Bool) = false) : COut E 0 [] 83 [(iI x), (iI z)] (iI (fI (decide (x ≥ z)) (Int.ofNat (nat_lit 10)))) [] := cOut_start Tryz.func83 rfl (A71_f hE C N O R s n o m i mg ms x z c0  (fun j => outK_ret (ends_ret (by kernel_rfl))) fun _ => undef)
def A71_t_end (_C _N _O _R : List DT) (_s _n _o _m _i : Nat) (_mg _ms _x _z : Int) (j : JN) : St := ⟨[], [(.code .ret)], mkT j [(4, (iI 10))] 13 0⟩
theorem A71_t (hE : EnvOk E) (C N O R : List DT) (s n o m i : Nat) (mg ms x z : Int) (c0 : (decide (x < (0 : Int)) : Bool) = true) {Φ : Res → Prop} (ho : ∀ j, OutK E 0 0 (A71_t_end C N O R s n o m i mg ms x z j) Φ) (j : JN) : OutK E 0 0 (x71 x z j) Φ :=
 oS hE [.run 3, (.ops [(6, (.pk true)), (7, (.c0 (iI 10)))] [(3, false), (4, false), (5, false)])] [4] (ps := [(decide (x < (0 : Int)) == false : Bool) = false, (decide (x < (0 : Int)) == false : Bool) = false, (decide (x < (0 : Int)) == false : Bool) = false, (decide (x < (0 : Int)) : Bool) = true, COut E 0 [] 102 [(iB true), (iI 10)] (iI 10) [], ([] : List Nat) = []]) ⟨(by rw [c0]; rfl), (by rw [c0]; rfl), (by rw [c0]; rfl), c0, (K85 hE _ _), rfl, trivial⟩
  ho
theorem A71_t_c (hE : EnvOk E) (C N O R : List DT) (s n o m i : Nat) (mg ms x z : Int) (c0 : (decide (x < (0 : Int)) : Bool) = true) : COut E 0 [] 83 [(iI x), (iI z)] (iI 10) [] := cOut_start Tryz.func83 rfl (A71_t hE C N O R s n o m i mg ms x z c0  (fun j => outK_ret (ends_ret (by kernel_rfl))) fun _ => undef)
def A71_r0 (x z : Int) : Int := (bif decide (x < (0 : Int)) then 10 else (fI (decide (x ≥ z)) (Int.ofNat (nat_lit 10))))
theorem A71_all (hE : EnvOk E) (C N O R : List DT) (s n o m i : Nat) (mg ms x z : Int) : COut E 0 [] 83 [(iI x), (iI z)] (iI (A71_r0 x z)) [] := by
 rcases Bool.eq_false_or_eq_true (decide (x < (0 : Int))) with c0 | c0
 ·skip
  have e0 : A71_r0 x z = 10 := by unfold A71_r0; rw [c0]; first | done | rfl
  rw [e0]
  exact A71_t_c hE C N O R s n o m i mg ms x z c0 
 ·skip
  have e0 : A71_r0 x z = (fI (decide (x ≥ z)) (Int.ofNat (nat_lit 10))) := by unfold A71_r0; rw [c0]; first | done | rfl
  rw [e0]
  exact A71_f_c hE C N O R s n o m i mg ms x z c0 
def p10a_end (C N O : List DT) (s n o : Nat) (mg ms : Int) (j : JN) : St := ⟨[(bK (tQ C s N n mg ms O o) 5 71)], [(.code (aF [1, 0, 1, 0, 0] Tryz.f33)), (.inLoop (aF [1, 0, 1, 0, 0] Tryz.f33)), (.inBlock 0), (.code (aF [1, 1] Tryz.f33))], mkT j [(1, (.e (.one (.ptr 0 0)))), (3, (iI 0))] 34 0⟩
theorem p10a (hE : EnvOk E) (C N O : List DT) (s n o : Nat) (mg ms : Int) {Φ : Res → Prop} (ho : ∀ j, OutK E 0 0 (p10a_end C N O s n o mg ms j) Φ) (j : JN) : OutK E 0 0 (x10 C N O s n o mg ms j) Φ :=
 oS hE [.run 7] [1, 3] (ps := []) trivial
  ho
def p129a_end (C : List DT) (s : Nat) (x : Int) (j : JN) : St := ⟨[], [(.code (aF [1, 0, 1, 0, 0] Tryz.f48)), (.inLoop (aF [1, 0, 1, 0, 0] Tryz.f48)), (.inBlock 0), (.code (aF [1, 1] Tryz.f48))], mkT j [(0, (dQ C s)), (1, (iI x)), (5, (iI 0))] 18 0⟩
theorem p129a (hE : EnvOk E) (C : List DT) (s : Nat) (x : Int) {Φ : Res → Prop} (ho : ∀ j, OutK E 0 0 (p129a_end C s x j) Φ) (j : JN) : OutK E 0 0 (x129 C s x j) Φ :=
 oS hE [.run 7] [0, 1, 5] (ps := []) trivial
  ho
def p12_end (C N O : List DT) (s n o : Nat) (mg ms : Int) (j : JN) : St := ⟨[(bK (tQ C s N n mg ms O o) 5 78)], [(.code .ret)], mkT j [(2, (.e (.one (.ptr 0 0))))] 17 0⟩
theorem p12 (hE : EnvOk E) (C N O : List DT) (s n o : Nat) (mg ms : Int) (h0 : COut E 0 [] 37 [(dQ C s)] (dQ C s) []) (h2 : COut E 0 [] 106 [(dQ N n)] (dQ N n) []) (h4 : COut E 0 [] 37 [(dQ O o)] (dQ O o) []) {Φ : Res → Prop} (ho : ∀ j, OutK E 0 0 (p12_end C N O s n o mg ms j) Φ) (j : JN) : OutK E 0 0 (x12 C N O s n o mg ms j) Φ :=
 oS hE [.run 3, (.ops [(2, (.c0 (dQ C s))), (5, (.c0 (dQ N n))), (12, (.c0 (dQ O o)))] [])] [2] (s' := fun j => ⟨[(bK (tQ C s N n mg ms O o) 5 71), (bK (tQ C s N n mg ms O o) 5 78)], [(.code .ret)], mkT j [(2, (.e (.one (.ptr 1 0))))] 17 0⟩) (aP h0 <| aN <| aP h2 <| aN <| aP h4 <| aN <| aV <| aZ)
  fun j => gZ [1] (ho j)
def p10s_end (C N O : List DT) (s n o i : Nat) (mg ms : Int) (j : JN) : St := ⟨[(bK (tQ C s N n mg ms O o) 5 71)], [(.code (aF [1, 0, 1, 0, 0] Tryz.f33)), (.inLoop (aF [1, 0, 1, 0, 0] Tryz.f33)), (.inBlock 0), (.code (aF [1, 1] Tryz.f33))], mkT j [(1, (.e (.one (.ptr 0 0)))), (3, (iN (i + 1)))] 34 0⟩
theorem p10s (hE : EnvOk E) (C N O R : List DT) (s n o m i : Nat) (mg ms : Int) (h0 : (decide (Int.ofNat i < (↑n : Int)) : Bool) = true) (h1 : (0 : Int) ≤ Int.ofNat i ∧ Int.ofNat i < (↑n : Int)) (h2 : ((Int.ofNat i).toNat * nat_lit 1 : Nat) = i) (h3 : (getL N i : Option DT) = (.some (.s R m 1))) (h4 : (decide ((↑m : Int) > (9 : Int)) : Bool) = false) (h5 : ((iI (wrapF IntKind.i64 (Int.ofNat i + (1 : Int)))) : AV) = (iN (i + 1))) {Φ : Res → Prop} (ho : ∀ j, OutK E 0 0 (p10s_end C N O s n o i mg ms j) Φ) (j : JN) : OutK E 0 0 (y10 C N O s n o i mg ms j) Φ :=
 oS hE [.run 2, (.ops [(3, (.d .len))] []), (.cond true), .run 4, (.ops [(4, (.d (.ld (.s R m 1)))), (3, (.d (.ix i))), (5, (.d .len))] []), (.cond false), .run 2, (.ops [(1, (.rn (iN (i + 1))))] []), .run 1] [1, 3] (aQ h0 h1 h2 h3 <| aP h4 <| aP h5 <| aZ)
  ho
def p10f_end (j : JN) : St := ⟨[], [(.code .ret), (.inBlock 1), (.code (aF [1, 0, 1, 0, 0, 1, 1] Tryz.f33)), (.inLoop (aF [1, 0, 1, 0, 0] Tryz.f33)), (.inBlock 0), (.code (aF [1, 1] Tryz.f33))], mkT j [(2, (iB false))] 34 0⟩
theorem p10f (hE : EnvOk E) (C N O R : List DT) (s n o m i : Nat) (mg ms : Int) (h0 : (decide (Int.ofNat i < (↑n : Int)) : Bool) = true) (h1 : (0 : Int) ≤ Int.ofNat i ∧ Int.ofNat i < (↑n : Int)) (h2 : ((Int.ofNat i).toNat * nat_lit 1 : Nat) = i) (h3 : (getL N i : Option DT) = (.some (.s R m 1))) (h4 : (decide ((↑m : Int) > (9 : Int)) : Bool) = true) {Φ : Res → Prop} (ho : ∀ j, OutK E 0 0 (p10f_end j) Φ) (j : JN) : OutK E 0 0 (y10 C N O s n o i mg ms j) Φ :=
 oS hE [.run 2, (.ops [(3, (.d .len))] []), (.cond true), .run 4, (.ops [(4, (.d (.ld (.s R m 1)))), (3, (.d (.ix i))), (5, (.d .len))] []), (.cond true), .run 2] [2] (s' := fun j => ⟨[(bK (tQ C s N n mg ms O o) 5 71)], [(.code .ret), (.inBlock 1), (.code (aF [1, 0, 1, 0, 0, 1, 1] Tryz.f33)), (.inLoop (aF [1, 0, 1, 0, 0] Tryz.f33)), (.inBlock 0), (.code (aF [1, 1] Tryz.f33))], mkT j [(2, (iB false))] 34 0⟩) (aQ h0 h1 h2 h3 <| aP h4 <| aZ)
  fun j => gZ [] (ho j)
def p10x0_end (j : JN) : St := ⟨[], [(.code .ret)], mkT j [(2, (iB false))] 34 0⟩
theorem p10x0 (hE : EnvOk E) (C N O : List DT) (s n o i : Nat) (mg ms : Int) (h0 : (decide (Int.ofNat i < (↑n : Int)) : Bool) = false) (h1 : (decide ((↑s : Int) ≤ (9 : Int)) == true : Bool) = false) (h2 : (decide ((↑s : Int) ≤ (9 : Int)) == true : Bool) = false) (h3 : (decide ((↑s : Int) ≤ (9 : Int)) == true : Bool) = false) (h4 : (decide ((↑s : Int) ≤ (9 : Int)) == true : Bool) = false) (h5 : (decide ((↑s : Int) ≤ (9 : Int)) : Bool) = false) {Φ : Res → Prop} (ho : ∀ j, OutK E 0 0 (p10x0_end j) Φ) (j : JN) : OutK E 0 0 (y10 C N O s n o i mg ms j) Φ :=
 oS hE [.run 2, (.ops [(3, (.d .len))] []), (.cond false), .run 2, (.ops [(2, (.d .len)), (9, (.pk false))] [(5, false), (6, false), (7, false), (8, false)])] [2] (s' := fun j => ⟨[(bK (tQ C s N n mg ms O o) 5 71)], [(.code .ret)], mkT j [(2, (iB false))] 34 0⟩) (aQ h0 h1 h2 h3 <| aP h4 <| aP h5 <| aZ)
  fun j => gZ [] (ho j)
def p10x1_end (j : JN) : St := ⟨[], [(.code .ret)], mkT j [(2, (iB false))] 34 0⟩
theorem p10x1 (hE : EnvOk E) (C N O : List DT) (s n o i : Nat) (mg ms : Int) (h0 : (decide (Int.ofNat i < (↑n : Int)) : Bool) = false) (h1 : (decide ((↑s : Int) ≤ (9 : Int)) == true : Bool) = true) (h2 : (decide ((↑s : Int) ≤ (9 : Int)) == true : Bool) = true) (h3 : (decide ((↑s : Int) ≤ (9 : Int)) == true : Bool) = true) (h4 : (decide ((↑s : Int) ≤ (9 : Int)) == true : Bool) = true) (h5 : (decide ((↑s : Int) ≤ (9 : Int)) : Bool) = true) (h6 : (decide ((↑n : Int) ≤ (9 : Int)) == true : Bool) = false) (h7 : (decide ((↑n : Int) ≤ (9 : Int)) == true : Bool) = false) (h8 : (decide ((↑n : Int) ≤ (9 : Int)) == true : Bool) = false) (h9 : (decide ((↑n : Int) ≤ (9 : Int)) == true : Bool) = false) (h10 : (decide ((↑n : Int) ≤ (9 : Int)) : Bool) = false) {Φ : Res → Prop} (ho : ∀ j, OutK E 0 0 (p10x1_end j) Φ) (j : JN) : OutK E 0 0 (y10 C N O s n o i mg ms j) Φ :=
 oS hE [.run 2, (.ops [(3, (.d .len))] []), (.cond false), .run 2, (.ops [(2, (.d .len)), (7, (.d .len)), (9, (.pk true)), (15, (.pk false))] [(5, true), (6, true), (7, true), (8, true), (11, false), (12, false), (13, false), (14, false)])] [2] (s' := fun j => ⟨[(bK (tQ C s N n mg ms O o) 5 71)], [(.code .ret)], mkT j [(2, (iB false))] 34 0⟩) (aQ h0 h1 h2 h3 <| aQ h4 h5 h6 h7 <| aP h8 <| aP h9 <| aP h10 <| aZ)
  fun j => gZ [] (ho j)
def p10x3_end (o : Nat) (j : JN) : St := ⟨[], [(.code .ret)], mkT j [(2, (iB (decide ((↑o : Int) ≤ (9 : Int)))))] 34 0⟩
theorem p10x3 (hE : EnvOk E) (C N O : List DT) (s n o i : Nat) (mg ms : Int) (h0 : (decide (Int.ofNat i < (↑n : Int)) : Bool) = false) (h1 : (decide ((↑s : Int) ≤ (9 : Int)) == true : Bool) = true) (h2 : (decide ((↑s : Int) ≤ (9 : Int)) == true : Bool) = true) (h3 : (decide ((↑s : Int) ≤ (9 : Int)) == true : Bool) = true) (h4 : (decide ((↑s : Int) ≤ (9 : Int)) == true : Bool) = true) (h5 : (decide ((↑s : Int) ≤ (9 : Int)) : Bool) = true) (h6 : (decide ((↑n : Int) ≤ (9 : Int)) == true : Bool) = true) (h7 : (decide ((↑n : Int) ≤ (9 : Int)) == true : Bool) = true) (h8 : (decide ((↑n : Int) ≤ (9 : Int)) == true : Bool) = true) (h9 : (decide ((↑n : Int) ≤ (9 : Int)) == true : Bool) = true) (h10 : (decide ((↑n : Int) ≤ (9 : Int)) : Bool) = true) {Φ : Res → Prop} (ho : ∀ j, OutK E 0 0 (p10x3_end o j) Φ) (j : JN) : OutK E 0 0 (y10 C N O s n o i mg ms j) Φ :=
 oS hE [.run 2, (.ops [(3, (.d .len))] []), (.cond false), .run 2, (.ops [(2, (.d .len)), (7, (.d .len)), (9, (.pk true)), (13, (.d .len)), (15, (.pk true))] [(5, true), (6, true), (7, true), (8, true), (11, true), (12, true), (13, true), (14, true)])] [2] (s' := fun j => ⟨[(bK (tQ C s N n mg ms O o) 5 71)], [(.code .ret)], mkT j [(2, (iB (decide ((↑o : Int) ≤ (9 : Int)))))] 34 0⟩) (aQ h0 h1 h2 h3 <| aQ h4 h5 h6 h7 <| aP h8 <| aP h9 <| aP h10 <| aZ)
  fun j => gZ [] (ho j)
def p129s_end (C : List DT) (s i : Nat) (x : Int) (j : JN) : St := ⟨[], [(.code (aF [1, 0, 1, 0, 0] Tryz.f48)), (.inLoop (aF [1, 0, 1, 0, 0] Tryz.f48)), (.inBlock 0), (.code (aF [1, 1] Tryz.f48))], mkT j [(0, (dQ C s)), (1, (iI x)), (5, (iN (i + 1)))] 18 0⟩
theorem p129s (hE : EnvOk E) (C : List DT) (s i : Nat) (x z : Int) (h0 : (decide (Int.ofNat i < (↑s : Int)) : Bool) = true) (h1 : (0 : Int) ≤ Int.ofNat i ∧ Int.ofNat i < (↑s : Int)) (h2 : ((Int.ofNat i).toNat * nat_lit 1 : Nat) = i) (h3 : (getL C i : Option DT) = (.some (.v (.int .i64 z)))) (h4 : (z == x : Bool) = false) (h5 : ((iI (wrapF IntKind.i64 (Int.ofNat i + (1 : Int)))) : AV) = (iN (i + 1))) {Φ : Res → Prop} (ho : ∀ j, OutK E 0 0 (p129s_end C s i x j) Φ) (j : JN) : OutK E 0 0 (y129 C s i x j) Φ :=
 oS hE [.run 2, (.ops [(2, (.d .len))] []), (.cond true), .run 4, (.ops [(3, (.d (.ld (.v (.int .i64 z))))), (2, (.d (.ix i)))] []), (.cond false), .run 2, (.ops [(1, (.rn (iN (i + 1))))] []), .run 1] [0, 1, 5] (aQ h0 h1 h2 h3 <| aP h4 <| aP h5 <| aZ)
  ho
def p129t_end (j : JN) : St := ⟨[], [(.code .ret), (.inBlock 1), (.code (aF [1, 0, 1, 0, 0, 1, 1] Tryz.f48)), (.inLoop (aF [1, 0, 1, 0, 0] Tryz.f48)), (.inBlock 0), (.code (aF [1, 1] Tryz.f48))], mkT j [(4, (iB true))] 18 0⟩
theorem p129t (hE : EnvOk E) (C : List DT) (s i : Nat) (x z : Int) (h0 : (decide (Int.ofNat i < (↑s : Int)) : Bool) = true) (h1 : (0 : Int) ≤ Int.ofNat i ∧ Int.ofNat i < (↑s : Int)) (h2 : ((Int.ofNat i).toNat * nat_lit 1 : Nat) = i) (h3 : (getL C i : Option DT) = (.some (.v (.int .i64 z)))) (h4 : (z == x : Bool) = true) {Φ : Res → Prop} (ho : ∀ j, OutK E 0 0 (p129t_end j) Φ) (j : JN) : OutK E 0 0 (y129 C s i x j) Φ :=
 oS hE [.run 2, (.ops [(2, (.d .len))] []), (.cond true), .run 4, (.ops [(3, (.d (.ld (.v (.int .i64 z))))), (2, (.d (.ix i)))] []), (.cond true), .run 2] [4] (aQ h0 h1 h2 h3 <| aP h4 <| aZ)
  ho
def p129x_end (j : JN) : St := ⟨[], [(.code .ret)], mkT j [(4, (iB false))] 18 0⟩
theorem p129x (hE : EnvOk E) (C : List DT) (s i : Nat) (x : Int) (h0 : (decide (Int.ofNat i < (↑s : Int)) : Bool) = false) {Φ : Res → Prop} (ho : ∀ j, OutK E 0 0 (p129x_end j) Φ) (j : JN) : OutK E 0 0 (y129 C s i x j) Φ :=
 oS hE [.run 2, (.ops [(2, (.d .len))] []), (.cond false), .run 3] [4] (aP h0 <| aZ)
  ho
abbrev tnC (sg : List Int) (ns : List (List Int)) (mg ms : Int) (nt : List Int) : List AC := (tQ (iD sg) sg.length (rD ns) ns.length mg ms (iD nt) nt.length)
def ixE (x n : Int) : Int := if x < 0 ∨ n ≤ x then 10 else 0
theorem ix_of (x n : Int) : (bif decide (x < 0) then 10 else fI (decide (x ≥ n)) 10) = ixE x n := by
 unfold ixE
 by_cases h : x < 0
 ·rw [decide_eq_true h, if_pos (.inl h)]; rfl
 ·rw [decide_eq_false h]
  show fI (decide (x ≥ n)) 10 = _
  unfold fI
  by_cases g : n ≤ x
  ·rw [if_pos (decide_eq_true g), if_pos (.inr g)]
  ·rw [if_neg (by simpa using g), if_neg (by omega)]
theorem K16 (hE : EnvOk E) (n x : Int) : COut E 0 [] 27 [iI n, iI x] (iI (ixE x n)) [] := by
 have h := A16_all hE [] [] [] [] 0 0 0 0 0 0 0 x (n)
 rw [show A16_r0 x n = ixE x n from ix_of x n] at h
 exact h
theorem K71 (hE : EnvOk E) (x n : Int) : COut E 0 [] 83 [iI x, iI n] (iI (ixE x n)) [] := by
 have h := A71_all hE [] [] [] [] 0 0 0 0 0 0 0 x (n)
 rw [show A71_r0 x n = ixE x n from ix_of x n] at h
 exact h
theorem l129 (hE : EnvOk E) (xs : List Int) (x : Int) (hm : xs.length ≤ 100000) : ∀ k i, k + i = xs.length → ∀ j, OutK E 0 0 (y129 (iD xs) xs.length i x j) (Go.Ev.Ends E Tryz.f48 (iB (decide (x ∈ xs.drop i))) [])
 | 0, i, hi, j => by
  obtain rfl : i = xs.length := by omega
  rw [List.drop_length, decide_eq_false (by simp)]
  exact p129x hE (iD xs) xs.length xs.length x dF (fun j => outK_ret (ends_ret (by kernel_rfl))) j
 | k + 1, i, hi, j => by
  have hl : i < xs.length := by omega
  have hx : xs[i]? = some xs[i] := List.getElem?_eq_getElem hl
  have ih := l129 hE xs x hm k (i + 1) (by omega)
  rw [List.drop_eq_getElem_cons hl]
  generalize xs[i] = z at hx
  by_cases h : z = x
  ·rw [decide_eq_true (show x ∈ z :: xs.drop (i + 1) by rw [h]; exact List.mem_cons_self ..)]
   exact p129t hE (iD xs) xs.length i x z dT bP (Nat.mul_one _) (gI hx) (beq_iff_eq.2 h) (fun j => outK_ret (ends_ret (by kernel_rfl))) j
  ·rw [show decide (x ∈ z :: xs.drop (i + 1)) = decide (x ∈ xs.drop (i + 1)) from decide_eq_decide.2 ⟨fun a => (List.mem_cons.1 a).elim (fun e => absurd e.symm h) id, List.mem_cons_of_mem _⟩]
   exact p129s hE (iD xs) xs.length i x z dT bP (Nat.mul_one _) (gI hx) (beq_eq_false_iff_ne.2 h) (iIe (by (try simp only [Int.ofNat_eq_natCast]); rw [wrap_id (by omega) (by omega)]; try omega)) ih j
theorem K129 (hE : EnvOk E) (xs : List Int) (x : Int) (hm : xs.length ≤ 100000) : COut E 0 [] 48 [dI xs, iI x] (iB (decide (x ∈ xs))) [] := cOut_start Tryz.func48 rfl (p129a hE (iD xs) xs.length x (l129 hE xs x hm xs.length 0 rfl) fun _ => undef)
theorem K12 (hE : EnvOk E) (sg : List Int) (ns : List (List Int)) (mg ms : Int) (nt : List Int) (h1 : sg.length ≤ 100000) (h2 : ns.length ≤ 5000) (h3 : ∀ r ∈ ns, r.length ≤ 100000) (h4 : nt.length ≤ 100000) : COut E 0 [] 36 [.e (.agg (tnC sg ns mg ms nt))] (.e (.agg (tnC sg ns mg ms nt))) [] :=
 cOut_clear (cOut_start Tryz.func36 rfl (p12 hE (iD sg) (rD ns) (iD nt) sg.length ns.length nt.length mg ms (K28 hE sg h1) (K30 hE ns h2 h3) (K28 hE nt h4) (fun j => outK_ret (ends_ret (by kernel_rfl))) fun _ => undef)) rfl
def shortT (sg : List Int) (ns M : List (List Int)) (nt : List Int) : Prop := (∀ r ∈ M, r.length ≤ 9) ∧ sg.length ≤ 9 ∧ ns.length ≤ 9 ∧ nt.length ≤ 9
instance (sg : List Int) (ns M : List (List Int)) (nt : List Int) : Decidable (shortT sg ns M nt) := by unfold shortT; infer_instance
theorem l10 (hE : EnvOk E) (sg : List Int) (ns : List (List Int)) (mg ms : Int) (nt : List Int) (hL : ns.length ≤ 9223372036854775807) : ∀ k i, k + i = ns.length → ∀ j, OutK E 0 0 (y10 (iD sg) (rD ns) (iD nt) sg.length ns.length nt.length i mg ms j) (Go.Ev.Ends E Tryz.f33 (iB (decide (shortT sg ns (ns.drop i) nt))) [])
 | 0, i, hi, j => by
  obtain rfl : i = ns.length := by omega
  rw [List.drop_length]
  by_cases a : sg.length ≤ 9
  ·have ha : decide ((sg.length : Int) ≤ 9) = true := decide_eq_true (by omega)
   by_cases b : ns.length ≤ 9
   ·have hb : decide ((ns.length : Int) ≤ 9) = true := decide_eq_true (by omega)
    rw [show decide (shortT sg ns [] nt) = decide ((nt.length : Int) ≤ 9) from decide_eq_decide.2 ⟨fun h => by have := h.2.2.2; omega, fun h => ⟨by simp, a, b, by omega⟩⟩]
    exact p10x3 hE (iD sg) (rD ns) (iD nt) sg.length ns.length nt.length ns.length mg ms dF (by first | (rw [ha]; rfl) | (rw [hb]; rfl)) (by first | (rw [ha]; rfl) | (rw [hb]; rfl)) (by first | (rw [ha]; rfl) | (rw [hb]; rfl)) (by first | (rw [ha]; rfl) | (rw [hb]; rfl)) ha (by first | (rw [ha]; rfl) | (rw [hb]; rfl)) (by first | (rw [ha]; rfl) | (rw [hb]; rfl)) (by first | (rw [ha]; rfl) | (rw [hb]; rfl)) (by first | (rw [ha]; rfl) | (rw [hb]; rfl)) hb (fun j => outK_ret (ends_ret (by kernel_rfl))) j
   ·have hb : decide ((ns.length : Int) ≤ 9) = false := decide_eq_false (by omega)
    rw [decide_eq_false (show ¬ shortT sg ns [] nt from fun h => b h.2.2.1)]
    exact p10x1 hE (iD sg) (rD ns) (iD nt) sg.length ns.length nt.length ns.length mg ms dF (by first | (rw [ha]; rfl) | (rw [hb]; rfl)) (by first | (rw [ha]; rfl) | (rw [hb]; rfl)) (by first | (rw [ha]; rfl) | (rw [hb]; rfl)) (by first | (rw [ha]; rfl) | (rw [hb]; rfl)) ha (by first | (rw [ha]; rfl) | (rw [hb]; rfl)) (by first | (rw [ha]; rfl) | (rw [hb]; rfl)) (by first | (rw [ha]; rfl) | (rw [hb]; rfl)) (by first | (rw [ha]; rfl) | (rw [hb]; rfl)) hb (fun j => outK_ret (ends_ret (by kernel_rfl))) j
  ·have ha : decide ((sg.length : Int) ≤ 9) = false := decide_eq_false (by omega)
   rw [decide_eq_false (show ¬ shortT sg ns [] nt from fun h => a h.2.1)]
   exact p10x0 hE (iD sg) (rD ns) (iD nt) sg.length ns.length nt.length ns.length mg ms dF (by rw [ha]; rfl) (by rw [ha]; rfl) (by rw [ha]; rfl) (by rw [ha]; rfl) ha (fun j => outK_ret (ends_ret (by kernel_rfl))) j
 | k + 1, i, hi, j => by
  have hl : i < ns.length := by omega
  have hx : ns[i]? = some ns[i] := List.getElem?_eq_getElem hl
  have ih := l10 hE sg ns mg ms nt hL k (i + 1) (by omega)
  rw [List.drop_eq_getElem_cons hl]
  generalize ns[i] = r at hx
  by_cases h : r.length ≤ 9
  ·rw [show decide (shortT sg ns (r :: ns.drop (i + 1)) nt) = decide (shortT sg ns (ns.drop (i + 1)) nt) from decide_eq_decide.2 ⟨fun a => ⟨fun s hs => a.1 s (List.mem_cons_of_mem _ hs), a.2⟩, fun a => ⟨fun s hs => (List.mem_cons.1 hs).elim (fun e => e ▸ h) (a.1 s), a.2⟩⟩]
   exact p10s hE (iD sg) (rD ns) (iD nt) (iD r) sg.length ns.length nt.length r.length i mg ms dT bP (Nat.mul_one _) (gR hx) dF (iIe (by (try simp only [Int.ofNat_eq_natCast]); rw [wrap_id (by omega) (by omega)]; try omega)) ih j
  ·rw [decide_eq_false (show ¬ shortT sg ns (r :: ns.drop (i + 1)) nt from fun a => h (a.1 r (List.mem_cons_self ..)))]
   exact p10f hE (iD sg) (rD ns) (iD nt) (iD r) sg.length ns.length nt.length r.length i mg ms dT bP (Nat.mul_one _) (gR hx) dT (fun j => outK_ret (ends_ret (by kernel_rfl))) j
theorem K10 (hE : EnvOk E) (sg : List Int) (ns : List (List Int)) (mg ms : Int) (nt : List Int) (hL : ns.length ≤ 9223372036854775807) : COut E 0 [] 33 [.e (.agg (tnC sg ns mg ms nt))] (iB (decide (shortT sg ns ns nt))) [] := cOut_clear (cOut_start Tryz.func33 rfl (p10a hE (iD sg) (rD ns) (iD nt) sg.length ns.length nt.length mg ms (l10 hE sg ns mg ms nt hL ns.length 0 rfl) fun _ => undef)) rfl
end
end Go.Proofs.YtigdchbjmnbjlaaGreatDoor
end

/-! SeDb -/
section
open Go Go.Ev
namespace Go.Proofs.YtigdchbjmnbjlaaGreatDoor
noncomputable section
set_option maxRecDepth 100000
set_option maxHeartbeats 20000000
def x81 (R : List DT) (m : Nat) (x : Int) (_j : JN) : St := startK Tryz.f169 [] [(dQ R m), iI x]
def p81n_end (j : JN) : St := ⟨[], [(.code .ret), (.code (aF [1, 1] Tryz.f169))], mkT j [(4, (iI 2))] 12 0⟩
theorem p81n (hE : EnvOk E) (R : List DT) (m : Nat) (x : Int) (h0 : ((↑m : Int) != x : Bool) = true) {Φ : Res → Prop} (ho : ∀ j, OutK E 0 0 (p81n_end j) Φ) (j : JN) : OutK E 0 0 (x81 R m x j) Φ :=
 oS hE [.run 4, (.ops [(1, (.d .len))] []), (.cond true), .run 2] [4] (aP h0 <| aZ)
  ho
def p81s_end (e : Int) (j : JN) : St := ⟨[], [(.code .ret)], mkT j [(4, (iI e))] 12 0⟩
theorem p81s (hE : EnvOk E) (R : List DT) (m : Nat) (x e : Int) (h0 : ((↑m : Int) != x : Bool) = false) (h1 : COut E 0 [(bK [(.v (.int .i64 1))] 1 3), (bK [(.v (.int .i64 1000000))] 1 3)] 103 [(dQ R m), (.e (.one (.clo 162 [] [(.one (.ptr 0 0)), (.one (.ptr 1 0))])))] (iI e) [(bK [(.v (.int .i64 1))] 1 3), (bK [(.v (.int .i64 1000000))] 1 3)]) {Φ : Res → Prop} (ho : ∀ j, OutK E 0 0 (p81s_end e j) Φ) (j : JN) : OutK E 0 0 (x81 R m x j) Φ :=
 outK_seg hE (R4_ok hE) [.run 4, (.ops [(1, (.d .len))] []), (.cond false), .run 2, (.ops [(2, (.cw (iI e) [(bK [(.v (.int .i64 1))] 1 3), (bK [(.v (.int .i64 1000000))] 1 3)]))] [])] [4] (s' := fun j => ⟨[(bK [(.v (.int .i64 1))] 1 3), (bK [(.v (.int .i64 1000000))] 1 3)], [(.code .ret)], mkT j [(4, (iI e))] 12 0⟩) (fun j => by kernel_rfl) (aP h0 <| aP h1 <| aZ)
  fun j => gZ [] (ho j)
def parE (n : Int) (r : List Int) : Int := if (r.length : Int) = n then eachE 1 1000000 r else 2
theorem K81 (hE : EnvOk E) (r : List Int) (n : Int) (hm : r.length ≤ 100000) : COut E 0 [] 169 [dI r, iI n] (iI (parE n r)) [] := by
 unfold parE
 by_cases h : (r.length : Int) = n
 ·rw [if_pos h]
  exact cOut_clear (cOut_start Tryz.func169 rfl (p81s hE (iD r) r.length n (eachE 1 1000000 r) (by rw [h]; simp) (K82 hE 1 1000000 r hm) (fun j => outK_ret (ends_ret (by kernel_rfl))) fun _ => undef)) rfl
 ·rw [if_neg h]
  exact cOut_start Tryz.func169 rfl (p81n hE (iD r) r.length n (bne_iff_ne.2 h) (fun j => outK_ret (ends_ret (by kernel_rfl))) fun _ => undef)
def parsE (n : Int) : List (List Int) → Int
 | [] => 0
 | r :: l => if parE n r = 0 then parsE n l else parE n r
def noiE (n : Int) (L : List (List Int)) : Int := if L.length = 0 then 12 else if (L.length : Int) > 8 then 5 else parsE n L
end
end Go.Proofs.YtigdchbjmnbjlaaGreatDoor
end

/-! SeDc -/
section
open Go Go.Ev
namespace Go.Proofs.YtigdchbjmnbjlaaGreatDoor
noncomputable section
set_option maxRecDepth 100000
set_option maxHeartbeats 20000000
def rise (x l n : Int) : Int := firstI [ixE x n, fI (decide (x ≤ l)) 11]
def ascE (n : Int) : Int → List Int → Int
 | _, [] => 0
 | l, x :: r => if rise x l n = 0 then ascE n x r else rise x l n
def ascL (n : Int) : Int → List Int → Int
 | l, [] => l
 | l, x :: r => if rise x l n = 0 then ascL n x r else x
end
end Go.Proofs.YtigdchbjmnbjlaaGreatDoor
end

/-! SeDd -/
section
open Go Go.Ev
namespace Go.Proofs.YtigdchbjmnbjlaaGreatDoor
noncomputable section
set_option maxRecDepth 100000
set_option maxHeartbeats 20000000
def zd77 (C _N _O _R _T : List DT) (s _n _o _m _t _i : Nat) (_mg _ms _x _e lo hi z _a _b _c _d _g _f _l : Int) (_j : JN) : St := startK Tryz.f167 [bK [.v (.int .i64 lo)] 1 3, bK [.v (.int .i64 hi)] 1 3] [(dQ C s), iI z, (.e (.one (.clo 162 [] [.one (.ptr 0 0), .one (.ptr 1 0)])))]
def zd80 (C N O R _T : List DT) (s n o m _t _i : Nat) (mg ms _x _e _lo _hi _z _a _b _c _d _g _f _l : Int) (_j : JN) : St := startK Tryz.f168 [bK (tQ C s N n mg ms O o) 5 78] [(dQ R m), (.e (.one (.ptr 0 0)))]
def zd134 (C N O _R T : List DT) (s n o _m t _i : Nat) (mg ms _x _e _lo _hi _z _a _b _c _d _g _f _l : Int) (_j : JN) : St := startK Tryz.f175 [bK (tQ C s N n mg ms O o) 5 78] [(dQ T t), (.e (.one (.clo 168 [] [.one (.ptr 0 0)])))]
def zd88 (C N O _R T : List DT) (s n o _m t _i : Nat) (mg ms _x _e _lo _hi _z _a _b _c _d _g _f _l : Int) (_j : JN) : St := startK Tryz.f126 [bK (tQ C s N n mg ms O o) 5 78] [(dQ T t), iI 8, (.e (.one (.clo 168 [] [.one (.ptr 0 0)])))]
def zd79 (C N O _R T : List DT) (s n o _m t _i : Nat) (mg ms _x _e _lo _hi _z _a _b _c _d _g _f _l : Int) (_j : JN) : St := startK Tryz.f131 [bK (tQ C s N n mg ms O o) 5 78] [(dQ T t), iI 8, (.e (.one (.clo 168 [] [.one (.ptr 0 0)])))]
def zw157 (C N O _R _T : List DT) (s n o _m _t _i : Nat) (mg ms x _e _lo _hi _z _a _b _c _d _g _f l : Int) (_j : JN) : St := startK Tryz.f200 [bK (tQ C s N n mg ms O o) 5 78, bK [.v (.int .i64 0)] 1 3, bK [.v (.int .i64 1000000000)] 1 3, bK [.v (.int .i64 (Int.ofNat s))] 1 3, bK [.clo 200 [] [.one (.ptr 5 0)]] 1 172, bK [.v (.int .i64 l)] 1 3] [iI x, (.e (.one (.ptr 5 0)))]
def zw132 (C N O _R _T : List DT) (s n o _m _t _i : Nat) (mg ms x _e _lo _hi _z _a _b _c _d _g _f l : Int) (_j : JN) : St := startK Tryz.f190 [bK (tQ C s N n mg ms O o) 5 78, bK [.v (.int .i64 0)] 1 3, bK [.v (.int .i64 1000000000)] 1 3, bK [.v (.int .i64 (Int.ofNat s))] 1 3, bK [.clo 200 [] [.one (.ptr 5 0)]] 1 172, bK [.v (.int .i64 l)] 1 3] [iI x, (.e (.one (.ptr 3 0))), (.e (.one (.ptr 4 0)))]
def zw82 (C N O R _T : List DT) (s n o m _t _i : Nat) (mg ms _x _e _lo _hi _z _a _b _c _d _g _f l : Int) (_j : JN) : St := startK Tryz.f103 [bK (tQ C s N n mg ms O o) 5 78, bK [.v (.int .i64 0)] 1 3, bK [.v (.int .i64 1000000000)] 1 3, bK [.v (.int .i64 (Int.ofNat s))] 1 3, bK [.clo 200 [] [.one (.ptr 5 0)]] 1 172, bK [.v (.int .i64 l)] 1 3] [(dQ R m), (.e (.one (.clo 190 [] [.one (.ptr 3 0), .one (.ptr 4 0)])))]
def x22 (C N O : List DT) (s n o : Nat) (mg ms : Int) (_j : JN) : St := startK Tryz.f113 [] [.e (.agg (tQ C s N n mg ms O o))]
def x70 (C N O : List DT) (s n o : Nat) (mg ms x : Int) (_j : JN) : St := startK Tryz.f101 [] [.e (.agg (tQ C s N n mg ms O o)), iI x]
def wd134 (C N O _R T : List DT) (s n o _m t i : Nat) (mg ms _x _e _lo _hi _z _a _b _c _d _g _f _l : Int) (j : JN) : St := ⟨[(bK (tQ C s N n mg ms O o) 5 78)], [(.code (aF [1, 0, 1, 0, 0] Tryz.f175)), (.inLoop (aF [1, 0, 1, 0, 0] Tryz.f175)), (.inBlock 0), (.code (aF [1, 1] Tryz.f175))], mkT j [(1, (.e (.one (.clo 168 [] [(.one (.ptr 0 0))])))), (8, (dQ T t)), (9, (iN t)), (10, (iN i))] 21 0⟩
def ww82 (C N O R _T : List DT) (s n o m _t i : Nat) (mg ms _x _e _lo _hi _z _a _b _c _d _g _f l : Int) (j : JN) : St := ⟨[(bK (tQ C s N n mg ms O o) 5 78), (bK [(.v (.int .i64 0))] 1 3), (bK [(.v (.int .i64 1000000000))] 1 3), (bK [(.v (.int .i64 (Int.ofNat s)))] 1 3), (bK [(.clo 200 [] [(.one (.ptr 5 0))])] 1 172), (bK [(.v (.int .i64 l))] 1 3)], [(.code (aF [1, 0, 1, 0, 0] Tryz.f103)), (.inLoop (aF [1, 0, 1, 0, 0] Tryz.f103)), (.inBlock 0), (.code (aF [1, 1] Tryz.f103))], mkT j [(1, (.e (.one (.clo 190 [] [(.one (.ptr 3 0)), (.one (.ptr 4 0))])))), (8, (dQ R m)), (9, (iN m)), (10, (iN i))] 21 0⟩
def qd77z_end (_C _N _O _R _T : List DT) (_s _n _o _m _t _i : Nat) (_mg _ms _x _e lo hi _z _a _b _c _d _g _f _l : Int) (j : JN) : St := ⟨[(bK [(.v (.int .i64 lo))] 1 3), (bK [(.v (.int .i64 hi))] 1 3)], [(.code .ret), (.code (aF [1, 1] Tryz.f167))], mkT j [(6, (iI 12))] 14 0⟩
theorem qd77z (hE : EnvOk E) (C N O R T : List DT) (s n o m t i : Nat) (mg ms x e lo hi z a b c d g f l : Int) (h0 : ((↑s : Int) == (0 : Int) : Bool) = true) {Φ : Res → Prop} (ho : ∀ j, OutK E 2 2 (qd77z_end C N O R T s n o m t i mg ms x e lo hi z a b c d g f l j) Φ) (j : JN) : OutK E 2 2 (zd77 C N O R T s n o m t i mg ms x e lo hi z a b c d g f l j) Φ :=
 oS hE [.run 4, (.ops [(1, (.d .len))] []), (.cond true), .run 2] [6] (aP h0 <| aZ)
  ho
def qd77s_end (_C _N _O _R _T : List DT) (_s _n _o _m _t _i : Nat) (_mg _ms _x e lo hi _z _a _b _c _d _g _f _l : Int) (j : JN) : St := ⟨[(bK [(.v (.int .i64 lo))] 1 3), (bK [(.v (.int .i64 hi))] 1 3)], [(.code .ret)], mkT j [(6, (iI e))] 14 0⟩
theorem qd77s (hE : EnvOk E) (C N O R T : List DT) (s n o m t i : Nat) (mg ms x e lo hi z a b c d g f l : Int) (h0 : ((↑s : Int) == (0 : Int) : Bool) = false) (h1 : COut E 2 [(bK [(.v (.int .i64 lo))] 1 3), (bK [(.v (.int .i64 hi))] 1 3)] 133 [(dQ C s), (iI z), (.e (.one (.clo 162 [] [(.one (.ptr 0 0)), (.one (.ptr 1 0))])))] (iI e) [(bK [(.v (.int .i64 lo))] 1 3), (bK [(.v (.int .i64 hi))] 1 3)]) {Φ : Res → Prop} (ho : ∀ j, OutK E 2 2 (qd77s_end C N O R T s n o m t i mg ms x e lo hi z a b c d g f l j) Φ) (j : JN) : OutK E 2 2 (zd77 C N O R T s n o m t i mg ms x e lo hi z a b c d g f l j) Φ :=
 oS hE [.run 4, (.ops [(1, (.d .len))] []), (.cond false), .run 2, (.ops [(3, (.cw (iI e) [(bK [(.v (.int .i64 lo))] 1 3), (bK [(.v (.int .i64 hi))] 1 3)]))] [])] [6] (aP h0 <| aP h1 <| aZ)
  ho
def qd80_end (C N O _R _T : List DT) (s n o _m _t _i : Nat) (mg ms _x e _lo _hi _z _a _b _c _d _g _f _l : Int) (j : JN) : St := ⟨[(bK (tQ C s N n mg ms O o) 5 78)], [(.code .ret)], mkT j [(3, (iI e))] 9 0⟩
theorem qd80 (hE : EnvOk E) (C N O R T : List DT) (s n o m t i : Nat) (mg ms x e lo hi z a b c d g f l : Int) (h0 : COut E 0 [] 169 [(dQ R m), (iN s)] (iI e) []) {Φ : Res → Prop} (ho : ∀ j, OutK E 1 1 (qd80_end C N O R T s n o m t i mg ms x e lo hi z a b c d g f l j) Φ) (j : JN) : OutK E 1 1 (zd80 C N O R T s n o m t i mg ms x e lo hi z a b c d g f l j) Φ :=
 oS hE [.run 3, (.ops [(4, (.c0 (iI e))), (3, (.d .len))] [])] [3] (aP h0 <| aN <| aZ)
  ho
def qd134a_end (C N O _R T : List DT) (s n o _m t _i : Nat) (mg ms _x _e _lo _hi _z _a _b _c _d _g _f _l : Int) (j : JN) : St := ⟨[(bK (tQ C s N n mg ms O o) 5 78)], [(.code (aF [1, 0, 1, 0, 0] Tryz.f175)), (.inLoop (aF [1, 0, 1, 0, 0] Tryz.f175)), (.inBlock 0), (.code (aF [1, 1] Tryz.f175))], mkT j [(1, (.e (.one (.clo 168 [] [(.one (.ptr 0 0))])))), (8, (dQ T t)), (9, (iN t)), (10, (iI 0))] 21 0⟩
theorem qd134a (hE : EnvOk E) (C N O R T : List DT) (s n o m t i : Nat) (mg ms x e lo hi z a b c d g f l : Int)  {Φ : Res → Prop} (ho : ∀ j, OutK E 1 1 (qd134a_end C N O R T s n o m t i mg ms x e lo hi z a b c d g f l j) Φ) (j : JN) : OutK E 1 1 (zd134 C N O R T s n o m t i mg ms x e lo hi z a b c d g f l j) Φ :=
 oS hE [.run 4, (.ops [(1, (.d .len))] []), .run 2] [1, 8, 9, 10] (ps := []) trivial
  ho
def qd88m_end (C N O _R _T : List DT) (s n o _m _t _i : Nat) (mg ms _x _e _lo _hi _z _a _b _c _d _g _f _l : Int) (j : JN) : St := ⟨[(bK (tQ C s N n mg ms O o) 5 78)], [(.code .ret), (.code (aF [1, 1] Tryz.f126))], mkT j [(6, (iI 5))] 14 0⟩
theorem qd88m (hE : EnvOk E) (C N O R T : List DT) (s n o m t i : Nat) (mg ms x e lo hi z a b c d g f l : Int) (h0 : (decide ((↑t : Int) > Int.ofNat (nat_lit 8)) : Bool) = true) {Φ : Res → Prop} (ho : ∀ j, OutK E 1 1 (qd88m_end C N O R T s n o m t i mg ms x e lo hi z a b c d g f l j) Φ) (j : JN) : OutK E 1 1 (zd88 C N O R T s n o m t i mg ms x e lo hi z a b c d g f l j) Φ :=
 oS hE [.run 4, (.ops [(1, (.d .len))] []), (.cond true), .run 2] [6] (aP h0 <| aZ)
  ho
def qd88s_end (C N O _R _T : List DT) (s n o _m _t _i : Nat) (mg ms _x e _lo _hi _z _a _b _c _d _g _f _l : Int) (j : JN) : St := ⟨[(bK (tQ C s N n mg ms O o) 5 78)], [(.code .ret)], mkT j [(6, (iI e))] 14 0⟩
theorem qd88s (hE : EnvOk E) (C N O R T : List DT) (s n o m t i : Nat) (mg ms x e lo hi z a b c d g f l : Int) (h0 : (decide ((↑t : Int) > Int.ofNat (nat_lit 8)) : Bool) = false) (h1 : COut E 1 [(bK (tQ C s N n mg ms O o) 5 78)] 175 [(dQ T t), (.e (.one (.clo 168 [] [(.one (.ptr 0 0))])))] (iI e) [(bK (tQ C s N n mg ms O o) 5 78)]) {Φ : Res → Prop} (ho : ∀ j, OutK E 1 1 (qd88s_end C N O R T s n o m t i mg ms x e lo hi z a b c d g f l j) Φ) (j : JN) : OutK E 1 1 (zd88 C N O R T s n o m t i mg ms x e lo hi z a b c d g f l j) Φ :=
 oS hE [.run 4, (.ops [(1, (.d .len))] []), (.cond false), .run 2, (.ops [(2, (.cw (iI e) [(bK (tQ C s N n mg ms O o) 5 78)]))] [])] [6] (aP h0 <| aP h1 <| aZ)
  ho
def qd79z_end (C N O _R _T : List DT) (s n o _m _t _i : Nat) (mg ms _x _e _lo _hi _z _a _b _c _d _g _f _l : Int) (j : JN) : St := ⟨[(bK (tQ C s N n mg ms O o) 5 78)], [(.code .ret), (.code (aF [1, 1] Tryz.f131))], mkT j [(6, (iI 12))] 14 0⟩
theorem qd79z (hE : EnvOk E) (C N O R T : List DT) (s n o m t i : Nat) (mg ms x e lo hi z a b c d g f l : Int) (h0 : ((↑t : Int) == (0 : Int) : Bool) = true) {Φ : Res → Prop} (ho : ∀ j, OutK E 1 1 (qd79z_end C N O R T s n o m t i mg ms x e lo hi z a b c d g f l j) Φ) (j : JN) : OutK E 1 1 (zd79 C N O R T s n o m t i mg ms x e lo hi z a b c d g f l j) Φ :=
 oS hE [.run 4, (.ops [(1, (.d .len))] []), (.cond true), .run 2] [6] (aP h0 <| aZ)
  ho
def qd79s_end (C N O _R _T : List DT) (s n o _m _t _i : Nat) (mg ms _x e _lo _hi _z _a _b _c _d _g _f _l : Int) (j : JN) : St := ⟨[(bK (tQ C s N n mg ms O o) 5 78)], [(.code .ret)], mkT j [(6, (iI e))] 14 0⟩
theorem qd79s (hE : EnvOk E) (C N O R T : List DT) (s n o m t i : Nat) (mg ms x e lo hi z a b c d g f l : Int) (h0 : ((↑t : Int) == (0 : Int) : Bool) = false) (h1 : COut E 1 [(bK (tQ C s N n mg ms O o) 5 78)] 126 [(dQ T t), (iI 8), (.e (.one (.clo 168 [] [(.one (.ptr 0 0))])))] (iI e) [(bK (tQ C s N n mg ms O o) 5 78)]) {Φ : Res → Prop} (ho : ∀ j, OutK E 1 1 (qd79s_end C N O R T s n o m t i mg ms x e lo hi z a b c d g f l j) Φ) (j : JN) : OutK E 1 1 (zd79 C N O R T s n o m t i mg ms x e lo hi z a b c d g f l j) Φ :=
 oS hE [.run 4, (.ops [(1, (.d .len))] []), (.cond false), .run 2, (.ops [(3, (.cw (iI e) [(bK (tQ C s N n mg ms O o) 5 78)]))] [])] [6] (aP h0 <| aP h1 <| aZ)
  ho
def qw157_end (C N O _R _T : List DT) (s n o _m _t _i : Nat) (mg ms x e _lo _hi _z _a _b _c _d _g _f _l : Int) (j : JN) : St := ⟨[(bK (tQ C s N n mg ms O o) 5 78), (bK [(.v (.int .i64 0))] 1 3), (bK [(.v (.int .i64 1000000000))] 1 3), (bK [(.v (.int .i64 (Int.ofNat s)))] 1 3), (bK [(.clo 200 [] [(.one (.ptr 5 0))])] 1 172), (bK [(.v (.int .i64 x))] 1 3)], [(.code .ret)], mkT j [(3, (iI e))] 11 0⟩
theorem qw157 (hE : EnvOk E) (C N O R T : List DT) (s n o m t i : Nat) (mg ms x e lo hi z a b c d g f l : Int) (h0 : COut E 0 [] 102 [(iB (decide (x ≤ l))), (iI 11)] (iI e) []) {Φ : Res → Prop} (ho : ∀ j, OutK E 0 6 (qw157_end C N O R T s n o m t i mg ms x e lo hi z a b c d g f l j) Φ) (j : JN) : OutK E 0 6 (zw157 C N O R T s n o m t i mg ms x e lo hi z a b c d g f l j) Φ :=
 oS hE [.run 3, (.ops [(3, (.c0 (iI e)))] []), .run 4] [3] (aP h0 <| aN <| aZ)
  ho
def qw132_end (C N O _R _T : List DT) (s n o _m _t _i : Nat) (mg ms x _e _lo _hi _z _a _b _c _d g _f _l : Int) (j : JN) : St := ⟨[(bK (tQ C s N n mg ms O o) 5 78), (bK [(.v (.int .i64 0))] 1 3), (bK [(.v (.int .i64 1000000000))] 1 3), (bK [(.v (.int .i64 (Int.ofNat s)))] 1 3), (bK [(.clo 200 [] [(.one (.ptr 5 0))])] 1 172), (bK [(.v (.int .i64 x))] 1 3)], [(.code .ret)], mkT j [(4, (iI g))] 13 0⟩
theorem qw132 (hE : EnvOk E) (C N O R T : List DT) (s n o m t i : Nat) (mg ms x e lo hi z a b c d g f l : Int) (h0 : COut E 0 [] 83 [(iI x), (iN s)] (iI e) []) (h3 : COut E 0 [(bK (tQ C s N n mg ms O o) 5 78), (bK [(.v (.int .i64 0))] 1 3), (bK [(.v (.int .i64 1000000000))] 1 3), (bK [(.v (.int .i64 (Int.ofNat s)))] 1 3), (bK [(.clo 200 [] [(.one (.ptr 5 0))])] 1 172), (bK [(.v (.int .i64 l))] 1 3)] 200 [(iI x), (.e (.one (.ptr 5 0)))] (iI f) [(bK (tQ C s N n mg ms O o) 5 78), (bK [(.v (.int .i64 0))] 1 3), (bK [(.v (.int .i64 1000000000))] 1 3), (bK [(.v (.int .i64 (Int.ofNat s)))] 1 3), (bK [(.clo 200 [] [(.one (.ptr 5 0))])] 1 172), (bK [(.v (.int .i64 x))] 1 3)]) (h4 : COut E 7 [(bK (tQ C s N n mg ms O o) 5 78), (bK [(.v (.int .i64 0))] 1 3), (bK [(.v (.int .i64 1000000000))] 1 3), (bK [(.v (.int .i64 (Int.ofNat s)))] 1 3), (bK [(.clo 200 [] [(.one (.ptr 5 0))])] 1 172), (bK [(.v (.int .i64 x))] 1 3), (bK [(.v (.int .i64 e)), (.v (.int .i64 f))] 2 31)] 76 [(.e (.one (.slc 6 0 2 1 2 true)))] (iI g) [(bK (tQ C s N n mg ms O o) 5 78), (bK [(.v (.int .i64 0))] 1 3), (bK [(.v (.int .i64 1000000000))] 1 3), (bK [(.v (.int .i64 (Int.ofNat s)))] 1 3), (bK [(.clo 200 [] [(.one (.ptr 5 0))])] 1 172), (bK [(.v (.int .i64 x))] 1 3), (bK [(.v (.int .i64 e)), (.v (.int .i64 f))] 2 31)]) {Φ : Res → Prop} (ho : ∀ j, OutK E 0 6 (qw132_end C N O R T s n o m t i mg ms x e lo hi z a b c d g f l j) Φ) (j : JN) : OutK E 0 6 (zw132 C N O R T s n o m t i mg ms x e lo hi z a b c d g f l j) Φ :=
 oS hE [.run 3, (.ops [(2, (.c0 (iI e))), (5, (.cw (iI f) [(bK (tQ C s N n mg ms O o) 5 78), (bK [(.v (.int .i64 0))] 1 3), (bK [(.v (.int .i64 1000000000))] 1 3), (bK [(.v (.int .i64 (Int.ofNat s)))] 1 3), (bK [(.clo 200 [] [(.one (.ptr 5 0))])] 1 172), (bK [(.v (.int .i64 x))] 1 3)])), (7, (.d (.c1 (iI g))))] [])] [4] (s' := fun j => ⟨[(bK (tQ C s N n mg ms O o) 5 78), (bK [(.v (.int .i64 0))] 1 3), (bK [(.v (.int .i64 1000000000))] 1 3), (bK [(.v (.int .i64 (Int.ofNat s)))] 1 3), (bK [(.clo 200 [] [(.one (.ptr 5 0))])] 1 172), (bK [(.v (.int .i64 x))] 1 3), (bK [(.v (.int .i64 e)), (.v (.int .i64 f))] 2 31)], [(.code .ret)], mkT j [(4, (iI g))] 13 0⟩) (aP h0 <| aN <| aV <| aP h3 <| aP h4 <| aN <| aZ)
  fun j => gZ [0, 1, 2, 3, 4, 5] (ho j)
def qw82a_end (C N O R _T : List DT) (s n o m _t _i : Nat) (mg ms _x _e _lo _hi _z _a _b _c _d _g _f l : Int) (j : JN) : St := ⟨[(bK (tQ C s N n mg ms O o) 5 78), (bK [(.v (.int .i64 0))] 1 3), (bK [(.v (.int .i64 1000000000))] 1 3), (bK [(.v (.int .i64 (Int.ofNat s)))] 1 3), (bK [(.clo 200 [] [(.one (.ptr 5 0))])] 1 172), (bK [(.v (.int .i64 l))] 1 3)], [(.code (aF [1, 0, 1, 0, 0] Tryz.f103)), (.inLoop (aF [1, 0, 1, 0, 0] Tryz.f103)), (.inBlock 0), (.code (aF [1, 1] Tryz.f103))], mkT j [(1, (.e (.one (.clo 190 [] [(.one (.ptr 3 0)), (.one (.ptr 4 0))])))), (8, (dQ R m)), (9, (iN m)), (10, (iI 0))] 21 0⟩
theorem qw82a (hE : EnvOk E) (C N O R T : List DT) (s n o m t i : Nat) (mg ms x e lo hi z a b c d g f l : Int)  {Φ : Res → Prop} (ho : ∀ j, OutK E 0 6 (qw82a_end C N O R T s n o m t i mg ms x e lo hi z a b c d g f l j) Φ) (j : JN) : OutK E 0 6 (zw82 C N O R T s n o m t i mg ms x e lo hi z a b c d g f l j) Φ :=
 oS hE [.run 4, (.ops [(1, (.d .len))] []), .run 2] [1, 8, 9, 10] (ps := []) trivial
  ho
def p70_end (g : Int) (j : JN) : St := ⟨[], [(.code .ret)], mkT j [(4, (iI g))] 14 0⟩
theorem p70 (hE : EnvOk E) (C N O : List DT) (s n o : Nat) (mg ms x a b g : Int) (h0 : COut E 0 [] 113 [(tA C s N n mg ms O o)] (iI a) []) (h3 : COut E 0 [] 83 [(iI x), (iN n)] (iI b) []) (h5 : COut E 2 [(bK (tQ C s N n mg ms O o) 5 78), (bK [(.v (.int .i64 a)), (.v (.int .i64 b))] 2 31)] 76 [(.e (.one (.slc 1 0 2 1 2 true)))] (iI g) [(bK (tQ C s N n mg ms O o) 5 78), (bK [(.v (.int .i64 a)), (.v (.int .i64 b))] 2 31)]) {Φ : Res → Prop} (ho : ∀ j, OutK E 0 0 (p70_end g j) Φ) (j : JN) : OutK E 0 0 (x70 C N O s n o mg ms x j) Φ :=
 oS hE [.run 3, (.ops [(1, (.c0 (iI a))), (6, (.c0 (iI b))), (8, (.d (.c1 (iI g)))), (5, (.d .len))] [])] [4] (s' := fun j => ⟨[(bK (tQ C s N n mg ms O o) 5 78), (bK [(.v (.int .i64 a)), (.v (.int .i64 b))] 2 31)], [(.code .ret)], mkT j [(4, (iI g))] 14 0⟩) (aP h0 <| aN <| aV <| aP h3 <| aN <| aP h5 <| aN <| aZ)
  fun j => gZ [] (ho j)
def qd134s_end (C N O _R T : List DT) (s n o _m t i : Nat) (mg ms _x _e _lo _hi _z _a _b _c _d _g _f _l : Int) (j : JN) : St := ⟨[(bK (tQ C s N n mg ms O o) 5 78)], [(.code (aF [1, 0, 1, 0, 0] Tryz.f175)), (.inLoop (aF [1, 0, 1, 0, 0] Tryz.f175)), (.inBlock 0), (.code (aF [1, 1] Tryz.f175))], mkT j [(1, (.e (.one (.clo 168 [] [(.one (.ptr 0 0))])))), (8, (dQ T t)), (9, (iN t)), (10, (iN (i + 1)))] 21 0⟩
theorem qd134s (hE : EnvOk E) (C N O R T : List DT) (s n o m t i : Nat) (mg ms x e lo hi z a b c d g f l : Int) (h0 : (decide (Int.ofNat i < Int.ofNat t) : Bool) = true) (h1 : (0 : Int) ≤ Int.ofNat i ∧ Int.ofNat i < (↑t : Int)) (h2 : ((Int.ofNat i).toNat * nat_lit 1 : Nat) = i) (h3 : (getL T i : Option DT) = (.some (.s R m 1))) (h4 : COut E 1 [(bK (tQ C s N n mg ms O o) 5 78)] 168 [(dQ R m), (.e (.one (.ptr 0 0)))] (iI e) [(bK (tQ C s N n mg ms O o) 5 78)]) (h5 : (e != (0 : Int) : Bool) = false) (h6 : ((iI (wrapF IntKind.i64 (Int.ofNat i + (1 : Int)))) : AV) = (iN (i + 1))) {Φ : Res → Prop} (ho : ∀ j, OutK E 1 1 (qd134s_end C N O R T s n o m t i mg ms x e lo hi z a b c d g f l j) Φ) (j : JN) : OutK E 1 1 (wd134 C N O R T s n o m t i mg ms x e lo hi z a b c d g f l j) Φ :=
 oS hE [.run 3, (.cond true), .run 4, (.ops [(1, (.d (.ld (.s R m 1)))), (0, (.d (.ix i)))] []), .run 1, (.ops [(2, (.cw (iI e) [(bK (tQ C s N n mg ms O o) 5 78)]))] []), .run 2, (.cond false), .run 2, (.ops [(0, (.rn (iN (i + 1))))] []), .run 1] [1, 8, 9, 10] (aQ h0 h1 h2 h3 <| aP h4 <| aP h5 <| aP h6 <| aZ)
  ho
def qd134e_end (C N O _R _T : List DT) (s n o _m _t _i : Nat) (mg ms _x e _lo _hi _z _a _b _c _d _g _f _l : Int) (j : JN) : St := ⟨[(bK (tQ C s N n mg ms O o) 5 78)], [(.code .ret), (.inBlock 1), (.code (aF [1, 0, 1, 0, 0, 1, 1, 1] Tryz.f175)), (.inLoop (aF [1, 0, 1, 0, 0] Tryz.f175)), (.inBlock 0), (.code (aF [1, 1] Tryz.f175))], mkT j [(4, (iI e))] 21 0⟩
theorem qd134e (hE : EnvOk E) (C N O R T : List DT) (s n o m t i : Nat) (mg ms x e lo hi z a b c d g f l : Int) (h0 : (decide (Int.ofNat i < Int.ofNat t) : Bool) = true) (h1 : (0 : Int) ≤ Int.ofNat i ∧ Int.ofNat i < (↑t : Int)) (h2 : ((Int.ofNat i).toNat * nat_lit 1 : Nat) = i) (h3 : (getL T i : Option DT) = (.some (.s R m 1))) (h4 : COut E 1 [(bK (tQ C s N n mg ms O o) 5 78)] 168 [(dQ R m), (.e (.one (.ptr 0 0)))] (iI e) [(bK (tQ C s N n mg ms O o) 5 78)]) (h5 : (e != (0 : Int) : Bool) = true) {Φ : Res → Prop} (ho : ∀ j, OutK E 1 1 (qd134e_end C N O R T s n o m t i mg ms x e lo hi z a b c d g f l j) Φ) (j : JN) : OutK E 1 1 (wd134 C N O R T s n o m t i mg ms x e lo hi z a b c d g f l j) Φ :=
 oS hE [.run 3, (.cond true), .run 4, (.ops [(1, (.d (.ld (.s R m 1)))), (0, (.d (.ix i)))] []), .run 1, (.ops [(2, (.cw (iI e) [(bK (tQ C s N n mg ms O o) 5 78)]))] []), .run 2, (.cond true), .run 2] [4] (aQ h0 h1 h2 h3 <| aP h4 <| aP h5 <| aZ)
  ho
def qd134x_end (C N O _R _T : List DT) (s n o _m _t _i : Nat) (mg ms _x _e _lo _hi _z _a _b _c _d _g _f _l : Int) (j : JN) : St := ⟨[(bK (tQ C s N n mg ms O o) 5 78)], [(.code .ret)], mkT j [(4, (iI 0))] 21 0⟩
theorem qd134x (hE : EnvOk E) (C N O R T : List DT) (s n o m t i : Nat) (mg ms x e lo hi z a b c d g f l : Int) (h0 : (decide (Int.ofNat i < Int.ofNat t) : Bool) = false) {Φ : Res → Prop} (ho : ∀ j, OutK E 1 1 (qd134x_end C N O R T s n o m t i mg ms x e lo hi z a b c d g f l j) Φ) (j : JN) : OutK E 1 1 (wd134 C N O R T s n o m t i mg ms x e lo hi z a b c d g f l j) Φ :=
 oS hE [.run 3, (.cond false), .run 3] [4] (aP h0 <| aZ)
  ho
def qw82s_end (C N O R _T : List DT) (s n o m _t i : Nat) (mg ms x _e _lo _hi _z _a _b _c _d _g _f _l : Int) (j : JN) : St := ⟨[(bK (tQ C s N n mg ms O o) 5 78), (bK [(.v (.int .i64 0))] 1 3), (bK [(.v (.int .i64 1000000000))] 1 3), (bK [(.v (.int .i64 (Int.ofNat s)))] 1 3), (bK [(.clo 200 [] [(.one (.ptr 5 0))])] 1 172), (bK [(.v (.int .i64 x))] 1 3)], [(.code (aF [1, 0, 1, 0, 0] Tryz.f103)), (.inLoop (aF [1, 0, 1, 0, 0] Tryz.f103)), (.inBlock 0), (.code (aF [1, 1] Tryz.f103))], mkT j [(1, (.e (.one (.clo 190 [] [(.one (.ptr 3 0)), (.one (.ptr 4 0))])))), (8, (dQ R m)), (9, (iN m)), (10, (iN (i + 1)))] 21 0⟩
theorem qw82s (hE : EnvOk E) (C N O R T : List DT) (s n o m t i : Nat) (mg ms x e lo hi z a b c d g f l : Int) (h0 : (decide (Int.ofNat i < Int.ofNat m) : Bool) = true) (h1 : (0 : Int) ≤ Int.ofNat i ∧ Int.ofNat i < (↑m : Int)) (h2 : ((Int.ofNat i).toNat * nat_lit 1 : Nat) = i) (h3 : (getL R i : Option DT) = (.some (.v (.int .i64 x)))) (h4 : COut E 0 [(bK (tQ C s N n mg ms O o) 5 78), (bK [(.v (.int .i64 0))] 1 3), (bK [(.v (.int .i64 1000000000))] 1 3), (bK [(.v (.int .i64 (Int.ofNat s)))] 1 3), (bK [(.clo 200 [] [(.one (.ptr 5 0))])] 1 172), (bK [(.v (.int .i64 l))] 1 3)] 190 [(iI x), (.e (.one (.ptr 3 0))), (.e (.one (.ptr 4 0)))] (iI e) [(bK (tQ C s N n mg ms O o) 5 78), (bK [(.v (.int .i64 0))] 1 3), (bK [(.v (.int .i64 1000000000))] 1 3), (bK [(.v (.int .i64 (Int.ofNat s)))] 1 3), (bK [(.clo 200 [] [(.one (.ptr 5 0))])] 1 172), (bK [(.v (.int .i64 x))] 1 3)]) (h5 : (e != (0 : Int) : Bool) = false) (h6 : ((iI (wrapF IntKind.i64 (Int.ofNat i + (1 : Int)))) : AV) = (iN (i + 1))) {Φ : Res → Prop} (ho : ∀ j, OutK E 0 6 (qw82s_end C N O R T s n o m t i mg ms x e lo hi z a b c d g f l j) Φ) (j : JN) : OutK E 0 6 (ww82 C N O R T s n o m t i mg ms x e lo hi z a b c d g f l j) Φ :=
 oS hE [.run 3, (.cond true), .run 4, (.ops [(1, (.d (.ld (.v (.int .i64 x))))), (0, (.d (.ix i)))] []), .run 1, (.ops [(2, (.cw (iI e) [(bK (tQ C s N n mg ms O o) 5 78), (bK [(.v (.int .i64 0))] 1 3), (bK [(.v (.int .i64 1000000000))] 1 3), (bK [(.v (.int .i64 (Int.ofNat s)))] 1 3), (bK [(.clo 200 [] [(.one (.ptr 5 0))])] 1 172), (bK [(.v (.int .i64 x))] 1 3)]))] []), .run 2, (.cond false), .run 2, (.ops [(0, (.rn (iN (i + 1))))] []), .run 1] [1, 8, 9, 10] (aQ h0 h1 h2 h3 <| aP h4 <| aP h5 <| aP h6 <| aZ)
  ho
def qw82e_end (C N O _R _T : List DT) (s n o _m _t _i : Nat) (mg ms x e _lo _hi _z _a _b _c _d _g _f _l : Int) (j : JN) : St := ⟨[(bK (tQ C s N n mg ms O o) 5 78), (bK [(.v (.int .i64 0))] 1 3), (bK [(.v (.int .i64 1000000000))] 1 3), (bK [(.v (.int .i64 (Int.ofNat s)))] 1 3), (bK [(.clo 200 [] [(.one (.ptr 5 0))])] 1 172), (bK [(.v (.int .i64 x))] 1 3)], [(.code .ret), (.inBlock 1), (.code (aF [1, 0, 1, 0, 0, 1, 1, 1] Tryz.f103)), (.inLoop (aF [1, 0, 1, 0, 0] Tryz.f103)), (.inBlock 0), (.code (aF [1, 1] Tryz.f103))], mkT j [(4, (iI e))] 21 0⟩
theorem qw82e (hE : EnvOk E) (C N O R T : List DT) (s n o m t i : Nat) (mg ms x e lo hi z a b c d g f l : Int) (h0 : (decide (Int.ofNat i < Int.ofNat m) : Bool) = true) (h1 : (0 : Int) ≤ Int.ofNat i ∧ Int.ofNat i < (↑m : Int)) (h2 : ((Int.ofNat i).toNat * nat_lit 1 : Nat) = i) (h3 : (getL R i : Option DT) = (.some (.v (.int .i64 x)))) (h4 : COut E 0 [(bK (tQ C s N n mg ms O o) 5 78), (bK [(.v (.int .i64 0))] 1 3), (bK [(.v (.int .i64 1000000000))] 1 3), (bK [(.v (.int .i64 (Int.ofNat s)))] 1 3), (bK [(.clo 200 [] [(.one (.ptr 5 0))])] 1 172), (bK [(.v (.int .i64 l))] 1 3)] 190 [(iI x), (.e (.one (.ptr 3 0))), (.e (.one (.ptr 4 0)))] (iI e) [(bK (tQ C s N n mg ms O o) 5 78), (bK [(.v (.int .i64 0))] 1 3), (bK [(.v (.int .i64 1000000000))] 1 3), (bK [(.v (.int .i64 (Int.ofNat s)))] 1 3), (bK [(.clo 200 [] [(.one (.ptr 5 0))])] 1 172), (bK [(.v (.int .i64 x))] 1 3)]) (h5 : (e != (0 : Int) : Bool) = true) {Φ : Res → Prop} (ho : ∀ j, OutK E 0 6 (qw82e_end C N O R T s n o m t i mg ms x e lo hi z a b c d g f l j) Φ) (j : JN) : OutK E 0 6 (ww82 C N O R T s n o m t i mg ms x e lo hi z a b c d g f l j) Φ :=
 oS hE [.run 3, (.cond true), .run 4, (.ops [(1, (.d (.ld (.v (.int .i64 x))))), (0, (.d (.ix i)))] []), .run 1, (.ops [(2, (.cw (iI e) [(bK (tQ C s N n mg ms O o) 5 78), (bK [(.v (.int .i64 0))] 1 3), (bK [(.v (.int .i64 1000000000))] 1 3), (bK [(.v (.int .i64 (Int.ofNat s)))] 1 3), (bK [(.clo 200 [] [(.one (.ptr 5 0))])] 1 172), (bK [(.v (.int .i64 x))] 1 3)]))] []), .run 2, (.cond true), .run 2] [4] (aQ h0 h1 h2 h3 <| aP h4 <| aP h5 <| aZ)
  ho
def qw82x_end (C N O _R _T : List DT) (s n o _m _t _i : Nat) (mg ms _x _e _lo _hi _z _a _b _c _d _g _f l : Int) (j : JN) : St := ⟨[(bK (tQ C s N n mg ms O o) 5 78), (bK [(.v (.int .i64 0))] 1 3), (bK [(.v (.int .i64 1000000000))] 1 3), (bK [(.v (.int .i64 (Int.ofNat s)))] 1 3), (bK [(.clo 200 [] [(.one (.ptr 5 0))])] 1 172), (bK [(.v (.int .i64 l))] 1 3)], [(.code .ret)], mkT j [(4, (iI 0))] 21 0⟩
theorem qw82x (hE : EnvOk E) (C N O R T : List DT) (s n o m t i : Nat) (mg ms x e lo hi z a b c d g f l : Int) (h0 : (decide (Int.ofNat i < Int.ofNat m) : Bool) = false) {Φ : Res → Prop} (ho : ∀ j, OutK E 0 6 (qw82x_end C N O R T s n o m t i mg ms x e lo hi z a b c d g f l j) Φ) (j : JN) : OutK E 0 6 (ww82 C N O R T s n o m t i mg ms x e lo hi z a b c d g f l j) Φ :=
 oS hE [.run 3, (.cond false), .run 3] [4] (aP h0 <| aZ)
  ho
def p22_end (g : Int) (j : JN) : St := ⟨[], [(.code .ret)], mkT j [(2, (iI g))] 26 0⟩
theorem p22 (hE : EnvOk E) (C N O : List DT) (s n o : Nat) (mg ms e _z a b c d g l : Int) (h0 : COut E 1 [(bK (tQ C s N n mg ms O o) 5 78)] 131 [(dQ N n), (iI 8), (.e (.one (.clo 168 [] [(.one (.ptr 0 0))])))] (iI b) [(bK (tQ C s N n mg ms O o) 5 78)]) (h3 : True) (h7 : COut E 0 [] 77 [(iI mg), (iI 1), (iI 100)] (iI c) []) (h9 : COut E 0 [] 77 [(iI ms), (iI 1), (iI 1000000)] (iI d) []) (h11 : COut E 2 [(bK [(.v (.int .i64 0))] 1 3), (bK [(.v (.int .i64 1000000000))] 1 3)] 167 [(dQ C s), (iI 8), (.e (.one (.clo 162 [] [(.one (.ptr 0 0)), (.one (.ptr 1 0))])))] (iI a) [(bK [(.v (.int .i64 0))] 1 3), (bK [(.v (.int .i64 1000000000))] 1 3)]) (h19 : COut E 0 [(bK (tQ C s N n mg ms O o) 5 78), (bK [(.v (.int .i64 0))] 1 3), (bK [(.v (.int .i64 1000000000))] 1 3), (bK [(.v (.int .i64 (Int.ofNat s)))] 1 3), (bK [(.clo 200 [] [(.one (.ptr 5 0))])] 1 172), (bK [(.v (.int .i64 (-9223372036854775808)))] 1 3)] 103 [(dQ O o), (.e (.one (.clo 190 [] [(.one (.ptr 3 0)), (.one (.ptr 4 0))])))] (iI e) [(bK (tQ C s N n mg ms O o) 5 78), (bK [(.v (.int .i64 0))] 1 3), (bK [(.v (.int .i64 1000000000))] 1 3), (bK [(.v (.int .i64 (Int.ofNat s)))] 1 3), (bK [(.clo 200 [] [(.one (.ptr 5 0))])] 1 172), (bK [(.v (.int .i64 l))] 1 3)]) (h20 : COut E 7 [(bK (tQ C s N n mg ms O o) 5 78), (bK [(.v (.int .i64 0))] 1 3), (bK [(.v (.int .i64 1000000000))] 1 3), (bK [(.v (.int .i64 (Int.ofNat s)))] 1 3), (bK [(.clo 200 [] [(.one (.ptr 5 0))])] 1 172), (bK [(.v (.int .i64 l))] 1 3), (bK [(.v (.int .i64 a)), (.v (.int .i64 b)), (.v (.int .i64 c)), (.v (.int .i64 d)), (.v (.int .i64 e))] 5 31)] 76 [(.e (.one (.slc 6 0 5 1 5 true)))] (iI g) [(bK (tQ C s N n mg ms O o) 5 78), (bK [(.v (.int .i64 0))] 1 3), (bK [(.v (.int .i64 1000000000))] 1 3), (bK [(.v (.int .i64 (Int.ofNat s)))] 1 3), (bK [(.clo 200 [] [(.one (.ptr 5 0))])] 1 172), (bK [(.v (.int .i64 l))] 1 3), (bK [(.v (.int .i64 a)), (.v (.int .i64 b)), (.v (.int .i64 c)), (.v (.int .i64 d)), (.v (.int .i64 e))] 5 31)]) {Φ : Res → Prop} (ho : ∀ j, OutK E 0 0 (p22_end g j) Φ) (j : JN) : OutK E 0 0 (x22 C N O s n o mg ms j) Φ :=
 outK_seg hE (R4_ok hE) [.run 3, (.ops [(3, (.cl [1, 2] [false, false] [(dQ C s), (iI 8), (.e (.one (.clo 162 [] [(.one (.ptr 0 0)), (.one (.ptr 1 0))])))] [(bK [(.v (.int .i64 0))] 1 3), (bK [(.v (.int .i64 1000000000))] 1 3)] (iI a) [(bK [(.v (.int .i64 0))] 1 3), (bK [(.v (.int .i64 1000000000))] 1 3)] (iI a) [] [])), (7, (.cl [0] [false] [(dQ N n), (iI 8), (.e (.one (.clo 168 [] [(.one (.ptr 0 0))])))] [(bK (tQ C s N n mg ms O o) 5 78)] (iI b) [(bK (tQ C s N n mg ms O o) 5 78)] (iI b) [] [])), (10, (.c0 (iI c))), (13, (.c0 (iI d))), (20, (.cw (iI e) [(bK (tQ C s N n mg ms O o) 5 78), (bK [(.v (.int .i64 0))] 1 3), (bK [(.v (.int .i64 1000000000))] 1 3), (bK [(.v (.int .i64 (Int.ofNat s)))] 1 3), (bK [(.clo 200 [] [(.one (.ptr 5 0))])] 1 172), (bK [(.v (.int .i64 l))] 1 3)])), (22, (.d (.c1 (iI g)))), (18, (.d .len))] [])] [2] (s' := fun j => ⟨[(bK (tQ C s N n mg ms O o) 5 78), (bK [(.v (.int .i64 0))] 1 3), (bK [(.v (.int .i64 1000000000))] 1 3), (bK [(.v (.int .i64 (Int.ofNat s)))] 1 3), (bK [(.clo 200 [] [(.one (.ptr 5 0))])] 1 172), (bK [(.v (.int .i64 l))] 1 3), (bK [(.v (.int .i64 a)), (.v (.int .i64 b)), (.v (.int .i64 c)), (.v (.int .i64 d)), (.v (.int .i64 e))] 5 31)], [(.code .ret)], mkT j [(2, (iI g))] 26 0⟩) (fun j => by kernel_rfl) (aP h0 <| aP (rfl : ([(dQ N n), (iI 8), (.e (.one (.clo 168 [] [(.one (.ptr 0 0))])))] : List AV) = [(dQ N n), (iI 8), (.e (.one (.clo 168 [] [(.one (.ptr 0 0))])))]) <| aP (rfl : ([(.some (bK (tQ C s N n mg ms O o) 5 78))] : List (Option (Option AB))) = [(.some (bK (tQ C s N n mg ms O o) 5 78))]) <| aP h3 <| aP (rfl : ([] : List (Option (Option AB))) = []) <| aP h3 <| aP (rfl : ((iI b) : AV) = (iI b)) <| aP h7 <| aN <| aP h9 <| aN <| aP h11 <| aP (rfl : ([(dQ C s), (iI 8), (.e (.one (.clo 162 [] [(.one (.ptr 1 0)), (.one (.ptr 2 0))])))] : List AV) = [(dQ C s), (iI 8), (.e (.one (.clo 162 [] [(.one (.ptr 1 0)), (.one (.ptr 2 0))])))]) <| aP (rfl : ([(.some (bK [(.v (.int .i64 0))] 1 3)), (.some (bK [(.v (.int .i64 1000000000))] 1 3))] : List (Option (Option AB))) = [(.some (bK [(.v (.int .i64 0))] 1 3)), (.some (bK [(.v (.int .i64 1000000000))] 1 3))]) <| aP h3 <| aP (rfl : ([] : List (Option (Option AB))) = []) <| aP h3 <| aP (rfl : ((iI a) : AV) = (iI a)) <| aV <| aP h19 <| aP h20 <| aN <| aZ)
  fun j => gZ [] (ho j)
def someE (lo hi z : Int) (xs : List Int) : Int := if xs.length = 0 then 12 else if (xs.length : Int) > z then 5 else eachE lo hi xs
theorem Kd77 (hE : EnvOk E) (lo hi z : Int) (xs : List Int) (hm : xs.length ≤ 100000) : COut E 2 (hB lo hi) 167 [dI xs, iI z, (.e (.one (.clo 162 [] [.one (.ptr 0 0), .one (.ptr 1 0)])))] (iI (someE lo hi z xs)) (hB lo hi) := by
 unfold someE
 by_cases h : xs.length = 0
 ·rw [if_pos h]
  exact cOut_start Tryz.func167 rfl (qd77z hE (iD xs) [] [] [] [] xs.length 0 0 0 0 0 0 0 0 0 lo hi z 0 0 0 0 0 0 0 (by rw [h]; rfl) (fun j => outK_ret (ends_ret (by kernel_rfl))) fun _ => undef)
 ·rw [if_neg h]
  exact cOut_start Tryz.func167 rfl (qd77s hE (iD xs) [] [] [] [] xs.length 0 0 0 0 0 0 0 0 (mostE lo hi z xs) lo hi z 0 0 0 0 0 0 0 (beq_eq_false_iff_ne.2 (by omega)) (Kz97 hE lo hi z xs hm) (fun j => outK_ret (ends_ret (by kernel_rfl))) fun _ => undef)
theorem Kg80 (hE : EnvOk E) (sg : List Int) (ns : List (List Int)) (mg ms : Int) (nt r : List Int) (hm : r.length ≤ 100000) : COut E 1 [bK (tnC sg ns mg ms nt) 5 78] 168 [dI r, .e (.one (.ptr 0 0))] (iI (parE sg.length r)) [bK (tnC sg ns mg ms nt) 5 78] :=
 cOut_start Tryz.func168 rfl (qd80 hE (iD sg) (rD ns) (iD nt) (iD r) [] sg.length ns.length nt.length r.length 0 0 mg ms 0 (parE sg.length r) 0 0 0 0 0 0 0 0 0 0 (K81 hE r _ hm) (fun j => outK_ret (ends_ret (by kernel_rfl))) fun _ => undef)
theorem lg134 (hE : EnvOk E) (sg : List Int) (ns : List (List Int)) (mg ms : Int) (nt : List Int) (L : List (List Int)) (hL : L.length ≤ 5000) (hr : ∀ r ∈ L, r.length ≤ 100000) : ∀ m i, m + i = L.length → ∀ j, OutK E 1 1 (wd134 (iD sg) (rD ns) (iD nt) [] (rD L) sg.length ns.length nt.length 0 L.length i mg ms 0 0 0 0 0 0 0 0 0 0 0 0 j) (Go.Ev.Ends E Tryz.f175 (iI (parsE sg.length (L.drop i))) [bK (tnC sg ns mg ms nt) 5 78])
 | 0, i, hi, j => by
  obtain rfl : i = L.length := by omega
  rw [List.drop_length]
  exact qd134x hE (iD sg) (rD ns) (iD nt) [] (rD L) sg.length ns.length nt.length 0 L.length L.length mg ms 0 0 0 0 0 0 0 0 0 0 0 0 dF (fun j => outK_ret (ends_ret (by kernel_rfl))) j
 | m + 1, i, hi, j => by
  have hl : i < L.length := by omega
  have hx : L[i]? = some L[i] := List.getElem?_eq_getElem hl
  have hm := hr L[i] (List.getElem_mem hl)
  rw [List.drop_eq_getElem_cons hl]
  generalize L[i] = r at hx hm
  by_cases h : parE sg.length r = 0
  ·rw [show parsE sg.length (r :: L.drop (i + 1)) = parsE sg.length (L.drop (i + 1)) from if_pos h]
   exact qd134s hE (iD sg) (rD ns) (iD nt) (iD r) (rD L) sg.length ns.length nt.length r.length L.length i mg ms 0 (parE sg.length r) 0 0 0 0 0 0 0 0 0 0 dT bP (Nat.mul_one _) (gR hx) (Kg80 hE sg ns mg ms nt r hm) (by rw [h]; rfl) (iIe (by (try simp only [Int.ofNat_eq_natCast]); rw [wrap_id (by omega) (by omega)]; try omega)) (lg134 hE sg ns mg ms nt L hL hr m (i + 1) (by omega)) j
  ·rw [show parsE sg.length (r :: L.drop (i + 1)) = parE sg.length r from if_neg h]
   exact qd134e hE (iD sg) (rD ns) (iD nt) (iD r) (rD L) sg.length ns.length nt.length r.length L.length i mg ms 0 (parE sg.length r) 0 0 0 0 0 0 0 0 0 0 dT bP (Nat.mul_one _) (gR hx) (Kg80 hE sg ns mg ms nt r hm) (bne_iff_ne.2 h) (fun j => outK_ret (ends_ret (by kernel_rfl))) j
theorem Kg79 (hE : EnvOk E) (sg : List Int) (ns : List (List Int)) (mg ms : Int) (nt : List Int) (L : List (List Int)) (hL : L.length ≤ 5000) (hr : ∀ r ∈ L, r.length ≤ 100000) : COut E 1 [bK (tnC sg ns mg ms nt) 5 78] 131 [dR L, iI 8, (.e (.one (.clo 168 [] [.one (.ptr 0 0)])))] (iI (noiE sg.length L)) [bK (tnC sg ns mg ms nt) 5 78] := by
 unfold noiE
 by_cases h : L.length = 0
 ·rw [if_pos h]
  exact cOut_start Tryz.func131 rfl (qd79z hE (iD sg) (rD ns) (iD nt) [] (rD L) sg.length ns.length nt.length 0 L.length 0 mg ms 0 0 0 0 0 0 0 0 0 0 0 0 (by rw [h]; rfl) (fun j => outK_ret (ends_ret (by kernel_rfl))) fun _ => undef)
 ·rw [if_neg h]
  have k134 : COut E 1 [bK (tnC sg ns mg ms nt) 5 78] 175 [dR L, (.e (.one (.clo 168 [] [.one (.ptr 0 0)])))] (iI (parsE sg.length L)) [bK (tnC sg ns mg ms nt) 5 78] := cOut_start Tryz.func175 rfl (qd134a hE (iD sg) (rD ns) (iD nt) [] (rD L) sg.length ns.length nt.length 0 L.length 0 mg ms 0 0 0 0 0 0 0 0 0 0 0 0 (lg134 hE sg ns mg ms nt L hL hr L.length 0 rfl) fun _ => undef)
  have k88 : COut E 1 [bK (tnC sg ns mg ms nt) 5 78] 126 [dR L, iI 8, (.e (.one (.clo 168 [] [.one (.ptr 0 0)])))] (iI (if (L.length : Int) > 8 then 5 else parsE sg.length L)) [bK (tnC sg ns mg ms nt) 5 78] := by
   by_cases h2 : (L.length : Int) > 8
   ·rw [if_pos h2]
    exact cOut_start Tryz.func126 rfl (qd88m hE (iD sg) (rD ns) (iD nt) [] (rD L) sg.length ns.length nt.length 0 L.length 0 mg ms 0 0 0 0 0 0 0 0 0 0 0 0 (decide_eq_true h2) (fun j => outK_ret (ends_ret (by kernel_rfl))) fun _ => undef)
   ·rw [if_neg h2]
    exact cOut_start Tryz.func126 rfl (qd88s hE (iD sg) (rD ns) (iD nt) [] (rD L) sg.length ns.length nt.length 0 L.length 0 mg ms 0 (parsE sg.length L) 0 0 0 0 0 0 0 0 0 0 (decide_eq_false h2) k134 (fun j => outK_ret (ends_ret (by kernel_rfl))) fun _ => undef)
  exact cOut_start Tryz.func131 rfl (qd79s hE (iD sg) (rD ns) (iD nt) [] (rD L) sg.length ns.length nt.length 0 L.length 0 mg ms 0 ((if (L.length : Int) > 8 then 5 else parsE sg.length L)) 0 0 0 0 0 0 0 0 0 0 (beq_eq_false_iff_ne.2 (by omega)) k88 (fun j => outK_ret (ends_ret (by kernel_rfl))) fun _ => undef)
abbrev ascW (sg : List Int) (ns : List (List Int)) (mg ms : Int) (nt : List Int) (l : Int) : Heap := [bK (tnC sg ns mg ms nt) 5 78, bK [.v (.int .i64 0)] 1 3, bK [.v (.int .i64 1000000000)] 1 3, bK [.v (.int .i64 (Int.ofNat sg.length))] 1 3, bK [.clo 200 [] [.one (.ptr 5 0)]] 1 172, bK [.v (.int .i64 l)] 1 3]
theorem Kw132 (hE : EnvOk E) (sg : List Int) (ns : List (List Int)) (mg ms : Int) (nt : List Int) (x l : Int) : COut E 0 (ascW sg ns mg ms nt l) 190 [iI x, (.e (.one (.ptr 3 0))), (.e (.one (.ptr 4 0)))] (iI (rise x l sg.length)) (ascW sg ns mg ms nt x) := by
 have k157 : COut E 0 (ascW sg ns mg ms nt l) 200 [iI x, (.e (.one (.ptr 5 0)))] (iI (fI (decide (x ≤ l)) 11)) (ascW sg ns mg ms nt x) := cOut_start Tryz.func200 rfl (qw157 hE (iD sg) (rD ns) (iD nt) [] [] sg.length ns.length nt.length 0 0 0 mg ms x (fI (decide (x ≤ l)) 11) 0 0 0 0 0 0 0 0 0 l (K85 hE _ _) (fun j => outK_ret (ends_ret (by kernel_rfl))) fun _ => undef)
 exact cOut_start Tryz.func190 rfl (qw132 hE (iD sg) (rD ns) (iD nt) [] [] sg.length ns.length nt.length 0 0 0 mg ms x (ixE x sg.length) 0 0 0 0 0 0 0 (rise x l sg.length) (fI (decide (x ≤ l)) 11) l (K71 hE x _) k157 (lend2 _ hE 76 _ _ 31 true (K69 hE [ixE x sg.length, fI (decide (x ≤ l)) 11] (by simp)) _ 6 rfl) (fun j => outK_ret (ends_ret (by kernel_rfl))) fun _ => undef)
theorem lw82 (hE : EnvOk E) (sg : List Int) (ns : List (List Int)) (mg ms : Int) (nt xs : List Int) (hm : xs.length ≤ 100000) : ∀ k i, k + i = xs.length → ∀ l j, OutK E 0 6 (ww82 (iD sg) (rD ns) (iD nt) (iD xs) [] sg.length ns.length nt.length xs.length 0 i mg ms 0 0 0 0 0 0 0 0 0 0 0 l j) (Go.Ev.Ends E Tryz.f103 (iI (ascE sg.length l (xs.drop i))) (ascW sg ns mg ms nt (ascL sg.length l (xs.drop i))))
 | 0, i, hi, l, j => by
  obtain rfl : i = xs.length := by omega
  rw [List.drop_length]
  exact qw82x hE (iD sg) (rD ns) (iD nt) (iD xs) [] sg.length ns.length nt.length xs.length 0 xs.length mg ms 0 0 0 0 0 0 0 0 0 0 0 l dF (fun j => outK_ret (ends_ret (by kernel_rfl))) j
 | k + 1, i, hi, l, j => by
  have hl : i < xs.length := by omega
  have hx : xs[i]? = some xs[i] := List.getElem?_eq_getElem hl
  rw [List.drop_eq_getElem_cons hl]
  generalize xs[i] = x at hx
  by_cases h : rise x l sg.length = 0
  ·rw [show ascE sg.length l (x :: xs.drop (i + 1)) = ascE sg.length x (xs.drop (i + 1)) from if_pos h, show ascL sg.length l (x :: xs.drop (i + 1)) = ascL sg.length x (xs.drop (i + 1)) from if_pos h]
   exact qw82s hE (iD sg) (rD ns) (iD nt) (iD xs) [] sg.length ns.length nt.length xs.length 0 i mg ms x (rise x l sg.length) 0 0 0 0 0 0 0 0 0 l dT bP (Nat.mul_one _) (gI hx) (Kw132 hE sg ns mg ms nt x l) (by rw [h]; rfl) (iIe (by (try simp only [Int.ofNat_eq_natCast]); rw [wrap_id (by omega) (by omega)]; try omega)) (lw82 hE sg ns mg ms nt xs hm k (i + 1) (by omega) x) j
  ·rw [show ascE sg.length l (x :: xs.drop (i + 1)) = rise x l sg.length from if_neg h, show ascL sg.length l (x :: xs.drop (i + 1)) = x from if_neg h]
   exact qw82e hE (iD sg) (rD ns) (iD nt) (iD xs) [] sg.length ns.length nt.length xs.length 0 i mg ms x (rise x l sg.length) 0 0 0 0 0 0 0 0 0 l dT bP (Nat.mul_one _) (gI hx) (Kw132 hE sg ns mg ms nt x l) (bne_iff_ne.2 h) (fun j => outK_ret (ends_ret (by kernel_rfl))) j
theorem Kw82 (hE : EnvOk E) (sg : List Int) (ns : List (List Int)) (mg ms : Int) (nt : List Int) (l : Int) (xs : List Int) (hm : xs.length ≤ 100000) : COut E 0 (ascW sg ns mg ms nt l) 103 [dI xs, (.e (.one (.clo 190 [] [.one (.ptr 3 0), .one (.ptr 4 0)])))] (iI (ascE sg.length l xs)) (ascW sg ns mg ms nt (ascL sg.length l xs)) :=
 cOut_start Tryz.func103 rfl (qw82a hE (iD sg) (rD ns) (iD nt) (iD xs) [] sg.length ns.length nt.length xs.length 0 0 mg ms 0 0 0 0 0 0 0 0 0 0 0 l (lw82 hE sg ns mg ms nt xs hm xs.length 0 rfl l) fun _ => undef)
abbrev minI : Int := -9223372036854775808
def tonE (sg : List Int) (ns : List (List Int)) (mg ms : Int) (nt : List Int) : Int := firstI [someE 0 1000000000 8 sg, noiE sg.length ns, rg mg 1 100, rg ms 1 1000000, ascE sg.length minI nt]
abbrev aT (sg : List Int) (ns : List (List Int)) (mg ms : Int) (nt : List Int) : AV := .e (.agg (tnC sg ns mg ms nt))
theorem K22 (hE : EnvOk E) (sg : List Int) (ns : List (List Int)) (mg ms : Int) (nt : List Int) (h1 : sg.length ≤ 100000) (h2 : ns.length ≤ 5000) (h3 : ∀ r ∈ ns, r.length ≤ 100000) (h4 : nt.length ≤ 100000) : COut E 0 [] 113 [aT sg ns mg ms nt] (iI (tonE sg ns mg ms nt)) [] :=
 cOut_clear (cOut_start Tryz.func113 rfl (p22 hE (iD sg) (rD ns) (iD nt) sg.length ns.length nt.length mg ms (ascE sg.length minI nt) 0 (someE 0 1000000000 8 sg) (noiE sg.length ns) (rg mg 1 100) (rg ms 1 1000000) (tonE sg ns mg ms nt) (ascL sg.length minI nt) (Kg79 hE sg ns mg ms nt ns h2 h3) oB (K72 hE _ _ _) (K72 hE _ _ _) (Kd77 hE _ _ _ _ h1) (Kw82 hE sg ns mg ms nt minI nt h4) (lend2 _ hE 76 _ _ 31 true (K69 hE [someE 0 1000000000 8 sg, noiE sg.length ns, rg mg 1 100, rg ms 1 1000000, ascE sg.length minI nt] (by simp)) _ 6 rfl) (fun j => outK_ret (ends_ret (by kernel_rfl))) fun _ => undef)) rfl
def topE (sg : List Int) (ns : List (List Int)) (mg ms : Int) (nt : List Int) (x : Int) : Int := firstI [tonE sg ns mg ms nt, ixE x ns.length]
theorem K70 (hE : EnvOk E) (sg : List Int) (ns : List (List Int)) (mg ms : Int) (nt : List Int) (h1 : sg.length ≤ 100000) (h2 : ns.length ≤ 5000) (h3 : ∀ r ∈ ns, r.length ≤ 100000) (h4 : nt.length ≤ 100000) (x : Int) : COut E 0 [] 101 [aT sg ns mg ms nt, iI x] (iI (topE sg ns mg ms nt x)) [] :=
 cOut_clear (cOut_start Tryz.func101 rfl (p70 hE (iD sg) (rD ns) (iD nt) sg.length ns.length nt.length mg ms x (tonE sg ns mg ms nt) (ixE x ns.length) (topE sg ns mg ms nt x) (K22 hE sg ns mg ms nt h1 h2 h3 h4) (K71 hE _ _) (lend2 _ hE 76 _ _ 31 true (K69 hE [tonE sg ns mg ms nt, ixE x ns.length] (by simp)) _ 1 rfl) (fun j => outK_ret (ends_ret (by kernel_rfl))) fun _ => undef)) rfl
end
end Go.Proofs.YtigdchbjmnbjlaaGreatDoor
end
