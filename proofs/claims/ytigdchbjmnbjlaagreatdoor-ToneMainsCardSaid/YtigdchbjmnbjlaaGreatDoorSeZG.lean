/-
  Part of the proof.
-/
import Derived.Test.YtigdchbjmnbjlaaGreatDoorSeZF
set_option maxHeartbeats 20000000
set_option maxRecDepth 100000
section
open Go Go.Ev
namespace Go.Proofs.YtigdchbjmnbjlaaGreatDoor
noncomputable section
def s72 (x l h : Int) (_j : JN) : St := startK Tryz.f77 [] [iI x, iI l, iI h]
def s18 (x l h : Int) (_j : JN) : St := startK Tryz.f41 [] [iI x, iI l, iI h]
def A72_f_end (x _l h : Int) (j : JN) : St := ⟨[], [(.code .ret)], mkT j [(6, (iI (A85_r0 (decide (x > h)) (Int.ofNat (nat_lit 3)))))] 16 0⟩
theorem A72_f (hE : EnvOk E) (x l h : Int) (c0 : (decide (x < l) : Bool) = false) {Φ : Res → Prop} (ho : ∀ j, OutK E 0 0 (A72_f_end x l h j) Φ) (j : JN) : OutK E 0 0 (s72 x l h j) Φ :=
 oS hE [.run 3, (.ops [(7, (.pk false)), (8, (.c0 (iI (A85_r0 (decide (x > h)) (Int.ofNat (nat_lit 3))))))] [(4, true), (5, true), (6, true)])] [6] (ps := [(decide (x < l) == false : Bool) = true, (decide (x < l) == false : Bool) = true, (decide (x < l) == false : Bool) = true, (decide (x < l) : Bool) = false, COut E 0 [] 102 [(iB (decide (x > h))), (iI 3)] (iI (A85_r0 (decide (x > h)) (Int.ofNat (nat_lit 3)))) [], ([] : List Nat) = []]) ⟨(by rw [c0]; rfl), (by rw [c0]; rfl), (by rw [c0]; rfl), c0, (A85_all hE _ _), rfl, trivial⟩
  ho
theorem A72_f_c (hE : EnvOk E) (x l h : Int) (c0 : (decide (x < l) : Bool) = false)  : COut E 0 [] 77 [(iI x), (iI l), (iI h)] (iI (A85_r0 (decide (x > h)) (Int.ofNat (nat_lit 3)))) [] := cOut_start Tryz.func77 rfl (A72_f hE x l h c0  (fun j => outK_ret (ends_ret (by kernel_rfl))) uD)
def A72_t_end (_x _l _h : Int) (j : JN) : St := ⟨[], [(.code .ret)], mkT j [(6, (iI 3))] 16 0⟩
theorem A72_t (hE : EnvOk E) (x l h : Int) (c0 : (decide (x < l) : Bool) = true) {Φ : Res → Prop} (ho : ∀ j, OutK E 0 0 (A72_t_end x l h j) Φ) (j : JN) : OutK E 0 0 (s72 x l h j) Φ :=
 oS hE [.run 3, (.ops [(7, (.pk true)), (8, (.c0 (iI 3)))] [(4, false), (5, false), (6, false)])] [6] (ps := [(decide (x < l) == false : Bool) = false, (decide (x < l) == false : Bool) = false, (decide (x < l) == false : Bool) = false, (decide (x < l) : Bool) = true, COut E 0 [] 102 [(iB true), (iI 3)] (iI 3) [], ([] : List Nat) = []]) ⟨(by rw [c0]; rfl), (by rw [c0]; rfl), (by rw [c0]; rfl), c0, (A85_all hE _ _), rfl, trivial⟩
  ho
theorem A72_t_c (hE : EnvOk E) (x l h : Int) (c0 : (decide (x < l) : Bool) = true)  : COut E 0 [] 77 [(iI x), (iI l), (iI h)] (iI 3) [] := cOut_start Tryz.func77 rfl (A72_t hE x l h c0  (fun j => outK_ret (ends_ret (by kernel_rfl))) uD)
def A72_r0 (x l h : Int) : Int := (bif decide (x < l) then 3 else (A85_r0 (decide (x > h)) (Int.ofNat (nat_lit 3))))
theorem A72_all (hE : EnvOk E) (x l h : Int) : COut E 0 [] 77 [(iI x), (iI l), (iI h)] (iI (A72_r0 x l h)) [] := by
 rcases Bool.eq_false_or_eq_true (decide (x < l)) with c0 | c0
 ·skip
  have e0 : A72_r0 x l h = 3 := by unfold A72_r0; rw [c0]; first | done | rfl
  rw [e0]
  exact A72_t_c hE x l h c0 
 ·skip
  have e0 : A72_r0 x l h = (A85_r0 (decide (x > h)) (Int.ofNat (nat_lit 3))) := by unfold A72_r0; rw [c0]; first | done | rfl
  rw [e0]
  exact A72_f_c hE x l h c0 
def A18_f_end (x _l h : Int) (j : JN) : St := ⟨[], [(.code .ret)], mkT j [(6, (iI (A32_r0 (decide (x > h)) (Int.ofNat (nat_lit 3)))))] 16 0⟩
theorem A18_f (hE : EnvOk E) (x l h : Int) (c0 : (decide (x < l) : Bool) = false) {Φ : Res → Prop} (ho : ∀ j, OutK E 0 0 (A18_f_end x l h j) Φ) (j : JN) : OutK E 0 0 (s18 x l h j) Φ :=
 oS hE [.run 3, (.ops [(7, (.pk false)), (8, (.c0 (iI (A32_r0 (decide (x > h)) (Int.ofNat (nat_lit 3))))))] [(4, true), (5, true), (6, true)])] [6] (ps := [(decide (x < l) == false : Bool) = true, (decide (x < l) == false : Bool) = true, (decide (x < l) == false : Bool) = true, (decide (x < l) : Bool) = false, COut E 0 [] 73 [(iB (decide (x > h))), (iI 3)] (iI (A32_r0 (decide (x > h)) (Int.ofNat (nat_lit 3)))) [], ([] : List Nat) = []]) ⟨(by rw [c0]; rfl), (by rw [c0]; rfl), (by rw [c0]; rfl), c0, (A32_all hE _ _), rfl, trivial⟩
  ho
theorem A18_f_c (hE : EnvOk E) (x l h : Int) (c0 : (decide (x < l) : Bool) = false)  : COut E 0 [] 41 [(iI x), (iI l), (iI h)] (iI (A32_r0 (decide (x > h)) (Int.ofNat (nat_lit 3)))) [] := cOut_start Tryz.func41 rfl (A18_f hE x l h c0  (fun j => outK_ret (ends_ret (by kernel_rfl))) uD)
def A18_t_end (_x _l _h : Int) (j : JN) : St := ⟨[], [(.code .ret)], mkT j [(6, (iI 3))] 16 0⟩
theorem A18_t (hE : EnvOk E) (x l h : Int) (c0 : (decide (x < l) : Bool) = true) {Φ : Res → Prop} (ho : ∀ j, OutK E 0 0 (A18_t_end x l h j) Φ) (j : JN) : OutK E 0 0 (s18 x l h j) Φ :=
 oS hE [.run 3, (.ops [(7, (.pk true)), (8, (.c0 (iI 3)))] [(4, false), (5, false), (6, false)])] [6] (ps := [(decide (x < l) == false : Bool) = false, (decide (x < l) == false : Bool) = false, (decide (x < l) == false : Bool) = false, (decide (x < l) : Bool) = true, COut E 0 [] 73 [(iB true), (iI 3)] (iI 3) [], ([] : List Nat) = []]) ⟨(by rw [c0]; rfl), (by rw [c0]; rfl), (by rw [c0]; rfl), c0, (A32_all hE _ _), rfl, trivial⟩
  ho
theorem A18_t_c (hE : EnvOk E) (x l h : Int) (c0 : (decide (x < l) : Bool) = true)  : COut E 0 [] 41 [(iI x), (iI l), (iI h)] (iI 3) [] := cOut_start Tryz.func41 rfl (A18_t hE x l h c0  (fun j => outK_ret (ends_ret (by kernel_rfl))) uD)
def A18_r0 (x l h : Int) : Int := (bif decide (x < l) then 3 else (A32_r0 (decide (x > h)) (Int.ofNat (nat_lit 3))))
theorem A18_all (hE : EnvOk E) (x l h : Int) : COut E 0 [] 41 [(iI x), (iI l), (iI h)] (iI (A18_r0 x l h)) [] := by
 rcases Bool.eq_false_or_eq_true (decide (x < l)) with c0 | c0
 ·skip
  have e0 : A18_r0 x l h = 3 := by unfold A18_r0; rw [c0]; first | done | rfl
  rw [e0]
  exact A18_t_c hE x l h c0 
 ·skip
  have e0 : A18_r0 x l h = (A32_r0 (decide (x > h)) (Int.ofNat (nat_lit 3))) := by unfold A18_r0; rw [c0]; first | done | rfl
  rw [e0]
  exact A18_f_c hE x l h c0 
end
end Go.Proofs.YtigdchbjmnbjlaaGreatDoor
end
section
open Go Go.Ev
namespace Go.Proofs.YtigdchbjmnbjlaaGreatDoor
noncomputable section
def s69 (C : List DT) (n _i : Nat) (_e _z : Int) (_j : JN) : St := startK Tryz.f76 [] [(dQ C n)]
def s17 (C : List DT) (n _i : Nat) (_e _z : Int) (_j : JN) : St := startK Tryz.f15 [] [(dQ C n)]
def q69 (C : List DT) (n i : Nat) (_e _z : Int) (j : JN) : St := ⟨[], [(.code (aF [1, 0, 1, 0, 0] Tryz.f76)), (.inLoop (aF [1, 0, 1, 0, 0] Tryz.f76)), (.inBlock 0), (.code (aF [1, 1] Tryz.f76))], mkT j [(5, (dQ C n)), (6, (iN n)), (7, (iN i))] 15 0⟩
def q17 (C : List DT) (n i : Nat) (_e _z : Int) (j : JN) : St := ⟨[], [(.code (aF [1, 0, 1, 0, 0] Tryz.f15)), (.inLoop (aF [1, 0, 1, 0, 0] Tryz.f15)), (.inBlock 0), (.code (aF [1, 1] Tryz.f15))], mkT j [(0, (dQ C n)), (3, (iN i))] 19 0⟩
def p69a_end (C : List DT) (n _i : Nat) (_e _z : Int) (j : JN) : St := ⟨[], [(.code (aF [1, 0, 1, 0, 0] Tryz.f76)), (.inLoop (aF [1, 0, 1, 0, 0] Tryz.f76)), (.inBlock 0), (.code (aF [1, 1] Tryz.f76))], mkT j [(5, (dQ C n)), (6, (iN n)), (7, (iI 0))] 15 0⟩
theorem p69a (hE : EnvOk E) (C : List DT) (n i : Nat) (e z : Int) {Φ : Res → Prop} (ho : ∀ j, OutK E 0 0 (p69a_end C n i e z j) Φ) (j : JN) : OutK E 0 0 (s69 C n i e z j) Φ :=
 oS hE [.run 4, (.ops [(1, (.d .len))] []), .run 2] [5, 6, 7] (ps := []) trivial
  ho
def p17a_end (C : List DT) (n _i : Nat) (_e _z : Int) (j : JN) : St := ⟨[], [(.code (aF [1, 0, 1, 0, 0] Tryz.f15)), (.inLoop (aF [1, 0, 1, 0, 0] Tryz.f15)), (.inBlock 0), (.code (aF [1, 1] Tryz.f15))], mkT j [(0, (dQ C n)), (3, (iI 0))] 19 0⟩
theorem p17a (hE : EnvOk E) (C : List DT) (n i : Nat) (e z : Int) {Φ : Res → Prop} (ho : ∀ j, OutK E 0 0 (p17a_end C n i e z j) Φ) (j : JN) : OutK E 0 0 (s17 C n i e z j) Φ :=
 oS hE [.run 7] [0, 3] (ps := []) trivial
  ho
def p69s_end (C : List DT) (n i : Nat) (_e _z : Int) (j : JN) : St := ⟨[], [(.code (aF [1, 0, 1, 0, 0] Tryz.f76)), (.inLoop (aF [1, 0, 1, 0, 0] Tryz.f76)), (.inBlock 0), (.code (aF [1, 1] Tryz.f76))], mkT j [(5, (dQ C n)), (6, (iN n)), (7, (iN (i + 1)))] 15 0⟩
theorem p69s (hE : EnvOk E) (C : List DT) (n i : Nat) (e z : Int) (h0 : (decide (Int.ofNat i < Int.ofNat n) : Bool) = true) (h1 : (0 : Int) ≤ Int.ofNat i ∧ Int.ofNat i < (↑n : Int)) (h2 : ((Int.ofNat i).toNat * nat_lit 1 : Nat) = i) (h3 : (getL C i : Option DT) = (.some (.v (.int .i64 z)))) (h4 : (z != (0 : Int) : Bool) = false) (h5 : ((iI (wrapF IntKind.i64 (Int.ofNat i + (1 : Int)))) : AV) = (iN (i + 1))) {Φ : Res → Prop} (ho : ∀ j, OutK E 0 0 (p69s_end C n i e z j) Φ) (j : JN) : OutK E 0 0 (q69 C n i e z j) Φ :=
 oS hE [.run 3, (.cond true), .run 4, (.ops [(1, (.d (.ld (.v (.int .i64 z))))), (0, (.d (.ix i)))] []), .run 2, (.cond false), .run 2, (.ops [(0, (.rn (iN (i + 1))))] []), .run 1] [5, 6, 7] (aQ h0 h1 h2 h3 <| aP h4 <| aP h5 <| aZ)
  ho
def p69e_end (_C : List DT) (_n _i : Nat) (_e z : Int) (j : JN) : St := ⟨[], [(.code .ret), (.inBlock 1), (.code (aF [1, 0, 1, 0, 0, 1, 1, 1] Tryz.f76)), (.inLoop (aF [1, 0, 1, 0, 0] Tryz.f76)), (.inBlock 0), (.code (aF [1, 1] Tryz.f76))], mkT j [(2, (iI z))] 15 0⟩
theorem p69e (hE : EnvOk E) (C : List DT) (n i : Nat) (e z : Int) (h0 : (decide (Int.ofNat i < Int.ofNat n) : Bool) = true) (h1 : (0 : Int) ≤ Int.ofNat i ∧ Int.ofNat i < (↑n : Int)) (h2 : ((Int.ofNat i).toNat * nat_lit 1 : Nat) = i) (h3 : (getL C i : Option DT) = (.some (.v (.int .i64 z)))) (h4 : (z != (0 : Int) : Bool) = true) {Φ : Res → Prop} (ho : ∀ j, OutK E 0 0 (p69e_end C n i e z j) Φ) (j : JN) : OutK E 0 0 (q69 C n i e z j) Φ :=
 oS hE [.run 3, (.cond true), .run 4, (.ops [(1, (.d (.ld (.v (.int .i64 z))))), (0, (.d (.ix i)))] []), .run 2, (.cond true), .run 2] [2] (aQ h0 h1 h2 h3 <| aP h4 <| aZ)
  ho
def p69x_end (_C : List DT) (_n _i : Nat) (_e _z : Int) (j : JN) : St := ⟨[], [(.code .ret)], mkT j [(2, (iI 0))] 15 0⟩
theorem p69x (hE : EnvOk E) (C : List DT) (n i : Nat) (e z : Int) (h0 : (decide (Int.ofNat i < Int.ofNat n) : Bool) = false) {Φ : Res → Prop} (ho : ∀ j, OutK E 0 0 (p69x_end C n i e z j) Φ) (j : JN) : OutK E 0 0 (q69 C n i e z j) Φ :=
 oS hE [.run 3, (.cond false), .run 3] [2] (aP h0 <| aZ)
  ho
def p17s_end (C : List DT) (n i : Nat) (_e _z : Int) (j : JN) : St := ⟨[], [(.code (aF [1, 0, 1, 0, 0] Tryz.f15)), (.inLoop (aF [1, 0, 1, 0, 0] Tryz.f15)), (.inBlock 0), (.code (aF [1, 1] Tryz.f15))], mkT j [(0, (dQ C n)), (3, (iN (i + 1)))] 19 0⟩
theorem p17s (hE : EnvOk E) (C : List DT) (n i : Nat) (e z : Int) (h0 : (decide (Int.ofNat i < (↑n : Int)) : Bool) = true) (h1 : (0 : Int) ≤ Int.ofNat i ∧ Int.ofNat i < (↑n : Int)) (h2 : ((Int.ofNat i).toNat * nat_lit 1 : Nat) = i) (h3 : (getL C i : Option DT) = (.some (.v (.int .i64 z)))) (h4 : (z != (0 : Int) : Bool) = false) (h5 : ((iI (wrapF IntKind.i64 (Int.ofNat i + (1 : Int)))) : AV) = (iN (i + 1))) {Φ : Res → Prop} (ho : ∀ j, OutK E 0 0 (p17s_end C n i e z j) Φ) (j : JN) : OutK E 0 0 (q17 C n i e z j) Φ :=
 oS hE [.run 2, (.ops [(2, (.d .len))] []), (.cond true), .run 4, (.ops [(3, (.d (.ld (.v (.int .i64 z))))), (2, (.d (.ix i)))] []), (.cond false), .run 2, (.ops [(1, (.rn (iN (i + 1))))] []), .run 1] [0, 3] (aQ h0 h1 h2 h3 <| aP h4 <| aP h5 <| aZ)
  ho
def p17e_end (_C : List DT) (_n _i : Nat) (_e z : Int) (j : JN) : St := ⟨[], [(.code .ret), (.inBlock 1), (.code (aF [1, 0, 1, 0, 0, 1, 1] Tryz.f15)), (.inLoop (aF [1, 0, 1, 0, 0] Tryz.f15)), (.inBlock 0), (.code (aF [1, 1] Tryz.f15))], mkT j [(2, (iI z))] 19 0⟩
theorem p17e (hE : EnvOk E) (C : List DT) (n i : Nat) (e z : Int) (h0 : (decide (Int.ofNat i < (↑n : Int)) : Bool) = true) (h1 : (0 : Int) ≤ Int.ofNat i ∧ Int.ofNat i < (↑n : Int)) (h2 : ((Int.ofNat i).toNat * nat_lit 1 : Nat) = i) (h3 : (getL C i : Option DT) = (.some (.v (.int .i64 z)))) (h4 : (z != (0 : Int) : Bool) = true) (h5 : (0 : Int) ≤ Int.ofNat i ∧ Int.ofNat i < (↑n : Int)) (h6 : ((Int.ofNat i).toNat * nat_lit 1 : Nat) = i) (h7 : (getL C i : Option DT) = (.some (.v (.int .i64 z)))) {Φ : Res → Prop} (ho : ∀ j, OutK E 0 0 (p17e_end C n i e z j) Φ) (j : JN) : OutK E 0 0 (q17 C n i e z j) Φ :=
 oS hE [.run 2, (.ops [(2, (.d .len))] []), (.cond true), .run 4, (.ops [(3, (.d (.ld (.v (.int .i64 z))))), (2, (.d (.ix i)))] []), (.cond true), .run 1, (.ops [(3, (.d (.ld (.v (.int .i64 z))))), (2, (.d (.ix i)))] [])] [2] (aQ h0 h1 h2 h3 <| aQ h4 h5 h6 h7 <| aZ)
  ho
def p17x_end (_C : List DT) (_n _i : Nat) (_e _z : Int) (j : JN) : St := ⟨[], [(.code .ret)], mkT j [(2, (iI 0))] 19 0⟩
theorem p17x (hE : EnvOk E) (C : List DT) (n i : Nat) (e z : Int) (h0 : (decide (Int.ofNat i < (↑n : Int)) : Bool) = false) {Φ : Res → Prop} (ho : ∀ j, OutK E 0 0 (p17x_end C n i e z j) Φ) (j : JN) : OutK E 0 0 (q17 C n i e z j) Φ :=
 oS hE [.run 2, (.ops [(2, (.d .len))] []), (.cond false), .run 3] [2] (aP h0 <| aZ)
  ho
def firstI : List Int → Int
 | [] => 0
 | x :: r => if x = 0 then firstI r else x
theorem l69 (hE : EnvOk E) (xs : List Int) (n : Nat) (hn : xs.length = n) (hm : n ≤ 4000000) : ∀ m i, m + i = n → ∀ j, OutK E 0 0 (q69 (iD xs) n i 0 0 j) (Go.Ev.Ends E Tryz.f76 (iI (firstI (xs.drop i))) [])
 | 0, i, hk, j => by
  rw [List.drop_eq_nil_of_le (by omega)]
  exact p69x hE (iD xs) n i 0 0 dF (fun j => outK_ret (ends_ret (by kernel_rfl))) j
 | m + 1, i, hk, j => by
  have hl : i < xs.length := by omega
  have hx : xs[i]? = some xs[i] := List.getElem?_eq_getElem hl
  rw [List.drop_eq_getElem_cons hl]
  generalize xs[i] = z at hx
  have hu : firstI (z :: xs.drop (i + 1)) = if z = 0 then firstI (xs.drop (i + 1)) else z := rfl
  rw [hu]
  by_cases h : z = 0
  ·rw [if_pos h]
   exact p69s hE (iD xs) n i 0 z dT bP (Nat.mul_one _) (getI hx) (by rw [h]; rfl) wQ (l69 hE xs n hn hm m (i + 1) (by omega)) j
  ·rw [if_neg h]
   exact p69e hE (iD xs) n i 0 z dT bP (Nat.mul_one _) (getI hx) (bne_iff_ne.2 h) (fun j => outK_ret (ends_ret (by kernel_rfl))) j
theorem K69 (hE : EnvOk E) (xs : List Int) (hm : xs.length ≤ 4000000) : COut E 0 [] 76 [dI xs] (iI (firstI xs)) [] :=
 cOut_start Tryz.func76 rfl (p69a hE (iD xs) xs.length 0 0 0 (l69 hE xs xs.length rfl hm xs.length 0 rfl) uD)
theorem l17 (hE : EnvOk E) (xs : List Int) (n : Nat) (hn : xs.length = n) (hm : n ≤ 4000000) : ∀ m i, m + i = n → ∀ j, OutK E 0 0 (q17 (iD xs) n i 0 0 j) (Go.Ev.Ends E Tryz.f15 (iI (firstI (xs.drop i))) [])
 | 0, i, hk, j => by
  rw [List.drop_eq_nil_of_le (by omega)]
  exact p17x hE (iD xs) n i 0 0 dF (fun j => outK_ret (ends_ret (by kernel_rfl))) j
 | m + 1, i, hk, j => by
  have hl : i < xs.length := by omega
  have hx : xs[i]? = some xs[i] := List.getElem?_eq_getElem hl
  rw [List.drop_eq_getElem_cons hl]
  generalize xs[i] = z at hx
  have hu : firstI (z :: xs.drop (i + 1)) = if z = 0 then firstI (xs.drop (i + 1)) else z := rfl
  rw [hu]
  by_cases h : z = 0
  ·rw [if_pos h]
   exact p17s hE (iD xs) n i 0 z dT bP (Nat.mul_one _) (getI hx) (by rw [h]; rfl) wQ (l17 hE xs n hn hm m (i + 1) (by omega)) j
  ·rw [if_neg h]
   exact p17e hE (iD xs) n i 0 z dT bP (Nat.mul_one _) (getI hx) (bne_iff_ne.2 h) bP (Nat.mul_one _) (getI hx) (fun j => outK_ret (ends_ret (by kernel_rfl))) j
theorem K17 (hE : EnvOk E) (xs : List Int) (hm : xs.length ≤ 4000000) : COut E 0 [] 15 [dI xs] (iI (firstI xs)) [] :=
 cOut_start Tryz.func15 rfl (p17a hE (iD xs) xs.length 0 0 0 (l17 hE xs xs.length rfl hm xs.length 0 rfl) uD)
end
end Go.Proofs.YtigdchbjmnbjlaaGreatDoor
end
section
open Go Go.Ev
namespace Go.Proofs.YtigdchbjmnbjlaaGreatDoor
noncomputable section
def s59 (C C2 : List DT) (n m _i : Nat) (_x _e _f _g _lo _hi _z _w : Int) (_b _a : Bool) (_D : List AC) (_cp : Nat) (_ad : Addr) (_j : JN) : St := startK Tryz.f57 [] [(dQ C n), (dQ C2 m)]
def q59 (C C2 : List DT) (n m i : Nat) (_x _e _f _g _lo _hi _z _w : Int) (_b _a : Bool) (_D : List AC) (_cp : Nat) (_ad : Addr) (j : JN) : St := ⟨[], [(.code (aF [1, 1, 0, 1, 0, 0] Tryz.f57)), (.inLoop (aF [1, 1, 0, 1, 0, 0] Tryz.f57)), (.inBlock 0), (.code (aF [1, 1, 1] Tryz.f57))], mkT j [(0, (dQ C n)), (1, (dQ C2 m)), (5, (iN i))] 26 0⟩
def p59n_end (_C _C2 : List DT) (_n _m _i : Nat) (_x _e _f _g _lo _hi _z _w : Int) (_b _a : Bool) (_D : List AC) (_cp : Nat) (_ad : Addr) (j : JN) : St := ⟨[], [(.code .ret), (.code (aF [1, 1] Tryz.f57))], mkT j [(4, (iB false))] 26 0⟩
theorem p59n (hE : EnvOk E) (C C2 : List DT) (n m i : Nat) (x e f g lo hi z w : Int) (b a : Bool) (D : List AC) (cp : Nat) (ad : Addr) (h0 : ((↑n : Int) != (↑m : Int) : Bool) = true) {Φ : Res → Prop} (ho : ∀ j, OutK E 0 0 (p59n_end C C2 n m i x e f g lo hi z w b a D cp ad j) Φ) (j : JN) : OutK E 0 0 (s59 C C2 n m i x e f g lo hi z w b a D cp ad j) Φ :=
 oS hE [.run 4, (.ops [(1, (.d .len)), (3, (.d .len))] []), (.cond true), .run 2] [4] (aP h0 <| aZ)
  ho
def p59a_end (C C2 : List DT) (n m _i : Nat) (_x _e _f _g _lo _hi _z _w : Int) (_b _a : Bool) (_D : List AC) (_cp : Nat) (_ad : Addr) (j : JN) : St := ⟨[], [(.code (aF [1, 1, 0, 1, 0, 0] Tryz.f57)), (.inLoop (aF [1, 1, 0, 1, 0, 0] Tryz.f57)), (.inBlock 0), (.code (aF [1, 1, 1] Tryz.f57))], mkT j [(0, (dQ C n)), (1, (dQ C2 m)), (5, (iI 0))] 26 0⟩
theorem p59a (hE : EnvOk E) (C C2 : List DT) (n m i : Nat) (x e f g lo hi z w : Int) (b a : Bool) (D : List AC) (cp : Nat) (ad : Addr) (h0 : ((↑n : Int) != (↑m : Int) : Bool) = false) {Φ : Res → Prop} (ho : ∀ j, OutK E 0 0 (p59a_end C C2 n m i x e f g lo hi z w b a D cp ad j) Φ) (j : JN) : OutK E 0 0 (s59 C C2 n m i x e f g lo hi z w b a D cp ad j) Φ :=
 oS hE [.run 4, (.ops [(1, (.d .len)), (3, (.d .len))] []), (.cond false), .run 6] [0, 1, 5] (aP h0 <| aZ)
  ho
def p59s_end (C C2 : List DT) (n m i : Nat) (_x _e _f _g _lo _hi _z _w : Int) (_b _a : Bool) (_D : List AC) (_cp : Nat) (_ad : Addr) (j : JN) : St := ⟨[], [(.code (aF [1, 1, 0, 1, 0, 0] Tryz.f57)), (.inLoop (aF [1, 1, 0, 1, 0, 0] Tryz.f57)), (.inBlock 0), (.code (aF [1, 1, 1] Tryz.f57))], mkT j [(0, (dQ C n)), (1, (dQ C2 m)), (5, (iN (i + 1)))] 26 0⟩
theorem p59s (hE : EnvOk E) (C C2 : List DT) (n m i : Nat) (x e f g lo hi z w : Int) (b a : Bool) (D : List AC) (cp : Nat) (ad : Addr) (h0 : (decide (Int.ofNat i < (↑n : Int)) : Bool) = true) (h1 : (0 : Int) ≤ Int.ofNat i ∧ Int.ofNat i < (↑n : Int)) (h2 : ((Int.ofNat i).toNat * nat_lit 1 : Nat) = i) (h3 : (getL C i : Option DT) = (.some (.v (.int .i64 x)))) (h4 : (0 : Int) ≤ Int.ofNat i ∧ Int.ofNat i < (↑m : Int)) (h5 : ((Int.ofNat i).toNat * nat_lit 1 : Nat) = i) (h6 : (getL C2 i : Option DT) = (.some (.v (.int .i64 z)))) (h8 : (x != z : Bool) = false) (h9 : ((iI (wrapF IntKind.i64 (Int.ofNat i + (1 : Int)))) : AV) = (iN (i + 1))) {Φ : Res → Prop} (ho : ∀ j, OutK E 0 0 (p59s_end C C2 n m i x e f g lo hi z w b a D cp ad j) Φ) (j : JN) : OutK E 0 0 (q59 C C2 n m i x e f g lo hi z w b a D cp ad j) Φ :=
 oS hE [.run 2, (.ops [(2, (.d .len))] []), (.cond true), .run 4, (.ops [(3, (.d (.ld (.v (.int .i64 x))))), (7, (.d (.ld (.v (.int .i64 z))))), (2, (.d (.ix i))), (6, (.d (.ix i)))] []), (.cond false), .run 2, (.ops [(1, (.rn (iN (i + 1))))] []), .run 1] [0, 1, 5] (aQ h0 h1 h2 h3 <| aP h4 <| aP h5 <| aP h6 <| aV <| aP h8 <| aP h9 <| aZ)
  ho
def p59f_end (_C _C2 : List DT) (_n _m _i : Nat) (_x _e _f _g _lo _hi _z _w : Int) (_b _a : Bool) (_D : List AC) (_cp : Nat) (_ad : Addr) (j : JN) : St := ⟨[], [(.code .ret), (.inBlock 1), (.code (aF [1, 1, 0, 1, 0, 0, 1, 1] Tryz.f57)), (.inLoop (aF [1, 1, 0, 1, 0, 0] Tryz.f57)), (.inBlock 0), (.code (aF [1, 1, 1] Tryz.f57))], mkT j [(4, (iB false))] 26 0⟩
theorem p59f (hE : EnvOk E) (C C2 : List DT) (n m i : Nat) (x e f g lo hi z w : Int) (b a : Bool) (D : List AC) (cp : Nat) (ad : Addr) (h0 : (decide (Int.ofNat i < (↑n : Int)) : Bool) = true) (h1 : (0 : Int) ≤ Int.ofNat i ∧ Int.ofNat i < (↑n : Int)) (h2 : ((Int.ofNat i).toNat * nat_lit 1 : Nat) = i) (h3 : (getL C i : Option DT) = (.some (.v (.int .i64 x)))) (h4 : (0 : Int) ≤ Int.ofNat i ∧ Int.ofNat i < (↑m : Int)) (h5 : ((Int.ofNat i).toNat * nat_lit 1 : Nat) = i) (h6 : (getL C2 i : Option DT) = (.some (.v (.int .i64 z)))) (h8 : (x != z : Bool) = true) {Φ : Res → Prop} (ho : ∀ j, OutK E 0 0 (p59f_end C C2 n m i x e f g lo hi z w b a D cp ad j) Φ) (j : JN) : OutK E 0 0 (q59 C C2 n m i x e f g lo hi z w b a D cp ad j) Φ :=
 oS hE [.run 2, (.ops [(2, (.d .len))] []), (.cond true), .run 4, (.ops [(3, (.d (.ld (.v (.int .i64 x))))), (7, (.d (.ld (.v (.int .i64 z))))), (2, (.d (.ix i))), (6, (.d (.ix i)))] []), (.cond true), .run 2] [4] (aQ h0 h1 h2 h3 <| aP h4 <| aP h5 <| aP h6 <| aV <| aP h8 <| aZ)
  ho
def p59x_end (_C _C2 : List DT) (_n _m _i : Nat) (_x _e _f _g _lo _hi _z _w : Int) (_b _a : Bool) (_D : List AC) (_cp : Nat) (_ad : Addr) (j : JN) : St := ⟨[], [(.code .ret)], mkT j [(4, (iB true))] 26 0⟩
theorem p59x (hE : EnvOk E) (C C2 : List DT) (n m i : Nat) (x e f g lo hi z w : Int) (b a : Bool) (D : List AC) (cp : Nat) (ad : Addr) (h0 : (decide (Int.ofNat i < (↑n : Int)) : Bool) = false) {Φ : Res → Prop} (ho : ∀ j, OutK E 0 0 (p59x_end C C2 n m i x e f g lo hi z w b a D cp ad j) Φ) (j : JN) : OutK E 0 0 (q59 C C2 n m i x e f g lo hi z w b a D cp ad j) Φ :=
 oS hE [.run 2, (.ops [(2, (.d .len))] []), (.cond false), .run 3] [4] (aP h0 <| aZ)
  ho
def fI (c : Bool) (e : Int) : Int := if c = true then e else 0
def rg (x lo hi : Int) : Int := if x < lo ∨ hi < x then 3 else 0
theorem K85 (hE : EnvOk E) (c : Bool) (e : Int) : COut E 0 [] 102 [iB c, iI e] (iI (fI c e)) [] := by
 have h := A85_all hE c e
 rw [show A85_r0 c e = fI c e by unfold A85_r0 fI; cases c <;> rfl] at h
 exact h
theorem K32 (hE : EnvOk E) (c : Bool) (e : Int) : COut E 0 [] 73 [iB c, iI e] (iI (fI c e)) [] := by
 have h := A32_all hE c e
 rw [show A32_r0 c e = fI c e by unfold A32_r0 fI; cases c <;> rfl] at h
 exact h
theorem rg_of (x lo hi : Int) : (bif decide (x < lo) then (3 : Int) else (bif decide (x > hi) then Int.ofNat (nat_lit 3) else 0)) = rg x lo hi := by
 unfold rg
 by_cases h1 : x < lo
 ·rw [decide_eq_true h1, if_pos (.inl h1)]; rfl
 ·rw [decide_eq_false h1]
  by_cases h2 : hi < x
  ·rw [if_pos (.inr h2)]; show (bif decide (x > hi) then _ else _) = _; rw [decide_eq_true h2]; rfl
  ·rw [if_neg (by omega)]; show (bif decide (x > hi) then _ else _) = _; rw [decide_eq_false h2]; rfl
theorem K72 (hE : EnvOk E) (x lo hi : Int) : COut E 0 [] 77 [iI x, iI lo, iI hi] (iI (rg x lo hi)) [] := by
 have h := A72_all hE x lo hi
 rw [show A72_r0 x lo hi = rg x lo hi from rg_of x lo hi] at h
 exact h
theorem K18 (hE : EnvOk E) (x lo hi : Int) : COut E 0 [] 41 [iI x, iI lo, iI hi] (iI (rg x lo hi)) [] := by
 have h := A18_all hE x lo hi
 rw [show A18_r0 x lo hi = rg x lo hi from rg_of x lo hi] at h
 exact h
theorem gI {l : List Int} {i : Nat} {x : Int} (h : l[i]? = some x) : getL (iD l) i = some (.v (.int .i64 x)) := by rw [getL_eq, List.getElem?_map, h]; rfl
def eachE (lo hi : Int) : List Int → Int
 | [] => 0
 | x :: r => if rg x lo hi = 0 then eachE lo hi r else rg x lo hi
def mapE (xs : List Int) : Int := if xs.length = 0 then 12 else if 8 < xs.length then 5 else eachE 0 6 xs
abbrev hB (lo hi : Int) : Heap := [bK [.v (.int .i64 lo)] 1 3, bK [.v (.int .i64 hi)] 1 3]
theorem l59 (hE : EnvOk E) (xs ys : List Int) (hm : xs.length ≤ 100000) (he : xs.length = ys.length) : ∀ k i, k + i = xs.length → ∀ j, OutK E 0 0 (q59 (iD xs) (iD ys) xs.length ys.length i 0 0 0 0 0 0 0 0 false false [] 0 (⟨0, 0, none⟩) j) (Go.Ev.Ends E Tryz.f57 (iB (decide (xs.drop i = ys.drop i))) [])
 | 0, i, hk, j => by
  obtain rfl : i = xs.length := by omega
  have e : decide (xs.drop xs.length = ys.drop xs.length) = true := decide_eq_true (by rw [List.drop_length, he, List.drop_length])
  rw [e]
  exact p59x hE (iD xs) (iD ys) xs.length ys.length xs.length 0 0 0 0 0 0 0 0 false false [] 0 (⟨0, 0, none⟩) dF (fun j => outK_ret (ends_ret (by kernel_rfl))) j
 | k + 1, i, hk, j => by
  have hl : i < xs.length := by omega
  have hl2 : i < ys.length := by omega
  have hx : xs[i]? = some xs[i] := List.getElem?_eq_getElem hl
  have hy : ys[i]? = some ys[i] := List.getElem?_eq_getElem hl2
  rw [List.drop_eq_getElem_cons hl, List.drop_eq_getElem_cons hl2]
  generalize xs[i] = x at hx
  generalize ys[i] = y at hy
  by_cases h : x = y
  ·have e : decide (x :: xs.drop (i + 1) = y :: ys.drop (i + 1)) = decide (xs.drop (i + 1) = ys.drop (i + 1)) := by
    subst h
    by_cases h2 : xs.drop (i + 1) = ys.drop (i + 1)
    ·rw [decide_eq_true h2, decide_eq_true (by rw [h2])]
    ·rw [decide_eq_false h2, decide_eq_false (fun a => h2 (List.cons.inj a).2)]
   rw [e]
   exact p59s hE (iD xs) (iD ys) xs.length ys.length i x 0 0 0 0 0 y 0 false false [] 0 (⟨0, 0, none⟩) dT bP (Nat.mul_one _) (gI hx) bP (Nat.mul_one _) (gI hy) (by rw [h]; simp) wQ (l59 hE xs ys hm he k (i + 1) (by omega)) j
  ·have e : decide (x :: xs.drop (i + 1) = y :: ys.drop (i + 1)) = false := decide_eq_false fun a => h (List.cons.inj a).1
   rw [e]
   exact p59f hE (iD xs) (iD ys) xs.length ys.length i x 0 0 0 0 0 y 0 false false [] 0 (⟨0, 0, none⟩) dT bP (Nat.mul_one _) (gI hx) bP (Nat.mul_one _) (gI hy) (bne_iff_ne.2 h) (fun j => outK_ret (ends_ret (by kernel_rfl))) j
theorem K59 (hE : EnvOk E) (xs ys : List Int) (hm : xs.length ≤ 100000) : COut E 0 [] 57 [dI xs, dI ys] (iB (decide (xs = ys))) [] := by
 by_cases he : xs.length = ys.length
 ·have := l59 hE xs ys hm he xs.length 0 rfl
  rw [List.drop_zero, List.drop_zero] at this
  exact cOut_start Tryz.func57 rfl (p59a hE (iD xs) (iD ys) xs.length ys.length 0 0 0 0 0 0 0 0 0 false false [] 0 (⟨0, 0, none⟩) (by rw [he]; simp) this uD)
 ·rw [show decide (xs = ys) = false from decide_eq_false fun a => he (by rw [a])]
  exact cOut_start Tryz.func57 rfl (p59n hE (iD xs) (iD ys) xs.length ys.length 0 0 0 0 0 0 0 0 0 false false [] 0 (⟨0, 0, none⟩) (bne_iff_ne.2 (by omega)) (fun j => outK_ret (ends_ret (by kernel_rfl))) uD)
end
end Go.Proofs.YtigdchbjmnbjlaaGreatDoor
end
section
open Go Go.Ev
namespace Go.Proofs.YtigdchbjmnbjlaaGreatDoor
noncomputable section
abbrev Gs := Int × Int
def gsd (p : Gs) : List DT := [.v (.int .i64 p.1), .v (.int .i64 p.2)]
theorem gsd_len (p : Gs) : (gsd p).length = 2 := rfl
def gD (l : List Gs) : List DT := l.flatMap gsd
theorem gD_len (l : List Gs) : (gD l).length = l.length * 2 := rows_len gsd_len l
theorem g_get {l : List Gs} {i : Nat} {x : Gs} (h : l[i]? = some x) : takeL (dropL (gD l) (i.mul 2)) 2 = some (gsd x) := rows_get gsd_len h
theorem g_re {l : List Gs} {i : Nat} {x : Gs} (h : l[i]? = some x) : getL (gD l) (i.mul 2) = some (.v (.int .i64 x.1)) := rows_part (o := 0) gsd_len h rfl
theorem g_im {l : List Gs} {i : Nat} {x : Gs} (h : l[i]? = some x) : getL (gD l) (i.mul 2 + 1) = some (.v (.int .i64 x.2)) := rows_part (o := 1) gsd_len h rfl
abbrev dG (l : List Gs) : AV := .e (.one (.dp (.s (gD l) l.length 2)))
structure Nd where
 s : ByteArray
 u : Int
 p : Int
 f : List Gs
def Nd.d (x : Nd) : List DT := [.v (.string x.s), .v (.int .i64 x.u), .v (.int .i64 x.p), .s (gD x.f) x.f.length 2]
theorem Nd.len (x : Nd) : x.d.length = 4 := rfl
def ndD (l : List Nd) : List DT := l.flatMap Nd.d
theorem nd_get {l : List Nd} {i : Nat} {x : Nd} (h : l[i]? = some x) : takeL (dropL (ndD l) (i.mul 4)) 4 = some (Nd.d x) := rows_get Nd.len h
theorem nd_s {l : List Nd} {i : Nat} {x : Nd} (h : l[i]? = some x) : getL (ndD l) (i.mul 4) = some (.v (.string x.s)) := rows_part (o := 0) Nd.len h rfl
theorem nd_u {l : List Nd} {i : Nat} {x : Nd} (h : l[i]? = some x) : getL (ndD l) (i.mul 4 + 1) = some (.v (.int .i64 x.u)) := rows_part (o := 1) Nd.len h rfl
theorem nd_p {l : List Nd} {i : Nat} {x : Nd} (h : l[i]? = some x) : getL (ndD l) (i.mul 4 + 2) = some (.v (.int .i64 x.p)) := rows_part (o := 2) Nd.len h rfl
theorem nd_f {l : List Nd} {i : Nat} {x : Nd} (h : l[i]? = some x) : getL (ndD l) (i.mul 4 + 3) = some (.s (gD x.f) x.f.length 2) := rows_part (o := 3) Nd.len h rfl
structure Ld where
 k : Int
 s : ByteArray
 f : List Gs
def Ld.d (x : Ld) : List DT := [.v (.int .i64 x.k), .v (.string x.s), .s (gD x.f) x.f.length 2]
theorem Ld.len (x : Ld) : x.d.length = 3 := rfl
def ldD (l : List Ld) : List DT := l.flatMap Ld.d
theorem ld_get {l : List Ld} {i : Nat} {x : Ld} (h : l[i]? = some x) : takeL (dropL (ldD l) (i.mul 3)) 3 = some (Ld.d x) := rows_get Ld.len h
theorem ld_s {l : List Ld} {i : Nat} {x : Ld} (h : l[i]? = some x) : getL (ldD l) (i.mul 3 + 1) = some (.v (.string x.s)) := rows_part (o := 1) Ld.len h rfl
theorem ld_f {l : List Ld} {i : Nat} {x : Ld} (h : l[i]? = some x) : getL (ldD l) (i.mul 3 + 2) = some (.s (gD x.f) x.f.length 2) := rows_part (o := 2) Ld.len h rfl
abbrev mnC (c : Int) (x : List Gs) (N : List Nd) (L : List Ld) : List AC := [.v (.int .i64 c), .dp (.s (gD x) x.length 2), .dp (.s (ndD N) N.length 4), .dp (.s (ldD L) L.length 3)]
abbrev aM (c : Int) (x : List Gs) (N : List Nd) (L : List Ld) : AV := .e (.agg (mnC c x N L))
end
end Go.Proofs.YtigdchbjmnbjlaaGreatDoor
end
section
open Go Go.Ev
namespace Go.Proofs.YtigdchbjmnbjlaaGreatDoor
noncomputable section
def sm72 (G : List DT) (g : Nat) (c : Int) (_j : JN) : St := startK Tryz.f72 [] [iI c, (.e (.one (.dp (.s G g 2))))]
def sm142 (a b : Int) (_j : JN) : St := startK Tryz.f142 [] [.e (.agg [.v (.int .i64 a), .v (.int .i64 b)])]
def sm141 (G : List DT) (g : Nat) (_j : JN) : St := startK Tryz.f141 [] [(.e (.one (.dp (.s G g 2)))), (.e (.one (.v (.func (.func 142) #[] #[]))))]
def sm78 (G : List DT) (g : Nat) (c : Int) (_j : JN) : St := startK Tryz.f78 [] [(.e (.one (.dp (.s G g 2)))), iI c]
def sm28 (s : ByteArray) (_j : JN) : St := startK Tryz.f28 [] [(.e (.one (.v (.string s))))]
def sm98 (s : ByteArray) (_j : JN) : St := startK Tryz.f98 [] [(.e (.one (.v (.string s))))]
def sm140 (s : ByteArray) (_j : JN) : St := startK Tryz.f140 [] [(.e (.one (.v (.string s))))]
def sm145 (s : ByteArray) (_j : JN) : St := startK Tryz.f145 [] [(.e (.one (.v (.string s))))]
def tm72 (G : List DT) (g i : Nat) (j : JN) : St := ⟨[], [(.code (aF [1, 1, 0, 1, 0, 0] Tryz.f72)), (.inLoop (aF [1, 1, 0, 1, 0, 0] Tryz.f72)), (.inBlock 0), (.code (aF [1, 1, 1] Tryz.f72))], mkT j [(1, (.e (.one (.dp (.s G g 2))))), (5, (iN i))] 41 0⟩
def tm141 (G : List DT) (g i : Nat) (j : JN) : St := ⟨[], [(.code (aF [1, 0, 1, 0, 0] Tryz.f141)), (.inLoop (aF [1, 0, 1, 0, 0] Tryz.f141)), (.inBlock 0), (.code (aF [1, 1] Tryz.f141))], mkT j [(1, (.e (.one (.v (.func (.func 142) #[] #[]))))), (8, (.e (.one (.dp (.s G g 2))))), (9, (iN g)), (10, (iN i))] 21 0⟩
def tm98_0 (s : ByteArray) (j : JN) : St := ⟨[], [(.code (aF [1, 0, 1, 0, 0] Tryz.f98)), (.inLoop (aF [1, 0, 1, 0, 0] Tryz.f98)), (.inBlock 0), (.code (aF [1, 1] Tryz.f98))], mkT j [(0, (.e (.one (.v (.string s))))), (5, (.e (.agg [(.v (.string ⟨#[111, 110]⟩)), (.v (.string ⟨#[111, 102, 102]⟩)), (.v (.string ⟨#[109, 97, 121]⟩))]))), (6, (iI 0))] 13 0⟩
def tm98_1 (s : ByteArray) (j : JN) : St := ⟨[], [(.code (aF [1, 0, 1, 0, 0] Tryz.f98)), (.inLoop (aF [1, 0, 1, 0, 0] Tryz.f98)), (.inBlock 0), (.code (aF [1, 1] Tryz.f98))], mkT j [(0, (.e (.one (.v (.string s))))), (5, (.e (.agg [(.v (.string ⟨#[111, 110]⟩)), (.v (.string ⟨#[111, 102, 102]⟩)), (.v (.string ⟨#[109, 97, 121]⟩))]))), (6, (iI 1))] 13 0⟩
def tm98_2 (s : ByteArray) (j : JN) : St := ⟨[], [(.code (aF [1, 0, 1, 0, 0] Tryz.f98)), (.inLoop (aF [1, 0, 1, 0, 0] Tryz.f98)), (.inBlock 0), (.code (aF [1, 1] Tryz.f98))], mkT j [(0, (.e (.one (.v (.string s))))), (5, (.e (.agg [(.v (.string ⟨#[111, 110]⟩)), (.v (.string ⟨#[111, 102, 102]⟩)), (.v (.string ⟨#[109, 97, 121]⟩))]))), (6, (iI 2))] 13 0⟩
def tm98_3 (s : ByteArray) (j : JN) : St := ⟨[], [(.code (aF [1, 0, 1, 0, 0] Tryz.f98)), (.inLoop (aF [1, 0, 1, 0, 0] Tryz.f98)), (.inBlock 0), (.code (aF [1, 1] Tryz.f98))], mkT j [(0, (.e (.one (.v (.string s))))), (5, (.e (.agg [(.v (.string ⟨#[111, 110]⟩)), (.v (.string ⟨#[111, 102, 102]⟩)), (.v (.string ⟨#[109, 97, 121]⟩))]))), (6, (iI 3))] 13 0⟩
def pm72n_end (j : JN) : St := ⟨[], [(.code .ret), (.code (aF [1, 1] Tryz.f72))], mkT j [(4, (iI 2))] 41 0⟩
theorem pm72n (hE : EnvOk E) (G : List DT) (g : Nat) (c : Int) (h0 : ((↑g : Int) != c : Bool) = true) {Φ : Res → Prop} (ho : ∀ j, OutK E 0 0 (pm72n_end j) Φ) (j : JN) : OutK E 0 0 (sm72 G g c j) Φ :=
 oS hE [.run 4, (.ops [(1, (.d .len))] []), (.cond true), .run 2] [4] (aP h0 <| aZ)
  ho
def pm72a_end (G : List DT) (g : Nat) (j : JN) : St := ⟨[], [(.code (aF [1, 1, 0, 1, 0, 0] Tryz.f72)), (.inLoop (aF [1, 1, 0, 1, 0, 0] Tryz.f72)), (.inBlock 0), (.code (aF [1, 1, 1] Tryz.f72))], mkT j [(1, (.e (.one (.dp (.s G g 2))))), (5, (iI 0))] 41 0⟩
theorem pm72a (hE : EnvOk E) (G : List DT) (g : Nat) (c : Int) (h0 : ((↑g : Int) != c : Bool) = false) {Φ : Res → Prop} (ho : ∀ j, OutK E 0 0 (pm72a_end G g j) Φ) (j : JN) : OutK E 0 0 (sm72 G g c j) Φ :=
 oS hE [.run 4, (.ops [(1, (.d .len))] []), (.cond false), .run 6] [1, 5] (aP h0 <| aZ)
  ho
def pm142_end (e : Int) (j : JN) : St := ⟨[], [(.code .ret)], mkT j [(2, (iI e))] 15 0⟩
theorem pm142 (hE : EnvOk E) (x z a b e u : Int) (w : Bool) (h0 : COut E 0 [] 77 [(iI a), (iI (-2)), (iI 2)] (iI x) []) (h2 : COut E 0 [] 77 [(iI b), (iI (-2)), (iI 2)] (iI z) []) (h4 : EqOk E 47 [(.v (.int .i64 a)), (.v (.int .i64 b))] [(.v (.int .i64 0)), (.v (.int .i64 0))] w) (h6 : COut E 0 [] 102 [(iB w), (iI 6)] (iI u) []) (h8 : COut E 2 [(bK [(.v (.int .i64 a)), (.v (.int .i64 b))] 2 47), (bK [(.v (.int .i64 x)), (.v (.int .i64 z)), (.v (.int .i64 u))] 3 31)] 76 [(.e (.one (.slc 1 0 3 1 3 true)))] (iI e) [(bK [(.v (.int .i64 a)), (.v (.int .i64 b))] 2 47), (bK [(.v (.int .i64 x)), (.v (.int .i64 z)), (.v (.int .i64 u))] 3 31)]) {Φ : Res → Prop} (ho : ∀ j, OutK E 0 0 (pm142_end e j) Φ) (j : JN) : OutK E 0 0 (sm142 a b j) Φ :=
 oS hE [.run 3, (.ops [(2, (.c0 (iI x))), (5, (.c0 (iI z))), (8, (.eqs w)), (9, (.c0 (iI u))), (11, (.d (.c1 (iI e))))] [])] [2] (s' := fun j => ⟨[(bK [(.v (.int .i64 a)), (.v (.int .i64 b))] 2 47), (bK [(.v (.int .i64 x)), (.v (.int .i64 z)), (.v (.int .i64 u))] 3 31)], [(.code .ret)], mkT j [(2, (iI e))] 15 0⟩) (aP h0 <| aN <| aP h2 <| aN <| aP h4 <| aV <| aP h6 <| aN <| aP h8 <| aN <| aZ)
  fun j => gZ [] (ho j)
def pm141a_end (G : List DT) (g : Nat) (j : JN) : St := ⟨[], [(.code (aF [1, 0, 1, 0, 0] Tryz.f141)), (.inLoop (aF [1, 0, 1, 0, 0] Tryz.f141)), (.inBlock 0), (.code (aF [1, 1] Tryz.f141))], mkT j [(1, (.e (.one (.v (.func (.func 142) #[] #[]))))), (8, (.e (.one (.dp (.s G g 2))))), (9, (iN g)), (10, (iI 0))] 21 0⟩
theorem pm141a (hE : EnvOk E) (G : List DT) (g : Nat) {Φ : Res → Prop} (ho : ∀ j, OutK E 0 0 (pm141a_end G g j) Φ) (j : JN) : OutK E 0 0 (sm141 G g j) Φ :=
 oS hE [.run 4, (.ops [(1, (.d .len))] []), .run 2] [1, 8, 9, 10] (ps := []) trivial
  ho
def pm78n_end (j : JN) : St := ⟨[], [(.code .ret), (.code (aF [1, 1] Tryz.f78))], mkT j [(4, (iI 2))] 11 0⟩
theorem pm78n (hE : EnvOk E) (G : List DT) (g : Nat) (c : Int) (h0 : ((↑g : Int) != c : Bool) = true) {Φ : Res → Prop} (ho : ∀ j, OutK E 0 0 (pm78n_end j) Φ) (j : JN) : OutK E 0 0 (sm78 G g c j) Φ :=
 oS hE [.run 4, (.ops [(1, (.d .len))] []), (.cond true), .run 2] [4] (aP h0 <| aZ)
  ho
def pm78a_end (e : Int) (j : JN) : St := ⟨[], [(.code .ret)], mkT j [(4, (iI e))] 11 0⟩
theorem pm78a (hE : EnvOk E) (G : List DT) (g : Nat) (c e : Int) (h0 : ((↑g : Int) != c : Bool) = false) (h1 : COut E 0 [] 141 [(.e (.one (.dp (.s G g 2)))), (.e (.one (.v (.func (.func 142) #[] #[]))))] (iI e) []) {Φ : Res → Prop} (ho : ∀ j, OutK E 0 0 (pm78a_end e j) Φ) (j : JN) : OutK E 0 0 (sm78 G g c j) Φ :=
 oS hE [.run 4, (.ops [(1, (.d .len))] []), (.cond false), .run 2, (.ops [(1, (.c0 (iI e)))] [])] [4] (aP h0 <| aP h1 <| aN <| aZ)
  ho
def pm28a_end (e : Int) (j : JN) : St := ⟨[], [(.code .ret)], mkT j [(2, (iI e))] 14 0⟩
theorem pm28a (hE : EnvOk E) (e : Int) (s : ByteArray) (w : Bool) (h0 : ((iB (!s.toList == { data := #[(111 : UInt8), (110 : UInt8)] : ByteArray }.toList)) : AV) = (iB w)) (h1 : (w == true : Bool) = false) (h3 : (w : Bool) = false) (h4 : COut E 0 [] 73 [(iB false), (iI 13)] (iI e) []) {Φ : Res → Prop} (ho : ∀ j, OutK E 0 0 (pm28a_end e j) Φ) (j : JN) : OutK E 0 0 (sm28 s j) Φ :=
 oS hE [.run 3, (.ops [(1, (.rn (iB w))), (10, (.c0 (iI e))), (5, (.pk false))] [(3, false), (4, false)])] [2] (aQ h0 h1 h1 h3 <| aP h4 <| aN <| aZ)
  ho
def pm28b_end (e : Int) (j : JN) : St := ⟨[], [(.code .ret)], mkT j [(2, (iI e))] 14 0⟩
theorem pm28b (hE : EnvOk E) (e : Int) (s : ByteArray) (w v : Bool) (h0 : ((iB (!s.toList == { data := #[(111 : UInt8), (110 : UInt8)] : ByteArray }.toList)) : AV) = (iB w)) (h1 : (w == true : Bool) = true) (h3 : ((iB (!s.toList == { data := #[(111 : UInt8), (102 : UInt8), (102 : UInt8)] : ByteArray }.toList)) : AV) = (iB v)) (h4 : (w : Bool) = true) (h5 : (v == true : Bool) = false) (h7 : (v : Bool) = false) (h8 : COut E 0 [] 73 [(iB false), (iI 13)] (iI e) []) {Φ : Res → Prop} (ho : ∀ j, OutK E 0 0 (pm28b_end e j) Φ) (j : JN) : OutK E 0 0 (sm28 s j) Φ :=
 oS hE [.run 3, (.ops [(1, (.rn (iB w))), (4, (.rn (iB v))), (10, (.c0 (iI e))), (5, (.pk true)), (9, (.pk false))] [(3, true), (4, true), (7, false), (8, false)])] [2] (aQ h0 h1 h1 h3 <| aQ h4 h5 h5 h7 <| aP h8 <| aN <| aZ)
  ho
def pm28c_end (e : Int) (j : JN) : St := ⟨[], [(.code .ret)], mkT j [(2, (iI e))] 14 0⟩
theorem pm28c (hE : EnvOk E) (e : Int) (s : ByteArray) (w v w2 : Bool) (h0 : ((iB (!s.toList == { data := #[(111 : UInt8), (110 : UInt8)] : ByteArray }.toList)) : AV) = (iB w)) (h1 : (w == true : Bool) = true) (h3 : ((iB (!s.toList == { data := #[(111 : UInt8), (102 : UInt8), (102 : UInt8)] : ByteArray }.toList)) : AV) = (iB v)) (h4 : (w : Bool) = true) (h5 : (v == true : Bool) = true) (h7 : ((iB (!s.toList == { data := #[(109 : UInt8), (97 : UInt8), (121 : UInt8)] : ByteArray }.toList)) : AV) = (iB w2)) (h8 : (v : Bool) = true) (h9 : COut E 0 [] 73 [(iB w2), (iI 13)] (iI e) []) {Φ : Res → Prop} (ho : ∀ j, OutK E 0 0 (pm28c_end e j) Φ) (j : JN) : OutK E 0 0 (sm28 s j) Φ :=
 oS hE [.run 3, (.ops [(1, (.rn (iB w))), (4, (.rn (iB v))), (8, (.rn (iB w2))), (10, (.c0 (iI e))), (5, (.pk true)), (9, (.pk true))] [(3, true), (4, true), (7, true), (8, true)])] [2] (aQ h0 h1 h1 h3 <| aQ h4 h5 h5 h7 <| aP h8 <| aP h9 <| aN <| aZ)
  ho
def pm140_end (e : Int) (j : JN) : St := ⟨[], [(.code .ret)], mkT j [(2, (iI e))] 7 0⟩
theorem pm140 (hE : EnvOk E) (e : Int) (s : ByteArray) (w : Bool) (h0 : COut E 0 [] 179 [(.e (.one (.v (.string s))))] (iB w) []) (h2 : COut E 0 [] 73 [(iB (!w)), (iI 8)] (iI e) []) {Φ : Res → Prop} (ho : ∀ j, OutK E 0 0 (pm140_end e j) Φ) (j : JN) : OutK E 0 0 (sm140 s j) Φ :=
 oS hE [.run 3, (.ops [(1, (.c0 (iB w))), (3, (.c0 (iI e)))] [])] [2] (aP h0 <| aN <| aP h2 <| aN <| aZ)
  ho
def pm145_end (e : Int) (j : JN) : St := ⟨[], [(.code .ret)], mkT j [(2, (iI e))] 7 0⟩
theorem pm145 (hE : EnvOk E) (e : Int) (s : ByteArray) (w : Bool) (h0 : COut E 0 [] 181 [(.e (.one (.v (.string s))))] (iB w) []) (h2 : COut E 0 [] 102 [(iB (!w)), (iI 8)] (iI e) []) {Φ : Res → Prop} (ho : ∀ j, OutK E 0 0 (pm145_end e j) Φ) (j : JN) : OutK E 0 0 (sm145 s j) Φ :=
 oS hE [.run 3, (.ops [(1, (.c0 (iB w))), (3, (.c0 (iI e)))] [])] [2] (aP h0 <| aN <| aP h2 <| aN <| aZ)
  ho
def pm98a_end (s : ByteArray) (j : JN) : St := ⟨[], [(.code (aF [1, 0, 1, 0, 0] Tryz.f98)), (.inLoop (aF [1, 0, 1, 0, 0] Tryz.f98)), (.inBlock 0), (.code (aF [1, 1] Tryz.f98))], mkT j [(0, (.e (.one (.v (.string s))))), (5, (.e (.agg [(.v (.string ⟨#[111, 110]⟩)), (.v (.string ⟨#[111, 102, 102]⟩)), (.v (.string ⟨#[109, 97, 121]⟩))]))), (6, (iI 0))] 13 0⟩
theorem pm98a (hE : EnvOk E) (s : ByteArray) {Φ : Res → Prop} (ho : ∀ j, OutK E 0 0 (pm98a_end s j) Φ) (j : JN) : OutK E 0 0 (sm98 s j) Φ :=
 oS hE [.run 7] [0, 5, 6] (ps := []) trivial
  ho
def pm72s_end (G : List DT) (g i : Nat) (j : JN) : St := ⟨[], [(.code (aF [1, 1, 0, 1, 0, 0] Tryz.f72)), (.inLoop (aF [1, 1, 0, 1, 0, 0] Tryz.f72)), (.inBlock 0), (.code (aF [1, 1, 1] Tryz.f72))], mkT j [(1, (.e (.one (.dp (.s G g 2))))), (5, (iN (i + 1)))] 41 0⟩
theorem pm72s (hE : EnvOk E) (G : List DT) (g i : Nat) (x z a b e u : Int) (w : Bool) (h0 : (decide (Int.ofNat i < (↑g : Int)) : Bool) = true) (h1 : (0 : Int) ≤ Int.ofNat i ∧ Int.ofNat i < (↑g : Int)) (h2 : ((Int.ofNat i).toNat * nat_lit 2 : Nat) = i.mul (nat_lit 2)) (h3 : (getL G (i.mul (nat_lit 2) + 0) : Option DT) = (.some (.v (.int .i64 a)))) (h4 : COut E 0 [] 41 [(iI a), (iI (-2)), (iI 2)] (iI x) []) (h8 : (getL G (i.mul (nat_lit 2) + 1) : Option DT) = (.some (.v (.int .i64 b)))) (h9 : COut E 0 [] 41 [(iI b), (iI (-2)), (iI 2)] (iI z) []) (h13 : (takeL (dropL G (i.mul (nat_lit 2))) (2 : Nat) : Option (List DT)) = (.some [(.v (.int .i64 a)), (.v (.int .i64 b))])) (h14 : EqOk E 47 [(.v (.int .i64 a)), (.v (.int .i64 b))] [(.v (.int .i64 0)), (.v (.int .i64 0))] w) (h16 : COut E 0 [] 73 [(iB w), (iI 6)] (iI u) []) (h18 : COut E 1 [(bK [(.v (.int .i64 x)), (.v (.int .i64 z)), (.v (.int .i64 u))] 3 3)] 15 [(.e (.one (.slc 0 0 3 1 3 true)))] (iI e) [(bK [(.v (.int .i64 x)), (.v (.int .i64 z)), (.v (.int .i64 u))] 3 3)]) (h20 : (e != (0 : Int) : Bool) = false) (h21 : ((iI (wrapF IntKind.i64 (Int.ofNat i + (1 : Int)))) : AV) = (iN (i + 1))) {Φ : Res → Prop} (ho : ∀ j, OutK E 0 0 (pm72s_end G g i j) Φ) (j : JN) : OutK E 0 0 (tm72 G g i j) Φ :=
 oS hE [.run 2, (.ops [(2, (.d .len))] []), (.cond true), .run 4, (.ops [(4, (.d (.ld (.v (.int .i64 a))))), (5, (.c0 (iI x))), (10, (.d (.ld (.v (.int .i64 b))))), (11, (.c0 (iI z))), (15, (.d (.ldn [(.v (.int .i64 a)), (.v (.int .i64 b))]))), (17, (.eqs w)), (18, (.c0 (iI u))), (20, (.d (.c1 (iI e)))), (2, (.d (.ix (i.mul (nat_lit 2))))), (3, (.d .fa)), (8, (.d (.ix (i.mul (nat_lit 2))))), (9, (.d .fa)), (14, (.d (.ix (i.mul (nat_lit 2)))))] []), .run 2, (.cond false), .run 2, (.ops [(1, (.rn (iN (i + 1))))] []), .run 1] [1, 5] (s' := fun j => ⟨[(bK [(.v (.int .i64 x)), (.v (.int .i64 z)), (.v (.int .i64 u))] 3 3)], [(.code (aF [1, 1, 0, 1, 0, 0] Tryz.f72)), (.inLoop (aF [1, 1, 0, 1, 0, 0] Tryz.f72)), (.inBlock 0), (.code (aF [1, 1, 1] Tryz.f72))], mkT j [(1, (.e (.one (.dp (.s G g 2))))), (5, (iN (i + 1)))] 41 0⟩) (aQ h0 h1 h2 h3 <| aP h4 <| aN <| aQ h1 h2 h8 h9 <| aN <| aQ h1 h2 h13 h14 <| aV <| aP h16 <| aN <| aP h18 <| aN <| aP h20 <| aP h21 <| aZ)
  fun j => gZ [] (ho j)
def pm72f_end (e : Int) (j : JN) : St := ⟨[], [(.code .ret), (.inBlock 1), (.code (aF [1, 1, 0, 1, 0, 0, 1, 1] Tryz.f72)), (.inLoop (aF [1, 1, 0, 1, 0, 0] Tryz.f72)), (.inBlock 0), (.code (aF [1, 1, 1] Tryz.f72))], mkT j [(4, (iI e))] 41 0⟩
theorem pm72f (hE : EnvOk E) (G : List DT) (g i : Nat) (x z a b e u : Int) (w : Bool) (h0 : (decide (Int.ofNat i < (↑g : Int)) : Bool) = true) (h1 : (0 : Int) ≤ Int.ofNat i ∧ Int.ofNat i < (↑g : Int)) (h2 : ((Int.ofNat i).toNat * nat_lit 2 : Nat) = i.mul (nat_lit 2)) (h3 : (getL G (i.mul (nat_lit 2) + 0) : Option DT) = (.some (.v (.int .i64 a)))) (h4 : COut E 0 [] 41 [(iI a), (iI (-2)), (iI 2)] (iI x) []) (h8 : (getL G (i.mul (nat_lit 2) + 1) : Option DT) = (.some (.v (.int .i64 b)))) (h9 : COut E 0 [] 41 [(iI b), (iI (-2)), (iI 2)] (iI z) []) (h13 : (takeL (dropL G (i.mul (nat_lit 2))) (2 : Nat) : Option (List DT)) = (.some [(.v (.int .i64 a)), (.v (.int .i64 b))])) (h14 : EqOk E 47 [(.v (.int .i64 a)), (.v (.int .i64 b))] [(.v (.int .i64 0)), (.v (.int .i64 0))] w) (h16 : COut E 0 [] 73 [(iB w), (iI 6)] (iI u) []) (h18 : COut E 1 [(bK [(.v (.int .i64 x)), (.v (.int .i64 z)), (.v (.int .i64 u))] 3 3)] 15 [(.e (.one (.slc 0 0 3 1 3 true)))] (iI e) [(bK [(.v (.int .i64 x)), (.v (.int .i64 z)), (.v (.int .i64 u))] 3 3)]) (h20 : (e != (0 : Int) : Bool) = true) {Φ : Res → Prop} (ho : ∀ j, OutK E 0 0 (pm72f_end e j) Φ) (j : JN) : OutK E 0 0 (tm72 G g i j) Φ :=
 oS hE [.run 2, (.ops [(2, (.d .len))] []), (.cond true), .run 4, (.ops [(4, (.d (.ld (.v (.int .i64 a))))), (5, (.c0 (iI x))), (10, (.d (.ld (.v (.int .i64 b))))), (11, (.c0 (iI z))), (15, (.d (.ldn [(.v (.int .i64 a)), (.v (.int .i64 b))]))), (17, (.eqs w)), (18, (.c0 (iI u))), (20, (.d (.c1 (iI e)))), (2, (.d (.ix (i.mul (nat_lit 2))))), (3, (.d .fa)), (8, (.d (.ix (i.mul (nat_lit 2))))), (9, (.d .fa)), (14, (.d (.ix (i.mul (nat_lit 2)))))] []), .run 2, (.cond true), .run 2] [4] (s' := fun j => ⟨[(bK [(.v (.int .i64 x)), (.v (.int .i64 z)), (.v (.int .i64 u))] 3 3)], [(.code .ret), (.inBlock 1), (.code (aF [1, 1, 0, 1, 0, 0, 1, 1] Tryz.f72)), (.inLoop (aF [1, 1, 0, 1, 0, 0] Tryz.f72)), (.inBlock 0), (.code (aF [1, 1, 1] Tryz.f72))], mkT j [(4, (iI e))] 41 0⟩) (aQ h0 h1 h2 h3 <| aP h4 <| aN <| aQ h1 h2 h8 h9 <| aN <| aQ h1 h2 h13 h14 <| aV <| aP h16 <| aN <| aP h18 <| aN <| aP h20 <| aZ)
  fun j => gZ [] (ho j)
def pm72x_end (j : JN) : St := ⟨[], [(.code .ret)], mkT j [(4, (iI 0))] 41 0⟩
theorem pm72x (hE : EnvOk E) (G : List DT) (g i : Nat) (h0 : (decide (Int.ofNat i < (↑g : Int)) : Bool) = false) {Φ : Res → Prop} (ho : ∀ j, OutK E 0 0 (pm72x_end j) Φ) (j : JN) : OutK E 0 0 (tm72 G g i j) Φ :=
 oS hE [.run 2, (.ops [(2, (.d .len))] []), (.cond false), .run 3] [4] (aP h0 <| aZ)
  ho
def pm141s_end (G : List DT) (g i : Nat) (j : JN) : St := ⟨[], [(.code (aF [1, 0, 1, 0, 0] Tryz.f141)), (.inLoop (aF [1, 0, 1, 0, 0] Tryz.f141)), (.inBlock 0), (.code (aF [1, 1] Tryz.f141))], mkT j [(1, (.e (.one (.v (.func (.func 142) #[] #[]))))), (8, (.e (.one (.dp (.s G g 2))))), (9, (iN g)), (10, (iN (i + 1)))] 21 0⟩
theorem pm141s (hE : EnvOk E) (G : List DT) (g i : Nat) (a b e : Int) (h0 : (decide (Int.ofNat i < Int.ofNat g) : Bool) = true) (h1 : (0 : Int) ≤ Int.ofNat i ∧ Int.ofNat i < (↑g : Int)) (h2 : ((Int.ofNat i).toNat * nat_lit 2 : Nat) = i.mul (nat_lit 2)) (h3 : (takeL (dropL G (i.mul (nat_lit 2))) (2 : Nat) : Option (List DT)) = (.some [(.v (.int .i64 a)), (.v (.int .i64 b))])) (h4 : COut E 0 [] 142 [(.e (.agg [(.v (.int .i64 a)), (.v (.int .i64 b))]))] (iI e) []) (h6 : (e != (0 : Int) : Bool) = false) (h7 : ((iI (wrapF IntKind.i64 (Int.ofNat i + (1 : Int)))) : AV) = (iN (i + 1))) {Φ : Res → Prop} (ho : ∀ j, OutK E 0 0 (pm141s_end G g i j) Φ) (j : JN) : OutK E 0 0 (tm141 G g i j) Φ :=
 oS hE [.run 3, (.cond true), .run 4, (.ops [(1, (.d (.ldn [(.v (.int .i64 a)), (.v (.int .i64 b))]))), (0, (.d (.ix (i.mul (nat_lit 2)))))] []), .run 1, (.ops [(2, (.c0 (iI e)))] []), .run 2, (.cond false), .run 2, (.ops [(0, (.rn (iN (i + 1))))] []), .run 1] [1, 8, 9, 10] (s' := fun j => ⟨[(bK [(.v (.int .i64 a)), (.v (.int .i64 b))] 2 47)], [(.code (aF [1, 0, 1, 0, 0] Tryz.f141)), (.inLoop (aF [1, 0, 1, 0, 0] Tryz.f141)), (.inBlock 0), (.code (aF [1, 1] Tryz.f141))], mkT j [(1, (.e (.one (.v (.func (.func 142) #[] #[]))))), (8, (.e (.one (.dp (.s G g 2))))), (9, (iN g)), (10, (iN (i + 1)))] 21 0⟩) (aQ h0 h1 h2 h3 <| aP h4 <| aN <| aP h6 <| aP h7 <| aZ)
  fun j => gZ [] (ho j)
def pm141f_end (e : Int) (j : JN) : St := ⟨[], [(.code .ret), (.inBlock 1), (.code (aF [1, 0, 1, 0, 0, 1, 1, 1] Tryz.f141)), (.inLoop (aF [1, 0, 1, 0, 0] Tryz.f141)), (.inBlock 0), (.code (aF [1, 1] Tryz.f141))], mkT j [(4, (iI e))] 21 0⟩
theorem pm141f (hE : EnvOk E) (G : List DT) (g i : Nat) (a b e : Int) (h0 : (decide (Int.ofNat i < Int.ofNat g) : Bool) = true) (h1 : (0 : Int) ≤ Int.ofNat i ∧ Int.ofNat i < (↑g : Int)) (h2 : ((Int.ofNat i).toNat * nat_lit 2 : Nat) = i.mul (nat_lit 2)) (h3 : (takeL (dropL G (i.mul (nat_lit 2))) (2 : Nat) : Option (List DT)) = (.some [(.v (.int .i64 a)), (.v (.int .i64 b))])) (h4 : COut E 0 [] 142 [(.e (.agg [(.v (.int .i64 a)), (.v (.int .i64 b))]))] (iI e) []) (h6 : (e != (0 : Int) : Bool) = true) {Φ : Res → Prop} (ho : ∀ j, OutK E 0 0 (pm141f_end e j) Φ) (j : JN) : OutK E 0 0 (tm141 G g i j) Φ :=
 oS hE [.run 3, (.cond true), .run 4, (.ops [(1, (.d (.ldn [(.v (.int .i64 a)), (.v (.int .i64 b))]))), (0, (.d (.ix (i.mul (nat_lit 2)))))] []), .run 1, (.ops [(2, (.c0 (iI e)))] []), .run 2, (.cond true), .run 2] [4] (s' := fun j => ⟨[(bK [(.v (.int .i64 a)), (.v (.int .i64 b))] 2 47)], [(.code .ret), (.inBlock 1), (.code (aF [1, 0, 1, 0, 0, 1, 1, 1] Tryz.f141)), (.inLoop (aF [1, 0, 1, 0, 0] Tryz.f141)), (.inBlock 0), (.code (aF [1, 1] Tryz.f141))], mkT j [(4, (iI e))] 21 0⟩) (aQ h0 h1 h2 h3 <| aP h4 <| aN <| aP h6 <| aZ)
  fun j => gZ [] (ho j)
def pm141x_end (j : JN) : St := ⟨[], [(.code .ret)], mkT j [(4, (iI 0))] 21 0⟩
theorem pm141x (hE : EnvOk E) (G : List DT) (g i : Nat) (h0 : (decide (Int.ofNat i < Int.ofNat g) : Bool) = false) {Φ : Res → Prop} (ho : ∀ j, OutK E 0 0 (pm141x_end j) Φ) (j : JN) : OutK E 0 0 (tm141 G g i j) Φ :=
 oS hE [.run 3, (.cond false), .run 3] [4] (aP h0 <| aZ)
  ho
def pm98t0_end (j : JN) : St := ⟨[], [(.code .ret), (.inBlock 1), (.code (aF [1, 0, 1, 0, 0, 1, 1, 1] Tryz.f98)), (.inLoop (aF [1, 0, 1, 0, 0] Tryz.f98)), (.inBlock 0), (.code (aF [1, 1] Tryz.f98))], mkT j [(2, (iI 0))] 13 0⟩
theorem pm98t0 (hE : EnvOk E) (s : ByteArray) (w : Bool) (h0 : ((iB ({ data := #[(111 : UInt8), (110 : UInt8)] : ByteArray }.toList == s.toList)) : AV) = (iB w)) (h1 : (w : Bool) = true) {Φ : Res → Prop} (ho : ∀ j, OutK E 0 0 (pm98t0_end j) Φ) (j : JN) : OutK E 0 0 (tm98_0 s j) Φ :=
 oS hE [.run 10, (.ops [(2, (.rn (iB w)))] []), (.cond true), .run 2] [2] (aP h0 <| aP h1 <| aZ)
  ho
def pm98s0_end (s : ByteArray) (j : JN) : St := ⟨[], [(.code (aF [1, 0, 1, 0, 0] Tryz.f98)), (.inLoop (aF [1, 0, 1, 0, 0] Tryz.f98)), (.inBlock 0), (.code (aF [1, 1] Tryz.f98))], mkT j [(0, (.e (.one (.v (.string s))))), (5, (.e (.agg [(.v (.string ⟨#[111, 110]⟩)), (.v (.string ⟨#[111, 102, 102]⟩)), (.v (.string ⟨#[109, 97, 121]⟩))]))), (6, (iI 1))] 13 0⟩
theorem pm98s0 (hE : EnvOk E) (s : ByteArray) (w : Bool) (h0 : ((iB ({ data := #[(111 : UInt8), (110 : UInt8)] : ByteArray }.toList == s.toList)) : AV) = (iB w)) (h1 : (w : Bool) = false) {Φ : Res → Prop} (ho : ∀ j, OutK E 0 0 (pm98s0_end s j) Φ) (j : JN) : OutK E 0 0 (tm98_0 s j) Φ :=
 oS hE [.run 10, (.ops [(2, (.rn (iB w)))] []), (.cond false), .run 4] [0, 5, 6] (aP h0 <| aP h1 <| aZ)
  ho
def pm98t1_end (j : JN) : St := ⟨[], [(.code .ret), (.inBlock 1), (.code (aF [1, 0, 1, 0, 0, 1, 1, 1] Tryz.f98)), (.inLoop (aF [1, 0, 1, 0, 0] Tryz.f98)), (.inBlock 0), (.code (aF [1, 1] Tryz.f98))], mkT j [(2, (iI 0))] 13 0⟩
theorem pm98t1 (hE : EnvOk E) (s : ByteArray) (w : Bool) (h0 : ((iB ({ data := #[(111 : UInt8), (102 : UInt8), (102 : UInt8)] : ByteArray }.toList == s.toList)) : AV) = (iB w)) (h1 : (w : Bool) = true) {Φ : Res → Prop} (ho : ∀ j, OutK E 0 0 (pm98t1_end j) Φ) (j : JN) : OutK E 0 0 (tm98_1 s j) Φ :=
 oS hE [.run 10, (.ops [(2, (.rn (iB w)))] []), (.cond true), .run 2] [2] (aP h0 <| aP h1 <| aZ)
  ho
def pm98s1_end (s : ByteArray) (j : JN) : St := ⟨[], [(.code (aF [1, 0, 1, 0, 0] Tryz.f98)), (.inLoop (aF [1, 0, 1, 0, 0] Tryz.f98)), (.inBlock 0), (.code (aF [1, 1] Tryz.f98))], mkT j [(0, (.e (.one (.v (.string s))))), (5, (.e (.agg [(.v (.string ⟨#[111, 110]⟩)), (.v (.string ⟨#[111, 102, 102]⟩)), (.v (.string ⟨#[109, 97, 121]⟩))]))), (6, (iI 2))] 13 0⟩
theorem pm98s1 (hE : EnvOk E) (s : ByteArray) (w : Bool) (h0 : ((iB ({ data := #[(111 : UInt8), (102 : UInt8), (102 : UInt8)] : ByteArray }.toList == s.toList)) : AV) = (iB w)) (h1 : (w : Bool) = false) {Φ : Res → Prop} (ho : ∀ j, OutK E 0 0 (pm98s1_end s j) Φ) (j : JN) : OutK E 0 0 (tm98_1 s j) Φ :=
 oS hE [.run 10, (.ops [(2, (.rn (iB w)))] []), (.cond false), .run 4] [0, 5, 6] (aP h0 <| aP h1 <| aZ)
  ho
def pm98t2_end (j : JN) : St := ⟨[], [(.code .ret), (.inBlock 1), (.code (aF [1, 0, 1, 0, 0, 1, 1, 1] Tryz.f98)), (.inLoop (aF [1, 0, 1, 0, 0] Tryz.f98)), (.inBlock 0), (.code (aF [1, 1] Tryz.f98))], mkT j [(2, (iI 0))] 13 0⟩
theorem pm98t2 (hE : EnvOk E) (s : ByteArray) (w : Bool) (h0 : ((iB ({ data := #[(109 : UInt8), (97 : UInt8), (121 : UInt8)] : ByteArray }.toList == s.toList)) : AV) = (iB w)) (h1 : (w : Bool) = true) {Φ : Res → Prop} (ho : ∀ j, OutK E 0 0 (pm98t2_end j) Φ) (j : JN) : OutK E 0 0 (tm98_2 s j) Φ :=
 oS hE [.run 10, (.ops [(2, (.rn (iB w)))] []), (.cond true), .run 2] [2] (aP h0 <| aP h1 <| aZ)
  ho
def pm98s2_end (s : ByteArray) (j : JN) : St := ⟨[], [(.code (aF [1, 0, 1, 0, 0] Tryz.f98)), (.inLoop (aF [1, 0, 1, 0, 0] Tryz.f98)), (.inBlock 0), (.code (aF [1, 1] Tryz.f98))], mkT j [(0, (.e (.one (.v (.string s))))), (5, (.e (.agg [(.v (.string ⟨#[111, 110]⟩)), (.v (.string ⟨#[111, 102, 102]⟩)), (.v (.string ⟨#[109, 97, 121]⟩))]))), (6, (iI 3))] 13 0⟩
theorem pm98s2 (hE : EnvOk E) (s : ByteArray) (w : Bool) (h0 : ((iB ({ data := #[(109 : UInt8), (97 : UInt8), (121 : UInt8)] : ByteArray }.toList == s.toList)) : AV) = (iB w)) (h1 : (w : Bool) = false) {Φ : Res → Prop} (ho : ∀ j, OutK E 0 0 (pm98s2_end s j) Φ) (j : JN) : OutK E 0 0 (tm98_2 s j) Φ :=
 oS hE [.run 10, (.ops [(2, (.rn (iB w)))] []), (.cond false), .run 4] [0, 5, 6] (aP h0 <| aP h1 <| aZ)
  ho
def pm98x_end (j : JN) : St := ⟨[], [(.code .ret)], mkT j [(2, (iI 13))] 13 0⟩
theorem pm98x (hE : EnvOk E) (s : ByteArray) {Φ : Res → Prop} (ho : ∀ j, OutK E 0 0 (pm98x_end j) Φ) (j : JN) : OutK E 0 0 (tm98_3 s j) Φ :=
 oS hE [.run 7] [2] (ps := []) trivial
  ho
def facE1 (p : Gs) : Int := firstI [rg p.1 (-2) 2, rg p.2 (-2) 2, fI ([p.1, p.2] == [0, 0]) 6]
def facsE : List Gs → Int
 | [] => 0
 | p :: r => if facE1 p = 0 then facsE r else facE1 p
def facE (c : Int) (l : List Gs) : Int := if (l.length : Int) = c then facsE l else 2
theorem eqG (p : Gs) : EqOk E 47 [.v (.int .i64 p.1), .v (.int .i64 p.2)] [.v (.int .i64 0), .v (.int .i64 0)] ([p.1, p.2] == [0, 0]) := eqIs (t := 47) (n := 2) (by kernel_rfl) (by kernel_rfl) (by kernel_rfl) [p.1, p.2] [0, 0] rfl rfl
theorem K142 (hE : EnvOk E) (p : Gs) : COut E 0 [] 142 [.e (.agg [.v (.int .i64 p.1), .v (.int .i64 p.2)])] (iI (facE1 p)) [] :=
 cOut_clear (cOut_start Tryz.func142 rfl (pm142 hE (rg p.1 (-2) 2) (rg p.2 (-2) 2) p.1 p.2 (facE1 p) (fI ([p.1, p.2] == [0, 0]) 6) ([p.1, p.2] == [0, 0]) (K72 hE _ _ _) (K72 hE _ _ _) (eqG p) (K85 hE _ _) (lend2 _ hE 76 _ _ 31 true (K69 hE [rg p.1 (-2) 2, rg p.2 (-2) 2, fI ([p.1, p.2] == [0, 0]) 6] (by simp)) _ 1 rfl) (fun j => outK_ret (ends_ret (by kernel_rfl))) uD)) rfl
theorem fac_s {p : Gs} {r : List Gs} (h : facE1 p = 0) : facsE (p :: r) = facsE r := if_pos h
theorem fac_f {p : Gs} {r : List Gs} (h : facE1 p ≠ 0) : facsE (p :: r) = facE1 p := if_neg h
theorem l141 (hE : EnvOk E) (l : List Gs) (hm : l.length ≤ 9223372036854775807) : ∀ k i, k + i = l.length → ∀ j, OutK E 0 0 (tm141 (gD l) l.length i j) (Go.Ev.Ends E Tryz.f141 (iI (facsE (l.drop i))) [])
 | 0, i, hk, j => by
  obtain rfl : i = l.length := by omega
  rw [List.drop_length]
  exact pm141x hE (gD l) l.length l.length dF (fun j => outK_ret (ends_ret (by kernel_rfl))) j
 | k + 1, i, hk, j => by
  have hl : i < l.length := by omega
  have hx := List.getElem?_eq_getElem hl
  rw [List.drop_eq_getElem_cons hl]
  have ih := l141 hE l hm k (i + 1) (by omega)
  generalize l[i] = v at hx
  have k142 := K142 hE v
  by_cases c : facE1 v = 0
  ·rw [fac_s c]
   rw [c] at k142
   exact pm141s hE (gD l) l.length i v.1 v.2 0 dT bP rfl (g_get hx) k142 oB wQ ih j
  ·rw [fac_f c]
   exact pm141f hE (gD l) l.length i v.1 v.2 (facE1 v) dT bP rfl (g_get hx) k142 (bne_iff_ne.2 c) (fun j => outK_ret (ends_ret (by kernel_rfl))) j
theorem K141 (hE : EnvOk E) (l : List Gs) (hm : l.length ≤ 9223372036854775807) : COut E 0 [] 141 [dG l, (.e (.one (.v (.func (.func 142) #[] #[]))))] (iI (facsE l)) [] := cOut_start Tryz.func141 rfl (pm141a hE (gD l) l.length  (l141 hE l hm l.length 0 rfl) uD)
theorem K78 (hE : EnvOk E) (c : Int) (l : List Gs) (hm : l.length ≤ 9223372036854775807) : COut E 0 [] 78 [dG l, iI c] (iI (facE c l)) [] := by
 unfold facE
 by_cases h : (l.length : Int) = c
 ·rw [if_pos h]
  exact cOut_start Tryz.func78 rfl (pm78a hE (gD l) l.length c (facsE l) (bne_eq_false_iff_eq.2 h) (K141 hE l hm) (fun j => outK_ret (ends_ret (by kernel_rfl))) uD)
 ·rw [if_neg h]
  exact cOut_start Tryz.func78 rfl (pm78n hE (gD l) l.length c (bne_iff_ne.2 h) (fun j => outK_ret (ends_ret (by kernel_rfl))) uD)
theorem l72 (hE : EnvOk E) (l : List Gs) (hm : l.length ≤ 9223372036854775807) : ∀ k i, k + i = l.length → ∀ j, OutK E 0 0 (tm72 (gD l) l.length i j) (Go.Ev.Ends E Tryz.f72 (iI (facsE (l.drop i))) [])
 | 0, i, hk, j => by
  obtain rfl : i = l.length := by omega
  rw [List.drop_length]
  exact pm72x hE (gD l) l.length l.length dF (fun j => outK_ret (ends_ret (by kernel_rfl))) j
 | k + 1, i, hk, j => by
  have hl : i < l.length := by omega
  have hx := List.getElem?_eq_getElem hl
  rw [List.drop_eq_getElem_cons hl]
  have ih := l72 hE l hm k (i + 1) (by omega)
  generalize l[i] = v at hx
  have k15 := lend2 1 hE 15 _ _ 3 true (K17 hE [rg v.1 (-2) 2, rg v.2 (-2) 2, fI ([v.1, v.2] == [0, 0]) 6] (by simp)) [bK (iC [rg v.1 (-2) 2, rg v.2 (-2) 2, fI ([v.1, v.2] == [0, 0]) 6]) 3 3] 0 rfl
  by_cases c : facE1 v = 0
  ·rw [fac_s c]
   rw [show firstI [rg v.1 (-2) 2, rg v.2 (-2) 2, fI ([v.1, v.2] == [0, 0]) 6] = 0 from c] at k15
   exact pm72s hE (gD l) l.length i (rg v.1 (-2) 2) (rg v.2 (-2) 2) v.1 v.2 0 (fI ([v.1, v.2] == [0, 0]) 6) ([v.1, v.2] == [0, 0]) dT bP rfl (g_re hx) (K18 hE _ _ _) (g_im hx) (K18 hE _ _ _) (g_get hx) (eqG v) (K32 hE _ _) k15 oB wQ ih j
  ·rw [fac_f c]
   exact pm72f hE (gD l) l.length i (rg v.1 (-2) 2) (rg v.2 (-2) 2) v.1 v.2 (facE1 v) (fI ([v.1, v.2] == [0, 0]) 6) ([v.1, v.2] == [0, 0]) dT bP rfl (g_re hx) (K18 hE _ _ _) (g_im hx) (K18 hE _ _ _) (g_get hx) (eqG v) (K32 hE _ _) k15 (bne_iff_ne.2 c) (fun j => outK_ret (ends_ret (by kernel_rfl))) j
theorem K72f (hE : EnvOk E) (c : Int) (l : List Gs) (hm : l.length ≤ 9223372036854775807) : COut E 0 [] 72 [iI c, dG l] (iI (facE c l)) [] := by
 unfold facE
 by_cases h : (l.length : Int) = c
 ·rw [if_pos h]
  exact cOut_start Tryz.func72 rfl (pm72a hE (gD l) l.length c (bne_eq_false_iff_eq.2 h) (l72 hE l hm l.length 0 rfl) uD)
 ·rw [if_neg h]
  exact cOut_start Tryz.func72 rfl (pm72n hE (gD l) l.length c (bne_iff_ne.2 h) (fun j => outK_ret (ends_ret (by kernel_rfl))) uD)
def isSt (s o : ByteArray) : Bool := s.toList == o.toList
def stE (s : ByteArray) : Int := fI (!isSt s (⟨#[111, 110]⟩ : ByteArray) && !isSt s (⟨#[111, 102, 102]⟩ : ByteArray) && !isSt s (⟨#[109, 97, 121]⟩ : ByteArray)) 13
theorem st_c (s o : ByteArray) : (o.toList == s.toList) = isSt s o := BEq.comm
theorem K28s (hE : EnvOk E) (s : ByteArray) : COut E 0 [] 28 [.e (.one (.v (.string s)))] (iI (stE s)) [] := by
 unfold stE
 cases h1 : isSt s (⟨#[111, 110]⟩ : ByteArray) with
 | true => exact cOut_start Tryz.func28 rfl (pm28a hE 0 s false (congrArg iB (congrArg (!·) h1)) oB oB (K32 hE false 13) (fun j => outK_ret (ends_ret (by kernel_rfl))) uD)
 | false =>
  cases h2 : isSt s (⟨#[111, 102, 102]⟩ : ByteArray) with
  | true => exact cOut_start Tryz.func28 rfl (pm28b hE 0 s true false (congrArg iB (congrArg (!·) h1)) oB (congrArg iB (congrArg (!·) h2)) oB oB oB (K32 hE false 13) (fun j => outK_ret (ends_ret (by kernel_rfl))) uD)
  | false => exact cOut_start Tryz.func28 rfl (pm28c hE (fI (!isSt s (⟨#[109, 97, 121]⟩ : ByteArray)) 13) s true true (!isSt s (⟨#[109, 97, 121]⟩ : ByteArray)) (congrArg iB (congrArg (!·) h1)) oB (congrArg iB (congrArg (!·) h2)) oB oB oB oB (K32 hE _ 13) (fun j => outK_ret (ends_ret (by kernel_rfl))) uD)
theorem K98s (hE : EnvOk E) (s : ByteArray) : COut E 0 [] 98 [.e (.one (.v (.string s)))] (iI (stE s)) [] := by
 unfold stE
 have st : ∀ j, OutK E 0 0 (tm98_0 s j) (Go.Ev.Ends E Tryz.f98 (iI (fI (!isSt s (⟨#[111, 110]⟩ : ByteArray) && !isSt s (⟨#[111, 102, 102]⟩ : ByteArray) && !isSt s (⟨#[109, 97, 121]⟩ : ByteArray)) 13)) []) := fun j => by
  cases h1 : isSt s (⟨#[111, 110]⟩ : ByteArray) with
  | true => exact pm98t0 hE s true (congrArg iB ((st_c _ _).trans h1)) oB (fun j => outK_ret (ends_ret (by kernel_rfl))) j
  | false =>
   refine pm98s0 hE s false (congrArg iB ((st_c _ _).trans h1)) oB (fun j => ?_) j
   cases h2 : isSt s (⟨#[111, 102, 102]⟩ : ByteArray) with
   | true => exact pm98t1 hE s true (congrArg iB ((st_c _ _).trans h2)) oB (fun j => outK_ret (ends_ret (by kernel_rfl))) j
   | false =>
    refine pm98s1 hE s false (congrArg iB ((st_c _ _).trans h2)) oB (fun j => ?_) j
    cases h3 : isSt s (⟨#[109, 97, 121]⟩ : ByteArray) with
    | true => exact pm98t2 hE s true (congrArg iB ((st_c _ _).trans h3)) oB (fun j => outK_ret (ends_ret (by kernel_rfl))) j
    | false => exact pm98s2 hE s false (congrArg iB ((st_c _ _).trans h3)) oB (pm98x hE s  (fun j => outK_ret (ends_ret (by kernel_rfl)))) j
 exact cOut_start Tryz.func98 rfl (pm98a hE s  st uD)
def nmE (s : ByteArray) : Int := fI (!nameB s) 8
theorem K140 (hE : EnvOk E) (s : ByteArray) : COut E 0 [] 140 [.e (.one (.v (.string s)))] (iI (nmE s)) [] := cOut_start Tryz.func140 rfl (pm140 hE (nmE s) s (nameB s) (nK20 hE s) (K32 hE _ _) (fun j => outK_ret (ends_ret (by kernel_rfl))) uD)
theorem K145 (hE : EnvOk E) (s : ByteArray) : COut E 0 [] 145 [.e (.one (.v (.string s)))] (iI (nmE s)) [] := cOut_start Tryz.func145 rfl (pm145 hE (nmE s) s (nameB s) (nK19 hE s) (K85 hE _ _) (fun j => outK_ret (ends_ret (by kernel_rfl))) uD)
end
end Go.Proofs.YtigdchbjmnbjlaaGreatDoor
end
section
open Go Go.Ev
namespace Go.Proofs.YtigdchbjmnbjlaaGreatDoor
noncomputable section
end
end Go.Proofs.YtigdchbjmnbjlaaGreatDoor
end
section
open Go Go.Ev
namespace Go.Proofs.YtigdchbjmnbjlaaGreatDoor
noncomputable section
abbrev rD (L : List (List Int)) : List DT := L.map fun r => .s (iD r) r.length 1
abbrev hcp (L : List (List Int)) : Heap := [bK [.dp (.s (rD L) L.length 1)] 1 69]
def el (r : List Int) (k : Nat) : Int := (r[k]?).getD 0
end
end Go.Proofs.YtigdchbjmnbjlaaGreatDoor
end
section
open Go Go.Ev
namespace Go.Proofs.YtigdchbjmnbjlaaGreatDoor
noncomputable section
def x16 (x z : Int) (_j : JN) : St := startK Tryz.f27 [] [iI z, iI x]
def x71 (x z : Int) (_j : JN) : St := startK Tryz.f83 [] [iI x, iI z]
def x129 (C : List DT) (s : Nat) (x : Int) (_j : JN) : St := startK Tryz.f48 [] [(dQ C s), iI x]
def y129 (C : List DT) (s i : Nat) (x : Int) (j : JN) : St := ⟨[], [(.code (aF [1, 0, 1, 0, 0] Tryz.f48)), (.inLoop (aF [1, 0, 1, 0, 0] Tryz.f48)), (.inBlock 0), (.code (aF [1, 1] Tryz.f48))], mkT j [(0, (dQ C s)), (1, (iI x)), (5, (iN i))] 18 0⟩
def A16_f_end (_C _N _O _R : List DT) (_s _n _o _m _i : Nat) (_mg _ms x z : Int) (j : JN) : St := ⟨[], [(.code .ret)], mkT j [(4, (iI (fI (decide (x ≥ z)) (Int.ofNat (nat_lit 10)))))] 13 0⟩
theorem A16_f (hE : EnvOk E) (C N O R : List DT) (s n o m i : Nat) (mg ms x z : Int) (c0 : (decide (x < (0 : Int)) : Bool) = false) {Φ : Res → Prop} (ho : ∀ j, OutK E 0 0 (A16_f_end C N O R s n o m i mg ms x z j) Φ) (j : JN) : OutK E 0 0 (x16 x z j) Φ :=
 oS hE [.run 3, (.ops [(6, (.pk false)), (7, (.c0 (iI (fI (decide (x ≥ z)) (Int.ofNat (nat_lit 10))))))] [(3, true), (4, true), (5, true)])] [4] (ps := [(decide (x < (0 : Int)) == false : Bool) = true, (decide (x < (0 : Int)) == false : Bool) = true, (decide (x < (0 : Int)) == false : Bool) = true, (decide (x < (0 : Int)) : Bool) = false, COut E 0 [] 73 [(iB (decide (x ≥ z))), (iI 10)] (iI (fI (decide (x ≥ z)) (Int.ofNat (nat_lit 10)))) [], ([] : List Nat) = []]) ⟨(by rw [c0]; rfl), (by rw [c0]; rfl), (by rw [c0]; rfl), c0, (K32 hE _ _), rfl, trivial⟩
  ho
theorem A16_f_c (hE : EnvOk E) (C N O R : List DT) (s n o m i : Nat) (mg ms x z : Int) (c0 : (decide (x < (0 : Int)) : Bool) = false) : COut E 0 [] 27 [(iI z), (iI x)] (iI (fI (decide (x ≥ z)) (Int.ofNat (nat_lit 10)))) [] := cOut_start Tryz.func27 rfl (A16_f hE C N O R s n o m i mg ms x z c0  (fun j => outK_ret (ends_ret (by kernel_rfl))) uD)
def A16_t_end (_C _N _O _R : List DT) (_s _n _o _m _i : Nat) (_mg _ms _x _z : Int) (j : JN) : St := ⟨[], [(.code .ret)], mkT j [(4, (iI 10))] 13 0⟩
theorem A16_t (hE : EnvOk E) (C N O R : List DT) (s n o m i : Nat) (mg ms x z : Int) (c0 : (decide (x < (0 : Int)) : Bool) = true) {Φ : Res → Prop} (ho : ∀ j, OutK E 0 0 (A16_t_end C N O R s n o m i mg ms x z j) Φ) (j : JN) : OutK E 0 0 (x16 x z j) Φ :=
 oS hE [.run 3, (.ops [(6, (.pk true)), (7, (.c0 (iI 10)))] [(3, false), (4, false), (5, false)])] [4] (ps := [(decide (x < (0 : Int)) == false : Bool) = false, (decide (x < (0 : Int)) == false : Bool) = false, (decide (x < (0 : Int)) == false : Bool) = false, (decide (x < (0 : Int)) : Bool) = true, COut E 0 [] 73 [(iB true), (iI 10)] (iI 10) [], ([] : List Nat) = []]) ⟨(by rw [c0]; rfl), (by rw [c0]; rfl), (by rw [c0]; rfl), c0, (K32 hE _ _), rfl, trivial⟩
  ho
theorem A16_t_c (hE : EnvOk E) (C N O R : List DT) (s n o m i : Nat) (mg ms x z : Int) (c0 : (decide (x < (0 : Int)) : Bool) = true) : COut E 0 [] 27 [(iI z), (iI x)] (iI 10) [] := cOut_start Tryz.func27 rfl (A16_t hE C N O R s n o m i mg ms x z c0  (fun j => outK_ret (ends_ret (by kernel_rfl))) uD)
def A16_r0 (x z : Int) : Int := (bif decide (x < (0 : Int)) then 10 else (fI (decide (x ≥ z)) (Int.ofNat (nat_lit 10))))
theorem A16_all (hE : EnvOk E) (C N O R : List DT) (s n o m i : Nat) (mg ms x z : Int) : COut E 0 [] 27 [(iI z), (iI x)] (iI (A16_r0 x z)) [] := by
 rcases Bool.eq_false_or_eq_true (decide (x < (0 : Int))) with c0 | c0
 ·skip
  have e0 : A16_r0 x z = 10 := by unfold A16_r0; rw [c0]; first | done | rfl
  rw [e0]
  exact A16_t_c hE C N O R s n o m i mg ms x z c0 
 ·skip
  have e0 : A16_r0 x z = (fI (decide (x ≥ z)) (Int.ofNat (nat_lit 10))) := by unfold A16_r0; rw [c0]; first | done | rfl
  rw [e0]
  exact A16_f_c hE C N O R s n o m i mg ms x z c0 
def A71_f_end (_C _N _O _R : List DT) (_s _n _o _m _i : Nat) (_mg _ms x z : Int) (j : JN) : St := ⟨[], [(.code .ret)], mkT j [(4, (iI (fI (decide (x ≥ z)) (Int.ofNat (nat_lit 10)))))] 13 0⟩
theorem A71_f (hE : EnvOk E) (C N O R : List DT) (s n o m i : Nat) (mg ms x z : Int) (c0 : (decide (x < (0 : Int)) : Bool) = false) {Φ : Res → Prop} (ho : ∀ j, OutK E 0 0 (A71_f_end C N O R s n o m i mg ms x z j) Φ) (j : JN) : OutK E 0 0 (x71 x z j) Φ :=
 oS hE [.run 3, (.ops [(6, (.pk false)), (7, (.c0 (iI (fI (decide (x ≥ z)) (Int.ofNat (nat_lit 10))))))] [(3, true), (4, true), (5, true)])] [4] (ps := [(decide (x < (0 : Int)) == false : Bool) = true, (decide (x < (0 : Int)) == false : Bool) = true, (decide (x < (0 : Int)) == false : Bool) = true, (decide (x < (0 : Int)) : Bool) = false, COut E 0 [] 102 [(iB (decide (x ≥ z))), (iI 10)] (iI (fI (decide (x ≥ z)) (Int.ofNat (nat_lit 10)))) [], ([] : List Nat) = []]) ⟨(by rw [c0]; rfl), (by rw [c0]; rfl), (by rw [c0]; rfl), c0, (K85 hE _ _), rfl, trivial⟩
  ho
theorem A71_f_c (hE : EnvOk E) (C N O R : List DT) (s n o m i : Nat) (mg ms x z : Int) (c0 : (decide (x < (0 : Int)) : Bool) = false) : COut E 0 [] 83 [(iI x), (iI z)] (iI (fI (decide (x ≥ z)) (Int.ofNat (nat_lit 10)))) [] := cOut_start Tryz.func83 rfl (A71_f hE C N O R s n o m i mg ms x z c0  (fun j => outK_ret (ends_ret (by kernel_rfl))) uD)
def A71_t_end (_C _N _O _R : List DT) (_s _n _o _m _i : Nat) (_mg _ms _x _z : Int) (j : JN) : St := ⟨[], [(.code .ret)], mkT j [(4, (iI 10))] 13 0⟩
theorem A71_t (hE : EnvOk E) (C N O R : List DT) (s n o m i : Nat) (mg ms x z : Int) (c0 : (decide (x < (0 : Int)) : Bool) = true) {Φ : Res → Prop} (ho : ∀ j, OutK E 0 0 (A71_t_end C N O R s n o m i mg ms x z j) Φ) (j : JN) : OutK E 0 0 (x71 x z j) Φ :=
 oS hE [.run 3, (.ops [(6, (.pk true)), (7, (.c0 (iI 10)))] [(3, false), (4, false), (5, false)])] [4] (ps := [(decide (x < (0 : Int)) == false : Bool) = false, (decide (x < (0 : Int)) == false : Bool) = false, (decide (x < (0 : Int)) == false : Bool) = false, (decide (x < (0 : Int)) : Bool) = true, COut E 0 [] 102 [(iB true), (iI 10)] (iI 10) [], ([] : List Nat) = []]) ⟨(by rw [c0]; rfl), (by rw [c0]; rfl), (by rw [c0]; rfl), c0, (K85 hE _ _), rfl, trivial⟩
  ho
theorem A71_t_c (hE : EnvOk E) (C N O R : List DT) (s n o m i : Nat) (mg ms x z : Int) (c0 : (decide (x < (0 : Int)) : Bool) = true) : COut E 0 [] 83 [(iI x), (iI z)] (iI 10) [] := cOut_start Tryz.func83 rfl (A71_t hE C N O R s n o m i mg ms x z c0  (fun j => outK_ret (ends_ret (by kernel_rfl))) uD)
def A71_r0 (x z : Int) : Int := (bif decide (x < (0 : Int)) then 10 else (fI (decide (x ≥ z)) (Int.ofNat (nat_lit 10))))
theorem A71_all (hE : EnvOk E) (C N O R : List DT) (s n o m i : Nat) (mg ms x z : Int) : COut E 0 [] 83 [(iI x), (iI z)] (iI (A71_r0 x z)) [] := by
 rcases Bool.eq_false_or_eq_true (decide (x < (0 : Int))) with c0 | c0
 ·skip
  have e0 : A71_r0 x z = 10 := by unfold A71_r0; rw [c0]; first | done | rfl
  rw [e0]
  exact A71_t_c hE C N O R s n o m i mg ms x z c0 
 ·skip
  have e0 : A71_r0 x z = (fI (decide (x ≥ z)) (Int.ofNat (nat_lit 10))) := by unfold A71_r0; rw [c0]; first | done | rfl
  rw [e0]
  exact A71_f_c hE C N O R s n o m i mg ms x z c0 
def p129a_end (C : List DT) (s : Nat) (x : Int) (j : JN) : St := ⟨[], [(.code (aF [1, 0, 1, 0, 0] Tryz.f48)), (.inLoop (aF [1, 0, 1, 0, 0] Tryz.f48)), (.inBlock 0), (.code (aF [1, 1] Tryz.f48))], mkT j [(0, (dQ C s)), (1, (iI x)), (5, (iI 0))] 18 0⟩
theorem p129a (hE : EnvOk E) (C : List DT) (s : Nat) (x : Int) {Φ : Res → Prop} (ho : ∀ j, OutK E 0 0 (p129a_end C s x j) Φ) (j : JN) : OutK E 0 0 (x129 C s x j) Φ :=
 oS hE [.run 7] [0, 1, 5] (ps := []) trivial
  ho
def p129s_end (C : List DT) (s i : Nat) (x : Int) (j : JN) : St := ⟨[], [(.code (aF [1, 0, 1, 0, 0] Tryz.f48)), (.inLoop (aF [1, 0, 1, 0, 0] Tryz.f48)), (.inBlock 0), (.code (aF [1, 1] Tryz.f48))], mkT j [(0, (dQ C s)), (1, (iI x)), (5, (iN (i + 1)))] 18 0⟩
theorem p129s (hE : EnvOk E) (C : List DT) (s i : Nat) (x z : Int) (h0 : (decide (Int.ofNat i < (↑s : Int)) : Bool) = true) (h1 : (0 : Int) ≤ Int.ofNat i ∧ Int.ofNat i < (↑s : Int)) (h2 : ((Int.ofNat i).toNat * nat_lit 1 : Nat) = i) (h3 : (getL C i : Option DT) = (.some (.v (.int .i64 z)))) (h4 : (z == x : Bool) = false) (h5 : ((iI (wrapF IntKind.i64 (Int.ofNat i + (1 : Int)))) : AV) = (iN (i + 1))) {Φ : Res → Prop} (ho : ∀ j, OutK E 0 0 (p129s_end C s i x j) Φ) (j : JN) : OutK E 0 0 (y129 C s i x j) Φ :=
 oS hE [.run 2, (.ops [(2, (.d .len))] []), (.cond true), .run 4, (.ops [(3, (.d (.ld (.v (.int .i64 z))))), (2, (.d (.ix i)))] []), (.cond false), .run 2, (.ops [(1, (.rn (iN (i + 1))))] []), .run 1] [0, 1, 5] (aQ h0 h1 h2 h3 <| aP h4 <| aP h5 <| aZ)
  ho
def p129t_end (j : JN) : St := ⟨[], [(.code .ret), (.inBlock 1), (.code (aF [1, 0, 1, 0, 0, 1, 1] Tryz.f48)), (.inLoop (aF [1, 0, 1, 0, 0] Tryz.f48)), (.inBlock 0), (.code (aF [1, 1] Tryz.f48))], mkT j [(4, (iB true))] 18 0⟩
theorem p129t (hE : EnvOk E) (C : List DT) (s i : Nat) (x z : Int) (h0 : (decide (Int.ofNat i < (↑s : Int)) : Bool) = true) (h1 : (0 : Int) ≤ Int.ofNat i ∧ Int.ofNat i < (↑s : Int)) (h2 : ((Int.ofNat i).toNat * nat_lit 1 : Nat) = i) (h3 : (getL C i : Option DT) = (.some (.v (.int .i64 z)))) (h4 : (z == x : Bool) = true) {Φ : Res → Prop} (ho : ∀ j, OutK E 0 0 (p129t_end j) Φ) (j : JN) : OutK E 0 0 (y129 C s i x j) Φ :=
 oS hE [.run 2, (.ops [(2, (.d .len))] []), (.cond true), .run 4, (.ops [(3, (.d (.ld (.v (.int .i64 z))))), (2, (.d (.ix i)))] []), (.cond true), .run 2] [4] (aQ h0 h1 h2 h3 <| aP h4 <| aZ)
  ho
def p129x_end (j : JN) : St := ⟨[], [(.code .ret)], mkT j [(4, (iB false))] 18 0⟩
theorem p129x (hE : EnvOk E) (C : List DT) (s i : Nat) (x : Int) (h0 : (decide (Int.ofNat i < (↑s : Int)) : Bool) = false) {Φ : Res → Prop} (ho : ∀ j, OutK E 0 0 (p129x_end j) Φ) (j : JN) : OutK E 0 0 (y129 C s i x j) Φ :=
 oS hE [.run 2, (.ops [(2, (.d .len))] []), (.cond false), .run 3] [4] (aP h0 <| aZ)
  ho
def ixE (x n : Int) : Int := if x < 0 ∨ n ≤ x then 10 else 0
theorem ix_of (x n : Int) : (bif decide (x < 0) then 10 else fI (decide (x ≥ n)) 10) = ixE x n := by
 unfold ixE
 by_cases h : x < 0
 ·rw [decide_eq_true h, if_pos (.inl h)]; rfl
 ·rw [decide_eq_false h]
  show fI (decide (x ≥ n)) 10 = _
  unfold fI
  by_cases g : n ≤ x
  ·rw [if_pos (decide_eq_true g), if_pos (.inr g)]
  ·rw [if_neg (by simpa using g), if_neg (by omega)]
theorem K16 (hE : EnvOk E) (n x : Int) : COut E 0 [] 27 [iI n, iI x] (iI (ixE x n)) [] := by
 have h := A16_all hE [] [] [] [] 0 0 0 0 0 0 0 x (n)
 rw [show A16_r0 x n = ixE x n from ix_of x n] at h
 exact h
theorem K71 (hE : EnvOk E) (x n : Int) : COut E 0 [] 83 [iI x, iI n] (iI (ixE x n)) [] := by
 have h := A71_all hE [] [] [] [] 0 0 0 0 0 0 0 x (n)
 rw [show A71_r0 x n = ixE x n from ix_of x n] at h
 exact h
theorem l129 (hE : EnvOk E) (xs : List Int) (x : Int) (hm : xs.length ≤ 100000) : ∀ k i, k + i = xs.length → ∀ j, OutK E 0 0 (y129 (iD xs) xs.length i x j) (Go.Ev.Ends E Tryz.f48 (iB (decide (x ∈ xs.drop i))) [])
 | 0, i, hi, j => by
  obtain rfl : i = xs.length := by omega
  rw [List.drop_length, decide_eq_false (by simp)]
  exact p129x hE (iD xs) xs.length xs.length x dF (fun j => outK_ret (ends_ret (by kernel_rfl))) j
 | k + 1, i, hi, j => by
  have hl : i < xs.length := by omega
  have hx : xs[i]? = some xs[i] := List.getElem?_eq_getElem hl
  have ih := l129 hE xs x hm k (i + 1) (by omega)
  rw [List.drop_eq_getElem_cons hl]
  generalize xs[i] = z at hx
  by_cases h : z = x
  ·rw [decide_eq_true (show x ∈ z :: xs.drop (i + 1) by rw [h]; exact List.mem_cons_self ..)]
   exact p129t hE (iD xs) xs.length i x z dT bP (Nat.mul_one _) (gI hx) (beq_iff_eq.2 h) (fun j => outK_ret (ends_ret (by kernel_rfl))) j
  ·rw [show decide (x ∈ z :: xs.drop (i + 1)) = decide (x ∈ xs.drop (i + 1)) from decide_eq_decide.2 ⟨fun a => (List.mem_cons.1 a).elim (fun e => absurd e.symm h) id, List.mem_cons_of_mem _⟩]
   exact p129s hE (iD xs) xs.length i x z dT bP (Nat.mul_one _) (gI hx) (beq_eq_false_iff_ne.2 h) wQ ih j
theorem K129 (hE : EnvOk E) (xs : List Int) (x : Int) (hm : xs.length ≤ 100000) : COut E 0 [] 48 [dI xs, iI x] (iB (decide (x ∈ xs))) [] := cOut_start Tryz.func48 rfl (p129a hE (iD xs) xs.length x (l129 hE xs x hm xs.length 0 rfl) uD)
def shortT (sg : List Int) (ns M : List (List Int)) (nt : List Int) : Prop := (∀ r ∈ M, r.length ≤ 9) ∧ sg.length ≤ 9 ∧ ns.length ≤ 9 ∧ nt.length ≤ 9
instance (sg : List Int) (ns M : List (List Int)) (nt : List Int) : Decidable (shortT sg ns M nt) := by unfold shortT; infer_instance
end
end Go.Proofs.YtigdchbjmnbjlaaGreatDoor
end
section
open Go Go.Ev
namespace Go.Proofs.YtigdchbjmnbjlaaGreatDoor
noncomputable section
end
end Go.Proofs.YtigdchbjmnbjlaaGreatDoor
end
section
open Go Go.Ev
namespace Go.Proofs.YtigdchbjmnbjlaaGreatDoor
noncomputable section
end
end Go.Proofs.YtigdchbjmnbjlaaGreatDoor
end
section
open Go Go.Ev
namespace Go.Proofs.YtigdchbjmnbjlaaGreatDoor
noncomputable section
end
end Go.Proofs.YtigdchbjmnbjlaaGreatDoor
end
section
open Go Go.Ev
namespace Go.Proofs.YtigdchbjmnbjlaaGreatDoor
noncomputable section
def orE (a b : Int) : Int := if a = 0 then b else a
theorem orE_z {a b : Int} (h : a = 0) : orE a b = b := if_pos h
theorem orE_n {a b : Int} (h : a ≠ 0) : orE a b = a := if_neg h
theorem orE_0 (a : Int) : orE a 0 = a := by unfold orE; split <;> simp_all
theorem firstI_or (a : Int) (l : List Int) : firstI (a :: l) = orE a (firstI l) := rfl
end
end Go.Proofs.YtigdchbjmnbjlaaGreatDoor
end
