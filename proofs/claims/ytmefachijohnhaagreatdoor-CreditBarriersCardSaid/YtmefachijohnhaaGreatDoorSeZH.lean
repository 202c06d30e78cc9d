/-
  Part of the proof: SeWd, SeOd, SeOa.
-/
import Derived.Test.YtmefachijohnhaaGreatDoorSeZG

/-! SeWd -/
section
open Go Go.Ev
namespace Go.Proofs.YtmefachijohnhaaGreatDoor
noncomputable section
set_option maxRecDepth 100000
set_option maxHeartbeats 20000000
abbrev ztWd0 : List Item := [.code (atC [1, 0, 1, 0, 0] (bodyOf Tryz.f76)), .inLoop (atC [1, 0, 1, 0, 0] (bodyOf Tryz.f76)), .inBlock 0, .code (atC [1, 1] (bodyOf Tryz.f76))]
abbrev ztWd1 : List Item := [.code (atC [1, 0, 1, 0, 0] (bodyOf Tryz.f82)), .inLoop (atC [1, 0, 1, 0, 0] (bodyOf Tryz.f82)), .inBlock 0, .code (atC [1, 1] (bodyOf Tryz.f82))]
def s76 (C : List DT) (n _i : Nat) (_e _z : Int) (_j : Nat → Value) : St := startK Tryz.f76 [] [.e (.one (.dp (.s C n 1)))]
def s82 (C : List DT) (n _i : Nat) (_e _z : Int) (_j : Nat → Value) : St := startK Tryz.f82 [] [.e (.one (.dp (.s C n 1)))]
def s16 (C : List DT) (n _i : Nat) (_e _z : Int) (_j : Nat → Value) : St := startK Tryz.f16 [] [.e (.one (.dp (.s C n 1)))]
def q76 (C : List DT) (n i : Nat) (_e _z : Int) (j : Nat → Value) : St := ⟨[], ztWd0, mkT j [(5, .e (.one (.dp (.s C n 1)))), (6, (iI (Int.ofNat n))), (7, (iI (Int.ofNat i)))] 15 0⟩
def q82 (C : List DT) (n i : Nat) (_e _z : Int) (j : Nat → Value) : St := ⟨[], ztWd1, mkT j [(0, .e (.one (.dp (.s C n 1)))), (3, (iI (Int.ofNat i)))] 19 0⟩
def p76a_end (C : List DT) (n _i : Nat) (_e _z : Int) (j : Nat → Value) : St := ⟨[], ztWd0, mkT j [(5, .e (.one (.dp (.s C n 1)))), (6, (iI (Int.ofNat n))), (7, (iI 0))] 15 0⟩
theorem p76a (hE : EnvOk E) (C : List DT) (n i : Nat) (e z : Int) : Sg 0 0 (s76 C n i e z) (p76a_end C n i e z) := fun ho j =>
 oS hE [.run 4, .ops [(1, .d .len)] [], .run 2] [5, 6, 7] (ps := []) trivial
  ho
def p82a_end (C : List DT) (n _i : Nat) (_e _z : Int) (j : Nat → Value) : St := ⟨[], ztWd1, mkT j [(0, .e (.one (.dp (.s C n 1)))), (3, (iI 0))] 19 0⟩
theorem p82a (hE : EnvOk E) (C : List DT) (n i : Nat) (e z : Int) : Sg 0 0 (s82 C n i e z) (p82a_end C n i e z) := fun ho j =>
 oS hE [.run 7] [0, 3] (ps := []) trivial
  ho
def p16_end (_C : List DT) (_n _i : Nat) (e _z : Int) (j : Nat → Value) : St := ⟨[], [.code .ret], mkT j [(2, (iI e))] 5 0⟩
theorem p16 (hE : EnvOk E) (C : List DT) (n i : Nat) (e z : Int) (h0 : COut E 0 [] 82 [.e (.one (.dp (.s C n 1)))] (iI e) []) : Sg 0 0 (s16 C n i e z) (p16_end C n i e z) := fun ho j =>
 oS hE [.run 3, .ops [(1, .c0 (iI e))] []] [2] (aP h0 <| aN <| aZ)
  ho
def p76s_end (C : List DT) (n i : Nat) (_e _z : Int) (j : Nat → Value) : St := ⟨[], ztWd0, mkT j [(5, .e (.one (.dp (.s C n 1)))), (6, (iI (Int.ofNat n))), (7, (iI (Int.ofNat (i + 1))))] 15 0⟩
theorem p76s (hE : EnvOk E) (C : List DT) (n i : Nat) (e z : Int) (h0 : (decide (Int.ofNat i < Int.ofNat n) : Bool) = true) (h1 : (0 : Int) ≤ Int.ofNat i ∧ Int.ofNat i < (↑n : Int)) (h2 : ((Int.ofNat i).toNat * nat_lit 1 : Nat) = i) (h3 : (getL C i : Option DT) = (.some (.v (.int .i64 z)))) (h4 : (z != (0 : Int) : Bool) = false) (h5 : ((iI (wrapF IntKind.i64 (Int.ofNat i + (1 : Int)))) : AV) = (iI (Int.ofNat (i + 1)))) : Sg 0 0 (q76 C n i e z) (p76s_end C n i e z) := fun ho j =>
 oS hE [.run 3, .cond true, .run 4, .ops [(1, .d (.ld (.v (.int .i64 z)))), (0, .d (.ix i))] [], .run 2, .cond false, .run 2, .ops [(0, .rn (iI (Int.ofNat (i + 1))))] [], .run 1] [5, 6, 7] (aP h0 <| aP h1 <| aP h2 <| aP h3 <| aP h4 <| aP h5 <| aZ)
  ho
def p76e_end (_C : List DT) (_n _i : Nat) (_e z : Int) (j : Nat → Value) : St := ⟨[], [.code .ret, .inBlock 1, .code (atC [1, 0, 1, 0, 0, 1, 1, 1] (bodyOf Tryz.f76)), .inLoop (atC [1, 0, 1, 0, 0] (bodyOf Tryz.f76)), .inBlock 0, .code (atC [1, 1] (bodyOf Tryz.f76))], mkT j [(2, (iI z))] 15 0⟩
theorem p76e (hE : EnvOk E) (C : List DT) (n i : Nat) (e z : Int) (h0 : (decide (Int.ofNat i < Int.ofNat n) : Bool) = true) (h1 : (0 : Int) ≤ Int.ofNat i ∧ Int.ofNat i < (↑n : Int)) (h2 : ((Int.ofNat i).toNat * nat_lit 1 : Nat) = i) (h3 : (getL C i : Option DT) = (.some (.v (.int .i64 z)))) (h4 : (z != (0 : Int) : Bool) = true) : Sg 0 0 (q76 C n i e z) (p76e_end C n i e z) := fun ho j =>
 oS hE [.run 3, .cond true, .run 4, .ops [(1, .d (.ld (.v (.int .i64 z)))), (0, .d (.ix i))] [], .run 2, .cond true, .run 2] [2] (aP h0 <| aP h1 <| aP h2 <| aP h3 <| aP h4 <| aZ)
  ho
def p76x_end (_C : List DT) (_n _i : Nat) (_e _z : Int) (j : Nat → Value) : St := ⟨[], [.code .ret], mkT j [(2, (iI 0))] 15 0⟩
theorem p76x (hE : EnvOk E) (C : List DT) (n i : Nat) (e z : Int) (h0 : (decide (Int.ofNat i < Int.ofNat n) : Bool) = false) : Sg 0 0 (q76 C n i e z) (p76x_end C n i e z) := fun ho j =>
 oS hE [.run 3, .cond false, .run 3] [2] (aP h0 <| aZ)
  ho
def p82s_end (C : List DT) (n i : Nat) (_e _z : Int) (j : Nat → Value) : St := ⟨[], ztWd1, mkT j [(0, .e (.one (.dp (.s C n 1)))), (3, (iI (Int.ofNat (i + 1))))] 19 0⟩
theorem p82s (hE : EnvOk E) (C : List DT) (n i : Nat) (e z : Int) (h0 : (decide (Int.ofNat i < (↑n : Int)) : Bool) = true) (h1 : (0 : Int) ≤ Int.ofNat i ∧ Int.ofNat i < (↑n : Int)) (h2 : ((Int.ofNat i).toNat * nat_lit 1 : Nat) = i) (h3 : (getL C i : Option DT) = (.some (.v (.int .i64 z)))) (h4 : (z != (0 : Int) : Bool) = false) (h5 : ((iI (wrapF IntKind.i64 (Int.ofNat i + (1 : Int)))) : AV) = (iI (Int.ofNat (i + 1)))) : Sg 0 0 (q82 C n i e z) (p82s_end C n i e z) := fun ho j =>
 oS hE [.run 2, .ops [(2, .d .len)] [], .cond true, .run 4, .ops [(3, .d (.ld (.v (.int .i64 z)))), (2, .d (.ix i))] [], .cond false, .run 2, .ops [(1, .rn (iI (Int.ofNat (i + 1))))] [], .run 1] [0, 3] (aP h0 <| aP h1 <| aP h2 <| aP h3 <| aP h4 <| aP h5 <| aZ)
  ho
def p82e_end (_C : List DT) (_n _i : Nat) (_e z : Int) (j : Nat → Value) : St := ⟨[], [.code .ret, .inBlock 1, .code (atC [1, 0, 1, 0, 0, 1, 1] (bodyOf Tryz.f82)), .inLoop (atC [1, 0, 1, 0, 0] (bodyOf Tryz.f82)), .inBlock 0, .code (atC [1, 1] (bodyOf Tryz.f82))], mkT j [(2, (iI z))] 19 0⟩
theorem p82e (hE : EnvOk E) (C : List DT) (n i : Nat) (e z : Int) (h0 : (decide (Int.ofNat i < (↑n : Int)) : Bool) = true) (h1 : (0 : Int) ≤ Int.ofNat i ∧ Int.ofNat i < (↑n : Int)) (h2 : ((Int.ofNat i).toNat * nat_lit 1 : Nat) = i) (h3 : (getL C i : Option DT) = (.some (.v (.int .i64 z)))) (h4 : (z != (0 : Int) : Bool) = true) (h5 : (0 : Int) ≤ Int.ofNat i ∧ Int.ofNat i < (↑n : Int)) (h6 : ((Int.ofNat i).toNat * nat_lit 1 : Nat) = i) (h7 : (getL C i : Option DT) = (.some (.v (.int .i64 z)))) : Sg 0 0 (q82 C n i e z) (p82e_end C n i e z) := fun ho j =>
 oS hE [.run 2, .ops [(2, .d .len)] [], .cond true, .run 4, .ops [(3, .d (.ld (.v (.int .i64 z)))), (2, .d (.ix i))] [], .cond true, .run 1, .ops [(3, .d (.ld (.v (.int .i64 z)))), (2, .d (.ix i))] []] [2] (aP h0 <| aP h1 <| aP h2 <| aP h3 <| aP h4 <| aP h5 <| aP h6 <| aP h7 <| aZ)
  ho
def p82x_end (_C : List DT) (_n _i : Nat) (_e _z : Int) (j : Nat → Value) : St := ⟨[], [.code .ret], mkT j [(2, (iI 0))] 19 0⟩
theorem p82x (hE : EnvOk E) (C : List DT) (n i : Nat) (e z : Int) (h0 : (decide (Int.ofNat i < (↑n : Int)) : Bool) = false) : Sg 0 0 (q82 C n i e z) (p82x_end C n i e z) := fun ho j =>
 oS hE [.run 2, .ops [(2, .d .len)] [], .cond false, .run 3] [2] (aP h0 <| aZ)
  ho
def firstI : List Int → Int
 | [] => 0
 | x :: r => if x = 0 then firstI r else x
theorem l76 (hE : EnvOk E) (xs : List Int) (n : Nat) (hn : xs.length = n) (hm : n ≤ 4000000) : ∀ m i, m + i = n → ∀ j, OutK E 0 0 (q76 (iD xs) (n) (i) 0 0 j) (Go.Ev.Ends E Tryz.f76 (iI (firstI (xs.drop i))) [])
 | 0, i, hk, j => by
  rw [List.drop_eq_nil_of_le (by omega)]
  exact p76x hE (iD xs) n i 0 0 (decide_eq_false (by (try simp only [Int.ofNat_eq_natCast]); omega)) (fun j => outK_ret (ends_ret (by kernel_rfl))) j
 | m + 1, i, hk, j => by
  have hl : i < xs.length := by omega
  have hx : xs[i]? = some xs[i] := List.getElem?_eq_getElem hl
  rw [List.drop_eq_getElem_cons hl]
  generalize xs[i] = z at hx
  have hu : firstI (z :: xs.drop (i + 1)) = if z = 0 then firstI (xs.drop (i + 1)) else z := rfl
  rw [hu]
  by_cases h : z = 0
  ·rw [if_pos h]
   exact p76s hE (iD xs) n i 0 z (decide_eq_true (by (try simp only [Int.ofNat_eq_natCast]); omega)) ⟨by (try simp only [Int.ofNat_eq_natCast]); omega, by (try simp only [Int.ofNat_eq_natCast]); omega⟩ (Nat.mul_one _) (getI hx) (by rw [h]; rfl) (iIe (by (try simp only [Int.ofNat_eq_natCast]); rw [wrap_id (by omega) (by omega)]; try omega)) (l76 hE xs n hn hm m (i + 1) (by omega)) j
  ·rw [if_neg h]
   exact p76e hE (iD xs) n i 0 z (decide_eq_true (by (try simp only [Int.ofNat_eq_natCast]); omega)) ⟨by (try simp only [Int.ofNat_eq_natCast]); omega, by (try simp only [Int.ofNat_eq_natCast]); omega⟩ (Nat.mul_one _) (getI hx) (bne_iff_ne.2 h) (fun j => outK_ret (ends_ret (by kernel_rfl))) j
theorem K76 (hE : EnvOk E) (xs : List Int) (hm : xs.length ≤ 4000000) : COut E 0 [] 76 [dI xs] (iI (firstI xs)) [] :=
 cOut_start Tryz.func76 rfl (p76a hE (iD xs) (xs.length) 0 0 0 (l76 hE xs xs.length rfl hm xs.length 0 rfl) fun _ => undef)
theorem l82 (hE : EnvOk E) (xs : List Int) (n : Nat) (hn : xs.length = n) (hm : n ≤ 4000000) : ∀ m i, m + i = n → ∀ j, OutK E 0 0 (q82 (iD xs) (n) (i) 0 0 j) (Go.Ev.Ends E Tryz.f82 (iI (firstI (xs.drop i))) [])
 | 0, i, hk, j => by
  rw [List.drop_eq_nil_of_le (by omega)]
  exact p82x hE (iD xs) n i 0 0 (decide_eq_false (by (try simp only [Int.ofNat_eq_natCast]); omega)) (fun j => outK_ret (ends_ret (by kernel_rfl))) j
 | m + 1, i, hk, j => by
  have hl : i < xs.length := by omega
  have hx : xs[i]? = some xs[i] := List.getElem?_eq_getElem hl
  rw [List.drop_eq_getElem_cons hl]
  generalize xs[i] = z at hx
  have hu : firstI (z :: xs.drop (i + 1)) = if z = 0 then firstI (xs.drop (i + 1)) else z := rfl
  rw [hu]
  by_cases h : z = 0
  ·rw [if_pos h]
   exact p82s hE (iD xs) n i 0 z (decide_eq_true (by (try simp only [Int.ofNat_eq_natCast]); omega)) ⟨by (try simp only [Int.ofNat_eq_natCast]); omega, by (try simp only [Int.ofNat_eq_natCast]); omega⟩ (Nat.mul_one _) (getI hx) (by rw [h]; rfl) (iIe (by (try simp only [Int.ofNat_eq_natCast]); rw [wrap_id (by omega) (by omega)]; try omega)) (l82 hE xs n hn hm m (i + 1) (by omega)) j
  ·rw [if_neg h]
   exact p82e hE (iD xs) n i 0 z (decide_eq_true (by (try simp only [Int.ofNat_eq_natCast]); omega)) ⟨by (try simp only [Int.ofNat_eq_natCast]); omega, by (try simp only [Int.ofNat_eq_natCast]); omega⟩ (Nat.mul_one _) (getI hx) (bne_iff_ne.2 h) ⟨by (try simp only [Int.ofNat_eq_natCast]); omega, by (try simp only [Int.ofNat_eq_natCast]); omega⟩ (Nat.mul_one _) (getI hx) (fun j => outK_ret (ends_ret (by kernel_rfl))) j
theorem K82 (hE : EnvOk E) (xs : List Int) (hm : xs.length ≤ 4000000) : COut E 0 [] 82 [dI xs] (iI (firstI xs)) [] :=
 cOut_start Tryz.func82 rfl (p82a hE (iD xs) (xs.length) 0 0 0 (l82 hE xs xs.length rfl hm xs.length 0 rfl) fun _ => undef)
theorem K16 (hE : EnvOk E) (xs : List Int) (hm : xs.length ≤ 4000000) : COut E 0 [] 16 [dI xs] (iI (firstI xs)) [] :=
 cOut_start Tryz.func16 rfl (p16 hE (iD xs) (xs.length) 0 (firstI xs) 0 (K82 hE xs hm) (fun j => outK_ret (ends_ret (by kernel_rfl))) fun _ => undef)
def intsA : List AC → Option (List Int) := List.rec (motive := fun _ => Option (List Int)) (some []) fun c _ ih => match c, ih with
 | .v (.int .i64 z), some l => some (z :: l)
 | _, _ => none
theorem intsA_eq : ∀ {l : List AC} {zs : List Int}, intsA l = some zs → l = (iD zs).map DT.ac
 | [], zs, h => by
  have h : some [] = some zs := h
  simp only [Option.some.injEq] at h
  rw [← h]; rfl
 | c :: l, zs, h => by
  have h : (match (generalizing := false) c, intsA l with | .v (.int .i64 z), some l => some (z :: l) | _, _ => none) = some zs := h
  split at h
  ·rename_i z r hr _
   simp only [Option.some.injEq] at h
   rw [← h, intsA_eq hr]; rfl
  ·simp at h
def readI (h : Heap) (i n : Nat) : Option (List Int) := match getL h i with
 | some (some a) => (match a.ext, Nat.beq a.n n && Nat.beq (lenL a.cells) n with | .cells, true => intsA a.cells | _, _ => none)
 | _ => none
theorem lendF {f : FuncId} (hE : EnvOk E) (K : ∀ xs : List Int, xs.length ≤ 4000000 → COut E 0 [] f [dI xs] (iI (firstI xs)) []) (h : Heap) (i n : Nat) (l : List Int) (hb : readI h i n = some l) (hn : Nat.ble n 100 = true) : COut E (lenL h) h f [.e (.one (.slc i 0 n 1 n true))] (iI (firstI l)) h := by
 unfold readI at hb
 split at hb
 ·rename_i a ha
  split at hb
  ·rename_i hx hc
   simp only [Bool.and_eq_true] at hc
   have e1 := Nat.eq_of_beq_eq_true hc.1
   have e2 := Nat.eq_of_beq_eq_true hc.2
   have e3 := intsA_eq hb
   have e4 : l.length = n := by
    have := congrArg List.length e3
    simp only [lenL_eq] at e2
    simp at this
    omega
   have hle : n ≤ 100 := by simpa using hn
   obtain ⟨cells, an, el, fl, ext⟩ := a
   simp only at e1 e3 hx
   subst e3 hx
   have := lend2 (lenL h) hE f l (firstI l) el fl (K l (by omega)) h i (by rw [ha, e1, e4])
   rw [e4] at this
   exact this
  ·simp at hb
 ·simp at hb
theorem C76 (hE : EnvOk E) (h : Heap) (i n : Nat) (l : List Int) (hb : readI h i n = some l) (hn : Nat.ble n 100 = true) : COut E (lenL h) h 76 [.e (.one (.slc i 0 n 1 n true))] (iI (firstI l)) h := lendF hE (fun xs => K76 hE xs) h i n l hb hn
theorem C16 (hE : EnvOk E) (h : Heap) (i n : Nat) (l : List Int) (hb : readI h i n = some l) (hn : Nat.ble n 100 = true) : COut E (lenL h) h 16 [.e (.one (.slc i 0 n 1 n true))] (iI (firstI l)) h := lendF hE (fun xs => K16 hE xs) h i n l hb hn
end
end Go.Proofs.YtmefachijohnhaaGreatDoor
end

/-! SeOd -/
section
open Go Go.Ev
namespace Go.Proofs.YtmefachijohnhaaGreatDoor
noncomputable section
abbrev wP : ByteArray := ⟨#[112, 114, 111, 116, 101, 99, 116, 101, 100]⟩
abbrev wC : ByteArray := ⟨#[111, 102, 102, 105, 99, 101, 115]⟩
abbrev wO : ByteArray := ⟨#[111, 102, 102]⟩
abbrev vO : Value := .func (.func 169) #[] #[]
abbrev vP : Value := .func (.func 170) #[] #[]
abbrev vC : Value := .func (.func 171) #[] #[]
abbrev bxS (a b : Bool) (C : List DT) (n ty : Nat) : Option AB := .some ⟨[.v (.bool a), .v (.bool b), .dp (.s C n 2)], 3, ty, true, .cells⟩
abbrev agS (a b : Bool) (C : List DT) (n : Nat) : AV := .e (.agg [.v (.bool a), .v (.bool b), .dp (.s C n 2)])
abbrev bxZ (ty : Nat) : Option AB := .some ⟨[.v (.bool false), .v (.bool false), .v (.slice none 0 0)], 3, ty, true, .cells⟩
structure Od where
 o : ByteArray
 t : Int
def Od.d (x : Od) : List DT := [.v (.string x.o), .v (.int .i64 x.t)]
theorem Od.len (x : Od) : x.d.length = 2 := rfl
def odD (l : List Od) : List DT := l.flatMap Od.d
def odC (l : List Od) : List AC := (odD l).map DT.ac
abbrev dOd (l : List Od) : AV := .e (.one (.dp (.s (odD l) l.length 2)))
abbrev aOd (x : Od) : AV := .e (.agg [.v (.string x.o), .v (.int .i64 x.t)])
abbrev sw (a b : Bool) (l : List Od) : AV := .e (.agg [.v (.bool a), .v (.bool b), .dp (.s (odD l) l.length 2)])
theorem odD_len (l : List Od) : (odD l).length = l.length * 2 := rows_len Od.len l
theorem od_get {l : List Od} {i : Nat} {x : Od} (h : l[i]? = some x) : takeL (dropL (odD l) (i.mul 2)) 2 = some (Od.d x) := rows_get Od.len h
theorem od_o {l : List Od} {i : Nat} {x : Od} (h : l[i]? = some x) : getL (odD l) (i.mul 2) = some (.v (.string x.o)) := rows_part (o := 0) Od.len h rfl
theorem od_t {l : List Od} {i : Nat} {x : Od} (h : l[i]? = some x) : getL (odD l) (i.mul 2 + 1) = some (.v (.int .i64 x.t)) := rows_part (o := 1) Od.len h rfl
def eqS (x y : ByteArray) : Bool := x.toList == y.toList
end
end Go.Proofs.YtmefachijohnhaaGreatDoor
end

/-! SeOa -/
section
open Go Go.Ev
namespace Go.Proofs.YtmefachijohnhaaGreatDoor
noncomputable section
set_option maxRecDepth 100000
set_option maxHeartbeats 20000000
abbrev ztOa0 : List Item := [.code (atC [1, 0, 1, 1, 0, 1, 0, 0] (bodyOf Tryz.f117)), .inLoop (atC [1, 0, 1, 1, 0, 1, 0, 0] (bodyOf Tryz.f117)), .inBlock 0, .code (atC [1, 0, 1, 1, 1] (bodyOf Tryz.f117)), .inScope (atC [1, 0] (bodyOf Tryz.f117))]
abbrev ztOa3 : List Item := [.code (atC [1, 1, 0, 1, 0, 0] (bodyOf Tryz.f124)), .inLoop (atC [1, 1, 0, 1, 0, 0] (bodyOf Tryz.f124)), .inBlock 0, .code (atC [1, 1, 1] (bodyOf Tryz.f124))]
abbrev ztOa4 : List Item := [.code (atC [1, 1, 0, 1, 0, 0] (bodyOf Tryz.f123)), .inLoop (atC [1, 1, 0, 1, 0, 0] (bodyOf Tryz.f123)), .inBlock 0, .code (atC [1, 1, 1] (bodyOf Tryz.f123))]
abbrev ztOa5 : List Item := [.code (atC [1, 1, 0, 1, 0, 0] (bodyOf Tryz.f51)), .inLoop (atC [1, 1, 0, 1, 0, 0] (bodyOf Tryz.f51)), .inBlock 0, .code (atC [1, 1, 1] (bodyOf Tryz.f51))]
abbrev ztOa6 : List Item := [.code (atC [1, 1, 0, 1, 0, 0] (bodyOf Tryz.f53)), .inLoop (atC [1, 1, 0, 1, 0, 0] (bodyOf Tryz.f53)), .inBlock 0, .code (atC [1, 1, 1] (bodyOf Tryz.f53))]
def s115 (_C _C2 : List DT) (_n _m _i _k _N : Nat) (o _p : ByteArray) (_t _u _x _y _z _e _f _g _h : Int) (_a _b _w _v : Bool) (_D _Y : List AC) (_j : Nat → Value) : St := startK Tryz.f115 [] [.e (.one (.v (.string o)))]
def s106 (_C _C2 : List DT) (_n _m _i _k _N : Nat) (_o _p : ByteArray) (_t _u x _y _z _e _f _g _h : Int) (_a _b _w _v : Bool) (_D _Y : List AC) (_j : Nat → Value) : St := startK Tryz.f106 [] [iI x]
def s46 (_C _C2 : List DT) (_n _m _i _k _N : Nat) (_o _p : ByteArray) (_t _u x _y _z _e _f _g _h : Int) (_a _b _w _v : Bool) (_D _Y : List AC) (_j : Nat → Value) : St := startK Tryz.f46 [] [iI x]
def s116 (C _C2 : List DT) (n _m _i _k _N : Nat) (_o _p : ByteArray) (_t _u x _y _z _e _f _g _h : Int) (_a _b _w _v : Bool) (_D _Y : List AC) (_j : Nat → Value) : St := startK Tryz.f116 [] [.e (.one (.dp (.s C n 2))), iI x]
def s120 (C _C2 : List DT) (n _m _i _k _N : Nat) (_o _p : ByteArray) (_t _u x _y _z _e _f _g _h : Int) (a b _w _v : Bool) (_D _Y : List AC) (_j : Nat → Value) : St := startK Tryz.f120 [] [.e (.agg [.v (.bool a), .v (.bool b), .dp (.s C n 2)]), iI x]
def s117 (C _C2 : List DT) (n _m _i _k _N : Nat) (_o p : ByteArray) (_t _u _x _y _z _e _f _g _h : Int) (_a _b _w _v : Bool) (_D _Y : List AC) (_j : Nat → Value) : St := startK Tryz.f117 [] [.e (.one (.dp (.s C n 2))), .e (.one (.v (.string p)))]
def s51 (C _C2 : List DT) (n _m _i _k _N : Nat) (_o _p : ByteArray) (_t _u _x _y _z _e _f _g _h : Int) (a b _w _v : Bool) (_D _Y : List AC) (_j : Nat → Value) : St := startK Tryz.f51 [] [.e (.agg [.v (.bool a), .v (.bool b), .dp (.s C n 2)])]
def s53 (C _C2 : List DT) (n _m _i _k _N : Nat) (_o _p : ByteArray) (_t _u _x _y _z _e _f _g _h : Int) (a b _w _v : Bool) (_D _Y : List AC) (_j : Nat → Value) : St := startK Tryz.f53 [] [.e (.agg [.v (.bool a), .v (.bool b), .dp (.s C n 2)])]
def s124 (C _C2 : List DT) (n _m _i _k _N : Nat) (_o _p : ByteArray) (_t _u _x _y _z _e _f _g _h : Int) (a b _w _v : Bool) (_D _Y : List AC) (_j : Nat → Value) : St := startK Tryz.f124 [] [.e (.agg [.v (.bool a), .v (.bool b), .dp (.s C n 2)])]
def s123 (C C2 : List DT) (n m _i _k _N : Nat) (_o _p : ByteArray) (_t _u _x _y _z _e _f _g _h : Int) (a b w v : Bool) (_D _Y : List AC) (_j : Nat → Value) : St := startK Tryz.f123 [] [.e (.agg [.v (.bool a), .v (.bool b), .dp (.s C n 2)]), .e (.agg [.v (.bool w), .v (.bool v), .dp (.s C2 m 2)])]
def q117 (C _C2 : List DT) (n _m i _k _N : Nat) (_o p : ByteArray) (_t _u _x _y _z _e _f _g _h : Int) (_a _b _w _v : Bool) (_D _Y : List AC) (j : Nat → Value) : St := ⟨[], ztOa0, mkT j [(1, .e (.one (.v (.string p)))), (5, (iB false)), (8, .e (.one (.dp (.s C n 2)))), (9, (iI (Int.ofNat n))), (10, (iI (Int.ofNat i)))] 21 0⟩
def q51 (C _C2 : List DT) (n _m i _k _N : Nat) (_o _p : ByteArray) (_t _u _x _y _z _e _f _g _h : Int) (a b _w _v : Bool) (_D _Y : List AC) (j : Nat → Value) : St := ⟨[(bxS a b C n 98)], ztOa5, mkT j [(1, .e (.one (.ptr 0 0))), (3, (iI (Int.ofNat i)))] 23 0⟩
def q53n (C _C2 : List DT) (n _m i _k _N : Nat) (_o _p : ByteArray) (_t _u _x _y _z _e _f _g _h : Int) (a b _w _v : Bool) (_D _Y : List AC) (j : Nat → Value) : St := ⟨[(bxZ 102), bK [.v (.bool a), .v (.bool b), .v (.slice none 0 0)] 3 102], ztOa6, mkT j [(2, .e (.one (.ptr 0 0))), (3, .e (.one (.ptr 1 0))), (12, .e (.one (.dp (.s C n 2)))), (13, (iI (Int.ofNat n))), (14, (iI (Int.ofNat i)))] 26 0⟩
def q124n (C _C2 : List DT) (n _m i _k _N : Nat) (_o _p : ByteArray) (_t _u _x _y _z _e _f _g _h : Int) (a b _w _v : Bool) (_D _Y : List AC) (j : Nat → Value) : St := ⟨[(bxZ 98), bK [.v (.bool a), .v (.bool b), .v (.slice none 0 0)] 3 98], ztOa3, mkT j [(2, .e (.one (.ptr 0 0))), (3, .e (.one (.ptr 1 0))), (12, .e (.one (.dp (.s C n 2)))), (13, (iI (Int.ofNat n))), (14, (iI (Int.ofNat i)))] 26 0⟩
def q123 (C C2 : List DT) (n m i _k _N : Nat) (_o _p : ByteArray) (_t _u _x _y _z _e _f _g _h : Int) (a b w v : Bool) (_D _Y : List AC) (j : Nat → Value) : St := ⟨[(bxS a b C n 98), (bxS w v C2 m 98)], ztOa4, mkT j [(2, .e (.one (.ptr 0 0))), (3, .e (.one (.ptr 1 0))), (5, (iI (Int.ofNat i)))] 45 0⟩
def q53 (C _C2 : List DT) (n _m i _k N : Nat) (_o _p : ByteArray) (_t _u _x _y _z _e _f _g _h : Int) (a b _w _v : Bool) (D _Y : List AC) (j : Nat → Value) : St := ⟨[(bxZ 102), bK [.v (.bool a), .v (.bool b), .slc 2 0 N 2 N false] 3 102, some ⟨D, N * 2, 134, false, .cells⟩], ztOa6, mkT j [(2, .e (.one (.ptr 0 0))), (3, .e (.one (.ptr 1 0))), (12, .e (.one (.dp (.s C n 2)))), (13, (iI (Int.ofNat n))), (14, (iI (Int.ofNat i)))] 26 0⟩
def q124 (C _C2 : List DT) (n _m i _k N : Nat) (_o _p : ByteArray) (_t _u _x _y _z _e _f _g _h : Int) (a b _w _v : Bool) (D _Y : List AC) (j : Nat → Value) : St := ⟨[(bxZ 98), bK [.v (.bool a), .v (.bool b), .slc 2 0 N 2 N false] 3 98, some ⟨D, N * 2, 174, false, .cells⟩], ztOa3, mkT j [(2, .e (.one (.ptr 0 0))), (3, .e (.one (.ptr 1 0))), (12, .e (.one (.dp (.s C n 2)))), (13, (iI (Int.ofNat n))), (14, (iI (Int.ofNat i)))] 26 0⟩
def A115__end (_C : List DT) (_C2 : List DT) (_n _m _i _k _N : Nat) (o : ByteArray) (_p : ByteArray) (_t _u _x _y _z _e _f _g _h : Int) (_a _b _w _v : Bool) (_D _Y : List AC) (j : Nat → Value) : St := ⟨[], [.code .ret], mkT j [(2, (iI (A78_r0 (!nameB o) (Int.ofNat (nat_lit 8)))))] 7 0⟩
theorem A115_ (hE : EnvOk E) (C : List DT) (C2 : List DT) (n m i k N : Nat) (o : ByteArray) (p : ByteArray) (t u x y z e f g h : Int) (a b w v : Bool) (D Y : List AC) : Sg 0 0 (s115 C C2 n m i k N o p t u x y z e f g h a b w v D Y) (A115__end C C2 n m i k N o p t u x y z e f g h a b w v D Y) := fun ho j =>
 oS hE [.run 3, .ops [(1, .c0 (iB (nameB o))), (3, .c0 (iI (A78_r0 (!nameB o) (Int.ofNat (nat_lit 8)))))] []] [2] (ps := [COut E 0 [] 150 [.e (.one (.v (.string o)))] (iB (nameB o)) [], ([] : List Nat) = [], COut E 0 [] 78 [(iB (!nameB o)), (iI 8)] (iI (A78_r0 (!nameB o) (Int.ofNat (nat_lit 8)))) [], ([] : List Nat) = []]) ⟨(nK19 hE _), rfl, (A78_all hE _ _), rfl, trivial⟩
  ho
theorem A115__c (hE : EnvOk E) (C : List DT) (C2 : List DT) (n m i k N : Nat) (o : ByteArray) (p : ByteArray) (t u x y z e f g h : Int) (a b w v : Bool) (D Y : List AC)   : COut E 0 [] 115 [.e (.one (.v (.string o)))] (iI (A78_r0 (!nameB o) (Int.ofNat (nat_lit 8)))) [] := cOut_start Tryz.func115 rfl (A115_ hE C C2 n m i k N o p t u x y z e f g h a b w v D Y   (fun j => outK_ret (ends_ret (by kernel_rfl))) fun _ => undef)
theorem A115_all (hE : EnvOk E) (C : List DT) (C2 : List DT) (n m i k N : Nat) (o : ByteArray) (p : ByteArray) (t u x y z e f g h : Int) (a b w v : Bool) (D Y : List AC) : COut E 0 [] 115 [.e (.one (.v (.string o)))] (iI (A78_r0 (!nameB o) (Int.ofNat (nat_lit 8)))) [] := by
 exact A115__c hE C C2 n m i k N o p t u x y z e f g h a b w v D Y  
def A106__end (_C : List DT) (_C2 : List DT) (_n _m _i _k _N : Nat) (_o : ByteArray) (_p : ByteArray) (_t _u x _y _z _e _f _g _h : Int) (_a _b _w _v : Bool) (_D _Y : List AC) (j : Nat → Value) : St := ⟨[], [.code .ret], mkT j [(2, (iI (A77_r0 x (Int.ofNat (nat_lit 0)) (Int.ofNat (nat_lit 100000000)))))] 5 0⟩
theorem A106_ (hE : EnvOk E) (C : List DT) (C2 : List DT) (n m i k N : Nat) (o : ByteArray) (p : ByteArray) (t u x y z e f g h : Int) (a b w v : Bool) (D Y : List AC) : Sg 0 0 (s106 C C2 n m i k N o p t u x y z e f g h a b w v D Y) (A106__end C C2 n m i k N o p t u x y z e f g h a b w v D Y) := fun ho j =>
 oS hE [.run 3, .ops [(1, .c0 (iI (A77_r0 x (Int.ofNat (nat_lit 0)) (Int.ofNat (nat_lit 100000000)))))] []] [2] (ps := [COut E 0 [] 77 [(iI x), (iI 0), (iI 100000000)] (iI (A77_r0 x (Int.ofNat (nat_lit 0)) (Int.ofNat (nat_lit 100000000)))) [], ([] : List Nat) = []]) ⟨(A77_all hE _ _ _), rfl, trivial⟩
  ho
theorem A106__c (hE : EnvOk E) (C : List DT) (C2 : List DT) (n m i k N : Nat) (o : ByteArray) (p : ByteArray) (t u x y z e f g h : Int) (a b w v : Bool) (D Y : List AC)   : COut E 0 [] 106 [(iI x)] (iI (A77_r0 x (Int.ofNat (nat_lit 0)) (Int.ofNat (nat_lit 100000000)))) [] := cOut_start Tryz.func106 rfl (A106_ hE C C2 n m i k N o p t u x y z e f g h a b w v D Y   (fun j => outK_ret (ends_ret (by kernel_rfl))) fun _ => undef)
theorem A106_all (hE : EnvOk E) (C : List DT) (C2 : List DT) (n m i k N : Nat) (o : ByteArray) (p : ByteArray) (t u x y z e f g h : Int) (a b w v : Bool) (D Y : List AC) : COut E 0 [] 106 [(iI x)] (iI (A77_r0 x (Int.ofNat (nat_lit 0)) (Int.ofNat (nat_lit 100000000)))) [] := by
 exact A106__c hE C C2 n m i k N o p t u x y z e f g h a b w v D Y  
def A46__end (_C : List DT) (_C2 : List DT) (_n _m _i _k _N : Nat) (_o : ByteArray) (_p : ByteArray) (_t _u x _y _z _e _f _g _h : Int) (_a _b _w _v : Bool) (_D _Y : List AC) (j : Nat → Value) : St := ⟨[], [.code .ret], mkT j [(2, (iI (A17_r0 x (Int.ofNat (nat_lit 0)) (Int.ofNat (nat_lit 100000000)))))] 5 0⟩
theorem A46_ (hE : EnvOk E) (C : List DT) (C2 : List DT) (n m i k N : Nat) (o : ByteArray) (p : ByteArray) (t u x y z e f g h : Int) (a b w v : Bool) (D Y : List AC) : Sg 0 0 (s46 C C2 n m i k N o p t u x y z e f g h a b w v D Y) (A46__end C C2 n m i k N o p t u x y z e f g h a b w v D Y) := fun ho j =>
 oS hE [.run 3, .ops [(1, .c0 (iI (A17_r0 x (Int.ofNat (nat_lit 0)) (Int.ofNat (nat_lit 100000000)))))] []] [2] (ps := [COut E 0 [] 17 [(iI x), (iI 0), (iI 100000000)] (iI (A17_r0 x (Int.ofNat (nat_lit 0)) (Int.ofNat (nat_lit 100000000)))) [], ([] : List Nat) = []]) ⟨(A17_all hE _ _ _), rfl, trivial⟩
  ho
theorem A46__c (hE : EnvOk E) (C : List DT) (C2 : List DT) (n m i k N : Nat) (o : ByteArray) (p : ByteArray) (t u x y z e f g h : Int) (a b w v : Bool) (D Y : List AC)   : COut E 0 [] 46 [(iI x)] (iI (A17_r0 x (Int.ofNat (nat_lit 0)) (Int.ofNat (nat_lit 100000000)))) [] := cOut_start Tryz.func46 rfl (A46_ hE C C2 n m i k N o p t u x y z e f g h a b w v D Y   (fun j => outK_ret (ends_ret (by kernel_rfl))) fun _ => undef)
theorem A46_all (hE : EnvOk E) (C : List DT) (C2 : List DT) (n m i k N : Nat) (o : ByteArray) (p : ByteArray) (t u x y z e f g h : Int) (a b w v : Bool) (D Y : List AC) : COut E 0 [] 46 [(iI x)] (iI (A17_r0 x (Int.ofNat (nat_lit 0)) (Int.ofNat (nat_lit 100000000)))) [] := by
 exact A46__c hE C C2 n m i k N o p t u x y z e f g h a b w v D Y  
def p116_end (_C : List DT) (_C2 : List DT) (_n _m _i _k _N : Nat) (_o : ByteArray) (_p : ByteArray) (_t _u _x _y _z e _f _g _h : Int) (_a _b _w _v : Bool) (_D _Y : List AC) (j : Nat → Value) : St := ⟨[], [.code .ret], mkT j [(4, (iI e))] 21 0⟩
theorem p116 (hE : EnvOk E) (C : List DT) (C2 : List DT) (n m i k N : Nat) (o : ByteArray) (p : ByteArray) (t u x y z e f g h : Int) (a b w v : Bool) (D Y : List AC) (h0 : (decide (Int.ofNat n > (0 : Int)) == true : Bool) = true) (h1 : (decide (Int.ofNat n > (0 : Int)) == true : Bool) = true) (h2 : (decide (Int.ofNat n > (0 : Int)) == true : Bool) = true) (h3 : (decide (Int.ofNat n > (0 : Int)) == true : Bool) = true) (h4 : ((iI (wrapF IntKind.i64 (Int.ofNat n - (1 : Int)))) : AV) = (iI (Int.ofNat k))) (h5 : (decide (Int.ofNat n > (0 : Int)) == true : Bool) = true) (h6 : (0 : Int) ≤ Int.ofNat k ∧ Int.ofNat k < (↑n : Int)) (h7 : ((Int.ofNat k).toNat * nat_lit 2 : Nat) = k.mul (nat_lit 2)) (h8 : (decide (Int.ofNat n > (0 : Int)) == true : Bool) = true) (h9 : (decide (Int.ofNat n > (0 : Int)) == true : Bool) = true) (h10 : (getL C (k.mul (nat_lit 2) + 1) : Option DT) = (.some (.v (.int .i64 u)))) (h11 : (decide (Int.ofNat n > (0 : Int)) == true : Bool) = true) (h12 : (decide (Int.ofNat n > (0 : Int)) : Bool) = true) (h13 : COut E 0 [] 78 [(iB (decide (x < u))), (iI 11)] (iI e) []) : Sg 0 0 (s116 C C2 n m i k N o p t u x y z e f g h a b w v D Y) (p116_end C C2 n m i k N o p t u x y z e f g h a b w v D Y) := fun ho j =>
 oS hE [.run 3, .ops [(1, .d .len)] [], .run 1, .ops [(6, .rn (iI (Int.ofNat k))), (9, .d (.ld (.v (.int .i64 (u))))), (12, .c0 (iI e)), (7, .d (.ix (k.mul (nat_lit 2)))), (8, .d .fa), (11, .pk true)] [(3, true), (4, true), (5, true), (6, true), (7, true), (8, true), (9, true), (10, true)]] [4] (aP h0 <| aP h1 <| aP h2 <| aP h3 <| aP h4 <| aP h5 <| aP h6 <| aP h7 <| aP h8 <| aP h9 <| aP h10 <| aP h11 <| aP h12 <| aP h13 <| aN <| aZ)
  ho
def p116z_end (_C : List DT) (_C2 : List DT) (_n _m _i _k _N : Nat) (_o : ByteArray) (_p : ByteArray) (_t _u _x _y _z e _f _g _h : Int) (_a _b _w _v : Bool) (_D _Y : List AC) (j : Nat → Value) : St := ⟨[], [.code .ret], mkT j [(4, (iI e))] 21 0⟩
theorem p116z (hE : EnvOk E) (C : List DT) (C2 : List DT) (n m i k N : Nat) (o : ByteArray) (p : ByteArray) (t u x y z e f g h : Int) (a b w v : Bool) (D Y : List AC) (h0 : (decide (Int.ofNat n > (0 : Int)) == true : Bool) = false) (h1 : (decide (Int.ofNat n > (0 : Int)) == true : Bool) = false) (h2 : (decide (Int.ofNat n > (0 : Int)) == true : Bool) = false) (h3 : (decide (Int.ofNat n > (0 : Int)) == true : Bool) = false) (h4 : (decide (Int.ofNat n > (0 : Int)) == true : Bool) = false) (h5 : (decide (Int.ofNat n > (0 : Int)) == true : Bool) = false) (h6 : (decide (Int.ofNat n > (0 : Int)) == true : Bool) = false) (h7 : (decide (Int.ofNat n > (0 : Int)) == true : Bool) = false) (h8 : (decide (Int.ofNat n > (0 : Int)) : Bool) = false) (h9 : COut E 0 [] 78 [(iB false), (iI 11)] (iI e) []) : Sg 0 0 (s116 C C2 n m i k N o p t u x y z e f g h a b w v D Y) (p116z_end C C2 n m i k N o p t u x y z e f g h a b w v D Y) := fun ho j =>
 oS hE [.run 3, .ops [(1, .d .len)] [], .run 1, .ops [(12, .c0 (iI e)), (11, .pk false)] [(3, false), (4, false), (5, false), (6, false), (7, false), (8, false), (9, false), (10, false)]] [4] (aP h0 <| aP h1 <| aP h2 <| aP h3 <| aP h4 <| aP h5 <| aP h6 <| aP h7 <| aP h8 <| aP h9 <| aN <| aZ)
  ho
def p120_end (_C : List DT) (_C2 : List DT) (_n _m _i _k _N : Nat) (_o : ByteArray) (_p : ByteArray) (_t u x _y _z _e _f _g _h : Int) (_a _b _w _v : Bool) (_D _Y : List AC) (j : Nat → Value) : St := ⟨[], [.code .ret], mkT j [(4, (iB (decide (x < u))))] 22 0⟩
theorem p120 (hE : EnvOk E) (C : List DT) (C2 : List DT) (n m i k N : Nat) (o : ByteArray) (p : ByteArray) (t u x y z e f g h : Int) (a b w v : Bool) (D Y : List AC) (h0 : (decide ((↑n : Int) > (0 : Int)) == true : Bool) = true) (h1 : (decide ((↑n : Int) > (0 : Int)) == true : Bool) = true) (h2 : (decide ((↑n : Int) > (0 : Int)) == true : Bool) = true) (h3 : (decide ((↑n : Int) > (0 : Int)) == true : Bool) = true) (h4 : (decide ((↑n : Int) > (0 : Int)) == true : Bool) = true) (h5 : (decide ((↑n : Int) > (0 : Int)) == true : Bool) = true) (h6 : (decide ((↑n : Int) > (0 : Int)) == true : Bool) = true) (h7 : ((iI (wrapF IntKind.i64 ((↑n : Int) - (1 : Int)))) : AV) = (iI (Int.ofNat k))) (h8 : (decide ((↑n : Int) > (0 : Int)) == true : Bool) = true) (h9 : (0 : Int) ≤ Int.ofNat k ∧ Int.ofNat k < (↑n : Int)) (h10 : ((Int.ofNat k).toNat * nat_lit 2 : Nat) = k.mul (nat_lit 2)) (h11 : (decide ((↑n : Int) > (0 : Int)) == true : Bool) = true) (h12 : (decide ((↑n : Int) > (0 : Int)) == true : Bool) = true) (h13 : (getL C (k.mul (nat_lit 2) + 1) : Option DT) = (.some (.v (.int .i64 u)))) (h14 : (decide ((↑n : Int) > (0 : Int)) == true : Bool) = true) (h15 : (decide ((↑n : Int) > (0 : Int)) : Bool) = true) : Sg 0 0 (s120 C C2 n m i k N o p t u x y z e f g h a b w v D Y) (p120_end C C2 n m i k N o p t u x y z e f g h a b w v D Y) := fun ho j =>
 oS hE [.run 3, .ops [(11, .rn (iI (Int.ofNat k))), (14, .d (.ld (.v (.int .i64 (u))))), (2, .d .len), (10, .d .len), (12, .d (.ix (k.mul (nat_lit 2)))), (13, .d .fa), (16, .pk true)] [(5, true), (6, true), (7, true), (8, true), (9, true), (10, true), (11, true), (12, true), (13, true), (14, true), (15, true)]] [4] (s' := fun j => ⟨[(bxS a b C n 98)], [.code .ret], mkT j [(4, (iB (decide (x < u))))] 22 0⟩) (aP h0 <| aP h1 <| aP h2 <| aP h3 <| aP h4 <| aP h5 <| aP h6 <| aP h7 <| aP h8 <| aP h9 <| aP h10 <| aP h11 <| aP h12 <| aP h13 <| aP h14 <| aP h15 <| aZ)
  fun j => gZ [] (ho j)
def p120z_end (_C : List DT) (_C2 : List DT) (_n _m _i _k _N : Nat) (_o : ByteArray) (_p : ByteArray) (_t _u _x _y _z _e _f _g _h : Int) (_a _b _w _v : Bool) (_D _Y : List AC) (j : Nat → Value) : St := ⟨[], [.code .ret], mkT j [(4, (iB false))] 22 0⟩
theorem p120z (hE : EnvOk E) (C : List DT) (C2 : List DT) (n m i k N : Nat) (o : ByteArray) (p : ByteArray) (t u x y z e f g h : Int) (a b w v : Bool) (D Y : List AC) (h0 : (decide ((↑n : Int) > (0 : Int)) == true : Bool) = false) (h1 : (decide ((↑n : Int) > (0 : Int)) == true : Bool) = false) (h2 : (decide ((↑n : Int) > (0 : Int)) == true : Bool) = false) (h3 : (decide ((↑n : Int) > (0 : Int)) == true : Bool) = false) (h4 : (decide ((↑n : Int) > (0 : Int)) == true : Bool) = false) (h5 : (decide ((↑n : Int) > (0 : Int)) == true : Bool) = false) (h6 : (decide ((↑n : Int) > (0 : Int)) == true : Bool) = false) (h7 : (decide ((↑n : Int) > (0 : Int)) == true : Bool) = false) (h8 : (decide ((↑n : Int) > (0 : Int)) == true : Bool) = false) (h9 : (decide ((↑n : Int) > (0 : Int)) == true : Bool) = false) (h10 : (decide ((↑n : Int) > (0 : Int)) == true : Bool) = false) (h11 : (decide ((↑n : Int) > (0 : Int)) : Bool) = false) : Sg 0 0 (s120 C C2 n m i k N o p t u x y z e f g h a b w v D Y) (p120z_end C C2 n m i k N o p t u x y z e f g h a b w v D Y) := fun ho j =>
 oS hE [.run 3, .ops [(2, .d .len), (16, .pk false)] [(5, false), (6, false), (7, false), (8, false), (9, false), (10, false), (11, false), (12, false), (13, false), (14, false), (15, false)]] [4] (s' := fun j => ⟨[(bxS a b C n 98)], [.code .ret], mkT j [(4, (iB false))] 22 0⟩) (aP h0 <| aP h1 <| aP h2 <| aP h3 <| aP h4 <| aP h5 <| aP h6 <| aP h7 <| aP h8 <| aP h9 <| aP h10 <| aP h11 <| aZ)
  fun j => gZ [] (ho j)
def p117a_end (C : List DT) (_C2 : List DT) (n _m _i _k _N : Nat) (_o : ByteArray) (p : ByteArray) (_t _u _x _y _z _e _f _g _h : Int) (_a _b _w _v : Bool) (_D _Y : List AC) (j : Nat → Value) : St := ⟨[], ztOa0, mkT j [(1, .e (.one (.v (.string p)))), (5, (iB false)), (8, .e (.one (.dp (.s C n 2)))), (9, (iI (Int.ofNat n))), (10, (iI 0))] 21 0⟩
theorem p117a (hE : EnvOk E) (C : List DT) (C2 : List DT) (n m i k N : Nat) (o : ByteArray) (p : ByteArray) (t u x y z e f g h : Int) (a b w v : Bool) (D Y : List AC) : Sg 0 0 (s117 C C2 n m i k N o p t u x y z e f g h a b w v D Y) (p117a_end C C2 n m i k N o p t u x y z e f g h a b w v D Y) := fun ho j =>
 oS hE [.run 9, .ops [(1, .d .len)] [], .run 2] [1, 5, 8, 9, 10] (ps := []) trivial
  ho
def p51a_end (C : List DT) (_C2 : List DT) (n _m _i _k _N : Nat) (_o : ByteArray) (_p : ByteArray) (_t _u _x _y _z _e _f _g _h : Int) (a b _w _v : Bool) (_D _Y : List AC) (j : Nat → Value) : St := ⟨[(bxS a b C n 98)], ztOa5, mkT j [(1, .e (.one (.ptr 0 0))), (3, (iI 0))] 23 0⟩
theorem p51a (hE : EnvOk E) (C : List DT) (C2 : List DT) (n m i k N : Nat) (o : ByteArray) (p : ByteArray) (t u x y z e f g h : Int) (a b w v : Bool) (D Y : List AC) (h0 : (decide ((↑n : Int) > (9 : Int)) : Bool) = false) : Sg 0 0 (s51 C C2 n m i k N o p t u x y z e f g h a b w v D Y) (p51a_end C C2 n m i k N o p t u x y z e f g h a b w v D Y) := fun ho j =>
 oS hE [.run 4, .ops [(2, .d .len)] [], .cond false, .run 6] [1, 3] (aP h0 <| aZ)
  ho
def p53a_end (C : List DT) (_C2 : List DT) (n _m _i _k _N : Nat) (_o : ByteArray) (_p : ByteArray) (_t _u _x _y _z _e _f _g _h : Int) (a b _w _v : Bool) (_D _Y : List AC) (j : Nat → Value) : St := ⟨[(bxZ 102), bK [.v (.bool a), .v (.bool b), .v (.slice none 0 0)] 3 102], ztOa6, mkT j [(2, .e (.one (.ptr 0 0))), (3, .e (.one (.ptr 1 0))), (12, .e (.one (.dp (.s C n 2)))), (13, (iI (Int.ofNat n))), (14, (iI 0))] 26 0⟩
theorem p53a (hE : EnvOk E) (C : List DT) (C2 : List DT) (n m i k N : Nat) (o : ByteArray) (p : ByteArray) (t u x y z e f g h : Int) (a b w v : Bool) (D Y : List AC) : Sg 0 0 (s53 C C2 n m i k N o p t u x y z e f g h a b w v D Y) (p53a_end C C2 n m i k N o p t u x y z e f g h a b w v D Y) := fun ho j =>
 oS hE [.run 6, .ops [(2, .d .len)] [], .run 2] [2, 3, 12, 13, 14] (s' := fun j => ⟨[(bxS a b C n 98), (bxZ 102), bK [.v (.bool a), .v (.bool b), .v (.slice none 0 0)] 3 102], ztOa6, mkT j [(2, .e (.one (.ptr 1 0))), (3, .e (.one (.ptr 2 0))), (12, .e (.one (.dp (.s C n 2)))), (13, (iI (Int.ofNat n))), (14, (iI 0))] 26 0⟩) (ps := []) trivial
  fun j => gZ [1, 2] (ho j)
def p124a_end (C : List DT) (_C2 : List DT) (n _m _i _k _N : Nat) (_o : ByteArray) (_p : ByteArray) (_t _u _x _y _z _e _f _g _h : Int) (a b _w _v : Bool) (_D _Y : List AC) (j : Nat → Value) : St := ⟨[(bxZ 98), bK [.v (.bool a), .v (.bool b), .v (.slice none 0 0)] 3 98], ztOa3, mkT j [(2, .e (.one (.ptr 0 0))), (3, .e (.one (.ptr 1 0))), (12, .e (.one (.dp (.s C n 2)))), (13, (iI (Int.ofNat n))), (14, (iI 0))] 26 0⟩
theorem p124a (hE : EnvOk E) (C : List DT) (C2 : List DT) (n m i k N : Nat) (o : ByteArray) (p : ByteArray) (t u x y z e f g h : Int) (a b w v : Bool) (D Y : List AC) : Sg 0 0 (s124 C C2 n m i k N o p t u x y z e f g h a b w v D Y) (p124a_end C C2 n m i k N o p t u x y z e f g h a b w v D Y) := fun ho j =>
 oS hE [.run 6, .ops [(2, .d .len)] [], .run 2] [2, 3, 12, 13, 14] (s' := fun j => ⟨[(bxS a b C n 102), (bxZ 98), bK [.v (.bool a), .v (.bool b), .v (.slice none 0 0)] 3 98], ztOa3, mkT j [(2, .e (.one (.ptr 1 0))), (3, .e (.one (.ptr 2 0))), (12, .e (.one (.dp (.s C n 2)))), (13, (iI (Int.ofNat n))), (14, (iI 0))] 26 0⟩) (ps := []) trivial
  fun j => gZ [1, 2] (ho j)
def p51z_end (_C : List DT) (_C2 : List DT) (_n _m _i _k _N : Nat) (_o : ByteArray) (_p : ByteArray) (_t _u _x _y _z _e _f _g _h : Int) (_a _b _w _v : Bool) (_D _Y : List AC) (j : Nat → Value) : St := ⟨[], [.code .ret, .code (atC [1, 1] (bodyOf Tryz.f51))], mkT j [(2, (iB false))] 23 0⟩
theorem p51z (hE : EnvOk E) (C : List DT) (C2 : List DT) (n m i k N : Nat) (o : ByteArray) (p : ByteArray) (t u x y z e f g h : Int) (a b w v : Bool) (D Y : List AC) (h0 : (decide ((↑n : Int) > (9 : Int)) : Bool) = true) : Sg 0 0 (s51 C C2 n m i k N o p t u x y z e f g h a b w v D Y) (p51z_end C C2 n m i k N o p t u x y z e f g h a b w v D Y) := fun ho j =>
 oS hE [.run 4, .ops [(2, .d .len)] [], .cond true, .run 2] [2] (s' := fun j => ⟨[(bxS a b C n 98)], [.code .ret, .code (atC [1, 1] (bodyOf Tryz.f51))], mkT j [(2, (iB false))] 23 0⟩) (aP h0 <| aZ)
  fun j => gZ [] (ho j)
def p123a_end (C : List DT) (C2 : List DT) (n m _i _k _N : Nat) (_o : ByteArray) (_p : ByteArray) (_t _u _x _y _z _e _f _g _h : Int) (a b w v : Bool) (_D _Y : List AC) (j : Nat → Value) : St := ⟨[(bxS a b C n 98), (bxS w v C2 m 98)], ztOa4, mkT j [(2, .e (.one (.ptr 0 0))), (3, .e (.one (.ptr 1 0))), (5, (iI 0))] 45 0⟩
theorem p123a (hE : EnvOk E) (C : List DT) (C2 : List DT) (n m i k N : Nat) (o : ByteArray) (p : ByteArray) (t u x y z e f g h : Int) (a b w v : Bool) (D Y : List AC) (h0 : ((!a == w) == false : Bool) = true) (h1 : ((!a == w) == false : Bool) = true) (h2 : ((!a == w) == false : Bool) = true) (h3 : ((!a == w) == false : Bool) = true) (h4 : ((!a == w) == false : Bool) = true) (h5 : (!a == w : Bool) = false) (h6 : ((!b == v) == false : Bool) = true) (h7 : ((!b == v) == false : Bool) = true) (h8 : ((!b == v) == false : Bool) = true) (h9 : ((!b == v) == false : Bool) = true) (h10 : ((!b == v) == false : Bool) = true) (h11 : ((!b == v) == false : Bool) = true) (h12 : ((!b == v) == false : Bool) = true) (h13 : (!b == v : Bool) = false) (h14 : ((↑n : Int) != (↑m : Int) : Bool) = false) : Sg 0 0 (s123 C C2 n m i k N o p t u x y z e f g h a b w v D Y) (p123a_end C C2 n m i k N o p t u x y z e f g h a b w v D Y) := fun ho j =>
 oS hE [.run 4, .ops [(11, .pk false), (15, .d .len), (18, .d .len), (20, .pk false)] [(6, true), (7, true), (8, true), (9, true), (10, true), (13, true), (14, true), (15, true), (16, true), (17, true), (18, true), (19, true)], .cond false, .run 6] [2, 3, 5] (aP h0 <| aP h1 <| aP h2 <| aP h3 <| aP h4 <| aP h5 <| aP h6 <| aP h7 <| aP h8 <| aP h9 <| aP h10 <| aP h11 <| aP h12 <| aP h13 <| aP h14 <| aZ)
  ho
def p117s_end (C : List DT) (_C2 : List DT) (n _m i _k _N : Nat) (_o : ByteArray) (p : ByteArray) (_t _u _x _y _z _e _f _g _h : Int) (_a _b _w _v : Bool) (_D _Y : List AC) (j : Nat → Value) : St := ⟨[], ztOa0, mkT j [(1, .e (.one (.v (.string p)))), (5, (iB false)), (8, .e (.one (.dp (.s C n 2)))), (9, (iI (Int.ofNat n))), (10, (iI (Int.ofNat (i + 1))))] 21 0⟩
theorem p117s (hE : EnvOk E) (C : List DT) (C2 : List DT) (n m i k N : Nat) (o : ByteArray) (p : ByteArray) (t u x y z e f g h : Int) (a b w v : Bool) (D Y : List AC) (h0 : (decide (Int.ofNat i < Int.ofNat n) : Bool) = true) (h1 : (0 : Int) ≤ Int.ofNat i ∧ Int.ofNat i < (↑n : Int)) (h2 : ((Int.ofNat i).toNat * nat_lit 2 : Nat) = i.mul (nat_lit 2)) (h3 : (takeL (dropL C (i.mul (nat_lit 2))) (2 : Nat) : Option (List DT)) = (.some [.v (.string o), .v (.int .i64 t)])) (h4 : ((iB (o.toList == p.toList)) : AV) = (iB w)) (h5 : (w : Bool) = false) (h6 : ((iI (wrapF IntKind.i64 (Int.ofNat i + (1 : Int)))) : AV) = (iI (Int.ofNat (i + 1)))) : Sg 0 0 (q117 C C2 n m i k N o p t u x y z e f g h a b w v D Y) (p117s_end C C2 n m i k N o p t u x y z e f g h a b w v D Y) := fun ho j =>
 oS hE [.run 3, .cond true, .run 4, .ops [(1, .d (.ldn [.v (.string o), .v (.int .i64 t)])), (0, .d (.ix (i.mul (nat_lit 2))))] [], .run 4, .ops [(1, .rn (iB w))] [], .cond false, .run 3, .ops [(0, .rn (iI (Int.ofNat (i + 1))))] [], .run 1] [1, 5, 8, 9, 10] (s' := fun j => ⟨[bK [.v (.string o), .v (.int .i64 t)] 2 134], ztOa0, mkT j [(1, .e (.one (.v (.string p)))), (5, (iB false)), (8, .e (.one (.dp (.s C n 2)))), (9, (iI (Int.ofNat n))), (10, (iI (Int.ofNat (i + 1))))] 21 0⟩) (aP h0 <| aP h1 <| aP h2 <| aP h3 <| aP h4 <| aP h5 <| aP h6 <| aZ)
  fun j => gZ [] (ho j)
def p117e_end (_C : List DT) (_C2 : List DT) (_n _m _i _k _N : Nat) (_o : ByteArray) (_p : ByteArray) (_t _u _x _y _z _e _f _g _h : Int) (_a _b _w _v : Bool) (_D _Y : List AC) (j : Nat → Value) : St := ⟨[], [.code .ret, .inScope (atC [1, 0] (bodyOf Tryz.f117))], mkT j [(4, (iB true))] 21 0⟩
theorem p117e (hE : EnvOk E) (C : List DT) (C2 : List DT) (n m i k N : Nat) (o : ByteArray) (p : ByteArray) (t u x y z e f g h : Int) (a b w v : Bool) (D Y : List AC) (h0 : (decide (Int.ofNat i < Int.ofNat n) : Bool) = true) (h1 : (0 : Int) ≤ Int.ofNat i ∧ Int.ofNat i < (↑n : Int)) (h2 : ((Int.ofNat i).toNat * nat_lit 2 : Nat) = i.mul (nat_lit 2)) (h3 : (takeL (dropL C (i.mul (nat_lit 2))) (2 : Nat) : Option (List DT)) = (.some [.v (.string o), .v (.int .i64 t)])) (h4 : ((iB (o.toList == p.toList)) : AV) = (iB w)) (h5 : (w : Bool) = true) : Sg 0 0 (q117 C C2 n m i k N o p t u x y z e f g h a b w v D Y) (p117e_end C C2 n m i k N o p t u x y z e f g h a b w v D Y) := fun ho j =>
 oS hE [.run 3, .cond true, .run 4, .ops [(1, .d (.ldn [.v (.string o), .v (.int .i64 t)])), (0, .d (.ix (i.mul (nat_lit 2))))] [], .run 4, .ops [(1, .rn (iB w))] [], .cond true, .run 5] [4] (s' := fun j => ⟨[bK [.v (.string o), .v (.int .i64 t)] 2 134], [.code .ret, .inScope (atC [1, 0] (bodyOf Tryz.f117))], mkT j [(4, (iB true))] 21 0⟩) (aP h0 <| aP h1 <| aP h2 <| aP h3 <| aP h4 <| aP h5 <| aZ)
  fun j => gZ [] (ho j)
def p117x_end (_C : List DT) (_C2 : List DT) (_n _m _i _k _N : Nat) (_o : ByteArray) (_p : ByteArray) (_t _u _x _y _z _e _f _g _h : Int) (_a _b _w _v : Bool) (_D _Y : List AC) (j : Nat → Value) : St := ⟨[], [.code .ret, .inScope (atC [1, 0] (bodyOf Tryz.f117))], mkT j [(4, (iB false))] 21 0⟩
theorem p117x (hE : EnvOk E) (C : List DT) (C2 : List DT) (n m i k N : Nat) (o : ByteArray) (p : ByteArray) (t u x y z e f g h : Int) (a b w v : Bool) (D Y : List AC) (h0 : (decide (Int.ofNat i < Int.ofNat n) : Bool) = false) : Sg 0 0 (q117 C C2 n m i k N o p t u x y z e f g h a b w v D Y) (p117x_end C C2 n m i k N o p t u x y z e f g h a b w v D Y) := fun ho j =>
 oS hE [.run 3, .cond false, .run 3] [4] (aP h0 <| aZ)
  ho
def p51s_end (C : List DT) (_C2 : List DT) (n _m i _k _N : Nat) (_o : ByteArray) (_p : ByteArray) (_t _u _x _y _z _e _f _g _h : Int) (a b _w _v : Bool) (_D _Y : List AC) (j : Nat → Value) : St := ⟨[(bxS a b C n 98)], ztOa5, mkT j [(1, .e (.one (.ptr 0 0))), (3, (iI (Int.ofNat (i + 1))))] 23 0⟩
theorem p51s (hE : EnvOk E) (C : List DT) (C2 : List DT) (n m i k N : Nat) (o : ByteArray) (p : ByteArray) (t u x y z e f g h : Int) (a b w v : Bool) (D Y : List AC) (h0 : (decide (Int.ofNat i < (↑n : Int)) : Bool) = true) (h1 : (0 : Int) ≤ Int.ofNat i ∧ Int.ofNat i < (↑n : Int)) (h2 : ((Int.ofNat i).toNat * nat_lit 2 : Nat) = i.mul (nat_lit 2)) (h3 : (getL C (i.mul (nat_lit 2) + 0) : Option DT) = (.some (.v (.string o)))) (h4 : ((iI (Int.ofNat o.size)) : AV) = (iI x)) (h5 : (decide (x > (40 : Int)) : Bool) = false) (h6 : ((iI (wrapF IntKind.i64 (Int.ofNat i + (1 : Int)))) : AV) = (iI (Int.ofNat (i + 1)))) : Sg 0 0 (q51 C C2 n m i k N o p t u x y z e f g h a b w v D Y) (p51s_end C C2 n m i k N o p t u x y z e f g h a b w v D Y) := fun ho j =>
 oS hE [.run 2, .ops [(3, .d .len)] [], .cond true, .run 4, .ops [(5, .d (.ld (.v (.string o)))), (6, .rn (iI x)), (3, .d (.ix (i.mul (nat_lit 2)))), (4, .d .fa)] [], .cond false, .run 2, .ops [(1, .rn (iI (Int.ofNat (i + 1))))] [], .run 1] [1, 3] (aP h0 <| aP h1 <| aP h2 <| aP h3 <| aP h4 <| aP h5 <| aP h6 <| aZ)
  ho
def p51e_end (_C : List DT) (_C2 : List DT) (_n _m _i _k _N : Nat) (_o : ByteArray) (_p : ByteArray) (_t _u _x _y _z _e _f _g _h : Int) (_a _b _w _v : Bool) (_D _Y : List AC) (j : Nat → Value) : St := ⟨[], [.code .ret, .inBlock 1, .code (atC [1, 1, 0, 1, 0, 0, 1, 1] (bodyOf Tryz.f51)), .inLoop (atC [1, 1, 0, 1, 0, 0] (bodyOf Tryz.f51)), .inBlock 0, .code (atC [1, 1, 1] (bodyOf Tryz.f51))], mkT j [(2, (iB false))] 23 0⟩
theorem p51e (hE : EnvOk E) (C : List DT) (C2 : List DT) (n m i k N : Nat) (o : ByteArray) (p : ByteArray) (t u x y z e f g h : Int) (a b w v : Bool) (D Y : List AC) (h0 : (decide (Int.ofNat i < (↑n : Int)) : Bool) = true) (h1 : (0 : Int) ≤ Int.ofNat i ∧ Int.ofNat i < (↑n : Int)) (h2 : ((Int.ofNat i).toNat * nat_lit 2 : Nat) = i.mul (nat_lit 2)) (h3 : (getL C (i.mul (nat_lit 2) + 0) : Option DT) = (.some (.v (.string o)))) (h4 : ((iI (Int.ofNat o.size)) : AV) = (iI x)) (h5 : (decide (x > (40 : Int)) : Bool) = true) : Sg 0 0 (q51 C C2 n m i k N o p t u x y z e f g h a b w v D Y) (p51e_end C C2 n m i k N o p t u x y z e f g h a b w v D Y) := fun ho j =>
 oS hE [.run 2, .ops [(3, .d .len)] [], .cond true, .run 4, .ops [(5, .d (.ld (.v (.string o)))), (6, .rn (iI x)), (3, .d (.ix (i.mul (nat_lit 2)))), (4, .d .fa)] [], .cond true, .run 2] [2] (s' := fun j => ⟨[(bxS a b C n 98)], [.code .ret, .inBlock 1, .code (atC [1, 1, 0, 1, 0, 0, 1, 1] (bodyOf Tryz.f51)), .inLoop (atC [1, 1, 0, 1, 0, 0] (bodyOf Tryz.f51)), .inBlock 0, .code (atC [1, 1, 1] (bodyOf Tryz.f51))], mkT j [(2, (iB false))] 23 0⟩) (aP h0 <| aP h1 <| aP h2 <| aP h3 <| aP h4 <| aP h5 <| aZ)
  fun j => gZ [] (ho j)
def p51x_end (_C : List DT) (_C2 : List DT) (_n _m _i _k _N : Nat) (_o : ByteArray) (_p : ByteArray) (_t _u _x _y _z _e _f _g _h : Int) (_a _b _w _v : Bool) (_D _Y : List AC) (j : Nat → Value) : St := ⟨[], [.code .ret], mkT j [(2, (iB true))] 23 0⟩
theorem p51x (hE : EnvOk E) (C : List DT) (C2 : List DT) (n m i k N : Nat) (o : ByteArray) (p : ByteArray) (t u x y z e f g h : Int) (a b w v : Bool) (D Y : List AC) (h0 : (decide (Int.ofNat i < (↑n : Int)) : Bool) = false) : Sg 0 0 (q51 C C2 n m i k N o p t u x y z e f g h a b w v D Y) (p51x_end C C2 n m i k N o p t u x y z e f g h a b w v D Y) := fun ho j =>
 oS hE [.run 2, .ops [(3, .d .len)] [], .cond false, .run 3] [2] (s' := fun j => ⟨[(bxS a b C n 98)], [.code .ret], mkT j [(2, (iB true))] 23 0⟩) (aP h0 <| aZ)
  fun j => gZ [] (ho j)
def p53n_end (C : List DT) (_C2 : List DT) (n _m i _k _N : Nat) (o : ByteArray) (_p : ByteArray) (t _u _x _y _z _e _f _g _h : Int) (a b _w _v : Bool) (_D _Y : List AC) (j : Nat → Value) : St := ⟨[(bxZ 102), bK [.v (.bool a), .v (.bool b), .slc 2 0 1 2 1 false] 3 102, .some ⟨[.v (.string o), .v (.int .i64 t)], 2, 134, false, .cells⟩], ztOa6, mkT j [(2, .e (.one (.ptr 0 0))), (3, .e (.one (.ptr 1 0))), (12, .e (.one (.dp (.s C n 2)))), (13, (iI (Int.ofNat n))), (14, (iI (Int.ofNat (i + 1))))] 26 0⟩
theorem p53n (hE : EnvOk E) (C : List DT) (C2 : List DT) (n m i k N : Nat) (o : ByteArray) (p : ByteArray) (t u x y z e f g h : Int) (a b w v : Bool) (D Y : List AC) (h0 : (decide (Int.ofNat i < Int.ofNat n) : Bool) = true) (h1 : (0 : Int) ≤ Int.ofNat i ∧ Int.ofNat i < (↑n : Int)) (h2 : ((Int.ofNat i).toNat * nat_lit 2 : Nat) = i.mul (nat_lit 2)) (h3 : (takeL (dropL C (i.mul (nat_lit 2))) (2 : Nat) : Option (List DT)) = (.some [.v (.string o), .v (.int .i64 t)])) (h4 : ((iI (wrapF IntKind.i64 (Int.ofNat i + (1 : Int)))) : AV) = (iI (Int.ofNat (i + 1)))) : Sg 0 0 (q53n C C2 n m i k N o p t u x y z e f g h a b w v D Y) (p53n_end C C2 n m i k N o p t u x y z e f g h a b w v D Y) := fun ho j =>
 oS hE [.run 3, .cond true, .run 4, .ops [(1, .d (.ldn [.v (.string o), .v (.int .i64 t)])), (0, .d (.ix (i.mul (nat_lit 2))))] [], .run 2, .ops [(0, .rn (iI (Int.ofNat (i + 1))))] [], .run 1] [2, 3, 12, 13, 14] (s' := fun j => ⟨[(bxZ 102), bK [.v (.bool a), .v (.bool b), .slc 4 0 1 2 1 false] 3 102, bK [.v (.string o), .v (.int .i64 t)] 2 174, bK [.v (.string o), .v (.int .i64 t)] 2 134, .some ⟨[.v (.string o), .v (.int .i64 t)], 2, 134, false, .cells⟩], ztOa6, mkT j [(2, .e (.one (.ptr 0 0))), (3, .e (.one (.ptr 1 0))), (12, .e (.one (.dp (.s C n 2)))), (13, (iI (Int.ofNat n))), (14, (iI (Int.ofNat (i + 1))))] 26 0⟩) (aP h0 <| aP h1 <| aP h2 <| aP h3 <| aP h4 <| aZ)
  fun j => gZ [0, 1, 4] (ho j)
def p53z_end (_C : List DT) (_C2 : List DT) (_n _m _i _k _N : Nat) (_o : ByteArray) (_p : ByteArray) (_t _u _x _y _z _e _f _g _h : Int) (a b _w _v : Bool) (_D _Y : List AC) (j : Nat → Value) : St := ⟨[bK [.v (.bool a), .v (.bool b), .v (.slice none 0 0)] 3 102], [.code .ret], mkT j [(2, .e (.one (.ptr 0 0)))] 26 0⟩
theorem p53z (hE : EnvOk E) (C : List DT) (C2 : List DT) (n m i k N : Nat) (o : ByteArray) (p : ByteArray) (t u x y z e f g h : Int) (a b w v : Bool) (D Y : List AC) (h0 : (decide (Int.ofNat i < Int.ofNat n) : Bool) = false) : Sg 0 0 (q53n C C2 n m i k N o p t u x y z e f g h a b w v D Y) (p53z_end C C2 n m i k N o p t u x y z e f g h a b w v D Y) := fun ho j =>
 oS hE [.run 3, .cond false, .run 3] [2] (s' := fun j => ⟨[bK [.v (.bool a), .v (.bool b), .v (.slice none 0 0)] 3 102, bK [.v (.bool a), .v (.bool b), .v (.slice none 0 0)] 3 102], [.code .ret], mkT j [(2, .e (.one (.ptr 0 0)))] 26 0⟩) (aP h0 <| aZ)
  fun j => gZ [0] (ho j)
def p124n_end (C : List DT) (_C2 : List DT) (n _m i _k _N : Nat) (o : ByteArray) (_p : ByteArray) (t _u _x _y _z _e _f _g _h : Int) (a b _w _v : Bool) (_D _Y : List AC) (j : Nat → Value) : St := ⟨[(bxZ 98), bK [.v (.bool a), .v (.bool b), .slc 2 0 1 2 1 false] 3 98, .some ⟨[.v (.string o), .v (.int .i64 t)], 2, 174, false, .cells⟩], ztOa3, mkT j [(2, .e (.one (.ptr 0 0))), (3, .e (.one (.ptr 1 0))), (12, .e (.one (.dp (.s C n 2)))), (13, (iI (Int.ofNat n))), (14, (iI (Int.ofNat (i + 1))))] 26 0⟩
theorem p124n (hE : EnvOk E) (C : List DT) (C2 : List DT) (n m i k N : Nat) (o : ByteArray) (p : ByteArray) (t u x y z e f g h : Int) (a b w v : Bool) (D Y : List AC) (h0 : (decide (Int.ofNat i < Int.ofNat n) : Bool) = true) (h1 : (0 : Int) ≤ Int.ofNat i ∧ Int.ofNat i < (↑n : Int)) (h2 : ((Int.ofNat i).toNat * nat_lit 2 : Nat) = i.mul (nat_lit 2)) (h3 : (takeL (dropL C (i.mul (nat_lit 2))) (2 : Nat) : Option (List DT)) = (.some [.v (.string o), .v (.int .i64 t)])) (h4 : ((iI (wrapF IntKind.i64 (Int.ofNat i + (1 : Int)))) : AV) = (iI (Int.ofNat (i + 1)))) : Sg 0 0 (q124n C C2 n m i k N o p t u x y z e f g h a b w v D Y) (p124n_end C C2 n m i k N o p t u x y z e f g h a b w v D Y) := fun ho j =>
 oS hE [.run 3, .cond true, .run 4, .ops [(1, .d (.ldn [.v (.string o), .v (.int .i64 t)])), (0, .d (.ix (i.mul (nat_lit 2))))] [], .run 2, .ops [(0, .rn (iI (Int.ofNat (i + 1))))] [], .run 1] [2, 3, 12, 13, 14] (s' := fun j => ⟨[(bxZ 98), bK [.v (.bool a), .v (.bool b), .slc 4 0 1 2 1 false] 3 98, bK [.v (.string o), .v (.int .i64 t)] 2 134, bK [.v (.string o), .v (.int .i64 t)] 2 174, .some ⟨[.v (.string o), .v (.int .i64 t)], 2, 174, false, .cells⟩], ztOa3, mkT j [(2, .e (.one (.ptr 0 0))), (3, .e (.one (.ptr 1 0))), (12, .e (.one (.dp (.s C n 2)))), (13, (iI (Int.ofNat n))), (14, (iI (Int.ofNat (i + 1))))] 26 0⟩) (aP h0 <| aP h1 <| aP h2 <| aP h3 <| aP h4 <| aZ)
  fun j => gZ [0, 1, 4] (ho j)
def p124z_end (_C : List DT) (_C2 : List DT) (_n _m _i _k _N : Nat) (_o : ByteArray) (_p : ByteArray) (_t _u _x _y _z _e _f _g _h : Int) (a b _w _v : Bool) (_D _Y : List AC) (j : Nat → Value) : St := ⟨[bK [.v (.bool a), .v (.bool b), .v (.slice none 0 0)] 3 98], [.code .ret], mkT j [(2, .e (.one (.ptr 0 0)))] 26 0⟩
theorem p124z (hE : EnvOk E) (C : List DT) (C2 : List DT) (n m i k N : Nat) (o : ByteArray) (p : ByteArray) (t u x y z e f g h : Int) (a b w v : Bool) (D Y : List AC) (h0 : (decide (Int.ofNat i < Int.ofNat n) : Bool) = false) : Sg 0 0 (q124n C C2 n m i k N o p t u x y z e f g h a b w v D Y) (p124z_end C C2 n m i k N o p t u x y z e f g h a b w v D Y) := fun ho j =>
 oS hE [.run 3, .cond false, .run 3] [2] (s' := fun j => ⟨[bK [.v (.bool a), .v (.bool b), .v (.slice none 0 0)] 3 98, bK [.v (.bool a), .v (.bool b), .v (.slice none 0 0)] 3 98], [.code .ret], mkT j [(2, .e (.one (.ptr 0 0)))] 26 0⟩) (aP h0 <| aZ)
  fun j => gZ [0] (ho j)
def p123s_end (C : List DT) (C2 : List DT) (n m i _k _N : Nat) (_o : ByteArray) (_p : ByteArray) (_t _u _x _y _z _e _f _g _h : Int) (a b w v : Bool) (_D _Y : List AC) (j : Nat → Value) : St := ⟨[(bxS a b C n 98), (bxS w v C2 m 98)], ztOa4, mkT j [(2, .e (.one (.ptr 0 0))), (3, .e (.one (.ptr 1 0))), (5, (iI (Int.ofNat (i + 1))))] 45 0⟩
theorem p123s (hE : EnvOk E) (C : List DT) (C2 : List DT) (n m i k N : Nat) (o : ByteArray) (p : ByteArray) (t u x y z e f g h : Int) (a b w v : Bool) (D Y : List AC) (h0 : (decide (Int.ofNat i < (↑n : Int)) : Bool) = true) (h1 : (0 : Int) ≤ Int.ofNat i ∧ Int.ofNat i < (↑n : Int)) (h2 : ((Int.ofNat i).toNat * nat_lit 2 : Nat) = i.mul (nat_lit 2)) (h3 : (takeL (dropL C (i.mul (nat_lit 2))) (2 : Nat) : Option (List DT)) = (.some [.v (.string o), .v (.int .i64 t)])) (h4 : (0 : Int) ≤ Int.ofNat i ∧ Int.ofNat i < (↑m : Int)) (h5 : ((Int.ofNat i).toNat * nat_lit 2 : Nat) = i.mul (nat_lit 2)) (h6 : (takeL (dropL C2 (i.mul (nat_lit 2))) (2 : Nat) : Option (List DT)) = (.some [.v (.string o), .v (.int .i64 t)])) (h8 : EqOk E 174 [.v (.string o), .v (.int .i64 t)] [.v (.string o), .v (.int .i64 t)] true) (h9 : ((iI (wrapF IntKind.i64 (Int.ofNat i + (1 : Int)))) : AV) = (iI (Int.ofNat (i + 1)))) : Sg 0 0 (q123 C C2 n m i k N o p t u x y z e f g h a b w v D Y) (p123s_end C C2 n m i k N o p t u x y z e f g h a b w v D Y) := fun ho j =>
 oS hE [.run 2, .ops [(3, .d .len)] [], .cond true, .run 4, .ops [(4, .d (.ldn [.v (.string o), .v (.int .i64 t)])), (9, .d (.ldn [.v (.string o), .v (.int .i64 t)])), (10, .eqs false), (3, .d (.ix (i.mul (nat_lit 2)))), (8, .d (.ix (i.mul (nat_lit 2))))] [], .run 3, .ops [(1, .rn (iI (Int.ofNat (i + 1))))] [], .run 1] [2, 3, 5] (aP h0 <| aP h1 <| aP h2 <| aP h3 <| aP h4 <| aP h5 <| aP h6 <| aP (rfl : (true : Bool) = true) <| aP h8 <| aP h9 <| aZ)
  ho
def p123x_end (_C : List DT) (_C2 : List DT) (_n _m _i _k _N : Nat) (_o : ByteArray) (_p : ByteArray) (_t _u _x _y _z _e _f _g _h : Int) (_a _b _w _v : Bool) (_D _Y : List AC) (j : Nat → Value) : St := ⟨[], [.code .ret], mkT j [(4, (iB true))] 45 0⟩
theorem p123x (hE : EnvOk E) (C : List DT) (C2 : List DT) (n m i k N : Nat) (o : ByteArray) (p : ByteArray) (t u x y z e f g h : Int) (a b w v : Bool) (D Y : List AC) (h0 : (decide (Int.ofNat i < (↑n : Int)) : Bool) = false) : Sg 0 0 (q123 C C2 n m i k N o p t u x y z e f g h a b w v D Y) (p123x_end C C2 n m i k N o p t u x y z e f g h a b w v D Y) := fun ho j =>
 oS hE [.run 2, .ops [(3, .d .len)] [], .cond false, .run 3] [4] (s' := fun j => ⟨[(bxS a b C n 98), (bxS w v C2 m 98)], [.code .ret], mkT j [(4, (iB true))] 45 0⟩) (aP h0 <| aZ)
  fun j => gZ [] (ho j)
def p53s_end (C : List DT) (_C2 : List DT) (n _m i _k N : Nat) (_o : ByteArray) (_p : ByteArray) (_t _u _x _y _z _e _f _g _h : Int) (a b _w _v : Bool) (_D Y : List AC) (j : Nat → Value) : St := ⟨[(bxZ 102), bK [.v (.bool a), .v (.bool b), .slc 2 0 (N + 1) 2 (N + 1) false] 3 102, .some ⟨(Y), ((N + 1) * 2), 134, false, .cells⟩], ztOa6, mkT j [(2, .e (.one (.ptr 0 0))), (3, .e (.one (.ptr 1 0))), (12, .e (.one (.dp (.s C n 2)))), (13, (iI (Int.ofNat n))), (14, (iI (Int.ofNat (i + 1))))] 26 0⟩
theorem p53s (hE : EnvOk E) (C : List DT) (C2 : List DT) (n m i k N : Nat) (o : ByteArray) (p : ByteArray) (t u x y z e f g h : Int) (a b w v : Bool) (D Y : List AC) (h0 : (decide (Int.ofNat i < Int.ofNat n) : Bool) = true) (h1 : (0 : Int) ≤ Int.ofNat i ∧ Int.ofNat i < (↑n : Int)) (h2 : ((Int.ofNat i).toNat * nat_lit 2 : Nat) = i.mul (nat_lit 2)) (h3 : (takeL (dropL C (i.mul (nat_lit 2))) (2 : Nat) : Option (List DT)) = (.some [.v (.string o), .v (.int .i64 t)])) (h4 : ¬N + 1 ≤ N) (h5 : (small (N + 1) (2 : Nat) (24 : Nat) : Bool) = true) (h6 : (N * 2 : Nat) = N * nat_lit 2) (h7 : (appL D ((fun x => AC.v (Value.string o) :: x) ((fun x => AC.v (Value.int IntKind.i64 t) :: x) [])) : List AC) = Y) (h9 : ((N + 1) * nat_lit 2 : Nat) = (N + 1) * 2) (h10 : ((iI (wrapF IntKind.i64 (Int.ofNat i + (1 : Int)))) : AV) = (iI (Int.ofNat (i + 1)))) (g0 : FlatC Y) : Sg 0 0 (q53 C C2 n m i k N o p t u x y z e f g h a b w v D Y) (p53s_end C C2 n m i k N o p t u x y z e f g h a b w v D Y) := fun ho j =>
 oS hE [.run 3, .cond true, .run 4, .ops [(1, .d (.ldn [.v (.string o), .v (.int .i64 t)])), (0, .d (.ix (i.mul (nat_lit 2))))] [], .ops [(4, .app (N + 1) ((N + 1) * 2) Y)] [], .run 1, .ops [(0, .rn (iI (Int.ofNat (i + 1))))] [], .run 1] [2, 3, 12, 13, 14] (s' := fun j => ⟨[(bxZ 102), bK [.v (.bool a), .v (.bool b), .slc 5 0 (N + 1) 2 (N + 1) false] 3 102, none, bK [.v (.string o), .v (.int .i64 t)] 2 174, bK [.v (.string o), .v (.int .i64 t)] 2 134, .some ⟨(Y), ((N + 1) * 2), 134, false, .cells⟩], ztOa6, mkT j [(2, .e (.one (.ptr 0 0))), (3, .e (.one (.ptr 1 0))), (12, .e (.one (.dp (.s C n 2)))), (13, (iI (Int.ofNat n))), (14, (iI (Int.ofNat (i + 1))))] 26 0⟩) (aP h0 <| aP h1 <| aP h2 <| aP h3 <| aP h4 <| aP h5 <| aP h6 <| aP h7 <| aP (rfl : (N + 1 : Nat) = N + 1) <| aP h9 <| aP h10 <| aZ)
  fun j => outK_gcF [0, 1, 5] [false, false, true] (h' := [(bxZ 102), bK [.v (.bool a), .v (.bool b), .slc 2 0 (N + 1) 2 (N + 1) false] 3 102, .some ⟨(Y), ((N + 1) * 2), 134, false, .cells⟩]) (by decide) (by kernel_rfl) (by kernel_rfl) ⟨g0, trivial⟩ (by kernel_rfl) (ho j)
def p53x_end (_C : List DT) (_C2 : List DT) (_n _m _i _k N : Nat) (_o : ByteArray) (_p : ByteArray) (_t _u _x _y _z _e _f _g _h : Int) (a b _w _v : Bool) (D _Y : List AC) (j : Nat → Value) : St := ⟨[bK [.v (.bool a), .v (.bool b), .slc 1 0 N 2 N false] 3 102, .some ⟨(D), (N * 2), 134, false, .cells⟩], [.code .ret], mkT j [(2, .e (.one (.ptr 0 0)))] 26 0⟩
theorem p53x (hE : EnvOk E) (C : List DT) (C2 : List DT) (n m i k N : Nat) (o : ByteArray) (p : ByteArray) (t u x y z e f g h : Int) (a b w v : Bool) (D Y : List AC) (h0 : (decide (Int.ofNat i < Int.ofNat n) : Bool) = false) (g0 : FlatC D) : Sg 0 0 (q53 C C2 n m i k N o p t u x y z e f g h a b w v D Y) (p53x_end C C2 n m i k N o p t u x y z e f g h a b w v D Y) := fun ho j =>
 oS hE [.run 3, .cond false, .run 3] [2] (s' := fun j => ⟨[bK [.v (.bool a), .v (.bool b), .slc 2 0 N 2 N false] 3 102, bK [.v (.bool a), .v (.bool b), .slc 2 0 N 2 N false] 3 102, .some ⟨(D), (N * 2), 134, false, .cells⟩], [.code .ret], mkT j [(2, .e (.one (.ptr 0 0)))] 26 0⟩) (aP h0 <| aZ)
  fun j => outK_gcF [0, 2] [false, true] (h' := [bK [.v (.bool a), .v (.bool b), .slc 1 0 N 2 N false] 3 102, .some ⟨(D), (N * 2), 134, false, .cells⟩]) (by decide) (by kernel_rfl) (by kernel_rfl) ⟨g0, trivial⟩ (by kernel_rfl) (ho j)
def p124s_end (C : List DT) (_C2 : List DT) (n _m i _k N : Nat) (_o : ByteArray) (_p : ByteArray) (_t _u _x _y _z _e _f _g _h : Int) (a b _w _v : Bool) (_D Y : List AC) (j : Nat → Value) : St := ⟨[(bxZ 98), bK [.v (.bool a), .v (.bool b), .slc 2 0 (N + 1) 2 (N + 1) false] 3 98, .some ⟨(Y), ((N + 1) * 2), 174, false, .cells⟩], ztOa3, mkT j [(2, .e (.one (.ptr 0 0))), (3, .e (.one (.ptr 1 0))), (12, .e (.one (.dp (.s C n 2)))), (13, (iI (Int.ofNat n))), (14, (iI (Int.ofNat (i + 1))))] 26 0⟩
theorem p124s (hE : EnvOk E) (C : List DT) (C2 : List DT) (n m i k N : Nat) (o : ByteArray) (p : ByteArray) (t u x y z e f g h : Int) (a b w v : Bool) (D Y : List AC) (h0 : (decide (Int.ofNat i < Int.ofNat n) : Bool) = true) (h1 : (0 : Int) ≤ Int.ofNat i ∧ Int.ofNat i < (↑n : Int)) (h2 : ((Int.ofNat i).toNat * nat_lit 2 : Nat) = i.mul (nat_lit 2)) (h3 : (takeL (dropL C (i.mul (nat_lit 2))) (2 : Nat) : Option (List DT)) = (.some [.v (.string o), .v (.int .i64 t)])) (h4 : ¬N + 1 ≤ N) (h5 : (small (N + 1) (2 : Nat) (24 : Nat) : Bool) = true) (h6 : (N * 2 : Nat) = N * nat_lit 2) (h7 : (appL D ((fun x => AC.v (Value.string o) :: x) ((fun x => AC.v (Value.int IntKind.i64 t) :: x) [])) : List AC) = Y) (h9 : ((N + 1) * nat_lit 2 : Nat) = (N + 1) * 2) (h10 : ((iI (wrapF IntKind.i64 (Int.ofNat i + (1 : Int)))) : AV) = (iI (Int.ofNat (i + 1)))) (g0 : FlatC Y) : Sg 0 0 (q124 C C2 n m i k N o p t u x y z e f g h a b w v D Y) (p124s_end C C2 n m i k N o p t u x y z e f g h a b w v D Y) := fun ho j =>
 oS hE [.run 3, .cond true, .run 4, .ops [(1, .d (.ldn [.v (.string o), .v (.int .i64 t)])), (0, .d (.ix (i.mul (nat_lit 2))))] [], .ops [(4, .app (N + 1) ((N + 1) * 2) Y)] [], .run 1, .ops [(0, .rn (iI (Int.ofNat (i + 1))))] [], .run 1] [2, 3, 12, 13, 14] (s' := fun j => ⟨[(bxZ 98), bK [.v (.bool a), .v (.bool b), .slc 5 0 (N + 1) 2 (N + 1) false] 3 98, none, bK [.v (.string o), .v (.int .i64 t)] 2 134, bK [.v (.string o), .v (.int .i64 t)] 2 174, .some ⟨(Y), ((N + 1) * 2), 174, false, .cells⟩], ztOa3, mkT j [(2, .e (.one (.ptr 0 0))), (3, .e (.one (.ptr 1 0))), (12, .e (.one (.dp (.s C n 2)))), (13, (iI (Int.ofNat n))), (14, (iI (Int.ofNat (i + 1))))] 26 0⟩) (aP h0 <| aP h1 <| aP h2 <| aP h3 <| aP h4 <| aP h5 <| aP h6 <| aP h7 <| aP (rfl : (N + 1 : Nat) = N + 1) <| aP h9 <| aP h10 <| aZ)
  fun j => outK_gcF [0, 1, 5] [false, false, true] (h' := [(bxZ 98), bK [.v (.bool a), .v (.bool b), .slc 2 0 (N + 1) 2 (N + 1) false] 3 98, .some ⟨(Y), ((N + 1) * 2), 174, false, .cells⟩]) (by decide) (by kernel_rfl) (by kernel_rfl) ⟨g0, trivial⟩ (by kernel_rfl) (ho j)
def p124x_end (_C : List DT) (_C2 : List DT) (_n _m _i _k N : Nat) (_o : ByteArray) (_p : ByteArray) (_t _u _x _y _z _e _f _g _h : Int) (a b _w _v : Bool) (D _Y : List AC) (j : Nat → Value) : St := ⟨[bK [.v (.bool a), .v (.bool b), .slc 1 0 N 2 N false] 3 98, .some ⟨(D), (N * 2), 174, false, .cells⟩], [.code .ret], mkT j [(2, .e (.one (.ptr 0 0)))] 26 0⟩
theorem p124x (hE : EnvOk E) (C : List DT) (C2 : List DT) (n m i k N : Nat) (o : ByteArray) (p : ByteArray) (t u x y z e f g h : Int) (a b w v : Bool) (D Y : List AC) (h0 : (decide (Int.ofNat i < Int.ofNat n) : Bool) = false) (g0 : FlatC D) : Sg 0 0 (q124 C C2 n m i k N o p t u x y z e f g h a b w v D Y) (p124x_end C C2 n m i k N o p t u x y z e f g h a b w v D Y) := fun ho j =>
 oS hE [.run 3, .cond false, .run 3] [2] (s' := fun j => ⟨[bK [.v (.bool a), .v (.bool b), .slc 2 0 N 2 N false] 3 98, bK [.v (.bool a), .v (.bool b), .slc 2 0 N 2 N false] 3 98, .some ⟨(D), (N * 2), 174, false, .cells⟩], [.code .ret], mkT j [(2, .e (.one (.ptr 0 0)))] 26 0⟩) (aP h0 <| aZ)
  fun j => outK_gcF [0, 2] [false, true] (h' := [bK [.v (.bool a), .v (.bool b), .slc 1 0 N 2 N false] 3 98, .some ⟨(D), (N * 2), 174, false, .cells⟩]) (by decide) (by kernel_rfl) (by kernel_rfl) ⟨g0, trivial⟩ (by kernel_rfl) (ho j)
theorem strI_cast {f : FuncId} {args : List AV} {a b : Int} (h : COut E 0 [] f args (iI a) []) (e : a = b) : COut E 0 [] f args (iI b) [] := e ▸ h
theorem strB_cast {f : FuncId} {args : List AV} {a b : Bool} (h : COut E 0 [] f args (iB a) []) (e : a = b) : COut E 0 [] f args (iB b) [] := e ▸ h
def rng (x l h : Int) : Int := if x < l ∨ x > h then 3 else 0
theorem r77 (x l h : Int) : A77_r0 x l h = rng x l h := by
 unfold A77_r0 A78_r0 rng
 by_cases h1 : x < l <;> by_cases h2 : x > h <;> simp [h1, h2]
theorem r17 (x l h : Int) : A17_r0 x l h = rng x l h := by
 unfold A17_r0 A83_r0 rng
 by_cases h1 : x < l <;> by_cases h2 : x > h <;> simp [h1, h2]
def nmE (s : ByteArray) : Int := if nameB s = true then 0 else 8
theorem K115 (hE : EnvOk E) (s : ByteArray) : COut E 0 [] 115 [.e (.one (.v (.string s)))] (iI (nmE s)) [] := by
 refine strI_cast (A115_all hE [] [] 0 0 0 0 0 s (⟨#[]⟩) 0 0 0 0 0 0 0 0 0 false false false false [] []) ?_
 unfold A78_r0 nmE; cases nameB s <;> rfl
theorem K106 (hE : EnvOk E) (x : Int) : COut E 0 [] 106 [iI x] (iI (rng x 0 100000000)) [] := strI_cast (A106_all hE [] [] 0 0 0 0 0 (⟨#[]⟩) (⟨#[]⟩) 0 0 x 0 0 0 0 0 0 false false false false [] []) (r77 _ _ _)
theorem K46 (hE : EnvOk E) (x : Int) : COut E 0 [] 46 [iI x] (iI (rng x 0 100000000)) [] := strI_cast (A46_all hE [] [] 0 0 0 0 0 (⟨#[]⟩) (⟨#[]⟩) 0 0 x 0 0 0 0 0 0 false false false false [] []) (r17 _ _ _)
def hasO (L : List Od) (p : ByteArray) : Bool := L.any fun x => eqS x.o p
theorem l117 (hE : EnvOk E) (L : List Od) (p : ByteArray) (hm : L.length ≤ 9223372036854775807) : ∀ k i, k + i = L.length → ∀ j, OutK E 0 0 (q117 (odD L) [] (L.length) 0 i 0 0 (⟨#[]⟩) p 0 0 0 0 0 0 0 0 0 false false false false [] [] j) (Go.Ev.Ends E Tryz.f117 (iB (hasO (L.drop i) p)) [])
 | 0, i, hk, j => by
  rw [List.drop_eq_nil_of_le (by omega)]
  exact p117x hE (odD L) [] (L.length) 0 i 0 0 (⟨#[]⟩) p 0 0 0 0 0 0 0 0 0 false false false false [] [] (decide_eq_false (by (try simp only [Int.ofNat_eq_natCast]); omega)) (fun j => outK_ret (ends_ret (by kernel_rfl))) j
 | k + 1, i, hk, j => by
  have hl : i < L.length := by omega
  have hx : L[i]? = some L[i] := List.getElem?_eq_getElem hl
  rw [List.drop_eq_getElem_cons hl]
  generalize L[i] = x at hx
  cases he : eqS x.o p with
  | true =>
   rw [show hasO (x :: L.drop (i + 1)) p = true by unfold hasO; rw [List.any_cons, he, Bool.true_or]]
   exact p117e hE (odD L) [] (L.length) 0 i 0 0 (x.o) p (x.t) 0 0 0 0 0 0 0 0 false false true false [] [] (decide_eq_true (by (try simp only [Int.ofNat_eq_natCast]); omega)) ⟨by (try simp only [Int.ofNat_eq_natCast]); omega, by (try simp only [Int.ofNat_eq_natCast]); omega⟩ rfl (od_get hx) (by rw [show (x.o.toList == p.toList) = true from he]) (by first | rfl | omega | simp) (fun j => outK_ret (ends_ret (by kernel_rfl))) j
  | false =>
   rw [show hasO (x :: L.drop (i + 1)) p = hasO (L.drop (i + 1)) p by unfold hasO; rw [List.any_cons, he, Bool.false_or]]
   exact p117s hE (odD L) [] (L.length) 0 i 0 0 (x.o) p (x.t) 0 0 0 0 0 0 0 0 false false false false [] [] (decide_eq_true (by (try simp only [Int.ofNat_eq_natCast]); omega)) ⟨by (try simp only [Int.ofNat_eq_natCast]); omega, by (try simp only [Int.ofNat_eq_natCast]); omega⟩ rfl (od_get hx) (by rw [show (x.o.toList == p.toList) = false from he]) (by first | rfl | omega | simp) (iIe (by (try simp only [Int.ofNat_eq_natCast]); rw [wrap_id (by omega) (by omega)]; try omega)) (l117 hE L p hm k (i + 1) (by omega)) j
theorem K117 (hE : EnvOk E) (L : List Od) (p : ByteArray) (hm : L.length ≤ 9223372036854775807) : COut E 0 [] 117 [dOd L, .e (.one (.v (.string p)))] (iB (hasO L p)) [] :=
 cOut_start Tryz.func117 rfl (p117a hE (odD L) [] (L.length) 0 0 0 0 (⟨#[]⟩) p 0 0 0 0 0 0 0 0 0 false false false false [] [] (l117 hE L p hm L.length 0 rfl) fun _ => undef)
def resO (l : List Od) : AV := .e (.one (.slc 0 0 l.length 2 l.length false))
def resOh (l : List Od) (ty : Nat) : Heap := [some ⟨odC l, l.length * 2, ty, false, .cells⟩]
def nilA : AV := .e (.one (.v (.slice none 0 0)))
def behB (L : List Od) (x : Int) : Bool := match L.getLast? with | some y => decide (x < y.t) | none => false
def behE (L : List Od) (x : Int) : Int := if behB L x = true then 11 else 0
theorem last_get {L : List Od} {y : Od} (h : L.getLast? = some y) : L[L.length - 1]? = some y ∧ 0 < L.length := by
 rw [List.getLast?_eq_getElem?] at h
 exact ⟨h, by have := (List.getElem?_eq_some_iff.1 h).1; omega⟩
theorem A78v (hE : EnvOk E) (c : Bool) (e v : Int) (h : (if c = true then e else 0) = v) : COut E 0 [] 78 [iB c, iI e] (iI v) [] := by
 refine strI_cast (A78_all hE c e) ?_
 unfold A78_r0; rw [← h]; cases c <;> rfl
theorem K116 (hE : EnvOk E) (L : List Od) (x : Int) (hm : L.length ≤ 9223372036854775807) : COut E 0 [] 116 [dOd L, iI x] (iI (behE L x)) [] := by
 unfold behE behB
 cases hy : L.getLast? with
 | none =>
  have h0 : L.length = 0 := by rw [List.getLast?_eq_none_iff.1 hy]; rfl
  exact cOut_start Tryz.func116 rfl (p116z hE (odD L) [] (L.length) 0 0 0 0 (⟨#[]⟩) (⟨#[]⟩) 0 0 x 0 0 (0) 0 0 0 false false false false [] [] (by rw [show decide (Int.ofNat L.length > (0 : Int)) = false from decide_eq_false (by (try simp only [Int.ofNat_eq_natCast]); omega)]; rfl) (by rw [show decide (Int.ofNat L.length > (0 : Int)) = false from decide_eq_false (by (try simp only [Int.ofNat_eq_natCast]); omega)]; rfl) (by rw [show decide (Int.ofNat L.length > (0 : Int)) = false from decide_eq_false (by (try simp only [Int.ofNat_eq_natCast]); omega)]; rfl) (by rw [show decide (Int.ofNat L.length > (0 : Int)) = false from decide_eq_false (by (try simp only [Int.ofNat_eq_natCast]); omega)]; rfl) (by rw [show decide (Int.ofNat L.length > (0 : Int)) = false from decide_eq_false (by (try simp only [Int.ofNat_eq_natCast]); omega)]; rfl) (by rw [show decide (Int.ofNat L.length > (0 : Int)) = false from decide_eq_false (by (try simp only [Int.ofNat_eq_natCast]); omega)]; rfl) (by rw [show decide (Int.ofNat L.length > (0 : Int)) = false from decide_eq_false (by (try simp only [Int.ofNat_eq_natCast]); omega)]; rfl) (by rw [show decide (Int.ofNat L.length > (0 : Int)) = false from decide_eq_false (by (try simp only [Int.ofNat_eq_natCast]); omega)]; rfl) (decide_eq_false (by (try simp only [Int.ofNat_eq_natCast]); omega)) (A78v hE _ _ _ rfl) (fun j => outK_ret (ends_ret (by kernel_rfl))) fun _ => undef)
 | some y =>
  obtain ⟨hx, h0⟩ := last_get hy
  exact cOut_start Tryz.func116 rfl (p116 hE (odD L) [] (L.length) 0 0 (L.length - 1) 0 (⟨#[]⟩) (⟨#[]⟩) 0 (y.t) x 0 0 (if decide (x < y.t) = true then 11 else 0) 0 0 0 false false false false [] [] (by rw [show decide (Int.ofNat L.length > (0 : Int)) = true from decide_eq_true (by (try simp only [Int.ofNat_eq_natCast]); omega)]; rfl) (by rw [show decide (Int.ofNat L.length > (0 : Int)) = true from decide_eq_true (by (try simp only [Int.ofNat_eq_natCast]); omega)]; rfl) (by rw [show decide (Int.ofNat L.length > (0 : Int)) = true from decide_eq_true (by (try simp only [Int.ofNat_eq_natCast]); omega)]; rfl) (by rw [show decide (Int.ofNat L.length > (0 : Int)) = true from decide_eq_true (by (try simp only [Int.ofNat_eq_natCast]); omega)]; rfl) (iIe (by (try simp only [Int.ofNat_eq_natCast]); rw [wrap_id (by omega) (by omega)]; omega)) (by rw [show decide (Int.ofNat L.length > (0 : Int)) = true from decide_eq_true (by (try simp only [Int.ofNat_eq_natCast]); omega)]; rfl) ⟨by (try simp only [Int.ofNat_eq_natCast]); omega, by (try simp only [Int.ofNat_eq_natCast]); omega⟩ rfl (by rw [show decide (Int.ofNat L.length > (0 : Int)) = true from decide_eq_true (by (try simp only [Int.ofNat_eq_natCast]); omega)]; rfl) (by rw [show decide (Int.ofNat L.length > (0 : Int)) = true from decide_eq_true (by (try simp only [Int.ofNat_eq_natCast]); omega)]; rfl) (od_t hx) (by rw [show decide (Int.ofNat L.length > (0 : Int)) = true from decide_eq_true (by (try simp only [Int.ofNat_eq_natCast]); omega)]; rfl) (decide_eq_true (by (try simp only [Int.ofNat_eq_natCast]); omega)) (A78v hE _ _ _ rfl) (fun j => outK_ret (ends_ret (by kernel_rfl))) fun _ => undef)
theorem K120 (hE : EnvOk E) (a b : Bool) (L : List Od) (x : Int) (hm : L.length ≤ 9223372036854775807) : COut E 0 [] 120 [sw a b L, iI x] (iB (behB L x)) [] := by
 unfold behB
 cases hy : L.getLast? with
 | none =>
  have h0 : L.length = 0 := by rw [List.getLast?_eq_none_iff.1 hy]; rfl
  exact cOut_start Tryz.func120 rfl (p120z hE (odD L) [] (L.length) 0 0 0 0 (⟨#[]⟩) (⟨#[]⟩) 0 0 x 0 0 0 0 0 0 a b false false [] [] (by rw [show decide (((L.length : Nat) : Int) > (0 : Int)) = false from decide_eq_false (by (try simp only [Int.ofNat_eq_natCast]); omega)]; rfl) (by rw [show decide (((L.length : Nat) : Int) > (0 : Int)) = false from decide_eq_false (by (try simp only [Int.ofNat_eq_natCast]); omega)]; rfl) (by rw [show decide (((L.length : Nat) : Int) > (0 : Int)) = false from decide_eq_false (by (try simp only [Int.ofNat_eq_natCast]); omega)]; rfl) (by rw [show decide (((L.length : Nat) : Int) > (0 : Int)) = false from decide_eq_false (by (try simp only [Int.ofNat_eq_natCast]); omega)]; rfl) (by rw [show decide (((L.length : Nat) : Int) > (0 : Int)) = false from decide_eq_false (by (try simp only [Int.ofNat_eq_natCast]); omega)]; rfl) (by rw [show decide (((L.length : Nat) : Int) > (0 : Int)) = false from decide_eq_false (by (try simp only [Int.ofNat_eq_natCast]); omega)]; rfl) (by rw [show decide (((L.length : Nat) : Int) > (0 : Int)) = false from decide_eq_false (by (try simp only [Int.ofNat_eq_natCast]); omega)]; rfl) (by rw [show decide (((L.length : Nat) : Int) > (0 : Int)) = false from decide_eq_false (by (try simp only [Int.ofNat_eq_natCast]); omega)]; rfl) (by rw [show decide (((L.length : Nat) : Int) > (0 : Int)) = false from decide_eq_false (by (try simp only [Int.ofNat_eq_natCast]); omega)]; rfl) (by rw [show decide (((L.length : Nat) : Int) > (0 : Int)) = false from decide_eq_false (by (try simp only [Int.ofNat_eq_natCast]); omega)]; rfl) (by rw [show decide (((L.length : Nat) : Int) > (0 : Int)) = false from decide_eq_false (by (try simp only [Int.ofNat_eq_natCast]); omega)]; rfl) (decide_eq_false (by (try simp only [Int.ofNat_eq_natCast]); omega)) (fun j => outK_ret (ends_ret (by kernel_rfl))) fun _ => undef)
 | some y =>
  obtain ⟨hx, h0⟩ := last_get hy
  exact cOut_start Tryz.func120 rfl (p120 hE (odD L) [] (L.length) 0 0 (L.length - 1) 0 (⟨#[]⟩) (⟨#[]⟩) 0 (y.t) x 0 0 0 0 0 0 a b false false [] [] (by rw [show decide (((L.length : Nat) : Int) > (0 : Int)) = true from decide_eq_true (by (try simp only [Int.ofNat_eq_natCast]); omega)]; rfl) (by rw [show decide (((L.length : Nat) : Int) > (0 : Int)) = true from decide_eq_true (by (try simp only [Int.ofNat_eq_natCast]); omega)]; rfl) (by rw [show decide (((L.length : Nat) : Int) > (0 : Int)) = true from decide_eq_true (by (try simp only [Int.ofNat_eq_natCast]); omega)]; rfl) (by rw [show decide (((L.length : Nat) : Int) > (0 : Int)) = true from decide_eq_true (by (try simp only [Int.ofNat_eq_natCast]); omega)]; rfl) (by rw [show decide (((L.length : Nat) : Int) > (0 : Int)) = true from decide_eq_true (by (try simp only [Int.ofNat_eq_natCast]); omega)]; rfl) (by rw [show decide (((L.length : Nat) : Int) > (0 : Int)) = true from decide_eq_true (by (try simp only [Int.ofNat_eq_natCast]); omega)]; rfl) (by rw [show decide (((L.length : Nat) : Int) > (0 : Int)) = true from decide_eq_true (by (try simp only [Int.ofNat_eq_natCast]); omega)]; rfl) (iIe (by (try simp only [Int.ofNat_eq_natCast]); rw [wrap_id (by omega) (by omega)]; omega)) (by rw [show decide (((L.length : Nat) : Int) > (0 : Int)) = true from decide_eq_true (by (try simp only [Int.ofNat_eq_natCast]); omega)]; rfl) ⟨by (try simp only [Int.ofNat_eq_natCast]); omega, by (try simp only [Int.ofNat_eq_natCast]); omega⟩ rfl (by rw [show decide (((L.length : Nat) : Int) > (0 : Int)) = true from decide_eq_true (by (try simp only [Int.ofNat_eq_natCast]); omega)]; rfl) (by rw [show decide (((L.length : Nat) : Int) > (0 : Int)) = true from decide_eq_true (by (try simp only [Int.ofNat_eq_natCast]); omega)]; rfl) (od_t hx) (by rw [show decide (((L.length : Nat) : Int) > (0 : Int)) = true from decide_eq_true (by (try simp only [Int.ofNat_eq_natCast]); omega)]; rfl) (decide_eq_true (by (try simp only [Int.ofNat_eq_natCast]); omega)) (fun j => outK_ret (ends_ret (by kernel_rfl))) fun _ => undef)
def shE (L : List Od) : Bool := L.all fun x => decide (x.o.size ≤ 40)
def shortS (L : List Od) : Bool := decide (L.length ≤ 9) && shE L
theorem l51 (hE : EnvOk E) (a b : Bool) (L : List Od) (hm : L.length ≤ 9223372036854775807) : ∀ k i, k + i = L.length → ∀ j, OutK E 0 0 (q51 (odD L) [] (L.length) 0 i 0 0 (⟨#[]⟩) (⟨#[]⟩) 0 0 0 0 0 0 0 0 0 a b false false [] [] j) (Go.Ev.Ends E Tryz.f51 (iB (shE (L.drop i))) [])
 | 0, i, hk, j => by
  rw [List.drop_eq_nil_of_le (by omega)]
  exact p51x hE (odD L) [] (L.length) 0 i 0 0 (⟨#[]⟩) (⟨#[]⟩) 0 0 0 0 0 0 0 0 0 a b false false [] [] (decide_eq_false (by (try simp only [Int.ofNat_eq_natCast]); omega)) (fun j => outK_ret (ends_ret (by kernel_rfl))) j
 | k + 1, i, hk, j => by
  have hl : i < L.length := by omega
  have hx : L[i]? = some L[i] := List.getElem?_eq_getElem hl
  rw [List.drop_eq_getElem_cons hl]
  generalize L[i] = x at hx
  by_cases h : x.o.size ≤ 40
  ·rw [show shE (x :: L.drop (i + 1)) = shE (L.drop (i + 1)) by unfold shE; rw [List.all_cons, decide_eq_true h, Bool.true_and]]
   exact p51s hE (odD L) [] (L.length) 0 i 0 0 (x.o) (⟨#[]⟩) (x.t) 0 (Int.ofNat x.o.size) 0 0 0 0 0 0 (a) (b) false false [] [] (decide_eq_true (by (try simp only [Int.ofNat_eq_natCast]); omega)) ⟨by (try simp only [Int.ofNat_eq_natCast]); omega, by (try simp only [Int.ofNat_eq_natCast]); omega⟩ rfl (od_o hx) rfl (decide_eq_false (by (try simp only [Int.ofNat_eq_natCast]); omega)) (iIe (by (try simp only [Int.ofNat_eq_natCast]); rw [wrap_id (by omega) (by omega)]; try omega)) (l51 hE a b L hm k (i + 1) (by omega)) j
  ·rw [show shE (x :: L.drop (i + 1)) = false by unfold shE; rw [List.all_cons, decide_eq_false h, Bool.false_and]]
   exact p51e hE (odD L) [] (L.length) 0 i 0 0 (x.o) (⟨#[]⟩) (x.t) 0 (Int.ofNat x.o.size) 0 0 0 0 0 0 (a) (b) false false [] [] (decide_eq_true (by (try simp only [Int.ofNat_eq_natCast]); omega)) ⟨by (try simp only [Int.ofNat_eq_natCast]); omega, by (try simp only [Int.ofNat_eq_natCast]); omega⟩ rfl (od_o hx) rfl (decide_eq_true (by (try simp only [Int.ofNat_eq_natCast]); omega)) (fun j => outK_ret (ends_ret (by kernel_rfl))) j
theorem K51 (hE : EnvOk E) (a b : Bool) (L : List Od) (hm : L.length ≤ 9223372036854775807) : COut E 0 [] 51 [sw a b L] (iB (shortS L)) [] := by
 unfold shortS
 by_cases h : L.length ≤ 9
 ·rw [decide_eq_true h, Bool.true_and]
  exact cOut_start Tryz.func51 rfl (p51a hE (odD L) [] (L.length) 0 0 0 0 (⟨#[]⟩) (⟨#[]⟩) 0 0 0 0 0 0 0 0 0 a b false false [] [] (decide_eq_false (by (try simp only [Int.ofNat_eq_natCast]); omega)) (l51 hE a b L hm L.length 0 rfl) fun _ => undef)
 ·rw [decide_eq_false h, Bool.false_and]
  exact cOut_start Tryz.func51 rfl (p51z hE (odD L) [] (L.length) 0 0 0 0 (⟨#[]⟩) (⟨#[]⟩) 0 0 0 0 0 0 0 0 0 a b false false [] [] (decide_eq_true (by (try simp only [Int.ofNat_eq_natCast]); omega)) (fun j => outK_ret (ends_ret (by kernel_rfl))) fun _ => undef)
def resS (a b : Bool) (l : List Od) : AV := .e (.agg [.v (.bool a), .v (.bool b), .slc 1 0 l.length 2 l.length false])
def resSh (a b : Bool) (l : List Od) (ty el : Nat) : Heap := [some ⟨[.v (.bool a), .v (.bool b), .slc 1 0 l.length 2 l.length false], 3, ty, true, .cells⟩, some ⟨odC l, l.length * 2, el, false, .cells⟩]
theorem l53 (hE : EnvOk E) (a b : Bool) (L : List Od) (hm : L.length ≤ 100000) : ∀ k i, k + i = L.length → ∀ (o : List Od), o.length ≤ i → ∀ j, OutK E 0 0 (q53 (odD L) [] (L.length) 0 i 0 (o.length) (⟨#[]⟩) (⟨#[]⟩) 0 0 0 0 0 0 0 0 0 a b false false (odC o) [] j) (Go.Ev.Ends E Tryz.f53 (resS a b (o ++ L.drop i)) (resSh a b (o ++ L.drop i) 102 134))
 | 0, i, hk, o, ho, j => by
  rw [List.drop_eq_nil_of_le (by omega), List.append_nil]
  exact p53x hE (odD L) [] (L.length) 0 i 0 (o.length) (⟨#[]⟩) (⟨#[]⟩) 0 0 0 0 0 0 0 0 0 a b false false (odC o) [] (decide_eq_false (by (try simp only [Int.ofNat_eq_natCast]); omega)) (flat_rows _) (fun j => outK_ret (ends_ret (by kernel_rfl))) j
 | k + 1, i, hk, o, ho, j => by
  have hl : i < L.length := by omega
  have hx : L[i]? = some L[i] := List.getElem?_eq_getElem hl
  rw [List.drop_eq_getElem_cons hl]
  generalize L[i] = x at hx
  have ih := l53 hE a b L hm k (i + 1) (by omega) (o ++ [x]) (by simp; omega)
  rw [show o ++ x :: L.drop (i + 1) = o ++ [x] ++ L.drop (i + 1) by simp]
  rw [show (o ++ [x]).length = o.length + 1 by simp] at ih
  exact p53s hE (odD L) [] (L.length) 0 i 0 (o.length) (x.o) (⟨#[]⟩) (x.t) 0 0 0 0 0 0 0 0 a b false false (odC o) (odC (o ++ [x])) (decide_eq_true (by (try simp only [Int.ofNat_eq_natCast]); omega)) ⟨by (try simp only [Int.ofNat_eq_natCast]); omega, by (try simp only [Int.ofNat_eq_natCast]); omega⟩ rfl (od_get hx) (by omega) (by simp [small]; omega) (by first | rfl | omega | simp) (rows_app (f := Od.d) o x) (by first | rfl | omega | simp) (iIe (by (try simp only [Int.ofNat_eq_natCast]); rw [wrap_id (by omega) (by omega)]; try omega)) (flat_rows _) ih j
theorem K53 (hE : EnvOk E) (a b : Bool) (L : List Od) (hm : L.length ≤ 100000) : COut E 0 [] 53 [sw a b L] (sw a b L) [] := by
 rcases L with _ | ⟨x, L⟩
 ·exact cOut_clear (agg_wk (l := [.v (.bool a), .v (.bool b), .v (.slice none 0 0)]) (cOut_start Tryz.func53 rfl (p53a hE (odD []) [] (0) 0 0 0 0 (⟨#[]⟩) (⟨#[]⟩) 0 0 0 0 0 0 0 0 0 a b false false [] [] (p53z hE (odD []) [] (0) 0 (0) 0 0 (⟨#[]⟩) (⟨#[]⟩) 0 0 0 0 0 0 0 0 0 a b false false [] [] (by decide) (fun j => outK_ret (ends_ret (by kernel_rfl)))) fun _ => undef)) fun m => ⟨fun _ h => h, fun _ h => h, wkNc m 2, trivial⟩) rfl
 ·have hx : (x :: L)[0]? = some x := rfl
  have hc : COut E 0 [] 53 [sw a b (x :: L)] (resS a b (x :: L)) (resSh a b (x :: L) 102 134) :=
   cOut_start Tryz.func53 rfl (p53a hE (odD (x :: L)) [] ((x :: L).length) 0 0 0 0 (⟨#[]⟩) (⟨#[]⟩) 0 0 0 0 0 0 0 0 0 a b false false [] [] (p53n hE (odD (x :: L)) [] ((x :: L).length) 0 (0) 0 0 (x.o) (⟨#[]⟩) (x.t) 0 0 0 0 0 0 0 0 a b false false [] [] (decide_eq_true (by simp)) ⟨by simp, by simp⟩ rfl (od_get hx) (iIe (by (try simp only [Int.ofNat_eq_natCast]); rw [wrap_id (by omega) (by omega)]; try omega)) (l53 hE a b (x :: L) hm L.length 1 rfl [x] (Nat.le_refl _))) fun _ => undef)
  exact cOut_clear (cOut_freeze 1 hc rfl (Nat.zero_le _) (ds := odD (x :: L)) ⟨.inl rfl, .inl rfl, frzAll _ _ 2 _ _ (odD_len _), trivial⟩) rfl
theorem l124 (hE : EnvOk E) (a b : Bool) (L : List Od) (hm : L.length ≤ 100000) : ∀ k i, k + i = L.length → ∀ (o : List Od), o.length ≤ i → ∀ j, OutK E 0 0 (q124 (odD L) [] (L.length) 0 i 0 (o.length) (⟨#[]⟩) (⟨#[]⟩) 0 0 0 0 0 0 0 0 0 a b false false (odC o) [] j) (Go.Ev.Ends E Tryz.f124 (resS a b (o ++ L.drop i)) (resSh a b (o ++ L.drop i) 98 174))
 | 0, i, hk, o, ho, j => by
  rw [List.drop_eq_nil_of_le (by omega), List.append_nil]
  exact p124x hE (odD L) [] (L.length) 0 i 0 (o.length) (⟨#[]⟩) (⟨#[]⟩) 0 0 0 0 0 0 0 0 0 a b false false (odC o) [] (decide_eq_false (by (try simp only [Int.ofNat_eq_natCast]); omega)) (flat_rows _) (fun j => outK_ret (ends_ret (by kernel_rfl))) j
 | k + 1, i, hk, o, ho, j => by
  have hl : i < L.length := by omega
  have hx : L[i]? = some L[i] := List.getElem?_eq_getElem hl
  rw [List.drop_eq_getElem_cons hl]
  generalize L[i] = x at hx
  have ih := l124 hE a b L hm k (i + 1) (by omega) (o ++ [x]) (by simp; omega)
  rw [show o ++ x :: L.drop (i + 1) = o ++ [x] ++ L.drop (i + 1) by simp]
  rw [show (o ++ [x]).length = o.length + 1 by simp] at ih
  exact p124s hE (odD L) [] (L.length) 0 i 0 (o.length) (x.o) (⟨#[]⟩) (x.t) 0 0 0 0 0 0 0 0 a b false false (odC o) (odC (o ++ [x])) (decide_eq_true (by (try simp only [Int.ofNat_eq_natCast]); omega)) ⟨by (try simp only [Int.ofNat_eq_natCast]); omega, by (try simp only [Int.ofNat_eq_natCast]); omega⟩ rfl (od_get hx) (by omega) (by simp [small]; omega) (by first | rfl | omega | simp) (rows_app (f := Od.d) o x) (by first | rfl | omega | simp) (iIe (by (try simp only [Int.ofNat_eq_natCast]); rw [wrap_id (by omega) (by omega)]; try omega)) (flat_rows _) ih j
theorem K124 (hE : EnvOk E) (a b : Bool) (L : List Od) (hm : L.length ≤ 100000) : COut E 0 [] 124 [sw a b L] (sw a b L) [] := by
 rcases L with _ | ⟨x, L⟩
 ·exact cOut_clear (agg_wk (l := [.v (.bool a), .v (.bool b), .v (.slice none 0 0)]) (cOut_start Tryz.func124 rfl (p124a hE (odD []) [] (0) 0 0 0 0 (⟨#[]⟩) (⟨#[]⟩) 0 0 0 0 0 0 0 0 0 a b false false [] [] (p124z hE (odD []) [] (0) 0 (0) 0 0 (⟨#[]⟩) (⟨#[]⟩) 0 0 0 0 0 0 0 0 0 a b false false [] [] (by decide) (fun j => outK_ret (ends_ret (by kernel_rfl)))) fun _ => undef)) fun m => ⟨fun _ h => h, fun _ h => h, wkNc m 2, trivial⟩) rfl
 ·have hx : (x :: L)[0]? = some x := rfl
  have hc : COut E 0 [] 124 [sw a b (x :: L)] (resS a b (x :: L)) (resSh a b (x :: L) 98 174) :=
   cOut_start Tryz.func124 rfl (p124a hE (odD (x :: L)) [] ((x :: L).length) 0 0 0 0 (⟨#[]⟩) (⟨#[]⟩) 0 0 0 0 0 0 0 0 0 a b false false [] [] (p124n hE (odD (x :: L)) [] ((x :: L).length) 0 (0) 0 0 (x.o) (⟨#[]⟩) (x.t) 0 0 0 0 0 0 0 0 a b false false [] [] (decide_eq_true (by simp)) ⟨by simp, by simp⟩ rfl (od_get hx) (iIe (by (try simp only [Int.ofNat_eq_natCast]); rw [wrap_id (by omega) (by omega)]; try omega)) (l124 hE a b (x :: L) hm L.length 1 rfl [x] (Nat.le_refl _))) fun _ => undef)
  exact cOut_clear (cOut_freeze 1 hc rfl (Nat.zero_le _) (ds := odD (x :: L)) ⟨.inl rfl, .inl rfl, frzAll _ _ 2 _ _ (odD_len _), trivial⟩) rfl
theorem u174_ : Tryz.prog.underlying 174 = some (.struct (Tryz.prog.fieldsOf 174)) := by kernel_rfl
theorem u9_ : Tryz.prog.underlying 9 = some .string := by kernel_rfl
theorem eqOd (x : Od) : EqOk E 174 [.v (.string x.o), .v (.int .i64 x.t)] [.v (.string x.o), .v (.int .i64 x.t)] true := by
 intro mm c1 c2 w g1 g2
 have e1 : c1 = #[.string x.o, .int .i64 x.t] := by rw [← Array.toList_inj]; exact cells_of (l := [.string x.o, .int .i64 x.t]) g1
 have e2 : c2 = #[.string x.o, .int .i64 x.t] := by rw [← Array.toList_inj]; exact cells_of (l := [.string x.o, .int .i64 x.t]) g2
 subst e1 e2
 show (Op.equalIn 10000 174 _ _).run Tryz.prog w = _
 rw [show (10000 : Nat) = 9999 + 1 from rfl, run_equalIn_struct w 9999 174 _ _ u174_ (by kernel_rfl)]
 have hfs : (Tryz.prog.fieldsOf 174).toList.map (fun f => (f.name == "_", f.type, f.offset)) = [(false, 9, 0), (false, 3, 1)] := by kernel_rfl
 generalize (Tryz.prog.fieldsOf 174).toList = fs at hfs
 rcases fs with _ | ⟨f0, _ | ⟨f1, _ | ⟨f2, r⟩⟩⟩
 ·simp at hfs
 ·simp at hfs
 ·simp only [List.map_cons, List.map_nil, List.cons.injEq, Prod.mk.injEq, and_true] at hfs
  obtain ⟨⟨a0, a1, a2⟩, b0, b1, b2⟩ := hfs
  have p0 : (part 9 #[.string x.o, .int .i64 x.t] 0).run Tryz.prog w = .ok (.string x.o) w := by simp [part, isAgg, run_underlying u9_]
  have p1 : (part 3 #[.string x.o, .int .i64 x.t] 1).run Tryz.prog w = .ok (.int .i64 x.t) w := by simp [part, isAgg, run_underlying u3_]
  have q9 : (Op.equalIn 9999 9 (.string x.o) (.string x.o)).run Tryz.prog w = .ok (x.o.toList == x.o.toList) w := by
   rw [show (9999 : Nat) = 9998 + 1 from rfl]
   exact run_equalIn_string w 9998 9 x.o x.o u9_
  rw [eq_step Tryz.prog w (by simpa using a0) a1 a2 p0 p0 q9, beq_self_eq_true, if_pos rfl, eq_step Tryz.prog w (by simpa using b0) b1 b2 p1 p1 (q3_ w x.t x.t), beq_self_eq_true, if_pos rfl, eq_nil]
 ·simp at hfs
theorem l123 (hE : EnvOk E) (a b : Bool) (L : List Od) (hm : L.length ≤ 9223372036854775807) : ∀ k i, k + i = L.length → ∀ j, OutK E 0 0 (q123 (odD L) (odD L) (L.length) (L.length) i 0 0 (⟨#[]⟩) (⟨#[]⟩) 0 0 0 0 0 0 0 0 0 a b a b [] [] j) (Go.Ev.Ends E Tryz.f123 (iB true) [])
 | 0, i, hk, j => by
  exact p123x hE (odD L) (odD L) (L.length) (L.length) i 0 0 (⟨#[]⟩) (⟨#[]⟩) 0 0 0 0 0 0 0 0 0 a b a b [] [] (decide_eq_false (by (try simp only [Int.ofNat_eq_natCast]); omega)) (fun j => outK_ret (ends_ret (by kernel_rfl))) j
 | k + 1, i, hk, j => by
  have hl : i < L.length := by omega
  have hx : L[i]? = some L[i] := List.getElem?_eq_getElem hl
  generalize L[i] = x at hx
  exact p123s hE (odD L) (odD L) (L.length) (L.length) i 0 0 (x.o) (⟨#[]⟩) (x.t) 0 0 0 0 0 0 0 0 a b a b [] [] (decide_eq_true (by (try simp only [Int.ofNat_eq_natCast]); omega)) ⟨by (try simp only [Int.ofNat_eq_natCast]); omega, by (try simp only [Int.ofNat_eq_natCast]); omega⟩ rfl (od_get hx) ⟨by (try simp only [Int.ofNat_eq_natCast]); omega, by (try simp only [Int.ofNat_eq_natCast]); omega⟩ rfl (od_get hx) (eqOd x) (iIe (by (try simp only [Int.ofNat_eq_natCast]); rw [wrap_id (by omega) (by omega)]; try omega)) (l123 hE a b L hm k (i + 1) (by omega)) j
theorem K123 (hE : EnvOk E) (a b : Bool) (L : List Od) (hm : L.length ≤ 9223372036854775807) : COut E 0 [] 123 [sw a b L, sw a b L] (iB true) [] :=
 cOut_start Tryz.func123 rfl (p123a hE (odD L) (odD L) (L.length) (L.length) 0 0 0 (⟨#[]⟩) (⟨#[]⟩) 0 0 0 0 0 0 0 0 0 a b a b [] [] (by simp) (by simp) (by simp) (by simp) (by simp) (by simp) (by simp) (by simp) (by simp) (by simp) (by simp) (by simp) (by simp) (by simp) (by simp) (l123 hE a b L hm L.length 0 rfl) fun _ => undef)
end
end Go.Proofs.YtmefachijohnhaaGreatDoor
end
