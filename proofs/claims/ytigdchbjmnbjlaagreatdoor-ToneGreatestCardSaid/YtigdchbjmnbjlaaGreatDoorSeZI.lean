/-
  Part of the proof: SeMx, SeMb, SeTb, SeTc, SeTd, SeTe, SeTf, SeTh, SeTg, SeTi, SeGa, SeGw, SeMc.
-/
import Derived.Test.YtigdchbjmnbjlaaGreatDoorSeZH

/-! SeMx -/
section
open Go Go.Ev
namespace Go.Proofs.YtigdchbjmnbjlaaGreatDoor
set_option maxRecDepth 100000
namespace Best
def cmpL : List Int → List Int → Int
 | [], [] => 0
 | [], _ :: _ => -1
 | _ :: _, [] => 1
 | a :: l, b :: r => if a < b then -1 else if b < a then 1 else cmpL l r
def ltL (a b : List Int) : Prop := cmpL a b < 0
theorem cmp_self : ∀ l : List Int, cmpL l l = 0
 | [] => rfl
 | a :: l => by unfold cmpL; rw [if_neg (by omega), if_neg (by omega)]; exact cmp_self l
theorem cmp_eq : ∀ {l r : List Int}, cmpL l r = 0 → l = r
 | [], [], _ => rfl
 | [], _ :: _, h => by simp [cmpL] at h
 | _ :: _, [], h => by simp [cmpL] at h
 | a :: l, b :: r, h => by
  unfold cmpL at h
  by_cases h1 : a < b
  ·rw [if_pos h1] at h; omega
  ·rw [if_neg h1] at h
   by_cases h2 : b < a
   ·rw [if_pos h2] at h; omega
   ·rw [if_neg h2] at h
    rw [cmp_eq h, show a = b by omega]
theorem lt_trans : ∀ {a b c : List Int}, ltL a b → ltL b c → ltL a c
 | [], [], c, h, _ => by simp [ltL, cmpL] at h
 | [], _ :: _, [], _, h => by simp [ltL, cmpL] at h
 | [], _ :: _, _ :: _, _, _ => by simp [ltL, cmpL]
 | _ :: _, [], c, h, _ => by simp [ltL, cmpL] at h
 | _ :: _, _ :: _, [], _, h => by simp [ltL, cmpL] at h
 | a :: l, b :: r, c :: s, h, g => by
  unfold ltL cmpL at h g ⊢
  by_cases h1 : a < b
  ·by_cases g1 : b < c
   ·rw [if_pos (by omega)]; omega
   ·rw [if_neg g1] at g
    by_cases g2 : c < b
    ·rw [if_pos g2] at g; omega
    ·rw [if_pos (by omega)]; omega
  ·rw [if_neg h1] at h
   by_cases h2 : b < a
   ·rw [if_pos h2] at h; omega
   ·rw [if_neg h2] at h
    obtain rfl : a = b := by omega
    by_cases g1 : a < c
    ·rw [if_pos g1]; omega
    ·rw [if_neg g1] at g ⊢
     by_cases g2 : c < a
     ·rw [if_pos g2] at g; omega
     ·rw [if_neg g2] at g ⊢
      exact lt_trans (a := l) (b := r) (c := s) h g
theorem lt_anti {a b : List Int} (h : ltL a b) (g : ltL b a) : False := by
 have := lt_trans h g
 unfold ltL at this
 rw [cmp_self] at this
 omega
theorem gt_of : ∀ {a b : List Int}, 0 < cmpL a b → ltL b a
 | [], [], h => by simp [cmpL] at h
 | [], _ :: _, h => by simp [cmpL] at h
 | _ :: _, [], _ => by simp [ltL, cmpL]
 | a :: l, b :: r, h => by
  unfold ltL
  unfold cmpL at h ⊢
  by_cases h1 : a < b
  ·rw [if_pos h1] at h; omega
  ·rw [if_neg h1] at h
   by_cases h2 : b < a
   ·rw [if_pos h2]; omega
   ·rw [if_neg h2] at h ⊢
    rw [if_neg h1]
    exact gt_of h
theorem lt_or (a b : List Int) : ltL a b ∨ a = b ∨ ltL b a := by
 by_cases h : cmpL a b < 0
 ·exact .inl h
 ·by_cases g : cmpL a b = 0
  ·exact .inr (.inl (cmp_eq g))
  ·exact .inr (.inr (gt_of (by omega)))
theorem lt_app : ∀ {a b : List Int} (x y : Int), a.length = b.length → ltL a b → ltL (a ++ [x]) (b ++ [y])
 | [], [], _, _, _, h => by simp [ltL, cmpL] at h
 | a :: l, b :: r, x, y, hl, h => by
  unfold ltL at h ⊢
  rw [List.cons_append, List.cons_append]
  unfold cmpL at h ⊢
  by_cases h1 : a < b
  ·rw [if_pos h1]; omega
  ·rw [if_neg h1] at h ⊢
   by_cases h2 : b < a
   ·rw [if_pos h2] at h; omega
   ·rw [if_neg h2] at h ⊢
    exact lt_app x y (by simpa using hl) h
theorem lt_last : ∀ (a : List Int) {x y : Int}, x < y → ltL (a ++ [x]) (a ++ [y])
 | [], x, y, h => by simp [ltL, cmpL, h]
 | a :: l, x, y, h => by
  unfold ltL
  rw [List.cons_append, List.cons_append]
  unfold cmpL
  rw [if_neg (by omega), if_neg (by omega)]
  exact lt_last l h
def leP (p q : List Int × Int) : Prop := p.2 < q.2 ∨ p.2 = q.2 ∧ (p.1 = q.1 ∨ ltL p.1 q.1)
theorem le_refl (p : List Int × Int) : leP p p := .inr ⟨rfl, .inl rfl⟩
theorem le_trans {p q r : List Int × Int} (h : leP p q) (g : leP q r) : leP p r := by
 rcases h with h | ⟨h1, h2⟩ <;> rcases g with g | ⟨g1, g2⟩
 ·exact .inl (by omega)
 ·exact .inl (by omega)
 ·exact .inl (by omega)
 ·refine .inr ⟨by omega, ?_⟩
  rcases h2 with h2 | h2 <;> rcases g2 with g2 | g2
  ·exact .inl (h2.trans g2)
  ·exact .inr (h2 ▸ g2)
  ·exact .inr (g2 ▸ h2)
  ·exact .inr (lt_trans h2 g2)
theorem le_anti {p q : List Int × Int} (h : leP p q) (g : leP q p) : p = q := by
 rcases h with h | ⟨h1, h2⟩ <;> rcases g with g | ⟨g1, g2⟩ <;> try omega
 rcases h2 with h2 | h2
 ·exact Prod.ext h2 h1
 ·rcases g2 with g2 | g2
  ·exact Prod.ext g2.symm h1
  ·exact (lt_anti h2 g2).elim
def befB (x y : List Int × Int) : Bool := decide (x.2 < y.2) || (decide (x.2 = y.2) && decide (cmpL x.1 y.1 < 0))
theorem bef_le {x y : List Int × Int} (h : befB x y = true) : leP x y := by
 unfold befB at h
 rw [Bool.or_eq_true, Bool.and_eq_true, decide_eq_true_eq, decide_eq_true_eq, decide_eq_true_eq] at h
 rcases h with h | ⟨h1, h2⟩
 ·exact .inl h
 ·exact .inr ⟨h1, .inr h2⟩
theorem bef_ge {x y : List Int × Int} (h : befB x y = false) : leP y x := by
 unfold befB at h
 rw [Bool.or_eq_false_iff, Bool.and_eq_false_iff, decide_eq_false_iff_not, decide_eq_false_iff_not, decide_eq_false_iff_not] at h
 by_cases e : x.2 = y.2
 ·refine .inr ⟨e.symm, ?_⟩
  have : ¬ cmpL x.1 y.1 < 0 := h.2.resolve_left (fun a => a e)
  rcases lt_or x.1 y.1 with g | g | g
  ·exact (this g).elim
  ·exact .inl g.symm
  ·exact .inr g
 ·exact .inl (by omega)
theorem le_app {p q : List Int × Int} (hl : p.1.length = q.1.length) (h : leP p q) (b c : Int) : leP (p.1 ++ [b], p.2 + c) (q.1 ++ [b], q.2 + c) := by
 rcases h with h | ⟨h1, h2⟩
 ·exact .inl (show p.2 + c < q.2 + c by omega)
 ·refine .inr ⟨show p.2 + c = q.2 + c by omega, ?_⟩
  rcases h2 with h2 | h2
  ·exact .inl (by rw [h2])
  ·exact .inr (lt_app b b hl h2)
def extM (row : List Int) (out : List (List Int × Int)) : List (List Int × Int) := out.flatMap fun m => (List.range row.length).map fun b => (m.1 ++ [Int.ofNat b], m.2 + (row[b]?).getD 0)
def allM (rows : List (List Int)) : List (List Int × Int) := rows.foldl (fun o r => extM r o) [([], 0)]
theorem mem_ext {row : List Int} {out : List (List Int × Int)} {x : List Int × Int} : x ∈ extM row out ↔ ∃ m ∈ out, ∃ b, b < row.length ∧ x = (m.1 ++ [Int.ofNat b], m.2 + (row[b]?).getD 0) := by
 unfold extM
 rw [List.mem_flatMap]
 constructor
 ·rintro ⟨m, hm, hx⟩
  obtain ⟨b, hb, rfl⟩ := List.mem_map.1 hx
  exact ⟨m, hm, b, List.mem_range.1 hb, rfl⟩
 ·rintro ⟨m, hm, b, hb, rfl⟩
  exact ⟨m, hm, List.mem_map.2 ⟨b, List.mem_range.2 hb, rfl⟩⟩
theorem ext_len {row : List Int} {out : List (List Int × Int)} {n : Nat} (h : ∀ m ∈ out, m.1.length = n) : ∀ m ∈ extM row out, m.1.length = n + 1 := by
 intro x hx
 obtain ⟨m, hm, b, _, rfl⟩ := mem_ext.1 hx
 simp [h m hm]
def ordM (out : List (List Int × Int)) : Prop := out.Pairwise fun a b => ltL a.1 b.1
theorem ext_ord {row : List Int} {n : Nat} : ∀ {out : List (List Int × Int)}, (∀ m ∈ out, m.1.length = n) → ordM out → ordM (extM row out)
 | [], _, _ => List.Pairwise.nil
 | m :: out, hl, h => by
  obtain ⟨h1, h2⟩ := List.pairwise_cons.1 h
  show ordM ((List.range row.length).map (fun b => (m.1 ++ [Int.ofNat b], m.2 + (row[b]?).getD 0)) ++ extM row out)
  refine List.pairwise_append.2 ⟨?_, ext_ord (fun x hx => hl x (List.mem_cons_of_mem _ hx)) h2, ?_⟩
  ·rw [List.pairwise_map]
   exact (List.pairwise_lt_range).imp fun {a b} hab => lt_last m.1 (by simp only [Int.ofNat_eq_natCast]; omega)
  ·intro x hx y hy
   obtain ⟨b, _, rfl⟩ := List.mem_map.1 hx
   obtain ⟨m', hm', b', _, rfl⟩ := mem_ext.1 hy
   exact lt_app _ _ ((hl m (List.mem_cons_self ..)).trans (hl m' (List.mem_cons_of_mem _ hm')).symm) (h1 m' hm')
def tot : List Int → Int
 | [] => 0
 | x :: r => x + tot r
theorem tot_app (l : List Int) (x : Int) : tot (l ++ [x]) = tot l + x := by
 induction l with
 | nil => simp [tot]
 | cons a l ih => simp only [List.cons_append, tot, ih]; omega
structure BestOf (out best : List (List Int × Int)) : Prop where
 len : ∃ n, ∀ m ∈ out, m.1.length = n
 ne : 0 < best.length
 mem : ∀ k x, best[k]? = some x → x ∈ out ∧ tot x.1 = Int.ofNat k
 all : ∀ m ∈ out, ∃ k x, tot m.1 = Int.ofNat k ∧ best[k]? = some x ∧ leP x m
def putO (o : Option (List Int × Int)) (x : List Int × Int) : Option (List Int × Int) := match o with
 | none => some x
 | some y => if befB x y = true then some x else some y
def setO (l : List (Option (List Int × Int))) (k : Nat) (x : List Int × Int) : List (Option (List Int × Int)) := l.set k (putO ((l[k]?).getD none) x)
def rowO (row : List Int) (head : List Int × Int) (n : Nat) : Nat → List (Option (List Int × Int)) → List (Option (List Int × Int))
 | 0, l => l
 | b + 1, l => setO (rowO row head n b l) (n + b) (head.1 ++ [Int.ofNat b], head.2 + (row[b]?).getD 0)
def headO (row : List Int) (best : List (List Int × Int)) : Nat → List (Option (List Int × Int))
 | 0 => List.replicate (best.length + row.length - 1) none
 | n + 1 => rowO row ((best[n]?).getD ([], 0)) n row.length (headO row best n)
theorem setO_len (l : List (Option (List Int × Int))) (k : Nat) (x : List Int × Int) : (setO l k x).length = l.length := by unfold setO; exact List.length_set
theorem rowO_len (row : List Int) (head : List Int × Int) (n : Nat) (l : List (Option (List Int × Int))) : ∀ b, (rowO row head n b l).length = l.length
 | 0 => rfl
 | b + 1 => by unfold rowO; rw [setO_len, rowO_len row head n l b]
theorem headO_len (row : List Int) (best : List (List Int × Int)) : ∀ n, (headO row best n).length = best.length + row.length - 1
 | 0 => List.length_replicate
 | n + 1 => by unfold headO; rw [rowO_len, headO_len row best n]
def okO (S : Nat → List Int × Int → Prop) (l : List (Option (List Int × Int))) : Prop := ∀ k, k < l.length → (∀ x, l[k]? = some (some x) → S k x) ∧ (∀ x, S k x → ∃ y, l[k]? = some (some y) ∧ leP y x)
theorem setO_ok {S : Nat → List Int × Int → Prop} {l : List (Option (List Int × Int))} (h : okO S l) {k : Nat} (hk : k < l.length) (x : List Int × Int) : okO (fun i y => S i y ∨ i = k ∧ y = x) (setO l k x) := by
 intro i hi
 rw [setO_len] at hi
 have hc : l[k]? = some ((l[k]?).getD none) := by rw [List.getElem?_eq_getElem hk]; rfl
 by_cases e : i = k
 ·subst e
  have hs : (setO l i x)[i]? = some (putO ((l[i]?).getD none) x) := by unfold setO; rw [List.getElem?_set_self hk]
  rw [hs]
  obtain ⟨h1, h2⟩ := h i hk
  generalize (l[i]?).getD none = c at hc
  cases c with
  | none =>
   refine ⟨fun y hy => ?_, fun y hy => ?_⟩
   ·obtain rfl : x = y := by simpa [putO] using hy
    exact .inr ⟨rfl, rfl⟩
   ·rcases hy with hy | ⟨_, rfl⟩
    ·obtain ⟨z, hz, _⟩ := h2 y hy
     rw [hc] at hz; simp at hz
    ·exact ⟨y, rfl, le_refl _⟩
  | some z =>
   have hz := h1 z hc
   by_cases g : befB x z = true
   ·have ep : putO (some z) x = some x := by show (if befB x z = true then some x else some z) = _; rw [if_pos g]
    rw [ep]
    refine ⟨fun y hy => ?_, fun y hy => ?_⟩
    ·obtain rfl : x = y := by simpa using hy
     exact .inr ⟨rfl, rfl⟩
    ·rcases hy with hy | ⟨_, rfl⟩
     ·obtain ⟨w, hw, hl⟩ := h2 y hy
      rw [hc] at hw
      obtain rfl : z = w := by simpa using hw
      exact ⟨x, rfl, le_trans (bef_le g) hl⟩
     ·exact ⟨y, rfl, le_refl _⟩
   ·have ep : putO (some z) x = some z := by show (if befB x z = true then some x else some z) = _; rw [if_neg g]
    rw [ep]
    have g' : befB x z = false := by simpa using g
    refine ⟨fun y hy => ?_, fun y hy => ?_⟩
    ·obtain rfl : z = y := by simpa using hy
     exact .inl hz
    ·rcases hy with hy | ⟨_, rfl⟩
     ·obtain ⟨w, hw, hl⟩ := h2 y hy
      rw [hc] at hw
      obtain rfl : z = w := by simpa using hw
      exact ⟨z, rfl, hl⟩
     ·exact ⟨z, rfl, bef_ge g'⟩
 ·have hs : (setO l k x)[i]? = l[i]? := by unfold setO; rw [List.getElem?_set_ne (fun a => e a.symm)]
  rw [hs]
  obtain ⟨h1, h2⟩ := h i hi
  exact ⟨fun y hy => .inl (h1 y hy), fun y hy => h2 y (hy.resolve_right fun a => e a.1)⟩
theorem okO_congr {S T : Nat → List Int × Int → Prop} {l : List (Option (List Int × Int))} (h : okO S l) (e : ∀ k x, S k x ↔ T k x) : okO T l := fun k hk => by
 obtain ⟨h1, h2⟩ := h k hk
 exact ⟨fun x hx => (e k x).1 (h1 x hx), fun x hx => h2 x ((e k x).2 hx)⟩
theorem rowO_ok {S : Nat → List Int × Int → Prop} (row : List Int) (head : List Int × Int) (n : Nat) {l : List (Option (List Int × Int))} (h : okO S l) : ∀ b, n + b ≤ l.length → okO (fun i y => S i y ∨ ∃ c, c < b ∧ i = n + c ∧ y = (head.1 ++ [Int.ofNat c], head.2 + (row[c]?).getD 0)) (rowO row head n b l)
 | 0, _ => okO_congr h fun k x => ⟨.inl, fun a => a.elim id fun ⟨c, hc, _⟩ => by omega⟩
 | b + 1, hb => by
  have ih := rowO_ok row head n h b (by omega)
  have := setO_ok ih (k := n + b) (by rw [rowO_len]; omega) (head.1 ++ [Int.ofNat b], head.2 + (row[b]?).getD 0)
  refine okO_congr this fun k x => ⟨?_, ?_⟩
  ·rintro ((a | ⟨c, hc, e1, e2⟩) | ⟨e1, e2⟩)
   ·exact .inl a
   ·exact .inr ⟨c, by omega, e1, e2⟩
   ·exact .inr ⟨b, by omega, e1, e2⟩
  ·rintro (a | ⟨c, hc, e1, e2⟩)
   ·exact .inl (.inl a)
   ·by_cases e : c = b
    ·subst e; exact .inr ⟨e1, e2⟩
    ·exact .inl (.inr ⟨c, by omega, e1, e2⟩)
theorem headO_ok (row : List Int) (best : List (List Int × Int)) : ∀ n, n ≤ best.length → okO (fun i y => ∃ m, m < n ∧ ∃ c, c < row.length ∧ i = m + c ∧ y = (((best[m]?).getD ([], 0)).1 ++ [Int.ofNat c], ((best[m]?).getD ([], 0)).2 + (row[c]?).getD 0)) (headO row best n)
 | 0, _ => fun k hk => ⟨fun x hx => by
   unfold headO at hx hk
   rw [List.getElem?_replicate] at hx
   split at hx <;> simp at hx, fun x ⟨m, hm, _⟩ => by omega⟩
 | n + 1, hn => by
  have ih := headO_ok row best n (by omega)
  have := rowO_ok row ((best[n]?).getD ([], 0)) n ih row.length (by rw [headO_len]; omega)
  refine okO_congr this fun k x => ⟨?_, ?_⟩
  ·rintro (⟨m, hm, c, a⟩ | ⟨c, a⟩)
   ·exact ⟨m, by omega, c, a⟩
   ·exact ⟨n, by omega, c, a⟩
  ·rintro ⟨m, hm, c, a⟩
   by_cases e : m = n
   ·subst e; exact .inr ⟨c, a⟩
   ·exact .inl ⟨m, by omega, c, a⟩
theorem step {out best : List (List Int × Int)} (h : BestOf out best) {row : List Int} (hr : 0 < row.length) (res : List (List Int × Int)) (he : headO row best best.length = res.map some) : BestOf (extM row out) res := by
 have hlen : res.length = best.length + row.length - 1 := by rw [← headO_len row best best.length, he, List.length_map]
 have ok := headO_ok row best best.length (Nat.le_refl _)
 rw [he] at ok
 obtain ⟨n, hn⟩ := h.len
 have hb := h.ne
 refine ⟨⟨n + 1, ext_len hn⟩, by omega, fun k x hx => ?_, fun m hm => ?_⟩
 ·have hk : k < res.length := (List.getElem?_eq_some_iff.1 hx).1
  obtain ⟨m, hm, c, hc, e1, e2⟩ := (ok k (by rw [List.length_map]; exact hk)).1 x (by rw [List.getElem?_map, hx]; rfl)
  have hg : best[m]? = some ((best[m]?).getD ([], 0)) := by rw [List.getElem?_eq_getElem hm]; rfl
  obtain ⟨g1, g2⟩ := h.mem m _ hg
  refine ⟨mem_ext.2 ⟨_, g1, c, hc, e2⟩, ?_⟩
  rw [e2, tot_app, g2, e1]
  simp only [Int.ofNat_eq_natCast]; omega
 ·obtain ⟨p, hp, b, hb', rfl⟩ := mem_ext.1 hm
  obtain ⟨k, x, e1, e2, e3⟩ := h.all p hp
  have hk : k < best.length := (List.getElem?_eq_some_iff.1 e2).1
  obtain ⟨y, hy, hl⟩ := (ok (k + b) (by rw [List.length_map]; omega)).2 (x.1 ++ [Int.ofNat b], x.2 + (row[b]?).getD 0) ⟨k, hk, b, hb', rfl, by rw [e2]; rfl⟩
  refine ⟨k + b, y, ?_, ?_, ?_⟩
  ·show tot (p.1 ++ [Int.ofNat b]) = _
   rw [tot_app, e1]; simp only [Int.ofNat_eq_natCast]; omega
  ·rw [List.getElem?_map] at hy
   cases hq : res[k + b]? with
   | none => rw [hq] at hy; simp at hy
   | some w => rw [hq] at hy; simpa using hy
  ·exact le_trans hl (le_app ((hn x (h.mem k x e2).1).trans (hn p hp).symm) e3 _ _)
theorem full {out best : List (List Int × Int)} (h : BestOf out best) {row : List Int} (hr : 0 < row.length) : ∃ res : List (List Int × Int), headO row best best.length = res.map some := by
 have ok := headO_ok row best best.length (Nat.le_refl _)
 have hb := h.ne
 have hl := headO_len row best best.length
 refine ⟨(headO row best best.length).map fun o => o.getD ([], 0), ?_⟩
 rw [List.map_map]
 refine (List.map_id' (headO row best best.length)).symm.trans (List.map_congr_left fun o ho => ?_)
 obtain ⟨k, hk, rfl⟩ := List.getElem_of_mem ho
 have hk' : k < best.length + row.length - 1 := by omega
 -- k = m + c
 obtain ⟨y, hy, _⟩ := (ok k hk).2 _ ⟨min k (best.length - 1), by omega, k - min k (best.length - 1), by omega, by omega, rfl⟩
 rw [List.getElem?_eq_getElem hk] at hy
 have e : (headO row best best.length)[k] = some y := by simpa using hy
 rw [e]; rfl
theorem start : BestOf [(([] : List Int), (0 : Int))] [([], 0)] where
 len := ⟨0, fun m hm => by rw [List.mem_singleton.1 hm]; rfl⟩
 ne := by decide
 mem := fun k x hx => by
  cases k with
  | zero =>
   obtain rfl : (([] : List Int), (0 : Int)) = x := by simpa using hx
   exact ⟨List.mem_singleton.2 rfl, rfl⟩
  | succ k => simp at hx
 all := fun m hm => ⟨0, ([], 0), by rw [List.mem_singleton.1 hm]; rfl, rfl, by rw [List.mem_singleton.1 hm]; exact le_refl _⟩
def scan (bud : Int) : List (List Int × Int) → List Int × Int × Int → List Int × Int × Int
 | [], s => s
 | m :: r, (l, p, n) => scan bud r (if m.2 ≤ bud ∧ (tot m.1 > n ∨ tot m.1 = n ∧ m.2 < p) then (m.1, m.2, tot m.1) else (l, p, n))
def winP (bud : Int) (seen : List (List Int × Int)) (s : List Int × Int × Int) : Prop := ∀ m ∈ seen, m.2 ≤ bud → tot m.1 < s.2.2 ∨ tot m.1 = s.2.2 ∧ leP (s.1, s.2.1) m
theorem scan_win (bud : Int) : ∀ (todo seen : List (List Int × Int)) (s : List Int × Int × Int), ordM (seen ++ todo) → (∀ m ∈ todo, 0 ≤ tot m.1) → winP bud seen s → (s.2.2 = -1 ∨ ((s.1, s.2.1) ∈ seen ∧ s.2.1 ≤ bud ∧ s.2.2 = tot s.1)) →
  winP bud (seen ++ todo) (scan bud todo s) ∧ ((scan bud todo s).2.2 = -1 ∨ (((scan bud todo s).1, (scan bud todo s).2.1) ∈ seen ++ todo ∧ (scan bud todo s).2.1 ≤ bud ∧ (scan bud todo s).2.2 = tot (scan bud todo s).1))
 | [], seen, s, _, _, hw, hs => by rw [List.append_nil]; exact ⟨hw, hs⟩
 | m :: r, seen, (l, p, n), ho, hp, hw, hs => by
  have hp' : ∀ x ∈ r, 0 ≤ tot x.1 := fun x hx => hp x (List.mem_cons_of_mem _ hx)
  have hp0 := hp m (List.mem_cons_self ..)
  have e : seen ++ m :: r = (seen ++ [m]) ++ r := by simp
  have hlt : ∀ x ∈ seen, ltL x.1 m.1 := fun x hx => (List.pairwise_append.1 ho).2.2 x hx m (List.mem_cons_self ..)
  unfold scan
  rw [e] at ho ⊢
  by_cases c : m.2 ≤ bud ∧ (tot m.1 > n ∨ tot m.1 = n ∧ m.2 < p)
  ·rw [if_pos c]
   refine scan_win bud r (seen ++ [m]) (m.1, m.2, tot m.1) ho hp' (fun x hx hb => ?_) (.inr ⟨List.mem_append_right _ (List.mem_singleton.2 rfl), c.1, rfl⟩)
   show tot x.1 < tot m.1 ∨ tot x.1 = tot m.1 ∧ leP (m.1, m.2) x
   rcases List.mem_append.1 hx with hx | hx
   ·rcases hw x hx hb with g | ⟨g1, g2⟩
    ·have g : tot x.1 < n := g
     rcases c.2 with d | ⟨d1, _⟩
     ·exact .inl (by omega)
     ·exact .inl (by omega)
    ·have g1 : tot x.1 = n := g1
     rcases c.2 with d | ⟨d1, d2⟩
     ·exact .inl (by omega)
     ·refine .inr ⟨by omega, .inl ?_⟩
      show m.2 < x.2
      rcases g2 with g2 | ⟨g2, _⟩
      ·have g2 : p < x.2 := g2
       omega
      ·have g2 : p = x.2 := g2
       omega
   ·rw [List.mem_singleton.1 hx]
    exact .inr ⟨rfl, le_refl _⟩
  ·rw [if_neg c]
   refine scan_win bud r (seen ++ [m]) (l, p, n) ho hp' (fun x hx hb => ?_) (hs.elim .inl fun a => .inr ⟨List.mem_append_left _ a.1, a.2⟩)
   show tot x.1 < n ∨ tot x.1 = n ∧ leP (l, p) x
   rcases List.mem_append.1 hx with hx | hx
   ·exact hw x hx hb
   ·have ex := List.mem_singleton.1 hx
    subst ex
    by_cases d : tot x.1 < n
    ·exact .inl d
    ·have d1 : ¬ tot x.1 > n := fun a => c ⟨hb, .inl a⟩
     have d2 : tot x.1 = n := by omega
     refine .inr ⟨d2, ?_⟩
     have d3 : ¬ x.2 < p := fun a => c ⟨hb, .inr ⟨d2, a⟩⟩
     by_cases f : p = x.2
     ·refine .inr ⟨f, .inr ?_⟩
      rcases hs with hs | ⟨hs, _⟩
      ·exfalso
       have hs : n = -1 := hs
       omega
      ·exact hlt _ hs
     ·exact .inl (show p < x.2 by omega)
theorem tot_nn {rows : List (List Int)} : ∀ m ∈ allM rows, 0 ≤ tot m.1 := by
 unfold allM
 suffices ∀ (rows : List (List Int)) (out : List (List Int × Int)), (∀ m ∈ out, 0 ≤ tot m.1) → ∀ m ∈ rows.foldl (fun o r => extM r o) out, 0 ≤ tot m.1 from
  this rows _ fun m hm => by rw [List.mem_singleton.1 hm]; exact Int.le_refl _
 intro rows
 induction rows with
 | nil => intro out h; exact h
 | cons r rows ih =>
  intro out h
  refine ih _ fun m hm => ?_
  obtain ⟨p, hp, b, _, rfl⟩ := mem_ext.1 hm
  have := h p hp
  show 0 ≤ tot (p.1 ++ [Int.ofNat b])
  rw [tot_app]; simp only [Int.ofNat_eq_natCast]; omega
theorem best_scan {out best : List (List Int × Int)} (h : BestOf out best) (ho : ordM out) (hp : ∀ m ∈ out, 0 ≤ tot m.1) (bud : Int) (n : Nat) (x : List Int × Int) (hx : best[n]? = some x) (hb : x.2 ≤ bud) (hmax : ∀ k y, n < k → best[k]? = some y → bud < y.2) : (scan bud out ([], 0, -1)).1 = x.1 ∧ (scan bud out ([], 0, -1)).2.1 = x.2 := by
 obtain ⟨hw, hs⟩ := scan_win bud out [] ([], 0, -1) ho hp (fun m hm => by simp at hm) (.inl rfl)
 rw [List.nil_append] at hw hs
 generalize scan bud out ([], 0, -1) = r at hw hs
 obtain ⟨l, p, t⟩ := r
 obtain ⟨hxo, hxt⟩ := h.mem n x hx
 have hwx := hw x hxo hb
 have hn : (0 : Int) ≤ Int.ofNat n := by simp
 rcases hs with hs | ⟨h1, h2, h3⟩
 ·have hs : t = -1 := hs
  rcases hwx with g | ⟨g, _⟩
  ·have g : tot x.1 < t := g
   omega
  ·have g : tot x.1 = t := g
   omega
 ·have h2 : p ≤ bud := h2
  have h3 : t = tot l := h3
  obtain ⟨k, y, e1, e2, e3⟩ := h.all (l, p) h1
  have e1 : tot l = Int.ofNat k := e1
  have hy : y.2 ≤ bud := by
   rcases e3 with e3 | ⟨e3, _⟩
   ·have e3 : y.2 < p := e3
    omega
   ·have e3 : y.2 = p := e3
    omega
  have hk : ¬ n < k := fun a => by have := hmax k y a e2; omega
  rcases hwx with g | ⟨g1, g2⟩
  ·have g : tot x.1 < t := g
   rw [hxt, h3, e1] at g
   exact (hk (by simpa using g)).elim
  ·have g1 : tot x.1 = t := g1
   rw [hxt, h3, e1] at g1
   obtain rfl : n = k := Int.ofNat.inj g1
   obtain rfl : x = y := by rw [hx] at e2; simpa using e2
   have e : (l, p) = x := le_anti g2 e3
   rw [← e]; exact ⟨rfl, rfl⟩
end Best
noncomputable section
abbrev pwF (p : List Int × Int) : List DT := [.s (iD p.1) p.1.length 1, .v (.int .i64 p.2)]
abbrev pwD (l : List (List Int × Int)) : List DT := l.flatMap pwF
abbrev dP (l : List (List Int × Int)) : AV := .e (.one (.dp (.s (pwD l) l.length 2)))
def cO : Option (List Int × Int) → List AC
 | none => [.v (.slice none 0 0), .v (.int .i64 0)]
 | some p => [.dp (.s (iD p.1) p.1.length 1), .v (.int .i64 p.2)]
def oC (l : List (Option (List Int × Int))) : List AC := l.flatMap cO
theorem cO_len (o : Option (List Int × Int)) : (cO o).length = 2 := by cases o <;> rfl
theorem oC_len (l : List (Option (List Int × Int))) : (oC l).length = l.length + l.length := by
 unfold oC
 induction l with
 | nil => rfl
 | cons a l ih => rw [List.flatMap_cons, List.length_append, cO_len, ih, List.length_cons]; omega
theorem oC_get {l : List (Option (List Int × Int))} {k : Nat} {o : Option (List Int × Int)} (h : l[k]? = some o) : takeL (dropL (oC l) (k * 2)) 2 = some (cO o) := by
 obtain ⟨h1, h2⟩ := row_get cO_len h
 rw [takeL_eq, dropL_eq, if_pos (by rw [List.length_drop]; show 2 ≤ (l.flatMap cO).length - k * 2; omega)]
 exact congrArg some h1
theorem oC_set : ∀ (l : List (Option (List Int × Int))) (k : Nat) (p : List Int × Int), k < l.length → overL [AC.dp (.s (iD p.1) p.1.length 1), AC.v (.int .i64 p.2)] (oC l) (k * 2) = oC (l.set k (some p)) := by
 intro l k p hk
 rw [overL_eq _ _ _ (by rw [oC_len]; show k * 2 + 2 ≤ _; omega)]
 induction l generalizing k with
 | nil => simp at hk
 | cons a l ih =>
  obtain ⟨x, y, e⟩ : ∃ x y, cO a = [x, y] := by cases a <;> exact ⟨_, _, rfl⟩
  have ec : oC (a :: l) = x :: y :: oC l := by show cO a ++ oC l = _; rw [e]; rfl
  cases k with
  | zero =>
   rw [ec, Nat.zero_mul]
   rfl
  | succ k =>
   have hk' : k < l.length := by simpa using hk
   have ih' := ih k hk'
   rw [ec, show (k + 1) * 2 = k * 2 + 1 + 1 by omega]
   show x :: y :: ((oC l).take (k * 2) ++ _ ++ (oC l).drop (k * 2 + 2)) = _
   refine (congrArg (fun z => x :: y :: z) ih').trans ?_
   show _ = cO a ++ oC (l.set k (some p))
   rw [e]; rfl
theorem oC_rep : ∀ n, repeatC ((fun z => List.map AC.v z.cells.toList) (Value.agg #[Value.slice none (0 : Nat) (0 : Nat), Value.int IntKind.i64 (0 : Int)])) n = oC (List.replicate n none)
 | 0 => rfl
 | n + 1 => by rw [repeatC, oC_rep n]; rfl
theorem flat_oC (l : List (Option (List Int × Int))) : FlatC (oC l) := by
 intro c hc
 obtain ⟨o, _, ho⟩ := List.mem_flatMap.1 hc
 cases o with
 | none =>
  rcases List.mem_cons.1 ho with rfl | ho
  ·rfl
  ·rw [List.mem_singleton.1 ho]; rfl
 | some p =>
  rcases List.mem_cons.1 ho with rfl | ho
  ·rfl
  ·rw [List.mem_singleton.1 ho]; rfl
theorem oC_all (l : List (List Int × Int)) : oC (l.map some) = (pwD l).map DT.ac := by
 unfold oC
 induction l with
 | nil => rfl
 | cons a l ih => rw [List.map_cons, List.flatMap_cons, ih]; rfl
theorem pwD_len (l : List (List Int × Int)) : (pwD l).length = l.length * 2 := rows_len (f := pwF) (k := 2) (fun _ => rfl) l
end
end Go.Proofs.YtigdchbjmnbjlaaGreatDoor
end

/-! SeMb -/
section
open Go Go.Ev
namespace Go.Proofs.YtigdchbjmnbjlaaGreatDoor
noncomputable section
set_option maxRecDepth 100000
set_option maxHeartbeats 20000000
def u156 (x : Int) (_j : JN) : St := startK Tryz.f156 [] [iI x]
def u95 (x y : Int) (_j : JN) : St := startK Tryz.f95 [] [iI x, iI y]
def u187 (G : List DT) (g : Nat) (_j : JN) : St := startK Tryz.f187 [] [(dQ G g)]
def u188 (G H : List DT) (g h : Nat) (_j : JN) : St := startK Tryz.f188 [] [(dQ G g), (dQ H h)]
def u166 (G H : List DT) (g h : Nat) (a d : Int) (_j : JN) : St := startK Tryz.f166 [] [.e (.agg [.dp (.s G g 1), .v (.int .i64 a)]), .e (.agg [.dp (.s H h 1), .v (.int .i64 d)])]
def u165 (G : List DT) (g : Nat) (a b d : Int) (_j : JN) : St := startK Tryz.f165 [] [.e (.agg [.dp (.s G g 1), .v (.int .i64 a)]), iI b, iI d]
def u165n (a b d : Int) (cp : Nat) (_j : JN) : St := startK Tryz.f165 [] [.e (.agg [.v (.slice none 0 cp), .v (.int .i64 a)]), iI b, iI d]
def u165w (a b d : Int) (cp : Nat) (ad : Addr) (_j : JN) : St := startK Tryz.f165 [] [.e (.agg [.v (.slice (some ad) 0 cp), .v (.int .i64 a)]), iI b, iI d]
def u110 (G R : List DT) (m q : Nat) (_j : JN) : St := startK Tryz.f110 [] [(.e (.one (.dp (.s G q 2)))), (dQ R m)]
def t187 (G : List DT) (g i : Nat) (j : JN) : St := ⟨[], [(.code (aF [1, 1, 0, 1, 0, 0] Tryz.f187)), (.inLoop (aF [1, 1, 0, 1, 0, 0] Tryz.f187)), (.inBlock 0), (.code (aF [1, 1, 1] Tryz.f187))], mkT j [(3, (iI 0)), (6, (dQ G g)), (7, (iN g)), (8, (iN i))] 18 0⟩
def t188 (G H : List DT) (g h i : Nat) (j : JN) : St := ⟨[], [(.code (aF [1, 0, 1, 0, 0] Tryz.f188)), (.inLoop (aF [1, 0, 1, 0, 0] Tryz.f188)), (.inBlock 0), (.code (aF [1, 1] Tryz.f188))], mkT j [(0, (dQ G g)), (1, (dQ H h)), (9, (dQ G g)), (10, (iN g)), (11, (iN i))] 36 0⟩
def t165n (a b d : Int) (cp : Nat) (j : JN) : St := ⟨[(bK [(.v (.slice none 0 cp)), (.v (.int .i64 a))] 2 182), (bK [(.v (.slice none 0 0)), (.v (.int .i64 0))] 2 182)], [(.code (aF [1, 0] Tryz.f165)), (.code .ret)], mkT j [(1, (iI b)), (2, (iI d)), (3, (.e (.one (.ptr 0 0)))), (6, (.e (.one (.ptr 1 0))))] 20 0⟩
def t165w (a b d : Int) (cp : Nat) (ad : Addr) (j : JN) : St := ⟨[(bK [(.v (.slice (.some ad) 0 cp)), (.v (.int .i64 a))] 2 182), (bK [(.v (.slice none 0 0)), (.v (.int .i64 0))] 2 182)], [(.code (aF [1, 0] Tryz.f165)), (.code .ret)], mkT j [(1, (iI b)), (2, (iI d)), (3, (.e (.one (.ptr 0 0)))), (6, (.e (.one (.ptr 1 0))))] 20 0⟩
def t165s (G : List DT) (g : Nat) (a b d : Int) (j : JN) : St := ⟨[(bK [(.dp (.s G g 1)), (.v (.int .i64 a))] 2 182), (bK [(.v (.slice none 0 0)), (.v (.int .i64 0))] 2 182)], [(.code (aF [1, 0] Tryz.f165)), (.code .ret)], mkT j [(1, (iI b)), (2, (iI d)), (3, (.e (.one (.ptr 0 0)))), (6, (.e (.one (.ptr 1 0))))] 20 0⟩
def t110 (G R : List DT) (m q i n : Nat) (Y : List AC) (j : JN) : St := ⟨[(bK Y (n + n) 182)], [(.code (aF [1, 1, 0, 1, 0, 0] Tryz.f110)), (.inLoop (aF [1, 1, 0, 1, 0, 0] Tryz.f110)), (.inBlock 0), (.code (aF [1, 1, 1] Tryz.f110))], mkT j [(1, (dQ R m)), (5, (.e (.one (.slc 0 0 n 2 n true)))), (19, (.e (.one (.dp (.s G q 2))))), (20, (iN q)), (21, (iN i))] 61 0⟩
def t110i (G H R : List DT) (h m q i k n : Nat) (a : Int) (Y : List AC) (j : JN) : St := ⟨[(bK Y (n + n) 182), (bK [(.dp (.s H h 1)), (.v (.int .i64 a))] 2 182)], [(.code (aF [1, 1, 0, 1, 0, 0, 1, 1, 0, 0, 1, 1, 0, 0] Tryz.f110)), (.inLoop (aF [1, 1, 0, 1, 0, 0, 1, 1, 0, 0, 1, 1, 0, 0] Tryz.f110)), (.inBlock 2), (.inBlock 1), (.code (aF [1, 1, 0, 1, 0, 0, 1, 1, 1] Tryz.f110)), (.inLoop (aF [1, 1, 0, 1, 0, 0] Tryz.f110)), (.inBlock 0), (.code (aF [1, 1, 1] Tryz.f110))], mkT j [(1, (dQ R m)), (5, (.e (.one (.slc 0 0 n 2 n true)))), (6, (iN i)), (7, (.e (.one (.ptr 1 0)))), (19, (.e (.one (.dp (.s G q 2))))), (20, (iN q)), (21, (iN i)), (26, (dQ R m)), (27, (iN m)), (28, (iN k))] 61 0⟩
def m156_end (x : Int) (j : JN) : St := ⟨[], [(.code .ret)], mkT j [(2, (iB (x != x)))] 6 0⟩
theorem m156 (hE : EnvOk E) (x : Int) {Φ : Res → Prop} (ho : ∀ j, OutK E 0 0 (m156_end x j) Φ) (j : JN) : OutK E 0 0 (u156 x j) Φ :=
 oS hE [.run 4] [2] (ps := []) trivial
  ho
def m95l_end (j : JN) : St := ⟨[], [(.code .ret), (.code (aF [1, 1, 1, 1, 1, 1] Tryz.f95))], mkT j [(4, (iI (-1)))] 20 0⟩
theorem m95l (hE : EnvOk E) (x y : Int) (h0 : COut E 0 [] 156 [(iI x)] (iB false) []) (h2 : COut E 0 [] 156 [(iI y)] (iB false) []) (h4 : (decide (x < y) : Bool) = true) {Φ : Res → Prop} (ho : ∀ j, OutK E 0 0 (m95l_end j) Φ) (j : JN) : OutK E 0 0 (u95 x y j) Φ :=
 oS hE [.run 3, (.ops [(1, (.c0 (iB false)))] []), .run 1, (.ops [(1, (.c0 (iB false)))] []), .run 13, (.cond true), .run 2] [4] (aP h0 <| aN <| aP h2 <| aN <| aP h4 <| aZ)
  ho
def m95g_end (j : JN) : St := ⟨[], [(.code .ret), (.code (aF [1, 1, 1, 1, 1, 1, 1] Tryz.f95))], mkT j [(4, (iI 1))] 20 0⟩
theorem m95g (hE : EnvOk E) (x y : Int) (h0 : COut E 0 [] 156 [(iI x)] (iB false) []) (h2 : COut E 0 [] 156 [(iI y)] (iB false) []) (h4 : (decide (x < y) : Bool) = false) (h5 : (decide (x > y) : Bool) = true) {Φ : Res → Prop} (ho : ∀ j, OutK E 0 0 (m95g_end j) Φ) (j : JN) : OutK E 0 0 (u95 x y j) Φ :=
 oS hE [.run 3, (.ops [(1, (.c0 (iB false)))] []), .run 1, (.ops [(1, (.c0 (iB false)))] []), .run 13, (.cond false), .run 4, (.cond true), .run 2] [4] (aP h0 <| aN <| aP h2 <| aN <| aP h4 <| aP h5 <| aZ)
  ho
def m95e_end (j : JN) : St := ⟨[], [(.code .ret)], mkT j [(4, (iI 0))] 20 0⟩
theorem m95e (hE : EnvOk E) (x y : Int) (h0 : COut E 0 [] 156 [(iI x)] (iB false) []) (h2 : COut E 0 [] 156 [(iI y)] (iB false) []) (h4 : (decide (x < y) : Bool) = false) (h5 : (decide (x > y) : Bool) = false) {Φ : Res → Prop} (ho : ∀ j, OutK E 0 0 (m95e_end j) Φ) (j : JN) : OutK E 0 0 (u95 x y j) Φ :=
 oS hE [.run 3, (.ops [(1, (.c0 (iB false)))] []), .run 1, (.ops [(1, (.c0 (iB false)))] []), .run 13, (.cond false), .run 4, (.cond false), .run 3] [4] (aP h0 <| aN <| aP h2 <| aN <| aP h4 <| aP h5 <| aZ)
  ho
def m187a_end (G : List DT) (g : Nat) (j : JN) : St := ⟨[], [(.code (aF [1, 1, 0, 1, 0, 0] Tryz.f187)), (.inLoop (aF [1, 1, 0, 1, 0, 0] Tryz.f187)), (.inBlock 0), (.code (aF [1, 1, 1] Tryz.f187))], mkT j [(3, (iI 0)), (6, (dQ G g)), (7, (iN g)), (8, (iI 0))] 18 0⟩
theorem m187a (hE : EnvOk E) (G : List DT) (g : Nat) {Φ : Res → Prop} (ho : ∀ j, OutK E 0 0 (m187a_end G g j) Φ) (j : JN) : OutK E 0 0 (u187 G g j) Φ :=
 oS hE [.run 6, (.ops [(1, (.d .len))] []), .run 2] [3, 6, 7, 8] (ps := []) trivial
  ho
def m188a_end (G H : List DT) (g h : Nat) (j : JN) : St := ⟨[], [(.code (aF [1, 0, 1, 0, 0] Tryz.f188)), (.inLoop (aF [1, 0, 1, 0, 0] Tryz.f188)), (.inBlock 0), (.code (aF [1, 1] Tryz.f188))], mkT j [(0, (dQ G g)), (1, (dQ H h)), (9, (dQ G g)), (10, (iN g)), (11, (iI 0))] 36 0⟩
theorem m188a (hE : EnvOk E) (G H : List DT) (g h : Nat) {Φ : Res → Prop} (ho : ∀ j, OutK E 0 0 (m188a_end G H g h j) Φ) (j : JN) : OutK E 0 0 (u188 G H g h j) Φ :=
 oS hE [.run 4, (.ops [(1, (.d .len))] []), .run 2] [0, 1, 9, 10, 11] (ps := []) trivial
  ho
def m166_end (z : Int) (j : JN) : St := ⟨[], [(.code .ret)], mkT j [(4, (iB (decide (z < (0 : Int)))))] 20 0⟩
theorem m166 (hE : EnvOk E) (G H : List DT) (g h : Nat) (x y z a d : Int) (h0 : COut E 0 [] 95 [(iI a), (iI d)] (iI x) []) (h3 : COut E 0 [] 188 [(dQ G g), (dQ H h)] (iI y) []) (h5 : COut E 3 [(bK [(.dp (.s G g 1)), (.v (.int .i64 a))] 2 182), (bK [(.dp (.s H h 1)), (.v (.int .i64 d))] 2 182), (bK [(.v (.int .i64 x)), (.v (.int .i64 y))] 2 3)] 187 [(.e (.one (.slc 2 0 2 1 2 true)))] (iI z) [(bK [(.dp (.s G g 1)), (.v (.int .i64 a))] 2 182), (bK [(.dp (.s H h 1)), (.v (.int .i64 d))] 2 182), (bK [(.v (.int .i64 x)), (.v (.int .i64 y))] 2 3)]) {Φ : Res → Prop} (ho : ∀ j, OutK E 0 0 (m166_end z j) Φ) (j : JN) : OutK E 0 0 (u166 G H g h a d j) Φ :=
 oS hE [.run 3, (.ops [(4, (.c0 (iI x))), (11, (.c0 (iI y))), (13, (.d (.c1 (iI z))))] [])] [4] (s' := fun j => ⟨[(bK [(.dp (.s G g 1)), (.v (.int .i64 a))] 2 182), (bK [(.dp (.s H h 1)), (.v (.int .i64 d))] 2 182), (bK [(.v (.int .i64 x)), (.v (.int .i64 y))] 2 3)], [(.code .ret)], mkT j [(4, (iB (decide (z < (0 : Int)))))] 20 0⟩) (aP h0 <| aN <| aV <| aP h3 <| aN <| aP h5 <| aN <| aZ)
  fun j => gZ [] (ho j)
def m165n0_end (a b d : Int) (cp : Nat) (j : JN) : St := ⟨[(bK [(.v (.slice none 0 cp)), (.v (.int .i64 a))] 2 182), (bK [(.v (.slice none 0 0)), (.v (.int .i64 0))] 2 182)], [(.code (aF [1, 0] Tryz.f165)), (.code .ret)], mkT j [(1, (iI b)), (2, (iI d)), (3, (.e (.one (.ptr 0 0)))), (6, (.e (.one (.ptr 1 0))))] 20 0⟩
theorem m165n0 (hE : EnvOk E) (a b d : Int) (cp : Nat) {Φ : Res → Prop} (ho : ∀ j, OutK E 0 0 (m165n0_end a b d cp j) Φ) (j : JN) : OutK E 0 0 (u165n a b d cp j) Φ :=
 oS hE [.run 3] [1, 2, 3, 6] (ps := []) trivial
  ho
def m165w0_end (a b d : Int) (cp : Nat) (ad : Addr) (j : JN) : St := ⟨[(bK [(.v (.slice (.some ad) 0 cp)), (.v (.int .i64 a))] 2 182), (bK [(.v (.slice none 0 0)), (.v (.int .i64 0))] 2 182)], [(.code (aF [1, 0] Tryz.f165)), (.code .ret)], mkT j [(1, (iI b)), (2, (iI d)), (3, (.e (.one (.ptr 0 0)))), (6, (.e (.one (.ptr 1 0))))] 20 0⟩
theorem m165w0 (hE : EnvOk E) (a b d : Int) (cp : Nat) (ad : Addr) {Φ : Res → Prop} (ho : ∀ j, OutK E 0 0 (m165w0_end a b d cp ad j) Φ) (j : JN) : OutK E 0 0 (u165w a b d cp ad j) Φ :=
 oS hE [.run 3] [1, 2, 3, 6] (ps := []) trivial
  ho
def m165s0_end (G : List DT) (g : Nat) (a b d : Int) (j : JN) : St := ⟨[(bK [(.dp (.s G g 1)), (.v (.int .i64 a))] 2 182), (bK [(.v (.slice none 0 0)), (.v (.int .i64 0))] 2 182)], [(.code (aF [1, 0] Tryz.f165)), (.code .ret)], mkT j [(1, (iI b)), (2, (iI d)), (3, (.e (.one (.ptr 0 0)))), (6, (.e (.one (.ptr 1 0))))] 20 0⟩
theorem m165s0 (hE : EnvOk E) (G : List DT) (g : Nat) (a b d : Int) {Φ : Res → Prop} (ho : ∀ j, OutK E 0 0 (m165s0_end G g a b d j) Φ) (j : JN) : OutK E 0 0 (u165 G g a b d j) Φ :=
 oS hE [.run 3] [1, 2, 3, 6] (ps := []) trivial
  ho
def m110a_end (G R : List DT) (m q n : Nat) (Y : List AC) (j : JN) : St := ⟨[(bK Y (n + n) 182)], [(.code (aF [1, 1, 0, 1, 0, 0] Tryz.f110)), (.inLoop (aF [1, 1, 0, 1, 0, 0] Tryz.f110)), (.inBlock 0), (.code (aF [1, 1, 1] Tryz.f110))], mkT j [(1, (dQ R m)), (5, (.e (.one (.slc 0 0 n 2 n true)))), (19, (.e (.one (.dp (.s G q 2))))), (20, (iN q)), (21, (iI 0))] 61 0⟩
theorem m110a (hE : EnvOk E) (G R : List DT) (m q n : Nat) (_z a : Int) (Y : List AC) (h0 : ((iI (wrapF IntKind.i64 ((↑q : Int) + (↑m : Int)))) : AV) = (iI a)) (h1 : ((iI (wrapF IntKind.i64 (a - (1 : Int)))) : AV) = (iN n)) (h2 : (0 : Int) ≤ Int.ofNat n ∧ Int.ofNat n ≤ Int.ofNat n) (h3 : (small (Int.ofNat n).toNat (2 : Nat) (32 : Nat) : Bool) = true) (h4 : ((Int.ofNat n).toNat : Nat) = n) (h6 : (n * 2 : Nat) = n + n) (h7 : (repeatC ((fun z => List.map AC.v z.cells.toList) (Value.agg #[Value.slice none (0 : Nat) (0 : Nat), Value.int IntKind.i64 (0 : Int)])) n : List AC) = Y) {Φ : Res → Prop} (ho : ∀ j, OutK E 0 0 (m110a_end G R m q n Y j) Φ) (j : JN) : OutK E 0 0 (u110 G R m q j) Φ :=
 oS hE [.run 3, (.ops [(4, (.rn (iI a))), (5, (.rn (iN n))), (6, (.mk n n (n + n) Y)), (1, (.d .len)), (3, (.d .len))] []), .run 2, (.ops [(1, (.d .len))] []), .run 2] [1, 5, 19, 20, 21] (aQ h0 h1 h2 h3 <| aQ h4 h4 h6 h7 <| aZ)
  ho
def m165n_end (b f : Int) (j : JN) : St := ⟨[(bK [(.slc 1 0 1 1 1 false), (.v (.int .i64 f))] 2 182), (.some ⟨[(.v (.int .i64 b))], 1, 3, false, .cells⟩)], [(.code .ret)], mkT j [(6, (.e (.one (.ptr 0 0))))] 20 0⟩
theorem m165n (hE : EnvOk E) (_h : Nat) (a b d f : Int) (cp : Nat) (h1_0 : ((iI (wrapF IntKind.i64 (a + d))) : AV) = (iI f)) (h1_1 : COut E 0 [] 121 [(.e (.one (.v (.slice none 0 cp))))] (.e (.one (.v (.slice none 0 0)))) []) {Φ : Res → Prop} (ho : ∀ j, OutK E 0 0 (m165n_end b f j) Φ) (j : JN) : OutK E 0 0 (t165n a b d cp j) Φ :=
 outK_draw' hE (h := (t165n a b d cp j).heap) (ops := opsOf (aF [1, 0] Tryz.f165)) (id := idOf (aF [1, 0] Tryz.f165)) (todo := [(.code .ret)]) (tm := (t165n a b d cp j).tm) (by kernel_rfl) (outR_split 3 5 rfl (outR_seg hE (R0_ok hE) [0, 1, 2, 3, 4, 5, 6, 7, 8, 9, 10, 11, 12, 13] [(3, (.c0 (.e (.one (.v (.slice none 0 0)))))), (11, (.rn (iI f)))] [] [6] (s' := fun j => ⟨[(bK [(.v (.slice none 0 cp)), (.v (.int .i64 a))] 2 182), (bK [(.slc 3 0 1 1 1 false), (.v (.int .i64 f))] 2 182), (bK [(.v (.int .i64 b))] 1 3), (.some ⟨[(.v (.int .i64 b))], 1, 3, false, .cells⟩)], [(.code .ret)], mkT j [(6, (.e (.one (.ptr 1 0))))] 20 0⟩) (ps := [((iI (wrapF IntKind.i64 (a + d))) : AV) = (iI f), COut E 0 [] 121 [(.e (.one (.v (.slice none 0 cp))))] (.e (.one (.v (.slice none 0 0)))) [], ([] : List Nat) = [], (true : Bool) = true]) (by kernel_rfl) (fun j => by kernel_rfl) ⟨h1_0, h1_1, rfl, rfl, trivial⟩ (fun j => gZ [1, 3] (ho j))) (outR_seg hE (R0_ok hE) [0, 1, 2, 4, 5, 3, 6, 7, 8, 9, 10, 11, 12, 13] [(5, (.c0 (.e (.one (.v (.slice none 0 0)))))), (11, (.rn (iI f)))] [] [6] (s' := fun j => ⟨[(bK [(.v (.slice none 0 cp)), (.v (.int .i64 a))] 2 182), (bK [(.slc 3 0 1 1 1 false), (.v (.int .i64 f))] 2 182), (bK [(.v (.int .i64 b))] 1 3), (.some ⟨[(.v (.int .i64 b))], 1, 3, false, .cells⟩)], [(.code .ret)], mkT j [(6, (.e (.one (.ptr 1 0))))] 20 0⟩) (ps := [((iI (wrapF IntKind.i64 (a + d))) : AV) = (iI f), COut E 0 [] 121 [(.e (.one (.v (.slice none 0 cp))))] (.e (.one (.v (.slice none 0 0)))) [], ([] : List Nat) = [], (true : Bool) = true]) (by kernel_rfl) (fun j => by kernel_rfl) ⟨h1_0, h1_1, rfl, rfl, trivial⟩ (fun j => gZ [1, 3] (ho j))))
def m165w_end (b f : Int) (j : JN) : St := ⟨[(bK [(.slc 1 0 1 1 1 false), (.v (.int .i64 f))] 2 182), (.some ⟨[(.v (.int .i64 b))], 1, 3, false, .cells⟩)], [(.code .ret)], mkT j [(6, (.e (.one (.ptr 0 0))))] 20 0⟩
theorem m165w (hE : EnvOk E) (_h _n : Nat) (a b d f : Int) (cp : Nat) (ad : Addr) (h1_0 : ((iI (wrapF IntKind.i64 (a + d))) : AV) = (iI f)) (h1_1 : COut E 0 [] 121 [(.e (.one (.v (.slice (.some ad) 0 cp))))] (.e (.one (.slc 0 0 0 1 0 true))) [(bK [] 0 3)]) (h1_4 : True) (h1_6 : FlatB (some { cells := [], n := (0 : Nat), elem := (3 : TypeId), full := true, ext := AX.cells : AB }) ∧ True) {Φ : Res → Prop} (ho : ∀ j, OutK E 0 0 (m165w_end b f j) Φ) (j : JN) : OutK E 0 0 (t165w a b d cp ad j) Φ :=
 outK_draw' hE (h := (t165w a b d cp ad j).heap) (ops := opsOf (aF [1, 0] Tryz.f165)) (id := idOf (aF [1, 0] Tryz.f165)) (todo := [(.code .ret)]) (tm := (t165w a b d cp ad j).tm) (by kernel_rfl) (outR_split 3 5 rfl (outR_seg hE (R0_ok hE) [0, 1, 2, 3, 4, 5, 6, 7, 8, 9, 10, 11, 12, 13] [(3, (.cl [] [] [(.e (.one (.v (.slice (.some ad) 0 cp))))] [] (.e (.one (.slc 0 0 0 1 0 true))) [(bK [] 0 3)] (.e (.one (.slc 2 0 0 1 0 true))) [true] [(bK [] 0 3)])), (11, (.rn (iI f)))] [] [6] (s' := fun j => ⟨[(bK [(.v (.slice (.some ad) 0 cp)), (.v (.int .i64 a))] 2 182), (bK [(.slc 4 0 1 1 1 false), (.v (.int .i64 f))] 2 182), (bK [] 0 3), (bK [(.v (.int .i64 b))] 1 3), (.some ⟨[(.v (.int .i64 b))], 1, 3, false, .cells⟩)], [(.code .ret)], mkT j [(6, (.e (.one (.ptr 1 0))))] 20 0⟩) (ps := [((iI (wrapF IntKind.i64 (a + d))) : AV) = (iI f), COut E 0 [] 121 [(.e (.one (.v (.slice (.some ad) 0 cp))))] (.e (.one (.slc 0 0 0 1 0 true))) [(bK [] 0 3)], ([(.e (.one (.v (.slice (.some ad) 0 cp))))] : List AV) = [(.e (.one (.v (.slice (.some ad) 0 cp))))], ([] : List (Option (Option AB))) = [], True, ([(.some (bK [] 0 3))] : List (Option (Option AB))) = [(.some (bK [] 0 3))], FlatB (some { cells := [], n := (0 : Nat), elem := (3 : TypeId), full := true, ext := AX.cells : AB }) ∧ True, ((.e (.one (.slc 2 0 0 1 0 true))) : AV) = (.e (.one (.slc 2 0 0 1 0 true))), (true : Bool) = true]) (by kernel_rfl) (fun j => by kernel_rfl) ⟨h1_0, h1_1, rfl, rfl, h1_4, rfl, h1_6, rfl, rfl, trivial⟩ (fun j => gZ [1, 4] (ho j))) (outR_seg hE (R0_ok hE) [0, 1, 2, 4, 5, 3, 6, 7, 8, 9, 10, 11, 12, 13] [(5, (.cl [] [] [(.e (.one (.v (.slice (.some ad) 0 cp))))] [] (.e (.one (.slc 0 0 0 1 0 true))) [(bK [] 0 3)] (.e (.one (.slc 3 0 0 1 0 true))) [true] [(bK [] 0 3)])), (11, (.rn (iI f)))] [] [6] (s' := fun j => ⟨[(bK [(.v (.slice (.some ad) 0 cp)), (.v (.int .i64 a))] 2 182), (bK [(.slc 4 0 1 1 1 false), (.v (.int .i64 f))] 2 182), (bK [(.v (.int .i64 b))] 1 3), (bK [] 0 3), (.some ⟨[(.v (.int .i64 b))], 1, 3, false, .cells⟩)], [(.code .ret)], mkT j [(6, (.e (.one (.ptr 1 0))))] 20 0⟩) (ps := [((iI (wrapF IntKind.i64 (a + d))) : AV) = (iI f), COut E 0 [] 121 [(.e (.one (.v (.slice (.some ad) 0 cp))))] (.e (.one (.slc 0 0 0 1 0 true))) [(bK [] 0 3)], ([(.e (.one (.v (.slice (.some ad) 0 cp))))] : List AV) = [(.e (.one (.v (.slice (.some ad) 0 cp))))], ([] : List (Option (Option AB))) = [], True, ([(.some (bK [] 0 3))] : List (Option (Option AB))) = [(.some (bK [] 0 3))], FlatB (some { cells := [], n := (0 : Nat), elem := (3 : TypeId), full := true, ext := AX.cells : AB }) ∧ True, ((.e (.one (.slc 3 0 0 1 0 true))) : AV) = (.e (.one (.slc 3 0 0 1 0 true))), (true : Bool) = true]) (by kernel_rfl) (fun j => by kernel_rfl) ⟨h1_0, h1_1, rfl, rfl, h1_4, rfl, h1_6, rfl, rfl, trivial⟩ (fun j => gZ [1, 4] (ho j))))
def m165_end (g : Nat) (f : Int) (Y : List AC) (j : JN) : St := ⟨[(bK [(.slc 1 0 (g + 1) 1 (g + 1) false), (.v (.int .i64 f))] 2 182), (.some ⟨(Y), (g + 1), 3, false, .cells⟩)], [(.code .ret)], mkT j [(6, (.e (.one (.ptr 0 0))))] 20 0⟩
theorem m165 (hE : EnvOk E) (G : List DT) (g _h _n : Nat) (_x a b d f : Int) (Y D : List AC) (h1_0 : ((iI (wrapF IntKind.i64 (a + d))) : AV) = (iI f)) (h1_1 : COut E 0 [] 121 [(dQ G g)] (.e (.one (.slc 0 0 g 1 g false))) [(.some ⟨(D), g, 3, false, .cells⟩)]) (h1_4 : True) (h1_6 : FlatB (some { cells := D, n := g, elem := (3 : TypeId), full := false, ext := AX.cells : AB }) ∧ True) (h1_8 : ¬g + 1 ≤ g) (h1_9 : (small (g + 1) (1 : Nat) (8 : Nat) : Bool) = true) (h1_10 : (g : Nat) = g * 1) (h1_11 : (appL D ((fun x => AC.v (Value.int IntKind.i64 b) :: x) []) : List AC) = Y) (h1_13 : ((g + 1) * 1 : Nat) = g + 1) (g0 : FlatC Y) {Φ : Res → Prop} (ho : ∀ j, OutK E 0 0 (m165_end g f Y j) Φ) (j : JN) : OutK E 0 0 (t165s G g a b d j) Φ :=
 outK_draw' hE (h := (t165s G g a b d j).heap) (ops := opsOf (aF [1, 0] Tryz.f165)) (id := idOf (aF [1, 0] Tryz.f165)) (todo := [(.code .ret)]) (tm := (t165s G g a b d j).tm) (by kernel_rfl) (outR_split 3 5 rfl (outR_seg hE (R0_ok hE) [0, 1, 2, 3, 4, 5, 6, 7, 8, 9, 10, 11, 12, 13] [(3, (.cl [] [] [(dQ G g)] [] (.e (.one (.slc 0 0 g 1 g false))) [(.some ⟨(D), g, 3, false, .cells⟩)] (.e (.one (.slc 2 0 g 1 g false))) [true] [(.some ⟨(D), g, 3, false, .cells⟩)])), (6, (.app (g + 1) (g + 1) Y)), (11, (.rn (iI f)))] [] [6] (s' := fun j => ⟨[(bK [(.dp (.s G g 1)), (.v (.int .i64 a))] 2 182), (bK [(.slc 4 0 (g + 1) 1 (g + 1) false), (.v (.int .i64 f))] 2 182), none, (bK [(.v (.int .i64 b))] 1 3), (.some ⟨(Y), (g + 1), 3, false, .cells⟩)], [(.code .ret)], mkT j [(6, (.e (.one (.ptr 1 0))))] 20 0⟩) (ps := [((iI (wrapF IntKind.i64 (a + d))) : AV) = (iI f), COut E 0 [] 121 [(dQ G g)] (.e (.one (.slc 0 0 g 1 g false))) [(.some ⟨(D), g, 3, false, .cells⟩)], ([(dQ G g)] : List AV) = [(dQ G g)], ([] : List (Option (Option AB))) = [], True, ([(.some (.some ⟨(D), g, 3, false, .cells⟩))] : List (Option (Option AB))) = [(.some (.some ⟨(D), g, 3, false, .cells⟩))], FlatB (some { cells := D, n := g, elem := (3 : TypeId), full := false, ext := AX.cells : AB }) ∧ True, ((.e (.one (.slc 2 0 g 1 g false))) : AV) = (.e (.one (.slc 2 0 g 1 g false))), ¬g + 1 ≤ g, (small (g + 1) (1 : Nat) (8 : Nat) : Bool) = true, (g : Nat) = g * 1, (appL D ((fun x => AC.v (Value.int IntKind.i64 b) :: x) []) : List AC) = Y, (g + 1 : Nat) = g + 1, ((g + 1) * 1 : Nat) = g + 1, (true : Bool) = true]) (by kernel_rfl) (fun j => by kernel_rfl) ⟨h1_0, h1_1, rfl, rfl, h1_4, rfl, h1_6, rfl, h1_8, h1_9, h1_10, h1_11, rfl, h1_13, rfl, trivial⟩ (fun j => outK_gcF [1, 4] [false, true] (h' := [(bK [(.slc 1 0 (g + 1) 1 (g + 1) false), (.v (.int .i64 f))] 2 182), (.some ⟨(Y), (g + 1), 3, false, .cells⟩)]) (by decide) (by kernel_rfl) (by kernel_rfl) ⟨g0, trivial⟩ (by kernel_rfl) (ho j))) (outR_seg hE (R0_ok hE) [0, 1, 2, 4, 5, 3, 6, 7, 8, 9, 10, 11, 12, 13] [(5, (.cl [] [] [(dQ G g)] [] (.e (.one (.slc 0 0 g 1 g false))) [(.some ⟨(D), g, 3, false, .cells⟩)] (.e (.one (.slc 3 0 g 1 g false))) [true] [(.some ⟨(D), g, 3, false, .cells⟩)])), (6, (.app (g + 1) (g + 1) Y)), (11, (.rn (iI f)))] [] [6] (s' := fun j => ⟨[(bK [(.dp (.s G g 1)), (.v (.int .i64 a))] 2 182), (bK [(.slc 4 0 (g + 1) 1 (g + 1) false), (.v (.int .i64 f))] 2 182), (bK [(.v (.int .i64 b))] 1 3), none, (.some ⟨(Y), (g + 1), 3, false, .cells⟩)], [(.code .ret)], mkT j [(6, (.e (.one (.ptr 1 0))))] 20 0⟩) (ps := [((iI (wrapF IntKind.i64 (a + d))) : AV) = (iI f), COut E 0 [] 121 [(dQ G g)] (.e (.one (.slc 0 0 g 1 g false))) [(.some ⟨(D), g, 3, false, .cells⟩)], ([(dQ G g)] : List AV) = [(dQ G g)], ([] : List (Option (Option AB))) = [], True, ([(.some (.some ⟨(D), g, 3, false, .cells⟩))] : List (Option (Option AB))) = [(.some (.some ⟨(D), g, 3, false, .cells⟩))], FlatB (some { cells := D, n := g, elem := (3 : TypeId), full := false, ext := AX.cells : AB }) ∧ True, ((.e (.one (.slc 3 0 g 1 g false))) : AV) = (.e (.one (.slc 3 0 g 1 g false))), ¬g + 1 ≤ g, (small (g + 1) (1 : Nat) (8 : Nat) : Bool) = true, (g : Nat) = g * 1, (appL D ((fun x => AC.v (Value.int IntKind.i64 b) :: x) []) : List AC) = Y, (g + 1 : Nat) = g + 1, ((g + 1) * 1 : Nat) = g + 1, (true : Bool) = true]) (by kernel_rfl) (fun j => by kernel_rfl) ⟨h1_0, h1_1, rfl, rfl, h1_4, rfl, h1_6, rfl, h1_8, h1_9, h1_10, h1_11, rfl, h1_13, rfl, trivial⟩ (fun j => outK_gcF [1, 4] [false, true] (h' := [(bK [(.slc 1 0 (g + 1) 1 (g + 1) false), (.v (.int .i64 f))] 2 182), (.some ⟨(Y), (g + 1), 3, false, .cells⟩)]) (by decide) (by kernel_rfl) (by kernel_rfl) ⟨g0, trivial⟩ (by kernel_rfl) (ho j))))
def m187s_end (G : List DT) (g i : Nat) (j : JN) : St := ⟨[], [(.code (aF [1, 1, 0, 1, 0, 0] Tryz.f187)), (.inLoop (aF [1, 1, 0, 1, 0, 0] Tryz.f187)), (.inBlock 0), (.code (aF [1, 1, 1] Tryz.f187))], mkT j [(3, (iI 0)), (6, (dQ G g)), (7, (iN g)), (8, (iN (i + 1)))] 18 0⟩
theorem m187s (hE : EnvOk E) (G : List DT) (g i : Nat) (x : Int) (h0 : (decide (Int.ofNat i < Int.ofNat g) : Bool) = true) (h1 : (0 : Int) ≤ Int.ofNat i ∧ Int.ofNat i < (↑g : Int)) (h2 : ((Int.ofNat i).toNat * nat_lit 1 : Nat) = i) (h3 : (getL G i : Option DT) = (.some (.v (.int .i64 x)))) (h4 : (x != Int.ofNat (nat_lit 0) : Bool) = false) (h5 : ((iI (wrapF IntKind.i64 (Int.ofNat i + (1 : Int)))) : AV) = (iN (i + 1))) {Φ : Res → Prop} (ho : ∀ j, OutK E 0 0 (m187s_end G g i j) Φ) (j : JN) : OutK E 0 0 (t187 G g i j) Φ :=
 oS hE [.run 3, (.cond true), .run 4, (.ops [(1, (.d (.ld (.v (.int .i64 x))))), (0, (.d (.ix i)))] []), .run 2, (.cond false), .run 2, (.ops [(0, (.rn (iN (i + 1))))] []), .run 1] [3, 6, 7, 8] (aQ h0 h1 h2 h3 <| aP h4 <| aP h5 <| aZ)
  ho
def m187r_end (x : Int) (j : JN) : St := ⟨[], [(.code .ret), (.inBlock 1), (.code (aF [1, 1, 0, 1, 0, 0, 1, 1, 1] Tryz.f187)), (.inLoop (aF [1, 1, 0, 1, 0, 0] Tryz.f187)), (.inBlock 0), (.code (aF [1, 1, 1] Tryz.f187))], mkT j [(2, (iI x))] 18 0⟩
theorem m187r (hE : EnvOk E) (G : List DT) (g i : Nat) (x : Int) (h0 : (decide (Int.ofNat i < Int.ofNat g) : Bool) = true) (h1 : (0 : Int) ≤ Int.ofNat i ∧ Int.ofNat i < (↑g : Int)) (h2 : ((Int.ofNat i).toNat * nat_lit 1 : Nat) = i) (h3 : (getL G i : Option DT) = (.some (.v (.int .i64 x)))) (h4 : (x != Int.ofNat (nat_lit 0) : Bool) = true) {Φ : Res → Prop} (ho : ∀ j, OutK E 0 0 (m187r_end x j) Φ) (j : JN) : OutK E 0 0 (t187 G g i j) Φ :=
 oS hE [.run 3, (.cond true), .run 4, (.ops [(1, (.d (.ld (.v (.int .i64 x))))), (0, (.d (.ix i)))] []), .run 2, (.cond true), .run 2] [2] (aQ h0 h1 h2 h3 <| aP h4 <| aZ)
  ho
def m187x_end (j : JN) : St := ⟨[], [(.code .ret)], mkT j [(2, (iI 0))] 18 0⟩
theorem m187x (hE : EnvOk E) (G : List DT) (g i : Nat) (h0 : (decide (Int.ofNat i < Int.ofNat g) : Bool) = false) {Φ : Res → Prop} (ho : ∀ j, OutK E 0 0 (m187x_end j) Φ) (j : JN) : OutK E 0 0 (t187 G g i j) Φ :=
 oS hE [.run 3, (.cond false), .run 3] [2] (aP h0 <| aZ)
  ho
def m188s_end (G H : List DT) (g h i : Nat) (j : JN) : St := ⟨[], [(.code (aF [1, 0, 1, 0, 0] Tryz.f188)), (.inLoop (aF [1, 0, 1, 0, 0] Tryz.f188)), (.inBlock 0), (.code (aF [1, 1] Tryz.f188))], mkT j [(0, (dQ G g)), (1, (dQ H h)), (9, (dQ G g)), (10, (iN g)), (11, (iN (i + 1)))] 36 0⟩
theorem m188s (hE : EnvOk E) (G H : List DT) (g h i : Nat) (x y e : Int) (h0 : (decide (Int.ofNat i < Int.ofNat g) : Bool) = true) (h1 : (0 : Int) ≤ Int.ofNat i ∧ Int.ofNat i < (↑g : Int)) (h2 : ((Int.ofNat i).toNat * nat_lit 1 : Nat) = i) (h3 : (getL G i : Option DT) = (.some (.v (.int .i64 x)))) (h4 : (decide (Int.ofNat i ≥ (↑h : Int)) : Bool) = false) (h5 : (0 : Int) ≤ Int.ofNat i ∧ Int.ofNat i < (↑h : Int)) (h7 : (getL H i : Option DT) = (.some (.v (.int .i64 y)))) (h8 : COut E 0 [] 95 [(iI x), (iI y)] (iI e) []) (h10 : (e != (0 : Int) : Bool) = false) (h11 : ((iI (wrapF IntKind.i64 (Int.ofNat i + (1 : Int)))) : AV) = (iN (i + 1))) {Φ : Res → Prop} (ho : ∀ j, OutK E 0 0 (m188s_end G H g h i j) Φ) (j : JN) : OutK E 0 0 (t188 G H g h i j) Φ :=
 oS hE [.run 3, (.cond true), .run 4, (.ops [(2, (.d (.ld (.v (.int .i64 x))))), (1, (.d (.ix i)))] []), .run 2, (.ops [(2, (.d .len))] []), (.cond false), .run 2, (.ops [(3, (.d (.ld (.v (.int .i64 y))))), (2, (.d (.ix i)))] []), .run 1, (.ops [(2, (.c0 (iI e)))] []), .run 2, (.cond false), .run 2, (.ops [(0, (.rn (iN (i + 1))))] []), .run 1] [0, 1, 9, 10, 11] (aQ h0 h1 h2 h3 <| aQ h4 h5 h2 h7 <| aP h8 <| aN <| aP h10 <| aP h11 <| aZ)
  ho
def m188e_end (e : Int) (j : JN) : St := ⟨[], [(.code .ret), (.inBlock 1), (.code (aF [1, 0, 1, 0, 0, 1, 1, 1] Tryz.f188)), (.inLoop (aF [1, 0, 1, 0, 0] Tryz.f188)), (.inBlock 0), (.code (aF [1, 1] Tryz.f188))], mkT j [(4, (iI e))] 36 0⟩
theorem m188e (hE : EnvOk E) (G H : List DT) (g h i : Nat) (x y e : Int) (h0 : (decide (Int.ofNat i < Int.ofNat g) : Bool) = true) (h1 : (0 : Int) ≤ Int.ofNat i ∧ Int.ofNat i < (↑g : Int)) (h2 : ((Int.ofNat i).toNat * nat_lit 1 : Nat) = i) (h3 : (getL G i : Option DT) = (.some (.v (.int .i64 x)))) (h4 : (decide (Int.ofNat i ≥ (↑h : Int)) : Bool) = false) (h5 : (0 : Int) ≤ Int.ofNat i ∧ Int.ofNat i < (↑h : Int)) (h7 : (getL H i : Option DT) = (.some (.v (.int .i64 y)))) (h8 : COut E 0 [] 95 [(iI x), (iI y)] (iI e) []) (h10 : (e != (0 : Int) : Bool) = true) {Φ : Res → Prop} (ho : ∀ j, OutK E 0 0 (m188e_end e j) Φ) (j : JN) : OutK E 0 0 (t188 G H g h i j) Φ :=
 oS hE [.run 3, (.cond true), .run 4, (.ops [(2, (.d (.ld (.v (.int .i64 x))))), (1, (.d (.ix i)))] []), .run 2, (.ops [(2, (.d .len))] []), (.cond false), .run 2, (.ops [(3, (.d (.ld (.v (.int .i64 y))))), (2, (.d (.ix i)))] []), .run 1, (.ops [(2, (.c0 (iI e)))] []), .run 2, (.cond true), .run 2] [4] (aQ h0 h1 h2 h3 <| aQ h4 h5 h2 h7 <| aP h8 <| aN <| aP h10 <| aZ)
  ho
def m188g_end (j : JN) : St := ⟨[], [(.code .ret), (.code (aF [1, 0, 1, 0, 0, 1, 1, 0, 0, 1, 1] Tryz.f188)), (.inBlock 1), (.code (aF [1, 0, 1, 0, 0, 1, 1, 1] Tryz.f188)), (.inLoop (aF [1, 0, 1, 0, 0] Tryz.f188)), (.inBlock 0), (.code (aF [1, 1] Tryz.f188))], mkT j [(4, (iI 1))] 36 0⟩
theorem m188g (hE : EnvOk E) (G H : List DT) (g h i : Nat) (x : Int) (h0 : (decide (Int.ofNat i < Int.ofNat g) : Bool) = true) (h1 : (0 : Int) ≤ Int.ofNat i ∧ Int.ofNat i < (↑g : Int)) (h2 : ((Int.ofNat i).toNat * nat_lit 1 : Nat) = i) (h3 : (getL G i : Option DT) = (.some (.v (.int .i64 x)))) (h4 : (decide (Int.ofNat i ≥ (↑h : Int)) : Bool) = true) {Φ : Res → Prop} (ho : ∀ j, OutK E 0 0 (m188g_end j) Φ) (j : JN) : OutK E 0 0 (t188 G H g h i j) Φ :=
 oS hE [.run 3, (.cond true), .run 4, (.ops [(2, (.d (.ld (.v (.int .i64 x))))), (1, (.d (.ix i)))] []), .run 2, (.ops [(2, (.d .len))] []), (.cond true), .run 2] [4] (aQ h0 h1 h2 h3 <| aP h4 <| aZ)
  ho
def m188l_end (j : JN) : St := ⟨[], [(.code .ret), (.code (aF [1, 1, 1] Tryz.f188))], mkT j [(4, (iI (-1)))] 36 0⟩
theorem m188l (hE : EnvOk E) (G H : List DT) (g h i : Nat) (h0 : (decide (Int.ofNat i < Int.ofNat g) : Bool) = false) (h1 : (decide ((↑g : Int) < (↑h : Int)) : Bool) = true) {Φ : Res → Prop} (ho : ∀ j, OutK E 0 0 (m188l_end j) Φ) (j : JN) : OutK E 0 0 (t188 G H g h i j) Φ :=
 oS hE [.run 3, (.cond false), .run 3, (.ops [(1, (.d .len)), (3, (.d .len))] []), (.cond true), .run 2] [4] (aP h0 <| aP h1 <| aZ)
  ho
def m188x_end (j : JN) : St := ⟨[], [(.code .ret)], mkT j [(4, (iI 0))] 36 0⟩
theorem m188x (hE : EnvOk E) (G H : List DT) (g h i : Nat) (h0 : (decide (Int.ofNat i < Int.ofNat g) : Bool) = false) (h1 : (decide ((↑g : Int) < (↑h : Int)) : Bool) = false) {Φ : Res → Prop} (ho : ∀ j, OutK E 0 0 (m188x_end j) Φ) (j : JN) : OutK E 0 0 (t188 G H g h i j) Φ :=
 oS hE [.run 3, (.cond false), .run 3, (.ops [(1, (.d .len)), (3, (.d .len))] []), (.cond false), .run 3] [4] (aP h0 <| aP h1 <| aZ)
  ho
def m110s_end (G H R : List DT) (h m q i n : Nat) (a : Int) (Y : List AC) (j : JN) : St := ⟨[(bK Y (n + n) 182), (bK [(.dp (.s H h 1)), (.v (.int .i64 a))] 2 182)], [(.code (aF [1, 1, 0, 1, 0, 0, 1, 1, 0, 0, 1, 1, 0, 0] Tryz.f110)), (.inLoop (aF [1, 1, 0, 1, 0, 0, 1, 1, 0, 0, 1, 1, 0, 0] Tryz.f110)), (.inBlock 2), (.inBlock 1), (.code (aF [1, 1, 0, 1, 0, 0, 1, 1, 1] Tryz.f110)), (.inLoop (aF [1, 1, 0, 1, 0, 0] Tryz.f110)), (.inBlock 0), (.code (aF [1, 1, 1] Tryz.f110))], mkT j [(1, (dQ R m)), (5, (.e (.one (.slc 0 0 n 2 n true)))), (6, (iN i)), (7, (.e (.one (.ptr 1 0)))), (19, (.e (.one (.dp (.s G q 2))))), (20, (iN q)), (21, (iN i)), (26, (dQ R m)), (27, (iN m)), (28, (iI 0))] 61 0⟩
theorem m110s (hE : EnvOk E) (G H R : List DT) (h m q i n : Nat) (a : Int) (Y : List AC) (h0 : (decide (Int.ofNat i < Int.ofNat q) : Bool) = true) (h1 : (0 : Int) ≤ Int.ofNat i ∧ Int.ofNat i < (↑q : Int)) (h2 : ((Int.ofNat i).toNat * nat_lit 2 : Nat) = i.mul (nat_lit 2)) (h3 : (takeL (dropL G (i.mul (nat_lit 2))) (2 : Nat) : Option (List DT)) = (.some [(.s H h 1), (.v (.int .i64 a))])) {Φ : Res → Prop} (ho : ∀ j, OutK E 0 0 (m110s_end G H R h m q i n a Y j) Φ) (j : JN) : OutK E 0 0 (t110 G R m q i n Y j) Φ :=
 oS hE [.run 3, (.cond true), .run 4, (.ops [(2, (.d (.ldn [(.s H h 1), (.v (.int .i64 a))]))), (1, (.d (.ix (i.mul (nat_lit 2)))))] []), .run 1, (.ops [(1, (.d .len))] []), .run 2] [1, 5, 6, 7, 19, 20, 21, 26, 27, 28] (aQ h0 h1 h2 h3 <| aZ)
  ho
def m110x_end (n : Nat) (Y : List AC) (j : JN) : St := ⟨[(bK Y (n + n) 182)], [(.code .ret)], mkT j [(4, (.e (.one (.slc 0 0 n 2 n true))))] 61 0⟩
theorem m110x (hE : EnvOk E) (G R : List DT) (m q i n : Nat) (Y : List AC) (h0 : (decide (Int.ofNat i < Int.ofNat q) : Bool) = false) {Φ : Res → Prop} (ho : ∀ j, OutK E 0 0 (m110x_end n Y j) Φ) (j : JN) : OutK E 0 0 (t110 G R m q i n Y j) Φ :=
 oS hE [.run 3, (.cond false), .run 3] [4] (aP h0 <| aZ)
  ho
def m110n_end (G H R : List DT) (h m q i k n : Nat) (a : Int) (Z : List AC) (j : JN) : St := ⟨[(bK Z (n + n) 182), (bK [(.dp (.s H h 1)), (.v (.int .i64 a))] 2 182)], [(.code (aF [1, 1, 0, 1, 0, 0, 1, 1, 0, 0, 1, 1, 0, 0] Tryz.f110)), (.inLoop (aF [1, 1, 0, 1, 0, 0, 1, 1, 0, 0, 1, 1, 0, 0] Tryz.f110)), (.inBlock 2), (.inBlock 1), (.code (aF [1, 1, 0, 1, 0, 0, 1, 1, 1] Tryz.f110)), (.inLoop (aF [1, 1, 0, 1, 0, 0] Tryz.f110)), (.inBlock 0), (.code (aF [1, 1, 1] Tryz.f110))], mkT j [(1, (dQ R m)), (5, (.e (.one (.slc 0 0 n 2 n true)))), (6, (iN i)), (7, (.e (.one (.ptr 1 0)))), (19, (.e (.one (.dp (.s G q 2))))), (20, (iN q)), (21, (iN i)), (26, (dQ R m)), (27, (iN m)), (28, (iN (k + 1)))] 61 0⟩
theorem m110n (hE : EnvOk E) (G H R W : List DT) (h m q i k n c w : Nat) (_x z a f : Int) (Y Z : List AC) (h0 : (decide (Int.ofNat k < Int.ofNat m) : Bool) = true) (h1 : (0 : Int) ≤ Int.ofNat k ∧ Int.ofNat k < (↑m : Int)) (h2 : ((Int.ofNat k).toNat * nat_lit 1 : Nat) = k) (h3 : (getL R k : Option DT) = (.some (.v (.int .i64 z)))) (h4 : COut E 0 [] 165 [(.e (.agg [(.dp (.s H h 1)), (.v (.int .i64 a))])), (iN k), (iI z)] (.e (.agg [(.dp (.s W w 1)), (.v (.int .i64 f))])) []) (h6 : ((iI (wrapF IntKind.i64 (Int.ofNat i + Int.ofNat k))) : AV) = (iN (i + k))) (h7 : (0 : Int) ≤ Int.ofNat (i + k) ∧ Int.ofNat (i + k) < (↑n : Int)) (h8 : (nat_lit 0 + (Int.ofNat (i + k)).toNat * nat_lit 2 : Nat) = c) (h9 : (takeL (dropL Y c) (2 : Nat) : Option (List AC)) = (.some [(.v (.slice none 0 0)), (.v (.int .i64 0))])) (h13 : c + 2 ≤ n + n) (h14 : (overL ((fun x => AC.dp (DV.s W w (nat_lit 1)) :: x) ((fun x => AC.v (Value.int IntKind.i64 f) :: x) [])) Y c : List AC) = Z) (h15 : ((iI (wrapF IntKind.i64 (Int.ofNat k + (1 : Int)))) : AV) = (iN (k + 1))) (g0 : FlatC Z) {Φ : Res → Prop} (ho : ∀ j, OutK E 0 0 (m110n_end G H R h m q i k n a Z j) Φ) (j : JN) : OutK E 0 0 (t110i G H R h m q i k n a Y j) Φ :=
 oS hE [.run 3, (.cond true), .run 4, (.ops [(2, (.d (.ld (.v (.int .i64 z))))), (1, (.d (.ix k)))] []), .run 1, (.ops [(3, (.c0 (.e (.agg [(.dp (.s W w 1)), (.v (.int .i64 f))]))))] []), .run 1, (.ops [(3, (.rn (iN (i + k)))), (4, (.ix c)), (5, (.ldn [(.v (.slice none 0 0)), (.v (.int .i64 0))]))] []), .run 3, (.ops [(3, (.rn (iN (i + k)))), (5, (.ix c)), (6, (.st Z))] []), .run 1, (.ops [(0, (.rn (iN (k + 1))))] []), .run 1] [1, 5, 6, 7, 19, 20, 21, 26, 27, 28] (s' := fun j => ⟨[(bK Z (n + n) 182), (bK [(.dp (.s H h 1)), (.v (.int .i64 a))] 2 182), (bK [(.dp (.s W w 1)), (.v (.int .i64 f))] 2 182), (bK [(.v (.slice none 0 0)), (.v (.int .i64 0))] 2 182)], [(.code (aF [1, 1, 0, 1, 0, 0, 1, 1, 0, 0, 1, 1, 0, 0] Tryz.f110)), (.inLoop (aF [1, 1, 0, 1, 0, 0, 1, 1, 0, 0, 1, 1, 0, 0] Tryz.f110)), (.inBlock 2), (.inBlock 1), (.code (aF [1, 1, 0, 1, 0, 0, 1, 1, 1] Tryz.f110)), (.inLoop (aF [1, 1, 0, 1, 0, 0] Tryz.f110)), (.inBlock 0), (.code (aF [1, 1, 1] Tryz.f110))], mkT j [(1, (dQ R m)), (5, (.e (.one (.slc 0 0 n 2 n true)))), (6, (iN i)), (7, (.e (.one (.ptr 1 0)))), (19, (.e (.one (.dp (.s G q 2))))), (20, (iN q)), (21, (iN i)), (26, (dQ R m)), (27, (iN m)), (28, (iN (k + 1)))] 61 0⟩) (aQ h0 h1 h2 h3 <| aP h4 <| aN <| aQ h6 h7 h8 h9 <| aQ h6 h7 h8 h13 <| aP h14 <| aP h15 <| aZ)
  fun j => outK_gcF [0, 1] [true, false] (h' := [(bK Z (n + n) 182), (bK [(.dp (.s H h 1)), (.v (.int .i64 a))] 2 182)]) (by decide) (by kernel_rfl) (by kernel_rfl) ⟨g0, trivial⟩ (by kernel_rfl) (ho j)
def m110b_end (G H R : List DT) (h m q i k n : Nat) (a : Int) (Z : List AC) (j : JN) : St := ⟨[(bK Z (n + n) 182), (bK [(.dp (.s H h 1)), (.v (.int .i64 a))] 2 182)], [(.code (aF [1, 1, 0, 1, 0, 0, 1, 1, 0, 0, 1, 1, 0, 0] Tryz.f110)), (.inLoop (aF [1, 1, 0, 1, 0, 0, 1, 1, 0, 0, 1, 1, 0, 0] Tryz.f110)), (.inBlock 2), (.inBlock 1), (.code (aF [1, 1, 0, 1, 0, 0, 1, 1, 1] Tryz.f110)), (.inLoop (aF [1, 1, 0, 1, 0, 0] Tryz.f110)), (.inBlock 0), (.code (aF [1, 1, 1] Tryz.f110))], mkT j [(1, (dQ R m)), (5, (.e (.one (.slc 0 0 n 2 n true)))), (6, (iN i)), (7, (.e (.one (.ptr 1 0)))), (19, (.e (.one (.dp (.s G q 2))))), (20, (iN q)), (21, (iN i)), (26, (dQ R m)), (27, (iN m)), (28, (iN (k + 1)))] 61 0⟩
theorem m110b (hE : EnvOk E) (G H R W K : List DT) (h m q i k n c w l : Nat) (_x z a e f : Int) (Y Z : List AC) (hb : Bool) (h0 : (decide (Int.ofNat k < Int.ofNat m) : Bool) = true) (h1 : (0 : Int) ≤ Int.ofNat k ∧ Int.ofNat k < (↑m : Int)) (h2 : ((Int.ofNat k).toNat * nat_lit 1 : Nat) = k) (h3 : (getL R k : Option DT) = (.some (.v (.int .i64 z)))) (h4 : COut E 0 [] 165 [(.e (.agg [(.dp (.s H h 1)), (.v (.int .i64 a))])), (iN k), (iI z)] (.e (.agg [(.dp (.s W w 1)), (.v (.int .i64 f))])) []) (h6 : ((iI (wrapF IntKind.i64 (Int.ofNat i + Int.ofNat k))) : AV) = (iN (i + k))) (h7 : (0 : Int) ≤ Int.ofNat (i + k) ∧ Int.ofNat (i + k) < (↑n : Int)) (h8 : (nat_lit 0 + (Int.ofNat (i + k)).toNat * nat_lit 2 : Nat) = c) (h9 : (takeL (dropL Y c) (2 : Nat) : Option (List AC)) = (.some [(.dp (.s K l 1)), (.v (.int .i64 e))])) (h10 : (0 : Nat) < l) (h11 : COut E 0 [] 166 [(.e (.agg [(.dp (.s W w 1)), (.v (.int .i64 f))])), (.e (.agg [(.dp (.s K l 1)), (.v (.int .i64 e))]))] (iB hb) []) (h13 : (hb : Bool) = true) (h17 : c + 2 ≤ n + n) (h18 : (overL ((fun x => AC.dp (DV.s W w (nat_lit 1)) :: x) ((fun x => AC.v (Value.int IntKind.i64 f) :: x) [])) Y c : List AC) = Z) (h19 : ((iI (wrapF IntKind.i64 (Int.ofNat k + (1 : Int)))) : AV) = (iN (k + 1))) (g0 : FlatC Z) {Φ : Res → Prop} (ho : ∀ j, OutK E 0 0 (m110b_end G H R h m q i k n a Z j) Φ) (j : JN) : OutK E 0 0 (t110i G H R h m q i k n a Y j) Φ :=
 oS hE [.run 3, (.cond true), .run 4, (.ops [(2, (.d (.ld (.v (.int .i64 z))))), (1, (.d (.ix k)))] []), .run 1, (.ops [(3, (.c0 (.e (.agg [(.dp (.s W w 1)), (.v (.int .i64 f))]))))] []), .run 1, (.ops [(3, (.rn (iN (i + k)))), (4, (.ix c)), (5, (.ldn [(.dp (.s K l 1)), (.v (.int .i64 e))]))] []), .run 1, (.ops [(3, (.d .nc)), (7, (.c0 (iB hb)))] []), (.cond true), (.ops [(3, (.rn (iN (i + k)))), (5, (.ix c)), (6, (.st Z))] []), .run 1, (.ops [(0, (.rn (iN (k + 1))))] []), .run 1] [1, 5, 6, 7, 19, 20, 21, 26, 27, 28] (s' := fun j => ⟨[(bK Z (n + n) 182), (bK [(.dp (.s H h 1)), (.v (.int .i64 a))] 2 182), (bK [(.dp (.s W w 1)), (.v (.int .i64 f))] 2 182), (bK [(.dp (.s K l 1)), (.v (.int .i64 e))] 2 182)], [(.code (aF [1, 1, 0, 1, 0, 0, 1, 1, 0, 0, 1, 1, 0, 0] Tryz.f110)), (.inLoop (aF [1, 1, 0, 1, 0, 0, 1, 1, 0, 0, 1, 1, 0, 0] Tryz.f110)), (.inBlock 2), (.inBlock 1), (.code (aF [1, 1, 0, 1, 0, 0, 1, 1, 1] Tryz.f110)), (.inLoop (aF [1, 1, 0, 1, 0, 0] Tryz.f110)), (.inBlock 0), (.code (aF [1, 1, 1] Tryz.f110))], mkT j [(1, (dQ R m)), (5, (.e (.one (.slc 0 0 n 2 n true)))), (6, (iN i)), (7, (.e (.one (.ptr 1 0)))), (19, (.e (.one (.dp (.s G q 2))))), (20, (iN q)), (21, (iN i)), (26, (dQ R m)), (27, (iN m)), (28, (iN (k + 1)))] 61 0⟩) (aQ h0 h1 h2 h3 <| aP h4 <| aN <| aQ h6 h7 h8 h9 <| aP h10 <| aP h11 <| aN <| aQ h13 h6 h7 h8 <| aP h17 <| aP h18 <| aP h19 <| aZ)
  fun j => outK_gcF [0, 1] [true, false] (h' := [(bK Z (n + n) 182), (bK [(.dp (.s H h 1)), (.v (.int .i64 a))] 2 182)]) (by decide) (by kernel_rfl) (by kernel_rfl) ⟨g0, trivial⟩ (by kernel_rfl) (ho j)
def m110k_end (G H R : List DT) (h m q i k n : Nat) (a : Int) (Y : List AC) (j : JN) : St := ⟨[(bK Y (n + n) 182), (bK [(.dp (.s H h 1)), (.v (.int .i64 a))] 2 182)], [(.code (aF [1, 1, 0, 1, 0, 0, 1, 1, 0, 0, 1, 1, 0, 0] Tryz.f110)), (.inLoop (aF [1, 1, 0, 1, 0, 0, 1, 1, 0, 0, 1, 1, 0, 0] Tryz.f110)), (.inBlock 2), (.inBlock 1), (.code (aF [1, 1, 0, 1, 0, 0, 1, 1, 1] Tryz.f110)), (.inLoop (aF [1, 1, 0, 1, 0, 0] Tryz.f110)), (.inBlock 0), (.code (aF [1, 1, 1] Tryz.f110))], mkT j [(1, (dQ R m)), (5, (.e (.one (.slc 0 0 n 2 n true)))), (6, (iN i)), (7, (.e (.one (.ptr 1 0)))), (19, (.e (.one (.dp (.s G q 2))))), (20, (iN q)), (21, (iN i)), (26, (dQ R m)), (27, (iN m)), (28, (iN (k + 1)))] 61 0⟩
theorem m110k (hE : EnvOk E) (G H R W K : List DT) (h m q i k n c w l : Nat) (z a e f : Int) (Y : List AC) (hb : Bool) (h0 : (decide (Int.ofNat k < Int.ofNat m) : Bool) = true) (h1 : (0 : Int) ≤ Int.ofNat k ∧ Int.ofNat k < (↑m : Int)) (h2 : ((Int.ofNat k).toNat * nat_lit 1 : Nat) = k) (h3 : (getL R k : Option DT) = (.some (.v (.int .i64 z)))) (h4 : COut E 0 [] 165 [(.e (.agg [(.dp (.s H h 1)), (.v (.int .i64 a))])), (iN k), (iI z)] (.e (.agg [(.dp (.s W w 1)), (.v (.int .i64 f))])) []) (h6 : ((iI (wrapF IntKind.i64 (Int.ofNat i + Int.ofNat k))) : AV) = (iN (i + k))) (h7 : (0 : Int) ≤ Int.ofNat (i + k) ∧ Int.ofNat (i + k) < (↑n : Int)) (h8 : (nat_lit 0 + (Int.ofNat (i + k)).toNat * nat_lit 2 : Nat) = c) (h9 : (takeL (dropL Y c) (2 : Nat) : Option (List AC)) = (.some [(.dp (.s K l 1)), (.v (.int .i64 e))])) (h10 : (0 : Nat) < l) (h11 : COut E 0 [] 166 [(.e (.agg [(.dp (.s W w 1)), (.v (.int .i64 f))])), (.e (.agg [(.dp (.s K l 1)), (.v (.int .i64 e))]))] (iB hb) []) (h13 : (hb : Bool) = false) (h14 : ((iI (wrapF IntKind.i64 (Int.ofNat k + (1 : Int)))) : AV) = (iN (k + 1))) (g0 : FlatC Y) {Φ : Res → Prop} (ho : ∀ j, OutK E 0 0 (m110k_end G H R h m q i k n a Y j) Φ) (j : JN) : OutK E 0 0 (t110i G H R h m q i k n a Y j) Φ :=
 oS hE [.run 3, (.cond true), .run 4, (.ops [(2, (.d (.ld (.v (.int .i64 z))))), (1, (.d (.ix k)))] []), .run 1, (.ops [(3, (.c0 (.e (.agg [(.dp (.s W w 1)), (.v (.int .i64 f))]))))] []), .run 1, (.ops [(3, (.rn (iN (i + k)))), (4, (.ix c)), (5, (.ldn [(.dp (.s K l 1)), (.v (.int .i64 e))]))] []), .run 1, (.ops [(3, (.d .nc)), (7, (.c0 (iB hb)))] []), (.cond false), .run 2, (.ops [(0, (.rn (iN (k + 1))))] []), .run 1] [1, 5, 6, 7, 19, 20, 21, 26, 27, 28] (s' := fun j => ⟨[(bK Y (n + n) 182), (bK [(.dp (.s H h 1)), (.v (.int .i64 a))] 2 182), (bK [(.dp (.s W w 1)), (.v (.int .i64 f))] 2 182), (bK [(.dp (.s K l 1)), (.v (.int .i64 e))] 2 182)], [(.code (aF [1, 1, 0, 1, 0, 0, 1, 1, 0, 0, 1, 1, 0, 0] Tryz.f110)), (.inLoop (aF [1, 1, 0, 1, 0, 0, 1, 1, 0, 0, 1, 1, 0, 0] Tryz.f110)), (.inBlock 2), (.inBlock 1), (.code (aF [1, 1, 0, 1, 0, 0, 1, 1, 1] Tryz.f110)), (.inLoop (aF [1, 1, 0, 1, 0, 0] Tryz.f110)), (.inBlock 0), (.code (aF [1, 1, 1] Tryz.f110))], mkT j [(1, (dQ R m)), (5, (.e (.one (.slc 0 0 n 2 n true)))), (6, (iN i)), (7, (.e (.one (.ptr 1 0)))), (19, (.e (.one (.dp (.s G q 2))))), (20, (iN q)), (21, (iN i)), (26, (dQ R m)), (27, (iN m)), (28, (iN (k + 1)))] 61 0⟩) (aQ h0 h1 h2 h3 <| aP h4 <| aN <| aQ h6 h7 h8 h9 <| aP h10 <| aP h11 <| aN <| aP h13 <| aP h14 <| aZ)
  fun j => outK_gcF [0, 1] [true, false] (h' := [(bK Y (n + n) 182), (bK [(.dp (.s H h 1)), (.v (.int .i64 a))] 2 182)]) (by decide) (by kernel_rfl) (by kernel_rfl) ⟨g0, trivial⟩ (by kernel_rfl) (ho j)
def m110y_end (G R : List DT) (m q i n : Nat) (Y : List AC) (j : JN) : St := ⟨[(bK Y (n + n) 182)], [(.code (aF [1, 1, 0, 1, 0, 0] Tryz.f110)), (.inLoop (aF [1, 1, 0, 1, 0, 0] Tryz.f110)), (.inBlock 0), (.code (aF [1, 1, 1] Tryz.f110))], mkT j [(1, (dQ R m)), (5, (.e (.one (.slc 0 0 n 2 n true)))), (19, (.e (.one (.dp (.s G q 2))))), (20, (iN q)), (21, (iN (i + 1)))] 61 0⟩
theorem m110y (hE : EnvOk E) (G H R : List DT) (h m q i k n : Nat) (a : Int) (Y : List AC) (h0 : (decide (Int.ofNat k < Int.ofNat m) : Bool) = false) (h1 : ((iI (wrapF IntKind.i64 (Int.ofNat i + (1 : Int)))) : AV) = (iN (i + 1))) (g0 : FlatC Y) {Φ : Res → Prop} (ho : ∀ j, OutK E 0 0 (m110y_end G R m q i n Y j) Φ) (j : JN) : OutK E 0 0 (t110i G H R h m q i k n a Y j) Φ :=
 oS hE [.run 3, (.cond false), .run 2, (.ops [(0, (.rn (iN (i + 1))))] []), .run 1] [1, 5, 19, 20, 21] (s' := fun j => ⟨[(bK Y (n + n) 182), (bK [(.dp (.s H h 1)), (.v (.int .i64 a))] 2 182)], [(.code (aF [1, 1, 0, 1, 0, 0] Tryz.f110)), (.inLoop (aF [1, 1, 0, 1, 0, 0] Tryz.f110)), (.inBlock 0), (.code (aF [1, 1, 1] Tryz.f110))], mkT j [(1, (dQ R m)), (5, (.e (.one (.slc 0 0 n 2 n true)))), (19, (.e (.one (.dp (.s G q 2))))), (20, (iN q)), (21, (iN (i + 1)))] 61 0⟩) (aP h0 <| aP h1 <| aZ)
  fun j => outK_gcF [0] [true] (h' := [(bK Y (n + n) 182)]) (by decide) (by kernel_rfl) (by kernel_rfl) ⟨g0, trivial⟩ (by kernel_rfl) (ho j)
open Best
def cmpI (x y : Int) : Int := if x < y then -1 else if y < x then 1 else 0
theorem K156 (hE : EnvOk E) (x : Int) : COut E 0 [] 156 [iI x] (iB false) [] := by
 have h : COut E 0 [] 156 [iI x] (iB (x != x)) [] := cOut_start Tryz.func156 rfl (m156 hE x (fun j => outK_ret (ends_ret (by kernel_rfl))) fun _ => undef)
 rw [bne_self_eq_false] at h
 exact h
theorem K95c (hE : EnvOk E) (x y : Int) : COut E 0 [] 95 [iI x, iI y] (iI (cmpI x y)) [] := by
 unfold cmpI
 by_cases h : x < y
 ·rw [if_pos h]
  exact cOut_start Tryz.func95 rfl (m95l hE x y (K156 hE _) (K156 hE _) (decide_eq_true h) (fun j => outK_ret (ends_ret (by kernel_rfl))) fun _ => undef)
 ·rw [if_neg h]
  by_cases g : y < x
  ·rw [if_pos g]
   exact cOut_start Tryz.func95 rfl (m95g hE x y (K156 hE _) (K156 hE _) (decide_eq_false h) (decide_eq_true g) (fun j => outK_ret (ends_ret (by kernel_rfl))) fun _ => undef)
  ·rw [if_neg g]
   exact cOut_start Tryz.func95 rfl (m95e hE x y (K156 hE _) (K156 hE _) (decide_eq_false h) (decide_eq_false g) (fun j => outK_ret (ends_ret (by kernel_rfl))) fun _ => undef)
theorem K187 (hE : EnvOk E) (xs : List Int) (hm : xs.length ≤ 100000) : COut E 0 [] 187 [dI xs] (iI (firstI xs)) [] := by
 have lp : ∀ k i, k + i = xs.length → ∀ j, OutK E 0 0 (t187 (iD xs) xs.length i j) (Go.Ev.Ends E Tryz.f187 (iI (firstI (xs.drop i))) []) := by
  intro k
  induction k with
  | zero =>
   intro i hi j
   obtain rfl : i = xs.length := by omega
   rw [List.drop_length]
   exact m187x hE (iD xs) xs.length xs.length dF (fun j => outK_ret (ends_ret (by kernel_rfl))) j
  | succ k ih =>
   intro i hi j
   have hl : i < xs.length := by omega
   have hx : xs[i]? = some xs[i] := List.getElem?_eq_getElem hl
   have ih' := ih (i + 1) (by omega)
   rw [List.drop_eq_getElem_cons hl]
   generalize xs[i] = x at hx
   by_cases h : x = 0
   ·rw [show firstI (x :: xs.drop (i + 1)) = firstI (xs.drop (i + 1)) from if_pos h]
    exact m187s hE (iD xs) xs.length i x dT bP (Nat.mul_one _) (gI hx) (by rw [h]; rfl) (iIe (by (try simp only [Int.ofNat_eq_natCast]); rw [wrap_id (by omega) (by omega)]; try omega)) ih' j
   ·rw [show firstI (x :: xs.drop (i + 1)) = x from if_neg h]
    exact m187r hE (iD xs) xs.length i x dT bP (Nat.mul_one _) (gI hx) (bne_iff_ne.2 h) (fun j => outK_ret (ends_ret (by kernel_rfl))) j
 exact cOut_start Tryz.func187 rfl (m187a hE (iD xs) xs.length (lp xs.length 0 rfl) fun _ => undef)
theorem K188 (hE : EnvOk E) (xs ys : List Int) (_hm : xs.length ≤ 100000) (hn : ys.length ≤ 100000) : COut E 0 [] 188 [dI xs, dI ys] (iI (cmpL xs ys)) [] := by
 have lp : ∀ k i, k + i = xs.length → i ≤ ys.length → ∀ j, OutK E 0 0 (t188 (iD xs) (iD ys) xs.length ys.length i j) (Go.Ev.Ends E Tryz.f188 (iI (cmpL (xs.drop i) (ys.drop i))) []) := by
  intro k
  induction k with
  | zero =>
   intro i hi hy j
   obtain rfl : i = xs.length := by omega
   rw [List.drop_length]
   by_cases h : xs.length < ys.length
   ·rw [List.drop_eq_getElem_cons h]
    exact m188l hE (iD xs) (iD ys) xs.length ys.length xs.length dF dT (fun j => outK_ret (ends_ret (by kernel_rfl))) j
   ·rw [List.drop_eq_nil_of_le (by omega)]
    exact m188x hE (iD xs) (iD ys) xs.length ys.length xs.length dF dF (fun j => outK_ret (ends_ret (by kernel_rfl))) j
  | succ k ih =>
   intro i hi hy j
   have hl : i < xs.length := by omega
   have hx : xs[i]? = some xs[i] := List.getElem?_eq_getElem hl
   by_cases hly : i < ys.length
   ·have ih' := ih (i + 1) (by omega) (by omega)
    have hyy : ys[i]? = some ys[i] := List.getElem?_eq_getElem hly
    rw [List.drop_eq_getElem_cons hl, List.drop_eq_getElem_cons hly]
    generalize xs[i] = x at hx
    generalize ys[i] = y at hyy
    have e : cmpL (x :: xs.drop (i + 1)) (y :: ys.drop (i + 1)) = if cmpI x y = 0 then cmpL (xs.drop (i + 1)) (ys.drop (i + 1)) else cmpI x y := by
     show (if x < y then -1 else if y < x then 1 else _) = _
     unfold cmpI
     by_cases a : x < y
     ·rw [if_pos a, if_pos a]; rfl
     ·rw [if_neg a, if_neg a]
      by_cases b : y < x
      ·rw [if_pos b, if_pos b]; rfl
      ·rw [if_neg b, if_neg b]; rfl
    rw [e]
    by_cases h : cmpI x y = 0
    ·rw [if_pos h]
     exact m188s hE (iD xs) (iD ys) xs.length ys.length i x y (cmpI x y) dT bP (Nat.mul_one _) (gI hx) dF bP (gI hyy) (K95c hE _ _) (by rw [h]; rfl) (iIe (by (try simp only [Int.ofNat_eq_natCast]); rw [wrap_id (by omega) (by omega)]; try omega)) ih' j
    ·rw [if_neg h]
     exact m188e hE (iD xs) (iD ys) xs.length ys.length i x y (cmpI x y) dT bP (Nat.mul_one _) (gI hx) dF bP (gI hyy) (K95c hE _ _) (bne_iff_ne.2 h) (fun j => outK_ret (ends_ret (by kernel_rfl))) j
   ·rw [List.drop_eq_getElem_cons hl, List.drop_eq_nil_of_le (show ys.length ≤ i by omega)]
    exact m188g hE (iD xs) (iD ys) xs.length ys.length i (xs[i]) dT bP (Nat.mul_one _) (gI hx) dT (fun j => outK_ret (ends_ret (by kernel_rfl))) j
 exact cOut_start Tryz.func188 rfl (m188a hE (iD xs) (iD ys) xs.length ys.length (lp xs.length 0 rfl (by omega)) fun _ => undef)
theorem bef_or (x y : List Int × Int) : decide (firstI [cmpI x.2 y.2, cmpL x.1 y.1] < 0) = befB x y := by
 unfold befB
 rw [show firstI [cmpI x.2 y.2, cmpL x.1 y.1] = if cmpI x.2 y.2 = 0 then (if cmpL x.1 y.1 = 0 then 0 else cmpL x.1 y.1) else cmpI x.2 y.2 from rfl]
 unfold cmpI
 by_cases a : x.2 < y.2
 ·rw [if_pos a, if_neg (by decide), decide_eq_true a]; rfl
 ·rw [if_neg a, decide_eq_false a]
  by_cases b : y.2 < x.2
  ·rw [if_pos b, if_neg (by decide), decide_eq_false (show ¬ x.2 = y.2 by omega)]; rfl
  ·rw [if_neg b, if_pos rfl, decide_eq_true (show x.2 = y.2 by omega)]
   by_cases c : cmpL x.1 y.1 = 0
   ·rw [if_pos c, c]; rfl
   ·rw [if_neg c]; rfl
abbrev mP (x : List Int × Int) : AV := .e (.agg [.dp (.s (iD x.1) x.1.length 1), .v (.int .i64 x.2)])
theorem K166 (hE : EnvOk E) (x y : List Int × Int) (hx : x.1.length ≤ 100000) (hy : y.1.length ≤ 100000) : COut E 0 [] 166 [mP x, mP y] (iB (befB x y)) [] := by
 rw [← bef_or]
 exact cOut_clear (cOut_start Tryz.func166 rfl (m166 hE (iD x.1) (iD y.1) x.1.length y.1.length (cmpI x.2 y.2) (cmpL x.1 y.1) (firstI [cmpI x.2 y.2, cmpL x.1 y.1]) x.2 y.2 (K95c hE _ _) (K188 hE _ _ hx hy) (lend2 _ hE 187 _ _ 3 true (K187 hE [cmpI x.2 y.2, cmpL x.1 y.1] (by simp)) _ 2 rfl) (fun j => outK_ret (ends_ret (by kernel_rfl))) fun _ => undef)) rfl
theorem cOut_empP {f : FuncId} {rest : List AV} {v : AV} {ho : Heap} (a : Int) (h1 : ∀ cp, COut E 0 [] f (.e (.agg [.v (.slice none 0 cp), .v (.int .i64 a)]) :: rest) v ho) (h2 : ∀ ad cp, COut E 0 [] f (.e (.agg [.v (.slice (some ad) 0 cp), .v (.int .i64 a)]) :: rest) v ho) : COut E 0 [] f (mP ([], a) :: rest) v ho := by
 intro M base w argsC ha H G
 generalize hl : argsC.toList = l at ha
 match l, ha with
 | y :: r, ⟨⟨cs, hy, hcs⟩, hr⟩ =>
  generalize hq : cs.toList = cl at hcs
  match cl, hcs with
  | z :: zs, ⟨hz, hzs⟩ =>
   have hz : DT.R M.F (.s [] 0 1) z := hz
   simp only [DT.R] at hz
   rcases hz with ⟨_, q, cp, rfl⟩ | ⟨h0, _⟩
   ·cases q with
    | none => exact h1 cp M base w argsC (by rw [hl]; exact ⟨⟨cs, hy, by rw [hq]; exact ⟨rfl, hzs⟩⟩, hr⟩) H G
    | some ad => exact h2 ad cp M base w argsC (by rw [hl]; exact ⟨⟨cs, hy, by rw [hq]; exact ⟨rfl, hzs⟩⟩, hr⟩) H G
   ·omega
theorem K121n (hE : EnvOk E) (cp : Nat) : COut E 0 [] 121 [.e (.one (.v (.slice none 0 cp)))] (.e (.one (.v (.slice none 0 0)))) [] := cOut_start Tryz.func121 rfl (p105n hE [] [] 0 0 0 0 0 0 0 0 0 0 0 false false [] cp (⟨0, 0, none⟩) (fun j => outK_ret (ends_ret (by kernel_rfl))) fun _ => undef)
theorem K121w (hE : EnvOk E) (ad : Addr) (cp : Nat) : COut E 0 [] 121 [.e (.one (.v (.slice (some ad) 0 cp)))] (.e (.one (.slc 0 0 0 1 0 true))) [bK [] 0 3] := cOut_start Tryz.func121 rfl (p105w hE [] [] 0 0 0 0 0 0 0 0 0 0 0 false false [] cp ad (.inr (.inr (.inl ⟨rfl, rfl, rfl, _, _, rfl⟩))) (fun j => outK_ret (ends_ret (by kernel_rfl))) fun _ => undef)
theorem K121s (hE : EnvOk E) (xs : List Int) (hm : xs.length ≤ 100000) (h0 : 0 < xs.length) : COut E 0 [] 121 [dI xs] (.e (.one (.slc 0 0 xs.length 1 xs.length false))) [some ⟨iC xs, xs.length, 3, false, .cells⟩] := by
 have hd : decide (xs.length = 0) = false := decide_eq_false (by omega)
 have hc : COut E 0 [] 121 [dI xs] (.e (.one (.slc 0 0 xs.length 1 xs.length (decide (xs.length = 0))))) [some ⟨iC xs, xs.length, 3, decide (xs.length = 0), .cells⟩] :=
  cOut_start Tryz.func121 rfl (p105s hE (iD xs) [] xs.length 0 0 0 0 0 0 0 0 0 0 (decide (xs.length = 0)) false (iC xs) 0 (⟨0, 0, none⟩) (by omega) (cpI xs hm _) oB (flat_iC _) (fun j => outK_ret (ends_ret (by kernel_rfl))) fun _ => undef)
 rw [hd] at hc
 exact hc
theorem K165 (hE : EnvOk E) (l : List Int) (a b d : Int) (hl : l.length ≤ 1000) (h1 : 0 ≤ a ∧ a ≤ 1000000000000) (h2 : 0 ≤ d ∧ d ≤ 1000000000000) : COut E 0 [] 165 [mP (l, a), iI b, iI d] (mP (l ++ [b], a + d)) [] := by
 by_cases h0 : l.length = 0
 ·obtain rfl := List.length_eq_zero_iff.1 h0
  have fin : ∀ arg, COut E 0 [] 165 [arg, iI b, iI d] (.e (.agg [.slc 1 0 1 1 1 false, .v (.int .i64 (a + d))])) [bK [.slc 1 0 1 1 1 false, .v (.int .i64 (a + d))] 2 182, some ⟨iC [b], 1, 3, false, .cells⟩] → COut E 0 [] 165 [arg, iI b, iI d] (mP ([b], a + d)) [] := fun arg hc =>
   cOut_clear (cOut_freeze 1 hc rfl (Nat.zero_le _) (ds := iD [b]) (v' := .e (.agg [.dp (.s (iD [b]) 1 1), .v (.int .i64 (a + d))])) ⟨frzAll (b := 1) (iD [b]) 1 1 1 false (by simp), .inl rfl, trivial⟩) rfl
  refine cOut_empP a (fun cp => fin _ ?_) (fun ad cp => fin _ ?_)
  ·exact cOut_start Tryz.func165 rfl (m165n0 hE a b d cp (m165n hE 0 a b d ((a + d)) cp (iIe (wrap_id (by omega) (by omega))) (K121n hE cp) (fun j => outK_ret (ends_ret (by kernel_rfl)))) fun _ => undef)
  ·exact cOut_start Tryz.func165 rfl (m165w0 hE a b d cp ad (m165w hE 0 0 a b d ((a + d)) cp ad (iIe (wrap_id (by omega) (by omega))) (K121w hE ad cp) oB ⟨(by first | exact flat_iC _ | exact fun c hc => by simp at hc), trivial⟩ (fun j => outK_ret (ends_ret (by kernel_rfl)))) fun _ => undef)
 ·have hc : COut E 0 [] 165 [mP (l, a), iI b, iI d] (.e (.agg [.slc 1 0 (l.length + 1) 1 (l.length + 1) false, .v (.int .i64 (a + d))])) [bK [.slc 1 0 (l.length + 1) 1 (l.length + 1) false, .v (.int .i64 (a + d))] 2 182, some ⟨iC (l ++ [b]), l.length + 1, 3, false, .cells⟩] :=
   cOut_start Tryz.func165 rfl (m165s0 hE (iD l) l.length a b d (m165 hE (iD l) l.length 0 0 0 a b d ((a + d)) (iC (l ++ [b])) (iC l) (iIe (wrap_id (by omega) (by omega))) (K121s hE l (by omega) (by omega)) oB ⟨(by first | exact flat_iC _ | exact fun c hc => by simp at hc), trivial⟩ (by omega) (by simp [small]; omega) oB (iC_app l [b]) oB (by first | exact flat_iC _ | exact flat_oC _) (fun j => outK_ret (ends_ret (by kernel_rfl)))) fun _ => undef)
  have he : (l ++ [b]).length = l.length + 1 := by simp
  have := cOut_clear (cOut_freeze 1 hc rfl (Nat.zero_le _) (ds := iD (l ++ [b])) (v' := .e (.agg [.dp (.s (iD (l ++ [b])) (l.length + 1) 1), .v (.int .i64 (a + d))])) ⟨frzAll (b := 1) (iD (l ++ [b])) (l.length + 1) 1 (l.length + 1) false (by rw [List.length_map, he, Nat.mul_one]), .inl rfl, trivial⟩) rfl
  rw [← he] at this
  exact this
def neO (l : List (Option (List Int × Int))) : Prop := ∀ (k : Nat) (y : List Int × Int), l[k]? = some (some y) → 0 < y.1.length ∧ y.1.length ≤ 1000
theorem neO_set {l : List (Option (List Int × Int))} (h : neO l) (k : Nat) {x : List Int × Int} (hx : 0 < x.1.length ∧ x.1.length ≤ 1000) : neO (setO l k x) := by
  intro i y hy
  unfold setO at hy
  by_cases e : k = i
  · subst e
    by_cases hk : k < l.length
    · rw [List.getElem?_set_self hk] at hy
      have hy : putO ((l[k]?).getD none) x = some y := by simpa using hy
      cases ho : l[k]? with
      | none => rw [List.getElem?_eq_none_iff] at ho; omega
      | some o =>
        rw [ho] at hy
        cases o with
        | none => obtain rfl : x = y := by simpa [putO] using hy
                  exact hx
        | some z =>
          have hy : (if befB x z = true then some x else some z) = some y := hy
          split at hy
          · obtain rfl : x = y := by simpa using hy
            exact hx
          · obtain rfl : z = y := by simpa using hy
            exact h k z ho
    · rw [List.getElem?_eq_none (by rw [List.length_set]; omega)] at hy; simp at hy
  · rw [List.getElem?_set_ne e] at hy
    exact h i y hy
theorem neO_row {l : List (Option (List Int × Int))} (h : neO l) (R : List Int) (hd : List Int × Int) (n : Nat) (hl : hd.1.length < 1000) : ∀ b, neO (rowO R hd n b l)
 | 0 => h
 | b + 1 => neO_set (neO_row h R hd n hl b) _ (by show 0 < (hd.1 ++ [Int.ofNat b]).length ∧ (hd.1 ++ [Int.ofNat b]).length ≤ 1000; rw [List.length_append, List.length_singleton]; omega)
theorem neO_head (R : List Int) (B : List (List Int × Int)) (hB : ∀ x ∈ B, x.1.length < 1000) : ∀ n, neO (headO R B n)
 | 0 => fun k y hy => by
  unfold headO at hy
  rw [List.getElem?_replicate] at hy
  split at hy <;> simp at hy
 | n + 1 => by
  refine neO_row (neO_head R B hB n) R _ n ?_ _
  cases h : B[n]? with
  | none => show ([] : List Int).length < 1000; decide
  | some x => exact hB x (List.mem_of_getElem? h)
theorem set_same {α : Type} : ∀ {l : List α} {k : Nat} {x : α}, l[k]? = some x → l.set k x = l
  | a :: l, 0, x, h => by obtain rfl : a = x := by simpa using h
                          rfl
  | a :: l, k + 1, x, h => by
    show a :: l.set k x = a :: l
    rw [set_same (by simpa using h)]
  | [], k, x, h => by simp at h
theorem K110 (hE : EnvOk E) (B : List (List Int × Int)) (R : List Int) (hB : 0 < B.length ∧ B.length ≤ 1000) (hR : 0 < R.length ∧ R.length ≤ 7) (hl : ∀ x ∈ B, x.1.length < 1000 ∧ 0 ≤ x.2 ∧ x.2 ≤ 1000000000000) (hq : ∀ q ∈ R, 0 ≤ q ∧ q ≤ 7300000000) (res : List (List Int × Int)) (he : headO R B B.length = res.map some) : COut E 0 [] 110 [dP B, dI R] (dP res) [] := by
 obtain ⟨n, hn⟩ : ∃ n, n = B.length + R.length - 1 := ⟨_, rfl⟩
 have inn : ∀ (V : AV) (H : Heap) (i : Nat) (hd : List Int × Int), B[i]? = some hd → ∀ (l0 : List (Option (List Int × Int))), l0.length = n → neO l0 → (∀ j, OutK E 0 0 (t110 (pwD B) (iD R) R.length B.length ((i + 1)) n (oC (rowO R hd i R.length l0)) j) (Go.Ev.Ends E Tryz.f110 V H)) → ∀ m k, m + k = R.length → ∀ j, OutK E 0 0 (t110i (pwD B) (iD hd.1) (iD R) hd.1.length R.length B.length i k n hd.2 (oC (rowO R hd i k l0)) j) (Go.Ev.Ends E Tryz.f110 V H) := by
  intro V H i hd hhd l0 hl0 hne cont m
  have hib : i < B.length := (List.getElem?_eq_some_iff.1 hhd).1
  obtain ⟨h1, h2, h3⟩ := hl hd (List.mem_of_getElem? hhd)
  induction m with
  | zero =>
   intro k hk j
   obtain rfl : k = R.length := by omega
   exact m110y hE (pwD B) (iD hd.1) (iD R) hd.1.length R.length B.length i R.length n hd.2 (oC (rowO R hd i R.length l0)) dF (iIe (by (try simp only [Int.ofNat_eq_natCast]); rw [wrap_id (by omega) (by omega)]; try omega)) (by first | exact flat_iC _ | exact flat_oC _) cont j
  | succ m ih =>
   intro k hk j
   have hkl : k < R.length := by omega
   have hx : R[k]? = some R[k] := List.getElem?_eq_getElem hkl
   have hqk := hq R[k] (List.getElem_mem hkl)
   have ih' := ih (k + 1) (by omega)
   have e1 : rowO R hd i (k + 1) l0 = setO (rowO R hd i k l0) (i + k) (hd.1 ++ [Int.ofNat k], hd.2 + R[k]) := by
    show setO _ _ (_, hd.2 + (R[k]?).getD 0) = _
    rw [hx]; rfl
   rw [e1] at ih'
   have hL : (rowO R hd i k l0).length = n := by rw [rowO_len, hl0]
   have hN := neO_row hne R hd i h1 k
   generalize rowO R hd i k l0 = L at ih' hL hN
   generalize R[k] = z at hx hqk ih'
   have hik : i + k < L.length := by omega
   have k165 := K165 hE hd.1 hd.2 (Int.ofNat k) z (by omega) ⟨h2, h3⟩ ⟨hqk.1, by omega⟩
   have hc : L[i + k]? = some ((L[i + k]?).getD none) := by rw [List.getElem?_eq_getElem hik]; rfl
   unfold setO at ih'
   generalize (L[i + k]?).getD none = c at hc ih'
   have hg := oC_get hc
   have hs := oC_set L (i + k) (hd.1 ++ [Int.ofNat k], hd.2 + z) hik
   cases c with
   | none =>
    exact m110n hE (pwD B) (iD hd.1) (iD R) (iD (hd.1 ++ [Int.ofNat k])) hd.1.length R.length B.length i k n (((i + k) * 2)) ((hd.1 ++ [Int.ofNat k]).length) 0 z hd.2 ((hd.2 + z)) (oC L) (oC (L.set (i + k) (some (hd.1 ++ [Int.ofNat k], hd.2 + z)))) dT bP (Nat.mul_one _) (gI hx) k165 (iIe (by (try simp only [Int.ofNat_eq_natCast]); rw [wrap_id (by omega) (by omega)]; try omega)) bP (Nat.zero_add _) hg (by omega) hs (iIe (by (try simp only [Int.ofNat_eq_natCast]); rw [wrap_id (by omega) (by omega)]; try omega)) (by first | exact flat_iC _ | exact flat_oC _) ih' j
   | some y =>
    have hy := hN _ y hc
    have k166 := K166 hE (hd.1 ++ [Int.ofNat k], hd.2 + z) y (by show (hd.1 ++ [Int.ofNat k]).length ≤ 100000; rw [List.length_append, List.length_singleton]; omega) (by omega)
    by_cases g : befB (hd.1 ++ [Int.ofNat k], hd.2 + z) y = true
    ·rw [show putO (some y) (hd.1 ++ [Int.ofNat k], hd.2 + z) = some (hd.1 ++ [Int.ofNat k], hd.2 + z) from if_pos g] at ih'
     exact m110b hE (pwD B) (iD hd.1) (iD R) (iD (hd.1 ++ [Int.ofNat k])) (iD y.1) hd.1.length R.length B.length i k n (((i + k) * 2)) ((hd.1 ++ [Int.ofNat k]).length) y.1.length 0 z hd.2 y.2 ((hd.2 + z)) (oC L) (oC (L.set (i + k) (some (hd.1 ++ [Int.ofNat k], hd.2 + z)))) true dT bP (Nat.mul_one _) (gI hx) k165 (iIe (by (try simp only [Int.ofNat_eq_natCast]); rw [wrap_id (by omega) (by omega)]; try omega)) bP (Nat.zero_add _) hg hy.1 (g ▸ k166) oB (by omega) hs (iIe (by (try simp only [Int.ofNat_eq_natCast]); rw [wrap_id (by omega) (by omega)]; try omega)) (by first | exact flat_iC _ | exact flat_oC _) ih' j
    ·have g' : befB (hd.1 ++ [Int.ofNat k], hd.2 + z) y = false := by simpa using g
     rw [show putO (some y) (hd.1 ++ [Int.ofNat k], hd.2 + z) = some y from if_neg g, set_same hc] at ih'
     exact m110k hE (pwD B) (iD hd.1) (iD R) (iD (hd.1 ++ [Int.ofNat k])) (iD y.1) hd.1.length R.length B.length i k n (((i + k) * 2)) ((hd.1 ++ [Int.ofNat k]).length) y.1.length z hd.2 y.2 ((hd.2 + z)) (oC L) false dT bP (Nat.mul_one _) (gI hx) k165 (iIe (by (try simp only [Int.ofNat_eq_natCast]); rw [wrap_id (by omega) (by omega)]; try omega)) bP (Nat.zero_add _) hg hy.1 (g' ▸ k166) oB (iIe (by (try simp only [Int.ofNat_eq_natCast]); rw [wrap_id (by omega) (by omega)]; try omega)) (by first | exact flat_iC _ | exact flat_oC _) ih' j
 have hcO : COut E 0 [] 110 [dP B, dI R] (.e (.one (.slc 0 0 n 2 n true))) [bK (oC (headO R B B.length)) (n + n) 182] := by
  have out : ∀ m i, m + i = B.length → ∀ j, OutK E 0 0 (t110 (pwD B) (iD R) R.length B.length i n (oC (headO R B i)) j) (Go.Ev.Ends E Tryz.f110 (.e (.one (.slc 0 0 n 2 n true))) [bK (oC (headO R B B.length)) (n + n) 182]) := by
   intro m
   induction m with
   | zero =>
    intro i hi j
    obtain rfl : i = B.length := by omega
    exact m110x hE (pwD B) (iD R) R.length B.length B.length n (oC (headO R B B.length)) dF (fun j => outK_ret (ends_ret (by kernel_rfl))) j
   | succ m ih =>
    intro i hi j
    have hib : i < B.length := by omega
    have hx : B[i]? = some B[i] := List.getElem?_eq_getElem hib
    have ih' := ih (i + 1) (by omega)
    have e1 : headO R B (i + 1) = rowO R B[i] i R.length (headO R B i) := by
     show rowO R ((B[i]?).getD ([], 0)) i R.length _ = _
     rw [hx]; rfl
    rw [e1] at ih'
    have hlen := headO_len R B i
    have hne := neO_head R B (fun x hx => (hl x hx).1) i
    have := inn _ _ i B[i] hx (headO R B i) (by omega) hne ih' R.length 0 rfl
    exact m110s hE (pwD B) (iD B[i].1) (iD R) (B[i].1.length) R.length B.length i n (B[i].2) (oC (headO R B i)) dT bP rfl (rows_get (f := pwF) (k := 2) (fun _ => rfl) hx) this j
  exact cOut_start Tryz.func110 rfl (m110a hE (pwD B) (iD R) R.length B.length n 0 (((B.length : Int) + R.length)) (oC (headO R B 0)) (iIe (wrap_id (by omega) (by omega))) (iIe (by rw [wrap_id (by omega) (by omega)]; simp only [Int.ofNat_eq_natCast]; omega)) bP (by simp [small]; omega) rfl (by omega) (by rw [oC_rep, hn]; rfl) (out B.length 0 rfl) fun _ => undef)
 have hlen : res.length = n := by rw [hn, ← headO_len R B B.length, he, List.length_map]
 rw [he, oC_all] at hcO
 have := cOut_clear (cOut_freeze 0 hcO rfl (Nat.zero_le _) (ds := pwD res) (v' := .e (.one (.dp (.s (pwD res) n 2)))) (frzAll (b := 0) (pwD res) n 2 n true (by rw [pwD_len, hlen]))) rfl
 rw [← hlen] at this
 exact this
end
end Go.Proofs.YtigdchbjmnbjlaaGreatDoor
end

/-! SeTb -/
section
open Go Go.Ev
namespace Go.Proofs.YtigdchbjmnbjlaaGreatDoor
noncomputable section
set_option maxRecDepth 100000
set_option maxHeartbeats 20000000
end
end Go.Proofs.YtigdchbjmnbjlaaGreatDoor
end

/-! SeTc -/
section
open Go Go.Ev
namespace Go.Proofs.YtigdchbjmnbjlaaGreatDoor
noncomputable section
set_option maxRecDepth 100000
set_option maxHeartbeats 20000000
end
end Go.Proofs.YtigdchbjmnbjlaaGreatDoor
end

/-! SeTd -/
section
open Go Go.Ev
namespace Go.Proofs.YtigdchbjmnbjlaaGreatDoor
noncomputable section
set_option maxRecDepth 100000
set_option maxHeartbeats 20000000
end
end Go.Proofs.YtigdchbjmnbjlaaGreatDoor
end

/-! SeTe -/
section
open Go Go.Ev
namespace Go.Proofs.YtigdchbjmnbjlaaGreatDoor
noncomputable section
set_option maxRecDepth 100000
set_option maxHeartbeats 20000000
end
end Go.Proofs.YtigdchbjmnbjlaaGreatDoor
end

/-! SeTf -/
section
open Go Go.Ev
namespace Go.Proofs.YtigdchbjmnbjlaaGreatDoor
noncomputable section
set_option maxRecDepth 100000
set_option maxHeartbeats 20000000
end
end Go.Proofs.YtigdchbjmnbjlaaGreatDoor
end

/-! SeTh -/
section
open Go Go.Ev
namespace Go.Proofs.YtigdchbjmnbjlaaGreatDoor
noncomputable section
set_option maxRecDepth 100000
set_option maxHeartbeats 20000000
end
end Go.Proofs.YtigdchbjmnbjlaaGreatDoor
end

/-! SeTg -/
section
open Go Go.Ev
namespace Go.Proofs.YtigdchbjmnbjlaaGreatDoor
noncomputable section
set_option maxRecDepth 100000
set_option maxHeartbeats 20000000
end
end Go.Proofs.YtigdchbjmnbjlaaGreatDoor
end

/-! SeTi -/
section
open Go Go.Ev
namespace Go.Proofs.YtigdchbjmnbjlaaGreatDoor
noncomputable section
set_option maxRecDepth 100000
set_option maxHeartbeats 20000000
end
end Go.Proofs.YtigdchbjmnbjlaaGreatDoor
end

/-! SeGa -/
section
open Go Go.Ev
namespace Go.Proofs.YtigdchbjmnbjlaaGreatDoor
noncomputable section
set_option maxRecDepth 100000
def okM (w : Nat) (x : List Int) : Prop := mapE x = 0 ∧ x.length = w
theorem rg_ok {x lo hi : Int} (h : lo ≤ x ∧ x ≤ hi) : rg x lo hi = 0 := if_neg (by omega)
structure AgOk (w : Nat) (U : List (List Int)) (N B : Nat) (hB : Bool) (As : List Int) : Prop where
 ok : ∀ x ∈ U, okM w x
 n1 : N + 1 ≤ U.length
 n2 : U.length ≤ N + 2
 b1 : B ≤ N
 b2 : N ≤ B + 1
 hb : hB = true → B + 1 < U.length
 nb : N = B + 1 → hB = true
 an : ∀ v ∈ As, ∃ k : Nat, v = Int.ofNat k ∧ k ≤ B + 1 ∧ (k = B + 1 → hB = true)
namespace AgOk
variable {w : Nat} {U : List (List Int)} {N B : Nat} {hB : Bool} {As : List Int}
theorem again (h : AgOk w U N B hB As) : AgOk w U N B hB (As ++ [Int.ofNat B]) where
 ok := h.ok
 n1 := h.n1
 n2 := h.n2
 b1 := h.b1
 b2 := h.b2
 hb := h.hb
 nb := h.nb
 an := fun v hv => (List.mem_append.1 hv).elim (h.an v) fun a => ⟨B, List.mem_singleton.1 a, by omega, fun e => by omega⟩
end AgOk
end
end Go.Proofs.YtigdchbjmnbjlaaGreatDoor
end

/-! SeGw -/
section
open Go Go.Ev Go.RowKit
namespace Go.Proofs.YtigdchbjmnbjlaaGreatDoor
noncomputable section
set_option maxRecDepth 100000
def WkS (x x' : AC) : Prop := ∀ (m : M) (y : Value), CR m x y → CR m x' y
def WkSB : Option AB → Option AB → Prop
 | none, none => True
 | some a, some a' => a.ext = .cells ∧ a'.ext = .cells ∧ a'.n = a.n ∧ a'.elem = a.elem ∧ (a'.full = true → a.full = true) ∧ All2 WkS a.cells a'.cells
 | _, _ => False
theorem outK_wks {lvl K : Nat} {rd : Option Nat} {Φ : Res → Prop} {h h' : Heap} {todo : List Item} {tm : Tm} (hh : All2 WkSB h h') (ho : OutK E lvl K ⟨h', todo, tm⟩ Φ rd) : OutK E lvl K ⟨h, todo, tm⟩ Φ rd := by
 refine .before (s' := ⟨h', todo, tm⟩) (fun fr t cs w m base hT H G => ?_) ho
 have hlen := all2_len hh
 have back : ∀ (b : Nat) (a' : AB), h'[b]? = some (some a') → ∃ a : AB, h[b]? = some (some a) ∧ a.ext = .cells ∧ a'.ext = .cells ∧ a'.n = a.n ∧ a'.elem = a.elem ∧ (a'.full = true → a.full = true) ∧ All2 WkS a.cells a'.cells := by
  intro b a' hb
  obtain ⟨x, hx, hr⟩ := hh.get' hb
  cases x with
  | none => exact hr.elim
  | some a => exact ⟨a, hx, hr⟩
 have H' : HR m base lvl h' w := by
  refine ⟨by rw [H.n, hlen], by rw [← hlen]; exact H.lvlLe, H.baseLe, fun b a' hb => ?_, fun b hb hb2 => H.own b hb (by rw [hlen]; exact hb2), ?_, H.lo, fun p hp => ⟨(H.tab p hp).1, fun b a' hb hb2 => ?_⟩⟩
  ·obtain ⟨a, ha, r1, r2, r3, r4, r5, r6⟩ := back b a' hb
   obtain ⟨B, _⟩ := H.ent b a ha
   obtain ⟨b1, b2, c, fz, b3, b4, b5, b6, b7⟩ := B r1
   refine ⟨fun _ => ⟨by rw [← all2_len r6, b1, r3], fun hf => by rw [r3]; exact b2 (r5 hf), c, fz, by rw [r4]; exact b3, b4, b5, by rw [r3]; exact b6, ?_⟩, by rw [r2]; trivial⟩
   rw [r3]
   exact all2_map (R := CR m) (T := WkS) (S := CR m) (fun x y x' h0 h3 => h0 m y h3) r6 b7
  ·intro b b' hb hb' h1 h2 h3 h4
   refine H.inj b b' (by rw [hlen]; exact hb) (by rw [hlen]; exact hb') ?_ ?_ h3 h4
   ·obtain ⟨a, ha⟩ := h1; obtain ⟨a0, h0, _⟩ := back b a ha; exact ⟨a0, h0⟩
   ·obtain ⟨a, ha⟩ := h2; obtain ⟨a0, h0, _⟩ := back b' a ha; exact ⟨a0, h0⟩
  ·obtain ⟨a, ha0, _⟩ := back b a' hb2
   exact (H.tab p hp).2 b a hb ha0
 exact ⟨t, w, m, .refl _ _, hT, H', .refl _ _, .refl _ _⟩
theorem wkS_r (x : AC) : WkS x x := fun _ _ h => h
theorem wkS_n (sz : Nat) : WkS (.v (.slice none 0 0)) (.dp (.s [] 0 sz)) := fun m y h => wkNc m sz y h
end
end Go.Proofs.YtigdchbjmnbjlaaGreatDoor
end

/-! SeMc -/
section
open Go Go.Ev
namespace Go.Proofs.YtigdchbjmnbjlaaGreatDoor
noncomputable section
set_option maxRecDepth 100000
set_option maxHeartbeats 20000000
def w46 (C N O : List DT) (s n o : Nat) (mg ms x y : Int) (_j : JN) : St := startK Tryz.f46 [] [.e (.agg (tQ C s N n mg ms O o)), iI x, iI y]
def v46 (T P : List DT) (t i q : Nat) (y : Int) (j : JN) : St := ⟨[], [(.code (aF [1, 1, 1, 0, 1, 0, 0] Tryz.f46)), (.inLoop (aF [1, 1, 1, 0, 1, 0, 0] Tryz.f46)), (.inBlock 0), (.code (aF [1, 1, 1, 1] Tryz.f46))], mkT j [(2, (iI y)), (10, (.e (.one (.dp (.s P q 2))))), (28, (dQ T t)), (29, (iN t)), (30, (iN i))] 63 0⟩
def v46b (P : List DT) (q : Nat) (y : Int) (j : JN) : St := ⟨[], [(.code (aF [1, 1, 1, 1, 0, 0, 0] Tryz.f46)), (.inLoop (aF [1, 1, 1, 1, 0, 0, 0] Tryz.f46)), (.inBlock 2), (.code (aF [1, 1, 1, 1, 1] Tryz.f46))], mkT j [(2, (iI y)), (10, (.e (.one (.dp (.s P q 2)))))] 63 0⟩
def m46a_end (T : List DT) (t : Nat) (y : Int) (j : JN) : St := ⟨[(bK [(.v (.slice none 0 0)), (.v (.int .i64 0))] 2 182)], [(.code (aF [1, 1, 1, 0, 1, 0, 0] Tryz.f46)), (.inLoop (aF [1, 1, 1, 0, 1, 0, 0] Tryz.f46)), (.inBlock 0), (.code (aF [1, 1, 1, 1] Tryz.f46))], mkT j [(2, (iI y)), (10, (.e (.one (.slc 0 0 1 2 1 true)))), (28, (dQ T t)), (29, (iN t)), (30, (iI 0))] 63 0⟩
theorem m46a (hE : EnvOk E) (C N O T : List DT) (s n o t : Nat) (mg ms x y a b e : Int) (h0 : COut E 0 [] 101 [(tA C s N n mg ms O o), (iI x)] (iI a) []) (h2 : COut E 0 [] 77 [(iI y), (iI 0), (iI 10000000)] (iI b) []) (h4 : COut E 2 [(bK (tQ C s N n mg ms O o) 5 78), (bK [(.v (.int .i64 a)), (.v (.int .i64 b))] 2 31)] 76 [(.e (.one (.slc 1 0 2 1 2 true)))] (iI e) [(bK (tQ C s N n mg ms O o) 5 78), (bK [(.v (.int .i64 a)), (.v (.int .i64 b))] 2 31)]) (h6 : (e != (0 : Int) : Bool) = false) (h7 : COut E 0 [] 105 [(tA C s N n mg ms O o), (iI x)] (dQ T t) []) {Φ : Res → Prop} (ho : ∀ j, OutK E 0 0 (m46a_end T t y j) Φ) (j : JN) : OutK E 0 0 (w46 C N O s n o mg ms x y j) Φ :=
 oS hE [.run 4, (.ops [(2, (.c0 (iI a))), (4, (.c0 (iI b))), (6, (.d (.c1 (iI e))))] []), .run 2, (.cond false), .run 5, (.ops [(2, (.c0 (dQ T t))), (3, (.d .len))] []), .run 2] [2, 10, 28, 29, 30] (s' := fun j => ⟨[(bK (tQ C s N n mg ms O o) 5 78), (bK [(.v (.int .i64 a)), (.v (.int .i64 b))] 2 31), (bK [(.v (.slice none 0 0)), (.v (.int .i64 0))] 2 182)], [(.code (aF [1, 1, 1, 0, 1, 0, 0] Tryz.f46)), (.inLoop (aF [1, 1, 1, 0, 1, 0, 0] Tryz.f46)), (.inBlock 0), (.code (aF [1, 1, 1, 1] Tryz.f46))], mkT j [(2, (iI y)), (10, (.e (.one (.slc 2 0 1 2 1 true)))), (28, (dQ T t)), (29, (iN t)), (30, (iI 0))] 63 0⟩) (aP h0 <| aN <| aP h2 <| aN <| aP h4 <| aN <| aP h6 <| aP h7 <| aN <| aZ)
  fun j => gZ [2] (ho j)
def m46s_end (T P2 : List DT) (t i r : Nat) (y : Int) (j : JN) : St := ⟨[], [(.code (aF [1, 1, 1, 0, 1, 0, 0] Tryz.f46)), (.inLoop (aF [1, 1, 1, 0, 1, 0, 0] Tryz.f46)), (.inBlock 0), (.code (aF [1, 1, 1, 1] Tryz.f46))], mkT j [(2, (iI y)), (10, (.e (.one (.dp (.s P2 r 2))))), (28, (dQ T t)), (29, (iN t)), (30, (iN (i + 1)))] 63 0⟩
theorem m46s (hE : EnvOk E) (R T P P2 : List DT) (m t i q r : Nat) (y : Int) (h0 : (decide (Int.ofNat i < Int.ofNat t) : Bool) = true) (h1 : (0 : Int) ≤ Int.ofNat i ∧ Int.ofNat i < (↑t : Int)) (h2 : ((Int.ofNat i).toNat * nat_lit 1 : Nat) = i) (h3 : (getL T i : Option DT) = (.some (.s R m 1))) (h4 : COut E 0 [] 110 [(.e (.one (.dp (.s P q 2)))), (dQ R m)] (.e (.one (.dp (.s P2 r 2)))) []) (h6 : ((iI (wrapF IntKind.i64 (Int.ofNat i + (1 : Int)))) : AV) = (iN (i + 1))) {Φ : Res → Prop} (ho : ∀ j, OutK E 0 0 (m46s_end T P2 t i r y j) Φ) (j : JN) : OutK E 0 0 (v46 T P t i q y j) Φ :=
 oS hE [.run 3, (.cond true), .run 4, (.ops [(1, (.d (.ld (.s R m 1)))), (0, (.d (.ix i)))] []), (.ops [(2, (.c0 (.e (.one (.dp (.s P2 r 2))))))] []), .run 1, (.ops [(0, (.rn (iN (i + 1))))] []), .run 1] [2, 10, 28, 29, 30] (aQ h0 h1 h2 h3 <| aP h4 <| aN <| aP h6 <| aZ)
  ho
def m46x_end (P : List DT) (q : Nat) (y : Int) (j : JN) : St := ⟨[], [(.code (aF [1, 1, 1, 1, 0, 0, 0] Tryz.f46)), (.inLoop (aF [1, 1, 1, 1, 0, 0, 0] Tryz.f46)), (.inBlock 2), (.code (aF [1, 1, 1, 1, 1] Tryz.f46))], mkT j [(2, (iI y)), (10, (.e (.one (.dp (.s P q 2)))))] 63 0⟩
theorem m46x (hE : EnvOk E) (T P : List DT) (t i q : Nat) (y : Int) (h0 : (decide (Int.ofNat i < Int.ofNat t) : Bool) = false) {Φ : Res → Prop} (ho : ∀ j, OutK E 0 0 (m46x_end P q y j) Φ) (j : JN) : OutK E 0 0 (v46 T P t i q y j) Φ :=
 oS hE [.run 3, (.cond false), .run 4] [2, 10] (aP h0 <| aZ)
  ho
def m46t_end (P2 : List DT) (k : Nat) (y : Int) (j : JN) : St := ⟨[], [(.code (aF [1, 1, 1, 1, 0, 0, 0] Tryz.f46)), (.inLoop (aF [1, 1, 1, 1, 0, 0, 0] Tryz.f46)), (.inBlock 2), (.code (aF [1, 1, 1, 1, 1] Tryz.f46))], mkT j [(2, (iI y)), (10, (.e (.one (.dp (.s P2 (k - (0 : Nat)) 2)))))] 63 0⟩
theorem m46t (hE : EnvOk E) (P P2 : List DT) (k q : Nat) (y v : Int) (h0 : ((iI (wrapF IntKind.i64 ((↑q : Int) - (1 : Int)))) : AV) = (iN k)) (h1 : (0 : Int) ≤ Int.ofNat k ∧ Int.ofNat k < (↑q : Int)) (h2 : ((Int.ofNat k).toNat * nat_lit 2 : Nat) = k.mul (nat_lit 2)) (h3 : (getL P (k.mul (nat_lit 2) + 1) : Option DT) = (.some (.v (.int .i64 v)))) (h4 : (decide (v > y) : Bool) = true) (h8 : (0 : Nat) ≤ k ∧ k ≤ q) (h9 : (takeL (dropL P (0 : Nat)) ((k - (0 : Nat)) * nat_lit 2) : Option (List DT)) = (.some P2)) {Φ : Res → Prop} (ho : ∀ j, OutK E 0 0 (m46t_end P2 k y j) Φ) (j : JN) : OutK E 0 0 (v46b P q y j) Φ :=
 oS hE [.run 2, (.ops [(3, (.rn (iN k))), (6, (.d (.ld (.v (.int .i64 v))))), (2, (.d .len)), (4, (.d (.ix (k.mul (nat_lit 2))))), (5, (.d .fa))] []), (.cond true), .run 2, (.ops [(3, (.rn (iN k))), (4, (.d (.sl 0 k P2))), (2, (.d .len))] []), .run 2] [2, 10] (aQ h0 h1 h2 h3 <| aP h4 <| aP h0 <| aP (rfl : ((0 : Int) : Int) = Int.ofNat (0 : Nat)) <| aP (rfl : (Int.ofNat k : Int) = Int.ofNat k) <| aP h8 <| aP h9 <| aZ)
  ho
def m46r_end (H : List DT) (h : Nat) (v : Int) (j : JN) : St := ⟨[], [(.code .ret)], mkT j [(6, (dQ H h)), (7, (iI v)), (8, (iI 0))] 63 0⟩
theorem m46r (hE : EnvOk E) (H P : List DT) (h k q : Nat) (y v : Int) (h0 : ((iI (wrapF IntKind.i64 ((↑q : Int) - (1 : Int)))) : AV) = (iN k)) (h1 : (0 : Int) ≤ Int.ofNat k ∧ Int.ofNat k < (↑q : Int)) (h2 : ((Int.ofNat k).toNat * nat_lit 2 : Nat) = k.mul (nat_lit 2)) (h3 : (getL P (k.mul (nat_lit 2) + 1) : Option DT) = (.some (.v (.int .i64 v)))) (h4 : (decide (v > y) : Bool) = false) (h8 : (takeL (dropL P (k.mul (nat_lit 2))) (2 : Nat) : Option (List DT)) = (.some [(.s H h 1), (.v (.int .i64 v))])) {Φ : Res → Prop} (ho : ∀ j, OutK E 0 0 (m46r_end H h v j) Φ) (j : JN) : OutK E 0 0 (v46b P q y j) Φ :=
 oS hE [.run 2, (.ops [(3, (.rn (iN k))), (6, (.d (.ld (.v (.int .i64 v))))), (2, (.d .len)), (4, (.d (.ix (k.mul (nat_lit 2))))), (5, (.d .fa))] []), (.cond false), .run 2, (.ops [(3, (.rn (iN k))), (5, (.d (.ldn [(.s H h 1), (.v (.int .i64 v))]))), (2, (.d .len)), (4, (.d (.ix (k.mul (nat_lit 2)))))] []), .run 2] [6, 7, 8] (s' := fun j => ⟨[(bK [(.dp (.s H h 1)), (.v (.int .i64 v))] 2 182)], [(.code .ret)], mkT j [(6, (dQ H h)), (7, (iI v)), (8, (iI 0))] 63 0⟩) (aQ h0 h1 h2 h3 <| aQ h4 h0 h1 h2 <| aP h8 <| aZ)
  fun j => gZ [] (ho j)
open Best
theorem all_tab (f : Nat → List Int) (i : Nat) : allM (tab f (i + 1)) = extM (f i) (allM (tab f i)) := by
 unfold allM
 show (tab f i ++ [f i]).foldl _ _ = _
 rw [List.foldl_append]; rfl
theorem all_bd {f : Nat → List Int} {n : Nat} (hf : ∀ i, i < n → ∀ q ∈ f i, 0 ≤ q ∧ q ≤ 7300000000) : ∀ i, i ≤ n → ∀ m ∈ allM (tab f i), m.1.length = i ∧ 0 ≤ m.2 ∧ m.2 ≤ (i : Int) * 7300000000 := by
 intro i
 induction i with
 | zero => intro _ m hm; rw [List.mem_singleton.1 hm]; exact ⟨rfl, Int.le_refl _, Int.le_refl _⟩
 | succ i ih =>
  intro hi m hm
  rw [all_tab] at hm
  obtain ⟨p, hp, b, hb, rfl⟩ := mem_ext.1 hm
  obtain ⟨a1, a2, a3⟩ := ih (by omega) p hp
  have hq := hf i (by omega) (f i)[b] (List.getElem_mem hb)
  rw [List.getElem?_eq_getElem hb]
  refine ⟨by simp [a1], ?_, ?_⟩
  ·show 0 ≤ p.2 + (f i)[b]; omega
  ·show p.2 + (f i)[b] ≤ _; omega
theorem all_zero {f : Nat → List Int} {n : Nat} (hf : ∀ i, i < n → (f i)[0]? = some 0) : ∀ i, i ≤ n → ∃ m ∈ allM (tab f i), tot m.1 = 0 ∧ m.2 = 0 := by
 intro i
 induction i with
 | zero => intro _; exact ⟨([], 0), List.mem_singleton.2 rfl, rfl, rfl⟩
 | succ i ih =>
  intro hi
  obtain ⟨m, hm, e1, e2⟩ := ih (by omega)
  have h0 := hf i (by omega)
  refine ⟨(m.1 ++ [Int.ofNat 0], m.2 + ((f i)[0]?).getD 0), by rw [all_tab]; exact mem_ext.2 ⟨m, hm, 0, (List.getElem?_eq_some_iff.1 h0).1, rfl⟩, ?_, ?_⟩
  ·rw [tot_app, e1]; rfl
  ·rw [h0, e2]; rfl
theorem all_ord (f : Nat → List Int) : ∀ i, ordM (allM (tab f i)) ∧ ∀ m ∈ allM (tab f i), m.1.length = i
 | 0 => ⟨List.pairwise_singleton _ _, fun m hm => by rw [List.mem_singleton.1 hm]; rfl⟩
 | i + 1 => by
  obtain ⟨h1, h2⟩ := all_ord f i
  rw [all_tab]
  exact ⟨ext_ord h2 h1, ext_len h2⟩
theorem pw_take (L : List (List Int × Int)) (k : Nat) (hk : k ≤ L.length) : takeL (dropL (pwD L) 0) ((k - 0) * 2) = some (pwD (L.take k)) := by
 rw [takeL_eq, dropL_eq, List.drop_zero, if_pos (by rw [pwD_len]; omega), Nat.sub_zero]
 congr 1
 induction L generalizing k with
 | nil => simp
 | cons a l ih =>
  cases k with
  | zero => rfl
  | succ k =>
   have := ih k (by simpa using hk)
   rw [show (k + 1) * 2 = k * 2 + 1 + 1 by omega]
   show DT.s (iD a.1) a.1.length 1 :: DT.v (.int .i64 a.2) :: (pwD l).take (k * 2) = _
   rw [this]; rfl
theorem K46v (hE : EnvOk E) (sg : List Int) (ns : List (List Int)) (mg ms : Int) (nt : List Int) (h1 : sg.length ≤ 100000) (h2 : ns.length ≤ 5000) (h3 : ∀ r ∈ ns, r.length ≤ 100000) (h4 : nt.length ≤ 100000) {p : Nat} {r : List Int} (h : PartOk sg ns mg p r) (bud : Int) (hbud : 0 ≤ bud ∧ bud ≤ 10000000) (ht : topE sg ns mg ms nt (Int.ofNat p) = 0) : COut E 0 [] 46 [aT sg ns mg ms nt, iI (Int.ofNat p), iI bud] (.tup [.one (.dp (.s (iD (scan bud (allM (tab (rowV sg r mg ms nt) sg.length)) ([], 0, -1)).1) (scan bud (allM (tab (rowV sg r mg ms nt) sg.length)) ([], 0, -1)).1.length 1)), .one (.v (.int .i64 (scan bud (allM (tab (rowV sg r mg ms nt) sg.length)) ([], 0, -1)).2.1)), .one (.v (.int .i64 0))]) [] := by
 have h8 := h.many.2
 have hin : ∀ i, i < sg.length → ∀ q ∈ (rowV sg r mg ms nt) i, 0 ≤ q ∧ q ≤ 7300000000 := fun i hi => row_in ms nt h hi
 have h00 : ∀ i, i < sg.length → ((rowV sg r mg ms nt) i)[0]? = some 0 := fun i hi => by rw [row_0 ms nt h hi]; rfl
 obtain ⟨hord, hlen⟩ := all_ord (rowV sg r mg ms nt) sg.length
 have hbd := all_bd hin
 have pop : ∀ (B : List (List Int × Int)), BestOf (allM (tab (rowV sg r mg ms nt) sg.length)) B → B.length ≤ 100 → ∀ k, k < B.length → (∀ i y, k < i → B[i]? = some y → bud < y.2) → ∀ j, OutK E 0 0 (v46b (pwD (B.take (k + 1))) ((k + 1)) bud j) (Go.Ev.Ends E Tryz.f46 (.tup [.one (.dp (.s (iD (scan bud (allM (tab (rowV sg r mg ms nt) sg.length)) ([], 0, -1)).1) (scan bud (allM (tab (rowV sg r mg ms nt) sg.length)) ([], 0, -1)).1.length 1)), .one (.v (.int .i64 (scan bud (allM (tab (rowV sg r mg ms nt) sg.length)) ([], 0, -1)).2.1)), .one (.v (.int .i64 0))]) []) := by
  intro B hB hB2 k
  induction k with
  | zero =>
   intro hk hmax j
   have hx : B[0]? = some B[0] := List.getElem?_eq_getElem hk
   obtain ⟨z, hz, z1, z2⟩ := all_zero h00 sg.length (Nat.le_refl _)
   obtain ⟨i, y, e1, e2, e3⟩ := hB.all z hz
   have hx2 : B[0].2 ≤ bud := by
    rw [z1] at e1
    obtain rfl : 0 = i := Int.ofNat.inj e1
    rw [hx] at e2
    obtain rfl : B[0] = y := Option.some.inj e2
    rcases e3 with e3 | ⟨e3, _⟩ <;> omega
   obtain ⟨s1, s2⟩ := best_scan hB hord tot_nn bud 0 B[0] hx hx2 hmax
   rw [s1, s2]
   have ht : (B.take (0 + 1))[0]? = some B[0] := by rw [List.getElem?_take, if_pos (by omega), hx]
   generalize B[0] = x at hx2 ht
   exact m46r hE (iD x.1) (pwD (B.take (0 + 1))) x.1.length 0 ((0 + 1)) bud x.2 rfl bP rfl (rows_part (f := pwF) (k := 2) (fun _ => rfl) ht rfl) (decide_eq_false (by omega)) (rows_get (f := pwF) (k := 2) (fun _ => rfl) ht) (fun j => outK_ret (ends_ret (by kernel_rfl))) j
  | succ k ih =>
   intro hk hmax j
   have hx : B[k + 1]? = some B[k + 1] := List.getElem?_eq_getElem hk
   have ht : (B.take (k + 1 + 1))[k + 1]? = some B[k + 1] := by rw [List.getElem?_take, if_pos (by omega), hx]
   by_cases hx2 : B[k + 1].2 ≤ bud
   ·obtain ⟨s1, s2⟩ := best_scan hB hord tot_nn bud (k + 1) B[k + 1] hx hx2 hmax
    rw [s1, s2]
    generalize B[k + 1] = x at hx2 ht
    exact m46r hE (iD x.1) (pwD (B.take (k + 1 + 1))) x.1.length ((k + 1)) ((k + 1 + 1)) bud x.2 (iIe (by rw [wrap_id (by omega) (by omega)]; simp only [Int.ofNat_eq_natCast]; omega)) bP rfl (rows_part (f := pwF) (k := 2) (fun _ => rfl) ht rfl) (decide_eq_false (by omega)) (rows_get (f := pwF) (k := 2) (fun _ => rfl) ht) (fun j => outK_ret (ends_ret (by kernel_rfl))) j
   ·have ih' := ih (by omega) (fun i y hi hy => by
     by_cases e : i = k + 1
     ·subst e
      rw [hx] at hy
      obtain rfl : B[k + 1] = y := Option.some.inj hy
      omega
     ·exact hmax i y (by omega) hy)
    have htk := pw_take (B.take (k + 1 + 1)) (k + 1) (by rw [List.length_take]; omega)
    rw [List.take_take, show min (k + 1) (k + 1 + 1) = k + 1 by omega] at htk
    generalize B[k + 1] = x at hx2 ht
    exact m46t hE (pwD (B.take (k + 1 + 1))) (pwD (B.take (k + 1))) ((k + 1)) ((k + 1 + 1)) bud x.2 (iIe (by rw [wrap_id (by omega) (by omega)]; simp only [Int.ofNat_eq_natCast]; omega)) bP rfl (rows_part (f := pwF) (k := 2) (fun _ => rfl) ht rfl) (decide_eq_true (by omega)) ⟨by omega, by omega⟩ htk ih' j
 have lp : ∀ m i, m + i = sg.length → ∀ B, BestOf (allM (tab (rowV sg r mg ms nt) i)) B → B.length ≤ 6 * i + 1 → ∀ j, OutK E 0 0 (v46 (rD (tab (rowV sg r mg ms nt) sg.length)) (pwD B) sg.length i B.length bud j) (Go.Ev.Ends E Tryz.f46 (.tup [.one (.dp (.s (iD (scan bud (allM (tab (rowV sg r mg ms nt) sg.length)) ([], 0, -1)).1) (scan bud (allM (tab (rowV sg r mg ms nt) sg.length)) ([], 0, -1)).1.length 1)), .one (.v (.int .i64 (scan bud (allM (tab (rowV sg r mg ms nt) sg.length)) ([], 0, -1)).2.1)), .one (.v (.int .i64 0))]) []) := by
  intro m
  induction m with
  | zero =>
   intro i hi B hB hB2 j
   obtain rfl : i = sg.length := by omega
   have hne := hB.ne
   have hp := pop B hB (by omega) (B.length - 1) (by omega) (fun i y hi hy => by have := (List.getElem?_eq_some_iff.1 hy).1; omega)
   rw [show B.length - 1 + 1 = B.length by omega, List.take_length] at hp
   exact m46x hE (rD (tab (rowV sg r mg ms nt) sg.length)) (pwD B) sg.length sg.length B.length bud dF hp j
  | succ m ih =>
   intro i hi B hB hB2 j
   have hl : i < sg.length := by omega
   have hT : (tab (rowV sg r mg ms nt) sg.length)[i]? = some ((rowV sg r mg ms nt) i) := row_at hl
   have r0 := h00 i hl
   have hr0 : 0 < ((rowV sg r mg ms nt) i).length := (List.getElem?_eq_some_iff.1 r0).1
   have hr7 : ((rowV sg r mg ms nt) i).length ≤ 7 := powL_len ..
   obtain ⟨res, hres⟩ := full hB hr0
   have hst := Best.step hB hr0 res hres
   rw [← all_tab] at hst
   have hlr : res.length = B.length + ((rowV sg r mg ms nt) i).length - 1 := by rw [← headO_len ((rowV sg r mg ms nt) i) B B.length, hres, List.length_map]
   have k110 := K110 hE B ((rowV sg r mg ms nt) i) ⟨hB.ne, by omega⟩ ⟨hr0, hr7⟩ (fun x hx => by
    obtain ⟨k, hk, rfl⟩ := List.getElem_of_mem hx
    have hm := (hB.mem k B[k] (List.getElem?_eq_getElem hk)).1
    obtain ⟨a1, a2, a3⟩ := hbd i (by omega) B[k] hm
    exact ⟨by omega, a2, by omega⟩) (hin i hl) res hres
   exact m46s hE (iD ((rowV sg r mg ms nt) i)) (rD (tab (rowV sg r mg ms nt) sg.length)) (pwD B) (pwD res) (((rowV sg r mg ms nt) i).length) sg.length i B.length res.length bud dT bP (Nat.mul_one _) (gR hT) k110 (iIe (by (try simp only [Int.ofNat_eq_natCast]); rw [wrap_id (by omega) (by omega)]; try omega)) (ih (i + 1) (by omega) res hst (by omega)) j
 have k70 := K70 hE sg ns mg ms nt h1 h2 h3 h4 (Int.ofNat p)
 rw [ht] at k70
 have kb := K72 hE bud 0 10000000
 rw [show rg bud 0 10000000 = 0 from if_neg (by omega)] at kb
 have st := lp sg.length 0 rfl [([], 0)] Best.start (by simp)
 refine cOut_start Tryz.func46 rfl (m46a hE (iD sg) (rD ns) (iD nt) (rD (tab (rowV sg r mg ms nt) sg.length)) sg.length ns.length nt.length sg.length mg ms ((Int.ofNat p)) bud 0 0 0 k70 kb (lend2 _ hE 76 _ _ 31 true (K69 hE [0, 0] (by simp)) _ 1 rfl) rfl (K122 hE sg ns mg ms nt h4 h) (fun j => ?_) fun _ => undef)
 refine outK_wks (h' := [bK ((pwD [([], 0)]).map DT.ac) 2 182]) ⟨⟨rfl, rfl, rfl, rfl, fun h => h, wkS_n 1, wkS_r _, trivial⟩, trivial⟩ ?_
 exact outK_freeze 0 (ds := pwD [([], 0)]) (N := 2) (el := 182) (fl := true) (h' := [none]) (tm' := (v46 (rD (tab (rowV sg r mg ms nt) sg.length)) (pwD [([], 0)]) sg.length 0 1 bud j).tm) rfl (Nat.zero_le _) ⟨trivial, trivial⟩ (frz2 j [(2, (iI bud)), (10, (.e (.one (.slc 0 0 1 2 1 true)))), (28, (.e (.one (.dp (.s (rD (tab (rowV sg r mg ms nt) sg.length)) sg.length 1))))), (29, (iI (Int.ofNat sg.length))), (30, (iI 0))] [(2, (iI bud)), (10, (.e (.one (.dp (.s (pwD [([], 0)]) 1 2))))), (28, (.e (.one (.dp (.s (rD (tab (rowV sg r mg ms nt) sg.length)) sg.length 1))))), (29, (iI (Int.ofNat sg.length))), (30, (iI 0))] ⟨⟨rfl, .inl rfl⟩, ⟨rfl, .inr ⟨0, 1, 2, 1, true, pwD [([], 0)], rfl, rfl, rfl⟩⟩, ⟨rfl, .inl rfl⟩, ⟨rfl, .inl rfl⟩, ⟨rfl, .inl rfl⟩, trivial⟩ 63 0) (outK_gc [] (h' := []) (tm' := (v46 (rD (tab (rowV sg r mg ms nt) sg.length)) (pwD [([], 0)]) sg.length 0 1 bud j).tm) (Nat.le_refl 0) (by decide) (by kernel_rfl) (by kernel_rfl) (st j))
end
end Go.Proofs.YtigdchbjmnbjlaaGreatDoor
end
