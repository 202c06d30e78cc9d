/-
  Part of the proof: SeHc, SeHb, SeAcc.
-/
import Derived.Test.YtmefachijohnhaaGreatDoorSeZG

/-! SeHc -/
section
open Go Go.Ev
namespace Go.Proofs.YtmefachijohnhaaGreatDoor
noncomputable section
def enR (s : Int) : List Hr → Int → Int
 | [], e => e
 | x :: l, e => enR s l (if x.l > s then min e x.l else e)
def nxC (L : List Hr) (t : Int) : Int := t - secO t + enR (secO t) L 86400
def nxR (t : Int) : List Hr → Int → Int
 | [], n => n
 | x :: l, n => nxR t l (if x.day (dayO t) = true ∧ secO t ≥ x.f ∧ t - secO t + x.l > n then t - secO t + x.l else n)
def frC (L : List Hr) : Nat → Int → Option Int
 | 0, _ => none
 | k + 1, t => if t ≤ 100000000 then (if protB L t = true then frC L k (nxC L t) else some t) else none
def frR (L : List Hr) (t0 : Int) : Nat → Int → Option Int
 | 0, _ => none
 | k + 1, t => if t ≤ 100000000 ∧ t < t0 + 691200 then (if protB L t = true then frR L t0 k (nxR t L (t + 1)) else some t) else none
def okH (L : List Hr) : Prop := ∀ x ∈ L, 0 ≤ x.f ∧ x.f < x.l ∧ x.l ≤ 86400
theorem okH_of : ∀ {L : List Hr}, hrsE L = 0 → okH L
 | [], _ => fun x hx => by simp at hx
 | y :: L, h => fun x hx => by
  rw [hrsE_c] at h
  by_cases hy : hrE y = 0
  ·rw [if_pos hy] at h
   rcases List.mem_cons.1 hx with rfl | hx
   ·unfold hrE at hy
    split at hy
    ·omega
    ·omega
   ·exact okH_of h x hx
  ·rw [if_neg hy] at h; exact absurd h hy
theorem okH_hours {L : List Hr} (h : hoursE L = 0) : okH L ∧ L.length ≤ 16 := by
 unfold hoursE at h
 split at h
 ·omega
 ·exact ⟨okH_of h, by omega⟩
theorem secO_b {t : Int} : 0 ≤ secO t ∧ secO t < 86400 := by unfold secO; omega
theorem have_iff {x : Hr} {t : Int} : x.have t = true ↔ x.day (dayO t) = true ∧ x.f ≤ secO t ∧ secO t < x.l := by
 unfold Hr.have
 simp [Bool.and_eq_true, and_assoc]
theorem prot_iff {L : List Hr} {t : Int} : protB L t = true ↔ ∃ x ∈ L, x.day (dayO t) = true ∧ x.f ≤ secO t ∧ secO t < x.l := by
 unfold protB
 simp [List.any_eq_true, have_iff]
theorem same_day {t s : Int} (h0 : t ≤ s) (h1 : s < t - secO t + 86400) : dayO s = dayO t ∧ secO s = secO t + (s - t) := by
 unfold dayO secO at *
 have : s / 86400 = t / 86400 := by omega
 rw [this]
 exact ⟨rfl, by omega⟩
theorem enR_le (s : Int) : ∀ (L : List Hr) (e : Int), enR s L e ≤ e ∧ (∀ x ∈ L, x.l > s → enR s L e ≤ x.l) ∧ (s < e → s < enR s L e)
 | [], e => ⟨Int.le_refl _, fun x hx => by simp at hx, id⟩
 | y :: L, e => by
  obtain ⟨h1, h2, h3⟩ := enR_le s L (if y.l > s then min e y.l else e)
  refine ⟨?_, ?_, ?_⟩
  ·show enR s L _ ≤ e
   split at h1 <;> rename_i h <;> simp only [h, if_true, if_false] at h1 ⊢ <;> omega
  ·intro x hx hl
   rcases List.mem_cons.1 hx with rfl | hx
   ·show enR s L _ ≤ x.l
    rw [if_pos hl] at h1 ⊢; omega
   ·exact h2 x hx hl
  ·intro he
   show s < enR s L _
   apply h3
   split <;> omega
theorem nxC_spec {L : List Hr} {t : Int} (hp : protB L t = true) : t < nxC L t ∧ ∀ s, t ≤ s → s < nxC L t → protB L s = true := by
 obtain ⟨x, hx, hd, hf, hl⟩ := prot_iff.1 hp
 obtain ⟨h1, h2, h3⟩ := enR_le (secO t) L 86400
 have hs := @secO_b t
 have h4 := h3 hs.2
 have h5 := h2 x hx hl
 unfold nxC
 refine ⟨by omega, fun s h6 h7 => ?_⟩
 obtain ⟨e1, e2⟩ := same_day h6 (by omega)
 exact prot_iff.2 ⟨x, hx, by rw [e1]; exact hd, by omega, by omega⟩
theorem nxC_ge {L : List Hr} {t : Int} : t < nxC L t ∧ nxC L t ≤ t + 86400 := by
 obtain ⟨h1, _, h3⟩ := enR_le (secO t) L 86400
 have hs := @secO_b t
 have h4 := h3 hs.2
 unfold nxC; omega
theorem nxR_spec {L0 : List Hr} {t : Int} (ho : okH L0) : ∀ (L : List Hr) (n : Int), (∀ x ∈ L, x ∈ L0) → t < n → n ≤ t - secO t + 86400 + 1 → (∀ s, t ≤ s → s < n → protB L0 s = true) →
  t < nxR t L n ∧ nxR t L n ≤ t - secO t + 86400 + 1 ∧ ∀ s, t ≤ s → s < nxR t L n → protB L0 s = true
 | [], n, _, h1, h2, h3 => ⟨h1, h2, h3⟩
 | y :: L, n, hm, h1, h2, h3 => by
  have hy := hm y (List.mem_cons_self ..)
  obtain ⟨o1, o2, o3⟩ := ho y hy
  have hs := @secO_b t
  refine nxR_spec ho L _ (fun x hx => hm x (List.mem_cons_of_mem _ hx)) ?_ ?_ ?_
  ·split <;> omega
  ·split <;> omega
  ·split
   ·rename_i hc
    intro s h4 h5
    obtain ⟨e1, e2⟩ := same_day h4 (by omega)
    exact prot_iff.2 ⟨y, hy, by rw [e1]; exact hc.1, by omega, by omega⟩
   ·exact h3
theorem nxR_all {L : List Hr} {t : Int} (ho : okH L) (hp : protB L t = true) : t < nxR t L (t + 1) ∧ nxR t L (t + 1) ≤ t + 86401 ∧ ∀ s, t ≤ s → s < nxR t L (t + 1) → protB L s = true := by
 have hs := @secO_b t
 have h := nxR_spec (t := t) ho L (t + 1) (fun _ h => h) (by omega) (by omega) (fun s h4 h5 => by
  obtain rfl : s = t := by omega
  exact hp)
 exact ⟨h.1, by omega, h.2.2⟩
def FF (L : List Hr) (t r : Int) : Prop := t ≤ r ∧ protB L r = false ∧ ∀ s, t ≤ s → s < r → protB L s = true
theorem frC_some {L : List Hr} : ∀ k t r, frC L k t = some r → FF L t r ∧ r ≤ 100000000
 | 0, t, r, h => by simp [frC] at h
 | k + 1, t, r, h => by
  unfold frC at h
  split at h
  ·split at h
   ·rename_i h1 h2
    obtain ⟨⟨a, b, c⟩, d⟩ := frC_some k _ r h
    obtain ⟨e, f⟩ := nxC_spec h2
    refine ⟨⟨by omega, b, fun s h3 h4 => ?_⟩, d⟩
    by_cases h5 : s < nxC L t
    ·exact f s h3 h5
    ·exact c s (by omega) h4
   ·rename_i h1 h2
    simp only [Option.some.injEq] at h
    subst h
    exact ⟨⟨Int.le_refl _, by simpa using h2, fun s h3 h4 => by omega⟩, h1⟩
  ·simp at h
theorem frC_none {L : List Hr} : ∀ (k : Nat) (t : Int), 100000000 < t + k → frC L k t = none → ∀ s, t ≤ s → s ≤ 100000000 → protB L s = true
 | 0, t, hk, h => fun s h1 h2 => by omega
 | k + 1, t, hk, h => by
  unfold frC at h
  split at h
  ·split at h
   ·rename_i h1 h2
    obtain ⟨e, f⟩ := nxC_spec h2
    intro s h3 h4
    by_cases h5 : s < nxC L t
    ·exact f s h3 h5
    ·exact frC_none k _ (by omega) h s (by omega) h4
   ·simp at h
  ·intro s h3 h4; omega
theorem frR_some {L : List Hr} (ho : okH L) (t0 : Int) : ∀ k t r, frR L t0 k t = some r → FF L t r ∧ r ≤ 100000000
 | 0, t, r, h => by simp [frR] at h
 | k + 1, t, r, h => by
  unfold frR at h
  split at h
  ·split at h
   ·rename_i h1 h2
    obtain ⟨⟨a, b, c⟩, d⟩ := frR_some ho t0 k _ r h
    obtain ⟨e, _, f⟩ := nxR_all ho h2
    refine ⟨⟨by omega, b, fun s h3 h4 => ?_⟩, d⟩
    by_cases h5 : s < nxR t L (t + 1)
    ·exact f s h3 h5
    ·exact c s (by omega) h4
   ·rename_i h1 h2
    simp only [Option.some.injEq] at h
    subst h
    exact ⟨⟨Int.le_refl _, by simpa using h2, fun s h3 h4 => by omega⟩, h1.1⟩
  ·simp at h
theorem frR_none {L : List Hr} (ho : okH L) (t0 : Int) : ∀ (k : Nat) (t : Int), t0 + 691200 < t + k → frR L t0 k t = none → ∀ s, t ≤ s → s ≤ 100000000 → s < t0 + 691200 → protB L s = true
 | 0, t, hk, h => fun s h1 h2 => by omega
 | k + 1, t, hk, h => by
  unfold frR at h
  split at h
  ·split at h
   ·rename_i h1 h2
    obtain ⟨e, _, f⟩ := nxR_all ho h2
    intro s h3 h4 h6
    by_cases h5 : s < nxR t L (t + 1)
    ·exact f s h3 h5
    ·exact frR_none ho t0 k _ (by omega) h s (by omega) h4 h6
   ·simp at h
  ·intro s h3 h4; omega
theorem prot_week {L : List Hr} {t : Int} : protB L (t + 604800) = protB L t := by
 have e1 : dayO (t + 604800) = dayO t := by unfold dayO; omega
 have e2 : secO (t + 604800) = secO t := by unfold secO; omega
 rw [Bool.eq_iff_iff, prot_iff, prot_iff, e1, e2]
theorem prot_all {L : List Hr} {t0 : Int} (h : ∀ s, t0 ≤ s → s < t0 + 691200 → protB L s = true) : ∀ (k : Nat) (s : Int), t0 ≤ s → s < t0 + 604800 * k → protB L s = true
 | 0, s, h1, h2 => by omega
 | k + 1, s, h1, h2 => by
  by_cases h3 : s < t0 + 691200
  ·exact h s h1 h3
  ·have h4 := prot_all h k (s - 604800) (by omega) (by omega)
   rw [show s = s - 604800 + 604800 by omega, prot_week]; exact h4
theorem FF_one {L : List Hr} {t r s : Int} (h1 : FF L t r) (h2 : FF L t s) : r = s := by
 obtain ⟨a, b, c⟩ := h1
 obtain ⟨d, e, f⟩ := h2
 rcases Int.lt_trichotomy r s with h | h | h
 ·rw [f r a h] at b; exact absurd b (by decide)
 ·exact h
 ·rw [c s d h] at e; exact absurd e (by decide)
theorem fr_eq {L : List Hr} (ho : okH L) {t : Int} {k m : Nat} (hk : 100000000 < t + k) (hm : 691200 < (m : Int)) : frC L k t = frR L t m t := by
 have hR : frR L t m t = none → frC L k t = none := fun h => by
  have h1 := frR_none ho t m t (by omega) h
  have h2 : ∀ s, t ≤ s → s ≤ 100000000 → protB L s = true := by
   intro s h3 h4
   by_cases h5 : t + 691200 ≤ 100000000
   ·have h6 : ∀ s, t ≤ s → s < t + 691200 → protB L s = true := fun s a b => h1 s a (by omega) b
    exact prot_all h6 (s - t + 1).toNat s h3 (by omega)
   ·exact h1 s h3 h4 (by omega)
  cases hc : frC L k t with
  | none => rfl
  | some r =>
   obtain ⟨⟨a, b, c⟩, d⟩ := frC_some k t r hc
   rw [h2 r a d] at b
   exact absurd b (by decide)
 cases h : frR L t m t with
 | none => exact hR h
 | some r =>
  obtain ⟨hr, hr2⟩ := frR_some ho t m t r h
  cases hc : frC L k t with
  | some s => obtain ⟨hs, _⟩ := frC_some k t s hc; rw [FF_one hr hs]
  | none =>
   have := frC_none k t hk hc r hr.1 hr2
   rw [hr.2.1] at this
   exact absurd this (by decide)
end
end Go.Proofs.YtmefachijohnhaaGreatDoor
end

/-! SeHb -/
section
open Go Go.Ev
namespace Go.Proofs.YtmefachijohnhaaGreatDoor
noncomputable section
set_option maxRecDepth 100000
set_option maxHeartbeats 20000000
def h166 (_z : Nat → Value) (C : List DT) (n _i _k : Nat) (_x _q _s _e t _u _y _r _v : Int) (_d0 _d1 _d2 _d3 _d4 _d5 _d6 _w : Bool) (_f _l : Int) (_j : Nat → Value) : St := startK Tryz.f166 [] [.e (.one (.dp (.s C n 9))), iI t]
def h148 (_z : Nat → Value) (C : List DT) (n _i _k : Nat) (_x _q _s _e t _u _y _r _v : Int) (_d0 _d1 _d2 _d3 _d4 _d5 _d6 _w : Bool) (_f _l : Int) (_j : Nat → Value) : St := startK Tryz.f148 [] [.e (.one (.dp (.s C n 9))), iI t]
def h48 (_z : Nat → Value) (C : List DT) (n _i _k : Nat) (x _q _s _e _t _u _y _r _v : Int) (_d0 _d1 _d2 _d3 _d4 _d5 _d6 _w : Bool) (_f _l : Int) (_j : Nat → Value) : St := startK Tryz.f48 [] [.e (.one (.dp (.s C n 9))), iI x]
def h108 (_z : Nat → Value) (C : List DT) (n _i _k : Nat) (_x _q _s _e t _u _y _r _v : Int) (_d0 _d1 _d2 _d3 _d4 _d5 _d6 _w : Bool) (_f _l : Int) (_j : Nat → Value) : St := startK Tryz.f108 [] [.e (.one (.dp (.s C n 9))), iI t]
abbrev lpV (T : Tm) (ps : Array Tmp) (asg bod : Code) : Option AB := some (loopEnt .ready none T ps asg bod)
def h165 (T : Tm) (ps : Array Tmp) (asg bod : Code) (C : List DT) (n : Nat) (t _u _r _v : Int) (_j : Nat → Value) : St := startK Tryz.f165 [bK [.dp (.s C n 9)] 1 84, bK [.v (.int .i64 0)] 1 3, bK [.v (.int .i64 0)] 1 30, bK [.dp (.s C n 9)] 1 84, bK [.v (.int .i64 t)] 1 3, some markEnt, lpV T ps asg bod] [.e (.one (.yld 6)), .e (.one (.ptr 4 0)), .e (.one (.ptr 3 0))]
def r166 (_z : Nat → Value) (C : List DT) (n i _k : Nat) (_x _q s e t _u _y _r _v : Int) (_d0 _d1 _d2 _d3 _d4 _d5 _d6 _w : Bool) (_f _l : Int) (j : Nat → Value) : St := ⟨[], [(.code (atC [1, 1, 0, 1, 0, 0] (bodyOf Tryz.f166))), (.inLoop (atC [1, 1, 0, 1, 0, 0] (bodyOf Tryz.f166))), (.inBlock 0), (.code (atC [1, 1, 1] (bodyOf Tryz.f166)))], mkT j [(1, (iI (t))), (5, (iI (s))), (6, (iI e)), (11, (.e (.one (.dp (.s (C) (n) 9))))), (12, (iI (Int.ofNat n))), (13, (iI (Int.ofNat i)))] 33 0⟩
def r165 (T : Tm) (ps : Array Tmp) (asg bod : Code) (C : List DT) (n : Nat) (t _u _r _v : Int) (j : Nat → Value) : St := ⟨[(bK [(.dp (.s (C) (n) 9))] 1 84), (bK [(.v (.int .i64 0))] 1 3), (bK [(.v (.int .i64 0))] 1 30), (bK [(.dp (.s (C) (n) 9))] 1 84), (bK [(.v (.int .i64 (t)))] 1 3), (.some ⟨[], 0, 0, false, .mark⟩), (.some ⟨[], 0, 0, false, (.loop .ready none (T) (ps) (asg) (bod))⟩)], [(.code (atC [0, 0] (bodyOf Tryz.f165))), (.inLoop (atC [0, 0] (bodyOf Tryz.f165))), (.inBlock 0)], mkT j [(0, (.e (.one (.yld 6)))), (1, (.e (.one (.ptr 4 0)))), (2, (.e (.one (.ptr 3 0))))] 14 0⟩
def r48o (_z : Nat → Value) (C : List DT) (n _i _k : Nat) (x _q _s _e t _u _y _r _v : Int) (_d0 _d1 _d2 _d3 _d4 _d5 _d6 _w : Bool) (_f _l : Int) (j : Nat → Value) : St := ⟨[], [(.code (atC [1, 0, 1, 0, 0] (bodyOf Tryz.f48))), (.inLoop (atC [1, 0, 1, 0, 0] (bodyOf Tryz.f48))), (.inBlock 0), (.code (atC [1, 1] (bodyOf Tryz.f48)))], mkT j [(0, (.e (.one (.dp (.s (C) (n) 9))))), (1, (iI (x))), (6, (iI t))] 69 0⟩
abbrev T108 (z : Nat → Value) : Tm := mkT z [(2, .e (.one (.ptr 0 0))), (4, .e (.one (.ptr 1 0))), (5, .e (.one (.ptr 2 0))), (6, .tup []), (9, .e (.one (.clo 165 [] [.one (.ptr 4 0), .one (.ptr 3 0)]))), (10, .tup [])] 16 0
def asg108 : Code := atC [1, 0, 1, 0, 0] (bodyOf Tryz.f108)
def bod108 : Code := atC [1, 0, 1, 0, 1] (bodyOf Tryz.f108)
abbrev lp108 (st : LoopState) (pd : Option Code) (z : Nat → Value) : Option AB := some (loopEnt st pd (T108 z) #[10] asg108 bod108)
def sR108 (z : Nat → Value) (C : List DT) (n _i _k : Nat) (_x _q _s _e t _u _y _r _v : Int) (_d0 _d1 _d2 _d3 _d4 _d5 _d6 _w : Bool) (_f _l : Int) (_j : Nat → Value) : St := ⟨[bK [.dp (.s C n 9)] 1 84, bK [.v (.int .i64 0)] 1 3, bK [.v (.int .i64 0)] 1 30, bK [.dp (.s C n 9)] 1 84, bK [.v (.int .i64 t)] 1 3, some markEnt, lp108 .ready none z], [.code asg108, .beginRound, .code bod108], mkT z [(2, .e (.one (.ptr 0 0))), (4, .e (.one (.ptr 1 0))), (5, .e (.one (.ptr 2 0))), (6, .tup []), (9, .e (.one (.clo 165 [] [.one (.ptr 4 0), .one (.ptr 3 0)]))), (10, iI t)] 16 0⟩
def sB108 (z : Nat → Value) (C : List DT) (n _i _k : Nat) (_x _q _s _e t _u _y _r _v : Int) (_d0 _d1 _d2 _d3 _d4 _d5 _d6 _w : Bool) (_f _l : Int) (j : Nat → Value) : St := ⟨[bK [.dp (.s C n 9)] 1 84, bK [.v (.int .i64 0)] 1 3, bK [.v (.int .i64 0)] 1 30, bK [.dp (.s C n 9)] 1 84, bK [.v (.int .i64 t)] 1 3, some markEnt, lp108 .busy none z], [.code bod108], mkT j [(2, (.e (.one (.ptr 0 0)))), (4, (.e (.one (.ptr 1 0)))), (5, (.e (.one (.ptr 2 0)))), (6, (iI (t)))] 16 0⟩
def sE108t (z : Nat → Value) (C : List DT) (n _i _k : Nat) (_x _q _s _e t _u _y _r _v : Int) (_d0 _d1 _d2 _d3 _d4 _d5 _d6 _w : Bool) (_f _l : Int) (j : Nat → Value) : St := ⟨[bK [.dp (.s C n 9)] 1 84, bK [.v (.int .i64 0)] 1 3, bK [.v (.int .i64 0)] 1 30, bK [.dp (.s C n 9)] 1 84, bK [.v (.int .i64 t)] 1 3, some markEnt, lp108 .exhausted none z], [.inBlock 0, .code (atC [1, 1] (bodyOf Tryz.f108))], T108 j⟩
def sE108f (z : Nat → Value) (C : List DT) (n _i _k : Nat) (_x _q _s _e t _u _y _r _v : Int) (_d0 _d1 _d2 _d3 _d4 _d5 _d6 _w : Bool) (_f _l : Int) (j : Nat → Value) : St := ⟨[bK [.dp (.s C n 9)] 1 84, bK [.v (.int .i64 t)] 1 3, bK [.v (.int .i64 0)] 1 30, bK [.dp (.s C n 9)] 1 84, bK [.v (.int .i64 t)] 1 3, some markEnt, lp108 .exhausted (some .ret) z], [.code .ret, .inBlock 0, .code (atC [1, 1] (bodyOf Tryz.f108))], T108 j⟩
def h41 (_z : Nat → Value) (C : List DT) (n _i _k : Nat) (_x _q _s _e t _u _y _r _v : Int) (_d0 _d1 _d2 _d3 _d4 _d5 _d6 _w : Bool) (_f _l : Int) (_j : Nat → Value) : St := startK Tryz.f41 [] [.e (.one (.dp (.s C n 9))), iI t]
def h43 (_z : Nat → Value) (C : List DT) (n _i _k : Nat) (_x _q _s _e t _u _y _r _v : Int) (_d0 _d1 _d2 _d3 _d4 _d5 _d6 _w : Bool) (_f _l : Int) (_j : Nat → Value) : St := startK Tryz.f43 [] [.e (.one (.dp (.s C n 9))), iI t]
def r48i (_z : Nat → Value) (C : List DT) (n i _k : Nat) (x _q _s _e t _u _y r _v : Int) (_d0 _d1 _d2 _d3 _d4 _d5 _d6 _w : Bool) (_f _l : Int) (j : Nat → Value) : St := ⟨[], [(.code (atC [1, 0, 1, 0, 0, 1, 0, 1, 1, 0, 1, 0, 0] (bodyOf Tryz.f48))), (.inLoop (atC [1, 0, 1, 0, 0, 1, 0, 1, 1, 0, 1, 0, 0] (bodyOf Tryz.f48))), (.inBlock 2), (.code (atC [1, 0, 1, 0, 0, 1, 0, 1, 1, 1] (bodyOf Tryz.f48))), (.inBlock 1), (.inLoop (atC [1, 0, 1, 0, 0] (bodyOf Tryz.f48))), (.inBlock 0), (.code (atC [1, 1] (bodyOf Tryz.f48)))], mkT j [(0, (.e (.one (.dp (.s (C) (n) 9))))), (1, (iI (x))), (6, (iI (t))), (7, (iI r)), (8, (iI (Int.ofNat i)))] 69 0⟩
def p166a_end (_z : Nat → Value) (C : List DT) (n _i _k : Nat) (_x _q s _e t _u _y _r _v : Int) (_d0 _d1 _d2 _d3 _d4 _d5 _d6 _w : Bool) (_f _l : Int) (j : Nat → Value) : St := ⟨[], [(.code (atC [1, 1, 0, 1, 0, 0] (bodyOf Tryz.f166))), (.inLoop (atC [1, 1, 0, 1, 0, 0] (bodyOf Tryz.f166))), (.inBlock 0), (.code (atC [1, 1, 1] (bodyOf Tryz.f166)))], mkT j [(1, (iI (t))), (5, (iI (s))), (6, (iI 86400)), (11, (.e (.one (.dp (.s (C) (n) 9))))), (12, (iI (Int.ofNat n))), (13, (iI 0))] 33 0⟩
theorem p166a (hE : EnvOk E) (z : Nat → Value) (C : List DT) (n i k : Nat) (x q s e t u y r v : Int) (d0 d1 d2 d3 d4 d5 d6 w : Bool) (f l : Int) (h0 : ((iI (t.tmod (86400 : Int))) : AV) = (iI (s))) {Φ : Res → Prop} (ho : ∀ j, OutK E 0 0 (p166a_end z C n i k x q s e t u y r v d0 d1 d2 d3 d4 d5 d6 w f l j) Φ) (j : Nat → Value) : OutK E 0 0 (h166 z C n i k x q s e t u y r v d0 d1 d2 d3 d4 d5 d6 w f l j) Φ :=
 oS hE [.run 3, (.ops [(1, (.rn (iI (s))))] []), .run 2, (.ops [(1, (.d .len))] []), .run 2] [1, 5, 6, 11, 12, 13] (aP h0 <| aZ)
  ho
def p148_end (_z : Nat → Value) (C : List DT) (n _i _k : Nat) (_x _q _s _e t _u _y _r _v : Int) (_d0 _d1 _d2 _d3 _d4 _d5 _d6 _w : Bool) (_f _l : Int) (j : Nat → Value) : St := ⟨[(bK [(.dp (.s (C) (n) 9))] 1 84), (bK [(.v (.int .i64 (t)))] 1 3)], [(.code .ret)], mkT j [(4, (.e (.one (.clo 165 [] [(.one (.ptr 1 0)), (.one (.ptr 0 0))]))))] 6 0⟩
theorem p148 (hE : EnvOk E) (z : Nat → Value) (C : List DT) (n i k : Nat) (x q s e t u y r v : Int) (d0 d1 d2 d3 d4 d5 d6 w : Bool) (f l : Int)  {Φ : Res → Prop} (ho : ∀ j, OutK E 0 0 (p148_end z C n i k x q s e t u y r v d0 d1 d2 d3 d4 d5 d6 w f l j) Φ) (j : Nat → Value) : OutK E 0 0 (h148 z C n i k x q s e t u y r v d0 d1 d2 d3 d4 d5 d6 w f l j) Φ :=
 oS hE [.run 4] [4] (ps := []) trivial
  ho
def p48a_end (_z : Nat → Value) (C : List DT) (n _i _k : Nat) (x _q _s _e _t _u _y _r _v : Int) (_d0 _d1 _d2 _d3 _d4 _d5 _d6 _w : Bool) (_f _l : Int) (j : Nat → Value) : St := ⟨[], [(.code (atC [1, 0, 1, 0, 0] (bodyOf Tryz.f48))), (.inLoop (atC [1, 0, 1, 0, 0] (bodyOf Tryz.f48))), (.inBlock 0), (.code (atC [1, 1] (bodyOf Tryz.f48)))], mkT j [(0, (.e (.one (.dp (.s (C) (n) 9))))), (1, (iI (x))), (6, (iI (x)))] 69 0⟩
theorem p48a (hE : EnvOk E) (z : Nat → Value) (C : List DT) (n i k : Nat) (x q s e t u y r v : Int) (d0 d1 d2 d3 d4 d5 d6 w : Bool) (f l : Int)  {Φ : Res → Prop} (ho : ∀ j, OutK E 0 0 (p48a_end z C n i k x q s e t u y r v d0 d1 d2 d3 d4 d5 d6 w f l j) Φ) (j : Nat → Value) : OutK E 0 0 (h48 z C n i k x q s e t u y r v d0 d1 d2 d3 d4 d5 d6 w f l j) Φ :=
 oS hE [.run 7] [0, 1, 6] (ps := []) trivial
  ho
def p108a_end (_z : Nat → Value) (C : List DT) (n _i _k : Nat) (_x _q _s _e t _u _y _r _v : Int) (_d0 _d1 _d2 _d3 _d4 _d5 _d6 _w : Bool) (_f _l : Int) (j : Nat → Value) : St := ⟨[(bK [(.dp (.s (C) (n) 9))] 1 84), (bK [(.v (.int .i64 0))] 1 3), (bK [(.v (.int .i64 0))] 1 30), (bK [(.dp (.s (C) (n) 9))] 1 84), (bK [(.v (.int .i64 (t)))] 1 3)], [(.code (atC [1, 0, 1, 0] (bodyOf Tryz.f108))), (.inBlock 0), (.code (atC [1, 1] (bodyOf Tryz.f108)))], mkT j [(2, (.e (.one (.ptr 0 0)))), (4, (.e (.one (.ptr 1 0)))), (5, (.e (.one (.ptr 2 0)))), (6, (.tup [])), (9, (.e (.one (.clo 165 [] [(.one (.ptr 4 0)), (.one (.ptr 3 0))])))), (10, (.tup []))] 16 0⟩
theorem p108a (hE : EnvOk E) (z : Nat → Value) (C : List DT) (n i k : Nat) (x q s e t u y r v : Int) (d0 d1 d2 d3 d4 d5 d6 w : Bool) (f l : Int) (h0 : COut E 0 [] 148 [(.e (.one (.dp (.s (C) (n) 9)))), (iI (t))] (.e (.one (.clo 165 [] [(.one (.ptr 1 0)), (.one (.ptr 0 0))]))) [(bK [(.dp (.s (C) (n) 9))] 1 84), (bK [(.v (.int .i64 (t)))] 1 3)]) (h3 : True) (h5 : True) {Φ : Res → Prop} (ho : ∀ j, OutK E 0 0 (p108a_end z C n i k x q s e t u y r v d0 d1 d2 d3 d4 d5 d6 w f l j) Φ) (j : Nat → Value) : OutK E 0 0 (h108 z C n i k x q s e t u y r v d0 d1 d2 d3 d4 d5 d6 w f l j) Φ :=
 oS hE [.run 4, (.ops [(2, (.cl [] [] [(.e (.one (.dp (.s (C) (n) 9)))), (iI (t))] [] (.e (.one (.clo 165 [] [(.one (.ptr 1 0)), (.one (.ptr 0 0))]))) [(bK [(.dp (.s (C) (n) 9))] 1 84), (bK [(.v (.int .i64 (t)))] 1 3)] (.e (.one (.clo 165 [] [(.one (.ptr 4 0)), (.one (.ptr 3 0))]))) [false, false] [(bK [(.dp (.s (C) (n) 9))] 1 84), (bK [(.v (.int .i64 (t)))] 1 3)]))] []), .run 1] [2, 4, 5, 6, 9, 10] (aP h0 <| aP (rfl : ([(.e (.one (.dp (.s (C) (n) 9)))), (iI (t))] : List AV) = [(.e (.one (.dp (.s (C) (n) 9)))), (iI (t))]) <| aP (rfl : ([] : List (Option (Option AB))) = []) <| aP h3 <| aP (rfl : ([(.some (bK [(.dp (.s (C) (n) 9))] 1 84)), (.some (bK [(.v (.int .i64 (t)))] 1 3))] : List (Option (Option AB))) = [(.some (bK [(.dp (.s (C) (n) 9))] 1 84)), (.some (bK [(.v (.int .i64 (t)))] 1 3))]) <| aP h5 <| aP (rfl : ((.e (.one (.clo 165 [] [(.one (.ptr 4 0)), (.one (.ptr 3 0))]))) : AV) = (.e (.one (.clo 165 [] [(.one (.ptr 4 0)), (.one (.ptr 3 0))])))) <| aZ)
  ho
def p165a_end (T : Tm) (ps : Array Tmp) (asg : Code) (bod : Code) (C : List DT) (n : Nat) (t _u _r _v : Int) (j : Nat → Value) : St := ⟨[(bK [(.dp (.s (C) (n) 9))] 1 84), (bK [(.v (.int .i64 0))] 1 3), (bK [(.v (.int .i64 0))] 1 30), (bK [(.dp (.s (C) (n) 9))] 1 84), (bK [(.v (.int .i64 (t)))] 1 3), (.some ⟨[], 0, 0, false, .mark⟩), (.some ⟨[], 0, 0, false, (.loop .ready none (T) (ps) (asg) (bod))⟩)], [(.code (atC [0, 0] (bodyOf Tryz.f165))), (.inLoop (atC [0, 0] (bodyOf Tryz.f165))), (.inBlock 0)], mkT j [(0, (.e (.one (.yld 6)))), (1, (.e (.one (.ptr 4 0)))), (2, (.e (.one (.ptr 3 0))))] 14 0⟩
theorem p165a (hE : EnvOk E) (T : Tm) (ps : Array Tmp) (asg : Code) (bod : Code) (C : List DT) (n : Nat) (t u r v : Int)  {Φ : Res → Prop} (ho : ∀ j, OutK E 0 7 (p165a_end T ps asg bod C n t u r v j) Φ) (j : Nat → Value) : OutK E 0 7 (h165 T ps asg bod C n t u r v j) Φ :=
 oS hE [.run 2] [0, 1, 2] (ps := []) trivial
  ho
def p166n_end (_z : Nat → Value) (C : List DT) (n i _k : Nat) (_x _q s e t _u _y _r _v : Int) (_d0 _d1 _d2 _d3 _d4 _d5 _d6 _w : Bool) (_f _l : Int) (j : Nat → Value) : St := ⟨[], [(.code (atC [1, 1, 0, 1, 0, 0] (bodyOf Tryz.f166))), (.inLoop (atC [1, 1, 0, 1, 0, 0] (bodyOf Tryz.f166))), (.inBlock 0), (.code (atC [1, 1, 1] (bodyOf Tryz.f166)))], mkT j [(1, (iI (t))), (5, (iI (s))), (6, (iI (e))), (11, (.e (.one (.dp (.s (C) (n) 9))))), (12, (iI (Int.ofNat n))), (13, (iI (Int.ofNat (i + 1))))] 33 0⟩
theorem p166n (hE : EnvOk E) (z : Nat → Value) (C : List DT) (n i k : Nat) (x q s e t u y r v : Int) (d0 d1 d2 d3 d4 d5 d6 w : Bool) (f l : Int) (h0 : (decide (Int.ofNat i < Int.ofNat n) : Bool) = true) (h1 : (0 : Int) ≤ Int.ofNat i ∧ Int.ofNat i < (↑n : Int)) (h2 : ((Int.ofNat i).toNat * nat_lit 9 : Nat) = i.mul (nat_lit 9)) (h3 : (takeL (dropL C (i.mul (nat_lit 9))) (9 : Nat) : Option (List DT)) = (.some [(.v (.bool (d0))), (.v (.bool (d1))), (.v (.bool (d2))), (.v (.bool (d3))), (.v (.bool (d4))), (.v (.bool (d5))), (.v (.bool (d6))), (.v (.int .i64 (f))), (.v (.int .i64 (l)))])) (h4 : (decide (l > s) : Bool) = false) (h5 : ((iI (wrapF IntKind.i64 (Int.ofNat i + (1 : Int)))) : AV) = (iI (Int.ofNat (i + 1)))) {Φ : Res → Prop} (ho : ∀ j, OutK E 0 0 (p166n_end z C n i k x q s e t u y r v d0 d1 d2 d3 d4 d5 d6 w f l j) Φ) (j : Nat → Value) : OutK E 0 0 (r166 z C n i k x q s e t u y r v d0 d1 d2 d3 d4 d5 d6 w f l j) Φ :=
 oS hE [.run 3, (.cond true), .run 4, (.ops [(1, (.d (.ldn [(.v (.bool (d0))), (.v (.bool (d1))), (.v (.bool (d2))), (.v (.bool (d3))), (.v (.bool (d4))), (.v (.bool (d5))), (.v (.bool (d6))), (.v (.int .i64 (f))), (.v (.int .i64 (l)))]))), (0, (.d (.ix (i.mul (nat_lit 9)))))] []), .run 2, (.cond false), .run 2, (.ops [(0, (.rn (iI (Int.ofNat (i + 1)))))] []), .run 1] [1, 5, 6, 11, 12, 13] (s' := fun j => ⟨[(bK [(.v (.bool (d0))), (.v (.bool (d1))), (.v (.bool (d2))), (.v (.bool (d3))), (.v (.bool (d4))), (.v (.bool (d5))), (.v (.bool (d6))), (.v (.int .i64 (f))), (.v (.int .i64 (l)))] 9 169)], [(.code (atC [1, 1, 0, 1, 0, 0] (bodyOf Tryz.f166))), (.inLoop (atC [1, 1, 0, 1, 0, 0] (bodyOf Tryz.f166))), (.inBlock 0), (.code (atC [1, 1, 1] (bodyOf Tryz.f166)))], mkT j [(1, (iI (t))), (5, (iI (s))), (6, (iI (e))), (11, (.e (.one (.dp (.s (C) (n) 9))))), (12, (iI (Int.ofNat n))), (13, (iI (Int.ofNat (i + 1))))] 33 0⟩) (aP h0 <| aP h1 <| aP h2 <| aP h3 <| aP h4 <| aP h5 <| aZ)
  fun j => gZ [] (ho j)
def p166s_end (_z : Nat → Value) (C : List DT) (n i _k : Nat) (_x _q s _e t u _y _r _v : Int) (_d0 _d1 _d2 _d3 _d4 _d5 _d6 _w : Bool) (_f _l : Int) (j : Nat → Value) : St := ⟨[], [(.code (atC [1, 1, 0, 1, 0, 0] (bodyOf Tryz.f166))), (.inLoop (atC [1, 1, 0, 1, 0, 0] (bodyOf Tryz.f166))), (.inBlock 0), (.code (atC [1, 1, 1] (bodyOf Tryz.f166)))], mkT j [(1, (iI (t))), (5, (iI (s))), (6, (iI (u))), (11, (.e (.one (.dp (.s (C) (n) 9))))), (12, (iI (Int.ofNat n))), (13, (iI (Int.ofNat (i + 1))))] 33 0⟩
theorem p166s (hE : EnvOk E) (z : Nat → Value) (C : List DT) (n i k : Nat) (x q s e t u y r v : Int) (d0 d1 d2 d3 d4 d5 d6 w : Bool) (f l : Int) (h0 : (decide (Int.ofNat i < Int.ofNat n) : Bool) = true) (h1 : (0 : Int) ≤ Int.ofNat i ∧ Int.ofNat i < (↑n : Int)) (h2 : ((Int.ofNat i).toNat * nat_lit 9 : Nat) = i.mul (nat_lit 9)) (h3 : (takeL (dropL C (i.mul (nat_lit 9))) (9 : Nat) : Option (List DT)) = (.some [(.v (.bool (d0))), (.v (.bool (d1))), (.v (.bool (d2))), (.v (.bool (d3))), (.v (.bool (d4))), (.v (.bool (d5))), (.v (.bool (d6))), (.v (.int .i64 (f))), (.v (.int .i64 (l)))])) (h4 : (decide (l > s) : Bool) = true) (h5 : ((iI (if l < e then l else e)) : AV) = (iI (u))) (h6 : ((iI (wrapF IntKind.i64 (Int.ofNat i + (1 : Int)))) : AV) = (iI (Int.ofNat (i + 1)))) {Φ : Res → Prop} (ho : ∀ j, OutK E 0 0 (p166s_end z C n i k x q s e t u y r v d0 d1 d2 d3 d4 d5 d6 w f l j) Φ) (j : Nat → Value) : OutK E 0 0 (r166 z C n i k x q s e t u y r v d0 d1 d2 d3 d4 d5 d6 w f l j) Φ :=
 oS hE [.run 3, (.cond true), .run 4, (.ops [(1, (.d (.ldn [(.v (.bool (d0))), (.v (.bool (d1))), (.v (.bool (d2))), (.v (.bool (d3))), (.v (.bool (d4))), (.v (.bool (d5))), (.v (.bool (d6))), (.v (.int .i64 (f))), (.v (.int .i64 (l)))]))), (0, (.d (.ix (i.mul (nat_lit 9)))))] []), .run 2, (.cond true), (.ops [(4, (.rn (iI (u))))] []), .run 1, (.ops [(0, (.rn (iI (Int.ofNat (i + 1)))))] []), .run 1] [1, 5, 6, 11, 12, 13] (s' := fun j => ⟨[(bK [(.v (.bool (d0))), (.v (.bool (d1))), (.v (.bool (d2))), (.v (.bool (d3))), (.v (.bool (d4))), (.v (.bool (d5))), (.v (.bool (d6))), (.v (.int .i64 (f))), (.v (.int .i64 (l)))] 9 169)], [(.code (atC [1, 1, 0, 1, 0, 0] (bodyOf Tryz.f166))), (.inLoop (atC [1, 1, 0, 1, 0, 0] (bodyOf Tryz.f166))), (.inBlock 0), (.code (atC [1, 1, 1] (bodyOf Tryz.f166)))], mkT j [(1, (iI (t))), (5, (iI (s))), (6, (iI (u))), (11, (.e (.one (.dp (.s (C) (n) 9))))), (12, (iI (Int.ofNat n))), (13, (iI (Int.ofNat (i + 1))))] 33 0⟩) (aP h0 <| aP h1 <| aP h2 <| aP h3 <| aP h4 <| aP h5 <| aP h6 <| aZ)
  fun j => gZ [] (ho j)
def p166x_end (_z : Nat → Value) (_C : List DT) (_n _i _k : Nat) (_x _q _s _e _t _u _y r _v : Int) (_d0 _d1 _d2 _d3 _d4 _d5 _d6 _w : Bool) (_f _l : Int) (j : Nat → Value) : St := ⟨[], [(.code .ret)], mkT j [(4, (iI (r)))] 33 0⟩
theorem p166x (hE : EnvOk E) (z : Nat → Value) (C : List DT) (n i k : Nat) (x q s e t u y r v : Int) (d0 d1 d2 d3 d4 d5 d6 w : Bool) (f l : Int) (h0 : (decide (Int.ofNat i < Int.ofNat n) : Bool) = false) (h1 : ((iI (wrapF IntKind.i64 (wrapF IntKind.i64 (t - s) + e))) : AV) = (iI (r))) {Φ : Res → Prop} (ho : ∀ j, OutK E 0 0 (p166x_end z C n i k x q s e t u y r v d0 d1 d2 d3 d4 d5 d6 w f l j) Φ) (j : Nat → Value) : OutK E 0 0 (r166 z C n i k x q s e t u y r v d0 d1 d2 d3 d4 d5 d6 w f l j) Φ :=
 oS hE [.run 3, (.cond false), .run 2, (.ops [(4, (.rn (iI (r))))] [])] [4] (aP h0 <| aP h1 <| aZ)
  ho
def pR108_end (z : Nat → Value) (C : List DT) (n _i _k : Nat) (_x _q _s _e t _u _y _r _v : Int) (_d0 _d1 _d2 _d3 _d4 _d5 _d6 _w : Bool) (_f _l : Int) (j : Nat → Value) : St := ⟨[(bK [(.dp (.s (C) (n) 9))] 1 84), (bK [(.v (.int .i64 0))] 1 3), (bK [(.v (.int .i64 0))] 1 30), (bK [(.dp (.s (C) (n) 9))] 1 84), (bK [(.v (.int .i64 (t)))] 1 3), (.some ⟨[], 0, 0, false, .mark⟩), (.some ⟨[], 0, 0, false, (.loop .ready none [(.e (.one (.v (z (0 : Nat))))), (.e (.one (.v (z (1 : Nat))))), (.e (.one (.ptr 0 0))), (.e (.one (.v (z (3 : Nat))))), (.e (.one (.ptr 1 0))), (.e (.one (.ptr 2 0))), (.tup []), (.e (.one (.v (z (7 : Nat))))), (.e (.one (.v (z (8 : Nat))))), (.e (.one (.clo 165 [] [(.one (.ptr 4 0)), (.one (.ptr 3 0))]))), (.tup []), (.e (.one (.v (z (11 : Nat))))), (.e (.one (.v (z (12 : Nat))))), (.e (.one (.v (z (13 : Nat))))), (.e (.one (.v (z (14 : Nat))))), (.e (.one (.v (z (15 : Nat)))))] #[10] (atC [1, 0, 1, 0, 0] (bodyOf Tryz.f108)) (atC [1, 0, 1, 0, 1] (bodyOf Tryz.f108)))⟩)], [.beginRound, (.code (atC [1, 0, 1, 0, 1] (bodyOf Tryz.f108)))], mkT j [(2, (.e (.one (.ptr 0 0)))), (4, (.e (.one (.ptr 1 0)))), (5, (.e (.one (.ptr 2 0)))), (6, (iI (t)))] 16 0⟩
theorem pR108 (hE : EnvOk E) (z : Nat → Value) (C : List DT) (n i k : Nat) (x q s e t u y r v : Int) (d0 d1 d2 d3 d4 d5 d6 w : Bool) (f l : Int)  {Φ : Res → Prop} (ho : ∀ j, OutK E 0 7 (pR108_end z C n i k x q s e t u y r v d0 d1 d2 d3 d4 d5 d6 w f l j) Φ (some 6)) (j : Nat → Value) : OutK E 0 7 (sR108 z C n i k x q s e t u y r v d0 d1 d2 d3 d4 d5 d6 w f l j) Φ (some 6) :=
 oS hE [.run 1] [2, 4, 5, 6] (ps := []) trivial
  ho
def p165s_end (T : Tm) (ps : Array Tmp) (asg : Code) (bod : Code) (C : List DT) (n : Nat) (_t u _r _v : Int) (j : Nat → Value) : St := ⟨[(bK [(.dp (.s (C) (n) 9))] 1 84), (bK [(.v (.int .i64 0))] 1 3), (bK [(.v (.int .i64 0))] 1 30), (bK [(.dp (.s (C) (n) 9))] 1 84), (bK [(.v (.int .i64 (u)))] 1 3), (.some ⟨[], 0, 0, false, .mark⟩), (.some ⟨[], 0, 0, false, (.loop .ready none (T) (ps) (asg) (bod))⟩)], [(.code (atC [0, 0] (bodyOf Tryz.f165))), (.inLoop (atC [0, 0] (bodyOf Tryz.f165))), (.inBlock 0)], mkT j [(0, (.e (.one (.yld 6)))), (1, (.e (.one (.ptr 4 0)))), (2, (.e (.one (.ptr 3 0))))] 14 0⟩
theorem p165s (hE : EnvOk E) (T : Tm) (ps : Array Tmp) (asg : Code) (bod : Code) (C : List DT) (n : Nat) (t u r v : Int) (h0 : (decide (t ≤ (100000000 : Int)) == true : Bool) = true) (h1 : (decide (t ≤ (100000000 : Int)) == true : Bool) = true) (h2 : (decide (t ≤ (100000000 : Int)) == true : Bool) = true) (h3 : RoundK E 0 [(bK [(.dp (.s (C) (n) 9))] 1 84), (bK [(.v (.int .i64 0))] 1 3), (bK [(.v (.int .i64 0))] 1 30), (bK [(.dp (.s (C) (n) 9))] 1 84), (bK [(.v (.int .i64 (t)))] 1 3), (.some ⟨[], 0, 0, false, .mark⟩), (.some ⟨[], 0, 0, false, (.loop .ready none (T) (ps) (asg) (bod))⟩)] 6 [(iI (t))] (iB true) [(bK [(.dp (.s (C) (n) 9))] 1 84), (bK [(.v (.int .i64 0))] 1 3), (bK [(.v (.int .i64 0))] 1 30), (bK [(.dp (.s (C) (n) 9))] 1 84), (bK [(.v (.int .i64 (t)))] 1 3), (.some ⟨[], 0, 0, false, .mark⟩), (.some ⟨[], 0, 0, false, (.loop .ready none (T) (ps) (asg) (bod))⟩)]) (h4 : (decide (t ≤ (100000000 : Int)) : Bool) = true) (h5 : COut E 0 [] 166 [(.e (.one (.dp (.s (C) (n) 9)))), (iI (t))] (iI (u)) []) {Φ : Res → Prop} (ho : ∀ j, OutK E 0 7 (p165s_end T ps asg bod C n t u r v j) Φ) (j : Nat → Value) : OutK E 0 7 (r165 T ps asg bod C n t u r v j) Φ :=
 oS hE [.run 2, (.ops [(5, (.yd (iB true) [(bK [(.dp (.s (C) (n) 9))] 1 84), (bK [(.v (.int .i64 0))] 1 3), (bK [(.v (.int .i64 0))] 1 30), (bK [(.dp (.s (C) (n) 9))] 1 84), (bK [(.v (.int .i64 (t)))] 1 3), (.some ⟨[], 0, 0, false, .mark⟩), (.some ⟨[], 0, 0, false, (.loop .ready none (T) (ps) (asg) (bod))⟩)])), (6, (.pk true))] [(3, true), (4, true), (5, true)]), .run 3, (.ops [(2, (.c0 (iI (u))))] []), .run 2] [0, 1, 2] (aP h0 <| aP h1 <| aP h2 <| aP h3 <| aP h4 <| aP h5 <| aN <| aZ)
  ho
def p165e_end (T : Tm) (ps : Array Tmp) (asg : Code) (bod : Code) (C : List DT) (n : Nat) (t _u _r _v : Int) (j : Nat → Value) : St := ⟨[(bK [(.dp (.s (C) (n) 9))] 1 84), (bK [(.v (.int .i64 (t)))] 1 3), (bK [(.v (.int .i64 0))] 1 30), (bK [(.dp (.s (C) (n) 9))] 1 84), (bK [(.v (.int .i64 (t)))] 1 3), (.some ⟨[], 0, 0, false, .mark⟩), (.some ⟨[], 0, 0, false, (.loop .done (.some .ret) (T) (ps) (asg) (bod))⟩)], [], mkT j [] 14 0⟩
theorem p165e (hE : EnvOk E) (T : Tm) (ps : Array Tmp) (asg : Code) (bod : Code) (C : List DT) (n : Nat) (t u r v : Int) (h0 : (decide (t ≤ (100000000 : Int)) == true : Bool) = true) (h1 : (decide (t ≤ (100000000 : Int)) == true : Bool) = true) (h2 : (decide (t ≤ (100000000 : Int)) == true : Bool) = true) (h3 : RoundK E 0 [(bK [(.dp (.s (C) (n) 9))] 1 84), (bK [(.v (.int .i64 0))] 1 3), (bK [(.v (.int .i64 0))] 1 30), (bK [(.dp (.s (C) (n) 9))] 1 84), (bK [(.v (.int .i64 (t)))] 1 3), (.some ⟨[], 0, 0, false, .mark⟩), (.some ⟨[], 0, 0, false, (.loop .ready none (T) (ps) (asg) (bod))⟩)] 6 [(iI (t))] (iB false) [(bK [(.dp (.s (C) (n) 9))] 1 84), (bK [(.v (.int .i64 (t)))] 1 3), (bK [(.v (.int .i64 0))] 1 30), (bK [(.dp (.s (C) (n) 9))] 1 84), (bK [(.v (.int .i64 (t)))] 1 3), (.some ⟨[], 0, 0, false, .mark⟩), (.some ⟨[], 0, 0, false, (.loop .done (.some .ret) (T) (ps) (asg) (bod))⟩)]) (h4 : (decide (t ≤ (100000000 : Int)) : Bool) = true) {Φ : Res → Prop} (ho : ∀ j, OutK E 0 7 (p165e_end T ps asg bod C n t u r v j) Φ) (j : Nat → Value) : OutK E 0 7 (r165 T ps asg bod C n t u r v j) Φ :=
 oS hE [.run 2, (.ops [(5, (.yd (iB false) [(bK [(.dp (.s (C) (n) 9))] 1 84), (bK [(.v (.int .i64 (t)))] 1 3), (bK [(.v (.int .i64 0))] 1 30), (bK [(.dp (.s (C) (n) 9))] 1 84), (bK [(.v (.int .i64 (t)))] 1 3), (.some ⟨[], 0, 0, false, .mark⟩), (.some ⟨[], 0, 0, false, (.loop .done (.some .ret) (T) (ps) (asg) (bod))⟩)])), (6, (.pk true))] [(3, true), (4, true), (5, true)]), .run 2] [] (aP h0 <| aP h1 <| aP h2 <| aP h3 <| aP h4 <| aZ)
  ho
def p165x_end (T : Tm) (ps : Array Tmp) (asg : Code) (bod : Code) (C : List DT) (n : Nat) (t _u _r _v : Int) (j : Nat → Value) : St := ⟨[(bK [(.dp (.s (C) (n) 9))] 1 84), (bK [(.v (.int .i64 0))] 1 3), (bK [(.v (.int .i64 0))] 1 30), (bK [(.dp (.s (C) (n) 9))] 1 84), (bK [(.v (.int .i64 (t)))] 1 3), (.some ⟨[], 0, 0, false, .mark⟩), (.some ⟨[], 0, 0, false, (.loop .ready none (T) (ps) (asg) (bod))⟩)], [], mkT j [] 14 0⟩
theorem p165x (hE : EnvOk E) (T : Tm) (ps : Array Tmp) (asg : Code) (bod : Code) (C : List DT) (n : Nat) (t u r v : Int) (h0 : (decide (t ≤ (100000000 : Int)) == true : Bool) = false) (h1 : (decide (t ≤ (100000000 : Int)) == true : Bool) = false) (h2 : (decide (t ≤ (100000000 : Int)) == true : Bool) = false) (h3 : (decide (t ≤ (100000000 : Int)) : Bool) = false) {Φ : Res → Prop} (ho : ∀ j, OutK E 0 7 (p165x_end T ps asg bod C n t u r v j) Φ) (j : Nat → Value) : OutK E 0 7 (r165 T ps asg bod C n t u r v j) Φ :=
 oS hE [.run 2, (.ops [(6, (.pk false))] [(3, false), (4, false), (5, false)]), .run 2] [] (aP h0 <| aP h1 <| aP h2 <| aP h3 <| aZ)
  ho
def pB108t_end (z : Nat → Value) (C : List DT) (n _i _k : Nat) (_x _q _s _e t _u _y _r _v : Int) (_d0 _d1 _d2 _d3 _d4 _d5 _d6 _w : Bool) (_f _l : Int) (j : Nat → Value) : St := ⟨[(bK [(.dp (.s (C) (n) 9))] 1 84), (bK [(.v (.int .i64 0))] 1 3), (bK [(.v (.int .i64 0))] 1 30), (bK [(.dp (.s (C) (n) 9))] 1 84), (bK [(.v (.int .i64 (t)))] 1 3), (.some ⟨[], 0, 0, false, .mark⟩), (.some ⟨[], 0, 0, false, (.loop .busy none [(.e (.one (.v (z (0 : Nat))))), (.e (.one (.v (z (1 : Nat))))), (.e (.one (.ptr 0 0))), (.e (.one (.v (z (3 : Nat))))), (.e (.one (.ptr 1 0))), (.e (.one (.ptr 2 0))), (.tup []), (.e (.one (.v (z (7 : Nat))))), (.e (.one (.v (z (8 : Nat))))), (.e (.one (.clo 165 [] [(.one (.ptr 4 0)), (.one (.ptr 3 0))]))), (.tup []), (.e (.one (.v (z (11 : Nat))))), (.e (.one (.v (z (12 : Nat))))), (.e (.one (.v (z (13 : Nat))))), (.e (.one (.v (z (14 : Nat))))), (.e (.one (.v (z (15 : Nat)))))] #[10] (atC [1, 0, 1, 0, 0] (bodyOf Tryz.f108)) (atC [1, 0, 1, 0, 1] (bodyOf Tryz.f108)))⟩)], [], mkT j [(4, (.e (.one (.ptr 1 0)))), (5, (.e (.one (.ptr 2 0))))] 16 0⟩
theorem pB108t (hE : EnvOk E) (z : Nat → Value) (C : List DT) (n i k : Nat) (x q s e t u y r v : Int) (d0 d1 d2 d3 d4 d5 d6 w : Bool) (f l : Int) (h0 : COut E 0 [] 107 [(.e (.one (.dp (.s (C) (n) 9)))), (iI (t))] (iB (w)) []) (h2 : (!w : Bool) = false) {Φ : Res → Prop} (ho : ∀ j, OutK E 0 7 (pB108t_end z C n i k x q s e t u y r v d0 d1 d2 d3 d4 d5 d6 w f l j) Φ (some 6)) (j : Nat → Value) : OutK E 0 7 (sB108 z C n i k x q s e t u y r v d0 d1 d2 d3 d4 d5 d6 w f l j) Φ (some 6) :=
 oS hE [.run 2, (.ops [(2, (.c0 (iB (w))))] []), (.cond false), .run 2] [4, 5] (aP h0 <| aN <| aP h2 <| aZ)
  ho
def pB108f_end (z : Nat → Value) (C : List DT) (n _i _k : Nat) (_x _q _s _e t _u _y _r _v : Int) (_d0 _d1 _d2 _d3 _d4 _d5 _d6 _w : Bool) (_f _l : Int) (j : Nat → Value) : St := ⟨[(bK [(.dp (.s (C) (n) 9))] 1 84), (bK [(.v (.int .i64 (t)))] 1 3), (bK [(.v (.int .i64 0))] 1 30), (bK [(.dp (.s (C) (n) 9))] 1 84), (bK [(.v (.int .i64 (t)))] 1 3), (.some ⟨[], 0, 0, false, .mark⟩), (.some ⟨[], 0, 0, false, (.loop .busy none [(.e (.one (.v (z (0 : Nat))))), (.e (.one (.v (z (1 : Nat))))), (.e (.one (.ptr 0 0))), (.e (.one (.v (z (3 : Nat))))), (.e (.one (.ptr 1 0))), (.e (.one (.ptr 2 0))), (.tup []), (.e (.one (.v (z (7 : Nat))))), (.e (.one (.v (z (8 : Nat))))), (.e (.one (.clo 165 [] [(.one (.ptr 4 0)), (.one (.ptr 3 0))]))), (.tup []), (.e (.one (.v (z (11 : Nat))))), (.e (.one (.v (z (12 : Nat))))), (.e (.one (.v (z (13 : Nat))))), (.e (.one (.v (z (14 : Nat))))), (.e (.one (.v (z (15 : Nat)))))] #[10] (atC [1, 0, 1, 0, 0] (bodyOf Tryz.f108)) (atC [1, 0, 1, 0, 1] (bodyOf Tryz.f108)))⟩)], [(.code .ret), (.inBlock 1)], mkT j [(4, (.e (.one (.ptr 1 0)))), (5, (.e (.one (.ptr 2 0))))] 16 0⟩
theorem pB108f (hE : EnvOk E) (z : Nat → Value) (C : List DT) (n i k : Nat) (x q s e t u y r v : Int) (d0 d1 d2 d3 d4 d5 d6 w : Bool) (f l : Int) (h0 : COut E 0 [] 107 [(.e (.one (.dp (.s (C) (n) 9)))), (iI (t))] (iB (w)) []) (h2 : (!w : Bool) = true) {Φ : Res → Prop} (ho : ∀ j, OutK E 0 7 (pB108f_end z C n i k x q s e t u y r v d0 d1 d2 d3 d4 d5 d6 w f l j) Φ (some 6)) (j : Nat → Value) : OutK E 0 7 (sB108 z C n i k x q s e t u y r v d0 d1 d2 d3 d4 d5 d6 w f l j) Φ (some 6) :=
 oS hE [.run 2, (.ops [(2, (.c0 (iB (w))))] []), (.cond true), .run 2] [4, 5] (aP h0 <| aN <| aP h2 <| aZ)
  ho
def pE108t_end (_z : Nat → Value) (C : List DT) (n _i _k : Nat) (_x _q _s _e t _u _y _r _v : Int) (_d0 _d1 _d2 _d3 _d4 _d5 _d6 _w : Bool) (_f _l : Int) (j : Nat → Value) : St := ⟨[(bK [(.dp (.s (C) (n) 9))] 1 84), (bK [(.v (.int .i64 0))] 1 3), (bK [(.v (.int .i64 7))] 1 30), (bK [(.dp (.s (C) (n) 9))] 1 84), (bK [(.v (.int .i64 (t)))] 1 3), (.some ⟨[], 0, 0, false, .mark⟩)], [(.code .ret)], mkT j [(4, (.e (.one (.ptr 1 0)))), (5, (.e (.one (.ptr 2 0))))] 16 0⟩
theorem pE108t (hE : EnvOk E) (z : Nat → Value) (C : List DT) (n i k : Nat) (x q s e t u y r v : Int) (d0 d1 d2 d3 d4 d5 d6 w : Bool) (f l : Int)  {Φ : Res → Prop} (ho : ∀ j, OutK E 0 6 (pE108t_end z C n i k x q s e t u y r v d0 d1 d2 d3 d4 d5 d6 w f l j) Φ) (j : Nat → Value) : OutK E 0 6 (sE108t z C n i k x q s e t u y r v d0 d1 d2 d3 d4 d5 d6 w f l j) Φ :=
 oS hE [.run 3] [4, 5] (s' := fun j => ⟨[(bK [(.dp (.s (C) (n) 9))] 1 84), (bK [(.v (.int .i64 0))] 1 3), (bK [(.v (.int .i64 7))] 1 30), (bK [(.dp (.s (C) (n) 9))] 1 84), (bK [(.v (.int .i64 (t)))] 1 3), (.some ⟨[], 0, 0, false, .mark⟩), (.some ⟨[], 0, 0, false, (.loop .exhausted none [(.e (.one (.v (z (0 : Nat))))), (.e (.one (.v (z (1 : Nat))))), (.e (.one (.ptr 0 0))), (.e (.one (.v (z (3 : Nat))))), (.e (.one (.ptr 1 0))), (.e (.one (.ptr 2 0))), (.tup []), (.e (.one (.v (z (7 : Nat))))), (.e (.one (.v (z (8 : Nat))))), (.e (.one (.clo 165 [] [(.one (.ptr 4 0)), (.one (.ptr 3 0))]))), (.tup []), (.e (.one (.v (z (11 : Nat))))), (.e (.one (.v (z (12 : Nat))))), (.e (.one (.v (z (13 : Nat))))), (.e (.one (.v (z (14 : Nat))))), (.e (.one (.v (z (15 : Nat)))))] #[10] (atC [1, 0, 1, 0, 0] (bodyOf Tryz.f108)) (atC [1, 0, 1, 0, 1] (bodyOf Tryz.f108)))⟩)], [(.code .ret)], mkT j [(4, (.e (.one (.ptr 1 0)))), (5, (.e (.one (.ptr 2 0))))] 16 0⟩) (ps := []) trivial
  fun j => gZ [0, 1, 2, 3, 4, 5] (ho j)
def pE108f_end (_z : Nat → Value) (C : List DT) (n _i _k : Nat) (_x _q _s _e t _u _y _r _v : Int) (_d0 _d1 _d2 _d3 _d4 _d5 _d6 _w : Bool) (_f _l : Int) (j : Nat → Value) : St := ⟨[(bK [(.dp (.s (C) (n) 9))] 1 84), (bK [(.v (.int .i64 (t)))] 1 3), (bK [(.v (.int .i64 0))] 1 30), (bK [(.dp (.s (C) (n) 9))] 1 84), (bK [(.v (.int .i64 (t)))] 1 3), (.some ⟨[], 0, 0, false, .mark⟩)], [(.code .ret), (.inBlock 0), (.code (atC [1, 1] (bodyOf Tryz.f108)))], mkT j [(4, (.e (.one (.ptr 1 0)))), (5, (.e (.one (.ptr 2 0))))] 16 0⟩
theorem pE108f (hE : EnvOk E) (z : Nat → Value) (C : List DT) (n i k : Nat) (x q s e t u y r v : Int) (d0 d1 d2 d3 d4 d5 d6 w : Bool) (f l : Int)  {Φ : Res → Prop} (ho : ∀ j, OutK E 0 6 (pE108f_end z C n i k x q s e t u y r v d0 d1 d2 d3 d4 d5 d6 w f l j) Φ) (j : Nat → Value) : OutK E 0 6 (sE108f z C n i k x q s e t u y r v d0 d1 d2 d3 d4 d5 d6 w f l j) Φ :=
 oS hE [] [4, 5] (s' := fun j => ⟨[(bK [(.dp (.s (C) (n) 9))] 1 84), (bK [(.v (.int .i64 (t)))] 1 3), (bK [(.v (.int .i64 0))] 1 30), (bK [(.dp (.s (C) (n) 9))] 1 84), (bK [(.v (.int .i64 (t)))] 1 3), (.some ⟨[], 0, 0, false, .mark⟩), (.some ⟨[], 0, 0, false, (.loop .exhausted (.some .ret) [(.e (.one (.v (z (0 : Nat))))), (.e (.one (.v (z (1 : Nat))))), (.e (.one (.ptr 0 0))), (.e (.one (.v (z (3 : Nat))))), (.e (.one (.ptr 1 0))), (.e (.one (.ptr 2 0))), (.tup []), (.e (.one (.v (z (7 : Nat))))), (.e (.one (.v (z (8 : Nat))))), (.e (.one (.clo 165 [] [(.one (.ptr 4 0)), (.one (.ptr 3 0))]))), (.tup []), (.e (.one (.v (z (11 : Nat))))), (.e (.one (.v (z (12 : Nat))))), (.e (.one (.v (z (13 : Nat))))), (.e (.one (.v (z (14 : Nat))))), (.e (.one (.v (z (15 : Nat)))))] #[10] (atC [1, 0, 1, 0, 0] (bodyOf Tryz.f108)) (atC [1, 0, 1, 0, 1] (bodyOf Tryz.f108)))⟩)], [(.code .ret), (.inBlock 0), (.code (atC [1, 1] (bodyOf Tryz.f108)))], mkT j [(4, (.e (.one (.ptr 1 0)))), (5, (.e (.one (.ptr 2 0))))] 16 0⟩) (ps := []) trivial
  fun j => gZ [0, 1, 2, 3, 4, 5] (ho j)
def p48x_end (_z : Nat → Value) (_C : List DT) (_n _i _k : Nat) (_x _q _s _e _t _u _y _r _v : Int) (_d0 _d1 _d2 _d3 _d4 _d5 _d6 _w : Bool) (_f _l : Int) (j : Nat → Value) : St := ⟨[], [(.code .ret)], mkT j [(4, (iI 0)), (5, (iI 7))] 69 0⟩
theorem p48x (hE : EnvOk E) (z : Nat → Value) (C : List DT) (n i k : Nat) (x q s e t u y r v : Int) (d0 d1 d2 d3 d4 d5 d6 w : Bool) (f l : Int) (h0 : (decide (t ≤ (100000000 : Int)) == true : Bool) = false) (h1 : (decide (t ≤ (100000000 : Int)) == true : Bool) = false) (h2 : (decide (t ≤ (100000000 : Int)) == true : Bool) = false) (h3 : (decide (t ≤ (100000000 : Int)) == true : Bool) = false) (h4 : (decide (t ≤ (100000000 : Int)) : Bool) = false) {Φ : Res → Prop} (ho : ∀ j, OutK E 0 0 (p48x_end z C n i k x q s e t u y r v d0 d1 d2 d3 d4 d5 d6 w f l j) Φ) (j : Nat → Value) : OutK E 0 0 (r48o z C n i k x q s e t u y r v d0 d1 d2 d3 d4 d5 d6 w f l j) Φ :=
 oS hE [.run 2, (.ops [(7, (.pk false))] [(3, false), (4, false), (5, false), (6, false)]), .run 4] [4, 5] (aP h0 <| aP h1 <| aP h2 <| aP h3 <| aP h4 <| aZ)
  ho
def p48y_end (_z : Nat → Value) (_C : List DT) (_n _i _k : Nat) (_x _q _s _e _t _u _y _r _v : Int) (_d0 _d1 _d2 _d3 _d4 _d5 _d6 _w : Bool) (_f _l : Int) (j : Nat → Value) : St := ⟨[], [(.code .ret)], mkT j [(4, (iI 0)), (5, (iI 7))] 69 0⟩
theorem p48y (hE : EnvOk E) (z : Nat → Value) (C : List DT) (n i k : Nat) (x q s e t u y r v : Int) (d0 d1 d2 d3 d4 d5 d6 w : Bool) (f l : Int) (h0 : (decide (t ≤ (100000000 : Int)) == true : Bool) = true) (h1 : (decide (t ≤ (100000000 : Int)) == true : Bool) = true) (h2 : (decide (t ≤ (100000000 : Int)) == true : Bool) = true) (h3 : (decide (t ≤ (100000000 : Int)) == true : Bool) = true) (h4 : (decide (t ≤ (100000000 : Int)) : Bool) = true) (h5 : (decide (t < wrapF IntKind.i64 (x + (691200 : Int))) : Bool) = false) {Φ : Res → Prop} (ho : ∀ j, OutK E 0 0 (p48y_end z C n i k x q s e t u y r v d0 d1 d2 d3 d4 d5 d6 w f l j) Φ) (j : Nat → Value) : OutK E 0 0 (r48o z C n i k x q s e t u y r v d0 d1 d2 d3 d4 d5 d6 w f l j) Φ :=
 oS hE [.run 2, (.ops [(7, (.pk true))] [(3, true), (4, true), (5, true), (6, true)]), (.cond false), .run 3] [4, 5] (aP h0 <| aP h1 <| aP h2 <| aP h3 <| aP h4 <| aP h5 <| aZ)
  ho
def p48f_end (_z : Nat → Value) (_C : List DT) (_n _i _k : Nat) (_x _q _s _e t _u _y _r _v : Int) (_d0 _d1 _d2 _d3 _d4 _d5 _d6 _w : Bool) (_f _l : Int) (j : Nat → Value) : St := ⟨[], [(.code .ret), (.code (atC [1, 0, 1, 0, 0, 1, 0, 1] (bodyOf Tryz.f48))), (.inBlock 1), (.inLoop (atC [1, 0, 1, 0, 0] (bodyOf Tryz.f48))), (.inBlock 0), (.code (atC [1, 1] (bodyOf Tryz.f48)))], mkT j [(4, (iI (t))), (5, (iI 0))] 69 0⟩
theorem p48f (hE : EnvOk E) (z : Nat → Value) (C : List DT) (n i k : Nat) (x q s e t u y r v : Int) (d0 d1 d2 d3 d4 d5 d6 w : Bool) (f l : Int) (h0 : (decide (t ≤ (100000000 : Int)) == true : Bool) = true) (h1 : (decide (t ≤ (100000000 : Int)) == true : Bool) = true) (h2 : (decide (t ≤ (100000000 : Int)) == true : Bool) = true) (h3 : (decide (t ≤ (100000000 : Int)) == true : Bool) = true) (h4 : (decide (t ≤ (100000000 : Int)) : Bool) = true) (h5 : (decide (t < wrapF IntKind.i64 (x + (691200 : Int))) : Bool) = true) (h6 : COut E 0 [] 47 [(.e (.one (.dp (.s (C) (n) 9)))), (iI (t))] (iB (w)) []) (h8 : (!w : Bool) = true) {Φ : Res → Prop} (ho : ∀ j, OutK E 0 0 (p48f_end z C n i k x q s e t u y r v d0 d1 d2 d3 d4 d5 d6 w f l j) Φ) (j : Nat → Value) : OutK E 0 0 (r48o z C n i k x q s e t u y r v d0 d1 d2 d3 d4 d5 d6 w f l j) Φ :=
 oS hE [.run 2, (.ops [(7, (.pk true))] [(3, true), (4, true), (5, true), (6, true)]), (.cond true), .run 4, (.ops [(2, (.c0 (iB (w))))] []), (.cond true), .run 2] [4, 5] (aP h0 <| aP h1 <| aP h2 <| aP h3 <| aP h4 <| aP h5 <| aP h6 <| aN <| aP h8 <| aZ)
  ho
def p48i_end (_z : Nat → Value) (C : List DT) (n _i _k : Nat) (x _q _s _e t u _y _r _v : Int) (_d0 _d1 _d2 _d3 _d4 _d5 _d6 _w : Bool) (_f _l : Int) (j : Nat → Value) : St := ⟨[], [(.code (atC [1, 0, 1, 0, 0, 1, 0, 1, 1, 0, 1, 0, 0] (bodyOf Tryz.f48))), (.inLoop (atC [1, 0, 1, 0, 0, 1, 0, 1, 1, 0, 1, 0, 0] (bodyOf Tryz.f48))), (.inBlock 2), (.code (atC [1, 0, 1, 0, 0, 1, 0, 1, 1, 1] (bodyOf Tryz.f48))), (.inBlock 1), (.inLoop (atC [1, 0, 1, 0, 0] (bodyOf Tryz.f48))), (.inBlock 0), (.code (atC [1, 1] (bodyOf Tryz.f48)))], mkT j [(0, (.e (.one (.dp (.s (C) (n) 9))))), (1, (iI (x))), (6, (iI (t))), (7, (iI (u))), (8, (iI 0))] 69 0⟩
theorem p48i (hE : EnvOk E) (z : Nat → Value) (C : List DT) (n i k : Nat) (x q s e t u y r v : Int) (d0 d1 d2 d3 d4 d5 d6 w : Bool) (f l : Int) (h0 : (decide (t ≤ (100000000 : Int)) == true : Bool) = true) (h1 : (decide (t ≤ (100000000 : Int)) == true : Bool) = true) (h2 : (decide (t ≤ (100000000 : Int)) == true : Bool) = true) (h3 : (decide (t ≤ (100000000 : Int)) == true : Bool) = true) (h4 : (decide (t ≤ (100000000 : Int)) : Bool) = true) (h5 : (decide (t < wrapF IntKind.i64 (x + (691200 : Int))) : Bool) = true) (h6 : COut E 0 [] 47 [(.e (.one (.dp (.s (C) (n) 9)))), (iI (t))] (iB (w)) []) (h8 : (!w : Bool) = false) (h9 : ((iI (wrapF IntKind.i64 (t + (1 : Int)))) : AV) = (iI (u))) {Φ : Res → Prop} (ho : ∀ j, OutK E 0 0 (p48i_end z C n i k x q s e t u y r v d0 d1 d2 d3 d4 d5 d6 w f l j) Φ) (j : Nat → Value) : OutK E 0 0 (r48o z C n i k x q s e t u y r v d0 d1 d2 d3 d4 d5 d6 w f l j) Φ :=
 oS hE [.run 2, (.ops [(7, (.pk true))] [(3, true), (4, true), (5, true), (6, true)]), (.cond true), .run 4, (.ops [(2, (.c0 (iB (w))))] []), (.cond false), .run 2, (.ops [(1, (.rn (iI (u))))] []), .run 5] [0, 1, 6, 7, 8] (aP h0 <| aP h1 <| aP h2 <| aP h3 <| aP h4 <| aP h5 <| aP h6 <| aN <| aP h8 <| aP h9 <| aZ)
  ho
def p48n_end (_z : Nat → Value) (C : List DT) (n i _k : Nat) (x _q _s _e t _u _y r _v : Int) (_d0 _d1 _d2 _d3 _d4 _d5 _d6 _w : Bool) (_f _l : Int) (j : Nat → Value) : St := ⟨[], [(.code (atC [1, 0, 1, 0, 0, 1, 0, 1, 1, 0, 1, 0, 0] (bodyOf Tryz.f48))), (.inLoop (atC [1, 0, 1, 0, 0, 1, 0, 1, 1, 0, 1, 0, 0] (bodyOf Tryz.f48))), (.inBlock 2), (.code (atC [1, 0, 1, 0, 0, 1, 0, 1, 1, 1] (bodyOf Tryz.f48))), (.inBlock 1), (.inLoop (atC [1, 0, 1, 0, 0] (bodyOf Tryz.f48))), (.inBlock 0), (.code (atC [1, 1] (bodyOf Tryz.f48)))], mkT j [(0, (.e (.one (.dp (.s (C) (n) 9))))), (1, (iI (x))), (6, (iI (t))), (7, (iI (r))), (8, (iI (Int.ofNat (i + 1))))] 69 0⟩
theorem p48n (hE : EnvOk E) (z : Nat → Value) (C : List DT) (n i k : Nat) (x q s e t u y r v : Int) (d0 d1 d2 d3 d4 d5 d6 w : Bool) (f l : Int) (h0 : (decide (Int.ofNat i < (↑n : Int)) : Bool) = true) (h1 : (0 : Int) ≤ Int.ofNat i ∧ Int.ofNat i < (↑n : Int)) (h2 : ((Int.ofNat i).toNat * nat_lit 9 : Nat) = i.mul (nat_lit 9)) (h3 : (getL C (i.mul (nat_lit 9) + 7 + 1) : Option DT) = (.some (.v (.int .i64 (l))))) (h4 : ((iI (wrapF IntKind.i64 (wrapF IntKind.i64 (wrapF IntKind.i64 (t.tdiv (86400 : Int)) * (86400 : Int)) + l))) : AV) = (iI (e))) (h5 : ((iI ((wrapF IntKind.i64 (t.tdiv (86400 : Int))).tmod (7 : Int))) : AV) = (iI (Int.ofNat k))) (h6 : (0 : Int) ≤ Int.ofNat i ∧ Int.ofNat i < (↑n : Int)) (h7 : ((Int.ofNat i).toNat * nat_lit 9 : Nat) = i.mul (nat_lit 9)) (h8 : (0 : Int) ≤ Int.ofNat k ∧ Int.ofNat k < (↑(7 : Nat) : Int)) (h9 : (i.mul (nat_lit 9) + 0 + (Int.ofNat k).toNat * 1 : Nat) = i.mul (9 : Nat) + k) (h10 : (getL C (i.mul (9 : Nat) + k) : Option DT) = (.some (.v (.bool (w))))) (h11 : (w == true : Bool) = false) (h12 : (w == true : Bool) = false) (h13 : (w == true : Bool) = false) (h14 : (w == true : Bool) = false) (h15 : (w == true : Bool) = false) (h16 : (w == true : Bool) = false) (h17 : (w == true : Bool) = false) (h18 : (w == true : Bool) = false) (h19 : (w == true : Bool) = false) (h20 : (w : Bool) = false) (h21 : ((iI (wrapF IntKind.i64 (Int.ofNat i + (1 : Int)))) : AV) = (iI (Int.ofNat (i + 1)))) {Φ : Res → Prop} (ho : ∀ j, OutK E 0 0 (p48n_end z C n i k x q s e t u y r v d0 d1 d2 d3 d4 d5 d6 w f l j) Φ) (j : Nat → Value) : OutK E 0 0 (r48i z C n i k x q s e t u y r v d0 d1 d2 d3 d4 d5 d6 w f l j) Φ :=
 oS hE [.run 2, (.ops [(2, (.d .len))] []), (.cond true), .run 4, (.ops [(8, (.d (.ld (.v (.int .i64 (l)))))), (9, (.rn (iI (e)))), (5, (.d (.ix (i.mul (nat_lit 9))))), (6, (.d .fa)), (7, (.d .fa))] []), .run 1, (.ops [(4, (.rn (iI (Int.ofNat k)))), (7, (.d (.ia (i.mul (9 : Nat) + k)))), (8, (.d (.ld (.v (.bool (w)))))), (5, (.d (.ix (i.mul (nat_lit 9))))), (6, (.d .fa)), (19, (.pk false))] [(10, false), (11, false), (12, false), (13, false), (14, false), (15, false), (16, false), (17, false), (18, false)]), .run 3, (.ops [(1, (.rn (iI (Int.ofNat (i + 1)))))] []), .run 1] [0, 1, 6, 7, 8] (aP h0 <| aP h1 <| aP h2 <| aP h3 <| aP h4 <| aP h5 <| aP h6 <| aP h7 <| aP h8 <| aP h9 <| aP h10 <| aP h11 <| aP h12 <| aP h13 <| aP h14 <| aP h15 <| aP h16 <| aP h17 <| aP h18 <| aP h19 <| aP h20 <| aP h21 <| aZ)
  ho
def p48m_end (_z : Nat → Value) (C : List DT) (n i _k : Nat) (x _q _s _e t _u _y r _v : Int) (_d0 _d1 _d2 _d3 _d4 _d5 _d6 _w : Bool) (_f _l : Int) (j : Nat → Value) : St := ⟨[], [(.code (atC [1, 0, 1, 0, 0, 1, 0, 1, 1, 0, 1, 0, 0] (bodyOf Tryz.f48))), (.inLoop (atC [1, 0, 1, 0, 0, 1, 0, 1, 1, 0, 1, 0, 0] (bodyOf Tryz.f48))), (.inBlock 2), (.code (atC [1, 0, 1, 0, 0, 1, 0, 1, 1, 1] (bodyOf Tryz.f48))), (.inBlock 1), (.inLoop (atC [1, 0, 1, 0, 0] (bodyOf Tryz.f48))), (.inBlock 0), (.code (atC [1, 1] (bodyOf Tryz.f48)))], mkT j [(0, (.e (.one (.dp (.s (C) (n) 9))))), (1, (iI (x))), (6, (iI (t))), (7, (iI (r))), (8, (iI (Int.ofNat (i + 1))))] 69 0⟩
theorem p48m (hE : EnvOk E) (z : Nat → Value) (C : List DT) (n i k : Nat) (x q s e t u y r v : Int) (d0 d1 d2 d3 d4 d5 d6 w : Bool) (f l : Int) (h0 : (decide (Int.ofNat i < (↑n : Int)) : Bool) = true) (h1 : (0 : Int) ≤ Int.ofNat i ∧ Int.ofNat i < (↑n : Int)) (h2 : ((Int.ofNat i).toNat * nat_lit 9 : Nat) = i.mul (nat_lit 9)) (h3 : (getL C (i.mul (nat_lit 9) + 7 + 1) : Option DT) = (.some (.v (.int .i64 (l))))) (h4 : ((iI (wrapF IntKind.i64 (wrapF IntKind.i64 (wrapF IntKind.i64 (t.tdiv (86400 : Int)) * (86400 : Int)) + l))) : AV) = (iI (e))) (h5 : ((iI ((wrapF IntKind.i64 (t.tdiv (86400 : Int))).tmod (7 : Int))) : AV) = (iI (Int.ofNat k))) (h6 : (0 : Int) ≤ Int.ofNat i ∧ Int.ofNat i < (↑n : Int)) (h7 : ((Int.ofNat i).toNat * nat_lit 9 : Nat) = i.mul (nat_lit 9)) (h8 : (0 : Int) ≤ Int.ofNat k ∧ Int.ofNat k < (↑(7 : Nat) : Int)) (h9 : (i.mul (nat_lit 9) + 0 + (Int.ofNat k).toNat * 1 : Nat) = i.mul (9 : Nat) + k) (h10 : (getL C (i.mul (9 : Nat) + k) : Option DT) = (.some (.v (.bool (w))))) (h11 : (w == true : Bool) = true) (h12 : (w == true : Bool) = true) (h13 : ((iI (t.tmod (86400 : Int))) : AV) = (iI (s))) (h14 : (w == true : Bool) = true) (h15 : (w == true : Bool) = true) (h16 : (w == true : Bool) = true) (h17 : (0 : Int) ≤ Int.ofNat i ∧ Int.ofNat i < (↑n : Int)) (h18 : ((Int.ofNat i).toNat * nat_lit 9 : Nat) = i.mul (nat_lit 9)) (h19 : (w == true : Bool) = true) (h20 : (w == true : Bool) = true) (h21 : (w == true : Bool) = true) (h22 : (getL C (i.mul (nat_lit 9) + 7 + 0) : Option DT) = (.some (.v (.int .i64 (f))))) (h23 : (w == true : Bool) = true) (h24 : (w : Bool) = true) (h25 : (decide (s ≥ f) == true : Bool) = false) (h26 : (decide (s ≥ f) == true : Bool) = false) (h27 : (decide (s ≥ f) == true : Bool) = false) (h28 : (decide (s ≥ f) : Bool) = false) (h29 : ((iI (wrapF IntKind.i64 (Int.ofNat i + (1 : Int)))) : AV) = (iI (Int.ofNat (i + 1)))) {Φ : Res → Prop} (ho : ∀ j, OutK E 0 0 (p48m_end z C n i k x q s e t u y r v d0 d1 d2 d3 d4 d5 d6 w f l j) Φ) (j : Nat → Value) : OutK E 0 0 (r48i z C n i k x q s e t u y r v d0 d1 d2 d3 d4 d5 d6 w f l j) Φ :=
 oS hE [.run 2, (.ops [(2, (.d .len))] []), (.cond true), .run 4, (.ops [(8, (.d (.ld (.v (.int .i64 (l)))))), (9, (.rn (iI (e)))), (5, (.d (.ix (i.mul (nat_lit 9))))), (6, (.d .fa)), (7, (.d .fa))] []), .run 1, (.ops [(4, (.rn (iI (Int.ofNat k)))), (7, (.d (.ia (i.mul (9 : Nat) + k)))), (8, (.d (.ld (.v (.bool (w)))))), (11, (.rn (iI (s)))), (17, (.d (.ld (.v (.int .i64 (f)))))), (5, (.d (.ix (i.mul (nat_lit 9))))), (6, (.d .fa)), (14, (.d (.ix (i.mul (nat_lit 9))))), (15, (.d .fa)), (16, (.d .fa)), (19, (.pk true)), (24, (.pk false))] [(10, true), (11, true), (12, true), (13, true), (14, true), (15, true), (16, true), (17, true), (18, true), (21, false), (22, false), (23, false)]), .run 3, (.ops [(1, (.rn (iI (Int.ofNat (i + 1)))))] []), .run 1] [0, 1, 6, 7, 8] (aP h0 <| aP h1 <| aP h2 <| aP h3 <| aP h4 <| aP h5 <| aP h6 <| aP h7 <| aP h8 <| aP h9 <| aP h10 <| aP h11 <| aP h12 <| aP h13 <| aP h14 <| aP h15 <| aP h16 <| aP h17 <| aP h18 <| aP h19 <| aP h20 <| aP h21 <| aP h22 <| aP h23 <| aP h24 <| aP h25 <| aP h26 <| aP h27 <| aP h28 <| aP h29 <| aZ)
  ho
def p48o_end (_z : Nat → Value) (C : List DT) (n i _k : Nat) (x _q _s _e t _u _y r _v : Int) (_d0 _d1 _d2 _d3 _d4 _d5 _d6 _w : Bool) (_f _l : Int) (j : Nat → Value) : St := ⟨[], [(.code (atC [1, 0, 1, 0, 0, 1, 0, 1, 1, 0, 1, 0, 0] (bodyOf Tryz.f48))), (.inLoop (atC [1, 0, 1, 0, 0, 1, 0, 1, 1, 0, 1, 0, 0] (bodyOf Tryz.f48))), (.inBlock 2), (.code (atC [1, 0, 1, 0, 0, 1, 0, 1, 1, 1] (bodyOf Tryz.f48))), (.inBlock 1), (.inLoop (atC [1, 0, 1, 0, 0] (bodyOf Tryz.f48))), (.inBlock 0), (.code (atC [1, 1] (bodyOf Tryz.f48)))], mkT j [(0, (.e (.one (.dp (.s (C) (n) 9))))), (1, (iI (x))), (6, (iI (t))), (7, (iI (r))), (8, (iI (Int.ofNat (i + 1))))] 69 0⟩
theorem p48o (hE : EnvOk E) (z : Nat → Value) (C : List DT) (n i k : Nat) (x q s e t u y r v : Int) (d0 d1 d2 d3 d4 d5 d6 w : Bool) (f l : Int) (h0 : (decide (Int.ofNat i < (↑n : Int)) : Bool) = true) (h1 : (0 : Int) ≤ Int.ofNat i ∧ Int.ofNat i < (↑n : Int)) (h2 : ((Int.ofNat i).toNat * nat_lit 9 : Nat) = i.mul (nat_lit 9)) (h3 : (getL C (i.mul (nat_lit 9) + 7 + 1) : Option DT) = (.some (.v (.int .i64 (l))))) (h4 : ((iI (wrapF IntKind.i64 (wrapF IntKind.i64 (wrapF IntKind.i64 (t.tdiv (86400 : Int)) * (86400 : Int)) + l))) : AV) = (iI (e))) (h5 : ((iI ((wrapF IntKind.i64 (t.tdiv (86400 : Int))).tmod (7 : Int))) : AV) = (iI (Int.ofNat k))) (h6 : (0 : Int) ≤ Int.ofNat i ∧ Int.ofNat i < (↑n : Int)) (h7 : ((Int.ofNat i).toNat * nat_lit 9 : Nat) = i.mul (nat_lit 9)) (h8 : (0 : Int) ≤ Int.ofNat k ∧ Int.ofNat k < (↑(7 : Nat) : Int)) (h9 : (i.mul (nat_lit 9) + 0 + (Int.ofNat k).toNat * 1 : Nat) = i.mul (9 : Nat) + k) (h10 : (getL C (i.mul (9 : Nat) + k) : Option DT) = (.some (.v (.bool (w))))) (h11 : (w == true : Bool) = true) (h12 : (w == true : Bool) = true) (h13 : ((iI (t.tmod (86400 : Int))) : AV) = (iI (s))) (h14 : (w == true : Bool) = true) (h15 : (w == true : Bool) = true) (h16 : (w == true : Bool) = true) (h17 : (0 : Int) ≤ Int.ofNat i ∧ Int.ofNat i < (↑n : Int)) (h18 : ((Int.ofNat i).toNat * nat_lit 9 : Nat) = i.mul (nat_lit 9)) (h19 : (w == true : Bool) = true) (h20 : (w == true : Bool) = true) (h21 : (w == true : Bool) = true) (h22 : (getL C (i.mul (nat_lit 9) + 7 + 0) : Option DT) = (.some (.v (.int .i64 (f))))) (h23 : (w == true : Bool) = true) (h24 : (w : Bool) = true) (h25 : (decide (s ≥ f) == true : Bool) = true) (h26 : (decide (s ≥ f) == true : Bool) = true) (h27 : (decide (s ≥ f) == true : Bool) = true) (h28 : (decide (s ≥ f) : Bool) = true) (h29 : (decide (e > r) : Bool) = false) (h30 : ((iI (wrapF IntKind.i64 (Int.ofNat i + (1 : Int)))) : AV) = (iI (Int.ofNat (i + 1)))) {Φ : Res → Prop} (ho : ∀ j, OutK E 0 0 (p48o_end z C n i k x q s e t u y r v d0 d1 d2 d3 d4 d5 d6 w f l j) Φ) (j : Nat → Value) : OutK E 0 0 (r48i z C n i k x q s e t u y r v d0 d1 d2 d3 d4 d5 d6 w f l j) Φ :=
 oS hE [.run 2, (.ops [(2, (.d .len))] []), (.cond true), .run 4, (.ops [(8, (.d (.ld (.v (.int .i64 (l)))))), (9, (.rn (iI (e)))), (5, (.d (.ix (i.mul (nat_lit 9))))), (6, (.d .fa)), (7, (.d .fa))] []), .run 1, (.ops [(4, (.rn (iI (Int.ofNat k)))), (7, (.d (.ia (i.mul (9 : Nat) + k)))), (8, (.d (.ld (.v (.bool (w)))))), (11, (.rn (iI (s)))), (17, (.d (.ld (.v (.int .i64 (f)))))), (5, (.d (.ix (i.mul (nat_lit 9))))), (6, (.d .fa)), (14, (.d (.ix (i.mul (nat_lit 9))))), (15, (.d .fa)), (16, (.d .fa)), (19, (.pk true)), (24, (.pk true))] [(10, true), (11, true), (12, true), (13, true), (14, true), (15, true), (16, true), (17, true), (18, true), (21, true), (22, true), (23, true)]), (.cond false), .run 2, (.ops [(1, (.rn (iI (Int.ofNat (i + 1)))))] []), .run 1] [0, 1, 6, 7, 8] (aP h0 <| aP h1 <| aP h2 <| aP h3 <| aP h4 <| aP h5 <| aP h6 <| aP h7 <| aP h8 <| aP h9 <| aP h10 <| aP h11 <| aP h12 <| aP h13 <| aP h14 <| aP h15 <| aP h16 <| aP h17 <| aP h18 <| aP h19 <| aP h20 <| aP h21 <| aP h22 <| aP h23 <| aP h24 <| aP h25 <| aP h26 <| aP h27 <| aP h28 <| aP h29 <| aP h30 <| aZ)
  ho
def p48e_end (_z : Nat → Value) (C : List DT) (n i _k : Nat) (x _q _s e t _u _y _r _v : Int) (_d0 _d1 _d2 _d3 _d4 _d5 _d6 _w : Bool) (_f _l : Int) (j : Nat → Value) : St := ⟨[], [(.code (atC [1, 0, 1, 0, 0, 1, 0, 1, 1, 0, 1, 0, 0] (bodyOf Tryz.f48))), (.inLoop (atC [1, 0, 1, 0, 0, 1, 0, 1, 1, 0, 1, 0, 0] (bodyOf Tryz.f48))), (.inBlock 2), (.code (atC [1, 0, 1, 0, 0, 1, 0, 1, 1, 1] (bodyOf Tryz.f48))), (.inBlock 1), (.inLoop (atC [1, 0, 1, 0, 0] (bodyOf Tryz.f48))), (.inBlock 0), (.code (atC [1, 1] (bodyOf Tryz.f48)))], mkT j [(0, (.e (.one (.dp (.s (C) (n) 9))))), (1, (iI (x))), (6, (iI (t))), (7, (iI (e))), (8, (iI (Int.ofNat (i + 1))))] 69 0⟩
theorem p48e (hE : EnvOk E) (z : Nat → Value) (C : List DT) (n i k : Nat) (x q s e t u y r v : Int) (d0 d1 d2 d3 d4 d5 d6 w : Bool) (f l : Int) (h0 : (decide (Int.ofNat i < (↑n : Int)) : Bool) = true) (h1 : (0 : Int) ≤ Int.ofNat i ∧ Int.ofNat i < (↑n : Int)) (h2 : ((Int.ofNat i).toNat * nat_lit 9 : Nat) = i.mul (nat_lit 9)) (h3 : (getL C (i.mul (nat_lit 9) + 7 + 1) : Option DT) = (.some (.v (.int .i64 (l))))) (h4 : ((iI (wrapF IntKind.i64 (wrapF IntKind.i64 (wrapF IntKind.i64 (t.tdiv (86400 : Int)) * (86400 : Int)) + l))) : AV) = (iI (e))) (h5 : ((iI ((wrapF IntKind.i64 (t.tdiv (86400 : Int))).tmod (7 : Int))) : AV) = (iI (Int.ofNat k))) (h6 : (0 : Int) ≤ Int.ofNat i ∧ Int.ofNat i < (↑n : Int)) (h7 : ((Int.ofNat i).toNat * nat_lit 9 : Nat) = i.mul (nat_lit 9)) (h8 : (0 : Int) ≤ Int.ofNat k ∧ Int.ofNat k < (↑(7 : Nat) : Int)) (h9 : (i.mul (nat_lit 9) + 0 + (Int.ofNat k).toNat * 1 : Nat) = i.mul (9 : Nat) + k) (h10 : (getL C (i.mul (9 : Nat) + k) : Option DT) = (.some (.v (.bool (w))))) (h11 : (w == true : Bool) = true) (h12 : (w == true : Bool) = true) (h13 : ((iI (t.tmod (86400 : Int))) : AV) = (iI (s))) (h14 : (w == true : Bool) = true) (h15 : (w == true : Bool) = true) (h16 : (w == true : Bool) = true) (h17 : (0 : Int) ≤ Int.ofNat i ∧ Int.ofNat i < (↑n : Int)) (h18 : ((Int.ofNat i).toNat * nat_lit 9 : Nat) = i.mul (nat_lit 9)) (h19 : (w == true : Bool) = true) (h20 : (w == true : Bool) = true) (h21 : (w == true : Bool) = true) (h22 : (getL C (i.mul (nat_lit 9) + 7 + 0) : Option DT) = (.some (.v (.int .i64 (f))))) (h23 : (w == true : Bool) = true) (h24 : (w : Bool) = true) (h25 : (decide (s ≥ f) == true : Bool) = true) (h26 : (decide (s ≥ f) == true : Bool) = true) (h27 : (decide (s ≥ f) == true : Bool) = true) (h28 : (decide (s ≥ f) : Bool) = true) (h29 : (decide (e > r) : Bool) = true) (h30 : ((iI (wrapF IntKind.i64 (Int.ofNat i + (1 : Int)))) : AV) = (iI (Int.ofNat (i + 1)))) {Φ : Res → Prop} (ho : ∀ j, OutK E 0 0 (p48e_end z C n i k x q s e t u y r v d0 d1 d2 d3 d4 d5 d6 w f l j) Φ) (j : Nat → Value) : OutK E 0 0 (r48i z C n i k x q s e t u y r v d0 d1 d2 d3 d4 d5 d6 w f l j) Φ :=
 oS hE [.run 2, (.ops [(2, (.d .len))] []), (.cond true), .run 4, (.ops [(8, (.d (.ld (.v (.int .i64 (l)))))), (9, (.rn (iI (e)))), (5, (.d (.ix (i.mul (nat_lit 9))))), (6, (.d .fa)), (7, (.d .fa))] []), .run 1, (.ops [(4, (.rn (iI (Int.ofNat k)))), (7, (.d (.ia (i.mul (9 : Nat) + k)))), (8, (.d (.ld (.v (.bool (w)))))), (11, (.rn (iI (s)))), (17, (.d (.ld (.v (.int .i64 (f)))))), (5, (.d (.ix (i.mul (nat_lit 9))))), (6, (.d .fa)), (14, (.d (.ix (i.mul (nat_lit 9))))), (15, (.d .fa)), (16, (.d .fa)), (19, (.pk true)), (24, (.pk true))] [(10, true), (11, true), (12, true), (13, true), (14, true), (15, true), (16, true), (17, true), (18, true), (21, true), (22, true), (23, true)]), (.cond true), .run 2, (.ops [(1, (.rn (iI (Int.ofNat (i + 1)))))] []), .run 1] [0, 1, 6, 7, 8] (aP h0 <| aP h1 <| aP h2 <| aP h3 <| aP h4 <| aP h5 <| aP h6 <| aP h7 <| aP h8 <| aP h9 <| aP h10 <| aP h11 <| aP h12 <| aP h13 <| aP h14 <| aP h15 <| aP h16 <| aP h17 <| aP h18 <| aP h19 <| aP h20 <| aP h21 <| aP h22 <| aP h23 <| aP h24 <| aP h25 <| aP h26 <| aP h27 <| aP h28 <| aP h29 <| aP h30 <| aZ)
  ho
def p48z_end (_z : Nat → Value) (C : List DT) (n _i _k : Nat) (x _q _s _e _t _u _y r _v : Int) (_d0 _d1 _d2 _d3 _d4 _d5 _d6 _w : Bool) (_f _l : Int) (j : Nat → Value) : St := ⟨[], [(.code (atC [1, 0, 1, 0, 0] (bodyOf Tryz.f48))), (.inLoop (atC [1, 0, 1, 0, 0] (bodyOf Tryz.f48))), (.inBlock 0), (.code (atC [1, 1] (bodyOf Tryz.f48)))], mkT j [(0, (.e (.one (.dp (.s (C) (n) 9))))), (1, (iI (x))), (6, (iI (r)))] 69 0⟩
theorem p48z (hE : EnvOk E) (z : Nat → Value) (C : List DT) (n i k : Nat) (x q s e t u y r v : Int) (d0 d1 d2 d3 d4 d5 d6 w : Bool) (f l : Int) (h0 : (decide (Int.ofNat i < (↑n : Int)) : Bool) = false) {Φ : Res → Prop} (ho : ∀ j, OutK E 0 0 (p48z_end z C n i k x q s e t u y r v d0 d1 d2 d3 d4 d5 d6 w f l j) Φ) (j : Nat → Value) : OutK E 0 0 (r48i z C n i k x q s e t u y r v d0 d1 d2 d3 d4 d5 d6 w f l j) Φ :=
 oS hE [.run 2, (.ops [(2, (.d .len))] []), (.cond false), .run 4] [0, 1, 6] (aP h0 <| aZ)
  ho
def p41e_end (_z : Nat → Value) (_C : List DT) (_n _i _k : Nat) (_x q _s _e _t _u _y _r _v : Int) (_d0 _d1 _d2 _d3 _d4 _d5 _d6 _w : Bool) (_f _l : Int) (j : Nat → Value) : St := ⟨[], [(.code .ret), (.code (atC [1, 1] (bodyOf Tryz.f41)))], mkT j [(4, (iB false)), (5, (iI (q)))] 19 0⟩
theorem p41e (hE : EnvOk E) (z : Nat → Value) (C : List DT) (n i k : Nat) (x q s e t u y r v : Int) (d0 d1 d2 d3 d4 d5 d6 w : Bool) (f l : Int) (h0 : COut E 0 [] 50 [(.e (.one (.dp (.s (C) (n) 9))))] (iI (e)) []) (h2 : COut E 0 [] 106 [(iI (t))] (iI (s)) []) (h4 : COut E 1 [(bK [(.v (.int .i64 (e))), (.v (.int .i64 (s)))] 2 30)] 76 [(.e (.one (.slc 0 0 2 1 2 true)))] (iI (q)) [(bK [(.v (.int .i64 (e))), (.v (.int .i64 (s)))] 2 30)]) (h6 : (q != (0 : Int) : Bool) = true) {Φ : Res → Prop} (ho : ∀ j, OutK E 0 0 (p41e_end z C n i k x q s e t u y r v d0 d1 d2 d3 d4 d5 d6 w f l j) Φ) (j : Nat → Value) : OutK E 0 0 (h41 z C n i k x q s e t u y r v d0 d1 d2 d3 d4 d5 d6 w f l j) Φ :=
 oS hE [.run 4, (.ops [(1, (.c0 (iI (e)))), (3, (.c0 (iI (s)))), (5, (.d (.c1 (iI (q)))))] []), .run 2, (.cond true), .run 2] [4, 5] (s' := fun j => ⟨[(bK [(.v (.int .i64 (e))), (.v (.int .i64 (s)))] 2 30)], [(.code .ret), (.code (atC [1, 1] (bodyOf Tryz.f41)))], mkT j [(4, (iB false)), (5, (iI (q)))] 19 0⟩) (aP h0 <| aN <| aP h2 <| aN <| aP h4 <| aN <| aP h6 <| aZ)
  fun j => gZ [] (ho j)
def p41_end (_z : Nat → Value) (_C : List DT) (_n _i _k : Nat) (_x _q _s _e _t _u _y _r _v : Int) (_d0 _d1 _d2 _d3 _d4 _d5 _d6 w : Bool) (_f _l : Int) (j : Nat → Value) : St := ⟨[], [(.code .ret)], mkT j [(4, (iB (w))), (5, (iI 0))] 19 0⟩
theorem p41 (hE : EnvOk E) (z : Nat → Value) (C : List DT) (n i k : Nat) (x q s e t u y r v : Int) (d0 d1 d2 d3 d4 d5 d6 w : Bool) (f l : Int) (h0 : COut E 0 [] 50 [(.e (.one (.dp (.s (C) (n) 9))))] (iI (e)) []) (h2 : COut E 0 [] 106 [(iI (t))] (iI (s)) []) (h4 : COut E 1 [(bK [(.v (.int .i64 (e))), (.v (.int .i64 (s)))] 2 30)] 76 [(.e (.one (.slc 0 0 2 1 2 true)))] (iI (q)) [(bK [(.v (.int .i64 (e))), (.v (.int .i64 (s)))] 2 30)]) (h6 : (q != (0 : Int) : Bool) = false) (h7 : COut E 0 [] 107 [(.e (.one (.dp (.s (C) (n) 9)))), (iI (t))] (iB (w)) []) {Φ : Res → Prop} (ho : ∀ j, OutK E 0 0 (p41_end z C n i k x q s e t u y r v d0 d1 d2 d3 d4 d5 d6 w f l j) Φ) (j : Nat → Value) : OutK E 0 0 (h41 z C n i k x q s e t u y r v d0 d1 d2 d3 d4 d5 d6 w f l j) Φ :=
 oS hE [.run 4, (.ops [(1, (.c0 (iI (e)))), (3, (.c0 (iI (s)))), (5, (.d (.c1 (iI (q)))))] []), .run 2, (.cond false), .run 2, (.ops [(2, (.c0 (iB (w))))] [])] [4, 5] (s' := fun j => ⟨[(bK [(.v (.int .i64 (e))), (.v (.int .i64 (s)))] 2 30)], [(.code .ret)], mkT j [(4, (iB (w))), (5, (iI 0))] 19 0⟩) (aP h0 <| aN <| aP h2 <| aN <| aP h4 <| aN <| aP h6 <| aP h7 <| aN <| aZ)
  fun j => gZ [] (ho j)
def p43e_end (_z : Nat → Value) (_C : List DT) (_n _i _k : Nat) (_x q _s _e _t _u _y _r _v : Int) (_d0 _d1 _d2 _d3 _d4 _d5 _d6 _w : Bool) (_f _l : Int) (j : Nat → Value) : St := ⟨[], [(.code .ret), (.code (atC [1, 1] (bodyOf Tryz.f43)))], mkT j [(4, (iI 0)), (5, (iI (q)))] 21 0⟩
theorem p43e (hE : EnvOk E) (z : Nat → Value) (C : List DT) (n i k : Nat) (x q s e t u y r v : Int) (d0 d1 d2 d3 d4 d5 d6 w : Bool) (f l : Int) (h0 : COut E 0 [] 50 [(.e (.one (.dp (.s (C) (n) 9))))] (iI (e)) []) (h2 : COut E 0 [] 106 [(iI (t))] (iI (s)) []) (h4 : COut E 1 [(bK [(.v (.int .i64 (e))), (.v (.int .i64 (s)))] 2 30)] 76 [(.e (.one (.slc 0 0 2 1 2 true)))] (iI (q)) [(bK [(.v (.int .i64 (e))), (.v (.int .i64 (s)))] 2 30)]) (h6 : (q != (0 : Int) : Bool) = true) {Φ : Res → Prop} (ho : ∀ j, OutK E 0 0 (p43e_end z C n i k x q s e t u y r v d0 d1 d2 d3 d4 d5 d6 w f l j) Φ) (j : Nat → Value) : OutK E 0 0 (h43 z C n i k x q s e t u y r v d0 d1 d2 d3 d4 d5 d6 w f l j) Φ :=
 oS hE [.run 4, (.ops [(1, (.c0 (iI (e)))), (3, (.c0 (iI (s)))), (5, (.d (.c1 (iI (q)))))] []), .run 2, (.cond true), .run 2] [4, 5] (s' := fun j => ⟨[(bK [(.v (.int .i64 (e))), (.v (.int .i64 (s)))] 2 30)], [(.code .ret), (.code (atC [1, 1] (bodyOf Tryz.f43)))], mkT j [(4, (iI 0)), (5, (iI (q)))] 21 0⟩) (aP h0 <| aN <| aP h2 <| aN <| aP h4 <| aN <| aP h6 <| aZ)
  fun j => gZ [] (ho j)
def p43_end (_z : Nat → Value) (_C : List DT) (_n _i _k : Nat) (_x _q _s _e _t _u _y r v : Int) (_d0 _d1 _d2 _d3 _d4 _d5 _d6 _w : Bool) (_f _l : Int) (j : Nat → Value) : St := ⟨[], [(.code .ret)], mkT j [(4, (iI (r))), (5, (iI (v)))] 21 0⟩
theorem p43 (hE : EnvOk E) (z : Nat → Value) (C : List DT) (n i k : Nat) (x q s e t u y r v : Int) (d0 d1 d2 d3 d4 d5 d6 w : Bool) (f l : Int) (h0 : COut E 0 [] 50 [(.e (.one (.dp (.s (C) (n) 9))))] (iI (e)) []) (h2 : COut E 0 [] 106 [(iI (t))] (iI (s)) []) (h4 : COut E 1 [(bK [(.v (.int .i64 (e))), (.v (.int .i64 (s)))] 2 30)] 76 [(.e (.one (.slc 0 0 2 1 2 true)))] (iI (q)) [(bK [(.v (.int .i64 (e))), (.v (.int .i64 (s)))] 2 30)]) (h6 : (q != (0 : Int) : Bool) = false) (h7 : COut E 0 [] 108 [(.e (.one (.dp (.s (C) (n) 9)))), (iI (t))] (.tup [(.one (.v (.int .i64 (r)))), (.one (.v (.int .i64 (v))))]) []) {Φ : Res → Prop} (ho : ∀ j, OutK E 0 0 (p43_end z C n i k x q s e t u y r v d0 d1 d2 d3 d4 d5 d6 w f l j) Φ) (j : Nat → Value) : OutK E 0 0 (h43 z C n i k x q s e t u y r v d0 d1 d2 d3 d4 d5 d6 w f l j) Φ :=
 oS hE [.run 4, (.ops [(1, (.c0 (iI (e)))), (3, (.c0 (iI (s)))), (5, (.d (.c1 (iI (q)))))] []), .run 2, (.cond false), .run 2, (.ops [(2, (.c0 (.tup [(.one (.v (.int .i64 (r)))), (.one (.v (.int .i64 (v))))])))] [])] [4, 5] (s' := fun j => ⟨[(bK [(.v (.int .i64 (e))), (.v (.int .i64 (s)))] 2 30)], [(.code .ret)], mkT j [(4, (iI (r))), (5, (iI (v)))] 21 0⟩) (aP h0 <| aN <| aP h2 <| aN <| aP h4 <| aN <| aP h6 <| aP h7 <| aN <| aZ)
  fun j => gZ [] (ho j)
theorem l166 (hE : EnvOk E) (L : List Hr) (t : Int) (ht : 0 ≤ t ∧ t ≤ 100000000) (hm : L.length ≤ 100000) : ∀ (k i : Nat), k + i = L.length → ∀ e : Int, secO t < e → e ≤ 86400 → ∀ j, OutK E 0 0 (r166 (fun _ => undef) (hrD L) (L.length) (i) 0 0 0 (secO t) (e) (t) 0 0 0 0 false false false false false false false false 0 0 j) (Go.Ev.Ends E Tryz.f166 (iI (t - secO t + enR (secO t) (L.drop i) e)) [])
 | 0, i, hk, e, h0, h1, j => by
  have hs := @secO_b t
  rw [List.drop_eq_nil_of_le (by omega)]
  exact p166x hE (fun _ => undef) (hrD L) (L.length) (i) 0 0 0 (secO t) (e) (t) 0 0 (t - secO t + e) 0 false false false false false false false false 0 0 (decide_eq_false (by (try simp only [Int.ofNat_eq_natCast]); omega)) (iIe (by rw [wrap_id (n := t - secO t) (by omega) (by omega), wrap_id (by omega) (by omega)])) (fun j => outK_ret (ends_ret (by kernel_rfl))) j
 | k + 1, i, hk, e, h0, h1, j => by
  have hs := @secO_b t
  have hl : i < L.length := by omega
  have hx : L[i]? = some L[i] := List.getElem?_eq_getElem hl
  rw [List.drop_eq_getElem_cons hl]
  generalize L[i] = x at hx
  by_cases hc : x.l > secO t
  ·have ih := l166 hE L t ht hm k (i + 1) (by omega) (min e x.l) (by omega) (by omega)
   have he : enR (secO t) (x :: L.drop (i + 1)) e = enR (secO t) (L.drop (i + 1)) (min e x.l) := by
    show enR _ _ (if x.l > secO t then min e x.l else e) = _
    rw [if_pos hc]
   rw [he]
   exact p166s hE (fun _ => undef) (hrD L) (L.length) (i) 0 0 0 (secO t) (e) (t) (min e x.l) 0 0 0 (x.d0) (x.d1) (x.d2) (x.d3) (x.d4) (x.d5) (x.d6) false (x.f) (x.l) (decide_eq_true (by (try simp only [Int.ofNat_eq_natCast]); omega)) ⟨by (try simp only [Int.ofNat_eq_natCast]); omega, by (try simp only [Int.ofNat_eq_natCast]); omega⟩ rfl (hr_get hx) (decide_eq_true hc) (iIe (by split <;> omega)) (iIe (by (try simp only [Int.ofNat_eq_natCast]); rw [wrap_id (by omega) (by omega)]; try omega)) ih j
  ·have ih := l166 hE L t ht hm k (i + 1) (by omega) e h0 h1
   have he : enR (secO t) (x :: L.drop (i + 1)) e = enR (secO t) (L.drop (i + 1)) e := by
    show enR _ _ (if x.l > secO t then min e x.l else e) = _
    rw [if_neg hc]
   rw [he]
   exact p166n hE (fun _ => undef) (hrD L) (L.length) (i) 0 0 0 (secO t) (e) (t) 0 0 0 0 (x.d0) (x.d1) (x.d2) (x.d3) (x.d4) (x.d5) (x.d6) false (x.f) (x.l) (decide_eq_true (by (try simp only [Int.ofNat_eq_natCast]); omega)) ⟨by (try simp only [Int.ofNat_eq_natCast]); omega, by (try simp only [Int.ofNat_eq_natCast]); omega⟩ rfl (hr_get hx) (decide_eq_false hc) (iIe (by (try simp only [Int.ofNat_eq_natCast]); rw [wrap_id (by omega) (by omega)]; try omega)) ih j
theorem K166 (hE : EnvOk E) (L : List Hr) (t : Int) (ht : 0 ≤ t ∧ t ≤ 100000000) (hm : L.length ≤ 100000) : COut E 0 [] 166 [dHr L, iI t] (iI (nxC L t)) [] :=
 cOut_start Tryz.func166 rfl (p166a hE (fun _ => undef) (hrD L) (L.length) 0 0 0 0 (secO t) 0 (t) 0 0 0 0 false false false false false false false false 0 0 (iIe (sec_eq ht)) (l166 hE L t ht hm L.length 0 rfl 86400 secO_b.2 (Int.le_refl _)) fun _ => undef)
theorem Rt (hE : EnvOk E) (z : Nat → Value) (L : List Hr) (t : Int) (ht : 0 ≤ t ∧ t ≤ 100000000) (hm : L.length ≤ 100000) (hp : protB L t = true) : RoundK E 0 [bK [.dp (.s (hrD L) L.length 9)] 1 84, bK [.v (.int .i64 0)] 1 3, bK [.v (.int .i64 0)] 1 30, bK [.dp (.s (hrD L) L.length 9)] 1 84, bK [.v (.int .i64 t)] 1 3, some markEnt, lp108 .ready none z] 6 [iI t] (iB true) [bK [.dp (.s (hrD L) L.length 9)] 1 84, bK [.v (.int .i64 0)] 1 3, bK [.v (.int .i64 0)] 1 30, bK [.dp (.s (hrD L) L.length 9)] 1 84, bK [.v (.int .i64 t)] 1 3, some markEnt, lp108 .ready none z] := by
 refine roundK_of (a := loopEnt .ready none (T108 z) #[10] asg108 bod108) rfl rfl (by kernel_rfl) ?_
 have e : (⟨[bK [.dp (.s (hrD L) L.length 9)] 1 84, bK [.v (.int .i64 0)] 1 3, bK [.v (.int .i64 0)] 1 30, bK [.dp (.s (hrD L) L.length 9)] 1 84, bK [.v (.int .i64 t)] 1 3, some markEnt, lp108 .ready none z], [.code asg108, .beginRound, .code bod108], setParams (#[10] : Array Tmp).toList [iI t] (T108 z)⟩ : St) = sR108 (z) (hrD L) (L.length) 0 0 0 0 0 0 (t) 0 0 0 0 false false false false false false false false 0 0 (fun _ => undef) := by kernel_rfl
 rw [e]
 refine pR108 hE (z) (hrD L) (L.length) 0 0 0 0 0 0 (t) 0 0 0 0 false false false false false false false false 0 0 (fun j => ?_) _
 refine outK_begin (a := loopEnt .ready none (T108 z) #[10] asg108 bod108) rfl rfl rfl ?_
 exact pB108t hE (z) (hrD L) (L.length) 0 0 0 0 0 0 (t) 0 0 0 0 false false false false false false false (true) 0 0 (iBg (K107 hE L t ht hm) hp) (by first | rfl | omega | simp) (fun j => outK_fell ⟨rfl, _, _, _, _, _, _, _, rfl, rfl, rfl, by kernel_rfl⟩) j
theorem Rf (hE : EnvOk E) (z : Nat → Value) (L : List Hr) (t : Int) (ht : 0 ≤ t ∧ t ≤ 100000000) (hm : L.length ≤ 100000) (hp : protB L t = false) : RoundK E 0 [bK [.dp (.s (hrD L) L.length 9)] 1 84, bK [.v (.int .i64 0)] 1 3, bK [.v (.int .i64 0)] 1 30, bK [.dp (.s (hrD L) L.length 9)] 1 84, bK [.v (.int .i64 t)] 1 3, some markEnt, lp108 .ready none z] 6 [iI t] (iB false) [bK [.dp (.s (hrD L) L.length 9)] 1 84, bK [.v (.int .i64 t)] 1 3, bK [.v (.int .i64 0)] 1 30, bK [.dp (.s (hrD L) L.length 9)] 1 84, bK [.v (.int .i64 t)] 1 3, some markEnt, lp108 .done (some .ret) z] := by
 refine roundK_of (a := loopEnt .ready none (T108 z) #[10] asg108 bod108) rfl rfl (by kernel_rfl) ?_
 have e : (⟨[bK [.dp (.s (hrD L) L.length 9)] 1 84, bK [.v (.int .i64 0)] 1 3, bK [.v (.int .i64 0)] 1 30, bK [.dp (.s (hrD L) L.length 9)] 1 84, bK [.v (.int .i64 t)] 1 3, some markEnt, lp108 .ready none z], [.code asg108, .beginRound, .code bod108], setParams (#[10] : Array Tmp).toList [iI t] (T108 z)⟩ : St) = sR108 (z) (hrD L) (L.length) 0 0 0 0 0 0 (t) 0 0 0 0 false false false false false false false false 0 0 (fun _ => undef) := by kernel_rfl
 rw [e]
 refine pR108 hE (z) (hrD L) (L.length) 0 0 0 0 0 0 (t) 0 0 0 0 false false false false false false false false 0 0 (fun j => ?_) _
 refine outK_begin (a := loopEnt .ready none (T108 z) #[10] asg108 bod108) rfl rfl rfl ?_
 exact pB108f hE (z) (hrD L) (L.length) 0 0 0 0 0 0 (t) 0 0 0 0 false false false false false false false (false) 0 0 (iBg (K107 hE L t ht hm) hp) (by first | rfl | omega | simp) (fun j => outK_ret ⟨rfl, _, _, _, _, _, _, _, rfl, rfl, rfl, by kernel_rfl⟩) j
def frT (L : List Hr) : Nat → Int → Int
 | 0, t => t
 | k + 1, t => if t ≤ 100000000 then (if protB L t = true then frT L k (nxC L t) else t) else t
theorem l165 (hE : EnvOk E) (z : Nat → Value) (L : List Hr) (hm : L.length ≤ 100000) : ∀ (k : Nat) (t : Int), 0 ≤ t → 100000000 < t + k →
  (∃ r, frC L k t = some r ∧ ∀ j, OutK E 0 7 (r165 (T108 z) (#[10]) (asg108) (bod108) (hrD L) (L.length) (t) 0 0 0 j) (Go.Ev.Ends E Tryz.f165 (.tup []) [bK [.dp (.s (hrD L) L.length 9)] 1 84, bK [.v (.int .i64 r)] 1 3, bK [.v (.int .i64 0)] 1 30, bK [.dp (.s (hrD L) L.length 9)] 1 84, bK [.v (.int .i64 r)] 1 3, some markEnt, lp108 .done (some .ret) z])) ∨
  (frC L k t = none ∧ ∀ j, OutK E 0 7 (r165 (T108 z) (#[10]) (asg108) (bod108) (hrD L) (L.length) (t) 0 0 0 j) (Go.Ev.Ends E Tryz.f165 (.tup []) [bK [.dp (.s (hrD L) L.length 9)] 1 84, bK [.v (.int .i64 0)] 1 3, bK [.v (.int .i64 0)] 1 30, bK [.dp (.s (hrD L) L.length 9)] 1 84, bK [.v (.int .i64 (frT L k t))] 1 3, some markEnt, lp108 .ready none z]))
 | 0, t, h1, h2 => by
  have h0 : decide (t ≤ 100000000) = false := decide_eq_false (by omega)
  exact .inr ⟨rfl, fun j => p165x hE (T108 z) (#[10]) (asg108) (bod108) (hrD L) (L.length) (t) 0 0 0 (by rw [h0]; rfl) (by rw [h0]; rfl) (by rw [h0]; rfl) h0 (fun j => outK_fell (ends_fell (by kernel_rfl))) j⟩
 | k + 1, t, h1, h2 => by
  by_cases ht : t ≤ 100000000
  ·have h0 : decide (t ≤ 100000000) = true := decide_eq_true ht
   by_cases hp : protB L t = true
   ·have hn := @nxC_ge L t
    have e : frC L (k + 1) t = frC L k (nxC L t) := by
     show (if t ≤ 100000000 then (if protB L t = true then frC L k (nxC L t) else some t) else none) = _
     rw [if_pos ht, if_pos hp]
    rw [e]
    have st := fun {Φ} (ho : ∀ j, OutK E 0 7 (r165 (T108 z) (#[10]) (asg108) (bod108) (hrD L) (L.length) (nxC L t) 0 0 0 j) Φ) => p165s hE (T108 z) (#[10]) (asg108) (bod108) (hrD L) (L.length) (t) (nxC L t) 0 0 (by rw [h0]; rfl) (by rw [h0]; rfl) (by rw [h0]; rfl) (Rt hE z L t ⟨h1, ht⟩ hm hp) h0 (K166 hE L t ⟨h1, ht⟩ hm) ho
    have eT : frT L (k + 1) t = frT L k (nxC L t) := by
     show (if t ≤ 100000000 then (if protB L t = true then frT L k (nxC L t) else t) else t) = _
     rw [if_pos ht, if_pos hp]
    rcases l165 hE z L hm k (nxC L t) (by omega) (by omega) with ⟨r, h3, h4⟩ | ⟨h3, h4⟩
    ·exact .inl ⟨r, h3, fun j => st h4 j⟩
    ·exact .inr ⟨h3, fun j => by rw [eT]; exact st h4 j⟩
   ·have hp : protB L t = false := by simpa using hp
    refine .inl ⟨t, ?_, fun j => p165e hE (T108 z) (#[10]) (asg108) (bod108) (hrD L) (L.length) (t) 0 0 0 (by rw [h0]; rfl) (by rw [h0]; rfl) (by rw [h0]; rfl) (Rf hE z L t ⟨h1, ht⟩ hm hp) h0 (fun j => outK_fell (ends_fell (by kernel_rfl))) j⟩
    show (if t ≤ 100000000 then (if protB L t = true then frC L k (nxC L t) else some t) else none) = _
    rw [if_pos ht, if_neg (by rw [hp]; decide)]
  ·have h0 : decide (t ≤ 100000000) = false := decide_eq_false ht
   have eT : frT L (k + 1) t = t := by
    show (if t ≤ 100000000 then (if protB L t = true then frT L k (nxC L t) else t) else t) = _
    rw [if_neg ht]
   rw [eT]
   refine .inr ⟨?_, fun j => p165x hE (T108 z) (#[10]) (asg108) (bod108) (hrD L) (L.length) (t) 0 0 0 (by rw [h0]; rfl) (by rw [h0]; rfl) (by rw [h0]; rfl) h0 (fun j => outK_fell (ends_fell (by kernel_rfl))) j⟩
   show (if t ≤ 100000000 then (if protB L t = true then frC L k (nxC L t) else some t) else none) = _
   rw [if_neg ht]
def frV : Option Int → Int
 | some r => r
 | none => 0
def frE : Option Int → Int
 | some _ => 0
 | none => 7
abbrev frP (o : Option Int) : AV := .tup [.one (.v (.int .i64 (frV o))), .one (.v (.int .i64 (frE o)))]
theorem K148 (hE : EnvOk E) (L : List Hr) (t : Int) : COut E 0 [] 148 [dHr L, iI t] (.e (.one (.clo 165 [] [.one (.ptr 1 0), .one (.ptr 0 0)]))) [bK [.dp (.s (hrD L) L.length 9)] 1 84, bK [.v (.int .i64 t)] 1 3] :=
 cOut_start Tryz.func148 rfl (p148 hE (fun _ => undef) (hrD L) (L.length) 0 0 0 0 0 0 (t) 0 0 0 0 false false false false false false false false 0 0 (fun j => outK_ret (ends_ret (by kernel_rfl))) fun _ => undef)
theorem K108 (hE : EnvOk E) (L : List Hr) (t : Int) (hm : L.length ≤ 100000) (h1 : 0 ≤ t) (k : Nat) (h2 : 100000000 < t + k) : COut E 0 [] 108 [dHr L, iI t] (frP (frC L k t)) [] := by
 have h3 := fun j => l165 hE j L hm k t h1 h2
 cases hc : frC L k t with
 | some r =>
  have h4 : ∀ z j, OutK E 0 7 (r165 (T108 z) (#[10]) (asg108) (bod108) (hrD L) (L.length) (t) 0 0 0 j) (Go.Ev.Ends E Tryz.f165 (.tup []) [bK [.dp (.s (hrD L) L.length 9)] 1 84, bK [.v (.int .i64 r)] 1 3, bK [.v (.int .i64 0)] 1 30, bK [.dp (.s (hrD L) L.length 9)] 1 84, bK [.v (.int .i64 r)] 1 3, some markEnt, lp108 .done (some .ret) z]) := fun z => by
   rcases h3 z with ⟨r', h5, h6⟩ | ⟨h5, _⟩
   ·rw [hc] at h5; obtain rfl : r = r' := by simpa using h5
    exact h6
   ·rw [hc] at h5; exact absurd h5 (by simp)
  have h7 : ∀ z, COut E 0 [bK [.dp (.s (hrD L) L.length 9)] 1 84, bK [.v (.int .i64 0)] 1 3, bK [.v (.int .i64 0)] 1 30, bK [.dp (.s (hrD L) L.length 9)] 1 84, bK [.v (.int .i64 t)] 1 3, some markEnt, lp108 .ready none z] 165 [.e (.one (.yld 6)), .e (.one (.ptr 4 0)), .e (.one (.ptr 3 0))] (.tup []) [bK [.dp (.s (hrD L) L.length 9)] 1 84, bK [.v (.int .i64 r)] 1 3, bK [.v (.int .i64 0)] 1 30, bK [.dp (.s (hrD L) L.length 9)] 1 84, bK [.v (.int .i64 r)] 1 3, some markEnt, lp108 .done (some .ret) z] := fun z => cOut_start Tryz.func165 rfl (p165a hE (T108 z) (#[10]) (asg108) (bod108) (hrD L) (L.length) (t) 0 0 0 (h4 z) fun _ => undef)
  refine cOut_clear (h := [bK [.dp (.s (hrD L) L.length 9)] 1 84, bK [.v (.int .i64 r)] 1 3, bK [.v (.int .i64 0)] 1 30, bK [.dp (.s (hrD L) L.length 9)] 1 84, bK [.v (.int .i64 r)] 1 3, none]) (cOut_startM Tryz.func108 rfl (p108a hE (fun _ => undef) (hrD L) (L.length) 0 0 0 0 0 0 (t) 0 0 0 0 false false false false false false false false 0 0 (K148 hE L t) trivial trivial (fun j => ?_) fun _ => undef)) rfl
  refine (?_ : OutK E 0 0 ⟨[bK [.dp (.s (hrD L) L.length 9)] 1 84, bK [.v (.int .i64 0)] 1 3, bK [.v (.int .i64 0)] 1 30, bK [.dp (.s (hrD L) L.length 9)] 1 84, bK [.v (.int .i64 t)] 1 3], .code (.rangeFunc (.tmp 9) #[10] asg108 bod108) :: [.inBlock 0, .code (atC [1, 1] (bodyOf Tryz.f108))], T108 j⟩ _)
  refine outK_loop hE (g := 165) (v := .tup []) (h2 := [bK [.dp (.s (hrD L) L.length 9)] 1 84, bK [.v (.int .i64 r)] 1 3, bK [.v (.int .i64 0)] 1 30, bK [.dp (.s (hrD L) L.length 9)] 1 84, bK [.v (.int .i64 r)] 1 3, some markEnt, lp108 .done (some .ret) j]) (a := loopEnt .done (some .ret) (T108 j) #[10] asg108 bod108) rfl Tryz.func165 rfl rfl (h7 j) (by kernel_rfl) rfl (by intro h; cases h) ?_
  exact pE108f hE (j) (hrD L) (L.length) 0 0 0 0 0 0 (r) 0 0 0 0 false false false false false false false false 0 0 (fun j => outK_ret ⟨rfl, by kernel_rfl, by kernel_rfl⟩) j
 | none =>
  have h4 : ∀ z j, OutK E 0 7 (r165 (T108 z) (#[10]) (asg108) (bod108) (hrD L) (L.length) (t) 0 0 0 j) (Go.Ev.Ends E Tryz.f165 (.tup []) [bK [.dp (.s (hrD L) L.length 9)] 1 84, bK [.v (.int .i64 0)] 1 3, bK [.v (.int .i64 0)] 1 30, bK [.dp (.s (hrD L) L.length 9)] 1 84, bK [.v (.int .i64 (frT L k t))] 1 3, some markEnt, lp108 .ready none z]) := fun z => by
   rcases h3 z with ⟨r', h5, h6⟩ | ⟨_, h6⟩
   ·rw [hc] at h5; exact absurd h5 (by simp)
   ·exact h6
  have h7 : ∀ z, COut E 0 [bK [.dp (.s (hrD L) L.length 9)] 1 84, bK [.v (.int .i64 0)] 1 3, bK [.v (.int .i64 0)] 1 30, bK [.dp (.s (hrD L) L.length 9)] 1 84, bK [.v (.int .i64 t)] 1 3, some markEnt, lp108 .ready none z] 165 [.e (.one (.yld 6)), .e (.one (.ptr 4 0)), .e (.one (.ptr 3 0))] (.tup []) [bK [.dp (.s (hrD L) L.length 9)] 1 84, bK [.v (.int .i64 0)] 1 3, bK [.v (.int .i64 0)] 1 30, bK [.dp (.s (hrD L) L.length 9)] 1 84, bK [.v (.int .i64 (frT L k t))] 1 3, some markEnt, lp108 .ready none z] := fun z => cOut_start Tryz.func165 rfl (p165a hE (T108 z) (#[10]) (asg108) (bod108) (hrD L) (L.length) (t) 0 0 0 (h4 z) fun _ => undef)
  refine cOut_clear (h := [bK [.dp (.s (hrD L) L.length 9)] 1 84, bK [.v (.int .i64 0)] 1 3, bK [.v (.int .i64 7)] 1 30, bK [.dp (.s (hrD L) L.length 9)] 1 84, bK [.v (.int .i64 (frT L k t))] 1 3, none]) (cOut_startM Tryz.func108 rfl (p108a hE (fun _ => undef) (hrD L) (L.length) 0 0 0 0 0 0 (t) 0 0 0 0 false false false false false false false false 0 0 (K148 hE L t) trivial trivial (fun j => ?_) fun _ => undef)) rfl
  refine (?_ : OutK E 0 0 ⟨[bK [.dp (.s (hrD L) L.length 9)] 1 84, bK [.v (.int .i64 0)] 1 3, bK [.v (.int .i64 0)] 1 30, bK [.dp (.s (hrD L) L.length 9)] 1 84, bK [.v (.int .i64 t)] 1 3], .code (.rangeFunc (.tmp 9) #[10] asg108 bod108) :: [.inBlock 0, .code (atC [1, 1] (bodyOf Tryz.f108))], T108 j⟩ _)
  refine outK_loop hE (g := 165) (v := .tup []) (h2 := [bK [.dp (.s (hrD L) L.length 9)] 1 84, bK [.v (.int .i64 0)] 1 3, bK [.v (.int .i64 0)] 1 30, bK [.dp (.s (hrD L) L.length 9)] 1 84, bK [.v (.int .i64 (frT L k t))] 1 3, some markEnt, lp108 .ready none j]) (a := loopEnt .ready none (T108 j) #[10] asg108 bod108) rfl Tryz.func165 rfl rfl (h7 j) (by kernel_rfl) rfl (by intro h; cases h) ?_
  exact pE108t hE (j) (hrD L) (L.length) 0 0 0 0 0 0 ((frT L k t)) 0 0 0 0 false false false false false false false false 0 0 (fun j => outK_ret ⟨rfl, by kernel_rfl, by kernel_rfl⟩) j
theorem base_eq {t l : Int} (ht : 0 ≤ t ∧ t ≤ 100000000) (hl : 0 ≤ l ∧ l ≤ 86400) : wrapF IntKind.i64 (wrapF IntKind.i64 (wrapF IntKind.i64 (t.tdiv 86400) * 86400) + l) = t - secO t + l := by
 have h1 : t.tdiv 86400 = t / 86400 := Int.tdiv_eq_ediv_of_nonneg ht.1
 have h2 : t / 86400 * 86400 = t - secO t := by unfold secO; omega
 have hs := @secO_b t
 rw [h1, wrap_id (n := t / 86400) (by omega) (by omega), h2, wrap_id (n := t - secO t) (by omega) (by omega), wrap_id (by omega) (by omega)]
theorem l48i (hE : EnvOk E) (L : List Hr) (ho : okH L) (t y : Int) (ht : 0 ≤ t ∧ t ≤ 100000000) (hm : L.length ≤ 100000) : ∀ (k i : Nat), k + i = L.length → ∀ (r : Int) {Φ : Res → Prop}, (∀ j, OutK E 0 0 (r48o (fun _ => undef) (hrD L) (L.length) 0 0 (y) 0 0 0 (nxR t (L.drop i) r) 0 0 0 0 false false false false false false false false 0 0 j) Φ) → ∀ j, OutK E 0 0 (r48i (fun _ => undef) (hrD L) (L.length) (i) 0 (y) 0 0 0 (t) 0 0 (r) 0 false false false false false false false false 0 0 j) Φ
 | 0, i, hk, r, Φ, h, j => by
  rw [List.drop_eq_nil_of_le (by omega)] at h
  exact p48z hE (fun _ => undef) (hrD L) (L.length) (i) 0 (y) 0 0 0 (t) 0 0 (r) 0 false false false false false false false false 0 0 (decide_eq_false (by (try simp only [Int.ofNat_eq_natCast]); omega)) h j
 | k + 1, i, hk, r, Φ, h, j => by
  have hl : i < L.length := by omega
  have hx : L[i]? = some L[i] := List.getElem?_eq_getElem hl
  have hmem : L[i] ∈ L := List.getElem_mem hl
  have hb := ho _ hmem
  rw [List.drop_eq_getElem_cons hl] at h
  generalize L[i] = x at hx hb h
  have hb : 0 ≤ x.l ∧ x.l ≤ 86400 := ⟨by omega, hb.2.2⟩
  have ih := fun r => l48i hE L ho t y ht hm k (i + 1) (by omega) r (Φ := Φ)
  have e0 : nxR t (x :: L.drop (i + 1)) r = nxR t (L.drop (i + 1)) (if x.day (dayO t) = true ∧ secO t ≥ x.f ∧ t - secO t + x.l > r then t - secO t + x.l else r) := rfl
  rw [e0] at h
  cases hd : x.day (dayO t) with
  | false =>
   rw [if_neg (by rw [hd]; simp)] at h
   exact p48n hE (fun _ => undef) (hrD L) (L.length) (i) (dayO t) (y) 0 (secO t) (t - secO t + x.l) (t) 0 0 (r) 0 (x.d0) (x.d1) (x.d2) (x.d3) (x.d4) (x.d5) (x.d6) (x.day (dayO t)) (x.f) (x.l) (decide_eq_true (by (try simp only [Int.ofNat_eq_natCast]); omega)) ⟨by (try simp only [Int.ofNat_eq_natCast]); omega, by (try simp only [Int.ofNat_eq_natCast]); omega⟩ rfl (hr_l hx) (iIe (base_eq ht hb)) (iIe (day_eq ht)) ⟨by (try simp only [Int.ofNat_eq_natCast]); omega, by (try simp only [Int.ofNat_eq_natCast]); omega⟩ rfl ⟨by (try simp only [Int.ofNat_eq_natCast]); omega, by have := dayO_lt t; (try simp only [Int.ofNat_eq_natCast]); omega⟩ (by show i.mul 9 + 0 + dayO t * 1 = _; omega) (hr_day hx (dayO_lt t)) (by rw [hd]; rfl) (by rw [hd]; rfl) (by rw [hd]; rfl) (by rw [hd]; rfl) (by rw [hd]; rfl) (by rw [hd]; rfl) (by rw [hd]; rfl) (by rw [hd]; rfl) (by rw [hd]; rfl) hd (iIe (by (try simp only [Int.ofNat_eq_natCast]); rw [wrap_id (by omega) (by omega)]; try omega)) (ih r h) j
  | true =>
   cases h2 : decide (secO t ≥ x.f) with
   | false =>
    rw [if_neg (fun hh => of_decide_eq_false h2 hh.2.1)] at h
    exact p48m hE (fun _ => undef) (hrD L) (L.length) (i) (dayO t) (y) 0 (secO t) (t - secO t + x.l) (t) 0 0 (r) 0 (x.d0) (x.d1) (x.d2) (x.d3) (x.d4) (x.d5) (x.d6) (x.day (dayO t)) (x.f) (x.l) (decide_eq_true (by (try simp only [Int.ofNat_eq_natCast]); omega)) ⟨by (try simp only [Int.ofNat_eq_natCast]); omega, by (try simp only [Int.ofNat_eq_natCast]); omega⟩ rfl (hr_l hx) (iIe (base_eq ht hb)) (iIe (day_eq ht)) ⟨by (try simp only [Int.ofNat_eq_natCast]); omega, by (try simp only [Int.ofNat_eq_natCast]); omega⟩ rfl ⟨by (try simp only [Int.ofNat_eq_natCast]); omega, by have := dayO_lt t; (try simp only [Int.ofNat_eq_natCast]); omega⟩ (by show i.mul 9 + 0 + dayO t * 1 = _; omega) (hr_day hx (dayO_lt t)) (by rw [hd]; rfl) (by rw [hd]; rfl) (iIe (sec_eq ht)) (by rw [hd]; rfl) (by rw [hd]; rfl) (by rw [hd]; rfl) ⟨by (try simp only [Int.ofNat_eq_natCast]); omega, by (try simp only [Int.ofNat_eq_natCast]); omega⟩ rfl (by rw [hd]; rfl) (by rw [hd]; rfl) (by rw [hd]; rfl) (hr_f hx) (by rw [hd]; rfl) hd (by rw [h2]; rfl) (by rw [h2]; rfl) (by rw [h2]; rfl) h2 (iIe (by (try simp only [Int.ofNat_eq_natCast]); rw [wrap_id (by omega) (by omega)]; try omega)) (ih r h) j
   | true =>
    cases h3 : decide (t - secO t + x.l > r) with
    | false =>
     rw [if_neg (fun hh => of_decide_eq_false h3 hh.2.2)] at h
     exact p48o hE (fun _ => undef) (hrD L) (L.length) (i) (dayO t) (y) 0 (secO t) (t - secO t + x.l) (t) 0 0 (r) 0 (x.d0) (x.d1) (x.d2) (x.d3) (x.d4) (x.d5) (x.d6) (x.day (dayO t)) (x.f) (x.l) (decide_eq_true (by (try simp only [Int.ofNat_eq_natCast]); omega)) ⟨by (try simp only [Int.ofNat_eq_natCast]); omega, by (try simp only [Int.ofNat_eq_natCast]); omega⟩ rfl (hr_l hx) (iIe (base_eq ht hb)) (iIe (day_eq ht)) ⟨by (try simp only [Int.ofNat_eq_natCast]); omega, by (try simp only [Int.ofNat_eq_natCast]); omega⟩ rfl ⟨by (try simp only [Int.ofNat_eq_natCast]); omega, by have := dayO_lt t; (try simp only [Int.ofNat_eq_natCast]); omega⟩ (by show i.mul 9 + 0 + dayO t * 1 = _; omega) (hr_day hx (dayO_lt t)) (by rw [hd]; rfl) (by rw [hd]; rfl) (iIe (sec_eq ht)) (by rw [hd]; rfl) (by rw [hd]; rfl) (by rw [hd]; rfl) ⟨by (try simp only [Int.ofNat_eq_natCast]); omega, by (try simp only [Int.ofNat_eq_natCast]); omega⟩ rfl (by rw [hd]; rfl) (by rw [hd]; rfl) (by rw [hd]; rfl) (hr_f hx) (by rw [hd]; rfl) hd (by rw [h2]; rfl) (by rw [h2]; rfl) (by rw [h2]; rfl) h2 h3 (iIe (by (try simp only [Int.ofNat_eq_natCast]); rw [wrap_id (by omega) (by omega)]; try omega)) (ih r h) j
    | true =>
     rw [if_pos ⟨hd, of_decide_eq_true h2, of_decide_eq_true h3⟩] at h
     exact p48e hE (fun _ => undef) (hrD L) (L.length) (i) (dayO t) (y) 0 (secO t) (t - secO t + x.l) (t) 0 0 (r) 0 (x.d0) (x.d1) (x.d2) (x.d3) (x.d4) (x.d5) (x.d6) (x.day (dayO t)) (x.f) (x.l) (decide_eq_true (by (try simp only [Int.ofNat_eq_natCast]); omega)) ⟨by (try simp only [Int.ofNat_eq_natCast]); omega, by (try simp only [Int.ofNat_eq_natCast]); omega⟩ rfl (hr_l hx) (iIe (base_eq ht hb)) (iIe (day_eq ht)) ⟨by (try simp only [Int.ofNat_eq_natCast]); omega, by (try simp only [Int.ofNat_eq_natCast]); omega⟩ rfl ⟨by (try simp only [Int.ofNat_eq_natCast]); omega, by have := dayO_lt t; (try simp only [Int.ofNat_eq_natCast]); omega⟩ (by show i.mul 9 + 0 + dayO t * 1 = _; omega) (hr_day hx (dayO_lt t)) (by rw [hd]; rfl) (by rw [hd]; rfl) (iIe (sec_eq ht)) (by rw [hd]; rfl) (by rw [hd]; rfl) (by rw [hd]; rfl) ⟨by (try simp only [Int.ofNat_eq_natCast]); omega, by (try simp only [Int.ofNat_eq_natCast]); omega⟩ rfl (by rw [hd]; rfl) (by rw [hd]; rfl) (by rw [hd]; rfl) (hr_f hx) (by rw [hd]; rfl) hd (by rw [h2]; rfl) (by rw [h2]; rfl) (by rw [h2]; rfl) h2 h3 (iIe (by (try simp only [Int.ofNat_eq_natCast]); rw [wrap_id (by omega) (by omega)]; try omega)) (ih _ h) j
theorem l48 (hE : EnvOk E) (L : List Hr) (ho : okH L) (y : Int) (hy : 0 ≤ y ∧ y ≤ 100000000) (hm : L.length ≤ 100000) : ∀ (m : Nat) (t : Int), 0 ≤ t → y + 691200 < t + m → ∀ j, OutK E 0 0 (r48o (fun _ => undef) (hrD L) (L.length) 0 0 (y) 0 0 0 (t) 0 0 0 0 false false false false false false false false 0 0 j) (Go.Ev.Ends E Tryz.f48 (frP (frR L y m t)) [])
 | 0, t, h1, h2, j => by
  by_cases ht : t ≤ 100000000
  ·have h0 : decide (t ≤ 100000000) = true := decide_eq_true ht
   exact p48y hE (fun _ => undef) (hrD L) (L.length) 0 0 (y) 0 0 0 (t) 0 0 0 0 false false false false false false false false 0 0 (by rw [h0]; rfl) (by rw [h0]; rfl) (by rw [h0]; rfl) (by rw [h0]; rfl) h0 (by rw [wrap_id (by omega) (by omega)]; exact decide_eq_false (by omega)) (fun j => outK_ret (ends_ret (by kernel_rfl))) j
  ·have h0 : decide (t ≤ 100000000) = false := decide_eq_false ht
   exact p48x hE (fun _ => undef) (hrD L) (L.length) 0 0 (y) 0 0 0 (t) 0 0 0 0 false false false false false false false false 0 0 (by rw [h0]; rfl) (by rw [h0]; rfl) (by rw [h0]; rfl) (by rw [h0]; rfl) h0 (fun j => outK_ret (ends_ret (by kernel_rfl))) j
 | m + 1, t, h1, h2, j => by
  have e0 : frR L y (m + 1) t = if t ≤ 100000000 ∧ t < y + 691200 then (if protB L t = true then frR L y m (nxR t L (t + 1)) else some t) else none := rfl
  rw [e0]
  by_cases ht : t ≤ 100000000
  ·have h0 : decide (t ≤ 100000000) = true := decide_eq_true ht
   by_cases h3 : t < y + 691200
   ·rw [if_pos ⟨ht, h3⟩]
    by_cases hp : protB L t = true
    ·rw [if_pos hp]
     have hn := nxR_all ho hp
     have ih := l48 hE L ho y hy hm m (nxR t L (t + 1)) (by omega) (by omega)
     exact p48i hE (fun _ => undef) (hrD L) (L.length) 0 0 (y) 0 0 0 (t) (t + 1) 0 0 0 false false false false false false false (true) 0 0 (by rw [h0]; rfl) (by rw [h0]; rfl) (by rw [h0]; rfl) (by rw [h0]; rfl) h0 (by rw [wrap_id (by omega) (by omega)]; exact decide_eq_true (by omega)) (iBg (K47 hE L t ⟨h1, ht⟩ hm) hp) (by first | rfl | omega | simp) (iIe (by (try simp only [Int.ofNat_eq_natCast]); rw [wrap_id (by omega) (by omega)]; try omega)) (l48i hE L ho t y ⟨h1, ht⟩ hm L.length 0 rfl (t + 1) ih) j
    ·rw [if_neg hp]
     have hp : protB L t = false := by simpa using hp
     exact p48f hE (fun _ => undef) (hrD L) (L.length) 0 0 (y) 0 0 0 (t) 0 0 0 0 false false false false false false false (false) 0 0 (by rw [h0]; rfl) (by rw [h0]; rfl) (by rw [h0]; rfl) (by rw [h0]; rfl) h0 (by rw [wrap_id (by omega) (by omega)]; exact decide_eq_true (by omega)) (iBg (K47 hE L t ⟨h1, ht⟩ hm) hp) (by first | rfl | omega | simp) (fun j => outK_ret (ends_ret (by kernel_rfl))) j
   ·rw [if_neg (fun hh => h3 hh.2)]
    exact p48y hE (fun _ => undef) (hrD L) (L.length) 0 0 (y) 0 0 0 (t) 0 0 0 0 false false false false false false false false 0 0 (by rw [h0]; rfl) (by rw [h0]; rfl) (by rw [h0]; rfl) (by rw [h0]; rfl) h0 (by rw [wrap_id (by omega) (by omega)]; exact decide_eq_false (by omega)) (fun j => outK_ret (ends_ret (by kernel_rfl))) j
  ·rw [if_neg (fun hh => ht hh.1)]
   have h0 : decide (t ≤ 100000000) = false := decide_eq_false ht
   exact p48x hE (fun _ => undef) (hrD L) (L.length) 0 0 (y) 0 0 0 (t) 0 0 0 0 false false false false false false false false 0 0 (by rw [h0]; rfl) (by rw [h0]; rfl) (by rw [h0]; rfl) (by rw [h0]; rfl) h0 (fun j => outK_ret (ends_ret (by kernel_rfl))) j
theorem K48 (hE : EnvOk E) (L : List Hr) (ho : okH L) (t : Int) (ht : 0 ≤ t ∧ t ≤ 100000000) (hm : L.length ≤ 100000) (k : Nat) (hk : 100000000 < t + k) : COut E 0 [] 48 [dHr L, iI t] (frP (frC L k t)) [] := by
 rw [fr_eq ho hk (m := 691201) (by decide)]
 obtain ⟨m, hm2⟩ : ∃ m : Nat, m = 691201 := ⟨_, rfl⟩
 rw [← hm2]
 exact cOut_start Tryz.func48 rfl (p48a hE (fun _ => undef) (hrD L) (L.length) 0 0 (t) 0 0 0 0 0 0 0 0 false false false false false false false false 0 0 (l48 hE L ho t ht hm m t ht.1 (by omega)) fun _ => undef)
end
end Go.Proofs.YtmefachijohnhaaGreatDoor
end

/-! SeAcc -/
section
open Go Go.Ev
namespace Go.Proofs.YtmefachijohnhaaGreatDoor
structure AccP where
 b : Int
 d : Int
 s : Int
 e : Int
 k0 : Int
 k1 : Int
 k2 : Int
 k3 : Int
 k4 : Int
 k5 : Int
 k6 : Int
 k7 : Int
 m0 : Int
 m1 : Int
 m2 : Int
 m3 : Int
 m4 : Int
 m5 : Int
 m6 : Int
 m7 : Int
abbrev accN (V : AccP) (r : List AC) : List AC := .v (.int .i64 V.b) :: .v (.int .i64 V.d) :: .v (.int .i64 V.s) :: .v (.int .i64 V.e) :: .v (.int .u8 V.k0) :: .v (.int .u8 V.k1) :: .v (.int .u8 V.k2) :: .v (.int .u8 V.k3) :: .v (.int .u8 V.k4) :: .v (.int .u8 V.k5) :: .v (.int .u8 V.k6) :: .v (.int .u8 V.k7) :: .v (.int .u8 V.m0) :: .v (.int .u8 V.m1) :: .v (.int .u8 V.m2) :: .v (.int .u8 V.m3) :: .v (.int .u8 V.m4) :: .v (.int .u8 V.m5) :: .v (.int .u8 V.m6) :: .v (.int .u8 V.m7) :: r
abbrev accZ (r : List AC) : List AC := .v (.int .i64 0) :: .v (.int .i64 0) :: .v (.int .i64 0) :: .v (.int .i64 0) :: .v (.int .u8 0) :: .v (.int .u8 0) :: .v (.int .u8 0) :: .v (.int .u8 0) :: .v (.int .u8 0) :: .v (.int .u8 0) :: .v (.int .u8 0) :: .v (.int .u8 0) :: .v (.int .u8 0) :: .v (.int .u8 0) :: .v (.int .u8 0) :: .v (.int .u8 0) :: .v (.int .u8 0) :: .v (.int .u8 0) :: .v (.int .u8 0) :: .v (.int .u8 0) :: r
def vZ : AccP := ⟨0, 0, 0, 0, 0, 0, 0, 0, 0, 0, 0, 0, 0, 0, 0, 0, 0, 0, 0, 0⟩
abbrev zB8 (a b c d e f g h : Int) : List AC := [.v (.int .u8 a), .v (.int .u8 b), .v (.int .u8 c), .v (.int .u8 d), .v (.int .u8 e), .v (.int .u8 f), .v (.int .u8 g), .v (.int .u8 h)]
abbrev zTk (t m a b c d e f g h : Int) : List AC := [.v (.int .i64 t), .v (.int .i64 m), .v (.int .u8 a), .v (.int .u8 b), .v (.int .u8 c), .v (.int .u8 d), .v (.int .u8 e), .v (.int .u8 f), .v (.int .u8 g), .v (.int .u8 h)]
abbrev zU (l : List Int) : List AC := l.map fun x => .v (.int .u8 x)
abbrev zI2 (a b : Int) : List AC := [.v (.int .i64 a), .v (.int .i64 b)]
abbrev zAc (V : AccP) (c : Bool) (U : List DT) (n : Nat) : List AC := accN V [.v (.bool c), .dp (.s U n 1)]
abbrev zAz : List AC := accZ [.v (.bool false), .v (.slice none 0 0)]
abbrev zBk (c : List AC) (n t : Nat) : Option AB := some ⟨c, n, t, true, .cells⟩
abbrev zBf (c : List AC) (n t : Nat) : Option AB := some ⟨c, n, t, false, .cells⟩
end Go.Proofs.YtmefachijohnhaaGreatDoor
end
