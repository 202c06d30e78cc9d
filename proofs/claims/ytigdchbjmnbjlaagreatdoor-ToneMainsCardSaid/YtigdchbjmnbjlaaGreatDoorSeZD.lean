/-
  Part of the proof.
-/
import Derived.Test.YtigdchbjmnbjlaaGreatDoorSeZC
import Derived.Stop.BytesEq
section
namespace Go.Ev
open Go.RowKit
section
structure M.leK (base K : Nat) (m m' : M) : Prop where
 n : K ≤ m'.n
 ρ : ∀ b, b < K → m'.ρ b = m.ρ b
 κ : ∀ b, b < K → m'.κ b = m.κ b
 lo : m'.lo = m.lo
 F : ∀ p ∈ m.F, p ∈ m'.F
 fresh : ∀ p ∈ m'.F, p ∈ m.F ∨ base ≤ p.1
theorem CR.unren {m1 m2 : M} {f : Nat → Nat} {n : Nat} (hF : ∀ p ∈ m2.F, p ∈ m1.F) (hn : m1.n = n) (hρ : ∀ b, b < n → m2.ρ (f b) = m1.ρ b) (hκ : ∀ b, b < n → m2.κ (f b) = m1.κ b) : ∀ {x : AC} {y : Value}, (∀ b ∈ x.refs, b < n) → CR m2 (x.ren f) y → CR m1 x y
 | .v _, _, _, r => r
 | .any _, _, _, r => r
 | .dp _, _, _, r => DV.R.mono hF r
 | .mp b, _, hb, r => by
  have hb := hb b (by simp [AC.refs])
  exact ⟨by omega, by rw [← hρ b hb]; exact r.2⟩
 | .ptr b o, _, hb, r => by
  have hb := hb b (by simp [AC.refs])
  exact ⟨by omega, by rw [← hρ b hb]; exact r.2⟩
 | .yld b, _, hb, r => by
  have hb := hb b (by simp [AC.refs])
  exact ⟨by omega, by rw [← hρ b hb]; exact r.2⟩
 | .slc b o len sz cap ex, _, hb, r => by
  have hb := hb b (by simp [AC.refs])
  obtain ⟨_, c, o', hy, h0, h1, h1', h2, h3, h4⟩ := r
  exact ⟨by omega, c, o', by rw [← hρ b hb]; exact hy, h0, h1, h1', h2, by rw [← hκ b hb]; exact h3, h4⟩
 | .clo g fs cs, _, hb, r => by
  obtain ⟨vf, vc, hy, h1, h2⟩ := r
  exact ⟨vf, vc, hy, CEs.un (fun e he c hc y hr => CR.unren hF hn hρ hκ (fun b hb' => hb b (List.mem_append_left _ (CE.mem_refs he hc hb'))) (by rw [← CA.ren_ac]; exact hr)) h1,
   CEs.un (fun e he c hc y hr => CR.unren hF hn hρ hκ (fun b hb' => hb b (List.mem_append_right _ (CE.mem_refs he hc hb'))) (by rw [← CA.ren_ac]; exact hr)) h2⟩
termination_by x => x.rank
decreasing_by all_goals (rw [CA.rank_ac]; exact Nat.one_pos)
theorem all2_unren {α β : Type} {R S : α → β → Prop} {g : α → α} : ∀ {l : List α} {ys : List β}, (∀ a ∈ l, ∀ b, S (g a) b → R a b) → All2 S (l.map g) ys → All2 R l ys
 | [], [], _, _ => trivial
 | _ :: _, _ :: _, hg, h => ⟨hg _ (by simp) _ h.1, all2_unren (fun a ha => hg a (by simp [ha])) h.2⟩
theorem ER.unren {m1 m2 : M} {f : Nat → Nat} {n : Nat} (hF : ∀ p ∈ m2.F, p ∈ m1.F) (hn : m1.n = n) (hρ : ∀ b, b < n → m2.ρ (f b) = m1.ρ b) (hκ : ∀ b, b < n → m2.κ (f b) = m1.κ b) : ∀ {x : AE} {y : Value}, (∀ b ∈ x.refs, b < n) → ER m2 (x.ren f) y → ER m1 x y
 | .one _, _, hb, r => CR.unren hF hn hρ hκ hb r
 | .agg l, _, hb, r => by
  obtain ⟨cs, hy, ha⟩ := r
  exact ⟨cs, hy, all2_unren (fun a ha' b h => CR.unren hF hn hρ hκ (fun k hk => hb k (List.mem_flatMap.2 ⟨a, ha', hk⟩)) h) ha⟩
theorem VR.unren {m1 m2 : M} {f : Nat → Nat} {n : Nat} (hF : ∀ p ∈ m2.F, p ∈ m1.F) (hn : m1.n = n) (hρ : ∀ b, b < n → m2.ρ (f b) = m1.ρ b) (hκ : ∀ b, b < n → m2.κ (f b) = m1.κ b) : ∀ {x : AV} {y : Value}, (∀ b ∈ x.refs, b < n) → VR m2 (x.ren f) y → VR m1 x y
 | .e _, _, hb, r => ER.unren hF hn hρ hκ hb r
 | .tup l, _, hb, r => by
  obtain ⟨cs, hy, ha⟩ := r
  exact ⟨cs, hy, all2_unren (fun a ha' b h => ER.unren hF hn hρ hκ (fun k hk => hb k (List.mem_flatMap.2 ⟨a, ha', hk⟩)) h) ha⟩
theorem CE.refs_map (f : Nat → Nat) : ∀ l : List CE, (l.map (CE.map (CA.ren f))).flatMap CE.refs = (l.flatMap CE.refs).map f
 | [] => rfl
 | e :: l => by
  have hc : ∀ c : CA, (c.ren f).refs = c.refs.map f := fun c => by cases c <;> rfl
  rw [List.map_cons, List.flatMap_cons, List.flatMap_cons, List.map_append, CE.refs_map f l]
  congr 1
  cases e with
  | one x => simp [CE.map, CE.refs, CE.atoms, hc]
  | agg cs => simp [CE.map, CE.refs, CE.atoms, List.flatMap_map, List.map_flatMap, hc]
theorem AC.refs_ren (f : Nat → Nat) : ∀ x : AC, (x.ren f).refs = x.refs.map f
 | .v _ => rfl
 | .ptr _ _ => rfl
 | .slc _ _ _ _ _ _ => rfl
 | .yld _ => rfl
 | .mp _ => rfl
 | .dp _ => rfl
 | .any _ => rfl
 | .clo g fs cs => by simp only [AC.ren, AC.refs, List.map_append, CE.refs_map]
theorem AE.refs_ren (f : Nat → Nat) : ∀ x : AE, (x.ren f).refs = x.refs.map f
 | .one x => AC.refs_ren f x
 | .agg l => by simp [AE.ren, AE.refs, List.flatMap_map, List.map_flatMap, AC.refs_ren]
theorem AV.refs_ren (f : Nat → Nat) : ∀ x : AV, (x.ren f).refs = x.refs.map f
 | .e x => AE.refs_ren f x
 | .tup l => by simp [AV.ren, AV.refs, List.flatMap_map, List.map_flatMap, AE.refs_ren]
theorem HR.sel {m : M} {base lvl K : Nat} {h h' : Heap} {w : World} (H : HR m base lvl h w) {e : List Nat} (hlK : lvl ≤ K) (hl : e.length = h'.length) (hK : ∀ i, i < K → e[i]? = some i) (hnd : e.Nodup) (hlt : ∀ b ∈ e, b < h.length) (hge : ∀ b ∈ e.drop K, K ≤ b) (hKe : K ≤ e.length)
  (hp : ∀ b ∈ h', okX K b = true) (h2 : e.map (fun b => h[b]?) = h'.map (fun b => some (b.map (AB.ren (nthE e h.length e.length))))) :
  ∃ m2 : M, HR m2 base lvl h' w ∧ M.leK base K m m2 ∧ m2.n = e.length ∧ (∀ b, b < e.length → m.ρ (nthE e h.length e.length b) = m2.ρ b) ∧ (∀ b, b < e.length → m.κ (nthE e h.length e.length b) = m2.κ b) ∧ (∀ b, nthE e h.length e.length b < m.n → b < e.length) ∧ m2.F = m.F := by
 have hmn := H.n
 let m2 : M := { n := e.length, ρ := fun i => m.ρ (getD0 e i), κ := fun i => m.κ (getD0 e i), lo := m.lo, F := m.F }
 have hg : ∀ i, i < e.length → ∃ b, e[i]? = some b ∧ getD0 e i = b ∧ b < h.length := fun i hi => by
  refine ⟨e[i], List.getElem?_eq_getElem hi, ?_, hlt _ (List.getElem_mem hi)⟩
  rw [getD0_eq, List.getD_eq_getElem?_getD, List.getElem?_eq_getElem hi]; rfl
 have hnth : ∀ i, i < e.length → nthE e h.length e.length i = getD0 e i := fun i hi => by simp [nthE, hi]
 have hnth2 : ∀ i, ¬ i < e.length → nthE e h.length e.length i = h.length + (i - e.length) := fun i hi => by simp [nthE, hi]
 have hback : ∀ i, nthE e h.length e.length i < m.n → i < e.length := fun i hi => by
  by_cases hlt : i < e.length
  ·exact hlt
  ·rw [hnth2 i hlt] at hi; omega
 have hρ : ∀ b, b < e.length → m.ρ (nthE e h.length e.length b) = m2.ρ b := fun b hb => by rw [hnth b hb]
 have hκ : ∀ b, b < e.length → m.κ (nthE e h.length e.length b) = m2.κ b := fun b hb => by rw [hnth b hb]
 have hKi : ∀ i, i < K → getD0 e i = i := fun i hi => by
  rw [getD0_eq, List.getD_eq_getElem?_getD, hK i hi]; rfl
 have hKg : ∀ i, K ≤ i → i < e.length → K ≤ getD0 e i := fun i h1 h2 => by
  obtain ⟨b, g1, g2, _⟩ := hg i h2
  rw [g2]
  refine hge b (List.mem_of_getElem? (i := i - K) ?_)
  rw [List.getElem?_drop, show K + (i - K) = i by omega, g1]
 have hx : ∀ i a, h'[i]? = some (some a) → i < e.length ∧ h[getD0 e i]? = some (some (a.ren (nthE e h.length e.length))) ∧ okX K (some a) = true := by
  intro i a hi
  have hil : i < e.length := by rw [hl]; exact (List.getElem?_eq_some_iff.1 hi).1
  obtain ⟨b, g1, g2, _⟩ := hg i hil
  refine ⟨hil, ?_, ?_⟩
  ·rw [g2]
   have e1 : (e.map (fun b => h[b]?))[i]? = some h[b]? := by rw [List.getElem?_map, g1]; rfl
   rw [h2, List.getElem?_map, hi] at e1
   simpa using e1.symm
  ·exact hp _ (List.mem_of_getElem? hi)
 refine ⟨m2, ⟨hl, by omega, H.baseLe, fun i a hi => ?_, fun b h1 h2 => ?_, fun b b' h1 h2 ⟨a, ha⟩ ⟨a', ha'⟩ hlo he => ?_, H.lo, fun p hp => ⟨(H.tab p hp).1, fun b a hb ha => ?_⟩⟩, ⟨hKe, fun b hb => by simp only [m2, hKi b hb], fun b hb => by simp only [m2, hKi b hb], rfl, fun _ hp => hp, fun _ hp => .inl hp⟩, rfl, hρ, hκ, hback, rfl⟩
 ·obtain ⟨hil, g1, g2⟩ := hx i a hi
  have hLR : LR m2 w i a.ext := by
   have h0 : LR m w (getD0 e i) a.ext := (H.ent _ _ g1).2
   cases hxe : a.ext with
   | cells => trivial
   | mark => rw [hxe] at h0; exact h0
   | iter s pos => rw [hxe] at h0; exact h0
   | map kv => rw [hxe] at h0; exact h0
   | loop st pend tm ps asg body =>
    rw [hxe] at h0
    obtain ⟨fn, t, D, k1, k2⟩ := h0
    simp only [okX, hxe, List.all_eq_true, Nat.blt_eq] at g2
    have hKm : K ≤ m.n := by
     have : ∀ j, j < K → j < h.length := fun j hj => hlt j (List.mem_of_getElem? (hK j hj))
     rcases Nat.eq_zero_or_pos K with hz | hz
     ·omega
     ·have := this (K - 1) (by omega); omega
    let m0 : M := { n := K, ρ := m.ρ, κ := m.κ, lo := m.lo, F := m.F }
    have hle0 : M.leG base m0 m := ⟨hKm, fun _ _ => rfl, fun _ _ => rfl, rfl, fun _ hp => hp, fun _ hp => .inl hp⟩
    have hle2 : M.leG base m0 m2 := ⟨hKe, fun b hb => by simp only [m2, m0, hKi b hb], fun b hb => by simp only [m2, m0, hKi b hb], rfl, fun _ hp => hp, fun _ hp => .inl hp⟩
    exact ⟨fn, t, D, k1, all2_down (fun x hx' y hy => VR.monoG hle2 (VR.downG hle0 (.inr rfl) (fun b hb => g2 x hx' b hb) hy)) k2⟩
  refine ⟨fun hcells => ?_, hLR⟩
  obtain ⟨b1, b2, c, fz, b3, b4, b5, b6, b7⟩ := H.blk _ _ g1 (by simpa [AB.ren] using hcells)
  have hloK := Nat.le_trans H.lo hlK
  have hlo : m.lo ≤ i → m.lo ≤ getD0 e i := fun h0 => by
   by_cases hb : i < K
   ·rw [hKi i hb]; exact h0
   ·have := hKg i (by omega) hil; omega
  refine ⟨by simpa [AB.ren] using b1, b2, c, fz, b3, b4, fun h0 => b5 (hlo h0), b6, ?_⟩
  have b7' : All2 (CR m) (a.cells.map (AC.ren (nthE e h.length e.length))) (c.toList.take a.n) := b7
  refine all2_unren (fun x _ y hy => CR.unren (m1 := m2) (m2 := m) (fun _ hp => hp) rfl hρ hκ (fun k hk => hback k (CR.refs_lt hy _ ?_)) hy) b7'
  rw [AC.refs_ren]
  exact List.mem_map_of_mem hk
 ·show base ≤ m.ρ (getD0 e b)
  obtain ⟨k, _, g2, g3⟩ := hg b (by omega)
  refine H.own _ ?_ (by omega)
  by_cases hb : b < K
  ·rw [hKi b hb]; exact h1
  ·have := hKg b (by omega) (by omega); omega
 ·obtain ⟨i1, g1, _⟩ := hx b a ha
  obtain ⟨i2, g2, _⟩ := hx b' a' ha'
  have hlo' : m.lo ≤ getD0 e b ∨ m.lo ≤ getD0 e b' := by
   have hloK := Nat.le_trans H.lo hlK
   have key : ∀ i, i < e.length → m.lo ≤ i → m.lo ≤ getD0 e i := fun i hi h0 => by
    by_cases hb : i < K
    ·rw [hKi i hb]; exact h0
    ·have := hKg i (by omega) hi; omega
   exact hlo.imp (key b i1) (key b' i2)
  have := H.inj _ _ (List.getElem?_eq_some_iff.1 g1).1 (List.getElem?_eq_some_iff.1 g2).1 ⟨_, g1⟩ ⟨_, g2⟩ hlo' he
  obtain ⟨k, k1, k2, _⟩ := hg b i1
  obtain ⟨k', k1', k2', _⟩ := hg b' i2
  rw [k2, k2'] at this
  subst this
  exact (List.getElem?_inj i1 hnd).1 (k1.trans k1'.symm)
 ·obtain ⟨i1, g1, _⟩ := hx b a ha
  refine (H.tab p hp).2 _ _ ?_ g1
  by_cases hb' : b < K
  ·rw [hKi b hb']; exact hb
  ·have := hKg b (by omega) i1; omega
theorem nodupB_spec : ∀ {l : List Nat}, nodupB l = true → l.Nodup
 | [], _ => List.nodup_nil
 | x :: l, h => by
  simp only [nodupB, Bool.and_eq_true, Bool.not_eq_true', List.contains_eq_mem, decide_eq_false_iff_not] at h
  exact List.nodup_cons.2 ⟨h.1, nodupB_spec h.2⟩
theorem HR.sel' {m : M} {base lvl K : Nat} {h h' : Heap} {w : World} (H : HR m base lvl h w) {e : List Nat} (hlK : lvl ≤ K) (hok : selOk e (lenL h) K (lenL h') h' = true)
  (h2 : e.map (getL h) = h'.map (fun b => some (b.map (AB.ren (nthE e (lenL h) (lenL e)))))) :
  ∃ m2 : M, HR m2 base lvl h' w ∧ M.leK base K m m2 ∧ m2.n = e.length ∧ (∀ b, b < e.length → m.ρ (nthE e h.length e.length b) = m2.ρ b) ∧ (∀ b, b < e.length → m.κ (nthE e h.length e.length b) = m2.κ b) ∧ (∀ b, nthE e h.length e.length b < m.n → b < e.length) ∧ m2.F = m.F := by
 simp only [selOk, Bool.and_eq_true, List.all_eq_true, Nat.blt_eq, Nat.ble_eq] at hok
 obtain ⟨⟨⟨⟨⟨⟨c1, c2⟩, c3⟩, c4⟩, c5⟩, c6⟩, c7⟩ := hok
 have c1 := Nat.eq_of_beq_eq_true c1
 have hgl : getL h = fun b : Nat => h[b]? := funext fun b => getL_eq h b
 simp only [lenL_eq, dropL_eq, hgl] at c1 c3 c4 c5 h2
 refine H.sel hlK c1 (fun i hi => ?_) (nodupB_spec c2) c3 c4 c5 c7 h2
 have := Nat.eq_of_beq_eq_true (c6 i (by simpa using hi))
 rw [getD0_eq, List.getD_eq_getElem?_getD, List.getElem?_eq_getElem (by omega)] at this
 rw [List.getElem?_eq_getElem (by omega)]
 simpa using this
theorem eqL_eq {α : Type} {f : α → α → Bool} (hf : ∀ x y, f x y = true → x = y) {l m : List α} (h : eqL f l m = true) : l = m := eqL_sound (fun x _ y => hf x y) h
theorem canonA_sound {m : M} {base lvl K : Nat} {h h' : Heap} {tm tm' : Tm} {w : World} {t : Array Value} (H : HR m base lvl h w) (hT : TR m tm t) (hlK : lvl ≤ K) (hK : K ≤ h.length) (hs : canonA K h tm = some (h', tm')) :
  ∃ m2, HR m2 base lvl h' w ∧ TR m2 tm' t ∧ M.leK base K m m2 ∧ K ≤ h'.length := by
 unfold canonA at hs
 split at hs
 ·simp only [Option.some.injEq, Prod.mk.injEq] at hs
  obtain ⟨rfl, rfl⟩ := hs
  exact ⟨m, H, hT, ⟨by rw [H.n]; exact hK, fun _ _ => rfl, fun _ _ => rfl, rfl, fun _ hp => hp, fun _ hp => .inl hp⟩, hK⟩
 ·simp only at hs
  split at hs
  ·rename_i hc
   simp only [Option.some.injEq, Prod.mk.injEq] at hs
   obtain ⟨e1, e2⟩ := hs
   generalize hE : appL (List.range K) (reachN h K 100000 (appL (tm.flatMap AV.refs) (List.flatMap (fun b => match b with | some a => AB.refs a | none => []) (List.take K h))) []) = e at hc e1 e2
   rw [e1, e2] at hc
   simp only [Bool.and_eq_true] at hc
   obtain ⟨⟨hok, h2⟩, h1⟩ := hc
   have h1 := eqL_eq (fun _ _ => eqAV_sound) h1
   rw [List.all_eq_true] at h2
   have h2' : e.map (getL h) = h'.map (fun b => some (b.map (AB.ren (nthE e (lenL h) (lenL e))))) := by
    rw [← e1, List.map_map]
    refine List.map_congr_left fun b hb => ?_
    have := h2 b hb
    simp only [Function.comp]
    split at this
    ·rename_i a ha
     rw [ha]
     have hc := eqL_eq (fun _ _ => eqAC_sound) this
     simp only [Option.map_some, AB.ren, hc]
    ·rename_i ha
     rw [ha]; rfl
    ·simp at this
   obtain ⟨m2, H2, hle, hn, hρ, hκ, hback, hmF⟩ := H.sel' hlK hok h2'
   simp only [lenL_eq] at h1
   refine ⟨m2, H2, ?_, hle, ?_⟩
   ·have hT' : All2 (VR m) tm t.toList := hT
    rw [← h1] at hT'
    refine all2_unren (fun a _ y hy => VR.unren (by rw [hmF]; exact fun _ hp => hp) hn hρ hκ (fun b hb => hback b (VR.refs_lt hy _ ?_)) hy) hT'
    rw [AV.refs_ren]
    exact List.mem_map_of_mem hb
   ·have := hle.n; rw [H2.n] at this; exact this
  ·simp at hs
theorem insA_new {x : EntA} : ∀ {l l' : List EntA}, insA x l = some l' → ∃ y ∈ l', y = x
 | [], l', h => by
  have h : some [x] = some l' := h
  simp only [Option.some.injEq] at h
  exact ⟨x, by rw [← h]; simp, rfl⟩
 | y :: r, l', h => by
  have h : (match Nat.beq y.1 x.1 with
   | true => match eqL eqB y.2.1 x.2.1 && eqL eqAV y.2.2 x.2.2 with
    | true => some (y :: r)
    | false => none
   | false => match insA x r with
    | some r' => some (y :: r')
    | none => none) = some l' := h
  split at h
  ·rename_i e
   split at h
   ·rename_i e2
    simp only [Bool.and_eq_true] at e2
    simp only [Option.some.injEq] at h
    refine ⟨y, by rw [← h]; simp, ?_⟩
    obtain ⟨y1, y2, y3⟩ := y
    obtain ⟨x1, x2, x3⟩ := x
    have a1 : y1 = x1 := Nat.eq_of_beq_eq_true e
    have a2 : y2 = x2 := eqL_eq (fun _ _ => eqB_sound) e2.1
    have a3 : y3 = x3 := eqL_eq (fun _ _ => eqAV_sound) e2.2
    rw [a1, a2, a3]
   ·simp at h
  ·split at h
   ·rename_i r' hr
    obtain ⟨z, hz, e⟩ := insA_new hr
    simp only [Option.some.injEq] at h
    exact ⟨z, by rw [← h]; simp [hz], e⟩
   ·simp at h
theorem insA_old {x : EntA} : ∀ {l l' : List EntA}, insA x l = some l' → ∀ y ∈ l, y ∈ l'
 | [], l', h => by simp
 | y :: r, l', h => by
  have h : (match Nat.beq y.1 x.1 with
   | true => match eqL eqB y.2.1 x.2.1 && eqL eqAV y.2.2 x.2.2 with
    | true => some (y :: r)
    | false => none
   | false => match insA x r with
    | some r' => some (y :: r')
    | none => none) = some l' := h
  split at h
  ·split at h
   ·simp only [Option.some.injEq] at h; rw [← h]; exact fun _ h => h
   ·simp at h
  ·split at h
   ·rename_i r' hr
    simp only [Option.some.injEq] at h
    rw [← h]
    intro z hz
    rcases List.mem_cons.1 hz with rfl | hz
    ·simp
    ·simp [insA_old hr z hz]
   ·simp at h
section
variable {E : Env} {S : StepT} (hS : StepOk E S) {ops : Array Oper} {ms : List Nat} {em : Nat}
theorem nextsA_spec {lvl K n : Nat} {x : EntA} : ∀ (l : List Nat) {acc acc' : List EntA}, nextsA S lvl K n ops ms em x l acc = some acc' →
  (∀ y ∈ acc, y ∈ acc') ∧ ∀ i ∈ l, readyB ops x.1 i = true → ∃ h1 tm1 y, passB S lvl ops [i] x.2.1 x.2.2 = some (h1, tm1) ∧ aheadA S lvl K n ops ms em (x.1 ||| 2 ^ i, h1, tm1) = some y ∧ y ∈ acc'
 | [], acc, acc', h => by
  have h : some acc = some acc' := h
  simp only [Option.some.injEq] at h
  rw [h]; exact ⟨fun _ h => h, by simp⟩
 | i :: l, acc, acc', h => by
  have h : (match readyB ops x.1 i with
   | false => nextsA S lvl K n ops ms em x l acc
   | true => match passB S lvl ops [i] x.2.1 x.2.2 with
    | some (h1, tm1) => match aheadA S lvl K n ops ms em (x.1 ||| 2 ^ i, h1, tm1) with
     | some y => match insA y acc with
      | some acc' => nextsA S lvl K n ops ms em x l acc'
      | none => none
     | none => none
    | none => none) = some acc' := h
  split at h
  ·rename_i hr
   obtain ⟨g1, g2⟩ := nextsA_spec l h
   refine ⟨g1, fun k hk hrk => ?_⟩
   rcases List.mem_cons.1 hk with rfl | hk
   ·rw [hr] at hrk; simp at hrk
   ·exact g2 k hk hrk
  ·split at h
   ·rename_i h1 tm1 hp
    split at h
    ·rename_i y hah
     split at h
     ·rename_i acc2 hin
      obtain ⟨g1, g2⟩ := nextsA_spec l h
      refine ⟨fun y hy => g1 y (insA_old hin y hy), fun k hk hrk => ?_⟩
      rcases List.mem_cons.1 hk with rfl | hk
      ·obtain ⟨z, hz, e⟩ := insA_new hin
       exact ⟨h1, tm1, y, hp, hah, g1 _ (by rw [← e]; exact hz)⟩
      ·exact g2 k hk hrk
     ·simp at h
    ·simp at h
   ·simp at h
theorem levelA_spec {lvl K n : Nat} : ∀ (L : List EntA) {acc acc' : List EntA}, levelA S lvl K n ops ms em L acc = some acc' →
  (∀ y ∈ acc, y ∈ acc') ∧ ∀ x ∈ L, ∀ i, i < n → readyB ops x.1 i = true → ∃ h1 tm1 y, passB S lvl ops [i] x.2.1 x.2.2 = some (h1, tm1) ∧ aheadA S lvl K n ops ms em (x.1 ||| 2 ^ i, h1, tm1) = some y ∧ y ∈ acc'
 | [], acc, acc', h => by
  have h : some acc = some acc' := h
  simp only [Option.some.injEq] at h
  rw [h]; exact ⟨fun _ h => h, by simp⟩
 | x :: L, acc, acc', h => by
  have h : (match nextsA S lvl K n ops ms em x (List.range n) acc with
   | some acc' => levelA S lvl K n ops ms em L acc'
   | none => none) = some acc' := h
  split at h
  ·rename_i acc2 hn
   obtain ⟨g1, g2⟩ := nextsA_spec _ hn
   obtain ⟨k1, k2⟩ := levelA_spec L h
   refine ⟨fun y hy => k1 y (g1 y hy), fun z hz i hi hr => ?_⟩
   rcases List.mem_cons.1 hz with rfl | hz
   ·obtain ⟨h1, tm1, y, a, b, d⟩ := g2 i (List.mem_range.2 hi) hr
    exact ⟨h1, tm1, y, a, b, k1 _ d⟩
   ·exact k2 z hz i hi hr
  ·simp at h
theorem bit_or {mask i k : Nat} : Nat.testBit (mask ||| 2 ^ i) k = (Nat.testBit mask k || decide (i = k)) := by
 rw [Nat.testBit_or, Nat.testBit_two_pow]
theorem eagerMask_spec : ∀ (n : Nat) {i : Nat}, Nat.testBit (eagerMask ms ops n) i = true → eagerAt ms ops i = true
 | 0, i, h => by
  have h : Nat.testBit 0 i = true := h
  simp at h
 | n + 1, i, h => by
  have h : Nat.testBit (match eagerAt ms ops n with | true => Nat.lor (eagerMask ms ops n) (2 ^ n) | false => eagerMask ms ops n) i = true := h
  split at h
  ·rename_i he
   have h : Nat.testBit (eagerMask ms ops n ||| 2 ^ n) i = true := h
   rw [bit_or, Bool.or_eq_true] at h
   rcases h with h | h
   ·exact eagerMask_spec n h
   ·rw [← of_decide_eq_true h]; exact he
  ·exact eagerMask_spec n h
structure EInv (ops : Array Oper) (em base lvl K : Nat) (x : EntA) (listed : Array Bool) (t : Array Value) (w : World) (m : M) (τ : Array Value) : Prop where
 size : listed.size = ops.size
 sub : ∀ i, listed.getD i false = true → Nat.testBit x.1 i = true
 lt : ∀ i, Nat.testBit x.1 i = true → i < ops.size
 pend : ∀ i, Nat.testBit x.1 i = true → listed.getD i false = false → Nat.testBit em i = true
 downL : ∀ i o, ops[i]? = some o → listed.getD i false = true → ∀ e ∈ o.after, bindsB e = true → listed.getD e.on false = true
 downS : ∀ i o, ops[i]? = some o → Nat.testBit x.1 i = true → ∀ e ∈ o.after, bindsB e = true → Nat.testBit x.1 e.on = true
 tsz : t.size = x.2.2.length
 tr : TR m x.2.2 τ
 ag : ∀ d, (∀ j, Wr ops d j → Nat.testBit x.1 j = true → listed.getD j false = true) → τ.getD d undef = t.getD d undef
 hr : HR m base lvl x.2.1 w
 kle : K ≤ x.2.1.length
theorem EInv.τsz {base lvl K : Nat} {x : EntA} {listed : Array Bool} {t τ : Array Value} {w : World} {m : M} (h : EInv ops em base lvl K x listed t w m τ) : τ.size = x.2.2.length := by
 have := h.tr.length; simp at this; omega
theorem stillOp_guard {o : Oper} (h : stillOp o = true) : o.guard = none ∧ ∃ d, o.dst = some d := by
 unfold stillOp at h
 split at h
 ·rename_i d h1 h2; exact ⟨h1, _, h2⟩
 ·simp at h
theorem eager_still (hem : ∀ i, Nat.testBit em i = true → eagerAt ms ops i = true) {i : Nat} {o : Oper} (ho : ops[i]? = some o) (h : Nat.testBit em i = true) : stillOp o = true ∧ ∀ d ∈ looks ops o, ∀ j, Wr ops d j → Nat.testBit (getD0 ms i) j = true := by
 have := hem i h
 unfold eagerAt at this
 rw [ho] at this
 simp only [Bool.and_eq_true, List.all_eq_true] at this
 exact ⟨this.1, fun d hd j hj => this.2 d hd j (mem_writers.2 hj)⟩
include hS in
theorem closeE_inv (hem : ∀ i, Nat.testBit em i = true → eagerAt ms ops i = true) {base lvl K : Nat} {listed : Array Bool} {t : Array Value} {w : World} {m : M} (G : GR E.gl base w) :
  ∀ (l : List Nat) {x y : EntA} {τ : Array Value}, closeE S lvl ops em l x = some y → EInv ops em base lvl K x listed t w m τ → ∃ τ', EInv ops em base lvl K y listed t w m τ'
 | [], x, y, τ, h, hI => by
  have h : some x = some y := h
  simp only [Option.some.injEq] at h
  exact ⟨τ, h ▸ hI⟩
 | i :: l, x, y, τ, h, hI => by
  have h : (match Nat.testBit em i && readyB ops x.1 i with
   | false => closeE S lvl ops em l x
   | true => match ops[i]? with
    | some o => match S lvl x.2.1 x.2.2 i o with
     | some (v, _) => match refsBelow (lenL x.2.1) v.refs && (!callV o || v.flat) with
      | true => closeE S lvl ops em l (x.1 ||| 2 ^ i, x.2.1, putT x.2.2 o.dst v)
      | false => none
     | none => none
    | none => none) = some y := h
  split at h
  ·exact closeE_inv hem G l h hI
  ·rename_i hc
   simp only [Bool.and_eq_true] at hc
   split at h
   ·rename_i o ho
    split at h
    ·rename_i v h1 hv
     split at h
     ·rename_i hrb
      simp only [Bool.and_eq_true, Bool.or_eq_true, Bool.not_eq_true'] at hrb
      obtain ⟨hrb, hfl⟩ := hrb
      have hi : i < ops.size := (Array.getElem?_eq_some_iff.1 ho).1
      obtain ⟨y0, w', m', hpost⟩ := (hS.ok hI.tr hI.hr G hv).some
      have hy : VR m v y0 := hpost.down hfl (fun b hb => by
       have := List.all_eq_true.1 hrb b hb
       rw [Nat.blt_eq, lenL_eq] at this
       rw [hI.hr.n]; exact this)
      have hr := hc.2
      unfold readyB at hr
      rw [ho] at hr
      simp only [Bool.and_eq_true, Bool.not_eq_true', List.all_eq_true, Bool.or_eq_true] at hr
      have hnl : listed.getD i false = false := by
       cases hl : listed.getD i false with
       | false => rfl
       | true => have := hI.sub i hl; rw [hr.1] at this; simp at this
      refine closeE_inv hem G l (τ := putC τ o.dst y0) h ⟨hI.size, fun k hk => ?_, fun k hk => ?_, fun k hk hk2 => ?_, hI.downL, fun k ok hok hk e he hb => ?_, ?_, putT_sound hI.tr _ hy, fun d hd => ?_, hI.hr, hI.kle⟩
      ·show Nat.testBit (x.1 ||| 2 ^ i) k = true
       rw [bit_or, hI.sub k hk]; rfl
      ·have hk : Nat.testBit (x.1 ||| 2 ^ i) k = true := hk
       rw [bit_or, Bool.or_eq_true] at hk
       rcases hk with hk | hk
       ·exact hI.lt k hk
       ·rw [← of_decide_eq_true hk]; exact hi
      ·have hk : Nat.testBit (x.1 ||| 2 ^ i) k = true := hk
       rw [bit_or, Bool.or_eq_true] at hk
       rcases hk with hk | hk
       ·exact hI.pend k hk hk2
       ·rw [← of_decide_eq_true hk]; exact hc.1
      ·show Nat.testBit (x.1 ||| 2 ^ i) e.on = true
       have hk : Nat.testBit (x.1 ||| 2 ^ i) k = true := hk
       rw [bit_or, Bool.or_eq_true] at hk
       rw [bit_or, Bool.or_eq_true]
       left
       rcases hk with hk | hk
       ·exact hI.downS k ok hok hk e he hb
       ·have hk := of_decide_eq_true hk
        subst hk
        rw [ho] at hok
        simp only [Option.some.injEq] at hok
        subst hok
        rcases hr.2 e (by simpa using he) with h | h
        ·rw [hb] at h; simp at h
        ·exact h
      ·show t.size = (putT x.2.2 o.dst v).length
       rw [putT_length]; exact hI.tsz
      ·have hne : o.dst ≠ some d := fun e => by
        have := hd i ⟨o, ho, e⟩ (by show Nat.testBit (x.1 ||| 2 ^ i) i = true; rw [bit_or]; simp)
        rw [hnl] at this; simp at this
       rw [putC_getD_ne hne]
       exact hI.ag d fun j hj hb => hd j hj (by show Nat.testBit (x.1 ||| 2 ^ i) j = true; rw [bit_or, hb]; rfl)
     ·simp at h
    ·simp at h
   ·simp at h
theorem EInv.canon {base lvl K : Nat} {y : EntA} {listed : Array Bool} {t τ : Array Value} {w : World} {m : M} (h : EInv ops em base lvl K y listed t w m τ) (hlK : lvl ≤ K) {z : Heap × Tm} (hc : canonA K y.2.1 y.2.2 = some z) :
  ∃ m2, EInv ops em base lvl K (y.1, z) listed t w m2 τ ∧ M.leK base K m m2 := by
 obtain ⟨h2, tm2⟩ := z
 obtain ⟨m2, c1, c2, c3, c4⟩ := canonA_sound h.hr h.tr hlK h.kle hc
 refine ⟨m2, ⟨h.size, h.sub, h.lt, h.pend, h.downL, h.downS, ?_, c2, h.ag, c1, c4⟩, c3⟩
 have a1 := c2.length
 have a2 := h.τsz
 have a3 := h.tsz
 simp only [Array.length_toList] at a1
 show t.size = tm2.length
 omega
theorem leG_leK {base K : Nat} {m0 m m2 : M} (hm0 : m0.n = K) (h : M.leG base m0 m) (k : M.leK base K m m2) : M.leG base m0 m2 :=
 ⟨by rw [hm0]; exact k.n, fun b hb => by rw [k.ρ b (by omega), h.ρ b hb], fun b hb => by rw [k.κ b (by omega), h.κ b hb], k.lo.trans h.lo, fun p hp => k.F p (h.F p hp), fun p hp => (k.fresh p hp).elim (h.fresh p) .inr⟩
theorem noneReady_of {n mask : Nat} (h : noneReady ops n mask = true) {i : Nat} (hi : i < n) : readyB ops mask i = false := by
 have := List.all_eq_true.1 h i (List.mem_range.2 hi)
 simpa using this
include hS in
theorem searchA_sound (hstill : ∀ {lvl : Nat} {h h' : Heap} {tm : Tm} {i : Nat} {o : Oper} {x : AV}, stillOp o = true → S lvl h tm i o = some (x, h') → h' = h) (hp : OpsOk ops) (hms : ms = masksFrom ops.toList []) (hem : ∀ i, Nat.testBit em i = true → eagerAt ms ops i = true)
  {base lvl K : Nat} {hE : Heap} {tmE : Tm} (hlK : lvl ≤ K) {m0 : M} (hm0 : m0.n = K) {w0 : World} (G0 : GR E.gl base w0) (fr : Frame) (cs : List Frame) (k : List Item) :
  ∀ (l : List Nat) (fuel : Nat) (L : List EntA), searchA S lvl K ops.size ops ms em fuel L = some (hE, tmE) → ∀ x ∈ L, closedOk ops ops.size em x = true → pendOk S lvl ops.size ops ms em x = true → ∀ (listed : Array Bool) (t τ : Array Value) (w : World) (m : M), EInv ops em base lvl K x listed t w m τ → M.leG base m0 m → Below base w0 w →
   ValidL ops listed l → ∃ t' w' m', Steps E.P (lone (FR fr t (.inRegion ops l :: k)) cs w) (lone (FR fr t' k) cs w') ∧ TR m' tmE t' ∧ HR m' base lvl hE w' ∧ M.leG base m0 m' ∧ Below base w0 w' := by
 intro l
 induction l with
 | nil =>
  intro fuel L hs x hx hcl hpe listed t τ w m hI hle hB hv
  have hall := all_listed hp hI.size hv
  have hnr : noneReady ops ops.size x.1 = true := by
   unfold noneReady
   rw [List.all_eq_true]
   intro i hi
   have := hI.sub i (hall i (List.mem_range.1 hi))
   unfold readyB
   split
   ·rw [this]; rfl
   ·rfl
  have hagree : τ = t := by
   refine Array.ext (by rw [hI.τsz, hI.tsz]) fun d h1 h2 => ?_
   have := hI.ag d fun j hj _ => hall j (by obtain ⟨o, ho, _⟩ := hj; exact (Array.getElem?_eq_some_iff.1 ho).1)
   simpa [h1, h2] using this
  cases fuel with
  | zero => simp [searchA] at hs
  | succ fuel =>
   have hs : (match (generalizing := false) L.all (fun x => noneReady ops ops.size x.1) with
    | true => match (generalizing := false) L with
     | [x] => some x.2
     | _ => none
    | false => match Nat.ble (lenL L) 200 && L.all (fun x => !noneReady ops ops.size x.1) with
     | true => match levelA S lvl K ops.size ops ms em L [] with
      | some L' => searchA S lvl K ops.size ops ms em fuel L'
      | none => none
     | false => none) = some (hE, tmE) := hs
   split at hs
   ·split at hs
    ·have hxy := List.mem_singleton.1 hx
     subst hxy
     simp only [Option.some.injEq] at hs
     refine ⟨t, w, m, .one stepF_regionEnd, ?_, ?_, hle, hB⟩
     ·have e : x.2.2 = tmE := by rw [hs]
      rw [← e, ← hagree]; exact hI.tr
     ·have e : x.2.1 = hE := by rw [hs]
      rw [← e]; exact hI.hr
    ·simp at hs
   ·split at hs
    ·rename_i hc
     simp only [Bool.and_eq_true, List.all_eq_true, Bool.not_eq_true'] at hc
     have := hc.2 x hx
     rw [hnr] at this; simp at this
    ·simp at hs
 | cons i l ih =>
  intro fuel L hs x hx hcl hpe listed t τ w m hI hle hB hv
  obtain ⟨hl, o, ho, hedges⟩ := mem_ready.1 hv.1
  have hi : i < ops.size := (Array.getElem?_eq_some_iff.1 ho).1
  have hils : i < listed.size := by rw [hI.size]; exact hi
  have hl' : listed.getD i false = false := by simp [hils] at hl ⊢; exact hl
  have hdeps : ∀ e ∈ o.after, bindsB e = true → listed.getD e.on false = true := fun e he hb => hedges e he (by rw [binds_any]; exact hb)
  have hpreL : ∀ j, Nat.testBit (getD0 ms i) j = true → listed.getD j false = true := by
   rw [hms]
   exact pre_listed hp (S := fun j => listed.getD j false = true) (fun i o h1 h2 => hI.downL i o h1 h2) i o ho hdeps
  have hbefore : ∀ j, Nat.testBit x.1 j = true → Nat.testBit (getD0 ms j) i = true → Nat.testBit x.1 i = true := by
   intro j hj hji
   have hjl := hI.lt j hj
   have hoj : ops[j]? = some ops[j] := Array.getElem?_eq_getElem hjl
   rw [hms] at hji
   exact pre_listed hp (S := fun j => Nat.testBit x.1 j = true) (fun i o h1 h2 => hI.downS i o h1 h2) j ops[j] hoj (hI.downS j ops[j] hoj hj) i hji
  have hlookag : ∀ d ∈ looks ops o, τ.getD d undef = t.getD d undef := by
   intro d hd
   refine hI.ag d fun j hj hjS => ?_
   cases hjl : listed.getD j false with
   | true => rfl
   | false =>
    exfalso
    have key : Nat.testBit (getD0 ms i) j = true := by
     rcases hp.pre i o ho d hd j hj with h | h
     ·rw [hms]; exact h
     ·have hiS := hbefore j hjS (by rw [hms]; exact h)
      have hemi := hI.pend i hiS hl'
      exact (eager_still hem ho hemi).2 d hd j hj
    have := hpreL j key
    rw [hjl] at this; simp at this
  have hlook : ∀ d ∈ looks ops o, ∀ a, x.2.2[d]? = some a → VR m a (t.getD d undef) := by
   intro d hd a ha
   obtain ⟨y, hy, hr⟩ := hI.tr.get ha
   have e : τ.getD d undef = y := by
    rw [Array.getD_eq_getD_getElem?]
    simp only [Array.getElem?_toList] at hy
    rw [hy]; rfl
   rw [← hlookag d hd, e]; exact hr
  have hsetT : ∀ j, (listed.setIfInBounds i true).getD j false = true ↔ j = i ∨ listed.getD j false = true := fun j => set_listed hils
  have hdownL' : ∀ j oj, ops[j]? = some oj → (listed.setIfInBounds i true).getD j false = true → ∀ e ∈ oj.after, bindsB e = true → (listed.setIfInBounds i true).getD e.on false = true := by
   intro j oj hoj hj e he hb
   rw [hsetT] at hj ⊢
   rcases hj with rfl | hj
   ·rw [ho] at hoj
    simp only [Option.some.injEq] at hoj
    subst hoj
    exact .inr (hdeps e he hb)
   ·exact .inr (hI.downL j oj hoj hj e he hb)
  by_cases hiS : Nat.testBit x.1 i = true
  ·-- it was run ahead
   have hemi := hI.pend i hiS hl'
   obtain ⟨hst, _⟩ := eager_still hem ho hemi
   obtain ⟨hg, d, hd⟩ := stillOp_guard hst
   have hpi := List.all_eq_true.1 hpe i (List.mem_range.2 hi)
   have hcond : (Nat.testBit em i && Nat.testBit x.1 i && !((List.range ops.size).any fun k => Nat.testBit x.1 k && !Nat.testBit em k && Nat.testBit (getD0 ms k) i)) = true := by
    rw [hemi, hiS]
    simp only [Bool.true_and, Bool.not_eq_true']
    rw [← Bool.not_eq_true, List.any_eq_true]
    rintro ⟨k, _, hk⟩
    simp only [Bool.and_eq_true, Bool.not_eq_true'] at hk
    obtain ⟨⟨k1, k2⟩, k3⟩ := hk
    have hkl : listed.getD k false = true := by
     cases hkl : listed.getD k false with
     | true => rfl
     | false => have := hI.pend k k1 hkl; rw [k2] at this; simp at this
    have hkz := hI.lt k k1
    have hok : ops[k]? = some ops[k] := Array.getElem?_eq_getElem hkz
    rw [hms] at k3
    have := pre_listed hp (S := fun j => listed.getD j false = true) (fun i o h1 h2 => hI.downL i o h1 h2) k ops[k] hok (hI.downL k ops[k] hok hkl) i k3
    rw [hl'] at this; simp at this
   rw [hcond] at hpi
   rw [ho] at hpi
   simp only [hd] at hpi
   split at hpi
   ·rename_i v h1 d' hval hd'
    simp only [Option.some.injEq] at hd'
    subst hd'
    have hh := hstill hst hval
    subst hh
    have hwant : wantedA ops x.2.2 o = true := by simp [wantedA, hg]
    have hpass : passB S lvl ops [i] x.2.1 x.2.2 = some (x.2.1, putT x.2.2 o.dst v) := by
     show (match ops[i]? with
      | some o => if wantedA ops x.2.2 o then (match S lvl x.2.1 x.2.2 i o with
       | some (z, h') => some (h', putT x.2.2 o.dst z)
       | none => none) else some (x.2.1, putT x.2.2 o.dst (.tup []))
      | none => none) = _
     rw [ho]
     simp only [hwant, if_true, hval]
    obtain ⟨y, v', h3, w', m', q1, q2, q3, q4, q5, q6⟩ := stepB hS (Virt.refl ops) hI.tr hI.tsz hI.hr (G0.below hB) ho hlook hpass fr cs l k
    have q6 : some (h3, putT x.2.2 o.dst v') = some (x.2.1, putT x.2.2 o.dst v) := q6
    simp only [Option.some.injEq, Prod.mk.injEq] at q6
    obtain ⟨q7, q8⟩ := q6
    rw [q7] at q4
    have htm : putT x.2.2 o.dst v = x.2.2 := by
     refine List.ext_getElem? fun e => ?_
     by_cases hde : e = d
     ·subst hde
      by_cases hlt : e < x.2.2.length
      ·rw [hd, putT_eq hlt]
       rw [getL_eq] at hpi
       rw [List.getElem?_eq_getElem hlt] at hpi ⊢
       simp only at hpi
       rw [eqAV_sound hpi]
      ·rw [List.getElem?_eq_none (by rw [putT_length]; omega), List.getElem?_eq_none (by omega)]
     ·exact putT_ne (by rw [hd]; simp; exact fun h => hde h.symm)
    have hT' : TR m' x.2.2 (putC τ o.dst y) := by
     have := putT_sound (hI.tr.monoG q2) o.dst q3
     rw [q8, htm] at this
     exact this
    obtain ⟨t', w2, m2, g1, g2⟩ := ih fuel L hs x hx hcl hpe (listed.setIfInBounds i true) (putC t o.dst y) (putC τ o.dst y) w' m' ⟨by simp [hI.size], fun j hj => by
      rw [hsetT] at hj
      rcases hj with rfl | hj
      ·exact hiS
      ·exact hI.sub j hj, hI.lt, fun j hj hj2 => by
      refine hI.pend j hj ?_
      cases hjl : listed.getD j false with
      | false => rfl
      | true => rw [(hsetT j).2 (.inr hjl)] at hj2; simp at hj2, hdownL', hI.downS, by rw [putC_size]; exact hI.tsz, hT', fun e he => by
      by_cases hde : e = d
      ·subst hde
       by_cases hlt : e < x.2.2.length
       ·rw [hd, putC_getD_eq (by rw [hI.τsz]; exact hlt), putC_getD_eq (by rw [hI.tsz]; exact hlt)]
       ·have e1 : (putC τ o.dst y).size ≤ e := by rw [putC_size, hI.τsz]; omega
        have e2 : (putC t o.dst y).size ≤ e := by rw [putC_size, hI.tsz]; omega
        rw [Array.getD_eq_getD_getElem?, Array.getD_eq_getD_getElem?, Array.getElem?_eq_none e1, Array.getElem?_eq_none e2]
      ·have hne : o.dst ≠ some e := by rw [hd]; simp; exact fun h => hde h.symm
       rw [putC_getD_ne hne, putC_getD_ne hne]
       refine hI.ag e fun j hj hjS => ?_
       have := he j hj hjS
       rw [hsetT] at this
       rcases this with rfl | h
       ·exfalso
        obtain ⟨oj, hoj, hdj⟩ := hj
        rw [ho] at hoj
        simp only [Option.some.injEq] at hoj
        subst hoj
        exact hne hdj
       ·exact h, q4, hI.kle⟩ (hle.trans q2) (hB.trans q5) hv.2
    exact ⟨t', w2, m2, Steps.trans q1 g1, g2⟩
   ·simp at hpi
  ·-- it is run now
   have hbit : Nat.testBit x.1 i = false := by simpa using hiS
   have hrdy : readyB ops x.1 i = true := by
    unfold readyB
    rw [ho]
    simp only [Bool.and_eq_true, Bool.not_eq_true', List.all_eq_true, Bool.or_eq_true]
    refine ⟨hbit, fun e he => ?_⟩
    by_cases hb : bindsB e = true
    ·exact .inr (hI.sub _ (hdeps e (by simpa using he) hb))
    ·left; simpa using hb
   have hnem : Nat.testBit em i = false := by
    have := List.all_eq_true.1 hcl i (List.mem_range.2 hi)
    rw [hrdy] at this
    simpa using this
   cases fuel with
   | zero => simp [searchA] at hs
   | succ fuel =>
    have hs : (match (generalizing := false) L.all (fun x => noneReady ops ops.size x.1) with
     | true => match (generalizing := false) L with
      | [x] => some x.2
      | _ => none
     | false => match Nat.ble (lenL L) 200 && L.all (fun x => !noneReady ops ops.size x.1) with
      | true => match levelA S lvl K ops.size ops ms em L [] with
       | some L' => searchA S lvl K ops.size ops ms em fuel L'
       | none => none
      | false => none) = some (hE, tmE) := hs
    split at hs
    ·rename_i hnr
     have := noneReady_of (List.all_eq_true.1 hnr x hx) hi
     rw [hrdy] at this; simp at this
    ·split at hs
     ·split at hs
      ·rename_i L' hlv
       obtain ⟨h1, tm1, z, p1, p3, p4⟩ := (levelA_spec L hlv).2 x hx i hi hrdy
       obtain ⟨y, v, h3, w', m', q1, q2, q3, q4, q5, q6⟩ := stepB hS (Virt.refl ops) hI.tr hI.tsz hI.hr (G0.below hB) ho hlook p1 fr cs l k
       have q6 : some (h3, putT x.2.2 o.dst v) = some (h1, tm1) := q6
       simp only [Option.some.injEq, Prod.mk.injEq] at q6
       obtain ⟨rfl, rfl⟩ := q6
       have hT1 : TR m' (putT x.2.2 o.dst v) (putC τ o.dst y) := putT_sound (hI.tr.monoG q2) _ q3
       have hK1 : K ≤ h3.length := by
        have a1 := q2.n; have a2 := q4.n; have a3 := hI.hr.n; have a4 := hI.kle; omega
       have hI1 : EInv ops em base lvl K (x.1 ||| 2 ^ i, h3, putT x.2.2 o.dst v) (listed.setIfInBounds i true) (putC t o.dst y) w' m' (putC τ o.dst y) := ⟨by simp [hI.size], fun j hj => by
         show Nat.testBit (x.1 ||| 2 ^ i) j = true
         rw [hsetT] at hj
         rw [bit_or]
         rcases hj with rfl | hj
         ·simp
         ·rw [hI.sub j hj]; rfl, fun j hj => by
         have hj : Nat.testBit (x.1 ||| 2 ^ i) j = true := hj
         rw [bit_or, Bool.or_eq_true] at hj
         rcases hj with hj | hj
         ·exact hI.lt j hj
         ·rw [← of_decide_eq_true hj]; exact hi, fun j hj hj2 => by
         have hj : Nat.testBit (x.1 ||| 2 ^ i) j = true := hj
         rw [bit_or, Bool.or_eq_true] at hj
         have hjl : listed.getD j false = false := by
          cases hjl : listed.getD j false with
          | false => rfl
          | true => rw [(hsetT j).2 (.inr hjl)] at hj2; simp at hj2
         rcases hj with hj | hj
         ·exact hI.pend j hj hjl
         ·have hj := of_decide_eq_true hj
          subst hj
          rw [(hsetT i).2 (.inl rfl)] at hj2; simp at hj2, hdownL', fun j oj hoj hj e he hb => by
         show Nat.testBit (x.1 ||| 2 ^ i) e.on = true
         have hj : Nat.testBit (x.1 ||| 2 ^ i) j = true := hj
         rw [bit_or, Bool.or_eq_true] at hj ⊢
         left
         rcases hj with hj | hj
         ·exact hI.downS j oj hoj hj e he hb
         ·have hj := of_decide_eq_true hj
          subst hj
          rw [ho] at hoj
          simp only [Option.some.injEq] at hoj
          subst hoj
          exact hI.sub _ (hdeps e he hb), by
         show (putC t o.dst y).size = (putT x.2.2 o.dst v).length
         rw [putC_size, putT_length, hI.tsz], hT1, fun e he => by
         have hold : ∀ j, Wr ops e j → o.dst ≠ some e → Nat.testBit x.1 j = true → listed.getD j false = true := fun j hj hne hjS => by
          have := he j hj (by show Nat.testBit (x.1 ||| 2 ^ i) j = true; rw [bit_or, hjS]; rfl)
          rw [hsetT] at this
          rcases this with rfl | h
          ·exfalso
           obtain ⟨oj, hoj, hdj⟩ := hj
           rw [ho] at hoj
           simp only [Option.some.injEq] at hoj
           subst hoj
           exact hne hdj
          ·exact h
         by_cases hne : o.dst = some e
         ·by_cases hlt : e < x.2.2.length
          ·rw [hne, putC_getD_eq (by rw [hI.τsz]; exact hlt), putC_getD_eq (by rw [hI.tsz]; exact hlt)]
          ·have e1 : (putC τ o.dst y).size ≤ e := by rw [putC_size, hI.τsz]; omega
           have e2 : (putC t o.dst y).size ≤ e := by rw [putC_size, hI.tsz]; omega
           rw [Array.getD_eq_getD_getElem?, Array.getD_eq_getD_getElem?, Array.getElem?_eq_none e1, Array.getElem?_eq_none e2]
         ·rw [putC_getD_ne hne, putC_getD_ne hne]
          exact hI.ag e fun j hj hjS => hold j hj hne hjS, q4, hK1⟩
       unfold aheadA at p3
       split at p3
       ·rename_i z1 hz1
        split at p3
        ·rename_i z2 hz2
         split at p3
         ·rename_i hok
          simp only [Option.some.injEq] at p3
          subst p3
          simp only [Bool.and_eq_true] at hok
          obtain ⟨τ2, hI2⟩ := closeE_inv hS hem ((G0.below hB).below q5) _ hz1 hI1
          obtain ⟨m2, hI3, c3⟩ := hI2.canon hlK hz2
          obtain ⟨t', w2, m3, g1, g2⟩ := ih fuel L' hs _ p4 hok.1 hok.2 _ _ τ2 w' m2 hI3 (leG_leK hm0 (hle.trans q2) c3) (hB.trans q5) hv.2
          exact ⟨t', w2, m3, Steps.trans q1 g1, g2⟩
         ·simp at p3
        ·simp at p3
       ·simp at p3
      ·simp at hs
     ·simp at hs
theorem len_still {lvl : Nat} {h h' : Heap} {ts : Array TypeId} {args : List AV} {x : AV} (h1 : builtinA E lvl h .len ts args = some (x, h')) : h' = h := by
 unfold builtinA at h1
 split at h1
 ·repeat' split at h1
  all_goals first | (simp only [Option.some.injEq, Prod.mk.injEq] at h1; exact h1.2.symm) | simp at h1
 all_goals first | contradiction | simp at h1 | (rename_i e _; exact absurd e (by simp)) | (rename_i e; exact absurd e (by simp)) | (rename_i e _ _; exact absurd e (by simp))
theorem still_spec {rec : RunT} {lvl : Nat} {h h' : Heap} {tm : Tm} {o : Oper} {x : AV} (hs : stillOp o = true) (h1 : stepOp E rec lvl h tm o = some (x, h')) : h' = h := by
 unfold stillOp at hs
 split at hs
 ·split at hs
  ·rename_i e; unfold stepOp at h1; simp only [e, Option.some.injEq, Prod.mk.injEq] at h1; exact h1.2.symm
  ·rename_i e; unfold stepOp at h1; simp only [e, Option.some.injEq, Prod.mk.injEq] at h1; exact h1.2.symm
  ·rename_i e; unfold stepOp at h1; simp only [e, Option.map_eq_some_iff, Prod.mk.injEq] at h1; obtain ⟨_, _, _, h1⟩ := h1; exact h1.symm
  ·rename_i e; unfold stepOp at h1; simp only [e] at h1
   split at h1
   ·simp only [Option.some.injEq, Prod.mk.injEq] at h1; exact h1.2.symm
   ·simp only [opA] at h1
    split at h1
    ·simp only [Option.map_eq_some_iff, Prod.mk.injEq] at h1; obtain ⟨_, _, _, h1⟩ := h1; exact h1.symm
    ·simp at h1
  ·rename_i e; unfold stepOp at h1; simp only [e] at h1
   split at h1
   ·simp only [Option.some.injEq, Prod.mk.injEq] at h1; exact h1.2.symm
   ·simp only [opA] at h1
    repeat' split at h1
    all_goals first | (simp only [Option.some.injEq, Prod.mk.injEq] at h1; exact h1.2.symm) | simp at h1
  ·rename_i e; unfold stepOp at h1; simp only [e] at h1
   split at h1
   ·simp only [Option.some.injEq, Prod.mk.injEq] at h1; exact h1.2.symm
   ·simp only [opA] at h1
    repeat' split at h1
    all_goals first | (simp only [Option.some.injEq, Prod.mk.injEq] at h1; exact h1.2.symm) | simp at h1
  ·rename_i e; unfold stepOp at h1; simp only [e] at h1
   split at h1
   ·simp only [Option.some.injEq, Prod.mk.injEq] at h1; exact h1.2.symm
   ·rename_i fn _ _ _ _
    cases fn <;> simp only [opA] at h1
    all_goals repeat' split at h1
    all_goals first | (simp only [Option.some.injEq, Prod.mk.injEq] at h1; exact h1.2.symm) | simp at h1
  ·rename_i e; unfold stepOp at h1; simp only [e] at h1
   repeat' split at h1
   all_goals first | (simp only [Option.some.injEq, Prod.mk.injEq] at h1; exact h1.2.symm) | (simp only [Option.map_eq_some_iff, Prod.mk.injEq] at h1; obtain ⟨_, _, _, h1⟩ := h1; exact h1.symm) | simp at h1
  ·rename_i e; unfold stepOp at h1; simp only [e] at h1
   split at h1
   ·simp only [Option.some.injEq, Prod.mk.injEq] at h1; exact h1.2.symm
   ·simp only [opA] at h1
    repeat' split at h1
    all_goals first | (simp only [Option.some.injEq, Prod.mk.injEq] at h1; exact h1.2.symm) | (simp only [Option.map_eq_some_iff, Prod.mk.injEq] at h1; obtain ⟨_, _, _, h1⟩ := h1; exact h1.symm) | simp at h1
  ·rename_i e; unfold stepOp at h1; simp only [e] at h1
   split at h1
   ·simp only [Option.some.injEq, Prod.mk.injEq] at h1; exact h1.2.symm
   ·simp only [opA] at h1
    repeat' split at h1
    all_goals first | (simp only [Option.some.injEq, Prod.mk.injEq] at h1; exact h1.2.symm) | simp at h1
  ·rename_i e; unfold stepOp at h1; simp only [e] at h1
   split at h1
   ·simp only [Option.some.injEq, Prod.mk.injEq] at h1; exact h1.2.symm
   ·simp only [opA] at h1
    repeat' split at h1
    all_goals first | (simp only [Option.some.injEq, Prod.mk.injEq] at h1; exact h1.2.symm) | simp at h1
  ·rename_i e; unfold stepOp at h1; simp only [e] at h1
   split at h1
   ·simp only [Option.some.injEq, Prod.mk.injEq] at h1; exact h1.2.symm
   ·simp only [opA] at h1
    repeat' split at h1
    all_goals first | (simp only [Option.some.injEq, Prod.mk.injEq] at h1; exact h1.2.symm) | simp at h1
  ·rename_i e; unfold stepOp at h1; simp only [e, callOp, calleeOf, yieldOf] at h1
   split at h1
   ·rename_i r hr
    simp only [Option.some.injEq] at h1
    subst h1
    exact len_still hr
   ·simp only [Option.map_eq_some_iff, Prod.mk.injEq] at h1
    obtain ⟨_, _, _, h1⟩ := h1; exact h1.symm
  ·simp at hs
 ·simp at hs
include hS in
theorem drawAll_sound (hstill : ∀ {lvl : Nat} {h h' : Heap} {tm : Tm} {i : Nat} {o : Oper} {x : AV}, stillOp o = true → S lvl h tm i o = some (x, h') → h' = h) (hmx : E.P.follows .mixedOrders = true) {base lvl : Nat} {h0 hEnd : Heap} {m0 : M} {w0 : World} {t0 : Array Value} {tm0 tmE : Tm} (hT0 : TR m0 tm0 t0) (H0 : HR m0 base lvl h0 w0) (G0 : GR E.gl base w0) (hs : drawAll S lvl ops h0 tm0 = some (hEnd, tmE))
  (tp : Nat) (fr : Frame) (cs : List Frame) (k : List Item) :
  ∃ t' w' m', Steps E.P (lone (FR fr t0 (.inRegion ops (Region.schedule (E.P.follows .mixedOrders) ops tp) :: k)) cs w0) (lone (FR fr t' k) cs w') ∧ TR m' tmE t' ∧ HR m' base lvl hEnd w' ∧ M.leG base m0 m' ∧ Below base w0 w' := by
 have e : Region.schedule (E.P.follows .mixedOrders) ops tp = Region.linearise.go .any ops ops.size tp (Array.replicate ops.size false) [] := by
  simp only [Region.schedule, hmx, Bool.true_or, if_true]
  rfl
 have hv := go_valid (ops := ops) ops.size tp (Array.replicate ops.size false) (List.range ops.size) (fun i hi _ => List.mem_range.2 hi) (by simp)
 unfold drawAll at hs
 split at hs
 ·rename_i hok
  have hp := opsOk_of hok
  have hn : lenL ops.toList = ops.size := by simp [lenL_eq]
  rw [hn, lenL_eq] at hs
  split at hs
  ·rename_i x hx
   have hem : ∀ i, Nat.testBit (eagerMask (masksFrom ops.toList []) ops ops.size) i = true → eagerAt (masksFrom ops.toList []) ops i = true := fun i hi => eagerMask_spec _ hi
   unfold aheadA at hx
   split at hx
   ·rename_i y hy
    split at hx
    ·rename_i z hz
     split at hx
     ·rename_i hc
      simp only [Option.some.injEq] at hx
      subst hx
      simp only [Bool.and_eq_true] at hc
      have hf : ∀ j, (Array.replicate ops.size false).getD j false = false := fun j => by
       by_cases h : j < ops.size <;> simp [h]
      obtain ⟨τ, hI⟩ := closeE_inv (K := h0.length) (listed := Array.replicate ops.size false) (t := t0) (τ := t0) hS hem G0 _ hy ⟨by simp, fun i hi => by rw [hf] at hi; simp at hi, fun i hi => by simp at hi, fun i hi => by simp at hi, fun i o _ hi => by rw [hf] at hi; simp at hi, fun i o _ hi => by simp at hi, by
       have := hT0.length; simp at this; show t0.size = tm0.length; omega, hT0, fun _ _ => rfl, H0, Nat.le_refl _⟩
      obtain ⟨m2, hI3, c3⟩ := hI.canon H0.lvlLe hz
      rw [e]
      exact searchA_sound hS hstill hp rfl hem H0.lvlLe H0.n G0 fr cs k _ _ _ hs _ (by simp) hc.1 hc.2 _ t0 τ w0 m2 hI3 (leG_leK H0.n (M.leG.refl _ _) c3) (Below.refl _ _) hv
     ·simp at hx
    ·simp at hx
   ·simp at hx
  ·simp at hs
 ·simp at hs
end
section
variable {E : Env} {rec : RunT} (hS : StepOk E (stdS E rec)) {ops : Array Oper}
include hS in
theorem drawX_sound (hmx : E.P.follows .mixedOrders = true) {base lvl : Nat} {h0 hEnd : Heap} {m0 : M} {w0 : World} {t0 : Array Value} {tm0 tmE : Tm} (hT0 : TR m0 tm0 t0) (H0 : HR m0 base lvl h0 w0) (G0 : GR E.gl base w0) (hs : drawX E (stdS E rec) lvl ops h0 tm0 = some (hEnd, tmE))
  (tp : Nat) (fr : Frame) (cs : List Frame) (k : List Item) :
  ∃ t' w' m', Steps E.P (lone (FR fr t0 (.inRegion ops (Region.schedule (E.P.follows .mixedOrders) ops tp) :: k)) cs w0) (lone (FR fr t' k) cs w') ∧ TR m' tmE t' ∧ HR m' base lvl hEnd w' ∧ M.leG base m0 m' ∧ Below base w0 w' := by
 unfold drawX at hs
 split at hs
 ·rename_i r hr
  rw [hs] at hr
  exact drawOps_sound hS hmx hT0 H0 G0 hr tp fr cs k
 ·exact drawAll_sound hS (fun h1 h2 => still_spec h1 h2) hmx hT0 H0 G0 hs tp fr cs k
end
end
end Go.Ev
end
section
namespace Go.Ev
open Go.RowKit
section
variable {E : Env} {rec : RunT}
theorem calleeFn_sound {m : M} {tm : Tm} {t : Array Value} (hT : TR m tm t) {f : Operand} {g : FuncId} {cs : List AV} (h : calleeFn tm f = some (g, cs)) : ∃ csC : Array Value, evC t f = .func (.func g) #[] csC ∧ All2 (VR m) cs csC.toList := by
 unfold calleeFn at h
 have hfv := evA_sound hT f
 split at h
 ·rename_i g' first cs' hev
  rw [hev] at hfv
  have hfv' : evC t f = .func (.func g') first cs' := hfv
  split at h
  ·rename_i hfirst
   have : first = #[] := by simpa using hfirst
   subst this
   simp only [Option.some.injEq, Prod.mk.injEq] at h
   obtain ⟨rfl, rfl⟩ := h
   refine ⟨cs', hfv', ?_⟩
   generalize cs'.toList = l
   induction l with
   | nil => trivial
   | cons a l ih => exact ⟨AV.of_sound m a, ih⟩
  ·simp at h
 ·rename_i g' cs' hev
  rw [hev] at hfv
  obtain ⟨vf, vc, hfv', h1, h2⟩ : ∃ vf vc : Array Value, evC t f = .func (.func g') vf vc ∧ All2 (CE.R m) [] vf.toList ∧ All2 (CE.R m) cs' vc.toList := hfv
  simp only [Option.some.injEq, Prod.mk.injEq] at h
  obtain ⟨rfl, rfl⟩ := h
  have : vf = #[] := by
   cases hv : vf.toList with
   | nil => exact Array.toList_inj.1 (by simpa using hv)
   | cons => rw [hv] at h1; exact h1.elim
  subst this
  exact ⟨vc, hfv', CEs.av h2⟩
 ·simp at h
theorem enter_sound {P : Program} {m : M} {base lvl : Nat} {h : Heap} {w : World} {tm : Tm} {t : Array Value} (hT : TR m tm t) (H : HR m base lvl h w) (fn : FuncId) (ps : Array Tmp) (asg body : Code) :
  ∃ w2 m2, (Instr.enterLoop fn t ps asg body none).run P w = .ok (w.heap.size + 1, [{ target := .collected w.heap.size, args := #[] }]) w2 ∧ HR m2 base lvl (h ++ [some markEnt] ++ [some (loopEnt .ready none tm ps asg body)]) w2 ∧ m.le m2 ∧ m2.n = h.length + 2 ∧
   m2.ρ (h.length + 1) = w.heap.size + 1 ∧ m2.ρ h.length = w.heap.size ∧ Below base w w2 := by
 have hmn := H.n
 have hs1 : (w.alloc (.deferred (some []))).heap.size = w.heap.size + 1 := World.size_alloc _ _
 have H1 : HR (m.push w.heap.size 0) base lvl (h ++ [some markEnt]) (w.alloc (.deferred (some []))) := H.newEnt rfl ⟨fun hx => by simp [markEnt] at hx, by
  show (w.alloc (.deferred (some []))).heap[(m.push w.heap.size 0).ρ m.n]? = _
  rw [M.push_ρ]
  exact World.alloc_heap_new w _⟩
 generalize hw1 : w.alloc (.deferred (some [])) = w1 at H1 hs1
 have hm1 : (m.push w.heap.size 0).n = h.length + 1 := by simp [hmn]
 have hle1 := M.le_push m w.heap.size 0
 have hρ1 : (m.push w.heap.size 0).ρ h.length = w.heap.size := by rw [← hmn]; exact M.push_ρ _ _ _
 have hT1 := hT.mono hle1
 generalize m.push w.heap.size 0 = m1 at *
 have hle2 := M.le_push m1 w1.heap.size 0
 have H2 : HR (m1.push w1.heap.size 0) base lvl (h ++ [some markEnt] ++ [some (loopEnt .ready none tm ps asg body)]) (w1.alloc (.loop { state := .ready, pending := none, fn := fn, tmps := t, params := ps, assign := asg, body, defers := w.heap.size })) :=
  H1.newEnt rfl ⟨fun hx => by simp [loopEnt] at hx, fn, t, w.heap.size, by
   rw [M.push_ρ]
   exact World.alloc_heap_new w1 _, hT1.mono hle2⟩
 refine ⟨_, _, ?_, H2, hle1.trans hle2, by simp [hm1], by rw [← hm1, M.push_ρ, hs1], by rw [hle2.ρ _ (by omega), hρ1], ?_⟩
 ·rw [← hw1]; exact run_enterLoop_outer _ _ _ _ _
 ·rw [← hw1] at hs1 ⊢
  exact ((Below.refl _ w).alloc H.baseLe _).alloc (by have := H.baseLe; rw [hs1]; omega) _
theorem loopA_sound (hE : EnvOk E) (hrec : RecOk E rec) {m : M} {base lvl : Nat} {h h' : Heap} {w : World} {tm : Tm} {t : Array Value} {fr : Frame} (hR : fr.roundOf = none) (hT : TR m tm t) (H : HR m base lvl h w) (G : GR E.gl base w) {f : Operand} {ps : Array Tmp} {asg body : Code} {pend : Option Code}
  (hs : loopA E rec lvl h tm f ps asg body = some (pend, h')) (cs : List Frame) (k : List Item) :
  ∃ w' m', Steps E.P (lone (FR fr t (.code (.rangeFunc f ps asg body) :: k)) cs w) (lone (FR { fr with defers := marksC m' [h.length] ++ fr.defers } t ((pend.map Item.code).toList ++ k)) cs w') ∧ HR m' base lvl h' w' ∧ M.leG base m m' ∧ Below base w w' ∧ h.length < m'.n := by
 unfold loopA at hs
 split at hs
 ·rename_i g as hcal
  obtain ⟨csC, hev, hcs⟩ := calleeFn_sound hT hcal
  split at hs
  ·rename_i fn hfn
   split at hs
   ·rename_i c hc
    split at hs
    ·rename_i v h2 hcb
     rw [lenL_eq, appL_eq, appL_eq] at hcb
     rw [lenL_eq, getL_eq] at hs
     split at hs
     ·rename_i a hab
      split at hs
      ·rename_i st pd tm' ps' asg' bo' hx
       obtain ⟨w2, m2, hen, H2, hle2, hn2, hρ2, hρ1, hB2⟩ := enter_sound (P := E.P) hT H fr.fn ps asg body
       have hargs : All2 (VR m2) (.e (.one (.yld (h.length + 1))) :: as) (#[Value.func (.yield (w.heap.size + 1)) #[] #[]] ++ csC).toList := by
        rw [Array.toList_append]
        refine ⟨⟨by omega, by rw [hρ2]⟩, ?_⟩
        exact hcs.imp fun _ _ => VR.mono hle2
       have hcall := callBody_sound hrec hfn hc hargs H2 (G.below hB2) hcb
       obtain ⟨e, w', fr', ⟨y, rfl, m', hp⟩, hsteps, _, hleave⟩ := hcall (FR { fr with defers := [{ target := .collected w.heap.size, args := #[] }] ++ fr.defers } t (.inRangeFunc (w.heap.size + 1) :: k) :: cs)
       have hent := (hp.heap.ent _ a hab).2
       rw [hx] at hent
       obtain ⟨fn', t2, D', hw', hT2⟩ := hent
       have hb2 : h.length + 1 < m2.n := by omega
       rw [hp.le.ρ _ hb2, hρ2] at hw'
       obtain ⟨hbusy, rfl, rfl⟩ : st ≠ .busy ∧ pd = pend ∧ setL h2 (h.length + 1) none = h' := by
        split at hs
        ·simp at hs
        ·rename_i hnb
         simp only [Option.some.injEq, Prod.mk.injEq] at hs
         exact ⟨hnb, hs.1, hs.2⟩
       have hEnd := run_endLoop (P := E.P) hw' hbusy
       have hlt := (Array.getElem?_eq_some_iff.1 hw').1
       have hlvl := H.lvlLe
       have hbl := (List.getElem?_eq_some_iff.1 hab).1
       have hown := hp.heap.own (h.length + 1) (by omega) hbl
       rw [hp.le.ρ _ hb2, hρ2] at hown
       have e1 : marksC m' [h.length] = [{ target := .collected w.heap.size, args := #[] }] := by
        simp only [marksC, List.map_cons, List.map_nil]
        rw [hp.le.ρ _ (by omega), hρ1]
       refine ⟨w'.putObj (w.heap.size + 1) (.loop { state := .exhausted, pending := pd, fn := fn', tmps := t2, params := ps', assign := asg', body := bo', defers := D' }), m', ?_, ?_, (hle2.g base).trans hp.le, (hB2.trans hp.below).trans (below_putObj hown _), by have := hp.le.n; omega⟩
       ·rw [e1]
        have hnb : ¬ fn.body = none := by rw [hc]; simp
        have hnum : ¬ fn.name = "runtime.NumGoroutine" := by simpa using hE.num g fn hfn
        have hst := stepF_rangeFunc (P := E.P) (fr := fr) (t := t) (cs := cs) (w := w) (k := k) (f := f) (ps := ps) (asg := asg) (body := body) (g := g) (args := #[Value.func (.yield (w.heap.size + 1)) #[] #[]] ++ csC) (d := { target := .fn (.func g) csC, args := #[Value.func (.yield (w.heap.size + 1)) #[] #[]] })
         (by rw [hR]; exact hen) (by
          have hcv : ∀ v : Value, evC t (.const v) = v := fun _ => rfl
          simp [resolve, hev, Deferred.ofValue, hcv]) (by simp [invoke, callFunc, hfn, hnb, hnum])
        exact .head hst (Steps.trans hsteps (.head (step_leave_returned hleave) (.one (stepF_endLoop hEnd))))
       ·rw [setL_eq]
        have := hp.heap.dropObj hab (by omega) (.loop { state := .exhausted, pending := pd, fn := fn', tmps := t2, params := ps', assign := asg', body := bo', defers := D' })
        rw [hp.le.ρ _ hb2, hρ2] at this
        exact this
      ·simp at hs
     ·simp at hs
    ·simp at hs
   ·simp at hs
  ·simp at hs
 ·simp at hs
theorem runF_sound (hE : EnvOk E) (hrec : RecOk E rec) : RecOk E (runF E rec) := by
 intro rd lvl h todo tm r hs fr t cs w m base hR hT H G
 have go : ∀ {todo' : List Item}, step E.P (lone (FR fr t todo) cs w) = .next (lone (FR fr t todo') cs w) → rec rd lvl h todo' tm = some r →
   ∃ t' todo'' w' m', Steps E.P (lone (FR fr t todo) cs w) (lone (FR { fr with defers := marksC m' r.marks ++ fr.defers } t' todo'') cs w') ∧ TR m' r.tm t' ∧ HR m' base lvl r.heap w' ∧ M.leG base m m' ∧ Below base w w' ∧ EndOk r.jump todo'' ∧ ∀ b ∈ r.marks, b < m'.n := by
  intro todo' hst hr
  obtain ⟨t', todo'', w', m', h1, h2⟩ := hrec _ _ _ _ _ _ hr fr t cs w m base hR hT H G
  exact ⟨t', todo'', w', m', .head hst h1, h2⟩
 unfold runF at hs
 split at hs
 ·simp only [Option.some.injEq] at hs; subst hs
  exact ⟨t, [], w, m, .refl _ _, hT, H, M.leG.refl _ m, Below.refl _ _, rfl, by simp⟩
 ·simp only [Option.some.injEq] at hs; subst hs
  exact ⟨t, _, w, m, .refl _ _, hT, H, M.leG.refl _ m, Below.refl _ _, ⟨_, rfl⟩, by simp⟩
 ·exact go stepF_skip hs
 ·exact go stepF_label hs
 ·exact go stepF_inBlock hs
 ·exact go stepF_inScope hs
 ·exact go stepF_seq hs
 ·rename_i c a b k
  split at hs
  ·rename_i tt hc
   have hv := evA_sound hT c
   rw [hc] at hv
   exact go (stepF_cond (show evC t c = .bool tt from hv)) hs
  ·simp at hs
 ·exact go stepF_block hs
 ·exact go stepF_loop hs
 ·exact go stepF_inLoop hs
 ·exact go stepF_scope hs
 ·rename_i id k
  split at hs
  ·rename_i k' hk
   exact go (stepF_exit hk) hs
  ·rename_i hk
   simp only [Option.some.injEq] at hs; subst hs
   exact ⟨t, _, w, m, .refl _ _, hT, H, M.leG.refl _ m, Below.refl _ _, ⟨k, rfl, hk⟩, by simp⟩
 ·rename_i id ops draw k
  cases draw with
  | false =>
   simp only [Bool.false_eq_true, if_false] at hs
   split at hs
   ·rename_i h1 tm1 hso
    obtain ⟨t1, w1, m1, hst, hT1, H1, hle1, hB1⟩ := stepOps_sound (stdS_ok hE hrec) ops ops.toList 0 (by simp) hT H G hso fr cs k
    obtain ⟨t', todo'', w', m', g1, g2, g3, g4, g5, g6⟩ := hrec _ _ _ _ _ _ hs fr t1 cs w1 m1 base (hR.mono hle1) hT1 H1 (G.below hB1)
    refine ⟨t', todo'', w', m', .head stepF_region (Steps.trans ?_ g1), g2, g3, hle1.trans g4, hB1.trans g5, g6⟩
    have e : List.range ops.size = List.range' 0 ops.toList.length := by rw [List.range_eq_range', Array.length_toList]
    rw [e]
    exact hst
   ·simp at hs
  | true =>
   simp only [if_true] at hs
   split at hs
   ·rename_i h1 tm1 hso
    have hB0 : Below base w { w with drawn := w.drawn + 1 } := ⟨rfl, rfl, rfl, Nat.le_refl _, fun _ _ => rfl⟩
    have H0 : HR m base lvl h { w with drawn := w.drawn + 1 } := H.world (Nat.le_refl _) fun _ _ => rfl
    obtain ⟨t1, w1, m1, hst, hT1, H1, hle1, hB1⟩ := drawX_sound (stdS_ok hE hrec) hE.mixed hT H0 (G.below hB0) hso (w.tape w.drawn (.order fr.fn id)) fr cs k
    obtain ⟨t', todo'', w', m', g1, g2, g3, g4, g5, g6⟩ := hrec _ _ _ _ _ _ hs fr t1 cs w1 m1 base (hR.mono hle1) hT1 H1 ((G.below hB0).below hB1)
    exact ⟨t', todo'', w', m', .head stepF_regionDraw (Steps.trans hst g1), g2, g3, hle1.trans g4, (hB0.trans hB1).trans g5, g6⟩
   ·simp at hs
 ·rename_i k
  split at hs
  ·rename_i b
   rw [getL_eq] at hs
   split at hs
   ·rename_i a hab
    split at hs
    ·rename_i pd tm' ps asg bo hx
     split at hs
     ·rename_i hlb
      rw [Nat.ble_eq] at hlb
      obtain ⟨hbn, hro, _⟩ := hR
      have hent := (H.ent b a hab).2
      rw [hx] at hent
      obtain ⟨fn', t2, D', hw', hT2⟩ := hent
      have hlt := (Array.getElem?_eq_some_iff.1 hw').1
      have hbr := run_beginRound (P := E.P) hw' rfl
      rw [setL_eq] at hs
      have H1 : HR m base lvl (h.set b (some { a with ext := .loop .busy pd tm' ps asg bo })) (w.putObj (m.ρ b) (.loop { state := .busy, pending := pd, fn := fn', tmps := t2, params := ps, assign := asg, body := bo, defers := D' })) :=
       H.putEnt hab hlb (by simp) (fun k hk => World.putObj_heap_other hk) ⟨fun hx => by simp at hx, fn', t2, D', World.putObj_heap_same hlt, hT2⟩
      have hB1 := below_putObj (w := w) (H.own b hlb (List.getElem?_eq_some_iff.1 hab).1) (.loop { state := .busy, pending := pd, fn := fn', tmps := t2, params := ps, assign := asg, body := bo, defers := D' })
      obtain ⟨t', todo'', w', m', g1, g2, g3, g4, g5, g6⟩ := hrec _ _ _ _ _ _ hs fr t cs _ m base ⟨hbn, hro, by assumption⟩ hT H1 (G.below hB1)
      exact ⟨t', todo'', w', m', .head (stepF_beginRound hro hbr) g1, g2, g3, g4, hB1.trans g5, g6⟩
     ·simp at hs
    ·simp at hs
   ·simp at hs
  ·simp at hs
 ·rename_i f ps asg body k
  split at hs
  ·split at hs
   ·rename_i pend h1 hl
    split at hs
    ·rename_i r' hr
     simp only [Option.some.injEq] at hs
     subst hs
     have hR0 : fr.roundOf = none := hR
     obtain ⟨w1, m1, hst, H1, hle1, hB1, hn1⟩ := loopA_sound hE hrec hR0 hT H G hl cs k
     obtain ⟨t', todo'', w', m', g1, g2, g3, g4, g5, g6, g7⟩ := hrec _ _ _ _ _ _ hr { fr with defers := marksC m1 [h.length] ++ fr.defers } t cs w1 m1 base (show fr.roundOf = none from hR0) (hT.monoG hle1) H1 (G.below hB1)
     refine ⟨t', todo'', w', m', Steps.trans hst ?_, g2, g3, hle1.trans g4, hB1.trans g5, g6, ?_⟩
     ·have e : marksC m' (appL r'.marks [lenL h]) ++ fr.defers = marksC m' r'.marks ++ (marksC m1 [h.length] ++ fr.defers) := by
       rw [appL_eq, lenL_eq]
       simp only [marksC, List.map_append, List.map_cons, List.map_nil, List.append_assoc]
       rw [g4.ρ _ hn1]
      simp only [e]
      exact g1
     ·intro b hb
      simp only [appL_eq, lenL_eq, List.mem_append, List.mem_singleton] at hb
      rcases hb with hb | rfl
      ·exact g7 b hb
      ·have := g4.n; omega
    ·simp at hs
   ·simp at hs
  ·simp at hs
 ·simp at hs
theorem run_sound (hE : EnvOk E) : ∀ n, RecOk E (run E n)
 | 0 => fun _ _ _ _ _ _ h => by simp [run] at h
 | n + 1 => runF_sound hE (run_sound hE n)
end
end Go.Ev
end
section
namespace Go.Ev
open Go.RowKit
noncomputable section
structure St where
 heap : Heap
 todo : List Item
 tm : Tm
def stepS (E : Env) (rc : RunT) (lvl : Nat) (s : St) : Option St :=
 match s.todo with
 | .code .skip :: k | .code (.label _) :: k | .inBlock _ :: k | .inScope _ :: k => some ⟨s.heap, k, s.tm⟩
 | .code (.seq a b) :: k => some ⟨s.heap, .code a :: .code b :: k, s.tm⟩
 | .code (.cond c a b) :: k => match evA s.tm c with
  | .e (.one (.v (.bool t))) => some ⟨s.heap, .code (if t then a else b) :: k, s.tm⟩
  | _ => none
 | .code (.block id body) :: k => some ⟨s.heap, .code body :: .inBlock id :: k, s.tm⟩
 | .code (.loop body) :: k | .inLoop body :: k => some ⟨s.heap, .code body :: .inLoop body :: k, s.tm⟩
 | .code (.scope body) :: k => some ⟨s.heap, .code body :: .inScope body :: k, s.tm⟩
 | .code (.exit id) :: k => match exitTo id k with
  | some k' => some ⟨s.heap, k', s.tm⟩
  | none => none
 | .code (.region _ ops draw) :: k => match (if draw then drawX E (stdS E rc) lvl ops s.heap s.tm else stepOps (stdS E rc) lvl ops ops.toList 0 s.heap s.tm) with
  | some (h', tm') => some ⟨h', k, tm'⟩
  | none => none
 | _ => none
def stepsS (E : Env) (rc : RunT) (lvl : Nat) (n : Nat) : St → Option St :=
 Nat.rec (motive := fun _ => St → Option St) (fun s => some s) (fun _ ih s => match stepS E rc lvl s with | some s' => ih s' | none => none) n
variable {E : Env} {rc : RunT}
end
end Go.Ev
end
section
namespace Go.Ev
open Go.RowKit
noncomputable section
inductive DAns where
 | len
 | ix (k : Nat)
 | fa
 | nc
 | ld (d : DT)
 | ldn (l : List DT)
 | sl (l u : Nat) (r : List DT)
 | z
 | cl
 | c1 (v : AV)
 | ap (n m : Nat) (xs l : List AC) (L N : Nat)
 | sp
 | ia (k : Nat)
inductive Ans where
 | go
 | rn (x : AV)
 | ld (c : AC)
 | ldn (l : List AC)
 | ix (k : Nat)
 | st (l : List AC)
 | quo (n : Int)
 | mk (n m : Nat) (N : Nat) (l : List AC)
 | app (L N : Nat) (l : List AC)
 | c0 (v : AV)
 | cl (e : List Nat) (fl : List Bool) (args : List AV) (hin : Heap) (v : AV) (hout : Heap) (v' : AV) (fl2 : List Bool) (nb : Heap)
 | cw (v : AV) (h' : Heap)
 | el (c : AC)
 | cpy (L N : Nat) (l : List AC)
 | apz
 | cmp (b : Bool) (xs ys : List UInt8)
 | oq
 | pk (b : Bool)
 | len (n : Nat)
 | cpu (n N : Nat) (l : List AC) (b : Bool)
 | fw
 | str (bs : List UInt8)
 | clq (e : List Nat) (fl : List Bool) (args : List AV) (hin : Heap) (v : AV) (hout : Heap) (v' : AV) (fl2 : List Bool) (nb : Heap)
 | eqs (b : Bool)
 | slo (l u o' n' c' : Nat)
 | s2a
 | fwq
 | sap
 | d (a : DAns)
 | fb (c : AC)
 | fc (c : AC)
 | fx (c : AC)
 | yd (v : AV) (h' : Heap)
 | nx (r : Option (Nat × Nat))
 | si (b : Nat)
 | apo (L : Nat) (xs l : List AC)
 | clr (l : List AC)
 | apx (L N : Nat) (l : List AC)
 | apq (L N : Nat) (l : List AC)
 | sl3 (l u mm o' n' c' : Nat)
 | mu (kv' : List (Value × Value))
 | lk (v : Value) (b : Bool)
def seeKV (d : TypeDesc) (k : Value) (kv : List (Value × Value)) (z : Value) : Option (Value × Bool) :=
 (findKV d k kv 0).map fun r => match r with | some (_, v) => (v, true) | none => (z, false)
def LenIs (x : AV) (n : Nat) : Prop := (∃ b o sz cap ex, x = .e (.one (.slc b o n sz cap ex))) ∨ ∃ p c, x = .e (.one (.v (.slice p n c)))
def isOq : Ans → Bool
 | .oq => true
 | .fwq => true
 | _ => false
def AllP (l : List Prop) : Prop := List.rec (motive := fun _ => Prop) True (fun p _ ih => p ∧ ih) l
def COut (E : Env) (lvl : Nat) (hin : Heap) (f : FuncId) (args : List AV) (v : AV) (hout : Heap) : Prop :=
 ∀ (m : M) (base : Nat) (w : World) (argsC : Array Value), All2 (VR m) args argsC.toList → HR m base lvl hin w → GR E.gl base w →
  Calls E.P f argsC w fun e w' => ∃ y, e = .returned y ∧ ∃ m', PostG m base lvl w v hout y w' m'
def RoundK (E : Env) (lvl : Nat) (h : Heap) (b : Nat) (args : List AV) (v : AV) (h' : Heap) : Prop :=
 ∀ (m : M) (base : Nat) (w : World) (argsC : Array Value), All2 (VR m) args argsC.toList → HR m base lvl h w → GR E.gl base w →
  ∃ fn tmps asg body, (Instr.yield (m.ρ b) argsC).run E.P w = .ok (.round (m.ρ b) fn tmps asg body) w ∧ Rounds E.P (m.ρ b) fn tmps asg body w fun y w' => ∃ m', PostG m base lvl w v h' y w' m'
def BinOk (P : Program) (op : BinOp) (t : TypeId) (x z : Operand) (cx cz c : AC) : Prop :=
 ∀ (m : M) (p q : Value) (w : World), CR m cx p → CR m cz q → ∃ y n, (do eqGuard op t x z p q; binOp op t p q : Sem Value).run P w = .ok y { w with drawn := n } ∧ CR m c y
def ConvOk (P : Program) (s d : TypeId) (cx c : AC) : Prop :=
 ∀ (m : M) (p : Value) (w : World), CR m cx p → ∃ y n, (convert s d p).run P w = .ok y { w with drawn := n } ∧ CR m c y
def ExtOk (P : Program) (f : FuncId) (args : List AV) (c : AC) : Prop :=
 ∀ (m : M) (ps : Array Value) (w : World), All2 (VR m) args ps.toList → ∃ y n, (callFunc f ps).run P w = .ok (.value y) { w with drawn := n } ∧ CR m c y
def boundA (tm : Tm) (x : Option Operand) (d : Int) : Option Int :=
 match x with
 | some p => intN? (evA tm p)
 | none => some d
theorem bounds_of {tm : Tm} {lo hi : Option Operand} {len cap l u : Nat} (h1 : boundA tm lo 0 = some (Int.ofNat l)) (h2 : boundA tm hi (Int.ofNat len) = some (Int.ofNat u)) (h : l ≤ u ∧ u ≤ cap) :
  sliceBoundsA len cap (lo.map (evA tm)) (hi.map (evA tm)) = some (l, u) := by
 have fin : ∀ (a b : Int), a = Int.ofNat l → b = Int.ofNat u → (if 0 ≤ a ∧ a ≤ b ∧ b ≤ (cap : Int) then some (a.toNat, b.toNat) else none) = some (l, u) := by
  intro a b ha hb
  subst ha hb
  simp only [Int.ofNat_eq_natCast]
  rw [if_pos (by omega)]
  simp
 unfold sliceBoundsA
 cases lo with
 | none =>
  have g1 := Option.some.inj h1
  cases hi with
  | none => exact fin 0 len g1 (Option.some.inj h2)
  | some q =>
   have h2 : intN? (evA tm q) = some (Int.ofNat u) := h2
   simp only [Option.map_some, Option.map_none, h2]
   exact fin 0 _ g1 rfl
 | some p =>
  have h1 : intN? (evA tm p) = some (Int.ofNat l) := h1
  cases hi with
  | none =>
   simp only [Option.map_some, Option.map_none, h1]
   exact fin _ len rfl (Option.some.inj h2)
  | some q =>
   have h2 : intN? (evA tm q) = some (Int.ofNat u) := h2
   simp only [Option.map_some, h1, h2]
   exact fin _ _ rfl rfl
def EqOk (E : Env) (t : TypeId) (l1 l2 : List AC) (b : Bool) : Prop :=
 ∀ (m : M) (c1 c2 : Array Value) (w : World), All2 (CR m) l1 c1.toList → All2 (CR m) l2 c2.toList → (Op.equalIn 10000 t (.agg c1) (.agg c2)).run E.P w = .ok b w
def u8c (b : UInt8) : AC := .v (.int .u8 b.toNat)
def emptyS : AV → Bool
 | .e (.one (.v (.slice _ n _))) => Nat.beq n 0
 | .e (.one (.slc _ _ n _ _ _)) => Nat.beq n 0
 | _ => false
def isSlc : AV → Bool
 | .e (.one (.v (.slice none n c))) => Nat.beq n 0 && Nat.beq c 0
 | .e (.one (.slc _ _ _ _ _ _)) => true
 | _ => false
def noRefs (a : AV) : Bool := match a.refs with | [] => true | _ => false
def FlatC (l : List AC) : Prop := ∀ c ∈ l, c.refs = []
def renFl (f : Nat → Nat) : List Bool → Heap → List (Option (Option AB))
 | true :: fs, b :: r => some b :: renFl f fs r
 | false :: fs, b :: r => some (b.map (AB.ren f)) :: renFl f fs r
 | _, _ => []
def FlatB : Option AB → Prop
 | some a => FlatC a.cells
 | none => True
def flatP : List Bool → Heap → Prop
 | true :: fs, b :: r => FlatB b ∧ flatP fs r
 | false :: fs, _ :: r => flatP fs r
 | _, _ => True
def CopyOk (h : Heap) (sz bytes : Nat) (x : AV) (n : Nat) (l : List AC) (b : Bool) : Prop :=
 (b = true ∧ n = 0 ∧ l = [] ∧ ∃ ds s0, x = .e (.one (.dp (.s ds 0 s0)))) ∨
 (b = false ∧ 0 < n ∧ small (0 + n) sz bytes = true ∧ l.all AC.isOne = true ∧ ∃ ds, x = .e (.one (.dp (.s ds n sz))) ∧ l = ds.map DT.ac ∧ ds.length = n * sz) ∨
 (b = true ∧ n = 0 ∧ l = [] ∧ ∃ p c, x = .e (.one (.v (.slice p 0 c)))) ∨
 (b = false ∧ 0 < n ∧ small (0 + n) sz bytes = true ∧ l.all AC.isOne = true ∧ ∃ b2 s2 cap2 ex2 a2, x = .e (.one (.slc b2 s2 n sz cap2 ex2)) ∧ blk h b2 = some a2 ∧ takeL (dropL a2.cells s2) (n * sz) = some l)
def StrOk (h : Heap) (x : AV) (bs : List UInt8) : Prop :=
 (bs = [] ∧ ∃ c, x = .e (.one (.v (.slice none 0 c)))) ∨
 (∃ b o sz cap ex, x = .e (.one (.slc b o bs.length sz cap ex)) ∧ (bs = [] ∨ (sz = 1 ∧ ∃ a, blk h b = some a ∧ takeL (dropL a.cells o) bs.length = some (bs.map u8c)))) ∨
 (∃ ds, x = .e (.one (.dp (.s ds bs.length 1))) ∧ 0 ≤ bs.length ∧ ds.map DT.ac = bs.map u8c)
def OpqC (K : Nat) (x : AC) : Prop := ∀ b ∈ x.refs, b < K
def plainB : Option AB → Bool
 | none => true
 | some a => match a.ext with | .cells => true | _ => false
def plainP : Heap → Prop
 | [] => True
 | b :: r => plainB b = true ∧ plainP r
def dV (E : Env) (lvl : Nat) (h : Heap) (tm : Tm) (o : Oper) (a : DAns) : Option (AV × Heap × List Prop) :=
 match a with
 | .len => match o.op with
  | .call c => match c.callee, c.args.toList.map (evA tm), c.argTypes.toList with
   | .builtin .len, [.e (.one (.dp (.s _ n _)))], [t] => match E.P.underlying t with
    | some (.slice _) => some (.e (.one (.v (.int .i64 n))), h, [])
    | _ => none
   | _, _, _ => none
  | _ => none
 | .ix k => match o.op with
  | .indexAddr t p i => match evA tm p, intOf? (evA tm i), E.P.underlying t with
   | .e (.one (.dp (.s cells len sz))), some (_, n), some (.slice el) => match E.P.info? el with
    | some e => match Nat.beq e.size sz with
     | true => some (.e (.one (.dp (.p cells k))), h, [0 ≤ n ∧ n < len, n.toNat * sz = k])
     | false => none
    | none => none
   | _, _, _ => none
  | _ => none
 | .sp => match o.op with
  | .sliceToArrayPointer t x => match E.P.underlying t, evA tm x with
   | some (.array N _), .e (.one (.dp (.s cells n _))) => match Nat.blt 0 N with
    | true => some (.e (.one (.dp (.p cells 0))), h, [N ≤ n])
    | false => none
   | _, _ => none
  | _ => none
 | .ia k => match o.op with
  | .indexAddr t p i => match evA tm p, intOf? (evA tm i), E.P.underlying t with
   | .e (.one (.dp (.p cells s))), some (_, n), some (.array len el) => match E.P.info? el with
    | some e => some (.e (.one (.dp (.p cells k))), h, [0 ≤ n ∧ n < len, s + n.toNat * e.size = k])
    | none => none
   | _, _, _ => none
  | _ => none
 | .fa => match o.op with
  | .fieldAddr s p f => match evA tm p, E.P.underlying s with
   | .e (.one (.dp (.p cells k))), some (.struct fs) => match fs[f]? with
    | some fd => match E.P.info? fd.type with
     | some i => match Nat.beq i.size 0 with
      | false => some (.e (.one (.dp (.p cells (k + fd.offset)))), h, [])
      | true => none
     | none => none
    | none => none
   | _, _ => none
  | _ => none
 | .nc => match o.op with
  | .nilCheck p => match evA tm p with
   | .e (.one (.dp (.p cells k))) => some (.e (.one (.dp (.p cells k))), h, [])
   | _ => none
  | .binOp b t x y _ => match evA tm x, evA tm y, E.P.underlying t, nilEq b with
   | .e (.one (.dp (.s _ n _))), .e (.one (.v (.slice none _ _))), some (.slice _), some r => some (.e (.one (.v (.bool r))), h, [0 < n])
   | _, _, _, _ => none
  | _ => none
 | .ld d => match o.op with
  | .load t p => match evA tm p, E.P.underlying t, E.P.info? t with
   | .e (.one (.dp (.p cells k))), some u, some _ => match isAggD u with
    | false => some (.e (.one d.ac), h, [getL cells k = some d])
    | true => none
   | _, _, _ => none
  | _ => none
 | .ldn l => match o.op with
  | .load t p => match evA tm p, E.P.underlying t, E.P.info? t with
   | .e (.one (.dp (.p cells k))), some u, some i => match isAggD u with
    | true => some (.e (.agg (l.map DT.ac)), h, [takeL (dropL cells k) i.size = some l])
    | false => none
   | _, _, _ => none
  | _ => none
 | .sl l u r => match o.op with
  | .slice t p lo hi none => match E.P.underlying t, evA tm p with
   | some (.slice el), .e (.one (.dp (.s cells n sz))) => match E.P.info? el, boundA tm lo 0, boundA tm hi (Int.ofNat n) with
    | some e, some l', some u' => match Nat.beq e.size sz with
     | true => some (.e (.one (.dp (.s r (u - l) sz))), h, [l' = Int.ofNat l, u' = Int.ofNat u, l ≤ u ∧ u ≤ n, takeL (dropL cells (l * sz)) ((u - l) * sz) = some r])
     | false => none
    | _, _, _ => none
   | _, _ => none
  | _ => none
 | .z => match o.op with
  | .slice t p lo (some hi) (some mx) => match E.P.underlying t, evA tm p with
   | some (.slice el), .e (.one (.dp (.s _ _ _))) => match E.P.info? el, boundA tm lo 0, intN? (evA tm hi), intN? (evA tm mx) with
    | some _, some 0, some 0, some 0 => some (.e (.one (.dp .z)), h, [])
    | _, _, _, _ => none
   | _, _ => none
  | _ => none
 | .cl => match o.op with
  | .call c => match c.callee, c.args.toList.map (evA tm), c.argTypes.toList with
   | .builtin .append, [.e (.one (.dp .z)), .e (.one (.dp (.s cells n sz)))], [t, xt] => match E.P.underlying t with
    | some (.slice el) => match E.P.info? el, zeroA E el with
     | some e, some z => match Nat.beq t xt && Nat.blt 0 e.size && Nat.beq (lenL z) e.size && Nat.beq sz e.size with
      | true => some (.e (.one (.dp (.s cells n sz))), h, [small n e.size e.bytes = true])
      | false => none
     | _, _ => none
    | _ => none
   | _, _, _ => none
  | _ => none
 | .c1 v => match o.op with
  | .call c => match calleeOf tm c with
   | some (f, args) => match E.P.funcs[f]? with
    | some fn => match fn.body.isSome with
     | true => some (v, h, [COut E (lenL h) h f args v h, v.refs = []])
     | false => none
    | none => none
   | none => none
  | _ => none
 | .ap n m xs l L N => match o.op with
  | .call c => match c.callee, c.args.toList.map (evA tm), c.argTypes.toList with
   | .builtin .append, [.e (.one (.slc b s len sz cap false)), .e (.one (.dp (.s ds m' sz2)))], [t, xt] => match E.P.underlying t with
    | some (.slice el) => match E.P.info? el, zeroA E el, blk h b with
     | some e, some z, some ab => match Nat.beq t xt && Nat.blt 0 e.size && Nat.beq (lenL z) e.size && Nat.beq sz e.size && Nat.beq sz2 e.size && Nat.ble lvl b && Nat.beq s 0 && Nat.beq ab.elem el && !ab.full with
      | true => some (.e (.one (.slc (lenL h) 0 L sz L false)), appL (setL h b none) [some ⟨l, N, el, false, .cells⟩], [m' = m, len = n, 0 < m, xs = ds.map DT.ac, ds.length = m * sz, xs.all AC.isOne = true, ¬ n + m ≤ cap, small (n + m) e.size e.bytes = true, ab.n = n * sz, appL ab.cells xs = l, n + m = L, L * sz = N])
      | false => none
     | _, _, _ => none
    | _ => none
   | _, _, _ => none
  | _ => none
def valV (E : Env) (rec : RunT) (lvl : Nat) (h : Heap) (tm : Tm) (o : Oper) (a : Ans) : Option (AV × Heap × List Prop) :=
 match a with
 | .go => match stepOp E rec lvl h tm o with
  | some (x, h') => some (x, h', [])
  | none => none
 | .rn y => match stepOp E rec lvl h tm o with
  | some (x, h') => some (y, h', [x = y])
  | none => none
 | .ld c => match o.op with
  | .load t p => match evA tm p, E.P.underlying t, E.P.info? t with
   | .e (.one (.ptr b k)), some d, some _ => match blk h b, isAggD d with
    | some ab, false => some (.e (.one c), h, [getL ab.cells k = some c])
    | _, _ => none
   | _, _, _ => none
  | _ => none
 | .ldn l => match o.op with
  | .load t p => match evA tm p, E.P.underlying t, E.P.info? t with
   | .e (.one (.ptr b k)), some d, some i => match blk h b, isAggD d with
    | some ab, true => some (.e (.agg l), h, [takeL (dropL ab.cells k) i.size = some l])
    | _, _ => none
   | _, _, _ => none
  | _ => none
 | .ix k => match o.op with
  | .indexAddr t p i => match evA tm p, intOf? (evA tm i), E.P.underlying t with
   | .e (.one (.ptr b s)), some (_, n), some (.array len el) => match E.P.info? el with
    | some e => some (.e (.one (.ptr b k)), h, [0 ≤ n ∧ n < len, s + n.toNat * e.size = k])
    | none => none
   | .e (.one (.slc b s len sz _ _)), some (_, n), some (.slice el) => match E.P.info? el with
    | some e => match Nat.beq e.size sz with
     | true => some (.e (.one (.ptr b k)), h, [0 ≤ n ∧ n < len, s + n.toNat * sz = k])
     | false => none
    | none => none
   | _, _, _ => none
  | _ => none
 | .st l => match o.op with
  | .store t p x => match evA tm p, evA tm x with
   | .e (.one (.ptr b s)), .e x => match blk h b, E.P.info? t, x.cells? with
    | some ab, some i, some cs => match Nat.ble lvl b && Nat.beq (lenL cs) i.size && cs.all AC.isOne with
     | true => some (.tup [], setL h b (some { ab with cells := l }), [s + i.size ≤ ab.n, overL cs ab.cells s = l])
     | false => none
    | _, _, _ => none
   | _, _ => none
  | _ => none
 | .quo r => match o.op with
  | .binOp op _ x y _ => match evA tm x, evA tm y with
   | .e (.one (.v (.int k p))), .e (.one (.v (.int j q))) => match decide (k = j), op with
    | true, .quo => some (.e (.one (.v (.int k r))), h, [q ≠ 0, wrapF k (p.tdiv q) = r])
    | true, .rem => some (.e (.one (.v (.int k r))), h, [q ≠ 0, p.tmod q = r])
    | _, _ => none
   | _, _ => none
  | _ => none
 | .mk n m N l => match o.op with
  | .makeSlice t p c => match E.P.underlying t, intOf? (evA tm p), intOf? (evA tm c) with
   | some (.slice el), some (_, n'), some (_, m') => match E.P.info? el, zeroA E el with
    | some e, some z => match Nat.beq (lenL z) e.size && Nat.blt 0 e.size with
     | true => some (.e (.one (.slc (lenL h) 0 n e.size m true)), appL h [some ⟨l, N, el, true, .cells⟩], [0 ≤ n' ∧ n' ≤ m', small m'.toNat e.size e.bytes = true, n'.toNat = n, m'.toNat = m, m * e.size = N, repeatC z m = l])
     | false => none
    | _, _ => none
   | _, _, _ => none
  | _ => none
 | .app L N l => match o.op with
  | .call c => match c.callee, c.args.toList.map (evA tm), c.argTypes.toList with
   | .builtin .append, [.e (.one (.slc b s len sz cap false)), .e (.one (.slc b2 s2 m sz2 cap2 ex2))], [t, xt] => match E.P.underlying t with
    | some (.slice el) => match E.P.info? el, zeroA E el, blk h b with
     | some e, some z, some ab => match srcCells h e.size m (.e (.one (.slc b2 s2 m sz2 cap2 ex2))) with
      | some xs => match Nat.beq t xt && Nat.blt 0 e.size && Nat.beq (lenL z) e.size && xs.all AC.isOne && Nat.beq sz e.size && Nat.ble lvl b && Nat.beq s 0 && Nat.blt 0 m && Nat.beq ab.elem el && !ab.full with
       | true => some (.e (.one (.slc (lenL h) 0 L sz L false)), appL (setL h b none) [some ⟨l, N, el, false, .cells⟩], [¬ len + m ≤ cap, small (len + m) e.size e.bytes = true, ab.n = len * sz, appL ab.cells xs = l, len + m = L, L * sz = N])
       | false => none
      | none => none
     | _, _, _ => none
    | _ => none
   | _, _, _ => none
  | _ => none
 | .c0 v => match o.op with
  | .call c => match calleeOf tm c with
   | some (f, args) => match E.P.funcs[f]? with
    | some fn => match fn.body.isSome && args.all noRefs with
     | true => some (v, h, [COut E 0 [] f args v [], v.refs = []])
     | false => none
    | none => none
   | none => none
  | _ => none
 | .cl e fl args' hin v hout v' fl2 nb => match o.op with
  | .call c => match calleeOf tm c with
   | some (f, args) => match E.P.funcs[f]? with
    | some fn => match fn.body.isSome && Nat.beq (lenL e) (lenL hin) && (e.all fun b => Nat.blt b (lenL h)) && (dropL hout (lenL hin)).all plainB && hin.all plainB && nb.all plainB && Nat.beq (lenL fl) (lenL hin) && Nat.beq (lenL fl2) (lenL (dropL hout (lenL hin))) with
     | true => some (v', appL h nb, [COut E (lenL hin) hin f args' v hout, args'.map (AV.ren (nthE e (lenL h) (lenL hin))) = args, e.map (getL h) = renFl (nthE e (lenL h) (lenL hin)) fl hin, flatP fl hin,
       renFl (nthE e (lenL h) (lenL hin)) fl2 (dropL hout (lenL hin)) = nb.map some, flatP fl2 (dropL hout (lenL hin)), v.ren (nthE e (lenL h) (lenL hin)) = v'])
     | false => none
    | none => none
   | none => none
  | _ => none
 | .el c => match o.op with
  | .index t x y => match evA tm x, intOf? (evA tm y), E.P.underlying t with
   | .e (.agg l), some (_, n), some (.array len el) => match E.P.underlying el, E.P.info? el with
    | some d, some i => match isAggD d, Nat.beq i.size 1 with
     | false, true => some (.e (.one c), h, [0 ≤ n ∧ n < len, getL l n.toNat = some c])
     | _, _ => none
    | _, _ => none
   | _, _, _ => none
  | _ => none
 | .cpy L N l => match o.op with
  | .call c => match c.callee, c.args.toList.map (evA tm), c.argTypes.toList with
   | .builtin .append, [.e (.one (.slc b s 0 sz 0 true)), .e (.one (.slc b2 s2 m sz2 cap2 ex2))], [t, xt] => match E.P.underlying t with
    | some (.slice el) => match E.P.info? el, zeroA E el, blk h b, blk h b2 with
     | some e, some z, some ab, some a2 => match Nat.beq t xt && Nat.blt 0 e.size && Nat.beq (lenL z) e.size && Nat.beq sz e.size && Nat.beq sz2 e.size with
      | true => some (.e (.one (.slc (lenL h) 0 L sz L false)), appL h [some ⟨l, N, el, false, .cells⟩], [0 < m, small (0 + m) e.size e.bytes = true, takeL (dropL a2.cells s2) (m * sz) = some l, l.all AC.isOne = true, 0 + m = L, L * sz = N])
      | false => none
     | _, _, _, _ => none
    | _ => none
   | _, _, _ => none
  | _ => none
 | .apz => match o.op with
  | .call c => match c.callee, c.args.toList.map (evA tm), c.argTypes.toList with
   | .builtin .append, [s, x], [t, xt] => match E.P.underlying t, E.P.underlying xt, (match E.P.underlying t with | some (.slice el) => E.P.info? el | _ => none) with
    | some (.slice _), some (.slice _), some _ => match isSlc s && emptyS x with
     | true => some (s, h, [])
     | false => none
    | _, _, _ => none
   | _, _, _ => none
  | _ => none
 | .cmp b xs ys => match o.op with
  | .binOp op t x y _ => match evA tm x, evA tm y, E.P.underlying t with
   | .e (.agg l1), .e (.agg l2), some (.array n el) => match E.P.underlying el, E.P.info? el, E.P.eqGuardType E.P.depth t with
    | some (.int .u8), some i, false => match Nat.beq i.size 1, op with
     | true, .eql => some (.e (.one (.v (.bool b))), h, [l1 = xs.map u8c, l2 = ys.map u8c, xs.length = n, ys.length = n, (xs == ys) = b])
     | true, .neq => some (.e (.one (.v (.bool b))), h, [l1 = xs.map u8c, l2 = ys.map u8c, xs.length = n, ys.length = n, (!(xs == ys)) = b])
     | _, _ => none
    | _, _, _ => none
   | _, _, _ => none
  | _ => none
 | .oq => match stepOp E rec lvl h tm o with
  | some (x, h') => some (x, h', [])
  | none => none
 | .pk b => match o.op with
  | .pick c p q => match evA tm c with
   | .e (.one (.v (.bool t))) => some (match b with | true => evA tm p | false => evA tm q, h, [t = b])
   | _ => none
  | _ => none
 | .len n => match o.op with
  | .call c => match c.callee, c.args.toList.map (evA tm), c.argTypes.toList with
   | .builtin .len, [x], [t] => match E.P.underlying t with
    | some (.slice _) => some (.e (.one (.v (.int .i64 n))), h, [LenIs x n])
    | _ => none
   | _, _, _ => none
  | _ => none
 | .cpu n N l b => match o.op with
  | .call c => match c.callee, c.args.toList.map (evA tm), c.argTypes.toList with
   | .builtin .append, [.e (.one (.slc b0 s 0 sz 0 true)), x], [t, xt] => match E.P.underlying t, E.P.underlying xt with
    | some (.slice el), some (.slice _) => match E.P.info? el, zeroA E el, blk h b0 with
     | some e, some z, some ab => match Nat.beq t xt && Nat.blt 0 e.size && Nat.beq (lenL z) e.size && Nat.beq sz e.size && Nat.ble lvl b0 && Nat.beq ab.elem el && ab.full && Nat.beq ab.n 0 with
      | true => some (.e (.one (.slc (lenL h) 0 n sz n b)), appL (setL h b0 none) [some ⟨l, N, el, b, .cells⟩], [CopyOk h e.size e.bytes x n l b, n * sz = N])
      | false => none
     | _, _, _ => none
    | _, _ => none
   | _, _, _ => none
  | _ => none
 | .fw => match opA E lvl tm h o.op with
  | some (x, h') => some (x, h', [])
  | none => none
 | .fwq => match opA E lvl tm h o.op with
  | some (x, h') => some (x, h', [])
  | none => none
 | .cw v h' => match o.op with
  | .call c => match calleeOf tm c with
   | some (f, args) => match E.P.funcs[f]? with
    | some fn => match fn.body.isSome with
     | true => some (v, h', [COut E lvl h f args v h'])
     | false => none
    | none => none
   | none => none
  | _ => none
 | .str bs => match o.op with
  | .convert s d x => match E.P.underlying s, E.P.underlying d with
   | some (.slice el), some .string => match E.P.underlying el with
    | some (.int .u8) => some (.e (.one (.v (.string ⟨bs.toArray⟩))), h, [StrOk h (evA tm x) bs])
    | _ => none
   | _, _ => none
  | _ => none
 | .clq e fl args' hin v hout v' fl2 nb => match o.op with
  | .call c => match calleeOf tm c with
   | some (f, args) => match E.P.funcs[f]? with
    | some fn => match fn.body.isSome && Nat.beq (lenL e) (lenL hin) && (e.all fun b => Nat.blt b (lenL h)) && Nat.beq (lenL fl) (lenL hin) && Nat.beq (lenL fl2) (lenL (dropL hout (lenL hin))) with
     | true => some (v', appL h nb, [COut E (lenL hin) hin f args' v hout, args'.map (AV.ren (nthE e (lenL h) (lenL hin))) = args, e.map (getL h) = renFl (nthE e (lenL h) (lenL hin)) fl hin, flatP fl hin,
       renFl (nthE e (lenL h) (lenL hin)) fl2 (dropL hout (lenL hin)) = nb.map some, flatP fl2 (dropL hout (lenL hin)), v.ren (nthE e (lenL h) (lenL hin)) = v', plainP hin, plainP (dropL hout (lenL hin)), plainP nb])
     | false => none
    | none => none
   | none => none
  | _ => none
 | .eqs b => match o.op with
  | .binOp op t x y _ => match evA tm x, evA tm y, op, E.P.eqGuardType E.P.depth t with
   | .e (.agg l1), .e (.agg l2), .eql, false => some (.e (.one (.v (.bool b))), h, [EqOk E t l1 l2 b])
   | .e (.agg l1), .e (.agg l2), .neq, false => some (.e (.one (.v (.bool b))), h, [EqOk E t l1 l2 (!b)])
   | _, _, _, _ => none
  | _ => none
 | .slo l u o' n' c' => match o.op with
  | .slice t x lo hi none => match E.P.underlying t, evA tm x with
   | some (.slice el), .e (.one (.slc b o len sz cap ex)) => match E.P.info? el, boundA tm lo 0, boundA tm hi (Int.ofNat len) with
    | some e, some l', some u' => match Nat.beq e.size sz with
     | true => some (.e (.one (.slc b o' n' sz c' ex)), h, [l' = Int.ofNat l, u' = Int.ofNat u, l ≤ u ∧ u ≤ cap, o' = o + l * sz, n' = u - l, c' = cap - l])
     | false => none
    | _, _, _ => none
   | _, _ => none
  | _ => none
 | .sl3 l u mm o' n' c' => match o.op with
  | .slice t x lo (some hi) (some mx) => match E.P.underlying t, evA tm x with
   | some (.slice el), .e (.one (.slc b o _ sz cap _)) => match E.P.info? el, boundA tm lo 0, intN? (evA tm hi), intN? (evA tm mx) with
    | some e, some l', some u', some m' => match Nat.beq e.size sz with
     | true => some (.e (.one (.slc b o' n' sz c' true)), h, [l' = Int.ofNat l, u' = Int.ofNat u, m' = Int.ofNat mm, l ≤ u ∧ u ≤ mm ∧ mm ≤ cap, o' = o + l * sz, n' = u - l, c' = mm - l])
     | false => none
    | _, _, _, _ => none
   | _, _ => none
  | _ => none
 | .sap => match o.op with
  | .slice t x none none none => match E.P.underlying t, evA tm x with
   | some (.array n el), .e (.one (.ptr b off)) => match E.P.info? el, blk h b with
    | some e, some ab => match Nat.ble n 2000000 with
     | true => some (.e (.one (.slc b off n e.size n true)), h, [off + n * e.size ≤ ab.n])
     | false => none
    | _, _ => none
   | _, _ => none
  | _ => none
 | .d a => dV E lvl h tm o a
 | .fb c => match o.op with
  | .binOp op t x z _ => match evA tm x, evA tm z with
   | .e (.one cx), .e (.one cz) => some (.e (.one c), h, [BinOk E.P op t x z cx cz c])
   | _, _ => none
  | _ => none
 | .fc c => match o.op with
  | .convert s d x => match evA tm x with
   | .e (.one cx) => some (.e (.one c), h, [ConvOk E.P s d cx c])
   | _ => none
  | _ => none
 | .nx r => match o.op with
  | .next x true => match evA tm x with
   | .e (.one (.ptr b 0)) => match iterOf h b with
    | some (a, s, pos) => match Nat.ble lvl b, r with
     | true, some (rr, q) => some (.tup [.one (.v (.bool true)), .one (.v (.int .i64 pos)), .one (.v (.int .i32 rr))], setL h b (some { a with ext := .iter s q }), [pos < s.size, (Utf8.decode s pos).1 = rr, pos + (Utf8.decode s pos).2 = q])
     | true, none => some (.tup [.one (.v (.bool false))], h, [¬ pos < s.size])
     | false, _ => none
    | none => none
   | _ => none
  | _ => none
 | .si b => match o.op with
  | .index t x y => match evA tm x, intOf? (evA tm y), E.P.underlying t with
   | .e (.one (.v (.string s))), some (_, n), some .string => some (.e (.one (.v (.int .u8 (Int.ofNat b)))), h, [0 ≤ n, (s[n.toNat]?).map UInt8.toNat = some b])
   | _, _, _ => none
  | _ => none
 | .apo L xs l => match o.op with
  | .call c => match c.callee, c.args.toList.map (evA tm), c.argTypes.toList with
   | .builtin .append, [.e (.one (.slc b s len sz cap ex)), .e (.one (.slc b2 s2 m sz2 cap2 ex2))], [t, xt] => match E.P.underlying t with
    | some (.slice el) => match E.P.info? el, zeroA E el, blk h b, blk h b2 with
     | some e, some z, some ab, some a2 => match Nat.beq t xt && Nat.blt 0 e.size && Nat.beq (lenL z) e.size && Nat.beq sz e.size && Nat.beq sz2 e.size && Nat.ble lvl b with
      | true => some (.e (.one (.slc b s L sz cap ex)), setL h b (some { ab with cells := l }), [0 < m, len + m = L, len + m ≤ cap, small (len + m) e.size e.bytes = true, takeL (dropL a2.cells s2) (m * sz) = some xs, xs.all AC.isOne = true, s + (len + m) * sz ≤ ab.n, overL xs ab.cells (s + len * sz) = l])
      | false => none
     | _, _, _, _ => none
    | _ => none
   | _, _, _ => none
  | _ => none
 | .clr l => match o.op with
  | .call c => match c.callee, c.args.toList.map (evA tm), c.argTypes.toList with
   | .builtin .clear, [.e (.one (.slc b s len sz cap _))], [t] => match E.P.underlying t with
    | some (.slice el) => match E.P.info? el, zeroA E el, blk h b with
     | some e, some z, some ab => match Nat.ble lvl b && Nat.beq e.size sz && Nat.beq (lenL z) sz with
      | true => some (.tup [], setL h b (some { ab with cells := l }), [0 < len, len ≤ cap, s + len * sz ≤ ab.n, (repeatC z len).all AC.isOne = true, overL (repeatC z len) ab.cells s = l])
      | false => none
     | _, _, _ => none
    | _ => none
   | _, _, _ => none
  | _ => none
 | .apx L N l => match o.op with
  | .call c => match c.callee, c.args.toList.map (evA tm), c.argTypes.toList with
   | .builtin .append, [.e (.one (.slc b s len sz cap true)), .e (.one (.slc b2 s2 m sz2 cap2 ex2))], [t, xt] => match E.P.underlying t with
    | some (.slice el) => match E.P.info? el, zeroA E el, blk h b with
     | some e, some z, some ab => match srcCells h e.size m (.e (.one (.slc b2 s2 m sz2 cap2 ex2))) with
      | some xs => match Nat.beq t xt && Nat.blt 0 e.size && Nat.beq (lenL z) e.size && xs.all AC.isOne && Nat.beq sz e.size with
       | true => some (.e (.one (.slc (lenL h) 0 L sz L false)), appL h [some ⟨l, N, el, false, .cells⟩], [¬ len + m ≤ cap, small (len + m) e.size e.bytes = true, ∃ olds, takeL (dropL ab.cells s) (len * sz) = some olds ∧ appL olds xs = l, len + m = L, L * sz = N])
       | false => none
      | none => none
     | _, _, _ => none
    | _ => none
   | _, _, _ => none
  | _ => none
 | .apq L N l => match o.op with
  | .call c => match c.callee, c.args.toList.map (evA tm), c.argTypes.toList with
   | .builtin .append, [.e (.one (.slc b s len sz cap false)), .e (.one (.slc b2 s2 m sz2 cap2 ex2))], [t, xt] => match E.P.underlying t with
    | some (.slice el) => match E.P.info? el, zeroA E el, blk h b with
     | some e, some z, some ab => match srcCells h e.size m (.e (.one (.slc b2 s2 m sz2 cap2 ex2))) with
      | some xs => match Nat.beq t xt && Nat.blt 0 e.size && Nat.beq (lenL z) e.size && xs.all AC.isOne && Nat.beq sz e.size && Nat.ble lvl b && Nat.blt 0 m && Nat.beq ab.elem el && !ab.full with
       | true => some (.e (.one (.slc (lenL h) s L sz cap false)), appL (setL h b none) [some ⟨l, N, el, false, .cells⟩], [len + m ≤ cap, small (len + m) e.size e.bytes = true, ¬ s + (len + m) * sz ≤ ab.n, ab.n = s + len * sz, appL ab.cells xs = l, len + m = L, s + L * sz = N])
       | false => none
      | none => none
     | _, _, _ => none
    | _ => none
   | _, _, _ => none
  | _ => none
 | .yd v h' => match o.op with
  | .call c => match calleeOf tm c, yieldOf tm c with
   | none, some (b, args) => some (v, h', [RoundK E lvl h b args v h'])
   | _, _ => none
  | _ => none
 | .fx c => match o.op with
  | .call c' => match calleeOf tm c' with
   | some (f, args) => match E.P.funcs[f]? with
    | some fn => match fn.body.isSome with
     | false => some (.e (.one c), h, [ExtOk E.P f args c])
     | true => none
    | none => none
   | none => none
  | _ => none
 | .s2a => match o.op with
  | .sliceToArrayPointer t x => match E.P.underlying t, evA tm x with
   | some (.array n _), .e (.one (.slc b o len _ _ _)) => match Nat.blt 0 n with
    | true => some (.e (.one (.ptr b o)), h, [n ≤ len])
    | false => none
   | _, _ => none
  | _ => none
 | .mu kv' => match o.op with
  | .mapUpdate t x i y => match E.P.underlying t, evA tm x, evA tm i, evA tm y with
   | some (.map key _), .e (.one (.mp b)), .e (.one (.v k)), .e a => match mapOf h b, E.P.underlying key, a.val? with
    | some (ab, kv), some d, some v => match Nat.ble lvl b with
     | true => some (.tup [], setL h b (some { ab with ext := .map kv' }), [(findKV d k kv 0).map (putKV k v kv) = some kv', keyB d k = true])
     | false => none
    | _, _, _ => none
   | _, _, _, _ => none
  | _ => none
 | .lk v bb => match o.op with
  | .lookup t x i ok => match E.P.underlying t, evA tm x, evA tm i with
   | some (.map key elem), .e (.one (.mp b)), .e (.one (.v k)) => match mapOf h b, E.P.underlying key, (E.P.info? elem).bind (·.zero) with
    | some (_, kv), some d, some z => some (match ok with | true => .tup [AE.of v, .one (.v (.bool bb))] | false => .e (AE.of v), h, [seeKV d k kv z = some (v, bb), keyB d k = true])
    | _, _, _ => none
   | _, _, _ => none
  | _ => none
def ansOf (l : List (Nat × Ans)) (i : Nat) : Ans := List.rec (motive := fun _ => Ans) .go (fun p _ ih => if Nat.beq p.1 i then p.2 else ih) l
def boolAt (l : List (Nat × Bool)) (i : Nat) : Option Bool := List.rec (motive := fun _ => Option Bool) none (fun p _ ih => if Nat.beq p.1 i then some p.2 else ih) l
def wantV (ops : Array Oper) (tm : Tm) (o : Oper) (g : Option Bool) : Bool × List Prop :=
 match g with
 | none => (wantedA ops tm o, [])
 | some b => match o.guard with
  | none => (true, [])
  | some (j, want) => match (ops[j]?).bind (·.dst) with
   | some d => match getL tm d with
    | some (.e (.one (.v (.bool c)))) => (b, [(c == want) = b])
    | _ => (false, [])
   | none => (false, [])
def opsV (E : Env) (rec : RunT) (a : List (Nat × Ans)) (g : List (Nat × Bool)) (lvl : Nat) (ops : Array Oper) (l : List Oper) : Nat → Heap → Tm → Option (Heap × Tm × List Prop) :=
 List.rec (motive := fun _ => Nat → Heap → Tm → Option (Heap × Tm × List Prop)) (fun _ h tm => some (h, tm, []))
  (fun o _ ih i h tm => match wantV ops tm o (boolAt g i) with
   | (true, q) => (match valV E rec lvl h tm o (ansOf a i) with
    | some (x, h', ps) => (match ih (Nat.succ i) h' (putT tm o.dst x) with
     | some (h2, tm2, qs) => some (h2, tm2, q ++ (ps ++ qs))
     | none => none)
    | none => none)
   | (false, q) => (match ih (Nat.succ i) h (putT tm o.dst (.tup [])) with
     | some (h2, tm2, qs) => some (h2, tm2, q ++ qs)
     | none => none)) l
def passAV (E : Env) (rec : RunT) (a : List (Nat × Ans)) (g : List (Nat × Bool)) (ops : Array Oper) (h : Heap) (l : List Nat) : Tm → Option (Tm × List Prop) :=
 List.rec (motive := fun _ => Tm → Option (Tm × List Prop)) (fun tm => some (tm, [])) (fun i _ ih tm => match ops[i]? with
  | some o => (match wantV ops tm o (boolAt g i) with
   | (true, q) => (match valV E rec (lenL h) h tm o (ansOf a i) with
    | some (x, _, ps) => (match isOq (ansOf a i) with
     | true => (match ih (putT tm o.dst x) with
      | some (tm2, qs) => some (tm2, q ++ (ps ++ (((refsBelow (lenL h) x.refs && (!callV o || x.flat)) = true) :: qs)))
      | none => none)
     | false => if refsBelow (lenL h) x.refs && (!callV o || x.flat) then (match ih (putT tm o.dst x) with
      | some (tm2, qs) => some (tm2, q ++ (ps ++ qs))
      | none => none) else none)
    | none => none)
   | (false, q) => (match ih (putT tm o.dst (.tup [])) with
     | some (tm2, qs) => some (tm2, q ++ qs)
     | none => none))
  | none => none) l
def passBV (E : Env) (rec : RunT) (a : List (Nat × Ans)) (g : List (Nat × Bool)) (lvl : Nat) (ops : Array Oper) (l : List Nat) : Heap → Tm → Option (Heap × Tm × List Prop) :=
 List.rec (motive := fun _ => Heap → Tm → Option (Heap × Tm × List Prop)) (fun h tm => some (h, tm, [])) (fun i _ ih h tm => match ops[i]? with
  | some o => (match wantV ops tm o (boolAt g i) with
   | (true, q) => (match valV E rec lvl h tm o (ansOf a i) with
    | some (x, h', ps) => (match ih h' (putT tm o.dst x) with
     | some (h2, tm2, qs) => some (h2, tm2, q ++ (ps ++ qs))
     | none => none)
    | none => none)
   | (false, q) => (match ih h (putT tm o.dst (.tup [])) with
     | some (h2, tm2, qs) => some (h2, tm2, q ++ qs)
     | none => none))
  | none => none) l
def segsV (E : Env) (rec : RunT) (a : List (Nat × Ans)) (g : List (Nat × Bool)) (lvl : Nat) (ops : Array Oper) (l : List Seg) : Heap → Tm → Option (Heap × Tm × List Prop) :=
 List.rec (motive := fun _ => Heap → Tm → Option (Heap × Tm × List Prop)) (fun h tm => some (h, tm, [])) (fun p _ ih h tm => match passAV E rec a g ops h p.a tm with
  | some (tm1, q1) => match passBV E rec a g (lenL h) ops p.b1 h tm1 with
   | some (h2, tm2, q2) => match passBV E rec a g lvl ops p.b2 h2 tm2 with
    | some (h3, tm3, q3) => (match ih h3 tm3 with
     | some (h4, tm4, q4) => some (h4, tm4, q1 ++ (q2 ++ ((aliveLe h h2 = true) :: (q3 ++ q4))))
     | none => none)
    | none => none
   | none => none
  | none => none) l
def drawV (E : Env) (rec : RunT) (a : List (Nat × Ans)) (g : List (Nat × Bool)) (lvl : Nat) (ops : Array Oper) (h : Heap) (tm : Tm) : Option (Heap × Tm × List Prop) :=
 match planOf E.P ops with
 | some l => segsV E rec a g lvl ops l h tm
 | none => none
inductive SAns where
 | run (n : Nat)
 | cond (b : Bool)
 | ops (a : List (Nat × Ans)) (g : List (Nat × Bool))
def stepV (E : Env) (rec : RunT) (lvl : Nat) (a : SAns) (s : St) : Option (St × List Prop) :=
 match a with
 | .run n => match stepsS E rec lvl n s with
  | some s' => some (s', [])
  | none => none
 | .cond b => match s.todo with
  | .code (.cond c x y) :: k => match evA s.tm c with
   | .e (.one (.v (.bool t))) => some (⟨s.heap, .code (match b with | true => x | false => y) :: k, s.tm⟩, [t = b])
   | _ => none
  | _ => none
 | .ops l g => match s.todo with
  | .code (.region _ ops draw) :: k => match (match draw with | true => drawV E rec l g lvl ops s.heap s.tm | false => opsV E rec l g lvl ops ops.toList 0 s.heap s.tm) with
   | some (h', tm', ps) => some (⟨h', k, tm'⟩, ps)
   | none => none
  | _ => none
def chainV (E : Env) (rec : RunT) (lvl : Nat) (l : List SAns) : St → Option (St × List Prop) :=
 List.rec (motive := fun _ => St → Option (St × List Prop)) (fun s => some (s, [])) (fun a _ ih s => match stepV E rec lvl a s with
  | some (s1, ps) => (match ih s1 with
   | some (s2, qs) => some (s2, ps ++ qs)
   | none => none)
  | none => none) l
def RdOk (m : M) (K : Nat) (rd : Option Nat) (fr : Frame) : Prop := match rd with
 | none => fr.roundOf = none
 | some b => b < K ∧ fr.roundOf = some (m.ρ b) ∧ fr.kind = .normal
def OutK (E : Env) (lvl K : Nat) (s : St) (Φ : Res → Prop) (rd : Option Nat := none) : Prop :=
 ∀ (fr : Frame) (t : Array Value) (cs : List Frame) (w : World) (m : M) (base : Nat), RdOk m K rd fr → TR m s.tm t → HR m base lvl s.heap w → GR E.gl base w → K ≤ m.n →
  ∃ r, Φ r ∧ ∃ t' todo' w' m', Steps E.P (lone (FR fr t s.todo) cs w) (lone (FR { fr with defers := marksC m' r.marks ++ fr.defers } t' todo') cs w') ∧ TR m' r.tm t' ∧ HR m' base lvl r.heap w' ∧ M.leK base K m m' ∧ Below base w w' ∧ EndOk r.jump todo' ∧ ∀ b ∈ r.marks, b < m'.n
end
end Go.Ev
end
section
namespace Go.Ev
open Go.RowKit
theorem allP_append : ∀ {l m : List Prop}, AllP (l ++ m) ↔ AllP l ∧ AllP m
 | [], m => by simp [AllP]
 | p :: l, m => by
  show p ∧ AllP (l ++ m) ↔ (p ∧ AllP l) ∧ AllP m
  rw [allP_append, and_assoc]
theorem flat_ren {l : List AC} (h : FlatC l) (f : Nat → Nat) : l.map (AC.ren f) = l := map_ren_id fun a ha => AC.ren_id (h a ha)
theorem flat_ab {a : AB} (h : FlatC a.cells) (f : Nat → Nat) : a.ren f = a := by
 cases a
 simp only [AB.ren]
 rw [flat_ren h]
theorem renFl_eq (f : Nat → Nat) : ∀ {fl : List Bool} {h : Heap}, fl.length = h.length → flatP fl h → renFl f fl h = h.map (fun b => some (b.map (AB.ren f)))
 | [], [], _, _ => rfl
 | true :: fs, b :: r, hl, hf => by
  simp only [renFl, List.map_cons]
  rw [renFl_eq f (by simpa using hl) hf.2]
  have h1 := hf.1
  cases b with
  | none => rfl
  | some a => simp only [Option.map_some]; rw [flat_ab h1]
 | false :: fs, b :: r, hl, hf => by
  simp only [renFl, List.map_cons]
  rw [renFl_eq f (fl := fs) (h := r) (by simpa using hl) hf]
 | [], _ :: _, hl, _ => by simp at hl
 | _ :: _, [], hl, _ => by simp at hl
section
variable {E : Env} {rec : RunT} {m : M} {base lvl : Nat} {h h' : Heap} {w : World} {tm : Tm} {t : Array Value} {x : AV}
theorem call_enter (hE : EnvOk E) (hT : TR m tm t) {o : Oper} {c : Call} (hop : o.op = .call c) {f : FuncId} {args : List AV} (hcal : calleeOf tm c = some (f, args)) {fn : Func} (hfn : E.P.funcs[f]? = some fn) (hbody : fn.body.isSome = true) (w : World) :
  ∃ argsC : Array Value, (execOp (evC t) o).run E.P w = .ok (.enter f argsC) w ∧ All2 (VR m) args argsC.toList := by
 have hargs := args_sound hT c.args
 have hnb : ¬ fn.body = none := fun e => by simp [e] at hbody
 have hnum : ¬ fn.name = "runtime.NumGoroutine" := by simpa using hE.num f fn hfn
 unfold calleeOf at hcal
 split at hcal
 ·rename_i fo hfo
  have hfv := evA_sound hT fo
  split at hcal
  ·rename_i g first cs' hev
   rw [hev] at hfv
   have hfv' : evC t fo = .func (.func g) first cs' := hfv
   split at hcal
   ·rename_i hfirst
    have : first = #[] := by simpa using hfirst
    subst this
    simp only [Option.some.injEq, Prod.mk.injEq] at hcal
    obtain ⟨rfl, rfl⟩ := hcal
    refine ⟨c.args.map (evC t) ++ cs', ?_, ?_⟩
    ·simp [execOp, hop, resolve, hfo, hfv', Deferred.ofValue, invoke, callFunc, hfn, hnb, hnum]
    ·rw [Array.toList_append]
     refine hargs.append ?_
     generalize cs'.toList = l
     induction l with
     | nil => trivial
     | cons a l ih => exact ⟨AV.of_sound m a, ih⟩
   ·simp at hcal
  ·rename_i g fs' cs' hev
   rw [hev] at hfv
   obtain ⟨vf, vc, hfv', h1, h2⟩ : ∃ vf vc : Array Value, evC t fo = .func (.func g) vf vc ∧ All2 (CE.R m) fs' vf.toList ∧ All2 (CE.R m) cs' vc.toList := hfv
   simp only [Option.some.injEq, Prod.mk.injEq] at hcal
   obtain ⟨rfl, rfl⟩ := hcal
   refine ⟨vf ++ (c.args.map (evC t) ++ vc), ?_, ?_⟩
   ·simp [execOp, hop, resolve, hfo, hfv', Deferred.ofValue, invoke, callFunc, hfn, hnb, hnum]
   ·rw [Array.toList_append, Array.toList_append]
    exact (CEs.av h1).append (hargs.append (CEs.av h2))
  ·simp at hcal
 ·simp at hcal
def rec0 : RunT := fun _ _ _ _ _ => none
theorem rec0_ok (E : Env) : RecOk E rec0 := fun _ _ _ _ _ _ h => by simp [rec0] at h
theorem callOther (hE : EnvOk E) (H : HR m base lvl h w) (G : GR E.gl base w) {f : FuncId} {e : List Nat} {args' args : List AV} {hin hout nb : Heap} {v v' : AV} {argsC : Array Value} (ha : All2 (VR m) args argsC.toList)
  (hl : e.length = hin.length) (he : ∀ b ∈ e, b < h.length) (hp : ∀ b ∈ hout.drop hin.length, plainB b = true) (hpi : ∀ b ∈ hin, plainB b = true) (hpn : ∀ b ∈ nb, plainB b = true) (hc : COut E hin.length hin f args' v hout)
  (h1 : args'.map (AV.ren (nthE e h.length hin.length)) = args) (h2 : e.map (fun b => h[b]?) = hin.map (fun b => some (b.map (AB.ren (nthE e h.length hin.length)))))
  (h3 : (hout.drop hin.length).map (fun b => b.map (AB.ren (nthE e h.length hin.length))) = nb) (h4 : v.ren (nthE e h.length hin.length) = v') :
  Calls E.P f argsC w fun e w' => ∃ y, e = .returned y ∧ ∃ m', PostG m base lvl w v' (h ++ nb) y w' m' := by
 have hmn := H.n
 let mc : M := { n := hin.length, ρ := fun i => m.ρ (getD0 e i), κ := fun i => m.κ (getD0 e i), lo := hin.length, F := m.F }
 have hg : ∀ i, i < hin.length → ∃ b, e[i]? = some b ∧ getD0 e i = b ∧ b < h.length := fun i hi => by
  have hi' : i < e.length := by omega
  refine ⟨e[i], List.getElem?_eq_getElem hi', ?_, he _ (List.getElem_mem hi')⟩
  rw [getD0_eq, List.getD_eq_getElem?_getD, List.getElem?_eq_getElem hi']; rfl
 have hnth : ∀ i, i < hin.length → nthE e h.length hin.length i = getD0 e i := fun i hi => by simp [nthE, hi]
 have hnth2 : ∀ i, ¬ i < hin.length → nthE e h.length hin.length i = h.length + (i - hin.length) := fun i hi => by simp [nthE, hi]
 have hback : ∀ i, nthE e h.length hin.length i < m.n → i < hin.length := fun i hi => by
  by_cases hlt : i < hin.length
  ·exact hlt
  ·rw [hnth2 i hlt] at hi; omega
 have hρ : ∀ b, b < hin.length → m.ρ (nthE e h.length hin.length b) = mc.ρ b := fun b hb => by rw [hnth b hb]
 have hκ : ∀ b, b < hin.length → m.κ (nthE e h.length hin.length b) = mc.κ b := fun b hb => by rw [hnth b hb]
 have hargs : All2 (VR mc) args' argsC.toList := by
  rw [← h1] at ha
  refine all2_unren (fun a _ y hy => VR.unren (m1 := mc) (m2 := m) (fun _ hp => hp) rfl hρ hκ (fun b hb => ?_) hy) ha
  refine hback b (VR.refs_lt hy _ ?_)
  rw [AV.refs_ren]
  exact List.mem_map_of_mem hb
 have Hc : HR mc w.heap.size hin.length hin w := by
  refine ⟨rfl, Nat.le_refl _, Nat.le_refl _, fun i a hi => ?_, fun b h1 h2 => by omega, fun b b' h1 h2 _ _ hlo _ => ?_, Nat.le_refl _, fun p hp => ⟨(H.tab p hp).1, fun b a hb ha => by
   have := (List.getElem?_eq_some_iff.1 ha).1
   omega⟩⟩
  ·have hlt : i < hin.length := (List.getElem?_eq_some_iff.1 hi).1
   obtain ⟨b, g1, g2, g3⟩ := hg i hlt
   have hx : h[b]? = some (some (a.ren (nthE e h.length hin.length))) := by
    have e1 : (e.map (fun b => h[b]?))[i]? = some h[b]? := by rw [List.getElem?_map, g1]; rfl
    rw [h2, List.getElem?_map, hi] at e1
    simpa using e1.symm
   have hxt : a.ext = .cells := by
    have := hpi _ (List.mem_of_getElem? hi)
    simp only [plainB] at this
    split at this
    ·assumption
    ·simp at this
   have B := H.blk b _ hx (by simpa [AB.ren] using hxt)
   obtain ⟨b1, b2, c, fz, b3, b4, b5, b6, b7⟩ := B
   refine ⟨fun _ => ⟨by simpa [AB.ren] using b1, fun hf => ?_, c, fz, ?_, ?_, fun hlo => absurd hlo (show ¬ hin.length ≤ i by omega), b6, ?_⟩, by rw [hxt]; trivial⟩
   ·show a.n = m.κ (getD0 e i); rw [g2]; exact b2 hf
   ·show w.heap[m.ρ (getD0 e i)]? = _; rw [g2]; exact b3
   ·show c.size = m.κ (getD0 e i); rw [g2]; exact b4
   ·have b7' : All2 (CR m) (a.cells.map (AC.ren (nthE e h.length hin.length))) (c.toList.take a.n) := b7
    refine all2_unren (fun x _ y hy => CR.unren (m1 := mc) (m2 := m) (fun _ hp => hp) rfl hρ hκ (fun k hk => hback k (CR.refs_lt hy _ ?_)) hy) b7'
    rw [AC.refs_ren]
    exact List.mem_map_of_mem hk
  ·have : hin.length ≤ b ∨ hin.length ≤ b' := hlo
   omega
 refine (hc mc w.heap.size w argsC hargs Hc (G.up H.baseLe)).mono fun en w' ⟨y, hy, m1, hp1⟩ => ⟨y, hy, ?_⟩
 have hle1 := hp1.le
 have H1 := hp1.heap
 have hn1 : hin.length ≤ m1.n := hle1.n
 have hn1' := H1.n
 have hnbl : nb.length = hout.length - hin.length := by rw [← h3]; simp
 let m2 : M := { n := h.length + nb.length, ρ := fun b => if b < h.length then m.ρ b else m1.ρ (b - h.length + hin.length), κ := fun b => if b < h.length then m.κ b else m1.κ (b - h.length + hin.length), lo := m.lo, F := m1.F }
 have hle2 : M.leG base m m2 := ⟨by simp only [m2]; omega, fun b hb => by simp only [m2]; rw [if_pos (by omega)], fun b hb => by simp only [m2]; rw [if_pos (by omega)], rfl, hle1.F, fun p hp => (hle1.fresh p hp).imp_right (Nat.le_trans H.baseLe)⟩
 have Hw : HR m base lvl h w' := H.world hp1.below.size hp1.below.block
 have names : ∀ b, b < m1.n → Names m1 m2 (nthE e h.length hin.length) b := fun b hb => by
  by_cases hlt : b < hin.length
  ·obtain ⟨k, g1, g2, g3⟩ := hg b hlt
   rw [← show nthE e h.length hin.length b = k by rw [hnth b hlt, g2]] at g3
   refine ⟨by simp only [m2]; omega, ?_, ?_⟩
   ·simp only [m2, g3, if_true]; rw [hρ b hlt]; exact (hle1.ρ b hlt).symm
   ·simp only [m2, g3, if_true]; rw [hκ b hlt]; exact (hle1.κ b hlt).symm
  ·have e1 := hnth2 b hlt
   have e2 : h.length + (b - hin.length) - h.length + hin.length = b := by omega
   exact ⟨by rw [e1]; simp only [m2]; omega, by rw [e1]; simp only [m2]; rw [if_neg (by omega), e2], by rw [e1]; simp only [m2]; rw [if_neg (by omega), e2]⟩
 have newAt : ∀ (b : Nat) (a : AB), ¬ b < h.length → (h ++ nb)[b]? = some (some a) → ∃ a0, hout[b - h.length + hin.length]? = some (some a0) ∧ a0.ext = .cells ∧ a = a0.ren (nthE e h.length hin.length) ∧ m2.ρ b = m1.ρ (b - h.length + hin.length) ∧ m2.κ b = m1.κ (b - h.length + hin.length) := by
  intro b a hlt hb
  rw [List.getElem?_append, if_neg hlt, ← h3, List.getElem?_map, List.getElem?_drop] at hb
  have e1 : hin.length + (b - h.length) = b - h.length + hin.length := by omega
  rw [e1] at hb
  cases ho : hout[b - h.length + hin.length]? with
  | none => rw [ho] at hb; simp at hb
  | some o =>
   rw [ho] at hb
   simp only [Option.map_some, Option.some.injEq] at hb
   cases o with
   | none => simp at hb
   | some a0 =>
    simp only [Option.map_some, Option.some.injEq] at hb
    have hpl := hp (some a0) (List.mem_of_getElem? (i := b - h.length) (by rw [List.getElem?_drop, e1]; exact ho))
    refine ⟨a0, rfl, ?_, hb.symm, by simp only [m2]; rw [if_neg hlt], by simp only [m2]; rw [if_neg hlt]⟩
    simp only [plainB] at hpl
    split at hpl
    ·assumption
    ·simp at hpl
 refine ⟨m2, hle2, ?_, ⟨by simp [m2], by have := H.lvlLe; simp; omega, Hw.baseLe, ?_, ?_, ?_, H.lo, ?_⟩, hp1.below.mono H.baseLe⟩
 ·rw [← h4]
  exact VR.ren (m1 := m1) (m2 := m2) (fun _ hp => hp) (fun b hb => names b (VR.refs_lt hp1.val b hb)) hp1.val
 ·intro b a hb
  by_cases hlt : b < h.length
  ·rw [List.getElem?_append, if_pos hlt] at hb
   exact (Hw.ent b a hb).monoG hle2 (by omega)
  ·obtain ⟨a0, g1, g2, rfl, g5, g6⟩ := newAt b a hlt hb
   obtain ⟨b1, b2, c, fz, b3, b4, b5, b6, b7⟩ := H1.blk _ a0 g1 g2
   refine ⟨fun _ => ⟨by simpa [AB.ren] using b1, fun hf => by rw [g6]; exact b2 hf, c, fz, by rw [g5]; exact b3, by rw [g6]; exact b4, fun _ => b5 (by have h0 : m1.lo = hin.length := hle1.lo; omega), b6, ?_⟩, by simp only [AB.ren, g2]; trivial⟩
   exact all2_ren (fun x hx y hy => CR.ren (m1 := m1) (m2 := m2) (fun _ hp => hp) (fun k hk => names k (CR.refs_lt hy k hk)) hy) b7
 ·intro b hl' hb
  simp at hb
  by_cases hlt : b < h.length
  ·rw [hle2.ρ b (by omega)]; exact H.own b hl' hlt
  ·have e1 : m2.ρ b = m1.ρ (b - h.length + hin.length) := by simp only [m2]; rw [if_neg hlt]
   rw [e1]
   have := H1.own (b - h.length + hin.length) (by omega) (by omega)
   have := H.baseLe
   omega
 ·intro b b' hb hb' ⟨a, ha'⟩ ⟨a', ha''⟩ hlo he'
  by_cases hlt : b < h.length <;> by_cases hlt' : b' < h.length
  ·rw [hle2.ρ b (by omega), hle2.ρ b' (by omega)] at he'
   rw [List.getElem?_append, if_pos hlt] at ha'
   rw [List.getElem?_append, if_pos hlt'] at ha''
   exact H.inj b b' hlt hlt' ⟨a, ha'⟩ ⟨a', ha''⟩ hlo he'
  ·rw [List.getElem?_append, if_pos hlt] at ha'
   obtain ⟨a0, g1, _, _, g5, _⟩ := newAt b' a' hlt' ha''
   rw [hle2.ρ b (by omega), g5] at he'
   have k1 := (H.ent b a ha').lt
   have k2 := H1.own _ (by omega) (List.getElem?_eq_some_iff.1 g1).1
   omega
  ·rw [List.getElem?_append, if_pos hlt'] at ha''
   obtain ⟨a0, g1, _, _, g5, _⟩ := newAt b a hlt ha'
   rw [hle2.ρ b' (by omega), g5] at he'
   have k1 := (H.ent b' a' ha'').lt
   have k2 := H1.own _ (by omega) (List.getElem?_eq_some_iff.1 g1).1
   omega
  ·obtain ⟨a0, g1, _, _, g5, _⟩ := newAt b a hlt ha'
   obtain ⟨a0', g1', _, _, g5', _⟩ := newAt b' a' hlt' ha''
   rw [g5, g5'] at he'
   have hlo1 : m1.lo = hin.length := hle1.lo
   have := H1.inj _ _ (List.getElem?_eq_some_iff.1 g1).1 (List.getElem?_eq_some_iff.1 g1').1 ⟨a0, g1⟩ ⟨a0', g1'⟩ (.inl (by omega)) he'
   omega
 ·intro p hp
  refine ⟨(H1.tab p hp).1, fun b a hb ha => ?_⟩
  by_cases hlt : b < h.length
  ·rw [List.getElem?_append, if_pos hlt] at ha
   rw [hle2.ρ b (by omega)]
   rcases hle1.fresh p hp with h0 | h0
   ·exact (H.tab p h0).2 b a hb ha
   ·have := (H.ent b a ha).lt; omega
  ·obtain ⟨a0, g1, _, _, g5, _⟩ := newAt b a hlt ha
   rw [g5]
   exact (H1.tab p hp).2 _ a0 (by omega) g1
end
end Go.Ev
end
