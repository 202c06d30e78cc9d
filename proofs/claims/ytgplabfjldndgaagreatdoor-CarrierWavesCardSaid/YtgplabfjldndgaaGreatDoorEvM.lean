/-
  Regions that draw their order: in a world.
-/
import Derived.Test.YtgplabfjldndgaaGreatDoorEvL
namespace Go.Ev
open Go.RowKit

/-- A value that stands for something already in the smaller map. -/
theorem CR.downG {bs : Nat} {m0 m : M} (hle : M.leG bs m0 m) : ∀ {x : AC} {y : Value}, (x.flat = true ∨ m.F = m0.F) → (∀ b ∈ x.refs, b < m0.n) → CR m x y → CR m0 x y
  | .v _, _, _, _, r => r
  | .any _, _, _, _, r => r
  | .dp _, _, hf, _, r => by
    rcases hf with hf | hf
    · simp [AC.flat] at hf
    · exact DV.R.mono (fun p hp => by rw [← hf]; exact hp) r
  | .mp b, _, _, hb, r => by
    have := hb b (by simp [AC.refs])
    exact ⟨this, by rw [← hle.ρ b this]; exact r.2⟩
  | .ptr b o, _, _, hb, r => by
    have := hb b (by simp [AC.refs])
    exact ⟨this, by rw [← hle.ρ b this]; exact r.2⟩
  | .slc b o len sz cap ex, _, _, hb, r => by
    have := hb b (by simp [AC.refs])
    obtain ⟨_, c, o', hy, h0, h1, h1', h2, h3, h4⟩ := r
    exact ⟨this, c, o', by rw [← hle.ρ b this]; exact hy, h0, h1, h1', h2, by rw [← hle.κ b this]; exact h3, h4⟩
  | .yld b, _, _, hb, r => by
    have := hb b (by simp [AC.refs])
    exact ⟨this, by rw [← hle.ρ b this]; exact r.2⟩
  | .clo g fs cs, _, hf, hb, r => by
    obtain ⟨vf, vc, hy, h1, h2⟩ := r
    have hf' : ((fs.all fun e => e.atoms.all CA.flat) = true ∧ (cs.all fun e => e.atoms.all CA.flat) = true) ∨ m.F = m0.F := hf.imp_left fun h => by simpa only [AC.flat, Bool.and_eq_true] using h
    exact ⟨vf, vc, hy, CEs.to (fun e he c hc y hr => CR.downG hle (hf'.imp_left fun h => by rw [CA.flat_ac]; exact List.all_eq_true.1 (List.all_eq_true.1 h.1 e he) c hc) (fun b hb' => hb b (List.mem_append_left _ (CE.mem_refs he hc hb'))) hr) h1,
      CEs.to (fun e he c hc y hr => CR.downG hle (hf'.imp_left fun h => by rw [CA.flat_ac]; exact List.all_eq_true.1 (List.all_eq_true.1 h.2 e he) c hc) (fun b hb' => hb b (List.mem_append_right _ (CE.mem_refs he hc hb'))) hr) h2⟩
termination_by x => x.rank
decreasing_by all_goals (rw [CA.rank_ac]; exact Nat.one_pos)
theorem all2_down {α β : Type} {R S : α → β → Prop} : ∀ {l : List α} {ys : List β}, (∀ a ∈ l, ∀ b, R a b → S a b) → All2 R l ys → All2 S l ys
  | [], [], _, _ => trivial
  | _ :: _, _ :: _, hg, h => ⟨hg _ (by simp) _ h.1, all2_down (fun a ha => hg a (by simp [ha])) h.2⟩
theorem ER.downG {bs : Nat} {m0 m : M} (hle : M.leG bs m0 m) : ∀ {x : AE} {y : Value}, (x.flat = true ∨ m.F = m0.F) → (∀ b ∈ x.refs, b < m0.n) → ER m x y → ER m0 x y
  | .one _, _, hf, hb, r => CR.downG hle hf hb r
  | .agg l, _, hf, hb, r => by
    obtain ⟨cs, hy, ha⟩ := r
    exact ⟨cs, hy, all2_down (fun a h b hab => CR.downG hle (hf.imp_left fun hf => List.all_eq_true.1 hf a h) (fun k hk => hb k (List.mem_flatMap.2 ⟨a, h, hk⟩)) hab) ha⟩
theorem VR.downG {bs : Nat} {m0 m : M} (hle : M.leG bs m0 m) : ∀ {x : AV} {y : Value}, (x.flat = true ∨ m.F = m0.F) → (∀ b ∈ x.refs, b < m0.n) → VR m x y → VR m0 x y
  | .e _, _, hf, hb, r => ER.downG hle hf hb r
  | .tup l, _, hf, hb, r => by
    obtain ⟨cs, hy, ha⟩ := r
    exact ⟨cs, hy, all2_down (fun a h b hab => ER.downG hle (hf.imp_left fun hf => List.all_eq_true.1 hf a h) (fun k hk => hb k (List.mem_flatMap.2 ⟨a, h, hk⟩)) hab) ha⟩
/-- what an operation leaves, seen from before it -/
theorem PostO.down {o : Oper} {m : M} {base lvl : Nat} {w : World} {x : AV} {h' : Heap} {y : Value} {w' : World} {m' : M} (hp : PostO o m base lvl w x h' y w' m') (hf : callV o = false ∨ x.flat = true) (hb : ∀ b ∈ x.refs, b < m.n) : VR m x y :=
  VR.downG hp.1.le (hf.elim (fun h => .inr (hp.2 h).F) .inl) hb hp.1.val
theorem CR.refs_lt {m : M} : ∀ {x : AC} {y : Value}, CR m x y → ∀ b ∈ x.refs, b < m.n
  | .v _, _, _, b, hb => by simp [AC.refs] at hb
  | .ptr b' o, _, r, b, hb => by simp [AC.refs] at hb; subst hb; exact r.1
  | .slc b' o len sz cap ex, _, r, b, hb => by simp [AC.refs] at hb; subst hb; exact r.1
  | .yld b', _, r, b, hb => by simp [AC.refs] at hb; subst hb; exact r.1
  | .mp b', _, r, b, hb => by simp [AC.refs] at hb; subst hb; exact r.1
  | .dp _, _, _, b, hb => by simp [AC.refs] at hb
  | .any _, _, _, b, hb => by simp [AC.refs] at hb
  | .clo g fs cs, _, r, b, hb => by
    obtain ⟨vf, vc, hy, h1, h2⟩ := r
    rcases List.mem_append.1 hb with hb | hb
    · obtain ⟨e, he, c, hc, hb⟩ := CE.of_refs hb
      obtain ⟨y, hy⟩ := CEs.mem h1 e he c hc
      exact CR.refs_lt hy b hb
    · obtain ⟨e, he, c, hc, hb⟩ := CE.of_refs hb
      obtain ⟨y, hy⟩ := CEs.mem h2 e he c hc
      exact CR.refs_lt hy b hb
termination_by x => x.rank
decreasing_by all_goals (rw [CA.rank_ac]; exact Nat.one_pos)
theorem all2_mem {α β : Type} {R : α → β → Prop} : ∀ {l : List α} {ys : List β}, All2 R l ys → ∀ a ∈ l, ∃ b, R a b
  | [], _, _, a, ha => by simp at ha
  | x :: l, y :: ys, h, a, ha => by
    rcases List.mem_cons.1 ha with rfl | ha
    · exact ⟨y, h.1⟩
    · exact all2_mem h.2 a ha
theorem ER.refs_lt {m : M} : ∀ {x : AE} {y : Value}, ER m x y → ∀ b ∈ x.refs, b < m.n
  | .one _, _, r, b, hb => CR.refs_lt r b hb
  | .agg l, _, r, b, hb => by
    obtain ⟨cs, _, ha⟩ := r
    obtain ⟨a, h1, h2⟩ := List.mem_flatMap.1 hb
    obtain ⟨c, hc⟩ := all2_mem ha a h1
    exact CR.refs_lt hc b h2
theorem VR.refs_lt {m : M} : ∀ {x : AV} {y : Value}, VR m x y → ∀ b ∈ x.refs, b < m.n
  | .e _, _, r, b, hb => ER.refs_lt r b hb
  | .tup l, _, r, b, hb => by
    obtain ⟨cs, _, ha⟩ := r
    obtain ⟨a, h1, h2⟩ := List.mem_flatMap.1 hb
    obtain ⟨c, hc⟩ := all2_mem ha a h1
    exact ER.refs_lt hc b h2

/-- An operation looks at no slot but those. -/
theorem evC_looks {ops : Array Oper} {o : Oper} {t t' : Array Value} (h : ∀ d ∈ looks ops o, t.getD d undef = t'.getD d undef) : ∀ x ∈ o.op.operands, evC t x = evC t' x := by
  intro x hx
  cases x with
  | tmp i =>
    exact h i (List.mem_append_left _ (List.mem_flatMap.2 ⟨.tmp i, by simpa using hx, by simp⟩))
  | _ => rfl
theorem wanted_looks {ops : Array Oper} {o : Oper} {t t' : Array Value} (hs : t.size = t'.size) (h : ∀ d ∈ looks ops o, t.getD d undef = t'.getD d undef) : Region.wanted o (yielded ops t) = Region.wanted o (yielded ops t') := by
  unfold Region.wanted
  cases hg : o.guard with
  | none => rfl
  | some p =>
    obtain ⟨j, want⟩ := p
    simp only
    unfold yielded
    cases hd : (ops[j]?).bind (·.dst) with
    | none => rfl
    | some d =>
      have hd' := h d (by
        refine List.mem_append_right _ ?_
        rw [hg]
        simp [hd])
      simp only [Option.bind_some]
      by_cases hlt : d < t.size
      · have hlt' : d < t'.size := hs ▸ hlt
        simp only [Array.getD_eq_getD_getElem?, Array.getElem?_eq_getElem hlt, Array.getElem?_eq_getElem hlt', Option.getD_some] at hd' ⊢
        rw [hd']
      · rw [Array.getElem?_eq_none (Nat.not_lt.1 hlt), Array.getElem?_eq_none (by rw [← hs]; exact Nat.not_lt.1 hlt)]

section mix
variable {m : M} {tm : Tm} {τ t : Array Value} {S : List Nat}
/-- t at the slots S, τ elsewhere. -/
def mix (S : List Nat) (t τ : Array Value) : Array Value := (Array.range τ.size).map fun d => if S.contains d then t.getD d undef else τ.getD d undef
theorem mix_size : (mix S t τ).size = τ.size := by simp [mix]
theorem mix_get {d : Nat} (h : d < τ.size) : (mix S t τ)[d]? = some (if S.contains d then t.getD d undef else τ.getD d undef) := by
  simp [mix, h]
theorem mix_in {d : Nat} (hs : t.size = τ.size) (hd : d ∈ S) : (mix S t τ).getD d undef = t.getD d undef := by
  by_cases h : d < τ.size
  · simp only [Array.getD_eq_getD_getElem?, mix_get h, Option.getD_some, List.contains_eq_mem, hd, decide_true, if_true]
  · simp only [Array.getD_eq_getD_getElem?]
    rw [Array.getElem?_eq_none (by rw [mix_size]; omega), Array.getElem?_eq_none (by omega)]
theorem mix_sound (hτ : TR m tm τ) (h : ∀ d ∈ S, ∀ a, tm[d]? = some a → VR m a (t.getD d undef)) : TR m tm (mix S t τ) := by
  have hl := hτ.length
  apply All2.of_get
  · rw [hl]; simp [mix_size]
  · intro d a y ha hy
    have hd : d < τ.size := by
      have := (List.getElem?_eq_some_iff.1 ha).1
      simp at hl; omega
    have hy' : (mix S t τ)[d]? = some y := by simpa using hy
    rw [mix_get hd] at hy'
    simp only [Option.some.injEq] at hy'
    by_cases hS : d ∈ S
    · simp only [List.contains_eq_mem, hS, decide_true, if_true] at hy'
      rw [← hy']; exact h d hS a ha
    · simp only [List.contains_eq_mem, hS, decide_false, Bool.false_eq_true, if_false] at hy'
      rw [← hy']
      obtain ⟨b, hb, hr⟩ := hτ.get ha
      have : τ[d]? = some b := by simpa using hb
      simp only [Array.getD_eq_getD_getElem?, this, Option.getD_some]
      exact hr
end mix

theorem putT_length (tm : Tm) (d : Option Nat) (x : AV) : (putT tm d x).length = tm.length := by
  cases d <;> simp [putT, setL_eq]
theorem putT_ne {tm : Tm} {d : Option Nat} {x : AV} {k : Nat} (h : d ≠ some k) : (putT tm d x)[k]? = tm[k]? := by
  cases d with
  | none => rfl
  | some d =>
    simp only [putT, setL_eq]
    rw [List.getElem?_set_ne]
    intro e; exact h (by rw [e])
theorem putT_eq {tm : Tm} {x : AV} {k : Nat} (h : k < tm.length) : (putT tm (some k) x)[k]? = some x := by
  simp [putT, setL_eq, h]
theorem putC_size (t : Array Value) (d : Option Nat) (y : Value) : (putC t d y).size = t.size := by
  cases d <;> simp [putC]
theorem putC_ne {t : Array Value} {d : Option Nat} {y : Value} {k : Nat} (h : d ≠ some k) : (putC t d y)[k]? = t[k]? := by
  cases d with
  | none => rfl
  | some d =>
    simp only [putC]
    rw [Array.getElem?_setIfInBounds_ne]
    intro e; exact h (by rw [e])
theorem putC_eq {t : Array Value} {y : Value} {k : Nat} (h : k < t.size) : (putC t (some k) y)[k]? = some y := by
  simp [putC, h]

section draws
variable {E : Env} {S : StepT} (hS : StepOk E S) {ops : Array Oper}

/-- A fact of one operation of pass A. -/
def FactA (S : StepT) (ops : Array Oper) (A : List Nat) (h0 : Heap) (m0 : M) (tm0 tmA : Tm) (i : Nat) : Prop :=
  ∃ o tmi τ, ops[i]? = some o ∧ TR m0 tmi τ ∧ τ.size = tm0.length ∧ (∀ d ∈ looks ops o, (∀ j, Wr ops d j → ¬ Nat.testBit (getD0 (masksFrom ops.toList []) i) j = true) → tmi[d]? = tm0[d]?) ∧ (∀ d ∈ looks ops o, ∀ j, Wr ops d j → Nat.testBit (getD0 (masksFrom ops.toList []) i) j = true → j ∈ A ∧ tmi[d]? = tmA[d]?) ∧
    ((wantedA ops tmi o = true ∧ ∃ x h', S (lenL h0) h0 tmi i o = some (x, h') ∧ (callV o = false ∨ x.flat = true) ∧ (∀ b ∈ x.refs, b < h0.length) ∧ ∀ d, o.dst = some d → d < tm0.length → tmA[d]? = some x) ∨
     (wantedA ops tmi o = false ∧ ∀ d, o.dst = some d → d < tm0.length → tmA[d]? = some (.tup [])))

include hS in
theorem passA_facts {p : Plan} (hp : PlanOk ops p) {h0 : Heap} {m0 : M} {w0 : World} (H0 : HR m0 w0.heap.size h0.length h0 w0) (G : GR E.gl w0.heap.size w0) {tm0 : Tm} :
    ∀ (l seen : List Nat) (tm tmA : Tm) (τ : Array Value), okA (masksFrom ops.toList []) ops l seen = true → (∀ j ∈ seen, j ∈ p.a) → (∀ j ∈ l, j ∈ p.a) → TR m0 tm τ → tm.length = tm0.length → (∀ d, (∀ j, ¬ Wr ops d j) → tm[d]? = tm0[d]?) → (∀ d j, Wr ops d j → j ∉ seen → tm[d]? = tm0[d]?) → passA S ops h0 l tm = some tmA →
      (∃ τA, TR m0 tmA τA) ∧ tmA.length = tm0.length ∧ (∀ d, (∀ j, Wr ops d j → j ∉ l) → tmA[d]? = tm[d]?) ∧ ∀ i ∈ l, FactA S ops p.a h0 m0 tm0 tmA i
  | [], seen, tm, tmA, τ, _, _, _, hτ, hlen, _, _, hs => by
    simp only [passA, Option.some.injEq] at hs
    subst hs
    exact ⟨⟨τ, hτ⟩, hlen, fun _ _ => rfl, fun i hi => by simp at hi⟩
  | i :: l, seen, tm, tmA, τ, hok, hsub, hsub2, hτ, hlen, hno, hun, hs => by
    have hok' : ((match ops[i]? with
      | some o => (looks ops o).all fun d => (writers ops.toList d 0).all fun j => if Nat.testBit (getD0 (masksFrom ops.toList []) i) j then seen.contains j else !seen.contains j
      | none => false) && !seen.contains i && okA (masksFrom ops.toList []) ops l (i :: seen)) = true := hok
    simp only [Bool.and_eq_true, Bool.not_eq_true', List.contains_eq_mem, decide_eq_false_iff_not] at hok'
    obtain ⟨⟨ha, hni⟩, hokl⟩ := hok'
    have hs' : (match ops[i]? with
      | some o => if wantedA ops tm o then (match S (lenL h0) h0 tm i o with
          | some (x, _) => if refsBelow (lenL h0) x.refs && (!callV o || x.flat) then passA S ops h0 l (putT tm o.dst x) else none
          | none => none) else passA S ops h0 l (putT tm o.dst (.tup []))
      | none => none) = some tmA := hs
    have notLater : ∀ {l : List Nat} {seen : List Nat}, okA (masksFrom ops.toList []) ops l seen = true → ∀ j ∈ seen, j ∉ l := by
      intro l
      induction l with
      | nil => intro seen _ j _; simp
      | cons a l ih =>
        intro seen h j hj
        have h' : ((match ops[a]? with
          | some o => (looks ops o).all fun d => (writers ops.toList d 0).all fun j => if Nat.testBit (getD0 (masksFrom ops.toList []) a) j then seen.contains j else !seen.contains j
          | none => false) && !seen.contains a && okA (masksFrom ops.toList []) ops l (a :: seen)) = true := h
        simp only [Bool.and_eq_true, Bool.not_eq_true', List.contains_eq_mem, decide_eq_false_iff_not] at h'
        intro hm
        rcases List.mem_cons.1 hm with rfl | hm
        · exact h'.1.2 hj
        · exact ih h'.2 j (by simp [hj]) hm
    cases ho : ops[i]? with
    | none => rw [ho] at ha; simp at ha
    | some o =>
      rw [ho] at ha hs'
      simp only at ha hs'
      have hlook : ∀ d ∈ looks ops o, ∀ j, Wr ops d j → Nat.testBit (getD0 (masksFrom ops.toList []) i) j = true → j ∈ seen := fun d hd j hj hw => by
        have := List.all_eq_true.1 (List.all_eq_true.1 ha d hd) j (mem_writers.2 hj)
        rw [if_pos hw] at this
        simpa using this
      have hlook2 : ∀ d ∈ looks ops o, ∀ j, Wr ops d j → ¬ Nat.testBit (getD0 (masksFrom ops.toList []) i) j = true → j ∉ seen := fun d hd j hj hw => by
        have := List.all_eq_true.1 (List.all_eq_true.1 ha d hd) j (mem_writers.2 hj)
        rw [if_neg hw] at this
        simpa using this
      -- whatever is put, the rest goes on
      have go : ∀ (x : AV) (y : Value), VR m0 x y → passA S ops h0 l (putT tm o.dst x) = some tmA →
          ((∃ τA, TR m0 tmA τA) ∧ tmA.length = tm0.length ∧ (∀ d, (∀ j, Wr ops d j → j ∉ i :: l) → tmA[d]? = tm[d]?) ∧ (∀ k ∈ l, FactA S ops p.a h0 m0 tm0 tmA k)) ∧
          (∀ d, (∀ j, Wr ops d j → j ∈ seen) → tmA[d]? = tm[d]?) ∧ ∀ d, o.dst = some d → d < tm0.length → tmA[d]? = some x := by
        intro x y hxy hrest
        have hw : ∀ d, o.dst = some d → Wr ops d i := fun d hd => ⟨o, ho, hd⟩
        obtain ⟨g1, g2, g3, g4⟩ := passA_facts (tm0 := tm0) hp H0 G l (i :: seen) (putT tm o.dst x) tmA (putC τ o.dst y) hokl (fun j hj => (List.mem_cons.1 hj).elim (fun e => by rw [e]; exact hsub2 i (by simp)) (hsub j)) (fun j hj => hsub2 j (by simp [hj])) (putT_sound hτ o.dst hxy) (by rw [putT_length]; exact hlen)
          (fun d hd => by
            rw [putT_ne (fun e => hd i (hw d e))]; exact hno d hd)
          (fun d j hj hn => by
            simp at hn
            rw [putT_ne (fun e => hn.1 (hp.one d j i hj (hw d e)))]; exact hun d j hj hn.2) hrest
        refine ⟨⟨g1, g2, fun d hd => ?_, g4⟩, fun d hd => ?_, fun d hd hlt => ?_⟩
        · rw [g3 d fun j hj hm => hd j hj (by simp [hm])]
          exact putT_ne fun e => hd i (hw d e) (by simp)
        · rw [g3 d fun j hj => notLater hokl j (by simp [hd j hj])]
          exact putT_ne fun e => hni (hd i (hw d e))
        · rw [g3 d fun j hj hm => ?_, hd]
          · exact putT_eq (by rw [hlen]; exact hlt)
          · have : j = i := hp.one d j i hj (hw d hd)
            subst this
            exact notLater hokl j (by simp) hm
      have fact : ∀ x, (∀ d, (∀ j, Wr ops d j → j ∈ seen) → tmA[d]? = tm[d]?) → (∀ d, o.dst = some d → d < tm0.length → tmA[d]? = some x) →
          ((wantedA ops tm o = true ∧ ∃ h', S (lenL h0) h0 tm i o = some (x, h') ∧ (callV o = false ∨ x.flat = true) ∧ ∀ b ∈ x.refs, b < h0.length) ∨ (wantedA ops tm o = false ∧ x = .tup [])) → FactA S ops p.a h0 m0 tm0 tmA i := by
        intro x k1 k2 k3
        refine ⟨o, tm, τ, ho, hτ, ?_, fun d hd hn => ?_, fun d hd j hj hw => ⟨hsub j (hlook d hd j hj hw), (k1 d fun j' hj' => by rw [hp.one d j' j hj' hj]; exact hlook d hd j hj hw).symm⟩, ?_⟩
        · have := hτ.length; simp at this; omega
        · by_cases hex : ∃ j, Wr ops d j
          · obtain ⟨j, hj⟩ := hex
            exact hun d j hj (hlook2 d hd j hj (hn j hj))
          · exact hno d fun j hj => hex ⟨j, hj⟩
        · rcases k3 with ⟨k3, h', k4, kf, k5⟩ | ⟨k3, rfl⟩
          · exact .inl ⟨k3, x, h', k4, kf, k5, k2⟩
          · exact .inr ⟨k3, k2⟩
      split at hs'
      · rename_i hwant
        split at hs'
        · rename_i x hx' hst
          split at hs'
          · rename_i hrb
            simp only [Bool.and_eq_true, Bool.or_eq_true, Bool.not_eq_true'] at hrb
            obtain ⟨hrb, hfl⟩ := hrb
            have hrefs : ∀ b ∈ x.refs, b < h0.length := fun b hb => by
              have := List.all_eq_true.1 hrb b hb
              rw [Nat.blt_eq, lenL_eq] at this
              exact this
            have hst' := hst
            rw [lenL_eq] at hst'
            obtain ⟨y, w', m', hpost⟩ := (hS.ok hτ H0 G hst').some
            have hy : VR m0 x y := hpost.down hfl (fun b hb => by rw [H0.n]; exact hrefs b hb)
            obtain ⟨⟨g1, g2, g3, g4⟩, g5, g6⟩ := go x y hy hs'
            refine ⟨g1, g2, g3, fun k hk => ?_⟩
            rcases List.mem_cons.1 hk with rfl | hk
            · exact fact x g5 g6 (.inl ⟨hwant, hx', hst, hfl, hrefs⟩)
            · exact g4 k hk
          · simp at hs'
        · simp at hs'
      · rename_i hwant
        obtain ⟨⟨g1, g2, g3, g4⟩, g5, g6⟩ := go (.tup []) undef ⟨#[], rfl, trivial⟩ hs'
        refine ⟨g1, g2, g3, fun k hk => ?_⟩
        rcases List.mem_cons.1 hk with rfl | hk
        · exact fact (.tup []) g5 g6 (.inr ⟨by simpa using hwant, rfl⟩)
        · exact g4 k hk

theorem passB_keeps {lvl : Nat} : ∀ (l : List Nat) (h : Heap) (tm : Tm) (h' : Heap) (tm' : Tm), passB S lvl ops l h tm = some (h', tm') → tm'.length = tm.length ∧ ∀ d, (∀ j, Wr ops d j → j ∉ l) → tm'[d]? = tm[d]?
  | [], h, tm, h', tm', hs => by
    simp only [passB, Option.some.injEq, Prod.mk.injEq] at hs
    obtain ⟨rfl, rfl⟩ := hs
    exact ⟨rfl, fun _ _ => rfl⟩
  | i :: l, h, tm, h', tm', hs => by
    have hs' : (match ops[i]? with
      | some o => if wantedA ops tm o then (match S lvl h tm i o with
          | some (x, h1) => passB S lvl ops l h1 (putT tm o.dst x)
          | none => none) else passB S lvl ops l h (putT tm o.dst (.tup []))
      | none => none) = some (h', tm') := hs
    cases ho : ops[i]? with
    | none => rw [ho] at hs'; simp at hs'
    | some o =>
      rw [ho] at hs'
      simp only at hs'
      have go : ∀ x h1, passB S lvl ops l h1 (putT tm o.dst x) = some (h', tm') → tm'.length = tm.length ∧ ∀ d, (∀ j, Wr ops d j → j ∉ i :: l) → tm'[d]? = tm[d]? := by
        intro x h1 hr
        obtain ⟨g1, g2⟩ := passB_keeps l h1 _ h' tm' hr
        refine ⟨by rw [g1, putT_length], fun d hd => ?_⟩
        rw [g2 d fun j hj hm => hd j hj (by simp [hm])]
        exact putT_ne fun e => hd i ⟨o, ho, e⟩ (by simp)
      split at hs'
      · split at hs'
        · exact go _ _ hs'
        · simp at hs'
      · exact go _ _ hs'

end draws
end Go.Ev
