/-
  What the open run says of one operation holds, if what it notes is paid.
-/
import Derived.Test.YtgplabfjldndgaaGreatDoorSyA
namespace Go.Ev
open Go.RowKit

theorem allP_append : ∀ {l m : List Prop}, AllP (l ++ m) ↔ AllP l ∧ AllP m
  | [], m => by simp [AllP]
  | p :: l, m => by
    show p ∧ AllP (l ++ m) ↔ (p ∧ AllP l) ∧ AllP m
    rw [allP_append, and_assoc]

theorem flat_ren {l : List AC} (h : FlatC l) (f : Nat → Nat) : l.map (AC.ren f) = l := map_ren_id fun a ha => by
  obtain ⟨x, rfl⟩ := h a ha
  rfl
theorem flat_ab {a : AB} (h : FlatC a.cells) (f : Nat → Nat) : a.ren f = a := by
  cases a
  simp only [AB.ren]
  rw [flat_ren h]
theorem renFl_eq (f : Nat → Nat) : ∀ {fl : List Bool} {h : Heap}, fl.length = h.length → flatP fl h → renFl f fl h = h.map (fun b => some (b.map (AB.ren f)))
  | [], [], _, _ => rfl
  | true :: fs, b :: r, hl, hf => by
    simp only [renFl, List.map_cons]
    rw [renFl_eq f (by simpa using hl) hf.2]
    have h1 := hf.1
    cases b with
    | none => rfl
    | some a => simp only [Option.map_some]; rw [flat_ab h1]
  | false :: fs, b :: r, hl, hf => by
    simp only [renFl, List.map_cons]
    rw [renFl_eq f (fl := fs) (h := r) (by simpa using hl) hf]
  | [], _ :: _, hl, _ => by simp at hl
  | _ :: _, [], hl, _ => by simp at hl

section
variable {E : Env} {rec : RunT} {m : M} {base lvl : Nat} {h h' : Heap} {w : World} {tm : Tm} {t : Array Value} {x : AV}

theorem call_enter (hE : EnvOk E) (hT : TR m tm t) {o : Oper} {c : Call} (hop : o.op = .call c) {f : FuncId} {args : List AV} (hcal : calleeOf tm c = some (f, args)) {fn : Func} (hfn : E.P.funcs[f]? = some fn) (hbody : fn.body.isSome = true) (w : World) :
    ∃ argsC : Array Value, (execOp (evC t) o).run E.P w = .ok (.enter f argsC) w ∧ All2 (VR m) args argsC.toList := by
  have hargs := args_sound hT c.args
  have hnb : ¬ fn.body = none := fun e => by simp [e] at hbody
  have hnum : ¬ fn.name = "runtime.NumGoroutine" := by simpa using hE.num f fn hfn
  unfold calleeOf at hcal
  split at hcal
  · rename_i fo hfo
    have hfv := evA_sound hT fo
    split at hcal
    · rename_i g first cs' hev
      rw [hev] at hfv
      have hfv' : evC t fo = .func (.func g) first cs' := hfv
      split at hcal
      · rename_i hfirst
        have : first = #[] := by simpa using hfirst
        subst this
        simp only [Option.some.injEq, Prod.mk.injEq] at hcal
        obtain ⟨rfl, rfl⟩ := hcal
        refine ⟨c.args.map (evC t) ++ cs', ?_, ?_⟩
        · simp [execOp, hop, resolve, hfo, hfv', Deferred.ofValue, invoke, callFunc, hfn, hnb, hnum]
        · rw [Array.toList_append]
          refine hargs.append ?_
          generalize cs'.toList = l
          induction l with
          | nil => trivial
          | cons a l ih => exact ⟨AV.of_sound m a, ih⟩
      · simp at hcal
    · rename_i g fs' cs' hev
      rw [hev] at hfv
      obtain ⟨vf, vc, hfv', h1, h2⟩ : ∃ vf vc : Array Value, evC t fo = .func (.func g) vf vc ∧ All2 (CE.R m) fs' vf.toList ∧ All2 (CE.R m) cs' vc.toList := hfv
      simp only [Option.some.injEq, Prod.mk.injEq] at hcal
      obtain ⟨rfl, rfl⟩ := hcal
      refine ⟨vf ++ (c.args.map (evC t) ++ vc), ?_, ?_⟩
      · simp [execOp, hop, resolve, hfo, hfv', Deferred.ofValue, invoke, callFunc, hfn, hnb, hnum]
      · rw [Array.toList_append, Array.toList_append]
        exact (CEs.av h1).append (hargs.append (CEs.av h2))
    · simp at hcal
  · simp at hcal

/-- a run of nothing -/
def rec0 : RunT := fun _ _ _ _ _ => none
theorem rec0_ok (E : Env) : RecOk E rec0 := fun _ _ _ _ _ _ h => by simp [rec0] at h

/-! Names turned back. -/
theorem CR.unren {m1 m2 : M} {f : Nat → Nat} {n : Nat} (hF : ∀ p ∈ m2.F, p ∈ m1.F) (hn : m1.n = n) (hρ : ∀ b, b < n → m2.ρ (f b) = m1.ρ b) (hκ : ∀ b, b < n → m2.κ (f b) = m1.κ b) : ∀ {x : AC} {y : Value}, (∀ b ∈ x.refs, b < n) → CR m2 (x.ren f) y → CR m1 x y
  | .v _, _, _, r => r
  | .any _, _, _, r => r
  | .dp _, _, _, r => DV.R.mono hF r
  | .mp b, _, hb, r => by
    have hb := hb b (by simp [AC.refs])
    exact ⟨by omega, by rw [← hρ b hb]; exact r.2⟩
  | .ptr b o, _, hb, r => by
    have hb := hb b (by simp [AC.refs])
    exact ⟨by omega, by rw [← hρ b hb]; exact r.2⟩
  | .yld b, _, hb, r => by
    have hb := hb b (by simp [AC.refs])
    exact ⟨by omega, by rw [← hρ b hb]; exact r.2⟩
  | .slc b o len sz cap ex, _, hb, r => by
    have hb := hb b (by simp [AC.refs])
    obtain ⟨_, c, o', hy, h0, h1, h1', h2, h3, h4⟩ := r
    exact ⟨by omega, c, o', by rw [← hρ b hb]; exact hy, h0, h1, h1', h2, by rw [← hκ b hb]; exact h3, h4⟩
  | .clo g fs cs, _, hb, r => by
    obtain ⟨vf, vc, hy, h1, h2⟩ := r
    exact ⟨vf, vc, hy, CEs.un (fun e he c hc y hr => CR.unren hF hn hρ hκ (fun b hb' => hb b (List.mem_append_left _ (CE.mem_refs he hc hb'))) (by rw [← CA.ren_ac]; exact hr)) h1,
      CEs.un (fun e he c hc y hr => CR.unren hF hn hρ hκ (fun b hb' => hb b (List.mem_append_right _ (CE.mem_refs he hc hb'))) (by rw [← CA.ren_ac]; exact hr)) h2⟩
termination_by x => x.rank
decreasing_by all_goals (rw [CA.rank_ac]; exact Nat.one_pos)

theorem all2_unren {α β : Type} {R S : α → β → Prop} {g : α → α} : ∀ {l : List α} {ys : List β}, (∀ a ∈ l, ∀ b, S (g a) b → R a b) → All2 S (l.map g) ys → All2 R l ys
  | [], [], _, _ => trivial
  | _ :: _, _ :: _, hg, h => ⟨hg _ (by simp) _ h.1, all2_unren (fun a ha => hg a (by simp [ha])) h.2⟩

theorem ER.unren {m1 m2 : M} {f : Nat → Nat} {n : Nat} (hF : ∀ p ∈ m2.F, p ∈ m1.F) (hn : m1.n = n) (hρ : ∀ b, b < n → m2.ρ (f b) = m1.ρ b) (hκ : ∀ b, b < n → m2.κ (f b) = m1.κ b) : ∀ {x : AE} {y : Value}, (∀ b ∈ x.refs, b < n) → ER m2 (x.ren f) y → ER m1 x y
  | .one _, _, hb, r => CR.unren hF hn hρ hκ hb r
  | .agg l, _, hb, r => by
    obtain ⟨cs, hy, ha⟩ := r
    exact ⟨cs, hy, all2_unren (fun a ha' b h => CR.unren hF hn hρ hκ (fun k hk => hb k (List.mem_flatMap.2 ⟨a, ha', hk⟩)) h) ha⟩
theorem VR.unren {m1 m2 : M} {f : Nat → Nat} {n : Nat} (hF : ∀ p ∈ m2.F, p ∈ m1.F) (hn : m1.n = n) (hρ : ∀ b, b < n → m2.ρ (f b) = m1.ρ b) (hκ : ∀ b, b < n → m2.κ (f b) = m1.κ b) : ∀ {x : AV} {y : Value}, (∀ b ∈ x.refs, b < n) → VR m2 (x.ren f) y → VR m1 x y
  | .e _, _, hb, r => ER.unren hF hn hρ hκ hb r
  | .tup l, _, hb, r => by
    obtain ⟨cs, hy, ha⟩ := r
    exact ⟨cs, hy, all2_unren (fun a ha' b h => ER.unren hF hn hρ hκ (fun k hk => hb k (List.mem_flatMap.2 ⟨a, ha', hk⟩)) h) ha⟩

theorem CE.refs_map (f : Nat → Nat) : ∀ l : List CE, (l.map (CE.map (CA.ren f))).flatMap CE.refs = (l.flatMap CE.refs).map f
  | [] => rfl
  | e :: l => by
    have hc : ∀ c : CA, (c.ren f).refs = c.refs.map f := fun c => by cases c <;> rfl
    rw [List.map_cons, List.flatMap_cons, List.flatMap_cons, List.map_append, CE.refs_map f l]
    congr 1
    cases e with
    | one x => simp [CE.map, CE.refs, CE.atoms, hc]
    | agg cs => simp [CE.map, CE.refs, CE.atoms, List.flatMap_map, List.map_flatMap, hc]
theorem AC.refs_ren (f : Nat → Nat) : ∀ x : AC, (x.ren f).refs = x.refs.map f
  | .v _ => rfl
  | .ptr _ _ => rfl
  | .slc _ _ _ _ _ _ => rfl
  | .yld _ => rfl
  | .mp _ => rfl
  | .dp _ => rfl
  | .any _ => rfl
  | .clo g fs cs => by simp only [AC.ren, AC.refs, List.map_append, CE.refs_map]
theorem AE.refs_ren (f : Nat → Nat) : ∀ x : AE, (x.ren f).refs = x.refs.map f
  | .one x => AC.refs_ren f x
  | .agg l => by simp [AE.ren, AE.refs, List.flatMap_map, List.map_flatMap, AC.refs_ren]
theorem AV.refs_ren (f : Nat → Nat) : ∀ x : AV, (x.ren f).refs = x.refs.map f
  | .e x => AE.refs_ren f x
  | .tup l => by simp [AV.ren, AV.refs, List.flatMap_map, List.map_flatMap, AE.refs_ren]

/-- A call of a function that writes nothing of its caller's. -/
theorem callOther (_hE : EnvOk E) (H : HR m base lvl h w) (G : GR E.gl base w) {f : FuncId} {e : List Nat} {args' args : List AV} {hin hout nb : Heap} {v v' : AV} {argsC : Array Value} (ha : All2 (VR m) args argsC.toList)
    (hl : e.length = hin.length) (he : ∀ b ∈ e, b < h.length) (hp : ∀ b ∈ hout.drop hin.length, plainB b = true) (hpi : ∀ b ∈ hin, plainB b = true) (_hpn : ∀ b ∈ nb, plainB b = true) (hc : COut E hin.length hin f args' v hout)
    (h1 : args'.map (AV.ren (nthE e h.length hin.length)) = args) (h2 : e.map (fun b => h[b]?) = hin.map (fun b => some (b.map (AB.ren (nthE e h.length hin.length)))))
    (h3 : (hout.drop hin.length).map (fun b => b.map (AB.ren (nthE e h.length hin.length))) = nb) (h4 : v.ren (nthE e h.length hin.length) = v') :
    Calls E.P f argsC w fun e w' => ∃ y, e = .returned y ∧ ∃ m', PostG m base lvl w v' (h ++ nb) y w' m' := by
  have hmn := H.n
  let mc : M := { n := hin.length, ρ := fun i => m.ρ (getD0 e i), κ := fun i => m.κ (getD0 e i), lo := hin.length, F := m.F }
  have hg : ∀ i, i < hin.length → ∃ b, e[i]? = some b ∧ getD0 e i = b ∧ b < h.length := fun i hi => by
    have hi' : i < e.length := by omega
    refine ⟨e[i], List.getElem?_eq_getElem hi', ?_, he _ (List.getElem_mem hi')⟩
    rw [getD0_eq, List.getD_eq_getElem?_getD, List.getElem?_eq_getElem hi']; rfl
  have hnth : ∀ i, i < hin.length → nthE e h.length hin.length i = getD0 e i := fun i hi => by simp [nthE, hi]
  have hnth2 : ∀ i, ¬ i < hin.length → nthE e h.length hin.length i = h.length + (i - hin.length) := fun i hi => by simp [nthE, hi]
  have hback : ∀ i, nthE e h.length hin.length i < m.n → i < hin.length := fun i hi => by
    by_cases hlt : i < hin.length
    · exact hlt
    · rw [hnth2 i hlt] at hi; omega
  have hρ : ∀ b, b < hin.length → m.ρ (nthE e h.length hin.length b) = mc.ρ b := fun b hb => by rw [hnth b hb]
  have hκ : ∀ b, b < hin.length → m.κ (nthE e h.length hin.length b) = mc.κ b := fun b hb => by rw [hnth b hb]
  have hargs : All2 (VR mc) args' argsC.toList := by
    rw [← h1] at ha
    refine all2_unren (fun a _ y hy => VR.unren (m1 := mc) (m2 := m) (fun _ hp => hp) rfl hρ hκ (fun b hb => ?_) hy) ha
    refine hback b (VR.refs_lt hy _ ?_)
    rw [AV.refs_ren]
    exact List.mem_map_of_mem hb
  have Hc : HR mc w.heap.size hin.length hin w := by
    refine ⟨rfl, Nat.le_refl _, Nat.le_refl _, fun i a hi => ?_, fun b h1 h2 => by omega, fun b b' h1 h2 _ _ hlo _ => ?_, Nat.le_refl _, fun p hp => ⟨(H.tab p hp).1, fun b a hb ha => by
      have := (List.getElem?_eq_some_iff.1 ha).1
      omega⟩⟩
    · have hlt : i < hin.length := (List.getElem?_eq_some_iff.1 hi).1
      obtain ⟨b, g1, g2, g3⟩ := hg i hlt
      have hx : h[b]? = some (some (a.ren (nthE e h.length hin.length))) := by
        have e1 : (e.map (fun b => h[b]?))[i]? = some h[b]? := by rw [List.getElem?_map, g1]; rfl
        rw [h2, List.getElem?_map, hi] at e1
        simpa using e1.symm
      have hxt : a.ext = .cells := by
        have := hpi _ (List.mem_of_getElem? hi)
        simp only [plainB] at this
        split at this
        · assumption
        · simp at this
      have B := H.blk b _ hx (by simpa [AB.ren] using hxt)
      obtain ⟨b1, b2, c, fz, b3, b4, b5, b6, b7⟩ := B
      refine ⟨fun _ => ⟨by simpa [AB.ren] using b1, fun hf => ?_, c, fz, ?_, ?_, fun hlo => absurd hlo (show ¬ hin.length ≤ i by omega), b6, ?_⟩, by rw [hxt]; trivial⟩
      · show a.n = m.κ (getD0 e i); rw [g2]; exact b2 hf
      · show w.heap[m.ρ (getD0 e i)]? = _; rw [g2]; exact b3
      · show c.size = m.κ (getD0 e i); rw [g2]; exact b4
      · have b7' : All2 (CR m) (a.cells.map (AC.ren (nthE e h.length hin.length))) (c.toList.take a.n) := b7
        refine all2_unren (fun x _ y hy => CR.unren (m1 := mc) (m2 := m) (fun _ hp => hp) rfl hρ hκ (fun k hk => hback k (CR.refs_lt hy _ ?_)) hy) b7'
        rw [AC.refs_ren]
        exact List.mem_map_of_mem hk
    · have : hin.length ≤ b ∨ hin.length ≤ b' := hlo
      omega
  refine (hc mc w.heap.size w argsC hargs Hc (G.up H.baseLe)).mono fun en w' ⟨y, hy, m1, hp1⟩ => ⟨y, hy, ?_⟩
  have hle1 := hp1.le
  have H1 := hp1.heap
  have hn1 : hin.length ≤ m1.n := hle1.n
  have hn1' := H1.n
  have hnbl : nb.length = hout.length - hin.length := by rw [← h3]; simp
  let m2 : M := { n := h.length + nb.length, ρ := fun b => if b < h.length then m.ρ b else m1.ρ (b - h.length + hin.length), κ := fun b => if b < h.length then m.κ b else m1.κ (b - h.length + hin.length), lo := m.lo, F := m1.F }
  have hle2 : M.leG base m m2 := ⟨by simp only [m2]; omega, fun b hb => by simp only [m2]; rw [if_pos (by omega)], fun b hb => by simp only [m2]; rw [if_pos (by omega)], rfl, hle1.F, fun p hp => (hle1.fresh p hp).imp_right (Nat.le_trans H.baseLe)⟩
  have Hw : HR m base lvl h w' := H.world hp1.below.size hp1.below.block
  have names : ∀ b, b < m1.n → Names m1 m2 (nthE e h.length hin.length) b := fun b hb => by
    by_cases hlt : b < hin.length
    · obtain ⟨k, g1, g2, g3⟩ := hg b hlt
      rw [← show nthE e h.length hin.length b = k by rw [hnth b hlt, g2]] at g3
      refine ⟨by simp only [m2]; omega, ?_, ?_⟩
      · simp only [m2, g3, if_true]; rw [hρ b hlt]; exact (hle1.ρ b hlt).symm
      · simp only [m2, g3, if_true]; rw [hκ b hlt]; exact (hle1.κ b hlt).symm
    · have e1 := hnth2 b hlt
      have e2 : h.length + (b - hin.length) - h.length + hin.length = b := by omega
      exact ⟨by rw [e1]; simp only [m2]; omega, by rw [e1]; simp only [m2]; rw [if_neg (by omega), e2], by rw [e1]; simp only [m2]; rw [if_neg (by omega), e2]⟩
  have newAt : ∀ (b : Nat) (a : AB), ¬ b < h.length → (h ++ nb)[b]? = some (some a) → ∃ a0, hout[b - h.length + hin.length]? = some (some a0) ∧ a0.ext = .cells ∧ a = a0.ren (nthE e h.length hin.length) ∧ m2.ρ b = m1.ρ (b - h.length + hin.length) ∧ m2.κ b = m1.κ (b - h.length + hin.length) := by
    intro b a hlt hb
    rw [List.getElem?_append, if_neg hlt, ← h3, List.getElem?_map, List.getElem?_drop] at hb
    have e1 : hin.length + (b - h.length) = b - h.length + hin.length := by omega
    rw [e1] at hb
    cases ho : hout[b - h.length + hin.length]? with
    | none => rw [ho] at hb; simp at hb
    | some o =>
      rw [ho] at hb
      simp only [Option.map_some, Option.some.injEq] at hb
      cases o with
      | none => simp at hb
      | some a0 =>
        simp only [Option.map_some, Option.some.injEq] at hb
        have hpl := hp (some a0) (List.mem_of_getElem? (i := b - h.length) (by rw [List.getElem?_drop, e1]; exact ho))
        refine ⟨a0, rfl, ?_, hb.symm, by simp only [m2]; rw [if_neg hlt], by simp only [m2]; rw [if_neg hlt]⟩
        simp only [plainB] at hpl
        split at hpl
        · assumption
        · simp at hpl
  refine ⟨m2, hle2, ?_, ⟨by simp [m2], by have := H.lvlLe; simp; omega, Hw.baseLe, ?_, ?_, ?_, H.lo, ?_⟩, hp1.below.mono H.baseLe⟩
  · rw [← h4]
    exact VR.ren (m1 := m1) (m2 := m2) (fun _ hp => hp) (fun b hb => names b (VR.refs_lt hp1.val b hb)) hp1.val
  · intro b a hb
    by_cases hlt : b < h.length
    · rw [List.getElem?_append, if_pos hlt] at hb
      exact (Hw.ent b a hb).monoG hle2 (by omega)
    · obtain ⟨a0, g1, g2, rfl, g5, g6⟩ := newAt b a hlt hb
      obtain ⟨b1, b2, c, fz, b3, b4, b5, b6, b7⟩ := H1.blk _ a0 g1 g2
      refine ⟨fun _ => ⟨by simpa [AB.ren] using b1, fun hf => by rw [g6]; exact b2 hf, c, fz, by rw [g5]; exact b3, by rw [g6]; exact b4, fun _ => b5 (by have h0 : m1.lo = hin.length := hle1.lo; omega), b6, ?_⟩, by simp only [AB.ren, g2]; trivial⟩
      exact all2_ren (fun x hx y hy => CR.ren (m1 := m1) (m2 := m2) (fun _ hp => hp) (fun k hk => names k (CR.refs_lt hy k hk)) hy) b7
  · intro b hl' hb
    simp at hb
    by_cases hlt : b < h.length
    · rw [hle2.ρ b (by omega)]; exact H.own b hl' hlt
    · have e1 : m2.ρ b = m1.ρ (b - h.length + hin.length) := by simp only [m2]; rw [if_neg hlt]
      rw [e1]
      have := H1.own (b - h.length + hin.length) (by omega) (by omega)
      have := H.baseLe
      omega
  · intro b b' hb hb' ⟨a, ha'⟩ ⟨a', ha''⟩ hlo he'
    by_cases hlt : b < h.length <;> by_cases hlt' : b' < h.length
    · rw [hle2.ρ b (by omega), hle2.ρ b' (by omega)] at he'
      rw [List.getElem?_append, if_pos hlt] at ha'
      rw [List.getElem?_append, if_pos hlt'] at ha''
      exact H.inj b b' hlt hlt' ⟨a, ha'⟩ ⟨a', ha''⟩ hlo he'
    · rw [List.getElem?_append, if_pos hlt] at ha'
      obtain ⟨a0, g1, _, _, g5, _⟩ := newAt b' a' hlt' ha''
      rw [hle2.ρ b (by omega), g5] at he'
      have k1 := (H.ent b a ha').lt
      have k2 := H1.own _ (by omega) (List.getElem?_eq_some_iff.1 g1).1
      omega
    · rw [List.getElem?_append, if_pos hlt'] at ha''
      obtain ⟨a0, g1, _, _, g5, _⟩ := newAt b a hlt ha'
      rw [hle2.ρ b' (by omega), g5] at he'
      have k1 := (H.ent b' a' ha'').lt
      have k2 := H1.own _ (by omega) (List.getElem?_eq_some_iff.1 g1).1
      omega
    · obtain ⟨a0, g1, _, _, g5, _⟩ := newAt b a hlt ha'
      obtain ⟨a0', g1', _, _, g5', _⟩ := newAt b' a' hlt' ha''
      rw [g5, g5'] at he'
      have hlo1 : m1.lo = hin.length := hle1.lo
      have := H1.inj _ _ (List.getElem?_eq_some_iff.1 g1).1 (List.getElem?_eq_some_iff.1 g1').1 ⟨a0, g1⟩ ⟨a0', g1'⟩ (.inl (by omega)) he'
      omega
  · intro p hp
    refine ⟨(H1.tab p hp).1, fun b a hb ha => ?_⟩
    by_cases hlt : b < h.length
    · rw [List.getElem?_append, if_pos hlt] at ha
      rw [hle2.ρ b (by omega)]
      rcases hle1.fresh p hp with h0 | h0
      · exact (H.tab p h0).2 b a hb ha
      · have := (H.ent b a ha).lt; omega
    · obtain ⟨a0, g1, _, _, g5, _⟩ := newAt b a hlt ha
      rw [g5]
      exact (H1.tab p hp).2 _ a0 (by omega) g1

end
end Go.Ev
