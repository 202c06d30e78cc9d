/-
  A closed call: what the evaluator says, every run does.
-/
import Derived.Test.YtgplabfjldndgaaGreatDoorEvN
namespace Go.Ev
open Go.RowKit

section
variable {E : Env} {rec : RunT}

theorem calleeFn_sound {m : M} {tm : Tm} {t : Array Value} (hT : TR m tm t) {f : Operand} {g : FuncId} {cs : List AV} (h : calleeFn tm f = some (g, cs)) : ∃ csC : Array Value, evC t f = .func (.func g) #[] csC ∧ All2 (VR m) cs csC.toList := by
  unfold calleeFn at h
  have hfv := evA_sound hT f
  split at h
  · rename_i g' first cs' hev
    rw [hev] at hfv
    have hfv' : evC t f = .func (.func g') first cs' := hfv
    split at h
    · rename_i hfirst
      have : first = #[] := by simpa using hfirst
      subst this
      simp only [Option.some.injEq, Prod.mk.injEq] at h
      obtain ⟨rfl, rfl⟩ := h
      refine ⟨cs', hfv', ?_⟩
      generalize cs'.toList = l
      induction l with
      | nil => trivial
      | cons a l ih => exact ⟨AV.of_sound m a, ih⟩
    · simp at h
  · rename_i g' cs' hev
    rw [hev] at hfv
    obtain ⟨vf, vc, hfv', h1, h2⟩ : ∃ vf vc : Array Value, evC t f = .func (.func g') vf vc ∧ All2 (CE.R m) [] vf.toList ∧ All2 (CE.R m) cs' vc.toList := hfv
    simp only [Option.some.injEq, Prod.mk.injEq] at h
    obtain ⟨rfl, rfl⟩ := h
    have : vf = #[] := by
      cases hv : vf.toList with
      | nil => exact Array.toList_inj.1 (by simpa using hv)
      | cons => rw [hv] at h1; exact h1.elim
    subst this
    exact ⟨vc, hfv', CEs.av h2⟩
  · simp at h

/-- The two blocks of a loop over a function. -/
theorem enter_sound {P : Program} {m : M} {base lvl : Nat} {h : Heap} {w : World} {tm : Tm} {t : Array Value} (hT : TR m tm t) (H : HR m base lvl h w) (fn : FuncId) (ps : Array Tmp) (asg body : Code) :
    ∃ w2 m2, (Instr.enterLoop fn t ps asg body none).run P w = .ok (w.heap.size + 1, [{ target := .collected w.heap.size, args := #[] }]) w2 ∧ HR m2 base lvl (h ++ [some markEnt] ++ [some (loopEnt .ready none tm ps asg body)]) w2 ∧ m.le m2 ∧ m2.n = h.length + 2 ∧
      m2.ρ (h.length + 1) = w.heap.size + 1 ∧ m2.ρ h.length = w.heap.size ∧ Below base w w2 := by
  have hmn := H.n
  have hs1 : (w.alloc (.deferred (some []))).heap.size = w.heap.size + 1 := World.size_alloc _ _
  have H1 : HR (m.push w.heap.size 0) base lvl (h ++ [some markEnt]) (w.alloc (.deferred (some []))) := H.newEnt rfl ⟨fun hx => by simp [markEnt] at hx, by
    show (w.alloc (.deferred (some []))).heap[(m.push w.heap.size 0).ρ m.n]? = _
    rw [M.push_ρ]
    exact World.alloc_heap_new w _⟩
  generalize hw1 : w.alloc (.deferred (some [])) = w1 at H1 hs1
  have hm1 : (m.push w.heap.size 0).n = h.length + 1 := by simp [hmn]
  have hle1 := M.le_push m w.heap.size 0
  have hρ1 : (m.push w.heap.size 0).ρ h.length = w.heap.size := by rw [← hmn]; exact M.push_ρ _ _ _
  have hT1 := hT.mono hle1
  generalize m.push w.heap.size 0 = m1 at *
  have hle2 := M.le_push m1 w1.heap.size 0
  have H2 : HR (m1.push w1.heap.size 0) base lvl (h ++ [some markEnt] ++ [some (loopEnt .ready none tm ps asg body)]) (w1.alloc (.loop { state := .ready, pending := none, fn := fn, tmps := t, params := ps, assign := asg, body, defers := w.heap.size })) :=
    H1.newEnt rfl ⟨fun hx => by simp [loopEnt] at hx, fn, t, w.heap.size, by
      rw [M.push_ρ]
      exact World.alloc_heap_new w1 _, hT1.mono hle2⟩
  refine ⟨_, _, ?_, H2, hle1.trans hle2, by simp [hm1], by rw [← hm1, M.push_ρ, hs1], by rw [hle2.ρ _ (by omega), hρ1], ?_⟩
  · rw [← hw1]; exact run_enterLoop_outer _ _ _ _ _
  · rw [← hw1] at hs1 ⊢
    exact ((Below.refl _ w).alloc H.baseLe _).alloc (by have := H.baseLe; rw [hs1]; omega) _

/-- A loop over a function, up to what comes behind it. -/
theorem loopA_sound (hE : EnvOk E) (hrec : RecOk E rec) {m : M} {base lvl : Nat} {h h' : Heap} {w : World} {tm : Tm} {t : Array Value} {fr : Frame} (hR : fr.roundOf = none) (hT : TR m tm t) (H : HR m base lvl h w) (G : GR E.gl base w) {f : Operand} {ps : Array Tmp} {asg body : Code} {pend : Option Code}
    (hs : loopA E rec lvl h tm f ps asg body = some (pend, h')) (cs : List Frame) (k : List Item) :
    ∃ w' m', Steps E.P (lone (FR fr t (.code (.rangeFunc f ps asg body) :: k)) cs w) (lone (FR { fr with defers := marksC m' [h.length] ++ fr.defers } t ((pend.map Item.code).toList ++ k)) cs w') ∧ HR m' base lvl h' w' ∧ M.leG base m m' ∧ Below base w w' ∧ h.length < m'.n := by
  unfold loopA at hs
  split at hs
  · rename_i g as hcal
    obtain ⟨csC, hev, hcs⟩ := calleeFn_sound hT hcal
    split at hs
    · rename_i fn hfn
      split at hs
      · rename_i c hc
        split at hs
        · rename_i v h2 hcb
          rw [lenL_eq, appL_eq, appL_eq] at hcb
          rw [lenL_eq, getL_eq] at hs
          split at hs
          · rename_i a hab
            split at hs
            · rename_i st pd tm' ps' asg' bo' hx
              obtain ⟨w2, m2, hen, H2, hle2, hn2, hρ2, hρ1, hB2⟩ := enter_sound (P := E.P) hT H fr.fn ps asg body
              have hargs : All2 (VR m2) (.e (.one (.yld (h.length + 1))) :: as) (#[Value.func (.yield (w.heap.size + 1)) #[] #[]] ++ csC).toList := by
                rw [Array.toList_append]
                refine ⟨⟨by omega, by rw [hρ2]⟩, ?_⟩
                exact hcs.imp fun _ _ => VR.mono hle2
              have hcall := callBody_sound hrec hfn hc hargs H2 (G.below hB2) hcb
              obtain ⟨e, w', fr', ⟨y, rfl, m', hp⟩, hsteps, _, hleave⟩ := hcall (FR { fr with defers := [{ target := .collected w.heap.size, args := #[] }] ++ fr.defers } t (.inRangeFunc (w.heap.size + 1) :: k) :: cs)
              have hent := (hp.heap.ent _ a hab).2
              rw [hx] at hent
              obtain ⟨fn', t2, D', hw', hT2⟩ := hent
              have hb2 : h.length + 1 < m2.n := by omega
              rw [hp.le.ρ _ hb2, hρ2] at hw'
              obtain ⟨hbusy, rfl, rfl⟩ : st ≠ .busy ∧ pd = pend ∧ setL h2 (h.length + 1) (some { a with ext := .loop .exhausted pd tm' ps' asg' bo' }) = h' := by
                split at hs
                · simp at hs
                · rename_i hnb
                  simp only [Option.some.injEq, Prod.mk.injEq] at hs
                  exact ⟨hnb, hs.1, hs.2⟩
              have hEnd := run_endLoop (P := E.P) hw' hbusy
              have hlt := (Array.getElem?_eq_some_iff.1 hw').1
              have hlvl := H.lvlLe
              have hbl := (List.getElem?_eq_some_iff.1 hab).1
              have hown := hp.heap.own (h.length + 1) (by omega) hbl
              rw [hp.le.ρ _ hb2, hρ2] at hown
              have e1 : marksC m' [h.length] = [{ target := .collected w.heap.size, args := #[] }] := by
                simp only [marksC, List.map_cons, List.map_nil]
                rw [hp.le.ρ _ (by omega), hρ1]
              refine ⟨w'.putObj (w.heap.size + 1) (.loop { state := .exhausted, pending := pd, fn := fn', tmps := t2, params := ps', assign := asg', body := bo', defers := D' }), m', ?_, ?_, (hle2.g base).trans hp.le, (hB2.trans hp.below).trans (below_putObj hown _), by have := hp.le.n; omega⟩
              · rw [e1]
                have hnb : ¬ fn.body = none := by rw [hc]; simp
                have hnum : ¬ fn.name = "runtime.NumGoroutine" := by simpa using hE.num g fn hfn
                have hst := stepF_rangeFunc (P := E.P) (fr := fr) (t := t) (cs := cs) (w := w) (k := k) (f := f) (ps := ps) (asg := asg) (body := body) (g := g) (args := #[Value.func (.yield (w.heap.size + 1)) #[] #[]] ++ csC) (d := { target := .fn (.func g) csC, args := #[Value.func (.yield (w.heap.size + 1)) #[] #[]] })
                  (by rw [hR]; exact hen) (by
                    have hcv : ∀ v : Value, evC t (.const v) = v := fun _ => rfl
                    simp [resolve, hev, Deferred.ofValue, hcv]) (by simp [invoke, callFunc, hfn, hnb, hnum])
                exact .head hst (Steps.trans hsteps (.head (step_leave_returned hleave) (.one (stepF_endLoop hEnd))))
              · rw [setL_eq]
                refine hp.heap.putEnt hab (by omega) (by simp) (fun k hk => World.putObj_heap_other (by rw [hp.le.ρ _ hb2, hρ2] at hk; exact hk)) ⟨fun hx => by simp at hx, fn', t2, D', ?_, hT2⟩
                rw [hp.le.ρ _ hb2, hρ2]
                exact World.putObj_heap_same hlt
            · simp at hs
          · simp at hs
        · simp at hs
      · simp at hs
    · simp at hs
  · simp at hs

theorem runF_sound (hE : EnvOk E) (hrec : RecOk E rec) : RecOk E (runF E rec) := by
  intro rd lvl h todo tm r hs fr t cs w m base hR hT H G
  have go : ∀ {todo' : List Item}, step E.P (lone (FR fr t todo) cs w) = .next (lone (FR fr t todo') cs w) → rec rd lvl h todo' tm = some r →
      ∃ t' todo'' w' m', Steps E.P (lone (FR fr t todo) cs w) (lone (FR { fr with defers := marksC m' r.marks ++ fr.defers } t' todo'') cs w') ∧ TR m' r.tm t' ∧ HR m' base lvl r.heap w' ∧ M.leG base m m' ∧ Below base w w' ∧ EndOk r.jump todo'' ∧ ∀ b ∈ r.marks, b < m'.n := by
    intro todo' hst hr
    obtain ⟨t', todo'', w', m', h1, h2⟩ := hrec _ _ _ _ _ _ hr fr t cs w m base hR hT H G
    exact ⟨t', todo'', w', m', .head hst h1, h2⟩
  unfold runF at hs
  split at hs
  · simp only [Option.some.injEq] at hs; subst hs
    exact ⟨t, [], w, m, .refl _ _, hT, H, M.leG.refl _ m, Below.refl _ _, rfl, by simp⟩
  · simp only [Option.some.injEq] at hs; subst hs
    exact ⟨t, _, w, m, .refl _ _, hT, H, M.leG.refl _ m, Below.refl _ _, ⟨_, rfl⟩, by simp⟩
  · exact go stepF_skip hs
  · exact go stepF_label hs
  · exact go stepF_inBlock hs
  · exact go stepF_inScope hs
  · exact go stepF_seq hs
  · rename_i c a b k
    split at hs
    · rename_i tt hc
      have hv := evA_sound hT c
      rw [hc] at hv
      exact go (stepF_cond (show evC t c = .bool tt from hv)) hs
    · simp at hs
  · exact go stepF_block hs
  · exact go stepF_loop hs
  · exact go stepF_inLoop hs
  · exact go stepF_scope hs
  · rename_i id k
    split at hs
    · rename_i k' hk
      exact go (stepF_exit hk) hs
    · rename_i hk
      simp only [Option.some.injEq] at hs; subst hs
      exact ⟨t, _, w, m, .refl _ _, hT, H, M.leG.refl _ m, Below.refl _ _, ⟨k, rfl, hk⟩, by simp⟩
  · rename_i id ops draw k
    cases draw with
    | false =>
      simp only [Bool.false_eq_true, if_false] at hs
      split at hs
      · rename_i h1 tm1 hso
        obtain ⟨t1, w1, m1, hst, hT1, H1, hle1, hB1⟩ := stepOps_sound (stdS_ok hE hrec) ops ops.toList 0 (by simp) hT H G hso fr cs k
        obtain ⟨t', todo'', w', m', g1, g2, g3, g4, g5, g6⟩ := hrec _ _ _ _ _ _ hs fr t1 cs w1 m1 base (hR.mono hle1) hT1 H1 (G.below hB1)
        refine ⟨t', todo'', w', m', .head stepF_region (Steps.trans ?_ g1), g2, g3, hle1.trans g4, hB1.trans g5, g6⟩
        have e : List.range ops.size = List.range' 0 ops.toList.length := by rw [List.range_eq_range', Array.length_toList]
        rw [e]
        exact hst
      · simp at hs
    | true =>
      simp only [if_true] at hs
      split at hs
      · rename_i h1 tm1 hso
        have hB0 : Below base w { w with drawn := w.drawn + 1 } := ⟨rfl, rfl, rfl, Nat.le_refl _, fun _ _ => rfl⟩
        have H0 : HR m base lvl h { w with drawn := w.drawn + 1 } := H.world (Nat.le_refl _) fun _ _ => rfl
        obtain ⟨t1, w1, m1, hst, hT1, H1, hle1, hB1⟩ := drawOps_sound (stdS_ok hE hrec) hE.mixed hT H0 (G.below hB0) hso (w.tape w.drawn (.order fr.fn id)) fr cs k
        obtain ⟨t', todo'', w', m', g1, g2, g3, g4, g5, g6⟩ := hrec _ _ _ _ _ _ hs fr t1 cs w1 m1 base (hR.mono hle1) hT1 H1 ((G.below hB0).below hB1)
        exact ⟨t', todo'', w', m', .head stepF_regionDraw (Steps.trans hst g1), g2, g3, hle1.trans g4, (hB0.trans hB1).trans g5, g6⟩
      · simp at hs
  · rename_i k
    split at hs
    · rename_i b
      rw [getL_eq] at hs
      split at hs
      · rename_i a hab
        split at hs
        · rename_i pd tm' ps asg bo hx
          split at hs
          · rename_i hlb
            rw [Nat.ble_eq] at hlb
            obtain ⟨hbn, hro, _⟩ := hR
            have hent := (H.ent b a hab).2
            rw [hx] at hent
            obtain ⟨fn', t2, D', hw', hT2⟩ := hent
            have hlt := (Array.getElem?_eq_some_iff.1 hw').1
            have hbr := run_beginRound (P := E.P) hw' rfl
            rw [setL_eq] at hs
            have H1 : HR m base lvl (h.set b (some { a with ext := .loop .busy pd tm' ps asg bo })) (w.putObj (m.ρ b) (.loop { state := .busy, pending := pd, fn := fn', tmps := t2, params := ps, assign := asg, body := bo, defers := D' })) :=
              H.putEnt hab hlb (by simp) (fun k hk => World.putObj_heap_other hk) ⟨fun hx => by simp at hx, fn', t2, D', World.putObj_heap_same hlt, hT2⟩
            have hB1 := below_putObj (w := w) (H.own b hlb (List.getElem?_eq_some_iff.1 hab).1) (.loop { state := .busy, pending := pd, fn := fn', tmps := t2, params := ps, assign := asg, body := bo, defers := D' })
            obtain ⟨t', todo'', w', m', g1, g2, g3, g4, g5, g6⟩ := hrec _ _ _ _ _ _ hs fr t cs _ m base ⟨hbn, hro, by assumption⟩ hT H1 (G.below hB1)
            exact ⟨t', todo'', w', m', .head (stepF_beginRound hro hbr) g1, g2, g3, g4, hB1.trans g5, g6⟩
          · simp at hs
        · simp at hs
      · simp at hs
    · simp at hs
  · rename_i f ps asg body k
    split at hs
    · split at hs
      · rename_i pend h1 hl
        split at hs
        · rename_i r' hr
          simp only [Option.some.injEq] at hs
          subst hs
          have hR0 : fr.roundOf = none := hR
          obtain ⟨w1, m1, hst, H1, hle1, hB1, hn1⟩ := loopA_sound hE hrec hR0 hT H G hl cs k
          obtain ⟨t', todo'', w', m', g1, g2, g3, g4, g5, g6, g7⟩ := hrec _ _ _ _ _ _ hr { fr with defers := marksC m1 [h.length] ++ fr.defers } t cs w1 m1 base (show fr.roundOf = none from hR0) (hT.monoG hle1) H1 (G.below hB1)
          refine ⟨t', todo'', w', m', Steps.trans hst ?_, g2, g3, hle1.trans g4, hB1.trans g5, g6, ?_⟩
          · have e : marksC m' (appL r'.marks [lenL h]) ++ fr.defers = marksC m' r'.marks ++ (marksC m1 [h.length] ++ fr.defers) := by
              rw [appL_eq, lenL_eq]
              simp only [marksC, List.map_append, List.map_cons, List.map_nil, List.append_assoc]
              rw [g4.ρ _ hn1]
            simp only [e]
            exact g1
          · intro b hb
            simp only [appL_eq, lenL_eq, List.mem_append, List.mem_singleton] at hb
            rcases hb with hb | rfl
            · exact g7 b hb
            · have := g4.n; omega
        · simp at hs
      · simp at hs
    · simp at hs
  · simp at hs

theorem run_sound (hE : EnvOk E) : ∀ n, RecOk E (run E n)
  | 0 => fun _ _ _ _ _ _ h => by simp [run] at h
  | n + 1 => runF_sound hE (run_sound hE n)

/-- A closed call: what the evaluator says of it holds in every world. -/
theorem closed_call (hE : EnvOk E) (n : Nat) {f : FuncId} {args : List AV} {argsC : Array Value} {v : AV} {h' : Heap} (w : World) (ha : All2 (VR { n := 0, ρ := id, κ := id }) args argsC.toList) (G : GR E.gl w.heap.size w)
    (hs : callA E (run E n) 0 [] f args = some (v, h')) :
    Calls E.P f argsC w fun e w' => ∃ y, e = .returned y ∧ (∃ m', VR m' v y) ∧ Below w.heap.size w w' := by
  have H : HR { n := 0, ρ := id, κ := id } w.heap.size 0 [] w := ⟨rfl, Nat.le_refl _, Nat.le_refl _, fun b a h => by simp at h, fun b _ h => by simp at h, fun b b' h => by simp at h, Nat.le_refl _, fun p hp => by simp at hp⟩
  exact (callA_sound (run_sound hE n) ha H G hs).mono fun e w' ⟨y, hy, m', hp⟩ => ⟨y, hy, ⟨m', hp.val⟩, hp.below⟩

end
end Go.Ev
