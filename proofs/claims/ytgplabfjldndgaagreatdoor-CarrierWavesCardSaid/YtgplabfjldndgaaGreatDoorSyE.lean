/-
  What an open run may forget, and the contract of a call out of its frame's run.
-/
import Derived.Test.YtgplabfjldndgaaGreatDoorSyD
namespace Go.Ev
open Go.RowKit
noncomputable section

def memN (l : List Nat) (i : Nat) : Bool := List.rec (motive := fun _ => Bool) false (fun a _ ih => if Nat.beq a i then true else ih) l
/-- all slots but some are forgotten -/
def forgetT (ks : List Nat) (j : Nat → Value) (tm : Tm) : Nat → Tm :=
  List.rec (motive := fun _ => Nat → Tm) (fun _ => []) (fun x _ ih i => (if memN ks i then x else .e (.one (.v (j i)))) :: ih (Nat.succ i)) tm

variable {E : Env} {rec : RunT} {lvl K : Nat} {r : Res → Prop}

theorem forgetT_sound {m : M} {ks : List Nat} {t : Array Value} : ∀ (tm : Tm) (i : Nat), (∀ k a, tm[k]? = some a → VR m a (t.getD (i + k) undef)) → ∀ k a, (forgetT ks (fun i => t.getD i undef) tm i)[k]? = some a → VR m a (t.getD (i + k) undef)
  | [], i, _, k, a, h => by simp [forgetT] at h
  | x :: tm, i, hT, k, a, h => by
    have h' : ((if memN ks i then x else .e (.one (.v (t.getD i undef)))) :: forgetT ks (fun i => t.getD i undef) tm (i + 1))[k]? = some a := h
    cases k with
    | zero =>
      simp only [List.getElem?_cons_zero, Option.some.injEq] at h'
      subst h'
      split
      · exact hT 0 x rfl
      · exact rfl
    | succ k =>
      simp only [List.getElem?_cons_succ] at h'
      have := forgetT_sound tm (i + 1) (fun k a h => by have := hT (k + 1) a h; rwa [show i + 1 + k = i + (k + 1) by omega]) k a h'
      rwa [show i + 1 + k = i + (k + 1) by omega] at this

theorem forgetT_length (ks : List Nat) (j : Nat → Value) : ∀ (tm : Tm) (i : Nat), (forgetT ks j tm i).length = tm.length
  | [], _ => rfl
  | _ :: tm, i => by show (forgetT ks j tm (i + 1)).length + 1 = _; rw [forgetT_length]; rfl

theorem TR.forget {m : M} {tm : Tm} {t : Array Value} (hT : TR m tm t) (ks : List Nat) : TR m (forgetT ks (fun i => t.getD i undef) tm 0) t := by
  have hl := hT.length
  refine All2.of_get (by rw [forgetT_length]; exact hl) fun i a b ha hb => ?_
  have := forgetT_sound (m := m) (ks := ks) (t := t) tm 0 (fun k a h => by
    obtain ⟨y, hy, hr⟩ := hT.get h
    have : t.getD (0 + k) undef = y := by
      rw [Nat.zero_add, Array.getD_eq_getD_getElem?]
      simp only [Array.getElem?_toList] at hy
      rw [hy]; rfl
    rw [this]; exact hr) i a ha
  have e : t.getD (0 + i) undef = b := by
    rw [Nat.zero_add, Array.getD_eq_getD_getElem?]
    simp only [Array.getElem?_toList] at hb
    rw [hb]; rfl
  rwa [e] at this

/-- Slots that nothing looks at any more may hold whatever they like. -/
theorem outK_forget (ks : List Nat) {h : Heap} {todo : List Item} {tm : Tm} (ho : ∀ j : Nat → Value, OutK E lvl K ⟨h, todo, forgetT ks j tm 0⟩ r) : OutK E lvl K ⟨h, todo, tm⟩ r :=
  fun fr t cs w m base hR hT H G hK => ho (fun i => t.getD i undef) fr t cs w m base hR (TR.forget hT ks) H G hK

/-- which block of the old heap a block of the new one is -/
def selF (e : List Nat) (L : Nat) : Nat → Nat := nthE e L e.length
def rangeTo (K : Nat) : List Nat := List.range K

/-- Some of the blocks, under new numbers. -/
theorem HR.sel {m : M} {base lvl K : Nat} {h h' : Heap} {w : World} (H : HR m base lvl h w) {e : List Nat} (hlK : lvl ≤ K) (hl : e.length = h'.length) (hK : ∀ i, i < K → e[i]? = some i) (hnd : e.Nodup) (hlt : ∀ b ∈ e, b < h.length) (hge : ∀ b ∈ e.drop K, K ≤ b) (hKe : K ≤ e.length)
    (hp : ∀ b ∈ h', plainB b = true) (h2 : e.map (fun b => h[b]?) = h'.map (fun b => some (b.map (AB.ren (nthE e h.length e.length))))) :
    ∃ m2 : M, HR m2 base lvl h' w ∧ M.leK base K m m2 ∧ m2.n = e.length ∧ (∀ b, b < e.length → m.ρ (nthE e h.length e.length b) = m2.ρ b) ∧ (∀ b, b < e.length → m.κ (nthE e h.length e.length b) = m2.κ b) ∧ (∀ b, nthE e h.length e.length b < m.n → b < e.length) ∧ m2.F = m.F := by
  have hmn := H.n
  let m2 : M := { n := e.length, ρ := fun i => m.ρ (getD0 e i), κ := fun i => m.κ (getD0 e i), lo := m.lo, F := m.F }
  have hg : ∀ i, i < e.length → ∃ b, e[i]? = some b ∧ getD0 e i = b ∧ b < h.length := fun i hi => by
    refine ⟨e[i], List.getElem?_eq_getElem hi, ?_, hlt _ (List.getElem_mem hi)⟩
    rw [getD0_eq, List.getD_eq_getElem?_getD, List.getElem?_eq_getElem hi]; rfl
  have hnth : ∀ i, i < e.length → nthE e h.length e.length i = getD0 e i := fun i hi => by simp [nthE, hi]
  have hnth2 : ∀ i, ¬ i < e.length → nthE e h.length e.length i = h.length + (i - e.length) := fun i hi => by simp [nthE, hi]
  have hback : ∀ i, nthE e h.length e.length i < m.n → i < e.length := fun i hi => by
    by_cases hlt : i < e.length
    · exact hlt
    · rw [hnth2 i hlt] at hi; omega
  have hρ : ∀ b, b < e.length → m.ρ (nthE e h.length e.length b) = m2.ρ b := fun b hb => by rw [hnth b hb]
  have hκ : ∀ b, b < e.length → m.κ (nthE e h.length e.length b) = m2.κ b := fun b hb => by rw [hnth b hb]
  have hKi : ∀ i, i < K → getD0 e i = i := fun i hi => by
    rw [getD0_eq, List.getD_eq_getElem?_getD, hK i hi]; rfl
  have hKg : ∀ i, K ≤ i → i < e.length → K ≤ getD0 e i := fun i h1 h2 => by
    obtain ⟨b, g1, g2, _⟩ := hg i h2
    rw [g2]
    refine hge b (List.mem_of_getElem? (i := i - K) ?_)
    rw [List.getElem?_drop, show K + (i - K) = i by omega, g1]
  have hx : ∀ i a, h'[i]? = some (some a) → i < e.length ∧ h[getD0 e i]? = some (some (a.ren (nthE e h.length e.length))) ∧ a.ext = .cells := by
    intro i a hi
    have hil : i < e.length := by rw [hl]; exact (List.getElem?_eq_some_iff.1 hi).1
    obtain ⟨b, g1, g2, _⟩ := hg i hil
    refine ⟨hil, ?_, ?_⟩
    · rw [g2]
      have e1 : (e.map (fun b => h[b]?))[i]? = some h[b]? := by rw [List.getElem?_map, g1]; rfl
      rw [h2, List.getElem?_map, hi] at e1
      simpa using e1.symm
    · have := hp _ (List.mem_of_getElem? hi)
      simp only [plainB] at this
      split at this
      · assumption
      · simp at this
  refine ⟨m2, ⟨hl, by omega, H.baseLe, fun i a hi => ?_, fun b h1 h2 => ?_, fun b b' h1 h2 ⟨a, ha⟩ ⟨a', ha'⟩ hlo he => ?_, H.lo, fun p hp => ⟨(H.tab p hp).1, fun b a hb ha => ?_⟩⟩, ⟨hKe, fun b hb => by simp only [m2, hKi b hb], fun b hb => by simp only [m2, hKi b hb], rfl, fun _ hp => hp, fun _ hp => .inl hp⟩, rfl, hρ, hκ, hback, rfl⟩
  · obtain ⟨hil, g1, g2⟩ := hx i a hi
    obtain ⟨b1, b2, c, fz, b3, b4, b5, b6, b7⟩ := H.blk _ _ g1 (by simpa [AB.ren] using g2)
    have hloK := Nat.le_trans H.lo hlK
    have hlo : m.lo ≤ i → m.lo ≤ getD0 e i := fun h0 => by
      by_cases hb : i < K
      · rw [hKi i hb]; exact h0
      · have := hKg i (by omega) hil; omega
    refine ⟨fun _ => ⟨by simpa [AB.ren] using b1, b2, c, fz, b3, b4, fun h0 => b5 (hlo h0), b6, ?_⟩, by rw [g2]; trivial⟩
    have b7' : All2 (CR m) (a.cells.map (AC.ren (nthE e h.length e.length))) (c.toList.take a.n) := b7
    refine all2_unren (fun x _ y hy => CR.unren (m1 := m2) (m2 := m) (fun _ hp => hp) rfl hρ hκ (fun k hk => hback k (CR.refs_lt hy _ ?_)) hy) b7'
    rw [AC.refs_ren]
    exact List.mem_map_of_mem hk
  · show base ≤ m.ρ (getD0 e b)
    obtain ⟨k, _, g2, g3⟩ := hg b (by omega)
    refine H.own _ ?_ (by omega)
    by_cases hb : b < K
    · rw [hKi b hb]; exact h1
    · have := hKg b (by omega) (by omega); omega
  · obtain ⟨i1, g1, _⟩ := hx b a ha
    obtain ⟨i2, g2, _⟩ := hx b' a' ha'
    have hlo' : m.lo ≤ getD0 e b ∨ m.lo ≤ getD0 e b' := by
      have hloK := Nat.le_trans H.lo hlK
      have key : ∀ i, i < e.length → m.lo ≤ i → m.lo ≤ getD0 e i := fun i hi h0 => by
        by_cases hb : i < K
        · rw [hKi i hb]; exact h0
        · have := hKg i (by omega) hi; omega
      exact hlo.imp (key b i1) (key b' i2)
    have := H.inj _ _ (List.getElem?_eq_some_iff.1 g1).1 (List.getElem?_eq_some_iff.1 g2).1 ⟨_, g1⟩ ⟨_, g2⟩ hlo' he
    obtain ⟨k, k1, k2, _⟩ := hg b i1
    obtain ⟨k', k1', k2', _⟩ := hg b' i2
    rw [k2, k2'] at this
    subst this
    exact (List.getElem?_inj i1 hnd).1 (k1.trans k1'.symm)
  · obtain ⟨i1, g1, _⟩ := hx b a ha
    refine (H.tab p hp).2 _ _ ?_ g1
    by_cases hb' : b < K
    · rw [hKi b hb']; exact hb
    · have := hKg b (by omega) i1; omega

/-- what is asked of a choice of blocks, for the kernel to run -/
def selOk (e : List Nat) (L K L' : Nat) (h' : Heap) : Bool :=
  Nat.beq (lenL e) L' && nodupB e && (e.all fun b => Nat.blt b L) && ((dropL e K).all fun b => Nat.ble K b) && Nat.ble K (lenL e) && (List.range K).all (fun i => Nat.beq (getD0 e i) i) && h'.all plainB

theorem nodupB_spec : ∀ {l : List Nat}, nodupB l = true → l.Nodup
  | [], _ => List.nodup_nil
  | x :: l, h => by
    simp only [nodupB, Bool.and_eq_true, Bool.not_eq_true', List.contains_eq_mem, decide_eq_false_iff_not] at h
    exact List.nodup_cons.2 ⟨h.1, nodupB_spec h.2⟩

theorem HR.sel' {m : M} {base lvl K : Nat} {h h' : Heap} {w : World} (H : HR m base lvl h w) {e : List Nat} (hlK : lvl ≤ K) (hok : selOk e (lenL h) K (lenL h') h' = true)
    (h2 : e.map (getL h) = h'.map (fun b => some (b.map (AB.ren (nthE e (lenL h) (lenL e)))))) :
    ∃ m2 : M, HR m2 base lvl h' w ∧ M.leK base K m m2 ∧ m2.n = e.length ∧ (∀ b, b < e.length → m.ρ (nthE e h.length e.length b) = m2.ρ b) ∧ (∀ b, b < e.length → m.κ (nthE e h.length e.length b) = m2.κ b) ∧ (∀ b, nthE e h.length e.length b < m.n → b < e.length) ∧ m2.F = m.F := by
  simp only [selOk, Bool.and_eq_true, List.all_eq_true, Nat.blt_eq, Nat.ble_eq] at hok
  obtain ⟨⟨⟨⟨⟨⟨c1, c2⟩, c3⟩, c4⟩, c5⟩, c6⟩, c7⟩ := hok
  have c1 := Nat.eq_of_beq_eq_true c1
  have hgl : getL h = fun b : Nat => h[b]? := funext fun b => getL_eq h b
  simp only [lenL_eq, dropL_eq, hgl] at c1 c3 c4 c5 h2
  refine H.sel hlK c1 (fun i hi => ?_) (nodupB_spec c2) c3 c4 c5 c7 h2
  have := Nat.eq_of_beq_eq_true (c6 i (by simpa using hi))
  rw [getD0_eq, List.getD_eq_getElem?_getD, List.getElem?_eq_getElem (by omega)] at this
  rw [List.getElem?_eq_getElem (by omega)]
  simpa using this

/-- Blocks that nothing leads to any more are dropped, the others get new numbers. -/
theorem outK_gc (e : List Nat) {h h' : Heap} {todo : List Item} {tm tm' : Tm} (hlK : lvl ≤ K) (hok : selOk e (lenL h) K (lenL h') h' = true)
    (h2 : e.map (getL h) = h'.map (fun b => some (b.map (AB.ren (nthE e (lenL h) (lenL e)))))) (h1 : tm'.map (AV.ren (nthE e (lenL h) (lenL e))) = tm)
    (ho : OutK E lvl K ⟨h', todo, tm'⟩ r) : OutK E lvl K ⟨h, todo, tm⟩ r := by
  intro fr t cs w m base hR hT H G hK
  obtain ⟨m2, H2, hle, hn, hρ, hκ, hback, hmF⟩ := H.sel' hlK hok h2
  simp only [lenL_eq] at h1
  have hT2 : TR m2 tm' t := by
    have hT' : All2 (VR m) tm t.toList := hT
    rw [← h1] at hT'
    refine all2_unren (fun a _ y hy => VR.unren (by rw [hmF]; exact fun _ hp => hp) hn hρ hκ (fun b hb => hback b (VR.refs_lt hy _ ?_)) hy) hT'
    rw [AV.refs_ren]
    exact List.mem_map_of_mem hb
  obtain ⟨q, hq, t', todo', w', m', g1, g2, g3, g4, g5, g6⟩ := ho fr t cs w m2 base hR hT2 H2 G hle.n
  exact ⟨q, hq, t', todo', w', m', g1, g2, g3, hle.trans g4, g5, g6⟩

theorem outK_gcF (e : List Nat) (fl : List Bool) {h h' : Heap} {todo : List Item} {tm tm' : Tm} (hlK : lvl ≤ K) (hok : (selOk e (lenL h) K (lenL h') h' && Nat.beq (lenL fl) (lenL h')) = true)
    (h2 : e.map (getL h) = renFl (nthE e (lenL h) (lenL e)) fl h') (hf : flatP fl h') (h1 : tm'.map (AV.ren (nthE e (lenL h) (lenL e))) = tm)
    (ho : OutK E lvl K ⟨h', todo, tm'⟩ r) : OutK E lvl K ⟨h, todo, tm⟩ r := by
  rw [Bool.and_eq_true] at hok
  have hl := Nat.eq_of_beq_eq_true hok.2
  rw [lenL_eq, lenL_eq] at hl
  rw [renFl_eq _ hl hf] at h2
  exact outK_gc e hlK hok.1 h2 h1 ho

/-- how a frame must end for its call to give v, with a heap -/
def Ends (E : Env) (fn : Func) (v : AV) (hout : Heap) (r : Res) : Prop := fellOrRet r.jump = true ∧ r.marks = [] ∧ r.heap = hout ∧ resultsA E fn r.tm hout = some v

/-- A contract out of the run of the function's frame. -/
theorem cOut_of {f : FuncId} {fn : Func} {c : Code} (hf : E.P.funcs[f]? = some fn) (hc : fn.body = some c) {lvl : Nat} {hin : Heap} {args : List AV} {hout : Heap} {v : AV}
    (ho : OutK E lvl hin.length ⟨hin, [.code c], appL args (List.replicate (fn.ntmps - lenL args) (.tup []))⟩ (Ends E fn v hout)) : COut E lvl hin f args v hout := by
  intro m base w argsC ha H G
  classical
  have hbody : ∀ cs : List Frame, True := fun _ => trivial
  intro cs
  let fr0 : Frame := Frame.enter E.P f argsC .normal
  have hT : TR m (appL args (List.replicate (fn.ntmps - lenL args) (.tup []))) (argsC ++ Array.replicate (fn.ntmps - argsC.size) undef) := by
    unfold TR
    rw [appL_eq, lenL_eq, Array.toList_append, Array.toList_replicate]
    have hl : args.length = argsC.size := by have := ha.length; simpa using this
    rw [hl]
    exact ha.append (all2_undef m _)
  have he : fr0 = FR fr0 (argsC ++ Array.replicate (fn.ntmps - argsC.size) undef) [.code c] := by
    simp [fr0, Frame.enter, FR, hf, hc]
  have hround : fr0.roundOf = none := rfl
  obtain ⟨r, ⟨hj, hm, hh, hv⟩, t', todo', w1, m', hst, hT', H', hle, hB, hend, _⟩ := ho fr0 _ cs w m base hround hT H G (by rw [H.n]; exact Nat.le_refl _)
  have hd0 : fr0.defers = [] := rfl
  rw [hd0, hm] at hst
  have hmk : marksC m' [] ++ [] = fr0.defers := rfl
  rw [hmk] at hst
  have hfr : ({ fr0 with defers := fr0.defers } : Frame) = fr0 := rfl
  rw [hfr] at hst
  have fin : ∃ todo'', Steps E.P (lone (FR fr0 t' todo') cs w1) (lone { FR fr0 t' todo'' with mode := .returning } cs w1) := by
    cases hjj : r.jump with
    | fell =>
      rw [hjj] at hend
      have : todo' = [] := hend
      subst this
      exact ⟨[], .one (stepF_end hround)⟩
    | ret =>
      rw [hjj] at hend
      obtain ⟨k, rfl⟩ := hend
      exact ⟨.code .ret :: k, .one (stepF_ret hround)⟩
    | exit id => rw [hjj] at hj; simp [fellOrRet] at hj
  obtain ⟨todo'', hfin⟩ := fin
  obtain ⟨y, hy, hvr⟩ := resultsA_sound (E := E) hT' H' (G.below hB) (by rw [hh]; exact hv)
  have hmn := H.n
  rw [hh] at H'
  refine ⟨.returned y, w1, { FR fr0 t' todo'' with mode := .returning }, ⟨y, rfl, m', ⟨by rw [hmn]; exact hle.n, fun b hb => hle.ρ b (by omega), fun b hb => hle.κ b (by omega), hle.lo, hle.F, hle.fresh⟩, hvr, H', hB⟩, ?_, rfl, ?_⟩
  · show Steps E.P (lone fr0 cs w) _
    rw [he]
    exact Steps.trans hst hfin
  · exact ⟨rfl, rfl, rfl, fn, hf, hy⟩

/-- A contract's heap may be cleared. -/
theorem cOut_gc {f : FuncId} {lvl : Nat} {hin : Heap} {args : List AV} {v v' : AV} {h h' : Heap} (e : List Nat) (hlK : lvl ≤ hin.length) (hc : COut E lvl hin f args v h) (hok : selOk e (lenL h) hin.length (lenL h') h' = true)
    (h2 : e.map (getL h) = h'.map (fun b => some (b.map (AB.ren (nthE e (lenL h) (lenL e)))))) (h1 : v'.ren (nthE e (lenL h) (lenL e)) = v) : COut E lvl hin f args v' h' := by
  intro m base w argsC ha H G
  refine (hc m base w argsC ha H G).mono fun en w' ⟨y, hy, m1, hp⟩ => ⟨y, hy, ?_⟩
  obtain ⟨m2, H2, hle, hn, hρ, hκ, hback, hmF⟩ := hp.heap.sel' hlK hok h2
  simp only [lenL_eq] at h1
  have hmn := H.n
  refine ⟨m2, ⟨by rw [hmn]; exact hle.n, fun b hb => by rw [hle.ρ b (by omega), hp.le.ρ b hb], fun b hb => by rw [hle.κ b (by omega), hp.le.κ b hb], hle.lo.trans hp.le.lo, fun p h0 => hle.F p (hp.le.F p h0), fun p h0 => (hle.fresh p h0).elim (hp.le.fresh p) .inr⟩, ?_, H2, hp.below⟩
  have hval := hp.val
  rw [← h1] at hval
  refine VR.unren (by rw [hmF]; exact fun _ hp => hp) hn hρ hκ (fun b hb => hback b (VR.refs_lt hval _ ?_)) hval
  rw [AV.refs_ren]
  exact List.mem_map_of_mem hb

theorem cOut_gcF {f : FuncId} {lvl : Nat} {hin : Heap} {args : List AV} {v v' : AV} {h h' : Heap} (e : List Nat) (fl : List Bool) (hlK : lvl ≤ hin.length) (hc : COut E lvl hin f args v h) (hok : (selOk e (lenL h) hin.length (lenL h') h' && Nat.beq (lenL fl) (lenL h')) = true)
    (h2 : e.map (getL h) = renFl (nthE e (lenL h) (lenL e)) fl h') (hf : flatP fl h') (h1 : v'.ren (nthE e (lenL h) (lenL e)) = v) : COut E lvl hin f args v' h' := by
  rw [Bool.and_eq_true] at hok
  have hl := Nat.eq_of_beq_eq_true hok.2
  rw [lenL_eq, lenL_eq] at hl
  rw [renFl_eq _ hl hf] at h2
  exact cOut_gc e hlK hc hok.1 h2 h1

/-- A closed call has a contract. -/
theorem cOut_run (hE : EnvOk E) {n : Nat} {lvl : Nat} {hin hout : Heap} {f : FuncId} {args : List AV} {v : AV} (hs : callA E (run E n) lvl hin f args = some (v, hout)) : COut E lvl hin f args v hout :=
  fun _ _ _ _ ha H G => callA_sound (run_sound hE n) ha H G hs

end
end Go.Ev
