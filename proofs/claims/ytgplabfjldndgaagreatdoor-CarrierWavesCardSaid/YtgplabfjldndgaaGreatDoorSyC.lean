/-
  One operation of an open run.
-/
import Derived.Test.YtgplabfjldndgaaGreatDoorSyDp
namespace Go.Ev
open Go.RowKit

section
variable {E : Env} {rec : RunT} {m : M} {base lvl : Nat} {h h' : Heap} {w : World} {tm : Tm} {t : Array Value} {x : AV}

theorem map_some_inj {α β : Type} {f : α → β} : ∀ {l : List α} {m : List β}, l.map (fun b => some (f b)) = m.map some → l.map f = m
  | [], [], _ => rfl
  | [], _ :: _, h => by simp at h
  | _ :: _, [], h => by simp at h
  | a :: l, b :: m, h => by
    simp only [List.map_cons, List.cons.injEq, Option.some.injEq] at h ⊢
    exact ⟨h.1, map_some_inj h.2⟩

theorem take_one {P : Program} {u : TypeId} {l : List AC} {k : Nat} {c : AC} {d : TypeDesc} {i : TypeInfo} (hd : P.underlying u = some d) (hi : P.info? u = some i) (ha : isAggD d = false) (hc : getL l k = some c) : take? P u l k = some (.one c) := by
  unfold take?
  simp only [hd, hi, ha, hc]
  rfl
theorem take_agg {P : Program} {u : TypeId} {l r : List AC} {k : Nat} {d : TypeDesc} {i : TypeInfo} (hd : P.underlying u = some d) (hi : P.info? u = some i) (ha : isAggD d = true) (hc : takeL (dropL l k) i.size = some r) : take? P u l k = some (.agg r) := by
  unfold take?
  simp only [hd, hi, ha, hc]
  rfl

theorem opRes_call (hE : EnvOk E) (hT : TR m tm t) {o : Oper} {c : Call} (hop : o.op = .call c) {f : FuncId} {args : List AV} (hcal : calleeOf tm c = some (f, args)) {fn : Func} (hfn : E.P.funcs[f]? = some fn) (hbody : fn.body.isSome = true)
    (hc : ∀ argsC : Array Value, All2 (VR m) args argsC.toList → Calls E.P f argsC w fun e w' => ∃ y, e = .returned y ∧ ∃ m', PostG m base lvl w x h' y w' m') :
    OpRes E.P t o w fun y w' => ∃ m', PostO o m base lvl w x h' y w' m' := by
  obtain ⟨argsC, hrun, hargs⟩ := call_enter hE hT hop hcal hfn hbody w
  exact ⟨by simp [hop], by simp [hop], .inr (.inl ⟨f, argsC, hrun, (hc argsC hargs).mono fun e w' ⟨y, hy, m', hp⟩ => ⟨y, hy, m', hp, fun h0 => by rw [callV_callee hop hcal] at h0; cases h0⟩⟩)⟩

theorem all2_nil_of {α β : Type} {R : α → β → Prop} : All2 R ([] : List α) ([] : List β) := trivial

theorem plainP_spec : ∀ {h : Heap}, plainP h → ∀ b ∈ h, plainB b = true
  | [], _, b, hb => by simp at hb
  | a :: h, hp, b, hb => by
    rcases List.mem_cons.1 hb with rfl | hb
    · exact hp.1
    · exact plainP_spec hp.2 b hb

theorem u8_cells {m : M} : ∀ (bs : List UInt8) (ys : List Value), All2 (CR m) (bs.map u8c) ys → ys = bs.map fun b => Value.int .u8 b.toNat
  | [], [], _ => rfl
  | [], _ :: _, h => h.elim
  | _ :: _, [], h => h.elim
  | b :: bs, y :: ys, h => by
    have h1 : y = .int .u8 b.toNat := h.1
    rw [h1, u8_cells bs ys h.2]; rfl

theorem run_v {P : Program} {s : Sem Value} {w w' : World} {y : Value} (h : s.run P w = .ok y w') : (do pure (.value (← s)) : Sem Next).run P w = .ok (.value y) w' := by
  simp only [Sem.run_bind, h, Result.andThen_ok]
  rfl
theorem Post.draw {c : AC} {y : Value} {n : Nat} (H : HR m base lvl h w) (hy : CR m c y) : Post m base lvl w (.e (.one c)) h y { w with drawn := n } m :=
  ⟨M.le.refl m, hy, H.world (Nat.le_refl _) (fun _ _ => rfl), ⟨rfl, rfl, rfl, Nat.le_refl _, fun _ _ => rfl⟩⟩
/-- A call of a function that has no body. -/
theorem call_ext (hT : TR m tm t) {o : Oper} {c : Call} (hop : o.op = .call c) {f : FuncId} {args : List AV} (hcal : calleeOf tm c = some (f, args)) :
    ∃ argsC : Array Value, execOp (evC t) o = callFunc f argsC ∧ All2 (VR m) args argsC.toList := by
  have hargs := args_sound hT c.args
  unfold calleeOf at hcal
  split at hcal
  · rename_i fo hfo
    have hfv := evA_sound hT fo
    split at hcal
    · rename_i g first cs' hev
      rw [hev] at hfv
      have hfv' : evC t fo = .func (.func g) first cs' := hfv
      split at hcal
      · rename_i hfirst
        have : first = #[] := by simpa using hfirst
        subst this
        simp only [Option.some.injEq, Prod.mk.injEq] at hcal
        obtain ⟨rfl, rfl⟩ := hcal
        refine ⟨c.args.map (evC t) ++ cs', ?_, ?_⟩
        · simp [execOp, hop, resolve, hfo, hfv', Deferred.ofValue, invoke]
        · rw [Array.toList_append]
          refine hargs.append ?_
          generalize cs'.toList = l
          induction l with
          | nil => trivial
          | cons a l ih => exact ⟨AV.of_sound m a, ih⟩
      · simp at hcal
    · rename_i g fs' cs' hev
      rw [hev] at hfv
      obtain ⟨vf, vc, hfv', h1, h2⟩ : ∃ vf vc : Array Value, evC t fo = .func (.func g) vf vc ∧ All2 (CE.R m) fs' vf.toList ∧ All2 (CE.R m) cs' vc.toList := hfv
      simp only [Option.some.injEq, Prod.mk.injEq] at hcal
      obtain ⟨rfl, rfl⟩ := hcal
      refine ⟨vf ++ (c.args.map (evC t) ++ vc), ?_, ?_⟩
      · simp [execOp, hop, resolve, hfo, hfv', Deferred.ofValue, invoke]
      · rw [Array.toList_append, Array.toList_append]
        exact (CEs.av h1).append (hargs.append (CEs.av h2))
    · simp at hcal
  · simp at hcal

theorem valV_sound (hE : EnvOk E) (hrec : RecOk E rec) (hT : TR m tm t) (H : HR m base lvl h w) (G : GR E.gl base w) {o : Oper} {a : Ans} {ps : List Prop} (hs : valV E rec lvl h tm o a = some (x, h', ps)) (hp : AllP ps) :
    OpRes E.P t o w fun y w' => ∃ m', PostO o m base lvl w x h' y w' m' := by
  have by0 : stepOp E rec0 lvl h tm o = some (x, h') → OpRes E.P t o w fun y w' => ∃ m', PostO o m base lvl w x h' y w' m' := fun h0 => stepOp_res hE (rec0_ok E) hT H G h0
  unfold valV at hs
  split at hs
  · -- go
    split at hs
    · rename_i x1 h1 hst
      simp only [Option.some.injEq, Prod.mk.injEq] at hs
      obtain ⟨rfl, rfl, rfl⟩ := hs
      exact stepOp_res hE hrec hT H G hst
    · simp at hs
  · -- rn
    split at hs
    · rename_i x1 h1 hst
      simp only [Option.some.injEq, Prod.mk.injEq] at hs
      obtain ⟨rfl, rfl, rfl⟩ := hs
      obtain ⟨rfl, _⟩ : x1 = _ ∧ True := hp
      exact stepOp_res hE hrec hT H G hst
    · simp at hs
  · -- ld
    split at hs
    · rename_i u p hop
      split at hs
      · rename_i b k d i hev hd hi
        split at hs
        · rename_i ab hb hag
          simp only [Option.some.injEq, Prod.mk.injEq] at hs
          obtain ⟨rfl, rfl, rfl⟩ := hs
          refine by0 ?_
          simp only [stepOp, hop, loadA, hev, hb, take_one hd hi hag hp.1]
          rfl
        · simp at hs
      · simp at hs
    · simp at hs
  · -- ldn
    split at hs
    · rename_i u p hop
      split at hs
      · rename_i b k d i hev hd hi
        split at hs
        · rename_i ab hb hag
          simp only [Option.some.injEq, Prod.mk.injEq] at hs
          obtain ⟨rfl, rfl, rfl⟩ := hs
          refine by0 ?_
          simp only [stepOp, hop, loadA, hev, hb, take_agg hd hi hag hp.1]
          rfl
        · simp at hs
      · simp at hs
    · simp at hs
  · -- ix
    split at hs
    · rename_i u p i hop
      split at hs
      · rename_i b s kk n len el hev hin hu
        split at hs
        · rename_i e he
          simp only [Option.some.injEq, Prod.mk.injEq] at hs
          obtain ⟨rfl, rfl, rfl⟩ := hs
          obtain ⟨hb1, hb2, _⟩ := hp
          have hop' : opA E lvl tm h o.op = some (.e (.one (.ptr b (s + n.toNat * e.size))), h) := by
            simp only [opA, hop, hev, hin, hu, he, hb1, and_self, if_true]
          rw [hb2] at hop'
          obtain ⟨y, w', m', h1, h2⟩ := opA_sound hT H hop'
          exact ⟨by simp [hop], by simp [hop], .inl ⟨y, w', h1, m', h2.o⟩⟩
        · simp at hs
      · rename_i b s len sz cap ex kk n el hev hin hu
        split at hs
        · rename_i e he
          split at hs
          · rename_i hsz
            have hsz := Nat.eq_of_beq_eq_true hsz
            simp only [Option.some.injEq, Prod.mk.injEq] at hs
            obtain ⟨rfl, rfl, rfl⟩ := hs
            obtain ⟨hb1, hb2, _⟩ := hp
            have hop' : opA E lvl tm h o.op = some (.e (.one (.ptr b (s + n.toNat * sz))), h) := by
              simp only [opA, hop, hev, hin, hu, he, hb1, hsz, and_self, if_true]
            rw [hb2] at hop'
            obtain ⟨y, w', m', h1, h2⟩ := opA_sound hT H hop'
            exact ⟨by simp [hop], by simp [hop], .inl ⟨y, w', h1, m', h2.o⟩⟩
          · simp at hs
        · simp at hs
      · simp at hs
    · simp at hs
  · -- st
    split at hs
    · rename_i u p c hop
      split at hs
      · rename_i b s x' hev hev2
        split at hs
        · rename_i ab i cs hb hi hcs
          split at hs
          · rename_i hcond
            simp only [Bool.and_eq_true, Nat.ble_eq] at hcond
            obtain ⟨⟨c1, c2⟩, c3⟩ := hcond
            have c2 := Nat.eq_of_beq_eq_true c2
            simp only [Option.some.injEq, Prod.mk.injEq] at hs
            obtain ⟨rfl, rfl, rfl⟩ := hs
            obtain ⟨hb1, hb2, _⟩ := hp
            have hop' : opA E lvl tm h o.op = some (.tup [], setL h b (some { ab with cells := overL cs ab.cells s })) := by
              simp only [opA, hop, storeA, hev, hev2, hb, hi, hcs, c1, c2, hb1, c3, and_self, if_true, Option.map_some]
            rw [hb2] at hop'
            obtain ⟨y, w', m', h1, h2⟩ := opA_sound hT H hop'
            exact ⟨by simp [hop], by simp [hop], .inl ⟨y, w', h1, m', h2.o⟩⟩
          · simp at hs
        · simp at hs
      · simp at hs
    · simp at hs
  · -- quo
    split at hs
    · rename_i op u p q yt hop
      split at hs
      · rename_i k p' j q' hev1 hev2
        split at hs
        · rename_i hk
          simp only [Option.some.injEq, Prod.mk.injEq] at hs
          obtain ⟨rfl, rfl, rfl⟩ := hs
          obtain ⟨hb1, hb2, _⟩ := hp
          refine by0 ?_
          have hkj : k = j := by simpa using hk
          subst hkj
          simp only [stepOp, hop, hev1, hev2, binA, decide_true, if_true, intBin, if_neg hb1, hb2]
          rfl
        · rename_i hk
          simp only [Option.some.injEq, Prod.mk.injEq] at hs
          obtain ⟨rfl, rfl, rfl⟩ := hs
          obtain ⟨hb1, hb2, _⟩ := hp
          refine by0 ?_
          have hkj : k = j := by simpa using hk
          subst hkj
          simp only [stepOp, hop, hev1, hev2, binA, decide_true, if_true, intBin, if_neg hb1, hb2]
          rfl
        · simp at hs
      · simp at hs
    · simp at hs
  · -- mk
    split at hs
    · rename_i u p c hop
      split at hs
      · rename_i el k1 n' k2 m' hu hn hm
        split at hs
        · rename_i e z he hz
          split at hs
          · rename_i hcond
            simp only [Bool.and_eq_true, Nat.blt_eq] at hcond
            obtain ⟨c1, c2⟩ := hcond
            have c1 := Nat.eq_of_beq_eq_true c1
            simp only [Option.some.injEq, Prod.mk.injEq] at hs
            obtain ⟨rfl, rfl, rfl⟩ := hs
            obtain ⟨hb1, hb2, rfl, rfl, rfl, rfl, _⟩ := hp
            have hop' : opA E lvl tm h o.op = some (.e (.one (.slc (lenL h) 0 n'.toNat e.size m'.toNat true)), appL h [some ⟨repeatC z m'.toNat, m'.toNat * e.size, el, true, .cells⟩]) := by
              simp only [opA, hop, hu, hn, hm, he, hz, hb1, hb2, c1, c2, and_self, if_true]
            obtain ⟨y, w', m', h1, h2⟩ := opA_sound hT H hop'
            exact ⟨by simp [hop], by simp [hop], .inl ⟨y, w', h1, m', h2.o⟩⟩
          · simp at hs
        · simp at hs
      · simp at hs
    · simp at hs
  · -- app
    split at hs
    · rename_i c hop
      split at hs
      · rename_i b s len sz cap b2 s2 mm sz2 cap2 ex2 u xu hcal hargs htys
        split at hs
        · rename_i el hu
          split at hs
          · rename_i e z ab he hz hb
            split at hs
            · rename_i xs hxs
              split at hs
              · rename_i hcond
                simp only [Bool.and_eq_true, Nat.blt_eq, Nat.ble_eq, Bool.not_eq_true'] at hcond
                obtain ⟨⟨⟨⟨⟨⟨⟨⟨⟨c1, c2⟩, c3⟩, c4⟩, c5⟩, c6⟩, c7⟩, c8⟩, c9⟩, c10⟩ := hcond
                have c1 := Nat.eq_of_beq_eq_true c1
                have c3 := Nat.eq_of_beq_eq_true c3
                have c5 := Nat.eq_of_beq_eq_true c5
                have c7 := Nat.eq_of_beq_eq_true c7
                have c9 := Nat.eq_of_beq_eq_true c9
                simp only [Option.some.injEq, Prod.mk.injEq] at hs
                obtain ⟨rfl, rfl, rfl⟩ := hs
                obtain ⟨hb1, hb2, hb3, rfl, rfl, rfl, _⟩ := hp
                subst c5 c1 c7 c9
                refine by0 ?_
                have ht0 : c.argTypes[0]? = some u := by
                  have : c.argTypes.toList[0]? = some u := by rw [htys]; rfl
                  simpa using this
                have ht1 : c.argTypes[1]? = some u := by
                  have : c.argTypes.toList[1]? = some u := by rw [htys]; rfl
                  simpa using this
                have hnot : ∀ (f : FuncId) (as : List AV), calleeOf tm c ≠ some (f, as) := fun f as hh => by simp [calleeOf, hcal] at hh
                have hcn : calleeOf tm c = none := by
                  cases hh : calleeOf tm c with
                  | none => rfl
                  | some r => exact absurd hh (hnot r.1 r.2)
                have hyn : yieldOf tm c = none := by simp [yieldOf, hcal]
                simp only [stepOp, hop, callOp, hcn, hyn, hcal, hargs, builtinA, ht0, ht1, appendA, lenS?, hu, he, hz, hxs, c2, c3, c4, c6, c8, c10, hb, hb1, hb2, hb3, and_self, if_true, if_false, Bool.false_eq_true]
              · simp at hs
            · simp at hs
          · simp at hs
        · simp at hs
      · simp at hs
    · simp at hs
  · -- c0
    split at hs
    · rename_i c hop
      split at hs
      · rename_i f args hcal
        split at hs
        · rename_i fn hfn
          split at hs
          · rename_i hcond
            simp only [Bool.and_eq_true, List.all_eq_true] at hcond
            obtain ⟨hbody, hnr⟩ := hcond
            simp only [Option.some.injEq, Prod.mk.injEq] at hs
            obtain ⟨rfl, rfl, rfl⟩ := hs
            obtain ⟨hc, hr, _⟩ := hp
            refine opRes_call hE hT hop hcal hfn hbody fun argsC ha => ?_
            have := callOther (nb := []) (e := []) (hin := []) (hout := []) (args' := args) hE H G ha rfl (by simp) (by simp) (by simp) (by simp) hc (map_ren_id fun a ha' => AV.ren_id ?_) rfl rfl (AV.ren_id hr)
            · rw [List.append_nil] at this
              exact this
            · have := hnr a ha'
              unfold noRefs at this
              split at this
              · assumption
              · simp at this
          · simp at hs
        · simp at hs
      · simp at hs
    · simp at hs
  · -- cl
    split at hs
    · rename_i c hop
      split at hs
      · rename_i f args hcal
        split at hs
        · rename_i fn hfn
          split at hs
          · rename_i hcond
            simp only [Bool.and_eq_true, List.all_eq_true, Nat.blt_eq] at hcond
            obtain ⟨⟨⟨⟨⟨⟨⟨hbody, c1⟩, c2⟩, c3⟩, c4⟩, c5⟩, c6⟩, c7⟩ := hcond
            have c6 := Nat.eq_of_beq_eq_true c6
            have c7 := Nat.eq_of_beq_eq_true c7
            have c1 := Nat.eq_of_beq_eq_true c1
            simp only [Option.some.injEq, Prod.mk.injEq] at hs
            obtain ⟨rfl, rfl, rfl⟩ := hs
            obtain ⟨hc, h1, h2, f1, h3, f2, h4, _⟩ := hp
            simp only [lenL_eq, dropL_eq] at c1 c2 c3 c6 c7 hc h1 h2 h3 f2 h4
            rw [renFl_eq _ c6 f1] at h2
            rw [renFl_eq _ c7 f2] at h3
            have h3 := map_some_inj h3
            have hgl : getL h = fun b : Nat => h[b]? := funext fun b => getL_eq h b
            rw [hgl] at h2
            rw [appL_eq]
            exact opRes_call hE hT hop hcal hfn hbody fun argsC ha => callOther hE H G ha c1 c2 c3 c4 c5 hc h1 h2 h3 h4
          · simp at hs
        · simp at hs
      · simp at hs
    · simp at hs
  · -- el
    split at hs
    · rename_i u p q hop
      split at hs
      · rename_i l kk n len el hev hin hu
        split at hs
        · rename_i d i hd hi
          split at hs
          · rename_i hag hsz
            have hsz := Nat.eq_of_beq_eq_true hsz
            simp only [Option.some.injEq, Prod.mk.injEq] at hs
            obtain ⟨rfl, rfl, rfl⟩ := hs
            obtain ⟨hb1, hb2, _⟩ := hp
            have h1 := evA_sound hT p
            rw [hev] at h1
            obtain ⟨cs, hcs, hall⟩ := h1
            have h2 := intOf_sound (evA_sound hT q) hin
            rw [getL_eq] at hb2
            obtain ⟨v, hv, hr⟩ := hall.get hb2
            have hrun : (Instr.index u (.agg cs) (.int kk n)).run E.P w = .ok v w := by
              have hv' : cs[n.toNat]? = some v := by simpa using hv
              simp [Instr.index, run_underlying hu, asIntOf, hb1, run_sizeOf hi, hsz, part, run_isAgg hd, hag, hv']
            exact ⟨by simp [hop], by simp [hop], .inl ⟨v, w, .inl (by simp [execOp, hop, hcs, h2, hrun]), m, Post.sameO H hr⟩⟩
          · simp at hs
        · simp at hs
      · simp at hs
    · simp at hs
  · -- cpy
    rename_i Lx Nx lx
    split at hs
    · rename_i c hop
      split at hs
      · rename_i b s sz b2 s2 mm sz2 cap2 ex2 u xu hcal hargs htys
        split at hs
        · rename_i el hu
          split at hs
          · rename_i e z ab a2 he hz hb hb2
            split at hs
            · rename_i hcond
              simp only [Bool.and_eq_true, Nat.blt_eq] at hcond
              obtain ⟨⟨⟨⟨c1, c2⟩, c3⟩, c5⟩, c6⟩ := hcond
              have c1 := Nat.eq_of_beq_eq_true c1
              have c3 := Nat.eq_of_beq_eq_true c3
              have c5 := Nat.eq_of_beq_eq_true c5
              have c6 := Nat.eq_of_beq_eq_true c6
              simp only [Option.some.injEq, Prod.mk.injEq] at hs
              obtain ⟨rfl, rfl, rfl⟩ := hs
              obtain ⟨k1, k2, k3, k4, rfl, rfl, _⟩ := hp
              subst c5 c1 c6
              refine by0 ?_
              have ht0 : c.argTypes[0]? = some u := by
                have : c.argTypes.toList[0]? = some u := by rw [htys]; rfl
                simpa using this
              have ht1 : c.argTypes[1]? = some u := by
                have : c.argTypes.toList[1]? = some u := by rw [htys]; rfl
                simpa using this
              have hnot : ∀ (f : FuncId) (as : List AV), calleeOf tm c ≠ some (f, as) := fun f as hh => by simp [calleeOf, hcal] at hh
              have hcn : calleeOf tm c = none := by
                cases hh : calleeOf tm c with
                | none => rfl
                | some r => exact absurd hh (hnot r.1 r.2)
              have hyn : yieldOf tm c = none := by simp [yieldOf, hcal]
              have hsrc : srcCells h e.size mm (.e (.one (.slc b2 s2 mm e.size cap2 ex2))) = some lx := by
                simp only [srcCells, hb2, Nat.le_refl, and_self, if_true]
                exact k3
              have h0 : ∀ l : List AC, takeL l 0 = some [] := fun l => by cases l <;> rfl
              have hnl : ¬ (0 + mm ≤ 0) := by omega
              simp only [stepOp, hop, callOp, hcn, hyn, hcal, hargs, builtinA, ht0, ht1, appendA, lenS?, hu, he, hz, hsrc, c2, c3, k4, hb, k2, hnl, Nat.zero_mul, h0, and_self, if_true, if_false, true_and]
              rfl
            · simp at hs
          · simp at hs
        · simp at hs
      · simp at hs
    · simp at hs
  · -- apz
    split at hs
    · rename_i c hop
      split at hs
      · rename_i s xx u xu hcal hargs htys
        split at hs
        · rename_i el xel i hu hxu hi
          split at hs
          · rename_i hcond
            simp only [Bool.and_eq_true] at hcond
            obtain ⟨hs1, hs2⟩ := hcond
            simp only [Option.some.injEq, Prod.mk.injEq] at hs
            obtain ⟨rfl, rfl, rfl⟩ := hs
            rw [hu] at hi
            simp only at hi
            have hal := args_sound hT c.args
            rw [hargs] at hal
            obtain ⟨y, y2, hyy, hr1, hr2⟩ := all2_two hal
            have hargsC : c.args.map (evC t) = #[y, y2] := by rw [← Array.toList_inj]; exact hyy
            have htysA : c.argTypes = #[u, xu] := by rw [← Array.toList_inj]; exact htys
            obtain ⟨p1, n1, c1, rfl, hle⟩ : ∃ p n c, y = .slice p n c ∧ n ≤ c := by
              unfold isSlc at hs1
              split at hs1
              · rename_i n c
                simp only [Bool.and_eq_true] at hs1
                have e1 := Nat.eq_of_beq_eq_true hs1.1
                have e2 := Nat.eq_of_beq_eq_true hs1.2
                have : y = .slice none n c := hr1
                exact ⟨none, n, c, this, by omega⟩
              · obtain ⟨_, cc, o', hy, _, g1, g2, _⟩ := hr1
                exact ⟨_, _, cc, hy, by omega⟩
              · simp at hs1
            obtain ⟨p2, c2, rfl⟩ : ∃ p c, y2 = .slice p 0 c := by
              unfold emptyS at hs2
              split at hs2
              · rename_i p n c
                have e1 := Nat.eq_of_beq_eq_true hs2
                have : y2 = .slice p n c := hr2
                exact ⟨p, c, by rw [this, e1]⟩
              · obtain ⟨_, cc, o', hy, _⟩ := hr2
                have e1 := Nat.eq_of_beq_eq_true hs2
                exact ⟨_, cc, by rw [hy, e1]⟩
              · simp at hs2
            have hrun : (Builtin.append_ #[u, xu] o.type #[.slice p1 n1 c1, .slice p2 0 c2]).run E.P w = .ok (.slice p1 n1 c1) w := by
              have hz : (Builtin.firstCells i.size 0 (.slice p2 0 c2)).run E.P w = .ok #[] w := by
                cases p2 <;> simp [Builtin.firstCells, loadCells, loadCellsFrom]
              cases p1 <;> simp [Builtin.append_, run_underlying hu, run_underlying hxu, run_sizeOf hi, Builtin.lenOf, hle, hz, storeCells]
            exact ⟨by simp [hop], by simp [hop], .inl ⟨.slice p1 n1 c1, w, .inl (by simp [execOp, hop, resolve, hcal, invoke, builtin, hargsC, htysA, hrun]), m, Post.sameO H hr1⟩⟩
          · simp at hs
        · simp at hs
      · simp at hs
    · simp at hs
  · -- cmp
    split at hs
    · rename_i op u p q yt hop
      split at hs
      · rename_i l1 l2 n el hev1 hev2 hu
        split at hs
        · rename_i i hel hi hg
          have h1 := evA_sound hT p
          rw [hev1] at h1
          obtain ⟨cs1, hcs1, hall1⟩ := h1
          have h2 := evA_sound hT q
          rw [hev2] at h2
          obtain ⟨cs2, hcs2, hall2⟩ := h2
          have cells : ∀ {xs : List UInt8} {l : List AC} {cs : Array Value}, l = xs.map u8c → All2 (CR m) l cs.toList → cs = (xs.map Extern.Stop.cell).toArray := by
            intro xs l cs hl ha
            rw [← Array.toList_inj]
            subst hl
            simp only
            generalize cs.toList = ys at ha
            induction xs generalizing ys with
            | nil => cases ys with
              | nil => rfl
              | cons y ys => exact ha.elim
            | cons x xs ih => cases ys with
              | nil => exact ha.elim
              | cons y ys =>
                obtain ⟨r1, r2⟩ := ha
                have : y = Value.int .u8 x.toNat := r1
                rw [this, ih ys r2]
                rfl
          split at hs
          · rename_i hsz
            have hsz := Nat.eq_of_beq_eq_true hsz
            simp only [Option.some.injEq, Prod.mk.injEq] at hs
            obtain ⟨rfl, rfl, rfl⟩ := hs
            obtain ⟨k1, k2, k3, k4, rfl, _⟩ := hp
            have e1 := cells k1 hall1
            have e2 := cells k2 hall2
            subst e1 e2
            have hsz' : ∀ w, (sizeOf el).run E.P w = .ok 1 w := fun w => by rw [run_sizeOf hi, hsz]
            have hq := run_eql_bytes w u el n hu hel hsz' _ _ k3 k4
            exact ⟨by simp [hop], by simp [hop], .inl ⟨_, w, .inl (by simp only [execOp, hop, hcs1, hcs2]; rw [Sem.run_bind, Sem.run_bind, run_eqGuard_agg w _ _ _ _ _ _ hg, Result.andThen_ok, hq]; rfl), m, Post.sameO H rfl⟩⟩
          · rename_i hsz
            have hsz := Nat.eq_of_beq_eq_true hsz
            simp only [Option.some.injEq, Prod.mk.injEq] at hs
            obtain ⟨rfl, rfl, rfl⟩ := hs
            obtain ⟨k1, k2, k3, k4, rfl, _⟩ := hp
            have e1 := cells k1 hall1
            have e2 := cells k2 hall2
            subst e1 e2
            have hsz' : ∀ w, (sizeOf el).run E.P w = .ok 1 w := fun w => by rw [run_sizeOf hi, hsz]
            have hq := run_equalIn_bytes w 9998 u el n hu hel hsz' _ _ k3 k4
            exact ⟨by simp [hop], by simp [hop], .inl ⟨_, w, .inl (by simp only [execOp, hop, hcs1, hcs2]; rw [Sem.run_bind, Sem.run_bind, run_eqGuard_agg w _ _ _ _ _ _ hg, Result.andThen_ok, run_neq_struct, hq]; rfl), m, Post.sameO H rfl⟩⟩
          · simp at hs
        · simp at hs
      · simp at hs
    · simp at hs
  · -- oq
    split at hs
    · rename_i x1 h1 hst
      simp only [Option.some.injEq, Prod.mk.injEq] at hs
      obtain ⟨rfl, rfl, rfl⟩ := hs
      exact stepOp_res hE hrec hT H G hst
    · simp at hs
  · -- pk
    rename_i b
    split at hs
    · rename_i c p q hop
      split at hs
      · rename_i tt hc
        simp only [Option.some.injEq, Prod.mk.injEq] at hs
        obtain ⟨rfl, rfl, rfl⟩ := hs
        obtain ⟨rfl, _⟩ := hp
        have hop' : opA E lvl tm h o.op = some (if tt then evA tm p else evA tm q, h) := by
          simp only [opA, hop, hc]
        obtain ⟨y, w', m', h1, h2⟩ := opA_sound hT H hop'
        refine ⟨by simp [hop], by simp [hop], .inl ⟨y, w', h1, m', Post.o ?_⟩⟩
        cases tt <;> exact h2
      · simp at hs
    · simp at hs
  · -- len
    rename_i n
    split at hs
    · rename_i c hop
      split at hs
      · rename_i xx u hcal hargs htys
        split at hs
        · rename_i el hu
          simp only [Option.some.injEq, Prod.mk.injEq] at hs
          obtain ⟨rfl, rfl, rfl⟩ := hs
          obtain ⟨hl, _⟩ := hp
          have hal := args_sound hT c.args
          rw [hargs] at hal
          obtain ⟨y, hyy, hr1⟩ := all2_one hal
          have hargsC : c.args.map (evC t) = #[y] := by rw [← Array.toList_inj]; exact hyy
          have htysA : c.argTypes = #[u] := by rw [← Array.toList_inj]; exact htys
          obtain ⟨p, cc, rfl⟩ : ∃ p cc, y = .slice p n cc := by
            rcases hl with ⟨b, o', sz, cap, ex, rfl⟩ | ⟨p, cc, rfl⟩
            · obtain ⟨_, cc, o2, hy, _⟩ := hr1
              exact ⟨_, cc, hy⟩
            · exact ⟨p, cc, hr1⟩
          refine ⟨by simp [hop], by simp [hop], .inl ⟨.int .i64 n, w, .inl ?_, m, Post.sameO H (show CR m (.v _) _ from rfl)⟩⟩
          simp [execOp, hop, resolve, hcal, invoke, builtin, hargsC, htysA, Builtin.len_, run_underlying hu, goInt]
        · simp at hs
      · simp at hs
    · simp at hs
  · -- cpu
    rename_i n N lx bx
    split at hs
    · rename_i c hop
      split at hs
      · rename_i b0 s sz xx u xu hcal hargs htys
        split at hs
        · rename_i el el2 hu hxu
          split at hs
          · rename_i e z ab he hz hb
            split at hs
            · rename_i hcond
              simp only [Bool.and_eq_true, Nat.blt_eq, Nat.ble_eq] at hcond
              obtain ⟨⟨⟨⟨⟨⟨⟨c1, c2⟩, c3⟩, c5⟩, c6⟩, c7⟩, c8⟩, c9⟩ := hcond
              have c1 := Nat.eq_of_beq_eq_true c1
              have c3 := Nat.eq_of_beq_eq_true c3
              have c5 := Nat.eq_of_beq_eq_true c5
              have c7 := Nat.eq_of_beq_eq_true c7
              have c9 := Nat.eq_of_beq_eq_true c9
              simp only [Option.some.injEq, Prod.mk.injEq] at hs
              obtain ⟨rfl, rfl, rfl⟩ := hs
              obtain ⟨hcp, rfl, _⟩ := hp
              subst c5 c1 c7
              have hb0 := blk_eq hb
              have hmn := H.n
              have hkill := H.kill b0
              have hlen : lenL h = m.n := by rw [lenL_eq, hmn]
              rcases hcp with ⟨rfl, rfl, rfl, ds0, s0, rfl⟩ | ⟨rfl, k1, k2, k4, ds, rfl, rfl, k5⟩ | ⟨rfl, rfl, rfl, p2, c2', rfl⟩ | ⟨rfl, k1, k2, k4, b2, s2, cap2, ex2, a2, rfl, hb2, k3⟩
              · -- there is nothing to copy: the list itself
                have hal := args_sound hT c.args
                rw [hargs] at hal
                obtain ⟨y, y2, hyy, hr1, hr2⟩ := all2_two hal
                have hargsC : c.args.map (evC t) = #[y, y2] := by rw [← Array.toList_inj]; exact hyy
                have htysA : c.argTypes = #[u, u] := by rw [← Array.toList_inj]; exact htys
                obtain ⟨p2, c2', rfl⟩ := lenS_sound (m := m) (n := 0) hr2 rfl
                obtain ⟨g0, cc, o', rfl, g1, g2, g3, g4, g5, g6⟩ := hr1
                have hcc := g6 rfl
                subst hcc
                have hrun : (Builtin.append_ #[u, u] o.type #[.slice (some ⟨m.ρ b0, o', none⟩) 0 0, .slice p2 0 c2']).run E.P w = .ok (.slice (some ⟨m.ρ b0, o', none⟩) 0 0) w := by
                  have hz : (Builtin.firstCells e.size 0 (.slice p2 0 c2')).run E.P w = .ok #[] w := by
                    cases p2 <;> simp [Builtin.firstCells, loadCells, loadCellsFrom]
                  simp [Builtin.append_, run_underlying hu, run_sizeOf he, Builtin.lenOf, hz, storeCells]
                obtain ⟨q1, q2, q3, fz, q4, q5, q6, q7, q8⟩ := H.blk b0 ab hb0 (blk_ext hb)
                have hown := H.own b0 c6 (List.getElem?_eq_some_iff.1 hb0).1
                have hlo := Nat.le_trans H.lo c6
                have H2 := hkill.add q4 hown (fun b a hba he' => by
                  obtain ⟨i1, i2⟩ := alive_set hba
                  exact i2 (H.inj b b0 (List.getElem?_eq_some_iff.1 i1).1 (List.getElem?_eq_some_iff.1 hb0).1 ⟨a, i1⟩ ⟨ab, hb0⟩ (.inr hlo) he')) (fun p hp => (H.tab p hp).2 b0 ab c6 hb0) (cells := []) (n := 0) (full := true) rfl (fun _ => by rw [q5, ← q2 c8, c9]) (Nat.zero_le _) (q6 hlo) (by simp; exact trivial)
                have hsz : q3.size = 0 := by rw [q5, ← q2 c8, c9]
                refine ⟨by simp [hop], by simp [hop], .inl ⟨.slice (some ⟨m.ρ b0, o', none⟩) 0 0, w, .inl (by simp [execOp, hop, resolve, hcal, invoke, builtin, hargsC, htysA, hrun]), m.push (m.ρ b0) q3.size, Post.o ⟨m.le_push _ _, ?_, ?_, Below.refl _ _⟩⟩⟩
                · refine ⟨by rw [hlen]; simp [M.push], 0, o', by rw [hlen, M.push_ρ], .inr rfl, Nat.le_refl _, Nat.le_refl _, g4, by simp, fun _ => rfl⟩
                · rw [appL_eq, setL_eq]
                  simpa using H2
              · -- a copy
                have ht0 : c.argTypes[0]? = some u := by
                  have : c.argTypes.toList[0]? = some u := by rw [htys]; rfl
                  simpa using this
                have ht1 : c.argTypes[1]? = some u := by
                  have : c.argTypes.toList[1]? = some u := by rw [htys]; rfl
                  simpa using this
                have hsrc : srcCells h e.size n (.e (.one (.dp (.s ds n e.size)))) = some (ds.map DT.ac) := by
                  simp only [srcCells, Nat.le_refl, and_self, true_and, k1, if_true]
                  rw [takeL_eq, List.length_map, k5, if_pos (Nat.le_refl _), ← k5, ← List.length_map (f := DT.ac), List.take_length]
                have h0 : ∀ l : List AC, takeL l 0 = some [] := fun l => by cases l <;> rfl
                have hnl : ¬ (0 + n ≤ 0) := by omega
                have hst : builtinA E lvl h .append c.argTypes (c.args.toList.map (evA tm)) = some (.e (.one (.slc (lenL h) 0 (0 + n) e.size (0 + n) false)), appL h [some ⟨appL [] (ds.map DT.ac), (0 + n) * e.size, ab.elem, false, .cells⟩]) := by
                  simp only [hargs, builtinA, ht0, ht1, appendA, lenS?, hu, he, hz, hsrc, c2, c3, k4, hb, k2, hnl, Nat.zero_mul, h0, and_self, if_true, if_false]
                obtain ⟨y, w', m', r1, r2⟩ := op_builtin hT H hop hcal hst
                rw [Nat.zero_add] at r2
                refine ⟨by simp [hop], by simp [hop], .inl ⟨y, w', r1, m', Post.o ⟨r2.le, r2.val, ?_, r2.below⟩⟩⟩
                have := r2.heap.kill b0
                rw [appL_eq] at this
                rw [appL_eq, setL_eq]
                rw [List.set_append_left _ _ (List.getElem?_eq_some_iff.1 hb0).1] at this
                exact this
              · -- there is nothing to copy: the list itself
                have hal := args_sound hT c.args
                rw [hargs] at hal
                obtain ⟨y, y2, hyy, hr1, hr2⟩ := all2_two hal
                have hargsC : c.args.map (evC t) = #[y, y2] := by rw [← Array.toList_inj]; exact hyy
                have htysA : c.argTypes = #[u, u] := by rw [← Array.toList_inj]; exact htys
                have hr2 : y2 = .slice p2 0 c2' := hr2
                subst hr2
                obtain ⟨g0, cc, o', rfl, g1, g2, g3, g4, g5, g6⟩ := hr1
                have hcc := g6 rfl
                subst hcc
                have hrun : (Builtin.append_ #[u, u] o.type #[.slice (some ⟨m.ρ b0, o', none⟩) 0 0, .slice p2 0 c2']).run E.P w = .ok (.slice (some ⟨m.ρ b0, o', none⟩) 0 0) w := by
                  have hz : (Builtin.firstCells e.size 0 (.slice p2 0 c2')).run E.P w = .ok #[] w := by
                    cases p2 <;> simp [Builtin.firstCells, loadCells, loadCellsFrom]
                  simp [Builtin.append_, run_underlying hu, run_sizeOf he, Builtin.lenOf, hz, storeCells]
                obtain ⟨q1, q2, q3, fz, q4, q5, q6, q7, q8⟩ := H.blk b0 ab hb0 (blk_ext hb)
                have hown := H.own b0 c6 (List.getElem?_eq_some_iff.1 hb0).1
                have hlo := Nat.le_trans H.lo c6
                have H2 := hkill.add q4 hown (fun b a hba he' => by
                  obtain ⟨i1, i2⟩ := alive_set hba
                  exact i2 (H.inj b b0 (List.getElem?_eq_some_iff.1 i1).1 (List.getElem?_eq_some_iff.1 hb0).1 ⟨a, i1⟩ ⟨ab, hb0⟩ (.inr hlo) he')) (fun p hp => (H.tab p hp).2 b0 ab c6 hb0) (cells := []) (n := 0) (full := true) rfl (fun _ => by rw [q5, ← q2 c8, c9]) (Nat.zero_le _) (q6 hlo) (by simp; exact trivial)
                have hsz : q3.size = 0 := by rw [q5, ← q2 c8, c9]
                refine ⟨by simp [hop], by simp [hop], .inl ⟨.slice (some ⟨m.ρ b0, o', none⟩) 0 0, w, .inl (by simp [execOp, hop, resolve, hcal, invoke, builtin, hargsC, htysA, hrun]), m.push (m.ρ b0) q3.size, Post.o ⟨m.le_push _ _, ?_, ?_, Below.refl _ _⟩⟩⟩
                · refine ⟨by rw [hlen]; simp [M.push], 0, o', by rw [hlen, M.push_ρ], .inr rfl, Nat.le_refl _, Nat.le_refl _, g4, by simp, fun _ => rfl⟩
                · rw [appL_eq, setL_eq]
                  simpa using H2
              · -- a copy
                have ht0 : c.argTypes[0]? = some u := by
                  have : c.argTypes.toList[0]? = some u := by rw [htys]; rfl
                  simpa using this
                have ht1 : c.argTypes[1]? = some u := by
                  have : c.argTypes.toList[1]? = some u := by rw [htys]; rfl
                  simpa using this
                have hsrc : srcCells h e.size n (.e (.one (.slc b2 s2 n e.size cap2 ex2))) = some lx := by
                  simp only [srcCells, hb2, Nat.le_refl, and_self, if_true]
                  exact k3
                have h0 : ∀ l : List AC, takeL l 0 = some [] := fun l => by cases l <;> rfl
                have hnl : ¬ (0 + n ≤ 0) := by omega
                have hst : builtinA E lvl h .append c.argTypes (c.args.toList.map (evA tm)) = some (.e (.one (.slc (lenL h) 0 (0 + n) e.size (0 + n) false)), appL h [some ⟨appL [] lx, (0 + n) * e.size, ab.elem, false, .cells⟩]) := by
                  simp only [hargs, builtinA, ht0, ht1, appendA, lenS?, hu, he, hz, hsrc, c2, c3, k4, hb, k2, hnl, Nat.zero_mul, h0, and_self, if_true, if_false]
                obtain ⟨y, w', m', r1, r2⟩ := op_builtin hT H hop hcal hst
                rw [Nat.zero_add] at r2
                refine ⟨by simp [hop], by simp [hop], .inl ⟨y, w', r1, m', Post.o ⟨r2.le, r2.val, ?_, r2.below⟩⟩⟩
                have := r2.heap.kill b0
                rw [appL_eq] at this
                rw [appL_eq, setL_eq]
                rw [List.set_append_left _ _ (List.getElem?_eq_some_iff.1 hb0).1] at this
                exact this
            · simp at hs
          · simp at hs
        · simp at hs
      · simp at hs
    · simp at hs
  · -- fw
    split at hs
    · rename_i x1 h1 hst
      simp only [Option.some.injEq, Prod.mk.injEq] at hs
      obtain ⟨rfl, rfl, rfl⟩ := hs
      obtain ⟨y, w', m', r1, r2⟩ := opA_sound hT H hst
      have hop : ∀ op, o.op = op → (opA E lvl tm h op).isSome = true := fun op he => by rw [← he, hst]; rfl
      refine ⟨fun c hc => ?_, fun cs b hc => ?_, .inl ⟨y, w', r1, m', r2.o⟩⟩
      · have := hop _ hc
        simp [opA] at this
      · have := hop _ hc
        simp [opA] at this
    · simp at hs
  · -- fwq
    split at hs
    · rename_i x1 h1 hst
      simp only [Option.some.injEq, Prod.mk.injEq] at hs
      obtain ⟨rfl, rfl, rfl⟩ := hs
      obtain ⟨y, w', m', r1, r2⟩ := opA_sound hT H hst
      have hop : ∀ op, o.op = op → (opA E lvl tm h op).isSome = true := fun op he => by rw [← he, hst]; rfl
      refine ⟨fun c hc => ?_, fun cs b hc => ?_, .inl ⟨y, w', r1, m', r2.o⟩⟩
      · have := hop _ hc
        simp [opA] at this
      · have := hop _ hc
        simp [opA] at this
    · simp at hs
  · -- cw
    split at hs
    · rename_i c hop
      split at hs
      · rename_i f args hcal
        split at hs
        · rename_i fn hfn
          split at hs
          · rename_i hbody
            simp only [Option.some.injEq, Prod.mk.injEq] at hs
            obtain ⟨rfl, rfl, rfl⟩ := hs
            exact opRes_call hE hT hop hcal hfn hbody fun argsC ha => hp.1 m base w argsC ha H G
          · simp at hs
        · simp at hs
      · simp at hs
    · simp at hs
  · -- str
    rename_i bs
    split at hs
    · rename_i s d p hop
      split at hs
      · rename_i el hsu hdu
        split at hs
        · rename_i hel
          simp only [Option.some.injEq, Prod.mk.injEq] at hs
          obtain ⟨rfl, rfl, rfl⟩ := hs
          have hv := evA_sound hT p
          have fin : ∀ (a : Option Addr) (l cc : Nat), evC t p = .slice a l cc → (convert s d (.slice a l cc)).run E.P w = .ok (.string ⟨bs.toArray⟩) w → OpRes E.P t o w fun y w' => ∃ m', PostO o m base lvl w (.e (.one (.v (.string ⟨bs.toArray⟩)))) h y w' m' := fun a l cc hy hr =>
            ⟨by simp [hop], by simp [hop], .inl ⟨.string ⟨bs.toArray⟩, w, .inl (by simp only [execOp, hop, hy, Sem.run_bind, hr, Result.andThen_ok, Sem.run_pure]), m, Post.sameO H (show CR m (.v _) _ from rfl)⟩⟩
          rcases hp.1 with ⟨rfl, cc, hx⟩ | ⟨b, off, sz, cap, ex, hx, hbs⟩
          · rw [hx] at hv
            have hv : evC t p = .slice none 0 cc := hv
            refine fin none 0 cc hv ?_
            rw [run_convert_bytes_string w s d el none 0 cc hsu hel hdu]
            simp [Conv.bytesToString, loadCells, loadCellsFrom]
            rfl
          · have hv0 := hv
            rw [hx] at hv
            obtain ⟨hbn, cc, o', hy, ho, hl, hc, hmx, hk, hex⟩ : CR m (.slc b off bs.length sz cap ex) (evC t p) := hv
            rcases hbs with rfl | ⟨rfl, ab, hb, htk⟩
            · exact fin _ 0 cc hy (run_convert_bytes_back (P := E.P) w s d el ⟨m.ρ b, o', none⟩ cc [] hsu hel hdu (fun j hj => by simp at hj))
            · have hsrc : srcCells h 1 bs.length (.e (.one (.slc b off bs.length 1 cap ex))) = some (bs.map u8c) := by
                simp only [srcCells, Nat.le_refl, and_self, if_true, hb, Nat.mul_one]
                exact htk
              rw [hx] at hv0
              obtain ⟨ad, len', c2, ys, hy2, hn, hl2, hcell, hrel⟩ := srcCells_sound H hv0 hsrc
              have hys := u8_cells bs ys hrel
              have hlen : len' = bs.length := by
                rw [hy] at hy2
                simp only [Value.slice.injEq] at hy2
                exact hy2.2.1.symm
              rw [hlen] at hy2
              refine fin _ _ _ hy2 (run_convert_bytes_back (P := E.P) w s d el ad c2 bs hsu hel hdu (fun j hj => hcell j _ (by rw [hys]; simp [hj])))
        · simp at hs
      · simp at hs
    · simp at hs
  · -- clq
    split at hs
    · rename_i c hop
      split at hs
      · rename_i f args hcal
        split at hs
        · rename_i fn hfn
          split at hs
          · rename_i hcond
            simp only [Bool.and_eq_true, List.all_eq_true, Nat.blt_eq] at hcond
            obtain ⟨⟨⟨⟨hbody, c1⟩, c2⟩, c6⟩, c7⟩ := hcond
            have c6 := Nat.eq_of_beq_eq_true c6
            have c7 := Nat.eq_of_beq_eq_true c7
            have c1 := Nat.eq_of_beq_eq_true c1
            simp only [Option.some.injEq, Prod.mk.injEq] at hs
            obtain ⟨rfl, rfl, rfl⟩ := hs
            obtain ⟨hc, h1, h2, f1, h3, f2, h4, c4, c3, c5, _⟩ := hp
            have c4 := plainP_spec c4
            have c3 := plainP_spec c3
            have c5 := plainP_spec c5
            simp only [lenL_eq, dropL_eq] at c1 c2 c3 c6 c7 hc h1 h2 h3 f2 h4
            rw [renFl_eq _ c6 f1] at h2
            rw [renFl_eq _ c7 f2] at h3
            have h3 := map_some_inj h3
            have hgl : getL h = fun b : Nat => h[b]? := funext fun b => getL_eq h b
            rw [hgl] at h2
            rw [appL_eq]
            exact opRes_call hE hT hop hcal hfn hbody fun argsC ha => callOther hE H G ha c1 c2 c3 c4 c5 hc h1 h2 h3 h4
          · simp at hs
        · simp at hs
      · simp at hs
    · simp at hs
  · -- eqs
    rename_i b
    split at hs
    · rename_i op u p q yt hop
      split at hs
      · rename_i l1 l2 hev1 hev2 hg
        simp only [Option.some.injEq, Prod.mk.injEq] at hs
        obtain ⟨rfl, rfl, rfl⟩ := hs
        have h1 := evA_sound hT p
        rw [hev1] at h1
        obtain ⟨cs1, hcs1, hall1⟩ := h1
        have h2 := evA_sound hT q
        rw [hev2] at h2
        obtain ⟨cs2, hcs2, hall2⟩ := h2
        have hq := hp.1 m cs1 cs2 w hall1 hall2
        exact ⟨by simp [hop], by simp [hop], .inl ⟨.bool b, w, .inl (by simp only [execOp, hop, hcs1, hcs2]; rw [Sem.run_bind, Sem.run_bind, run_eqGuard_agg w _ _ _ _ _ _ hg, Result.andThen_ok, run_eql_struct, hq]; rfl), m, Post.sameO H rfl⟩⟩
      · rename_i l1 l2 hev1 hev2 hg
        simp only [Option.some.injEq, Prod.mk.injEq] at hs
        obtain ⟨rfl, rfl, rfl⟩ := hs
        have h1 := evA_sound hT p
        rw [hev1] at h1
        obtain ⟨cs1, hcs1, hall1⟩ := h1
        have h2 := evA_sound hT q
        rw [hev2] at h2
        obtain ⟨cs2, hcs2, hall2⟩ := h2
        have hq := hp.1 m cs1 cs2 w hall1 hall2
        exact ⟨by simp [hop], by simp [hop], .inl ⟨.bool b, w, .inl (by simp only [execOp, hop, hcs1, hcs2]; rw [Sem.run_bind, Sem.run_bind, run_eqGuard_agg w _ _ _ _ _ _ hg, Result.andThen_ok, run_neq_struct, hq, Result.andThen_ok, Bool.not_not]; rfl), m, Post.sameO H rfl⟩⟩
      · simp at hs
    · simp at hs
  · -- slo
    split at hs
    · rename_i u a lo hi hop
      split at hs
      · rename_i el b off len sz cap ex hu ha
        split at hs
        · rename_i e l' u' he hl hu'
          split at hs
          · rename_i hsz
            have hsz := Nat.eq_of_beq_eq_true hsz
            simp only [Option.some.injEq, Prod.mk.injEq] at hs
            obtain ⟨rfl, rfl, rfl⟩ := hs
            obtain ⟨rfl, rfl, hlu, rfl, rfl, rfl, _⟩ := hp
            have hbd := bounds_of hl hu' hlu
            have hst := sliceA_sound (E := E) hT H (lo := lo) (hi := hi) (u := u) (a := a) hop (by simp only [sliceA, hu, ha, he, hbd, if_pos hsz]; rfl)
            obtain ⟨y, w', m', r1, r2⟩ := hst
            exact ⟨by simp [hop], by simp [hop], .inl ⟨y, w', r1, m', r2.o⟩⟩
          · simp at hs
        · simp at hs
      · simp at hs
    · simp at hs
  · -- sap
    split at hs
    · rename_i u a hop
      split at hs
      · rename_i n el b off hu ha
        split at hs
        · rename_i e ab he hab
          split at hs
          · rename_i hn
            simp only [Option.some.injEq, Prod.mk.injEq] at hs
            obtain ⟨rfl, rfl, rfl⟩ := hs
            obtain ⟨hle, _⟩ := hp
            have hn := Nat.le_of_ble_eq_true hn
            have hst := sliceA_sound (E := E) hT H (lo := none) (hi := none) (u := u) (a := a) (x := .e (.one (.slc b off n e.size n true))) (h' := h) hop (by
              unfold sliceA
              rw [hu, ha]
              simp [he, hab, sliceBoundsA, hle, hn, intN?])
            obtain ⟨y, w', m', r1, r2⟩ := hst
            exact ⟨by simp [hop], by simp [hop], .inl ⟨y, w', r1, m', r2.o⟩⟩
          · simp at hs
        · simp at hs
      · simp at hs
    · simp at hs
  · -- d
    exact dV_sound hE G hT H hs hp
  · -- fb
    split at hs
    · rename_i bop u a b br hop
      split at hs
      · rename_i cx cz hx hz
        simp only [Option.some.injEq, Prod.mk.injEq] at hs
        obtain ⟨rfl, rfl, rfl⟩ := hs
        have h1 := evA_sound hT a
        have h2 := evA_sound hT b
        rw [hx] at h1
        rw [hz] at h2
        obtain ⟨y, n, hr, hy⟩ := hp.1 m _ _ w h1 h2
        exact ⟨by simp [hop], by simp [hop], .inl ⟨y, _, .inl (by simp only [execOp, hop]; exact run_v hr), m, (Post.draw H hy).o⟩⟩
      · simp at hs
    · simp at hs
  · -- fc
    split at hs
    · rename_i sT dT a hop
      split at hs
      · rename_i cx hx
        simp only [Option.some.injEq, Prod.mk.injEq] at hs
        obtain ⟨rfl, rfl, rfl⟩ := hs
        have h1 := evA_sound hT a
        rw [hx] at h1
        obtain ⟨y, n, hr, hy⟩ := hp.1 m _ w h1
        exact ⟨by simp [hop], by simp [hop], .inl ⟨y, _, .inl (by simp only [execOp, hop]; exact run_v hr), m, (Post.draw H hy).o⟩⟩
      · simp at hs
    · simp at hs
  · -- fx
    split at hs
    · rename_i c' hop
      split at hs
      · rename_i f args hcal
        split at hs
        · rename_i fn hfn
          split at hs
          · simp only [Option.some.injEq, Prod.mk.injEq] at hs
            obtain ⟨rfl, rfl, rfl⟩ := hs
            obtain ⟨ps, he, ha⟩ := call_ext hT hop hcal
            obtain ⟨y, n, hr, hy⟩ := hp.1 m ps w ha
            exact ⟨by simp [hop], by simp [hop], .inl ⟨y, _, .inl (by rw [he]; exact hr), m, (Post.draw H hy).o⟩⟩
          · simp at hs
        · simp at hs
      · simp at hs
    · simp at hs
  · -- s2a
    split at hs
    · rename_i u a hop
      split at hs
      · rename_i n el b off len sz cap ex hu ha
        split at hs
        · rename_i hn0
          simp only [Nat.blt_eq] at hn0
          simp only [Option.some.injEq, Prod.mk.injEq] at hs
          obtain ⟨rfl, rfl, rfl⟩ := hs
          obtain ⟨hn, _⟩ := hp
          obtain ⟨y, w', m', r1, r2⟩ := op_s2ap (E := E) (lvl := lvl) hT H (u := u) (a := a) hop (by rw [hop]; simp only [opA, hu, ha, if_pos (And.intro hn hn0)]; rfl)
          exact ⟨by simp [hop], by simp [hop], .inl ⟨y, w', r1, m', r2.o⟩⟩
        · simp at hs
      · simp at hs
    · simp at hs

end
end Go.Ev
