/-
  Builtins; results; a result that comes into the caller's heap.
-/
import Derived.Test.YtgplabfjldndgaaGreatDoorEvH
import Derived.Lib.UnsafeStr
namespace Go.Ev
open Go.RowKit

section ops
variable {E : Env} {m : M} {base lvl : Nat} {h h' : Heap} {w : World} {tm : Tm} {t : Array Value} {x : AV}

theorem args_sound (hT : TR m tm t) (l : Array Operand) : All2 (VR m) (l.toList.map (evA tm)) (l.map (evC t)).toList := by
  rw [Array.toList_map]
  induction l.toList with
  | nil => trivial
  | cons a l ih => exact ⟨evA_sound hT a, ih⟩

theorem all2_one {α β : Type} {R : α → β → Prop} {a : α} : ∀ {l : List β}, All2 R [a] l → ∃ b, l = [b] ∧ R a b
  | [], h => h.elim
  | [b], h => ⟨b, rfl, h.1⟩
  | _ :: _ :: _, h => h.2.elim
theorem all2_two {α β : Type} {R : α → β → Prop} {a a' : α} : ∀ {l : List β}, All2 R [a, a'] l → ∃ b b', l = [b, b'] ∧ R a b ∧ R a' b'
  | [], h => h.elim
  | [_], h => h.2.elim
  | [b, b'], h => ⟨b, b', rfl, h.1, h.2.1⟩
  | _ :: _ :: _ :: _, h => h.2.2.elim

theorem op_builtin (hT : TR m tm t) (H : HR m base lvl h w) {o : Oper} {c : Call} {b : Builtin} (ho : o.op = .call c) (hc : c.callee = .builtin b) (hs : builtinA E lvl h b c.argTypes (c.args.toList.map (evA tm)) = some (x, h')) :
    ∃ y w' m', Does E.P t o w y w' ∧ Post m base lvl w x h' y w' m' := by
  have ha := args_sound hT c.args
  generalize hargs : c.args.map (evC t) = args at ha
  generalize hA : c.args.toList.map (evA tm) = as at ha hs
  unfold builtinA at hs
  split at hs
  · rename_i bb o' len sz cap ex
    obtain ⟨y0, hy0, hr⟩ := all2_one ha
    have hy : args = #[y0] := by rw [← Array.toList_inj]; exact hy0
    obtain ⟨_, cc, o2, rfl, _⟩ : CR m (.slc bb o' len sz cap ex) y0 := hr
    split at hs
    · rename_i u hu
      split at hs
      · rename_i el hul
        simp only [Option.some.injEq, Prod.mk.injEq] at hs
        obtain ⟨rfl, rfl⟩ := hs
        refine ⟨.int .i64 len, w, m, .inl ?_, Post.same H (show CR m (.v _) _ from rfl)⟩
        simp [execOp, ho, resolve, hc, invoke, builtin, hargs, hy, Builtin.len_, hu, run_underlying hul, goInt]
      · simp at hs
    · simp at hs
  · rename_i s xx
    obtain ⟨y0, y1, hy0, hr0, hr1⟩ := all2_two ha
    have hy : args = #[y0, y1] := by rw [← Array.toList_inj]; exact hy0
    split at hs
    · rename_i u xu hu hxu
      have e : Builtin.append_ c.argTypes o.type #[y0, y1] = Builtin.append_ #[u, xu] o.type #[y0, y1] := by
        simp [Builtin.append_, hu, hxu]
      split at hs
      · rename_i str
        have hy1 : y1 = .string str := hr1
        subst hy1
        obtain ⟨y, w', m', hw, hp⟩ := appendSA_sound (ty := o.type) H hr0 hs
        refine ⟨y, w', m', .inl ?_, hp⟩
        simp only [execOp, ho, resolve, hc, invoke, builtin, hargs, hy, Sem.run_bind, Sem.run_pure, Result.andThen_ok, e, hw]
      · obtain ⟨y, w', m', hw, hp⟩ := appendA_sound (ty := o.type) H hr0 hr1 hs
        refine ⟨y, w', m', .inl ?_, hp⟩
        simp only [execOp, ho, resolve, hc, invoke, builtin, hargs, hy, Sem.run_bind, Sem.run_pure, Result.andThen_ok, e, hw]
    · simp at hs
  · rename_i xx
    obtain ⟨y0, hy0, hr0⟩ := all2_one ha
    have hy : args = #[y0] := by rw [← Array.toList_inj]; exact hy0
    split at hs
    · rename_i u hu
      obtain ⟨y, w', m', hw, hp⟩ := clearA_sound (ty := o.type) H hr0 hs
      refine ⟨y, w', m', .inl ?_, hp⟩
      have e : Builtin.clear_ c.argTypes o.type #[y0] = Builtin.clear_ #[u] o.type #[y0] := by
        simp [Builtin.clear_, hu]
      simp only [execOp, ho, resolve, hc, invoke, builtin, hargs, hy, Sem.run_bind, Sem.run_pure, Result.andThen_ok, e, hw]
    · simp at hs
  · rename_i b o' len sz cap ex
    obtain ⟨y0, hy0, hr0⟩ := all2_one ha
    have hy : args = #[y0] := by rw [← Array.toList_inj]; exact hy0
    split at hs
    · rename_i hcap
      simp only [Option.some.injEq, Prod.mk.injEq] at hs
      obtain ⟨rfl, rfl⟩ := hs
      obtain ⟨hbn, cc, o2, rfl, g0, g1, g1', _⟩ : CR m (.slc b o' len sz cap ex) y0 := hr0
      obtain rfl : o2 = o' := by rcases g0 with g0 | g0 <;> omega
      refine ⟨.pointer (some ⟨m.ρ b, o2, none⟩), w, m, .inl ?_, Post.same H ⟨hbn, rfl⟩⟩
      have hr := Lib.run_unsafeSliceData_row (P := E.P) w c.argTypes o.type ⟨m.ρ b, o2, none⟩ len cc (by omega)
      simp only [execOp, ho, resolve, hc, invoke, builtin, hargs, hy, Sem.run_bind, Sem.run_pure, Result.andThen_ok, hr]
    · simp at hs
  · rename_i b n
    obtain ⟨y0, y1, hy0, hr0, hr1⟩ := all2_two ha
    have hy : args = #[y0, y1] := by rw [← Array.toList_inj]; exact hy0
    obtain ⟨hbn, rfl⟩ : b < m.n ∧ y0 = _ := hr0
    have hy1 : y1 = .int .i64 n := hr1
    subst hy1
    split at hs
    · rename_i pt it a hpt hit hb
      split at hs
      · rename_i el hel
        split at hs
        · rename_i hcond
          obtain ⟨hts2, hcells, helem, hlb, hn0, hn1⟩ := hcond
          have hts : c.argTypes = #[pt, it] := by
            apply Array.ext
            · simpa using hts2
            · intro k hk1 hk2
              simp at hk2
              have h0 : k = 0 ∨ k = 1 := by omega
              rcases h0 with rfl | rfl
              · have := Array.getElem?_eq_some_iff.1 hpt
                simpa using this.2
              · have := Array.getElem?_eq_some_iff.1 hit
                simpa using this.2
          split at hs
          · rename_i cs hcs
            split at hs
            · rename_i bs hbs
              simp only [Option.some.injEq, Prod.mk.injEq] at hs
              obtain ⟨rfl, rfl⟩ := hs
              have hab := blk_eq hb
              obtain ⟨b1, b2, cc, fz, b3, b4, b5, b6, b7⟩ := H.blk b a hab (blk_ext hb)
              obtain ⟨hlen, rfl⟩ := takeL_some hcs
              have hall := b7.take n.toNat
              have hys := bytesOf_sound hbs hall
              have hnn : ((n.toNat : Nat) : Int) = n := Int.toNat_of_nonneg (by omega)
              have hbl : bs.length = n.toNat := by
                have h1 := hall.length
                rw [hys] at h1
                simp at h1
                omega
              have hsh : w.shape? (m.ρ b) = some (el, cc.size) := by unfold World.shape?; rw [b3, helem]
              have hr := Lib.run_unsafeString_row (P := E.P) w pt it o.type el hel hcells (m.ρ b) cc.size hsh bs (fun e => by rw [e] at hbl; simp at hbl; omega) (by omega) (by omega) (fun j x hj => by
                have hj2 : ((cc.toList.take a.n).take n.toNat)[j]? = some (.int .u8 x.toNat) := by rw [hys]; simp [hj]
                rw [addr_add, cell_of_row w _ _ cc a.elem fz b3]
                rw [List.getElem?_take] at hj2
                split at hj2
                · rw [List.getElem?_take] at hj2
                  split at hj2
                  · simpa using hj2
                  · simp at hj2
                · simp at hj2)
              have e : Builtin.unsafeString_ c.argTypes o.type #[.pointer (some ⟨m.ρ b, 0, none⟩), .int .i64 n] = Builtin.unsafeString_ #[pt, it] o.type #[.pointer (some ⟨m.ρ b, 0, none⟩), .int .i64 n] := by
                rw [hts]
              have hK := H.kill b
              have hot : ∀ k, k ≠ m.ρ b → (w.freeze ⟨m.ρ b, 0, none⟩ bs.length).heap[k]? = w.heap[k]? := fun k hk => by
                unfold World.freeze
                split
                · rfl
                · simp [Array.getElem?_modify, Ne.symm hk]
              have hsz : (w.freeze ⟨m.ρ b, 0, none⟩ bs.length).heap.size = w.heap.size := by
                unfold World.freeze
                split <;> simp
              have hown := H.own b hlb (List.getElem?_eq_some_iff.1 hab).1
              rw [hbl, hnn] at hr
              rw [← hbl] at hr
              refine ⟨.string ⟨bs.toArray⟩, w.freeze ⟨m.ρ b, 0, none⟩ bs.length, m, .inl ?_, M.le.refl m, rfl, ?_, ?_⟩
              · simp only [execOp, ho, resolve, hc, invoke, builtin, hargs, hy, Sem.run_bind, Sem.run_pure, Result.andThen_ok, e, hr]
              · rw [setL_eq]
                refine ⟨hK.n, hK.lvlLe, by rw [hsz]; exact hK.baseLe, fun k a' hk => ?_, hK.own, hK.inj, hK.lo, fun p hp => ⟨hK.tabs (fun q hq => hot _ fun e => (H.tab q hq).2 b _ hlb hab e.symm) p hp, (hK.tab p hp).2⟩⟩
                refine (hK.ent k a' hk).world (hot _ fun e' => ?_)
                have hk' := alive_set hk
                exact hk'.2 (H.inj k b (List.getElem?_eq_some_iff.1 hk'.1).1 (List.getElem?_eq_some_iff.1 hab).1 ⟨a', hk'.1⟩ ⟨a, hab⟩ (.inr (Nat.le_trans H.lo hlb)) e')
              · refine ⟨?_, ?_, ?_, by rw [hsz]; exact Nat.le_refl _, fun k hk => hot k (by omega)⟩ <;> (unfold World.freeze; split <;> rfl)
            · simp at hs
          · simp at hs
        · simp at hs
      · simp at hs
    · simp at hs
  · rename_i s xx
    obtain ⟨y0, y1, hy0, hr0, hr1⟩ := all2_two ha
    have hy : args = #[y0, y1] := by rw [← Array.toList_inj]; exact hy0
    split at hs
    · rename_i u hu
      obtain ⟨y, w', m', hw, hp⟩ := copyA_sound (ty := o.type) (xu := u) H hr0 hr1 hs
      refine ⟨y, w', m', .inl ?_, hp⟩
      have e : Builtin.copy_ c.argTypes o.type #[y0, y1] = Builtin.copy_ #[u, u] o.type #[y0, y1] := by
        simp [Builtin.copy_, hu]
      simp only [execOp, ho, resolve, hc, invoke, builtin, hargs, hy, Sem.run_bind, Sem.run_pure, Result.andThen_ok, e, hw]
    · simp at hs
  · simp at hs

theorem loadVar_ptr (H : HR m base lvl h w) (G : GR E.gl base w) {u : TypeId} {b o : Nat} {x : AV} (hb : b < m.n) (hx : loadA E h u (.e (.one (.ptr b o))) = some x) :
    ∃ v, (loadVar u ⟨m.ρ b, o, none⟩).run E.P w = .ok v w ∧ VR m x v := by
  obtain ⟨v, hv, hr⟩ := loadA_sound (E := E) H G (show VR m (.e (.one (.ptr b o))) (.pointer (some ⟨m.ρ b, o, none⟩)) from ⟨hb, rfl⟩) hx
  exact ⟨v, by simpa [Instr.loadAt, Instr.sureAddr] using hv, hr⟩

def rdOf (t : Array Value) : ResultVar → Sem Value
  | .tmp i => pure (t.getD i undef)
  | .cell i u => do loadVar u (← asAddr (t.getD i undef))

theorem result_sound (hT : TR m tm t) (H : HR m base lvl h w) (G : GR E.gl base w) {rv : ResultVar} {a : AE} (hs : resultA E tm h rv = some a) :
    ∃ y, (rdOf t rv).run E.P w = .ok y w ∧ ER m a y := by
  cases rv with
  | tmp i =>
    simp only [resultA] at hs
    split at hs
    · rename_i a' ha
      simp at hs; subst hs
      have hv := getT_sound hT i
      rw [ha] at hv
      exact ⟨_, rfl, hv⟩
    · simp at hs
  | cell i u =>
    simp only [resultA] at hs
    split at hs
    · rename_i b o ha
      have hv := getT_sound hT i
      rw [ha] at hv
      obtain ⟨hb, hv'⟩ : b < m.n ∧ t.getD i undef = _ := hv
      split at hs
      · rename_i a' hl
        simp at hs; subst hs
        obtain ⟨v, h1, h2⟩ := loadVar_ptr H G hb hl
        refine ⟨v, ?_, h2⟩
        simp only [rdOf, hv', asAddr, Sem.run_bind, Sem.run_pure, Result.andThen_ok, h1]
      · simp at hs
    · simp at hs

theorem results_list (hT : TR m tm t) (H : HR m base lvl h w) (G : GR E.gl base w) : ∀ {l : List ResultVar} {r : List AE}, l.map (resultA E tm h) = r.map some →
    ∃ ys, (l.mapM (rdOf t)).run E.P w = .ok ys w ∧ All2 (ER m) r ys
  | [], [], _ => ⟨[], by simp, trivial⟩
  | [], _ :: _, h => by simp at h
  | _ :: _, [], h => by simp at h
  | rv :: l, a :: r, hh => by
    simp only [List.map_cons, List.cons.injEq] at hh
    obtain ⟨h1, h2⟩ := hh
    obtain ⟨y, hy, hr⟩ := result_sound hT H G h1
    obtain ⟨ys, hys, hrs⟩ := results_list hT H G h2
    refine ⟨y :: ys, ?_, hr, hrs⟩
    rw [List.mapM_cons]
    simp only [Sem.run_bind, hy, hys, Sem.run_pure, Result.andThen_ok]

theorem resultsA_sound (hT : TR m tm t) (H : HR m base lvl h w) (G : GR E.gl base w) {fn : Func} {v : AV} (hs : resultsA E fn tm h = some v) :
    ∃ y, (results fn t).run E.P w = .ok y w ∧ VR m v y := by
  unfold resultsA at hs
  have e : results fn t = (do let vs ← fn.results.mapM (rdOf t); pure (if h : vs.size = 1 then vs[0] else .tuple vs)) := by
    unfold results
    congr 1
  cases hr : allSome (fn.results.toList.map (resultA E tm h)) with
  | none => rw [hr] at hs; simp at hs
  | some r =>
    rw [hr] at hs
    obtain ⟨ys, hys, hrel⟩ := results_list hT H G (allSome_eq hr)
    have hm : (results fn t).run E.P w = .ok (if h : ys.toArray.size = 1 then ys.toArray[0] else .tuple ys.toArray) w := by
      rw [e, Array.mapM_eq_mapM_toList]
      simp only [Sem.run_bind, Sem.run_map, hys, Result.andThen_ok, Sem.run_pure]
    refine ⟨_, hm, ?_⟩
    clear hm hys hr
    match r, ys, hrel, hs with
    | [a], [y], hrel, hs =>
      simp only [Option.some.injEq] at hs; subst hs
      exact hrel.1
    | [], [], _, hs =>
      simp only [Option.some.injEq] at hs; subst hs
      exact ⟨#[], rfl, trivial⟩
    | a :: b :: r, y :: z :: ys, hrel, hs =>
      simp only [Option.some.injEq] at hs; subst hs
      rw [dif_neg (by simp)]
      exact ⟨_, rfl, hrel⟩
    | [_], _ :: _ :: _, hrel, _ => exact hrel.2.elim
    | _ :: _ :: _, [_], hrel, _ => exact hrel.2.elim

/-! Renaming. -/
structure Names (m1 m2 : M) (f : Nat → Nat) (b : Nat) : Prop where
  lt : f b < m2.n
  ρ : m2.ρ (f b) = m1.ρ b
  κ : m2.κ (f b) = m1.κ b

theorem CR.ren {m1 m2 : M} {f : Nat → Nat} (hF : ∀ p ∈ m1.F, p ∈ m2.F) : ∀ {x : AC} {y : Value}, (∀ b ∈ x.refs, Names m1 m2 f b) → CR m1 x y → CR m2 (x.ren f) y
  | .v _, _, _, r => r
  | .any _, _, _, r => r
  | .dp _, _, _, r => DV.R.mono hF r
  | .mp b, _, hn, r => by
    have N := hn b (by simp [AC.refs])
    exact ⟨N.lt, by rw [N.ρ]; exact r.2⟩
  | .ptr b o, _, hn, r => by
    have N := hn b (by simp [AC.refs])
    exact ⟨N.lt, by rw [N.ρ]; exact r.2⟩
  | .yld b, _, hn, r => by
    have N := hn b (by simp [AC.refs])
    exact ⟨N.lt, by rw [N.ρ]; exact r.2⟩
  | .slc b o len sz cap ex, _, hn, r => by
    have N := hn b (by simp [AC.refs])
    obtain ⟨_, c, o', hy, h0, h1, h1', h2, h3, h4⟩ := r
    exact ⟨N.lt, c, o', by rw [N.ρ]; exact hy, h0, h1, h1', h2, by rw [N.κ]; exact h3, h4⟩
  | .clo g fs cs, _, hn, r => by
    obtain ⟨vf, vc, hy, h1, h2⟩ := r
    exact ⟨vf, vc, hy, CEs.tr (fun e he c hc y hr => by rw [CA.ren_ac]; exact CR.ren hF (fun b hb => hn b (List.mem_append_left _ (CE.mem_refs he hc hb))) hr) h1,
      CEs.tr (fun e he c hc y hr => by rw [CA.ren_ac]; exact CR.ren hF (fun b hb => hn b (List.mem_append_right _ (CE.mem_refs he hc hb))) hr) h2⟩
termination_by x => x.rank
decreasing_by all_goals (rw [CA.rank_ac]; exact Nat.one_pos)

theorem all2_ren {α β : Type} {R S : α → β → Prop} {g : α → α} : ∀ {l : List α} {ys : List β}, (∀ a ∈ l, ∀ b, R a b → S (g a) b) → All2 R l ys → All2 S (l.map g) ys
  | [], [], _, _ => trivial
  | _ :: _, _ :: _, hg, h => ⟨hg _ (by simp) _ h.1, all2_ren (fun a ha => hg a (by simp [ha])) h.2⟩

theorem ER.ren {m1 m2 : M} {f : Nat → Nat} (hF : ∀ p ∈ m1.F, p ∈ m2.F) : ∀ {x : AE} {y : Value}, (∀ b ∈ x.refs, Names m1 m2 f b) → ER m1 x y → ER m2 (x.ren f) y
  | .one _, _, hn, r => CR.ren hF hn r
  | .agg l, _, hn, r => by
    obtain ⟨cs, hy, ha⟩ := r
    exact ⟨cs, hy, all2_ren (fun a ha' b hb => CR.ren hF (fun k hk => hn k (List.mem_flatMap.2 ⟨a, ha', hk⟩)) hb) ha⟩
theorem VR.ren {m1 m2 : M} {f : Nat → Nat} (hF : ∀ p ∈ m1.F, p ∈ m2.F) : ∀ {x : AV} {y : Value}, (∀ b ∈ x.refs, Names m1 m2 f b) → VR m1 x y → VR m2 (x.ren f) y
  | .e _, _, hn, r => ER.ren hF hn r
  | .tup l, _, hn, r => by
    obtain ⟨cs, hy, ha⟩ := r
    exact ⟨cs, hy, all2_ren (fun a ha' b hb => ER.ren hF (fun k hk => hn k (List.mem_flatMap.2 ⟨a, ha', hk⟩)) hb) ha⟩

theorem CE.ren_fix {f : Nat → Nat} : ∀ {l : List CE}, (∀ b ∈ l.flatMap CE.refs, f b = b) → l.map (CE.map (CA.ren f)) = l
  | [], _ => rfl
  | e :: l, h => by
    have hc : ∀ c : CA, (∀ b ∈ c.refs, f b = b) → c.ren f = c := fun c hb => by cases c <;> simp [CA.ren] <;> exact hb _ (by simp [CA.refs])
    rw [List.map_cons, CE.ren_fix (l := l) fun b hb => h b (by simp only [List.flatMap_cons, List.mem_append]; exact .inr hb)]
    congr 1
    have h0 : ∀ c ∈ e.atoms, c.ren f = c := fun c hc' => hc c fun b hb => h b (by simp only [List.flatMap_cons, List.mem_append]; exact .inl (List.mem_flatMap.2 ⟨c, hc', hb⟩))
    cases e with
    | one x => simp only [CE.map]; rw [h0 x (by simp [CE.atoms])]
    | agg cs =>
      simp only [CE.map]
      congr 1
      exact (List.map_congr_left fun a ha => h0 a ha).trans (List.map_id' cs)
theorem CE.ren_none {f : Nat → Nat} {l : List CE} (h : l.flatMap CE.refs = []) : l.map (CE.map (CA.ren f)) = l := CE.ren_fix fun b hb => by rw [h] at hb; simp at hb

theorem AC.ren_id {f : Nat → Nat} : ∀ {x : AC}, x.refs = [] → x.ren f = x
  | .v _, _ => rfl
  | .ptr _ _, h => by simp [AC.refs] at h
  | .slc _ _ _ _ _ _, h => by simp [AC.refs] at h
  | .yld _, h => by simp [AC.refs] at h
  | .mp _, h => by simp [AC.refs] at h
  | .dp _, _ => rfl
  | .any _, _ => rfl
  | .clo g fs cs, h => by
    simp only [AC.refs, List.append_eq_nil_iff] at h
    simp only [AC.ren]
    rw [CE.ren_none h.1, CE.ren_none h.2]
theorem map_ren_id {α : Type} {g : α → α} : ∀ {l : List α}, (∀ a ∈ l, g a = a) → l.map g = l
  | [], _ => rfl
  | a :: l, h => by rw [List.map_cons, h a (by simp), map_ren_id fun b hb => h b (by simp [hb])]
theorem AE.ren_id {f : Nat → Nat} : ∀ {x : AE}, x.refs = [] → x.ren f = x
  | .one _, h => by simp only [AE.ren]; rw [AC.ren_id h]
  | .agg l, h => by
    simp only [AE.refs, List.flatMap_eq_nil_iff] at h
    simp only [AE.ren]
    rw [map_ren_id fun a ha => AC.ren_id (h a ha)]
theorem AV.ren_id {f : Nat → Nat} : ∀ {x : AV}, x.refs = [] → x.ren f = x
  | .e _, h => by simp only [AV.ren]; rw [AE.ren_id h]
  | .tup l, h => by
    simp only [AV.refs, List.flatMap_eq_nil_iff] at h
    simp only [AV.ren]
    rw [map_ren_id fun a ha => AE.ren_id (h a ha)]

theorem idxOf_spec : ∀ {ids : List Nat} {b : Nat}, b ∈ ids → ids[idxOf ids b]? = some b
  | [], _, h => by simp at h
  | a :: l, b, h => by
    unfold idxOf
    by_cases hab : a = b
    · subst hab; simp
    · have : (a == b) = false := by simpa using hab
      simp only [this, Bool.false_eq_true, if_false, List.getElem?_cons_succ]
      exact idxOf_spec (by rcases List.mem_cons.1 h with h | h; · exact absurd h.symm hab
                           · exact h)
theorem nodup_spec : ∀ {ids : List Nat}, nodupB ids = true → ∀ {i j : Nat} {b : Nat}, ids[i]? = some b → ids[j]? = some b → i = j
  | [], _, i, _, b, hi, _ => by simp at hi
  | a :: l, hn, i, j, b, hi, hj => by
    simp only [nodupB, Bool.and_eq_true, Bool.not_eq_true', List.contains_eq_mem, decide_eq_false_iff_not] at hn
    obtain ⟨h1, h2⟩ := hn
    cases i with
    | zero =>
      cases j with
      | zero => rfl
      | succ j => simp at hi hj; subst hi; exact absurd (List.mem_of_getElem? hj) h1
    | succ i =>
      cases j with
      | zero => simp at hi hj; subst hj; exact absurd (List.mem_of_getElem? hi) h1
      | succ j => simp at hi hj; rw [nodup_spec h2 hi hj]

theorem bring_sound {m1 : M} {w1 : World} {h1 h2 : Heap} {v v' : AV} {y : Value} (H : HR m base lvl h w) (H1 : HR m1 w.heap.size h.length h1 w1) (hle : M.leG w.heap.size m m1) (hB : Below w.heap.size w w1) (hv : VR m1 v y)
    (hs : bring h h1 v = some (v', h2)) : ∃ m2, M.leG base m m2 ∧ VR m2 v' y ∧ HR m2 base lvl h2 w1 := by
  have Hw0 : HR m base lvl h w1 := H.world hB.size hB.block
  let mF : M := { n := m.n, ρ := m.ρ, κ := m.κ, lo := m.lo, F := m1.F }
  have hleF : M.leG base m mF := ⟨Nat.le_refl _, fun _ _ => rfl, fun _ _ => rfl, rfl, hle.F, fun p hp => (hle.fresh p hp).imp_right (Nat.le_trans H.baseLe)⟩
  have tabs : ∀ p ∈ m1.F, (∃ (c : Array Value) (t : TypeId) (fz : Nat × Nat), w1.heap[p.1]? = some (.cells c t fz) ∧ c.toList = p.2) ∧ ∀ b a, lvl ≤ b → h[b]? = some (some a) → m.ρ b ≠ p.1 := fun p hp =>
    ⟨(H1.tab p hp).1, fun b a hb ha => by
      rcases hle.fresh p hp with h0 | h0
      · exact (H.tab p h0).2 b a hb ha
      · have := (H.ent b a ha).lt; omega⟩
  have Hw : HR mF base lvl h w1 := ⟨Hw0.n, Hw0.lvlLe, Hw0.baseLe, fun b a hb => (Hw0.ent b a hb).monoG hleF (by rw [Hw0.n]; exact (List.getElem?_eq_some_iff.1 hb).1), Hw0.own, Hw0.inj, Hw0.lo, tabs⟩
  unfold bring at hs
  split at hs
  · rename_i href
    simp only [Option.some.injEq, Prod.mk.injEq] at hs
    obtain ⟨rfl, rfl⟩ := hs
    refine ⟨mF, hleF, ?_, Hw⟩
    have := VR.ren (m1 := m1) (m2 := mF) (f := id) (fun _ hp => hp) (fun b hb => by rw [href] at hb; simp at hb) hv
    rwa [AV.ren_id href] at this
  · split at hs
    · rename_i ids hids
      split at hs
      · rename_i hc
        simp only [Bool.and_eq_true] at hc
        obtain ⟨⟨hnd, hkn⟩, hall⟩ := hc
        simp only [Option.some.injEq, Prod.mk.injEq] at hs
        obtain ⟨rfl, rfl⟩ := hs
        rw [lenL_eq] at hkn hall ⊢
        rw [appL_eq]
        have hmn := H.n
        let m2 : M := { n := h.length + ids.length, ρ := fun b => if b < h.length then m.ρ b else m1.ρ (ids.getD (b - h.length) 0), κ := fun b => if b < h.length then m.κ b else m1.κ (ids.getD (b - h.length) 0), lo := m.lo, F := m1.F }
        have hle2 : M.leG base m m2 := ⟨by simp only [m2]; omega, fun b hb => by simp only [m2]; rw [if_pos (by omega)], fun b hb => by simp only [m2]; rw [if_pos (by omega)], rfl, hleF.F, hleF.fresh⟩
        have names : ∀ b, (b < h.length ∨ b ∈ ids) → Names m1 m2 (renF h.length ids) b := by
          intro b hb
          by_cases hlt : b < h.length
          · have e : renF h.length ids b = b := by simp [renF, hlt]
            exact ⟨by rw [e]; simp only [m2]; omega, by rw [e]; simp only [m2, hlt, if_true]; exact (hle.ρ b (by omega)).symm, by rw [e]; simp only [m2, hlt, if_true]; exact (hle.κ b (by omega)).symm⟩
          · have hmem := hb.resolve_left hlt
            have hidx := idxOf_spec hmem
            have hlti : idxOf ids b < ids.length := (List.getElem?_eq_some_iff.1 hidx).1
            have e : renF h.length ids b = h.length + idxOf ids b := by simp [renF, hlt]
            have e2 : ids.getD (h.length + idxOf ids b - h.length) 0 = b := by
              rw [Nat.add_sub_cancel_left, List.getD_eq_getElem?_getD, hidx]; rfl
            exact ⟨by rw [e]; simp only [m2]; omega, by rw [e]; simp only [m2]; rw [if_neg (by omega), e2], by rw [e]; simp only [m2]; rw [if_neg (by omega), e2]⟩
        have knownOf : ∀ l, knownR h.length ids l = true → ∀ b ∈ l, Names m1 m2 (renF h.length ids) b := by
          intro l hl b hb
          have := List.all_eq_true.1 hl b hb
          simp only [Bool.or_eq_true, decide_eq_true_eq, List.contains_eq_mem] at this
          exact names b this
        have hid : ∀ (k i : Nat), ids[k]? = some i → h.length ≤ i ∧ ∃ a, blk h1 i = some a ∧ knownR h.length ids a.refs = true := by
          intro k i hk
          have := List.all_eq_true.1 hall i (List.mem_of_getElem? hk)
          simp only [Bool.and_eq_true, decide_eq_true_eq] at this
          obtain ⟨g1, g2⟩ := this
          split at g2
          · rename_i a ha; exact ⟨g1, a, ha, g2⟩
          · simp at g2
        have newAt : ∀ (b : Nat) (a : AB), ¬ b < h.length → (h ++ ids.map fun i => (blk h1 i).map (AB.ren (renF h.length ids)))[b]? = some (some a) →
            ∃ i a0, ids[b - h.length]? = some i ∧ (h1[i]? = some (some a0) ∧ a0.ext = .cells) ∧ h.length ≤ i ∧ knownR h.length ids a0.refs = true ∧ a = a0.ren (renF h.length ids) ∧ m2.ρ b = m1.ρ i ∧ m2.κ b = m1.κ i := by
          intro b a hlt hb
          rw [List.getElem?_append, if_neg hlt, List.getElem?_map] at hb
          cases hi : ids[b - h.length]? with
          | none => rw [hi] at hb; simp at hb
          | some i =>
            rw [hi] at hb
            obtain ⟨g1, a0, g2, g3⟩ := hid _ _ hi
            simp only [Option.map_some, g2, Option.some.injEq] at hb
            have e2 : ids.getD (b - h.length) 0 = i := by rw [List.getD_eq_getElem?_getD, hi]; rfl
            exact ⟨i, a0, rfl, blk_spec g2, g1, g3, hb.symm, by simp only [m2]; rw [if_neg hlt, e2], by simp only [m2]; rw [if_neg hlt, e2]⟩
        refine ⟨m2, hle2, VR.ren (m1 := m1) (m2 := m2) (fun _ hp => hp) (knownOf _ hkn) hv, ?_, ?_, Hw.baseLe, ?_, ?_, ?_, H.lo, ?_⟩
        · simp [m2]
        · have := H.lvlLe; simp; omega
        · intro b a hb
          by_cases hlt : b < h.length
          · rw [List.getElem?_append, if_pos hlt] at hb
            exact (Hw0.ent b a hb).monoG hle2 (by omega)
          · obtain ⟨i, a0, g1, g2, g3, g4, rfl, g5, g6⟩ := newAt b a hlt hb
            obtain ⟨b1, b2, c, fz, b3, b4, b5, b6, b7⟩ := H1.blk i a0 g2.1 g2.2
            refine ⟨fun _ => ⟨by simpa [AB.ren] using b1, fun hf => by rw [g6]; exact b2 hf, c, fz, by rw [g5]; exact b3, by rw [g6]; exact b4, fun _ => b5 (Nat.le_trans H1.lo g3), b6, ?_⟩, by simp only [AB.ren, g2.2]; trivial⟩
            exact all2_ren (fun x hx y hy => CR.ren (m1 := m1) (m2 := m2) (fun _ hp => hp) (fun k hk => knownOf _ g4 k (List.mem_flatMap.2 ⟨x, hx, hk⟩)) hy) b7
        · intro b hl hb
          simp at hb
          by_cases hlt : b < h.length
          · rw [hle2.ρ b (by omega)]; exact H.own b hl hlt
          · have hk : b - h.length < ids.length := by omega
            obtain ⟨i, hi⟩ : ∃ i, ids[b - h.length]? = some i := ⟨_, List.getElem?_eq_getElem hk⟩
            obtain ⟨g1, a0, g2, g3⟩ := hid _ _ hi
            have e2 : ids.getD (b - h.length) 0 = i := by rw [List.getD_eq_getElem?_getD, hi]; rfl
            have : m2.ρ b = m1.ρ i := by simp only [m2]; rw [if_neg hlt, e2]
            rw [this]
            have := H1.own i g1 (List.getElem?_eq_some_iff.1 (blk_eq g2)).1
            have := H.baseLe
            omega
        · intro b b' hb hb' ⟨a, ha⟩ ⟨a', ha'⟩ hlo he
          by_cases hlt : b < h.length <;> by_cases hlt' : b' < h.length
          · rw [hle2.ρ b (by omega), hle2.ρ b' (by omega)] at he
            rw [List.getElem?_append, if_pos hlt] at ha
            rw [List.getElem?_append, if_pos hlt'] at ha'
            exact H.inj b b' hlt hlt' ⟨a, ha⟩ ⟨a', ha'⟩ hlo he
          · rw [List.getElem?_append, if_pos hlt] at ha
            obtain ⟨i, a0, g1, g2, g3, _, _, g5, _⟩ := newAt b' a' hlt' ha'
            rw [hle2.ρ b (by omega), g5] at he
            have k1 := (H.ent b a ha).lt
            have k2 := H1.own i g3 (List.getElem?_eq_some_iff.1 g2.1).1
            omega
          · rw [List.getElem?_append, if_pos hlt'] at ha'
            obtain ⟨i, a0, g1, g2, g3, _, _, g5, _⟩ := newAt b a hlt ha
            rw [hle2.ρ b' (by omega), g5] at he
            have k1 := (H.ent b' a' ha').lt
            have k2 := H1.own i g3 (List.getElem?_eq_some_iff.1 g2.1).1
            omega
          · obtain ⟨i, a0, g1, g2, g3, _, _, g5, _⟩ := newAt b a hlt ha
            obtain ⟨i', a0', g1', g2', g3', _, _, g5', _⟩ := newAt b' a' hlt' ha'
            rw [g5, g5'] at he
            have := H1.inj i i' (List.getElem?_eq_some_iff.1 g2.1).1 (List.getElem?_eq_some_iff.1 g2'.1).1 ⟨a0, g2.1⟩ ⟨a0', g2'.1⟩ (.inl (Nat.le_trans H1.lo g3)) he
            subst this
            have := nodup_spec hnd g1 g1'
            omega
        · intro p hp
          refine ⟨(H1.tab p hp).1, fun b a hb ha => ?_⟩
          by_cases hlt : b < h.length
          · rw [List.getElem?_append, if_pos hlt] at ha
            rw [hle2.ρ b (by omega)]
            exact (tabs p hp).2 b a hb ha
          · obtain ⟨i, a0, g1, g2, g3, _, _, g5, _⟩ := newAt b a hlt ha
            rw [g5]
            exact (H1.tab p hp).2 i a0 g3 g2.1
      · simp at hs
    · simp at hs

end ops
end Go.Ev
