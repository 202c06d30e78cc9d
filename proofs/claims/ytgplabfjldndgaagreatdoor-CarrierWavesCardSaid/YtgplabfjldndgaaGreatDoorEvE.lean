/-
  The operations, one by one.
-/
import Derived.Test.YtgplabfjldndgaaGreatDoorEvD
namespace Go.Ev
open Go.RowKit

section ops
variable {E : Env} {m : M} {base lvl : Nat} {h h' : Heap} {w : World} {tm : Tm} {t : Array Value} {x : AV}

theorem fill_sound {m : M} (place : Nat → Option (Nat × Nat)) (placeA : Nat → Option (Nat × Nat)) (hp : ∀ i r, placeA i = some r → place i = some r) :
    ∀ (ps : List (Nat × AV)) (qs : List (Nat × Value)) (cs : List AC) (ds : Array Value) (out : List AC), All2 (fun p q => p.1 = q.1 ∧ VR m p.2 q.2) ps qs → All2 (CR m) cs ds.toList →
      fillA placeA cs ps = some out → ∃ ds' : Array Value, Instr.fill place ds qs = some ds' ∧ All2 (CR m) out ds'.toList
  | [], [], cs, ds, out, _, hc, hf => by
    simp [fillA] at hf; subst hf
    exact ⟨ds, rfl, hc⟩
  | (i, .tup _) :: _, _ :: _, _, _, _, _, _, hf => by simp [fillA] at hf
  | (i, .e a) :: ps, (j, v) :: qs, cs, ds, out, hq, hc, hf => by
    obtain ⟨⟨hij, hv⟩, hq'⟩ := hq
    simp only at hij hv
    subst hij
    simp only [fillA] at hf
    split at hf
    · rename_i off size l hpl hcl
      split at hf
      · simp at hf
      · rename_i hcond
        rw [lenL_eq, lenL_eq] at hcond
        have h1 : l.length = size := by omega
        have h2 : off + size ≤ cs.length := by omega
        have hcs := cells_sound (show ER m a v from hv) hcl
        have hsz : v.cells.size = size := by have := hcs.length; simp at this; omega
        have hds := hc.length
        simp at hds
        have hov := hc.over hcs off (by omega)
        have hfold : ∀ (l : List Value) (k : Nat) (d : Array Value), off + k + l.length ≤ d.size →
            ((l.zipIdx k).foldl (fun cs (c, j) => cs.setIfInBounds (off + j) c) d).toList = d.toList.take (off + k) ++ l ++ d.toList.drop (off + k + l.length) := by
          intro l
          induction l with
          | nil => intro k d _; simp
          | cons c l ih =>
            intro k d hk
            simp only [List.zipIdx_cons, List.foldl_cons]
            rw [ih (k + 1) _ (by simp at hk ⊢; omega)]
            have e := list_seg_step d.toList (off + k) c l (by simp at hk ⊢; omega)
            simpa [Array.toList_setIfInBounds, Nat.add_assoc] using e
        have hz : (v.cells.zipIdx.foldl (fun cs (c, j) => cs.setIfInBounds (off + j) c) ds).toList = ds.toList.take off ++ v.cells.toList ++ ds.toList.drop (off + v.cells.toList.length) := by
          have := hfold v.cells.toList 0 ds (by simp; omega)
          rw [← Array.foldl_toList, Array.toList_zipIdx]
          simpa using this
        obtain ⟨ds', hd, hr⟩ := fill_sound place placeA hp ps qs (overL l cs off) (v.cells.zipIdx.foldl (fun cs (c, j) => cs.setIfInBounds (off + j) c) ds) out hq' (by rw [hz]; exact hov) hf
        refine ⟨ds', ?_, hr⟩
        simp only [Instr.fill, hp _ _ hpl]
        rw [if_neg (by simp; omega)]
        exact hd
    · simp at hf

theorem parts_sound {m : M} {tm : Tm} {t : Array Value} (hT : TR m tm t) : ∀ l : List (Nat × Operand), All2 (fun p q => p.1 = q.1 ∧ VR m p.2 q.2) (l.map fun p => (p.1, evA tm p.2)) (l.map fun p => (p.1, evC t p.2))
  | [] => trivial
  | _ :: l => ⟨⟨rfl, evA_sound hT _⟩, parts_sound hT l⟩

theorem op_pick (hT : TR m tm t) (H : HR m base lvl h w) {o : Oper} {c a b : Operand} (ho : o.op = .pick c a b) (hs : opA E lvl tm h o.op = some (x, h')) :
    ∃ y w' m', Does E.P t o w y w' ∧ Post m base lvl w x h' y w' m' := by
  rw [ho] at hs
  simp only [opA] at hs
  split at hs
  · rename_i tt hc
    simp only [Option.some.injEq, Prod.mk.injEq] at hs
    obtain ⟨rfl, rfl⟩ := hs
    have hcv := evA_sound hT c
    rw [hc] at hcv
    have hcv' : evC t c = .bool tt := hcv
    refine ⟨if tt then evC t a else evC t b, w, m, .inl ?_, Post.same H ?_⟩
    · simp [execOp, ho, hcv', asBool]
    · cases tt
      · exact evA_sound hT b
      · exact evA_sound hT a
  · simp at hs

theorem op_extract (hT : TR m tm t) (H : HR m base lvl h w) {o : Oper} {c : Operand} {i : Nat} (ho : o.op = .extract c i) (hs : opA E lvl tm h o.op = some (x, h')) :
    ∃ y w' m', Does E.P t o w y w' ∧ Post m base lvl w x h' y w' m' := by
  rw [ho] at hs
  simp only [opA] at hs
  split at hs
  · rename_i l hc
    have hcv := evA_sound hT c
    rw [hc] at hcv
    obtain ⟨vs, hv, ha⟩ := hcv
    rw [getL_eq] at hs
    cases hi : l[i]? with
    | none => rw [hi] at hs; simp at hs
    | some a =>
      rw [hi] at hs
      simp only [Option.map_some, Option.some.injEq, Prod.mk.injEq] at hs
      obtain ⟨rfl, rfl⟩ := hs
      obtain ⟨y, hy, hr⟩ := ha.get hi
      have hy' : vs[i]? = some y := by simpa using hy
      refine ⟨y, w, m, .inl ?_, Post.same H hr⟩
      simp [execOp, ho, hv, Instr.extract, hy']
  · simp at hs

theorem op_alloc (H : HR m base lvl h w) {o : Oper} {u : TypeId} (ho : o.op = .alloc u) (hs : opA E lvl tm h o.op = some (x, h')) :
    ∃ y w' m', Does E.P t o w y w' ∧ Post m base lvl w x h' y w' m' := by
  rw [ho] at hs
  simp only [opA] at hs
  split at hs
  · rename_i z hz
    obtain ⟨i, v, hi, hv, rfl⟩ := zeroA_some hz
    obtain ⟨w', m', hw, hp⟩ := newA_sound (E := E) (t := u) H (all2_v m v.cells.toList)
    simp only [Option.some.injEq] at hs
    rw [hs] at hp
    refine ⟨_, w', m', .inl ?_, hp⟩
    simp [execOp, ho, Instr.alloc, zeroValue, run_typeInfo hi, hv, hw]
  · simp at hs

theorem op_box (hT : TR m tm t) (H : HR m base lvl h w) {o : Oper} {u : TypeId} {c : Operand} (ho : o.op = .box u c) (hs : opA E lvl tm h o.op = some (x, h')) :
    ∃ y w' m', Does E.P t o w y w' ∧ Post m base lvl w x h' y w' m' := by
  rw [ho] at hs
  simp only [opA] at hs
  split at hs
  · rename_i a ha
    have hcv := evA_sound hT c
    rw [ha] at hcv
    split at hs
    · rename_i cs hcs
      obtain ⟨w', m', hw, hp⟩ := newA_sound (E := E) (t := u) H (cells_sound (show ER m a _ from hcv) hcs)
      simp only [Option.some.injEq] at hs
      rw [hs] at hp
      refine ⟨_, w', m', .inl ?_, hp⟩
      simp [execOp, ho, Instr.box, hw]
    · simp at hs
  · simp at hs

theorem op_store (hT : TR m tm t) (H : HR m base lvl h w) {o : Oper} {u : TypeId} {a c : Operand} (ho : o.op = .store u a c) (hs : opA E lvl tm h o.op = some (x, h')) :
    ∃ y w' m', Does E.P t o w y w' ∧ Post m base lvl w x h' y w' m' := by
  rw [ho] at hs
  simp only [opA] at hs
  cases hst : storeA E lvl h u (evA tm a) (evA tm c) with
  | none => rw [hst] at hs; simp at hs
  | some h2 =>
    rw [hst] at hs
    simp only [Option.map_some, Option.some.injEq, Prod.mk.injEq] at hs
    obtain ⟨rfl, rfl⟩ := hs
    obtain ⟨w', hw, hH, hB⟩ := storeA_sound H (evA_sound hT a) (evA_sound hT c) hst
    refine ⟨undef, w', m, .inr ⟨?_, rfl⟩, ⟨M.le.refl m, ⟨#[], rfl, trivial⟩, hH, hB⟩⟩
    simp [execOp, ho, hw]

theorem op_nilCheck (hT : TR m tm t) (H : HR m base lvl h w) {o : Oper} {a : Operand} (ho : o.op = .nilCheck a) (hs : opA E lvl tm h o.op = some (x, h')) :
    ∃ y w' m', Does E.P t o w y w' ∧ Post m base lvl w x h' y w' m' := by
  rw [ho] at hs
  simp only [opA] at hs
  split at hs
  · rename_i b off ha
    simp only [Option.some.injEq, Prod.mk.injEq] at hs
    obtain ⟨rfl, rfl⟩ := hs
    have hv := evA_sound hT a
    rw [ha] at hv
    obtain ⟨hb, hv'⟩ : b < m.n ∧ evC t a = _ := hv
    refine ⟨_, w, m, .inl ?_, Post.same H (show VR m _ (.pointer (some ⟨m.ρ b, off, none⟩)) from ⟨hb, rfl⟩)⟩
    simp [execOp, ho, hv']
  · simp at hs

theorem op_fieldAddr (hT : TR m tm t) (H : HR m base lvl h w) {o : Oper} {s : TypeId} {a : Operand} {f : Nat} (ho : o.op = .fieldAddr s a f) (hs : opA E lvl tm h o.op = some (x, h')) :
    ∃ y w' m', Does E.P t o w y w' ∧ Post m base lvl w x h' y w' m' := by
  rw [ho] at hs
  simp only [opA] at hs
  split at hs
  · rename_i b off fs ha hu
    split at hs
    · rename_i fd hfd
      split at hs
      · rename_i i hi
        split at hs
        · simp at hs
        · rename_i hz
          simp only [Option.some.injEq, Prod.mk.injEq] at hs
          obtain ⟨rfl, rfl⟩ := hs
          have hv := evA_sound hT a
          rw [ha] at hv
          obtain ⟨hb, hv'⟩ : b < m.n ∧ evC t a = _ := hv
          refine ⟨_, w, m, .inl ?_, Post.same H (show VR m _ (.pointer (some ⟨m.ρ b, off + fd.offset, none⟩)) from ⟨hb, rfl⟩)⟩
          simp [execOp, ho, hv', Instr.fieldAt, run_underlying hu, hfd, Instr.sureAddr, fieldPlace, run_sizeOf hi, hz, addr_add]
      · simp at hs
    · simp at hs
  · simp at hs

theorem intOf_sound {m : M} {a : AV} {y : Value} {k : IntKind} {n : Int} (h : VR m a y) (hi : intOf? a = some (k, n)) : y = .int k n := by
  unfold intOf? at hi
  split at hi
  · simp only [Option.some.injEq, Prod.mk.injEq] at hi
    obtain ⟨rfl, rfl⟩ := hi
    exact h
  · simp at hi

theorem op_indexAddr (hT : TR m tm t) (H : HR m base lvl h w) {o : Oper} {s : TypeId} {a c : Operand} (ho : o.op = .indexAddr s a c) (hs : opA E lvl tm h o.op = some (x, h')) :
    ∃ y w' m', Does E.P t o w y w' ∧ Post m base lvl w x h' y w' m' := by
  rw [ho] at hs
  simp only [opA] at hs
  split at hs
  · rename_i b off k n len el ha hi hu
    split at hs
    · rename_i e he
      split at hs
      · rename_i hcond
        simp only [Option.some.injEq, Prod.mk.injEq] at hs
        obtain ⟨rfl, rfl⟩ := hs
        have hv := evA_sound hT a
        rw [ha] at hv
        obtain ⟨hb, hv'⟩ : b < m.n ∧ evC t a = _ := hv
        have hn := intOf_sound (evA_sound hT c) hi
        refine ⟨_, w, m, .inl ?_, Post.same H (show VR m _ (.pointer (some ⟨m.ρ b, off + n.toNat * e.size, none⟩)) from ⟨hb, rfl⟩)⟩
        simp [execOp, ho, hv', hn, Instr.indexAt, asIntOf, run_underlying hu, Instr.sureAddr, hcond, run_sizeOf he, addr_add]
      · simp at hs
    · simp at hs
  · rename_i b off len sz cap ex k n el ha hi hu
    split at hs
    · rename_i e he
      split at hs
      · rename_i hcond
        obtain ⟨c1, c2, c3⟩ := hcond
        simp only [Option.some.injEq, Prod.mk.injEq] at hs
        obtain ⟨rfl, rfl⟩ := hs
        have hv := evA_sound hT a
        rw [ha] at hv
        obtain ⟨hb, cc, o', hv', h0, h1, h1', _⟩ : CR m (.slc b off len sz cap ex) (evC t a) := hv
        obtain rfl : o' = off := by rcases h0 with h0 | h0 <;> omega
        have hn := intOf_sound (evA_sound hT c) hi
        refine ⟨_, w, m, .inl ?_, Post.same H (show VR m _ (.pointer (some ⟨m.ρ b, o' + n.toNat * sz, none⟩)) from ⟨hb, rfl⟩)⟩
        simp [execOp, ho, hv', hn, Instr.indexAt, asIntOf, run_underlying hu, c1, c2, run_sizeOf he, addr_add, c3]
      · simp at hs
    · simp at hs
  · simp at hs

theorem run_places {P : Program} {w : World} : ∀ {l : List Field} {pl : List (Nat × Nat)}, (l.map fun f => (P.info? f.type).map fun i => (f.offset, i.size)) = pl.map some →
    (l.mapM (m := Sem) fun f => do pure (f.offset, ← sizeOf f.type)).run P w = .ok pl w
  | [], [], _ => by simp
  | [], _ :: _, h => by simp at h
  | _ :: _, [], h => by simp at h
  | f :: l, p :: pl, h => by
    simp only [List.map_cons, List.cons.injEq] at h
    obtain ⟨h1, h2⟩ := h
    have ih := run_places (P := P) (w := w) h2
    cases hi : P.info? f.type with
    | none => rw [hi] at h1; simp at h1
    | some i =>
      rw [hi] at h1
      simp only [Option.map_some, Option.some.injEq] at h1
      rw [List.mapM_cons]
      simp only [Sem.run_bind, run_sizeOf hi, Result.andThen_ok, Sem.run_pure, ih, h1]

theorem op_build (hT : TR m tm t) (H : HR m base lvl h w) {o : Oper} {u : TypeId} {ps : Array (Nat × Operand)} (ho : o.op = .build u ps) (hs : opA E lvl tm h o.op = some (x, h')) :
    ∃ y w' m', Does E.P t o w y w' ∧ Post m base lvl w x h' y w' m' := by
  rw [ho] at hs
  simp only [opA] at hs
  have hparts := parts_sound hT ps.toList
  have hpl : (ps.map fun (i, x) => (i, evC t x)).toList = ps.toList.map fun p => (p.1, evC t p.2) := by simp
  split at hs
  · rename_i z fs hz hu
    obtain ⟨i, v, hi, hv, rfl⟩ := zeroA_some hz
    split at hs
    · rename_i pl hpls
      cases hf : fillA (getL pl) (v.cells.toList.map AC.v) (ps.toList.map fun p => (p.1, evA tm p.2)) with
      | none => rw [hf] at hs; simp at hs
      | some cs =>
        rw [hf] at hs
        simp only [Option.map_some, Option.some.injEq, Prod.mk.injEq] at hs
        obtain ⟨rfl, rfl⟩ := hs
        have hrun := run_places (P := E.P) (w := w) (allSome_eq hpls)
        obtain ⟨ds, hd, hr⟩ := fill_sound (fun k => (pl.toArray)[k]?) (getL pl) (fun k r hk => by rw [getL_eq] at hk; simpa using hk) _ _ _ _ _ hparts (all2_v m v.cells.toList) hf
        refine ⟨.agg ds, w, m, .inl ?_, Post.same H (show VR m _ (.agg ds) from ⟨ds, rfl, hr⟩)⟩
        have hm : (fs.mapM (m := Sem) fun f => do pure (f.offset, ← sizeOf f.type)).run E.P w = .ok pl.toArray w := by
          rw [Array.mapM_eq_mapM_toList]
          simp only [Sem.run_map, hrun, Result.andThen_ok]
        simp only [execOp, ho, Instr.build, zeroValue, Sem.run_bind, run_typeInfo hi, Result.andThen_ok, hv, Sem.run_pure, run_underlying hu, hm, hpl, hd]
    · simp at hs
  · rename_i z n el hz hu
    obtain ⟨i, v, hi, hv, rfl⟩ := zeroA_some hz
    split at hs
    · rename_i e he
      cases hf : fillA (fun i => some (i * e.size, e.size)) (v.cells.toList.map AC.v) (ps.toList.map fun p => (p.1, evA tm p.2)) with
      | none => rw [hf] at hs; simp at hs
      | some cs =>
        rw [hf] at hs
        simp only [Option.map_some, Option.some.injEq, Prod.mk.injEq] at hs
        obtain ⟨rfl, rfl⟩ := hs
        obtain ⟨ds, hd, hr⟩ := fill_sound (fun i => some (i * e.size, e.size)) (fun i => some (i * e.size, e.size)) (fun k r hk => hk) _ _ _ _ _ hparts (all2_v m v.cells.toList) hf
        refine ⟨.agg ds, w, m, .inl ?_, Post.same H (show VR m _ (.agg ds) from ⟨ds, rfl, hr⟩)⟩
        simp only [execOp, ho, Instr.build, zeroValue, Sem.run_bind, run_typeInfo hi, Result.andThen_ok, hv, Sem.run_pure, run_underlying hu, run_sizeOf he, hpl, hd]
    · simp at hs
  · simp at hs

theorem repeatC_get (l : List AC) : ∀ n i : Nat, (repeatC l n)[i]? = if i < n * l.length then l[i % l.length]? else none := by
  intro n
  induction n with
  | zero => intro i; simp [repeatC]
  | succ n ih =>
    intro i
    show (l ++ repeatC l n)[i]? = _
    rw [List.getElem?_append]
    split
    · rename_i h
      rw [if_pos (by rw [Nat.add_mul]; omega), Nat.mod_eq_of_lt h]
    · rename_i h
      rw [ih]
      have e : (i - l.length) % l.length = i % l.length := (Nat.mod_eq_sub_mod (by omega)).symm
      rw [e]
      have e2 : (n + 1) * l.length = n * l.length + l.length := by rw [Nat.add_mul]; omega
      rw [e2]
      by_cases h2 : i - l.length < n * l.length
      · rw [if_pos h2, if_pos (by omega)]
      · rw [if_neg h2, if_neg (by omega)]
theorem repeatC_length (l : List AC) : ∀ n, (repeatC l n).length = n * l.length := by
  intro n
  induction n with
  | zero => simp [repeatC]
  | succ n ih => show (l ++ repeatC l n).length = _; rw [List.length_append, ih, Nat.add_mul]; omega

theorem repeat_sound (m : M) (z : Array Value) (n k : Nat) (hk : k = n * z.size) : All2 (CR m) (repeatC (z.toList.map AC.v) n) ((Array.range k).map (z[· % z.size]!)).toList := by
  subst hk
  apply All2.of_get
  · rw [repeatC_length]; simp
  · intro i a b ha hb
    rw [repeatC_get] at ha
    split at ha
    · rename_i hi
      simp at hi
      have hz : 0 < z.size := by rcases Nat.eq_zero_or_pos z.size with h | h; · rw [h] at hi; simp at hi
                                 · exact h
      have hm : i % z.size < z.size := Nat.mod_lt _ hz
      simp [hi] at hb
      simp [hm] at ha
      subst ha
      subst hb
      simp [hm, CR]
    · simp at ha

theorem small_spec {n size bytes : Nat} (h : small n size bytes = true) : n ≤ 2000000 ∧ size ≤ 64 ∧ bytes ≤ 1024 := by
  simp only [small, Bool.and_eq_true, decide_eq_true_eq] at h
  exact ⟨h.1.1.1, h.1.1.2, h.1.2⟩
theorem small_cells {n size bytes : Nat} (h : small n size bytes = true) : n * size ≤ 16777216 := by
  simp only [small, Bool.and_eq_true, decide_eq_true_eq] at h
  exact h.2

theorem op_buildSlice (hT : TR m tm t) (H : HR m base lvl h w) {o : Oper} {u : TypeId} {len : Nat} {ps : Array (Nat × Operand)} (ho : o.op = .buildSlice u len ps) (hs : opA E lvl tm h o.op = some (x, h')) :
    ∃ y w' m', Does E.P t o w y w' ∧ Post m base lvl w x h' y w' m' := by
  rw [ho] at hs
  simp only [opA] at hs
  have hparts := parts_sound hT ps.toList
  have hpl : (ps.map fun (i, x) => (i, evC t x)).toList = ps.toList.map fun p => (p.1, evC t p.2) := by simp
  split at hs
  · rename_i el hu
    split at hs
    · rename_i e z he hz
      obtain ⟨i, v, hi, hv, rfl⟩ := zeroA_some hz
      have hie : i = e := by rw [he] at hi; simpa using hi.symm
      subst hie
      split at hs
      · rename_i hc
        obtain ⟨hsm, hzl⟩ := hc
        obtain ⟨s1, s2, s3⟩ := small_spec hsm
        rw [lenL_eq] at hzl
        have hzs : v.cells.size = i.size := by simpa using hzl
        cases hf : fillA (fun k => some (k * i.size, i.size)) (repeatC (v.cells.toList.map AC.v) len) (ps.toList.map fun p => (p.1, evA tm p.2)) with
        | none => rw [hf] at hs; simp at hs
        | some cs =>
          rw [hf] at hs
          simp only [Option.map_some, Option.some.injEq, Prod.mk.injEq] at hs
          obtain ⟨rfl, rfl⟩ := hs
          let z0 : Array Value := if len * i.size = 0 then #[] else v.cells
          have hrel : All2 (CR m) (repeatC (v.cells.toList.map AC.v) len) ((Array.range (len * i.size)).map (z0[· % z0.size]!)).toList := by
            by_cases h0 : len * i.size = 0
            · have e1 : repeatC (v.cells.toList.map AC.v) len = [] := by
                apply List.eq_nil_of_length_eq_zero
                rw [repeatC_length]; simp; rw [hzs]; simpa using h0
              rw [e1, h0]
              simp [All2]
            · have e1 : z0 = v.cells := by simp only [z0, h0, if_false]
              rw [e1]
              exact repeat_sound m v.cells len _ (by rw [hzs])
          obtain ⟨ds, hd, hr⟩ := fill_sound (fun k => some (k * i.size, i.size)) (fun k => some (k * i.size, i.size)) (fun k r hk => hk) _ _ _ _ _ hparts hrel hf
          have hdlen : ds.size = len * i.size := by
            have h1 := hr.length
            have h2 : ∀ (ps : List (Nat × AV)) (cs out : List AC), fillA (fun k => some (k * i.size, i.size)) cs ps = some out → out.length = cs.length := by
              intro ps
              induction ps with
              | nil => intro cs out hh; simp [fillA] at hh; rw [hh]
              | cons p ps ih =>
                intro cs out hh
                obtain ⟨k, a⟩ := p
                cases a with
                | tup l => simp [fillA] at hh
                | e a =>
                  simp only [fillA] at hh
                  split at hh
                  · split at hh
                    · simp at hh
                    · rw [ih _ _ hh, overL_length]
                  · simp at hh
            have h3 := h2 _ _ _ hf
            rw [repeatC_length] at h3
            simp at h1 h3
            rw [hzs] at h3
            omega
          have hlen := hr.length
          refine ⟨.slice (some ⟨w.heap.size, 0, none⟩) len len, w.alloc (.cells ds el), m.push w.heap.size ds.size, .inl ?_, M.le_push _ _ _, ?_, ?_, (Below.refl _ _).alloc H.baseLe _⟩
          · have hcap : ¬ (len * i.size > 2 ^ 24) := by
              have : len * i.size ≤ 16777216 := small_cells hsm
              omega
            simp only [execOp, ho, Instr.buildSlice, Sem.run_bind, run_underlying hu, Result.andThen_ok, run_sizeOf hi, hcap, if_false]
            by_cases h0 : len * i.size = 0
            · have e1 : z0 = #[] := by simp only [z0, h0, if_true]
              rw [e1] at hd
              rw [h0] at hd
              simp only [h0, if_true, pure_bind, hpl, hd]
              simp [newRow]
            · have e1 : z0 = v.cells := by simp only [z0, h0, if_false]
              rw [e1] at hd
              simp only [h0, if_false, zeroValue, bind_assoc, pure_bind, Sem.run_bind, run_typeInfo hi, Result.andThen_ok, hv, Sem.run_pure, hpl, hd]
              simp [newRow]
          · show CR _ (.slc (lenL h) 0 len i.size len true) _
            refine ⟨?_, len, 0, ?_, .inl rfl, Nat.le_refl _, Nat.le_refl _, by unfold maxLen; omega, ?_, fun _ => rfl⟩
            · rw [lenL_eq, ← H.n]; simp
            · rw [lenL_eq, ← H.n, M.push_ρ]
            · rw [lenL_eq, ← H.n, M.push_κ, hdlen]; omega
          · rw [appL_eq]
            refine H.new (c := ds) (t := el) (fz := (0, 0)) rfl (by simp at hlen; omega) (fun _ => by omega) (by omega) (.inl rfl) ?_
            rw [List.take_of_length_le (by simp; omega)]
            exact hr
      · simp at hs
    · simp at hs
  · simp at hs

end ops
end Go.Ev
