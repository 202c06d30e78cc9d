/-
  Part of the proof.
-/
import Derived.Test.YtigdchbjmnbjlaaGreatDoorSeZA
import Derived.Laws.IdiomStrings
import Derived.Laws.Slices
import Derived.Lib.AppendStr
import Derived.Lib.UnsafeStr
import Derived.MapKept
import Derived.RangeFuncLeaves
import Derived.RangeFuncRecord
section
namespace Go.Ev
open Go.RowKit
section ops
variable {E : Env} {m : M} {base lvl : Nat} {h h' : Heap} {w : World} {tm : Tm} {t : Array Value} {x : AV}
theorem fill_sound {m : M} (place : Nat → Option (Nat × Nat)) (placeA : Nat → Option (Nat × Nat)) (hp : ∀ i r, placeA i = some r → place i = some r) :
  ∀ (ps : List (Nat × AV)) (qs : List (Nat × Value)) (cs : List AC) (ds : Array Value) (out : List AC), All2 (fun p q => p.1 = q.1 ∧ VR m p.2 q.2) ps qs → All2 (CR m) cs ds.toList →
   fillA placeA cs ps = some out → ∃ ds' : Array Value, Instr.fill place ds qs = some ds' ∧ All2 (CR m) out ds'.toList
 | [], [], cs, ds, out, _, hc, hf => by
  simp [fillA] at hf; subst hf
  exact ⟨ds, rfl, hc⟩
 | (i, .tup _) :: _, _ :: _, _, _, _, _, _, hf => by simp [fillA] at hf
 | (i, .e a) :: ps, (j, v) :: qs, cs, ds, out, hq, hc, hf => by
  obtain ⟨⟨hij, hv⟩, hq'⟩ := hq
  simp only at hij hv
  subst hij
  simp only [fillA] at hf
  split at hf
  ·rename_i off size l hpl hcl
   split at hf
   ·simp at hf
   ·rename_i hcond
    rw [lenL_eq, lenL_eq] at hcond
    have h1 : l.length = size := by omega
    have h2 : off + size ≤ cs.length := by omega
    have hcs := cells_sound (show ER m a v from hv) hcl
    have hsz : v.cells.size = size := by have := hcs.length; simp at this; omega
    have hds := hc.length
    simp at hds
    have hov := hc.over hcs off (by omega)
    have hfold : ∀ (l : List Value) (k : Nat) (d : Array Value), off + k + l.length ≤ d.size →
      ((l.zipIdx k).foldl (fun cs (c, j) => cs.setIfInBounds (off + j) c) d).toList = d.toList.take (off + k) ++ l ++ d.toList.drop (off + k + l.length) := by
     intro l
     induction l with
     | nil => intro k d _; simp
     | cons c l ih =>
      intro k d hk
      simp only [List.zipIdx_cons, List.foldl_cons]
      rw [ih (k + 1) _ (by simp at hk ⊢; omega)]
      have e := list_seg_step d.toList (off + k) c l (by simp at hk ⊢; omega)
      simpa [Array.toList_setIfInBounds, Nat.add_assoc] using e
    have hz : (v.cells.zipIdx.foldl (fun cs (c, j) => cs.setIfInBounds (off + j) c) ds).toList = ds.toList.take off ++ v.cells.toList ++ ds.toList.drop (off + v.cells.toList.length) := by
     have := hfold v.cells.toList 0 ds (by simp; omega)
     rw [← Array.foldl_toList, Array.toList_zipIdx]
     simpa using this
    obtain ⟨ds', hd, hr⟩ := fill_sound place placeA hp ps qs (overL l cs off) (v.cells.zipIdx.foldl (fun cs (c, j) => cs.setIfInBounds (off + j) c) ds) out hq' (by rw [hz]; exact hov) hf
    refine ⟨ds', ?_, hr⟩
    simp only [Instr.fill, hp _ _ hpl]
    rw [if_neg (by simp; omega)]
    exact hd
  ·simp at hf
theorem parts_sound {m : M} {tm : Tm} {t : Array Value} (hT : TR m tm t) : ∀ l : List (Nat × Operand), All2 (fun p q => p.1 = q.1 ∧ VR m p.2 q.2) (l.map fun p => (p.1, evA tm p.2)) (l.map fun p => (p.1, evC t p.2))
 | [] => trivial
 | _ :: l => ⟨⟨rfl, evA_sound hT _⟩, parts_sound hT l⟩
theorem op_pick (hT : TR m tm t) (H : HR m base lvl h w) {o : Oper} {c a b : Operand} (ho : o.op = .pick c a b) (hs : opA E lvl tm h o.op = some (x, h')) :
  ∃ y w' m', Does E.P t o w y w' ∧ Post m base lvl w x h' y w' m' := by
 rw [ho] at hs
 simp only [opA] at hs
 split at hs
 ·rename_i tt hc
  simp only [Option.some.injEq, Prod.mk.injEq] at hs
  obtain ⟨rfl, rfl⟩ := hs
  have hcv := evA_sound hT c
  rw [hc] at hcv
  have hcv' : evC t c = .bool tt := hcv
  refine ⟨if tt then evC t a else evC t b, w, m, .inl ?_, Post.same H ?_⟩
  ·simp [execOp, ho, hcv', asBool]
  ·cases tt
   ·exact evA_sound hT b
   ·exact evA_sound hT a
 ·simp at hs
theorem op_extract (hT : TR m tm t) (H : HR m base lvl h w) {o : Oper} {c : Operand} {i : Nat} (ho : o.op = .extract c i) (hs : opA E lvl tm h o.op = some (x, h')) :
  ∃ y w' m', Does E.P t o w y w' ∧ Post m base lvl w x h' y w' m' := by
 rw [ho] at hs
 simp only [opA] at hs
 split at hs
 ·rename_i l hc
  have hcv := evA_sound hT c
  rw [hc] at hcv
  obtain ⟨vs, hv, ha⟩ := hcv
  rw [getL_eq] at hs
  cases hi : l[i]? with
  | none => rw [hi] at hs; simp at hs
  | some a =>
   rw [hi] at hs
   simp only [Option.map_some, Option.some.injEq, Prod.mk.injEq] at hs
   obtain ⟨rfl, rfl⟩ := hs
   obtain ⟨y, hy, hr⟩ := ha.get hi
   have hy' : vs[i]? = some y := by simpa using hy
   refine ⟨y, w, m, .inl ?_, Post.same H hr⟩
   simp [execOp, ho, hv, Instr.extract, hy']
 ·simp at hs
theorem op_alloc (H : HR m base lvl h w) {o : Oper} {u : TypeId} (ho : o.op = .alloc u) (hs : opA E lvl tm h o.op = some (x, h')) :
  ∃ y w' m', Does E.P t o w y w' ∧ Post m base lvl w x h' y w' m' := by
 rw [ho] at hs
 simp only [opA] at hs
 split at hs
 ·rename_i z hz
  obtain ⟨i, v, hi, hv, rfl⟩ := zeroA_some hz
  obtain ⟨w', m', hw, hp⟩ := newA_sound (E := E) (t := u) H (all2_v m v.cells.toList)
  simp only [Option.some.injEq] at hs
  rw [hs] at hp
  refine ⟨_, w', m', .inl ?_, hp⟩
  simp [execOp, ho, Instr.alloc, zeroValue, run_typeInfo hi, hv, hw]
 ·simp at hs
theorem op_box (hT : TR m tm t) (H : HR m base lvl h w) {o : Oper} {u : TypeId} {c : Operand} (ho : o.op = .box u c) (hs : opA E lvl tm h o.op = some (x, h')) :
  ∃ y w' m', Does E.P t o w y w' ∧ Post m base lvl w x h' y w' m' := by
 rw [ho] at hs
 simp only [opA] at hs
 split at hs
 ·rename_i a ha
  have hcv := evA_sound hT c
  rw [ha] at hcv
  split at hs
  ·rename_i cs hcs
   obtain ⟨w', m', hw, hp⟩ := newA_sound (E := E) (t := u) H (cells_sound (show ER m a _ from hcv) hcs)
   simp only [Option.some.injEq] at hs
   rw [hs] at hp
   refine ⟨_, w', m', .inl ?_, hp⟩
   simp [execOp, ho, Instr.box, hw]
  ·simp at hs
 ·simp at hs
theorem op_store (hT : TR m tm t) (H : HR m base lvl h w) {o : Oper} {u : TypeId} {a c : Operand} (ho : o.op = .store u a c) (hs : opA E lvl tm h o.op = some (x, h')) :
  ∃ y w' m', Does E.P t o w y w' ∧ Post m base lvl w x h' y w' m' := by
 rw [ho] at hs
 simp only [opA] at hs
 cases hst : storeA E lvl h u (evA tm a) (evA tm c) with
 | none => rw [hst] at hs; simp at hs
 | some h2 =>
  rw [hst] at hs
  simp only [Option.map_some, Option.some.injEq, Prod.mk.injEq] at hs
  obtain ⟨rfl, rfl⟩ := hs
  obtain ⟨w', hw, hH, hB⟩ := storeA_sound H (evA_sound hT a) (evA_sound hT c) hst
  refine ⟨undef, w', m, .inr ⟨?_, rfl⟩, ⟨M.le.refl m, ⟨#[], rfl, trivial⟩, hH, hB⟩⟩
  simp [execOp, ho, hw]
theorem op_nilCheck (hT : TR m tm t) (H : HR m base lvl h w) {o : Oper} {a : Operand} (ho : o.op = .nilCheck a) (hs : opA E lvl tm h o.op = some (x, h')) :
  ∃ y w' m', Does E.P t o w y w' ∧ Post m base lvl w x h' y w' m' := by
 rw [ho] at hs
 simp only [opA] at hs
 split at hs
 ·rename_i b off ha
  simp only [Option.some.injEq, Prod.mk.injEq] at hs
  obtain ⟨rfl, rfl⟩ := hs
  have hv := evA_sound hT a
  rw [ha] at hv
  obtain ⟨hb, hv'⟩ : b < m.n ∧ evC t a = _ := hv
  refine ⟨_, w, m, .inl ?_, Post.same H (show VR m _ (.pointer (some ⟨m.ρ b, off, none⟩)) from ⟨hb, rfl⟩)⟩
  simp [execOp, ho, hv']
 ·simp at hs
theorem op_fieldAddr (hT : TR m tm t) (H : HR m base lvl h w) {o : Oper} {s : TypeId} {a : Operand} {f : Nat} (ho : o.op = .fieldAddr s a f) (hs : opA E lvl tm h o.op = some (x, h')) :
  ∃ y w' m', Does E.P t o w y w' ∧ Post m base lvl w x h' y w' m' := by
 rw [ho] at hs
 simp only [opA] at hs
 split at hs
 ·rename_i b off fs ha hu
  split at hs
  ·rename_i fd hfd
   split at hs
   ·rename_i i hi
    split at hs
    ·simp at hs
    ·rename_i hz
     simp only [Option.some.injEq, Prod.mk.injEq] at hs
     obtain ⟨rfl, rfl⟩ := hs
     have hv := evA_sound hT a
     rw [ha] at hv
     obtain ⟨hb, hv'⟩ : b < m.n ∧ evC t a = _ := hv
     refine ⟨_, w, m, .inl ?_, Post.same H (show VR m _ (.pointer (some ⟨m.ρ b, off + fd.offset, none⟩)) from ⟨hb, rfl⟩)⟩
     simp [execOp, ho, hv', Instr.fieldAt, run_underlying hu, hfd, Instr.sureAddr, fieldPlace, run_sizeOf hi, hz, addr_add]
   ·simp at hs
  ·simp at hs
 ·simp at hs
theorem intOf_sound {m : M} {a : AV} {y : Value} {k : IntKind} {n : Int} (h : VR m a y) (hi : intOf? a = some (k, n)) : y = .int k n := by
 unfold intOf? at hi
 split at hi
 ·simp only [Option.some.injEq, Prod.mk.injEq] at hi
  obtain ⟨rfl, rfl⟩ := hi
  exact h
 ·simp at hi
theorem op_indexAddr (hT : TR m tm t) (H : HR m base lvl h w) {o : Oper} {s : TypeId} {a c : Operand} (ho : o.op = .indexAddr s a c) (hs : opA E lvl tm h o.op = some (x, h')) :
  ∃ y w' m', Does E.P t o w y w' ∧ Post m base lvl w x h' y w' m' := by
 rw [ho] at hs
 simp only [opA] at hs
 split at hs
 ·rename_i b off k n len el ha hi hu
  split at hs
  ·rename_i e he
   split at hs
   ·rename_i hcond
    simp only [Option.some.injEq, Prod.mk.injEq] at hs
    obtain ⟨rfl, rfl⟩ := hs
    have hv := evA_sound hT a
    rw [ha] at hv
    obtain ⟨hb, hv'⟩ : b < m.n ∧ evC t a = _ := hv
    have hn := intOf_sound (evA_sound hT c) hi
    refine ⟨_, w, m, .inl ?_, Post.same H (show VR m _ (.pointer (some ⟨m.ρ b, off + n.toNat * e.size, none⟩)) from ⟨hb, rfl⟩)⟩
    simp [execOp, ho, hv', hn, Instr.indexAt, asIntOf, run_underlying hu, Instr.sureAddr, hcond, run_sizeOf he, addr_add]
   ·simp at hs
  ·simp at hs
 ·rename_i b off len sz cap ex k n el ha hi hu
  split at hs
  ·rename_i e he
   split at hs
   ·rename_i hcond
    obtain ⟨c1, c2, c3⟩ := hcond
    simp only [Option.some.injEq, Prod.mk.injEq] at hs
    obtain ⟨rfl, rfl⟩ := hs
    have hv := evA_sound hT a
    rw [ha] at hv
    obtain ⟨hb, cc, o', hv', h0, h1, h1', _⟩ : CR m (.slc b off len sz cap ex) (evC t a) := hv
    obtain rfl : o' = off := by rcases h0 with h0 | h0 <;> omega
    have hn := intOf_sound (evA_sound hT c) hi
    refine ⟨_, w, m, .inl ?_, Post.same H (show VR m _ (.pointer (some ⟨m.ρ b, o' + n.toNat * sz, none⟩)) from ⟨hb, rfl⟩)⟩
    simp [execOp, ho, hv', hn, Instr.indexAt, asIntOf, run_underlying hu, c1, c2, run_sizeOf he, addr_add, c3]
   ·simp at hs
  ·simp at hs
 ·simp at hs
theorem run_places {P : Program} {w : World} : ∀ {l : List Field} {pl : List (Nat × Nat)}, (l.map fun f => (P.info? f.type).map fun i => (f.offset, i.size)) = pl.map some →
  (l.mapM (m := Sem) fun f => do pure (f.offset, ← sizeOf f.type)).run P w = .ok pl w
 | [], [], _ => by simp
 | [], _ :: _, h => by simp at h
 | _ :: _, [], h => by simp at h
 | f :: l, p :: pl, h => by
  simp only [List.map_cons, List.cons.injEq] at h
  obtain ⟨h1, h2⟩ := h
  have ih := run_places (P := P) (w := w) h2
  cases hi : P.info? f.type with
  | none => rw [hi] at h1; simp at h1
  | some i =>
   rw [hi] at h1
   simp only [Option.map_some, Option.some.injEq] at h1
   rw [List.mapM_cons]
   simp only [Sem.run_bind, run_sizeOf hi, Result.andThen_ok, Sem.run_pure, ih, h1]
theorem op_build (hT : TR m tm t) (H : HR m base lvl h w) {o : Oper} {u : TypeId} {ps : Array (Nat × Operand)} (ho : o.op = .build u ps) (hs : opA E lvl tm h o.op = some (x, h')) :
  ∃ y w' m', Does E.P t o w y w' ∧ Post m base lvl w x h' y w' m' := by
 rw [ho] at hs
 simp only [opA] at hs
 have hparts := parts_sound hT ps.toList
 have hpl : (ps.map fun (i, x) => (i, evC t x)).toList = ps.toList.map fun p => (p.1, evC t p.2) := by simp
 split at hs
 ·rename_i z fs hz hu
  obtain ⟨i, v, hi, hv, rfl⟩ := zeroA_some hz
  split at hs
  ·rename_i pl hpls
   cases hf : fillA (getL pl) (v.cells.toList.map AC.v) (ps.toList.map fun p => (p.1, evA tm p.2)) with
   | none => rw [hf] at hs; simp at hs
   | some cs =>
    rw [hf] at hs
    simp only [Option.map_some, Option.some.injEq, Prod.mk.injEq] at hs
    obtain ⟨rfl, rfl⟩ := hs
    have hrun := run_places (P := E.P) (w := w) (allSome_eq hpls)
    obtain ⟨ds, hd, hr⟩ := fill_sound (fun k => (pl.toArray)[k]?) (getL pl) (fun k r hk => by rw [getL_eq] at hk; simpa using hk) _ _ _ _ _ hparts (all2_v m v.cells.toList) hf
    refine ⟨.agg ds, w, m, .inl ?_, Post.same H (show VR m _ (.agg ds) from ⟨ds, rfl, hr⟩)⟩
    have hm : (fs.mapM (m := Sem) fun f => do pure (f.offset, ← sizeOf f.type)).run E.P w = .ok pl.toArray w := by
     rw [Array.mapM_eq_mapM_toList]
     simp only [Sem.run_map, hrun, Result.andThen_ok]
    simp only [execOp, ho, Instr.build, zeroValue, Sem.run_bind, run_typeInfo hi, Result.andThen_ok, hv, Sem.run_pure, run_underlying hu, hm, hpl, hd]
  ·simp at hs
 ·rename_i z n el hz hu
  obtain ⟨i, v, hi, hv, rfl⟩ := zeroA_some hz
  split at hs
  ·rename_i e he
   cases hf : fillA (fun i => some (i * e.size, e.size)) (v.cells.toList.map AC.v) (ps.toList.map fun p => (p.1, evA tm p.2)) with
   | none => rw [hf] at hs; simp at hs
   | some cs =>
    rw [hf] at hs
    simp only [Option.map_some, Option.some.injEq, Prod.mk.injEq] at hs
    obtain ⟨rfl, rfl⟩ := hs
    obtain ⟨ds, hd, hr⟩ := fill_sound (fun i => some (i * e.size, e.size)) (fun i => some (i * e.size, e.size)) (fun k r hk => hk) _ _ _ _ _ hparts (all2_v m v.cells.toList) hf
    refine ⟨.agg ds, w, m, .inl ?_, Post.same H (show VR m _ (.agg ds) from ⟨ds, rfl, hr⟩)⟩
    simp only [execOp, ho, Instr.build, zeroValue, Sem.run_bind, run_typeInfo hi, Result.andThen_ok, hv, Sem.run_pure, run_underlying hu, run_sizeOf he, hpl, hd]
  ·simp at hs
 ·simp at hs
theorem repeatC_get (l : List AC) : ∀ n i : Nat, (repeatC l n)[i]? = if i < n * l.length then l[i % l.length]? else none := by
 intro n
 induction n with
 | zero => intro i; simp [repeatC]
 | succ n ih =>
  intro i
  show (l ++ repeatC l n)[i]? = _
  rw [List.getElem?_append]
  split
  ·rename_i h
   rw [if_pos (by rw [Nat.add_mul]; omega), Nat.mod_eq_of_lt h]
  ·rename_i h
   rw [ih]
   have e : (i - l.length) % l.length = i % l.length := (Nat.mod_eq_sub_mod (by omega)).symm
   rw [e]
   have e2 : (n + 1) * l.length = n * l.length + l.length := by rw [Nat.add_mul]; omega
   rw [e2]
   by_cases h2 : i - l.length < n * l.length
   ·rw [if_pos h2, if_pos (by omega)]
   ·rw [if_neg h2, if_neg (by omega)]
theorem repeatC_length (l : List AC) : ∀ n, (repeatC l n).length = n * l.length := by
 intro n
 induction n with
 | zero => simp [repeatC]
 | succ n ih => show (l ++ repeatC l n).length = _; rw [List.length_append, ih, Nat.add_mul]; omega
theorem repeat_sound (m : M) (z : Array Value) (n k : Nat) (hk : k = n * z.size) : All2 (CR m) (repeatC (z.toList.map AC.v) n) ((Array.range k).map (z[· % z.size]!)).toList := by
  subst hk
  apply All2.of_get
  · rw [repeatC_length]; simp
  · intro i a b ha hb
    rw [repeatC_get] at ha
    split at ha
    · rename_i hi
      simp at hi
      have hz : 0 < z.size := by rcases Nat.eq_zero_or_pos z.size with h | h; · rw [h] at hi; simp at hi
                                 · exact h
      have hm : i % z.size < z.size := Nat.mod_lt _ hz
      simp [hi] at hb
      simp [hm] at ha
      subst ha
      subst hb
      simp [hm, CR]
    · simp at ha
theorem small_spec {n size bytes : Nat} (h : small n size bytes = true) : n ≤ 2000000 ∧ size ≤ 64 ∧ bytes ≤ 1024 := by
 simp only [small, Bool.and_eq_true, decide_eq_true_eq] at h
 exact ⟨h.1.1.1, h.1.1.2, h.1.2⟩
theorem small_cells {n size bytes : Nat} (h : small n size bytes = true) : n * size ≤ 16777216 := by
 simp only [small, Bool.and_eq_true, decide_eq_true_eq] at h
 exact h.2
theorem op_buildSlice (hT : TR m tm t) (H : HR m base lvl h w) {o : Oper} {u : TypeId} {len : Nat} {ps : Array (Nat × Operand)} (ho : o.op = .buildSlice u len ps) (hs : opA E lvl tm h o.op = some (x, h')) :
  ∃ y w' m', Does E.P t o w y w' ∧ Post m base lvl w x h' y w' m' := by
 rw [ho] at hs
 simp only [opA] at hs
 have hparts := parts_sound hT ps.toList
 have hpl : (ps.map fun (i, x) => (i, evC t x)).toList = ps.toList.map fun p => (p.1, evC t p.2) := by simp
 split at hs
 ·rename_i el hu
  split at hs
  ·rename_i e z he hz
   obtain ⟨i, v, hi, hv, rfl⟩ := zeroA_some hz
   have hie : i = e := by rw [he] at hi; simpa using hi.symm
   subst hie
   split at hs
   ·rename_i hc
    obtain ⟨hsm, hzl⟩ := hc
    obtain ⟨s1, s2, s3⟩ := small_spec hsm
    rw [lenL_eq] at hzl
    have hzs : v.cells.size = i.size := by simpa using hzl
    cases hf : fillA (fun k => some (k * i.size, i.size)) (repeatC (v.cells.toList.map AC.v) len) (ps.toList.map fun p => (p.1, evA tm p.2)) with
    | none => rw [hf] at hs; simp at hs
    | some cs =>
     rw [hf] at hs
     simp only [Option.map_some, Option.some.injEq, Prod.mk.injEq] at hs
     obtain ⟨rfl, rfl⟩ := hs
     let z0 : Array Value := if len * i.size = 0 then #[] else v.cells
     have hrel : All2 (CR m) (repeatC (v.cells.toList.map AC.v) len) ((Array.range (len * i.size)).map (z0[· % z0.size]!)).toList := by
      by_cases h0 : len * i.size = 0
      ·have e1 : repeatC (v.cells.toList.map AC.v) len = [] := by
        apply List.eq_nil_of_length_eq_zero
        rw [repeatC_length]; simp; rw [hzs]; simpa using h0
       rw [e1, h0]
       simp [All2]
      ·have e1 : z0 = v.cells := by simp only [z0, h0, if_false]
       rw [e1]
       exact repeat_sound m v.cells len _ (by rw [hzs])
     obtain ⟨ds, hd, hr⟩ := fill_sound (fun k => some (k * i.size, i.size)) (fun k => some (k * i.size, i.size)) (fun k r hk => hk) _ _ _ _ _ hparts hrel hf
     have hdlen : ds.size = len * i.size := by
      have h1 := hr.length
      have h2 : ∀ (ps : List (Nat × AV)) (cs out : List AC), fillA (fun k => some (k * i.size, i.size)) cs ps = some out → out.length = cs.length := by
       intro ps
       induction ps with
       | nil => intro cs out hh; simp [fillA] at hh; rw [hh]
       | cons p ps ih =>
        intro cs out hh
        obtain ⟨k, a⟩ := p
        cases a with
        | tup l => simp [fillA] at hh
        | e a =>
         simp only [fillA] at hh
         split at hh
         ·split at hh
          ·simp at hh
          ·rw [ih _ _ hh, overL_length]
         ·simp at hh
      have h3 := h2 _ _ _ hf
      rw [repeatC_length] at h3
      simp at h1 h3
      rw [hzs] at h3
      omega
     have hlen := hr.length
     refine ⟨.slice (some ⟨w.heap.size, 0, none⟩) len len, w.alloc (.cells ds el), m.push w.heap.size ds.size, .inl ?_, M.le_push _ _ _, ?_, ?_, (Below.refl _ _).alloc H.baseLe _⟩
     ·have hcap : ¬ (len * i.size > 2 ^ 24) := by
       have : len * i.size ≤ 16777216 := small_cells hsm
       omega
      simp only [execOp, ho, Instr.buildSlice, Sem.run_bind, run_underlying hu, Result.andThen_ok, run_sizeOf hi, hcap, if_false]
      by_cases h0 : len * i.size = 0
      ·have e1 : z0 = #[] := by simp only [z0, h0, if_true]
       rw [e1] at hd
       rw [h0] at hd
       simp only [h0, if_true, pure_bind, hpl, hd]
       simp [newRow]
      ·have e1 : z0 = v.cells := by simp only [z0, h0, if_false]
       rw [e1] at hd
       simp only [h0, if_false, zeroValue, bind_assoc, pure_bind, Sem.run_bind, run_typeInfo hi, Result.andThen_ok, hv, Sem.run_pure, hpl, hd]
       simp [newRow]
     ·show CR _ (.slc (lenL h) 0 len i.size len true) _
      refine ⟨?_, len, 0, ?_, .inl rfl, Nat.le_refl _, Nat.le_refl _, by unfold maxLen; omega, ?_, fun _ => rfl⟩
      ·rw [lenL_eq, ← H.n]; simp
      ·rw [lenL_eq, ← H.n, M.push_ρ]
      ·rw [lenL_eq, ← H.n, M.push_κ, hdlen]; omega
     ·rw [appL_eq]
      refine H.new (c := ds) (t := el) (fz := (0, 0)) rfl (by simp at hlen; omega) (fun _ => by omega) (by omega) (.inl rfl) ?_
      rw [List.take_of_length_le (by simp; omega)]
      exact hr
   ·simp at hs
  ·simp at hs
 ·simp at hs
end ops
end Go.Ev
end
section
namespace Go.Ev
open Go.RowKit
section ops
variable {E : Env} {m : M} {base lvl : Nat} {h h' : Heap} {w : World} {tm : Tm} {t : Array Value} {x : AV}
theorem newRow_sound (H : HR m base lvl h w) {w' : World} {c : Array Value} {el : TypeId} {fz : Nat × Nat} (hw : w'.heap = w.heap.push (.cells c el fz)) (hB : Below base w w') {cells : List AC} {n : Nat} {full : Bool}
  (hn : cells.length = n) (hf : full = true → n = c.size) (hle : n ≤ c.size) (hz : FzOk c.size fz) (hr : All2 (CR m) cells (c.toList.take n))
  {len cap sz capA : Nat} {ex : Bool} (h1 : len ≤ capA) (h1' : capA ≤ cap) (h2 : cap ≤ maxLen) (h3 : cap * sz ≤ c.size) (h4 : ex = true → cap = capA) :
  Post m base lvl w (.e (.one (.slc (lenL h) 0 len sz capA ex))) (appL h [some ⟨cells, n, el, full, .cells⟩]) (.slice (some ⟨w.heap.size, 0, none⟩) len cap) w' (m.push w.heap.size c.size) := by
 refine ⟨M.le_push _ _ _, ?_, ?_, hB⟩
 ·show CR (m.push w.heap.size c.size) (.slc (lenL h) 0 len sz capA ex) _
  refine ⟨?_, cap, 0, ?_, .inl rfl, h1, h1', h2, ?_, h4⟩
  ·rw [lenL_eq, ← H.n]; simp
  ·rw [lenL_eq, ← H.n, M.push_ρ]
  ·rw [lenL_eq, ← H.n, M.push_κ]; omega
 ·rw [appL_eq]
  exact H.new hw hn hf hle hz hr
theorem op_makeSlice (hT : TR m tm t) (H : HR m base lvl h w) {o : Oper} {u : TypeId} {a c : Operand} (ho : o.op = .makeSlice u a c) (hs : opA E lvl tm h o.op = some (x, h')) :
  ∃ y w' m', Does E.P t o w y w' ∧ Post m base lvl w x h' y w' m' := by
 rw [ho] at hs
 simp only [opA] at hs
 split at hs
 ·rename_i el k1 n k2 c2 hu hn hc
  split at hs
  ·rename_i e z he hz
   obtain ⟨i, v, hi, hv, rfl⟩ := zeroA_some hz
   have hie : i = e := by rw [he] at hi; simpa using hi.symm
   subst hie
   split at hs
   ·rename_i hcond
    obtain ⟨c0, c1, hsm, hzl, _⟩ := hcond
    obtain ⟨s1, s2, s3⟩ := small_spec hsm
    rw [lenL_eq] at hzl
    have hzs : v.cells.size = i.size := by simpa using hzl
    simp only [Option.some.injEq, Prod.mk.injEq] at hs
    obtain ⟨rfl, rfl⟩ := hs
    have e1 := intOf_sound (evA_sound hT a) hn
    have e2 := intOf_sound (evA_sound hT c) hc
    have hcells : c2.toNat * i.size ≤ 16777216 := small_cells hsm
    have hbytes : (i.bytes : Int) * c2 ≤ 281474976710656 := by
     have h1 : i.bytes * c2.toNat ≤ 1024 * 2000000 := Nat.mul_le_mul s3 s1
     have h2 : ((i.bytes * c2.toNat : Nat) : Int) = (i.bytes : Int) * c2 := by rw [Int.natCast_mul, Int.toNat_of_nonneg (by omega)]
     omega
    have hr := run_makeSlice (P := E.P) w u el i v hu hi hv k1 k2 n c2 c0 c1 hcells hbytes (by omega)
    refine ⟨_, _, _, .inl ?_, newRow_sound (c := madeCells v.cells (c2.toNat * i.size)) (fz := (0, 0)) (len := n.toNat) (cap := c2.toNat) (sz := i.size) (capA := c2.toNat) (ex := true) H rfl ((Below.refl _ _).alloc H.baseLe _) ?_ (fun _ => ?_) ?_ (.inl rfl) ?_ (by omega) (Nat.le_refl _) (by unfold maxLen; omega) ?_ (fun _ => rfl)⟩
    ·simp only [execOp, ho, e1, e2, Sem.run_bind, hr, Result.andThen_ok, Sem.run_pure]
    ·rw [repeatC_length]; simp [hzs]
    ·simp [size_madeCells]
    ·simp [size_madeCells]
    ·rw [List.take_of_length_le (by simp [size_madeCells])]
     exact repeat_sound m v.cells c2.toNat _ (by rw [hzs])
    ·simp [size_madeCells]
   ·simp at hs
  ·simp at hs
 ·simp at hs
theorem op_s2ap (hT : TR m tm t) (H : HR m base lvl h w) {o : Oper} {u : TypeId} {a : Operand} (ho : o.op = .sliceToArrayPointer u a) (hs : opA E lvl tm h o.op = some (x, h')) :
  ∃ y w' m', Does E.P t o w y w' ∧ Post m base lvl w x h' y w' m' := by
 rw [ho] at hs
 simp only [opA] at hs
 split at hs
 ·rename_i n el b off len sz cap ex hu ha
  split at hs
  ·rename_i hn'
   obtain ⟨hn, hn0⟩ := hn'
   simp only [Option.some.injEq, Prod.mk.injEq] at hs
   obtain ⟨rfl, rfl⟩ := hs
   have hv := evA_sound hT a
   rw [ha] at hv
   obtain ⟨hb, cc, o', hv', h0, h1, h1', _⟩ : CR m (.slc b off len sz cap ex) (evC t a) := hv
   obtain rfl : o' = off := by rcases h0 with h0 | h0 <;> omega
   refine ⟨_, w, m, .inl ?_, Post.same H (show VR m _ (.pointer (some ⟨m.ρ b, o', none⟩)) from ⟨hb, rfl⟩)⟩
   simp [execOp, ho, hv', Instr.arrayAt, run_underlying hu, show ¬ len < n by omega]
  ·simp at hs
 ·simp at hs
theorem AV.ce_sound {m : M} {a : AV} {e : CE} {y : Value} (h : a.ce? = some e) (hr : VR m a y) : CE.R m e y := by
 unfold AV.ce? at h
 split at h
 ·split at h
  ·rename_i c hc
   simp at h; subst h
   exact AC.ca_sound hc hr
  ·simp at h
 ·split at h
  ·rename_i cs hc
   simp at h; subst h
   obtain ⟨vs, hy, ha⟩ := hr
   exact ⟨vs, hy, ca_all (allSome_eq hc) ha⟩
  ·simp at h
 ·simp at h
theorem ces_sound (hT : TR m tm t) : ∀ (os : List Operand) (es : List CE), (os.map fun c => (evA tm c).ce?) = es.map some → All2 (CE.R m) es (os.map (evC t))
 | [], [], _ => trivial
 | o :: os, e :: es, h => by
  simp only [List.map_cons, List.cons.injEq] at h
  exact ⟨AV.ce_sound h.1 (evA_sound hT o), ces_sound hT os es h.2⟩
 | [], _ :: _, h => by simp at h
 | _ :: _, [], h => by simp at h
theorem op_makeFunc (hT : TR m tm t) (H : HR m base lvl h w) {o : Oper} {f : FuncId} {first caps : Array Operand} (ho : o.op = .makeFunc (.func f) first caps) (hs : opA E lvl tm h o.op = some (x, h')) :
  ∃ y w' m', Does E.P t o w y w' ∧ Post m base lvl w x h' y w' m' := by
 rw [ho] at hs
 simp only [opA] at hs
 split at hs
 ·rename_i fs cs hf hc
  simp only [Option.some.injEq, Prod.mk.injEq] at hs
  obtain ⟨rfl, rfl⟩ := hs
  refine ⟨.func (.func f) (first.map (evC t)) (caps.map (evC t)), w, m, .inl ?_, Post.same H (show CR m (.clo f fs cs) _ from ⟨_, _, rfl, ?_, ?_⟩)⟩
  ·simp [execOp, ho, Instr.makeFunc]
  ·rw [Array.toList_map]; exact ces_sound hT _ _ (allSome_eq hf)
  ·rw [Array.toList_map]; exact ces_sound hT _ _ (allSome_eq hc)
 ·simp at hs
theorem intN_sound {m : M} {a : AV} {y : Value} {n : Int} (h : VR m a y) (hi : intN? a = some n) : ∃ k, y = .int k n := by
 unfold intN? at hi
 split at hi
 ·simp only [Option.some.injEq] at hi
  subst hi
  exact ⟨_, h⟩
 ·simp at hi
theorem bounds_sound (hT : TR m tm t) {isSlice : Bool} {len cap l u : Nat} {lo hi : Option Operand} {cap' : Nat} (hc : cap ≤ cap') (hlen : hi = none → len ≤ cap')
  (hs : sliceBoundsA len cap (lo.map (evA tm)) (hi.map (evA tm)) = some (l, u)) : ((Instr.sliceBounds isSlice len cap' (lo.map (evC t)) (hi.map (evC t)) none).run E.P w = .ok (l, u, cap') w ∧ u ≤ cap) ∧ l ≤ u ∧ u ≤ cap' := by
 unfold sliceBoundsA at hs
 split at hs
 ·rename_i hh ll e1 e2
  split at hs
  ·rename_i hcond
   simp only [Option.some.injEq, Prod.mk.injEq] at hs
   obtain ⟨rfl, rfl⟩ := hs
   refine ⟨⟨?_, by omega⟩, by omega, by omega⟩
   have hhn : ((hh.toNat : Nat) : Int) = hh := Int.toNat_of_nonneg (by omega)
   cases hi with
   | none =>
    simp at e1
    cases lo with
    | none => simp at e2; subst e2; subst e1; simp [Instr.sliceBounds]
    | some lo =>
     simp only [Option.map_some] at e2
     obtain ⟨k, hk⟩ := intN_sound (evA_sound hT lo) e2
     subst e1
     simp [Instr.sliceBounds, hk, run_sliceBound, hcond.1, hcond.2.1]
   | some hi =>
    simp only [Option.map_some] at e1
    obtain ⟨k1, hk1⟩ := intN_sound (evA_sound hT hi) e1
    cases lo with
    | none =>
     simp at e2; subst e2
     simp [Instr.sliceBounds, hk1, run_sliceBound, show 0 ≤ hh by omega, show hh ≤ (cap' : Int) by omega]
    | some lo =>
     simp only [Option.map_some] at e2
     obtain ⟨k, hk⟩ := intN_sound (evA_sound hT lo) e2
     simp [Instr.sliceBounds, hk, hk1, run_sliceBound, show 0 ≤ hh by omega, show hh ≤ (cap' : Int) by omega, hcond.1, hhn, hcond.2.1]
  ·simp at hs
 ·simp at hs
theorem sliceA_sound (hT : TR m tm t) (H : HR m base lvl h w) {o : Oper} {u : TypeId} {a : Operand} {lo hi : Option Operand} (ho : o.op = .slice u a lo hi none) (hs : sliceA E tm h u (evA tm a) lo hi = some (x, h')) :
  ∃ y w' m', Does E.P t o w y w' ∧ Post m base lvl w x h' y w' m' := by
 unfold sliceA at hs
 have hv := evA_sound hT a
 split at hs
 ·rename_i n el b off hu ha
  rw [ha] at hv
  obtain ⟨hb, hv'⟩ : b < m.n ∧ evC t a = _ := hv
  split at hs
  ·rename_i e ab l r he hblk hbd
   split at hs
   ·rename_i hfit'
    obtain ⟨hfit, hn5⟩ := hfit'
    simp only [Option.some.injEq, Prod.mk.injEq] at hs
    obtain ⟨rfl, rfl⟩ := hs
    obtain ⟨h1, h2, h3⟩ := bounds_sound (E := E) (w := w) (isSlice := false) hT (Nat.le_refl n) (fun _ => Nat.le_refl n) hbd
    obtain ⟨_, _, cc, _, _, g4, _, g6, _⟩ := H.blk b ab (blk_eq hblk) (blk_ext hblk)
    refine ⟨.slice (some (if n = l then ⟨m.ρ b, off, none⟩ else (⟨m.ρ b, off, none⟩ : Addr).add (l * e.size))) (r - l) (n - l), w, m, .inl ?_, Post.same H ?_⟩
    ·simp [execOp, ho, hv', Instr.sliceAt, run_underlying hu, Instr.sureAddr, h1.1, run_sizeOf he]
    ·show CR m (.slc b (off + l * e.size) (r - l) e.size (n - l) true) _
     have hmul : l * e.size + (n - l) * e.size = n * e.size := by rw [← Nat.add_mul]; congr 1; omega
     by_cases hnl : n = l
     ·refine ⟨hb, n - l, off, by simp [hnl], .inr (by omega), by omega, Nat.le_refl _, ?_, by omega, fun _ => rfl⟩
      unfold maxLen; omega
     ·refine ⟨hb, n - l, off + l * e.size, by simp [hnl, addr_add], .inl rfl, by omega, Nat.le_refl _, by unfold maxLen; omega, by omega, fun _ => rfl⟩
   ·simp at hs
  ·simp at hs
 ·rename_i el b off len sz cap ex hu ha
  rw [ha] at hv
  obtain ⟨hb, cc, o', hv', g0, g1, g1', g2, g3, g4⟩ : CR m (.slc b off len sz cap ex) (evC t a) := hv
  split at hs
  ·rename_i e l r he hbd
   split at hs
   ·rename_i hsz
    simp only [Option.some.injEq, Prod.mk.injEq] at hs
    obtain ⟨rfl, rfl⟩ := hs
    obtain ⟨h1, h2, h3⟩ := bounds_sound (E := E) (w := w) (isSlice := true) hT g1' (fun _ => by omega) hbd
    refine ⟨.slice (if cc = l then some ⟨m.ρ b, o', none⟩ else some ((⟨m.ρ b, o', none⟩ : Addr).add (l * e.size))) (r - l) (cc - l), w, m, .inl ?_, Post.same H ?_⟩
    ·simp [execOp, ho, hv', Instr.sliceAt, Instr.slice, run_underlying hu, h1.1, run_sizeOf he]
    ·show CR m (.slc b (off + l * sz) (r - l) sz (cap - l) ex) _
     have hmul : l * sz + (cc - l) * sz = cc * sz := by rw [← Nat.add_mul]; congr 1; omega
     have hcap : ex = true → cc - l = cap - l := fun hx => by rw [g4 hx]
     by_cases hnl : cc = l
     ·exact ⟨hb, cc - l, o', by simp [hnl], .inr (by omega), by omega, by omega, by omega, by omega, hcap⟩
     ·obtain rfl : o' = off := by rcases g0 with g0 | g0 <;> omega
      exact ⟨hb, cc - l, o' + l * sz, by simp [hnl, addr_add, hsz], .inl rfl, by omega, by omega, by omega, by omega, hcap⟩
   ·simp at hs
  ·simp at hs
 ·simp at hs
theorem bounds3_sound (hT : TR m tm t) {len cap l u cap' : Nat} {mm : Int} {lo hi : Option Operand} {mx : Operand} (hc : cap ≤ cap') (hsome : hi.isSome = true) (hm : intN? (evA tm mx) = some mm) (hu : (u : Int) ≤ mm) (hmc : mm ≤ cap)
  (hs : sliceBoundsA 0 cap (lo.map (evA tm)) (hi.map (evA tm)) = some (l, u)) : (Instr.sliceBounds true len cap' (lo.map (evC t)) (hi.map (evC t)) (some (evC t mx))).run E.P w = .ok (l, u, mm.toNat) w ∧ l ≤ u := by
 unfold sliceBoundsA at hs
 split at hs
 ·rename_i hh ll e1 e2
  split at hs
  ·rename_i hcond
   simp only [Option.some.injEq, Prod.mk.injEq] at hs
   obtain ⟨rfl, rfl⟩ := hs
   refine ⟨?_, by omega⟩
   have hhn : ((hh.toNat : Nat) : Int) = hh := Int.toNat_of_nonneg (by omega)
   have hmn : ((mm.toNat : Nat) : Int) = mm := Int.toNat_of_nonneg (by omega)
   obtain ⟨k0, hk0⟩ := intN_sound (evA_sound hT mx) hm
   cases hi with
   | none => simp at hsome
   | some hi =>
    simp only [Option.map_some] at e1
    obtain ⟨k1, hk1⟩ := intN_sound (evA_sound hT hi) e1
    cases lo with
    | none =>
     simp at e2; subst e2
     simp [Instr.sliceBounds, hk0, hk1, run_sliceBound, show 0 ≤ hh by omega, show 0 ≤ mm by omega, show mm ≤ (cap' : Int) by omega, hmn, show hh ≤ mm by omega]
    | some lo =>
     simp only [Option.map_some] at e2
     obtain ⟨k, hk⟩ := intN_sound (evA_sound hT lo) e2
     simp [Instr.sliceBounds, hk, hk0, hk1, run_sliceBound, show 0 ≤ hh by omega, show 0 ≤ mm by omega, show mm ≤ (cap' : Int) by omega, hmn, show hh ≤ mm by omega, hcond.1, hhn, hcond.2.1]
  ·simp at hs
 ·simp at hs
theorem sliceA3_sound (hT : TR m tm t) (H : HR m base lvl h w) {o : Oper} {u : TypeId} {a : Operand} {lo hi : Option Operand} {mx : Operand} (ho : o.op = .slice u a lo hi (some mx)) (hs : sliceA3 E tm h u (evA tm a) lo hi mx = some (x, h')) :
  ∃ y w' m', Does E.P t o w y w' ∧ Post m base lvl w x h' y w' m' := by
 unfold sliceA3 at hs
 have hv := evA_sound hT a
 split at hs
 ·rename_i el b off len sz cap ex hu ha
  rw [ha] at hv
  obtain ⟨hb, cc, o', hv', g0, g1, g1', g2, g3, g4⟩ : CR m (.slc b off len sz cap ex) (evC t a) := hv
  split at hs
  ·rename_i e mm l r he hmm hbd
   split at hs
   ·rename_i hcond
    obtain ⟨hsz, hsome, hrm, hmc⟩ := hcond
    simp only [Option.some.injEq, Prod.mk.injEq] at hs
    obtain ⟨rfl, rfl⟩ := hs
    obtain ⟨h1, h2⟩ := bounds3_sound (E := E) (w := w) (len := len) hT g1' hsome hmm hrm hmc hbd
    have hmn : ((mm.toNat : Nat) : Int) = mm := Int.toNat_of_nonneg (by omega)
    refine ⟨.slice (if mm.toNat = l then some ⟨m.ρ b, o', none⟩ else some ((⟨m.ρ b, o', none⟩ : Addr).add (l * e.size))) (r - l) (mm.toNat - l), w, m, .inl ?_, Post.same H ?_⟩
    ·simp [execOp, ho, hv', Instr.sliceAt, Instr.slice, run_underlying hu, h1, run_sizeOf he]
    ·show CR m (.slc b (off + l * sz) (r - l) sz (mm.toNat - l) true) _
     have hle : mm.toNat ≤ cc := by omega
     have hmul : l * sz + (mm.toNat - l) * sz = mm.toNat * sz := by rw [← Nat.add_mul]; congr 1; omega
     have hmul2 : mm.toNat * sz ≤ cc * sz := Nat.mul_le_mul_right _ hle
     by_cases hnl : mm.toNat = l
     ·exact ⟨hb, mm.toNat - l, o', by simp [hnl], .inr (by omega), by omega, Nat.le_refl _, by omega, by omega, fun _ => rfl⟩
     ·obtain rfl : o' = off := by rcases g0 with g0 | g0 <;> omega
      exact ⟨hb, mm.toNat - l, o' + l * sz, by simp [hnl, addr_add, hsz], .inl rfl, by omega, Nat.le_refl _, by omega, by omega, fun _ => rfl⟩
   ·simp at hs
  ·simp at hs
 ·simp at hs
end ops
end Go.Ev
end
section
namespace Go.Ev
open Go.RowKit
theorem alive_set {h : Heap} {b k : Nat} {a' : AB} (hk : (h.set b none)[k]? = some (some a')) : h[k]? = some (some a') ∧ k ≠ b := by
 rw [List.getElem?_set] at hk
 by_cases e : b = k
 ·subst e
  by_cases hl : b < h.length <;> simp [hl] at hk
 ·simp only [e, if_false] at hk
  exact ⟨hk, fun e' => e e'.symm⟩
section ops
variable {E : Env} {m : M} {base lvl : Nat} {h h' : Heap} {w : World} {tm : Tm} {t : Array Value} {x : AV}
theorem HR.add (H : HR m base lvl h w) {r : Nat} {c : Array Value} {u : TypeId} {fz : Nat × Nat} (hr : w.heap[r]? = some (.cells c u fz)) (hbr : base ≤ r) (hne : ∀ (b : Nat) (a : AB), h[b]? = some (some a) → m.ρ b ≠ r) (hnt : ∀ p ∈ m.F, r ≠ p.1)
  {cells : List AC} {n : Nat} {full : Bool} (hn : cells.length = n) (hf : full = true → n = c.size) (hle : n ≤ c.size) (hz : FzOk c.size fz)
  (ha : All2 (CR m) cells (c.toList.take n)) : HR (m.push r c.size) base lvl (h ++ [some ⟨cells, n, u, full, .cells⟩]) w := by
 have hm := H.n
 refine ⟨by simp [hm], by have := H.lvlLe; simp; omega, H.baseLe, ?_, ?_, ?_, H.lo, ?_⟩
 ·intro b a hb
  rw [List.getElem?_append] at hb
  split at hb
  ·rename_i hlt
   exact (H.ent b a hb).mono (M.le_push m r c.size) (by omega)
  ·rename_i hge
   have hb0 : b - h.length = 0 := by
    rcases Nat.eq_zero_or_pos (b - h.length) with h0 | h0
    ·exact h0
    ·rw [List.getElem?_eq_none (by simp; omega)] at hb; simp at hb
   rw [hb0] at hb
   simp at hb
   subst hb
   have hbn : b = m.n := by omega
   subst hbn
   exact ⟨fun _ => ⟨hn, fun hh => by rw [M.push_κ]; exact hf hh, c, fz, by rw [M.push_ρ]; exact hr, by rw [M.push_κ], fun _ => hz, hle, ha.imp fun _ _ => CR.mono (M.le_push m _ _)⟩, trivial⟩
 ·intro b h1 h2
  simp at h2
  by_cases hlt : b < m.n
  ·rw [(M.le_push m r c.size).ρ b hlt]
   exact H.own b h1 (by omega)
  ·have hbn : b = m.n := by omega
   subst hbn
   rw [M.push_ρ]
   exact hbr
 ·intro b b' h1 h2 ⟨a, ha⟩ ⟨a', ha'⟩ hlo he
  simp at h1 h2
  have key : ∀ (b : Nat) (a : AB), (h ++ [some ⟨cells, n, u, full, .cells⟩])[b]? = some (some a) → b < m.n → m.ρ b ≠ r ∧ h[b]? = some (some a) := by
   intro b a hb hlt
   rw [List.getElem?_append, if_pos (by omega)] at hb
   exact ⟨hne b a hb, hb⟩
  by_cases hb : b < m.n <;> by_cases hb' : b' < m.n
  ·rw [(M.le_push m r c.size).ρ b hb, (M.le_push m r c.size).ρ b' hb'] at he
   exact H.inj b b' (by omega) (by omega) ⟨a, (key b a ha hb).2⟩ ⟨a', (key b' a' ha' hb').2⟩ hlo he
  ·have : b' = m.n := by omega
   subst this
   rw [(M.le_push m r c.size).ρ b hb, M.push_ρ] at he
   exact absurd he (key b a ha hb).1
  ·have : b = m.n := by omega
   subst this
   rw [(M.le_push m r c.size).ρ b' hb', M.push_ρ] at he
   exact absurd he.symm (key b' a' ha' hb').1
  ·omega
 ·intro p hp
  refine ⟨(H.tab p hp).1, fun b a hb ha => ?_⟩
  rw [List.getElem?_append] at ha
  split at ha
  ·rename_i hlt'
   rw [(M.le_push m r c.size).ρ b (by omega)]
   exact (H.tab p hp).2 b a hb ha
  ·rename_i hge
   have hb0 : b - h.length = 0 := by
    rcases Nat.eq_zero_or_pos (b - h.length) with h0 | h0
    ·exact h0
    ·rw [List.getElem?_eq_none (by simp; omega)] at ha; simp at ha
   have hbn : b = m.n := by omega
   subst hbn
   rw [M.push_ρ]
   exact hnt p hp
theorem srcCells_sound (H : HR m base lvl h w) {x : AV} {y : Value} {sz n : Nat} {xs : List AC} (hy : VR m x y) (hs : srcCells h sz n x = some xs) :
  ∃ ad len c ys, y = .slice (some ad) len c ∧ n ≤ len ∧ ys.length = n * sz ∧ (∀ j v, ys[j]? = some v → w.cell? (ad.add j) = some v) ∧ All2 (CR m) xs ys := by
 unfold srcCells at hs
 split at hs
 ·rename_i b o len sz' cap ex
  split at hs
  ·rename_i hc
   obtain ⟨rfl, hn⟩ := hc
   split at hs
   ·rename_i a hb
    obtain ⟨hbn, cc, o', rfl, g0, g1, g1', _⟩ : CR m (.slc b o len sz' cap ex) y := hy
    obtain ⟨hlen, rfl⟩ := takeL_some hs
    rw [dropL_eq] at hlen ⊢
    obtain ⟨b1, b2, c, fz, b3, b4, b5, b6, b7⟩ := H.blk b a (blk_eq hb) (blk_ext hb)
    have ha := (b7.drop o).take (n * sz')
    have hl := ha.length
    refine ⟨_, len, cc, _, rfl, hn, ?_, ?_, ha⟩
    ·rw [← hl]; simp at hlen ⊢; omega
    ·intro j v hj
     have hjlt := (List.getElem?_eq_some_iff.1 hj).1
     have hpos : 0 < n := by
      rcases Nat.eq_zero_or_pos n with h0 | h0
      ·subst h0; simp at hjlt
      ·exact h0
     obtain rfl : o' = o := by rcases g0 with g0 | g0 <;> omega
     rw [addr_add, cell_of_row w _ _ c a.elem fz b3]
     rw [List.getElem?_take] at hj
     split at hj
     ·rw [List.getElem?_drop, List.getElem?_take] at hj
      split at hj
      ·simpa using hj
      ·simp at hj
     ·simp at hj
   ·simp at hs
  ·simp at hs
 ·rename_i cells len sz'
  split at hs
  ·rename_i hc
   obtain ⟨rfl, hn, h0⟩ := hc
   have hy : DT.R m.F (.s cells len sz') y := hy
   simp only [DT.R] at hy
   rcases hy with ⟨h0', _⟩ | ⟨_, b, o, c, cs, rfl, g1, g2, g3, g4, g5, g6⟩
   ·omega
   ·obtain ⟨hlen, rfl⟩ := takeL_some hs
    obtain ⟨⟨cc, t', fz, k1, k2⟩, _⟩ := H.tab _ g3
    have k2 : cc.toList = cs := k2
    have ha := (DT.Rl.ac g6).take (n * sz')
    have hl := ha.length
    refine ⟨_, len, c, _, rfl, hn, ?_, ?_, ha⟩
    ·rw [← hl]; simp at hlen ⊢; omega
    ·intro j v hj
     rw [addr_add, cell_of_row w _ _ cc t' fz k1]
     rw [List.getElem?_take] at hj
     split at hj
     ·rw [List.getElem?_take] at hj
      split at hj
      ·rw [List.getElem?_drop, ← k2] at hj
       simpa using hj
      ·simp at hj
     ·simp at hj
  ·simp at hs
 ·simp at hs
theorem grow_sound (H : HR m base lvl h w) {el : TypeId} {i : TypeInfo} {z : Value} (hzs : z.cells.size = i.size)
  {len n cap : Nat} {olds news : List Value} {xo xn : List AC} (hlo : olds.length = len * i.size) (hln : news.length = n * i.size) (ho : All2 (CR m) xo olds) (hn : All2 (CR m) xn news) (hsm : small (len + n) i.size i.bytes = true) {k : Nat} (hk : k = (len + n) * i.size) :
  Post m base lvl w (.e (.one (.slc (lenL h) 0 (len + n) i.size (len + n) false))) (appL h [some ⟨appL xo xn, k, el, false, .cells⟩]) (.slice (some ⟨w.heap.size, 0, none⟩) (len + n) (grownCap w (len + n) cap el))
   (w.drew.alloc (.cells (olds.toArray ++ news.toArray ++ Builtin.zeroCells z.cells (grownCap w (len + n) cap el - (len + n))) el)) (m.push w.heap.size (olds.toArray ++ news.toArray ++ Builtin.zeroCells z.cells (grownCap w (len + n) cap el - (len + n))).size) := by
 obtain ⟨s1, s2, s3⟩ := small_spec hsm
 have hge := grownCap_ge w (len + n) cap el
 have hmx := grownCap_le_maxLen w (len + n) cap el (by unfold maxLen; omega)
 have hsize : (olds.toArray ++ news.toArray ++ Builtin.zeroCells z.cells (grownCap w (len + n) cap el - (len + n))).size = grownCap w (len + n) cap el * i.size := by
  simp only [Array.size_append, List.size_toArray, size_zeroCells, hzs, hlo, hln, ← Nat.add_mul]
  congr 1
  omega
 have hall := ho.append hn
 have hlen := hall.length
 refine newRow_sound H rfl (((Below.refl _ _).drew).alloc H.baseLe _) (fz := (0, 0)) ?_ (fun hh => by simp at hh) ?_ (.inl rfl) ?_ (Nat.le_refl _) hge hmx (by rw [hsize]; exact Nat.le_refl _) (fun hk => by simp at hk)
 ·rw [appL_eq, hlen, List.length_append, hlo, hln, ← Nat.add_mul, hk]
 ·rw [hsize, hk]; exact Nat.mul_le_mul_right _ hge
 ·rw [appL_eq, hk]
  have : (olds.toArray ++ news.toArray ++ Builtin.zeroCells z.cells (grownCap w (len + n) cap el - (len + n))).toList.take ((len + n) * i.size) = olds ++ news := by
   simp only [Array.toList_append]
   rw [List.take_append_of_le_length (by simp [hlo, hln, Nat.add_mul]), List.take_of_length_le (by simp [hlo, hln, Nat.add_mul])]
  rw [this]
  exact hall
theorem lenS_sound {x : AV} {y : Value} {n : Nat} (hy : VR m x y) (hs : lenS? x = some n) : ∃ a c, y = .slice a n c := by
 unfold lenS? at hs
 split at hs
 ·simp only [Option.some.injEq] at hs
  subst hs
  obtain ⟨_, c, o', rfl, _⟩ : CR m (.slc _ _ _ _ _ _) y := hy
  exact ⟨_, _, rfl⟩
 ·simp only [Option.some.injEq] at hs
  subst hs
  have hy : DT.R m.F (.s _ _ _) y := hy
  simp only [DT.R] at hy
  rcases hy with ⟨h0, p, c, rfl⟩ | ⟨_, b, o, c, cs, rfl, _⟩
  ·exact ⟨p, c, by rw [h0]⟩
  ·exact ⟨_, _, rfl⟩
 ·simp at hs
theorem appendA_sound (H : HR m base lvl h w) {u xu ty : TypeId} {s xv : AV} {ys yx : Value} (hys : VR m s ys) (hyx : VR m xv yx) (hs : appendA E lvl h u xu s xv = some (x, h')) :
  ∃ y w' m', (Builtin.append_ #[u, xu] ty #[ys, yx]).run E.P w = .ok y w' ∧ Post m base lvl w x h' y w' m' := by
 unfold appendA at hs
 split at hs
 ·rename_i el n hu hlS
  split at hs
  ·rename_i i z hi0 hz
   obtain ⟨i', v, hi, hv, rfl⟩ := zeroA_some hz
   have hie : i' = i := by rw [hi0] at hi; simpa using hi.symm
   subst hie
   split at hs
   ·rename_i hc
    obtain ⟨rfl, hpos, hzl⟩ := hc
    rw [lenL_eq] at hzl
    have hzs : v.cells.size = i'.size := by simpa using hzl
    split at hs
    ·rename_i xs hxs
     split at hs
     ·rename_i hone
      obtain ⟨ad, len', cx', news, rfl, hn, hnl, hnews, hrel⟩ := srcCells_sound H hyx hxs
      have hlen' : len' = n := by
       obtain ⟨_, _, e⟩ := lenS_sound hyx hlS
       simp only [Value.slice.injEq] at e
       exact e.2.1
      subst hlen'
      have hone' : ∀ v ∈ news, v.oneCell' = true := fun v hv => by
       obtain ⟨i, hi⟩ := List.getElem?_of_mem hv
       obtain ⟨x, hx, hxr⟩ := hrel.get' hi
       exact isOne_sound hxr (List.all_eq_true.1 hone x (List.mem_of_getElem? hx))
      split at hs
      ·-- nil
       have hys' : ys = .slice none 0 0 := hys
       subst hys'
       split at hs
       ·rename_i h0
        subst h0
        simp only [Option.some.injEq, Prod.mk.injEq] at hs
        obtain ⟨rfl, rfl⟩ := hs
        refine ⟨.slice none 0 0, w, m, ?_, Post.same H rfl⟩
        simp [Builtin.append_, run_underlying hu, sizeOf, typeInfo, hi, Builtin.lenOf, Builtin.firstCells, loadCells, loadCellsFrom]
       ·rename_i h0
        split at hs
        ·rename_i hsm
         obtain ⟨s1, s2, s3⟩ := small_spec hsm
         simp only [Option.some.injEq, Prod.mk.injEq] at hs
         obtain ⟨rfl, rfl⟩ := hs
         have hb48 : len' * i'.bytes ≤ 281474976710656 := by
          have : len' * i'.bytes ≤ 2000000 * 1024 := Nat.mul_le_mul s1 s3
          omega
         have hr := run_append_nil (P := E.P) w u ty el i' v hu hi hv ad len' cx' news hnl hnews (by omega) (by omega) hb48
         have hg := grow_sound (el := el) (len := 0) (n := len') (cap := 0) (olds := []) (xo := []) H hzs (by simp) hnl trivial hrel (by simpa using hsm) (k := len' * i'.size) (by simp)
         simp only [Nat.zero_add, appL_eq, List.nil_append, Array.empty_append] at hg
         rw [appL_eq]
         exact ⟨_, _, _, hr, hg⟩
        ·simp at hs
      ·-- a slice of the evaluator's
       rename_i b o len sz cap ex'
       split at hs
       ·rename_i hc2
        obtain ⟨rfl, hsm⟩ := hc2
        obtain ⟨s1, s2, s3⟩ := small_spec hsm
        split at hs
        ·rename_i a hb
         obtain ⟨hbn, cc, o', rfl, g0, g1, g1', g2, g3, g4⟩ : CR m (.slc b o len i'.size cap ex') ys := hys
         have hb' := blk_eq hb
         obtain ⟨b1, b2, c, fz, b3, b4, b5, b6, b7⟩ := H.blk b a hb' (blk_ext hb)
         have hbytes : Builtin.nextslicecap (len + len') cc * i'.bytes ≤ 281474976710656 ∨ len + len' ≤ cc := by
          by_cases hle : len + len' ≤ cc
          ·exact .inr hle
          ·left
           have h1 := nextslicecap_le (need := len + len') (old := cc) (by omega)
           have : Builtin.nextslicecap (len + len') cc * i'.bytes ≤ 4000000 * 1024 := Nat.mul_le_mul (by omega) s3
           omega
         -- in place
         have inPlace : ∀ (_ : lvl ≤ b) (_ : o' = o) (_ : len + len' ≤ cc) (_ : o + (len + len') * i'.size ≤ a.n),
           ∃ w', (Builtin.append_ #[u, u] ty #[.slice (some ⟨m.ρ b, o', none⟩) len cc, .slice (some ad) len' cx']).run E.P w = .ok (.slice (some ⟨m.ρ b, o, none⟩) (len + len') cc) w' ∧
            HR m base lvl (h.set b (some { a with cells := overL xs a.cells (o + len * i'.size) })) w' ∧ Below base w w' := by
          intro hl ho' hfit hroom
          subst ho'
          have hmul : (len + len') * i'.size = len * i'.size + len' * i'.size := Nat.add_mul _ _ _
          obtain ⟨w', hw, hH, hB⟩ := write_sound (E := E) (o := o' + len * i'.size) H hb' (blk_ext hb) hl hrel hone (by rw [hrel.length, hnl]; omega)
          refine ⟨w', ?_, hH, hB⟩
          have hf := run_firstCells_some (P := E.P) w i'.size len' ad len' cx' news hnl hnews
          simp [Builtin.append_, run_underlying hu, sizeOf, typeInfo, hi, Builtin.lenOf, hfit, hf, addr_add, hw]
         have holds : ∀ olds : List Value, olds = ((c.toList.take a.n).drop o).take (len * i'.size) → ∀ j v, olds[j]? = some v → w.cell? ((⟨m.ρ b, o', none⟩ : Addr).add j) = some v := by
          intro olds ho j v hj
          subst ho
          have hjlt := (List.getElem?_eq_some_iff.1 hj).1
          have hpos : 0 < len := by
           rcases Nat.eq_zero_or_pos len with h0 | h0
           ·subst h0; simp at hjlt
           ·exact h0
          obtain rfl : o' = o := by rcases g0 with g0 | g0 <;> omega
          rw [addr_add, cell_of_row w _ _ c a.elem fz b3]
          rw [List.getElem?_take] at hj
          split at hj
          ·rw [List.getElem?_drop, List.getElem?_take] at hj
           split at hj
           ·simpa using hj
           ·simp at hj
          ·simp at hj
         have grows : ∀ (olds : List Value) (_ : olds = ((c.toList.take a.n).drop o).take (len * i'.size)) (_ : olds.length = len * i'.size) (_ : cc < len + len'),
           (Builtin.append_ #[u, u] ty #[.slice (some ⟨m.ρ b, o', none⟩) len cc, .slice (some ad) len' cx']).run E.P w = .ok (.slice (some ⟨w.heap.size, 0, none⟩) (len + len') (grownCap w (len + len') cc el))
            (w.drew.alloc (.cells (olds.toArray ++ news.toArray ++ Builtin.zeroCells v.cells (grownCap w (len + len') cc el - (len + len'))) el)) := by
          intro olds ho hol hgt
          exact run_append_grow (P := E.P) w u ty el i' v hu hi hv ⟨m.ρ b, o', none⟩ len cc olds hol (holds olds ho) ad len' cx' news hnl hnews hgt (by omega) (hbytes.resolve_right (by omega))
         split at hs
         ·rename_i hfit
          split at hs
          ·rename_i hc3
           obtain ⟨hl, h0, hroom⟩ := hc3
           simp only [Option.some.injEq, Prod.mk.injEq] at hs
           obtain ⟨rfl, rfl⟩ := hs
           obtain rfl : o' = o := by rcases g0 with g0 | g0 <;> omega
           obtain ⟨w', hw, hH, hB⟩ := inPlace hl rfl (by omega) hroom
           refine ⟨_, w', m, hw, M.le.refl m, ?_, by rw [setL_eq]; exact hH, hB⟩
           exact ⟨hbn, cc, o', rfl, .inl rfl, hfit, g1', g2, g3, g4⟩
          ·split at hs
           ·rename_i hc4
            obtain ⟨hl, hm0, han, hel, hful⟩ := hc4
            simp only [Option.some.injEq, Prod.mk.injEq] at hs
            obtain ⟨rfl, rfl⟩ := hs
            obtain rfl : o' = o := by rcases g0 with g0 | g0 <;> omega
            have hbl : b < h.length := (List.getElem?_eq_some_iff.1 hb').1
            have hK := H.kill b
            have hfit2 : len + len' ≤ cc := by omega
            have hmul : (len + len') * i'.size = len * i'.size + len' * i'.size := Nat.add_mul _ _ _
            have hccm : (len + len') * i'.size ≤ cc * i'.size := Nat.mul_le_mul_right _ hfit2
            have hst := run_storeCells_fz (P := E.P) (m.ρ b) (o' + len * i'.size) a.elem fz news 0 c w b3 (by omega) (b5 (Nat.le_trans H.lo hl)).free hone'
            simp only [Nat.add_zero] at hst
            have hf := run_firstCells_some (P := E.P) w i'.size len' ad len' cx' news hnl hnews
            have hB := below_setRow (w := w) (c := (c.toList.take (o' + len * i'.size) ++ news ++ c.toList.drop (o' + len * i'.size + news.length)).toArray) (H.own b hl hbl)
            have hK2 : HR m base lvl (h.set b none) (w.setRow (m.ρ b) (c.toList.take (o' + len * i'.size) ++ news ++ c.toList.drop (o' + len * i'.size + news.length)).toArray) := by
             refine ⟨hK.n, hK.lvlLe, by simpa using hK.baseLe, fun k a' hk => ?_, hK.own, hK.inj, hK.lo, fun p hp => ⟨hK.tabs (fun q hq => setRow_other w _ _ _ fun e => (H.tab q hq).2 b a hl hb' e.symm) p hp, (hK.tab p hp).2⟩⟩
             refine (hK.ent k a' hk).world (setRow_other w _ _ _ fun e' => ?_)
             have hk' := alive_set hk
             exact hk'.2 (H.inj k b (List.getElem?_eq_some_iff.1 hk'.1).1 hbl ⟨a', hk'.1⟩ ⟨a, hb'⟩ (.inr (Nat.le_trans H.lo hl)) e')
            have hsz : (c.toList.take (o' + len * i'.size) ++ news ++ c.toList.drop (o' + len * i'.size + news.length)).toArray.size = c.size := by
             simp only [List.size_toArray, List.length_append, List.length_take, List.length_drop, Array.length_toList]
             omega
            have hadd := hK2.add (setRow_heap w _ c _ a.elem fz b3) (H.own b hl hbl) (fun k a' hk e' => by
              have hk' := alive_set hk
              exact hk'.2 (H.inj k b (List.getElem?_eq_some_iff.1 hk'.1).1 hbl ⟨a', hk'.1⟩ ⟨a, hb'⟩ (.inr (Nat.le_trans H.lo hl)) e')) (fun p hp => (H.tab p hp).2 b a hl hb')
             (cells := a.cells ++ xs) (n := o' + (len + len') * i'.size) (full := false) (by rw [List.length_append, b1, han, hrel.length, hnl, hmul]; omega) (fun hh => by simp at hh) (by rw [hsz]; omega) (by rw [hsz]; exact b5 (Nat.le_trans H.lo hl)) (by
              have e2 : (c.toList.take (o' + len * i'.size) ++ news ++ c.toList.drop (o' + len * i'.size + news.length)).take (o' + (len + len') * i'.size) = c.toList.take a.n ++ news := by
               rw [List.take_append_of_le_length (by simp; omega), List.take_of_length_le (by simp; omega), han]
              simp only
              rw [e2]
              exact b7.append hrel)
            refine ⟨.slice (some ⟨m.ρ b, o', none⟩) (len + len') cc, _, m.push (m.ρ b) (c.toList.take (o' + len * i'.size) ++ news ++ c.toList.drop (o' + len * i'.size + news.length)).toArray.size, ?_, M.le_push _ _ _, ?_, ?_, hB⟩
            ·simp [Builtin.append_, run_underlying hu, sizeOf, typeInfo, hi, Builtin.lenOf, hfit2, hf, addr_add] at hst ⊢
             rw [hst]
             simp
            ·show CR _ (.slc (lenL h) o' (len + len') i'.size cap ex') _
             refine ⟨?_, cc, o', ?_, .inl rfl, hfit, g1', g2, ?_, g4⟩
             ·rw [lenL_eq, ← H.n]; simp
             ·rw [lenL_eq, ← H.n, M.push_ρ]
             ·rw [lenL_eq, ← H.n, M.push_κ, hsz]; omega
            ·rw [appL_eq, appL_eq, setL_eq, ← hel]
             exact hadd
           ·simp at hs
         ·rename_i hfit
          split at hs
          ·rename_i hex
           have hcc := g4 hex
           split at hs
           ·rename_i xo hxo
            simp only [Option.some.injEq, Prod.mk.injEq] at hs
            obtain ⟨rfl, rfl⟩ := hs
            obtain ⟨hlen, rfl⟩ := takeL_some hxo
            rw [dropL_eq] at hlen
            have ha := (b7.drop o).take (len * i'.size)
            have hl := ha.length
            have hol : (((c.toList.take a.n).drop o).take (len * i'.size)).length = len * i'.size := by rw [← hl]; simp at hlen ⊢; omega
            have hr := grows _ rfl hol (by omega)
            have hg := grow_sound (el := el) (cap := cc) H hzs hol hnl ha hrel hsm rfl
            rw [dropL_eq]
            exact ⟨_, _, _, hr, hg⟩
           ·simp at hs
          ·split at hs
           ·rename_i hc4
            obtain ⟨hl, ho0, hm0, han, hel, hful⟩ := hc4
            simp only [Option.some.injEq, Prod.mk.injEq] at hs
            obtain ⟨rfl, rfl⟩ := hs
            subst ho0
            have hbl : b < h.length := (List.getElem?_eq_some_iff.1 hb').1
            have hol : (((c.toList.take a.n).drop 0).take (len * i'.size)).length = len * i'.size := by simp; omega
            have hold2 : ((c.toList.take a.n).drop 0).take (len * i'.size) = c.toList.take a.n := by
             rw [List.drop_zero, ← han]; exact List.take_of_length_le (by simp; omega)
            have hK := H.kill b
            have e1 : lenL (h.set b none) = lenL h := by rw [lenL_eq, lenL_eq]; simp
            by_cases hfit2 : len + len' ≤ cc
            ·obtain rfl : o' = 0 := by rcases g0 with g0 | g0 <;> omega
             have hmul : (len + len') * i'.size = len * i'.size + len' * i'.size := Nat.add_mul _ _ _
             have hccm : (len + len') * i'.size ≤ cc * i'.size := Nat.mul_le_mul_right _ hfit2
             have hst := run_storeCells_fz (P := E.P) (m.ρ b) (0 + len * i'.size) a.elem fz news 0 c w b3 (by omega) (b5 (Nat.le_trans H.lo hl)).free hone'
             simp only [Nat.add_zero] at hst
             have hf := run_firstCells_some (P := E.P) w i'.size len' ad len' cx' news hnl hnews
             have hB := below_setRow (w := w) (c := (c.toList.take (0 + len * i'.size) ++ news ++ c.toList.drop (0 + len * i'.size + news.length)).toArray) (H.own b hl hbl)
             have hK2 : HR m base lvl (h.set b none) (w.setRow (m.ρ b) (c.toList.take (0 + len * i'.size) ++ news ++ c.toList.drop (0 + len * i'.size + news.length)).toArray) := by
              refine ⟨hK.n, hK.lvlLe, by simpa using hK.baseLe, fun k a' hk => ?_, hK.own, hK.inj, hK.lo, fun p hp => ⟨hK.tabs (fun q hq => setRow_other w _ _ _ fun e => (H.tab q hq).2 b a hl hb' e.symm) p hp, (hK.tab p hp).2⟩⟩
              refine (hK.ent k a' hk).world (setRow_other w _ _ _ fun e' => ?_)
              have hk' := alive_set hk
              exact hk'.2 (H.inj k b (List.getElem?_eq_some_iff.1 hk'.1).1 hbl ⟨a', hk'.1⟩ ⟨a, hb'⟩ (.inr (Nat.le_trans H.lo hl)) e')
             have hsz : (c.toList.take (0 + len * i'.size) ++ news ++ c.toList.drop (0 + len * i'.size + news.length)).toArray.size = c.size := by
              simp only [List.size_toArray, List.length_append, List.length_take, List.length_drop, Array.length_toList]
              omega
             have hadd := hK2.add (setRow_heap w _ c _ a.elem fz b3) (H.own b hl hbl) (fun k a' hk e' => by
               have hk' := alive_set hk
               exact hk'.2 (H.inj k b (List.getElem?_eq_some_iff.1 hk'.1).1 hbl ⟨a', hk'.1⟩ ⟨a, hb'⟩ (.inr (Nat.le_trans H.lo hl)) e')) (fun p hp => (H.tab p hp).2 b a hl hb')
              (cells := a.cells ++ xs) (n := (len + len') * i'.size) (full := false) (by rw [List.length_append, b1, han, hrel.length, hnl, hmul]) (fun hh => by simp at hh) (by rw [hsz]; omega) (by rw [hsz]; exact b5 (Nat.le_trans H.lo hl)) (by
               have e2 : (c.toList.take (0 + len * i'.size) ++ news ++ c.toList.drop (0 + len * i'.size + news.length)).take ((len + len') * i'.size) = c.toList.take a.n ++ news := by
                rw [List.take_append_of_le_length (by simp; omega), List.take_of_length_le (by simp; omega), Nat.zero_add, han]
               simp only
               rw [e2]
               exact b7.append hrel)
             refine ⟨.slice (some ⟨m.ρ b, 0, none⟩) (len + len') cc, _, m.push (m.ρ b) (c.toList.take (0 + len * i'.size) ++ news ++ c.toList.drop (0 + len * i'.size + news.length)).toArray.size, ?_, M.le_push _ _ _, ?_, ?_, hB⟩
             ·simp [Builtin.append_, run_underlying hu, sizeOf, typeInfo, hi, Builtin.lenOf, hfit2, hf, addr_add] at hst ⊢
              rw [hst]
              simp
             ·show CR _ (.slc (lenL h) 0 (len + len') i'.size (len + len') false) _
              refine ⟨?_, cc, 0, ?_, .inl rfl, Nat.le_refl _, hfit2, g2, ?_, fun hk => by simp at hk⟩
              ·rw [lenL_eq, ← H.n]; simp
              ·rw [lenL_eq, ← H.n, M.push_ρ]
              ·rw [lenL_eq, ← H.n, M.push_κ, hsz]; omega
             ·rw [appL_eq, appL_eq, setL_eq, ← hel]
              exact hadd
            ·have hr := grows _ rfl hol (by omega)
             rw [hold2] at hr hol
             have hg := grow_sound (el := el) (cap := cc) hK hzs hol hnl b7 hrel hsm rfl
             rw [setL_eq]
             rw [e1] at hg
             exact ⟨_, _, _, hr, hg⟩
           ·simp at hs
        ·simp at hs
       ·simp at hs
      ·simp at hs
     ·simp at hs
    ·simp at hs
   ·simp at hs
  ·simp at hs
 ·simp at hs
theorem appendSA_sound (H : HR m base lvl h w) {u xu ty : TypeId} {s : AV} {ys : Value} {str : ByteArray} (hys : VR m s ys) (hs : appendSA E lvl h u xu s str = some (x, h')) :
  ∃ y w' m', (Builtin.append_ #[u, xu] ty #[ys, .string str]).run E.P w = .ok y w' ∧ Post m base lvl w x h' y w' m' := by
 unfold appendSA at hs
 split at hs
 ·rename_i el hu hxu
  split at hs
  ·rename_i i z hi0 hz
   obtain ⟨i', v, hi, hv, rfl⟩ := zeroA_some hz
   have hie : i' = i := by rw [hi0] at hi; simpa using hi.symm
   subst hie
   split at hs
   ·rename_i hc
    obtain ⟨hsz1, hpos, hzl⟩ := hc
    rw [lenL_eq] at hzl
    have hzs : v.cells.size = i'.size := by simpa using hzl
    have hrel : All2 (CR m) (strA str) (Lib.strCells str) := by
     unfold strA Lib.strCells
     generalize str.data.toList = l
     induction l with
     | nil => trivial
     | cons a l ih => exact ⟨rfl, ih⟩
    have hnl : (Lib.strCells str).length = str.size * i'.size := by rw [Lib.strCells_length, hsz1, Nat.mul_one]
    have hone' := Lib.strCells_oneCell str
    have hone : (strA str).all AC.isOne = true := by
     unfold strA
     generalize str.data.toList = l
     induction l with
     | nil => rfl
     | cons a l ih => simp [AC.isOne]
    split at hs
    ·-- nil
     have hys' : ys = .slice none 0 0 := hys
     subst hys'
     split at hs
     ·rename_i h0
      simp only [Option.some.injEq, Prod.mk.injEq] at hs
      obtain ⟨rfl, rfl⟩ := hs
      refine ⟨.slice none 0 0, w, m, ?_, Post.same H rfl⟩
      have hf := Lib.run_firstCells_string (P := E.P) w i'.size str
      rw [h0] at hf
      simp [Builtin.append_, run_underlying hu, run_underlying hxu, sizeOf, typeInfo, hi, Builtin.lenOf, h0, hf]
     ·rename_i h0
      split at hs
      ·rename_i hsm
       obtain ⟨s1, s2, s3⟩ := small_spec hsm
       simp only [Option.some.injEq, Prod.mk.injEq] at hs
       obtain ⟨rfl, rfl⟩ := hs
       have hb48 : str.size * i'.bytes ≤ 281474976710656 := by
        have : str.size * i'.bytes ≤ 2000000 * 1024 := Nat.mul_le_mul s1 s3
        omega
       have hr := run_append_nil_string (P := E.P) w u xu ty el i' v hu hxu hi hv str (by omega) (by omega) hb48
       have hg := grow_sound (el := el) (len := 0) (n := str.size) (cap := 0) (olds := []) (xo := []) (news := Lib.strCells str) (xn := strA str) H hzs (by simp) hnl trivial hrel (by simpa using hsm) (k := str.size * i'.size) (by simp)
       simp only [Nat.zero_add, appL_eq, List.nil_append, Array.empty_append] at hg
       have hsa : (Lib.strCells str).toArray = str.data.map (fun b => Value.int .u8 b.toNat) := by
        apply Array.ext'
        simp [Lib.strCells]
       rw [hsa] at hg
       rw [appL_eq]
       exact ⟨_, _, _, hr, hg⟩
      ·simp at hs
    ·-- a slice of the evaluator's
     rename_i b o len sz cap ex'
     split at hs
     ·rename_i hc2
      obtain ⟨rfl, hsm⟩ := hc2
      obtain ⟨s1, s2, s3⟩ := small_spec hsm
      split at hs
      ·rename_i a hb
       obtain ⟨hbn, cc, o', rfl, g0, g1, g1', g2, g3, g4⟩ : CR m (.slc b o len i'.size cap ex') ys := hys
       have hb' := blk_eq hb
       obtain ⟨b1, b2, c, fz, b3, b4, b5, b6, b7⟩ := H.blk b a hb' (blk_ext hb)
       have hbytes : Builtin.nextslicecap (len + str.size) cc * i'.bytes ≤ 281474976710656 ∨ len + str.size ≤ cc := by
        by_cases hle : len + str.size ≤ cc
        ·exact .inr hle
        ·left
         have h1 := nextslicecap_le (need := len + str.size) (old := cc) (by omega)
         have : Builtin.nextslicecap (len + str.size) cc * i'.bytes ≤ 4000000 * 1024 := Nat.mul_le_mul (by omega) s3
         omega
       -- in place
       have inPlace : ∀ (_ : lvl ≤ b) (_ : o' = o) (_ : len + str.size ≤ cc) (_ : o + (len + str.size) * i'.size ≤ a.n),
         ∃ w', (Builtin.append_ #[u, xu] ty #[.slice (some ⟨m.ρ b, o', none⟩) len cc, .string str]).run E.P w = .ok (.slice (some ⟨m.ρ b, o, none⟩) (len + str.size) cc) w' ∧
          HR m base lvl (h.set b (some { a with cells := overL (strA str) a.cells (o + len * i'.size) })) w' ∧ Below base w w' := by
        intro hl ho' hfit hroom
        subst ho'
        have hmul : (len + str.size) * i'.size = len * i'.size + str.size * i'.size := Nat.add_mul _ _ _
        obtain ⟨w', hw, hH, hB⟩ := write_sound (E := E) (o := o' + len * i'.size) H hb' (blk_ext hb) hl hrel hone (by rw [hrel.length, hnl]; omega)
        refine ⟨w', ?_, hH, hB⟩
        have hf := Lib.run_firstCells_string (P := E.P) w i'.size str
        simp [Builtin.append_, run_underlying hu, run_underlying hxu, sizeOf, typeInfo, hi, Builtin.lenOf, hfit, hf, addr_add, hw]
       have holds : ∀ olds : List Value, olds = ((c.toList.take a.n).drop o).take (len * i'.size) → ∀ j v, olds[j]? = some v → w.cell? ((⟨m.ρ b, o', none⟩ : Addr).add j) = some v := by
        intro olds ho j v hj
        subst ho
        have hjlt := (List.getElem?_eq_some_iff.1 hj).1
        have hpos : 0 < len := by
         rcases Nat.eq_zero_or_pos len with h0 | h0
         ·subst h0; simp at hjlt
         ·exact h0
        obtain rfl : o' = o := by rcases g0 with g0 | g0 <;> omega
        rw [addr_add, cell_of_row w _ _ c a.elem fz b3]
        rw [List.getElem?_take] at hj
        split at hj
        ·rw [List.getElem?_drop, List.getElem?_take] at hj
         split at hj
         ·simpa using hj
         ·simp at hj
        ·simp at hj
       have grows : ∀ (olds : List Value) (_ : olds = ((c.toList.take a.n).drop o).take (len * i'.size)) (_ : olds.length = len * i'.size) (_ : cc < len + str.size),
         (Builtin.append_ #[u, xu] ty #[.slice (some ⟨m.ρ b, o', none⟩) len cc, .string str]).run E.P w = .ok (.slice (some ⟨w.heap.size, 0, none⟩) (len + str.size) (grownCap w (len + str.size) cc el))
          (w.drew.alloc (.cells (olds.toArray ++ (Lib.strCells str).toArray ++ Builtin.zeroCells v.cells (grownCap w (len + str.size) cc el - (len + str.size))) el)) := by
        intro olds ho hol hgt
        exact Lib.run_append_grow_string (P := E.P) w u xu ty el i' v hu hxu hi hv ⟨m.ρ b, o', none⟩ len cc olds hol (holds olds ho) str hgt (by omega) (hbytes.resolve_right (by omega))
       split at hs
       ·rename_i hfit
        split at hs
        ·rename_i hc3
         obtain ⟨hl, h0, hroom⟩ := hc3
         simp only [Option.some.injEq, Prod.mk.injEq] at hs
         obtain ⟨rfl, rfl⟩ := hs
         obtain rfl : o' = o := by rcases g0 with g0 | g0 <;> omega
         obtain ⟨w', hw, hH, hB⟩ := inPlace hl rfl (by omega) hroom
         refine ⟨_, w', m, hw, M.le.refl m, ?_, by rw [setL_eq]; exact hH, hB⟩
         exact ⟨hbn, cc, o', rfl, .inl rfl, hfit, g1', g2, g3, g4⟩
        ·simp at hs
       ·rename_i hfit
        split at hs
        ·rename_i hex
         have hcc := g4 hex
         split at hs
         ·rename_i xo hxo
          simp only [Option.some.injEq, Prod.mk.injEq] at hs
          obtain ⟨rfl, rfl⟩ := hs
          obtain ⟨hlen, rfl⟩ := takeL_some hxo
          rw [dropL_eq] at hlen
          have ha := (b7.drop o).take (len * i'.size)
          have hl := ha.length
          have hol : (((c.toList.take a.n).drop o).take (len * i'.size)).length = len * i'.size := by rw [← hl]; simp at hlen ⊢; omega
          have hr := grows _ rfl hol (by omega)
          have hg := grow_sound (el := el) (cap := cc) H hzs hol hnl ha hrel hsm rfl
          rw [dropL_eq]
          exact ⟨_, _, _, hr, hg⟩
         ·simp at hs
        ·split at hs
         ·rename_i hc4
          obtain ⟨hl, ho0, hm0, han, hel, hful⟩ := hc4
          simp only [Option.some.injEq, Prod.mk.injEq] at hs
          obtain ⟨rfl, rfl⟩ := hs
          subst ho0
          have hbl : b < h.length := (List.getElem?_eq_some_iff.1 hb').1
          have hol : (((c.toList.take a.n).drop 0).take (len * i'.size)).length = len * i'.size := by simp; omega
          have hold2 : ((c.toList.take a.n).drop 0).take (len * i'.size) = c.toList.take a.n := by
           rw [List.drop_zero, ← han]; exact List.take_of_length_le (by simp; omega)
          have hK := H.kill b
          have e1 : lenL (h.set b none) = lenL h := by rw [lenL_eq, lenL_eq]; simp
          by_cases hfit2 : len + str.size ≤ cc
          ·obtain rfl : o' = 0 := by rcases g0 with g0 | g0 <;> omega
           have hmul : (len + str.size) * i'.size = len * i'.size + str.size * i'.size := Nat.add_mul _ _ _
           have hccm : (len + str.size) * i'.size ≤ cc * i'.size := Nat.mul_le_mul_right _ hfit2
           have hst := run_storeCells_fz (P := E.P) (m.ρ b) (0 + len * i'.size) a.elem fz (Lib.strCells str) 0 c w b3 (by omega) (b5 (Nat.le_trans H.lo hl)).free hone'
           simp only [Nat.add_zero] at hst
           have hf := Lib.run_firstCells_string (P := E.P) w i'.size str
           have hB := below_setRow (w := w) (c := (c.toList.take (0 + len * i'.size) ++ Lib.strCells str ++ c.toList.drop (0 + len * i'.size + (Lib.strCells str).length)).toArray) (H.own b hl hbl)
           have hK2 : HR m base lvl (h.set b none) (w.setRow (m.ρ b) (c.toList.take (0 + len * i'.size) ++ Lib.strCells str ++ c.toList.drop (0 + len * i'.size + (Lib.strCells str).length)).toArray) := by
            refine ⟨hK.n, hK.lvlLe, by simpa using hK.baseLe, fun k a' hk => ?_, hK.own, hK.inj, hK.lo, fun p hp => ⟨hK.tabs (fun q hq => setRow_other w _ _ _ fun e => (H.tab q hq).2 b a hl hb' e.symm) p hp, (hK.tab p hp).2⟩⟩
            refine (hK.ent k a' hk).world (setRow_other w _ _ _ fun e' => ?_)
            have hk' := alive_set hk
            exact hk'.2 (H.inj k b (List.getElem?_eq_some_iff.1 hk'.1).1 hbl ⟨a', hk'.1⟩ ⟨a, hb'⟩ (.inr (Nat.le_trans H.lo hl)) e')
           have hsz : (c.toList.take (0 + len * i'.size) ++ Lib.strCells str ++ c.toList.drop (0 + len * i'.size + (Lib.strCells str).length)).toArray.size = c.size := by
            simp only [List.size_toArray, List.length_append, List.length_take, List.length_drop, Array.length_toList]
            omega
           have hadd := hK2.add (setRow_heap w _ c _ a.elem fz b3) (H.own b hl hbl) (fun k a' hk e' => by
             have hk' := alive_set hk
             exact hk'.2 (H.inj k b (List.getElem?_eq_some_iff.1 hk'.1).1 hbl ⟨a', hk'.1⟩ ⟨a, hb'⟩ (.inr (Nat.le_trans H.lo hl)) e')) (fun p hp => (H.tab p hp).2 b a hl hb')
            (cells := a.cells ++ strA str) (n := (len + str.size) * i'.size) (full := false) (by rw [List.length_append, b1, han, hrel.length, hnl, hmul]) (fun hh => by simp at hh) (by rw [hsz]; omega) (by rw [hsz]; exact b5 (Nat.le_trans H.lo hl)) (by
             have e2 : (c.toList.take (0 + len * i'.size) ++ Lib.strCells str ++ c.toList.drop (0 + len * i'.size + (Lib.strCells str).length)).take ((len + str.size) * i'.size) = c.toList.take a.n ++ Lib.strCells str := by
              rw [List.take_append_of_le_length (by simp; omega), List.take_of_length_le (by simp; omega), Nat.zero_add, han]
             simp only
             rw [e2]
             exact b7.append hrel)
           refine ⟨.slice (some ⟨m.ρ b, 0, none⟩) (len + str.size) cc, _, m.push (m.ρ b) (c.toList.take (0 + len * i'.size) ++ Lib.strCells str ++ c.toList.drop (0 + len * i'.size + (Lib.strCells str).length)).toArray.size, ?_, M.le_push _ _ _, ?_, ?_, hB⟩
           ·simp [Builtin.append_, run_underlying hu, run_underlying hxu, sizeOf, typeInfo, hi, Builtin.lenOf, hfit2, hf, addr_add] at hst ⊢
            rw [hst]
            simp
           ·show CR _ (.slc (lenL h) 0 (len + str.size) i'.size (len + str.size) false) _
            refine ⟨?_, cc, 0, ?_, .inl rfl, Nat.le_refl _, hfit2, g2, ?_, fun hk => by simp at hk⟩
            ·rw [lenL_eq, ← H.n]; simp
            ·rw [lenL_eq, ← H.n, M.push_ρ]
            ·rw [lenL_eq, ← H.n, M.push_κ, hsz]; omega
           ·rw [appL_eq, appL_eq, setL_eq, ← hel]
            exact hadd
          ·have hr := grows _ rfl hol (by omega)
           rw [hold2] at hr hol
           have hg := grow_sound (el := el) (cap := cc) hK hzs hol hnl b7 hrel hsm rfl
           rw [setL_eq]
           rw [e1] at hg
           exact ⟨_, _, _, hr, hg⟩
         ·simp at hs
      ·simp at hs
     ·simp at hs
    ·simp at hs
   ·simp at hs
  ·simp at hs
 ·simp at hs
end ops
end Go.Ev
end
section
namespace Go.Ev
open Go.RowKit Go.MapKept
section ops
variable {E : Env} {m : M} {base lvl : Nat} {h h' : Heap} {w : World} {tm : Tm} {t : Array Value} {x : AV}
theorem copyA_sound (H : HR m base lvl h w) {u xu ty : TypeId} {s xv : AV} {ys yx : Value} (hys : VR m s ys) (hyx : VR m xv yx) (hs : copyA E lvl h u s xv = some (x, h')) :
  ∃ y w' m', (Builtin.copy_ #[u, xu] ty #[ys, yx]).run E.P w = .ok y w' ∧ Post m base lvl w x h' y w' m' := by
 unfold copyA at hs
 split at hs
 ·rename_i el b o dl sz cp ex bx ox sl sx cx ex2 hu
  split at hs
  ·rename_i i a hi hb
   split at hs
   ·rename_i hsz
    subst hsz
    split at hs
    ·rename_i xs hxs
     split at hs
     ·rename_i hc
      obtain ⟨hl, h0, hroom, hone⟩ := hc
      simp only [Option.some.injEq, Prod.mk.injEq] at hs
      obtain ⟨rfl, rfl⟩ := hs
      obtain ⟨hbn, cc, o', rfl, g0, g1, g1', g2, g3, g4⟩ : CR m (.slc b o dl i.size cp ex) ys := hys
      obtain ⟨ad, len', cx', news, rfl, hn, hnl, hnews, hrel⟩ := srcCells_sound H hyx hxs
      have hlen' : len' = sl := by
       obtain ⟨_, _, _, e, _⟩ : CR m (.slc bx ox sl sx cx ex2) _ := hyx
       simp only [Value.slice.injEq] at e
       exact e.2.1
      subst hlen'
      obtain rfl : o' = o := by rcases g0 with g0 | g0 <;> omega
      obtain ⟨w', hw, hH, hB⟩ := write_sound (E := E) (o := o') H (blk_eq hb) (blk_ext hb) hl hrel hone (by rw [hrel.length, hnl]; exact hroom)
      have hf := run_firstCells_some (P := E.P) w i.size (Nat.min len' dl) ad len' cx' news hnl hnews
      refine ⟨_, w', m, ?_, M.le.refl m, (show CR m (.v _) _ from rfl), by rw [setL_eq]; exact hH, hB⟩
      simp only [Nat.min_def] at hf ⊢
      simp [Builtin.copy_, run_underlying hu, run_sizeOf hi, Builtin.lenOf, Nat.min_def, hf, hw, goInt]
     ·simp at hs
    ·simp at hs
   ·simp at hs
  ·simp at hs
 ·simp at hs
theorem clearA_sound (H : HR m base lvl h w) {u ty : TypeId} {s : AV} {ys : Value} (hys : VR m s ys) (hs : clearA E lvl h u s = some (x, h')) :
  ∃ y w' m', (Builtin.clear_ #[u] ty #[ys]).run E.P w = .ok y w' ∧ Post m base lvl w x h' y w' m' := by
 unfold clearA at hs
 split at hs
 ·rename_i el b o len sz cap ex hu
  obtain ⟨hbn, cc, o', rfl, g0, g1, g1', g2, g3, g4⟩ : CR m (.slc b o len sz cap ex) ys := hys
  split at hs
  ·rename_i h0
   subst h0
   simp only [Option.some.injEq, Prod.mk.injEq] at hs
   obtain ⟨rfl, rfl⟩ := hs
   refine ⟨.tuple #[], w, m, ?_, Post.same H ⟨#[], rfl, trivial⟩⟩
   simp [Builtin.clear_, run_underlying hu]
  ·rename_i h0
   split at hs
   ·rename_i i z a hi0 hz hb
    obtain ⟨i', v, hi, hv, rfl⟩ := zeroA_some hz
    split at hs
    ·rename_i hc
     obtain ⟨hlb, hsz, hzl, h00, hroom, hone⟩ := hc
     rw [lenL_eq] at hzl
     simp only [Option.some.injEq, Prod.mk.injEq] at hs
     obtain ⟨rfl, rfl⟩ := hs
     obtain rfl : o' = o := by rcases g0 with g0 | g0 <;> omega
     have hvs : v.cells.size = sz := by simpa using hzl
     have hrel : All2 (CR m) (repeatC (v.cells.toList.map AC.v) len) (Builtin.zeroCells v.cells len).toList := repeat_sound m v.cells len (len * v.cells.size) rfl
     obtain ⟨w', hw, hH, hB⟩ := write_sound (E := E) (o := o') H (blk_eq hb) (blk_ext hb) hlb hrel hone (by rw [repeatC_length]; simp; rw [hvs]; exact hroom)
     refine ⟨.tuple #[], w', m, ?_, M.le.refl m, ⟨#[], rfl, trivial⟩, by rw [setL_eq]; exact hH, hB⟩
     obtain ⟨l, rfl⟩ : ∃ l, len = l + 1 := ⟨len - 1, by omega⟩
     simp [Builtin.clear_, run_underlying hu, zeroValue, typeInfo, hi, hv, hw]
    ·simp at hs
   ·simp at hs
 ·simp at hs
theorem bytesOf_sound {m : M} : ∀ {cs : List AC} {bs : List UInt8} {ds : List Value}, bytesOf? cs = some bs → All2 (CR m) cs ds → ds = bs.map fun b => Value.int .u8 b.toNat
 | [], bs, ds, hb, ha => by
  simp [bytesOf?] at hb; subst hb
  cases ds with
  | nil => rfl
  | cons => exact ha.elim
 | c :: cs, bs, ds, hb, ha => by
  unfold bytesOf? at hb
  split at hb
  ·rename_i heq; simp at heq
  ·rename_i n r heq
   simp only [List.cons.injEq] at heq
   obtain ⟨rfl, rfl⟩ := heq
   cases ds with
   | nil => exact ha.elim
   | cons d ds =>
    split at hb
    ·rename_i l hl
     split at hb
     ·rename_i hn
      simp only [Option.some.injEq] at hb
      subst hb
      have ih := bytesOf_sound hl ha.2
      have hd : d = .int .u8 n := ha.1
      rw [hd, ih]
      simp only [List.map_cons, List.cons.injEq, Value.int.injEq, true_and, and_true]
      have : (UInt8.ofNat n.toNat).toNat = n.toNat := by simp; omega
      rw [this]
      exact (Int.toNat_of_nonneg hn.1).symm
     ·simp at hb
    ·simp at hb
  ·simp at hb
theorem op_convert (hT : TR m tm t) (H : HR m base lvl h w) {o : Oper} {s d : TypeId} {a : Operand} (ho : o.op = .convert s d a) (hs : opA E lvl tm h o.op = some (x, h')) :
  ∃ y w' m', Does E.P t o w y w' ∧ Post m base lvl w x h' y w' m' := by
 rw [ho] at hs
 simp only [opA] at hs
 have hv := evA_sound hT a
 split at hs
 ·rename_i el b off len sz cap ex hsu hdu ha
  rw [ha] at hv
  split at hs
  ·rename_i ab hel hb
   split at hs
   ·rename_i hc
    obtain ⟨rfl, h0⟩ := hc
    split at hs
    ·rename_i cs hcs
     split at hs
     ·rename_i bs hbs
      simp only [Option.some.injEq, Prod.mk.injEq] at hs
      obtain ⟨rfl, rfl⟩ := hs
      have hsrc : srcCells h 1 len (.e (.one (.slc b off len 1 cap ex))) = some cs := by
       simp only [srcCells, Nat.le_refl, and_self, if_true, hb, Nat.mul_one]
       exact hcs
      obtain ⟨ad, len', cc, ys, hy, hn, hl, hcell, hrel⟩ := srcCells_sound H hv hsrc
      have hys := bytesOf_sound hbs hrel
      have hlen : len' = len := by
       obtain ⟨_, _, _, e, _⟩ : CR m (.slc b off len 1 cap ex) _ := hv
       rw [hy] at e
       simp only [Value.slice.injEq] at e
       exact e.2.1
      have hbl : bs.length = len := by have := hl; rw [hys] at this; simpa using this
      have hr := run_convert_bytes_back (P := E.P) w s d el ad cc bs hsu hel hdu (fun j hj => hcell j _ (by rw [hys]; simp [hj]))
      refine ⟨.string ⟨bs.toArray⟩, w, m, .inl ?_, Post.same H (show CR m (.v _) _ from rfl)⟩
      rw [hbl] at hr
      simp only [execOp, ho, hy, hlen, Sem.run_bind, hr, Result.andThen_ok, Sem.run_pure]
     ·simp at hs
    ·simp at hs
   ·simp at hs
  ·simp at hs
 ·rename_i el0 el b off len sz cap ex hsu hdu ha
  rw [ha] at hv
  split at hs
  ·rename_i ab hel hb
   split at hs
   ·rename_i hcond
    simp only [Bool.and_eq_true, Nat.ble_eq] at hcond
    obtain ⟨hsd, hlb⟩ := hcond
    obtain rfl : s = d := Nat.eq_of_beq_eq_true hsd
    obtain rfl : el0 = el := by rw [hsu] at hdu; simpa using hdu
    simp only [Option.some.injEq, Prod.mk.injEq] at hs
    obtain ⟨rfl, rfl⟩ := hs
    have hab := blk_eq hb
    obtain ⟨b1, b2, c, fz, b3, b4, b5, b6, b7⟩ := H.blk b ab hab (blk_ext hb)
    obtain ⟨hbn, cc, o', hv', hrest⟩ : CR m (.slc b off len sz cap ex) (evC t a) := hv
    have hlt := (Array.getElem?_eq_some_iff.1 b3).1
    have hsh : w.shape? (m.ρ b) = some (ab.elem, c.size) := by unfold World.shape?; rw [b3]
    have hot : ∀ k, k ≠ m.ρ b → (w.freeze ⟨m.ρ b, c.size, none⟩ 1).heap[k]? = w.heap[k]? := fun k hk => by
     simp [World.freeze, Array.getElem?_modify, Ne.symm hk]
    have hown := H.own b hlb (List.getElem?_eq_some_iff.1 hab).1
    refine ⟨evC t a, w.freeze ⟨m.ρ b, c.size, none⟩ 1, m, .inl ?_, M.le.refl m, ?_, ?_, ?_⟩
    ·simp [execOp, ho, hv', convert, run_underlying hsu, run_underlying hel, markStringish, hsh]
    ·rw [ha]; exact ⟨hbn, cc, o', hv', hrest⟩
    ·have hset : h.set b (some ab) = h := by
      apply List.ext_getElem?
      intro i
      rw [List.getElem?_set]
      split
      ·rename_i e; subst e; rw [hab]; simp
       exact (List.getElem?_eq_some_iff.1 hab).1
      ·rfl
     have := H.putEnt hab hlb (w' := w.freeze ⟨m.ρ b, c.size, none⟩ 1) (by simp [World.freeze]) hot (a1 := ab) ⟨fun _ => ⟨b1, b2, c, (if fz.1 == fz.2 then (c.size, c.size + 1) else (min fz.1 c.size, max fz.2 (c.size + 1))), ?_, b4, ?_, b6, b7⟩, ?_⟩
     ·rwa [hset] at this
     ·simp [World.freeze, Array.getElem?_modify, b3]
     ·intro hlo0
      have b5 := b5 hlo0
      unfold FzOk
      split
      ·exact .inr (Nat.le_refl _)
      ·rename_i hne
       have hne' : fz.1 ≠ fz.2 := by simpa using hne
       rcases b5 with h5 | h5
       ·exact absurd h5 hne'
       ·right; simp; omega
     ·rw [blk_ext hb]; trivial
    ·exact ⟨by simp [World.freeze], by simp [World.freeze], by simp [World.freeze], by simp [World.freeze], fun k hk => hot k (by omega)⟩
   ·simp at hs
  ·simp at hs
 ·rename_i el s' hsu hdu ha
  rw [ha] at hv
  have hv' : evC t a = .string s' := hv
  split at hs
  ·rename_i hel
   split at hs
   ·rename_i hsm
    simp only [Option.some.injEq, Prod.mk.injEq] at hs
    obtain ⟨rfl, rfl⟩ := hs
    have hr := run_bytes_of_string (P := E.P) w s d el s' hsu hdu hel
    have hge := grownCap_ge w s'.size 0 el
    have hsize : (bytesRow s' (grownCap w s'.size 0 el)).size = grownCap w s'.size 0 el := by
     have : s'.data.size = s'.size := rfl
     simp [bytesRow, this]; omega
    refine ⟨_, _, _, .inl ?_, newRow_sound (c := bytesRow s' (grownCap w s'.size 0 el)) (fz := ((bytesRow s' (grownCap w s'.size 0 el)).size, (bytesRow s' (grownCap w s'.size 0 el)).size + 1)) (el := el) (len := s'.size) (cap := grownCap w s'.size 0 el) (sz := 1) (capA := s'.size) (ex := false)
     H rfl (((Below.refl _ _).drew).alloc H.baseLe _) ?_ (fun hk => by simp at hk) ?_ (.inr (Nat.le_refl _)) ?_ (Nat.le_refl _) hge (grownCap_le_maxLen w _ _ _ (by unfold maxLen; omega)) ?_ (fun hk => by simp at hk)⟩
    ·simp only [execOp, ho, hv', Sem.run_bind, hr, Result.andThen_ok, Sem.run_pure]
    ·simp
    ·rw [hsize]; exact hge
    ·have e : (bytesRow s' (grownCap w s'.size 0 el)).toList.take s'.size = s'.data.toList.map fun b => Value.int .u8 b.toNat := by
      have : s'.data.size = s'.size := rfl
      simp only [bytesRow, Array.toList_append, Array.toList_map]
      rw [List.take_append_of_le_length (by simp [this]), List.take_of_length_le (by simp [this])]
     rw [e]
     have := all2_v m (s'.data.toList.map fun b => Value.int .u8 b.toNat)
     rw [List.map_map] at this
     exact this
    ·rw [hsize]; omega
   ·simp at hs
  ·simp at hs
 ·simp at hs
theorem mapOf_spec {h : Heap} {b : Nat} {a : AB} {kv : List (Value × Value)} (hm : mapOf h b = some (a, kv)) : h[b]? = some (some a) ∧ a.ext = .map kv := by
 unfold mapOf at hm
 rw [getL_eq] at hm
 split at hm
 ·rename_i a' ha
  split at hm
  ·rename_i kv' hx
   simp only [Option.some.injEq, Prod.mk.injEq] at hm
   obtain ⟨rfl, rfl⟩ := hm
   exact ⟨ha, hx⟩
  ·simp at hm
 ·simp at hm
theorem keyB_spec {d : TypeDesc} {k : Value} (h : keyB d k = true) : IsKey d k := by
 cases d <;> cases k <;> simp_all [keyB, IsKey]
theorem sameK_now {d : TypeDesc} {a b : Value} {r : Bool} (h : sameK d a b = some r) : Instr.sameNow d a b = some r := by
 cases d <;> cases a <;> cases b <;> simp_all [sameK, Instr.sameNow]
theorem sameK_true {d : TypeDesc} {a b : Value} (h : sameK d a b = some true) : a = b := by
 cases d <;> cases a <;> cases b <;> simp [sameK] at h
 ·obtain ⟨rfl, h⟩ := h; rw [h]
 ·rw [(bytes_beq _ _).1 h]
theorem findKV_now {d : TypeDesc} {k : Value} : ∀ (es : List MapEntry) (i : Nat) {r : Option (Nat × Value)}, findKV d k (es.map fun e => (e.key, e.val)) i = some r → Instr.findNow d k es i = some r
 | [], i, r, h => by simpa [findKV, Instr.findNow] using h
 | e :: es, i, r, h => by
  have h' : (match sameK d k e.key with
   | some true => some (some (i, e.val))
   | some false => findKV d k (es.map fun e => (e.key, e.val)) (i + 1)
   | none => none) = some r := h
  unfold Instr.findNow
  cases hs : sameK d k e.key with
  | none => rw [hs] at h'; simp at h'
  | some b =>
   rw [hs] at h'
   rw [sameK_now hs]
   cases b with
   | true => exact h'
   | false => exact findKV_now es (i + 1) h'
theorem findKV_at {d : TypeDesc} {k : Value} : ∀ (l : List (Value × Value)) (i j : Nat) {v : Value}, findKV d k l i = some (some (j, v)) → i ≤ j ∧ l[j - i]? = some (k, v)
 | [], i, j, v, h => by simp [findKV] at h
 | e :: es, i, j, v, h => by
  have h' : (match sameK d k e.1 with
   | some true => some (some (i, e.2))
   | some false => findKV d k es (i + 1)
   | none => none) = some (some (j, v)) := h
  cases hs : sameK d k e.1 with
  | none => rw [hs] at h'; simp at h'
  | some b =>
   rw [hs] at h'
   cases b with
   | true =>
    simp only [Option.some.injEq, Prod.mk.injEq] at h'
    obtain ⟨rfl, rfl⟩ := h'
    rw [sameK_true hs]
    exact ⟨Nat.le_refl _, by simp⟩
   | false =>
    obtain ⟨h1, h2⟩ := findKV_at es (i + 1) j h'
    refine ⟨by omega, ?_⟩
    obtain ⟨n, hn⟩ : ∃ n, j - i = n + 1 := ⟨j - i - 1, by omega⟩
    rw [hn, List.getElem?_cons_succ, ← show j - (i + 1) = n by omega]
    exact h2
theorem sameBits_key {d : TypeDesc} {k : Value} (h : IsKey d k) : Instr.sameBits 10000 k k = true := by
 cases d <;> cases k <;> try exact h.elim
 ·unfold Instr.sameBits; simp
 ·unfold Instr.sameBits; simp
 ·unfold Instr.sameBits; exact (bytes_beq _ _).2 rfl
theorem op_makeMap (hT : TR m tm t) (H : HR m base lvl h w) {o : Oper} {u : TypeId} {r : Option Operand} (ho : o.op = .makeMap u r) (hs : opA E lvl tm h (.makeMap u r) = some (x, h')) : ∃ y w' m', Does E.P t o w y w' ∧ Post m base lvl w x h' y w' m' := by
 simp only [opA] at hs
 split at hs
 ·rename_i k e hu hr
  simp only [Option.some.injEq, Prod.mk.injEq] at hs
  obtain ⟨rfl, rfl⟩ := hs
  rw [appL_eq]
  refine ⟨.map (some w.heap.size), w.alloc (.map #[] 0), m.push w.heap.size 0, .inl ?_, M.le_push _ _ _, ?_, ?_, (Below.refl _ _).alloc H.baseLe _⟩
  ·cases r with
   | none => simp [execOp, ho, Instr.makeMap]
   | some c =>
    simp only at hr
    split at hr
    ·rename_i q z hz
     have hv := evA_sound hT c
     rw [hz] at hv
     have hv : evC t c = .int q z := hv
     simp [execOp, ho, Instr.makeMap, run_underlying hu, asInt, asIntOf, hv]
    ·simp at hr
  ·show CR _ (.mp (lenL h)) _
   refine ⟨?_, ?_⟩
   ·rw [lenL_eq, ← H.n]; simp
   ·rw [lenL_eq, ← H.n, M.push_ρ]
  ·refine H.newEnt rfl ⟨fun hx => by simp [mapEnt] at hx, ?_⟩
   refine ⟨#[], 0, ?_, rfl⟩
   rw [M.push_ρ]
   exact (heap_alloc w _).1
 ·simp at hs
theorem op_lookup (hT : TR m tm t) (H : HR m base lvl h w) {o : Oper} {u : TypeId} {a c : Operand} {ok : Bool} (ho : o.op = .lookup u a c ok) (hs : opA E lvl tm h (.lookup u a c ok) = some (x, h')) : ∃ y w' m', Does E.P t o w y w' ∧ Post m base lvl w x h' y w' m' := by
 simp only [opA] at hs
 split at hs
 ·rename_i key elem b k hu ha hc
  have hva := evA_sound hT a
  rw [ha] at hva
  obtain ⟨hb, hva⟩ : b < m.n ∧ evC t a = _ := hva
  have hvc := evA_sound hT c
  rw [hc] at hvc
  have hvc : evC t c = k := hvc
  split at hs
  ·rename_i ab kv d z hm hd hz
   obtain ⟨h1, h2⟩ := mapOf_spec hm
   have hL := (H.ent b ab h1).2
   rw [h2] at hL
   obtain ⟨es, cl, g1, g2⟩ := hL
   obtain ⟨i, hi, hz⟩ : ∃ i, E.P.info? elem = some i ∧ i.zero = some z := by
    cases hi : E.P.info? elem with
    | none => rw [hi] at hz; simp at hz
    | some i => rw [hi] at hz; exact ⟨i, rfl, hz⟩
   split at hs
   ·rename_i i' v hf hkb
    simp only [Option.some.injEq, Prod.mk.injEq] at hs
    obtain ⟨hx, rfl⟩ := hs
    have hf' := findKV_now es.toList 0 (by rw [g2]; exact hf)
    have hrun : (execOp (evC t) o).run E.P w = .ok (.value (if ok then .tuple #[v, .bool true] else v)) w := by
     simp [execOp, ho, Instr.lookup, run_underlying hu, hva, hvc, Go.MapKept.run_getObj_map g1, run_checkKey (n := 9999) hd (keyB_spec hkb), run_findKey hd hf', Result.andThen]
    refine ⟨_, w, m, .inl hrun, Post.same H ?_⟩
    rw [← hx]
    cases ok with
    | true => exact ⟨_, rfl, AE.of_sound m v, rfl, trivial⟩
    | false => exact AE.of_sound m v
   ·rename_i hf hkb
    simp only [Option.some.injEq, Prod.mk.injEq] at hs
    obtain ⟨hx, rfl⟩ := hs
    have hf' := findKV_now es.toList 0 (by rw [g2]; exact hf)
    have hrun : (execOp (evC t) o).run E.P w = .ok (.value (if ok then .tuple #[z, .bool false] else z)) w := by
     simp [execOp, ho, Instr.lookup, run_underlying hu, hva, hvc, Go.MapKept.run_getObj_map g1, run_checkKey (n := 9999) hd (keyB_spec hkb), run_findKey hd hf', Result.andThen, zeroValue, typeInfo, hi, hz]
    refine ⟨_, w, m, .inl hrun, Post.same H ?_⟩
    rw [← hx]
    cases ok with
    | true => exact ⟨_, rfl, AE.of_sound m z, rfl, trivial⟩
    | false => exact AE.of_sound m z
   ·simp at hs
  ·simp at hs
 ·simp at hs
theorem op_mapUpdate (hT : TR m tm t) (H : HR m base lvl h w) {o : Oper} {u : TypeId} {a c d : Operand} (ho : o.op = .mapUpdate u a c d) (hs : opA E lvl tm h (.mapUpdate u a c d) = some (x, h')) : ∃ y w' m', Does E.P t o w y w' ∧ Post m base lvl w x h' y w' m' := by
 simp only [opA] at hs
 split at hs
 ·rename_i key _ b k e hu ha hc hd0
  have hva := evA_sound hT a
  rw [ha] at hva
  obtain ⟨hb, hva⟩ : b < m.n ∧ evC t a = _ := hva
  have hvc := evA_sound hT c
  rw [hc] at hvc
  have hvc : evC t c = k := hvc
  have hvd := evA_sound hT d
  rw [hd0] at hvd
  split at hs
  ·rename_i ab kv kd v hm hd hv
   have hvd : evC t d = v := AE.val_sound (show ER m e _ from hvd) hv
   obtain ⟨h1, h2⟩ := mapOf_spec hm
   have hL := (H.ent b ab h1).2
   rw [h2] at hL
   obtain ⟨es, cl, g1, g2⟩ := hL
   split at hs
   ·rename_i r hf hlb
    simp only [Bool.and_eq_true, Nat.ble_eq] at hlb
    obtain ⟨hlb, hkb⟩ := hlb
    simp only [Option.some.injEq, Prod.mk.injEq] at hs
    obtain ⟨rfl, rfl⟩ := hs
    have hf' := findKV_now es.toList 0 (by rw [g2]; exact hf)
    have hk := keyB_spec hkb
    have hlt : m.ρ b < w.heap.size := (Array.getElem?_eq_some_iff.1 g1).1
    obtain ⟨es', cl', hrun, hes⟩ : ∃ es' cl', (execOp (evC t) o).run E.P w = .ok .skip { w with heap := w.heap.setIfInBounds (m.ρ b) (.map es' cl') } ∧ es'.toList.map (fun e => (e.key, e.val)) = putKV k v kv r := by
     cases r with
     | none =>
      refine ⟨es.push { key := k, val := v, born := cl }, cl + 1, ?_, ?_⟩
      ·simp [execOp, ho, Instr.mapUpdate, run_underlying hu, hva, hvc, hvd, Go.MapKept.run_getObj_map g1, run_checkKey (n := 9999) hd hk, run_findKey hd hf', Result.andThen, Go.MapKept.run_setObj_map _ g1]
      ·simp [putKV, appL_eq, ← g2]
     | some p =>
      obtain ⟨i, v0⟩ := p
      have hat := (findKV_at kv 0 i hf).2
      rw [Nat.sub_zero, ← g2, List.getElem?_map] at hat
      obtain ⟨e0, he0, hk0⟩ : ∃ e0, es.toList[i]? = some e0 ∧ e0.key = k := by
       cases h0 : es.toList[i]? with
       | none => rw [h0] at hat; simp at hat
       | some e0 => rw [h0] at hat; simp at hat; exact ⟨e0, rfl, hat.1⟩
      have he1 : es[i]? = some e0 := by simpa using he0
      refine ⟨es.modify i fun e => { e with key := k, val := v }, cl, ?_, ?_⟩
      ·simp [execOp, ho, Instr.mapUpdate, run_underlying hu, hva, hvc, hvd, Go.MapKept.run_getObj_map g1, run_checkKey (n := 9999) hd hk, run_findKey hd hf', Result.andThen, he1, hk0, Instr.keyThatStays, sameBits_key hk, Go.MapKept.run_setObj_map _ g1]
      ·simp only [putKV, setL_eq, ← g2]
       apply List.ext_getElem?
       intro j
       simp only [List.getElem?_map, Array.getElem?_toList, Array.getElem?_modify, List.getElem?_set]
       by_cases hj : i = j
       ·subst hj
        have hil : i < es.toList.length := (List.getElem?_eq_some_iff.1 he0).1
        have hil' : i < es.size := by simpa using hil
        simp [hil']
       ·simp [hj]
    refine ⟨undef, { w with heap := w.heap.setIfInBounds (m.ρ b) (.map es' cl') }, m, .inr ⟨hrun, rfl⟩, M.le.refl m, ⟨#[], rfl, trivial⟩, ?_, ?_⟩
    ·rw [setL_eq]
     refine H.putEnt h1 hlb (by simp) (fun k' hk' => (heap_set g1).2 k' hk') ⟨fun hx => by simp at hx, ?_⟩
     exact ⟨es', cl', (heap_set g1).1, hes⟩
    ·have hown := H.own b hlb (List.getElem?_eq_some_iff.1 h1).1
     exact ⟨rfl, rfl, rfl, by simp, fun k' hk' => (heap_set g1).2 k' (by omega)⟩
   ·simp at hs
  ·simp at hs
 ·simp at hs
theorem iterOf_spec {h : Heap} {b : Nat} {a : AB} {s : ByteArray} {p : Nat} (hm : iterOf h b = some (a, s, p)) : h[b]? = some (some a) ∧ a.ext = .iter s p := by
 unfold iterOf at hm
 rw [getL_eq] at hm
 split at hm
 ·rename_i a' ha
  split at hm
  ·rename_i s' p' hx
   simp only [Option.some.injEq, Prod.mk.injEq] at hm
   obtain ⟨rfl, rfl, rfl⟩ := hm
   exact ⟨ha, hx⟩
  ·simp at hm
 ·simp at hm
theorem op_range (hT : TR m tm t) (H : HR m base lvl h w) {o : Oper} {u : TypeId} {a : Operand} (ho : o.op = .range u a) (hs : opA E lvl tm h (.range u a) = some (x, h')) : ∃ y w' m', Does E.P t o w y w' ∧ Post m base lvl w x h' y w' m' := by
 simp only [opA] at hs
 split at hs
 ·rename_i s hu ha
  simp only [Option.some.injEq, Prod.mk.injEq] at hs
  obtain ⟨rfl, rfl⟩ := hs
  have hv := evA_sound hT a
  rw [ha] at hv
  have hv : evC t a = .string s := hv
  rw [appL_eq]
  refine ⟨.pointer (some ⟨w.heap.size, 0, none⟩), w.alloc (.stringIter s 0), m.push w.heap.size 0, .inl ?_, M.le_push _ _ _, ?_, ?_, (Below.refl _ _).alloc H.baseLe _⟩
  ·simp [execOp, ho, hv, Instr.range, run_underlying hu]
  ·show CR _ (.ptr (lenL h) 0) _
   refine ⟨?_, ?_⟩
   ·rw [lenL_eq, ← H.n]; simp
   ·rw [lenL_eq, ← H.n, M.push_ρ]
  ·refine H.newEnt rfl ⟨fun hx => by simp [iterEnt] at hx, ?_⟩
   show (w.alloc (.stringIter s 0)).heap[(m.push w.heap.size 0).ρ m.n]? = _
   rw [M.push_ρ]
   exact (heap_alloc w _).1
 ·simp at hs
theorem op_next (hT : TR m tm t) (H : HR m base lvl h w) {o : Oper} {a : Operand} (ho : o.op = .next a true) (hs : opA E lvl tm h (.next a true) = some (x, h')) : ∃ y w' m', Does E.P t o w y w' ∧ Post m base lvl w x h' y w' m' := by
 simp only [opA] at hs
 split at hs
 ·rename_i b ha
  have hv := evA_sound hT a
  rw [ha] at hv
  obtain ⟨hb, hv⟩ : b < m.n ∧ evC t a = .pointer (some ⟨m.ρ b, 0, none⟩) := hv
  split at hs
  ·rename_i ab s pos hit
   obtain ⟨h1, h2⟩ := iterOf_spec hit
   have hL := (H.ent b ab h1).2
   rw [h2] at hL
   have hL : w.heap[m.ρ b]? = some (.stringIter s pos) := hL
   have hg : (getObj (m.ρ b)).run E.P w = .ok (.stringIter s pos) w := by simp [getObj, Sem.run, hL]
   have hset : ∀ o' : Obj, (setObj (m.ρ b) o').run E.P w = .ok () { w with heap := w.heap.setIfInBounds (m.ρ b) o' } := fun o' => by simp [setObj, Sem.run, hL]
   split at hs
   ·rename_i hlb
    rw [Nat.ble_eq] at hlb
    split at hs
    ·rename_i hlt
     simp only [Option.some.injEq, Prod.mk.injEq] at hs
     obtain ⟨rfl, rfl⟩ := hs
     refine ⟨.tuple #[.bool true, .int .i64 pos, .int .i32 (Utf8.decode s pos).1], { w with heap := w.heap.setIfInBounds (m.ρ b) (.stringIter s (pos + (Utf8.decode s pos).2)) }, m, .inl ?_, M.le.refl m, ⟨_, rfl, rfl, rfl, rfl, trivial⟩, ?_, ?_⟩
     ·simp [execOp, ho, hv, Instr.next, hg, hlt, hset, goInt]
     ·rw [setL_eq]
      refine H.putEnt h1 hlb (by simp) (fun k' hk' => (heap_set hL).2 k' hk') ⟨fun hx => by simp at hx, ?_⟩
      exact (heap_set hL).1
     ·have hown := H.own b hlb (List.getElem?_eq_some_iff.1 h1).1
      exact ⟨rfl, rfl, rfl, by simp, fun k' hk' => (heap_set hL).2 k' (by omega)⟩
    ·rename_i hlt
     simp only [Option.some.injEq, Prod.mk.injEq] at hs
     obtain ⟨rfl, rfl⟩ := hs
     refine ⟨.tuple #[.bool false], w, m, .inl ?_, Post.same H ⟨_, rfl, rfl, trivial⟩⟩
     simp [execOp, ho, hv, Instr.next, hg, hlt]
   ·simp at hs
  ·simp at hs
 ·simp at hs
theorem opA_sound (hT : TR m tm t) (H : HR m base lvl h w) {o : Oper} (hs : opA E lvl tm h o.op = some (x, h')) : ∃ y w' m', Does E.P t o w y w' ∧ Post m base lvl w x h' y w' m' := by
 cases ho : o.op with
 | pick c a b => exact op_pick hT H ho hs
 | extract c i => exact op_extract hT H ho hs
 | alloc u => exact op_alloc H ho hs
 | box u c => exact op_box hT H ho hs
 | store u a c => exact op_store hT H ho hs
 | nilCheck a => exact op_nilCheck hT H ho hs
 | fieldAddr s a f => exact op_fieldAddr hT H ho hs
 | indexAddr s a c => exact op_indexAddr hT H ho hs
 | build u ps => exact op_build hT H ho hs
 | buildSlice u len ps => exact op_buildSlice hT H ho hs
 | makeSlice u a c => exact op_makeSlice hT H ho hs
 | sliceToArrayPointer u a => exact op_s2ap hT H ho hs
 | convert s d a => exact op_convert hT H ho hs
 | makeFunc fn first caps =>
  cases fn with
  | func f => exact op_makeFunc hT H ho hs
  | _ => rw [ho] at hs; simp [opA] at hs
 | range u a => exact op_range hT H ho (by rw [ho] at hs; exact hs)
 | next a b =>
  cases b with
  | true => exact op_next hT H ho (by rw [ho] at hs; exact hs)
  | false => rw [ho] at hs; simp [opA] at hs
 | makeMap u r => exact op_makeMap hT H ho (by rw [ho] at hs; exact hs)
 | lookup u a c ok => exact op_lookup hT H ho (by rw [ho] at hs; exact hs)
 | mapUpdate u a c d => exact op_mapUpdate hT H ho (by rw [ho] at hs; exact hs)
 | _ => rw [ho] at hs; simp [opA] at hs
end ops
end Go.Ev
end
section
namespace Go.Ev
open Go.RowKit
section ops
variable {E : Env} {m : M} {base lvl : Nat} {h h' : Heap} {w : World} {tm : Tm} {t : Array Value} {x : AV}
theorem args_sound (hT : TR m tm t) (l : Array Operand) : All2 (VR m) (l.toList.map (evA tm)) (l.map (evC t)).toList := by
 rw [Array.toList_map]
 induction l.toList with
 | nil => trivial
 | cons a l ih => exact ⟨evA_sound hT a, ih⟩
theorem all2_one {α β : Type} {R : α → β → Prop} {a : α} : ∀ {l : List β}, All2 R [a] l → ∃ b, l = [b] ∧ R a b
 | [], h => h.elim
 | [b], h => ⟨b, rfl, h.1⟩
 | _ :: _ :: _, h => h.2.elim
theorem all2_two {α β : Type} {R : α → β → Prop} {a a' : α} : ∀ {l : List β}, All2 R [a, a'] l → ∃ b b', l = [b, b'] ∧ R a b ∧ R a' b'
 | [], h => h.elim
 | [_], h => h.2.elim
 | [b, b'], h => ⟨b, b', rfl, h.1, h.2.1⟩
 | _ :: _ :: _ :: _, h => h.2.2.elim
theorem op_builtin (hT : TR m tm t) (H : HR m base lvl h w) {o : Oper} {c : Call} {b : Builtin} (ho : o.op = .call c) (hc : c.callee = .builtin b) (hs : builtinA E lvl h b c.argTypes (c.args.toList.map (evA tm)) = some (x, h')) :
  ∃ y w' m', Does E.P t o w y w' ∧ Post m base lvl w x h' y w' m' := by
 have ha := args_sound hT c.args
 generalize hargs : c.args.map (evC t) = args at ha
 generalize hA : c.args.toList.map (evA tm) = as at ha hs
 unfold builtinA at hs
 split at hs
 ·rename_i bb o' len sz cap ex
  obtain ⟨y0, hy0, hr⟩ := all2_one ha
  have hy : args = #[y0] := by rw [← Array.toList_inj]; exact hy0
  obtain ⟨_, cc, o2, rfl, _⟩ : CR m (.slc bb o' len sz cap ex) y0 := hr
  split at hs
  ·rename_i u hu
   split at hs
   ·rename_i el hul
    simp only [Option.some.injEq, Prod.mk.injEq] at hs
    obtain ⟨rfl, rfl⟩ := hs
    refine ⟨.int .i64 len, w, m, .inl ?_, Post.same H (show CR m (.v _) _ from rfl)⟩
    simp [execOp, ho, resolve, hc, invoke, builtin, hargs, hy, Builtin.len_, hu, run_underlying hul, goInt]
   ·simp at hs
  ·simp at hs
 ·rename_i s xx
  obtain ⟨y0, y1, hy0, hr0, hr1⟩ := all2_two ha
  have hy : args = #[y0, y1] := by rw [← Array.toList_inj]; exact hy0
  split at hs
  ·rename_i u xu hu hxu
   have e : Builtin.append_ c.argTypes o.type #[y0, y1] = Builtin.append_ #[u, xu] o.type #[y0, y1] := by
    simp [Builtin.append_, hu, hxu]
   split at hs
   ·rename_i str
    have hy1 : y1 = .string str := hr1
    subst hy1
    obtain ⟨y, w', m', hw, hp⟩ := appendSA_sound (ty := o.type) H hr0 hs
    refine ⟨y, w', m', .inl ?_, hp⟩
    simp only [execOp, ho, resolve, hc, invoke, builtin, hargs, hy, Sem.run_bind, Sem.run_pure, Result.andThen_ok, e, hw]
   ·obtain ⟨y, w', m', hw, hp⟩ := appendA_sound (ty := o.type) H hr0 hr1 hs
    refine ⟨y, w', m', .inl ?_, hp⟩
    simp only [execOp, ho, resolve, hc, invoke, builtin, hargs, hy, Sem.run_bind, Sem.run_pure, Result.andThen_ok, e, hw]
  ·simp at hs
 ·rename_i xx
  obtain ⟨y0, hy0, hr0⟩ := all2_one ha
  have hy : args = #[y0] := by rw [← Array.toList_inj]; exact hy0
  split at hs
  ·rename_i u hu
   obtain ⟨y, w', m', hw, hp⟩ := clearA_sound (ty := o.type) H hr0 hs
   refine ⟨y, w', m', .inl ?_, hp⟩
   have e : Builtin.clear_ c.argTypes o.type #[y0] = Builtin.clear_ #[u] o.type #[y0] := by
    simp [Builtin.clear_, hu]
   simp only [execOp, ho, resolve, hc, invoke, builtin, hargs, hy, Sem.run_bind, Sem.run_pure, Result.andThen_ok, e, hw]
  ·simp at hs
 ·rename_i b o' len sz cap ex
  obtain ⟨y0, hy0, hr0⟩ := all2_one ha
  have hy : args = #[y0] := by rw [← Array.toList_inj]; exact hy0
  split at hs
  ·rename_i hcap
   simp only [Option.some.injEq, Prod.mk.injEq] at hs
   obtain ⟨rfl, rfl⟩ := hs
   obtain ⟨hbn, cc, o2, rfl, g0, g1, g1', _⟩ : CR m (.slc b o' len sz cap ex) y0 := hr0
   obtain rfl : o2 = o' := by rcases g0 with g0 | g0 <;> omega
   refine ⟨.pointer (some ⟨m.ρ b, o2, none⟩), w, m, .inl ?_, Post.same H ⟨hbn, rfl⟩⟩
   have hr := Lib.run_unsafeSliceData_row (P := E.P) w c.argTypes o.type ⟨m.ρ b, o2, none⟩ len cc (by omega)
   simp only [execOp, ho, resolve, hc, invoke, builtin, hargs, hy, Sem.run_bind, Sem.run_pure, Result.andThen_ok, hr]
  ·simp at hs
 ·rename_i b n
  obtain ⟨y0, y1, hy0, hr0, hr1⟩ := all2_two ha
  have hy : args = #[y0, y1] := by rw [← Array.toList_inj]; exact hy0
  obtain ⟨hbn, rfl⟩ : b < m.n ∧ y0 = _ := hr0
  have hy1 : y1 = .int .i64 n := hr1
  subst hy1
  split at hs
  ·rename_i pt it a hpt hit hb
   split at hs
   ·rename_i el hel
    split at hs
    ·rename_i hcond
     obtain ⟨hts2, hcells, helem, hlb, hn0, hn1⟩ := hcond
     have hts : c.argTypes = #[pt, it] := by
      apply Array.ext
      ·simpa using hts2
      ·intro k hk1 hk2
       simp at hk2
       have h0 : k = 0 ∨ k = 1 := by omega
       rcases h0 with rfl | rfl
       ·have := Array.getElem?_eq_some_iff.1 hpt
        simpa using this.2
       ·have := Array.getElem?_eq_some_iff.1 hit
        simpa using this.2
     split at hs
     ·rename_i cs hcs
      split at hs
      ·rename_i bs hbs
       simp only [Option.some.injEq, Prod.mk.injEq] at hs
       obtain ⟨rfl, rfl⟩ := hs
       have hab := blk_eq hb
       obtain ⟨b1, b2, cc, fz, b3, b4, b5, b6, b7⟩ := H.blk b a hab (blk_ext hb)
       obtain ⟨hlen, rfl⟩ := takeL_some hcs
       have hall := b7.take n.toNat
       have hys := bytesOf_sound hbs hall
       have hnn : ((n.toNat : Nat) : Int) = n := Int.toNat_of_nonneg (by omega)
       have hbl : bs.length = n.toNat := by
        have h1 := hall.length
        rw [hys] at h1
        simp at h1
        omega
       have hsh : w.shape? (m.ρ b) = some (el, cc.size) := by unfold World.shape?; rw [b3, helem]
       have hr := Lib.run_unsafeString_row (P := E.P) w pt it o.type el hel hcells (m.ρ b) cc.size hsh bs (fun e => by rw [e] at hbl; simp at hbl; omega) (by omega) (by omega) (fun j x hj => by
        have hj2 : ((cc.toList.take a.n).take n.toNat)[j]? = some (.int .u8 x.toNat) := by rw [hys]; simp [hj]
        rw [addr_add, cell_of_row w _ _ cc a.elem fz b3]
        rw [List.getElem?_take] at hj2
        split at hj2
        ·rw [List.getElem?_take] at hj2
         split at hj2
         ·simpa using hj2
         ·simp at hj2
        ·simp at hj2)
       have e : Builtin.unsafeString_ c.argTypes o.type #[.pointer (some ⟨m.ρ b, 0, none⟩), .int .i64 n] = Builtin.unsafeString_ #[pt, it] o.type #[.pointer (some ⟨m.ρ b, 0, none⟩), .int .i64 n] := by
        rw [hts]
       have hK := H.kill b
       have hot : ∀ k, k ≠ m.ρ b → (w.freeze ⟨m.ρ b, 0, none⟩ bs.length).heap[k]? = w.heap[k]? := fun k hk => by
        unfold World.freeze
        split
        ·rfl
        ·simp [Array.getElem?_modify, Ne.symm hk]
       have hsz : (w.freeze ⟨m.ρ b, 0, none⟩ bs.length).heap.size = w.heap.size := by
        unfold World.freeze
        split <;> simp
       have hown := H.own b hlb (List.getElem?_eq_some_iff.1 hab).1
       rw [hbl, hnn] at hr
       rw [← hbl] at hr
       refine ⟨.string ⟨bs.toArray⟩, w.freeze ⟨m.ρ b, 0, none⟩ bs.length, m, .inl ?_, M.le.refl m, rfl, ?_, ?_⟩
       ·simp only [execOp, ho, resolve, hc, invoke, builtin, hargs, hy, Sem.run_bind, Sem.run_pure, Result.andThen_ok, e, hr]
       ·rw [setL_eq]
        refine ⟨hK.n, hK.lvlLe, by rw [hsz]; exact hK.baseLe, fun k a' hk => ?_, hK.own, hK.inj, hK.lo, fun p hp => ⟨hK.tabs (fun q hq => hot _ fun e => (H.tab q hq).2 b _ hlb hab e.symm) p hp, (hK.tab p hp).2⟩⟩
        refine (hK.ent k a' hk).world (hot _ fun e' => ?_)
        have hk' := alive_set hk
        exact hk'.2 (H.inj k b (List.getElem?_eq_some_iff.1 hk'.1).1 (List.getElem?_eq_some_iff.1 hab).1 ⟨a', hk'.1⟩ ⟨a, hab⟩ (.inr (Nat.le_trans H.lo hlb)) e')
       ·refine ⟨?_, ?_, ?_, by rw [hsz]; exact Nat.le_refl _, fun k hk => hot k (by omega)⟩ <;> (unfold World.freeze; split <;> rfl)
      ·simp at hs
     ·simp at hs
    ·simp at hs
   ·simp at hs
  ·simp at hs
 ·rename_i s xx
  obtain ⟨y0, y1, hy0, hr0, hr1⟩ := all2_two ha
  have hy : args = #[y0, y1] := by rw [← Array.toList_inj]; exact hy0
  split at hs
  ·rename_i u hu
   obtain ⟨y, w', m', hw, hp⟩ := copyA_sound (ty := o.type) (xu := u) H hr0 hr1 hs
   refine ⟨y, w', m', .inl ?_, hp⟩
   have e : Builtin.copy_ c.argTypes o.type #[y0, y1] = Builtin.copy_ #[u, u] o.type #[y0, y1] := by
    simp [Builtin.copy_, hu]
   simp only [execOp, ho, resolve, hc, invoke, builtin, hargs, hy, Sem.run_bind, Sem.run_pure, Result.andThen_ok, e, hw]
  ·simp at hs
 ·simp at hs
theorem loadVar_ptr (H : HR m base lvl h w) (G : GR E.gl base w) {u : TypeId} {b o : Nat} {x : AV} (hb : b < m.n) (hx : loadA E h u (.e (.one (.ptr b o))) = some x) :
  ∃ v, (loadVar u ⟨m.ρ b, o, none⟩).run E.P w = .ok v w ∧ VR m x v := by
 obtain ⟨v, hv, hr⟩ := loadA_sound (E := E) H G (show VR m (.e (.one (.ptr b o))) (.pointer (some ⟨m.ρ b, o, none⟩)) from ⟨hb, rfl⟩) hx
 exact ⟨v, by simpa [Instr.loadAt, Instr.sureAddr] using hv, hr⟩
def rdOf (t : Array Value) : ResultVar → Sem Value
 | .tmp i => pure (t.getD i undef)
 | .cell i u => do loadVar u (← asAddr (t.getD i undef))
theorem result_sound (hT : TR m tm t) (H : HR m base lvl h w) (G : GR E.gl base w) {rv : ResultVar} {a : AE} (hs : resultA E tm h rv = some a) :
  ∃ y, (rdOf t rv).run E.P w = .ok y w ∧ ER m a y := by
 cases rv with
 | tmp i =>
  simp only [resultA] at hs
  split at hs
  ·rename_i a' ha
   simp at hs; subst hs
   have hv := getT_sound hT i
   rw [ha] at hv
   exact ⟨_, rfl, hv⟩
  ·simp at hs
 | cell i u =>
  simp only [resultA] at hs
  split at hs
  ·rename_i b o ha
   have hv := getT_sound hT i
   rw [ha] at hv
   obtain ⟨hb, hv'⟩ : b < m.n ∧ t.getD i undef = _ := hv
   split at hs
   ·rename_i a' hl
    simp at hs; subst hs
    obtain ⟨v, h1, h2⟩ := loadVar_ptr H G hb hl
    refine ⟨v, ?_, h2⟩
    simp only [rdOf, hv', asAddr, Sem.run_bind, Sem.run_pure, Result.andThen_ok, h1]
   ·simp at hs
  ·simp at hs
theorem results_list (hT : TR m tm t) (H : HR m base lvl h w) (G : GR E.gl base w) : ∀ {l : List ResultVar} {r : List AE}, l.map (resultA E tm h) = r.map some →
  ∃ ys, (l.mapM (rdOf t)).run E.P w = .ok ys w ∧ All2 (ER m) r ys
 | [], [], _ => ⟨[], by simp, trivial⟩
 | [], _ :: _, h => by simp at h
 | _ :: _, [], h => by simp at h
 | rv :: l, a :: r, hh => by
  simp only [List.map_cons, List.cons.injEq] at hh
  obtain ⟨h1, h2⟩ := hh
  obtain ⟨y, hy, hr⟩ := result_sound hT H G h1
  obtain ⟨ys, hys, hrs⟩ := results_list hT H G h2
  refine ⟨y :: ys, ?_, hr, hrs⟩
  rw [List.mapM_cons]
  simp only [Sem.run_bind, hy, hys, Sem.run_pure, Result.andThen_ok]
theorem resultsA_sound (hT : TR m tm t) (H : HR m base lvl h w) (G : GR E.gl base w) {fn : Func} {v : AV} (hs : resultsA E fn tm h = some v) :
  ∃ y, (results fn t).run E.P w = .ok y w ∧ VR m v y := by
 unfold resultsA at hs
 have e : results fn t = (do let vs ← fn.results.mapM (rdOf t); pure (if h : vs.size = 1 then vs[0] else .tuple vs)) := by
  unfold results
  congr 1
 cases hr : allSome (fn.results.toList.map (resultA E tm h)) with
 | none => rw [hr] at hs; simp at hs
 | some r =>
  rw [hr] at hs
  obtain ⟨ys, hys, hrel⟩ := results_list hT H G (allSome_eq hr)
  have hm : (results fn t).run E.P w = .ok (if h : ys.toArray.size = 1 then ys.toArray[0] else .tuple ys.toArray) w := by
   rw [e, Array.mapM_eq_mapM_toList]
   simp only [Sem.run_bind, Sem.run_map, hys, Result.andThen_ok, Sem.run_pure]
  refine ⟨_, hm, ?_⟩
  clear hm hys hr
  match r, ys, hrel, hs with
  | [a], [y], hrel, hs =>
   simp only [Option.some.injEq] at hs; subst hs
   exact hrel.1
  | [], [], _, hs =>
   simp only [Option.some.injEq] at hs; subst hs
   exact ⟨#[], rfl, trivial⟩
  | a :: b :: r, y :: z :: ys, hrel, hs =>
   simp only [Option.some.injEq] at hs; subst hs
   rw [dif_neg (by simp)]
   exact ⟨_, rfl, hrel⟩
  | [_], _ :: _ :: _, hrel, _ => exact hrel.2.elim
  | _ :: _ :: _, [_], hrel, _ => exact hrel.2.elim
structure Names (m1 m2 : M) (f : Nat → Nat) (b : Nat) : Prop where
 lt : f b < m2.n
 ρ : m2.ρ (f b) = m1.ρ b
 κ : m2.κ (f b) = m1.κ b
theorem CR.ren {m1 m2 : M} {f : Nat → Nat} (hF : ∀ p ∈ m1.F, p ∈ m2.F) : ∀ {x : AC} {y : Value}, (∀ b ∈ x.refs, Names m1 m2 f b) → CR m1 x y → CR m2 (x.ren f) y
 | .v _, _, _, r => r
 | .any _, _, _, r => r
 | .dp _, _, _, r => DV.R.mono hF r
 | .mp b, _, hn, r => by
  have N := hn b (by simp [AC.refs])
  exact ⟨N.lt, by rw [N.ρ]; exact r.2⟩
 | .ptr b o, _, hn, r => by
  have N := hn b (by simp [AC.refs])
  exact ⟨N.lt, by rw [N.ρ]; exact r.2⟩
 | .yld b, _, hn, r => by
  have N := hn b (by simp [AC.refs])
  exact ⟨N.lt, by rw [N.ρ]; exact r.2⟩
 | .slc b o len sz cap ex, _, hn, r => by
  have N := hn b (by simp [AC.refs])
  obtain ⟨_, c, o', hy, h0, h1, h1', h2, h3, h4⟩ := r
  exact ⟨N.lt, c, o', by rw [N.ρ]; exact hy, h0, h1, h1', h2, by rw [N.κ]; exact h3, h4⟩
 | .clo g fs cs, _, hn, r => by
  obtain ⟨vf, vc, hy, h1, h2⟩ := r
  exact ⟨vf, vc, hy, CEs.tr (fun e he c hc y hr => by rw [CA.ren_ac]; exact CR.ren hF (fun b hb => hn b (List.mem_append_left _ (CE.mem_refs he hc hb))) hr) h1,
   CEs.tr (fun e he c hc y hr => by rw [CA.ren_ac]; exact CR.ren hF (fun b hb => hn b (List.mem_append_right _ (CE.mem_refs he hc hb))) hr) h2⟩
termination_by x => x.rank
decreasing_by all_goals (rw [CA.rank_ac]; exact Nat.one_pos)
theorem all2_ren {α β : Type} {R S : α → β → Prop} {g : α → α} : ∀ {l : List α} {ys : List β}, (∀ a ∈ l, ∀ b, R a b → S (g a) b) → All2 R l ys → All2 S (l.map g) ys
 | [], [], _, _ => trivial
 | _ :: _, _ :: _, hg, h => ⟨hg _ (by simp) _ h.1, all2_ren (fun a ha => hg a (by simp [ha])) h.2⟩
theorem ER.ren {m1 m2 : M} {f : Nat → Nat} (hF : ∀ p ∈ m1.F, p ∈ m2.F) : ∀ {x : AE} {y : Value}, (∀ b ∈ x.refs, Names m1 m2 f b) → ER m1 x y → ER m2 (x.ren f) y
 | .one _, _, hn, r => CR.ren hF hn r
 | .agg l, _, hn, r => by
  obtain ⟨cs, hy, ha⟩ := r
  exact ⟨cs, hy, all2_ren (fun a ha' b hb => CR.ren hF (fun k hk => hn k (List.mem_flatMap.2 ⟨a, ha', hk⟩)) hb) ha⟩
theorem VR.ren {m1 m2 : M} {f : Nat → Nat} (hF : ∀ p ∈ m1.F, p ∈ m2.F) : ∀ {x : AV} {y : Value}, (∀ b ∈ x.refs, Names m1 m2 f b) → VR m1 x y → VR m2 (x.ren f) y
 | .e _, _, hn, r => ER.ren hF hn r
 | .tup l, _, hn, r => by
  obtain ⟨cs, hy, ha⟩ := r
  exact ⟨cs, hy, all2_ren (fun a ha' b hb => ER.ren hF (fun k hk => hn k (List.mem_flatMap.2 ⟨a, ha', hk⟩)) hb) ha⟩
theorem CE.ren_fix {f : Nat → Nat} : ∀ {l : List CE}, (∀ b ∈ l.flatMap CE.refs, f b = b) → l.map (CE.map (CA.ren f)) = l
 | [], _ => rfl
 | e :: l, h => by
  have hc : ∀ c : CA, (∀ b ∈ c.refs, f b = b) → c.ren f = c := fun c hb => by cases c <;> simp [CA.ren] <;> exact hb _ (by simp [CA.refs])
  rw [List.map_cons, CE.ren_fix (l := l) fun b hb => h b (by simp only [List.flatMap_cons, List.mem_append]; exact .inr hb)]
  congr 1
  have h0 : ∀ c ∈ e.atoms, c.ren f = c := fun c hc' => hc c fun b hb => h b (by simp only [List.flatMap_cons, List.mem_append]; exact .inl (List.mem_flatMap.2 ⟨c, hc', hb⟩))
  cases e with
  | one x => simp only [CE.map]; rw [h0 x (by simp [CE.atoms])]
  | agg cs =>
   simp only [CE.map]
   congr 1
   exact (List.map_congr_left fun a ha => h0 a ha).trans (List.map_id' cs)
theorem CE.ren_none {f : Nat → Nat} {l : List CE} (h : l.flatMap CE.refs = []) : l.map (CE.map (CA.ren f)) = l := CE.ren_fix fun b hb => by rw [h] at hb; simp at hb
theorem AC.ren_id {f : Nat → Nat} : ∀ {x : AC}, x.refs = [] → x.ren f = x
 | .v _, _ => rfl
 | .ptr _ _, h => by simp [AC.refs] at h
 | .slc _ _ _ _ _ _, h => by simp [AC.refs] at h
 | .yld _, h => by simp [AC.refs] at h
 | .mp _, h => by simp [AC.refs] at h
 | .dp _, _ => rfl
 | .any _, _ => rfl
 | .clo g fs cs, h => by
  simp only [AC.refs, List.append_eq_nil_iff] at h
  simp only [AC.ren]
  rw [CE.ren_none h.1, CE.ren_none h.2]
theorem map_ren_id {α : Type} {g : α → α} : ∀ {l : List α}, (∀ a ∈ l, g a = a) → l.map g = l
 | [], _ => rfl
 | a :: l, h => by rw [List.map_cons, h a (by simp), map_ren_id fun b hb => h b (by simp [hb])]
theorem AE.ren_id {f : Nat → Nat} : ∀ {x : AE}, x.refs = [] → x.ren f = x
 | .one _, h => by simp only [AE.ren]; rw [AC.ren_id h]
 | .agg l, h => by
  simp only [AE.refs, List.flatMap_eq_nil_iff] at h
  simp only [AE.ren]
  rw [map_ren_id fun a ha => AC.ren_id (h a ha)]
theorem AV.ren_id {f : Nat → Nat} : ∀ {x : AV}, x.refs = [] → x.ren f = x
 | .e _, h => by simp only [AV.ren]; rw [AE.ren_id h]
 | .tup l, h => by
  simp only [AV.refs, List.flatMap_eq_nil_iff] at h
  simp only [AV.ren]
  rw [map_ren_id fun a ha => AE.ren_id (h a ha)]
theorem idxOf_spec : ∀ {ids : List Nat} {b : Nat}, b ∈ ids → ids[idxOf ids b]? = some b
  | [], _, h => by simp at h
  | a :: l, b, h => by
    unfold idxOf
    by_cases hab : a = b
    · subst hab; simp
    · have : (a == b) = false := by simpa using hab
      simp only [this, Bool.false_eq_true, if_false, List.getElem?_cons_succ]
      exact idxOf_spec (by rcases List.mem_cons.1 h with h | h; · exact absurd h.symm hab
                           · exact h)
theorem nodup_spec : ∀ {ids : List Nat}, nodupB ids = true → ∀ {i j : Nat} {b : Nat}, ids[i]? = some b → ids[j]? = some b → i = j
 | [], _, i, _, b, hi, _ => by simp at hi
 | a :: l, hn, i, j, b, hi, hj => by
  simp only [nodupB, Bool.and_eq_true, Bool.not_eq_true', List.contains_eq_mem, decide_eq_false_iff_not] at hn
  obtain ⟨h1, h2⟩ := hn
  cases i with
  | zero =>
   cases j with
   | zero => rfl
   | succ j => simp at hi hj; subst hi; exact absurd (List.mem_of_getElem? hj) h1
  | succ i =>
   cases j with
   | zero => simp at hi hj; subst hj; exact absurd (List.mem_of_getElem? hi) h1
   | succ j => simp at hi hj; rw [nodup_spec h2 hi hj]
theorem bring_sound {m1 : M} {w1 : World} {h1 h2 : Heap} {v v' : AV} {y : Value} (H : HR m base lvl h w) (H1 : HR m1 w.heap.size h.length h1 w1) (hle : M.leG w.heap.size m m1) (hB : Below w.heap.size w w1) (hv : VR m1 v y)
  (hs : bring h h1 v = some (v', h2)) : ∃ m2, M.leG base m m2 ∧ VR m2 v' y ∧ HR m2 base lvl h2 w1 := by
 have Hw0 : HR m base lvl h w1 := H.world hB.size hB.block
 let mF : M := { n := m.n, ρ := m.ρ, κ := m.κ, lo := m.lo, F := m1.F }
 have hleF : M.leG base m mF := ⟨Nat.le_refl _, fun _ _ => rfl, fun _ _ => rfl, rfl, hle.F, fun p hp => (hle.fresh p hp).imp_right (Nat.le_trans H.baseLe)⟩
 have tabs : ∀ p ∈ m1.F, (∃ (c : Array Value) (t : TypeId) (fz : Nat × Nat), w1.heap[p.1]? = some (.cells c t fz) ∧ c.toList = p.2) ∧ ∀ b a, lvl ≤ b → h[b]? = some (some a) → m.ρ b ≠ p.1 := fun p hp =>
  ⟨(H1.tab p hp).1, fun b a hb ha => by
   rcases hle.fresh p hp with h0 | h0
   ·exact (H.tab p h0).2 b a hb ha
   ·have := (H.ent b a ha).lt; omega⟩
 have Hw : HR mF base lvl h w1 := ⟨Hw0.n, Hw0.lvlLe, Hw0.baseLe, fun b a hb => (Hw0.ent b a hb).monoG hleF (by rw [Hw0.n]; exact (List.getElem?_eq_some_iff.1 hb).1), Hw0.own, Hw0.inj, Hw0.lo, tabs⟩
 unfold bring at hs
 split at hs
 ·rename_i href
  simp only [Option.some.injEq, Prod.mk.injEq] at hs
  obtain ⟨rfl, rfl⟩ := hs
  refine ⟨mF, hleF, ?_, Hw⟩
  have := VR.ren (m1 := m1) (m2 := mF) (f := id) (fun _ hp => hp) (fun b hb => by rw [href] at hb; simp at hb) hv
  rwa [AV.ren_id href] at this
 ·split at hs
  ·rename_i ids hids
   split at hs
   ·rename_i hc
    simp only [Bool.and_eq_true] at hc
    obtain ⟨⟨hnd, hkn⟩, hall⟩ := hc
    simp only [Option.some.injEq, Prod.mk.injEq] at hs
    obtain ⟨rfl, rfl⟩ := hs
    rw [lenL_eq] at hkn hall ⊢
    rw [appL_eq]
    have hmn := H.n
    let m2 : M := { n := h.length + ids.length, ρ := fun b => if b < h.length then m.ρ b else m1.ρ (ids.getD (b - h.length) 0), κ := fun b => if b < h.length then m.κ b else m1.κ (ids.getD (b - h.length) 0), lo := m.lo, F := m1.F }
    have hle2 : M.leG base m m2 := ⟨by simp only [m2]; omega, fun b hb => by simp only [m2]; rw [if_pos (by omega)], fun b hb => by simp only [m2]; rw [if_pos (by omega)], rfl, hleF.F, hleF.fresh⟩
    have names : ∀ b, (b < h.length ∨ b ∈ ids) → Names m1 m2 (renF h.length ids) b := by
     intro b hb
     by_cases hlt : b < h.length
     ·have e : renF h.length ids b = b := by simp [renF, hlt]
      exact ⟨by rw [e]; simp only [m2]; omega, by rw [e]; simp only [m2, hlt, if_true]; exact (hle.ρ b (by omega)).symm, by rw [e]; simp only [m2, hlt, if_true]; exact (hle.κ b (by omega)).symm⟩
     ·have hmem := hb.resolve_left hlt
      have hidx := idxOf_spec hmem
      have hlti : idxOf ids b < ids.length := (List.getElem?_eq_some_iff.1 hidx).1
      have e : renF h.length ids b = h.length + idxOf ids b := by simp [renF, hlt]
      have e2 : ids.getD (h.length + idxOf ids b - h.length) 0 = b := by
       rw [Nat.add_sub_cancel_left, List.getD_eq_getElem?_getD, hidx]; rfl
      exact ⟨by rw [e]; simp only [m2]; omega, by rw [e]; simp only [m2]; rw [if_neg (by omega), e2], by rw [e]; simp only [m2]; rw [if_neg (by omega), e2]⟩
    have knownOf : ∀ l, knownR h.length ids l = true → ∀ b ∈ l, Names m1 m2 (renF h.length ids) b := by
     intro l hl b hb
     have := List.all_eq_true.1 hl b hb
     simp only [Bool.or_eq_true, decide_eq_true_eq, List.contains_eq_mem] at this
     exact names b this
    have hid : ∀ (k i : Nat), ids[k]? = some i → h.length ≤ i ∧ ∃ a, blk h1 i = some a ∧ knownR h.length ids a.refs = true := by
     intro k i hk
     have := List.all_eq_true.1 hall i (List.mem_of_getElem? hk)
     simp only [Bool.and_eq_true, decide_eq_true_eq] at this
     obtain ⟨g1, g2⟩ := this
     split at g2
     ·rename_i a ha; exact ⟨g1, a, ha, g2⟩
     ·simp at g2
    have newAt : ∀ (b : Nat) (a : AB), ¬ b < h.length → (h ++ ids.map fun i => (blk h1 i).map (AB.ren (renF h.length ids)))[b]? = some (some a) →
      ∃ i a0, ids[b - h.length]? = some i ∧ (h1[i]? = some (some a0) ∧ a0.ext = .cells) ∧ h.length ≤ i ∧ knownR h.length ids a0.refs = true ∧ a = a0.ren (renF h.length ids) ∧ m2.ρ b = m1.ρ i ∧ m2.κ b = m1.κ i := by
     intro b a hlt hb
     rw [List.getElem?_append, if_neg hlt, List.getElem?_map] at hb
     cases hi : ids[b - h.length]? with
     | none => rw [hi] at hb; simp at hb
     | some i =>
      rw [hi] at hb
      obtain ⟨g1, a0, g2, g3⟩ := hid _ _ hi
      simp only [Option.map_some, g2, Option.some.injEq] at hb
      have e2 : ids.getD (b - h.length) 0 = i := by rw [List.getD_eq_getElem?_getD, hi]; rfl
      exact ⟨i, a0, rfl, blk_spec g2, g1, g3, hb.symm, by simp only [m2]; rw [if_neg hlt, e2], by simp only [m2]; rw [if_neg hlt, e2]⟩
    refine ⟨m2, hle2, VR.ren (m1 := m1) (m2 := m2) (fun _ hp => hp) (knownOf _ hkn) hv, ?_, ?_, Hw.baseLe, ?_, ?_, ?_, H.lo, ?_⟩
    ·simp [m2]
    ·have := H.lvlLe; simp; omega
    ·intro b a hb
     by_cases hlt : b < h.length
     ·rw [List.getElem?_append, if_pos hlt] at hb
      exact (Hw0.ent b a hb).monoG hle2 (by omega)
     ·obtain ⟨i, a0, g1, g2, g3, g4, rfl, g5, g6⟩ := newAt b a hlt hb
      obtain ⟨b1, b2, c, fz, b3, b4, b5, b6, b7⟩ := H1.blk i a0 g2.1 g2.2
      refine ⟨fun _ => ⟨by simpa [AB.ren] using b1, fun hf => by rw [g6]; exact b2 hf, c, fz, by rw [g5]; exact b3, by rw [g6]; exact b4, fun _ => b5 (Nat.le_trans H1.lo g3), b6, ?_⟩, by simp only [AB.ren, g2.2]; trivial⟩
      exact all2_ren (fun x hx y hy => CR.ren (m1 := m1) (m2 := m2) (fun _ hp => hp) (fun k hk => knownOf _ g4 k (List.mem_flatMap.2 ⟨x, hx, hk⟩)) hy) b7
    ·intro b hl hb
     simp at hb
     by_cases hlt : b < h.length
     ·rw [hle2.ρ b (by omega)]; exact H.own b hl hlt
     ·have hk : b - h.length < ids.length := by omega
      obtain ⟨i, hi⟩ : ∃ i, ids[b - h.length]? = some i := ⟨_, List.getElem?_eq_getElem hk⟩
      obtain ⟨g1, a0, g2, g3⟩ := hid _ _ hi
      have e2 : ids.getD (b - h.length) 0 = i := by rw [List.getD_eq_getElem?_getD, hi]; rfl
      have : m2.ρ b = m1.ρ i := by simp only [m2]; rw [if_neg hlt, e2]
      rw [this]
      have := H1.own i g1 (List.getElem?_eq_some_iff.1 (blk_eq g2)).1
      have := H.baseLe
      omega
    ·intro b b' hb hb' ⟨a, ha⟩ ⟨a', ha'⟩ hlo he
     by_cases hlt : b < h.length <;> by_cases hlt' : b' < h.length
     ·rw [hle2.ρ b (by omega), hle2.ρ b' (by omega)] at he
      rw [List.getElem?_append, if_pos hlt] at ha
      rw [List.getElem?_append, if_pos hlt'] at ha'
      exact H.inj b b' hlt hlt' ⟨a, ha⟩ ⟨a', ha'⟩ hlo he
     ·rw [List.getElem?_append, if_pos hlt] at ha
      obtain ⟨i, a0, g1, g2, g3, _, _, g5, _⟩ := newAt b' a' hlt' ha'
      rw [hle2.ρ b (by omega), g5] at he
      have k1 := (H.ent b a ha).lt
      have k2 := H1.own i g3 (List.getElem?_eq_some_iff.1 g2.1).1
      omega
     ·rw [List.getElem?_append, if_pos hlt'] at ha'
      obtain ⟨i, a0, g1, g2, g3, _, _, g5, _⟩ := newAt b a hlt ha
      rw [hle2.ρ b' (by omega), g5] at he
      have k1 := (H.ent b' a' ha').lt
      have k2 := H1.own i g3 (List.getElem?_eq_some_iff.1 g2.1).1
      omega
     ·obtain ⟨i, a0, g1, g2, g3, _, _, g5, _⟩ := newAt b a hlt ha
      obtain ⟨i', a0', g1', g2', g3', _, _, g5', _⟩ := newAt b' a' hlt' ha'
      rw [g5, g5'] at he
      have := H1.inj i i' (List.getElem?_eq_some_iff.1 g2.1).1 (List.getElem?_eq_some_iff.1 g2'.1).1 ⟨a0, g2.1⟩ ⟨a0', g2'.1⟩ (.inl (Nat.le_trans H1.lo g3)) he
      subst this
      have := nodup_spec hnd g1 g1'
      omega
    ·intro p hp
     refine ⟨(H1.tab p hp).1, fun b a hb ha => ?_⟩
     by_cases hlt : b < h.length
     ·rw [List.getElem?_append, if_pos hlt] at ha
      rw [hle2.ρ b (by omega)]
      exact (tabs p hp).2 b a hb ha
     ·obtain ⟨i, a0, g1, g2, g3, _, _, g5, _⟩ := newAt b a hlt ha
      rw [g5]
      exact (H1.tab p hp).2 i a0 g3 g2.1
   ·simp at hs
  ·simp at hs
end ops
end Go.Ev
end
section
namespace Go.Ev
open Go.RowKit
def FR (fr : Frame) (t : Array Value) (todo : List Item) : Frame := { fr with tmps := t, todo := todo, mode := .run }
theorem FR_eval (fr : Frame) (t : Array Value) (todo : List Item) : (FR fr t todo).eval = evC t := by
 funext x; cases x <;> rfl
def EndOk : Jump → List Item → Prop
 | .fell, todo => todo = []
 | .ret, todo => ∃ k, todo = .code .ret :: k
 | .exit id, todo => ∃ k, todo = .code (.exit id) :: k ∧ exitTo id k = none
def RoundOk (m : M) (rd : Option Nat) (fr : Frame) : Prop := match rd with
 | none => fr.roundOf = none
 | some b => b < m.n ∧ fr.roundOf = some (m.ρ b) ∧ fr.kind = .normal
theorem RoundOk.mono {bs : Nat} {m m' : M} {rd : Option Nat} {fr : Frame} (h : M.leG bs m m') (hr : RoundOk m rd fr) : RoundOk m' rd fr := by
 cases rd with
 | none => exact hr
 | some b => obtain ⟨h1, h2, h3⟩ := hr; exact ⟨Nat.lt_of_lt_of_le h1 h.n, by rw [h.ρ b h1]; exact h2, h3⟩
def marksC (m : M) (l : List Nat) : List Deferred := l.map fun b => { target := .collected (m.ρ b), args := #[] }
def RecOk (E : Env) (rec : RunT) : Prop :=
 ∀ rd lvl h todo tm r, rec rd lvl h todo tm = some r → ∀ (fr : Frame) (t : Array Value) (cs : List Frame) (w : World) (m : M) (base : Nat), RoundOk m rd fr → TR m tm t → HR m base lvl h w → GR E.gl base w →
  ∃ t' todo' w' m', Steps E.P (lone (FR fr t todo) cs w) (lone (FR { fr with defers := marksC m' r.marks ++ fr.defers } t' todo') cs w') ∧ TR m' r.tm t' ∧ HR m' base lvl r.heap w' ∧ M.leG base m m' ∧ Below base w w' ∧ EndOk r.jump todo' ∧ ∀ b ∈ r.marks, b < m'.n
structure EnvOk (E : Env) : Prop where
 num : ∀ (f : Nat) (fn : Func), E.P.funcs[f]? = some fn → (fn.name == "runtime.NumGoroutine") = false
 mixed : E.P.follows .mixedOrders = true
 used : ∀ f, E.hk f = .copyCheck → ∀ (b : Nat) (w : World), w.cell? ⟨b, 0, none⟩ = some (.pointer (some ⟨b, 0, none⟩)) → Calls E.P f #[.pointer (some ⟨b, 0, none⟩)] w fun e w' => e = .returned (.tuple #[]) ∧ w' = w
 fresh : ∀ f, E.hk f = .copyCheck → ∀ (b : Nat) (w : World), w.cell? ⟨b, 0, none⟩ = some (.pointer none) → w.shape? b = some (E.bt, 2) → w.frozen? ⟨b, 0, none⟩ = false →
  Calls E.P f #[.pointer (some ⟨b, 0, none⟩)] w fun e w' => e = .returned (.tuple #[]) ∧ w' = w.setCell ⟨b, 0, none⟩ (.pointer (some ⟨b, 0, none⟩))
 join : ∀ f, E.hk f = .join → ∀ (bk o c : Nat) (xs : List ByteArray) (sep : ByteArray) (w : World), (∀ (j : Nat) x, xs[j]? = some x → w.cell? ⟨bk, o + j, none⟩ = some (.string x)) → bk < w.heap.size → xs.length ≤ 140737488355328 → xs.length ≤ c →
  (joinL sep.data.toList xs).length ≤ 281474976710656 → Calls E.P f #[.slice (some ⟨bk, o, none⟩) xs.length c, .string sep] w fun e w' => e = .returned (.string ⟨⟨joinL sep.data.toList xs⟩⟩) ∧ Below w.heap.size w w'
 known : ∀ f k, E.hk f = .known k → ∀ (lvl : Nat) (h : Heap) (args : List AV) (v : AV) (h' : Heap), k lvl h args = some (v, h') → ∀ (m : M) (base : Nat) (w : World) (argsC : Array Value),
  All2 (VR m) args argsC.toList → HR m base lvl h w → GR E.gl base w → Calls E.P f argsC w fun e w' => ∃ y, e = .returned y ∧ ∃ m', PostG m base lvl w v h' y w' m'
section
variable {P : Program} {fr : Frame} {t : Array Value} {cs : List Frame} {w : World} {k : List Item}
theorem stepF_skip : step P (lone (FR fr t (.code .skip :: k)) cs w) = .next (lone (FR fr t k) cs w) := step_lone_go (by simp [stepG, stepG.exec, FR])
theorem stepF_label {l : Nat} : step P (lone (FR fr t (.code (.label l) :: k)) cs w) = .next (lone (FR fr t k) cs w) := step_lone_go (by simp [stepG, stepG.exec, FR])
theorem stepF_inBlock {l : Nat} : step P (lone (FR fr t (.inBlock l :: k)) cs w) = .next (lone (FR fr t k) cs w) := step_lone_go (by simp [stepG, stepG.exec, FR])
theorem stepF_inScope {c : Code} : step P (lone (FR fr t (.inScope c :: k)) cs w) = .next (lone (FR fr t k) cs w) := step_lone_go (by simp [stepG, stepG.exec, FR])
theorem stepF_seq {a b : Code} : step P (lone (FR fr t (.code (.seq a b) :: k)) cs w) = .next (lone (FR fr t (.code a :: .code b :: k)) cs w) := step_lone_go (by simp [stepG, stepG.exec, FR])
theorem stepF_cond {c : Operand} {a b : Code} {tt : Bool} (hc : evC t c = .bool tt) : step P (lone (FR fr t (.code (.cond c a b) :: k)) cs w) = .next (lone (FR fr t (.code (if tt then a else b) :: k)) cs w) :=
 step_lone_go (by
  have := congrFun (FR_eval fr t (.code (.cond c a b) :: k)) c
  simp only [FR] at this
  simp [stepG, stepG.exec, FR, this, hc])
theorem stepF_block {id : Nat} {c : Code} : step P (lone (FR fr t (.code (.block id c) :: k)) cs w) = .next (lone (FR fr t (.code c :: .inBlock id :: k)) cs w) := step_lone_go (by simp [stepG, stepG.exec, FR])
theorem stepF_loop {c : Code} : step P (lone (FR fr t (.code (.loop c) :: k)) cs w) = .next (lone (FR fr t (.code c :: .inLoop c :: k)) cs w) := step_lone_go (by simp [stepG, stepG.exec, FR])
theorem stepF_inLoop {c : Code} : step P (lone (FR fr t (.inLoop c :: k)) cs w) = .next (lone (FR fr t (.code c :: .inLoop c :: k)) cs w) := step_lone_go (by simp [stepG, stepG.exec, FR])
theorem stepF_scope {c : Code} : step P (lone (FR fr t (.code (.scope c) :: k)) cs w) = .next (lone (FR fr t (.code c :: .inScope c :: k)) cs w) := step_lone_go (by simp [stepG, stepG.exec, FR])
theorem stepF_exit {id : Nat} {k' : List Item} (hk : exitTo id k = some k') : step P (lone (FR fr t (.code (.exit id) :: k)) cs w) = .next (lone (FR fr t k') cs w) := step_lone_go (by simp [stepG, stepG.exec, FR, hk])
theorem stepF_region {id : Nat} {ops : Array Oper} : step P (lone (FR fr t (.code (.region id ops false) :: k)) cs w) = .next (lone (FR fr t (.inRegion ops (List.range ops.size) :: k)) cs w) := step_lone_go (by simp [stepG, stepG.exec, FR])
theorem stepF_regionDraw {id : Nat} {ops : Array Oper} : step P (lone (FR fr t (.code (.region id ops true) :: k)) cs w) = .next (lone (FR fr t (.inRegion ops (Region.schedule (P.follows .mixedOrders) ops (w.tape w.drawn (.order fr.fn id))) :: k)) cs { w with drawn := w.drawn + 1 }) :=
 step_lone_go (by simp [stepG, stepG.exec, FR, choose, Sem.run, Question.forced, Question.cut])
theorem stepF_regionEnd {ops : Array Oper} : step P (lone (FR fr t (.inRegion ops [] :: k)) cs w) = .next (lone (FR fr t k) cs w) := step_lone_go (by simp [stepG, stepG.exec, FR])
theorem stepF_end (hr : fr.roundOf = none) : step P (lone (FR fr t []) cs w) = .next (lone { FR fr t [] with mode := .returning } cs w) := step_lone_go (by simp [stepG, stepG.exec, FR, hr])
theorem stepF_ret (hr : fr.roundOf = none) : step P (lone (FR fr t (.code .ret :: k)) cs w) = .next (lone { FR fr t (.code .ret :: k) with mode := .returning } cs w) := step_lone_go (by simp [stepG, stepG.exec, FR, hr])
theorem stepF_beginRound {l : Nat} {w' : World} (hb : fr.roundOf = some l) (hr : (Instr.beginRound l).run P w = .ok () w') : step P (lone (FR fr t (.beginRound :: k)) cs w) = .next (lone (FR fr t k) cs w') :=
 step_lone_go (by simp [stepG, stepG.exec, stepG.apply, FR, hb, Sem.runT_eq, hr, Result.andThen, Frame.finish])
theorem stepF_round_end {c : Frame} {l : Nat} {v : Value} {w' : World} (hb : fr.roundOf = some l) (hk : fr.kind = .normal) (hr : (Instr.endRound l none).run P w = .ok v w') :
  step P (lone (FR fr t []) (c :: cs) w) = .next (lone (c.finish v) cs w') :=
 step_lone_go (by simp [stepG, stepG.exec, FR, hb, hk, Sem.runT_eq, hr, doReturn])
theorem stepF_round_ret {c : Frame} {l : Nat} {v : Value} {w' : World} (hb : fr.roundOf = some l) (hk : fr.kind = .normal) (hr : (Instr.endRound l (some .ret)).run P w = .ok v w') :
  step P (lone (FR fr t (.code .ret :: k)) (c :: cs) w) = .next (lone (c.finish v) cs w') :=
 step_lone_go (by simp [stepG, stepG.exec, FR, hb, hk, Sem.runT_eq, hr, doReturn])
theorem stepF_round_exit {c : Frame} {l id : Nat} {v : Value} {w' : World} (hb : fr.roundOf = some l) (hk : fr.kind = .normal) (hx : exitTo id k = none) (hr : (Instr.endRound l (some (.exit id))).run P w = .ok v w') :
  step P (lone (FR fr t (.code (.exit id) :: k)) (c :: cs) w) = .next (lone (c.finish v) cs w') :=
 step_lone_go (by simp [stepG, stepG.exec, FR, hb, hk, hx, Sem.runT_eq, hr, doReturn])
theorem stepF_endLoop {l : Nat} {jump : Option Code} {w' : World} (hr : (Instr.endLoop l).run P w = .ok jump w') : step P (lone (FR fr t (.endRangeFunc l :: k)) cs w) = .next (lone (FR fr t ((jump.map Item.code).toList ++ k)) cs w') :=
 step_lone_go (by simp [stepG, stepG.exec, FR, Sem.runT_eq, hr])
theorem stepF_rangeFunc {f : Operand} {ps : Array Tmp} {asg body : Code} {l : Nat} {mark : List Deferred} {w1 : World} {g : FuncId} {args : Array Value} (he : (Instr.enterLoop fr.fn t ps asg body fr.roundOf).run P w = .ok (l, mark) w1)
  {d : Deferred} (hd : (resolve (evC t) { callee := .value f, args := #[.const (.func (.yield l) #[] #[])], argTypes := #[] } 0).run P w1 = .ok d w1) (hi : (invoke d.target d.args).run P w1 = .ok (.enter g args) w1) :
  step P (lone (FR fr t (.code (.rangeFunc f ps asg body) :: k)) cs w) = .next (lone (Frame.enter P g args .normal) (FR { fr with defers := mark ++ fr.defers } t (.inRangeFunc l :: k) :: cs) w1) :=
 step_lone_go (by
  have hev := FR_eval { fr with defers := mark ++ fr.defers } t (.inRangeFunc l :: k)
  simp only [FR] at hev
  simp [stepG, stepG.exec, stepG.apply, FR, Sem.runT_eq, he, hev, hd, hi, Result.andThen])
def putC (t : Array Value) (d : Option Nat) (y : Value) : Array Value := match d with | some d => t.setIfInBounds d y | none => t
variable {ops : Array Oper} {i : Nat} {rest : List Nat} {o : Oper}
theorem FR_finish (ho : ops[i]? = some o) (y : Value) : (FR fr t (.inRegion ops (i :: rest) :: k)).finish y = FR fr (putC t o.dst y) (.inRegion ops rest :: k) := by
 unfold putC
 cases hd : o.dst <;> simp [Frame.finish, FR, ho, hd]
theorem stepG_F (ho : ops[i]? = some o) (hw : Region.wanted o (yielded ops t) = true) (hd : ∀ c, o.op ≠ .defer c) :
  stepG P true { frame := FR fr t (.inRegion ops (i :: rest) :: k), callers := cs, status := .running, dying := none } w = stepG.apply P true (FR fr t (.inRegion ops (i :: rest) :: k)) cs none (execOp (evC t) o) w := by
 have he := FR_eval fr t (.inRegion ops (i :: rest) :: k)
 simp only [FR] at he
 simp [stepG, stepG.exec, stepG.oper, Frame.oper?, FR, ho, hw, he]
 split
 ·rename_i c _ hop; exact absurd hop (hd c)
 ·rfl
theorem stepF_value (ho : ops[i]? = some o) (hw : Region.wanted o (yielded ops t) = true) (hd : ∀ c, o.op ≠ .defer c) {y : Value} {w' : World} (hr : Does P t o w y w') :
  step P (lone (FR fr t (.inRegion ops (i :: rest) :: k)) cs w) = .next (lone (FR fr (putC t o.dst y) (.inRegion ops rest :: k)) cs w') := by
 rw [← FR_finish (fr := fr) ho]
 rcases hr with hr | ⟨hr, rfl⟩
 ·exact step_lone_go (by rw [stepG_F ho hw hd]; simp [stepG.apply, hr])
 ·exact step_lone_go (by rw [stepG_F ho hw hd]; simp [stepG.apply, hr])
theorem stepsF_enter (ho : ops[i]? = some o) (hw : Region.wanted o (yielded ops t) = true) (hd : ∀ c, o.op ≠ .defer c) {f : FuncId} {args : Array Value} (hr : (execOp (evC t) o).run P w = .ok (.enter f args) w)
  {R : Value → World → Prop} (hc : Calls P f args w fun e w' => ∃ y, e = .returned y ∧ R y w') :
  ∃ y w', Steps P (lone (FR fr t (.inRegion ops (i :: rest) :: k)) cs w) (lone (FR fr (putC t o.dst y) (.inRegion ops rest :: k)) cs w') ∧ R y w' := by
 obtain ⟨e, w', fr', ⟨y, rfl, hR⟩, hsteps, _, hleave⟩ := hc (FR fr t (.inRegion ops (i :: rest) :: k) :: cs)
 refine ⟨y, w', ?_, hR⟩
 rw [← FR_finish (fr := fr) ho]
 refine .head (step_lone_go (fr' := Frame.enter P f args .normal) (cs' := FR fr t (.inRegion ops (i :: rest) :: k) :: cs) (w' := w) ?_) (Steps.trans hsteps (.one (step_leave_returned hleave)))
 rw [stepG_F ho hw hd]
 simp [stepG.apply, hr, FR]
theorem stepF_pass (ho : ops[i]? = some o) (hw : Region.wanted o (yielded ops t) = false) :
  step P (lone (FR fr t (.inRegion ops (i :: rest) :: k)) cs w) = .next (lone (FR fr (putC t o.dst undef) (.inRegion ops rest :: k)) cs w) := by
 rw [← FR_finish (fr := fr) ho]
 exact step_lone_go (by simp [stepG, stepG.exec, FR, ho, hw])
end
theorem wanted_sound {m : M} {tm : Tm} {t : Array Value} (hT : TR m tm t) (ops : Array Oper) (o : Oper) : Region.wanted o (yielded ops t) = wantedA ops tm o := by
 unfold Region.wanted wantedA
 cases hg : o.guard with
 | none => rfl
 | some p =>
  obtain ⟨j, want⟩ := p
  simp only
  unfold yielded
  cases hd : (ops[j]?).bind (·.dst) with
  | none => simp
  | some d =>
   simp only [Option.bind_some]
   rw [getL_eq]
   cases ha : tm[d]? with
   | none =>
    have h1 : t[d]? = none := by
     have := hT.length
     simp at ha this ⊢
     omega
    simp [h1]
   | some a =>
    obtain ⟨y, hy, hr⟩ := hT.get ha
    have hy' : t[d]? = some y := by simpa using hy
    simp only [hy']
    split
    ·rename_i b hb
     simp only [Option.some.injEq] at hb
     subst hb
     cases a with
     | tup l => obtain ⟨_, h, _⟩ := hr; simp at h
     | e a =>
      cases a with
      | agg l => obtain ⟨_, h, _⟩ := hr; simp at h
      | one a =>
       cases a with
       | v x =>
        have : Value.bool b = x := hr
        subst this
        cases b <;> cases want <;> rfl
       | ptr b o => obtain ⟨_, h⟩ := hr; simp at h
       | slc => obtain ⟨_, _, _, h, _⟩ := hr; simp at h
       | clo => obtain ⟨_, _, h, _⟩ := hr; simp at h
       | yld => obtain ⟨_, h⟩ := hr; simp at h
       | mp => obtain ⟨_, h⟩ := hr; simp at h
       | dp => rcases DV.R.shape hr with ⟨_, _, _, h⟩ | ⟨_, _, h⟩ <;> simp at h
       | any p => exact absurd rfl (hr.2.2 _)
    ·rename_i hne
     split
     ·rename_i b hb
      simp only [Option.some.injEq] at hb
      subst hb
      have : y = .bool b := hr
      exact absurd (by rw [this]) (hne b)
     ·rfl
end Go.Ev
end
