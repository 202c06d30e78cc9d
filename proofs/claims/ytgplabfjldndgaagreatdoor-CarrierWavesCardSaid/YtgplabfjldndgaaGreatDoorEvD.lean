/-
  Loads, stores, new variables, addresses.
-/
import Derived.Test.YtgplabfjldndgaaGreatDoorEvC
namespace Go.Ev
open Go.RowKit

theorem addr_add (g o j : Nat) : (⟨g, o, none⟩ : Addr).add j = ⟨g, o + j, none⟩ := by
  unfold Addr.add; split <;> simp_all

theorem run_isAgg {P : Program} {t : TypeId} {d : TypeDesc} (h : P.underlying t = some d) (w : World) : (isAgg t).run P w = .ok (isAggD d) w := by
  unfold isAgg
  simp only [Sem.run_bind, run_underlying h, Result.andThen_ok]
  cases d <;> rfl

theorem run_sizeOf {P : Program} {t : TypeId} {i : TypeInfo} (h : P.info? t = some i) (w : World) : (sizeOf t).run P w = .ok i.size w := by
  simp [sizeOf, typeInfo, h]
theorem run_typeInfo {P : Program} {t : TypeId} {i : TypeInfo} (h : P.info? t = some i) (w : World) : (typeInfo t).run P w = .ok i w := by
  simp [typeInfo, h]

theorem take_sound {P : Program} {m : M} {w : World} {g : Nat} {c : Array Value} {u : TypeId} {fz : Nat × Nat} (hg : w.heap[g]? = some (.cells c u fz)) {l : List AC} {n : Nat}
    (_hl : l.length = n) (hr : All2 (CR m) l (c.toList.take n)) {t : TypeId} {o : Nat} {e : AE} (h : take? P t l o = some e) :
    ∃ v, (loadVar t ⟨g, o, none⟩).run P w = .ok v w ∧ ER m e v := by
  have hc : ∀ k, w.cell? ⟨g, k, none⟩ = c[k]? := fun k => cell_of_row w g k c u fz hg
  unfold take? at h
  split at h
  · rename_i d i hd hi
    unfold loadVar
    simp only [Sem.run_bind, run_isAgg hd, Result.andThen_ok]
    split at h
    · rename_i hagg
      rw [hagg]
      simp only [if_true, Sem.run_bind, run_sizeOf hi, Result.andThen_ok]
      cases hk : takeL (dropL l o) i.size with
      | none => rw [hk] at h; simp at h
      | some r =>
        rw [hk] at h
        simp at h; subst h
        obtain ⟨hlen, rfl⟩ := takeL_some hk
        rw [dropL_eq] at hlen ⊢
        have ha := (hr.drop o).take i.size
        have hlen2 : (((c.toList.take n).drop o).take i.size).length = i.size := by
          have := ha.length
          simp at hlen this ⊢
          omega
        have hload := run_loadCells_list (P := P) w ⟨g, o, none⟩ (((c.toList.take n).drop o).take i.size) (fun j v hj => by
          rw [addr_add, hc]
          rw [List.getElem?_take] at hj
          split at hj
          · rw [List.getElem?_drop, List.getElem?_take] at hj
            split at hj
            · simpa using hj
            · simp at hj
          · simp at hj)
        rw [hlen2] at hload
        rw [hload]
        exact ⟨_, rfl, _, rfl, ha⟩
    · rename_i hagg
      simp only [Bool.not_eq_true] at hagg
      rw [hagg]
      simp only [Bool.false_eq_true, if_false]
      rw [getL_eq] at h
      cases hk : l[o]? with
      | none => rw [hk] at h; simp at h
      | some a =>
        rw [hk] at h
        simp at h; subst h
        obtain ⟨v, hv, hva⟩ := hr.get hk
        rw [List.getElem?_take] at hv
        split at hv
        · refine ⟨v, ?_, hva⟩
          simp only [Array.getElem?_toList] at hv
          rw [run_load, hc, hv]
        · simp at hv
  · simp at h

theorem lookG_v {m : M} (cs : List Value) : All2 (CR m) (cs.map AC.v) (cs.take cs.length) := by
  rw [List.take_length]; exact all2_v m cs

theorem loadA_sound {E : Env} {m : M} {base lvl : Nat} {h : Heap} {w : World} (H : HR m base lvl h w) (G : GR E.gl base w) {t : TypeId} {a : AV} {y : Value} (hy : VR m a y) {x : AV}
    (hx : loadA E h t a = some x) : ∃ v, (Instr.loadAt t y).run E.P w = .ok v w ∧ VR m x v := by
  unfold loadA at hx
  split at hx
  · rename_i b o
    split at hx
    · rename_i ab hb
      have hb' := blk_eq hb
      obtain ⟨h1, h2, c, fz, h3, h4, h5, h6, h7⟩ := H.blk b ab hb' (blk_ext hb)
      cases he : take? E.P t ab.cells o with
      | none => rw [he] at hx; simp at hx
      | some e =>
        rw [he] at hx; simp at hx; subst hx
        obtain ⟨v, hv, hr⟩ := take_sound (P := E.P) h3 h1 h7 he
        obtain ⟨_, rfl⟩ : b < m.n ∧ y = _ := hy
        refine ⟨v, ?_, hr⟩
        simpa [Instr.loadAt, Instr.sureAddr] using hv
    · simp at hx
  · rename_i g o
    split at hx
    · rename_i cs hcs
      obtain ⟨h1, c, u, fz, h3, h4⟩ := G g cs hcs
      cases he : take? E.P t (cs.map AC.v) o with
      | none => rw [he] at hx; simp at hx
      | some e =>
        rw [he] at hx; simp at hx; subst hx
        have h7 : All2 (CR m) (cs.map AC.v) (c.toList.take cs.length) := by rw [h4]; exact lookG_v cs
        obtain ⟨v, hv, hr⟩ := take_sound (P := E.P) h3 (by simp) h7 he
        have hy' : y = .pointer (some ⟨g, o, none⟩) := hy
        subst hy'
        refine ⟨v, ?_, hr⟩
        simpa [Instr.loadAt, Instr.sureAddr] using hv
    · simp at hx
  · simp at hx

theorem run_storeCells_fz {P : Program} (g o : Nat) (t : TypeId) (fz : Nat × Nat) : ∀ (vs : List Value) (i : Nat) (cur : Array Value) (w : World), w.heap[g]? = some (.cells cur t fz) → o + i + vs.length ≤ cur.size →
    (∀ i, i < cur.size → ¬ (fz.1 ≤ i ∧ i < fz.2)) → (∀ v ∈ vs, v.oneCell' = true) →
    (storeCells ⟨g, o, none⟩ vs i).run P w = .ok () (w.setRow g (cur.toList.take (o + i) ++ vs ++ cur.toList.drop (o + i + vs.length)).toArray)
  | [], i, cur, w, hg, _, _, _ => by
    simp only [storeCells, List.append_nil, List.length_nil, Nat.add_zero, List.take_append_drop, Array.toArray_toList]
    rw [setRow_self w g cur t fz hg]
    rfl
  | v :: rest, i, cur, w, hg, hl, hz, h1 => by
    have hi : o + i < cur.size := by simp at hl; omega
    have hcell : w.cell? ⟨g, o + i, none⟩ = some cur[o + i] := by simp [World.cell?, hg, hi]
    have hfro : w.frozen? ⟨g, o + i, none⟩ = false := by
      have := hz (o + i) hi
      simp only [World.frozen?, hg]
      simpa using this
    have hst : (store ((⟨g, o, none⟩ : Addr).add i) v).run P w = .ok () (w.setRow g (cur.setIfInBounds (o + i) v)) := by
      rw [addr_add, run_store P w _ v _ (h1 v (by simp)), hcell]
      simp [hfro, setCell_eq_setRow w g (o + i) cur t fz v hg]
    have ih := run_storeCells_fz (P := P) g o t fz rest (i + 1) (cur.setIfInBounds (o + i) v) (w.setRow g (cur.setIfInBounds (o + i) v)) (setRow_heap w g cur _ t _ hg) (by simp at hl ⊢; omega) (by simpa using hz) (fun x hx => h1 x (by simp [hx]))
    simp only [storeCells, Sem.run_bind, hst, Result.andThen_ok, ih, setRow_setRow]
    congr 3
    have e := list_seg_step cur.toList (o + i) v rest (by simp at hl ⊢; omega)
    simpa [Array.toList_setIfInBounds, Nat.add_assoc] using e

theorem below_setRow {base g : Nat} {w : World} {c : Array Value} (hg : base ≤ g) : Below base w (w.setRow g c) :=
  ⟨rfl, rfl, rfl, by simp, fun k hk => setRow_other w g k c (by omega)⟩

theorem take_set_comm {α : Type} (l xs : List α) (o n : Nat) (h : o + xs.length ≤ n) (hn : n ≤ l.length) :
    ((l.take o ++ xs ++ l.drop (o + xs.length)).take n) = (l.take n).take o ++ xs ++ (l.take n).drop (o + xs.length) := by
  apply List.ext_getElem?
  intro i
  simp only [List.getElem?_take, List.getElem?_append, List.length_append, List.length_take, List.getElem?_drop]
  have e1 : min o l.length = o := by omega
  have e2 : min o (min n l.length) = o := by omega
  rw [e1, e2]
  by_cases h1 : i < n
  · simp only [h1, if_true]
    by_cases h2 : i < o + xs.length
    · simp only [h2, if_true]
    · simp only [h2, if_false]
      have : o + xs.length + (i - (o + xs.length)) = i := by omega
      rw [this, if_pos h1]
  · simp only [h1, if_false]
    by_cases h2 : i < o + xs.length
    · omega
    · simp only [h2, if_false]
      have : o + xs.length + (i - (o + xs.length)) = i := by omega
      rw [this, if_neg h1]

/-- A row of cells is written into one of the evaluator's blocks. -/
theorem write_sound {E : Env} {m : M} {base lvl : Nat} {h : Heap} {w : World} (H : HR m base lvl h w) {b : Nat} {a : AB} (hb : h[b]? = some (some a)) (hx : a.ext = .cells) (hlvl : lvl ≤ b) {xs : List AC} {ys : List Value} {o : Nat}
    (hr : All2 (CR m) xs ys) (h1 : xs.all AC.isOne = true) (hfit : o + xs.length ≤ a.n) :
    ∃ w', (storeCells ⟨m.ρ b, o, none⟩ ys).run E.P w = .ok () w' ∧ HR m base lvl (h.set b (some { a with cells := overL xs a.cells o })) w' ∧ Below base w w' := by
  have hbl : b < h.length := (List.getElem?_eq_some_iff.1 hb).1
  obtain ⟨g1, g2, c, fz, g3, g4, g5, g6, g7⟩ := H.blk b a hb hx
  have hlen := hr.length
  have hst := run_storeCells_fz (P := E.P) (m.ρ b) o a.elem fz ys 0 c w g3 (by omega) (g5 (Nat.le_trans H.lo hlvl)).free (fun v hv => by
    obtain ⟨i, hi⟩ := List.getElem?_of_mem hv
    obtain ⟨x, hx, hxr⟩ := hr.get' hi
    exact isOne_sound hxr (List.all_eq_true.1 h1 x (List.mem_of_getElem? hx)))
  simp only [Nat.add_zero] at hst
  refine ⟨_, hst, ?_, below_setRow (H.own b hlvl hbl)⟩
  refine H.put hb hlvl hx g3 g5 ?_ g4 g6 (by rw [overL_length]; exact g1) ?_
  · simp only [List.size_toArray, List.length_append, List.length_take, List.length_drop, Array.length_toList]
    omega
  · simp only
    rw [take_set_comm c.toList ys o a.n (by omega) (by simpa using g6)]
    exact g7.over hr o (by omega)

theorem storeA_sound {E : Env} {m : M} {base lvl : Nat} {h h' : Heap} {w : World} (H : HR m base lvl h w) {t : TypeId} {a x : AV} {y v : Value} (hy : VR m a y) (hv : VR m x v)
    (hs : storeA E lvl h t a x = some h') : ∃ w', (Instr.storeAt t y v).run E.P w = .ok () w' ∧ HR m base lvl h' w' ∧ Below base w w' := by
  unfold storeA at hs
  split at hs
  · rename_i b o x'
    split at hs
    · rename_i ab i cs hb hi hc
      split at hs
      · rename_i hcond
        obtain ⟨c1, c2, c3, c4⟩ := hcond
        simp at hs; subst hs
        obtain ⟨_, rfl⟩ : b < m.n ∧ y = _ := hy
        have hcs := cells_sound (show ER m x' v from hv) hc
        rw [lenL_eq] at c2
        have hsz : v.cells.size = i.size := by have := hcs.length; simp at this; omega
        obtain ⟨w', hw, hH, hB⟩ := write_sound (E := E) (o := o) H (blk_eq hb) (blk_ext hb) c1 hcs c4 (by omega)
        refine ⟨w', ?_, by rw [setL_eq]; exact hH, hB⟩
        simp only [Instr.storeAt, Instr.sureAddr, Sem.run_bind, Sem.run_pure, Result.andThen_ok, storeVar, run_sizeOf hi, hsz, ne_eq, not_true_eq_false, if_false, hw]
      · simp at hs
    · simp at hs
  · simp at hs

theorem zeroA_some {E : Env} {t : TypeId} {z : List AC} (h : zeroA E t = some z) : ∃ i v, E.P.info? t = some i ∧ i.zero = some v ∧ z = v.cells.toList.map AC.v := by
  unfold zeroA at h
  cases hi : E.P.info? t with
  | none => rw [hi] at h; simp at h
  | some i =>
    rw [hi] at h
    cases hz : i.zero with
    | none => simp [hz] at h
    | some v => simp [hz] at h; exact ⟨i, v, rfl, hz, h.symm⟩

theorem newA_sound {E : Env} {m : M} {base lvl : Nat} {h : Heap} {w : World} (H : HR m base lvl h w) {t : TypeId} {cs : List AC} {v : Value} (hr : All2 (CR m) cs v.cells.toList) :
    ∃ w' m', (newVar t v).run E.P w = .ok ⟨w.heap.size, 0, none⟩ w' ∧ Post m base lvl w (newA h t cs).1 (newA h t cs).2 (.pointer (some ⟨w.heap.size, 0, none⟩)) w' m' := by
  refine ⟨w.alloc (.cells v.cells t), m.push w.heap.size v.cells.size, by simp [newVar, newRow], ?_⟩
  have hlen := hr.length
  have hN := H.new (w' := w.alloc (.cells v.cells t)) (c := v.cells) (t := t) (fz := (0, 0)) rfl (cells := cs) (n := lenL cs) (full := true) (lenL_eq cs).symm
    (fun _ => by rw [lenL_eq]; simpa using hlen) (by rw [lenL_eq]; simp at hlen; omega) (.inl rfl) (by rw [lenL_eq, hlen, List.take_length]; exact hr)
  refine ⟨M.le_push _ _ _, ?_, ?_, (Below.refl _ _).alloc H.baseLe _⟩
  · show CR (m.push w.heap.size v.cells.size) (.ptr (lenL h) 0) _
    refine ⟨?_, ?_⟩
    · rw [lenL_eq, ← H.n]; simp
    · rw [lenL_eq, ← H.n, M.push_ρ]
  · unfold newA
    rw [appL_eq]
    exact hN

end Go.Ev
