/-
  Slices: made, cut, copied, grown; conversions; function values.
-/
import Derived.Test.YtgplabfjldndgaaGreatDoorEvE
import Derived.Laws.IdiomStrings
import Derived.Laws.Slices
namespace Go.Ev
open Go.RowKit

section ops
variable {E : Env} {m : M} {base lvl : Nat} {h h' : Heap} {w : World} {tm : Tm} {t : Array Value} {x : AV}

/-- A new row whose first cells are known. -/
theorem newRow_sound (H : HR m base lvl h w) {w' : World} {c : Array Value} {el : TypeId} {fz : Nat × Nat} (hw : w'.heap = w.heap.push (.cells c el fz)) (hB : Below base w w') {cells : List AC} {n : Nat} {full : Bool}
    (hn : cells.length = n) (hf : full = true → n = c.size) (hle : n ≤ c.size) (hz : FzOk c.size fz) (hr : All2 (CR m) cells (c.toList.take n))
    {len cap sz capA : Nat} {ex : Bool} (h1 : len ≤ capA) (h1' : capA ≤ cap) (h2 : cap ≤ maxLen) (h3 : cap * sz ≤ c.size) (h4 : ex = true → cap = capA) :
    Post m base lvl w (.e (.one (.slc (lenL h) 0 len sz capA ex))) (appL h [some ⟨cells, n, el, full, .cells⟩]) (.slice (some ⟨w.heap.size, 0, none⟩) len cap) w' (m.push w.heap.size c.size) := by
  refine ⟨M.le_push _ _ _, ?_, ?_, hB⟩
  · show CR (m.push w.heap.size c.size) (.slc (lenL h) 0 len sz capA ex) _
    refine ⟨?_, cap, 0, ?_, .inl rfl, h1, h1', h2, ?_, h4⟩
    · rw [lenL_eq, ← H.n]; simp
    · rw [lenL_eq, ← H.n, M.push_ρ]
    · rw [lenL_eq, ← H.n, M.push_κ]; omega
  · rw [appL_eq]
    exact H.new hw hn hf hle hz hr

theorem op_makeSlice (hT : TR m tm t) (H : HR m base lvl h w) {o : Oper} {u : TypeId} {a c : Operand} (ho : o.op = .makeSlice u a c) (hs : opA E lvl tm h o.op = some (x, h')) :
    ∃ y w' m', Does E.P t o w y w' ∧ Post m base lvl w x h' y w' m' := by
  rw [ho] at hs
  simp only [opA] at hs
  split at hs
  · rename_i el k1 n k2 c2 hu hn hc
    split at hs
    · rename_i e z he hz
      obtain ⟨i, v, hi, hv, rfl⟩ := zeroA_some hz
      have hie : i = e := by rw [he] at hi; simpa using hi.symm
      subst hie
      split at hs
      · rename_i hcond
        obtain ⟨c0, c1, hsm, hzl, _⟩ := hcond
        obtain ⟨s1, s2, s3⟩ := small_spec hsm
        rw [lenL_eq] at hzl
        have hzs : v.cells.size = i.size := by simpa using hzl
        simp only [Option.some.injEq, Prod.mk.injEq] at hs
        obtain ⟨rfl, rfl⟩ := hs
        have e1 := intOf_sound (evA_sound hT a) hn
        have e2 := intOf_sound (evA_sound hT c) hc
        have hcells : c2.toNat * i.size ≤ 16777216 := small_cells hsm
        have hbytes : (i.bytes : Int) * c2 ≤ 281474976710656 := by
          have h1 : i.bytes * c2.toNat ≤ 1024 * 2000000 := Nat.mul_le_mul s3 s1
          have h2 : ((i.bytes * c2.toNat : Nat) : Int) = (i.bytes : Int) * c2 := by rw [Int.natCast_mul, Int.toNat_of_nonneg (by omega)]
          omega
        have hr := run_makeSlice (P := E.P) w u el i v hu hi hv k1 k2 n c2 c0 c1 hcells hbytes (by omega)
        refine ⟨_, _, _, .inl ?_, newRow_sound (c := madeCells v.cells (c2.toNat * i.size)) (fz := (0, 0)) (len := n.toNat) (cap := c2.toNat) (sz := i.size) (capA := c2.toNat) (ex := true) H rfl ((Below.refl _ _).alloc H.baseLe _) ?_ (fun _ => ?_) ?_ (.inl rfl) ?_ (by omega) (Nat.le_refl _) (by unfold maxLen; omega) ?_ (fun _ => rfl)⟩
        · simp only [execOp, ho, e1, e2, Sem.run_bind, hr, Result.andThen_ok, Sem.run_pure]
        · rw [repeatC_length]; simp [hzs]
        · simp [size_madeCells]
        · simp [size_madeCells]
        · rw [List.take_of_length_le (by simp [size_madeCells])]
          exact repeat_sound m v.cells c2.toNat _ (by rw [hzs])
        · simp [size_madeCells]
      · simp at hs
    · simp at hs
  · simp at hs

theorem op_s2ap (hT : TR m tm t) (H : HR m base lvl h w) {o : Oper} {u : TypeId} {a : Operand} (ho : o.op = .sliceToArrayPointer u a) (hs : opA E lvl tm h o.op = some (x, h')) :
    ∃ y w' m', Does E.P t o w y w' ∧ Post m base lvl w x h' y w' m' := by
  rw [ho] at hs
  simp only [opA] at hs
  split at hs
  · rename_i n el b off len sz cap ex hu ha
    split at hs
    · rename_i hn'
      obtain ⟨hn, hn0⟩ := hn'
      simp only [Option.some.injEq, Prod.mk.injEq] at hs
      obtain ⟨rfl, rfl⟩ := hs
      have hv := evA_sound hT a
      rw [ha] at hv
      obtain ⟨hb, cc, o', hv', h0, h1, h1', _⟩ : CR m (.slc b off len sz cap ex) (evC t a) := hv
      obtain rfl : o' = off := by rcases h0 with h0 | h0 <;> omega
      refine ⟨_, w, m, .inl ?_, Post.same H (show VR m _ (.pointer (some ⟨m.ρ b, o', none⟩)) from ⟨hb, rfl⟩)⟩
      simp [execOp, ho, hv', Instr.arrayAt, run_underlying hu, show ¬ len < n by omega]
    · simp at hs
  · simp at hs

theorem AV.ce_sound {m : M} {a : AV} {e : CE} {y : Value} (h : a.ce? = some e) (hr : VR m a y) : CE.R m e y := by
  unfold AV.ce? at h
  split at h
  · split at h
    · rename_i c hc
      simp at h; subst h
      exact AC.ca_sound hc hr
    · simp at h
  · split at h
    · rename_i cs hc
      simp at h; subst h
      obtain ⟨vs, hy, ha⟩ := hr
      exact ⟨vs, hy, ca_all (allSome_eq hc) ha⟩
    · simp at h
  · simp at h
theorem ces_sound (hT : TR m tm t) : ∀ (os : List Operand) (es : List CE), (os.map fun c => (evA tm c).ce?) = es.map some → All2 (CE.R m) es (os.map (evC t))
  | [], [], _ => trivial
  | o :: os, e :: es, h => by
    simp only [List.map_cons, List.cons.injEq] at h
    exact ⟨AV.ce_sound h.1 (evA_sound hT o), ces_sound hT os es h.2⟩
  | [], _ :: _, h => by simp at h
  | _ :: _, [], h => by simp at h

theorem op_makeFunc (hT : TR m tm t) (H : HR m base lvl h w) {o : Oper} {f : FuncId} {first caps : Array Operand} (ho : o.op = .makeFunc (.func f) first caps) (hs : opA E lvl tm h o.op = some (x, h')) :
    ∃ y w' m', Does E.P t o w y w' ∧ Post m base lvl w x h' y w' m' := by
  rw [ho] at hs
  simp only [opA] at hs
  split at hs
  · rename_i fs cs hf hc
    simp only [Option.some.injEq, Prod.mk.injEq] at hs
    obtain ⟨rfl, rfl⟩ := hs
    refine ⟨.func (.func f) (first.map (evC t)) (caps.map (evC t)), w, m, .inl ?_, Post.same H (show CR m (.clo f fs cs) _ from ⟨_, _, rfl, ?_, ?_⟩)⟩
    · simp [execOp, ho, Instr.makeFunc]
    · rw [Array.toList_map]; exact ces_sound hT _ _ (allSome_eq hf)
    · rw [Array.toList_map]; exact ces_sound hT _ _ (allSome_eq hc)
  · simp at hs

theorem intN_sound {m : M} {a : AV} {y : Value} {n : Int} (h : VR m a y) (hi : intN? a = some n) : ∃ k, y = .int k n := by
  unfold intN? at hi
  split at hi
  · simp only [Option.some.injEq] at hi
    subst hi
    exact ⟨_, h⟩
  · simp at hi

theorem bounds_sound (hT : TR m tm t) {isSlice : Bool} {len cap l u : Nat} {lo hi : Option Operand} {cap' : Nat} (hc : cap ≤ cap') (hlen : hi = none → len ≤ cap')
    (hs : sliceBoundsA len cap (lo.map (evA tm)) (hi.map (evA tm)) = some (l, u)) : ((Instr.sliceBounds isSlice len cap' (lo.map (evC t)) (hi.map (evC t)) none).run E.P w = .ok (l, u, cap') w ∧ u ≤ cap) ∧ l ≤ u ∧ u ≤ cap' := by
  unfold sliceBoundsA at hs
  split at hs
  · rename_i hh ll e1 e2
    split at hs
    · rename_i hcond
      simp only [Option.some.injEq, Prod.mk.injEq] at hs
      obtain ⟨rfl, rfl⟩ := hs
      refine ⟨⟨?_, by omega⟩, by omega, by omega⟩
      have hhn : ((hh.toNat : Nat) : Int) = hh := Int.toNat_of_nonneg (by omega)
      cases hi with
      | none =>
        simp at e1
        cases lo with
        | none => simp at e2; subst e2; subst e1; simp [Instr.sliceBounds]
        | some lo =>
          simp only [Option.map_some] at e2
          obtain ⟨k, hk⟩ := intN_sound (evA_sound hT lo) e2
          subst e1
          simp [Instr.sliceBounds, hk, run_sliceBound, hcond.1, hcond.2.1]
      | some hi =>
        simp only [Option.map_some] at e1
        obtain ⟨k1, hk1⟩ := intN_sound (evA_sound hT hi) e1
        cases lo with
        | none =>
          simp at e2; subst e2
          simp [Instr.sliceBounds, hk1, run_sliceBound, show 0 ≤ hh by omega, show hh ≤ (cap' : Int) by omega]
        | some lo =>
          simp only [Option.map_some] at e2
          obtain ⟨k, hk⟩ := intN_sound (evA_sound hT lo) e2
          simp [Instr.sliceBounds, hk, hk1, run_sliceBound, show 0 ≤ hh by omega, show hh ≤ (cap' : Int) by omega, hcond.1, hhn, hcond.2.1]
    · simp at hs
  · simp at hs

theorem sliceA_sound (hT : TR m tm t) (H : HR m base lvl h w) {o : Oper} {u : TypeId} {a : Operand} {lo hi : Option Operand} (ho : o.op = .slice u a lo hi none) (hs : sliceA E tm h u (evA tm a) lo hi = some (x, h')) :
    ∃ y w' m', Does E.P t o w y w' ∧ Post m base lvl w x h' y w' m' := by
  unfold sliceA at hs
  have hv := evA_sound hT a
  split at hs
  · rename_i n el b off hu ha
    rw [ha] at hv
    obtain ⟨hb, hv'⟩ : b < m.n ∧ evC t a = _ := hv
    split at hs
    · rename_i e ab l r he hblk hbd
      split at hs
      · rename_i hfit'
        obtain ⟨hfit, hn5⟩ := hfit'
        simp only [Option.some.injEq, Prod.mk.injEq] at hs
        obtain ⟨rfl, rfl⟩ := hs
        obtain ⟨h1, h2, h3⟩ := bounds_sound (E := E) (w := w) (isSlice := false) hT (Nat.le_refl n) (fun _ => Nat.le_refl n) hbd
        obtain ⟨_, _, cc, _, _, g4, _, g6, _⟩ := H.blk b ab (blk_eq hblk) (blk_ext hblk)
        refine ⟨.slice (some (if n = l then ⟨m.ρ b, off, none⟩ else (⟨m.ρ b, off, none⟩ : Addr).add (l * e.size))) (r - l) (n - l), w, m, .inl ?_, Post.same H ?_⟩
        · simp [execOp, ho, hv', Instr.sliceAt, run_underlying hu, Instr.sureAddr, h1.1, run_sizeOf he]
        · show CR m (.slc b (off + l * e.size) (r - l) e.size (n - l) true) _
          have hmul : l * e.size + (n - l) * e.size = n * e.size := by rw [← Nat.add_mul]; congr 1; omega
          by_cases hnl : n = l
          · refine ⟨hb, n - l, off, by simp [hnl], .inr (by omega), by omega, Nat.le_refl _, ?_, by omega, fun _ => rfl⟩
            unfold maxLen; omega
          · refine ⟨hb, n - l, off + l * e.size, by simp [hnl, addr_add], .inl rfl, by omega, Nat.le_refl _, by unfold maxLen; omega, by omega, fun _ => rfl⟩
      · simp at hs
    · simp at hs
  · rename_i el b off len sz cap ex hu ha
    rw [ha] at hv
    obtain ⟨hb, cc, o', hv', g0, g1, g1', g2, g3, g4⟩ : CR m (.slc b off len sz cap ex) (evC t a) := hv
    split at hs
    · rename_i e l r he hbd
      split at hs
      · rename_i hsz
        simp only [Option.some.injEq, Prod.mk.injEq] at hs
        obtain ⟨rfl, rfl⟩ := hs
        obtain ⟨h1, h2, h3⟩ := bounds_sound (E := E) (w := w) (isSlice := true) hT g1' (fun _ => by omega) hbd
        refine ⟨.slice (if cc = l then some ⟨m.ρ b, o', none⟩ else some ((⟨m.ρ b, o', none⟩ : Addr).add (l * e.size))) (r - l) (cc - l), w, m, .inl ?_, Post.same H ?_⟩
        · simp [execOp, ho, hv', Instr.sliceAt, Instr.slice, run_underlying hu, h1.1, run_sizeOf he]
        · show CR m (.slc b (off + l * sz) (r - l) sz (cap - l) ex) _
          have hmul : l * sz + (cc - l) * sz = cc * sz := by rw [← Nat.add_mul]; congr 1; omega
          have hcap : ex = true → cc - l = cap - l := fun hx => by rw [g4 hx]
          by_cases hnl : cc = l
          · exact ⟨hb, cc - l, o', by simp [hnl], .inr (by omega), by omega, by omega, by omega, by omega, hcap⟩
          · obtain rfl : o' = off := by rcases g0 with g0 | g0 <;> omega
            exact ⟨hb, cc - l, o' + l * sz, by simp [hnl, addr_add, hsz], .inl rfl, by omega, by omega, by omega, by omega, hcap⟩
      · simp at hs
    · simp at hs
  · simp at hs

theorem bounds3_sound (hT : TR m tm t) {len cap l u cap' : Nat} {mm : Int} {lo hi : Option Operand} {mx : Operand} (hc : cap ≤ cap') (hsome : hi.isSome = true) (hm : intN? (evA tm mx) = some mm) (hu : (u : Int) ≤ mm) (hmc : mm ≤ cap)
    (hs : sliceBoundsA 0 cap (lo.map (evA tm)) (hi.map (evA tm)) = some (l, u)) : (Instr.sliceBounds true len cap' (lo.map (evC t)) (hi.map (evC t)) (some (evC t mx))).run E.P w = .ok (l, u, mm.toNat) w ∧ l ≤ u := by
  unfold sliceBoundsA at hs
  split at hs
  · rename_i hh ll e1 e2
    split at hs
    · rename_i hcond
      simp only [Option.some.injEq, Prod.mk.injEq] at hs
      obtain ⟨rfl, rfl⟩ := hs
      refine ⟨?_, by omega⟩
      have hhn : ((hh.toNat : Nat) : Int) = hh := Int.toNat_of_nonneg (by omega)
      have hmn : ((mm.toNat : Nat) : Int) = mm := Int.toNat_of_nonneg (by omega)
      obtain ⟨k0, hk0⟩ := intN_sound (evA_sound hT mx) hm
      cases hi with
      | none => simp at hsome
      | some hi =>
        simp only [Option.map_some] at e1
        obtain ⟨k1, hk1⟩ := intN_sound (evA_sound hT hi) e1
        cases lo with
        | none =>
          simp at e2; subst e2
          simp [Instr.sliceBounds, hk0, hk1, run_sliceBound, show 0 ≤ hh by omega, show 0 ≤ mm by omega, show mm ≤ (cap' : Int) by omega, hmn, show hh ≤ mm by omega]
        | some lo =>
          simp only [Option.map_some] at e2
          obtain ⟨k, hk⟩ := intN_sound (evA_sound hT lo) e2
          simp [Instr.sliceBounds, hk, hk0, hk1, run_sliceBound, show 0 ≤ hh by omega, show 0 ≤ mm by omega, show mm ≤ (cap' : Int) by omega, hmn, show hh ≤ mm by omega, hcond.1, hhn, hcond.2.1]
    · simp at hs
  · simp at hs

theorem sliceA3_sound (hT : TR m tm t) (H : HR m base lvl h w) {o : Oper} {u : TypeId} {a : Operand} {lo hi : Option Operand} {mx : Operand} (ho : o.op = .slice u a lo hi (some mx)) (hs : sliceA3 E tm h u (evA tm a) lo hi mx = some (x, h')) :
    ∃ y w' m', Does E.P t o w y w' ∧ Post m base lvl w x h' y w' m' := by
  unfold sliceA3 at hs
  have hv := evA_sound hT a
  split at hs
  · rename_i el b off len sz cap ex hu ha
    rw [ha] at hv
    obtain ⟨hb, cc, o', hv', g0, g1, g1', g2, g3, g4⟩ : CR m (.slc b off len sz cap ex) (evC t a) := hv
    split at hs
    · rename_i e mm l r he hmm hbd
      split at hs
      · rename_i hcond
        obtain ⟨hsz, hsome, hrm, hmc⟩ := hcond
        simp only [Option.some.injEq, Prod.mk.injEq] at hs
        obtain ⟨rfl, rfl⟩ := hs
        obtain ⟨h1, h2⟩ := bounds3_sound (E := E) (w := w) (len := len) hT g1' hsome hmm hrm hmc hbd
        have hmn : ((mm.toNat : Nat) : Int) = mm := Int.toNat_of_nonneg (by omega)
        refine ⟨.slice (if mm.toNat = l then some ⟨m.ρ b, o', none⟩ else some ((⟨m.ρ b, o', none⟩ : Addr).add (l * e.size))) (r - l) (mm.toNat - l), w, m, .inl ?_, Post.same H ?_⟩
        · simp [execOp, ho, hv', Instr.sliceAt, Instr.slice, run_underlying hu, h1, run_sizeOf he]
        · show CR m (.slc b (off + l * sz) (r - l) sz (mm.toNat - l) true) _
          have hle : mm.toNat ≤ cc := by omega
          have hmul : l * sz + (mm.toNat - l) * sz = mm.toNat * sz := by rw [← Nat.add_mul]; congr 1; omega
          have hmul2 : mm.toNat * sz ≤ cc * sz := Nat.mul_le_mul_right _ hle
          by_cases hnl : mm.toNat = l
          · exact ⟨hb, mm.toNat - l, o', by simp [hnl], .inr (by omega), by omega, Nat.le_refl _, by omega, by omega, fun _ => rfl⟩
          · obtain rfl : o' = off := by rcases g0 with g0 | g0 <;> omega
            exact ⟨hb, mm.toNat - l, o' + l * sz, by simp [hnl, addr_add, hsz], .inl rfl, by omega, Nat.le_refl _, by omega, by omega, fun _ => rfl⟩
      · simp at hs
    · simp at hs
  · simp at hs

end ops
end Go.Ev
