/-
  copy, len, conversions; all operations but calls.
-/
import Derived.MapKept
import Derived.Test.YtgplabfjldndgaaGreatDoorEvG
namespace Go.Ev
open Go.RowKit Go.MapKept

section ops
variable {E : Env} {m : M} {base lvl : Nat} {h h' : Heap} {w : World} {tm : Tm} {t : Array Value} {x : AV}

theorem copyA_sound (H : HR m base lvl h w) {u xu ty : TypeId} {s xv : AV} {ys yx : Value} (hys : VR m s ys) (hyx : VR m xv yx) (hs : copyA E lvl h u s xv = some (x, h')) :
    ∃ y w' m', (Builtin.copy_ #[u, xu] ty #[ys, yx]).run E.P w = .ok y w' ∧ Post m base lvl w x h' y w' m' := by
  unfold copyA at hs
  split at hs
  · rename_i el b o dl sz cp ex bx ox sl sx cx ex2 hu
    split at hs
    · rename_i i a hi hb
      split at hs
      · rename_i hsz
        subst hsz
        split at hs
        · rename_i xs hxs
          split at hs
          · rename_i hc
            obtain ⟨hl, h0, hroom, hone⟩ := hc
            simp only [Option.some.injEq, Prod.mk.injEq] at hs
            obtain ⟨rfl, rfl⟩ := hs
            obtain ⟨hbn, cc, o', rfl, g0, g1, g1', g2, g3, g4⟩ : CR m (.slc b o dl i.size cp ex) ys := hys
            obtain ⟨ad, len', cx', news, rfl, hn, hnl, hnews, hrel⟩ := srcCells_sound H hyx hxs
            have hlen' : len' = sl := by
              obtain ⟨_, _, _, e, _⟩ : CR m (.slc bx ox sl sx cx ex2) _ := hyx
              simp only [Value.slice.injEq] at e
              exact e.2.1
            subst hlen'
            obtain rfl : o' = o := by rcases g0 with g0 | g0 <;> omega
            obtain ⟨w', hw, hH, hB⟩ := write_sound (E := E) (o := o') H (blk_eq hb) (blk_ext hb) hl hrel hone (by rw [hrel.length, hnl]; exact hroom)
            have hf := run_firstCells_some (P := E.P) w i.size (Nat.min len' dl) ad len' cx' news hnl hnews
            refine ⟨_, w', m, ?_, M.le.refl m, (show CR m (.v _) _ from rfl), by rw [setL_eq]; exact hH, hB⟩
            simp only [Nat.min_def] at hf ⊢
            simp [Builtin.copy_, run_underlying hu, run_sizeOf hi, Builtin.lenOf, Nat.min_def, hf, hw, goInt]
          · simp at hs
        · simp at hs
      · simp at hs
    · simp at hs
  · simp at hs

theorem clearA_sound (H : HR m base lvl h w) {u ty : TypeId} {s : AV} {ys : Value} (hys : VR m s ys) (hs : clearA E lvl h u s = some (x, h')) :
    ∃ y w' m', (Builtin.clear_ #[u] ty #[ys]).run E.P w = .ok y w' ∧ Post m base lvl w x h' y w' m' := by
  unfold clearA at hs
  split at hs
  · rename_i el b o len sz cap ex hu
    obtain ⟨hbn, cc, o', rfl, g0, g1, g1', g2, g3, g4⟩ : CR m (.slc b o len sz cap ex) ys := hys
    split at hs
    · rename_i h0
      subst h0
      simp only [Option.some.injEq, Prod.mk.injEq] at hs
      obtain ⟨rfl, rfl⟩ := hs
      refine ⟨.tuple #[], w, m, ?_, Post.same H ⟨#[], rfl, trivial⟩⟩
      simp [Builtin.clear_, run_underlying hu]
    · rename_i h0
      split at hs
      · rename_i i z a hi0 hz hb
        obtain ⟨i', v, hi, hv, rfl⟩ := zeroA_some hz
        split at hs
        · rename_i hc
          obtain ⟨hlb, hsz, hzl, h00, hroom, hone⟩ := hc
          rw [lenL_eq] at hzl
          simp only [Option.some.injEq, Prod.mk.injEq] at hs
          obtain ⟨rfl, rfl⟩ := hs
          obtain rfl : o' = o := by rcases g0 with g0 | g0 <;> omega
          have hvs : v.cells.size = sz := by simpa using hzl
          have hrel : All2 (CR m) (repeatC (v.cells.toList.map AC.v) len) (Builtin.zeroCells v.cells len).toList := repeat_sound m v.cells len (len * v.cells.size) rfl
          obtain ⟨w', hw, hH, hB⟩ := write_sound (E := E) (o := o') H (blk_eq hb) (blk_ext hb) hlb hrel hone (by rw [repeatC_length]; simp; rw [hvs]; exact hroom)
          refine ⟨.tuple #[], w', m, ?_, M.le.refl m, ⟨#[], rfl, trivial⟩, by rw [setL_eq]; exact hH, hB⟩
          obtain ⟨l, rfl⟩ : ∃ l, len = l + 1 := ⟨len - 1, by omega⟩
          simp [Builtin.clear_, run_underlying hu, zeroValue, typeInfo, hi, hv, hw]
        · simp at hs
      · simp at hs
  · simp at hs

theorem bytesOf_sound {m : M} : ∀ {cs : List AC} {bs : List UInt8} {ds : List Value}, bytesOf? cs = some bs → All2 (CR m) cs ds → ds = bs.map fun b => Value.int .u8 b.toNat
  | [], bs, ds, hb, ha => by
    simp [bytesOf?] at hb; subst hb
    cases ds with
    | nil => rfl
    | cons => exact ha.elim
  | c :: cs, bs, ds, hb, ha => by
    unfold bytesOf? at hb
    split at hb
    · rename_i heq; simp at heq
    · rename_i n r heq
      simp only [List.cons.injEq] at heq
      obtain ⟨rfl, rfl⟩ := heq
      cases ds with
      | nil => exact ha.elim
      | cons d ds =>
        split at hb
        · rename_i l hl
          split at hb
          · rename_i hn
            simp only [Option.some.injEq] at hb
            subst hb
            have ih := bytesOf_sound hl ha.2
            have hd : d = .int .u8 n := ha.1
            rw [hd, ih]
            simp only [List.map_cons, List.cons.injEq, Value.int.injEq, true_and, and_true]
            have : (UInt8.ofNat n.toNat).toNat = n.toNat := by simp; omega
            rw [this]
            exact (Int.toNat_of_nonneg hn.1).symm
          · simp at hb
        · simp at hb
    · simp at hb

theorem op_convert (hT : TR m tm t) (H : HR m base lvl h w) {o : Oper} {s d : TypeId} {a : Operand} (ho : o.op = .convert s d a) (hs : opA E lvl tm h o.op = some (x, h')) :
    ∃ y w' m', Does E.P t o w y w' ∧ Post m base lvl w x h' y w' m' := by
  rw [ho] at hs
  simp only [opA] at hs
  have hv := evA_sound hT a
  split at hs
  · rename_i el b off len sz cap ex hsu hdu ha
    rw [ha] at hv
    split at hs
    · rename_i ab hel hb
      split at hs
      · rename_i hc
        obtain ⟨rfl, h0⟩ := hc
        split at hs
        · rename_i cs hcs
          split at hs
          · rename_i bs hbs
            simp only [Option.some.injEq, Prod.mk.injEq] at hs
            obtain ⟨rfl, rfl⟩ := hs
            have hsrc : srcCells h 1 len (.e (.one (.slc b off len 1 cap ex))) = some cs := by
              simp only [srcCells, Nat.le_refl, and_self, if_true, hb, Nat.mul_one]
              exact hcs
            obtain ⟨ad, len', cc, ys, hy, hn, hl, hcell, hrel⟩ := srcCells_sound H hv hsrc
            have hys := bytesOf_sound hbs hrel
            have hlen : len' = len := by
              obtain ⟨_, _, _, e, _⟩ : CR m (.slc b off len 1 cap ex) _ := hv
              rw [hy] at e
              simp only [Value.slice.injEq] at e
              exact e.2.1
            have hbl : bs.length = len := by have := hl; rw [hys] at this; simpa using this
            have hr := run_convert_bytes_back (P := E.P) w s d el ad cc bs hsu hel hdu (fun j hj => hcell j _ (by rw [hys]; simp [hj]))
            refine ⟨.string ⟨bs.toArray⟩, w, m, .inl ?_, Post.same H (show CR m (.v _) _ from rfl)⟩
            rw [hbl] at hr
            simp only [execOp, ho, hy, hlen, Sem.run_bind, hr, Result.andThen_ok, Sem.run_pure]
          · simp at hs
        · simp at hs
      · simp at hs
    · simp at hs
  · rename_i el0 el b off len sz cap ex hsu hdu ha
    rw [ha] at hv
    split at hs
    · rename_i ab hel hb
      split at hs
      · rename_i hcond
        simp only [Bool.and_eq_true, Nat.ble_eq] at hcond
        obtain ⟨hsd, hlb⟩ := hcond
        obtain rfl : s = d := Nat.eq_of_beq_eq_true hsd
        obtain rfl : el0 = el := by rw [hsu] at hdu; simpa using hdu
        simp only [Option.some.injEq, Prod.mk.injEq] at hs
        obtain ⟨rfl, rfl⟩ := hs
        have hab := blk_eq hb
        obtain ⟨b1, b2, c, fz, b3, b4, b5, b6, b7⟩ := H.blk b ab hab (blk_ext hb)
        obtain ⟨hbn, cc, o', hv', hrest⟩ : CR m (.slc b off len sz cap ex) (evC t a) := hv
        have hlt := (Array.getElem?_eq_some_iff.1 b3).1
        have hsh : w.shape? (m.ρ b) = some (ab.elem, c.size) := by unfold World.shape?; rw [b3]
        have hot : ∀ k, k ≠ m.ρ b → (w.freeze ⟨m.ρ b, c.size, none⟩ 1).heap[k]? = w.heap[k]? := fun k hk => by
          simp [World.freeze, Array.getElem?_modify, Ne.symm hk]
        have hown := H.own b hlb (List.getElem?_eq_some_iff.1 hab).1
        refine ⟨evC t a, w.freeze ⟨m.ρ b, c.size, none⟩ 1, m, .inl ?_, M.le.refl m, ?_, ?_, ?_⟩
        · simp [execOp, ho, hv', convert, run_underlying hsu, run_underlying hel, markStringish, hsh]
        · rw [ha]; exact ⟨hbn, cc, o', hv', hrest⟩
        · have hset : h.set b (some ab) = h := by
            apply List.ext_getElem?
            intro i
            rw [List.getElem?_set]
            split
            · rename_i e; subst e; rw [hab]; simp
              exact (List.getElem?_eq_some_iff.1 hab).1
            · rfl
          have := H.putEnt hab hlb (w' := w.freeze ⟨m.ρ b, c.size, none⟩ 1) (by simp [World.freeze]) hot (a1 := ab) ⟨fun _ => ⟨b1, b2, c, (if fz.1 == fz.2 then (c.size, c.size + 1) else (min fz.1 c.size, max fz.2 (c.size + 1))), ?_, b4, ?_, b6, b7⟩, ?_⟩
          · rwa [hset] at this
          · simp [World.freeze, Array.getElem?_modify, b3]
          · intro hlo0
            have b5 := b5 hlo0
            unfold FzOk
            split
            · exact .inr (Nat.le_refl _)
            · rename_i hne
              have hne' : fz.1 ≠ fz.2 := by simpa using hne
              rcases b5 with h5 | h5
              · exact absurd h5 hne'
              · right; simp; omega
          · rw [blk_ext hb]; trivial
        · exact ⟨by simp [World.freeze], by simp [World.freeze], by simp [World.freeze], by simp [World.freeze], fun k hk => hot k (by omega)⟩
      · simp at hs
    · simp at hs
  · rename_i el s' hsu hdu ha
    rw [ha] at hv
    have hv' : evC t a = .string s' := hv
    split at hs
    · rename_i hel
      split at hs
      · rename_i hsm
        simp only [Option.some.injEq, Prod.mk.injEq] at hs
        obtain ⟨rfl, rfl⟩ := hs
        have hr := run_bytes_of_string (P := E.P) w s d el s' hsu hdu hel
        have hge := grownCap_ge w s'.size 0 el
        have hsize : (bytesRow s' (grownCap w s'.size 0 el)).size = grownCap w s'.size 0 el := by
          have : s'.data.size = s'.size := rfl
          simp [bytesRow, this]; omega
        refine ⟨_, _, _, .inl ?_, newRow_sound (c := bytesRow s' (grownCap w s'.size 0 el)) (fz := ((bytesRow s' (grownCap w s'.size 0 el)).size, (bytesRow s' (grownCap w s'.size 0 el)).size + 1)) (el := el) (len := s'.size) (cap := grownCap w s'.size 0 el) (sz := 1) (capA := s'.size) (ex := false)
          H rfl (((Below.refl _ _).drew).alloc H.baseLe _) ?_ (fun hk => by simp at hk) ?_ (.inr (Nat.le_refl _)) ?_ (Nat.le_refl _) hge (grownCap_le_maxLen w _ _ _ (by unfold maxLen; omega)) ?_ (fun hk => by simp at hk)⟩
        · simp only [execOp, ho, hv', Sem.run_bind, hr, Result.andThen_ok, Sem.run_pure]
        · simp
        · rw [hsize]; exact hge
        · have e : (bytesRow s' (grownCap w s'.size 0 el)).toList.take s'.size = s'.data.toList.map fun b => Value.int .u8 b.toNat := by
            have : s'.data.size = s'.size := rfl
            simp only [bytesRow, Array.toList_append, Array.toList_map]
            rw [List.take_append_of_le_length (by simp [this]), List.take_of_length_le (by simp [this])]
          rw [e]
          have := all2_v m (s'.data.toList.map fun b => Value.int .u8 b.toNat)
          rw [List.map_map] at this
          exact this
        · rw [hsize]; omega
      · simp at hs
    · simp at hs
  · simp at hs

/-! Maps. -/
theorem mapOf_spec {h : Heap} {b : Nat} {a : AB} {kv : List (Value × Value)} (hm : mapOf h b = some (a, kv)) : h[b]? = some (some a) ∧ a.ext = .map kv := by
  unfold mapOf at hm
  rw [getL_eq] at hm
  split at hm
  · rename_i a' ha
    split at hm
    · rename_i kv' hx
      simp only [Option.some.injEq, Prod.mk.injEq] at hm
      obtain ⟨rfl, rfl⟩ := hm
      exact ⟨ha, hx⟩
    · simp at hm
  · simp at hm
theorem keyB_spec {d : TypeDesc} {k : Value} (h : keyB d k = true) : IsKey d k := by
  cases d <;> cases k <;> simp_all [keyB, IsKey]
theorem sameK_now {d : TypeDesc} {a b : Value} {r : Bool} (h : sameK d a b = some r) : Instr.sameNow d a b = some r := by
  cases d <;> cases a <;> cases b <;> simp_all [sameK, Instr.sameNow]
theorem sameK_true {d : TypeDesc} {a b : Value} (h : sameK d a b = some true) : a = b := by
  cases d <;> cases a <;> cases b <;> simp [sameK] at h
  · obtain ⟨rfl, h⟩ := h; rw [h]
  · rw [(bytes_beq _ _).1 h]
theorem findKV_now {d : TypeDesc} {k : Value} : ∀ (es : List MapEntry) (i : Nat) {r : Option (Nat × Value)}, findKV d k (es.map fun e => (e.key, e.val)) i = some r → Instr.findNow d k es i = some r
  | [], i, r, h => by simpa [findKV, Instr.findNow] using h
  | e :: es, i, r, h => by
    have h' : (match sameK d k e.key with
      | some true => some (some (i, e.val))
      | some false => findKV d k (es.map fun e => (e.key, e.val)) (i + 1)
      | none => none) = some r := h
    unfold Instr.findNow
    cases hs : sameK d k e.key with
    | none => rw [hs] at h'; simp at h'
    | some b =>
      rw [hs] at h'
      rw [sameK_now hs]
      cases b with
      | true => exact h'
      | false => exact findKV_now es (i + 1) h'
theorem findKV_at {d : TypeDesc} {k : Value} : ∀ (l : List (Value × Value)) (i j : Nat) {v : Value}, findKV d k l i = some (some (j, v)) → i ≤ j ∧ l[j - i]? = some (k, v)
  | [], i, j, v, h => by simp [findKV] at h
  | e :: es, i, j, v, h => by
    have h' : (match sameK d k e.1 with
      | some true => some (some (i, e.2))
      | some false => findKV d k es (i + 1)
      | none => none) = some (some (j, v)) := h
    cases hs : sameK d k e.1 with
    | none => rw [hs] at h'; simp at h'
    | some b =>
      rw [hs] at h'
      cases b with
      | true =>
        simp only [Option.some.injEq, Prod.mk.injEq] at h'
        obtain ⟨rfl, rfl⟩ := h'
        rw [sameK_true hs]
        exact ⟨Nat.le_refl _, by simp⟩
      | false =>
        obtain ⟨h1, h2⟩ := findKV_at es (i + 1) j h'
        refine ⟨by omega, ?_⟩
        obtain ⟨n, hn⟩ : ∃ n, j - i = n + 1 := ⟨j - i - 1, by omega⟩
        rw [hn, List.getElem?_cons_succ, ← show j - (i + 1) = n by omega]
        exact h2
theorem sameBits_key {d : TypeDesc} {k : Value} (h : IsKey d k) : Instr.sameBits 10000 k k = true := by
  cases d <;> cases k <;> try exact h.elim
  · unfold Instr.sameBits; simp
  · unfold Instr.sameBits; simp
  · unfold Instr.sameBits; exact (bytes_beq _ _).2 rfl

theorem op_makeMap (hT : TR m tm t) (H : HR m base lvl h w) {o : Oper} {u : TypeId} {r : Option Operand} (ho : o.op = .makeMap u r) (hs : opA E lvl tm h (.makeMap u r) = some (x, h')) : ∃ y w' m', Does E.P t o w y w' ∧ Post m base lvl w x h' y w' m' := by
  simp only [opA] at hs
  split at hs
  · rename_i k e hu hr
    simp only [Option.some.injEq, Prod.mk.injEq] at hs
    obtain ⟨rfl, rfl⟩ := hs
    rw [appL_eq]
    refine ⟨.map (some w.heap.size), w.alloc (.map #[] 0), m.push w.heap.size 0, .inl ?_, M.le_push _ _ _, ?_, ?_, (Below.refl _ _).alloc H.baseLe _⟩
    · cases r with
      | none => simp [execOp, ho, Instr.makeMap]
      | some c =>
        simp only at hr
        split at hr
        · rename_i q z hz
          have hv := evA_sound hT c
          rw [hz] at hv
          have hv : evC t c = .int q z := hv
          simp [execOp, ho, Instr.makeMap, run_underlying hu, asInt, asIntOf, hv]
        · simp at hr
    · show CR _ (.mp (lenL h)) _
      refine ⟨?_, ?_⟩
      · rw [lenL_eq, ← H.n]; simp
      · rw [lenL_eq, ← H.n, M.push_ρ]
    · refine H.newEnt rfl ⟨fun hx => by simp [mapEnt] at hx, ?_⟩
      refine ⟨#[], 0, ?_, rfl⟩
      rw [M.push_ρ]
      exact (heap_alloc w _).1
  · simp at hs

theorem op_lookup (hT : TR m tm t) (H : HR m base lvl h w) {o : Oper} {u : TypeId} {a c : Operand} {ok : Bool} (ho : o.op = .lookup u a c ok) (hs : opA E lvl tm h (.lookup u a c ok) = some (x, h')) : ∃ y w' m', Does E.P t o w y w' ∧ Post m base lvl w x h' y w' m' := by
  simp only [opA] at hs
  split at hs
  · rename_i key elem b k hu ha hc
    have hva := evA_sound hT a
    rw [ha] at hva
    obtain ⟨hb, hva⟩ : b < m.n ∧ evC t a = _ := hva
    have hvc := evA_sound hT c
    rw [hc] at hvc
    have hvc : evC t c = k := hvc
    split at hs
    · rename_i ab kv d z hm hd hz
      obtain ⟨h1, h2⟩ := mapOf_spec hm
      have hL := (H.ent b ab h1).2
      rw [h2] at hL
      obtain ⟨es, cl, g1, g2⟩ := hL
      obtain ⟨i, hi, hz⟩ : ∃ i, E.P.info? elem = some i ∧ i.zero = some z := by
        cases hi : E.P.info? elem with
        | none => rw [hi] at hz; simp at hz
        | some i => rw [hi] at hz; exact ⟨i, rfl, hz⟩
      split at hs
      · rename_i i' v hf hkb
        simp only [Option.some.injEq, Prod.mk.injEq] at hs
        obtain ⟨hx, rfl⟩ := hs
        have hf' := findKV_now es.toList 0 (by rw [g2]; exact hf)
        have hrun : (execOp (evC t) o).run E.P w = .ok (.value (if ok then .tuple #[v, .bool true] else v)) w := by
          simp [execOp, ho, Instr.lookup, run_underlying hu, hva, hvc, Go.MapKept.run_getObj_map g1, run_checkKey (n := 9999) hd (keyB_spec hkb), run_findKey hd hf', Result.andThen]
        refine ⟨_, w, m, .inl hrun, Post.same H ?_⟩
        rw [← hx]
        cases ok with
        | true => exact ⟨_, rfl, AE.of_sound m v, rfl, trivial⟩
        | false => exact AE.of_sound m v
      · rename_i hf hkb
        simp only [Option.some.injEq, Prod.mk.injEq] at hs
        obtain ⟨hx, rfl⟩ := hs
        have hf' := findKV_now es.toList 0 (by rw [g2]; exact hf)
        have hrun : (execOp (evC t) o).run E.P w = .ok (.value (if ok then .tuple #[z, .bool false] else z)) w := by
          simp [execOp, ho, Instr.lookup, run_underlying hu, hva, hvc, Go.MapKept.run_getObj_map g1, run_checkKey (n := 9999) hd (keyB_spec hkb), run_findKey hd hf', Result.andThen, zeroValue, typeInfo, hi, hz]
        refine ⟨_, w, m, .inl hrun, Post.same H ?_⟩
        rw [← hx]
        cases ok with
        | true => exact ⟨_, rfl, AE.of_sound m z, rfl, trivial⟩
        | false => exact AE.of_sound m z
      · simp at hs
    · simp at hs
  · simp at hs

theorem op_mapUpdate (hT : TR m tm t) (H : HR m base lvl h w) {o : Oper} {u : TypeId} {a c d : Operand} (ho : o.op = .mapUpdate u a c d) (hs : opA E lvl tm h (.mapUpdate u a c d) = some (x, h')) : ∃ y w' m', Does E.P t o w y w' ∧ Post m base lvl w x h' y w' m' := by
  simp only [opA] at hs
  split at hs
  · rename_i key _ b k e hu ha hc hd0
    have hva := evA_sound hT a
    rw [ha] at hva
    obtain ⟨hb, hva⟩ : b < m.n ∧ evC t a = _ := hva
    have hvc := evA_sound hT c
    rw [hc] at hvc
    have hvc : evC t c = k := hvc
    have hvd := evA_sound hT d
    rw [hd0] at hvd
    split at hs
    · rename_i ab kv kd v hm hd hv
      have hvd : evC t d = v := AE.val_sound (show ER m e _ from hvd) hv
      obtain ⟨h1, h2⟩ := mapOf_spec hm
      have hL := (H.ent b ab h1).2
      rw [h2] at hL
      obtain ⟨es, cl, g1, g2⟩ := hL
      split at hs
      · rename_i r hf hlb
        simp only [Bool.and_eq_true, Nat.ble_eq] at hlb
        obtain ⟨hlb, hkb⟩ := hlb
        simp only [Option.some.injEq, Prod.mk.injEq] at hs
        obtain ⟨rfl, rfl⟩ := hs
        have hf' := findKV_now es.toList 0 (by rw [g2]; exact hf)
        have hk := keyB_spec hkb
        have hlt : m.ρ b < w.heap.size := (Array.getElem?_eq_some_iff.1 g1).1
        obtain ⟨es', cl', hrun, hes⟩ : ∃ es' cl', (execOp (evC t) o).run E.P w = .ok .skip { w with heap := w.heap.setIfInBounds (m.ρ b) (.map es' cl') } ∧ es'.toList.map (fun e => (e.key, e.val)) = putKV k v kv r := by
          cases r with
          | none =>
            refine ⟨es.push { key := k, val := v, born := cl }, cl + 1, ?_, ?_⟩
            · simp [execOp, ho, Instr.mapUpdate, run_underlying hu, hva, hvc, hvd, Go.MapKept.run_getObj_map g1, run_checkKey (n := 9999) hd hk, run_findKey hd hf', Result.andThen, Go.MapKept.run_setObj_map _ g1]
            · simp [putKV, appL_eq, ← g2]
          | some p =>
            obtain ⟨i, v0⟩ := p
            have hat := (findKV_at kv 0 i hf).2
            rw [Nat.sub_zero, ← g2, List.getElem?_map] at hat
            obtain ⟨e0, he0, hk0⟩ : ∃ e0, es.toList[i]? = some e0 ∧ e0.key = k := by
              cases h0 : es.toList[i]? with
              | none => rw [h0] at hat; simp at hat
              | some e0 => rw [h0] at hat; simp at hat; exact ⟨e0, rfl, hat.1⟩
            have he1 : es[i]? = some e0 := by simpa using he0
            refine ⟨es.modify i fun e => { e with key := k, val := v }, cl, ?_, ?_⟩
            · simp [execOp, ho, Instr.mapUpdate, run_underlying hu, hva, hvc, hvd, Go.MapKept.run_getObj_map g1, run_checkKey (n := 9999) hd hk, run_findKey hd hf', Result.andThen, he1, hk0, Instr.keyThatStays, sameBits_key hk, Go.MapKept.run_setObj_map _ g1]
            · simp only [putKV, setL_eq, ← g2]
              apply List.ext_getElem?
              intro j
              simp only [List.getElem?_map, Array.getElem?_toList, Array.getElem?_modify, List.getElem?_set]
              by_cases hj : i = j
              · subst hj
                have hil : i < es.toList.length := (List.getElem?_eq_some_iff.1 he0).1
                have hil' : i < es.size := by simpa using hil
                simp [he1, hil']
              · simp [hj]
        refine ⟨undef, { w with heap := w.heap.setIfInBounds (m.ρ b) (.map es' cl') }, m, .inr ⟨hrun, rfl⟩, M.le.refl m, ⟨#[], rfl, trivial⟩, ?_, ?_⟩
        · rw [setL_eq]
          refine H.putEnt h1 hlb (by simp) (fun k' hk' => (heap_set g1).2 k' hk') ⟨fun hx => by simp at hx, ?_⟩
          exact ⟨es', cl', (heap_set g1).1, hes⟩
        · have hown := H.own b hlb (List.getElem?_eq_some_iff.1 h1).1
          exact ⟨rfl, rfl, rfl, by simp, fun k' hk' => (heap_set g1).2 k' (by omega)⟩
      · simp at hs
    · simp at hs
  · simp at hs

/-! The runes of a string. -/
theorem iterOf_spec {h : Heap} {b : Nat} {a : AB} {s : ByteArray} {p : Nat} (hm : iterOf h b = some (a, s, p)) : h[b]? = some (some a) ∧ a.ext = .iter s p := by
  unfold iterOf at hm
  rw [getL_eq] at hm
  split at hm
  · rename_i a' ha
    split at hm
    · rename_i s' p' hx
      simp only [Option.some.injEq, Prod.mk.injEq] at hm
      obtain ⟨rfl, rfl, rfl⟩ := hm
      exact ⟨ha, hx⟩
    · simp at hm
  · simp at hm
theorem op_range (hT : TR m tm t) (H : HR m base lvl h w) {o : Oper} {u : TypeId} {a : Operand} (ho : o.op = .range u a) (hs : opA E lvl tm h (.range u a) = some (x, h')) : ∃ y w' m', Does E.P t o w y w' ∧ Post m base lvl w x h' y w' m' := by
  simp only [opA] at hs
  split at hs
  · rename_i s hu ha
    simp only [Option.some.injEq, Prod.mk.injEq] at hs
    obtain ⟨rfl, rfl⟩ := hs
    have hv := evA_sound hT a
    rw [ha] at hv
    have hv : evC t a = .string s := hv
    rw [appL_eq]
    refine ⟨.pointer (some ⟨w.heap.size, 0, none⟩), w.alloc (.stringIter s 0), m.push w.heap.size 0, .inl ?_, M.le_push _ _ _, ?_, ?_, (Below.refl _ _).alloc H.baseLe _⟩
    · simp [execOp, ho, hv, Instr.range, run_underlying hu]
    · show CR _ (.ptr (lenL h) 0) _
      refine ⟨?_, ?_⟩
      · rw [lenL_eq, ← H.n]; simp
      · rw [lenL_eq, ← H.n, M.push_ρ]
    · refine H.newEnt rfl ⟨fun hx => by simp [iterEnt] at hx, ?_⟩
      show (w.alloc (.stringIter s 0)).heap[(m.push w.heap.size 0).ρ m.n]? = _
      rw [M.push_ρ]
      exact (heap_alloc w _).1
  · simp at hs
theorem op_next (hT : TR m tm t) (H : HR m base lvl h w) {o : Oper} {a : Operand} (ho : o.op = .next a true) (hs : opA E lvl tm h (.next a true) = some (x, h')) : ∃ y w' m', Does E.P t o w y w' ∧ Post m base lvl w x h' y w' m' := by
  simp only [opA] at hs
  split at hs
  · rename_i b ha
    have hv := evA_sound hT a
    rw [ha] at hv
    obtain ⟨hb, hv⟩ : b < m.n ∧ evC t a = .pointer (some ⟨m.ρ b, 0, none⟩) := hv
    split at hs
    · rename_i ab s pos hit
      obtain ⟨h1, h2⟩ := iterOf_spec hit
      have hL := (H.ent b ab h1).2
      rw [h2] at hL
      have hL : w.heap[m.ρ b]? = some (.stringIter s pos) := hL
      have hg : (getObj (m.ρ b)).run E.P w = .ok (.stringIter s pos) w := by simp [getObj, Sem.run, hL]
      have hset : ∀ o' : Obj, (setObj (m.ρ b) o').run E.P w = .ok () { w with heap := w.heap.setIfInBounds (m.ρ b) o' } := fun o' => by simp [setObj, Sem.run, hL]
      split at hs
      · rename_i hlb
        rw [Nat.ble_eq] at hlb
        split at hs
        · rename_i hlt
          simp only [Option.some.injEq, Prod.mk.injEq] at hs
          obtain ⟨rfl, rfl⟩ := hs
          refine ⟨.tuple #[.bool true, .int .i64 pos, .int .i32 (Utf8.decode s pos).1], { w with heap := w.heap.setIfInBounds (m.ρ b) (.stringIter s (pos + (Utf8.decode s pos).2)) }, m, .inl ?_, M.le.refl m, ⟨_, rfl, rfl, rfl, rfl, trivial⟩, ?_, ?_⟩
          · simp [execOp, ho, hv, Instr.next, hg, hlt, hset, goInt]
          · rw [setL_eq]
            refine H.putEnt h1 hlb (by simp) (fun k' hk' => (heap_set hL).2 k' hk') ⟨fun hx => by simp at hx, ?_⟩
            exact (heap_set hL).1
          · have hown := H.own b hlb (List.getElem?_eq_some_iff.1 h1).1
            exact ⟨rfl, rfl, rfl, by simp, fun k' hk' => (heap_set hL).2 k' (by omega)⟩
        · rename_i hlt
          simp only [Option.some.injEq, Prod.mk.injEq] at hs
          obtain ⟨rfl, rfl⟩ := hs
          refine ⟨.tuple #[.bool false], w, m, .inl ?_, Post.same H ⟨_, rfl, rfl, trivial⟩⟩
          simp [execOp, ho, hv, Instr.next, hg, hlt]
      · simp at hs
    · simp at hs
  · simp at hs

theorem opA_sound (hT : TR m tm t) (H : HR m base lvl h w) {o : Oper} (hs : opA E lvl tm h o.op = some (x, h')) : ∃ y w' m', Does E.P t o w y w' ∧ Post m base lvl w x h' y w' m' := by
  cases ho : o.op with
  | pick c a b => exact op_pick hT H ho hs
  | extract c i => exact op_extract hT H ho hs
  | alloc u => exact op_alloc H ho hs
  | box u c => exact op_box hT H ho hs
  | store u a c => exact op_store hT H ho hs
  | nilCheck a => exact op_nilCheck hT H ho hs
  | fieldAddr s a f => exact op_fieldAddr hT H ho hs
  | indexAddr s a c => exact op_indexAddr hT H ho hs
  | build u ps => exact op_build hT H ho hs
  | buildSlice u len ps => exact op_buildSlice hT H ho hs
  | makeSlice u a c => exact op_makeSlice hT H ho hs
  | sliceToArrayPointer u a => exact op_s2ap hT H ho hs
  | convert s d a => exact op_convert hT H ho hs
  | makeFunc fn first caps =>
    cases fn with
    | func f => exact op_makeFunc hT H ho hs
    | _ => rw [ho] at hs; simp [opA] at hs
  | range u a => exact op_range hT H ho (by rw [ho] at hs; exact hs)
  | next a b =>
    cases b with
    | true => exact op_next hT H ho (by rw [ho] at hs; exact hs)
    | false => rw [ho] at hs; simp [opA] at hs
  | makeMap u r => exact op_makeMap hT H ho (by rw [ho] at hs; exact hs)
  | lookup u a c ok => exact op_lookup hT H ho (by rw [ho] at hs; exact hs)
  | mapUpdate u a c d => exact op_mapUpdate hT H ho (by rw [ho] at hs; exact hs)
  | _ => rw [ho] at hs; simp [opA] at hs

end ops
end Go.Ev
