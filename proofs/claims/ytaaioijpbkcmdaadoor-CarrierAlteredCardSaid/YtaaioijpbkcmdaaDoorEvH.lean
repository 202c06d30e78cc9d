/-
  copy, len, conversions; all operations but calls.
-/
import Derived.Test.YtaaioijpbkcmdaaDoorEvG
namespace Go.Ev
open Go.RowKit

section ops
variable {E : Env} {m : M} {base lvl : Nat} {h h' : Heap} {w : World} {tm : Tm} {t : Array Value} {x : AV}

theorem copyA_sound (H : HR m base lvl h w) {u xu ty : TypeId} {s xv : AV} {ys yx : Value} (hys : VR m s ys) (hyx : VR m xv yx) (hs : copyA E lvl h u s xv = some (x, h')) :
    ∃ y w' m', (Builtin.copy_ #[u, xu] ty #[ys, yx]).run E.P w = .ok y w' ∧ Post m base lvl w x h' y w' m' := by
  unfold copyA at hs
  split at hs
  · rename_i el b o dl sz cp ex bx ox sl sx cx ex2 hu
    split at hs
    · rename_i i a hi hb
      split at hs
      · rename_i hsz
        subst hsz
        split at hs
        · rename_i xs hxs
          split at hs
          · rename_i hc
            obtain ⟨hl, h0, hroom, hone⟩ := hc
            simp only [Option.some.injEq, Prod.mk.injEq] at hs
            obtain ⟨rfl, rfl⟩ := hs
            obtain ⟨hbn, cc, o', rfl, g0, g1, g1', g2, g3, g4⟩ : CR m (.slc b o dl i.size cp ex) ys := hys
            obtain ⟨ad, len', cx', news, rfl, hn, hnl, hnews, hrel⟩ := srcCells_sound H hyx hxs
            have hlen' : len' = sl := by
              obtain ⟨_, _, _, e, _⟩ : CR m (.slc bx ox sl sx cx ex2) _ := hyx
              simp only [Value.slice.injEq] at e
              exact e.2.1
            subst hlen'
            obtain rfl : o' = o := by rcases g0 with g0 | g0 <;> omega
            obtain ⟨w', hw, hH, hB⟩ := write_sound (E := E) (o := o') H (blk_eq hb) (blk_ext hb) hl hrel hone (by rw [hrel.length, hnl]; exact hroom)
            have hf := run_firstCells_some (P := E.P) w i.size (Nat.min len' dl) ad len' cx' news hnl hnews
            refine ⟨_, w', m, ?_, M.le.refl m, (show CR m (.v _) _ from rfl), by rw [setL_eq]; exact hH, hB⟩
            simp only [Nat.min_def] at hf ⊢
            simp [Builtin.copy_, run_underlying hu, run_sizeOf hi, Builtin.lenOf, Nat.min_def, hf, hw, goInt]
          · simp at hs
        · simp at hs
      · simp at hs
    · simp at hs
  · simp at hs

theorem clearA_sound (H : HR m base lvl h w) {u ty : TypeId} {s : AV} {ys : Value} (hys : VR m s ys) (hs : clearA E lvl h u s = some (x, h')) :
    ∃ y w' m', (Builtin.clear_ #[u] ty #[ys]).run E.P w = .ok y w' ∧ Post m base lvl w x h' y w' m' := by
  unfold clearA at hs
  split at hs
  · rename_i el b o len sz cap ex hu
    obtain ⟨hbn, cc, o', rfl, g0, g1, g1', g2, g3, g4⟩ : CR m (.slc b o len sz cap ex) ys := hys
    split at hs
    · rename_i h0
      subst h0
      simp only [Option.some.injEq, Prod.mk.injEq] at hs
      obtain ⟨rfl, rfl⟩ := hs
      refine ⟨.tuple #[], w, m, ?_, Post.same H ⟨#[], rfl, trivial⟩⟩
      simp [Builtin.clear_, run_underlying hu]
    · rename_i h0
      split at hs
      · rename_i i z a hi0 hz hb
        obtain ⟨i', v, hi, hv, rfl⟩ := zeroA_some hz
        split at hs
        · rename_i hc
          obtain ⟨hlb, hsz, hzl, h00, hroom, hone⟩ := hc
          rw [lenL_eq] at hzl
          simp only [Option.some.injEq, Prod.mk.injEq] at hs
          obtain ⟨rfl, rfl⟩ := hs
          obtain rfl : o' = o := by rcases g0 with g0 | g0 <;> omega
          have hvs : v.cells.size = sz := by simpa using hzl
          have hrel : All2 (CR m) (repeatC (v.cells.toList.map AC.v) len) (Builtin.zeroCells v.cells len).toList := repeat_sound m v.cells len (len * v.cells.size) rfl
          obtain ⟨w', hw, hH, hB⟩ := write_sound (E := E) (o := o') H (blk_eq hb) (blk_ext hb) hlb hrel hone (by rw [repeatC_length]; simp; rw [hvs]; exact hroom)
          refine ⟨.tuple #[], w', m, ?_, M.le.refl m, ⟨#[], rfl, trivial⟩, by rw [setL_eq]; exact hH, hB⟩
          obtain ⟨l, rfl⟩ : ∃ l, len = l + 1 := ⟨len - 1, by omega⟩
          simp [Builtin.clear_, run_underlying hu, zeroValue, typeInfo, hi, hv, hw]
        · simp at hs
      · simp at hs
  · simp at hs

theorem bytesOf_sound {m : M} : ∀ {cs : List AC} {bs : List UInt8} {ds : List Value}, bytesOf? cs = some bs → All2 (CR m) cs ds → ds = bs.map fun b => Value.int .u8 b.toNat
  | [], bs, ds, hb, ha => by
    simp [bytesOf?] at hb; subst hb
    cases ds with
    | nil => rfl
    | cons => exact ha.elim
  | c :: cs, bs, ds, hb, ha => by
    unfold bytesOf? at hb
    split at hb
    · rename_i heq; simp at heq
    · rename_i n r heq
      simp only [List.cons.injEq] at heq
      obtain ⟨rfl, rfl⟩ := heq
      cases ds with
      | nil => exact ha.elim
      | cons d ds =>
        split at hb
        · rename_i l hl
          split at hb
          · rename_i hn
            simp only [Option.some.injEq] at hb
            subst hb
            have ih := bytesOf_sound hl ha.2
            have hd : d = .int .u8 n := ha.1
            rw [hd, ih]
            simp only [List.map_cons, List.cons.injEq, Value.int.injEq, true_and, and_true]
            have : (UInt8.ofNat n.toNat).toNat = n.toNat := by simp; omega
            rw [this]
            exact (Int.toNat_of_nonneg hn.1).symm
          · simp at hb
        · simp at hb
    · simp at hb

theorem op_convert (hT : TR m tm t) (H : HR m base lvl h w) {o : Oper} {s d : TypeId} {a : Operand} (ho : o.op = .convert s d a) (hs : opA E lvl tm h o.op = some (x, h')) :
    ∃ y w' m', Does E.P t o w y w' ∧ Post m base lvl w x h' y w' m' := by
  rw [ho] at hs
  simp only [opA] at hs
  have hv := evA_sound hT a
  split at hs
  · rename_i el b off len sz cap ex hsu hdu ha
    rw [ha] at hv
    split at hs
    · rename_i ab hel hb
      split at hs
      · rename_i hc
        obtain ⟨rfl, h0⟩ := hc
        split at hs
        · rename_i cs hcs
          split at hs
          · rename_i bs hbs
            simp only [Option.some.injEq, Prod.mk.injEq] at hs
            obtain ⟨rfl, rfl⟩ := hs
            have hsrc : srcCells h 1 len (.e (.one (.slc b off len 1 cap ex))) = some cs := by
              simp only [srcCells, Nat.le_refl, and_self, if_true, hb, Nat.mul_one]
              exact hcs
            obtain ⟨ad, len', cc, ys, hy, hn, hl, hcell, hrel⟩ := srcCells_sound H hv hsrc
            have hys := bytesOf_sound hbs hrel
            have hlen : len' = len := by
              obtain ⟨_, _, _, e, _⟩ : CR m (.slc b off len 1 cap ex) _ := hv
              rw [hy] at e
              simp only [Value.slice.injEq] at e
              exact e.2.1
            have hbl : bs.length = len := by have := hl; rw [hys] at this; simpa using this
            have hr := run_convert_bytes_back (P := E.P) w s d el ad cc bs hsu hel hdu (fun j hj => hcell j _ (by rw [hys]; simp [hj]))
            refine ⟨.string ⟨bs.toArray⟩, w, m, .inl ?_, Post.same H (show CR m (.v _) _ from rfl)⟩
            rw [hbl] at hr
            simp only [execOp, ho, hy, hlen, Sem.run_bind, hr, Result.andThen_ok, Sem.run_pure]
          · simp at hs
        · simp at hs
      · simp at hs
    · simp at hs
  · rename_i el0 el b off len sz cap ex hsu hdu ha
    rw [ha] at hv
    split at hs
    · rename_i ab hel hb
      split at hs
      · rename_i hcond
        simp only [Bool.and_eq_true, Nat.ble_eq] at hcond
        obtain ⟨hsd, hlb⟩ := hcond
        obtain rfl : s = d := Nat.eq_of_beq_eq_true hsd
        obtain rfl : el0 = el := by rw [hsu] at hdu; simpa using hdu
        simp only [Option.some.injEq, Prod.mk.injEq] at hs
        obtain ⟨rfl, rfl⟩ := hs
        have hab := blk_eq hb
        obtain ⟨b1, b2, c, fz, b3, b4, b5, b6, b7⟩ := H.blk b ab hab (blk_ext hb)
        obtain ⟨hbn, cc, o', hv', hrest⟩ : CR m (.slc b off len sz cap ex) (evC t a) := hv
        have hlt := (Array.getElem?_eq_some_iff.1 b3).1
        have hsh : w.shape? (m.ρ b) = some (ab.elem, c.size) := by unfold World.shape?; rw [b3]
        have hot : ∀ k, k ≠ m.ρ b → (w.freeze ⟨m.ρ b, c.size, none⟩ 1).heap[k]? = w.heap[k]? := fun k hk => by
          simp [World.freeze, Array.getElem?_modify, Ne.symm hk]
        have hown := H.own b hlb (List.getElem?_eq_some_iff.1 hab).1
        refine ⟨evC t a, w.freeze ⟨m.ρ b, c.size, none⟩ 1, m, .inl ?_, M.le.refl m, ?_, ?_, ?_⟩
        · simp [execOp, ho, hv', convert, run_underlying hsu, run_underlying hel, markStringish, hsh]
        · rw [ha]; exact ⟨hbn, cc, o', hv', hrest⟩
        · have hset : h.set b (some ab) = h := by
            apply List.ext_getElem?
            intro i
            rw [List.getElem?_set]
            split
            · rename_i e; subst e; rw [hab]; simp
              exact (List.getElem?_eq_some_iff.1 hab).1
            · rfl
          have := H.putEnt hab hlb (w' := w.freeze ⟨m.ρ b, c.size, none⟩ 1) (by simp [World.freeze]) hot (a1 := ab) ⟨fun _ => ⟨b1, b2, c, (if fz.1 == fz.2 then (c.size, c.size + 1) else (min fz.1 c.size, max fz.2 (c.size + 1))), ?_, b4, ?_, b6, b7⟩, ?_⟩
          · rwa [hset] at this
          · simp [World.freeze, Array.getElem?_modify, b3]
          · intro hlo0
            have b5 := b5 hlo0
            unfold FzOk
            split
            · exact .inr (Nat.le_refl _)
            · rename_i hne
              have hne' : fz.1 ≠ fz.2 := by simpa using hne
              rcases b5 with h5 | h5
              · exact absurd h5 hne'
              · right; simp; omega
          · rw [blk_ext hb]; trivial
        · exact ⟨by simp [World.freeze], by simp [World.freeze], by simp [World.freeze], by simp [World.freeze], fun k hk => hot k (by omega)⟩
      · simp at hs
    · simp at hs
  · rename_i el s' hsu hdu ha
    rw [ha] at hv
    have hv' : evC t a = .string s' := hv
    split at hs
    · rename_i hel
      split at hs
      · rename_i hsm
        simp only [Option.some.injEq, Prod.mk.injEq] at hs
        obtain ⟨rfl, rfl⟩ := hs
        have hr := run_bytes_of_string (P := E.P) w s d el s' hsu hdu hel
        have hge := grownCap_ge w s'.size 0 el
        have hsize : (bytesRow s' (grownCap w s'.size 0 el)).size = grownCap w s'.size 0 el := by
          have : s'.data.size = s'.size := rfl
          simp [bytesRow, this]; omega
        refine ⟨_, _, _, .inl ?_, newRow_sound (c := bytesRow s' (grownCap w s'.size 0 el)) (fz := ((bytesRow s' (grownCap w s'.size 0 el)).size, (bytesRow s' (grownCap w s'.size 0 el)).size + 1)) (el := el) (len := s'.size) (cap := grownCap w s'.size 0 el) (sz := 1) (capA := s'.size) (ex := false)
          H rfl (((Below.refl _ _).drew).alloc H.baseLe _) ?_ (fun hk => by simp at hk) ?_ (.inr (Nat.le_refl _)) ?_ (Nat.le_refl _) hge (grownCap_le_maxLen w _ _ _ (by unfold maxLen; omega)) ?_ (fun hk => by simp at hk)⟩
        · simp only [execOp, ho, hv', Sem.run_bind, hr, Result.andThen_ok, Sem.run_pure]
        · simp
        · rw [hsize]; exact hge
        · have e : (bytesRow s' (grownCap w s'.size 0 el)).toList.take s'.size = s'.data.toList.map fun b => Value.int .u8 b.toNat := by
            have : s'.data.size = s'.size := rfl
            simp only [bytesRow, Array.toList_append, Array.toList_map]
            rw [List.take_append_of_le_length (by simp [this]), List.take_of_length_le (by simp [this])]
          rw [e]
          have := all2_v m (s'.data.toList.map fun b => Value.int .u8 b.toNat)
          rw [List.map_map] at this
          exact this
        · rw [hsize]; omega
      · simp at hs
    · simp at hs
  · simp at hs

theorem opA_sound (hT : TR m tm t) (H : HR m base lvl h w) {o : Oper} (hs : opA E lvl tm h o.op = some (x, h')) : ∃ y w' m', Does E.P t o w y w' ∧ Post m base lvl w x h' y w' m' := by
  cases ho : o.op with
  | pick c a b => exact op_pick hT H ho hs
  | extract c i => exact op_extract hT H ho hs
  | alloc u => exact op_alloc H ho hs
  | box u c => exact op_box hT H ho hs
  | store u a c => exact op_store hT H ho hs
  | nilCheck a => exact op_nilCheck hT H ho hs
  | fieldAddr s a f => exact op_fieldAddr hT H ho hs
  | indexAddr s a c => exact op_indexAddr hT H ho hs
  | build u ps => exact op_build hT H ho hs
  | buildSlice u len ps => exact op_buildSlice hT H ho hs
  | makeSlice u a c => exact op_makeSlice hT H ho hs
  | sliceToArrayPointer u a => exact op_s2ap hT H ho hs
  | convert s d a => exact op_convert hT H ho hs
  | makeFunc fn first caps =>
    cases fn with
    | func f => exact op_makeFunc hT H ho hs
    | _ => rw [ho] at hs; simp [opA] at hs
  | _ => rw [ho] at hs; simp [opA] at hs

end ops
end Go.Ev
