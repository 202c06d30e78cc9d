/-
  append, copy, conversions between strings and bytes.
-/
import Derived.Test.YtgplabfjldndgaaGreatDoorEvF
import Derived.Lib.AppendStr
namespace Go.Ev
open Go.RowKit

theorem alive_set {h : Heap} {b k : Nat} {a' : AB} (hk : (h.set b none)[k]? = some (some a')) : h[k]? = some (some a') ∧ k ≠ b := by
  rw [List.getElem?_set] at hk
  by_cases e : b = k
  · subst e
    by_cases hl : b < h.length <;> simp [hl] at hk
  · simp only [e, if_false] at hk
    exact ⟨hk, fun e' => e e'.symm⟩

section ops
variable {E : Env} {m : M} {base lvl : Nat} {h h' : Heap} {w : World} {tm : Tm} {t : Array Value} {x : AV}

/-- One block more, which none of the blocks that are alive is. -/
theorem HR.add (H : HR m base lvl h w) {r : Nat} {c : Array Value} {u : TypeId} {fz : Nat × Nat} (hr : w.heap[r]? = some (.cells c u fz)) (hbr : base ≤ r) (hne : ∀ (b : Nat) (a : AB), h[b]? = some (some a) → m.ρ b ≠ r) (hnt : ∀ p ∈ m.F, r ≠ p.1)
    {cells : List AC} {n : Nat} {full : Bool} (hn : cells.length = n) (hf : full = true → n = c.size) (hle : n ≤ c.size) (hz : FzOk c.size fz)
    (ha : All2 (CR m) cells (c.toList.take n)) : HR (m.push r c.size) base lvl (h ++ [some ⟨cells, n, u, full, .cells⟩]) w := by
  have hm := H.n
  refine ⟨by simp [hm], by have := H.lvlLe; simp; omega, H.baseLe, ?_, ?_, ?_, H.lo, ?_⟩
  · intro b a hb
    rw [List.getElem?_append] at hb
    split at hb
    · rename_i hlt
      exact (H.ent b a hb).mono (M.le_push m r c.size) (by omega)
    · rename_i hge
      have hb0 : b - h.length = 0 := by
        rcases Nat.eq_zero_or_pos (b - h.length) with h0 | h0
        · exact h0
        · rw [List.getElem?_eq_none (by simp; omega)] at hb; simp at hb
      rw [hb0] at hb
      simp at hb
      subst hb
      have hbn : b = m.n := by omega
      subst hbn
      exact ⟨fun _ => ⟨hn, fun hh => by rw [M.push_κ]; exact hf hh, c, fz, by rw [M.push_ρ]; exact hr, by rw [M.push_κ], fun _ => hz, hle, ha.imp fun _ _ => CR.mono (M.le_push m _ _)⟩, trivial⟩
  · intro b h1 h2
    simp at h2
    by_cases hlt : b < m.n
    · rw [(M.le_push m r c.size).ρ b hlt]
      exact H.own b h1 (by omega)
    · have hbn : b = m.n := by omega
      subst hbn
      rw [M.push_ρ]
      exact hbr
  · intro b b' h1 h2 ⟨a, ha⟩ ⟨a', ha'⟩ hlo he
    simp at h1 h2
    have key : ∀ (b : Nat) (a : AB), (h ++ [some ⟨cells, n, u, full, .cells⟩])[b]? = some (some a) → b < m.n → m.ρ b ≠ r ∧ h[b]? = some (some a) := by
      intro b a hb hlt
      rw [List.getElem?_append, if_pos (by omega)] at hb
      exact ⟨hne b a hb, hb⟩
    by_cases hb : b < m.n <;> by_cases hb' : b' < m.n
    · rw [(M.le_push m r c.size).ρ b hb, (M.le_push m r c.size).ρ b' hb'] at he
      exact H.inj b b' (by omega) (by omega) ⟨a, (key b a ha hb).2⟩ ⟨a', (key b' a' ha' hb').2⟩ hlo he
    · have : b' = m.n := by omega
      subst this
      rw [(M.le_push m r c.size).ρ b hb, M.push_ρ] at he
      exact absurd he (key b a ha hb).1
    · have : b = m.n := by omega
      subst this
      rw [(M.le_push m r c.size).ρ b' hb', M.push_ρ] at he
      exact absurd he.symm (key b' a' ha' hb').1
    · omega
  · intro p hp
    refine ⟨(H.tab p hp).1, fun b a hb ha => ?_⟩
    rw [List.getElem?_append] at ha
    split at ha
    · rename_i hlt'
      rw [(M.le_push m r c.size).ρ b (by omega)]
      exact (H.tab p hp).2 b a hb ha
    · rename_i hge
      have hb0 : b - h.length = 0 := by
        rcases Nat.eq_zero_or_pos (b - h.length) with h0 | h0
        · exact h0
        · rw [List.getElem?_eq_none (by simp; omega)] at ha; simp at ha
      have hbn : b = m.n := by omega
      subst hbn
      rw [M.push_ρ]
      exact hnt p hp

theorem srcCells_sound (H : HR m base lvl h w) {x : AV} {y : Value} {sz n : Nat} {xs : List AC} (hy : VR m x y) (hs : srcCells h sz n x = some xs) :
    ∃ ad len c ys, y = .slice (some ad) len c ∧ n ≤ len ∧ ys.length = n * sz ∧ (∀ j v, ys[j]? = some v → w.cell? (ad.add j) = some v) ∧ All2 (CR m) xs ys := by
  unfold srcCells at hs
  split at hs
  · rename_i b o len sz' cap ex
    split at hs
    · rename_i hc
      obtain ⟨rfl, hn⟩ := hc
      split at hs
      · rename_i a hb
        obtain ⟨hbn, cc, o', rfl, g0, g1, g1', _⟩ : CR m (.slc b o len sz' cap ex) y := hy
        obtain ⟨hlen, rfl⟩ := takeL_some hs
        rw [dropL_eq] at hlen ⊢
        obtain ⟨b1, b2, c, fz, b3, b4, b5, b6, b7⟩ := H.blk b a (blk_eq hb) (blk_ext hb)
        have ha := (b7.drop o).take (n * sz')
        have hl := ha.length
        refine ⟨_, len, cc, _, rfl, hn, ?_, ?_, ha⟩
        · rw [← hl]; simp at hlen ⊢; omega
        · intro j v hj
          have hjlt := (List.getElem?_eq_some_iff.1 hj).1
          have hpos : 0 < n := by
            rcases Nat.eq_zero_or_pos n with h0 | h0
            · subst h0; simp at hjlt
            · exact h0
          obtain rfl : o' = o := by rcases g0 with g0 | g0 <;> omega
          rw [addr_add, cell_of_row w _ _ c a.elem fz b3]
          rw [List.getElem?_take] at hj
          split at hj
          · rw [List.getElem?_drop, List.getElem?_take] at hj
            split at hj
            · simpa using hj
            · simp at hj
          · simp at hj
      · simp at hs
    · simp at hs
  · rename_i cells len sz'
    split at hs
    · rename_i hc
      obtain ⟨rfl, hn, h0⟩ := hc
      have hy : DT.R m.F (.s cells len sz') y := hy
      simp only [DT.R] at hy
      rcases hy with ⟨h0', _⟩ | ⟨_, b, o, c, cs, rfl, g1, g2, g3, g4, g5, g6⟩
      · omega
      · obtain ⟨hlen, rfl⟩ := takeL_some hs
        obtain ⟨⟨cc, t', fz, k1, k2⟩, _⟩ := H.tab _ g3
        have k2 : cc.toList = cs := k2
        have ha := (DT.Rl.ac g6).take (n * sz')
        have hl := ha.length
        refine ⟨_, len, c, _, rfl, hn, ?_, ?_, ha⟩
        · rw [← hl]; simp at hlen ⊢; omega
        · intro j v hj
          rw [addr_add, cell_of_row w _ _ cc t' fz k1]
          rw [List.getElem?_take] at hj
          split at hj
          · rw [List.getElem?_take] at hj
            split at hj
            · rw [List.getElem?_drop, ← k2] at hj
              simpa using hj
            · simp at hj
          · simp at hj
    · simp at hs
  · simp at hs

/-- What 'append' does where it must grow. -/
theorem grow_sound (H : HR m base lvl h w) {el : TypeId} {i : TypeInfo} {z : Value} (hzs : z.cells.size = i.size)
    {len n cap : Nat} {olds news : List Value} {xo xn : List AC} (hlo : olds.length = len * i.size) (hln : news.length = n * i.size) (ho : All2 (CR m) xo olds) (hn : All2 (CR m) xn news) (hsm : small (len + n) i.size i.bytes = true) {k : Nat} (hk : k = (len + n) * i.size) :
    Post m base lvl w (.e (.one (.slc (lenL h) 0 (len + n) i.size (len + n) false))) (appL h [some ⟨appL xo xn, k, el, false, .cells⟩]) (.slice (some ⟨w.heap.size, 0, none⟩) (len + n) (grownCap w (len + n) cap el))
      (w.drew.alloc (.cells (olds.toArray ++ news.toArray ++ Builtin.zeroCells z.cells (grownCap w (len + n) cap el - (len + n))) el)) (m.push w.heap.size (olds.toArray ++ news.toArray ++ Builtin.zeroCells z.cells (grownCap w (len + n) cap el - (len + n))).size) := by
  obtain ⟨s1, s2, s3⟩ := small_spec hsm
  have hge := grownCap_ge w (len + n) cap el
  have hmx := grownCap_le_maxLen w (len + n) cap el (by unfold maxLen; omega)
  have hsize : (olds.toArray ++ news.toArray ++ Builtin.zeroCells z.cells (grownCap w (len + n) cap el - (len + n))).size = grownCap w (len + n) cap el * i.size := by
    simp only [Array.size_append, List.size_toArray, size_zeroCells, hzs, hlo, hln, ← Nat.add_mul]
    congr 1
    omega
  have hall := ho.append hn
  have hlen := hall.length
  refine newRow_sound H rfl (((Below.refl _ _).drew).alloc H.baseLe _) (fz := (0, 0)) ?_ (fun hh => by simp at hh) ?_ (.inl rfl) ?_ (Nat.le_refl _) hge hmx (by rw [hsize]; exact Nat.le_refl _) (fun hk => by simp at hk)
  · rw [appL_eq, hlen, List.length_append, hlo, hln, ← Nat.add_mul, hk]
  · rw [hsize, hk]; exact Nat.mul_le_mul_right _ hge
  · rw [appL_eq, hk]
    have : (olds.toArray ++ news.toArray ++ Builtin.zeroCells z.cells (grownCap w (len + n) cap el - (len + n))).toList.take ((len + n) * i.size) = olds ++ news := by
      simp only [Array.toList_append]
      rw [List.take_append_of_le_length (by simp [hlo, hln, Nat.add_mul]), List.take_of_length_le (by simp [hlo, hln, Nat.add_mul])]
    rw [this]
    exact hall

theorem lenS_sound {x : AV} {y : Value} {n : Nat} (hy : VR m x y) (hs : lenS? x = some n) : ∃ a c, y = .slice a n c := by
  unfold lenS? at hs
  split at hs
  · simp only [Option.some.injEq] at hs
    subst hs
    obtain ⟨_, c, o', rfl, _⟩ : CR m (.slc _ _ _ _ _ _) y := hy
    exact ⟨_, _, rfl⟩
  · simp only [Option.some.injEq] at hs
    subst hs
    have hy : DT.R m.F (.s _ _ _) y := hy
    simp only [DT.R] at hy
    rcases hy with ⟨h0, p, c, rfl⟩ | ⟨_, b, o, c, cs, rfl, _⟩
    · exact ⟨p, c, by rw [h0]⟩
    · exact ⟨_, _, rfl⟩
  · simp at hs

theorem appendA_sound (H : HR m base lvl h w) {u xu ty : TypeId} {s xv : AV} {ys yx : Value} (hys : VR m s ys) (hyx : VR m xv yx) (hs : appendA E lvl h u xu s xv = some (x, h')) :
    ∃ y w' m', (Builtin.append_ #[u, xu] ty #[ys, yx]).run E.P w = .ok y w' ∧ Post m base lvl w x h' y w' m' := by
  unfold appendA at hs
  split at hs
  · rename_i el n hu hlS
    split at hs
    · rename_i i z hi0 hz
      obtain ⟨i', v, hi, hv, rfl⟩ := zeroA_some hz
      have hie : i' = i := by rw [hi0] at hi; simpa using hi.symm
      subst hie
      split at hs
      · rename_i hc
        obtain ⟨rfl, hpos, hzl⟩ := hc
        rw [lenL_eq] at hzl
        have hzs : v.cells.size = i'.size := by simpa using hzl
        split at hs
        · rename_i xs hxs
          split at hs
          · rename_i hone
            obtain ⟨ad, len', cx', news, rfl, hn, hnl, hnews, hrel⟩ := srcCells_sound H hyx hxs
            have hlen' : len' = n := by
              obtain ⟨_, _, e⟩ := lenS_sound hyx hlS
              simp only [Value.slice.injEq] at e
              exact e.2.1
            subst hlen'
            have hone' : ∀ v ∈ news, v.oneCell' = true := fun v hv => by
              obtain ⟨i, hi⟩ := List.getElem?_of_mem hv
              obtain ⟨x, hx, hxr⟩ := hrel.get' hi
              exact isOne_sound hxr (List.all_eq_true.1 hone x (List.mem_of_getElem? hx))
            split at hs
            · -- nil
              have hys' : ys = .slice none 0 0 := hys
              subst hys'
              split at hs
              · rename_i h0
                subst h0
                simp only [Option.some.injEq, Prod.mk.injEq] at hs
                obtain ⟨rfl, rfl⟩ := hs
                refine ⟨.slice none 0 0, w, m, ?_, Post.same H rfl⟩
                simp [Builtin.append_, run_underlying hu, sizeOf, typeInfo, hi, Builtin.lenOf, Builtin.firstCells, loadCells, loadCellsFrom]
              · rename_i h0
                split at hs
                · rename_i hsm
                  obtain ⟨s1, s2, s3⟩ := small_spec hsm
                  simp only [Option.some.injEq, Prod.mk.injEq] at hs
                  obtain ⟨rfl, rfl⟩ := hs
                  have hb48 : len' * i'.bytes ≤ 281474976710656 := by
                    have : len' * i'.bytes ≤ 2000000 * 1024 := Nat.mul_le_mul s1 s3
                    omega
                  have hr := run_append_nil (P := E.P) w u ty el i' v hu hi hv ad len' cx' news hnl hnews (by omega) (by omega) hb48
                  have hg := grow_sound (el := el) (len := 0) (n := len') (cap := 0) (olds := []) (xo := []) H hzs (by simp) hnl trivial hrel (by simpa using hsm) (k := len' * i'.size) (by simp)
                  simp only [Nat.zero_add, appL_eq, List.nil_append, Array.empty_append] at hg
                  rw [appL_eq]
                  exact ⟨_, _, _, hr, hg⟩
                · simp at hs
            · -- a slice of the evaluator's
              rename_i b o len sz cap ex'
              split at hs
              · rename_i hc2
                obtain ⟨rfl, hsm⟩ := hc2
                obtain ⟨s1, s2, s3⟩ := small_spec hsm
                split at hs
                · rename_i a hb
                  obtain ⟨hbn, cc, o', rfl, g0, g1, g1', g2, g3, g4⟩ : CR m (.slc b o len i'.size cap ex') ys := hys
                  have hb' := blk_eq hb
                  obtain ⟨b1, b2, c, fz, b3, b4, b5, b6, b7⟩ := H.blk b a hb' (blk_ext hb)
                  have hbytes : Builtin.nextslicecap (len + len') cc * i'.bytes ≤ 281474976710656 ∨ len + len' ≤ cc := by
                    by_cases hle : len + len' ≤ cc
                    · exact .inr hle
                    · left
                      have h1 := nextslicecap_le (need := len + len') (old := cc) (by omega)
                      have : Builtin.nextslicecap (len + len') cc * i'.bytes ≤ 4000000 * 1024 := Nat.mul_le_mul (by omega) s3
                      omega
                  -- in place
                  have inPlace : ∀ (_ : lvl ≤ b) (_ : o' = o) (_ : len + len' ≤ cc) (_ : o + (len + len') * i'.size ≤ a.n),
                      ∃ w', (Builtin.append_ #[u, u] ty #[.slice (some ⟨m.ρ b, o', none⟩) len cc, .slice (some ad) len' cx']).run E.P w = .ok (.slice (some ⟨m.ρ b, o, none⟩) (len + len') cc) w' ∧
                        HR m base lvl (h.set b (some { a with cells := overL xs a.cells (o + len * i'.size) })) w' ∧ Below base w w' := by
                    intro hl ho' hfit hroom
                    subst ho'
                    have hmul : (len + len') * i'.size = len * i'.size + len' * i'.size := Nat.add_mul _ _ _
                    obtain ⟨w', hw, hH, hB⟩ := write_sound (E := E) (o := o' + len * i'.size) H hb' (blk_ext hb) hl hrel hone (by rw [hrel.length, hnl]; omega)
                    refine ⟨w', ?_, hH, hB⟩
                    have hf := run_firstCells_some (P := E.P) w i'.size len' ad len' cx' news hnl hnews
                    simp [Builtin.append_, run_underlying hu, sizeOf, typeInfo, hi, Builtin.lenOf, hfit, hf, addr_add, hw]
                  have holds : ∀ olds : List Value, olds = ((c.toList.take a.n).drop o).take (len * i'.size) → ∀ j v, olds[j]? = some v → w.cell? ((⟨m.ρ b, o', none⟩ : Addr).add j) = some v := by
                    intro olds ho j v hj
                    subst ho
                    have hjlt := (List.getElem?_eq_some_iff.1 hj).1
                    have hpos : 0 < len := by
                      rcases Nat.eq_zero_or_pos len with h0 | h0
                      · subst h0; simp at hjlt
                      · exact h0
                    obtain rfl : o' = o := by rcases g0 with g0 | g0 <;> omega
                    rw [addr_add, cell_of_row w _ _ c a.elem fz b3]
                    rw [List.getElem?_take] at hj
                    split at hj
                    · rw [List.getElem?_drop, List.getElem?_take] at hj
                      split at hj
                      · simpa using hj
                      · simp at hj
                    · simp at hj
                  have grows : ∀ (olds : List Value) (_ : olds = ((c.toList.take a.n).drop o).take (len * i'.size)) (_ : olds.length = len * i'.size) (_ : cc < len + len'),
                      (Builtin.append_ #[u, u] ty #[.slice (some ⟨m.ρ b, o', none⟩) len cc, .slice (some ad) len' cx']).run E.P w = .ok (.slice (some ⟨w.heap.size, 0, none⟩) (len + len') (grownCap w (len + len') cc el))
                        (w.drew.alloc (.cells (olds.toArray ++ news.toArray ++ Builtin.zeroCells v.cells (grownCap w (len + len') cc el - (len + len'))) el)) := by
                    intro olds ho hol hgt
                    exact run_append_grow (P := E.P) w u ty el i' v hu hi hv ⟨m.ρ b, o', none⟩ len cc olds hol (holds olds ho) ad len' cx' news hnl hnews hgt (by omega) (hbytes.resolve_right (by omega))
                  split at hs
                  · rename_i hfit
                    split at hs
                    · rename_i hc3
                      obtain ⟨hl, h0, hroom⟩ := hc3
                      simp only [Option.some.injEq, Prod.mk.injEq] at hs
                      obtain ⟨rfl, rfl⟩ := hs
                      obtain rfl : o' = o := by rcases g0 with g0 | g0 <;> omega
                      obtain ⟨w', hw, hH, hB⟩ := inPlace hl rfl (by omega) hroom
                      refine ⟨_, w', m, hw, M.le.refl m, ?_, by rw [setL_eq]; exact hH, hB⟩
                      exact ⟨hbn, cc, o', rfl, .inl rfl, hfit, g1', g2, g3, g4⟩
                    · simp at hs
                  · rename_i hfit
                    split at hs
                    · rename_i hex
                      have hcc := g4 hex
                      split at hs
                      · rename_i xo hxo
                        simp only [Option.some.injEq, Prod.mk.injEq] at hs
                        obtain ⟨rfl, rfl⟩ := hs
                        obtain ⟨hlen, rfl⟩ := takeL_some hxo
                        rw [dropL_eq] at hlen
                        have ha := (b7.drop o).take (len * i'.size)
                        have hl := ha.length
                        have hol : (((c.toList.take a.n).drop o).take (len * i'.size)).length = len * i'.size := by rw [← hl]; simp at hlen ⊢; omega
                        have hr := grows _ rfl hol (by omega)
                        have hg := grow_sound (el := el) (cap := cc) H hzs hol hnl ha hrel hsm rfl
                        rw [dropL_eq]
                        exact ⟨_, _, _, hr, hg⟩
                      · simp at hs
                    · split at hs
                      · rename_i hc4
                        obtain ⟨hl, ho0, hm0, han, hel, hful⟩ := hc4
                        simp only [Option.some.injEq, Prod.mk.injEq] at hs
                        obtain ⟨rfl, rfl⟩ := hs
                        subst ho0
                        have hbl : b < h.length := (List.getElem?_eq_some_iff.1 hb').1
                        have hol : (((c.toList.take a.n).drop 0).take (len * i'.size)).length = len * i'.size := by simp; omega
                        have hold2 : ((c.toList.take a.n).drop 0).take (len * i'.size) = c.toList.take a.n := by
                          rw [List.drop_zero, ← han]; exact List.take_of_length_le (by simp; omega)
                        have hK := H.kill b
                        have e1 : lenL (h.set b none) = lenL h := by rw [lenL_eq, lenL_eq]; simp
                        by_cases hfit2 : len + len' ≤ cc
                        · obtain rfl : o' = 0 := by rcases g0 with g0 | g0 <;> omega
                          have hmul : (len + len') * i'.size = len * i'.size + len' * i'.size := Nat.add_mul _ _ _
                          have hccm : (len + len') * i'.size ≤ cc * i'.size := Nat.mul_le_mul_right _ hfit2
                          have hst := run_storeCells_fz (P := E.P) (m.ρ b) (0 + len * i'.size) a.elem fz news 0 c w b3 (by omega) (b5 (Nat.le_trans H.lo hl)).free hone'
                          simp only [Nat.add_zero] at hst
                          have hf := run_firstCells_some (P := E.P) w i'.size len' ad len' cx' news hnl hnews
                          have hB := below_setRow (w := w) (c := (c.toList.take (0 + len * i'.size) ++ news ++ c.toList.drop (0 + len * i'.size + news.length)).toArray) (H.own b hl hbl)
                          have hK2 : HR m base lvl (h.set b none) (w.setRow (m.ρ b) (c.toList.take (0 + len * i'.size) ++ news ++ c.toList.drop (0 + len * i'.size + news.length)).toArray) := by
                            refine ⟨hK.n, hK.lvlLe, by simpa using hK.baseLe, fun k a' hk => ?_, hK.own, hK.inj, hK.lo, fun p hp => ⟨hK.tabs (fun q hq => setRow_other w _ _ _ fun e => (H.tab q hq).2 b a hl hb' e.symm) p hp, (hK.tab p hp).2⟩⟩
                            refine (hK.ent k a' hk).world (setRow_other w _ _ _ fun e' => ?_)
                            have hk' := alive_set hk
                            exact hk'.2 (H.inj k b (List.getElem?_eq_some_iff.1 hk'.1).1 hbl ⟨a', hk'.1⟩ ⟨a, hb'⟩ (.inr (Nat.le_trans H.lo hl)) e')
                          have hsz : (c.toList.take (0 + len * i'.size) ++ news ++ c.toList.drop (0 + len * i'.size + news.length)).toArray.size = c.size := by
                            simp only [List.size_toArray, List.length_append, List.length_take, List.length_drop, Array.length_toList]
                            omega
                          have hadd := hK2.add (setRow_heap w _ c _ a.elem fz b3) (H.own b hl hbl) (fun k a' hk e' => by
                              have hk' := alive_set hk
                              exact hk'.2 (H.inj k b (List.getElem?_eq_some_iff.1 hk'.1).1 hbl ⟨a', hk'.1⟩ ⟨a, hb'⟩ (.inr (Nat.le_trans H.lo hl)) e')) (fun p hp => (H.tab p hp).2 b a hl hb')
                            (cells := a.cells ++ xs) (n := (len + len') * i'.size) (full := false) (by rw [List.length_append, b1, han, hrel.length, hnl, hmul]) (fun hh => by simp at hh) (by rw [hsz]; omega) (by rw [hsz]; exact b5 (Nat.le_trans H.lo hl)) (by
                              have e2 : (c.toList.take (0 + len * i'.size) ++ news ++ c.toList.drop (0 + len * i'.size + news.length)).take ((len + len') * i'.size) = c.toList.take a.n ++ news := by
                                rw [List.take_append_of_le_length (by simp; omega), List.take_of_length_le (by simp; omega), Nat.zero_add, han]
                              simp only
                              rw [e2]
                              exact b7.append hrel)
                          refine ⟨.slice (some ⟨m.ρ b, 0, none⟩) (len + len') cc, _, m.push (m.ρ b) (c.toList.take (0 + len * i'.size) ++ news ++ c.toList.drop (0 + len * i'.size + news.length)).toArray.size, ?_, M.le_push _ _ _, ?_, ?_, hB⟩
                          · simp [Builtin.append_, run_underlying hu, sizeOf, typeInfo, hi, Builtin.lenOf, hfit2, hf, addr_add] at hst ⊢
                            rw [hst]
                            simp
                          · show CR _ (.slc (lenL h) 0 (len + len') i'.size (len + len') false) _
                            refine ⟨?_, cc, 0, ?_, .inl rfl, Nat.le_refl _, hfit2, g2, ?_, fun hk => by simp at hk⟩
                            · rw [lenL_eq, ← H.n]; simp
                            · rw [lenL_eq, ← H.n, M.push_ρ]
                            · rw [lenL_eq, ← H.n, M.push_κ, hsz]; omega
                          · rw [appL_eq, appL_eq, setL_eq, ← hel]
                            exact hadd
                        · have hr := grows _ rfl hol (by omega)
                          rw [hold2] at hr hol
                          have hg := grow_sound (el := el) (cap := cc) hK hzs hol hnl b7 hrel hsm rfl
                          rw [setL_eq]
                          rw [e1] at hg
                          exact ⟨_, _, _, hr, hg⟩
                      · simp at hs
                · simp at hs
              · simp at hs
            · simp at hs
          · simp at hs
        · simp at hs
      · simp at hs
    · simp at hs
  · simp at hs

theorem appendSA_sound (H : HR m base lvl h w) {u xu ty : TypeId} {s : AV} {ys : Value} {str : ByteArray} (hys : VR m s ys) (hs : appendSA E lvl h u xu s str = some (x, h')) :
    ∃ y w' m', (Builtin.append_ #[u, xu] ty #[ys, .string str]).run E.P w = .ok y w' ∧ Post m base lvl w x h' y w' m' := by
  unfold appendSA at hs
  split at hs
  · rename_i el hu hxu
    split at hs
    · rename_i i z hi0 hz
      obtain ⟨i', v, hi, hv, rfl⟩ := zeroA_some hz
      have hie : i' = i := by rw [hi0] at hi; simpa using hi.symm
      subst hie
      split at hs
      · rename_i hc
        obtain ⟨hsz1, hpos, hzl⟩ := hc
        rw [lenL_eq] at hzl
        have hzs : v.cells.size = i'.size := by simpa using hzl
        have hrel : All2 (CR m) (strA str) (Lib.strCells str) := by
          unfold strA Lib.strCells
          generalize str.data.toList = l
          induction l with
          | nil => trivial
          | cons a l ih => exact ⟨rfl, ih⟩
        have hnl : (Lib.strCells str).length = str.size * i'.size := by rw [Lib.strCells_length, hsz1, Nat.mul_one]
        have hone' := Lib.strCells_oneCell str
        have hone : (strA str).all AC.isOne = true := by
          unfold strA
          generalize str.data.toList = l
          induction l with
          | nil => rfl
          | cons a l ih => simp [AC.isOne]
        split at hs
        · -- nil
          have hys' : ys = .slice none 0 0 := hys
          subst hys'
          split at hs
          · rename_i h0
            simp only [Option.some.injEq, Prod.mk.injEq] at hs
            obtain ⟨rfl, rfl⟩ := hs
            refine ⟨.slice none 0 0, w, m, ?_, Post.same H rfl⟩
            have hf := Lib.run_firstCells_string (P := E.P) w i'.size str
            rw [h0] at hf
            simp [Builtin.append_, run_underlying hu, run_underlying hxu, sizeOf, typeInfo, hi, Builtin.lenOf, h0, hf]
          · rename_i h0
            split at hs
            · rename_i hsm
              obtain ⟨s1, s2, s3⟩ := small_spec hsm
              simp only [Option.some.injEq, Prod.mk.injEq] at hs
              obtain ⟨rfl, rfl⟩ := hs
              have hb48 : str.size * i'.bytes ≤ 281474976710656 := by
                have : str.size * i'.bytes ≤ 2000000 * 1024 := Nat.mul_le_mul s1 s3
                omega
              have hr := run_append_nil_string (P := E.P) w u xu ty el i' v hu hxu hi hv str (by omega) (by omega) hb48
              have hg := grow_sound (el := el) (len := 0) (n := str.size) (cap := 0) (olds := []) (xo := []) (news := Lib.strCells str) (xn := strA str) H hzs (by simp) hnl trivial hrel (by simpa using hsm) (k := str.size * i'.size) (by simp)
              simp only [Nat.zero_add, appL_eq, List.nil_append, Array.empty_append] at hg
              have hsa : (Lib.strCells str).toArray = str.data.map (fun b => Value.int .u8 b.toNat) := by
                apply Array.ext'
                simp [Lib.strCells]
              rw [hsa] at hg
              rw [appL_eq]
              exact ⟨_, _, _, hr, hg⟩
            · simp at hs
        · -- a slice of the evaluator's
          rename_i b o len sz cap ex'
          split at hs
          · rename_i hc2
            obtain ⟨rfl, hsm⟩ := hc2
            obtain ⟨s1, s2, s3⟩ := small_spec hsm
            split at hs
            · rename_i a hb
              obtain ⟨hbn, cc, o', rfl, g0, g1, g1', g2, g3, g4⟩ : CR m (.slc b o len i'.size cap ex') ys := hys
              have hb' := blk_eq hb
              obtain ⟨b1, b2, c, fz, b3, b4, b5, b6, b7⟩ := H.blk b a hb' (blk_ext hb)
              have hbytes : Builtin.nextslicecap (len + str.size) cc * i'.bytes ≤ 281474976710656 ∨ len + str.size ≤ cc := by
                by_cases hle : len + str.size ≤ cc
                · exact .inr hle
                · left
                  have h1 := nextslicecap_le (need := len + str.size) (old := cc) (by omega)
                  have : Builtin.nextslicecap (len + str.size) cc * i'.bytes ≤ 4000000 * 1024 := Nat.mul_le_mul (by omega) s3
                  omega
              -- in place
              have inPlace : ∀ (_ : lvl ≤ b) (_ : o' = o) (_ : len + str.size ≤ cc) (_ : o + (len + str.size) * i'.size ≤ a.n),
                  ∃ w', (Builtin.append_ #[u, xu] ty #[.slice (some ⟨m.ρ b, o', none⟩) len cc, .string str]).run E.P w = .ok (.slice (some ⟨m.ρ b, o, none⟩) (len + str.size) cc) w' ∧
                    HR m base lvl (h.set b (some { a with cells := overL (strA str) a.cells (o + len * i'.size) })) w' ∧ Below base w w' := by
                intro hl ho' hfit hroom
                subst ho'
                have hmul : (len + str.size) * i'.size = len * i'.size + str.size * i'.size := Nat.add_mul _ _ _
                obtain ⟨w', hw, hH, hB⟩ := write_sound (E := E) (o := o' + len * i'.size) H hb' (blk_ext hb) hl hrel hone (by rw [hrel.length, hnl]; omega)
                refine ⟨w', ?_, hH, hB⟩
                have hf := Lib.run_firstCells_string (P := E.P) w i'.size str
                simp [Builtin.append_, run_underlying hu, run_underlying hxu, sizeOf, typeInfo, hi, Builtin.lenOf, hfit, hf, addr_add, hw]
              have holds : ∀ olds : List Value, olds = ((c.toList.take a.n).drop o).take (len * i'.size) → ∀ j v, olds[j]? = some v → w.cell? ((⟨m.ρ b, o', none⟩ : Addr).add j) = some v := by
                intro olds ho j v hj
                subst ho
                have hjlt := (List.getElem?_eq_some_iff.1 hj).1
                have hpos : 0 < len := by
                  rcases Nat.eq_zero_or_pos len with h0 | h0
                  · subst h0; simp at hjlt
                  · exact h0
                obtain rfl : o' = o := by rcases g0 with g0 | g0 <;> omega
                rw [addr_add, cell_of_row w _ _ c a.elem fz b3]
                rw [List.getElem?_take] at hj
                split at hj
                · rw [List.getElem?_drop, List.getElem?_take] at hj
                  split at hj
                  · simpa using hj
                  · simp at hj
                · simp at hj
              have grows : ∀ (olds : List Value) (_ : olds = ((c.toList.take a.n).drop o).take (len * i'.size)) (_ : olds.length = len * i'.size) (_ : cc < len + str.size),
                  (Builtin.append_ #[u, xu] ty #[.slice (some ⟨m.ρ b, o', none⟩) len cc, .string str]).run E.P w = .ok (.slice (some ⟨w.heap.size, 0, none⟩) (len + str.size) (grownCap w (len + str.size) cc el))
                    (w.drew.alloc (.cells (olds.toArray ++ (Lib.strCells str).toArray ++ Builtin.zeroCells v.cells (grownCap w (len + str.size) cc el - (len + str.size))) el)) := by
                intro olds ho hol hgt
                exact Lib.run_append_grow_string (P := E.P) w u xu ty el i' v hu hxu hi hv ⟨m.ρ b, o', none⟩ len cc olds hol (holds olds ho) str hgt (by omega) (hbytes.resolve_right (by omega))
              split at hs
              · rename_i hfit
                split at hs
                · rename_i hc3
                  obtain ⟨hl, h0, hroom⟩ := hc3
                  simp only [Option.some.injEq, Prod.mk.injEq] at hs
                  obtain ⟨rfl, rfl⟩ := hs
                  obtain rfl : o' = o := by rcases g0 with g0 | g0 <;> omega
                  obtain ⟨w', hw, hH, hB⟩ := inPlace hl rfl (by omega) hroom
                  refine ⟨_, w', m, hw, M.le.refl m, ?_, by rw [setL_eq]; exact hH, hB⟩
                  exact ⟨hbn, cc, o', rfl, .inl rfl, hfit, g1', g2, g3, g4⟩
                · simp at hs
              · rename_i hfit
                split at hs
                · rename_i hex
                  have hcc := g4 hex
                  split at hs
                  · rename_i xo hxo
                    simp only [Option.some.injEq, Prod.mk.injEq] at hs
                    obtain ⟨rfl, rfl⟩ := hs
                    obtain ⟨hlen, rfl⟩ := takeL_some hxo
                    rw [dropL_eq] at hlen
                    have ha := (b7.drop o).take (len * i'.size)
                    have hl := ha.length
                    have hol : (((c.toList.take a.n).drop o).take (len * i'.size)).length = len * i'.size := by rw [← hl]; simp at hlen ⊢; omega
                    have hr := grows _ rfl hol (by omega)
                    have hg := grow_sound (el := el) (cap := cc) H hzs hol hnl ha hrel hsm rfl
                    rw [dropL_eq]
                    exact ⟨_, _, _, hr, hg⟩
                  · simp at hs
                · split at hs
                  · rename_i hc4
                    obtain ⟨hl, ho0, hm0, han, hel, hful⟩ := hc4
                    simp only [Option.some.injEq, Prod.mk.injEq] at hs
                    obtain ⟨rfl, rfl⟩ := hs
                    subst ho0
                    have hbl : b < h.length := (List.getElem?_eq_some_iff.1 hb').1
                    have hol : (((c.toList.take a.n).drop 0).take (len * i'.size)).length = len * i'.size := by simp; omega
                    have hold2 : ((c.toList.take a.n).drop 0).take (len * i'.size) = c.toList.take a.n := by
                      rw [List.drop_zero, ← han]; exact List.take_of_length_le (by simp; omega)
                    have hK := H.kill b
                    have e1 : lenL (h.set b none) = lenL h := by rw [lenL_eq, lenL_eq]; simp
                    by_cases hfit2 : len + str.size ≤ cc
                    · obtain rfl : o' = 0 := by rcases g0 with g0 | g0 <;> omega
                      have hmul : (len + str.size) * i'.size = len * i'.size + str.size * i'.size := Nat.add_mul _ _ _
                      have hccm : (len + str.size) * i'.size ≤ cc * i'.size := Nat.mul_le_mul_right _ hfit2
                      have hst := run_storeCells_fz (P := E.P) (m.ρ b) (0 + len * i'.size) a.elem fz (Lib.strCells str) 0 c w b3 (by omega) (b5 (Nat.le_trans H.lo hl)).free hone'
                      simp only [Nat.add_zero] at hst
                      have hf := Lib.run_firstCells_string (P := E.P) w i'.size str
                      have hB := below_setRow (w := w) (c := (c.toList.take (0 + len * i'.size) ++ Lib.strCells str ++ c.toList.drop (0 + len * i'.size + (Lib.strCells str).length)).toArray) (H.own b hl hbl)
                      have hK2 : HR m base lvl (h.set b none) (w.setRow (m.ρ b) (c.toList.take (0 + len * i'.size) ++ Lib.strCells str ++ c.toList.drop (0 + len * i'.size + (Lib.strCells str).length)).toArray) := by
                        refine ⟨hK.n, hK.lvlLe, by simpa using hK.baseLe, fun k a' hk => ?_, hK.own, hK.inj, hK.lo, fun p hp => ⟨hK.tabs (fun q hq => setRow_other w _ _ _ fun e => (H.tab q hq).2 b a hl hb' e.symm) p hp, (hK.tab p hp).2⟩⟩
                        refine (hK.ent k a' hk).world (setRow_other w _ _ _ fun e' => ?_)
                        have hk' := alive_set hk
                        exact hk'.2 (H.inj k b (List.getElem?_eq_some_iff.1 hk'.1).1 hbl ⟨a', hk'.1⟩ ⟨a, hb'⟩ (.inr (Nat.le_trans H.lo hl)) e')
                      have hsz : (c.toList.take (0 + len * i'.size) ++ Lib.strCells str ++ c.toList.drop (0 + len * i'.size + (Lib.strCells str).length)).toArray.size = c.size := by
                        simp only [List.size_toArray, List.length_append, List.length_take, List.length_drop, Array.length_toList]
                        omega
                      have hadd := hK2.add (setRow_heap w _ c _ a.elem fz b3) (H.own b hl hbl) (fun k a' hk e' => by
                          have hk' := alive_set hk
                          exact hk'.2 (H.inj k b (List.getElem?_eq_some_iff.1 hk'.1).1 hbl ⟨a', hk'.1⟩ ⟨a, hb'⟩ (.inr (Nat.le_trans H.lo hl)) e')) (fun p hp => (H.tab p hp).2 b a hl hb')
                        (cells := a.cells ++ strA str) (n := (len + str.size) * i'.size) (full := false) (by rw [List.length_append, b1, han, hrel.length, hnl, hmul]) (fun hh => by simp at hh) (by rw [hsz]; omega) (by rw [hsz]; exact b5 (Nat.le_trans H.lo hl)) (by
                          have e2 : (c.toList.take (0 + len * i'.size) ++ Lib.strCells str ++ c.toList.drop (0 + len * i'.size + (Lib.strCells str).length)).take ((len + str.size) * i'.size) = c.toList.take a.n ++ Lib.strCells str := by
                            rw [List.take_append_of_le_length (by simp; omega), List.take_of_length_le (by simp; omega), Nat.zero_add, han]
                          simp only
                          rw [e2]
                          exact b7.append hrel)
                      refine ⟨.slice (some ⟨m.ρ b, 0, none⟩) (len + str.size) cc, _, m.push (m.ρ b) (c.toList.take (0 + len * i'.size) ++ Lib.strCells str ++ c.toList.drop (0 + len * i'.size + (Lib.strCells str).length)).toArray.size, ?_, M.le_push _ _ _, ?_, ?_, hB⟩
                      · simp [Builtin.append_, run_underlying hu, run_underlying hxu, sizeOf, typeInfo, hi, Builtin.lenOf, hfit2, hf, addr_add] at hst ⊢
                        rw [hst]
                        simp
                      · show CR _ (.slc (lenL h) 0 (len + str.size) i'.size (len + str.size) false) _
                        refine ⟨?_, cc, 0, ?_, .inl rfl, Nat.le_refl _, hfit2, g2, ?_, fun hk => by simp at hk⟩
                        · rw [lenL_eq, ← H.n]; simp
                        · rw [lenL_eq, ← H.n, M.push_ρ]
                        · rw [lenL_eq, ← H.n, M.push_κ, hsz]; omega
                      · rw [appL_eq, appL_eq, setL_eq, ← hel]
                        exact hadd
                    · have hr := grows _ rfl hol (by omega)
                      rw [hold2] at hr hol
                      have hg := grow_sound (el := el) (cap := cc) hK hzs hol hnl b7 hrel hsm rfl
                      rw [setL_eq]
                      rw [e1] at hg
                      exact ⟨_, _, _, hr, hg⟩
                  · simp at hs
            · simp at hs
          · simp at hs
        · simp at hs
      · simp at hs
    · simp at hs
  · simp at hs

end ops
end Go.Ev
