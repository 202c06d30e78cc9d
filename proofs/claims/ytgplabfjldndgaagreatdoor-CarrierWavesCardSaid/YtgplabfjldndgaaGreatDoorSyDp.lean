/-
  What the open run says of operations that look deep holds.
-/
import Derived.Test.YtgplabfjldndgaaGreatDoorSyB
namespace Go.Ev
open Go.RowKit

section
variable {E : Env} {m : M} {base lvl : Nat} {h h' : Heap} {w : World} {tm : Tm} {t : Array Value} {x : AV}

theorem DT.Rl.put {F : List (Nat × List Value)} : ∀ {l : List DT} {ys zs : List Value}, DT.Rl F l ys → DT.Rl F l (ys.take l.length ++ zs)
  | [], _, _, _ => by simp [DT.Rl]
  | d :: l, ys, zs, r => by
    simp only [DT.Rl] at r ⊢
    obtain ⟨y, r', rfl, h1, h2⟩ := r
    exact ⟨y, r'.take l.length ++ zs, by simp, h1, DT.Rl.put h2⟩

/-- A place that lies deep, loaded. -/
theorem deep_load (H : HR m base lvl h w) {cells : List DT} {k : Nat} {y : Value} (hy : DV.R m.F (.p cells k) y) {u : TypeId} {e : AE} (he : take? E.P u (cells.map DT.ac) k = some e) :
    ∃ v, (Instr.loadAt u y).run E.P w = .ok v w ∧ VR m (.e e) v := by
  obtain ⟨b, o', cs, rfl, hF, hle, hR⟩ := hy
  obtain ⟨⟨c, t', fz, h1, h2⟩, _⟩ := H.tab _ hF
  have h2 : c.toList = cs := h2
  have hl : ((cs.take o').map AC.v ++ cells.map DT.ac).length = min o' cs.length + cells.length := by simp
  have hall : All2 (CR m) ((cs.take o').map AC.v ++ cells.map DT.ac) (c.toList.take (o' + cells.length)) := by
    have e1 : c.toList.take (o' + cells.length) = cs.take o' ++ (cs.drop o').take cells.length := by
      rw [h2, List.take_add]
    rw [e1]
    exact (all2_v m _).append hR.ac
  have e2 : take? E.P u ((cs.take o').map AC.v ++ cells.map DT.ac) (o' + k) = take? E.P u (cells.map DT.ac) k := by
    have hl0 : ((cs.take o').map AC.v).length = o' := by simp; omega
    unfold take?
    have g1 : getL ((cs.take o').map AC.v ++ cells.map DT.ac) (o' + k) = getL (cells.map DT.ac) k := by
      rw [getL_eq, getL_eq, List.getElem?_append_right (by omega), hl0, Nat.add_sub_cancel_left]
    have g2 : dropL ((cs.take o').map AC.v ++ cells.map DT.ac) (o' + k) = dropL (cells.map DT.ac) k := by
      rw [dropL_eq, dropL_eq, List.drop_append, hl0, Nat.add_sub_cancel_left, List.drop_of_length_le (by omega)]; rfl
    rw [g1, g2]
  obtain ⟨v, hv, hr⟩ := take_sound (P := E.P) h1 (l := (cs.take o').map AC.v ++ cells.map DT.ac) (n := o' + cells.length) (by rw [hl]; omega) hall (t := u) (o := o' + k) (by rw [e2]; exact he)
  exact ⟨v, by simpa [Instr.loadAt, Instr.sureAddr] using hv, hr⟩

/-- Memory that comes to rest: a block that is new. -/
theorem HR.rest (H : HR m base lvl h w) {w' : World} {cs : List Value} {el : TypeId} {fz : Nat × Nat} (hw : w'.heap = w.heap.push (.cells cs.toArray el fz)) :
    HR { m with F := (w.heap.size, cs) :: m.F } base lvl h w' ∧ M.leG base m { m with F := (w.heap.size, cs) :: m.F } := by
  have old : ∀ b, b < w.heap.size → w'.heap[b]? = w.heap[b]? := fun b hb => by rw [hw, Array.getElem?_push, if_neg (by omega)]
  have hle : M.leG base m { m with F := (w.heap.size, cs) :: m.F } := ⟨Nat.le_refl _, fun _ _ => rfl, fun _ _ => rfl, rfl, fun p hp => List.mem_cons_of_mem _ hp, fun p hp => by
    rcases List.mem_cons.1 hp with rfl | hp
    · exact .inr H.baseLe
    · exact .inl hp⟩
  have Hw := H.world (w' := w') (by rw [hw]; simp) old
  refine ⟨⟨Hw.n, Hw.lvlLe, Hw.baseLe, fun b a hb => (Hw.ent b a hb).monoG hle (by rw [Hw.n]; exact (List.getElem?_eq_some_iff.1 hb).1), Hw.own, Hw.inj, Hw.lo, fun p hp => ?_⟩, hle⟩
  rcases List.mem_cons.1 hp with rfl | hp
  · refine ⟨⟨cs.toArray, el, fz, by rw [hw]; simp, rfl⟩, fun b a hb ha => ?_⟩
    have := (H.ent b a ha).lt
    show m.ρ b ≠ w.heap.size
    omega
  · exact Hw.tab p hp

theorem takeL_len {α : Type} {l r : List α} {n : Nat} (h : takeL l n = some r) : r.length = n := by
  obtain ⟨h1, rfl⟩ := takeL_some h
  simp; omega

theorem all2_free {α β : Type} {R S : α → β → Prop} : ∀ {l : List α} {ys : List β}, (∀ a ∈ l, ∀ b, R a b → S a b) → All2 R l ys → All2 S l ys
  | [], [], _, _ => trivial
  | _ :: _, _ :: _, hg, h => ⟨hg _ (by simp) _ h.1, all2_free (fun a ha => hg a (by simp [ha])) h.2⟩
/-- a value without references hangs on what lies at rest alone -/
theorem CR.free {m1 m2 : M} (hF : ∀ p ∈ m1.F, p ∈ m2.F) : ∀ {x : AC} {y : Value}, x.refs = [] → CR m1 x y → CR m2 x y
  | .v _, _, _, r => r
  | .any _, _, _, r => r
  | .dp _, _, _, r => DV.R.mono hF r
  | .ptr _ _, _, h, _ => by simp [AC.refs] at h
  | .slc _ _ _ _ _ _, _, h, _ => by simp [AC.refs] at h
  | .yld _, _, h, _ => by simp [AC.refs] at h
  | .mp _, _, h, _ => by simp [AC.refs] at h
  | .clo g fs cs, _, h, r => by
    simp only [AC.refs, List.append_eq_nil_iff] at h
    obtain ⟨vf, vc, hy, h1, h2⟩ := r
    have key : ∀ {l : List CE}, l.flatMap CE.refs = [] → ∀ e ∈ l, ∀ c ∈ e.atoms, c.ac.refs = [] := fun {l} hl e he c hc => by
      rw [CA.refs_ac]
      exact List.flatMap_eq_nil_iff.1 (List.flatMap_eq_nil_iff.1 hl e he) c hc
    exact ⟨vf, vc, hy, CEs.to (fun e he c hc y hr => CR.free hF (key h.1 e he c hc) hr) h1, CEs.to (fun e he c hc y hr => CR.free hF (key h.2 e he c hc) hr) h2⟩
termination_by x => x.rank
decreasing_by all_goals (rw [CA.rank_ac]; exact Nat.one_pos)
theorem ER.free {m1 m2 : M} (hF : ∀ p ∈ m1.F, p ∈ m2.F) : ∀ {x : AE} {y : Value}, x.refs = [] → ER m1 x y → ER m2 x y
  | .one _, _, h, r => CR.free hF h r
  | .agg l, _, h, r => by
    obtain ⟨cs, hy, ha⟩ := r
    simp only [AE.refs, List.flatMap_eq_nil_iff] at h
    exact ⟨cs, hy, all2_free (fun a ha' b hb => CR.free hF (h a ha') hb) ha⟩
theorem VR.free {m1 m2 : M} (hF : ∀ p ∈ m1.F, p ∈ m2.F) : ∀ {x : AV} {y : Value}, x.refs = [] → VR m1 x y → VR m2 x y
  | .e _, _, h, r => ER.free hF h r
  | .tup l, _, h, r => by
    obtain ⟨cs, hy, ha⟩ := r
    simp only [AV.refs, List.flatMap_eq_nil_iff] at h
    exact ⟨cs, hy, all2_free (fun a ha' b hb => ER.free hF (h a ha') hb) ha⟩

/-- A call that writes nothing of its caller's: what has come to rest there is at rest here. -/
theorem call_rests (H : HR m base lvl h w) {F' : List (Nat × List Value)} {w' : World} (hB : Below w.heap.size w w') (hF : ∀ p ∈ m.F, p ∈ F') (hfr : ∀ p ∈ F', p ∈ m.F ∨ w.heap.size ≤ p.1)
    (htab : ∀ p ∈ F', ∃ (c : Array Value) (t : TypeId) (fz : Nat × Nat), w'.heap[p.1]? = some (.cells c t fz) ∧ c.toList = p.2) :
    HR { m with F := F' } base lvl h w' ∧ M.leG base m { m with F := F' } := by
  have hle : M.leG base m { m with F := F' } := ⟨Nat.le_refl _, fun _ _ => rfl, fun _ _ => rfl, rfl, hF, fun p hp => (hfr p hp).imp_right (Nat.le_trans H.baseLe)⟩
  have Hw := H.world (w' := w') hB.size hB.block
  refine ⟨⟨Hw.n, Hw.lvlLe, Hw.baseLe, fun b a hb => (Hw.ent b a hb).monoG hle (by rw [Hw.n]; exact (List.getElem?_eq_some_iff.1 hb).1), Hw.own, Hw.inj, Hw.lo, fun p hp => ⟨htab p hp, fun b a hb ha => ?_⟩⟩, hle⟩
  rcases hfr p hp with h0 | h0
  · exact (H.tab p h0).2 b a hb ha
  · have := (H.ent b a ha).lt
    show m.ρ b ≠ p.1
    omega

theorem dV_sound (hE : EnvOk E) (G : GR E.gl base w) (hT : TR m tm t) (H : HR m base lvl h w) {o : Oper} {a : DAns} {ps : List Prop} (hs : dV E lvl h tm o a = some (x, h', ps)) (hp : AllP ps) :
    OpRes E.P t o w fun y w' => ∃ m', PostO o m base lvl w x h' y w' m' := by
  unfold dV at hs
  split at hs
  · -- len
    split at hs
    · rename_i c hop
      split at hs
      · rename_i cells n sz u hcal hargs htys
        split at hs
        · rename_i el hu
          simp only [Option.some.injEq, Prod.mk.injEq] at hs
          obtain ⟨rfl, rfl, rfl⟩ := hs
          have hal := args_sound hT c.args
          rw [hargs] at hal
          obtain ⟨y, hyy, hr⟩ := all2_one hal
          have hargsC : c.args.map (evC t) = #[y] := by rw [← Array.toList_inj]; exact hyy
          have htysA : c.argTypes = #[u] := by rw [← Array.toList_inj]; exact htys
          obtain ⟨pa, pc, rfl⟩ := lenS_sound (m := m) hr rfl
          refine ⟨by simp [hop], by simp [hop], .inl ⟨.int .i64 n, w, .inl ?_, m, Post.sameO H (show CR m (.v _) _ from rfl)⟩⟩
          simp [execOp, hop, resolve, hcal, invoke, builtin, hargsC, htysA, Builtin.len_, run_underlying hu, Builtin.lenOf, goInt]
        · simp at hs
      · simp at hs
    · simp at hs
  · -- ix
    rename_i k
    split at hs
    · rename_i u p i hop
      split at hs
      · rename_i cells len sz kk n el hev hin hu
        split at hs
        · rename_i e he
          split at hs
          · rename_i hsz
            have hsz := Nat.eq_of_beq_eq_true hsz
            simp only [Option.some.injEq, Prod.mk.injEq] at hs
            obtain ⟨rfl, rfl, rfl⟩ := hs
            obtain ⟨⟨c1, c2⟩, rfl, _⟩ := hp
            have hv := evA_sound hT p
            rw [hev] at hv
            have hv : DT.R m.F (.s cells len sz) (evC t p) := hv
            simp only [DT.R] at hv
            rcases hv with ⟨h0, _⟩ | ⟨_, b, of, cc, cs, hv', g1, g2, g3, g4, g5, g6⟩
            · omega
            · have hn := intOf_sound (evA_sound hT i) hin
              refine ⟨by simp [hop], by simp [hop], .inl ⟨.pointer (some ⟨b, of + n.toNat * sz, none⟩), w, .inl ?_, m, Post.sameO H (show DV.R m.F (.p cells (n.toNat * sz)) _ from ⟨b, of, cs, rfl, g3, by omega, g6⟩)⟩⟩
              simp [execOp, hop, hv', hn, Instr.indexAt, asIntOf, run_underlying hu, c1, c2, run_sizeOf he, addr_add, hsz]
          · simp at hs
        · simp at hs
      · simp at hs
    · simp at hs
  · -- fa
    split at hs
    · rename_i s p f hop
      split at hs
      · rename_i cells k fs hev hu
        split at hs
        · rename_i fd hfd
          split at hs
          · rename_i i hi
            split at hs
            · rename_i hz
              have hz : ¬ i.size = 0 := fun e => by rw [e] at hz; simp at hz
              simp only [Option.some.injEq, Prod.mk.injEq] at hs
              obtain ⟨rfl, rfl, rfl⟩ := hs
              have hv := evA_sound hT p
              rw [hev] at hv
              obtain ⟨b, o', cs, hv', g1, g2, g3⟩ : DV.R m.F (.p cells k) (evC t p) := hv
              refine ⟨by simp [hop], by simp [hop], .inl ⟨.pointer (some ⟨b, o' + (k + fd.offset), none⟩), w, .inl ?_, m, Post.sameO H (show DV.R m.F (.p cells (k + fd.offset)) _ from ⟨b, o', cs, rfl, g1, g2, g3⟩)⟩⟩
              simp [execOp, hop, hv', Instr.fieldAt, run_underlying hu, hfd, Instr.sureAddr, fieldPlace, run_sizeOf hi, hz, addr_add, Nat.add_assoc]
            · simp at hs
          · simp at hs
        · simp at hs
      · simp at hs
    · simp at hs
  · -- nc
    split at hs
    · rename_i p hop
      split at hs
      · rename_i cells k hev
        simp only [Option.some.injEq, Prod.mk.injEq] at hs
        obtain ⟨rfl, rfl, rfl⟩ := hs
        have hv := evA_sound hT p
        rw [hev] at hv
        have hv0 : DV.R m.F (.p cells k) (evC t p) := hv
        obtain ⟨b, o', cs, hv', g1, g2, g3⟩ := hv0
        refine ⟨by simp [hop], by simp [hop], .inl ⟨evC t p, w, .inl ?_, m, Post.sameO H hv⟩⟩
        simp [execOp, hop, hv', asAddr]
      · simp at hs
    · simp at hs
  · -- ld
    rename_i d
    split at hs
    · rename_i u p hop
      split at hs
      · rename_i cells k ud i hev hu hi
        split at hs
        · rename_i hag
          simp only [Option.some.injEq, Prod.mk.injEq] at hs
          obtain ⟨rfl, rfl, rfl⟩ := hs
          have hv := evA_sound hT p
          rw [hev] at hv
          have hg : getL (cells.map DT.ac) k = some d.ac := by
            have := hp.1
            rw [getL_eq] at this ⊢
            rw [List.getElem?_map, this]; rfl
          obtain ⟨v, hrun, hr⟩ := deep_load (E := E) H hv (u := u) (e := .one d.ac) (by unfold take?; simp only [hu, hi, hag, hg]; rfl)
          exact ⟨by simp [hop], by simp [hop], .inl ⟨v, w, .inl (by simp [execOp, hop, hrun]), m, Post.sameO H hr⟩⟩
        · simp at hs
      · simp at hs
    · simp at hs
  · -- ldn
    rename_i l
    split at hs
    · rename_i u p hop
      split at hs
      · rename_i cells k ud i hev hu hi
        split at hs
        · rename_i hag
          simp only [Option.some.injEq, Prod.mk.injEq] at hs
          obtain ⟨rfl, rfl, rfl⟩ := hs
          have hv := evA_sound hT p
          rw [hev] at hv
          have hg : takeL (dropL (cells.map DT.ac) k) i.size = some (l.map DT.ac) := by
            obtain ⟨h1, h2⟩ := takeL_some hp.1
            rw [dropL_eq] at h1 h2
            rw [dropL_eq, takeL_eq, ← List.map_drop, if_pos (by rw [List.length_map]; exact h1), ← List.map_take, ← h2]
          obtain ⟨v, hrun, hr⟩ := deep_load (E := E) H hv (u := u) (e := .agg (l.map DT.ac)) (by unfold take?; simp only [hu, hi, hag, hg]; rfl)
          exact ⟨by simp [hop], by simp [hop], .inl ⟨v, w, .inl (by simp [execOp, hop, hrun]), m, Post.sameO H hr⟩⟩
        · simp at hs
      · simp at hs
    · simp at hs
  · -- sl
    rename_i l u r
    split at hs
    · rename_i ty p lo hi hop
      split at hs
      · rename_i el cells n sz hu hev
        split at hs
        · rename_i e l' u' he hlo hhi
          split at hs
          · rename_i hsz
            have hsz := Nat.eq_of_beq_eq_true hsz
            simp only [Option.some.injEq, Prod.mk.injEq] at hs
            obtain ⟨rfl, rfl, rfl⟩ := hs
            obtain ⟨rfl, rfl, ⟨q1, q2⟩, q3, _⟩ := hp
            have hv := evA_sound hT p
            rw [hev] at hv
            have hv : DT.R m.F (.s cells n sz) (evC t p) := hv
            simp only [DT.R] at hv
            rcases hv with ⟨h0, pa, pc, hv'⟩ | ⟨_, b, of, cc, cs, hv', g1, g2, g3, g4, g5, g6⟩
            · subst h0
              obtain rfl : l = 0 := by omega
              obtain rfl : u = 0 := by omega
              have hbd := bounds_of (len := 0) (cap := pc) hlo hhi ⟨Nat.le_refl _, Nat.zero_le _⟩
              obtain ⟨h1, h2, h3⟩ := bounds_sound (E := E) (w := w) (isSlice := true) hT (Nat.le_refl pc) (fun _ => Nat.zero_le _) hbd
              refine ⟨by simp [hop], by simp [hop], .inl ⟨.slice (if pc = 0 then pa else pa.map (·.add (0 * e.size))) (0 - 0) (pc - 0), w, .inl ?_, m, Post.sameO H ?_⟩⟩
              · simp [execOp, hop, hv', Instr.sliceAt, Instr.slice, run_underlying hu, h1.1, run_sizeOf he]
              · show DT.R m.F (.s r (0 - 0) sz) _
                simp only [DT.R]
                exact .inl ⟨trivial, _, _, rfl⟩
            · have hbd := bounds_of (len := n) (cap := cc) hlo hhi ⟨q1, by omega⟩
              obtain ⟨h1, h2, h3⟩ := bounds_sound (E := E) (w := w) (isSlice := true) hT (Nat.le_refl cc) (fun _ => g1) hbd
              refine ⟨by simp [hop], by simp [hop], .inl ⟨.slice (if cc = l then some ⟨b, of, none⟩ else some ((⟨b, of, none⟩ : Addr).add (l * e.size))) (u - l) (cc - l), w, .inl ?_, m, Post.sameO H ?_⟩⟩
              · simp [execOp, hop, hv', Instr.sliceAt, Instr.slice, run_underlying hu, h1.1, run_sizeOf he]
              · show DT.R m.F (.s r (u - l) sz) _
                simp only [DT.R]
                by_cases hul : u = l
                · exact .inl ⟨by omega, _, _, by rw [hul, Nat.sub_self]⟩
                · have hne : ¬ cc = l := by omega
                  rw [if_neg hne, addr_add, hsz]
                  have hmul : l * sz + (cc - l) * sz = cc * sz := by rw [← Nat.add_mul]; congr 1; omega
                  obtain ⟨t1, t2⟩ := takeL_some q3
                  rw [dropL_eq] at t1 t2
                  refine .inr ⟨by omega, b, of + l * sz, cc - l, cs, rfl, by omega, by omega, g3, by omega, takeL_len q3, ?_⟩
                  have := (g6.drop (l * sz)).pre ((u - l) * sz)
                  rw [← t2, List.drop_drop] at this
                  exact this
          · simp at hs
        · simp at hs
      · simp at hs
    · simp at hs
  · -- z
    split at hs
    · rename_i ty p lo hi mx hop
      split at hs
      · rename_i el cells n sz hu hev
        split at hs
        · rename_i e he hlo hhi hmx
          simp only [Option.some.injEq, Prod.mk.injEq] at hs
          obtain ⟨rfl, rfl, rfl⟩ := hs
          have hv := evA_sound hT p
          rw [hev] at hv
          obtain ⟨pa, pc, hv'⟩ := lenS_sound (m := m) (n := n) hv rfl
          have hbd : sliceBoundsA 0 0 (lo.map (evA tm)) ((some hi).map (evA tm)) = some (0, 0) := bounds_of (len := 0) (cap := 0) hlo hhi ⟨Nat.le_refl _, Nat.le_refl _⟩
          obtain ⟨h1, h2⟩ := bounds3_sound (E := E) (w := w) (len := n) (mm := 0) (mx := mx) (cap' := pc) hT (Nat.zero_le pc) rfl hmx (by simp) (by simp) hbd
          refine ⟨by simp [hop], by simp [hop], .inl ⟨.slice (if (0 : Int).toNat = 0 then pa else pa.map (·.add (0 * e.size))) (0 - 0) ((0 : Int).toNat - 0), w, .inl ?_, m, Post.sameO H ?_⟩⟩
          · simp [execOp, hop, hv', Instr.sliceAt, Instr.slice, run_underlying hu, run_sizeOf he] at h1 ⊢
            simp [h1]
          · exact ⟨_, rfl⟩
        · simp at hs
      · simp at hs
    · simp at hs
  · -- cl
    split at hs
    · rename_i c hop
      split at hs
      · rename_i cells n sz u xu hcal hargs htys
        split at hs
        · rename_i el hu
          split at hs
          · rename_i e z he hz
            split at hs
            · rename_i hcond
              simp only [Bool.and_eq_true, Nat.blt_eq] at hcond
              obtain ⟨⟨⟨c1, c2⟩, c3⟩, c4⟩ := hcond
              have c1 := Nat.eq_of_beq_eq_true c1
              have c3 := Nat.eq_of_beq_eq_true c3
              have c4 := Nat.eq_of_beq_eq_true c4
              simp only [Option.some.injEq, Prod.mk.injEq] at hs
              obtain ⟨rfl, rfl, rfl⟩ := hs
              obtain ⟨hsm, _⟩ := hp
              subst c1 c4
              obtain ⟨i', zv, hi, hzv, rfl⟩ := zeroA_some hz
              have hie : i' = e := by rw [he] at hi; simpa using hi.symm
              subst hie
              have hzs : zv.cells.size = i'.size := by rw [lenL_eq] at c3; simpa using c3
              have hal := args_sound hT c.args
              rw [hargs] at hal
              obtain ⟨y, y2, hyy, hr1, hr2⟩ := all2_two hal
              have hargsC : c.args.map (evC t) = #[y, y2] := by rw [← Array.toList_inj]; exact hyy
              have htysA : c.argTypes = #[u, u] := by rw [← Array.toList_inj]; exact htys
              obtain ⟨pz, rfl⟩ : ∃ p, y = .slice p 0 0 := hr1
              have hr2 : DT.R m.F (.s cells n i'.size) y2 := hr2
              have hr2' := hr2
              simp only [DT.R] at hr2'
              rcases hr2' with ⟨rfl, pa, pc, rfl⟩ | ⟨h0, b, of, cc, cs, rfl, g1, g2, g3, g4, g5, g6⟩
              · have hrun : (Builtin.append_ #[u, u] o.type #[.slice pz 0 0, .slice pa 0 pc]).run E.P w = .ok (.slice pz 0 0) w := by
                  have hz : (Builtin.firstCells i'.size 0 (.slice pa 0 pc)).run E.P w = .ok #[] w := by
                    cases pa <;> simp [Builtin.firstCells, loadCells, loadCellsFrom]
                  cases pz <;> simp [Builtin.append_, run_underlying hu, run_sizeOf he, Builtin.lenOf, hz, storeCells]
                refine ⟨by simp [hop], by simp [hop], .inl ⟨.slice pz 0 0, w, .inl (by simp [execOp, hop, resolve, hcal, invoke, builtin, hargsC, htysA, hrun]), m, Post.sameO H ?_⟩⟩
                show DT.R m.F (.s cells 0 i'.size) _
                simp only [DT.R]
                exact .inl ⟨trivial, _, _, rfl⟩
              · obtain ⟨⟨ca, t', fz, k1, k2⟩, _⟩ := H.tab _ g3
                have k2 : ca.toList = cs := k2
                have hlen : n * i'.size ≤ (cs.drop of).length := by rw [← g5]; exact g6.take
                obtain ⟨s1, s2, s3⟩ := small_spec hsm
                let news := (cs.drop of).take (n * i'.size)
                have hnl : news.length = n * i'.size := by simp only [news]; rw [List.length_take]; omega
                have hnews : ∀ (w2 : World), w2.heap = w.heap → ∀ j v, news[j]? = some v → w2.cell? ((⟨b, of, none⟩ : Addr).add j) = some v := fun w2 hw2 j v hj => by
                  rw [addr_add, cell_of_row w2 _ _ ca t' fz (by rw [hw2]; exact k1)]
                  simp only [news] at hj
                  rw [List.getElem?_take] at hj
                  split at hj
                  · rw [List.getElem?_drop, ← k2] at hj
                    simpa using hj
                  · simp at hj
                have hge := grownCap_ge w n 0 el
                have hmx := grownCap_le_maxLen w n 0 el (by unfold maxLen; omega)
                have hb48 : n * i'.bytes ≤ 281474976710656 := by
                  have : n * i'.bytes ≤ 2000000 * 1024 := Nat.mul_le_mul s1 s3
                  omega
                have hrun : (Builtin.append_ #[u, u] o.type #[.slice pz 0 0, .slice (some ⟨b, of, none⟩) n cc]).run E.P w =
                    .ok (.slice (some ⟨w.heap.size, 0, none⟩) n (grownCap w n 0 el)) (w.drew.alloc (.cells (news.toArray ++ Builtin.zeroCells zv.cells (grownCap w n 0 el - n)) el)) := by
                  cases pz with
                  | none => exact run_append_nil (P := E.P) w u o.type el i' zv hu hi hzv ⟨b, of, none⟩ n cc news hnl (hnews w rfl) h0 (by omega) hb48
                  | some pz =>
                    have := run_append_grow (P := E.P) w u o.type el i' zv hu hi hzv pz 0 0 [] (by simp) (by simp) ⟨b, of, none⟩ n cc news hnl (hnews w rfl) (by omega) (by simp; omega) (by rw [Nat.zero_add, nextslicecap_zero h0]; exact hb48)
                    simpa using this
                let cs' := (news.toArray ++ Builtin.zeroCells zv.cells (grownCap w n 0 el - n)).toList
                have hcs' : (news.toArray ++ Builtin.zeroCells zv.cells (grownCap w n 0 el - n)) = cs'.toArray := by simp [cs']
                have hcl : cs'.length = grownCap w n 0 el * i'.size := by
                  simp only [cs', Array.length_toList, Array.size_append, List.size_toArray, size_zeroCells, hzs, hnl, ← Nat.add_mul]
                  congr 1
                  omega
                rw [hcs'] at hrun
                obtain ⟨H2, hle⟩ := (H.world (w' := w.drew) (Nat.le_refl _) (fun _ _ => rfl)).rest (w' := w.drew.alloc (.cells cs'.toArray el)) (cs := cs') (el := el) (fz := (0, 0)) rfl
                have hsz : w.drew.heap.size = w.heap.size := rfl
                rw [hsz] at H2 hle
                refine ⟨by simp [hop], by simp [hop], .inl ⟨.slice (some ⟨w.heap.size, 0, none⟩) n (grownCap w n 0 el), w.drew.alloc (.cells cs'.toArray el), .inl (by simp only [execOp, hop, resolve, hcal, invoke, builtin, hargsC, htysA, hrun, Sem.run_bind, Sem.run_pure, Result.andThen_ok]), { m with F := (w.heap.size, cs') :: m.F }, ⟨hle, ?_, H2, ((Below.refl _ _).drew).alloc H.baseLe _⟩, fun hcv => by rw [callV_call hop] at hcv; cases hcv⟩⟩
                show DT.R ((w.heap.size, cs') :: m.F) (.s cells n i'.size) _
                simp only [DT.R]
                refine .inr ⟨h0, w.heap.size, 0, _, cs', rfl, hge, hmx, List.mem_cons_self .., by rw [hcl]; omega, g5, ?_⟩
                have := (DT.Rl.put (zs := (Builtin.zeroCells zv.cells (grownCap w n 0 el - n)).toList) g6).mono (fun p hp => List.mem_cons_of_mem (w.heap.size, cs') hp)
                rw [g5] at this
                simpa [cs', news] using this
            · simp at hs
          · simp at hs
        · simp at hs
      · simp at hs
    · simp at hs
  · -- c1
    split at hs
    · rename_i c hop
      split at hs
      · rename_i f args hcal
        split at hs
        · rename_i fn hfn
          split at hs
          · rename_i hbody
            simp only [Option.some.injEq, Prod.mk.injEq] at hs
            obtain ⟨rfl, rfl, rfl⟩ := hs
            obtain ⟨hc, hv, _⟩ := hp
            obtain ⟨argsC, hrun, hargs⟩ := call_enter hE hT hop hcal hfn hbody w
            refine ⟨by simp [hop], by simp [hop], .inr (.inl ⟨f, argsC, hrun, ?_⟩)⟩
            rw [lenL_eq] at hc
            refine (hc m w.heap.size w argsC hargs H.shut (G.up H.baseLe)).mono fun e w' ⟨y, hy, m', hp⟩ => ⟨y, hy, { m with F := m'.F }, ?_, fun h0 => by rw [callV_call hop] at h0; cases h0⟩
            obtain ⟨H2, hle⟩ := call_rests H hp.below hp.le.F hp.le.fresh (fun p h0 => (hp.heap.tab p h0).1)
            exact ⟨hle, VR.free (m1 := m') (m2 := { m with F := m'.F }) (fun _ h0 => h0) hv hp.val, H2, hp.below.mono H.baseLe⟩
          · simp at hs
        · simp at hs
      · simp at hs
    · simp at hs
  · -- ap
    rename_i n mm xs lx L N
    split at hs
    · rename_i c hop
      split at hs
      · rename_i b s len sz cap ds m' sz2 u xu hcal hargs htys
        split at hs
        · rename_i el hu
          split at hs
          · rename_i e z ab he hz hb
            split at hs
            · rename_i hcond
              simp only [Bool.and_eq_true, Nat.blt_eq, Nat.ble_eq, Bool.not_eq_true'] at hcond
              obtain ⟨⟨⟨⟨⟨⟨⟨⟨c1, c2⟩, c3⟩, c4⟩, c5⟩, c6⟩, c7⟩, c8⟩, c9⟩ := hcond
              have c1 := Nat.eq_of_beq_eq_true c1
              have c3 := Nat.eq_of_beq_eq_true c3
              have c4 := Nat.eq_of_beq_eq_true c4
              have c5 := Nat.eq_of_beq_eq_true c5
              have c7 := Nat.eq_of_beq_eq_true c7
              have c8 := Nat.eq_of_beq_eq_true c8
              simp only [Option.some.injEq, Prod.mk.injEq] at hs
              obtain ⟨rfl, rfl, rfl⟩ := hs
              obtain ⟨rfl, rfl, p1, rfl, p2, p3, p4, p5, p6, rfl, rfl, rfl, _⟩ := hp
              subst c1 c4 c5 c7 c8
              have ht0 : c.argTypes[0]? = some u := by
                have : c.argTypes.toList[0]? = some u := by rw [htys]; rfl
                simpa using this
              have ht1 : c.argTypes[1]? = some u := by
                have : c.argTypes.toList[1]? = some u := by rw [htys]; rfl
                simpa using this
              have hsrc : srcCells h e.size m' (.e (.one (.dp (.s ds m' e.size)))) = some (ds.map DT.ac) := by
                simp only [srcCells, Nat.le_refl, and_self, true_and, p1, if_true]
                rw [takeL_eq, List.length_map, p2, if_pos (Nat.le_refl _), ← p2, ← List.length_map (f := DT.ac), List.take_length]
              have hst : builtinA E lvl h .append c.argTypes (c.args.toList.map (evA tm)) = some (.e (.one (.slc (lenL h) 0 (len + m') e.size (len + m') false)), appL (setL h b none) [some ⟨appL ab.cells (ds.map DT.ac), (len + m') * e.size, ab.elem, false, .cells⟩]) := by
                simp only [hargs, builtinA, ht0, ht1, appendA, lenS?, hu, he, hz, hsrc, c2, c3, p3, hb, p4, p5, p6, c6, c9, p1, Bool.false_eq_true, and_self, if_true, if_false]
              obtain ⟨y, w', m1, r1, r2⟩ := op_builtin hT H hop hcal hst
              exact ⟨by simp [hop], by simp [hop], .inl ⟨y, w', r1, m1, r2.o⟩⟩
            · simp at hs
          · simp at hs
        · simp at hs
      · simp at hs
    · simp at hs

end
end Go.Ev
