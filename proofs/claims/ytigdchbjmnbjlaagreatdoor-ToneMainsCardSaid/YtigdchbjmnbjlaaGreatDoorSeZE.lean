/-
  Part of the proof.
-/
import Derived.Test.YtigdchbjmnbjlaaGreatDoorSeZD
import Derived.Test.YtigdchbjmnbjlaaGreatDoorProg
section
namespace Go.Ev
open Go.RowKit
section
variable {E : Env} {m : M} {base lvl : Nat} {h h' : Heap} {w : World} {tm : Tm} {t : Array Value} {x : AV}
theorem DT.Rl.put {F : List (Nat × List Value)} : ∀ {l : List DT} {ys zs : List Value}, DT.Rl F l ys → DT.Rl F l (ys.take l.length ++ zs)
 | [], _, _, _ => by simp [DT.Rl]
 | d :: l, ys, zs, r => by
  simp only [DT.Rl] at r ⊢
  obtain ⟨y, r', rfl, h1, h2⟩ := r
  exact ⟨y, r'.take l.length ++ zs, by simp, h1, DT.Rl.put h2⟩
theorem deep_load (H : HR m base lvl h w) {cells : List DT} {k : Nat} {y : Value} (hy : DV.R m.F (.p cells k) y) {u : TypeId} {e : AE} (he : take? E.P u (cells.map DT.ac) k = some e) :
  ∃ v, (Instr.loadAt u y).run E.P w = .ok v w ∧ VR m (.e e) v := by
 obtain ⟨b, o', cs, rfl, hF, hle, hR⟩ := hy
 obtain ⟨⟨c, t', fz, h1, h2⟩, _⟩ := H.tab _ hF
 have h2 : c.toList = cs := h2
 have hl : ((cs.take o').map AC.v ++ cells.map DT.ac).length = min o' cs.length + cells.length := by simp
 have hall : All2 (CR m) ((cs.take o').map AC.v ++ cells.map DT.ac) (c.toList.take (o' + cells.length)) := by
  have e1 : c.toList.take (o' + cells.length) = cs.take o' ++ (cs.drop o').take cells.length := by
   rw [h2, List.take_add]
  rw [e1]
  exact (all2_v m _).append hR.ac
 have e2 : take? E.P u ((cs.take o').map AC.v ++ cells.map DT.ac) (o' + k) = take? E.P u (cells.map DT.ac) k := by
  have hl0 : ((cs.take o').map AC.v).length = o' := by simp; omega
  unfold take?
  have g1 : getL ((cs.take o').map AC.v ++ cells.map DT.ac) (o' + k) = getL (cells.map DT.ac) k := by
   rw [getL_eq, getL_eq, List.getElem?_append_right (by omega), hl0, Nat.add_sub_cancel_left]
  have g2 : dropL ((cs.take o').map AC.v ++ cells.map DT.ac) (o' + k) = dropL (cells.map DT.ac) k := by
   rw [dropL_eq, dropL_eq, List.drop_append, hl0, Nat.add_sub_cancel_left, List.drop_of_length_le (by omega)]; rfl
  rw [g1, g2]
 obtain ⟨v, hv, hr⟩ := take_sound (P := E.P) h1 (l := (cs.take o').map AC.v ++ cells.map DT.ac) (n := o' + cells.length) (by rw [hl]; omega) hall (t := u) (o := o' + k) (by rw [e2]; exact he)
 exact ⟨v, by simpa [Instr.loadAt, Instr.sureAddr] using hv, hr⟩
theorem HR.rest (H : HR m base lvl h w) {w' : World} {cs : List Value} {el : TypeId} {fz : Nat × Nat} (hw : w'.heap = w.heap.push (.cells cs.toArray el fz)) :
  HR { m with F := (w.heap.size, cs) :: m.F } base lvl h w' ∧ M.leG base m { m with F := (w.heap.size, cs) :: m.F } := by
 have old : ∀ b, b < w.heap.size → w'.heap[b]? = w.heap[b]? := fun b hb => by rw [hw, Array.getElem?_push, if_neg (by omega)]
 have hle : M.leG base m { m with F := (w.heap.size, cs) :: m.F } := ⟨Nat.le_refl _, fun _ _ => rfl, fun _ _ => rfl, rfl, fun p hp => List.mem_cons_of_mem _ hp, fun p hp => by
  rcases List.mem_cons.1 hp with rfl | hp
  ·exact .inr H.baseLe
  ·exact .inl hp⟩
 have Hw := H.world (w' := w') (by rw [hw]; simp) old
 refine ⟨⟨Hw.n, Hw.lvlLe, Hw.baseLe, fun b a hb => (Hw.ent b a hb).monoG hle (by rw [Hw.n]; exact (List.getElem?_eq_some_iff.1 hb).1), Hw.own, Hw.inj, Hw.lo, fun p hp => ?_⟩, hle⟩
 rcases List.mem_cons.1 hp with rfl | hp
 ·refine ⟨⟨cs.toArray, el, fz, by rw [hw]; simp, rfl⟩, fun b a hb ha => ?_⟩
  have := (H.ent b a ha).lt
  show m.ρ b ≠ w.heap.size
  omega
 ·exact Hw.tab p hp
theorem takeL_len {α : Type} {l r : List α} {n : Nat} (h : takeL l n = some r) : r.length = n := by
 obtain ⟨h1, rfl⟩ := takeL_some h
 simp; omega
theorem all2_free {α β : Type} {R S : α → β → Prop} : ∀ {l : List α} {ys : List β}, (∀ a ∈ l, ∀ b, R a b → S a b) → All2 R l ys → All2 S l ys
 | [], [], _, _ => trivial
 | _ :: _, _ :: _, hg, h => ⟨hg _ (by simp) _ h.1, all2_free (fun a ha => hg a (by simp [ha])) h.2⟩
theorem CR.free {m1 m2 : M} (hF : ∀ p ∈ m1.F, p ∈ m2.F) : ∀ {x : AC} {y : Value}, x.refs = [] → CR m1 x y → CR m2 x y
 | .v _, _, _, r => r
 | .any _, _, _, r => r
 | .dp _, _, _, r => DV.R.mono hF r
 | .ptr _ _, _, h, _ => by simp [AC.refs] at h
 | .slc _ _ _ _ _ _, _, h, _ => by simp [AC.refs] at h
 | .yld _, _, h, _ => by simp [AC.refs] at h
 | .mp _, _, h, _ => by simp [AC.refs] at h
 | .clo g fs cs, _, h, r => by
  simp only [AC.refs, List.append_eq_nil_iff] at h
  obtain ⟨vf, vc, hy, h1, h2⟩ := r
  have key : ∀ {l : List CE}, l.flatMap CE.refs = [] → ∀ e ∈ l, ∀ c ∈ e.atoms, c.ac.refs = [] := fun {l} hl e he c hc => by
   rw [CA.refs_ac]
   exact List.flatMap_eq_nil_iff.1 (List.flatMap_eq_nil_iff.1 hl e he) c hc
  exact ⟨vf, vc, hy, CEs.to (fun e he c hc y hr => CR.free hF (key h.1 e he c hc) hr) h1, CEs.to (fun e he c hc y hr => CR.free hF (key h.2 e he c hc) hr) h2⟩
termination_by x => x.rank
decreasing_by all_goals (rw [CA.rank_ac]; exact Nat.one_pos)
theorem ER.free {m1 m2 : M} (hF : ∀ p ∈ m1.F, p ∈ m2.F) : ∀ {x : AE} {y : Value}, x.refs = [] → ER m1 x y → ER m2 x y
 | .one _, _, h, r => CR.free hF h r
 | .agg l, _, h, r => by
  obtain ⟨cs, hy, ha⟩ := r
  simp only [AE.refs, List.flatMap_eq_nil_iff] at h
  exact ⟨cs, hy, all2_free (fun a ha' b hb => CR.free hF (h a ha') hb) ha⟩
theorem VR.free {m1 m2 : M} (hF : ∀ p ∈ m1.F, p ∈ m2.F) : ∀ {x : AV} {y : Value}, x.refs = [] → VR m1 x y → VR m2 x y
 | .e _, _, h, r => ER.free hF h r
 | .tup l, _, h, r => by
  obtain ⟨cs, hy, ha⟩ := r
  simp only [AV.refs, List.flatMap_eq_nil_iff] at h
  exact ⟨cs, hy, all2_free (fun a ha' b hb => ER.free hF (h a ha') hb) ha⟩
theorem call_rests (H : HR m base lvl h w) {F' : List (Nat × List Value)} {w' : World} (hB : Below w.heap.size w w') (hF : ∀ p ∈ m.F, p ∈ F') (hfr : ∀ p ∈ F', p ∈ m.F ∨ w.heap.size ≤ p.1)
  (htab : ∀ p ∈ F', ∃ (c : Array Value) (t : TypeId) (fz : Nat × Nat), w'.heap[p.1]? = some (.cells c t fz) ∧ c.toList = p.2) :
  HR { m with F := F' } base lvl h w' ∧ M.leG base m { m with F := F' } := by
 have hle : M.leG base m { m with F := F' } := ⟨Nat.le_refl _, fun _ _ => rfl, fun _ _ => rfl, rfl, hF, fun p hp => (hfr p hp).imp_right (Nat.le_trans H.baseLe)⟩
 have Hw := H.world (w' := w') hB.size hB.block
 refine ⟨⟨Hw.n, Hw.lvlLe, Hw.baseLe, fun b a hb => (Hw.ent b a hb).monoG hle (by rw [Hw.n]; exact (List.getElem?_eq_some_iff.1 hb).1), Hw.own, Hw.inj, Hw.lo, fun p hp => ⟨htab p hp, fun b a hb ha => ?_⟩⟩, hle⟩
 rcases hfr p hp with h0 | h0
 ·exact (H.tab p h0).2 b a hb ha
 ·have := (H.ent b a ha).lt
  show m.ρ b ≠ p.1
  omega
theorem dV_sound (hE : EnvOk E) (G : GR E.gl base w) (hT : TR m tm t) (H : HR m base lvl h w) {o : Oper} {a : DAns} {ps : List Prop} (hs : dV E lvl h tm o a = some (x, h', ps)) (hp : AllP ps) :
  OpRes E.P t o w fun y w' => ∃ m', PostO o m base lvl w x h' y w' m' := by
 unfold dV at hs
 split at hs
 ·-- len
  split at hs
  ·rename_i c hop
   split at hs
   ·rename_i cells n sz u hcal hargs htys
    split at hs
    ·rename_i el hu
     simp only [Option.some.injEq, Prod.mk.injEq] at hs
     obtain ⟨rfl, rfl, rfl⟩ := hs
     have hal := args_sound hT c.args
     rw [hargs] at hal
     obtain ⟨y, hyy, hr⟩ := all2_one hal
     have hargsC : c.args.map (evC t) = #[y] := by rw [← Array.toList_inj]; exact hyy
     have htysA : c.argTypes = #[u] := by rw [← Array.toList_inj]; exact htys
     obtain ⟨pa, pc, rfl⟩ := lenS_sound (m := m) hr rfl
     refine ⟨by simp [hop], by simp [hop], .inl ⟨.int .i64 n, w, .inl ?_, m, Post.sameO H (show CR m (.v _) _ from rfl)⟩⟩
     simp [execOp, hop, resolve, hcal, invoke, builtin, hargsC, htysA, Builtin.len_, run_underlying hu, goInt]
    ·simp at hs
   ·simp at hs
  ·simp at hs
 ·-- ix
  rename_i k
  split at hs
  ·rename_i u p i hop
   split at hs
   ·rename_i cells len sz kk n el hev hin hu
    split at hs
    ·rename_i e he
     split at hs
     ·rename_i hsz
      have hsz := Nat.eq_of_beq_eq_true hsz
      simp only [Option.some.injEq, Prod.mk.injEq] at hs
      obtain ⟨rfl, rfl, rfl⟩ := hs
      obtain ⟨⟨c1, c2⟩, rfl, _⟩ := hp
      have hv := evA_sound hT p
      rw [hev] at hv
      have hv : DT.R m.F (.s cells len sz) (evC t p) := hv
      simp only [DT.R] at hv
      rcases hv with ⟨h0, _⟩ | ⟨_, b, of, cc, cs, hv', g1, g2, g3, g4, g5, g6⟩
      ·omega
      ·have hn := intOf_sound (evA_sound hT i) hin
       refine ⟨by simp [hop], by simp [hop], .inl ⟨.pointer (some ⟨b, of + n.toNat * sz, none⟩), w, .inl ?_, m, Post.sameO H (show DV.R m.F (.p cells (n.toNat * sz)) _ from ⟨b, of, cs, rfl, g3, by omega, g6⟩)⟩⟩
       simp [execOp, hop, hv', hn, Instr.indexAt, asIntOf, run_underlying hu, c1, c2, run_sizeOf he, addr_add, hsz]
     ·simp at hs
    ·simp at hs
   ·simp at hs
  ·simp at hs
 ·-- sp
  split at hs
  ·rename_i u a hop
   split at hs
   ·rename_i N el cells n sz hu hev
    split at hs
    ·rename_i hN
     rw [Nat.blt_eq] at hN
     simp only [Option.some.injEq, Prod.mk.injEq] at hs
     obtain ⟨rfl, rfl, rfl⟩ := hs
     obtain ⟨hle, _⟩ := hp
     have hv := evA_sound hT a
     rw [hev] at hv
     have hv : DT.R m.F (.s cells n sz) (evC t a) := hv
     simp only [DT.R] at hv
     rcases hv with ⟨h0, _⟩ | ⟨_, b, of, cc, cs, hv', g1, g2, g3, g4, g5, g6⟩
     ·omega
     ·refine ⟨by simp [hop], by simp [hop], .inl ⟨.pointer (some ⟨b, of, none⟩), w, .inl ?_, m, Post.sameO H (show DV.R m.F (.p cells 0) _ from ⟨b, of, cs, rfl, g3, by omega, g6⟩)⟩⟩
      simp [execOp, hop, hv', Instr.arrayAt, run_underlying hu, show ¬ n < N by omega]
    ·simp at hs
   ·simp at hs
  ·simp at hs
 ·-- ia
  rename_i k
  split at hs
  ·rename_i u p i hop
   split at hs
   ·rename_i cells s kk n len el hev hin hu
    split at hs
    ·rename_i e he
     simp only [Option.some.injEq, Prod.mk.injEq] at hs
     obtain ⟨rfl, rfl, rfl⟩ := hs
     obtain ⟨hcond, rfl, _⟩ := hp
     have hv := evA_sound hT p
     rw [hev] at hv
     obtain ⟨b, o', cs, hv', g1, g2, g3⟩ : DV.R m.F (.p cells s) (evC t p) := hv
     have hn := intOf_sound (evA_sound hT i) hin
     refine ⟨by simp [hop], by simp [hop], .inl ⟨.pointer (some ⟨b, o' + (s + n.toNat * e.size), none⟩), w, .inl ?_, m, Post.sameO H (show DV.R m.F (.p cells (s + n.toNat * e.size)) _ from ⟨b, o', cs, rfl, g1, g2, g3⟩)⟩⟩
     simp [execOp, hop, hv', hn, Instr.indexAt, asIntOf, run_underlying hu, Instr.sureAddr, hcond, run_sizeOf he, addr_add, Nat.add_assoc]
    ·simp at hs
   ·simp at hs
  ·simp at hs
 ·-- fa
  split at hs
  ·rename_i s p f hop
   split at hs
   ·rename_i cells k fs hev hu
    split at hs
    ·rename_i fd hfd
     split at hs
     ·rename_i i hi
      split at hs
      ·rename_i hz
       have hz : ¬ i.size = 0 := fun e => by rw [e] at hz; simp at hz
       simp only [Option.some.injEq, Prod.mk.injEq] at hs
       obtain ⟨rfl, rfl, rfl⟩ := hs
       have hv := evA_sound hT p
       rw [hev] at hv
       obtain ⟨b, o', cs, hv', g1, g2, g3⟩ : DV.R m.F (.p cells k) (evC t p) := hv
       refine ⟨by simp [hop], by simp [hop], .inl ⟨.pointer (some ⟨b, o' + (k + fd.offset), none⟩), w, .inl ?_, m, Post.sameO H (show DV.R m.F (.p cells (k + fd.offset)) _ from ⟨b, o', cs, rfl, g1, g2, g3⟩)⟩⟩
       simp [execOp, hop, hv', Instr.fieldAt, run_underlying hu, hfd, Instr.sureAddr, fieldPlace, run_sizeOf hi, hz, addr_add, Nat.add_assoc]
      ·simp at hs
     ·simp at hs
    ·simp at hs
   ·simp at hs
  ·simp at hs
 ·-- nc
  split at hs
  ·rename_i p hop
   split at hs
   ·rename_i cells k hev
    simp only [Option.some.injEq, Prod.mk.injEq] at hs
    obtain ⟨rfl, rfl, rfl⟩ := hs
    have hv := evA_sound hT p
    rw [hev] at hv
    have hv0 : DV.R m.F (.p cells k) (evC t p) := hv
    obtain ⟨b, o', cs, hv', g1, g2, g3⟩ := hv0
    refine ⟨by simp [hop], by simp [hop], .inl ⟨evC t p, w, .inl ?_, m, Post.sameO H hv⟩⟩
    simp [execOp, hop, hv']
   ·simp at hs
  ·rename_i b u a c nm hop
   split at hs
   ·rename_i cells n sz n2 c2 el r hpx hqx hu hr
    simp only [Option.some.injEq, Prod.mk.injEq] at hs
    obtain ⟨rfl, rfl, rfl⟩ := hs
    have hn0 : 0 < n := hp.1
    have h1 := evA_sound hT a
    rw [hpx] at h1
    have h1' : DT.R m.F (.s cells n sz) (evC t a) := h1
    simp only [DT.R] at h1'
    have h2 := evA_sound hT c
    rw [hqx] at h2
    have h2 : evC t c = .slice none n2 c2 := h2
    rcases h1' with h1' | h1'
    ·have := h1'.1
     omega
    ·obtain ⟨_, b', o', c', cs', h1, _⟩ := h1'
     have heq : ∀ w, (Op.equal u (evC t a) (evC t c)).run E.P w = .ok false w := fun w => by
      rw [h1, h2]
      simp only [Op.equal, Op.maxDepth]
      unfold Op.equalIn
      simp [run_underlying hu]
     refine ⟨by simp [hop], by simp [hop], .inl ⟨.bool r, w, .inl ?_, m, Post.sameO H (show CR m (.v _) _ from rfl)⟩⟩
     cases b <;> simp only [nilEq, Option.some.injEq, reduceCtorEq] at hr
     ·subst hr
      have := heq w
      rw [h1, h2] at this
      simp [execOp, hop, h1, h2, eqGuard, binOp, this]
     ·subst hr
      have := heq w
      rw [h1, h2] at this
      simp [execOp, hop, h1, h2, eqGuard, binOp, this]
   ·simp at hs
  ·simp at hs
 ·-- ld
  rename_i d
  split at hs
  ·rename_i u p hop
   split at hs
   ·rename_i cells k ud i hev hu hi
    split at hs
    ·rename_i hag
     simp only [Option.some.injEq, Prod.mk.injEq] at hs
     obtain ⟨rfl, rfl, rfl⟩ := hs
     have hv := evA_sound hT p
     rw [hev] at hv
     have hg : getL (cells.map DT.ac) k = some d.ac := by
      have := hp.1
      rw [getL_eq] at this ⊢
      rw [List.getElem?_map, this]; rfl
     obtain ⟨v, hrun, hr⟩ := deep_load (E := E) H hv (u := u) (e := .one d.ac) (by unfold take?; simp only [hu, hi, hag, hg]; rfl)
     exact ⟨by simp [hop], by simp [hop], .inl ⟨v, w, .inl (by simp [execOp, hop, hrun]), m, Post.sameO H hr⟩⟩
    ·simp at hs
   ·simp at hs
  ·simp at hs
 ·-- ldn
  rename_i l
  split at hs
  ·rename_i u p hop
   split at hs
   ·rename_i cells k ud i hev hu hi
    split at hs
    ·rename_i hag
     simp only [Option.some.injEq, Prod.mk.injEq] at hs
     obtain ⟨rfl, rfl, rfl⟩ := hs
     have hv := evA_sound hT p
     rw [hev] at hv
     have hg : takeL (dropL (cells.map DT.ac) k) i.size = some (l.map DT.ac) := by
      obtain ⟨h1, h2⟩ := takeL_some hp.1
      rw [dropL_eq] at h1 h2
      rw [dropL_eq, takeL_eq, ← List.map_drop, if_pos (by rw [List.length_map]; exact h1), ← List.map_take, ← h2]
     obtain ⟨v, hrun, hr⟩ := deep_load (E := E) H hv (u := u) (e := .agg (l.map DT.ac)) (by unfold take?; simp only [hu, hi, hag, hg]; rfl)
     exact ⟨by simp [hop], by simp [hop], .inl ⟨v, w, .inl (by simp [execOp, hop, hrun]), m, Post.sameO H hr⟩⟩
    ·simp at hs
   ·simp at hs
  ·simp at hs
 ·-- sl
  rename_i l u r
  split at hs
  ·rename_i ty p lo hi hop
   split at hs
   ·rename_i el cells n sz hu hev
    split at hs
    ·rename_i e l' u' he hlo hhi
     split at hs
     ·rename_i hsz
      have hsz := Nat.eq_of_beq_eq_true hsz
      simp only [Option.some.injEq, Prod.mk.injEq] at hs
      obtain ⟨rfl, rfl, rfl⟩ := hs
      obtain ⟨rfl, rfl, ⟨q1, q2⟩, q3, _⟩ := hp
      have hv := evA_sound hT p
      rw [hev] at hv
      have hv : DT.R m.F (.s cells n sz) (evC t p) := hv
      simp only [DT.R] at hv
      rcases hv with ⟨h0, pa, pc, hv'⟩ | ⟨_, b, of, cc, cs, hv', g1, g2, g3, g4, g5, g6⟩
      ·subst h0
       obtain rfl : l = 0 := by omega
       obtain rfl : u = 0 := by omega
       have hbd := bounds_of (len := 0) (cap := pc) hlo hhi ⟨Nat.le_refl _, Nat.zero_le _⟩
       obtain ⟨h1, h2, h3⟩ := bounds_sound (E := E) (w := w) (isSlice := true) hT (Nat.le_refl pc) (fun _ => Nat.zero_le _) hbd
       refine ⟨by simp [hop], by simp [hop], .inl ⟨.slice (if pc = 0 then pa else pa.map (·.add (0 * e.size))) (0 - 0) (pc - 0), w, .inl ?_, m, Post.sameO H ?_⟩⟩
       ·simp [execOp, hop, hv', Instr.sliceAt, Instr.slice, run_underlying hu, h1.1, run_sizeOf he]
       ·show DT.R m.F (.s r (0 - 0) sz) _
        simp only [DT.R]
        exact .inl ⟨trivial, _, _, rfl⟩
      ·have hbd := bounds_of (len := n) (cap := cc) hlo hhi ⟨q1, by omega⟩
       obtain ⟨h1, h2, h3⟩ := bounds_sound (E := E) (w := w) (isSlice := true) hT (Nat.le_refl cc) (fun _ => g1) hbd
       refine ⟨by simp [hop], by simp [hop], .inl ⟨.slice (if cc = l then some ⟨b, of, none⟩ else some ((⟨b, of, none⟩ : Addr).add (l * e.size))) (u - l) (cc - l), w, .inl ?_, m, Post.sameO H ?_⟩⟩
       ·simp [execOp, hop, hv', Instr.sliceAt, Instr.slice, run_underlying hu, h1.1, run_sizeOf he]
       ·show DT.R m.F (.s r (u - l) sz) _
        simp only [DT.R]
        by_cases hul : u = l
        ·exact .inl ⟨by omega, _, _, by rw [hul, Nat.sub_self]⟩
        ·have hne : ¬ cc = l := by omega
         rw [if_neg hne, addr_add, hsz]
         have hmul : l * sz + (cc - l) * sz = cc * sz := by rw [← Nat.add_mul]; congr 1; omega
         obtain ⟨t1, t2⟩ := takeL_some q3
         rw [dropL_eq] at t1 t2
         refine .inr ⟨by omega, b, of + l * sz, cc - l, cs, rfl, by omega, by omega, g3, by omega, takeL_len q3, ?_⟩
         have := (g6.drop (l * sz)).pre ((u - l) * sz)
         rw [← t2, List.drop_drop] at this
         exact this
     ·simp at hs
    ·simp at hs
   ·simp at hs
  ·simp at hs
 ·-- z
  split at hs
  ·rename_i ty p lo hi mx hop
   split at hs
   ·rename_i el cells n sz hu hev
    split at hs
    ·rename_i e he hlo hhi hmx
     simp only [Option.some.injEq, Prod.mk.injEq] at hs
     obtain ⟨rfl, rfl, rfl⟩ := hs
     have hv := evA_sound hT p
     rw [hev] at hv
     obtain ⟨pa, pc, hv'⟩ := lenS_sound (m := m) (n := n) hv rfl
     have hbd : sliceBoundsA 0 0 (lo.map (evA tm)) ((some hi).map (evA tm)) = some (0, 0) := bounds_of (len := 0) (cap := 0) hlo hhi ⟨Nat.le_refl _, Nat.le_refl _⟩
     obtain ⟨h1, h2⟩ := bounds3_sound (E := E) (w := w) (len := n) (mm := 0) (mx := mx) (cap' := pc) hT (Nat.zero_le pc) rfl hmx (by simp) (by simp) hbd
     refine ⟨by simp [hop], by simp [hop], .inl ⟨.slice (if (0 : Int).toNat = 0 then pa else pa.map (·.add (0 * e.size))) (0 - 0) ((0 : Int).toNat - 0), w, .inl ?_, m, Post.sameO H ?_⟩⟩
     ·simp [execOp, hop, hv', Instr.sliceAt, Instr.slice, run_underlying hu, run_sizeOf he] at h1 ⊢
      simp [h1]
     ·exact ⟨_, rfl⟩
    ·simp at hs
   ·simp at hs
  ·simp at hs
 ·-- cl
  split at hs
  ·rename_i c hop
   split at hs
   ·rename_i cells n sz u xu hcal hargs htys
    split at hs
    ·rename_i el hu
     split at hs
     ·rename_i e z he hz
      split at hs
      ·rename_i hcond
       simp only [Bool.and_eq_true, Nat.blt_eq] at hcond
       obtain ⟨⟨⟨c1, c2⟩, c3⟩, c4⟩ := hcond
       have c1 := Nat.eq_of_beq_eq_true c1
       have c3 := Nat.eq_of_beq_eq_true c3
       have c4 := Nat.eq_of_beq_eq_true c4
       simp only [Option.some.injEq, Prod.mk.injEq] at hs
       obtain ⟨rfl, rfl, rfl⟩ := hs
       obtain ⟨hsm, _⟩ := hp
       subst c1 c4
       obtain ⟨i', zv, hi, hzv, rfl⟩ := zeroA_some hz
       have hie : i' = e := by rw [he] at hi; simpa using hi.symm
       subst hie
       have hzs : zv.cells.size = i'.size := by rw [lenL_eq] at c3; simpa using c3
       have hal := args_sound hT c.args
       rw [hargs] at hal
       obtain ⟨y, y2, hyy, hr1, hr2⟩ := all2_two hal
       have hargsC : c.args.map (evC t) = #[y, y2] := by rw [← Array.toList_inj]; exact hyy
       have htysA : c.argTypes = #[u, u] := by rw [← Array.toList_inj]; exact htys
       obtain ⟨pz, rfl⟩ : ∃ p, y = .slice p 0 0 := hr1
       have hr2 : DT.R m.F (.s cells n i'.size) y2 := hr2
       have hr2' := hr2
       simp only [DT.R] at hr2'
       rcases hr2' with ⟨rfl, pa, pc, rfl⟩ | ⟨h0, b, of, cc, cs, rfl, g1, g2, g3, g4, g5, g6⟩
       ·have hrun : (Builtin.append_ #[u, u] o.type #[.slice pz 0 0, .slice pa 0 pc]).run E.P w = .ok (.slice pz 0 0) w := by
         have hz : (Builtin.firstCells i'.size 0 (.slice pa 0 pc)).run E.P w = .ok #[] w := by
          cases pa <;> simp [Builtin.firstCells, loadCells, loadCellsFrom]
         cases pz <;> simp [Builtin.append_, run_underlying hu, run_sizeOf he, Builtin.lenOf, hz, storeCells]
        refine ⟨by simp [hop], by simp [hop], .inl ⟨.slice pz 0 0, w, .inl (by simp [execOp, hop, resolve, hcal, invoke, builtin, hargsC, htysA, hrun]), m, Post.sameO H ?_⟩⟩
        show DT.R m.F (.s cells 0 i'.size) _
        simp only [DT.R]
        exact .inl ⟨trivial, _, _, rfl⟩
       ·obtain ⟨⟨ca, t', fz, k1, k2⟩, _⟩ := H.tab _ g3
        have k2 : ca.toList = cs := k2
        have hlen : n * i'.size ≤ (cs.drop of).length := by rw [← g5]; exact g6.take
        obtain ⟨s1, s2, s3⟩ := small_spec hsm
        let news := (cs.drop of).take (n * i'.size)
        have hnl : news.length = n * i'.size := by simp only [news]; rw [List.length_take]; omega
        have hnews : ∀ (w2 : World), w2.heap = w.heap → ∀ j v, news[j]? = some v → w2.cell? ((⟨b, of, none⟩ : Addr).add j) = some v := fun w2 hw2 j v hj => by
         rw [addr_add, cell_of_row w2 _ _ ca t' fz (by rw [hw2]; exact k1)]
         simp only [news] at hj
         rw [List.getElem?_take] at hj
         split at hj
         ·rw [List.getElem?_drop, ← k2] at hj
          simpa using hj
         ·simp at hj
        have hge := grownCap_ge w n 0 el
        have hmx := grownCap_le_maxLen w n 0 el (by unfold maxLen; omega)
        have hb48 : n * i'.bytes ≤ 281474976710656 := by
         have : n * i'.bytes ≤ 2000000 * 1024 := Nat.mul_le_mul s1 s3
         omega
        have hrun : (Builtin.append_ #[u, u] o.type #[.slice pz 0 0, .slice (some ⟨b, of, none⟩) n cc]).run E.P w =
          .ok (.slice (some ⟨w.heap.size, 0, none⟩) n (grownCap w n 0 el)) (w.drew.alloc (.cells (news.toArray ++ Builtin.zeroCells zv.cells (grownCap w n 0 el - n)) el)) := by
         cases pz with
         | none => exact run_append_nil (P := E.P) w u o.type el i' zv hu hi hzv ⟨b, of, none⟩ n cc news hnl (hnews w rfl) h0 (by omega) hb48
         | some pz =>
          have := run_append_grow (P := E.P) w u o.type el i' zv hu hi hzv pz 0 0 [] (by simp) (by simp) ⟨b, of, none⟩ n cc news hnl (hnews w rfl) (by omega) (by simp; omega) (by rw [Nat.zero_add, nextslicecap_zero h0]; exact hb48)
          simpa using this
        let cs' := (news.toArray ++ Builtin.zeroCells zv.cells (grownCap w n 0 el - n)).toList
        have hcs' : (news.toArray ++ Builtin.zeroCells zv.cells (grownCap w n 0 el - n)) = cs'.toArray := by simp [cs']
        have hcl : cs'.length = grownCap w n 0 el * i'.size := by
         simp only [cs', Array.length_toList, Array.size_append, List.size_toArray, size_zeroCells, hzs, hnl, ← Nat.add_mul]
         congr 1
         omega
        rw [hcs'] at hrun
        obtain ⟨H2, hle⟩ := (H.world (w' := w.drew) (Nat.le_refl _) (fun _ _ => rfl)).rest (w' := w.drew.alloc (.cells cs'.toArray el)) (cs := cs') (el := el) (fz := (0, 0)) rfl
        have hsz : w.drew.heap.size = w.heap.size := rfl
        rw [hsz] at H2 hle
        refine ⟨by simp [hop], by simp [hop], .inl ⟨.slice (some ⟨w.heap.size, 0, none⟩) n (grownCap w n 0 el), w.drew.alloc (.cells cs'.toArray el), .inl (by simp only [execOp, hop, resolve, hcal, invoke, builtin, hargsC, htysA, hrun, Sem.run_bind, Sem.run_pure, Result.andThen_ok]), { m with F := (w.heap.size, cs') :: m.F }, ⟨hle, ?_, H2, ((Below.refl _ _).drew).alloc H.baseLe _⟩, fun hcv => by rw [callV_call hop] at hcv; cases hcv⟩⟩
        show DT.R ((w.heap.size, cs') :: m.F) (.s cells n i'.size) _
        simp only [DT.R]
        refine .inr ⟨h0, w.heap.size, 0, _, cs', rfl, hge, hmx, List.mem_cons_self .., by rw [hcl]; omega, g5, ?_⟩
        have := (DT.Rl.put (zs := (Builtin.zeroCells zv.cells (grownCap w n 0 el - n)).toList) g6).mono (fun p hp => List.mem_cons_of_mem (w.heap.size, cs') hp)
        rw [g5] at this
        simpa [cs', news] using this
      ·simp at hs
     ·simp at hs
    ·simp at hs
   ·simp at hs
  ·simp at hs
 ·-- c1
  split at hs
  ·rename_i c hop
   split at hs
   ·rename_i f args hcal
    split at hs
    ·rename_i fn hfn
     split at hs
     ·rename_i hbody
      simp only [Option.some.injEq, Prod.mk.injEq] at hs
      obtain ⟨rfl, rfl, rfl⟩ := hs
      obtain ⟨hc, hv, _⟩ := hp
      obtain ⟨argsC, hrun, hargs⟩ := call_enter hE hT hop hcal hfn hbody w
      refine ⟨by simp [hop], by simp [hop], .inr (.inl ⟨f, argsC, hrun, ?_⟩)⟩
      rw [lenL_eq] at hc
      refine (hc m w.heap.size w argsC hargs H.shut (G.up H.baseLe)).mono fun e w' ⟨y, hy, m', hp⟩ => ⟨y, hy, { m with F := m'.F }, ?_, fun h0 => by rw [callV_call hop] at h0; cases h0⟩
      obtain ⟨H2, hle⟩ := call_rests H hp.below hp.le.F hp.le.fresh (fun p h0 => (hp.heap.tab p h0).1)
      exact ⟨hle, VR.free (m1 := m') (m2 := { m with F := m'.F }) (fun _ h0 => h0) hv hp.val, H2, hp.below.mono H.baseLe⟩
     ·simp at hs
    ·simp at hs
   ·simp at hs
  ·simp at hs
 ·-- ap
  rename_i n mm xs lx L N
  split at hs
  ·rename_i c hop
   split at hs
   ·rename_i b s len sz cap ds m' sz2 u xu hcal hargs htys
    split at hs
    ·rename_i el hu
     split at hs
     ·rename_i e z ab he hz hb
      split at hs
      ·rename_i hcond
       simp only [Bool.and_eq_true, Nat.blt_eq, Nat.ble_eq, Bool.not_eq_true'] at hcond
       obtain ⟨⟨⟨⟨⟨⟨⟨⟨c1, c2⟩, c3⟩, c4⟩, c5⟩, c6⟩, c7⟩, c8⟩, c9⟩ := hcond
       have c1 := Nat.eq_of_beq_eq_true c1
       have c3 := Nat.eq_of_beq_eq_true c3
       have c4 := Nat.eq_of_beq_eq_true c4
       have c5 := Nat.eq_of_beq_eq_true c5
       have c7 := Nat.eq_of_beq_eq_true c7
       have c8 := Nat.eq_of_beq_eq_true c8
       simp only [Option.some.injEq, Prod.mk.injEq] at hs
       obtain ⟨rfl, rfl, rfl⟩ := hs
       obtain ⟨rfl, rfl, p1, rfl, p2, p3, p4, p5, p6, rfl, rfl, rfl, _⟩ := hp
       subst c1 c4 c5 c7 c8
       have ht0 : c.argTypes[0]? = some u := by
        have : c.argTypes.toList[0]? = some u := by rw [htys]; rfl
        simpa using this
       have ht1 : c.argTypes[1]? = some u := by
        have : c.argTypes.toList[1]? = some u := by rw [htys]; rfl
        simpa using this
       have hsrc : srcCells h e.size m' (.e (.one (.dp (.s ds m' e.size)))) = some (ds.map DT.ac) := by
        simp only [srcCells, Nat.le_refl, and_self, p1, if_true]
        rw [takeL_eq, List.length_map, p2, if_pos (Nat.le_refl _), ← p2, ← List.length_map (f := DT.ac), List.take_length]
       have hst : builtinA E lvl h .append c.argTypes (c.args.toList.map (evA tm)) = some (.e (.one (.slc (lenL h) 0 (len + m') e.size (len + m') false)), appL (setL h b none) [some ⟨appL ab.cells (ds.map DT.ac), (len + m') * e.size, ab.elem, false, .cells⟩]) := by
        simp only [hargs, builtinA, ht0, ht1, appendA, lenS?, hu, he, hz, hsrc, c2, c3, p3, hb, p4, p5, p6, c6, c9, p1, Bool.false_eq_true, and_self, if_true, if_false]
       obtain ⟨y, w', m1, r1, r2⟩ := op_builtin hT H hop hcal hst
       exact ⟨by simp [hop], by simp [hop], .inl ⟨y, w', r1, m1, r2.o⟩⟩
      ·simp at hs
     ·simp at hs
    ·simp at hs
   ·simp at hs
  ·simp at hs
end
end Go.Ev
end
section
namespace Go.Ev
open Go.RowKit
section
variable {E : Env} {rec : RunT} {m : M} {base lvl : Nat} {h h' : Heap} {w : World} {tm : Tm} {t : Array Value} {x : AV}
theorem map_some_inj {α β : Type} {f : α → β} : ∀ {l : List α} {m : List β}, l.map (fun b => some (f b)) = m.map some → l.map f = m
 | [], [], _ => rfl
 | [], _ :: _, h => by simp at h
 | _ :: _, [], h => by simp at h
 | a :: l, b :: m, h => by
  simp only [List.map_cons, List.cons.injEq, Option.some.injEq] at h ⊢
  exact ⟨h.1, map_some_inj h.2⟩
theorem take_one {P : Program} {u : TypeId} {l : List AC} {k : Nat} {c : AC} {d : TypeDesc} {i : TypeInfo} (hd : P.underlying u = some d) (hi : P.info? u = some i) (ha : isAggD d = false) (hc : getL l k = some c) : take? P u l k = some (.one c) := by
 unfold take?
 simp only [hd, hi, ha, hc]
 rfl
theorem take_agg {P : Program} {u : TypeId} {l r : List AC} {k : Nat} {d : TypeDesc} {i : TypeInfo} (hd : P.underlying u = some d) (hi : P.info? u = some i) (ha : isAggD d = true) (hc : takeL (dropL l k) i.size = some r) : take? P u l k = some (.agg r) := by
 unfold take?
 simp only [hd, hi, ha, hc]
 rfl
theorem opRes_call (hE : EnvOk E) (hT : TR m tm t) {o : Oper} {c : Call} (hop : o.op = .call c) {f : FuncId} {args : List AV} (hcal : calleeOf tm c = some (f, args)) {fn : Func} (hfn : E.P.funcs[f]? = some fn) (hbody : fn.body.isSome = true)
  (hc : ∀ argsC : Array Value, All2 (VR m) args argsC.toList → Calls E.P f argsC w fun e w' => ∃ y, e = .returned y ∧ ∃ m', PostG m base lvl w x h' y w' m') :
  OpRes E.P t o w fun y w' => ∃ m', PostO o m base lvl w x h' y w' m' := by
 obtain ⟨argsC, hrun, hargs⟩ := call_enter hE hT hop hcal hfn hbody w
 exact ⟨by simp [hop], by simp [hop], .inr (.inl ⟨f, argsC, hrun, (hc argsC hargs).mono fun e w' ⟨y, hy, m', hp⟩ => ⟨y, hy, m', hp, fun h0 => by rw [callV_callee hop hcal] at h0; cases h0⟩⟩)⟩
theorem plainP_spec : ∀ {h : Heap}, plainP h → ∀ b ∈ h, plainB b = true
 | [], _, b, hb => by simp at hb
 | a :: h, hp, b, hb => by
  rcases List.mem_cons.1 hb with rfl | hb
  ·exact hp.1
  ·exact plainP_spec hp.2 b hb
theorem u8_cells {m : M} : ∀ (bs : List UInt8) (ys : List Value), All2 (CR m) (bs.map u8c) ys → ys = bs.map fun b => Value.int .u8 b.toNat
 | [], [], _ => rfl
 | [], _ :: _, h => h.elim
 | _ :: _, [], h => h.elim
 | b :: bs, y :: ys, h => by
  have h1 : y = .int .u8 b.toNat := h.1
  rw [h1, u8_cells bs ys h.2]; rfl
theorem run_v {P : Program} {s : Sem Value} {w w' : World} {y : Value} (h : s.run P w = .ok y w') : (do pure (.value (← s)) : Sem Next).run P w = .ok (.value y) w' := by
 simp only [Sem.run_bind, h, Result.andThen_ok]
 rfl
theorem Post.draw {c : AC} {y : Value} {n : Nat} (H : HR m base lvl h w) (hy : CR m c y) : Post m base lvl w (.e (.one c)) h y { w with drawn := n } m :=
 ⟨M.le.refl m, hy, H.world (Nat.le_refl _) (fun _ _ => rfl), ⟨rfl, rfl, rfl, Nat.le_refl _, fun _ _ => rfl⟩⟩
theorem call_ext (hT : TR m tm t) {o : Oper} {c : Call} (hop : o.op = .call c) {f : FuncId} {args : List AV} (hcal : calleeOf tm c = some (f, args)) :
  ∃ argsC : Array Value, execOp (evC t) o = callFunc f argsC ∧ All2 (VR m) args argsC.toList := by
 have hargs := args_sound hT c.args
 unfold calleeOf at hcal
 split at hcal
 ·rename_i fo hfo
  have hfv := evA_sound hT fo
  split at hcal
  ·rename_i g first cs' hev
   rw [hev] at hfv
   have hfv' : evC t fo = .func (.func g) first cs' := hfv
   split at hcal
   ·rename_i hfirst
    have : first = #[] := by simpa using hfirst
    subst this
    simp only [Option.some.injEq, Prod.mk.injEq] at hcal
    obtain ⟨rfl, rfl⟩ := hcal
    refine ⟨c.args.map (evC t) ++ cs', ?_, ?_⟩
    ·simp [execOp, hop, resolve, hfo, hfv', Deferred.ofValue, invoke]
    ·rw [Array.toList_append]
     refine hargs.append ?_
     generalize cs'.toList = l
     induction l with
     | nil => trivial
     | cons a l ih => exact ⟨AV.of_sound m a, ih⟩
   ·simp at hcal
  ·rename_i g fs' cs' hev
   rw [hev] at hfv
   obtain ⟨vf, vc, hfv', h1, h2⟩ : ∃ vf vc : Array Value, evC t fo = .func (.func g) vf vc ∧ All2 (CE.R m) fs' vf.toList ∧ All2 (CE.R m) cs' vc.toList := hfv
   simp only [Option.some.injEq, Prod.mk.injEq] at hcal
   obtain ⟨rfl, rfl⟩ := hcal
   refine ⟨vf ++ (c.args.map (evC t) ++ vc), ?_, ?_⟩
   ·simp [execOp, hop, resolve, hfo, hfv', Deferred.ofValue, invoke]
   ·rw [Array.toList_append, Array.toList_append]
    exact (CEs.av h1).append (hargs.append (CEs.av h2))
  ·simp at hcal
 ·simp at hcal
theorem valV_sound (hE : EnvOk E) (hrec : RecOk E rec) (hT : TR m tm t) (H : HR m base lvl h w) (G : GR E.gl base w) {o : Oper} {a : Ans} {ps : List Prop} (hs : valV E rec lvl h tm o a = some (x, h', ps)) (hp : AllP ps) :
  OpRes E.P t o w fun y w' => ∃ m', PostO o m base lvl w x h' y w' m' := by
 have by0 : stepOp E rec0 lvl h tm o = some (x, h') → OpRes E.P t o w fun y w' => ∃ m', PostO o m base lvl w x h' y w' m' := fun h0 => stepOp_res hE (rec0_ok E) hT H G h0
 unfold valV at hs
 split at hs
 ·-- go
  split at hs
  ·rename_i x1 h1 hst
   simp only [Option.some.injEq, Prod.mk.injEq] at hs
   obtain ⟨rfl, rfl, rfl⟩ := hs
   exact stepOp_res hE hrec hT H G hst
  ·simp at hs
 ·-- rn
  split at hs
  ·rename_i x1 h1 hst
   simp only [Option.some.injEq, Prod.mk.injEq] at hs
   obtain ⟨rfl, rfl, rfl⟩ := hs
   obtain ⟨rfl, _⟩ : x1 = _ ∧ True := hp
   exact stepOp_res hE hrec hT H G hst
  ·simp at hs
 ·-- ld
  split at hs
  ·rename_i u p hop
   split at hs
   ·rename_i b k d i hev hd hi
    split at hs
    ·rename_i ab hb hag
     simp only [Option.some.injEq, Prod.mk.injEq] at hs
     obtain ⟨rfl, rfl, rfl⟩ := hs
     refine by0 ?_
     simp only [stepOp, hop, loadA, hev, hb, take_one hd hi hag hp.1]
     rfl
    ·simp at hs
   ·simp at hs
  ·simp at hs
 ·-- ldn
  split at hs
  ·rename_i u p hop
   split at hs
   ·rename_i b k d i hev hd hi
    split at hs
    ·rename_i ab hb hag
     simp only [Option.some.injEq, Prod.mk.injEq] at hs
     obtain ⟨rfl, rfl, rfl⟩ := hs
     refine by0 ?_
     simp only [stepOp, hop, loadA, hev, hb, take_agg hd hi hag hp.1]
     rfl
    ·simp at hs
   ·simp at hs
  ·simp at hs
 ·-- ix
  split at hs
  ·rename_i u p i hop
   split at hs
   ·rename_i b s kk n len el hev hin hu
    split at hs
    ·rename_i e he
     simp only [Option.some.injEq, Prod.mk.injEq] at hs
     obtain ⟨rfl, rfl, rfl⟩ := hs
     obtain ⟨hb1, hb2, _⟩ := hp
     have hop' : opA E lvl tm h o.op = some (.e (.one (.ptr b (s + n.toNat * e.size))), h) := by
      simp only [opA, hop, hev, hin, hu, he, hb1, and_self, if_true]
     rw [hb2] at hop'
     obtain ⟨y, w', m', h1, h2⟩ := opA_sound hT H hop'
     exact ⟨by simp [hop], by simp [hop], .inl ⟨y, w', h1, m', h2.o⟩⟩
    ·simp at hs
   ·rename_i b s len sz cap ex kk n el hev hin hu
    split at hs
    ·rename_i e he
     split at hs
     ·rename_i hsz
      have hsz := Nat.eq_of_beq_eq_true hsz
      simp only [Option.some.injEq, Prod.mk.injEq] at hs
      obtain ⟨rfl, rfl, rfl⟩ := hs
      obtain ⟨hb1, hb2, _⟩ := hp
      have hop' : opA E lvl tm h o.op = some (.e (.one (.ptr b (s + n.toNat * sz))), h) := by
       simp only [opA, hop, hev, hin, hu, he, hb1, hsz, and_self, if_true]
      rw [hb2] at hop'
      obtain ⟨y, w', m', h1, h2⟩ := opA_sound hT H hop'
      exact ⟨by simp [hop], by simp [hop], .inl ⟨y, w', h1, m', h2.o⟩⟩
     ·simp at hs
    ·simp at hs
   ·simp at hs
  ·simp at hs
 ·-- st
  split at hs
  ·rename_i u p c hop
   split at hs
   ·rename_i b s x' hev hev2
    split at hs
    ·rename_i ab i cs hb hi hcs
     split at hs
     ·rename_i hcond
      simp only [Bool.and_eq_true, Nat.ble_eq] at hcond
      obtain ⟨⟨c1, c2⟩, c3⟩ := hcond
      have c2 := Nat.eq_of_beq_eq_true c2
      simp only [Option.some.injEq, Prod.mk.injEq] at hs
      obtain ⟨rfl, rfl, rfl⟩ := hs
      obtain ⟨hb1, hb2, _⟩ := hp
      have hop' : opA E lvl tm h o.op = some (.tup [], setL h b (some { ab with cells := overL cs ab.cells s })) := by
       simp only [opA, hop, storeA, hev, hev2, hb, hi, hcs, c1, c2, hb1, c3, and_self, if_true, Option.map_some]
      rw [hb2] at hop'
      obtain ⟨y, w', m', h1, h2⟩ := opA_sound hT H hop'
      exact ⟨by simp [hop], by simp [hop], .inl ⟨y, w', h1, m', h2.o⟩⟩
     ·simp at hs
    ·simp at hs
   ·simp at hs
  ·simp at hs
 ·-- quo
  split at hs
  ·rename_i op u p q yt hop
   split at hs
   ·rename_i k p' j q' hev1 hev2
    split at hs
    ·rename_i hk
     simp only [Option.some.injEq, Prod.mk.injEq] at hs
     obtain ⟨rfl, rfl, rfl⟩ := hs
     obtain ⟨hb1, hb2, _⟩ := hp
     refine by0 ?_
     have hkj : k = j := by simpa using hk
     subst hkj
     simp only [stepOp, hop, hev1, hev2, binA, decide_true, if_true, intBin, if_neg hb1, hb2]
     rfl
    ·rename_i hk
     simp only [Option.some.injEq, Prod.mk.injEq] at hs
     obtain ⟨rfl, rfl, rfl⟩ := hs
     obtain ⟨hb1, hb2, _⟩ := hp
     refine by0 ?_
     have hkj : k = j := by simpa using hk
     subst hkj
     simp only [stepOp, hop, hev1, hev2, binA, decide_true, if_true, intBin, if_neg hb1, hb2]
     rfl
    ·simp at hs
   ·simp at hs
  ·simp at hs
 ·-- mk
  split at hs
  ·rename_i u p c hop
   split at hs
   ·rename_i el k1 n' k2 m' hu hn hm
    split at hs
    ·rename_i e z he hz
     split at hs
     ·rename_i hcond
      simp only [Bool.and_eq_true, Nat.blt_eq] at hcond
      obtain ⟨c1, c2⟩ := hcond
      have c1 := Nat.eq_of_beq_eq_true c1
      simp only [Option.some.injEq, Prod.mk.injEq] at hs
      obtain ⟨rfl, rfl, rfl⟩ := hs
      obtain ⟨hb1, hb2, rfl, rfl, rfl, rfl, _⟩ := hp
      have hop' : opA E lvl tm h o.op = some (.e (.one (.slc (lenL h) 0 n'.toNat e.size m'.toNat true)), appL h [some ⟨repeatC z m'.toNat, m'.toNat * e.size, el, true, .cells⟩]) := by
       simp only [opA, hop, hu, hn, hm, he, hz, hb1, hb2, c1, c2, and_self, if_true]
      obtain ⟨y, w', m', h1, h2⟩ := opA_sound hT H hop'
      exact ⟨by simp [hop], by simp [hop], .inl ⟨y, w', h1, m', h2.o⟩⟩
     ·simp at hs
    ·simp at hs
   ·simp at hs
  ·simp at hs
 ·-- app
  split at hs
  ·rename_i c hop
   split at hs
   ·rename_i b s len sz cap b2 s2 mm sz2 cap2 ex2 u xu hcal hargs htys
    split at hs
    ·rename_i el hu
     split at hs
     ·rename_i e z ab he hz hb
      split at hs
      ·rename_i xs hxs
       split at hs
       ·rename_i hcond
        simp only [Bool.and_eq_true, Nat.blt_eq, Nat.ble_eq, Bool.not_eq_true'] at hcond
        obtain ⟨⟨⟨⟨⟨⟨⟨⟨⟨c1, c2⟩, c3⟩, c4⟩, c5⟩, c6⟩, c7⟩, c8⟩, c9⟩, c10⟩ := hcond
        have c1 := Nat.eq_of_beq_eq_true c1
        have c3 := Nat.eq_of_beq_eq_true c3
        have c5 := Nat.eq_of_beq_eq_true c5
        have c7 := Nat.eq_of_beq_eq_true c7
        have c9 := Nat.eq_of_beq_eq_true c9
        simp only [Option.some.injEq, Prod.mk.injEq] at hs
        obtain ⟨rfl, rfl, rfl⟩ := hs
        obtain ⟨hb1, hb2, hb3, rfl, rfl, rfl, _⟩ := hp
        subst c5 c1 c7 c9
        refine by0 ?_
        have ht0 : c.argTypes[0]? = some u := by
         have : c.argTypes.toList[0]? = some u := by rw [htys]; rfl
         simpa using this
        have ht1 : c.argTypes[1]? = some u := by
         have : c.argTypes.toList[1]? = some u := by rw [htys]; rfl
         simpa using this
        have hnot : ∀ (f : FuncId) (avs : List AV), calleeOf tm c ≠ some (f, avs) := fun f avs hh => by simp [calleeOf, hcal] at hh
        have hcn : calleeOf tm c = none := by
         cases hh : calleeOf tm c with
         | none => rfl
         | some r => exact absurd hh (hnot r.1 r.2)
        have hyn : yieldOf tm c = none := by simp [yieldOf, hcal]
        simp only [stepOp, hop, callOp, hcn, hyn, hcal, hargs, builtinA, ht0, ht1, appendA, lenS?, hu, he, hz, hxs, c2, c3, c4, c6, c8, c10, hb, hb1, hb2, hb3, and_self, if_true, if_false, Bool.false_eq_true]
       ·simp at hs
      ·simp at hs
     ·simp at hs
    ·simp at hs
   ·simp at hs
  ·simp at hs
 ·-- c0
  split at hs
  ·rename_i c hop
   split at hs
   ·rename_i f args hcal
    split at hs
    ·rename_i fn hfn
     split at hs
     ·rename_i hcond
      simp only [Bool.and_eq_true, List.all_eq_true] at hcond
      obtain ⟨hbody, hnr⟩ := hcond
      simp only [Option.some.injEq, Prod.mk.injEq] at hs
      obtain ⟨rfl, rfl, rfl⟩ := hs
      obtain ⟨hc, hr, _⟩ := hp
      refine opRes_call hE hT hop hcal hfn hbody fun argsC ha => ?_
      have := callOther (nb := []) (e := []) (hin := []) (hout := []) (args' := args) hE H G ha rfl (by simp) (by simp) (by simp) (by simp) hc (map_ren_id fun a ha' => AV.ren_id ?_) rfl rfl (AV.ren_id hr)
      ·rw [List.append_nil] at this
       exact this
      ·have := hnr a ha'
       unfold noRefs at this
       split at this
       ·assumption
       ·simp at this
     ·simp at hs
    ·simp at hs
   ·simp at hs
  ·simp at hs
 ·-- cl
  split at hs
  ·rename_i c hop
   split at hs
   ·rename_i f args hcal
    split at hs
    ·rename_i fn hfn
     split at hs
     ·rename_i hcond
      simp only [Bool.and_eq_true, List.all_eq_true, Nat.blt_eq] at hcond
      obtain ⟨⟨⟨⟨⟨⟨⟨hbody, c1⟩, c2⟩, c3⟩, c4⟩, c5⟩, c6⟩, c7⟩ := hcond
      have c6 := Nat.eq_of_beq_eq_true c6
      have c7 := Nat.eq_of_beq_eq_true c7
      have c1 := Nat.eq_of_beq_eq_true c1
      simp only [Option.some.injEq, Prod.mk.injEq] at hs
      obtain ⟨rfl, rfl, rfl⟩ := hs
      obtain ⟨hc, h1, h2, f1, h3, f2, h4, _⟩ := hp
      simp only [lenL_eq, dropL_eq] at c1 c2 c3 c6 c7 hc h1 h2 h3 f2 h4
      rw [renFl_eq _ c6 f1] at h2
      rw [renFl_eq _ c7 f2] at h3
      have h3 := map_some_inj h3
      have hgl : getL h = fun b : Nat => h[b]? := funext fun b => getL_eq h b
      rw [hgl] at h2
      rw [appL_eq]
      exact opRes_call hE hT hop hcal hfn hbody fun argsC ha => callOther hE H G ha c1 c2 c3 c4 c5 hc h1 h2 h3 h4
     ·simp at hs
    ·simp at hs
   ·simp at hs
  ·simp at hs
 ·-- el
  split at hs
  ·rename_i u p q hop
   split at hs
   ·rename_i l kk n len el hev hin hu
    split at hs
    ·rename_i d i hd hi
     split at hs
     ·rename_i hag hsz
      have hsz := Nat.eq_of_beq_eq_true hsz
      simp only [Option.some.injEq, Prod.mk.injEq] at hs
      obtain ⟨rfl, rfl, rfl⟩ := hs
      obtain ⟨hb1, hb2, _⟩ := hp
      have h1 := evA_sound hT p
      rw [hev] at h1
      obtain ⟨cs, hcs, hall⟩ := h1
      have h2 := intOf_sound (evA_sound hT q) hin
      rw [getL_eq] at hb2
      obtain ⟨v, hv, hr⟩ := hall.get hb2
      have hrun : (Instr.index u (.agg cs) (.int kk n)).run E.P w = .ok v w := by
       have hv' : cs[n.toNat]? = some v := by simpa using hv
       simp [Instr.index, run_underlying hu, asIntOf, hb1, run_sizeOf hi, hsz, part, run_isAgg hd, hag, hv']
      exact ⟨by simp [hop], by simp [hop], .inl ⟨v, w, .inl (by simp [execOp, hop, hcs, h2, hrun]), m, Post.sameO H hr⟩⟩
     ·simp at hs
    ·simp at hs
   ·simp at hs
  ·simp at hs
 ·-- cpy
  rename_i Lx Nx lx
  split at hs
  ·rename_i c hop
   split at hs
   ·rename_i b s sz b2 s2 mm sz2 cap2 ex2 u xu hcal hargs htys
    split at hs
    ·rename_i el hu
     split at hs
     ·rename_i e z ab a2 he hz hb hb2
      split at hs
      ·rename_i hcond
       simp only [Bool.and_eq_true, Nat.blt_eq] at hcond
       obtain ⟨⟨⟨⟨c1, c2⟩, c3⟩, c5⟩, c6⟩ := hcond
       have c1 := Nat.eq_of_beq_eq_true c1
       have c3 := Nat.eq_of_beq_eq_true c3
       have c5 := Nat.eq_of_beq_eq_true c5
       have c6 := Nat.eq_of_beq_eq_true c6
       simp only [Option.some.injEq, Prod.mk.injEq] at hs
       obtain ⟨rfl, rfl, rfl⟩ := hs
       obtain ⟨k1, k2, k3, k4, rfl, rfl, _⟩ := hp
       subst c5 c1 c6
       refine by0 ?_
       have ht0 : c.argTypes[0]? = some u := by
        have : c.argTypes.toList[0]? = some u := by rw [htys]; rfl
        simpa using this
       have ht1 : c.argTypes[1]? = some u := by
        have : c.argTypes.toList[1]? = some u := by rw [htys]; rfl
        simpa using this
       have hnot : ∀ (f : FuncId) (avs : List AV), calleeOf tm c ≠ some (f, avs) := fun f avs hh => by simp [calleeOf, hcal] at hh
       have hcn : calleeOf tm c = none := by
        cases hh : calleeOf tm c with
        | none => rfl
        | some r => exact absurd hh (hnot r.1 r.2)
       have hyn : yieldOf tm c = none := by simp [yieldOf, hcal]
       have hsrc : srcCells h e.size mm (.e (.one (.slc b2 s2 mm e.size cap2 ex2))) = some lx := by
        simp only [srcCells, hb2, Nat.le_refl, and_self, if_true]
        exact k3
       have h0 : ∀ l : List AC, takeL l 0 = some [] := fun l => by cases l <;> rfl
       have hnl : ¬ (0 + mm ≤ 0) := by omega
       simp only [stepOp, hop, callOp, hcn, hyn, hcal, hargs, builtinA, ht0, ht1, appendA, lenS?, hu, he, hz, hsrc, c2, c3, k4, hb, k2, hnl, Nat.zero_mul, h0, and_self, if_true, if_false]
       rfl
      ·simp at hs
     ·simp at hs
    ·simp at hs
   ·simp at hs
  ·simp at hs
 ·-- apz
  split at hs
  ·rename_i c hop
   split at hs
   ·rename_i s xx u xu hcal hargs htys
    split at hs
    ·rename_i el xel i hu hxu hi
     split at hs
     ·rename_i hcond
      simp only [Bool.and_eq_true] at hcond
      obtain ⟨hs1, hs2⟩ := hcond
      simp only [Option.some.injEq, Prod.mk.injEq] at hs
      obtain ⟨rfl, rfl, rfl⟩ := hs
      rw [hu] at hi
      simp only at hi
      have hal := args_sound hT c.args
      rw [hargs] at hal
      obtain ⟨y, y2, hyy, hr1, hr2⟩ := all2_two hal
      have hargsC : c.args.map (evC t) = #[y, y2] := by rw [← Array.toList_inj]; exact hyy
      have htysA : c.argTypes = #[u, xu] := by rw [← Array.toList_inj]; exact htys
      obtain ⟨p1, n1, c1, rfl, hle⟩ : ∃ p n c, y = .slice p n c ∧ n ≤ c := by
       unfold isSlc at hs1
       split at hs1
       ·rename_i n c
        simp only [Bool.and_eq_true] at hs1
        have e1 := Nat.eq_of_beq_eq_true hs1.1
        have e2 := Nat.eq_of_beq_eq_true hs1.2
        have : y = .slice none n c := hr1
        exact ⟨none, n, c, this, by omega⟩
       ·obtain ⟨_, cc, o', hy, _, g1, g2, _⟩ := hr1
        exact ⟨_, _, cc, hy, by omega⟩
       ·simp at hs1
      obtain ⟨p2, c2, rfl⟩ : ∃ p c, y2 = .slice p 0 c := by
       unfold emptyS at hs2
       split at hs2
       ·rename_i p n c
        have e1 := Nat.eq_of_beq_eq_true hs2
        have : y2 = .slice p n c := hr2
        exact ⟨p, c, by rw [this, e1]⟩
       ·obtain ⟨_, cc, o', hy, _⟩ := hr2
        have e1 := Nat.eq_of_beq_eq_true hs2
        exact ⟨_, cc, by rw [hy, e1]⟩
       ·simp at hs2
      have hrun : (Builtin.append_ #[u, xu] o.type #[.slice p1 n1 c1, .slice p2 0 c2]).run E.P w = .ok (.slice p1 n1 c1) w := by
       have hz : (Builtin.firstCells i.size 0 (.slice p2 0 c2)).run E.P w = .ok #[] w := by
        cases p2 <;> simp [Builtin.firstCells, loadCells, loadCellsFrom]
       cases p1 <;> simp [Builtin.append_, run_underlying hu, run_underlying hxu, run_sizeOf hi, Builtin.lenOf, hle, hz, storeCells]
      exact ⟨by simp [hop], by simp [hop], .inl ⟨.slice p1 n1 c1, w, .inl (by simp [execOp, hop, resolve, hcal, invoke, builtin, hargsC, htysA, hrun]), m, Post.sameO H hr1⟩⟩
     ·simp at hs
    ·simp at hs
   ·simp at hs
  ·simp at hs
 ·-- cmp
  split at hs
  ·rename_i op u p q yt hop
   split at hs
   ·rename_i l1 l2 n el hev1 hev2 hu
    split at hs
    ·rename_i i hel hi hg
     have h1 := evA_sound hT p
     rw [hev1] at h1
     obtain ⟨cs1, hcs1, hall1⟩ := h1
     have h2 := evA_sound hT q
     rw [hev2] at h2
     obtain ⟨cs2, hcs2, hall2⟩ := h2
     have cells : ∀ {xs : List UInt8} {l : List AC} {cs : Array Value}, l = xs.map u8c → All2 (CR m) l cs.toList → cs = (xs.map Extern.Stop.cell).toArray := by
      intro xs l cs hl ha
      rw [← Array.toList_inj]
      subst hl
      simp only
      generalize cs.toList = ys at ha
      induction xs generalizing ys with
      | nil => cases ys with
       | nil => rfl
       | cons y ys => exact ha.elim
      | cons x xs ih => cases ys with
       | nil => exact ha.elim
       | cons y ys =>
        obtain ⟨r1, r2⟩ := ha
        have : y = Value.int .u8 x.toNat := r1
        rw [this, ih ys r2]
        rfl
     split at hs
     ·rename_i hsz
      have hsz := Nat.eq_of_beq_eq_true hsz
      simp only [Option.some.injEq, Prod.mk.injEq] at hs
      obtain ⟨rfl, rfl, rfl⟩ := hs
      obtain ⟨k1, k2, k3, k4, rfl, _⟩ := hp
      have e1 := cells k1 hall1
      have e2 := cells k2 hall2
      subst e1 e2
      have hsz' : ∀ w, (sizeOf el).run E.P w = .ok 1 w := fun w => by rw [run_sizeOf hi, hsz]
      have hq := run_eql_bytes w u el n hu hel hsz' _ _ k3 k4
      exact ⟨by simp [hop], by simp [hop], .inl ⟨_, w, .inl (by simp only [execOp, hop, hcs1, hcs2]; rw [Sem.run_bind, Sem.run_bind, run_eqGuard_agg w _ _ _ _ _ _ hg, Result.andThen_ok, hq]; rfl), m, Post.sameO H rfl⟩⟩
     ·rename_i hsz
      have hsz := Nat.eq_of_beq_eq_true hsz
      simp only [Option.some.injEq, Prod.mk.injEq] at hs
      obtain ⟨rfl, rfl, rfl⟩ := hs
      obtain ⟨k1, k2, k3, k4, rfl, _⟩ := hp
      have e1 := cells k1 hall1
      have e2 := cells k2 hall2
      subst e1 e2
      have hsz' : ∀ w, (sizeOf el).run E.P w = .ok 1 w := fun w => by rw [run_sizeOf hi, hsz]
      have hq := run_equalIn_bytes w 9998 u el n hu hel hsz' _ _ k3 k4
      exact ⟨by simp [hop], by simp [hop], .inl ⟨_, w, .inl (by simp only [execOp, hop, hcs1, hcs2]; rw [Sem.run_bind, Sem.run_bind, run_eqGuard_agg w _ _ _ _ _ _ hg, Result.andThen_ok, run_neq_struct, hq]; rfl), m, Post.sameO H rfl⟩⟩
     ·simp at hs
    ·simp at hs
   ·simp at hs
  ·simp at hs
 ·-- oq
  split at hs
  ·rename_i x1 h1 hst
   simp only [Option.some.injEq, Prod.mk.injEq] at hs
   obtain ⟨rfl, rfl, rfl⟩ := hs
   exact stepOp_res hE hrec hT H G hst
  ·simp at hs
 ·-- pk
  rename_i b
  split at hs
  ·rename_i c p q hop
   split at hs
   ·rename_i tt hc
    simp only [Option.some.injEq, Prod.mk.injEq] at hs
    obtain ⟨rfl, rfl, rfl⟩ := hs
    obtain ⟨rfl, _⟩ := hp
    have hop' : opA E lvl tm h o.op = some (if tt then evA tm p else evA tm q, h) := by
     simp only [opA, hop, hc]
    obtain ⟨y, w', m', h1, h2⟩ := opA_sound hT H hop'
    refine ⟨by simp [hop], by simp [hop], .inl ⟨y, w', h1, m', Post.o ?_⟩⟩
    cases tt <;> exact h2
   ·simp at hs
  ·simp at hs
 ·-- len
  rename_i n
  split at hs
  ·rename_i c hop
   split at hs
   ·rename_i xx u hcal hargs htys
    split at hs
    ·rename_i el hu
     simp only [Option.some.injEq, Prod.mk.injEq] at hs
     obtain ⟨rfl, rfl, rfl⟩ := hs
     obtain ⟨hl, _⟩ := hp
     have hal := args_sound hT c.args
     rw [hargs] at hal
     obtain ⟨y, hyy, hr1⟩ := all2_one hal
     have hargsC : c.args.map (evC t) = #[y] := by rw [← Array.toList_inj]; exact hyy
     have htysA : c.argTypes = #[u] := by rw [← Array.toList_inj]; exact htys
     obtain ⟨p, cc, rfl⟩ : ∃ p cc, y = .slice p n cc := by
      rcases hl with ⟨b, o', sz, cap, ex, rfl⟩ | ⟨p, cc, rfl⟩
      ·obtain ⟨_, cc, o2, hy, _⟩ := hr1
       exact ⟨_, cc, hy⟩
      ·exact ⟨p, cc, hr1⟩
     refine ⟨by simp [hop], by simp [hop], .inl ⟨.int .i64 n, w, .inl ?_, m, Post.sameO H (show CR m (.v _) _ from rfl)⟩⟩
     simp [execOp, hop, resolve, hcal, invoke, builtin, hargsC, htysA, Builtin.len_, run_underlying hu, goInt]
    ·simp at hs
   ·simp at hs
  ·simp at hs
 ·-- cpu
  rename_i n N lx bx
  split at hs
  ·rename_i c hop
   split at hs
   ·rename_i b0 s sz xx u xu hcal hargs htys
    split at hs
    ·rename_i el el2 hu hxu
     split at hs
     ·rename_i e z ab he hz hb
      split at hs
      ·rename_i hcond
       simp only [Bool.and_eq_true, Nat.blt_eq, Nat.ble_eq] at hcond
       obtain ⟨⟨⟨⟨⟨⟨⟨c1, c2⟩, c3⟩, c5⟩, c6⟩, c7⟩, c8⟩, c9⟩ := hcond
       have c1 := Nat.eq_of_beq_eq_true c1
       have c3 := Nat.eq_of_beq_eq_true c3
       have c5 := Nat.eq_of_beq_eq_true c5
       have c7 := Nat.eq_of_beq_eq_true c7
       have c9 := Nat.eq_of_beq_eq_true c9
       simp only [Option.some.injEq, Prod.mk.injEq] at hs
       obtain ⟨rfl, rfl, rfl⟩ := hs
       obtain ⟨hcp, rfl, _⟩ := hp
       subst c5 c1 c7
       have hb0 := blk_eq hb
       have hmn := H.n
       have hkill := H.kill b0
       have hlen : lenL h = m.n := by rw [lenL_eq, hmn]
       rcases hcp with ⟨rfl, rfl, rfl, ds0, s0, rfl⟩ | ⟨rfl, k1, k2, k4, ds, rfl, rfl, k5⟩ | ⟨rfl, rfl, rfl, p2, c2', rfl⟩ | ⟨rfl, k1, k2, k4, b2, s2, cap2, ex2, a2, rfl, hb2, k3⟩
       ·-- there is nothing to copy: the list itself
        have hal := args_sound hT c.args
        rw [hargs] at hal
        obtain ⟨y, y2, hyy, hr1, hr2⟩ := all2_two hal
        have hargsC : c.args.map (evC t) = #[y, y2] := by rw [← Array.toList_inj]; exact hyy
        have htysA : c.argTypes = #[u, u] := by rw [← Array.toList_inj]; exact htys
        obtain ⟨p2, c2', rfl⟩ := lenS_sound (m := m) (n := 0) hr2 rfl
        obtain ⟨g0, cc, o', rfl, g1, g2, g3, g4, g5, g6⟩ := hr1
        have hcc := g6 rfl
        subst hcc
        have hrun : (Builtin.append_ #[u, u] o.type #[.slice (some ⟨m.ρ b0, o', none⟩) 0 0, .slice p2 0 c2']).run E.P w = .ok (.slice (some ⟨m.ρ b0, o', none⟩) 0 0) w := by
         have hz : (Builtin.firstCells e.size 0 (.slice p2 0 c2')).run E.P w = .ok #[] w := by
          cases p2 <;> simp [Builtin.firstCells, loadCells, loadCellsFrom]
         simp [Builtin.append_, run_underlying hu, run_sizeOf he, Builtin.lenOf, hz, storeCells]
        obtain ⟨q1, q2, q3, fz, q4, q5, q6, q7, q8⟩ := H.blk b0 ab hb0 (blk_ext hb)
        have hown := H.own b0 c6 (List.getElem?_eq_some_iff.1 hb0).1
        have hlo := Nat.le_trans H.lo c6
        have H2 := hkill.add q4 hown (fun b a hba he' => by
         obtain ⟨i1, i2⟩ := alive_set hba
         exact i2 (H.inj b b0 (List.getElem?_eq_some_iff.1 i1).1 (List.getElem?_eq_some_iff.1 hb0).1 ⟨a, i1⟩ ⟨ab, hb0⟩ (.inr hlo) he')) (fun p hp => (H.tab p hp).2 b0 ab c6 hb0) (cells := []) (n := 0) (full := true) rfl (fun _ => by rw [q5, ← q2 c8, c9]) (Nat.zero_le _) (q6 hlo) (by simp; exact trivial)
        have hsz : q3.size = 0 := by rw [q5, ← q2 c8, c9]
        refine ⟨by simp [hop], by simp [hop], .inl ⟨.slice (some ⟨m.ρ b0, o', none⟩) 0 0, w, .inl (by simp [execOp, hop, resolve, hcal, invoke, builtin, hargsC, htysA, hrun]), m.push (m.ρ b0) q3.size, Post.o ⟨m.le_push _ _, ?_, ?_, Below.refl _ _⟩⟩⟩
        ·refine ⟨by rw [hlen]; simp [M.push], 0, o', by rw [hlen, M.push_ρ], .inr rfl, Nat.le_refl _, Nat.le_refl _, g4, by simp, fun _ => rfl⟩
        ·rw [appL_eq, setL_eq]
         simpa using H2
       ·-- a copy
        have ht0 : c.argTypes[0]? = some u := by
         have : c.argTypes.toList[0]? = some u := by rw [htys]; rfl
         simpa using this
        have ht1 : c.argTypes[1]? = some u := by
         have : c.argTypes.toList[1]? = some u := by rw [htys]; rfl
         simpa using this
        have hsrc : srcCells h e.size n (.e (.one (.dp (.s ds n e.size)))) = some (ds.map DT.ac) := by
         simp only [srcCells, Nat.le_refl, and_self, k1, if_true]
         rw [takeL_eq, List.length_map, k5, if_pos (Nat.le_refl _), ← k5, ← List.length_map (f := DT.ac), List.take_length]
        have h0 : ∀ l : List AC, takeL l 0 = some [] := fun l => by cases l <;> rfl
        have hnl : ¬ (0 + n ≤ 0) := by omega
        have hst : builtinA E lvl h .append c.argTypes (c.args.toList.map (evA tm)) = some (.e (.one (.slc (lenL h) 0 (0 + n) e.size (0 + n) false)), appL h [some ⟨appL [] (ds.map DT.ac), (0 + n) * e.size, ab.elem, false, .cells⟩]) := by
         simp only [hargs, builtinA, ht0, ht1, appendA, lenS?, hu, he, hz, hsrc, c2, c3, k4, hb, k2, hnl, Nat.zero_mul, h0, and_self, if_true, if_false]
        obtain ⟨y, w', m', r1, r2⟩ := op_builtin hT H hop hcal hst
        rw [Nat.zero_add] at r2
        refine ⟨by simp [hop], by simp [hop], .inl ⟨y, w', r1, m', Post.o ⟨r2.le, r2.val, ?_, r2.below⟩⟩⟩
        have := r2.heap.kill b0
        rw [appL_eq] at this
        rw [appL_eq, setL_eq]
        rw [List.set_append_left _ _ (List.getElem?_eq_some_iff.1 hb0).1] at this
        exact this
       ·-- there is nothing to copy: the list itself
        have hal := args_sound hT c.args
        rw [hargs] at hal
        obtain ⟨y, y2, hyy, hr1, hr2⟩ := all2_two hal
        have hargsC : c.args.map (evC t) = #[y, y2] := by rw [← Array.toList_inj]; exact hyy
        have htysA : c.argTypes = #[u, u] := by rw [← Array.toList_inj]; exact htys
        have hr2 : y2 = .slice p2 0 c2' := hr2
        subst hr2
        obtain ⟨g0, cc, o', rfl, g1, g2, g3, g4, g5, g6⟩ := hr1
        have hcc := g6 rfl
        subst hcc
        have hrun : (Builtin.append_ #[u, u] o.type #[.slice (some ⟨m.ρ b0, o', none⟩) 0 0, .slice p2 0 c2']).run E.P w = .ok (.slice (some ⟨m.ρ b0, o', none⟩) 0 0) w := by
         have hz : (Builtin.firstCells e.size 0 (.slice p2 0 c2')).run E.P w = .ok #[] w := by
          cases p2 <;> simp [Builtin.firstCells, loadCells, loadCellsFrom]
         simp [Builtin.append_, run_underlying hu, run_sizeOf he, Builtin.lenOf, hz, storeCells]
        obtain ⟨q1, q2, q3, fz, q4, q5, q6, q7, q8⟩ := H.blk b0 ab hb0 (blk_ext hb)
        have hown := H.own b0 c6 (List.getElem?_eq_some_iff.1 hb0).1
        have hlo := Nat.le_trans H.lo c6
        have H2 := hkill.add q4 hown (fun b a hba he' => by
         obtain ⟨i1, i2⟩ := alive_set hba
         exact i2 (H.inj b b0 (List.getElem?_eq_some_iff.1 i1).1 (List.getElem?_eq_some_iff.1 hb0).1 ⟨a, i1⟩ ⟨ab, hb0⟩ (.inr hlo) he')) (fun p hp => (H.tab p hp).2 b0 ab c6 hb0) (cells := []) (n := 0) (full := true) rfl (fun _ => by rw [q5, ← q2 c8, c9]) (Nat.zero_le _) (q6 hlo) (by simp; exact trivial)
        have hsz : q3.size = 0 := by rw [q5, ← q2 c8, c9]
        refine ⟨by simp [hop], by simp [hop], .inl ⟨.slice (some ⟨m.ρ b0, o', none⟩) 0 0, w, .inl (by simp [execOp, hop, resolve, hcal, invoke, builtin, hargsC, htysA, hrun]), m.push (m.ρ b0) q3.size, Post.o ⟨m.le_push _ _, ?_, ?_, Below.refl _ _⟩⟩⟩
        ·refine ⟨by rw [hlen]; simp [M.push], 0, o', by rw [hlen, M.push_ρ], .inr rfl, Nat.le_refl _, Nat.le_refl _, g4, by simp, fun _ => rfl⟩
        ·rw [appL_eq, setL_eq]
         simpa using H2
       ·-- a copy
        have ht0 : c.argTypes[0]? = some u := by
         have : c.argTypes.toList[0]? = some u := by rw [htys]; rfl
         simpa using this
        have ht1 : c.argTypes[1]? = some u := by
         have : c.argTypes.toList[1]? = some u := by rw [htys]; rfl
         simpa using this
        have hsrc : srcCells h e.size n (.e (.one (.slc b2 s2 n e.size cap2 ex2))) = some lx := by
         simp only [srcCells, hb2, Nat.le_refl, and_self, if_true]
         exact k3
        have h0 : ∀ l : List AC, takeL l 0 = some [] := fun l => by cases l <;> rfl
        have hnl : ¬ (0 + n ≤ 0) := by omega
        have hst : builtinA E lvl h .append c.argTypes (c.args.toList.map (evA tm)) = some (.e (.one (.slc (lenL h) 0 (0 + n) e.size (0 + n) false)), appL h [some ⟨appL [] lx, (0 + n) * e.size, ab.elem, false, .cells⟩]) := by
         simp only [hargs, builtinA, ht0, ht1, appendA, lenS?, hu, he, hz, hsrc, c2, c3, k4, hb, k2, hnl, Nat.zero_mul, h0, and_self, if_true, if_false]
        obtain ⟨y, w', m', r1, r2⟩ := op_builtin hT H hop hcal hst
        rw [Nat.zero_add] at r2
        refine ⟨by simp [hop], by simp [hop], .inl ⟨y, w', r1, m', Post.o ⟨r2.le, r2.val, ?_, r2.below⟩⟩⟩
        have := r2.heap.kill b0
        rw [appL_eq] at this
        rw [appL_eq, setL_eq]
        rw [List.set_append_left _ _ (List.getElem?_eq_some_iff.1 hb0).1] at this
        exact this
      ·simp at hs
     ·simp at hs
    ·simp at hs
   ·simp at hs
  ·simp at hs
 ·-- fw
  split at hs
  ·rename_i x1 h1 hst
   simp only [Option.some.injEq, Prod.mk.injEq] at hs
   obtain ⟨rfl, rfl, rfl⟩ := hs
   obtain ⟨y, w', m', r1, r2⟩ := opA_sound hT H hst
   have hop : ∀ op, o.op = op → (opA E lvl tm h op).isSome = true := fun op he => by rw [← he, hst]; rfl
   refine ⟨fun c hc => ?_, fun cs b hc => ?_, .inl ⟨y, w', r1, m', r2.o⟩⟩
   ·have := hop _ hc
    simp [opA] at this
   ·have := hop _ hc
    simp [opA] at this
  ·simp at hs
 ·-- fwq
  split at hs
  ·rename_i x1 h1 hst
   simp only [Option.some.injEq, Prod.mk.injEq] at hs
   obtain ⟨rfl, rfl, rfl⟩ := hs
   obtain ⟨y, w', m', r1, r2⟩ := opA_sound hT H hst
   have hop : ∀ op, o.op = op → (opA E lvl tm h op).isSome = true := fun op he => by rw [← he, hst]; rfl
   refine ⟨fun c hc => ?_, fun cs b hc => ?_, .inl ⟨y, w', r1, m', r2.o⟩⟩
   ·have := hop _ hc
    simp [opA] at this
   ·have := hop _ hc
    simp [opA] at this
  ·simp at hs
 ·-- cw
  split at hs
  ·rename_i c hop
   split at hs
   ·rename_i f args hcal
    split at hs
    ·rename_i fn hfn
     split at hs
     ·rename_i hbody
      simp only [Option.some.injEq, Prod.mk.injEq] at hs
      obtain ⟨rfl, rfl, rfl⟩ := hs
      exact opRes_call hE hT hop hcal hfn hbody fun argsC ha => hp.1 m base w argsC ha H G
     ·simp at hs
    ·simp at hs
   ·simp at hs
  ·simp at hs
 ·-- str
  rename_i bs
  split at hs
  ·rename_i s d p hop
   split at hs
   ·rename_i el hsu hdu
    split at hs
    ·rename_i hel
     simp only [Option.some.injEq, Prod.mk.injEq] at hs
     obtain ⟨rfl, rfl, rfl⟩ := hs
     have hv := evA_sound hT p
     have fin : ∀ (a : Option Addr) (l cc : Nat), evC t p = .slice a l cc → (convert s d (.slice a l cc)).run E.P w = .ok (.string ⟨bs.toArray⟩) w → OpRes E.P t o w fun y w' => ∃ m', PostO o m base lvl w (.e (.one (.v (.string ⟨bs.toArray⟩)))) h y w' m' := fun a l cc hy hr =>
      ⟨by simp [hop], by simp [hop], .inl ⟨.string ⟨bs.toArray⟩, w, .inl (by simp only [execOp, hop, hy, Sem.run_bind, hr, Result.andThen_ok, Sem.run_pure]), m, Post.sameO H (show CR m (.v _) _ from rfl)⟩⟩
     rcases hp.1 with ⟨rfl, cc, hx⟩ | ⟨b, off, sz, cap, ex, hx, hbs⟩ | ⟨ds, hx, h0, hds⟩
     ·rw [hx] at hv
      have hv : evC t p = .slice none 0 cc := hv
      refine fin none 0 cc hv ?_
      rw [run_convert_bytes_string w s d el none 0 cc hsu hel hdu]
      simp [Conv.bytesToString]
      rfl
     ·have hv0 := hv
      rw [hx] at hv
      obtain ⟨hbn, cc, o', hy, ho, hl, hc, hmx, hk, hex⟩ : CR m (.slc b off bs.length sz cap ex) (evC t p) := hv
      rcases hbs with rfl | ⟨rfl, ab, hb, htk⟩
      ·exact fin _ 0 cc hy (run_convert_bytes_back (P := E.P) w s d el ⟨m.ρ b, o', none⟩ cc [] hsu hel hdu (fun j hj => by simp at hj))
      ·have hsrc : srcCells h 1 bs.length (.e (.one (.slc b off bs.length 1 cap ex))) = some (bs.map u8c) := by
        simp only [srcCells, Nat.le_refl, and_self, if_true, hb, Nat.mul_one]
        exact htk
       rw [hx] at hv0
       obtain ⟨ad, len', c2, ys, hy2, hn, hl2, hcell, hrel⟩ := srcCells_sound H hv0 hsrc
       have hys := u8_cells bs ys hrel
       have hlen : len' = bs.length := by
        rw [hy] at hy2
        simp only [Value.slice.injEq] at hy2
        exact hy2.2.1.symm
       rw [hlen] at hy2
       refine fin _ _ _ hy2 (run_convert_bytes_back (P := E.P) w s d el ad c2 bs hsu hel hdu (fun j hj => hcell j _ (by rw [hys]; simp [hj])))
     ·rw [hx] at hv
      rcases Nat.eq_zero_or_pos bs.length with hz | h0
      ·have hv : DT.R m.F (.s ds bs.length 1) (evC t p) := hv
       simp only [DT.R] at hv
       obtain rfl := List.eq_nil_of_length_eq_zero hz
       rcases hv with ⟨_, q, cc, e⟩ | ⟨e, _⟩
       ·cases q with
        | none =>
         refine fin none 0 cc e ?_
         rw [run_convert_bytes_string w s d el none 0 cc hsu hel hdu]
         simp [Conv.bytesToString]
         rfl
        | some ad => exact fin _ 0 cc e (run_convert_bytes_back (P := E.P) w s d el ad cc [] hsu hel hdu (fun j hj => by simp at hj))
       ·simp at e
      have hl := congrArg List.length hds
      simp only [List.length_map] at hl
      have hsrc : srcCells h 1 bs.length (.e (.one (.dp (.s ds bs.length 1)))) = some (bs.map u8c) := by
       simp only [srcCells, Nat.le_refl, h0, and_self, if_true, Nat.mul_one]
       rw [takeL_eq, if_pos (by simp [hl]), hds, List.take_of_length_le (by simp)]
      obtain ⟨ad, len', c2, ys, hy2, hn, hl2, hcell, hrel⟩ := srcCells_sound H hv hsrc
      have hys := u8_cells bs ys hrel
      have hlen : len' = bs.length := by
       have hv : DT.R m.F (.s ds bs.length 1) (evC t p) := hv
       simp only [DT.R] at hv
       rcases hv with ⟨e, _⟩ | ⟨_, b, o, c, _, e, _⟩
       ·omega
       ·rw [hy2] at e
        simp only [Value.slice.injEq] at e
        exact e.2.1
      rw [hlen] at hy2
      exact fin _ _ _ hy2 (run_convert_bytes_back (P := E.P) w s d el ad c2 bs hsu hel hdu (fun j hj => hcell j _ (by rw [hys]; simp [hj])))
    ·simp at hs
   ·simp at hs
  ·simp at hs
 ·-- clq
  split at hs
  ·rename_i c hop
   split at hs
   ·rename_i f args hcal
    split at hs
    ·rename_i fn hfn
     split at hs
     ·rename_i hcond
      simp only [Bool.and_eq_true, List.all_eq_true, Nat.blt_eq] at hcond
      obtain ⟨⟨⟨⟨hbody, c1⟩, c2⟩, c6⟩, c7⟩ := hcond
      have c6 := Nat.eq_of_beq_eq_true c6
      have c7 := Nat.eq_of_beq_eq_true c7
      have c1 := Nat.eq_of_beq_eq_true c1
      simp only [Option.some.injEq, Prod.mk.injEq] at hs
      obtain ⟨rfl, rfl, rfl⟩ := hs
      obtain ⟨hc, h1, h2, f1, h3, f2, h4, c4, c3, c5, _⟩ := hp
      have c4 := plainP_spec c4
      have c3 := plainP_spec c3
      have c5 := plainP_spec c5
      simp only [lenL_eq, dropL_eq] at c1 c2 c3 c6 c7 hc h1 h2 h3 f2 h4
      rw [renFl_eq _ c6 f1] at h2
      rw [renFl_eq _ c7 f2] at h3
      have h3 := map_some_inj h3
      have hgl : getL h = fun b : Nat => h[b]? := funext fun b => getL_eq h b
      rw [hgl] at h2
      rw [appL_eq]
      exact opRes_call hE hT hop hcal hfn hbody fun argsC ha => callOther hE H G ha c1 c2 c3 c4 c5 hc h1 h2 h3 h4
     ·simp at hs
    ·simp at hs
   ·simp at hs
  ·simp at hs
 ·-- eqs
  rename_i b
  split at hs
  ·rename_i op u p q yt hop
   split at hs
   ·rename_i l1 l2 hev1 hev2 hg
    simp only [Option.some.injEq, Prod.mk.injEq] at hs
    obtain ⟨rfl, rfl, rfl⟩ := hs
    have h1 := evA_sound hT p
    rw [hev1] at h1
    obtain ⟨cs1, hcs1, hall1⟩ := h1
    have h2 := evA_sound hT q
    rw [hev2] at h2
    obtain ⟨cs2, hcs2, hall2⟩ := h2
    have hq := hp.1 m cs1 cs2 w hall1 hall2
    exact ⟨by simp [hop], by simp [hop], .inl ⟨.bool b, w, .inl (by simp only [execOp, hop, hcs1, hcs2]; rw [Sem.run_bind, Sem.run_bind, run_eqGuard_agg w _ _ _ _ _ _ hg, Result.andThen_ok, run_eql_struct, hq]; rfl), m, Post.sameO H rfl⟩⟩
   ·rename_i l1 l2 hev1 hev2 hg
    simp only [Option.some.injEq, Prod.mk.injEq] at hs
    obtain ⟨rfl, rfl, rfl⟩ := hs
    have h1 := evA_sound hT p
    rw [hev1] at h1
    obtain ⟨cs1, hcs1, hall1⟩ := h1
    have h2 := evA_sound hT q
    rw [hev2] at h2
    obtain ⟨cs2, hcs2, hall2⟩ := h2
    have hq := hp.1 m cs1 cs2 w hall1 hall2
    exact ⟨by simp [hop], by simp [hop], .inl ⟨.bool b, w, .inl (by simp only [execOp, hop, hcs1, hcs2]; rw [Sem.run_bind, Sem.run_bind, run_eqGuard_agg w _ _ _ _ _ _ hg, Result.andThen_ok, run_neq_struct, hq, Result.andThen_ok, Bool.not_not]; rfl), m, Post.sameO H rfl⟩⟩
   ·simp at hs
  ·simp at hs
 ·-- slo
  split at hs
  ·rename_i u a lo hi hop
   split at hs
   ·rename_i el b off len sz cap ex hu ha
    split at hs
    ·rename_i e l' u' he hl hu'
     split at hs
     ·rename_i hsz
      have hsz := Nat.eq_of_beq_eq_true hsz
      simp only [Option.some.injEq, Prod.mk.injEq] at hs
      obtain ⟨rfl, rfl, rfl⟩ := hs
      obtain ⟨rfl, rfl, hlu, rfl, rfl, rfl, _⟩ := hp
      have hbd := bounds_of hl hu' hlu
      have hst := sliceA_sound (E := E) hT H (lo := lo) (hi := hi) (u := u) (a := a) hop (by simp only [sliceA, hu, ha, he, hbd, if_pos hsz]; rfl)
      obtain ⟨y, w', m', r1, r2⟩ := hst
      exact ⟨by simp [hop], by simp [hop], .inl ⟨y, w', r1, m', r2.o⟩⟩
     ·simp at hs
    ·simp at hs
   ·simp at hs
  ·simp at hs
 ·-- sl3
  split at hs
  ·rename_i u a lo hi mx hop
   split at hs
   ·rename_i el b off len sz cap ex hu ha
    split at hs
    ·rename_i e l' u' m' he hl hu' hm'
     split at hs
     ·rename_i hsz
      have hsz := Nat.eq_of_beq_eq_true hsz
      simp only [Option.some.injEq, Prod.mk.injEq] at hs
      obtain ⟨rfl, rfl, rfl⟩ := hs
      obtain ⟨rfl, rfl, rfl, hlu, rfl, rfl, rfl, _⟩ := hp
      have hbd := bounds_of (len := 0) (hi := some hi) (cap := cap) hl hu' ⟨hlu.1, Nat.le_trans hlu.2.1 hlu.2.2⟩
      have hst := sliceA3_sound (E := E) hT H (lo := lo) (hi := some hi) (mx := mx) (u := u) (a := a) hop (by simp only [sliceA3, hu, ha, he, hm', hbd]; rw [if_pos ⟨hsz, rfl, by simp only [Int.ofNat_eq_natCast]; omega, by simp only [Int.ofNat_eq_natCast]; omega⟩])
      obtain ⟨y, w', m', r1, r2⟩ := hst
      exact ⟨by simp [hop], by simp [hop], .inl ⟨y, w', r1, m', r2.o⟩⟩
     ·simp at hs
    ·simp at hs
   ·simp at hs
  ·simp at hs
 ·-- sap
  split at hs
  ·rename_i u a hop
   split at hs
   ·rename_i n el b off hu ha
    split at hs
    ·rename_i e ab he hab
     split at hs
     ·rename_i hn
      simp only [Option.some.injEq, Prod.mk.injEq] at hs
      obtain ⟨rfl, rfl, rfl⟩ := hs
      obtain ⟨hle, _⟩ := hp
      have hn := Nat.le_of_ble_eq_true hn
      have hst := sliceA_sound (E := E) hT H (lo := none) (hi := none) (u := u) (a := a) (x := .e (.one (.slc b off n e.size n true))) (h' := h) hop (by
       unfold sliceA
       rw [hu, ha]
       simp [he, hab, sliceBoundsA, hle, hn])
      obtain ⟨y, w', m', r1, r2⟩ := hst
      exact ⟨by simp [hop], by simp [hop], .inl ⟨y, w', r1, m', r2.o⟩⟩
     ·simp at hs
    ·simp at hs
   ·simp at hs
  ·simp at hs
 ·-- d
  exact dV_sound hE G hT H hs hp
 ·-- fb
  split at hs
  ·rename_i bop u a b br hop
   split at hs
   ·rename_i cx cz hx hz
    simp only [Option.some.injEq, Prod.mk.injEq] at hs
    obtain ⟨rfl, rfl, rfl⟩ := hs
    have h1 := evA_sound hT a
    have h2 := evA_sound hT b
    rw [hx] at h1
    rw [hz] at h2
    obtain ⟨y, n, hr, hy⟩ := hp.1 m _ _ w h1 h2
    exact ⟨by simp [hop], by simp [hop], .inl ⟨y, _, .inl (by simp only [execOp, hop]; exact run_v hr), m, (Post.draw H hy).o⟩⟩
   ·simp at hs
  ·simp at hs
 ·-- fc
  split at hs
  ·rename_i sT dT a hop
   split at hs
   ·rename_i cx hx
    simp only [Option.some.injEq, Prod.mk.injEq] at hs
    obtain ⟨rfl, rfl, rfl⟩ := hs
    have h1 := evA_sound hT a
    rw [hx] at h1
    obtain ⟨y, n, hr, hy⟩ := hp.1 m _ w h1
    exact ⟨by simp [hop], by simp [hop], .inl ⟨y, _, .inl (by simp only [execOp, hop]; exact run_v hr), m, (Post.draw H hy).o⟩⟩
   ·simp at hs
  ·simp at hs
 ·-- nx
  rename_i rr0
  split at hs
  ·rename_i a hop
   split at hs
   ·rename_i b hev
    split at hs
    ·rename_i ab s pos hit
     split at hs
     ·rename_i rr q hlb
      simp only [Option.some.injEq, Prod.mk.injEq] at hs
      obtain ⟨rfl, rfl, rfl⟩ := hs
      obtain ⟨k1, rfl, rfl, _⟩ := hp
      obtain ⟨y, w', m', r1, r2⟩ := op_next (E := E) (lvl := lvl) hT H (a := a) hop (by simp only [opA, hev, hit, hlb, if_pos k1]; rfl)
      exact ⟨by simp [hop], by simp [hop], .inl ⟨y, w', r1, m', r2.o⟩⟩
     ·rename_i hlb
      simp only [Option.some.injEq, Prod.mk.injEq] at hs
      obtain ⟨rfl, rfl, rfl⟩ := hs
      obtain ⟨k1, _⟩ := hp
      obtain ⟨y, w', m', r1, r2⟩ := op_next (E := E) (lvl := lvl) hT H (a := a) hop (by simp only [opA, hev, hit, hlb, if_neg k1]; rfl)
      exact ⟨by simp [hop], by simp [hop], .inl ⟨y, w', r1, m', r2.o⟩⟩
     ·simp at hs
    ·simp at hs
   ·simp at hs
  ·simp at hs
 ·-- si
  rename_i bb
  split at hs
  ·rename_i u p q hop
   split at hs
   ·rename_i s kk n hev hin hu
    simp only [Option.some.injEq, Prod.mk.injEq] at hs
    obtain ⟨rfl, rfl, rfl⟩ := hs
    obtain ⟨k1, k2, _⟩ := hp
    have h1 := evA_sound hT p
    rw [hev] at h1
    have h1 : evC t p = .string s := h1
    have h2 := intOf_sound (evA_sound hT q) hin
    obtain ⟨c, hk, rfl⟩ := Option.map_eq_some_iff.1 k2
    have hrun : (Instr.index u (.string s) (.int kk n)).run E.P w = .ok (.int .u8 c.toNat) w := by
     simp [Instr.index, run_underlying hu, asIntOf, k1, hk]
    exact ⟨by simp [hop], by simp [hop], .inl ⟨.int .u8 c.toNat, w, .inl (by simp [execOp, hop, h1, h2, hrun]), m, Post.sameO H rfl⟩⟩
   ·simp at hs
  ·simp at hs
 ·-- apo
  rename_i Lx xs lx
  split at hs
  ·rename_i c hop
   split at hs
   ·rename_i b s len sz cap ex b2 s2 mm sz2 cap2 ex2 u xu hcal hargs htys
    split at hs
    ·rename_i el hu
     split at hs
     ·rename_i e z ab a2 he hz hb hb2
      split at hs
      ·rename_i hcond
       simp only [Bool.and_eq_true, Nat.blt_eq] at hcond
       obtain ⟨⟨⟨⟨⟨c1, c2⟩, c3⟩, c5⟩, c6⟩, c7⟩ := hcond
       have c1 := Nat.eq_of_beq_eq_true c1
       have c3 := Nat.eq_of_beq_eq_true c3
       have c5 := Nat.eq_of_beq_eq_true c5
       have c6 := Nat.eq_of_beq_eq_true c6
       have c7 := Nat.le_of_ble_eq_true c7
       simp only [Option.some.injEq, Prod.mk.injEq] at hs
       obtain ⟨rfl, rfl, rfl⟩ := hs
       obtain ⟨k0, rfl, k1, k2, k3, k4, k5, rfl, _⟩ := hp
       subst c5 c1 c6
       refine by0 ?_
       have ht0 : c.argTypes[0]? = some u := by
        have : c.argTypes.toList[0]? = some u := by rw [htys]; rfl
        simpa using this
       have ht1 : c.argTypes[1]? = some u := by
        have : c.argTypes.toList[1]? = some u := by rw [htys]; rfl
        simpa using this
       have hnot : ∀ (f : FuncId) (avs : List AV), calleeOf tm c ≠ some (f, avs) := fun f avs hh => by simp [calleeOf, hcal] at hh
       have hcn : calleeOf tm c = none := by
        cases hh : calleeOf tm c with
        | none => rfl
        | some r => exact absurd hh (hnot r.1 r.2)
       have hyn : yieldOf tm c = none := by simp [yieldOf, hcal]
       have hsrc : srcCells h e.size mm (.e (.one (.slc b2 s2 mm e.size cap2 ex2))) = some xs := by
        simp only [srcCells, hb2, Nat.le_refl, and_self, if_true]
        exact k3
       have hcp : 0 < cap := by omega
       simp only [stepOp, hop, callOp, hcn, hyn, hcal, hargs, builtinA, ht0, ht1, appendA, lenS?, hu, he, hz, hsrc, c2, c3, k4, hb, k2, k1, c7, hcp, k5, and_self, if_true]
      ·simp at hs
     ·simp at hs
    ·simp at hs
   ·simp at hs
  ·simp at hs
 ·-- clr
  rename_i lx
  split at hs
  ·rename_i c hop
   split at hs
   ·rename_i b s len sz cap ex u hcal hargs htys
    split at hs
    ·rename_i el hu
     split at hs
     ·rename_i e z ab he hz hb
      split at hs
      ·rename_i hcond
       simp only [Bool.and_eq_true] at hcond
       obtain ⟨⟨c7, c5⟩, c3⟩ := hcond
       have c3 := Nat.eq_of_beq_eq_true c3
       have c5 := Nat.eq_of_beq_eq_true c5
       have c7 := Nat.le_of_ble_eq_true c7
       simp only [Option.some.injEq, Prod.mk.injEq] at hs
       obtain ⟨rfl, rfl, rfl⟩ := hs
       obtain ⟨k0, k1, k5, k4, rfl, _⟩ := hp
       refine by0 ?_
       have ht0 : c.argTypes[0]? = some u := by
        have : c.argTypes.toList[0]? = some u := by rw [htys]; rfl
        simpa using this
       have hnot : ∀ (f : FuncId) (avs : List AV), calleeOf tm c ≠ some (f, avs) := fun f avs hh => by simp [calleeOf, hcal] at hh
       have hcn : calleeOf tm c = none := by
        cases hh : calleeOf tm c with
        | none => rfl
        | some r => exact absurd hh (hnot r.1 r.2)
       have hyn : yieldOf tm c = none := by simp [yieldOf, hcal]
       have hcp : 0 < cap := by omega
       have hl0 : ¬ len = 0 := by omega
       simp only [stepOp, hop, callOp, hcn, hyn, hcal, hargs, builtinA, ht0, clearA, hu, he, hz, c5, c3, k4, hb, c7, hcp, k5, hl0, and_self, if_true, if_false]
      ·simp at hs
     ·simp at hs
    ·simp at hs
   ·simp at hs
  ·simp at hs
 ·-- apx
  split at hs
  ·rename_i c hop
   split at hs
   ·rename_i b s len sz cap b2 s2 mm sz2 cap2 ex2 u xu hcal hargs htys
    split at hs
    ·rename_i el hu
     split at hs
     ·rename_i e z ab he hz hb
      split at hs
      ·rename_i xs hxs
       split at hs
       ·rename_i hcond
        simp only [Bool.and_eq_true, Nat.blt_eq, Nat.ble_eq, Bool.not_eq_true'] at hcond
        obtain ⟨⟨⟨⟨c1, c2⟩, c3⟩, c4⟩, c5⟩ := hcond
        have c1 := Nat.eq_of_beq_eq_true c1
        have c3 := Nat.eq_of_beq_eq_true c3
        have c5 := Nat.eq_of_beq_eq_true c5
        simp only [Option.some.injEq, Prod.mk.injEq] at hs
        obtain ⟨rfl, rfl, rfl⟩ := hs
        obtain ⟨hb1, hb2, ⟨olds, ho1, rfl⟩, rfl, rfl, _⟩ := hp
        subst c5 c1
        refine by0 ?_
        have ht0 : c.argTypes[0]? = some u := by
         have : c.argTypes.toList[0]? = some u := by rw [htys]; rfl
         simpa using this
        have ht1 : c.argTypes[1]? = some u := by
         have : c.argTypes.toList[1]? = some u := by rw [htys]; rfl
         simpa using this
        have hnot : ∀ (f : FuncId) (avs : List AV), calleeOf tm c ≠ some (f, avs) := fun f avs hh => by simp [calleeOf, hcal] at hh
        have hcn : calleeOf tm c = none := by
         cases hh : calleeOf tm c with
         | none => rfl
         | some r => exact absurd hh (hnot r.1 r.2)
        have hyn : yieldOf tm c = none := by simp [yieldOf, hcal]
        simp only [stepOp, hop, callOp, hcn, hyn, hcal, hargs, builtinA, ht0, ht1, appendA, lenS?, hu, he, hz, hxs, c2, c3, c4, hb, hb1, hb2, ho1, and_self, if_true, if_false, Bool.false_eq_true]
       ·simp at hs
      ·simp at hs
     ·simp at hs
    ·simp at hs
   ·simp at hs
  ·simp at hs
 ·-- apq
  split at hs
  ·rename_i c hop
   split at hs
   ·rename_i b s len sz cap b2 s2 mm sz2 cap2 ex2 u xu hcal hargs htys
    split at hs
    ·rename_i el hu
     split at hs
     ·rename_i e z ab he hz hb
      split at hs
      ·rename_i xs hxs
       split at hs
       ·rename_i hcond
        simp only [Bool.and_eq_true, Nat.blt_eq, Nat.ble_eq, Bool.not_eq_true'] at hcond
        obtain ⟨⟨⟨⟨⟨⟨⟨⟨c1, c2⟩, c3⟩, c4⟩, c5⟩, c6⟩, c8⟩, c9⟩, c10⟩ := hcond
        have c1 := Nat.eq_of_beq_eq_true c1
        have c3 := Nat.eq_of_beq_eq_true c3
        have c5 := Nat.eq_of_beq_eq_true c5
        have c9 := Nat.eq_of_beq_eq_true c9
        simp only [Option.some.injEq, Prod.mk.injEq] at hs
        obtain ⟨rfl, rfl, rfl⟩ := hs
        obtain ⟨hb1, hb2, hb3, hb4, rfl, rfl, rfl, _⟩ := hp
        subst c5 c1 c9
        refine by0 ?_
        have ht0 : c.argTypes[0]? = some u := by
         have : c.argTypes.toList[0]? = some u := by rw [htys]; rfl
         simpa using this
        have ht1 : c.argTypes[1]? = some u := by
         have : c.argTypes.toList[1]? = some u := by rw [htys]; rfl
         simpa using this
        have hnot : ∀ (f : FuncId) (avs : List AV), calleeOf tm c ≠ some (f, avs) := fun f avs hh => by simp [calleeOf, hcal] at hh
        have hcn : calleeOf tm c = none := by
         cases hh : calleeOf tm c with
         | none => rfl
         | some r => exact absurd hh (hnot r.1 r.2)
        have hyn : yieldOf tm c = none := by simp [yieldOf, hcal]
        have hcp : 0 < cap := by omega
        have hn3 : ¬ (lvl ≤ b ∧ 0 < cap ∧ s + (len + mm) * e.size ≤ ab.n) := fun hh => hb3 hh.2.2
        simp only [stepOp, hop, callOp, hcn, hyn, hcal, hargs, builtinA, ht0, ht1, appendA, lenS?, hu, he, hz, hxs, c2, c3, c4, hb, hb1, hb2, if_neg hn3, and_self, if_true, if_false, Bool.false_eq_true]
        rw [if_pos ⟨c6, c8, hb4, trivial, c10⟩]
       ·simp at hs
      ·simp at hs
     ·simp at hs
    ·simp at hs
   ·simp at hs
  ·simp at hs
 ·-- yd
  rename_i v2 h2
  split at hs
  ·rename_i c hop
   split at hs
   ·rename_i b args hcal hyo
    simp only [Option.some.injEq, Prod.mk.injEq] at hs
    obtain ⟨rfl, rfl, rfl⟩ := hs
    have hcv := callV_yield hop hyo
    unfold yieldOf at hyo
    split at hyo
    ·rename_i f hcf
     split at hyo
     ·rename_i b' hev
      simp only [Option.some.injEq, Prod.mk.injEq] at hyo
      obtain ⟨rfl, rfl⟩ := hyo
      have hfv := evA_sound hT f
      rw [hev] at hfv
      obtain ⟨hbn, hfv'⟩ : b' < m.n ∧ evC t f = _ := hfv
      obtain ⟨fn, tmps, asg, body, hy, hrd⟩ := hp.1 m base w _ (args_sound hT c.args) H G
      refine ⟨by simp [hop], by simp [hop], .inr (.inr ⟨_, fn, tmps, asg, body, ?_, hrd.mono fun y w' ⟨m', hp⟩ => ⟨m', hp, fun h0 => by rw [hcv] at h0; cases h0⟩⟩)⟩
      simp [execOp, hop, resolve, hcf, hfv', Deferred.ofValue, invoke, hy]
     ·simp at hyo
    ·simp at hyo
   ·simp at hs
  ·simp at hs
 ·-- fx
  split at hs
  ·rename_i c' hop
   split at hs
   ·rename_i f args hcal
    split at hs
    ·rename_i fn hfn
     split at hs
     ·simp only [Option.some.injEq, Prod.mk.injEq] at hs
      obtain ⟨rfl, rfl, rfl⟩ := hs
      obtain ⟨ps, he, ha⟩ := call_ext hT hop hcal
      obtain ⟨y, n, hr, hy⟩ := hp.1 m ps w ha
      exact ⟨by simp [hop], by simp [hop], .inl ⟨y, _, .inl (by rw [he]; exact hr), m, (Post.draw H hy).o⟩⟩
     ·simp at hs
    ·simp at hs
   ·simp at hs
  ·simp at hs
 ·-- s2a
  split at hs
  ·rename_i u a hop
   split at hs
   ·rename_i n el b off len sz cap ex hu ha
    split at hs
    ·rename_i hn0
     simp only [Nat.blt_eq] at hn0
     simp only [Option.some.injEq, Prod.mk.injEq] at hs
     obtain ⟨rfl, rfl, rfl⟩ := hs
     obtain ⟨hn, _⟩ := hp
     obtain ⟨y, w', m', r1, r2⟩ := op_s2ap (E := E) (lvl := lvl) hT H (u := u) (a := a) hop (by rw [hop]; simp only [opA, hu, ha, if_pos (And.intro hn hn0)]; rfl)
     exact ⟨by simp [hop], by simp [hop], .inl ⟨y, w', r1, m', r2.o⟩⟩
    ·simp at hs
   ·simp at hs
  ·simp at hs
 ·-- mu
  split at hs
  ·rename_i u p q r hop
   split at hs
   ·rename_i key el b k e hu ha hc hd0
    split at hs
    ·rename_i ab kv d v hm hd hv
     split at hs
     ·rename_i hlb
      simp only [Option.some.injEq, Prod.mk.injEq] at hs
      obtain ⟨rfl, rfl, rfl⟩ := hs
      obtain ⟨hf, hk, _⟩ := hp
      obtain ⟨r', hg, rfl⟩ := Option.map_eq_some_iff.1 hf
      have hX : opA E lvl tm h (.mapUpdate u p q r) = some (.tup [], setL h b (some { ab with ext := .map (putKV k v kv r') })) := by
       simp only [opA, hu, ha, hc, hd0, hm, hd, hv, hlb, hk, Bool.and_self]
       rw [hg]
      obtain ⟨y, w', m', r1, r2⟩ := op_mapUpdate (E := E) (lvl := lvl) hT H hop hX
      exact ⟨by simp [hop], by simp [hop], .inl ⟨y, w', r1, m', r2.o⟩⟩
     ·simp at hs
    ·simp at hs
   ·simp at hs
  ·simp at hs
 ·-- lk
  rename_i v bb
  split at hs
  ·rename_i u p q ok hop
   split at hs
   ·rename_i key el b k hu ha hc
    split at hs
    ·rename_i kv d z hm hd hz
     simp only [Option.some.injEq, Prod.mk.injEq] at hs
     obtain ⟨rfl, rfl, rfl⟩ := hs
     obtain ⟨hf, hk, _⟩ := hp
     have hX : opA E lvl tm h (.lookup u p q ok) = some (match (generalizing := false) ok with | true => .tup [AE.of v, .one (.v (.bool bb))] | false => .e (AE.of v), h) := by
      unfold seeKV at hf
      obtain ⟨r', hg, h2⟩ := Option.map_eq_some_iff.1 hf
      simp only [opA, hu, ha, hc, hm, hd, hz, hk]
      rw [hg]
      rcases r' with _ | ⟨i0, v0⟩
      ·obtain ⟨rfl, rfl⟩ := Prod.mk.inj h2
       cases ok <;> rfl
      ·obtain ⟨rfl, rfl⟩ := Prod.mk.inj h2
       cases ok <;> rfl
     obtain ⟨y, w', m', r1, r2⟩ := op_lookup (E := E) (lvl := lvl) hT H hop hX
     exact ⟨by simp [hop], by simp [hop], .inl ⟨y, w', r1, m', r2.o⟩⟩
    ·simp at hs
   ·simp at hs
  ·simp at hs
end
end Go.Ev
end
section
namespace Go.Ev
end Go.Ev
end
section
namespace Go.Ev
open Go.RowKit
noncomputable section
section
variable {E : Env} {rec : RunT} {lvl : Nat} {ops : Array Oper}
theorem wantV_sound {tm : Tm} {o : Oper} {g : Option Bool} {b : Bool} {q : List Prop} (h : wantV ops tm o g = (b, q)) (hq : AllP q) : wantedA ops tm o = b := by
 unfold wantV at h
 split at h
 ·simp only [Prod.mk.injEq] at h; exact h.1
 ·unfold wantedA
  split at h
  ·rename_i hg
   simp only [Prod.mk.injEq] at h
   simp only [hg]; exact h.1
  ·rename_i j want hg
   simp only [hg]
   split at h
   ·rename_i d hd
    simp only [hd]
    split at h
    ·rename_i c hc
     simp only [Prod.mk.injEq] at h
     obtain ⟨rfl, rfl⟩ := h
     simp only [hc]
     exact hq.1
    ·rename_i hne
     simp only [Prod.mk.injEq] at h
     obtain ⟨rfl, rfl⟩ := h
     split
     ·rename_i c hc; exact absurd hc (hne c)
     ·rfl
   ·rename_i hd
    simp only [Prod.mk.injEq] at h
    obtain ⟨rfl, rfl⟩ := h
    simp only [hd]
open Classical in
def sigV (E : Env) (rec : RunT) (a : List (Nat × Ans)) : StepT := fun lvl h tm i o => match valV E rec lvl h tm o (ansOf a i) with
 | some (x, h', ps) => if AllP ps then some (x, h') else none
 | none => none
theorem sigV_of {a : List (Nat × Ans)} {h h' : Heap} {tm : Tm} {i : Nat} {o : Oper} {x : AV} {ps : List Prop} (hv : valV E rec lvl h tm o (ansOf a i) = some (x, h', ps)) (hp : AllP ps) : sigV E rec a lvl h tm i o = some (x, h') := by
 simp only [sigV, hv, if_pos hp]
theorem sigV_some {a : List (Nat × Ans)} {h h' : Heap} {tm : Tm} {i : Nat} {o : Oper} {x : AV} (hs : sigV E rec a lvl h tm i o = some (x, h')) : ∃ ps, valV E rec lvl h tm o (ansOf a i) = some (x, h', ps) ∧ AllP ps := by
 unfold sigV at hs
 split at hs
 ·rename_i x1 h1 ps hv
  split at hs
  ·rename_i hp
   simp only [Option.some.injEq, Prod.mk.injEq] at hs
   obtain ⟨rfl, rfl⟩ := hs
   exact ⟨ps, hv, hp⟩
  ·simp at hs
 ·simp at hs
theorem blind_op {i : Nat} {o : Oper} (ho : ops[i]? = some o) (hb : blindAt ops i = true) : (∃ x, o.op = .move x) ∨ (∃ x, o.op = .assign x) ∨ (∃ b t x y yt, o.op = .binOp b t x y yt) ∨ (∃ t x y, o.op = .index t x y) ∨ (∃ x n, o.op = .extract x n) := by
 unfold blindAt at hb
 rw [ho] at hb
 simp only at hb
 split at hb
 ·rename_i hop; exact .inl ⟨_, hop⟩
 ·rename_i hop; exact .inr (.inl ⟨_, hop⟩)
 ·rename_i hop; exact .inr (.inr (.inl ⟨_, _, _, _, _, hop⟩))
 ·rename_i hop; exact .inr (.inr (.inr (.inl ⟨_, _, _, hop⟩)))
 ·rename_i hop; exact .inr (.inr (.inr (.inr ⟨_, _, hop⟩)))
 ·simp at hb
theorem blindV {i : Nat} {o : Oper} (ho : ops[i]? = some o) (hb : blindAt ops i = true) {lvl lvl' : Nat} {h h1 h' : Heap} {tm : Tm} {x : AV} {a : Ans} {ps : List Prop} (hs : valV E rec lvl h tm o a = some (x, h', ps)) :
  valV E rec lvl' h1 tm o a = some (x, h1, ps) := by
 cases a with
 | go =>
  simp only [valV] at hs ⊢
  split at hs
  ·rename_i x1 h2 hst
   simp only [Option.some.injEq, Prod.mk.injEq] at hs
   obtain ⟨rfl, rfl, rfl⟩ := hs
   rw [blind_spec ho hb hst]
  ·simp at hs
 | fw =>
  rcases blind_op ho hb with ⟨p, hop⟩ | ⟨p, hop⟩ | ⟨p, q, r, s, u, hop⟩ | ⟨p, q, r, hop⟩ | ⟨p, q, hop⟩
  ·simp [valV, hop, opA] at hs
  ·simp [valV, hop, opA] at hs
  ·simp [valV, hop, opA] at hs
  ·simp [valV, hop, opA] at hs
  ·simp only [valV, hop, opA] at hs ⊢
   cases he : evA tm p with
   | e _ => simp [he] at hs
   | tup l =>
    cases hg : getL l q with
    | none => simp [he, hg] at hs
    | some a =>
     simp [he, hg] at hs ⊢
     exact ⟨hs.1, hs.2.2⟩
 | fwq =>
  rcases blind_op ho hb with ⟨p, hop⟩ | ⟨p, hop⟩ | ⟨p, q, r, s, u, hop⟩ | ⟨p, q, r, hop⟩ | ⟨p, q, hop⟩
  ·simp [valV, hop, opA] at hs
  ·simp [valV, hop, opA] at hs
  ·simp [valV, hop, opA] at hs
  ·simp [valV, hop, opA] at hs
  ·simp only [valV, hop, opA] at hs ⊢
   cases he : evA tm p with
   | e _ => simp [he] at hs
   | tup l =>
    cases hg : getL l q with
    | none => simp [he, hg] at hs
    | some a =>
     simp [he, hg] at hs ⊢
     exact ⟨hs.1, hs.2.2⟩
 | oq =>
  simp only [valV] at hs ⊢
  split at hs
  ·rename_i x1 h2 hst
   simp only [Option.some.injEq, Prod.mk.injEq] at hs
   obtain ⟨rfl, rfl, rfl⟩ := hs
   rw [blind_spec ho hb hst]
  ·simp at hs
 | rn y =>
  simp only [valV] at hs ⊢
  split at hs
  ·rename_i x1 h2 hst
   simp only [Option.some.injEq, Prod.mk.injEq] at hs
   obtain ⟨rfl, rfl, rfl⟩ := hs
   rw [blind_spec ho hb hst]
  ·simp at hs
 | quo r =>
  simp only [valV] at hs ⊢
  split at hs
  ·split at hs
   ·split at hs
    ·simp only [Option.some.injEq, Prod.mk.injEq] at hs ⊢
     exact ⟨hs.1, trivial, hs.2.2⟩
    ·simp only [Option.some.injEq, Prod.mk.injEq] at hs ⊢
     exact ⟨hs.1, trivial, hs.2.2⟩
    ·simp at hs
   ·simp at hs
  ·simp at hs
 | el c =>
  simp only [valV] at hs ⊢
  split at hs
  ·split at hs
   ·split at hs
    ·split at hs
     ·simp only [Option.some.injEq, Prod.mk.injEq] at hs ⊢
      exact ⟨hs.1, trivial, hs.2.2⟩
     ·simp at hs
    ·simp at hs
   ·simp at hs
  ·simp at hs
 | cmp b xs ys =>
  simp only [valV] at hs ⊢
  split at hs
  ·split at hs
   ·split at hs
    ·split at hs
     ·simp only [Option.some.injEq, Prod.mk.injEq] at hs ⊢
      exact ⟨hs.1, trivial, hs.2.2⟩
     ·simp only [Option.some.injEq, Prod.mk.injEq] at hs ⊢
      exact ⟨hs.1, trivial, hs.2.2⟩
     ·simp at hs
    ·simp at hs
   ·simp at hs
  ·simp at hs
 | eqs b =>
  simp only [valV] at hs ⊢
  split at hs
  ·split at hs
   ·simp only [Option.some.injEq, Prod.mk.injEq] at hs ⊢
    exact ⟨hs.1, trivial, hs.2.2⟩
   ·simp only [Option.some.injEq, Prod.mk.injEq] at hs ⊢
    exact ⟨hs.1, trivial, hs.2.2⟩
   ·simp at hs
  ·simp at hs
 | fb c =>
  simp only [valV] at hs ⊢
  split at hs
  ·split at hs
   ·simp only [Option.some.injEq, Prod.mk.injEq] at hs ⊢
    exact ⟨hs.1, trivial, hs.2.2⟩
   ·simp at hs
  ·simp at hs
 | si b =>
  simp only [valV] at hs ⊢
  split at hs
  ·split at hs
   ·simp only [Option.some.injEq, Prod.mk.injEq] at hs ⊢
    exact ⟨hs.1, trivial, hs.2.2⟩
   ·simp at hs
  ·simp at hs
 | d a =>
  rcases blind_op ho hb with ⟨p, hop⟩ | ⟨p, hop⟩ | ⟨p, q, r, s, u, hop⟩ | ⟨p, q, r, hop⟩ | ⟨p, q, hop⟩ <;> cases a <;> simp [valV, dV, hop] at hs
  simp only [valV, dV, hop]
  split at hs
  ·simp only [Option.some.injEq, Prod.mk.injEq] at hs ⊢
   exact ⟨hs.1, trivial, hs.2.2⟩
  ·simp at hs
 | _ =>
  rcases blind_op ho hb with ⟨p, hop⟩ | ⟨p, hop⟩ | ⟨p, q, r, s, u, hop⟩ | ⟨p, q, r, hop⟩ | ⟨p, q, hop⟩ <;> simp [valV, hop] at hs
theorem sigV_ok (hE : EnvOk E) (hrec : RecOk E rec) (a : List (Nat × Ans)) : StepOk E (sigV E rec a) :=
 ⟨fun hT H G _ _ hs => by
  obtain ⟨ps, hv, hp⟩ := sigV_some hs
  exact valV_sound hE hrec hT H G hv hp,
 fun ho hb _ _ _ _ _ _ _ hs => by
  obtain ⟨ps, hv, hp⟩ := sigV_some hs
  exact sigV_of (blindV ho hb hv) hp⟩
theorem opsV_sim {a : List (Nat × Ans)} {g : List (Nat × Bool)} : ∀ (l : List Oper) (i : Nat) {h h2 : Heap} {tm tm2 : Tm} {qs : List Prop}, opsV E rec a g lvl ops l i h tm = some (h2, tm2, qs) → AllP qs → stepOps (sigV E rec a) lvl ops l i h tm = some (h2, tm2)
 | [], i, h, h2, tm, tm2, qs, hs, hq => by
  simp only [opsV, Option.some.injEq, Prod.mk.injEq] at hs
  obtain ⟨rfl, rfl, rfl⟩ := hs
  rfl
 | o :: l, i, h, h2, tm, tm2, qs, hs, hq => by
  have hs' : (match wantV ops tm o (boolAt g i) with
   | (true, q) => (match valV E rec lvl h tm o (ansOf a i) with
    | some (x, h', ps) => (match opsV E rec a g lvl ops l (i + 1) h' (putT tm o.dst x) with
     | some (h2, tm2, qs) => some (h2, tm2, q ++ (ps ++ qs))
     | none => none)
    | none => none)
   | (false, q) => (match opsV E rec a g lvl ops l (i + 1) h (putT tm o.dst (.tup [])) with
     | some (h2, tm2, qs) => some (h2, tm2, q ++ qs)
     | none => none)) = some (h2, tm2, qs) := hs
  show (if wantedA ops tm o then match sigV E rec a lvl h tm i o with
   | some (x, h') => stepOps (sigV E rec a) lvl ops l (i + 1) h' (putT tm o.dst x)
   | none => none
  else stepOps (sigV E rec a) lvl ops l (i + 1) h (putT tm o.dst (.tup []))) = _
  split at hs'
  ·rename_i q hw
   split at hs'
   ·rename_i x h' ps hv
    split at hs'
    ·rename_i h3 tm3 qs3 hr
     simp only [Option.some.injEq, Prod.mk.injEq] at hs'
     obtain ⟨rfl, rfl, rfl⟩ := hs'
     obtain ⟨k1, k2⟩ := allP_append.1 hq
     obtain ⟨k2, k3⟩ := allP_append.1 k2
     rw [wantV_sound hw k1, if_pos rfl, sigV_of hv k2]
     exact opsV_sim l (i + 1) hr k3
    ·simp at hs'
   ·simp at hs'
  ·rename_i q hw
   split at hs'
   ·rename_i h3 tm3 qs3 hr
    simp only [Option.some.injEq, Prod.mk.injEq] at hs'
    obtain ⟨rfl, rfl, rfl⟩ := hs'
    obtain ⟨k1, k2⟩ := allP_append.1 hq
    rw [wantV_sound hw k1, if_neg (by simp)]
    exact opsV_sim l (i + 1) hr k2
   ·simp at hs'
theorem passBV_sim {a : List (Nat × Ans)} {g : List (Nat × Bool)} {lvl : Nat} : ∀ (l : List Nat) {h h2 : Heap} {tm tm2 : Tm} {qs : List Prop}, passBV E rec a g lvl ops l h tm = some (h2, tm2, qs) → AllP qs → passB (sigV E rec a) lvl ops l h tm = some (h2, tm2)
 | [], h, h2, tm, tm2, qs, hs, hq => by
  simp only [passBV, Option.some.injEq, Prod.mk.injEq] at hs
  obtain ⟨rfl, rfl, rfl⟩ := hs
  rfl
 | i :: l, h, h2, tm, tm2, qs, hs, hq => by
  have hs' : (match ops[i]? with
  | some o => (match wantV ops tm o (boolAt g i) with
   | (true, q) => (match valV E rec lvl h tm o (ansOf a i) with
    | some (x, h', ps) => (match passBV E rec a g lvl ops l h' (putT tm o.dst x) with
     | some (h2, tm2, qs) => some (h2, tm2, q ++ (ps ++ qs))
     | none => none)
    | none => none)
   | (false, q) => (match passBV E rec a g lvl ops l h (putT tm o.dst (.tup [])) with
     | some (h2, tm2, qs) => some (h2, tm2, q ++ qs)
     | none => none))
  | none => none) = some (h2, tm2, qs) := hs
  show (match ops[i]? with
   | some o => if wantedA ops tm o then (match sigV E rec a lvl h tm i o with
     | some (x, h1) => passB (sigV E rec a) lvl ops l h1 (putT tm o.dst x)
     | none => none) else passB (sigV E rec a) lvl ops l h (putT tm o.dst (.tup []))
   | none => none) = _
  cases ho : ops[i]? with
  | none => rw [ho] at hs'; simp at hs'
  | some o =>
   rw [ho] at hs'
   simp only at hs' ⊢
   split at hs'
   ·rename_i q hw
    split at hs'
    ·rename_i x h' ps hv
     split at hs'
     ·rename_i h3 tm3 qs3 hr
      simp only [Option.some.injEq, Prod.mk.injEq] at hs'
      obtain ⟨rfl, rfl, rfl⟩ := hs'
      obtain ⟨k1, k2⟩ := allP_append.1 hq
      obtain ⟨k2, k3⟩ := allP_append.1 k2
      rw [wantV_sound hw k1, if_pos rfl, sigV_of hv k2]
      exact passBV_sim l hr k3
     ·simp at hs'
    ·simp at hs'
   ·rename_i q hw
    split at hs'
    ·rename_i h3 tm3 qs3 hr
     simp only [Option.some.injEq, Prod.mk.injEq] at hs'
     obtain ⟨rfl, rfl, rfl⟩ := hs'
     obtain ⟨k1, k2⟩ := allP_append.1 hq
     rw [wantV_sound hw k1, if_neg (by simp)]
     exact passBV_sim l hr k2
    ·simp at hs'
theorem passAV_sim {a : List (Nat × Ans)} {g : List (Nat × Bool)} {h : Heap} : ∀ (l : List Nat) {tm tm2 : Tm} {qs : List Prop}, passAV E rec a g ops h l tm = some (tm2, qs) → AllP qs → passA (sigV E rec a) ops h l tm = some tm2
 | [], tm, tm2, qs, hs, hq => by
  simp only [passAV, Option.some.injEq, Prod.mk.injEq] at hs
  obtain ⟨rfl, rfl⟩ := hs
  rfl
 | i :: l, tm, tm2, qs, hs, hq => by
  have hs' : (match ops[i]? with
  | some o => (match wantV ops tm o (boolAt g i) with
   | (true, q) => (match valV E rec (lenL h) h tm o (ansOf a i) with
    | some (x, _, ps) => (match isOq (ansOf a i) with
     | true => (match passAV E rec a g ops h l (putT tm o.dst x) with
      | some (tm2, qs) => some (tm2, q ++ (ps ++ (((refsBelow (lenL h) x.refs && (!callV o || x.flat)) = true) :: qs)))
      | none => none)
     | false => if refsBelow (lenL h) x.refs && (!callV o || x.flat) then (match passAV E rec a g ops h l (putT tm o.dst x) with
      | some (tm2, qs) => some (tm2, q ++ (ps ++ qs))
      | none => none) else none)
    | none => none)
   | (false, q) => (match passAV E rec a g ops h l (putT tm o.dst (.tup [])) with
     | some (tm2, qs) => some (tm2, q ++ qs)
     | none => none))
  | none => none) = some (tm2, qs) := hs
  show (match ops[i]? with
   | some o => if wantedA ops tm o then (match sigV E rec a (lenL h) h tm i o with
     | some (x, _) => if refsBelow (lenL h) x.refs && (!callV o || x.flat) then passA (sigV E rec a) ops h l (putT tm o.dst x) else none
     | none => none) else passA (sigV E rec a) ops h l (putT tm o.dst (.tup []))
   | none => none) = _
  cases ho : ops[i]? with
  | none => rw [ho] at hs'; simp at hs'
  | some o =>
   rw [ho] at hs'
   simp only at hs' ⊢
   split at hs'
   ·rename_i q hw
    split at hs'
    ·rename_i x h' ps hv
     split at hs'
     ·split at hs'
      ·rename_i tm3 qs3 hr
       simp only [Option.some.injEq, Prod.mk.injEq] at hs'
       obtain ⟨rfl, rfl⟩ := hs'
       obtain ⟨k1, k2⟩ := allP_append.1 hq
       obtain ⟨k2, k3⟩ := allP_append.1 k2
       rw [wantV_sound hw k1, if_pos rfl, sigV_of hv k2]
       simp only [show (refsBelow (lenL h) x.refs && (!callV o || x.flat)) = true from k3.1, if_true]
       exact passAV_sim l hr k3.2
      ·simp at hs'
     ·split at hs'
      ·rename_i hrb
       split at hs'
       ·rename_i tm3 qs3 hr
        simp only [Option.some.injEq, Prod.mk.injEq] at hs'
        obtain ⟨rfl, rfl⟩ := hs'
        obtain ⟨k1, k2⟩ := allP_append.1 hq
        obtain ⟨k2, k3⟩ := allP_append.1 k2
        rw [wantV_sound hw k1, if_pos rfl, sigV_of hv k2]
        simp only [hrb, if_true]
        exact passAV_sim l hr k3
       ·simp at hs'
      ·simp at hs'
    ·simp at hs'
   ·rename_i q hw
    split at hs'
    ·rename_i tm3 qs3 hr
     simp only [Option.some.injEq, Prod.mk.injEq] at hs'
     obtain ⟨rfl, rfl⟩ := hs'
     obtain ⟨k1, k2⟩ := allP_append.1 hq
     rw [wantV_sound hw k1, if_neg (by simp)]
     exact passAV_sim l hr k2
    ·simp at hs'
theorem segsV_sim {a : List (Nat × Ans)} {g : List (Nat × Bool)} : ∀ (l : List Seg) {h h2 : Heap} {tm tm2 : Tm} {qs : List Prop}, segsV E rec a g lvl ops l h tm = some (h2, tm2, qs) → AllP qs → segsA (sigV E rec a) lvl ops l h tm = some (h2, tm2)
 | [], h, h2, tm, tm2, qs, hs, _ => by
  simp only [segsV, Option.some.injEq, Prod.mk.injEq] at hs
  obtain ⟨rfl, rfl, rfl⟩ := hs
  rfl
 | p :: l, h, h2, tm, tm2, qs, hs, hq => by
  have hs' : (match passAV E rec a g ops h p.a tm with
  | some (tm1, q1) => match passBV E rec a g (lenL h) ops p.b1 h tm1 with
   | some (h2, tm2, q2) => match passBV E rec a g lvl ops p.b2 h2 tm2 with
    | some (h3, tm3, q3) => (match segsV E rec a g lvl ops l h3 tm3 with
     | some (h4, tm4, q4) => some (h4, tm4, q1 ++ (q2 ++ ((aliveLe h h2 = true) :: (q3 ++ q4))))
     | none => none)
    | none => none
   | none => none
  | none => none) = some (h2, tm2, qs) := hs
  show (match passA (sigV E rec a) ops h p.a tm with
   | some tm1 => match passB (sigV E rec a) (lenL h) ops p.b1 h tm1 with
    | some (h2, tm2) => (match aliveLe h h2, passB (sigV E rec a) lvl ops p.b2 h2 tm2 with
     | true, some (h3, tm3) => segsA (sigV E rec a) lvl ops l h3 tm3
     | _, _ => none)
    | none => none
   | none => none) = _
  split at hs'
  ·rename_i tm1 q1 hA
   split at hs'
   ·rename_i h3 tm3 q2 hB1
    split at hs'
    ·rename_i h4 tm4 q3 hB2
     split at hs'
     ·rename_i h5 tm5 q4 hr
      simp only [Option.some.injEq, Prod.mk.injEq] at hs'
      obtain ⟨rfl, rfl, rfl⟩ := hs'
      obtain ⟨k1, k2⟩ := allP_append.1 hq
      obtain ⟨k2, k3⟩ := allP_append.1 k2
      obtain ⟨kal, k3⟩ := k3
      obtain ⟨k3, k4⟩ := allP_append.1 k3
      simp only [passAV_sim _ hA k1, passBV_sim _ hB1 k2, passBV_sim _ hB2 k3, show aliveLe h h3 = true from kal]
      exact segsV_sim l hr k4
     ·simp at hs'
    ·simp at hs'
   ·simp at hs'
  ·simp at hs'
theorem drawV_sim {a : List (Nat × Ans)} {g : List (Nat × Bool)} {h h2 : Heap} {tm tm2 : Tm} {qs : List Prop} (hs : drawV E rec a g lvl ops h tm = some (h2, tm2, qs)) (hq : AllP qs) : drawOps E (sigV E rec a) lvl ops h tm = some (h2, tm2) := by
 unfold drawV at hs
 unfold drawOps
 split at hs
 ·rename_i l hpl
  simp only [hpl]
  exact segsV_sim l hs hq
 ·simp at hs
end
section
variable {E : Env} {rec : RunT} {lvl K : Nat}
theorem M.leK.of_le {base : Nat} {m m' : M} (hK : K ≤ m.n) (h : M.leG base m m') : M.leK base K m m' := ⟨Nat.le_trans hK h.n, fun b hb => h.ρ b (by omega), fun b hb => h.κ b (by omega), h.lo, h.F, h.fresh⟩
theorem M.leK.trans {base : Nat} {a b c : M} (h : M.leK base K a b) (k : M.leK base K b c) : M.leK base K a c := ⟨k.n, fun i hi => (k.ρ i hi).trans (h.ρ i hi), fun i hi => (k.κ i hi).trans (h.κ i hi), k.lo.trans h.lo, fun p hp => k.F p (h.F p hp), fun p hp => (k.fresh p hp).elim (h.fresh p) .inr⟩
theorem RdOk.leK {base : Nat} {m m' : M} {rd : Option Nat} {fr : Frame} (h : RdOk m K rd fr) (hle : M.leK base K m m') : RdOk m' K rd fr := by
 cases rd with
 | none => exact h
 | some b => obtain ⟨h1, h2, h3⟩ := h; exact ⟨h1, by rw [hle.ρ b h1]; exact h2, h3⟩
theorem RdOk.leG {base : Nat} {m m' : M} {rd : Option Nat} {fr : Frame} (h : RdOk m K rd fr) (hK : K ≤ m.n) (hle : M.leG base m m') : RdOk m' K rd fr := h.leK (M.leK.of_le hK hle)
variable {rd : Option Nat}
theorem outK_fell {h : Heap} {tm : Tm} {Φ : Res → Prop} (hp : Φ ⟨.fell, tm, h, []⟩) : OutK E lvl K ⟨h, [], tm⟩ Φ rd := fun fr t cs w m base _ hT H _ hK => ⟨_, hp, t, [], w, m, .refl _ _, hT, H, .of_le hK (M.leG.refl _ m), Below.refl _ _, rfl, by simp⟩
theorem outK_ret {h : Heap} {tm : Tm} {k : List Item} {Φ : Res → Prop} (hp : Φ ⟨.ret, tm, h, []⟩) : OutK E lvl K ⟨h, .code .ret :: k, tm⟩ Φ rd := fun fr t cs w m base _ hT H _ hK => ⟨_, hp, t, _, w, m, .refl _ _, hT, H, .of_le hK (M.leG.refl _ m), Below.refl _ _, ⟨_, rfl⟩, by simp⟩
theorem OutK.before {s s' : St} {r : Res → Prop}
  (h : ∀ (fr : Frame) (t : Array Value) (cs : List Frame) (w : World) (m : M) (base : Nat), TR m s.tm t → HR m base lvl s.heap w → GR E.gl base w →
   ∃ t1 w1 m1, Steps E.P (lone (FR fr t s.todo) cs w) (lone (FR fr t1 s'.todo) cs w1) ∧ TR m1 s'.tm t1 ∧ HR m1 base lvl s'.heap w1 ∧ M.leG base m m1 ∧ Below base w w1)
  (ho : OutK E lvl K s' r rd) : OutK E lvl K s r rd := by
 intro fr t cs w m base hR hT H G hK
 obtain ⟨t1, w1, m1, hst, hT1, H1, hle, hB⟩ := h fr t cs w m base hT H G
 obtain ⟨q, hq, t', todo', w', m', g1, g2, g3, g4, g5, g6⟩ := ho fr t1 cs w1 m1 base (hR.leG hK hle) hT1 H1 (G.below hB) (Nat.le_trans hK hle.n)
 exact ⟨q, hq, t', todo', w', m', Steps.trans hst g1, g2, g3, (M.leK.of_le hK hle).trans g4, hB.trans g5, g6⟩
def Walk (E : Env) (lvl : Nat) (s s' : St) : Prop :=
 ∀ (fr : Frame) (t : Array Value) (cs : List Frame) (w : World) (m : M) (base : Nat), TR m s.tm t → HR m base lvl s.heap w → GR E.gl base w →
   ∃ t1 w1 m1, Steps E.P (lone (FR fr t s.todo) cs w) (lone (FR fr t1 s'.todo) cs w1) ∧ TR m1 s'.tm t1 ∧ HR m1 base lvl s'.heap w1 ∧ M.leG base m m1 ∧ Below base w w1
theorem Walk.refl (s : St) : Walk E lvl s s := fun fr t cs w m base hT H _ => ⟨t, w, m, .refl _ _, hT, H, M.leG.refl _ m, Below.refl _ _⟩
theorem Walk.trans {a b c : St} (h : Walk E lvl a b) (k : Walk E lvl b c) : Walk E lvl a c := by
 intro fr t cs w m base hT H G
 obtain ⟨t1, w1, m1, hst, hT1, H1, hle, hB⟩ := h fr t cs w m base hT H G
 obtain ⟨t2, w2, m2, g1, g2, g3, g4, g5⟩ := k fr t1 cs w1 m1 base hT1 H1 (G.below hB)
 exact ⟨t2, w2, m2, Steps.trans hst g1, g2, g3, hle.trans g4, hB.trans g5⟩
theorem walk_one {h : Heap} {tm : Tm} {todo todo' : List Item} (hst : ∀ (fr : Frame) (t : Array Value) (cs : List Frame) (w : World) (m : M), TR m tm t → step E.P (lone (FR fr t todo) cs w) = .next (lone (FR fr t todo') cs w)) : Walk E lvl ⟨h, todo, tm⟩ ⟨h, todo', tm⟩ :=
 fun fr t cs w m base hT H _ => ⟨t, w, m, .one (hst fr t cs w m hT), hT, H, M.leG.refl _ m, Below.refl _ _⟩
theorem walk_ops {S : StepT} (hS : StepOk E S) {h h1 : Heap} {tm tm1 : Tm} {ops : Array Oper} {id : Nat} {k : List Item} (hso : stepOps S lvl ops ops.toList 0 h tm = some (h1, tm1)) : Walk E lvl ⟨h, .code (.region id ops false) :: k, tm⟩ ⟨h1, k, tm1⟩ := by
 intro fr t cs w m base hT H G
 obtain ⟨t1, w1, m1, hst, hT1, H1, hle1, hB1⟩ := stepOps_sound hS ops ops.toList 0 (by simp) hT H G hso fr cs k
 refine ⟨t1, w1, m1, .head stepF_region ?_, hT1, H1, hle1, hB1⟩
 have e : List.range ops.size = List.range' 0 ops.toList.length := by rw [List.range_eq_range', Array.length_toList]
 rw [e]
 exact hst
theorem walk_draw {S : StepT} (hS : StepOk E S) (hmx : E.P.follows .mixedOrders = true) {h h1 : Heap} {tm tm1 : Tm} {ops : Array Oper} {id : Nat} {k : List Item} (hso : drawOps E S lvl ops h tm = some (h1, tm1)) : Walk E lvl ⟨h, .code (.region id ops true) :: k, tm⟩ ⟨h1, k, tm1⟩ := by
 intro fr t cs w m base hT H G
 have hB0 : Below base w { w with drawn := w.drawn + 1 } := ⟨rfl, rfl, rfl, Nat.le_refl _, fun _ _ => rfl⟩
 have H0 : HR m base lvl h { w with drawn := w.drawn + 1 } := H.world (Nat.le_refl _) fun _ _ => rfl
 obtain ⟨t1, w1, m1, hst, hT1, H1, hle1, hB1⟩ := drawOps_sound hS hmx hT H0 (G.below hB0) hso (w.tape w.drawn (.order fr.fn id)) fr cs k
 exact ⟨t1, w1, m1, .head stepF_regionDraw hst, hT1, H1, hle1, hB0.trans hB1⟩
theorem walk_drawX (hS : StepOk E (stdS E rec)) (hmx : E.P.follows .mixedOrders = true) {h h1 : Heap} {tm tm1 : Tm} {ops : Array Oper} {id : Nat} {k : List Item} (hso : drawX E (stdS E rec) lvl ops h tm = some (h1, tm1)) : Walk E lvl ⟨h, .code (.region id ops true) :: k, tm⟩ ⟨h1, k, tm1⟩ := by
 intro fr t cs w m base hT H G
 have hB0 : Below base w { w with drawn := w.drawn + 1 } := ⟨rfl, rfl, rfl, Nat.le_refl _, fun _ _ => rfl⟩
 have H0 : HR m base lvl h { w with drawn := w.drawn + 1 } := H.world (Nat.le_refl _) fun _ _ => rfl
 obtain ⟨t1, w1, m1, hst, hT1, H1, hle1, hB1⟩ := drawX_sound hS hmx hT H0 (G.below hB0) hso (w.tape w.drawn (.order fr.fn id)) fr cs k
 exact ⟨t1, w1, m1, .head stepF_regionDraw hst, hT1, H1, hle1, hB0.trans hB1⟩
theorem stepS_walk (hE : EnvOk E) (hrec : RecOk E rec) {s s' : St} (hs : stepS E rec lvl s = some s') : Walk E lvl s s' := by
 obtain ⟨h, todo, tm⟩ := s
 have go : ∀ {todo' : List Item}, (∀ (fr : Frame) (t : Array Value) (cs : List Frame) (w : World) (m : M), TR m tm t → step E.P (lone (FR fr t todo) cs w) = .next (lone (FR fr t todo') cs w)) → some (⟨h, todo', tm⟩ : St) = some s' → Walk E lvl ⟨h, todo, tm⟩ s' := by
  intro todo' hst hr
  simp only [Option.some.injEq] at hr
  subst hr
  exact walk_one hst
 unfold stepS at hs
 simp only at hs
 split at hs
 ·exact go (fun _ _ _ _ _ _ => stepF_skip) hs
 ·exact go (fun _ _ _ _ _ _ => stepF_label) hs
 ·exact go (fun _ _ _ _ _ _ => stepF_inBlock) hs
 ·exact go (fun _ _ _ _ _ _ => stepF_inScope) hs
 ·exact go (fun _ _ _ _ _ _ => stepF_seq) hs
 ·rename_i c a b k
  split at hs
  ·rename_i tt hc
   refine go (fun fr t cs w m hT => ?_) hs
   have hv := evA_sound hT c
   rw [hc] at hv
   exact stepF_cond (show evC t c = .bool tt from hv)
  ·simp at hs
 ·exact go (fun _ _ _ _ _ _ => stepF_block) hs
 ·exact go (fun _ _ _ _ _ _ => stepF_loop) hs
 ·exact go (fun _ _ _ _ _ _ => stepF_inLoop) hs
 ·exact go (fun _ _ _ _ _ _ => stepF_scope) hs
 ·rename_i id k
  split at hs
  ·rename_i k' hk
   exact go (fun _ _ _ _ _ _ => stepF_exit hk) hs
  ·simp at hs
 ·rename_i id ops draw k
  cases draw with
  | false =>
   simp only [Bool.false_eq_true, if_false] at hs
   split at hs
   ·rename_i h1 tm1 hso
    simp only [Option.some.injEq] at hs
    subst hs
    exact walk_ops (stdS_ok hE hrec) hso
   ·simp at hs
  | true =>
   simp only [if_true] at hs
   split at hs
   ·rename_i h1 tm1 hso
    simp only [Option.some.injEq] at hs
    subst hs
    exact walk_drawX (stdS_ok hE hrec) hE.mixed hso
   ·simp at hs
 ·simp at hs
theorem stepsS_walk (hE : EnvOk E) (hrec : RecOk E rec) : ∀ (n : Nat) {s s' : St}, stepsS E rec lvl n s = some s' → Walk E lvl s s'
 | 0, s, s', h => by
  have h' : some s = some s' := h
  simp only [Option.some.injEq] at h'
  subst h'; exact .refl s
 | n + 1, s, s', h => by
  have h' : (match stepS E rec lvl s with | some s1 => stepsS E rec lvl n s1 | none => none) = some s' := h
  split at h'
  ·rename_i s1 hs1
   exact (stepS_walk hE hrec hs1).trans (stepsS_walk hE hrec n h')
  ·simp at h'
theorem stepV_walk (hE : EnvOk E) (hrec : RecOk E rec) {a : SAns} {s s' : St} {ps : List Prop} (hs : stepV E rec lvl a s = some (s', ps)) (hp : AllP ps) : Walk E lvl s s' := by
 obtain ⟨h, todo, tm⟩ := s
 unfold stepV at hs
 simp only at hs
 split at hs
 ·split at hs
  ·rename_i n s1 hs1
   simp only [Option.some.injEq, Prod.mk.injEq] at hs
   obtain ⟨rfl, rfl⟩ := hs
   exact stepsS_walk hE hrec _ hs1
  ·simp at hs
 ·split at hs
  ·rename_i b _ c x y k
   split at hs
   ·rename_i t hc
    simp only [Option.some.injEq, Prod.mk.injEq] at hs
    obtain ⟨rfl, rfl⟩ := hs
    obtain ⟨rfl, _⟩ : t = b ∧ True := hp
    refine walk_one fun fr tt cs w m hT => ?_
    have hv := evA_sound hT c
    rw [hc] at hv
    have := stepF_cond (P := E.P) (fr := fr) (cs := cs) (w := w) (k := k) (a := x) (b := y) (show evC tt c = .bool t from hv)
    rw [this]
    cases t <;> rfl
   ·simp at hs
  ·simp at hs
 ·split at hs
  ·rename_i l g _ id ops draw k
   split at hs
   ·rename_i h1 tm1 ps1 hr
    simp only [Option.some.injEq, Prod.mk.injEq] at hs
    obtain ⟨rfl, rfl⟩ := hs
    cases draw with
    | true => exact walk_draw (sigV_ok hE hrec l) hE.mixed (drawV_sim hr hp)
    | false => exact walk_ops (sigV_ok hE hrec l) (opsV_sim _ _ hr hp)
   ·simp at hs
  ·simp at hs
theorem chainV_walk (hE : EnvOk E) (hrec : RecOk E rec) : ∀ (l : List SAns) {s s' : St} {ps : List Prop}, chainV E rec lvl l s = some (s', ps) → AllP ps → Walk E lvl s s'
 | [], s, s', ps, h, _ => by
  simp only [chainV, Option.some.injEq, Prod.mk.injEq] at h
  obtain ⟨rfl, rfl⟩ := h
  exact .refl s
 | a :: l, s, s', ps, h, hp => by
  have h' : (match stepV E rec lvl a s with
   | some (s1, ps) => (match chainV E rec lvl l s1 with
    | some (s2, qs) => some (s2, ps ++ qs)
    | none => none)
   | none => none) = some (s', ps) := h
  split at h'
  ·rename_i s1 p1 hs1
   split at h'
   ·rename_i s2 q2 hs2
    simp only [Option.some.injEq, Prod.mk.injEq] at h'
    obtain ⟨rfl, rfl⟩ := h'
    obtain ⟨k1, k2⟩ := allP_append.1 hp
    exact (stepV_walk hE hrec hs1 k1).trans (chainV_walk hE hrec l hs2 k2)
   ·simp at h'
  ·simp at h'
theorem outK_chain (hE : EnvOk E) (hrec : RecOk E rec) (l : List SAns) {s s' : St} {ps : List Prop} {r : Res → Prop} (h : chainV E rec lvl l s = some (s', ps)) (hp : AllP ps) (ho : OutK E lvl K s' r rd) : OutK E lvl K s r rd :=
 .before (chainV_walk hE hrec l h hp) ho
end
end
end Go.Ev
end
section
namespace Go.Ev
open Go.RowKit
noncomputable section
def forgetT (ks : List Nat) (j : Nat → Value) (tm : Tm) : Nat → Tm :=
 List.rec (motive := fun _ => Nat → Tm) (fun _ => []) (fun x _ ih i => (if memN ks i then x else .e (.one (.v (j i)))) :: ih (Nat.succ i)) tm
variable {E : Env} {rec : RunT} {lvl K : Nat} {r : Res → Prop} {rd : Option Nat}
theorem forgetT_sound {m : M} {ks : List Nat} {t : Array Value} : ∀ (tm : Tm) (i : Nat), (∀ k a, tm[k]? = some a → VR m a (t.getD (i + k) undef)) → ∀ k a, (forgetT ks (fun i => t.getD i undef) tm i)[k]? = some a → VR m a (t.getD (i + k) undef)
 | [], i, _, k, a, h => by simp [forgetT] at h
 | x :: tm, i, hT, k, a, h => by
  have h' : ((if memN ks i then x else .e (.one (.v (t.getD i undef)))) :: forgetT ks (fun i => t.getD i undef) tm (i + 1))[k]? = some a := h
  cases k with
  | zero =>
   simp only [List.getElem?_cons_zero, Option.some.injEq] at h'
   subst h'
   split
   ·exact hT 0 x rfl
   ·exact rfl
  | succ k =>
   simp only [List.getElem?_cons_succ] at h'
   have := forgetT_sound tm (i + 1) (fun k a h => by have := hT (k + 1) a h; rwa [show i + 1 + k = i + (k + 1) by omega]) k a h'
   rwa [show i + 1 + k = i + (k + 1) by omega] at this
theorem forgetT_length (ks : List Nat) (j : Nat → Value) : ∀ (tm : Tm) (i : Nat), (forgetT ks j tm i).length = tm.length
 | [], _ => rfl
 | _ :: tm, i => by show (forgetT ks j tm (i + 1)).length + 1 = _; rw [forgetT_length]; rfl
theorem TR.forget {m : M} {tm : Tm} {t : Array Value} (hT : TR m tm t) (ks : List Nat) : TR m (forgetT ks (fun i => t.getD i undef) tm 0) t := by
 have hl := hT.length
 refine All2.of_get (by rw [forgetT_length]; exact hl) fun i a b ha hb => ?_
 have := forgetT_sound (m := m) (ks := ks) (t := t) tm 0 (fun k a h => by
  obtain ⟨y, hy, hr⟩ := hT.get h
  have : t.getD (0 + k) undef = y := by
   rw [Nat.zero_add, Array.getD_eq_getD_getElem?]
   simp only [Array.getElem?_toList] at hy
   rw [hy]; rfl
  rw [this]; exact hr) i a ha
 have e : t.getD (0 + i) undef = b := by
  rw [Nat.zero_add, Array.getD_eq_getD_getElem?]
  simp only [Array.getElem?_toList] at hb
  rw [hb]; rfl
 rwa [e] at this
theorem outK_forget (ks : List Nat) {h : Heap} {todo : List Item} {tm : Tm} (ho : ∀ j : Nat → Value, OutK E lvl K ⟨h, todo, forgetT ks j tm 0⟩ r rd) : OutK E lvl K ⟨h, todo, tm⟩ r rd :=
 fun fr t cs w m base hR hT H G hK => ho (fun i => t.getD i undef) fr t cs w m base hR (TR.forget hT ks) H G hK
theorem outK_gc (e : List Nat) {h h' : Heap} {todo : List Item} {tm tm' : Tm} (hlK : lvl ≤ K) (hok : selOk e (lenL h) K (lenL h') h' = true)
  (h2 : e.map (getL h) = h'.map (fun b => some (b.map (AB.ren (nthE e (lenL h) (lenL e)))))) (h1 : tm'.map (AV.ren (nthE e (lenL h) (lenL e))) = tm)
  (ho : OutK E lvl K ⟨h', todo, tm'⟩ r rd) : OutK E lvl K ⟨h, todo, tm⟩ r rd := by
 intro fr t cs w m base hR hT H G hK
 obtain ⟨m2, H2, hle, hn, hρ, hκ, hback, hmF⟩ := H.sel' hlK hok h2
 simp only [lenL_eq] at h1
 have hT2 : TR m2 tm' t := by
  have hT' : All2 (VR m) tm t.toList := hT
  rw [← h1] at hT'
  refine all2_unren (fun a _ y hy => VR.unren (by rw [hmF]; exact fun _ hp => hp) hn hρ hκ (fun b hb => hback b (VR.refs_lt hy _ ?_)) hy) hT'
  rw [AV.refs_ren]
  exact List.mem_map_of_mem hb
 obtain ⟨q, hq, t', todo', w', m', g1, g2, g3, g4, g5, g6⟩ := ho fr t cs w m2 base (hR.leK hle) hT2 H2 G hle.n
 exact ⟨q, hq, t', todo', w', m', g1, g2, g3, hle.trans g4, g5, g6⟩
theorem outK_gcF (e : List Nat) (fl : List Bool) {h h' : Heap} {todo : List Item} {tm tm' : Tm} (hlK : lvl ≤ K) (hok : (selOk e (lenL h) K (lenL h') h' && Nat.beq (lenL fl) (lenL h')) = true)
  (h2 : e.map (getL h) = renFl (nthE e (lenL h) (lenL e)) fl h') (hf : flatP fl h') (h1 : tm'.map (AV.ren (nthE e (lenL h) (lenL e))) = tm)
  (ho : OutK E lvl K ⟨h', todo, tm'⟩ r rd) : OutK E lvl K ⟨h, todo, tm⟩ r rd := by
 rw [Bool.and_eq_true] at hok
 have hl := Nat.eq_of_beq_eq_true hok.2
 rw [lenL_eq, lenL_eq] at hl
 rw [renFl_eq _ hl hf] at h2
 exact outK_gc e hlK hok.1 h2 h1 ho
def Ends (E : Env) (fn : Func) (v : AV) (hout : Heap) (r : Res) : Prop := fellOrRet r.jump = true ∧ r.marks = [] ∧ r.heap = hout ∧ resultsA E fn r.tm hout = some v
theorem cOut_of {f : FuncId} {fn : Func} {c : Code} (hf : E.P.funcs[f]? = some fn) (hc : fn.body = some c) {lvl : Nat} {hin : Heap} {args : List AV} {hout : Heap} {v : AV}
  (ho : OutK E lvl hin.length ⟨hin, [.code c], appL args (List.replicate (fn.ntmps - lenL args) (.tup []))⟩ (Ends E fn v hout)) : COut E lvl hin f args v hout := by
 intro m base w argsC ha H G
 classical
 have hbody : ∀ cs : List Frame, True := fun _ => trivial
 intro cs
 let fr0 : Frame := Frame.enter E.P f argsC .normal
 have hT : TR m (appL args (List.replicate (fn.ntmps - lenL args) (.tup []))) (argsC ++ Array.replicate (fn.ntmps - argsC.size) undef) := by
  unfold TR
  rw [appL_eq, lenL_eq, Array.toList_append, Array.toList_replicate]
  have hl : args.length = argsC.size := by have := ha.length; simpa using this
  rw [hl]
  exact ha.append (all2_undef m _)
 have he : fr0 = FR fr0 (argsC ++ Array.replicate (fn.ntmps - argsC.size) undef) [.code c] := by
  simp [fr0, Frame.enter, FR, hf, hc]
 have hround : fr0.roundOf = none := rfl
 obtain ⟨r, ⟨hj, hm, hh, hv⟩, t', todo', w1, m', hst, hT', H', hle, hB, hend, _⟩ := ho fr0 _ cs w m base hround hT H G (by rw [H.n]; exact Nat.le_refl _)
 have hd0 : fr0.defers = [] := rfl
 rw [hd0, hm] at hst
 have hmk : marksC m' [] ++ [] = fr0.defers := rfl
 rw [hmk] at hst
 have hfr : ({ fr0 with defers := fr0.defers } : Frame) = fr0 := rfl
 rw [hfr] at hst
 have fin : ∃ todo'', Steps E.P (lone (FR fr0 t' todo') cs w1) (lone { FR fr0 t' todo'' with mode := .returning } cs w1) := by
  cases hjj : r.jump with
  | fell =>
   rw [hjj] at hend
   have : todo' = [] := hend
   subst this
   exact ⟨[], .one (stepF_end hround)⟩
  | ret =>
   rw [hjj] at hend
   obtain ⟨k, rfl⟩ := hend
   exact ⟨.code .ret :: k, .one (stepF_ret hround)⟩
  | exit id => rw [hjj] at hj; simp [fellOrRet] at hj
 obtain ⟨todo'', hfin⟩ := fin
 obtain ⟨y, hy, hvr⟩ := resultsA_sound (E := E) hT' H' (G.below hB) (by rw [hh]; exact hv)
 have hmn := H.n
 rw [hh] at H'
 refine ⟨.returned y, w1, { FR fr0 t' todo'' with mode := .returning }, ⟨y, rfl, m', ⟨by rw [hmn]; exact hle.n, fun b hb => hle.ρ b (by omega), fun b hb => hle.κ b (by omega), hle.lo, hle.F, hle.fresh⟩, hvr, H', hB⟩, ?_, rfl, ?_⟩
 ·show Steps E.P (lone fr0 cs w) _
  rw [he]
  exact Steps.trans hst hfin
 ·exact ⟨rfl, rfl, rfl, fn, hf, hy⟩
theorem cOut_gc {f : FuncId} {lvl : Nat} {hin : Heap} {args : List AV} {v v' : AV} {h h' : Heap} (e : List Nat) (hlK : lvl ≤ hin.length) (hc : COut E lvl hin f args v h) (hok : selOk e (lenL h) hin.length (lenL h') h' = true)
  (h2 : e.map (getL h) = h'.map (fun b => some (b.map (AB.ren (nthE e (lenL h) (lenL e)))))) (h1 : v'.ren (nthE e (lenL h) (lenL e)) = v) : COut E lvl hin f args v' h' := by
 intro m base w argsC ha H G
 refine (hc m base w argsC ha H G).mono fun en w' ⟨y, hy, m1, hp⟩ => ⟨y, hy, ?_⟩
 obtain ⟨m2, H2, hle, hn, hρ, hκ, hback, hmF⟩ := hp.heap.sel' hlK hok h2
 simp only [lenL_eq] at h1
 have hmn := H.n
 refine ⟨m2, ⟨by rw [hmn]; exact hle.n, fun b hb => by rw [hle.ρ b (by omega), hp.le.ρ b hb], fun b hb => by rw [hle.κ b (by omega), hp.le.κ b hb], hle.lo.trans hp.le.lo, fun p h0 => hle.F p (hp.le.F p h0), fun p h0 => (hle.fresh p h0).elim (hp.le.fresh p) .inr⟩, ?_, H2, hp.below⟩
 have hval := hp.val
 rw [← h1] at hval
 refine VR.unren (by rw [hmF]; exact fun _ hp => hp) hn hρ hκ (fun b hb => hback b (VR.refs_lt hval _ ?_)) hval
 rw [AV.refs_ren]
 exact List.mem_map_of_mem hb
theorem cOut_gcF {f : FuncId} {lvl : Nat} {hin : Heap} {args : List AV} {v v' : AV} {h h' : Heap} (e : List Nat) (fl : List Bool) (hlK : lvl ≤ hin.length) (hc : COut E lvl hin f args v h) (hok : (selOk e (lenL h) hin.length (lenL h') h' && Nat.beq (lenL fl) (lenL h')) = true)
  (h2 : e.map (getL h) = renFl (nthE e (lenL h) (lenL e)) fl h') (hf : flatP fl h') (h1 : v'.ren (nthE e (lenL h) (lenL e)) = v) : COut E lvl hin f args v' h' := by
 rw [Bool.and_eq_true] at hok
 have hl := Nat.eq_of_beq_eq_true hok.2
 rw [lenL_eq, lenL_eq] at hl
 rw [renFl_eq _ hl hf] at h2
 exact cOut_gc e hlK hc hok.1 h2 h1
end
end Go.Ev
end
section
namespace Go.Ev
open Go.RowKit
noncomputable section
def sub1 (i : Nat) : Code → Code
 | .seq a b => Nat.rec (motive := fun _ => Code) a (fun _ _ => b) i
 | .cond _ a b => Nat.rec (motive := fun _ => Code) a (fun _ _ => b) i
 | .block _ a => a
 | .loop a => a
 | .scope a => a
 | .rangeFunc _ _ a b => Nat.rec (motive := fun _ => Code) a (fun _ _ => b) i
 | c => c
def atC (p : List Nat) : Code → Code := List.rec (motive := fun _ => Code → Code) (fun c => c) (fun i _ ih c => ih (sub1 i c)) p
def bodyOf (f : Func) : Code := match f.body with | some c => c | none => .skip
def lookT (l : List (Nat × AV)) (i : Nat) : Option AV := List.rec (motive := fun _ => Option AV) none (fun p _ ih => if Nat.beq p.1 i then some p.2 else ih) l
def mkT (j : Nat → Value) (l : List (Nat × AV)) (n : Nat) : Nat → Tm :=
 Nat.rec (motive := fun _ => Nat → Tm) (fun _ => []) (fun _ ih i => (match lookT l i with | some x => x | none => .e (.one (.v (j i)))) :: ih (Nat.succ i)) n
abbrev iI (n : Int) : AV := .e (.one (.v (.int .i64 n)))
abbrev iB (b : Bool) : AV := .e (.one (.v (.bool b)))
variable {E : Env} {rec : RunT} {lvl K : Nat} {r : Res → Prop} {rd : Option Nat}
def segV (E : Env) (rec : RunT) (lvl : Nat) (l : List SAns) (ks : List Nat) (j : Nat → Value) (s : St) : Option (St × List Prop) :=
 match chainV E rec lvl l s with
 | some (s1, ps) => some (⟨s1.heap, s1.todo, forgetT ks j s1.tm 0⟩, ps)
 | none => none
theorem outK_seg (hE : EnvOk E) (hrec : RecOk E rec) (l : List SAns) (ks : List Nat) {s : St} {s' : (Nat → Value) → St} {ps : List Prop} (h : ∀ j, segV E rec lvl l ks j s = some (s' j, ps)) (hp : AllP ps) (ho : ∀ j, OutK E lvl K (s' j) r rd) : OutK E lvl K s r rd := by
 cases hc : chainV E rec lvl l s with
 | none => have := h (fun _ => undef); simp [segV, hc] at this
 | some p =>
  obtain ⟨⟨h1, t1, tm1⟩, qs⟩ := p
  have hq : qs = ps := by have := h (fun _ => undef); simp [segV, hc] at this; exact this.2
  subst hq
  refine outK_chain hE hrec l hc hp (outK_forget ks fun j => ?_)
  have := h j
  simp only [segV, hc, Option.some.injEq, Prod.mk.injEq] at this
  rw [this.1]
  exact ho j
def startK (f : Func) (hin : Heap) (args : List AV) : St := ⟨hin, [.code (bodyOf f)], appL args (List.replicate (f.ntmps - lenL args) (.tup []))⟩
theorem cOut_start {f : FuncId} {fn : Func} (hf : E.P.funcs[f]? = some fn) (hb : fn.body.isSome = true) {hin hout : Heap} {args : List AV} {v : AV} (ho : OutK E lvl (lenL hin) (startK fn hin args) (Ends E fn v hout)) : COut E lvl hin f args v hout := by
 cases hc : fn.body with
 | none => rw [hc] at hb; simp at hb
 | some c =>
  have e : bodyOf fn = c := by simp [bodyOf, hc]
  rw [lenL_eq] at ho
  unfold startK at ho
  rw [e] at ho
  exact cOut_of hf hc ho
theorem OpqC.ren {K : Nat} {x : AC} (h : OpqC K x) {f : Nat → Nat} (hf : ∀ b, b < K → f b = b) : x.ren f = x := by
 cases x with
 | v _ => rfl
 | ptr b o => simp only [AC.ren]; rw [hf b (h b (by simp [AC.refs]))]
 | slc b o len sz cap ex => simp only [AC.ren]; rw [hf b (h b (by simp [AC.refs]))]
 | yld b => simp only [AC.ren]; rw [hf b (h b (by simp [AC.refs]))]
 | mp b => simp only [AC.ren]; rw [hf b (h b (by simp [AC.refs]))]
 | dp _ => rfl
 | any _ => rfl
 | clo g fs cs =>
  simp only [AC.ren]
  rw [CE.ren_fix fun b hb => hf b (h b (List.mem_append_left _ hb)), CE.ren_fix fun b hb => hf b (h b (List.mem_append_right _ hb))]
theorem ends_ret {fn : Func} {tm : Tm} {h : Heap} {v : AV} (hv : resultsA E fn tm h = some v) : Ends E fn v h ⟨.ret, tm, h, []⟩ := ⟨rfl, rfl, rfl, hv⟩
theorem ends_fell {fn : Func} {tm : Tm} {h : Heap} {v : AV} (hv : resultsA E fn tm h = some v) : Ends E fn v h ⟨.fell, tm, h, []⟩ := ⟨rfl, rfl, rfl, hv⟩
end
end Go.Ev
end
section
namespace Go.Ev
open Go.RowKit
noncomputable section
def posL (l : List Nat) (j : Nat) : Nat := List.rec (motive := fun _ => Nat) 0 (fun a _ ih => if Nat.beq a j then 0 else Nat.succ ih) l
def virtEdges (π : List Nat) (X : List (Nat × Nat)) (j : Nat) (es : List Edge) : List Edge :=
 (es.filter bindsB).map (fun e => Edge.mk (posL π e.on) .data) ++ (X.filter fun p : Nat × Nat => Nat.beq p.2 j).map fun p : Nat × Nat => Edge.mk (posL π p.1) .data
def virtOps (π : List Nat) (X : List (Nat × Nat)) (ops : Array Oper) : Array Oper :=
 (π.map fun j => match ops[j]? with
  | some o => { o with after := (virtEdges π X j o.after.toList).toArray, guard := none }
  | none => { dst := none, op := .move (.const undef), type := 0, pos := "", after := #[], guard := none }).toArray
def okVirt (π : List Nat) (ops : Array Oper) : Bool :=
 Nat.beq (lenL π) (lenL ops.toList) && (List.range (lenL π)).all (fun k => Nat.beq (posL π (getD0 π k)) k && Nat.blt (getD0 π k) (lenL π)) && (List.range (lenL π)).all (fun j => Nat.beq (getD0 π (posL π j)) j && Nat.blt (posL π j) (lenL π)) &&
  (List.range (lenL π)).all (fun i => match ops[i]? with
   | some o => (match o.guard with | none => true | some _ => false) && o.after.toList.all fun e => !bindsB e || Nat.blt e.on i
   | none => false)
structure VirtOk (π : List Nat) (ops : Array Oper) : Prop where
 len : π.length = ops.size
 back : ∀ k, k < ops.size → posL π (getD0 π k) = k ∧ getD0 π k < ops.size
 forth : ∀ j, j < ops.size → getD0 π (posL π j) = j ∧ posL π j < ops.size
 free : ∀ (i : Nat) (o : Oper), ops[i]? = some o → o.guard = none ∧ ∀ e ∈ o.after, bindsB e = true → e.on < i
theorem okVirt_spec {π : List Nat} {ops : Array Oper} (h : okVirt π ops = true) : VirtOk π ops := by
 simp only [okVirt, Bool.and_eq_true, List.all_eq_true, lenL_eq] at h
 obtain ⟨⟨⟨h1, h2⟩, h3⟩, h4⟩ := h
 have h1 := Nat.eq_of_beq_eq_true h1
 have hl : π.length = ops.size := by simpa using h1
 rw [hl] at h2 h3 h4
 refine ⟨hl, fun k hk => ?_, fun j hj => ?_, fun i o ho => ?_⟩
 ·obtain ⟨a, b⟩ := h2 k (List.mem_range.2 hk)
  exact ⟨Nat.eq_of_beq_eq_true a, by simpa [Nat.blt_eq] using b⟩
 ·obtain ⟨a, b⟩ := h3 j (List.mem_range.2 hj)
  exact ⟨Nat.eq_of_beq_eq_true a, by simpa [Nat.blt_eq] using b⟩
 ·have hi := (Array.getElem?_eq_some_iff.1 ho).1
  have := h4 i (List.mem_range.2 hi)
  rw [ho] at this
  simp only [Bool.and_eq_true, List.all_eq_true, Bool.or_eq_true, Bool.not_eq_true', Nat.blt_eq] at this
  obtain ⟨a, b⟩ := this
  refine ⟨?_, fun e he hb => ?_⟩
  ·split at a
   ·assumption
   ·simp at a
  ·rcases b e (by simpa using he) with h | h
   ·rw [hb] at h; simp at h
   ·exact h
theorem getD0_get {π : List Nat} {k : Nat} (h : k < π.length) : π[k]? = some (getD0 π k) := by
 rw [getD0_eq, List.getD_eq_getElem?_getD, List.getElem?_eq_getElem h]; rfl
theorem virt_get {π : List Nat} {X : List (Nat × Nat)} {ops : Array Oper} (hv : VirtOk π ops) {k : Nat} {o : Oper} (ho : (virtOps π X ops)[k]? = some o) : ∃ o0, k < ops.size ∧ ops[getD0 π k]? = some o0 ∧
  o = { o0 with after := (virtEdges π X (getD0 π k) o0.after.toList).toArray, guard := none } := by
 have hk : k < π.length := by
  have := (Array.getElem?_eq_some_iff.1 ho).1
  simpa [virtOps] using this
 have hk' : k < ops.size := by rw [← hv.len]; exact hk
 obtain ⟨_, hlt⟩ := hv.back k hk'
 refine ⟨ops[getD0 π k], hk', Array.getElem?_eq_getElem hlt, ?_⟩
 simp only [virtOps, List.getElem?_toArray, List.getElem?_map, getD0_get hk, Option.map_some, Array.getElem?_eq_getElem hlt, Option.some.injEq] at ho
 exact ho.symm
theorem virt_virt {π : List Nat} {X : List (Nat × Nat)} {ops : Array Oper} (hv : VirtOk π ops) : Virt (virtOps π X ops) ops (getD0 π) := fun k o ho => by
 obtain ⟨o0, _, h1, rfl⟩ := virt_get hv ho
 refine ⟨o0.after, o0.guard, h1, fun t => ?_⟩
 have hg := (hv.free _ o0 h1).1
 simp [Region.wanted, hg]
def RespL (X : List (Nat × Nat)) : Array Bool → List Nat → Prop
 | _, [] => True
 | listed, j :: l => (∀ p ∈ X, p.2 = j → listed.getD p.1 false = true) ∧ RespL X (listed.setIfInBounds j true) l
theorem resp_done {a b : Nat} : ∀ (l : List Nat) (listed : Array Bool), listed.getD a false = true → RespL [(a, b)] listed l
 | [], _, _ => trivial
 | j :: l, listed, h => ⟨fun p hp _ => by rw [List.mem_singleton.1 hp]; exact h, resp_done l _ (by
   by_cases hj : j < listed.size
   ·exact (set_listed hj).2 (.inr h)
   ·rw [Array.setIfInBounds_eq_of_size_le (by omega)]; exact h)⟩
theorem resp_either {ops : Array Oper} {a b : Nat} (hab : a ≠ b) : ∀ (l : List Nat) (listed : Array Bool), listed.size = ops.size → ValidL ops listed l → RespL [(a, b)] listed l ∨ RespL [(b, a)] listed l
 | [], _, _, _ => .inl trivial
 | j :: l, listed, hs, hv => by
  have hj : j < listed.size := by
   obtain ⟨_, o, h2, _⟩ := mem_ready.1 hv.1
   rw [hs]; exact (Array.getElem?_eq_some_iff.1 h2).1
  by_cases h1 : j = a
  ·subst h1
   exact .inl ⟨fun p hp he => by rw [List.mem_singleton.1 hp] at he; exact absurd he.symm hab, resp_done l _ ((set_listed hj).2 (.inl rfl))⟩
  ·by_cases h2 : j = b
   ·subst h2
    exact .inr ⟨fun p hp he => by rw [List.mem_singleton.1 hp] at he; exact absurd he hab, resp_done l _ ((set_listed hj).2 (.inl rfl))⟩
   ·rcases resp_either hab l (listed.setIfInBounds j true) (by simpa using hs) hv.2 with h | h
    ·exact .inl ⟨fun p hp he => by rw [List.mem_singleton.1 hp] at he; exact absurd he.symm h2, h⟩
    ·exact .inr ⟨fun p hp he => by rw [List.mem_singleton.1 hp] at he; exact absurd he.symm h1, h⟩
theorem resp_cons {p : Nat × Nat} {X : List (Nat × Nat)} : ∀ (l : List Nat) (listed : Array Bool), RespL [p] listed l → RespL X listed l → RespL (p :: X) listed l
 | [], _, _, _ => trivial
 | _ :: l, _, h1, h2 => ⟨fun q hq he => by
   rcases List.mem_cons.1 hq with rfl | hq
   ·exact h1.1 q (List.mem_singleton.2 rfl) he
   ·exact h2.1 q hq he, resp_cons l _ h1.2 h2.2⟩
theorem resp_nil : ∀ (l : List Nat) (listed : Array Bool), RespL [] listed l
 | [], _ => trivial
 | _ :: l, _ => ⟨fun _ hq => by simp at hq, resp_nil l _⟩
theorem ready_nil_all {ops : Array Oper} (hfree : ∀ (i : Nat) (o : Oper), ops[i]? = some o → ∀ e ∈ o.after, bindsB e = true → e.on < i) {listed : Array Bool} (hs : listed.size = ops.size) (h : Region.ready .any ops listed = []) : ∀ i, i < ops.size → listed.getD i false = true := by
 intro i
 induction i using Nat.strongRecOn with
 | _ i ih =>
  intro hi
  cases hl : listed.getD i false with
  | true => rfl
  | false =>
   exfalso
   have hl' : listed.getD i true = false := by
    have hb : i < listed.size := by omega
    simp [hb] at hl ⊢
    exact hl
   have : i ∈ Region.ready .any ops listed := mem_ready.2 ⟨hl', ops[i], Array.getElem?_eq_getElem hi, fun e he hb => by
    rw [binds_any] at hb
    have hlt := hfree i ops[i] (Array.getElem?_eq_getElem hi) e he hb
    exact ih e.on hlt (by omega)⟩
   rw [h] at this
   simp at this
theorem valid_virt {π : List Nat} {X : List (Nat × Nat)} {ops : Array Oper} (hv : VirtOk π ops) (hX : ∀ p ∈ X, p.1 < ops.size) : ∀ (l : List Nat) (l0 l1 : Array Bool), l0.size = ops.size → l1.size = ops.size → (∀ j, j < ops.size → l1.getD (posL π j) false = l0.getD j false) →
  ValidL ops l0 l → RespL X l0 l → ∃ l', l = l'.map (getD0 π) ∧ ValidL (virtOps π X ops) l1 l'
 | [], l0, l1, hs0, hs1, he, hl, _ => by
  refine ⟨[], rfl, ?_⟩
  have hall := ready_nil_all (fun i o ho => (hv.free i o ho).2) hs0 hl
  apply List.eq_nil_iff_forall_not_mem.2
  intro k hk
  obtain ⟨h1, o, h2, _⟩ := mem_ready.1 hk
  obtain ⟨_, hk', _, _⟩ := virt_get hv h2
  obtain ⟨b1, b2⟩ := hv.back k hk'
  have := he _ b2
  rw [b1, hall _ b2] at this
  have hb : k < l1.size := by omega
  simp [hb] at h1 this
  rw [h1] at this
  simp at this
 | j :: l, l0, l1, hs0, hs1, he, hl, hr => by
  obtain ⟨hm, hl⟩ := hl
  obtain ⟨hr1, hr⟩ := hr
  obtain ⟨h1, o, h2, h3⟩ := mem_ready.1 hm
  have hj := (Array.getElem?_eq_some_iff.1 h2).1
  obtain ⟨f1, f2⟩ := hv.forth j hj
  have hset : ∀ i, i < ops.size → (l1.setIfInBounds (posL π j) true).getD (posL π i) false = (l0.setIfInBounds j true).getD i false := fun i hi => by
   by_cases hij : i = j
   ·subst hij
    rw [(set_listed (by omega)).2 (.inl rfl), (set_listed (by omega)).2 (.inl rfl)]
   ·have : posL π i ≠ posL π j := fun e => hij (by rw [← (hv.forth i hi).1, e, f1])
    rw [set_unlisted this, set_unlisted hij]
    exact he i hi
  obtain ⟨l', hl1, hl2⟩ := valid_virt hv hX l (l0.setIfInBounds j true) (l1.setIfInBounds (posL π j) true) (by simpa using hs0) (by simpa using hs1) hset hl hr
  refine ⟨posL π j :: l', by simp only [List.map_cons, f1, hl1], mem_ready.2 ⟨?_, ?_⟩, hl2⟩
  ·have := he j hj
   have hb : posL π j < l1.size := by omega
   have hb0 : j < l0.size := by omega
   simp [hb, hb0] at this h1 ⊢
   rw [this]; exact h1
  ·have hsz : posL π j < (virtOps π X ops).size := by simp [virtOps, hv.len]; exact f2
   refine ⟨(virtOps π X ops)[posL π j], Array.getElem?_eq_getElem hsz, fun e hmem hb => ?_⟩
   obtain ⟨o0, _, g1, g2⟩ := virt_get (X := X) hv (Array.getElem?_eq_getElem hsz)
   rw [f1, h2] at g1
   cases g1
   rw [g2] at hmem
   simp only [virtEdges, f1, List.mem_toArray, List.mem_append, List.mem_map, List.mem_filter, Array.mem_toList_iff] at hmem
   rcases hmem with ⟨e0, ⟨k1, k2⟩, rfl⟩ | ⟨p, ⟨k1, k2⟩, rfl⟩
   ·have hlt := (hv.free j o h2).2 e0 k1 k2
    show l1.getD (posL π e0.on) false = true
    rw [he e0.on (by omega)]
    exact h3 e0 k1 (by rw [binds_any]; exact k2)
   ·show l1.getD (posL π p.1) false = true
    rw [he p.1 (hX p k1)]
    exact hr1 p k1 (Nat.eq_of_beq_eq_true k2)
end
end Go.Ev
end
section
namespace Go.Ev
open Go.RowKit
noncomputable section
variable {E : Env} {rec : RunT} {lvl K : Nat} {r : Res → Prop}
def OutR (E : Env) (lvl K : Nat) (ops : Array Oper) (X : List (Nat × Nat)) (h : Heap) (todo : List Item) (tm : Tm) (r : Res → Prop) : Prop :=
 ∀ (fr : Frame) (t : Array Value) (cs : List Frame) (w : World) (m : M) (base : Nat) (L : List Nat), RdOk m K none fr → TR m tm t → HR m base lvl h w → GR E.gl base w → K ≤ m.n → ValidL ops (Array.replicate ops.size false) L → RespL X (Array.replicate ops.size false) L →
  ∃ q, r q ∧ ∃ t' todo' w' m', Steps E.P (lone (FR fr t (.inRegion ops L :: todo)) cs w) (lone (FR { fr with defers := marksC m' q.marks ++ fr.defers } t' todo') cs w') ∧ TR m' q.tm t' ∧ HR m' base lvl q.heap w' ∧ M.leK base K m m' ∧ Below base w w' ∧ EndOk q.jump todo' ∧ ∀ b ∈ q.marks, b < m'.n
theorem outR_leaf (hE : EnvOk E) (hrec : RecOk E rec) {ops : Array Oper} {X : List (Nat × Nat)} (π : List Nat) (a : List (Nat × Ans)) (g : List (Nat × Bool)) {h h1 : Heap} {tm tm1 : Tm} {ps : List Prop} (hok : (okVirt π ops && X.all fun p => Nat.blt p.1 (lenL ops.toList)) = true)
  (hd : drawV E rec a g lvl (virtOps π X ops) h tm = some (h1, tm1, ps)) (hp : AllP ps) {todo : List Item} (ho : OutK E lvl K ⟨h1, todo, tm1⟩ r) : OutR E lvl K ops X h todo tm r := by
 simp only [Bool.and_eq_true, List.all_eq_true, lenL_eq, Nat.blt_eq] at hok
 have hv := okVirt_spec hok.1
 have hX : ∀ p ∈ X, p.1 < ops.size := fun p hp => by simpa using hok.2 p hp
 intro fr t cs w m base L hR hT H G hK hL hr
 have hsz : (virtOps π X ops).size = ops.size := by simp [virtOps, hv.len]
 obtain ⟨L', rfl, hL'⟩ := valid_virt hv hX L (Array.replicate ops.size false) (Array.replicate (virtOps π X ops).size false) (by simp) (by simp [hsz]) (fun j hj => by
  have := (hv.forth j hj).2
  rw [hsz]
  simp [hj, this]) hL hr
 obtain ⟨t1, w1, m1, hst, hT1, H1, hle, hB⟩ := drawList_sound (sigV_ok hE hrec a) (virt_virt (X := X) hv) hL' hT H G (drawV_sim hd hp) fr cs todo
 obtain ⟨q, hq, t', todo', w', m', g1, g2, g3, g4, g5, g6⟩ := ho fr t1 cs w1 m1 base (hR.leG hK hle) hT1 H1 (G.below hB) (Nat.le_trans hK hle.n)
 exact ⟨q, hq, t', todo', w', m', Steps.trans hst g1, g2, g3, (M.leK.of_le hK hle).trans g4, hB.trans g5, g6⟩
theorem outR_split {ops : Array Oper} {X : List (Nat × Nat)} (a b : Nat) (hab : Nat.beq a b = false) {h : Heap} {todo : List Item} {tm : Tm} (h1 : OutR E lvl K ops ((a, b) :: X) h todo tm r) (h2 : OutR E lvl K ops ((b, a) :: X) h todo tm r) : OutR E lvl K ops X h todo tm r := by
 intro fr t cs w m base L hR hT H G hK hL hr
 rcases resp_either (a := a) (b := b) (fun e => by subst e; simp at hab) L _ (by simp) hL with h | h
 ·exact h1 fr t cs w m base L hR hT H G hK hL (resp_cons L _ h hr)
 ·exact h2 fr t cs w m base L hR hT H G hK hL (resp_cons L _ h hr)
theorem outK_draw (hE : EnvOk E) {ops : Array Oper} {h : Heap} {tm : Tm} {id : Nat} {todo : List Item} (ho : OutR E lvl K ops [] h todo tm r) : OutK E lvl K ⟨h, .code (.region id ops true) :: todo, tm⟩ r := by
 intro fr t cs w m base hR hT H G hK
 have hB0 : Below base w { w with drawn := w.drawn + 1 } := ⟨rfl, rfl, rfl, Nat.le_refl _, fun _ _ => rfl⟩
 have H0 : HR m base lvl h { w with drawn := w.drawn + 1 } := H.world (Nat.le_refl _) fun _ _ => rfl
 have hv := go_valid (ops := ops) ops.size (w.tape w.drawn (.order fr.fn id)) (Array.replicate ops.size false) (List.range ops.size) (fun i hi _ => List.mem_range.2 hi) (by simp)
 have e : Region.schedule (E.P.follows .mixedOrders) ops (w.tape w.drawn (.order fr.fn id)) = Region.linearise.go .any ops ops.size (w.tape w.drawn (.order fr.fn id)) (Array.replicate ops.size false) [] := by
  simp only [Region.schedule, hE.mixed, Bool.true_or, if_true]
  rfl
 rw [← e] at hv
 have first : Steps E.P (lone (FR fr t (.code (.region id ops true) :: todo)) cs w) (lone (FR fr t (.inRegion ops (Region.schedule (E.P.follows .mixedOrders) ops (w.tape w.drawn (.order fr.fn id))) :: todo)) cs { w with drawn := w.drawn + 1 }) := .one stepF_regionDraw
 obtain ⟨q, hq, t', todo', w', m', j1, j2, j3, j4, j5, j6⟩ := ho fr t cs { w with drawn := w.drawn + 1 } m base _ hR hT H0 (G.below hB0) hK hv (resp_nil _ _)
 exact ⟨q, hq, t', todo', w', m', Steps.trans first j1, j2, j3, j4, hB0.trans j5, j6⟩
def segD (E : Env) (rec : RunT) (lvl : Nat) (a : List (Nat × Ans)) (g : List (Nat × Bool)) (ops : Array Oper) (ks : List Nat) (j : Nat → Value) (h : Heap) (todo : List Item) (tm : Tm) : Option (St × List Prop) :=
 match drawV E rec a g lvl ops h tm with
 | some (h1, tm1, ps) => some (⟨h1, todo, forgetT ks j tm1 0⟩, ps)
 | none => none
theorem outR_seg (hE : EnvOk E) (hrec : RecOk E rec) {ops : Array Oper} {X : List (Nat × Nat)} (π : List Nat) (a : List (Nat × Ans)) (g : List (Nat × Bool)) (ks : List Nat) {h : Heap} {tm : Tm} {s' : (Nat → Value) → St} {ps : List Prop} {todo : List Item} (hok : (okVirt π ops && X.all fun p => Nat.blt p.1 (lenL ops.toList)) = true)
  (hd : ∀ j, segD E rec lvl a g (virtOps π X ops) ks j h todo tm = some (s' j, ps)) (hp : AllP ps) (ho : ∀ j, OutK E lvl K (s' j) r) : OutR E lvl K ops X h todo tm r := by
 cases hc : drawV E rec a g lvl (virtOps π X ops) h tm with
 | none => have := hd (fun _ => undef); simp [segD, hc] at this
 | some p =>
  obtain ⟨h1, tm1, qs⟩ := p
  have hq : qs = ps := by have := hd (fun _ => undef); simp [segD, hc] at this; exact this.2
  subst hq
  refine outR_leaf hE hrec π a g hok hc hp (outK_forget ks fun j => ?_)
  have := hd j
  simp only [segD, hc, Option.some.injEq, Prod.mk.injEq] at this
  rw [this.1]
  exact ho j
theorem outK_draw' (hE : EnvOk E) {ops : Array Oper} {h : Heap} {tm : Tm} {id : Nat} {todo : List Item} {s : St} (hs : s = ⟨h, .code (.region id ops true) :: todo, tm⟩) (ho : OutR E lvl K ops [] h todo tm r) : OutK E lvl K s r := by
 subst hs
 exact outK_draw hE ho
def opsOf : Code → Array Oper
 | .region _ ops _ => ops
 | _ => #[]
def idOf : Code → Nat
 | .region n _ _ => n
 | _ => 0
end
end Go.Ev
end
section
namespace Go.Ev
open Go.RowKit
noncomputable section
variable {E : Env} {rec : RunT} {lvl K : Nat} {r : Res → Prop} {rd : Option Nat}
end
end Go.Ev
end
section
open Go Go.Ev
namespace Go.Proofs.YtigdchbjmnbjlaaGreatDoor
noncomputable section
def tabStates : List Value := [.string ⟨#[111, 110]⟩, .string ⟨#[111, 102, 102]⟩, .string ⟨#[109, 97, 121]⟩]
def tabPow : List Value := (List.range 20).map fun i => Value.int .u64 (Int.ofNat (10 ^ i))
def writers : FuncId → Bool := fun f => [80, 81, 93, 94, 97, 103, 126, 127, 131, 132, 133, 138, 141, 143, 144, 147, 154, 155, 159, 161, 162, 167, 168, 172, 175, 178, 180, 183, 184, 185, 190, 191, 192, 195, 198, 200, 201, 202, 203, 205, 206, 207, 129].contains f
def hooks : FuncId → Hook := fun f => if f = 201 then .copyCheck else if f = 176 then .join else .none
def E : Env := Env.mk Tryz.prog [(0, tabStates), (1, tabPow)] writers hooks 254
end
end Go.Proofs.YtigdchbjmnbjlaaGreatDoor
end
