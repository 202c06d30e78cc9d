/-
  Part of the proof.
-/
import Derived.Test.YtigdchbjmnbjlaaGreatDoorSeZB
section
namespace Go.Ev
open Go.RowKit
section
variable {E : Env} {rec : RunT} {m : M} {base lvl : Nat} {h h' : Heap} {w : World} {tm : Tm} {t : Array Value} {x : AV}
theorem all2_undef (m : M) : ∀ n, All2 (VR m) (List.replicate n (.tup [])) (List.replicate n undef)
 | 0 => trivial
 | n + 1 => by rw [List.replicate_succ, List.replicate_succ]; exact ⟨⟨#[], rfl, trivial⟩, all2_undef m n⟩
theorem HR.dropObj (H : HR m base lvl h w) {b : Nat} {a : AB} (hb : h[b]? = some (some a)) (hlb : lvl ≤ b) (o : Obj) : HR m base lvl (h.set b none) (w.putObj (m.ρ b) o) := by
 have hK := H.kill b
 refine ⟨hK.n, hK.lvlLe, by simpa using hK.baseLe, fun k a' hk => ?_, hK.own, hK.inj, hK.lo, fun p hp => ⟨hK.tabs (fun q hq => World.putObj_heap_other fun e => (H.tab q hq).2 b a hlb hb e.symm) p hp, (hK.tab p hp).2⟩⟩
 refine (hK.ent k a' hk).world (World.putObj_heap_other fun e' => ?_)
 have hk' := alive_set hk
 exact hk'.2 (H.inj k b (List.getElem?_eq_some_iff.1 hk'.1).1 (List.getElem?_eq_some_iff.1 hb).1 ⟨a', hk'.1⟩ ⟨a, hb⟩ (.inr (Nat.le_trans H.lo hlb)) e')
theorem below_putObj {w : World} {base l : Nat} (h : base ≤ l) (o : Obj) : Below base w (w.putObj l o) :=
 ⟨rfl, rfl, rfl, by simp, fun k hk => World.putObj_heap_other (by omega)⟩
theorem mark_spec {b : Nat} (hm : markOk h b = true) : ∃ a, h[b]? = some (some a) ∧ a.ext = .mark := by
 unfold markOk at hm
 rw [getL_eq] at hm
 split at hm
 ·rename_i a ha
  split at hm
  ·rename_i hx; exact ⟨a, ha, hx⟩
  ·simp at hm
 ·simp at hm
theorem dropMarks_sound (P : Program) : ∀ (l : List Nat) (h h1 : Heap) (w : World), HR m base lvl h w → dropMarks lvl h l = some h1 → ∀ (fr : Frame) (cs : List Frame), fr.mode ≠ .run → fr.defers = marksC m l →
  ∃ w', Steps P (lone fr cs w) (lone { fr with defers := [] } cs w') ∧ HR m base lvl h1 w' ∧ Below base w w'
 | [], h, h1, w, H, hs, fr, cs, hm, hd => by
  simp only [dropMarks, Option.some.injEq] at hs
  subst hs
  have e : { fr with defers := [] } = fr := by
   have : fr.defers = [] := hd
   cases fr; simp only at this; subst this; rfl
  rw [e]
  exact ⟨w, .refl _ _, H, Below.refl _ _⟩
 | b :: l, h, h1, w, H, hs, fr, cs, hm, hd => by
  have hs' : (if Nat.ble lvl b && markOk h b then dropMarks lvl (setL h b none) l else none) = some h1 := hs
  split at hs'
  ·rename_i hc
   simp only [Bool.and_eq_true, Nat.ble_eq] at hc
   obtain ⟨hlb, hmk⟩ := hc
   obtain ⟨a, ha, hx⟩ := mark_spec hmk
   rw [setL_eq] at hs'
   have hent := (H.ent b a ha).2
   rw [hx] at hent
   have hob : w.heap[m.ρ b]? = some (.deferred (some [])) := hent
   have H' := H.dropObj ha hlb (.deferred none)
   have hB := below_putObj (w := w) (H.own b hlb (List.getElem?_eq_some_iff.1 ha).1) (.deferred none)
   have hst := step_collected (P := P) (fr := fr) (cs := cs) (d := { target := .collected (m.ρ b), args := #[] }) (ds := marksC m l) (calls := []) hm hd rfl (run_takeDeferred hob)
   obtain ⟨w', h2, h3, h4⟩ := dropMarks_sound P l _ h1 _ H' hs' { fr with defers := marksC m l } cs hm rfl
   exact ⟨w', .head hst h2, h3, hB.trans h4⟩
  ·simp at hs'
theorem callBody_sound (hrec : RecOk E rec) {f : FuncId} {fn : Func} {c : Code} (hf : E.P.funcs[f]? = some fn) (hb : fn.body = some c) {args : List AV} {argsC : Array Value} (ha : All2 (VR m) args argsC.toList)
  (H : HR m base lvl h w) (G : GR E.gl base w) {v : AV} (hs : callBody E rec lvl h fn c args = some (v, h')) :
  Calls E.P f argsC w fun e w' => ∃ y, e = .returned y ∧ ∃ m', PostG m base lvl w v h' y w' m' := by
 unfold callBody at hs
 split at hs
 ·rename_i r hr
  split at hs
  ·rename_i hj
   split at hs
   ·rename_i h1 hdm
    split at hs
    ·rename_i v' hv
     simp only [Option.some.injEq, Prod.mk.injEq] at hs
     obtain ⟨rfl, rfl⟩ := hs
     intro cs
     let fr0 : Frame := Frame.enter E.P f argsC .normal
     have hT : TR m (appL args (List.replicate (fn.ntmps - lenL args) (.tup []))) (argsC ++ Array.replicate (fn.ntmps - argsC.size) undef) := by
      unfold TR
      rw [appL_eq, lenL_eq, Array.toList_append, Array.toList_replicate]
      have hl : args.length = argsC.size := by have := ha.length; simpa using this
      rw [hl]
      exact ha.append (all2_undef m _)
     have he : fr0 = FR fr0 (argsC ++ Array.replicate (fn.ntmps - argsC.size) undef) [.code c] := by
      simp [fr0, Frame.enter, FR, hf, hb]
     have hround : fr0.roundOf = none := rfl
     obtain ⟨t', todo', w1, m', hst, hT', H', hle, hB, hend, _⟩ := hrec _ _ _ _ _ _ hr fr0 _ cs w m base hround hT H G
     have hd0 : fr0.defers = [] := rfl
     rw [hd0, List.append_nil] at hst
     have fin : ∃ todo'', Steps E.P (lone (FR { fr0 with defers := marksC m' r.marks } t' todo') cs w1) (lone { FR { fr0 with defers := marksC m' r.marks } t' todo'' with mode := .returning } cs w1) := by
      cases hjj : r.jump with
      | fell =>
       rw [hjj] at hend
       have : todo' = [] := hend
       subst this
       exact ⟨[], .one (stepF_end hround)⟩
      | ret =>
       rw [hjj] at hend
       obtain ⟨k, rfl⟩ := hend
       exact ⟨.code .ret :: k, .one (stepF_ret hround)⟩
      | exit id => rw [hjj] at hj; simp [fellOrRet] at hj
     obtain ⟨todo'', hfin⟩ := fin
     obtain ⟨w', hdr, H2, hB2⟩ := dropMarks_sound E.P r.marks _ _ _ H' hdm { FR { fr0 with defers := marksC m' r.marks } t' todo'' with mode := .returning } cs (by simp) rfl
     obtain ⟨y, hy, hvr⟩ := resultsA_sound (E := E) hT' H2 ((G.below hB).below hB2) hv
     refine ⟨.returned y, w', { FR fr0 t' todo'' with mode := .returning }, ⟨y, rfl, m', hle, hvr, H2, hB.trans hB2⟩, ?_, rfl, ?_⟩
     ·show Steps E.P (lone fr0 cs w) _
      rw [he]
      exact Steps.trans hst (Steps.trans hfin hdr)
     ·exact ⟨rfl, rfl, rfl, fn, hf, hy⟩
    ·simp at hs
   ·simp at hs
  ·simp at hs
 ·simp at hs
theorem GR.up {gl : List (Nat × List Value)} {base base' : Nat} {w : World} (h : base ≤ base') (G : GR gl base w) : GR gl base' w := fun g cs hg => by
 obtain ⟨h1, h2⟩ := G g cs hg
 exact ⟨by omega, h2⟩
theorem callA_sound (hrec : RecOk E rec) {f : FuncId} {args : List AV} {argsC : Array Value} (ha : All2 (VR m) args argsC.toList) (H : HR m base lvl h w) (G : GR E.gl base w) {v : AV}
  (hs : callA E rec lvl h f args = some (v, h')) : Calls E.P f argsC w fun e w' => ∃ y, e = .returned y ∧ ∃ m', PostG m base lvl w v h' y w' m' := by
 unfold callA at hs
 split at hs
 ·rename_i fn hf
  split at hs
  ·rename_i c hb
   split at hs
   ·exact callBody_sound hrec hf hb ha H G hs
   ·split at hs
    ·rename_i v1 h1 hcb
     rw [lenL_eq] at hcb
     have H0 : HR m w.heap.size h.length h w := H.shut
     have hc := callBody_sound hrec hf hb ha H0 (G.up H.baseLe) hcb
     refine hc.mono fun e w' ⟨y, hy, m1, hp⟩ => ⟨y, hy, ?_⟩
     obtain ⟨m2, k1, k2, k3⟩ := bring_sound H hp.heap hp.le hp.below hp.val hs
     exact ⟨m2, k1, k2, k3, hp.below.mono H.baseLe⟩
    ·simp at hs
  ·simp at hs
 ·simp at hs
theorem frozen_free {w : World} {r : Nat} {c : Array Value} {e : TypeId} {fz : Nat × Nat} (hw : w.heap[r]? = some (.cells c e fz)) (hf : FzOk c.size fz) (h0 : 0 < c.size) : w.frozen? ⟨r, 0, none⟩ = false := by
 have := hf.free 0 h0
 simp [World.frozen?, hw]
 omega
theorem copyCheckA_sound (hE : EnvOk E) {f : FuncId} (hf : E.hk f = .copyCheck) {args : List AV} {argsC : Array Value} (ha : All2 (VR m) args argsC.toList) (H : HR m base lvl h w) {v : AV} (hs : copyCheckA E lvl h args = some (v, h')) :
  Calls E.P f argsC w fun e w' => ∃ y, e = .returned y ∧ ∃ m', PostG m base lvl w v h' y w' m' := by
 unfold copyCheckA at hs
 split at hs
 ·rename_i b
  obtain ⟨y0, hy0, hr0⟩ := all2_one ha
  obtain ⟨hbn, rfl⟩ : b < m.n ∧ y0 = _ := hr0
  have hy : argsC = #[.pointer (some ⟨m.ρ b, 0, none⟩)] := by rw [← Array.toList_inj]; exact hy0
  subst hy
  split at hs
  ·rename_i a hb
   have hab := blk_eq hb
   obtain ⟨b1, b2, c, fz, b3, b4, b5, b6, b7⟩ := H.blk b a hab (blk_ext hb)
   split at hs
   ·rename_i c0 c1 hcells
    rw [hcells] at b7 b1
    have hn2 : a.n = 2 := by simpa using b1.symm
    obtain ⟨p0, p1, hp, hr0, hr1⟩ : ∃ p0 p1, c.toList.take a.n = [p0, p1] ∧ CR m c0 p0 ∧ CR m c1 p1 := all2_two b7
    have h0 : c[0]? = some p0 := by
     have : (c.toList.take a.n)[0]? = some p0 := by rw [hp]; rfl
     rw [List.getElem?_take] at this
     simpa [hn2] using this
    have hcell : w.cell? ⟨m.ρ b, 0, none⟩ = some p0 := by
     have := cell_of_row w (m.ρ b) 0 c a.elem fz b3
     rw [this]; exact h0
    split at hs
    ·rename_i hself
     simp only [Option.some.injEq, Prod.mk.injEq] at hs
     obtain ⟨rfl, rfl⟩ := hs
     have hp0 : p0 = .pointer (some ⟨m.ρ b, 0, none⟩) := by
      unfold isSelf at hself
      split at hself
      ·rename_i c'
       have e := Nat.eq_of_beq_eq_true hself
       subst e
       exact hr0.2
      ·simp at hself
     exact (hE.used f hf (m.ρ b) w (by rw [hcell, hp0])).mono fun e w' ⟨he, hw⟩ => ⟨_, he, m, by subst hw; exact (Post.same H (x := .tup []) (y := .tuple #[]) ⟨#[], rfl, trivial⟩).g⟩
    ·split at hs
     ·rename_i hc
      simp only [Bool.and_eq_true, Nat.ble_eq] at hc
      obtain ⟨⟨⟨hnil, hlb⟩, hel⟩, hfull⟩ := hc
      have hel' : a.elem = E.bt := Nat.eq_of_beq_eq_true hel
      simp only [Option.some.injEq, Prod.mk.injEq] at hs
      obtain ⟨rfl, rfl⟩ := hs
      have hsz : c.size = 2 := by rw [b4, ← b2 hfull, hn2]
      have hp0 : p0 = .pointer none := by
       unfold isNilSlot at hnil
       split at hnil
       ·exact hr0
       ·simp at hnil
      have hsh : w.shape? (m.ρ b) = some (E.bt, 2) := by unfold World.shape?; rw [b3, hel', ← hsz]
      refine (hE.fresh f hf (m.ρ b) w (by rw [hcell, hp0]) hsh (frozen_free b3 (b5 (Nat.le_trans H.lo hlb)) (by omega))).mono fun e w' ⟨he, hw⟩ => ⟨_, he, m, M.leG.refl _ m, ⟨#[], rfl, trivial⟩, ?_, ?_⟩
      ·subst hw
       rw [setL_eq]
       refine H.putEnt hab hlb (by simp [World.setCell]) (fun k hk => by simp [World.setCell, Array.getElem?_modify, Ne.symm hk]) ⟨fun _ => ⟨by simp [hn2], b2, c.setIfInBounds 0 (.pointer (some ⟨m.ρ b, 0, none⟩)), fz, by simp [World.setCell, Array.getElem?_modify, b3], by simpa using b4, by simpa using b5, by simpa using b6, ?_⟩, by simp only [blk_ext hb]; trivial⟩
       have hl : c.toList = [p0, p1] := by
        rw [← hp, hn2, List.take_of_length_le (by simp [hsz])]
       simp only [hn2, Array.toList_setIfInBounds, hl]
       exact ⟨⟨hbn, rfl⟩, hr1, trivial⟩
      ·subst hw
       have hown := H.own b hlb (List.getElem?_eq_some_iff.1 hab).1
       exact ⟨rfl, rfl, rfl, by simp [World.setCell], fun k hk => by simp [World.setCell, Array.getElem?_modify, show ¬ m.ρ b = k by omega]⟩
     ·simp at hs
   ·simp at hs
  ·simp at hs
 ·simp at hs
theorem str_sound {a : AC} {x : ByteArray} {y : Value} (h : a.str? = some x) (hr : CR m a y) : y = .string x := by
 unfold AC.str? at h
 split at h
 ·simp at h; subst h; exact hr
 ·simp at h
theorem all2_nth {α β : Type} {R : α → β → Prop} : ∀ {l : List α} {ys : List β}, All2 R l ys → ∀ {i : Nat} {a : α}, l[i]? = some a → ∃ b, ys[i]? = some b ∧ R a b
 | [], _, _, i, a, h => by simp at h
 | x :: l, [], h, _, _, _ => h.elim
 | x :: l, y :: ys, h, 0, a, e => by simp at e; subst e; exact ⟨y, rfl, h.1⟩
 | x :: l, y :: ys, h, i + 1, a, e => all2_nth h.2 (by simpa using e)
theorem joinA_sound (hE : EnvOk E) {f : FuncId} (hf : E.hk f = .join) {args : List AV} {argsC : Array Value} (ha : All2 (VR m) args argsC.toList) (H : HR m base lvl h w) {v : AV} (hs : joinA h args = some (v, h')) :
  Calls E.P f argsC w fun e w' => ∃ y, e = .returned y ∧ ∃ m', PostG m base lvl w v h' y w' m' := by
 unfold joinA at hs
 split at hs
 ·rename_i b o len sz cap ex sep
  obtain ⟨y0, y1, hy, hr0, hr1⟩ := all2_two ha
  have hr1' : y1 = .string sep := hr1
  subst hr1'
  obtain ⟨hbn, c, o', rfl, ho, hlc, hcc, _, _, _⟩ := hr0
  have hy : argsC = #[.slice (some ⟨m.ρ b, o', none⟩) len c, .string sep] := by rw [← Array.toList_inj]; exact hy
  subst hy
  split at hs
  ·rename_i a hb
   split at hs
   ·rename_i cs hcs
    split at hs
    ·rename_i xs hxs
     split at hs
     ·rename_i hc
      simp only [Bool.and_eq_true, Nat.ble_eq, lenL_eq] at hc
      obtain ⟨⟨h1, h2⟩, h3⟩ := hc
      simp only [Option.some.injEq, Prod.mk.injEq] at hs
      obtain ⟨rfl, rfl⟩ := hs
      have hab := blk_eq hb
      obtain ⟨b1, b2, row, fz, b3, b4, b5, b6, b7⟩ := H.blk b a hab (blk_ext hb)
      have e := allSome_eq hxs
      obtain ⟨htl, hte⟩ := takeL_some hcs
      have hlen : xs.length = len := by
       have hcl : cs.length = len := by rw [hte, List.length_take]; omega
       have := congrArg List.length e
       simp only [List.length_map] at this
       omega
      have hcell : ∀ (j : Nat) x, xs[j]? = some x → w.cell? ⟨m.ρ b, o' + j, none⟩ = some (.string x) := fun j x hj => by
       have hjl : j < len := by rw [← hlen]; exact (List.getElem?_eq_some_iff.1 hj).1
       have hc0 : ¬ c = 0 := by omega
       have ho' : o' = o := ho.resolve_right hc0
       subst ho'
       have e1 : (cs.map AC.str?)[j]? = some (some x) := by rw [e]; simp [hj]
       rw [List.getElem?_map] at e1
       obtain ⟨ac, hac, e2⟩ := Option.map_eq_some_iff.1 e1
       have e3 : a.cells[o' + j]? = some ac := by
        rw [hte, dropL_eq, List.getElem?_take, if_pos hjl, List.getElem?_drop] at hac
        exact hac
       obtain ⟨y, hy, hr⟩ := all2_nth b7 e3
       rw [List.getElem?_take] at hy
       split at hy
       ·rw [cell_of_row w (m.ρ b) (o' + j) row a.elem fz b3]
        rw [Array.getElem?_toList] at hy
        rw [hy, str_sound e2 hr]
       ·simp at hy
      have hsz : m.ρ b < w.heap.size := (Array.getElem?_eq_some_iff.1 b3).1
      have := hE.join f hf (m.ρ b) o' c xs sep w hcell hsz (by omega) (by omega) h3
      rw [hlen] at this
      exact this.mono fun e w' ⟨he, hB⟩ => ⟨_, he, m, M.leG.refl _ m, rfl, H.world hB.size hB.block, hB.mono H.baseLe⟩
     ·simp at hs
    ·simp at hs
   ·simp at hs
  ·simp at hs
 ·simp at hs
theorem hookA_sound (hE : EnvOk E) (hrec : RecOk E rec) {f : FuncId} {args : List AV} {argsC : Array Value} (ha : All2 (VR m) args argsC.toList) (H : HR m base lvl h w) (G : GR E.gl base w) {v : AV}
  (hs : hookA E rec lvl h f args = some (v, h')) : Calls E.P f argsC w fun e w' => ∃ y, e = .returned y ∧ ∃ m', PostG m base lvl w v h' y w' m' := by
 unfold hookA at hs
 split at hs
 ·exact callA_sound hrec ha H G hs
 ·rename_i hk; exact copyCheckA_sound hE hk ha H hs
 ·rename_i hk; exact joinA_sound hE hk ha H hs
 ·rename_i k hk
  split at hs
  ·rename_i r hr
   simp only [Option.some.injEq] at hs
   subst hs
   exact hE.known f k hk lvl _ _ _ _ hr m base w argsC ha H G
  ·exact callA_sound hrec ha H G hs
def Rounds (P : Program) (l : Nat) (fn : FuncId) (tmps : Array Value) (asg body : Code) (w : World) (R : Value → World → Prop) : Prop :=
 ∀ (cl : Frame) (cs : List Frame), ∃ y w', Steps P (lone (Frame.round l fn tmps asg body .normal) (cl :: cs) w) (lone (cl.finish y) cs w') ∧ R y w'
theorem params_sound {m : M} : ∀ (ps : List Tmp) {args : List AV} {argsC : List Value} {tm : Tm} {t : Array Value}, args.length = ps.length → All2 (VR m) args argsC → TR m tm t →
  TR m (setParams ps args tm) ((ps.zip argsC).foldl (fun t p => t.setIfInBounds p.1 p.2) t)
 | [], _, _, _, _, _, _, hT => hT
 | p :: ps, [], _, _, _, hl, _, _ => by simp at hl
 | p :: ps, a :: args, [], _, _, _, ha, _ => ha.elim
 | p :: ps, a :: args, y :: argsC, tm, t, hl, ha, hT => by
  show TR m (setParams ps args (setL tm p a)) _
  simp only [List.zip_cons_cons, List.foldl_cons]
  exact params_sound ps (by simpa using hl) ha.2 (putT_sound hT (some p) ha.1)
theorem roundA_sound (hrec : RecOk E rec) {b : Nat} {args : List AV} {argsC : Array Value} (ha : All2 (VR m) args argsC.toList) (H : HR m base lvl h w) (G : GR E.gl base w) (hs : roundA rec lvl h b args = some (x, h')) :
  ∃ fn tmps asg body, (Instr.yield (m.ρ b) argsC).run E.P w = .ok (.round (m.ρ b) fn tmps asg body) w ∧ Rounds E.P (m.ρ b) fn tmps asg body w fun y w' => ∃ m', PostG m base lvl w x h' y w' m' := by
 unfold roundA at hs
 rw [getL_eq] at hs
 split at hs
 ·rename_i a hab
  have hbl := (List.getElem?_eq_some_iff.1 hab).1
  have hbn : b < m.n := by rw [H.n]; exact hbl
  split at hs
  ·rename_i st pend tm0 ps asg body hx
   have hent := (H.ent b a hab).2
   rw [hx] at hent
   obtain ⟨fn, t0, D, hw, hT0⟩ := hent
   split at hs
   ·rename_i hc
    simp only [Bool.and_eq_true, Nat.ble_eq, lenL_eq] at hc
    obtain ⟨hlen, hlb⟩ := hc
    have hsz : argsC.size = ps.size := by have := ha.length; simp at this hlen; omega
    have hy := run_yield (P := E.P) (args := argsC) hw (by simpa using hsz)
    refine ⟨_, _, _, _, hy, fun cl cs => ?_⟩
    split at hs
    ·rename_i r hr
     split at hs
     ·rename_i a' hmk hab'
      rw [getL_eq] at hab'
      split at hs
      ·rename_i st' pd' tm' ps' as' bo' hx'
       simp only [Option.some.injEq, Prod.mk.injEq] at hs
       obtain ⟨rfl, rfl⟩ := hs
       have hT1 := params_sound ps.toList (argsC := argsC.toList) (by simpa using hlen) ha (show TR m tm0 t0 from hT0)
       have hz : (ps.zip argsC).foldl (fun tmps (x : Tmp × Value) => tmps.setIfInBounds x.1 x.2) t0 = (ps.toList.zip argsC.toList).foldl (fun t p => t.setIfInBounds p.1 p.2) t0 := by
        rw [← Array.foldl_toList, Array.toList_zip]
       generalize htm : (ps.toList.zip argsC.toList).foldl (fun t p => t.setIfInBounds p.1 p.2) t0 = tms at hT1 hz
       have hfr : Frame.round (m.ρ b) fn tms asg body .normal = FR (Frame.round (m.ρ b) fn tms asg body .normal) tms [.code asg, .beginRound, .code body] := rfl
       obtain ⟨t', todo', w1, m1, hst, hT', H1, hle, hB, hend, _⟩ := hrec _ _ _ _ _ _ hr (Frame.round (m.ρ b) fn tms asg body .normal) tms (cl :: cs) w m base ⟨hbn, rfl, rfl⟩ hT1 H G
       have hent' := (H1.ent b a' hab').2
       rw [hx'] at hent'
       obtain ⟨fn', t2, D', hw', hT2⟩ := hent'
       rw [hle.ρ b hbn] at hw'
       have hE := run_endRound (P := E.P) (pendOf r.jump) hw'
       have hlt := (Array.getElem?_eq_some_iff.1 hw').1
       have hlast : step E.P (lone (FR { Frame.round (m.ρ b) fn tms asg body .normal with defers := marksC m1 r.marks ++ [] } t' todo') (cl :: cs) w1) = .next (lone (cl.finish (.bool (pendOf r.jump).isNone)) cs (w1.putObj (m.ρ b) (.loop { state := if (pendOf r.jump).isNone then .ready else .done, pending := pendOf r.jump, fn := fn', tmps := t2, params := ps', assign := as', body := bo', defers := D' }))) := by
        cases hj : r.jump with
        | fell =>
         rw [hj] at hend hE
         have : todo' = [] := hend
         subst this
         exact stepF_round_end rfl rfl hE
        | ret =>
         rw [hj] at hend hE
         obtain ⟨k, rfl⟩ := hend
         exact stepF_round_ret rfl rfl hE
        | exit id =>
         rw [hj] at hend hE
         obtain ⟨k, rfl, hk⟩ := hend
         exact stepF_round_exit rfl rfl hk hE
       refine ⟨.bool (pendOf r.jump).isNone, w1.putObj (m.ρ b) (.loop { state := if (pendOf r.jump).isNone then .ready else .done, pending := pendOf r.jump, fn := fn', tmps := t2, params := ps', assign := as', body := bo', defers := D' }), ?_, m1, hle, rfl, ?_, hB.trans (below_putObj (H.own b hlb hbl) _)⟩
       ·simp only [hz]
        rw [hfr]
        exact Steps.trans hst (.one hlast)
       ·rw [setL_eq]
        refine H1.putEnt hab' hlb (by simp) (fun k hk => World.putObj_heap_other (by rw [hle.ρ b hbn] at hk; exact hk)) ⟨fun hx => by simp at hx, fn', t2, D', ?_, hT2⟩
        rw [hle.ρ b hbn]
        exact World.putObj_heap_same hlt
      ·simp at hs
     ·simp at hs
    ·simp at hs
   ·simp at hs
  ·simp at hs
 ·simp at hs
def OpRes (P : Program) (t : Array Value) (o : Oper) (w : World) (R : Value → World → Prop) : Prop :=
 (∀ c, o.op ≠ .defer c) ∧ (∀ cs b, o.op ≠ .select cs b) ∧
  ((∃ y w', Does P t o w y w' ∧ R y w') ∨ (∃ f args, (execOp (evC t) o).run P w = .ok (.enter f args) w ∧ Calls P f args w fun e w' => ∃ y, e = .returned y ∧ R y w') ∨
   ∃ l fn tmps asg body, (execOp (evC t) o).run P w = .ok (.round l fn tmps asg body) w ∧ Rounds P l fn tmps asg body w R)
theorem OpRes.steps {P : Program} {o : Oper} {R : Value → World → Prop} (hr : OpRes P t o w R) {ops : Array Oper} {i : Nat} {rest : List Nat} {k : List Item} (ho : ops[i]? = some o)
  (hw : Region.wanted o (yielded ops t) = true) (fr : Frame) (cs : List Frame) :
  ∃ y w', Steps P (lone (FR fr t (.inRegion ops (i :: rest) :: k)) cs w) (lone (FR fr (putC t o.dst y) (.inRegion ops rest :: k)) cs w') ∧ R y w' := by
 obtain ⟨hd, _, ⟨y, w', h1, h2⟩ | ⟨f, args, h1, h2⟩ | ⟨l, fn, tmps, asg, body, h1, h2⟩⟩ := hr
 ·exact ⟨y, w', .one (stepF_value ho hw hd h1), h2⟩
 ·exact stepsF_enter ho hw hd h1 h2
 ·obtain ⟨y, w', hst, hR⟩ := h2 (FR fr t (.inRegion ops (i :: rest) :: k)) cs
  refine ⟨y, w', ?_, hR⟩
  rw [← FR_finish (fr := fr) ho]
  refine .head (step_lone_go (fr' := Frame.round l fn tmps asg body .normal) (cs' := FR fr t (.inRegion ops (i :: rest) :: k) :: cs) (w' := w) ?_) hst
  rw [stepG_F ho hw hd]
  simp [stepG.apply, h1, FR]
theorem OpRes.congr {P : Program} {o : Oper} {R : Value → World → Prop} {t' : Array Value} (hr : OpRes P t o w R) (he : ∀ x ∈ o.op.operands, evC t x = evC t' x) : OpRes P t' o w R := by
 obtain ⟨hd, hs, h⟩ := hr
 have e := execOp_congr o hs he
 refine ⟨hd, hs, ?_⟩
 unfold Does at *
 rw [← e]
 exact h
theorem OpRes.some {P : Program} {o : Oper} {R : Value → World → Prop} (hr : OpRes P t o w R) : ∃ y w', R y w' := by
 obtain ⟨_, _, ⟨y, w', _, h2⟩ | ⟨f, args, _, h2⟩ | ⟨_, _, _, _, _, _, h2⟩⟩ := hr
 ·exact ⟨y, w', h2⟩
 ·obtain ⟨_, w', _, ⟨y, _, hR⟩, _⟩ := h2 []
  exact ⟨y, w', hR⟩
 ·obtain ⟨y, w', _, hR⟩ := h2 (Frame.enter P 0 #[] .normal) []
  exact ⟨y, w', hR⟩
def PostO (o : Oper) (m : M) (base lvl : Nat) (w : World) (x : AV) (h' : Heap) (y : Value) (w' : World) (m' : M) : Prop := PostG m base lvl w x h' y w' m' ∧ (callV o = false → m.le m')
theorem Post.o {o : Oper} {w' : World} {y : Value} {m' : M} (p : Post m base lvl w x h' y w' m') : PostO o m base lvl w x h' y w' m' := ⟨p.g, fun _ => p.le⟩
theorem Post.sameO {o : Oper} {y : Value} (H : HR m base lvl h w) (hv : VR m x y) : PostO o m base lvl w x h y w m := (Post.same H hv).o
theorem callV_call {o : Oper} {c : Call} (hop : o.op = .call c) : callV o = true := by simp [callV, hop]
theorem callV_callee {o : Oper} {c : Call} {p : FuncId × List AV} (hop : o.op = .call c) (_ : calleeOf tm c = some p) : callV o = true := callV_call hop
theorem callV_yield {o : Oper} {c : Call} {p : Nat × List AV} (hop : o.op = .call c) (_ : yieldOf tm c = some p) : callV o = true := callV_call hop
theorem Rounds.mono {P : Program} {l : Nat} {fn : FuncId} {tmps : Array Value} {asg body : Code} {R R' : Value → World → Prop} (hr : Rounds P l fn tmps asg body w R) (hi : ∀ y w', R y w' → R' y w') : Rounds P l fn tmps asg body w R' := fun cl cs => by
 obtain ⟨y, w', h1, h2⟩ := hr cl cs
 exact ⟨y, w', h1, hi y w' h2⟩
theorem stepOp_res (hE : EnvOk E) (hrec : RecOk E rec) (hT : TR m tm t) (H : HR m base lvl h w) (G : GR E.gl base w) {o : Oper} (hs : stepOp E rec lvl h tm o = some (x, h')) :
  OpRes E.P t o w fun y w' => ∃ m', PostO o m base lvl w x h' y w' m' := by
 have one : (∀ c, o.op ≠ .defer c) → (∀ cs b, o.op ≠ .select cs b) → (∃ y w' m', Does E.P t o w y w' ∧ Post m base lvl w x h' y w' m') → OpRes E.P t o w fun y w' => ∃ m', PostO o m base lvl w x h' y w' m' :=
  fun hd hsel ⟨y, w', m', h1, h2⟩ => ⟨hd, hsel, .inl ⟨y, w', h1, m', h2.o⟩⟩
 have viaPure : (pureOp E tm o).map (fun x => (x, h)) = some (x, h') → ∃ y w' m', Does E.P t o w y w' ∧ Post m base lvl w x h' y w' m' := by
  intro hp
  cases hpo : pureOp E tm o with
  | none => rw [hpo] at hp; simp at hp
  | some x' =>
   rw [hpo] at hp
   simp only [Option.map_some, Option.some.injEq, Prod.mk.injEq] at hp
   obtain ⟨rfl, rfl⟩ := hp
   obtain ⟨y, h1, h2⟩ := pureOp_sound hT hpo w
   exact ⟨y, w, m, h1, Post.same H h2⟩
 have notDefer : pureOp E tm o ≠ none → ∀ c, o.op ≠ .defer c := by
  intro hp c hc
  apply hp
  simp [pureOp, hc, notSelect]
 have notSel : pureOp E tm o ≠ none → ∀ cs b, o.op ≠ .select cs b := by
  intro hp c b hc
  apply hp
  simp [pureOp, hc, notSelect]
 unfold stepOp at hs
 split at hs
 ·rename_i a hop
  simp only [Option.some.injEq, Prod.mk.injEq] at hs
  obtain ⟨rfl, rfl⟩ := hs
  exact one (by simp [hop]) (by simp [hop]) ⟨evC t a, w, m, .inl (by simp [execOp, hop]), Post.same H (evA_sound hT a)⟩
 ·rename_i a hop
  simp only [Option.some.injEq, Prod.mk.injEq] at hs
  obtain ⟨rfl, rfl⟩ := hs
  exact one (by simp [hop]) (by simp [hop]) ⟨evC t a, w, m, .inl (by simp [execOp, hop]), Post.same H (evA_sound hT a)⟩
 ·rename_i u a hop
  cases hl : loadA E h u (evA tm a) with
  | none => rw [hl] at hs; simp at hs
  | some x' =>
   rw [hl] at hs
   simp only [Option.map_some, Option.some.injEq, Prod.mk.injEq] at hs
   obtain ⟨rfl, rfl⟩ := hs
   obtain ⟨v, hv, hr⟩ := loadA_sound (E := E) H G (evA_sound hT a) hl
   exact one (by simp [hop]) (by simp [hop]) ⟨v, w, m, .inl (by simp [execOp, hop, hv]), Post.same H hr⟩
 ·rename_i b u a c yt hop
  split at hs
  ·rename_i p q hp hq
   cases hbv : binA E.P b u a c p q with
   | none => rw [hbv] at hs; simp at hs
   | some v =>
    rw [hbv] at hs
    simp only [Option.map_some, Option.some.injEq, Prod.mk.injEq] at hs
    obtain ⟨rfl, rfl⟩ := hs
    have h1 := evA_sound hT a
    rw [hp] at h1
    have h2 := evA_sound hT c
    rw [hq] at h2
    have e1 : evC t a = p := h1
    have e2 : evC t c = q := h2
    have hr := binA_sound E.P b u a c p q v hbv w
    refine one (by simp [hop]) (by simp [hop]) ⟨v, w, m, .inl ?_, Post.same H (AV.of_sound m v)⟩
    simp only [execOp, hop, e1, e2]
    rw [Sem.run_bind, hr]
    simp
  ·rename_i bb oo ll ss cp ex n2 c2 hp hq
   split at hs
   ·rename_i r el hr hu
    simp only [Option.some.injEq, Prod.mk.injEq] at hs
    obtain ⟨rfl, rfl⟩ := hs
    have h1 := evA_sound hT a
    rw [hp] at h1
    obtain ⟨_, cc, o', h1, _⟩ : CR m (.slc bb oo ll ss cp ex) (evC t a) := h1
    have h2 := evA_sound hT c
    rw [hq] at h2
    have h2 : evC t c = .slice none n2 c2 := h2
    have heq : ∀ w, (Op.equal u (evC t a) (evC t c)).run E.P w = .ok false w := fun w => by
     rw [h1, h2]
     simp only [Op.equal, Op.maxDepth]
     unfold Op.equalIn
     simp [run_underlying hu]
    refine one (by simp [hop]) (by simp [hop]) ⟨.bool r, w, m, .inl ?_, Post.same H (show CR m (.v _) _ from rfl)⟩
    cases b <;> simp only [nilEq, Option.some.injEq, reduceCtorEq] at hr
    ·subst hr
     have := heq w
     rw [h1, h2] at this
     simp [execOp, hop, h1, h2, eqGuard, binOp, this]
    ·subst hr
     have := heq w
     rw [h1, h2] at this
     simp [execOp, hop, h1, h2, eqGuard, binOp, this]
   ·simp at hs
  ·have hn : pureOp E tm o ≠ none := fun hn => by rw [hn] at hs; simp at hs
   exact one (notDefer hn) (notSel hn) (viaPure hs)
 ·rename_i c hop
  unfold callOp at hs
  split at hs
  ·rename_i f args hcal
   split at hs
   ·rename_i fn hfn
    split at hs
    ·rename_i hbody
     -- a call of a function with a body
     have hcv : ∃ argsC : Array Value, (execOp (evC t) o).run E.P w = .ok (.enter f argsC) w ∧ All2 (VR m) args argsC.toList := by
      have hargs := args_sound hT c.args
      have hnb : ¬ fn.body = none := fun e => by simp [e] at hbody
      have hnum : ¬ fn.name = "runtime.NumGoroutine" := by simpa using hE.num f fn hfn
      unfold calleeOf at hcal
      split at hcal
      ·rename_i fo hfo
       have hfv := evA_sound hT fo
       split at hcal
       ·rename_i g first cs' hev
        rw [hev] at hfv
        have hfv' : evC t fo = .func (.func g) first cs' := hfv
        split at hcal
        ·rename_i hfirst
         have : first = #[] := by simpa using hfirst
         subst this
         simp only [Option.some.injEq, Prod.mk.injEq] at hcal
         obtain ⟨rfl, rfl⟩ := hcal
         refine ⟨c.args.map (evC t) ++ cs', ?_, ?_⟩
         ·simp [execOp, hop, resolve, hfo, hfv', Deferred.ofValue, invoke, callFunc, hfn, hnb, hnum]
         ·rw [Array.toList_append]
          refine hargs.append ?_
          generalize cs'.toList = l
          induction l with
          | nil => trivial
          | cons a l ih => exact ⟨AV.of_sound m a, ih⟩
        ·simp at hcal
       ·rename_i g fs' cs' hev
        rw [hev] at hfv
        obtain ⟨vf, vc, hfv', h1, h2⟩ : ∃ vf vc : Array Value, evC t fo = .func (.func g) vf vc ∧ All2 (CE.R m) fs' vf.toList ∧ All2 (CE.R m) cs' vc.toList := hfv
        simp only [Option.some.injEq, Prod.mk.injEq] at hcal
        obtain ⟨rfl, rfl⟩ := hcal
        refine ⟨vf ++ (c.args.map (evC t) ++ vc), ?_, ?_⟩
        ·simp [execOp, hop, resolve, hfo, hfv', Deferred.ofValue, invoke, callFunc, hfn, hnb, hnum]
        ·rw [Array.toList_append, Array.toList_append]
         exact (CEs.av h1).append (hargs.append (CEs.av h2))
       ·simp at hcal
      ·simp at hcal
     obtain ⟨argsC, hrun, hargs⟩ := hcv
     have hc := hookA_sound hE hrec hargs H G hs
     exact ⟨by simp [hop], by simp [hop], .inr (.inl ⟨f, argsC, hrun, hc.mono fun e w' ⟨y, hy, m', hp⟩ => ⟨y, hy, m', hp, fun hcv => by rw [callV_callee hop hcal] at hcv; cases hcv⟩⟩)⟩
    ·exact one (by simp [hop]) (by simp [hop]) (viaPure hs)
   ·simp at hs
  ·split at hs
   ·rename_i b args hyo
    have hcv := callV_yield hop hyo
    unfold yieldOf at hyo
    split at hyo
    ·rename_i f hcf
     split at hyo
     ·rename_i b' hev
      simp only [Option.some.injEq, Prod.mk.injEq] at hyo
      obtain ⟨rfl, rfl⟩ := hyo
      have hfv := evA_sound hT f
      rw [hev] at hfv
      obtain ⟨hbn, hfv'⟩ : b' < m.n ∧ evC t f = _ := hfv
      obtain ⟨fn, tmps, asg, body, hy, hrd⟩ := roundA_sound hrec (args_sound hT c.args) H G hs
      refine ⟨by simp [hop], by simp [hop], .inr (.inr ⟨_, fn, tmps, asg, body, ?_, hrd.mono fun y w' ⟨m', hp⟩ => ⟨m', hp, fun h0 => by rw [hcv] at h0; cases h0⟩⟩)⟩
      simp [execOp, hop, resolve, hcf, hfv', Deferred.ofValue, invoke, hy]
     ·simp at hyo
    ·simp at hyo
   ·split at hs
    ·rename_i b hb
     split at hs
     ·rename_i r hr
      simp only [Option.some.injEq] at hs
      subst hs
      exact one (by simp [hop]) (by simp [hop]) (op_builtin hT H hop hb hr)
     ·exact one (by simp [hop]) (by simp [hop]) (viaPure hs)
    ·simp at hs
 ·rename_i u a lo hi hop
  split at hs
  ·rename_i r hr
   simp only [Option.some.injEq] at hs
   subst hs
   exact one (by simp [hop]) (by simp [hop]) (sliceA_sound hT H hop hr)
  ·exact one (by simp [hop]) (by simp [hop]) (viaPure hs)
 ·rename_i u a lo hi mx hop
  split at hs
  ·rename_i r hr
   simp only [Option.some.injEq] at hs
   subst hs
   exact one (by simp [hop]) (by simp [hop]) (sliceA3_sound hT H hop hr)
  ·exact one (by simp [hop]) (by simp [hop]) (viaPure hs)
 ·split at hs
  ·rename_i x' hpo
   exact one (notDefer (by rw [hpo]; simp)) (notSel (by rw [hpo]; simp)) (viaPure (by rw [hpo]; exact hs))
  ·refine one (fun c hc => ?_) (fun cs b hc => ?_) (opA_sound hT H hs)
   ·rw [hc] at hs; simp [opA] at hs
   ·rw [hc] at hs; simp [opA] at hs
theorem map_other {α β : Type} {F : Option α} {x : α} {a b : β} {h' : β} (h : F.map (fun x => (x, a)) = some (x, h')) : F.map (fun x => (x, b)) = some (x, b) := by
 cases F with
 | none => simp at h
 | some y => simp at h ⊢; exact h.1
theorem blind_spec {E : Env} {rec : RunT} {ops : Array Oper} {i : Nat} {o : Oper} (ho : ops[i]? = some o) (hb : blindAt ops i = true) {lvl lvl' : Nat} {h h1 h' : Heap} {tm : Tm} {x : AV} (hs : stepOp E rec lvl h tm o = some (x, h')) :
  stepOp E rec lvl' h1 tm o = some (x, h1) := by
 unfold blindAt at hb
 rw [ho] at hb
 simp only at hb
 split at hb
 ·rename_i a hg hop
  simp only [stepOp, hop, Option.some.injEq, Prod.mk.injEq] at hs ⊢
  exact ⟨hs.1, trivial⟩
 ·rename_i a hg hop
  simp only [stepOp, hop, Option.some.injEq, Prod.mk.injEq] at hs ⊢
  exact ⟨hs.1, trivial⟩
 ·rename_i hg hop
  simp only [stepOp, hop] at hs ⊢
  split at hs
  ·rename_i p q hp hq
   cases hbv : binA E.P _ _ _ _ p q with
   | none => rw [hbv] at hs; simp at hs
   | some v => rw [hbv] at hs; simp at hs ⊢; exact hs.1
  ·split at hs
   ·rename_i hr hu
    simp only [Option.some.injEq, Prod.mk.injEq] at hs ⊢
    exact ⟨hs.1, trivial⟩
   ·simp at hs
  ·exact map_other hs
 ·rename_i hg hop
  simp only [stepOp, hop] at hs ⊢
  split at hs
  ·rename_i y hy
   simp only [Option.some.injEq, Prod.mk.injEq] at hs
   simp only [hs.1]
  ·simp [opA] at hs
 ·rename_i hg hop
  simp only [stepOp, hop] at hs ⊢
  split at hs
  ·rename_i y hy
   simp only [Option.some.injEq, Prod.mk.injEq] at hs
   simp only [hs.1]
  ·simp only [opA] at hs ⊢
   split at hs
   ·rename_i l hl
    cases hg : getL l _ with
    | none => rw [hg] at hs; simp at hs
    | some a => rw [hg] at hs; simp at hs ⊢; exact hs.1
   ·simp at hs
 ·simp at hb
structure StepOk (E : Env) (S : StepT) : Prop where
 ok : ∀ {m : M} {base lvl : Nat} {h h' : Heap} {w : World} {tm : Tm} {t : Array Value} {x : AV}, TR m tm t → HR m base lvl h w → GR E.gl base w → ∀ {i : Nat} {o : Oper}, S lvl h tm i o = some (x, h') → OpRes E.P t o w fun y w' => ∃ m', PostO o m base lvl w x h' y w' m'
 blind : ∀ {ops : Array Oper} {i : Nat} {o : Oper}, ops[i]? = some o → blindAt ops i = true → ∀ {lvl lvl' : Nat} {h h1 h' : Heap} {tm : Tm} {x : AV}, S lvl h tm i o = some (x, h') → S lvl' h1 tm i o = some (x, h1)
theorem stdS_ok (hE : EnvOk E) (hrec : RecOk E rec) : StepOk E (stdS E rec) := ⟨fun hT H G _ _ hs => stepOp_res hE hrec hT H G hs, fun ho hb _ _ _ _ _ _ _ hs => blind_spec ho hb hs⟩
theorem stepOps_sound {S : StepT} (hS : StepOk E S) (ops : Array Oper) : ∀ (l : List Oper) (i : Nat), (∀ j, l[j]? = ops[i + j]?) → ∀ {m : M} {h h' : Heap} {w : World} {tm tm' : Tm} {t : Array Value}, TR m tm t → HR m base lvl h w → GR E.gl base w →
  stepOps S lvl ops l i h tm = some (h', tm') → ∀ (fr : Frame) (cs : List Frame) (k : List Item),
   ∃ t' w' m', Steps E.P (lone (FR fr t (.inRegion ops (List.range' i l.length) :: k)) cs w) (lone (FR fr t' k) cs w') ∧ TR m' tm' t' ∧ HR m' base lvl h' w' ∧ M.leG base m m' ∧ Below base w w'
 | [], i, _, m, h, h', w, tm, tm', t, hT, H, _, hs, fr, cs, k => by
  simp only [stepOps, Option.some.injEq, Prod.mk.injEq] at hs
  obtain ⟨rfl, rfl⟩ := hs
  exact ⟨t, w, m, .one stepF_regionEnd, hT, H, M.leG.refl _ m, Below.refl _ _⟩
 | o :: l, i, hl, m, h, h', w, tm, tm', t, hT, H, G, hs, fr, cs, k => by
  have ho : ops[i]? = some o := by simpa using (hl 0).symm
  have hl' : ∀ j, l[j]? = ops[i + 1 + j]? := fun j => by have := hl (j + 1); simpa [Nat.add_assoc, Nat.add_comm 1 j] using this
  have hs' : (if wantedA ops tm o then match S lvl h tm i o with
   | some (x, h') => stepOps S lvl ops l (i + 1) h' (putT tm o.dst x)
   | none => none
  else stepOps S lvl ops l (i + 1) h (putT tm o.dst (.tup []))) = some (h', tm') := hs
  simp only [List.length_cons, List.range'_succ]
  have hwant := wanted_sound hT ops o
  split at hs'
  ·rename_i hw
   split at hs'
   ·rename_i x h1 hop
    obtain ⟨y, w1, hst, m1, hp, _⟩ := (hS.ok hT H G hop).steps (rest := List.range' (i + 1) l.length) (k := k) ho (by rw [hwant]; exact hw) fr cs
    have hT1 : TR m1 (putT tm o.dst x) (putC t o.dst y) := putT_sound (hT.monoG hp.le) o.dst hp.val
    obtain ⟨t', w', m', hst', r1, r2, r3, r4⟩ := stepOps_sound hS ops l (i + 1) hl' hT1 hp.heap (G.below hp.below) hs' fr cs k
    exact ⟨t', w', m', Steps.trans hst hst', r1, r2, hp.le.trans r3, hp.below.trans r4⟩
   ·simp at hs'
  ·rename_i hw
   have hst := stepF_pass (P := E.P) (fr := fr) (t := t) (cs := cs) (w := w) (k := k) (rest := List.range' (i + 1) l.length) ho (by rw [hwant]; simpa using hw)
   have hT1 : TR m (putT tm o.dst (.tup [])) (putC t o.dst undef) := putT_sound hT o.dst ⟨#[], rfl, trivial⟩
   obtain ⟨t', w', m', hst', r⟩ := stepOps_sound hS ops l (i + 1) hl' hT1 H G hs' fr cs k
   exact ⟨t', w', m', .head hst hst', r⟩
end
end Go.Ev
end
section
namespace Go.Ev
open Go.RowKit
theorem getD0_eq (l : List Nat) (i : Nat) : getD0 l i = l.getD i 0 := by
 unfold getD0
 rw [getL_eq, List.getD_eq_getElem?_getD]
 cases l[i]? <;> rfl
theorem masksFrom_spec : ∀ (l : List Oper) (acc : List Nat), ∃ r : List Nat, masksFrom l acc = acc ++ r ∧ r.length = l.length ∧ ∀ i o, l[i]? = some o → (acc ++ r)[acc.length + i]? = some (maskOf ((acc ++ r).take (acc.length + i)) o.after.toList)
 | [], acc => ⟨[], by simp [masksFrom], rfl, fun i o h => by simp at h⟩
 | o :: l, acc => by
  obtain ⟨r, h1, h2, h3⟩ := masksFrom_spec l (acc ++ [maskOf acc o.after.toList])
  refine ⟨maskOf acc o.after.toList :: r, ?_, by simp [h2], ?_⟩
  ·show masksFrom l (appL acc [maskOf acc o.after.toList]) = _
   rw [appL_eq, h1]; simp
  ·intro i o' hi
   cases i with
   | zero =>
    simp at hi; subst hi
    simp
   | succ i =>
    simp at hi
    have := h3 i o' hi
    simp only [List.append_assoc, List.cons_append, List.nil_append, List.length_append, List.length_cons, List.length_nil] at this
    have e : acc.length + (i + 1) = acc.length + (0 + 1) + i := by omega
    rw [e]
    exact this
theorem mask_step {ops : Array Oper} {i : Nat} {o : Oper} (ho : ops[i]? = some o) (hlt : ∀ e ∈ o.after, bindsB e = true → e.on < i) {j : Nat} (h : Nat.testBit (getD0 (masksFrom ops.toList []) i) j = true) :
  ∃ e ∈ o.after, bindsB e = true ∧ (j = e.on ∨ Nat.testBit (getD0 (masksFrom ops.toList []) e.on) j = true) := by
 obtain ⟨r, h1, h2, h3⟩ := masksFrom_spec ops.toList []
 have h4 := h3 i o (by simpa using ho)
 simp only [List.nil_append, List.length_nil, Nat.zero_add] at h1 h4
 rw [h1] at h ⊢
 have e1 : getD0 r i = maskOf (r.take i) o.after.toList := by rw [getD0_eq, List.getD_eq_getElem?_getD, h4]; rfl
 rw [e1] at h
 have key : ∀ es : List Edge, (∀ e ∈ es, bindsB e = true → e.on < i) → Nat.testBit (maskOf (r.take i) es) j = true → ∃ e ∈ es, bindsB e = true ∧ (j = e.on ∨ Nat.testBit (getD0 r e.on) j = true) := by
  intro es
  induction es with
  | nil => intro _ h; simp [maskOf] at h
  | cons e es ih =>
   intro hlt h
   have h' : Nat.testBit (if bindsB e then Nat.lor (Nat.lor (2 ^ e.on) (getD0 (r.take i) e.on)) (maskOf (r.take i) es) else maskOf (r.take i) es) j = true := h
   split at h'
   ·rename_i hb
    have h'' : Nat.testBit ((2 ^ e.on ||| getD0 (r.take i) e.on) ||| maskOf (r.take i) es) j = true := h'
    rw [Nat.testBit_or, Nat.testBit_or, Nat.testBit_two_pow] at h''
    simp only [Bool.or_eq_true, decide_eq_true_eq] at h''
    rcases h'' with (h'' | h'') | h''
    ·exact ⟨e, by simp, hb, .inl h''.symm⟩
    ·refine ⟨e, by simp, hb, .inr ?_⟩
     have hl := hlt e (by simp) hb
     have : getD0 (r.take i) e.on = getD0 r e.on := by rw [getD0_eq, getD0_eq, List.getD_eq_getElem?_getD, List.getD_eq_getElem?_getD, List.getElem?_take, if_pos hl]
     rwa [this] at h''
    ·obtain ⟨e', he', h2⟩ := ih (fun e he => hlt e (by simp [he])) h''
     exact ⟨e', by simp [he'], h2⟩
   ·obtain ⟨e', he', h2⟩ := ih (fun e he => hlt e (by simp [he])) h'
    exact ⟨e', by simp [he'], h2⟩
 obtain ⟨e, he, hb, hj⟩ := key o.after.toList (fun e he => hlt e (by simpa using he)) h
 exact ⟨e, by simpa using he, hb, hj⟩
theorem binds_any (e : Edge) : Region.binds .any e = bindsB e := by
 unfold Region.binds bindsB
 cases e.ground <;> rfl
theorem writers_spec (d : Nat) : ∀ (l : List Oper) (i j : Nat), j ∈ writers l d i ↔ ∃ k o, j = i + k ∧ l[k]? = some o ∧ o.dst = some d
 | [], i, j => by simp [writers]
 | o :: l, i, j => by
  have ih := writers_spec d l (i + 1) j
  show j ∈ (if (match o.dst with | some e => Nat.beq e d | none => false) then i :: writers l d (i + 1) else writers l d (i + 1)) ↔ _
  have hb : (match o.dst with | some e => Nat.beq e d | none => false) = true ↔ o.dst = some d := by
   cases hd : o.dst with
   | none => simp
   | some e => simp
  generalize (match o.dst with | some e => Nat.beq e d | none => false) = bb at hb
  constructor
  ·intro h
   split at h
   ·rename_i hc
    rcases List.mem_cons.1 h with rfl | h
    ·exact ⟨0, o, rfl, rfl, hb.1 hc⟩
    ·obtain ⟨k, o', h1, h2, h3⟩ := ih.1 h
     exact ⟨k + 1, o', by omega, by simpa using h2, h3⟩
   ·obtain ⟨k, o', h1, h2, h3⟩ := ih.1 h
    exact ⟨k + 1, o', by omega, by simpa using h2, h3⟩
  ·rintro ⟨k, o', h1, h2, h3⟩
   cases k with
   | zero =>
    simp at h2; subst h2
    rw [if_pos (hb.2 h3)]
    simp [h1]
   | succ k =>
    have := ih.2 ⟨k, o', by omega, by simpa using h2, h3⟩
    split
    ·exact List.mem_cons_of_mem _ this
    ·exact this
def Wr (ops : Array Oper) (d i : Nat) : Prop := ∃ o, ops[i]? = some o ∧ o.dst = some d
theorem mem_writers {ops : Array Oper} {d j : Nat} : j ∈ writers ops.toList d 0 ↔ Wr ops d j := by
 rw [writers_spec]
 constructor
 ·rintro ⟨k, o, h1, h2, h3⟩
  exact ⟨o, by rw [h1]; simpa using h2, h3⟩
 ·rintro ⟨o, h1, h2⟩
  exact ⟨j, o, by omega, by simpa using h1, h2⟩
structure OpsOk (ops : Array Oper) : Prop where
 lt : ∀ i o, ops[i]? = some o → ∀ e ∈ o.after, bindsB e = true → e.on < i
 one : ∀ d i j, Wr ops d i → Wr ops d j → i = j
 pre : ∀ i o, ops[i]? = some o → ∀ d ∈ looks ops o, ∀ j, Wr ops d j → Nat.testBit (getD0 (masksFrom ops.toList []) i) j = true ∨ Nat.testBit (getD0 (masksFrom ops.toList []) j) i = true
structure PlanOk (ops : Array Oper) (p : Plan) : Prop extends OpsOk ops where
 chain : chainB (masksFrom ops.toList []) (p.b1 ++ p.b2) = true
 nodup : nodupB (p.b1 ++ p.b2) = true
 apart : ∀ i ∈ p.a, i ∉ p.b1 ++ p.b2
 waits : ∀ i ∈ p.b2, ∀ j ∈ p.a, Nat.testBit (getD0 (masksFrom ops.toList []) i) j = true ∨ blindAt ops j = true
 lookB : ∀ i ∈ p.b1 ++ p.b2, ∀ o, ops[i]? = some o → ∀ d ∈ looks ops o, ∀ j, Wr ops d j → Nat.testBit (getD0 (masksFrom ops.toList []) i) j = true ∨ j ∉ p.a
theorem okOps_spec {ops : Array Oper} {ms : List Nat} : ∀ {l : List Oper} {i : Nat}, okOps ms ops l i = true → ∀ k o, l[k]? = some o →
  (∀ e ∈ o.after, bindsB e = true → e.on < i + k) ∧ (∀ d, o.dst = some d → ∀ j, Wr ops d j → j = i + k) ∧ (∀ d ∈ looks ops o, ∀ j, Wr ops d j → Nat.testBit (getD0 ms (i + k)) j = true ∨ Nat.testBit (getD0 ms j) (i + k) = true)
 | [], i, _, k, o, h => by simp at h
 | o :: l, i, h, k, o', hk => by
  have h' : ((o.after.toList.all fun e => !bindsB e || Nat.blt e.on i) && (match o.dst with | some d => (match writers ops.toList d 0 with | [j] => Nat.beq j i | _ => false) | none => true) &&
   ((looks ops o).all fun d => (writers ops.toList d 0).all fun j => Nat.testBit (getD0 ms i) j || Nat.testBit (getD0 ms j) i) && okOps ms ops l (i + 1)) = true := h
  simp only [Bool.and_eq_true] at h'
  obtain ⟨⟨⟨h1, h2⟩, h3⟩, h4⟩ := h'
  cases k with
  | succ k =>
   have := okOps_spec h4 k o' (by simpa using hk)
   have e : i + 1 + k = i + (k + 1) := by omega
   rwa [e] at this
  | zero =>
   simp at hk; subst hk
   refine ⟨fun e he hb => ?_, fun d hd j hj => ?_, fun d hd j hj => ?_⟩
   ·have := List.all_eq_true.1 h1 e (by simpa using he)
    simp only [hb, Bool.not_true, Bool.false_or] at this
    rw [Nat.blt_eq] at this
    omega
   ·rw [hd] at h2
    simp only at h2
    have hm := mem_writers.2 hj
    split at h2
    ·rename_i j' heq
     rw [heq] at hm
     simp at hm
     have := Nat.eq_of_beq_eq_true h2
     omega
    ·simp at h2
   ·have := List.all_eq_true.1 (List.all_eq_true.1 h3 d hd) j (mem_writers.2 hj)
    simpa using this
theorem opsOk_of {ops : Array Oper} (h1 : okOps (masksFrom ops.toList []) ops ops.toList 0 = true) : OpsOk ops := by
 have hs := fun i o (ho : ops[i]? = some o) => okOps_spec h1 i o (by simpa using ho)
 refine ⟨fun i o ho e he hb => by simpa using (hs i o ho).1 e he hb, fun d i j hi hj => ?_, fun i o ho d hd j hj => by simpa using (hs i o ho).2.2 d hd j hj⟩
 obtain ⟨o, ho, hd⟩ := hi
 have := (hs i o ho).2.1 d hd j hj
 omega
structure SegOk (ops : Array Oper) (n : Nat) (g : Seg) : Prop where
 plan : PlanOk ops (planSeg g)
 okA : okA (masksFrom ops.toList []) ops g.a (List.range g.k) = true
 all : ∀ i, i < g.k' → i ∈ (planSeg g).a ∨ i ∈ g.b1 ++ g.b2
 dom : ∀ i, i < n → g.k' ≤ i → ∀ j, j < g.k' → Nat.testBit (getD0 (masksFrom ops.toList []) i) j = true
 inA : ∀ i ∈ g.a, g.k ≤ i ∧ i < g.k'
 inB : ∀ i ∈ g.b1 ++ g.b2, g.k ≤ i ∧ i < g.k'
 lt : g.k < g.k'
 le : g.k' ≤ n
theorem segOk_of {ops : Array Oper} {n : Nat} {g : Seg} (ho : OpsOk ops) (hok : okSeg (masksFrom ops.toList []) n ops g = true) : SegOk ops n g := by
 unfold okSeg at hok
 simp only [Bool.and_eq_true, appL_eq] at hok
 obtain ⟨⟨⟨⟨⟨⟨⟨⟨⟨⟨⟨h1, h2⟩, h3⟩, h4⟩, h5⟩, h6⟩, h7⟩, h8⟩, h9⟩, h10⟩, h11⟩, h12⟩ := hok
 refine ⟨⟨ho, h2, h3, fun i hi => ?_, fun i hi j hj => ?_, fun i hi o ho d hd j hj => ?_⟩, h1, fun i hi => ?_, fun i hi hk j hj => ?_, fun i hi => ?_, fun i hi => ?_, by simpa using h11, by simpa using h12⟩
 ·have := List.all_eq_true.1 h4 i hi
  simpa [planSeg] using this
 ·have := List.all_eq_true.1 (List.all_eq_true.1 h6 i hi) j hj
  simpa using this
 ·have := List.all_eq_true.1 h7 i hi
  rw [ho] at this
  have := List.all_eq_true.1 (List.all_eq_true.1 this d hd) j (mem_writers.2 hj)
  simpa using this
 ·have := List.all_eq_true.1 h5 i (by simpa using hi)
  simpa using this
 ·have := List.all_eq_true.1 h8 i (by simpa using hi)
  rw [Bool.or_eq_true, Nat.blt_eq] at this
  have e := Nat.eq_of_beq_eq_true (this.resolve_left (by omega))
  have e2 := congrArg (fun x => Nat.testBit x j) e
  have e3 : Nat.land (getD0 (masksFrom ops.toList []) i) (2 ^ g.k' - 1) = getD0 (masksFrom ops.toList []) i &&& (2 ^ g.k' - 1) := rfl
  rw [e3, Nat.testBit_and, Nat.testBit_two_pow_sub_one] at e2
  simp [hj] at e2
  exact e2
 ·have := List.all_eq_true.1 h9 i hi
  simpa using this
 ·have := List.all_eq_true.1 h10 i hi
  simpa using this
theorem chain_spec {ms : List Nat} : ∀ {l : List Nat}, chainB ms l = true → ∀ {x y : Nat} {l1 l2 : List Nat}, l = l1 ++ x :: y :: l2 → Nat.testBit (getD0 ms y) x = true
 | l, h, x, y, [], l2, hl => by
  subst hl
  simp only [List.nil_append, chainB, Bool.and_eq_true] at h
  exact h.1
 | l, h, x, y, a :: l1, l2, hl => by
  subst hl
  have h' : chainB ms (l1 ++ x :: y :: l2) = true := by
   cases l1 with
   | nil => simp only [List.cons_append, List.nil_append, chainB, Bool.and_eq_true] at h ⊢; exact h.2
   | cons b l1 => simp only [List.cons_append, chainB, Bool.and_eq_true] at h ⊢; exact h.2
  exact chain_spec h' rfl
theorem pre_listed {ops : Array Oper} (hp : OpsOk ops) {S : Nat → Prop} (hS : ∀ i o, ops[i]? = some o → S i → ∀ e ∈ o.after, bindsB e = true → S e.on) :
  ∀ (i : Nat) (o : Oper), ops[i]? = some o → (∀ e ∈ o.after, bindsB e = true → S e.on) → ∀ j, Nat.testBit (getD0 (masksFrom ops.toList []) i) j = true → S j := by
 intro i
 induction i using Nat.strongRecOn with
 | _ i ih =>
  intro o ho hd j hj
  obtain ⟨e, he, hb, h⟩ := mask_step ho (hp.lt i o ho) hj
  rcases h with rfl | h
  ·exact hd e he hb
  ·have hlt := hp.lt i o ho e he hb
   have hsz : i < ops.size := (Array.getElem?_eq_some_iff.1 ho).1
   obtain ⟨o', ho'⟩ : ∃ o', ops[e.on]? = some o' := ⟨ops[e.on], Array.getElem?_eq_getElem (by omega)⟩
   exact ih e.on hlt o' ho' (hS e.on o' ho' (hd e he hb)) j h
section order
variable {P : Program} {ops : Array Oper} {fr : Frame} {cs : List Frame} {k : List Item}
theorem all_listed (hp : OpsOk ops) {listed : Array Bool} (hs : listed.size = ops.size) (h : Region.ready .any ops listed = []) : ∀ i, i < ops.size → listed.getD i false = true := by
 intro i
 induction i using Nat.strongRecOn with
 | _ i ih =>
  intro hi
  cases hl : listed.getD i false with
  | true => rfl
  | false =>
   exfalso
   have hl' : listed.getD i true = false := by
    have hb : i < listed.size := by omega
    simp [hb] at hl ⊢
    exact hl
   have : i ∈ Region.ready .any ops listed := mem_ready.2 ⟨hl', ops[i], Array.getElem?_eq_getElem hi, fun e he hb => by
    rw [binds_any] at hb
    have hlt := hp.lt i ops[i] (Array.getElem?_eq_getElem hi) e he hb
    exact ih e.on hlt (by omega)⟩
   rw [h] at this
   simp at this
end order
end Go.Ev
end
section
namespace Go.Ev
open Go.RowKit
theorem CR.downG {bs : Nat} {m0 m : M} (hle : M.leG bs m0 m) : ∀ {x : AC} {y : Value}, (x.flat = true ∨ m.F = m0.F) → (∀ b ∈ x.refs, b < m0.n) → CR m x y → CR m0 x y
 | .v _, _, _, _, r => r
 | .any _, _, _, _, r => r
 | .dp _, _, hf, _, r => by
  rcases hf with hf | hf
  ·simp [AC.flat] at hf
  ·exact DV.R.mono (fun p hp => by rw [← hf]; exact hp) r
 | .mp b, _, _, hb, r => by
  have := hb b (by simp [AC.refs])
  exact ⟨this, by rw [← hle.ρ b this]; exact r.2⟩
 | .ptr b o, _, _, hb, r => by
  have := hb b (by simp [AC.refs])
  exact ⟨this, by rw [← hle.ρ b this]; exact r.2⟩
 | .slc b o len sz cap ex, _, _, hb, r => by
  have := hb b (by simp [AC.refs])
  obtain ⟨_, c, o', hy, h0, h1, h1', h2, h3, h4⟩ := r
  exact ⟨this, c, o', by rw [← hle.ρ b this]; exact hy, h0, h1, h1', h2, by rw [← hle.κ b this]; exact h3, h4⟩
 | .yld b, _, _, hb, r => by
  have := hb b (by simp [AC.refs])
  exact ⟨this, by rw [← hle.ρ b this]; exact r.2⟩
 | .clo g fs cs, _, hf, hb, r => by
  obtain ⟨vf, vc, hy, h1, h2⟩ := r
  have hf' : ((fs.all fun e => e.atoms.all CA.flat) = true ∧ (cs.all fun e => e.atoms.all CA.flat) = true) ∨ m.F = m0.F := hf.imp_left fun h => by simpa only [AC.flat, Bool.and_eq_true] using h
  exact ⟨vf, vc, hy, CEs.to (fun e he c hc y hr => CR.downG hle (hf'.imp_left fun h => by rw [CA.flat_ac]; exact List.all_eq_true.1 (List.all_eq_true.1 h.1 e he) c hc) (fun b hb' => hb b (List.mem_append_left _ (CE.mem_refs he hc hb'))) hr) h1,
   CEs.to (fun e he c hc y hr => CR.downG hle (hf'.imp_left fun h => by rw [CA.flat_ac]; exact List.all_eq_true.1 (List.all_eq_true.1 h.2 e he) c hc) (fun b hb' => hb b (List.mem_append_right _ (CE.mem_refs he hc hb'))) hr) h2⟩
termination_by x => x.rank
decreasing_by all_goals (rw [CA.rank_ac]; exact Nat.one_pos)
theorem all2_down {α β : Type} {R S : α → β → Prop} : ∀ {l : List α} {ys : List β}, (∀ a ∈ l, ∀ b, R a b → S a b) → All2 R l ys → All2 S l ys
 | [], [], _, _ => trivial
 | _ :: _, _ :: _, hg, h => ⟨hg _ (by simp) _ h.1, all2_down (fun a ha => hg a (by simp [ha])) h.2⟩
theorem ER.downG {bs : Nat} {m0 m : M} (hle : M.leG bs m0 m) : ∀ {x : AE} {y : Value}, (x.flat = true ∨ m.F = m0.F) → (∀ b ∈ x.refs, b < m0.n) → ER m x y → ER m0 x y
 | .one _, _, hf, hb, r => CR.downG hle hf hb r
 | .agg l, _, hf, hb, r => by
  obtain ⟨cs, hy, ha⟩ := r
  exact ⟨cs, hy, all2_down (fun a h b hab => CR.downG hle (hf.imp_left fun hf => List.all_eq_true.1 hf a h) (fun k hk => hb k (List.mem_flatMap.2 ⟨a, h, hk⟩)) hab) ha⟩
theorem VR.downG {bs : Nat} {m0 m : M} (hle : M.leG bs m0 m) : ∀ {x : AV} {y : Value}, (x.flat = true ∨ m.F = m0.F) → (∀ b ∈ x.refs, b < m0.n) → VR m x y → VR m0 x y
 | .e _, _, hf, hb, r => ER.downG hle hf hb r
 | .tup l, _, hf, hb, r => by
  obtain ⟨cs, hy, ha⟩ := r
  exact ⟨cs, hy, all2_down (fun a h b hab => ER.downG hle (hf.imp_left fun hf => List.all_eq_true.1 hf a h) (fun k hk => hb k (List.mem_flatMap.2 ⟨a, h, hk⟩)) hab) ha⟩
theorem PostO.down {o : Oper} {m : M} {base lvl : Nat} {w : World} {x : AV} {h' : Heap} {y : Value} {w' : World} {m' : M} (hp : PostO o m base lvl w x h' y w' m') (hf : callV o = false ∨ x.flat = true) (hb : ∀ b ∈ x.refs, b < m.n) : VR m x y :=
 VR.downG hp.1.le (hf.elim (fun h => .inr (hp.2 h).F) .inl) hb hp.1.val
theorem CR.refs_lt {m : M} : ∀ {x : AC} {y : Value}, CR m x y → ∀ b ∈ x.refs, b < m.n
 | .v _, _, _, b, hb => by simp [AC.refs] at hb
 | .ptr b' o, _, r, b, hb => by simp [AC.refs] at hb; subst hb; exact r.1
 | .slc b' o len sz cap ex, _, r, b, hb => by simp [AC.refs] at hb; subst hb; exact r.1
 | .yld b', _, r, b, hb => by simp [AC.refs] at hb; subst hb; exact r.1
 | .mp b', _, r, b, hb => by simp [AC.refs] at hb; subst hb; exact r.1
 | .dp _, _, _, b, hb => by simp [AC.refs] at hb
 | .any _, _, _, b, hb => by simp [AC.refs] at hb
 | .clo g fs cs, _, r, b, hb => by
  obtain ⟨vf, vc, hy, h1, h2⟩ := r
  rcases List.mem_append.1 hb with hb | hb
  ·obtain ⟨e, he, c, hc, hb⟩ := CE.of_refs hb
   obtain ⟨y, hy⟩ := CEs.mem h1 e he c hc
   exact CR.refs_lt hy b hb
  ·obtain ⟨e, he, c, hc, hb⟩ := CE.of_refs hb
   obtain ⟨y, hy⟩ := CEs.mem h2 e he c hc
   exact CR.refs_lt hy b hb
termination_by x => x.rank
decreasing_by all_goals (rw [CA.rank_ac]; exact Nat.one_pos)
theorem all2_mem {α β : Type} {R : α → β → Prop} : ∀ {l : List α} {ys : List β}, All2 R l ys → ∀ a ∈ l, ∃ b, R a b
 | [], _, _, a, ha => by simp at ha
 | x :: l, y :: ys, h, a, ha => by
  rcases List.mem_cons.1 ha with rfl | ha
  ·exact ⟨y, h.1⟩
  ·exact all2_mem h.2 a ha
theorem ER.refs_lt {m : M} : ∀ {x : AE} {y : Value}, ER m x y → ∀ b ∈ x.refs, b < m.n
 | .one _, _, r, b, hb => CR.refs_lt r b hb
 | .agg l, _, r, b, hb => by
  obtain ⟨cs, _, ha⟩ := r
  obtain ⟨a, h1, h2⟩ := List.mem_flatMap.1 hb
  obtain ⟨c, hc⟩ := all2_mem ha a h1
  exact CR.refs_lt hc b h2
theorem VR.refs_lt {m : M} : ∀ {x : AV} {y : Value}, VR m x y → ∀ b ∈ x.refs, b < m.n
 | .e _, _, r, b, hb => ER.refs_lt r b hb
 | .tup l, _, r, b, hb => by
  obtain ⟨cs, _, ha⟩ := r
  obtain ⟨a, h1, h2⟩ := List.mem_flatMap.1 hb
  obtain ⟨c, hc⟩ := all2_mem ha a h1
  exact ER.refs_lt hc b h2
theorem evC_looks {ops : Array Oper} {o : Oper} {t t' : Array Value} (h : ∀ d ∈ looks ops o, t.getD d undef = t'.getD d undef) : ∀ x ∈ o.op.operands, evC t x = evC t' x := by
 intro x hx
 cases x with
 | tmp i =>
  exact h i (List.mem_append_left _ (List.mem_flatMap.2 ⟨.tmp i, by simpa using hx, by simp⟩))
 | _ => rfl
theorem wanted_looks {ops : Array Oper} {o : Oper} {t t' : Array Value} (hs : t.size = t'.size) (h : ∀ d ∈ looks ops o, t.getD d undef = t'.getD d undef) : Region.wanted o (yielded ops t) = Region.wanted o (yielded ops t') := by
 unfold Region.wanted
 cases hg : o.guard with
 | none => rfl
 | some p =>
  obtain ⟨j, want⟩ := p
  simp only
  unfold yielded
  cases hd : (ops[j]?).bind (·.dst) with
  | none => rfl
  | some d =>
   have hd' := h d (by
    refine List.mem_append_right _ ?_
    rw [hg]
    simp [hd])
   simp only [Option.bind_some]
   by_cases hlt : d < t.size
   ·have hlt' : d < t'.size := hs ▸ hlt
    simp only [Array.getD_eq_getD_getElem?, Array.getElem?_eq_getElem hlt, Array.getElem?_eq_getElem hlt', Option.getD_some] at hd' ⊢
    rw [hd']
   ·rw [Array.getElem?_eq_none (Nat.not_lt.1 hlt), Array.getElem?_eq_none (by rw [← hs]; exact Nat.not_lt.1 hlt)]
section mix
variable {m : M} {tm : Tm} {τ t : Array Value} {S : List Nat}
def mix (S : List Nat) (t τ : Array Value) : Array Value := (Array.range τ.size).map fun d => if S.contains d then t.getD d undef else τ.getD d undef
theorem mix_size : (mix S t τ).size = τ.size := by simp [mix]
theorem mix_get {d : Nat} (h : d < τ.size) : (mix S t τ)[d]? = some (if S.contains d then t.getD d undef else τ.getD d undef) := by
 simp [mix, h]
theorem mix_in {d : Nat} (hs : t.size = τ.size) (hd : d ∈ S) : (mix S t τ).getD d undef = t.getD d undef := by
 by_cases h : d < τ.size
 ·simp only [Array.getD_eq_getD_getElem?, mix_get h, Option.getD_some, List.contains_eq_mem, hd, decide_true, if_true]
 ·simp only [Array.getD_eq_getD_getElem?]
  rw [Array.getElem?_eq_none (by rw [mix_size]; omega), Array.getElem?_eq_none (by omega)]
theorem mix_sound (hτ : TR m tm τ) (h : ∀ d ∈ S, ∀ a, tm[d]? = some a → VR m a (t.getD d undef)) : TR m tm (mix S t τ) := by
 have hl := hτ.length
 apply All2.of_get
 ·rw [hl]; simp [mix_size]
 ·intro d a y ha hy
  have hd : d < τ.size := by
   have := (List.getElem?_eq_some_iff.1 ha).1
   simp at hl; omega
  have hy' : (mix S t τ)[d]? = some y := by simpa using hy
  rw [mix_get hd] at hy'
  simp only [Option.some.injEq] at hy'
  by_cases hS : d ∈ S
  ·simp only [List.contains_eq_mem, hS, decide_true, if_true] at hy'
   rw [← hy']; exact h d hS a ha
  ·simp only [List.contains_eq_mem, hS, decide_false, Bool.false_eq_true, if_false] at hy'
   rw [← hy']
   obtain ⟨b, hb, hr⟩ := hτ.get ha
   have : τ[d]? = some b := by simpa using hb
   simp only [Array.getD_eq_getD_getElem?, this, Option.getD_some]
   exact hr
end mix
theorem putT_length (tm : Tm) (d : Option Nat) (x : AV) : (putT tm d x).length = tm.length := by
 cases d <;> simp [putT, setL_eq]
theorem putT_ne {tm : Tm} {d : Option Nat} {x : AV} {k : Nat} (h : d ≠ some k) : (putT tm d x)[k]? = tm[k]? := by
 cases d with
 | none => rfl
 | some d =>
  simp only [putT, setL_eq]
  rw [List.getElem?_set_ne]
  intro e; exact h (by rw [e])
theorem putT_eq {tm : Tm} {x : AV} {k : Nat} (h : k < tm.length) : (putT tm (some k) x)[k]? = some x := by
 simp [putT, setL_eq, h]
theorem putC_size (t : Array Value) (d : Option Nat) (y : Value) : (putC t d y).size = t.size := by
 cases d <;> simp [putC]
theorem putC_ne {t : Array Value} {d : Option Nat} {y : Value} {k : Nat} (h : d ≠ some k) : (putC t d y)[k]? = t[k]? := by
 cases d with
 | none => rfl
 | some d =>
  simp only [putC]
  rw [Array.getElem?_setIfInBounds_ne]
  intro e; exact h (by rw [e])
theorem putC_eq {t : Array Value} {y : Value} {k : Nat} (h : k < t.size) : (putC t (some k) y)[k]? = some y := by
 simp [putC, h]
section draws
variable {E : Env} {S : StepT} (hS : StepOk E S) {ops : Array Oper}
def FactA (S : StepT) (ops : Array Oper) (A : List Nat) (h0 : Heap) (m0 : M) (tm0 tmA : Tm) (i : Nat) : Prop :=
  ∃ o tmi τ, ops[i]? = some o ∧ TR m0 tmi τ ∧ τ.size = tm0.length ∧ (∀ d ∈ looks ops o, (∀ j, Wr ops d j → ¬ Nat.testBit (getD0 (masksFrom ops.toList []) i) j = true) → tmi[d]? = tm0[d]?) ∧ (∀ d ∈ looks ops o, ∀ j, Wr ops d j → Nat.testBit (getD0 (masksFrom ops.toList []) i) j = true → j ∈ A ∧ tmi[d]? = tmA[d]?) ∧
    ((wantedA ops tmi o = true ∧ ∃ x h', S (lenL h0) h0 tmi i o = some (x, h') ∧ (callV o = false ∨ x.flat = true) ∧ (∀ b ∈ x.refs, b < h0.length) ∧ ∀ d, o.dst = some d → d < tm0.length → tmA[d]? = some x) ∨
     (wantedA ops tmi o = false ∧ ∀ d, o.dst = some d → d < tm0.length → tmA[d]? = some (.tup [])))
include hS in
theorem passA_facts {p : Plan} (hp : PlanOk ops p) {h0 : Heap} {m0 : M} {w0 : World} (H0 : HR m0 w0.heap.size h0.length h0 w0) (G : GR E.gl w0.heap.size w0) {tm0 : Tm} :
  ∀ (l seen : List Nat) (tm tmA : Tm) (τ : Array Value), okA (masksFrom ops.toList []) ops l seen = true → (∀ j ∈ seen, j ∈ p.a) → (∀ j ∈ l, j ∈ p.a) → TR m0 tm τ → tm.length = tm0.length → (∀ d, (∀ j, ¬ Wr ops d j) → tm[d]? = tm0[d]?) → (∀ d j, Wr ops d j → j ∉ seen → tm[d]? = tm0[d]?) → passA S ops h0 l tm = some tmA →
   (∃ τA, TR m0 tmA τA) ∧ tmA.length = tm0.length ∧ (∀ d, (∀ j, Wr ops d j → j ∉ l) → tmA[d]? = tm[d]?) ∧ ∀ i ∈ l, FactA S ops p.a h0 m0 tm0 tmA i
 | [], seen, tm, tmA, τ, _, _, _, hτ, hlen, _, _, hs => by
  simp only [passA, Option.some.injEq] at hs
  subst hs
  exact ⟨⟨τ, hτ⟩, hlen, fun _ _ => rfl, fun i hi => by simp at hi⟩
 | i :: l, seen, tm, tmA, τ, hok, hsub, hsub2, hτ, hlen, hno, hun, hs => by
  have hok' : ((match ops[i]? with
   | some o => (looks ops o).all fun d => (writers ops.toList d 0).all fun j => if Nat.testBit (getD0 (masksFrom ops.toList []) i) j then seen.contains j else !seen.contains j
   | none => false) && !seen.contains i && okA (masksFrom ops.toList []) ops l (i :: seen)) = true := hok
  simp only [Bool.and_eq_true, Bool.not_eq_true', List.contains_eq_mem, decide_eq_false_iff_not] at hok'
  obtain ⟨⟨ha, hni⟩, hokl⟩ := hok'
  have hs' : (match ops[i]? with
   | some o => if wantedA ops tm o then (match S (lenL h0) h0 tm i o with
     | some (x, _) => if refsBelow (lenL h0) x.refs && (!callV o || x.flat) then passA S ops h0 l (putT tm o.dst x) else none
     | none => none) else passA S ops h0 l (putT tm o.dst (.tup []))
   | none => none) = some tmA := hs
  have notLater : ∀ {l : List Nat} {seen : List Nat}, okA (masksFrom ops.toList []) ops l seen = true → ∀ j ∈ seen, j ∉ l := by
   intro l
   induction l with
   | nil => intro seen _ j _; simp
   | cons a l ih =>
    intro seen h j hj
    have h' : ((match ops[a]? with
     | some o => (looks ops o).all fun d => (writers ops.toList d 0).all fun j => if Nat.testBit (getD0 (masksFrom ops.toList []) a) j then seen.contains j else !seen.contains j
     | none => false) && !seen.contains a && okA (masksFrom ops.toList []) ops l (a :: seen)) = true := h
    simp only [Bool.and_eq_true, Bool.not_eq_true', List.contains_eq_mem, decide_eq_false_iff_not] at h'
    intro hm
    rcases List.mem_cons.1 hm with rfl | hm
    ·exact h'.1.2 hj
    ·exact ih h'.2 j (by simp [hj]) hm
  cases ho : ops[i]? with
  | none => rw [ho] at ha; simp at ha
  | some o =>
   rw [ho] at ha hs'
   simp only at ha hs'
   have hlook : ∀ d ∈ looks ops o, ∀ j, Wr ops d j → Nat.testBit (getD0 (masksFrom ops.toList []) i) j = true → j ∈ seen := fun d hd j hj hw => by
    have := List.all_eq_true.1 (List.all_eq_true.1 ha d hd) j (mem_writers.2 hj)
    rw [if_pos hw] at this
    simpa using this
   have hlook2 : ∀ d ∈ looks ops o, ∀ j, Wr ops d j → ¬ Nat.testBit (getD0 (masksFrom ops.toList []) i) j = true → j ∉ seen := fun d hd j hj hw => by
    have := List.all_eq_true.1 (List.all_eq_true.1 ha d hd) j (mem_writers.2 hj)
    rw [if_neg hw] at this
    simpa using this
   -- whatever is put, the rest goes on
   have go : ∀ (x : AV) (y : Value), VR m0 x y → passA S ops h0 l (putT tm o.dst x) = some tmA →
     ((∃ τA, TR m0 tmA τA) ∧ tmA.length = tm0.length ∧ (∀ d, (∀ j, Wr ops d j → j ∉ i :: l) → tmA[d]? = tm[d]?) ∧ (∀ k ∈ l, FactA S ops p.a h0 m0 tm0 tmA k)) ∧
     (∀ d, (∀ j, Wr ops d j → j ∈ seen) → tmA[d]? = tm[d]?) ∧ ∀ d, o.dst = some d → d < tm0.length → tmA[d]? = some x := by
    intro x y hxy hrest
    have hw : ∀ d, o.dst = some d → Wr ops d i := fun d hd => ⟨o, ho, hd⟩
    obtain ⟨g1, g2, g3, g4⟩ := passA_facts (tm0 := tm0) hp H0 G l (i :: seen) (putT tm o.dst x) tmA (putC τ o.dst y) hokl (fun j hj => (List.mem_cons.1 hj).elim (fun e => by rw [e]; exact hsub2 i (by simp)) (hsub j)) (fun j hj => hsub2 j (by simp [hj])) (putT_sound hτ o.dst hxy) (by rw [putT_length]; exact hlen)
     (fun d hd => by
      rw [putT_ne (fun e => hd i (hw d e))]; exact hno d hd)
     (fun d j hj hn => by
      simp at hn
      rw [putT_ne (fun e => hn.1 (hp.one d j i hj (hw d e)))]; exact hun d j hj hn.2) hrest
    refine ⟨⟨g1, g2, fun d hd => ?_, g4⟩, fun d hd => ?_, fun d hd hlt => ?_⟩
    ·rw [g3 d fun j hj hm => hd j hj (by simp [hm])]
     exact putT_ne fun e => hd i (hw d e) (by simp)
    ·rw [g3 d fun j hj => notLater hokl j (by simp [hd j hj])]
     exact putT_ne fun e => hni (hd i (hw d e))
    ·rw [g3 d fun j hj hm => ?_, hd]
     ·exact putT_eq (by rw [hlen]; exact hlt)
     ·have : j = i := hp.one d j i hj (hw d hd)
      subst this
      exact notLater hokl j (by simp) hm
   have fact : ∀ x, (∀ d, (∀ j, Wr ops d j → j ∈ seen) → tmA[d]? = tm[d]?) → (∀ d, o.dst = some d → d < tm0.length → tmA[d]? = some x) →
     ((wantedA ops tm o = true ∧ ∃ h', S (lenL h0) h0 tm i o = some (x, h') ∧ (callV o = false ∨ x.flat = true) ∧ ∀ b ∈ x.refs, b < h0.length) ∨ (wantedA ops tm o = false ∧ x = .tup [])) → FactA S ops p.a h0 m0 tm0 tmA i := by
    intro x k1 k2 k3
    refine ⟨o, tm, τ, ho, hτ, ?_, fun d hd hn => ?_, fun d hd j hj hw => ⟨hsub j (hlook d hd j hj hw), (k1 d fun j' hj' => by rw [hp.one d j' j hj' hj]; exact hlook d hd j hj hw).symm⟩, ?_⟩
    ·have := hτ.length; simp at this; omega
    ·by_cases hex : ∃ j, Wr ops d j
     ·obtain ⟨j, hj⟩ := hex
      exact hun d j hj (hlook2 d hd j hj (hn j hj))
     ·exact hno d fun j hj => hex ⟨j, hj⟩
    ·rcases k3 with ⟨k3, h', k4, kf, k5⟩ | ⟨k3, rfl⟩
     ·exact .inl ⟨k3, x, h', k4, kf, k5, k2⟩
     ·exact .inr ⟨k3, k2⟩
   split at hs'
   ·rename_i hwant
    split at hs'
    ·rename_i x hx' hst
     split at hs'
     ·rename_i hrb
      simp only [Bool.and_eq_true, Bool.or_eq_true, Bool.not_eq_true'] at hrb
      obtain ⟨hrb, hfl⟩ := hrb
      have hrefs : ∀ b ∈ x.refs, b < h0.length := fun b hb => by
       have := List.all_eq_true.1 hrb b hb
       rw [Nat.blt_eq, lenL_eq] at this
       exact this
      have hst' := hst
      rw [lenL_eq] at hst'
      obtain ⟨y, w', m', hpost⟩ := (hS.ok hτ H0 G hst').some
      have hy : VR m0 x y := hpost.down hfl (fun b hb => by rw [H0.n]; exact hrefs b hb)
      obtain ⟨⟨g1, g2, g3, g4⟩, g5, g6⟩ := go x y hy hs'
      refine ⟨g1, g2, g3, fun k hk => ?_⟩
      rcases List.mem_cons.1 hk with rfl | hk
      ·exact fact x g5 g6 (.inl ⟨hwant, hx', hst, hfl, hrefs⟩)
      ·exact g4 k hk
     ·simp at hs'
    ·simp at hs'
   ·rename_i hwant
    obtain ⟨⟨g1, g2, g3, g4⟩, g5, g6⟩ := go (.tup []) undef ⟨#[], rfl, trivial⟩ hs'
    refine ⟨g1, g2, g3, fun k hk => ?_⟩
    rcases List.mem_cons.1 hk with rfl | hk
    ·exact fact (.tup []) g5 g6 (.inr ⟨by simpa using hwant, rfl⟩)
    ·exact g4 k hk
theorem passB_keeps {lvl : Nat} : ∀ (l : List Nat) (h : Heap) (tm : Tm) (h' : Heap) (tm' : Tm), passB S lvl ops l h tm = some (h', tm') → tm'.length = tm.length ∧ ∀ d, (∀ j, Wr ops d j → j ∉ l) → tm'[d]? = tm[d]?
 | [], h, tm, h', tm', hs => by
  simp only [passB, Option.some.injEq, Prod.mk.injEq] at hs
  obtain ⟨rfl, rfl⟩ := hs
  exact ⟨rfl, fun _ _ => rfl⟩
 | i :: l, h, tm, h', tm', hs => by
  have hs' : (match ops[i]? with
   | some o => if wantedA ops tm o then (match S lvl h tm i o with
     | some (x, h1) => passB S lvl ops l h1 (putT tm o.dst x)
     | none => none) else passB S lvl ops l h (putT tm o.dst (.tup []))
   | none => none) = some (h', tm') := hs
  cases ho : ops[i]? with
  | none => rw [ho] at hs'; simp at hs'
  | some o =>
   rw [ho] at hs'
   simp only at hs'
   have go : ∀ x h1, passB S lvl ops l h1 (putT tm o.dst x) = some (h', tm') → tm'.length = tm.length ∧ ∀ d, (∀ j, Wr ops d j → j ∉ i :: l) → tm'[d]? = tm[d]? := by
    intro x h1 hr
    obtain ⟨g1, g2⟩ := passB_keeps l h1 _ h' tm' hr
    refine ⟨by rw [g1, putT_length], fun d hd => ?_⟩
    rw [g2 d fun j hj hm => hd j hj (by simp [hm])]
    exact putT_ne fun e => hd i ⟨o, ho, e⟩ (by simp)
   split at hs'
   ·split at hs'
    ·exact go _ _ hs'
    ·simp at hs'
   ·exact go _ _ hs'
end draws
end Go.Ev
end
section
namespace Go.Ev
open Go.RowKit
def Virt (ops ops0 : Array Oper) (σ : Nat → Nat) : Prop :=
 ∀ i o, ops[i]? = some o → ∃ a g, ops0[σ i]? = some { o with after := a, guard := g } ∧ ∀ t : Array Value, Region.wanted { o with after := a, guard := g } (yielded ops0 t) = Region.wanted o (yielded ops t)
theorem Virt.refl (ops : Array Oper) : Virt ops ops id := fun _ o ho => ⟨o.after, o.guard, ho, fun _ => rfl⟩
theorem OpRes.virt {P : Program} {t : Array Value} {o : Oper} {w : World} {R : Value → World → Prop} (h : OpRes P t o w R) (a : Array Edge) (g : Option (Nat × Bool)) : OpRes P t { o with after := a, guard := g } w R := h
theorem Virt.pass {P : Program} {ops ops0 : Array Oper} {σ : Nat → Nat} (hσ : Virt ops ops0 σ) {i : Nat} {o : Oper} (ho : ops[i]? = some o) {t : Array Value} (hw : Region.wanted o (yielded ops t) = false) {rest : List Nat} {k : List Item} {fr : Frame} {cs : List Frame} {w : World} :
  Steps P (lone (FR fr t (.inRegion ops0 (σ i :: rest) :: k)) cs w) (lone (FR fr (putC t o.dst undef) (.inRegion ops0 rest :: k)) cs w) := by
 obtain ⟨a, g, h0, h1⟩ := hσ i o ho
 exact .one (stepF_pass (o := { o with after := a, guard := g }) h0 (by rw [h1, hw]))
def ValidL (ops : Array Oper) : Array Bool → List Nat → Prop
 | listed, [] => Region.ready .any ops listed = []
 | listed, i :: l => i ∈ Region.ready .any ops listed ∧ ValidL ops (listed.setIfInBounds i true) l
theorem go_valid {ops : Array Oper} : ∀ (fuel tp : Nat) (listed : Array Bool) (rem : List Nat), (∀ i, i < ops.size → listed.getD i true = false → i ∈ rem) → rem.length ≤ fuel → ValidL ops listed (Region.linearise.go .any ops fuel tp listed []) := by
 intro fuel
 induction fuel with
 | zero =>
  intro tp listed rem hrem hlen
  have : rem = [] := List.eq_nil_of_length_eq_zero (by omega)
  subst this
  simp only [Region.linearise.go, List.reverse_nil]
  apply List.eq_nil_iff_forall_not_mem.2
  intro i hi
  obtain ⟨h1, o, h2, _⟩ := mem_ready.1 hi
  exact absurd (hrem i (Array.getElem?_eq_some_iff.1 h2).1 h1) (by simp)
 | succ fuel ih =>
  intro tp listed rem hrem hlen
  simp only [Region.linearise.go]
  change ValidL ops listed (match (Region.ready .any ops listed)[tp % (Region.ready .any ops listed).length]? with
   | some i => Region.linearise.go .any ops fuel (tp / (Region.ready .any ops listed).length) (listed.setIfInBounds i true) [i]
   | none => [].reverse)
  cases hi : (Region.ready .any ops listed)[tp % (Region.ready .any ops listed).length]? with
  | none =>
   have hnil : Region.ready .any ops listed = [] := by
    cases hr : Region.ready .any ops listed with
    | nil => rfl
    | cons x xs =>
     rw [hr] at hi
     have hlt : tp % (x :: xs).length < (x :: xs).length := Nat.mod_lt _ (by simp)
     simp at hi
     simp at hlt
     omega
   exact hnil
  | some i =>
   simp only []
   rw [linearise_go_acc, List.reverse_singleton, List.singleton_append]
   have hmem := List.mem_of_getElem? hi
   obtain ⟨h1, o, h2, _⟩ := mem_ready.1 hmem
   have hin := hrem i (Array.getElem?_eq_some_iff.1 h2).1 h1
   refine ⟨hmem, ih _ _ (rem.erase i) (fun j hj hl => ?_) (by
    have := List.length_erase_of_mem hin
    omega)⟩
   by_cases hij : i = j
   ·subst hij
    by_cases hb : i < listed.size
    ·simp [hb] at hl
    ·simp [hb] at h1
   ·rw [getD_set_ne true hij] at hl
    exact (List.mem_erase_of_ne (fun e => hij e.symm)).2 (hrem j hj hl)
theorem list_sound {P : Program} {ops ops0 : Array Oper} {σ : Nat → Nat} {fr : Frame} {cs : List Frame} {k : List Item} (Inv : Array Bool → Array Value → World → Prop)
  (hstep : ∀ listed t w i, Inv listed t w → i ∈ Region.ready .any ops listed → ∀ rest, ∃ t' w', Steps P (lone (FR fr t (.inRegion ops0 (σ i :: rest) :: k)) cs w) (lone (FR fr t' (.inRegion ops0 rest :: k)) cs w') ∧ Inv (listed.setIfInBounds i true) t' w') :
  ∀ (l : List Nat) (listed : Array Bool) (t : Array Value) (w : World), Inv listed t w → ValidL ops listed l →
   ∃ t' w' listed', Steps P (lone (FR fr t (.inRegion ops0 (l.map σ) :: k)) cs w) (lone (FR fr t' (.inRegion ops0 [] :: k)) cs w') ∧ Inv listed' t' w' ∧ Region.ready .any ops listed' = []
 | [], listed, t, w, hI, hv => ⟨t, w, listed, .refl _ _, hI, hv⟩
 | i :: l, listed, t, w, hI, hv => by
  obtain ⟨t1, w1, hst, hI1⟩ := hstep listed t w i hI hv.1 (l.map σ)
  obtain ⟨t', w', l', g1, g2, g3⟩ := list_sound Inv hstep l _ t1 w1 hI1 hv.2
  exact ⟨t', w', l', Steps.trans hst g1, g2, g3⟩
section draws
variable {E : Env} {S : StepT} (hS : StepOk E S) {ops ops0 : Array Oper} {σ : Nat → Nat} (hσ : Virt ops ops0 σ)
include hS hσ in
theorem stepB {m : M} {base lvl : Nat} {hk : Heap} {w : World} {tmk : Tm} {τ t : Array Value} (hτ : TR m tmk τ) (hsz : t.size = tmk.length) (H : HR m base lvl hk w) (G : GR E.gl base w) {i : Nat} {o : Oper} (ho : ops[i]? = some o) {l : List Nat} {r : Heap × Tm}
  (hlook : ∀ d ∈ looks ops o, ∀ a, tmk[d]? = some a → VR m a (t.getD d undef)) (hs : passB S lvl ops (i :: l) hk tmk = some r) (fr : Frame) (cs : List Frame) (rest : List Nat) (k : List Item) :
  ∃ y x h1 w' m', Steps E.P (lone (FR fr t (.inRegion ops0 (σ i :: rest) :: k)) cs w) (lone (FR fr (putC t o.dst y) (.inRegion ops0 rest :: k)) cs w') ∧ M.leG base m m' ∧ VR m' x y ∧ HR m' base lvl h1 w' ∧ Below base w w' ∧ passB S lvl ops l h1 (putT tmk o.dst x) = some r := by
 have hs' : (match ops[i]? with
  | some o => if wantedA ops tmk o then (match S lvl hk tmk i o with
    | some (x, h1) => passB S lvl ops l h1 (putT tmk o.dst x)
    | none => none) else passB S lvl ops l hk (putT tmk o.dst (.tup []))
  | none => none) = some r := hs
 rw [ho] at hs'
 simp only at hs'
 have hτs : τ.size = tmk.length := by have := hτ.length; simp at this; omega
 have hmix : TR m tmk (mix (looks ops o) t τ) := mix_sound hτ hlook
 have hag : ∀ d ∈ looks ops o, (mix (looks ops o) t τ).getD d undef = t.getD d undef := fun d hd => mix_in (by omega) hd
 have hw : Region.wanted o (yielded ops t) = wantedA ops tmk o := by
  rw [← wanted_sound hmix ops o]
  exact (wanted_looks (by rw [mix_size]; omega) hag).symm
 split at hs'
 ·rename_i hwant
  split at hs'
  ·rename_i x h1 hst
   have hres := (hS.ok hmix H G hst).congr (evC_looks hag)
   obtain ⟨av, gv, ho0, hw0⟩ := hσ i o ho
   obtain ⟨y, w', hsteps, m', hp, _⟩ := (hres.virt av gv).steps (rest := rest) (k := k) ho0 (by rw [hw0, hw]; exact hwant) fr cs
   exact ⟨y, x, h1, w', m', hsteps, hp.le, hp.val, hp.heap, hp.below, hs'⟩
  ·simp at hs'
 ·rename_i hwant
  exact ⟨undef, .tup [], hk, w, m, hσ.pass ho (by rw [hw]; simpa using hwant), M.leG.refl _ m, ⟨#[], rfl, trivial⟩, H, Below.refl _ _, hs'⟩
theorem head_of {ms : List Nat} {L : Nat → Prop} {pre rem : List Nat} (hc : chainB ms (pre ++ rem) = true) {i : Nat} (hi : i ∈ rem) (hpre : ∀ j, Nat.testBit (getD0 ms i) j = true → L j) (hun : ∀ j ∈ rem, ¬ L j) : ∃ l, rem = i :: l := by
 obtain ⟨l1, l2, rfl⟩ := List.append_of_mem hi
 rcases List.eq_nil_or_concat l1 with rfl | ⟨l1', z, rfl⟩
 ·exact ⟨l2, rfl⟩
 ·exfalso
  have := chain_spec hc (x := z) (y := i) (l1 := pre ++ l1') (l2 := l2) (by simp)
  exact hun z (by simp) (hpre z this)
theorem blind_callV {ops : Array Oper} {i : Nat} {o : Oper} (ho : ops[i]? = some o) (hb : blindAt ops i = true) : callV o = false := by
 unfold blindAt at hb
 rw [ho] at hb
 simp only at hb
 split at hb <;> first | (cases hb; done) | (rename_i h; simp [callV, h]; done) | (rename_i h _; simp [callV, h]; done) | (rename_i _ h; simp [callV, h]; done)
theorem blind_guard {ops : Array Oper} {i : Nat} {o : Oper} (ho : ops[i]? = some o) (hb : blindAt ops i = true) : o.guard = none := by
 unfold blindAt at hb
 rw [ho] at hb
 simp only at hb
 split at hb <;> first | assumption | simp at hb
structure DrawInv (S : StepT) (ops : Array Oper) (p : Plan) (base lvl : Nat) (h0 : Heap) (m0 : M) (w0 : World) (t0 : Array Value) (tm0 tmA tm2 tmE : Tm) (h2 hE : Heap) (listed : Array Bool) (t : Array Value) (w : World) : Prop where
  size : listed.size = ops.size
  down : ∀ i o, ops[i]? = some o → listed.getD i false = true → ∀ e ∈ o.after, bindsB e = true → listed.getD e.on false = true
  tsize : t.size = tm0.length
  un : ∀ d, (∀ j, Wr ops d j → listed.getD j false = false) → t[d]? = t0[d]?
  st : ∃ m hk tmk τ, M.leG base m0 m ∧ TR m tmk τ ∧ tmk.length = tm0.length ∧ (∀ d, (∀ j, Wr ops d j → j ∉ p.a ∧ listed.getD j false = false) → tmk[d]? = tm0[d]?) ∧ (∀ d j, Wr ops d j → j ∈ p.a → tmk[d]? = tmA[d]?) ∧
    (∀ d j a, Wr ops d j → listed.getD j false = true → tmE[d]? = some a → VR m a (t.getD d undef)) ∧ (∀ d j a, Wr ops d j → j ∈ p.a → listed.getD j false = true → tmE[d]? = some a → VR m0 a (t.getD d undef)) ∧ Below base w0 w ∧
    ((∃ pre1 rem1, p.b1 = pre1 ++ rem1 ∧ M.leG w0.heap.size m0 m ∧ (∀ j ∈ pre1, listed.getD j false = true) ∧ (∀ j ∈ rem1 ++ p.b2, listed.getD j false = false) ∧ HR m w0.heap.size h0.length hk w ∧ Below w0.heap.size w0 w ∧ passB S h0.length ops rem1 hk tmk = some (h2, tm2)) ∨
     (∃ pre2 rem2, p.b2 = pre2 ++ rem2 ∧ (∀ j ∈ p.a, listed.getD j false = true ∨ blindAt ops j = true) ∧ (∀ j ∈ p.b1 ++ pre2, listed.getD j false = true) ∧ (∀ j ∈ rem2, listed.getD j false = false) ∧ HR m base lvl hk w ∧ passB S lvl ops rem2 hk tmk = some (hE, tmE)))
theorem set_listed {listed : Array Bool} {i j : Nat} (hi : i < listed.size) : (listed.setIfInBounds i true).getD j false = true ↔ j = i ∨ listed.getD j false = true := by
 by_cases h : i = j
 ·subst h; simp [hi]
 ·rw [getD_set_ne false h]
  constructor
  ·exact .inr
  ·rintro (rfl | h')
   ·exact absurd rfl h
   ·exact h'
theorem unset {listed : Array Bool} {i j : Nat} (hi : i < listed.size) (h : (listed.setIfInBounds i true).getD j false = false) : listed.getD j false = false := by
 cases hl : listed.getD j false with
 | false => rfl
 | true => rw [(set_listed hi).2 (.inr hl)] at h; simp at h
theorem set_unlisted {listed : Array Bool} {i j : Nat} (h : j ≠ i) : (listed.setIfInBounds i true).getD j false = listed.getD j false := getD_set_ne false fun e => h e.symm
theorem putC_getD_ne {t : Array Value} {d : Option Nat} {y : Value} {k : Nat} (h : d ≠ some k) : (putC t d y).getD k undef = t.getD k undef := by
 simp only [Array.getD_eq_getD_getElem?, putC_ne h]
theorem putC_getD_eq {t : Array Value} {y : Value} {k : Nat} (h : k < t.size) : (putC t (some k) y).getD k undef = y := by
 simp only [Array.getD_eq_getD_getElem?, putC_eq h, Option.getD_some]
theorem aliveLe_spec : ∀ {h h2 : Heap}, aliveLe h h2 = true → ∀ {b : Nat} {a : AB}, b < h.length → h2[b]? = some (some a) → ∃ a0, h[b]? = some (some a0)
 | [], _, _, b, _, hb, _ => by simp at hb
 | x :: h, [], _, b, a, _, ha => by simp at ha
 | x :: h, y :: h2, hl, b, a, hb, ha => by
  have hl' : (match (match x, y with | none, some _ => false | _, _ => true) with | true => aliveLe h h2 | false => false) = true := hl
  cases b with
  | zero =>
   simp only [List.getElem?_cons_zero, Option.some.injEq] at ha
   subst ha
   cases x with
   | none => simp at hl'
   | some x => exact ⟨x, rfl⟩
  | succ b =>
   simp only [List.getElem?_cons_succ] at ha ⊢
   refine aliveLe_spec ?_ (by simpa using hb) ha
   split at hl'
   ·exact hl'
   ·simp at hl'
theorem tabLow {m0 m : M} {base lvl : Nat} {h0 hk : Heap} {w0 : World} (hle : M.leG base m0 m) (hle0 : M.leG w0.heap.size m0 m) (H0 : HR m0 base lvl h0 w0) (hal : aliveLe h0 hk = true) (p : Nat × List Value) (hp : p ∈ m.F) (b : Nat) (a : AB) (hb : lvl ≤ b) (hlt : b < h0.length) (ha : hk[b]? = some (some a)) : m.ρ b ≠ p.1 := by
 obtain ⟨a0, ha0⟩ := aliveLe_spec hal hlt ha
 rw [hle.ρ b (by rw [H0.n]; exact hlt)]
 rcases hle0.fresh p hp with h1 | h1
 ·exact (H0.tab p h1).2 b a0 hb ha0
 ·have := (H0.ent b a0 ha0).lt
  omega
include hS hσ in
theorem draw_step {p : Plan} (hp : PlanOk ops p) {base lvl : Nat} {h0 : Heap} {m0 : M} {w0 : World} {t0 : Array Value} {tm0 tmA tm2 tmE : Tm} {h2 hEnd : Heap} (hT0 : TR m0 tm0 t0) (H0 : HR m0 base lvl h0 w0) (G0 : GR E.gl base w0)
    (listed : Array Bool) (hA : ∀ i ∈ p.a, listed.getD i false = false → FactA S ops p.a h0 m0 tm0 tmA i) (hB1 : tmA.length = tm0.length) (hb1 : passB S h0.length ops p.b1 h0 tmA = some (h2, tm2)) (hal : aliveLe h0 h2 = true) (hb2 : passB S lvl ops p.b2 h2 tm2 = some (hEnd, tmE))
    (fr : Frame) (cs : List Frame) (k : List Item) (t : Array Value) (w : World) (i : Nat) (hI : DrawInv S ops p base lvl h0 m0 w0 t0 tm0 tmA tm2 tmE h2 hEnd listed t w) (hi : i ∈ Region.ready .any ops listed) (hall : i ∈ p.a ∨ i ∈ p.b1 ++ p.b2) (rest : List Nat) :
    ∃ t' w', Steps E.P (lone (FR fr t (.inRegion ops0 (σ i :: rest) :: k)) cs w) (lone (FR fr t' (.inRegion ops0 rest :: k)) cs w') ∧ DrawInv S ops p base lvl h0 m0 w0 t0 tm0 tmA tm2 tmE h2 hEnd (listed.setIfInBounds i true) t' w' := by
  obtain ⟨hl, o, ho, hedges⟩ := mem_ready.1 hi
  have hisz : i < ops.size := (Array.getElem?_eq_some_iff.1 ho).1
  have hils : i < listed.size := by rw [hI.size]; exact hisz
  have hl' : listed.getD i false = false := by simp [hils] at hl ⊢; exact hl
  have hpre : ∀ j, Nat.testBit (getD0 (masksFrom ops.toList []) i) j = true → listed.getD j false = true :=
    pre_listed hp.toOpsOk (S := fun j => listed.getD j false = true) (fun i o h1 h2 => hI.down i o h1 h2) i o ho (fun e he hb => hedges e he (by rw [binds_any]; exact hb))
  have hlk : ∀ d ∈ looks ops o, ∀ j, Wr ops d j → Nat.testBit (getD0 (masksFrom ops.toList []) i) j = true → listed.getD j false = true := fun d hd j hj hw => hpre j hw
  have hfree : ∀ d ∈ looks ops o, ∀ j, Wr ops d j → ¬ Nat.testBit (getD0 (masksFrom ops.toList []) i) j = true → listed.getD j false = false := fun d hd j hj hw => by
    have hwj := (hp.pre i o ho d hd j hj).resolve_left hw
    cases hlj : listed.getD j false with
    | false => rfl
    | true =>
      exfalso
      obtain ⟨oj, hoj, _⟩ := hj
      have := pre_listed hp.toOpsOk (S := fun j => listed.getD j false = true) (fun i o h1 h2 => hI.down i o h1 h2) j oj hoj (hI.down j oj hoj hlj) i hwj
      rw [hl'] at this
      simp at this
  obtain ⟨m, hk, tmk, τ, hle, hτ, hlen, hno, hAk, hVR, hVA, hBel, hph⟩ := hI.st
  have hBkeep1 := passB_keeps (S := S) (ops := ops) p.b1 h0 tmA h2 tm2 hb1
  have hBkeep2 := passB_keeps (S := S) (ops := ops) p.b2 h2 tm2 hEnd tmE hb2
  have endA : ∀ d j, Wr ops d j → j ∈ p.a → tmE[d]? = tmA[d]? := fun d j hj hja => by
    have hn := hp.apart j hja
    rw [hBkeep2.2 d fun j' hj' hm => hn (by rw [hp.one d j j' hj hj']; simp [hm]), hBkeep1.2 d fun j' hj' hm => hn (by rw [hp.one d j j' hj hj']; simp [hm])]
  -- what slots that are looked at hold, for pass B
  have lookB : i ∈ p.b1 ++ p.b2 → (∀ d j, Wr ops d j → listed.getD j false = true → tmk[d]? = tmE[d]?) → ∀ d ∈ looks ops o, ∀ a, tmk[d]? = some a → VR m a (t.getD d undef) := by
    intro hib hend d hd a ha
    by_cases hw : ∃ j, Wr ops d j ∧ Nat.testBit (getD0 (masksFrom ops.toList []) i) j = true
    · obtain ⟨j, hj, hwj⟩ := hw
      have hlj := hlk d hd j hj hwj
      rw [hend d j hj hlj] at ha
      exact hVR d j a hj hlj ha
    · have hw' : ∀ j, Wr ops d j → ¬ Nat.testBit (getD0 (masksFrom ops.toList []) i) j = true := fun j hj h => hw ⟨j, hj, h⟩
      rw [hno d fun j hj => ⟨(hp.lookB i hib o ho d hd j hj).resolve_left (hw' j hj), hfree d hd j hj (hw' j hj)⟩] at ha
      obtain ⟨y, hy, hr⟩ := hT0.get ha
      have hy' : t0[d]? = some y := by simpa using hy
      have : t.getD d undef = y := by simp only [Array.getD_eq_getD_getElem?, hI.un d fun j hj => hfree d hd j hj (hw' j hj), hy', Option.getD_some]
      rw [this]
      exact hr.monoG hle
  have hmixOf : ∀ (tmi : Tm) (τi : Array Value), TR m0 tmi τi → (∀ d ∈ looks ops o, (∀ j, Wr ops d j → ¬ Nat.testBit (getD0 (masksFrom ops.toList []) i) j = true) → tmi[d]? = tm0[d]?) → (∀ d ∈ looks ops o, ∀ j, Wr ops d j → Nat.testBit (getD0 (masksFrom ops.toList []) i) j = true → j ∈ p.a ∧ tmi[d]? = tmA[d]?) → TR m0 tmi (mix (looks ops o) t τi) := fun tmi τi hτi hn1 hn2 => mix_sound hτi fun d hd a ha => by
    by_cases hw : ∃ j, Wr ops d j ∧ Nat.testBit (getD0 (masksFrom ops.toList []) i) j = true
    · obtain ⟨j, hj, hwj⟩ := hw
      obtain ⟨hja, he⟩ := hn2 d hd j hj hwj
      exact hVA d j a hj hja (hlk d hd j hj hwj) (by rw [endA d j hj hja, ← he]; exact ha)
    · have hw' : ∀ j, Wr ops d j → ¬ Nat.testBit (getD0 (masksFrom ops.toList []) i) j = true := fun j hj h => hw ⟨j, hj, h⟩
      rw [hn1 d hd hw'] at ha
      obtain ⟨y, hy, hr⟩ := hT0.get ha
      have hy' : t0[d]? = some y := by simpa using hy
      have : t.getD d undef = y := by simp only [Array.getD_eq_getD_getElem?, hI.un d fun j hj => hfree d hd j hj (hw' j hj), hy', Option.getD_some]
      rw [this]; exact hr
  -- the invariant behind a step of pass B, but for its last limb
  have afterB : ∀ (y : Value) (x : AV) (h1 : Heap) (w' : World) (m' : M), i ∈ p.b1 ++ p.b2 → M.leG base m m' → VR m' x y → Below base w w' → (∀ d, o.dst = some d → d < tm0.length → tmE[d]? = some x) →
      ((∃ pre1 rem1, p.b1 = pre1 ++ rem1 ∧ M.leG w0.heap.size m0 m' ∧ (∀ j ∈ pre1, (listed.setIfInBounds i true).getD j false = true) ∧ (∀ j ∈ rem1 ++ p.b2, (listed.setIfInBounds i true).getD j false = false) ∧ HR m' w0.heap.size h0.length h1 w' ∧ Below w0.heap.size w0 w' ∧ passB S h0.length ops rem1 h1 (putT tmk o.dst x) = some (h2, tm2)) ∨
       (∃ pre2 rem2, p.b2 = pre2 ++ rem2 ∧ (∀ j ∈ p.a, (listed.setIfInBounds i true).getD j false = true ∨ blindAt ops j = true) ∧ (∀ j ∈ p.b1 ++ pre2, (listed.setIfInBounds i true).getD j false = true) ∧ (∀ j ∈ rem2, (listed.setIfInBounds i true).getD j false = false) ∧ HR m' base lvl h1 w' ∧ passB S lvl ops rem2 h1 (putT tmk o.dst x) = some (hEnd, tmE))) →
      DrawInv S ops p base lvl h0 m0 w0 t0 tm0 tmA tm2 tmE h2 hEnd (listed.setIfInBounds i true) (putC t o.dst y) w' := by
    intro y x h1 w' m' hib hle' hxy hB hend hlast
    refine ⟨by simp [hI.size], ?_, by rw [putC_size]; exact hI.tsize, ?_, m', h1, putT tmk o.dst x, putC τ o.dst y, hle.trans hle', putT_sound (hτ.monoG hle') o.dst hxy, by rw [putT_length]; exact hlen, ?_, ?_, ?_, ?_, hBel.trans hB, hlast⟩
    · intro j oj hj hjl e he hb
      rw [set_listed hils] at hjl ⊢
      rcases hjl with rfl | hjl
      · rw [ho] at hj; cases hj
        exact .inr (hedges e he (by rw [binds_any]; exact hb))
      · exact .inr (hI.down j oj hj hjl e he hb)
    · intro d hd
      rw [putC_ne fun e => by have := hd i ⟨o, ho, e⟩; rw [(set_listed hils).2 (.inl rfl)] at this; simp at this]
      exact hI.un d fun j hj => unset hils (hd j hj)
    · intro d hd
      rw [putT_ne fun e => by have := (hd i ⟨o, ho, e⟩).2; rw [(set_listed hils).2 (.inl rfl)] at this; simp at this]
      exact hno d fun j hj => ⟨(hd j hj).1, unset hils (hd j hj).2⟩
    · intro d j hj hja
      rw [putT_ne fun e => ?_]
      · exact hAk d j hj hja
      · have : j = i := hp.one d j i hj ⟨o, ho, e⟩
        subst this
        exact hp.apart j hja hib
    · intro d j a hj hjl ha
      rw [set_listed hils] at hjl
      by_cases hd : o.dst = some d
      · have hlt : d < tm0.length := by
          have h1 := (List.getElem?_eq_some_iff.1 ha).1
          rw [hBkeep2.1, hBkeep1.1, hB1] at h1
          exact h1
        rw [hend d hd hlt] at ha
        simp only [Option.some.injEq] at ha
        subst ha
        rw [hd, putC_getD_eq (by rw [hI.tsize]; exact hlt)]
        exact hxy
      · rw [putC_getD_ne hd]
        rcases hjl with rfl | hjl
        · obtain ⟨o', ho', hd'⟩ := hj
          rw [ho] at ho'; cases ho'
          exact absurd hd' hd
        · exact (hVR d j a hj hjl ha).monoG hle'
    · intro d j a hj hja hjl ha
      rw [set_listed hils] at hjl
      have hne : o.dst ≠ some d := fun e => by
        have : j = i := hp.one d j i hj ⟨o, ho, e⟩
        subst this
        exact hp.apart j hja hib
      rw [putC_getD_ne hne]
      rcases hjl with rfl | hjl
      · exact absurd hib (hp.apart j hja)
      · exact hVA d j a hj hja hjl ha
  -- pass B in its second part
  have second : ∀ (pre2 rem2 : List Nat), p.b2 = pre2 ++ rem2 → (∀ j ∈ p.a, listed.getD j false = true ∨ blindAt ops j = true) → (∀ j ∈ p.b1 ++ pre2, listed.getD j false = true) → (∀ j ∈ rem2, listed.getD j false = false) → HR m base lvl hk w → passB S lvl ops rem2 hk tmk = some (hEnd, tmE) → i ∈ rem2 →
      ∃ t' w', Steps E.P (lone (FR fr t (.inRegion ops0 (σ i :: rest) :: k)) cs w) (lone (FR fr t' (.inRegion ops0 rest :: k)) cs w') ∧ DrawInv S ops p base lvl h0 m0 w0 t0 tm0 tmA tm2 tmE h2 hEnd (listed.setIfInBounds i true) t' w' := by
    intro pre2 rem2 hsplit ha hb hun Hk hpass him
    have hchain := hp.chain
    rw [hsplit, ← List.append_assoc] at hchain
    obtain ⟨l, rfl⟩ := head_of (L := fun j => listed.getD j false = true) hchain him hpre (fun j hj => by rw [hun j hj]; simp)
    have hkeep := passB_keeps (S := S) (ops := ops) (i :: l) hk tmk hEnd tmE hpass
    have hend : ∀ d j, Wr ops d j → listed.getD j false = true → tmk[d]? = tmE[d]? := fun d j hj hjl => (hkeep.2 d fun j' hj' hm => by
      have := hun j' hm
      rw [hp.one d j' j hj' hj, hjl] at this
      simp at this).symm
    obtain ⟨y, x, h1, w', m', g1, g2, g3, g4, g5, g6⟩ := stepB hS hσ hτ (by rw [hI.tsize, hlen]) Hk (G0.below hBel) ho (lookB (by rw [hsplit]; simp) hend) hpass fr cs rest k
    have hib : i ∈ p.b1 ++ p.b2 := by rw [hsplit]; simp
    have hnd := hp.nodup
    rw [hsplit] at hnd
    have hnil : i ∉ l := by
      intro hm
      obtain ⟨a1, a2⟩ := List.getElem?_of_mem hm
      have e1 : (p.b1 ++ (pre2 ++ i :: l))[p.b1.length + pre2.length]? = some i := by
        rw [List.getElem?_append_right (by omega), List.getElem?_append_right (by omega)]; simp
      have e2 : (p.b1 ++ (pre2 ++ i :: l))[p.b1.length + pre2.length + (a1 + 1)]? = some i := by
        rw [List.getElem?_append_right (by omega), List.getElem?_append_right (by omega)]
        have : p.b1.length + pre2.length + (a1 + 1) - p.b1.length - pre2.length = a1 + 1 := by omega
        rw [this]; simpa using a2
      have := nodup_spec hnd e1 e2
      omega
    refine ⟨_, w', g1, afterB y x h1 w' m' hib g2 g3 g5 ?_ (.inr ⟨pre2 ++ [i], l, by rw [hsplit]; simp, ?_, ?_, ?_, g4, g6⟩)⟩
    · intro d hd hlt
      have hk2 := passB_keeps (S := S) (ops := ops) l h1 _ hEnd tmE g6
      rw [hk2.2 d fun j hj hm => by
        have : j = i := hp.one d j i hj ⟨o, ho, hd⟩
        subst this; exact hnil hm, hd]
      exact putT_eq (by rw [hlen]; exact hlt)
    · intro j hj; rw [set_listed hils]; exact (ha j hj).imp .inr id
    · intro j hj
      rw [set_listed hils]
      rw [← List.append_assoc] at hj
      rcases List.mem_append.1 hj with hj | hj
      · exact .inr (hb j hj)
      · simp at hj; exact .inl hj
    · intro j hj
      rw [set_unlisted fun e => hnil (by rw [e] at hj; exact hj)]
      exact hun j (by simp [hj])
  rcases hall with hia | hib
  · -- pass A
    rcases hph with ⟨pre1, rem1, hsplit, hle0, hpl, hun, Hk, hB0, hpass⟩ | ⟨pre2, rem2, hsplit, ha, hb, hun, Hk, hpass⟩
    · obtain ⟨o', tmi, τi, ho', hτi, hτs, hn1, hn2, hfin⟩ := hA i hia hl'
      rw [ho] at ho'; cases ho'
      have hmix := hmixOf tmi τi hτi hn1 hn2
      have Hw : HR m0 w.heap.size h0.length h0 w := by
        have H1 : HR m0 base lvl h0 w := H0.world hB0.size hB0.block
        exact H1.shut
      have hag : ∀ d ∈ looks ops o, (mix (looks ops o) t τi).getD d undef = t.getD d undef := fun d hd => mix_in (by rw [hI.tsize, hτs]) hd
      have hw : Region.wanted o (yielded ops t) = wantedA ops tmi o := by
        rw [← wanted_sound hmix ops o]
        exact (wanted_looks (by rw [mix_size, hI.tsize, hτs]) hag).symm
      have hinb : i ∉ p.b1 ++ p.b2 := hp.apart i hia
      have afterA : ∀ (y : Value) (x : AV) (w' : World), VR m0 x y → Below w.heap.size w w' → (∀ d, o.dst = some d → d < tm0.length → tmA[d]? = some x) →
          DrawInv S ops p base lvl h0 m0 w0 t0 tm0 tmA tm2 tmE h2 hEnd (listed.setIfInBounds i true) (putC t o.dst y) w' := by
        intro y x w' hxy hB hend
        have hbase := Hk.baseLe
        refine ⟨by simp [hI.size], ?_, by rw [putC_size]; exact hI.tsize, ?_, m, hk, tmk, τ, hle, hτ, hlen, fun d hd => hno d fun j hj => ⟨(hd j hj).1, unset hils (hd j hj).2⟩, hAk, ?_, ?_, hBel.trans (hB.mono (by have := H0.baseLe; omega)), .inl ⟨pre1, rem1, hsplit, hle0, ?_, ?_, Hk.world hB.size hB.block, hB0.trans (hB.mono hbase), hpass⟩⟩
        · intro j oj hj hjl e he hb
          rw [set_listed hils] at hjl ⊢
          rcases hjl with rfl | hjl
          · rw [ho] at hj; cases hj
            exact .inr (hedges e he (by rw [binds_any]; exact hb))
          · exact .inr (hI.down j oj hj hjl e he hb)
        · intro d hd
          rw [putC_ne fun e => by have := hd i ⟨o, ho, e⟩; rw [(set_listed hils).2 (.inl rfl)] at this; simp at this]
          exact hI.un d fun j hj => unset hils (hd j hj)
        · intro d j a hj hjl ha
          rw [set_listed hils] at hjl
          by_cases hd : o.dst = some d
          · have hlt : d < tm0.length := by
              have h1 := (List.getElem?_eq_some_iff.1 ha).1
              rw [hBkeep2.1, hBkeep1.1, hB1] at h1
              exact h1
            rw [endA d i ⟨o, ho, hd⟩ hia, hend d hd hlt] at ha
            simp only [Option.some.injEq] at ha
            subst ha
            rw [hd, putC_getD_eq (by rw [hI.tsize]; exact hlt)]
            exact hxy.monoG hle
          · rw [putC_getD_ne hd]
            rcases hjl with rfl | hjl
            · obtain ⟨o', ho', hd'⟩ := hj
              rw [ho] at ho'; cases ho'
              exact absurd hd' hd
            · exact hVR d j a hj hjl ha
        · intro d j a hj hja hjl ha
          rw [set_listed hils] at hjl
          by_cases hd : o.dst = some d
          · have hlt : d < tm0.length := by
              have h1 := (List.getElem?_eq_some_iff.1 ha).1
              rw [hBkeep2.1, hBkeep1.1, hB1] at h1
              exact h1
            rw [endA d i ⟨o, ho, hd⟩ hia, hend d hd hlt] at ha
            simp only [Option.some.injEq] at ha
            subst ha
            rw [hd, putC_getD_eq (by rw [hI.tsize]; exact hlt)]
            exact hxy
          · rw [putC_getD_ne hd]
            rcases hjl with rfl | hjl
            · obtain ⟨o', ho', hd'⟩ := hj
              rw [ho] at ho'; cases ho'
              exact absurd hd' hd
            · exact hVA d j a hj hja hjl ha
        · intro j hj; rw [set_listed hils]; exact .inr (hpl j hj)
        · intro j hj
          rw [set_unlisted fun e => hinb (by
            subst e
            rw [hsplit, List.append_assoc]
            exact List.mem_append_right _ hj)]
          exact hun j hj
      rcases hfin with ⟨hwant, x, h', hst, hfl, hrefs, hend⟩ | ⟨hwant, hend⟩
      · rw [lenL_eq] at hst
        have hres := (hS.ok hmix Hw ((G0.below hBel).up (by have := H0.baseLe; have := Hk.baseLe; omega)) hst).congr (evC_looks hag)
        obtain ⟨av, gv, ho0, hw0⟩ := hσ i o ho
        obtain ⟨y, w', hsteps, m', hpost⟩ := (hres.virt av gv).steps (rest := rest) (k := k) ho0 (by rw [hw0, hw]; exact hwant) fr cs
        exact ⟨_, w', hsteps, afterA y x w' (hpost.down hfl (fun b hb => by rw [H0.n]; exact hrefs b hb)) hpost.1.below hend⟩
      · exact ⟨_, w, hσ.pass ho (by rw [hw]; exact hwant), afterA undef (.tup []) w ⟨#[], rfl, trivial⟩ (Below.refl _ _) hend⟩
    · -- an operation that looks at slots alone
      have hblind : blindAt ops i = true := (ha i hia).resolve_left (by rw [hl']; simp)
      obtain ⟨o', tmi, τi, ho', hτi, hτs, hn1, hn2, hfin⟩ := hA i hia hl'
      rw [ho] at ho'; cases ho'
      have hmix := hmixOf tmi τi hτi hn1 hn2
      have hag : ∀ d ∈ looks ops o, (mix (looks ops o) t τi).getD d undef = t.getD d undef := fun d hd => mix_in (by rw [hI.tsize, hτs]) hd
      have hw : Region.wanted o (yielded ops t) = wantedA ops tmi o := by
        rw [← wanted_sound hmix ops o]
        exact (wanted_looks (by rw [mix_size, hI.tsize, hτs]) hag).symm
      have hinb : i ∉ p.b1 ++ p.b2 := hp.apart i hia
      obtain ⟨hwant, x, h1, hst, hrefs, hend⟩ : wantedA ops tmi o = true ∧ ∃ x h1, S (lenL h0) h0 tmi i o = some (x, h1) ∧ (∀ b ∈ x.refs, b < h0.length) ∧ ∀ d, o.dst = some d → d < tm0.length → tmA[d]? = some x := by
        have hwt : wantedA ops tmi o = true := by simp [wantedA, blind_guard ho hblind]
        rcases hfin with ⟨_, x, h', hst, _, hrefs, hend⟩ | ⟨hn, _⟩
        · exact ⟨hwt, x, h', hst, hrefs, hend⟩
        · rw [hwt] at hn; simp at hn
      have Hn : HR m0 w.heap.size m0.n (List.replicate m0.n none) w := by
        refine ⟨by simp, by simp, Nat.le_refl _, fun b a hb => ?_, fun b h1 h2 => by simp at h2; omega, fun b b' _ _ ⟨a, hb⟩ => ?_, ?_, fun p hp => ⟨(Hk.tab p (hle.F p hp)).1, fun b a _ hb => ?_⟩⟩
        · rw [List.getElem?_replicate] at hb; split at hb <;> simp at hb
        · rw [List.getElem?_replicate] at hb; split at hb <;> simp at hb
        · have := H0.lo; have := H0.lvlLe; have := H0.n; omega
        · rw [List.getElem?_replicate] at hb; split at hb <;> simp at hb
      have hres := (hS.ok hmix Hn ((G0.below hBel).up Hk.baseLe) (hS.blind ho hblind hst)).congr (evC_looks hag)
      obtain ⟨av, gv, ho0, hw0⟩ := hσ i o ho
      obtain ⟨y, w', hsteps, m', hpost⟩ := (hres.virt av gv).steps (rest := rest) (k := k) ho0 (by rw [hw0, hw]; exact hwant) fr cs
      have hxy : VR m0 x y := hpost.down (.inl (blind_callV ho hblind)) (fun b hb => by rw [H0.n]; exact hrefs b hb)
      have hB := hpost.1.below
      refine ⟨_, w', hsteps, by simp [hI.size], ?_, by rw [putC_size]; exact hI.tsize, ?_, m, hk, tmk, τ, hle, hτ, hlen, fun d hd => hno d fun j hj => ⟨(hd j hj).1, unset hils (hd j hj).2⟩, hAk, ?_, ?_, hBel.trans (hB.mono Hk.baseLe), .inr ⟨pre2, rem2, hsplit, ?_, ?_, ?_, Hk.world hB.size hB.block, hpass⟩⟩
      · intro j oj hj hjl e he hb
        rw [set_listed hils] at hjl ⊢
        rcases hjl with rfl | hjl
        · rw [ho] at hj; cases hj
          exact .inr (hedges e he (by rw [binds_any]; exact hb))
        · exact .inr (hI.down j oj hj hjl e he hb)
      · intro d hd
        rw [putC_ne fun e => by have := hd i ⟨o, ho, e⟩; rw [(set_listed hils).2 (.inl rfl)] at this; simp at this]
        exact hI.un d fun j hj => unset hils (hd j hj)
      · intro d j a hj hjl ha
        rw [set_listed hils] at hjl
        by_cases hd : o.dst = some d
        · have hlt : d < tm0.length := by
            have h1 := (List.getElem?_eq_some_iff.1 ha).1
            rw [hBkeep2.1, hBkeep1.1, hB1] at h1
            exact h1
          rw [endA d i ⟨o, ho, hd⟩ hia, hend d hd hlt] at ha
          simp only [Option.some.injEq] at ha
          subst ha
          rw [hd, putC_getD_eq (by rw [hI.tsize]; exact hlt)]
          exact hxy.monoG hle
        · rw [putC_getD_ne hd]
          rcases hjl with rfl | hjl
          · obtain ⟨o', ho', hd'⟩ := hj
            rw [ho] at ho'; cases ho'
            exact absurd hd' hd
          · exact hVR d j a hj hjl ha
      · intro d j a hj hja hjl ha
        rw [set_listed hils] at hjl
        by_cases hd : o.dst = some d
        · have hlt : d < tm0.length := by
            have h1 := (List.getElem?_eq_some_iff.1 ha).1
            rw [hBkeep2.1, hBkeep1.1, hB1] at h1
            exact h1
          rw [endA d i ⟨o, ho, hd⟩ hia, hend d hd hlt] at ha
          simp only [Option.some.injEq] at ha
          subst ha
          rw [hd, putC_getD_eq (by rw [hI.tsize]; exact hlt)]
          exact hxy
        · rw [putC_getD_ne hd]
          rcases hjl with rfl | hjl
          · obtain ⟨o', ho', hd'⟩ := hj
            rw [ho] at ho'; cases ho'
            exact absurd hd' hd
          · exact hVA d j a hj hja hjl ha
      · intro j hj; rw [set_listed hils]; exact (ha j hj).imp .inr id
      · intro j hj; rw [set_listed hils]; exact .inr (hb j hj)
      · intro j hj
        rw [set_unlisted fun e => hinb (by rw [hsplit]; subst e; simp [hj])]
        exact hun j hj
  · -- pass B
    rcases hph with ⟨pre1, rem1, hsplit, hle0, hpl, hun, Hk, hB0, hpass⟩ | ⟨pre2, rem2, hsplit, ha, hb, hun, Hk, hpass⟩
    · have him : i ∈ rem1 ++ p.b2 := by
        rw [hsplit, List.append_assoc] at hib
        rcases List.mem_append.1 hib with h | h
        · exact absurd (hpl i h) (by rw [hl']; simp)
        · exact h
      cases rem1 with
      | nil =>
        simp only [List.nil_append] at him hun
        have hpass' : (hk, tmk) = (h2, tm2) := by
          have : some (hk, tmk) = some (h2, tm2) := hpass
          simpa using this
        simp only [Prod.mk.injEq] at hpass'
        obtain ⟨rfl, rfl⟩ := hpass'
        have Hk2 : HR m base lvl hk w := by
          refine ⟨Hk.n, ?_, by have := H0.baseLe; have := Hk.baseLe; omega, Hk.ent, fun b h1 h2 => ?_, Hk.inj, by rw [hle.lo]; exact H0.lo, fun p hp => ⟨(Hk.tab p hp).1, fun b a hb ha => ?_⟩⟩
          · have := H0.lvlLe; have := Hk.lvlLe; omega
          · by_cases hb : b < h0.length
            · rw [hle.ρ b (by rw [H0.n]; exact hb)]; exact H0.own b h1 hb
            · have := Hk.own b (by omega) h2; have := H0.baseLe; omega
          · by_cases hlt : b < h0.length
            · exact tabLow hle hle0 H0 hal p hp b a hb hlt ha
            · exact (Hk.tab p hp).2 b a (by omega) ha
        exact second [] p.b2 rfl (fun j hj => (hp.waits i him j hj).imp (hpre j) id) (fun j hj => hpl j (by simpa [hsplit] using hj)) hun Hk2 hb2 him
      | cons z l =>
        have hchain := hp.chain
        rw [hsplit, List.append_assoc] at hchain
        obtain ⟨l', hl2⟩ := head_of (L := fun j => listed.getD j false = true) hchain him hpre (fun j hj => by rw [hun j hj]; simp)
        simp only [List.cons_append, List.cons.injEq] at hl2
        obtain ⟨rfl, rfl⟩ := hl2
        have hkeep := passB_keeps (S := S) (ops := ops) (z :: l) hk tmk h2 tm2 hpass
        have hend : ∀ d j, Wr ops d j → listed.getD j false = true → tmk[d]? = tmE[d]? := fun d j hj hjl => by
          rw [hBkeep2.2 d fun j' hj' hm => by
            have := hun j' (by simp [hm])
            rw [hp.one d j' j hj' hj, hjl] at this
            simp at this]
          exact (hkeep.2 d fun j' hj' hm => by
            have := hun j' (List.mem_append_left _ hm)
            rw [hp.one d j' j hj' hj, hjl] at this
            simp at this).symm
        obtain ⟨y, x, h1, w', m', g1, g2, g3, g4, g5, g6⟩ := stepB hS hσ hτ (by rw [hI.tsize, hlen]) Hk ((G0.below hBel).up H0.baseLe) ho (lookB hib hend) hpass fr cs rest k
        have hnd := hp.nodup
        rw [hsplit] at hnd
        have hnil : z ∉ l ++ p.b2 := by
          intro hm
          obtain ⟨a1, a2⟩ := List.getElem?_of_mem hm
          have e1 : ((pre1 ++ z :: l) ++ p.b2)[pre1.length]? = some z := by
            rw [List.append_assoc, List.getElem?_append_right (by omega)]; simp
          have e2 : ((pre1 ++ z :: l) ++ p.b2)[pre1.length + (a1 + 1)]? = some z := by
            rw [List.append_assoc, List.getElem?_append_right (by omega)]
            have : pre1.length + (a1 + 1) - pre1.length = a1 + 1 := by omega
            rw [this]; simpa using a2
          have := nodup_spec hnd e1 e2
          omega
        refine ⟨_, w', g1, afterB y x h1 w' m' hib (g2.down H0.baseLe) g3 (g5.mono H0.baseLe) ?_ (.inl ⟨pre1 ++ [z], l, by rw [hsplit]; simp, hle0.trans g2, ?_, ?_, g4, hB0.trans g5, g6⟩)⟩
        · intro d hd hlt
          have hk2 := passB_keeps (S := S) (ops := ops) l h1 _ h2 tm2 g6
          rw [hBkeep2.2 d fun j hj hm => by
              have : j = z := hp.one d j z hj ⟨o, ho, hd⟩
              subst this; exact hnil (by simp [hm]),
            hk2.2 d fun j hj hm => by
              have : j = z := hp.one d j z hj ⟨o, ho, hd⟩
              subst this; exact hnil (by simp [hm]), hd]
          exact putT_eq (by rw [hlen]; exact hlt)
        · intro j hj
          rw [set_listed hils]
          rcases List.mem_append.1 hj with hj | hj
          · exact .inr (hpl j hj)
          · simp at hj; exact .inl hj
        · intro j hj
          rw [set_unlisted fun e => hnil (by rw [e] at hj; exact hj)]
          exact hun j (by simp at hj ⊢; exact .inr hj)
    · have him : i ∈ rem2 := by
        rw [hsplit, ← List.append_assoc] at hib
        rcases List.mem_append.1 hib with h | h
        · exact absurd (hb i h) (by rw [hl']; simp)
        · exact h
      exact second pre2 rem2 hsplit ha hb hun Hk hpass him
theorem DrawInv.start {p : Plan} {base lvl : Nat} {h0 hEnd : Heap} {m0 : M} {w0 : World} {t0 : Array Value} {tm0 tmA tm2 tmE : Tm} {h2 : Heap} {listed : Array Bool} (hp : OpsOk ops) (hT0 : TR m0 tm0 t0) (H0 : HR m0 base lvl h0 w0) (hsz : listed.size = ops.size)
  (hdown : ∀ i o, ops[i]? = some o → listed.getD i false = true → ∀ e ∈ o.after, bindsB e = true → listed.getD e.on false = true) (hτA : ∃ τA, TR m0 tmA τA) (hAlen : tmA.length = tm0.length)
  (hkA : ∀ d, (∀ j, Wr ops d j → j ∉ p.a ∨ listed.getD j false = true) → tmA[d]? = tm0[d]?) (hdone : ∀ d j, Wr ops d j → listed.getD j false = true → tmE[d]? = tm0[d]?) (hB : ∀ j ∈ p.b1 ++ p.b2, listed.getD j false = false)
  (hb1 : passB S h0.length ops p.b1 h0 tmA = some (h2, tm2)) : DrawInv S ops p base lvl h0 m0 w0 t0 tm0 tmA tm2 tmE h2 hEnd listed t0 w0 := by
 have H00 : HR m0 w0.heap.size h0.length h0 w0 := H0.shut
 have hlen0 : t0.size = tm0.length := by have := hT0.length; simp at this; omega
 obtain ⟨τA, hτA⟩ := hτA
 suffices key : ∀ d j a, Wr ops d j → listed.getD j false = true → tmE[d]? = some a → VR m0 a (t0.getD d undef) by
  exact ⟨hsz, hdown, hlen0, fun _ _ => rfl, m0, h0, tmA, τA, M.leG.refl _ m0, hτA, hAlen, fun d hd => hkA d fun j hj => .inl (hd j hj).1, fun _ _ _ _ => rfl, fun d j a hj hl ha => key d j a hj hl ha, fun d j a hj _ hl ha => key d j a hj hl ha, Below.refl _ _, .inl ⟨[], p.b1, rfl, M.leG.refl _ m0, by simp, hB, H00, Below.refl _ _, hb1⟩⟩
 intro d j a hj hl ha
 rw [hdone d j hj hl] at ha
 obtain ⟨y, hy, hr⟩ := hT0.get ha
 have hy' : t0[d]? = some y := by simpa using hy
 simp only [Array.getD_eq_getD_getElem?, hy', Option.getD_some]
 exact hr
theorem DrawInv.done {g : Seg} (hg : SegOk ops ops.size g) {base lvl : Nat} {h0 hEnd : Heap} {m0 : M} {w0 w : World} {t0 t : Array Value} {tm0 tmA tm2 tmE : Tm} {h2 : Heap} {listed : Array Bool} (hT0 : TR m0 tm0 t0) (H0 : HR m0 base lvl h0 w0)
  (hI : DrawInv S ops (planSeg g) base lvl h0 m0 w0 t0 tm0 tmA tm2 tmE h2 hEnd listed t w) (hal : aliveLe h0 h2 = true) (hb2 : passB S lvl ops g.b2 h2 tm2 = some (hEnd, tmE)) (hall : ∀ j, j < g.k' → listed.getD j false = true) (hun : ∀ j, g.k' ≤ j → listed.getD j false = false) :
  ∃ m, TR m tmE t ∧ HR m base lvl hEnd w ∧ M.leG base m0 m ∧ Below base w0 w := by
 obtain ⟨m, hk, tmk, τ, hle, hτ, hlen, hno, hAk, hVR, _, hBel, hph⟩ := hI.st
 have hBin : ∀ j ∈ g.b1 ++ g.b2, listed.getD j false = true := fun j hj => hall j (hg.inB j hj).2
 have hdone : HR m base lvl hk w ∧ hk = hEnd ∧ tmk = tmE := by
  rcases hph with ⟨pre1, rem1, hsplit, hle0, hpl, hun', Hk, hB0, hpass⟩ | ⟨pre2, rem2, hsplit, ha, hb, hun', Hk, hpass⟩
  ·have hsplit' : g.b1 = pre1 ++ rem1 := hsplit
   have hr1 : rem1 = [] := by
    cases rem1 with
    | nil => rfl
    | cons z l =>
     have h1 := hun' z (by simp)
     rw [hBin z (by rw [hsplit']; simp)] at h1
     simp at h1
   have hr2 : g.b2 = [] := by
    cases hb2' : g.b2 with
    | nil => rfl
    | cons z l =>
     have h1 := hun' z (by show z ∈ rem1 ++ g.b2; rw [hb2']; simp)
     rw [hBin z (by rw [hb2']; simp)] at h1
     simp at h1
   subst hr1
   have e1 : some (hk, tmk) = some (h2, tm2) := hpass
   rw [hr2] at hb2
   have e2 : some (h2, tm2) = some (hEnd, tmE) := hb2
   simp only [Option.some.injEq, Prod.mk.injEq] at e1 e2
   refine ⟨?_, by rw [e1.1, e2.1], by rw [e1.2, e2.2]⟩
   refine ⟨Hk.n, ?_, by have := H0.baseLe; have := Hk.baseLe; omega, Hk.ent, fun b h1 h2 => ?_, Hk.inj, by rw [hle.lo]; exact H0.lo, fun p hp => ⟨(Hk.tab p hp).1, fun b a hb ha => ?_⟩⟩
   ·have := H0.lvlLe; have := Hk.lvlLe; omega
   ·by_cases hb : b < h0.length
    ·rw [hle.ρ b (by rw [H0.n]; exact hb)]; exact H0.own b h1 hb
    ·have := Hk.own b (by omega) h2; have := H0.baseLe; omega
   ·by_cases hlt : b < h0.length
    ·exact tabLow hle hle0 H0 (by rw [e1.1]; exact hal) p hp b a hb hlt ha
    ·exact (Hk.tab p hp).2 b a (by omega) ha
  ·have hsplit' : g.b2 = pre2 ++ rem2 := hsplit
   have hr2 : rem2 = [] := by
    cases rem2 with
    | nil => rfl
    | cons z l =>
     have h1 := hun' z (by simp)
     rw [hBin z (by rw [hsplit']; simp)] at h1
     simp at h1
   subst hr2
   have e1 : some (hk, tmk) = some (hEnd, tmE) := hpass
   simp only [Option.some.injEq, Prod.mk.injEq] at e1
   exact ⟨Hk, e1.1, e1.2⟩
 obtain ⟨Hk, rfl, rfl⟩ := hdone
 refine ⟨m, ?_, Hk, hle, hBel⟩
 apply All2.of_get
 ·rw [hlen, ← hI.tsize]; simp
 ·intro d a y ha hy
  have hy' : t[d]? = some y := by simpa using hy
  by_cases hw : ∃ j, Wr ops d j ∧ listed.getD j false = true
  ·obtain ⟨j, hj, hl⟩ := hw
   have := hVR d j a hj hl ha
   simpa only [Array.getD_eq_getD_getElem?, hy', Option.getD_some] using this
  ·have hw' : ∀ j, Wr ops d j → listed.getD j false = false := fun j hj => by
    cases h : listed.getD j false with
    | false => rfl
    | true => exact absurd ⟨j, hj, h⟩ hw
   have hna : ∀ j, Wr ops d j → j ∉ (planSeg g).a := fun j hj hm => by
    have h1 := hw' j hj
    simp only [planSeg, appL_eq, List.mem_append, List.mem_range] at hm
    rw [hall j (hm.elim (fun h => Nat.lt_trans h hg.lt) fun h => (hg.inA j h).2)] at h1
    simp at h1
   rw [hno d fun j hj => ⟨hna j hj, hw' j hj⟩] at ha
   rw [hI.un d hw'] at hy'
   obtain ⟨y', hy2, hr⟩ := hT0.get ha
   have : t0[d]? = some y' := by simpa using hy2
   rw [this] at hy'
   simp only [Option.some.injEq] at hy'
   subst hy'
   exact hr.monoG hle
def SegAt (E : Env) (S : StepT) (ops : Array Oper) (base lvl : Nat) (hF : Heap) (tmF : Tm) (mS : M) (wS : World) (listed : Array Bool) (t : Array Value) (w : World) (g : Seg) (rest : List Seg) (h0 : Heap) (tm0 : Tm) (m0 : M) (w0 : World) (t0 : Array Value) : Prop :=
 ∃ (h2 hE : Heap) (tmA tm2 tmE : Tm),
  SegOk ops ops.size g ∧ okSegs (masksFrom ops.toList []) ops.size ops rest g.k' = true ∧ (∀ j, j < g.k → listed.getD j false = true) ∧ (∀ j, g.k' ≤ j → listed.getD j false = false) ∧ TR m0 tm0 t0 ∧ HR m0 base lvl h0 w0 ∧ GR E.gl base w0 ∧
  (∀ i ∈ g.a, FactA S ops (planSeg g).a h0 m0 tm0 tmA i) ∧ tmA.length = tm0.length ∧ passB S h0.length ops g.b1 h0 tmA = some (h2, tm2) ∧ (aliveLe h0 h2 = true ∧ passB S lvl ops g.b2 h2 tm2 = some (hE, tmE)) ∧ segsA S lvl ops rest hE tmE = some (hF, tmF) ∧ M.leG base mS m0 ∧ Below base wS w0 ∧
  DrawInv S ops (planSeg g) base lvl h0 m0 w0 t0 tm0 tmA tm2 tmE h2 hE listed t w
def SegInv (E : Env) (S : StepT) (ops : Array Oper) (base lvl : Nat) (hF : Heap) (tmF : Tm) (mS : M) (wS : World) (listed : Array Bool) (t : Array Value) (w : World) : Prop :=
 ∃ (g : Seg) (rest : List Seg) (h0 : Heap) (tm0 : Tm) (m0 : M) (w0 : World) (t0 : Array Value), SegAt E S ops base lvl hF tmF mS wS listed t w g rest h0 tm0 m0 w0 t0
include hS in
theorem segInv_start (hp : OpsOk ops) {base lvl : Nat} {h0 hF : Heap} {m0 mS : M} {w0 wS : World} {t0 : Array Value} {tm0 tmF : Tm} {listed : Array Bool} {g : Seg} {rest : List Seg} (hT0 : TR m0 tm0 t0) (H0 : HR m0 base lvl h0 w0) (G0 : GR E.gl base w0) (hle : M.leG base mS m0) (hB : Below base wS w0)
  (hok : okSegs (masksFrom ops.toList []) ops.size ops (g :: rest) g.k = true) (hs : segsA S lvl ops (g :: rest) h0 tm0 = some (hF, tmF)) (hsz : listed.size = ops.size) (hl : ∀ j, j < g.k → listed.getD j false = true) (hun : ∀ j, g.k ≤ j → listed.getD j false = false) :
  SegAt E S ops base lvl hF tmF mS wS listed t0 w0 g rest h0 tm0 m0 w0 t0 := by
 simp only [okSegs, Bool.and_eq_true] at hok
 obtain ⟨⟨_, hg⟩, hrest⟩ := hok
 have hg := segOk_of hp hg
 have hs' : (match passA S ops h0 g.a tm0 with
  | some tm1 => match passB S (lenL h0) ops g.b1 h0 tm1 with
   | some (h2, tm2) => (match aliveLe h0 h2, passB S lvl ops g.b2 h2 tm2 with
    | true, some (h3, tm3) => segsA S lvl ops rest h3 tm3
    | _, _ => none)
   | none => none
  | none => none) = some (hF, tmF) := hs
 split at hs'
 ·rename_i tmA hpA
  split at hs'
  ·rename_i h2 tm2 hb1
   split at hs'
   ·rename_i hE tmE hal hb2
    rw [lenL_eq] at hb1
    have H00 : HR m0 w0.heap.size h0.length h0 w0 := H0.shut
    have inA : ∀ j, j ∈ (planSeg g).a ↔ j < g.k ∨ j ∈ g.a := fun j => by simp [planSeg, appL_eq]
    obtain ⟨hτA, hAlen, hAkeep, hfacts⟩ := passA_facts (tm0 := tm0) hS hg.plan H00 (G0.up H0.baseLe) g.a (List.range g.k) tm0 tmA t0 hg.okA (fun j hj => (inA j).2 (.inl (by simpa using hj))) (fun j hj => (inA j).2 (.inr hj)) hT0 rfl (fun _ _ => rfl) (fun _ _ _ _ => rfl) hpA
    have hB1 := passB_keeps (S := S) (ops := ops) g.b1 h0 tmA h2 tm2 hb1
    have hB2 := passB_keeps (S := S) (ops := ops) g.b2 h2 tm2 hE tmE hb2
    have lowk : ∀ j, listed.getD j false = true → j < g.k := fun j hj => by
     rcases Nat.lt_or_ge j g.k with h | h
     ·exact h
     ·rw [hun j h] at hj; simp at hj
    refine ⟨h2, hE, tmA, tm2, tmE, hg, hrest, hl, fun j hj => hun j (Nat.le_trans (Nat.le_of_lt hg.lt) hj), hT0, H0, G0, hfacts, hAlen, hb1, ⟨hal, hb2⟩, hs', hle, hB, ?_⟩
    refine DrawInv.start hp hT0 H0 hsz (fun i o ho hi e he hb => hl _ (Nat.lt_trans (hp.lt i o ho e he hb) (lowk i hi))) hτA hAlen (fun d hd => hAkeep d fun j hj hm => ?_) (fun d j hj hlj => ?_) (fun j hj => hun j (hg.inB j hj).1) hb1
    ·rcases hd j hj with h | h
     ·exact h ((inA j).2 (.inr hm))
     ·have := lowk j h; have := (hg.inA j hm).1; omega
    ·have hlt := lowk j hlj
     rw [hB2.2 d fun j' hj' hm => by
       rw [hp.one d j' j hj' hj] at hm
       have := (hg.inB j (by simp [hm])).1; omega,
      hB1.2 d fun j' hj' hm => by
       rw [hp.one d j' j hj' hj] at hm
       have := (hg.inB j (by simp [hm])).1; omega,
      hAkeep d fun j' hj' hm => by
       rw [hp.one d j' j hj' hj] at hm
       have := (hg.inA j hm).1; omega]
   ·simp at hs'
  ·simp at hs'
 ·simp at hs'
include hS hσ in
theorem segInv_step (hp : OpsOk ops) {base lvl : Nat} {hF : Heap} {mS : M} {wS : World} {tmF : Tm} (fr : Frame) (cs : List Frame) (k : List Item) (listed : Array Bool) (t : Array Value) (w : World) (i : Nat) (hI : SegInv E S ops base lvl hF tmF mS wS listed t w) (hi : i ∈ Region.ready .any ops listed) (rest : List Nat) :
  ∃ t' w', Steps E.P (lone (FR fr t (.inRegion ops0 (σ i :: rest) :: k)) cs w) (lone (FR fr t' (.inRegion ops0 rest :: k)) cs w') ∧ SegInv E S ops base lvl hF tmF mS wS (listed.setIfInBounds i true) t' w' := by
 obtain ⟨hl, o, ho, hedges⟩ := mem_ready.1 hi
 have hisz : i < ops.size := (Array.getElem?_eq_some_iff.1 ho).1
 -- in its piece
 have inside : ∀ {listed : Array Bool} {t : Array Value} {w : World}, listed.getD i true = false → i ∈ Region.ready .any ops listed → ∀ (g : Seg) (rs : List Seg) (h0 h2 hE : Heap) (tm0 tmA tm2 tmE : Tm) (m0 : M) (w0 : World) (t0 : Array Value),
   SegOk ops ops.size g → okSegs (masksFrom ops.toList []) ops.size ops rs g.k' = true → (∀ j, j < g.k → listed.getD j false = true) → (∀ j, g.k' ≤ j → listed.getD j false = false) → TR m0 tm0 t0 → HR m0 base lvl h0 w0 → GR E.gl base w0 →
   (∀ i ∈ g.a, FactA S ops (planSeg g).a h0 m0 tm0 tmA i) → tmA.length = tm0.length → passB S h0.length ops g.b1 h0 tmA = some (h2, tm2) → (aliveLe h0 h2 = true ∧ passB S lvl ops g.b2 h2 tm2 = some (hE, tmE)) → segsA S lvl ops rs hE tmE = some (hF, tmF) → M.leG base mS m0 → Below base wS w0 →
   DrawInv S ops (planSeg g) base lvl h0 m0 w0 t0 tm0 tmA tm2 tmE h2 hE listed t w → i < g.k' →
   ∃ t' w', Steps E.P (lone (FR fr t (.inRegion ops0 (σ i :: rest) :: k)) cs w) (lone (FR fr t' (.inRegion ops0 rest :: k)) cs w') ∧ SegInv E S ops base lvl hF tmF mS wS (listed.setIfInBounds i true) t' w' := by
  intro listed t w hl hi g rs h0 h2 hE tm0 tmA tm2 tmE m0 w0 t0 c1 c2 c3 c4 c5 c6 c7 c8 c9 c10 c11 c12 c13 c14 c15 hlt
  have hils : i < listed.size := by rw [c15.size]; exact hisz
  have hl' : listed.getD i false = false := by simp [hils] at hl ⊢; exact hl
  obtain ⟨t', w', g1, g2⟩ := draw_step hS hσ c1.plan c5 c6 c7 listed (fun j hj hlj => by
    simp only [planSeg, appL_eq, List.mem_append, List.mem_range] at hj
    refine c8 j (hj.resolve_left fun h => ?_)
    rw [c3 j h] at hlj; simp at hlj) c9 c10 c11.1 c11.2 fr cs k t w i c15 hi (c1.all i hlt) rest
  refine ⟨t', w', g1, g, rs, h0, tm0, m0, w0, t0, h2, hE, tmA, tm2, tmE, c1, c2, fun j hj => (set_listed hils).2 (.inr (c3 j hj)), fun j hj => ?_, c5, c6, c7, c8, c9, c10, c11, c12, c13, c14, g2⟩
  rw [set_unlisted (by omega)]
  exact c4 j hj
 obtain ⟨g, rs, h0, tm0, m0, w0, t0, h2, hE, tmA, tm2, tmE, c1, c2, c3, c4, c5, c6, c7, c8, c9, c10, c11, c12, c13, c14, c15⟩ := hI
 by_cases hlt : i < g.k'
 ·exact inside hl hi g rs h0 h2 hE tm0 tmA tm2 tmE m0 w0 t0 c1 c2 c3 c4 c5 c6 c7 c8 c9 c10 c11 c12 c13 c14 c15 hlt
 ·-- the next piece begins
  have hpre : ∀ j, Nat.testBit (getD0 (masksFrom ops.toList []) i) j = true → listed.getD j false = true :=
   pre_listed hp (S := fun j => listed.getD j false = true) (fun i o h1 h2 => c15.down i o h1 h2) i o ho (fun e he hb => hedges e he (by rw [binds_any]; exact hb))
  have hall : ∀ j, j < g.k' → listed.getD j false = true := fun j hj => hpre j (c1.dom i hisz (by omega) j hj)
  obtain ⟨m, hT, H, hle, hBel⟩ := DrawInv.done c1 c5 c6 c15 c11.1 c11.2 hall c4
  cases rs with
  | nil =>
   have := Nat.eq_of_beq_eq_true (show Nat.beq g.k' ops.size = true from c2)
   omega
  | cons g' rs =>
   have hk' : g'.k = g.k' := by
    simp only [okSegs, Bool.and_eq_true] at c2
    exact Nat.eq_of_beq_eq_true c2.1.1
   have hnext := segInv_start hS hp (listed := listed) hT H (c7.below hBel) (c13.trans hle) (c14.trans hBel) (by rw [hk']; exact c2) c12 c15.size (by rw [hk']; exact hall) (by rw [hk']; exact c4)
   obtain ⟨h2, hE', tmA, tm2, tmE', d1, d2, d3, d4, d5, d6, d7, d8, d9, d10, d11, d12, d13, d14, d15⟩ := hnext
   by_cases hlt' : i < g'.k'
   ·exact inside hl hi _ _ _ h2 hE' _ tmA tm2 tmE' _ _ _ d1 d2 d3 d4 d5 d6 d7 d8 d9 d10 d11 d12 d13 d14 d15 hlt'
   ·exfalso
    have hfirst := hpre g'.k (d1.dom i hisz (by omega) g'.k d1.lt)
    rw [c4 g'.k (by omega)] at hfirst
    simp at hfirst
include hS hσ in
theorem drawList_sound {L : List Nat} (hL : ValidL ops (Array.replicate ops.size false) L) {base lvl : Nat} {h0 hEnd : Heap} {m0 : M} {w0 : World} {t0 : Array Value} {tm0 tmE : Tm} (hT0 : TR m0 tm0 t0) (H0 : HR m0 base lvl h0 w0) (G0 : GR E.gl base w0) (hs : drawOps E S lvl ops h0 tm0 = some (hEnd, tmE))
  (fr : Frame) (cs : List Frame) (k : List Item) :
  ∃ t' w' m', Steps E.P (lone (FR fr t0 (.inRegion ops0 (L.map σ) :: k)) cs w0) (lone (FR fr t' k) cs w') ∧ TR m' tmE t' ∧ HR m' base lvl hEnd w' ∧ M.leG base m0 m' ∧ Below base w0 w' := by
 unfold drawOps at hs
 split at hs
 ·rename_i l hpo
  have hc : (Nat.blt 0 (lenL ops.toList) && okOps (masksFrom ops.toList []) ops ops.toList 0 && okSegs (masksFrom ops.toList []) (lenL ops.toList) ops l 0) = true := by
   unfold planOf at hpo
   simp only at hpo
   split at hpo
   ·rename_i hc
    simp only [Option.some.injEq] at hpo
    rw [← hpo]; exact hc
   ·split at hpo
    ·rename_i hc
     simp only [Option.some.injEq] at hpo
     rw [← hpo]; exact hc
    ·simp at hpo
  ·simp only [Bool.and_eq_true, Nat.blt_eq, lenL_eq] at hc
   obtain ⟨⟨hn0, hok⟩, hoks⟩ := hc
   have hp := opsOk_of hok
   have hsz : ops.toList.length = ops.size := by simp
   rw [hsz] at hoks hn0
   have hf : ∀ j, (Array.replicate ops.size false).getD j false = false := fun j => by
    by_cases h : j < ops.size <;> simp [h]
   cases l with
   | nil =>
    have := Nat.eq_of_beq_eq_true (show Nat.beq 0 ops.size = true from hoks)
    omega
   | cons g rs =>
    have hk0 : g.k = 0 := by
     simp only [okSegs, Bool.and_eq_true] at hoks
     exact Nat.eq_of_beq_eq_true hoks.1.1
    have hI0 : SegInv E S ops base lvl hEnd tmE m0 w0 (Array.replicate ops.size false) t0 w0 :=
     ⟨g, rs, h0, tm0, m0, w0, t0, segInv_start hS hp hT0 H0 G0 (M.leG.refl _ m0) (Below.refl _ _) (by rw [hk0]; exact hoks) hs (by simp) (fun j hj => by omega) (fun j _ => hf j)⟩
    obtain ⟨t', w', listed', g1, g2, g3⟩ := list_sound (P := E.P) (ops := ops) (ops0 := ops0) (σ := σ) (fr := fr) (cs := cs) (k := k) _ (fun listed t w i hI hi rest => segInv_step hS hσ hp fr cs k listed t w i hI hi rest) L _ t0 w0 hI0 hL
    obtain ⟨g, rs, h1, tm1, m1, w1, t1, h2, hE, tmA, tm2, tmE', c1, c2, c3, c4, c5, c6, c7, c8, c9, c10, c11, c12, c13, c14, c15⟩ := g2
    have hall := all_listed hp c15.size g3
    have hge : ops.size ≤ g.k' := by
     rcases Nat.lt_or_ge g.k' ops.size with h | h
     ·have h1 := c4 g.k' (Nat.le_refl _)
      rw [hall g.k' h] at h1; simp at h1
     ·exact h
    have hrs : rs = [] := by
     cases rs with
     | nil => rfl
     | cons g' rs =>
      simp only [okSegs, Bool.and_eq_true] at c2
      have e1 := Nat.eq_of_beq_eq_true c2.1.1
      have hg' := segOk_of hp c2.1.2
      have := hg'.lt; have := hg'.le; omega
    subst hrs
    have e2 : some (hE, tmE') = some (hEnd, tmE) := c12
    simp only [Option.some.injEq, Prod.mk.injEq] at e2
    obtain ⟨rfl, rfl⟩ := e2
    obtain ⟨m, hT, H, hle, hBel⟩ := DrawInv.done c1 c5 c6 c15 c11.1 c11.2 (fun j hj => hall j (Nat.lt_of_lt_of_le hj c1.le)) c4
    exact ⟨t', w', m, Steps.trans g1 (.one stepF_regionEnd), hT, H, c13.trans hle, c14.trans hBel⟩
 ·simp at hs
include hS in
theorem drawOps_sound (hmx : E.P.follows .mixedOrders = true) {base lvl : Nat} {h0 hEnd : Heap} {m0 : M} {w0 : World} {t0 : Array Value} {tm0 tmE : Tm} (hT0 : TR m0 tm0 t0) (H0 : HR m0 base lvl h0 w0) (G0 : GR E.gl base w0) (hs : drawOps E S lvl ops h0 tm0 = some (hEnd, tmE))
  (tp : Nat) (fr : Frame) (cs : List Frame) (k : List Item) :
  ∃ t' w' m', Steps E.P (lone (FR fr t0 (.inRegion ops (Region.schedule (E.P.follows .mixedOrders) ops tp) :: k)) cs w0) (lone (FR fr t' k) cs w') ∧ TR m' tmE t' ∧ HR m' base lvl hEnd w' ∧ M.leG base m0 m' ∧ Below base w0 w' := by
 have e : Region.schedule (E.P.follows .mixedOrders) ops tp = Region.linearise.go .any ops ops.size tp (Array.replicate ops.size false) [] := by
  simp only [Region.schedule, hmx, Bool.true_or, if_true]
  rfl
 have hv := go_valid (ops := ops) ops.size tp (Array.replicate ops.size false) (List.range ops.size) (fun i hi _ => List.mem_range.2 hi) (by simp)
 have := drawList_sound hS (Virt.refl ops) hv hT0 H0 G0 hs fr cs k
 rw [List.map_id, ← e] at this
 exact this
end draws
end Go.Ev
end
