/-
  Calls, regions, and the whole run.
-/
import Derived.Test.YtgplabfjldndgaaGreatDoorEvJ
namespace Go.Ev
open Go.RowKit

section
variable {E : Env} {rec : RunT} {m : M} {base lvl : Nat} {h h' : Heap} {w : World} {tm : Tm} {t : Array Value} {x : AV}

theorem all2_undef (m : M) : ∀ n, All2 (VR m) (List.replicate n (.tup [])) (List.replicate n undef)
  | 0 => trivial
  | n + 1 => by rw [List.replicate_succ, List.replicate_succ]; exact ⟨⟨#[], rfl, trivial⟩, all2_undef m n⟩

/-- An object in a block of the evaluator's turns, and the block is given up. -/
theorem HR.dropObj (H : HR m base lvl h w) {b : Nat} {a : AB} (hb : h[b]? = some (some a)) (hlb : lvl ≤ b) (o : Obj) : HR m base lvl (h.set b none) (w.putObj (m.ρ b) o) := by
  have hK := H.kill b
  refine ⟨hK.n, hK.lvlLe, by simpa using hK.baseLe, fun k a' hk => ?_, hK.own, hK.inj, hK.lo, fun p hp => ⟨hK.tabs (fun q hq => World.putObj_heap_other fun e => (H.tab q hq).2 b a hlb hb e.symm) p hp, (hK.tab p hp).2⟩⟩
  refine (hK.ent k a' hk).world (World.putObj_heap_other fun e' => ?_)
  have hk' := alive_set hk
  exact hk'.2 (H.inj k b (List.getElem?_eq_some_iff.1 hk'.1).1 (List.getElem?_eq_some_iff.1 hb).1 ⟨a', hk'.1⟩ ⟨a, hb⟩ (.inr (Nat.le_trans H.lo hlb)) e')

theorem below_putObj {w : World} {base l : Nat} (h : base ≤ l) (o : Obj) : Below base w (w.putObj l o) :=
  ⟨rfl, rfl, rfl, by simp, fun k hk => World.putObj_heap_other (by omega)⟩

theorem mark_spec {b : Nat} (hm : markOk h b = true) : ∃ a, h[b]? = some (some a) ∧ a.ext = .mark := by
  unfold markOk at hm
  rw [getL_eq] at hm
  split at hm
  · rename_i a ha
    split at hm
    · rename_i hx; exact ⟨a, ha, hx⟩
    · simp at hm
  · simp at hm

/-- The marks of a frame on its way out are taken. -/
theorem dropMarks_sound (P : Program) : ∀ (l : List Nat) (h h1 : Heap) (w : World), HR m base lvl h w → dropMarks lvl h l = some h1 → ∀ (fr : Frame) (cs : List Frame), fr.mode ≠ .run → fr.defers = marksC m l →
    ∃ w', Steps P (lone fr cs w) (lone { fr with defers := [] } cs w') ∧ HR m base lvl h1 w' ∧ Below base w w'
  | [], h, h1, w, H, hs, fr, cs, hm, hd => by
    simp only [dropMarks, Option.some.injEq] at hs
    subst hs
    have e : { fr with defers := [] } = fr := by
      have : fr.defers = [] := hd
      cases fr; simp only at this; subst this; rfl
    rw [e]
    exact ⟨w, .refl _ _, H, Below.refl _ _⟩
  | b :: l, h, h1, w, H, hs, fr, cs, hm, hd => by
    have hs' : (if Nat.ble lvl b && markOk h b then dropMarks lvl (setL h b none) l else none) = some h1 := hs
    split at hs'
    · rename_i hc
      simp only [Bool.and_eq_true, Nat.ble_eq] at hc
      obtain ⟨hlb, hmk⟩ := hc
      obtain ⟨a, ha, hx⟩ := mark_spec hmk
      rw [setL_eq] at hs'
      have hent := (H.ent b a ha).2
      rw [hx] at hent
      have hob : w.heap[m.ρ b]? = some (.deferred (some [])) := hent
      have H' := H.dropObj ha hlb (.deferred none)
      have hB := below_putObj (w := w) (H.own b hlb (List.getElem?_eq_some_iff.1 ha).1) (.deferred none)
      have hst := step_collected (P := P) (fr := fr) (cs := cs) (d := { target := .collected (m.ρ b), args := #[] }) (ds := marksC m l) (calls := []) hm hd rfl (run_takeDeferred hob)
      obtain ⟨w', h2, h3, h4⟩ := dropMarks_sound P l _ h1 _ H' hs' { fr with defers := marksC m l } cs hm rfl
      exact ⟨w', .head hst h2, h3, hB.trans h4⟩
    · simp at hs'

/-- The body of a call, from a given heap. -/
theorem callBody_sound (hrec : RecOk E rec) {f : FuncId} {fn : Func} {c : Code} (hf : E.P.funcs[f]? = some fn) (hb : fn.body = some c) {args : List AV} {argsC : Array Value} (ha : All2 (VR m) args argsC.toList)
    (H : HR m base lvl h w) (G : GR E.gl base w) {v : AV} (hs : callBody E rec lvl h fn c args = some (v, h')) :
    Calls E.P f argsC w fun e w' => ∃ y, e = .returned y ∧ ∃ m', PostG m base lvl w v h' y w' m' := by
  unfold callBody at hs
  split at hs
  · rename_i r hr
    split at hs
    · rename_i hj
      split at hs
      · rename_i h1 hdm
        split at hs
        · rename_i v' hv
          simp only [Option.some.injEq, Prod.mk.injEq] at hs
          obtain ⟨rfl, rfl⟩ := hs
          intro cs
          let fr0 : Frame := Frame.enter E.P f argsC .normal
          have hT : TR m (appL args (List.replicate (fn.ntmps - lenL args) (.tup []))) (argsC ++ Array.replicate (fn.ntmps - argsC.size) undef) := by
            unfold TR
            rw [appL_eq, lenL_eq, Array.toList_append, Array.toList_replicate]
            have hl : args.length = argsC.size := by have := ha.length; simpa using this
            rw [hl]
            exact ha.append (all2_undef m _)
          have he : fr0 = FR fr0 (argsC ++ Array.replicate (fn.ntmps - argsC.size) undef) [.code c] := by
            simp [fr0, Frame.enter, FR, hf, hb]
          have hround : fr0.roundOf = none := rfl
          obtain ⟨t', todo', w1, m', hst, hT', H', hle, hB, hend, _⟩ := hrec _ _ _ _ _ _ hr fr0 _ cs w m base hround hT H G
          have hd0 : fr0.defers = [] := rfl
          rw [hd0, List.append_nil] at hst
          have fin : ∃ todo'', Steps E.P (lone (FR { fr0 with defers := marksC m' r.marks } t' todo') cs w1) (lone { FR { fr0 with defers := marksC m' r.marks } t' todo'' with mode := .returning } cs w1) := by
            cases hjj : r.jump with
            | fell =>
              rw [hjj] at hend
              have : todo' = [] := hend
              subst this
              exact ⟨[], .one (stepF_end hround)⟩
            | ret =>
              rw [hjj] at hend
              obtain ⟨k, rfl⟩ := hend
              exact ⟨.code .ret :: k, .one (stepF_ret hround)⟩
            | exit id => rw [hjj] at hj; simp [fellOrRet] at hj
          obtain ⟨todo'', hfin⟩ := fin
          obtain ⟨w', hdr, H2, hB2⟩ := dropMarks_sound E.P r.marks _ _ _ H' hdm { FR { fr0 with defers := marksC m' r.marks } t' todo'' with mode := .returning } cs (by simp) rfl
          obtain ⟨y, hy, hvr⟩ := resultsA_sound (E := E) hT' H2 ((G.below hB).below hB2) hv
          refine ⟨.returned y, w', { FR fr0 t' todo'' with mode := .returning }, ⟨y, rfl, m', hle, hvr, H2, hB.trans hB2⟩, ?_, rfl, ?_⟩
          · show Steps E.P (lone fr0 cs w) _
            rw [he]
            exact Steps.trans hst (Steps.trans hfin hdr)
          · exact ⟨rfl, rfl, rfl, fn, hf, hy⟩
        · simp at hs
      · simp at hs
    · simp at hs
  · simp at hs

theorem GR.up {gl : List (Nat × List Value)} {base base' : Nat} {w : World} (h : base ≤ base') (G : GR gl base w) : GR gl base' w := fun g cs hg => by
  obtain ⟨h1, h2⟩ := G g cs hg
  exact ⟨by omega, h2⟩

theorem callA_sound (hrec : RecOk E rec) {f : FuncId} {args : List AV} {argsC : Array Value} (ha : All2 (VR m) args argsC.toList) (H : HR m base lvl h w) (G : GR E.gl base w) {v : AV}
    (hs : callA E rec lvl h f args = some (v, h')) : Calls E.P f argsC w fun e w' => ∃ y, e = .returned y ∧ ∃ m', PostG m base lvl w v h' y w' m' := by
  unfold callA at hs
  split at hs
  · rename_i fn hf
    split at hs
    · rename_i c hb
      split at hs
      · exact callBody_sound hrec hf hb ha H G hs
      · split at hs
        · rename_i v1 h1 hcb
          rw [lenL_eq] at hcb
          have H0 : HR m w.heap.size h.length h w := H.shut
          have hc := callBody_sound hrec hf hb ha H0 (G.up H.baseLe) hcb
          refine hc.mono fun e w' ⟨y, hy, m1, hp⟩ => ⟨y, hy, ?_⟩
          obtain ⟨m2, k1, k2, k3⟩ := bring_sound H hp.heap hp.le hp.below hp.val hs
          exact ⟨m2, k1, k2, k3, hp.below.mono H.baseLe⟩
        · simp at hs
    · simp at hs
  · simp at hs

theorem frozen_free {w : World} {r : Nat} {c : Array Value} {e : TypeId} {fz : Nat × Nat} (hw : w.heap[r]? = some (.cells c e fz)) (hf : FzOk c.size fz) (h0 : 0 < c.size) : w.frozen? ⟨r, 0, none⟩ = false := by
  have := hf.free 0 h0
  simp [World.frozen?, hw]
  omega

theorem copyCheckA_sound (hE : EnvOk E) {f : FuncId} (hf : E.hk f = .copyCheck) {args : List AV} {argsC : Array Value} (ha : All2 (VR m) args argsC.toList) (H : HR m base lvl h w) {v : AV} (hs : copyCheckA E lvl h args = some (v, h')) :
    Calls E.P f argsC w fun e w' => ∃ y, e = .returned y ∧ ∃ m', PostG m base lvl w v h' y w' m' := by
  unfold copyCheckA at hs
  split at hs
  · rename_i b
    obtain ⟨y0, hy0, hr0⟩ := all2_one ha
    obtain ⟨hbn, rfl⟩ : b < m.n ∧ y0 = _ := hr0
    have hy : argsC = #[.pointer (some ⟨m.ρ b, 0, none⟩)] := by rw [← Array.toList_inj]; exact hy0
    subst hy
    split at hs
    · rename_i a hb
      have hab := blk_eq hb
      obtain ⟨b1, b2, c, fz, b3, b4, b5, b6, b7⟩ := H.blk b a hab (blk_ext hb)
      split at hs
      · rename_i c0 c1 hcells
        rw [hcells] at b7 b1
        have hn2 : a.n = 2 := by simpa using b1.symm
        obtain ⟨p0, p1, hp, hr0, hr1⟩ : ∃ p0 p1, c.toList.take a.n = [p0, p1] ∧ CR m c0 p0 ∧ CR m c1 p1 := all2_two b7
        have h0 : c[0]? = some p0 := by
          have : (c.toList.take a.n)[0]? = some p0 := by rw [hp]; rfl
          rw [List.getElem?_take] at this
          simpa [hn2] using this
        have hcell : w.cell? ⟨m.ρ b, 0, none⟩ = some p0 := by
          have := cell_of_row w (m.ρ b) 0 c a.elem fz b3
          rw [this]; exact h0
        split at hs
        · rename_i hself
          simp only [Option.some.injEq, Prod.mk.injEq] at hs
          obtain ⟨rfl, rfl⟩ := hs
          have hp0 : p0 = .pointer (some ⟨m.ρ b, 0, none⟩) := by
            unfold isSelf at hself
            split at hself
            · rename_i c'
              have e := Nat.eq_of_beq_eq_true hself
              subst e
              exact hr0.2
            · simp at hself
          exact (hE.used f hf (m.ρ b) w (by rw [hcell, hp0])).mono fun e w' ⟨he, hw⟩ => ⟨_, he, m, by subst hw; exact (Post.same H (x := .tup []) (y := .tuple #[]) ⟨#[], rfl, trivial⟩).g⟩
        · split at hs
          · rename_i hc
            simp only [Bool.and_eq_true, Nat.ble_eq] at hc
            obtain ⟨⟨⟨hnil, hlb⟩, hel⟩, hfull⟩ := hc
            have hel' : a.elem = E.bt := Nat.eq_of_beq_eq_true hel
            simp only [Option.some.injEq, Prod.mk.injEq] at hs
            obtain ⟨rfl, rfl⟩ := hs
            have hsz : c.size = 2 := by rw [b4, ← b2 hfull, hn2]
            have hp0 : p0 = .pointer none := by
              unfold isNilSlot at hnil
              split at hnil
              · exact hr0
              · simp at hnil
            have hsh : w.shape? (m.ρ b) = some (E.bt, 2) := by unfold World.shape?; rw [b3, hel', ← hsz]
            refine (hE.fresh f hf (m.ρ b) w (by rw [hcell, hp0]) hsh (frozen_free b3 (b5 (Nat.le_trans H.lo hlb)) (by omega))).mono fun e w' ⟨he, hw⟩ => ⟨_, he, m, M.leG.refl _ m, ⟨#[], rfl, trivial⟩, ?_, ?_⟩
            · subst hw
              rw [setL_eq]
              refine H.putEnt hab hlb (by simp [World.setCell]) (fun k hk => by simp [World.setCell, Array.getElem?_modify, Ne.symm hk]) ⟨fun _ => ⟨by simp [hn2], b2, c.setIfInBounds 0 (.pointer (some ⟨m.ρ b, 0, none⟩)), fz, by simp [World.setCell, Array.getElem?_modify, b3], by simpa using b4, by simpa using b5, by simpa using b6, ?_⟩, by simp only [blk_ext hb]; trivial⟩
              have hl : c.toList = [p0, p1] := by
                rw [← hp, hn2, List.take_of_length_le (by simp [hsz])]
              simp only [hn2, Array.toList_setIfInBounds, hl]
              exact ⟨⟨hbn, rfl⟩, hr1, trivial⟩
            · subst hw
              have hown := H.own b hlb (List.getElem?_eq_some_iff.1 hab).1
              exact ⟨rfl, rfl, rfl, by simp [World.setCell], fun k hk => by simp [World.setCell, Array.getElem?_modify, show ¬ m.ρ b = k by omega]⟩
          · simp at hs
      · simp at hs
    · simp at hs
  · simp at hs

theorem str_sound {a : AC} {x : ByteArray} {y : Value} (h : a.str? = some x) (hr : CR m a y) : y = .string x := by
  unfold AC.str? at h
  split at h
  · simp at h; subst h; exact hr
  · simp at h
theorem all2_nth {α β : Type} {R : α → β → Prop} : ∀ {l : List α} {ys : List β}, All2 R l ys → ∀ {i : Nat} {a : α}, l[i]? = some a → ∃ b, ys[i]? = some b ∧ R a b
  | [], _, _, i, a, h => by simp at h
  | x :: l, [], h, _, _, _ => h.elim
  | x :: l, y :: ys, h, 0, a, e => by simp at e; subst e; exact ⟨y, rfl, h.1⟩
  | x :: l, y :: ys, h, i + 1, a, e => all2_nth h.2 (by simpa using e)

theorem joinA_sound (hE : EnvOk E) {f : FuncId} (hf : E.hk f = .join) {args : List AV} {argsC : Array Value} (ha : All2 (VR m) args argsC.toList) (H : HR m base lvl h w) {v : AV} (hs : joinA h args = some (v, h')) :
    Calls E.P f argsC w fun e w' => ∃ y, e = .returned y ∧ ∃ m', PostG m base lvl w v h' y w' m' := by
  unfold joinA at hs
  split at hs
  · rename_i b o len sz cap ex sep
    obtain ⟨y0, y1, hy, hr0, hr1⟩ := all2_two ha
    have hr1' : y1 = .string sep := hr1
    subst hr1'
    obtain ⟨hbn, c, o', rfl, ho, hlc, hcc, _, _, _⟩ := hr0
    have hy : argsC = #[.slice (some ⟨m.ρ b, o', none⟩) len c, .string sep] := by rw [← Array.toList_inj]; exact hy
    subst hy
    split at hs
    · rename_i a hb
      split at hs
      · rename_i cs hcs
        split at hs
        · rename_i xs hxs
          split at hs
          · rename_i hc
            simp only [Bool.and_eq_true, Nat.ble_eq, lenL_eq] at hc
            obtain ⟨⟨h1, h2⟩, h3⟩ := hc
            simp only [Option.some.injEq, Prod.mk.injEq] at hs
            obtain ⟨rfl, rfl⟩ := hs
            have hab := blk_eq hb
            obtain ⟨b1, b2, row, fz, b3, b4, b5, b6, b7⟩ := H.blk b a hab (blk_ext hb)
            have e := allSome_eq hxs
            obtain ⟨htl, hte⟩ := takeL_some hcs
            have hlen : xs.length = len := by
              have hcl : cs.length = len := by rw [hte, List.length_take]; omega
              have := congrArg List.length e
              simp only [List.length_map] at this
              omega
            have hcell : ∀ (j : Nat) x, xs[j]? = some x → w.cell? ⟨m.ρ b, o' + j, none⟩ = some (.string x) := fun j x hj => by
              have hjl : j < len := by rw [← hlen]; exact (List.getElem?_eq_some_iff.1 hj).1
              have hc0 : ¬ c = 0 := by omega
              have ho' : o' = o := ho.resolve_right hc0
              subst ho'
              have e1 : (cs.map AC.str?)[j]? = some (some x) := by rw [e]; simp [hj]
              rw [List.getElem?_map] at e1
              obtain ⟨ac, hac, e2⟩ := Option.map_eq_some_iff.1 e1
              have e3 : a.cells[o' + j]? = some ac := by
                rw [hte, dropL_eq, List.getElem?_take, if_pos hjl, List.getElem?_drop] at hac
                exact hac
              obtain ⟨y, hy, hr⟩ := all2_nth b7 e3
              rw [List.getElem?_take] at hy
              split at hy
              · rw [cell_of_row w (m.ρ b) (o' + j) row a.elem fz b3]
                rw [Array.getElem?_toList] at hy
                rw [hy, str_sound e2 hr]
              · simp at hy
            have hsz : m.ρ b < w.heap.size := (Array.getElem?_eq_some_iff.1 b3).1
            have := hE.join f hf (m.ρ b) o' c xs sep w hcell hsz (by omega) (by omega) h3
            rw [hlen] at this
            exact this.mono fun e w' ⟨he, hB⟩ => ⟨_, he, m, M.leG.refl _ m, rfl, H.world hB.size hB.block, hB.mono H.baseLe⟩
          · simp at hs
        · simp at hs
      · simp at hs
    · simp at hs
  · simp at hs

theorem hookA_sound (hE : EnvOk E) (hrec : RecOk E rec) {f : FuncId} {args : List AV} {argsC : Array Value} (ha : All2 (VR m) args argsC.toList) (H : HR m base lvl h w) (G : GR E.gl base w) {v : AV}
    (hs : hookA E rec lvl h f args = some (v, h')) : Calls E.P f argsC w fun e w' => ∃ y, e = .returned y ∧ ∃ m', PostG m base lvl w v h' y w' m' := by
  unfold hookA at hs
  split at hs
  · exact callA_sound hrec ha H G hs
  · rename_i hk; exact copyCheckA_sound hE hk ha H hs
  · rename_i hk; exact joinA_sound hE hk ha H hs

/-- A round of a loop over a function, as its frame's callers see it. -/
def Rounds (P : Program) (l : Nat) (fn : FuncId) (tmps : Array Value) (asg body : Code) (w : World) (R : Value → World → Prop) : Prop :=
  ∀ (cl : Frame) (cs : List Frame), ∃ y w', Steps P (lone (Frame.round l fn tmps asg body .normal) (cl :: cs) w) (lone (cl.finish y) cs w') ∧ R y w'

theorem params_sound {m : M} : ∀ (ps : List Tmp) {args : List AV} {argsC : List Value} {tm : Tm} {t : Array Value}, args.length = ps.length → All2 (VR m) args argsC → TR m tm t →
    TR m (setParams ps args tm) ((ps.zip argsC).foldl (fun t p => t.setIfInBounds p.1 p.2) t)
  | [], _, _, _, _, _, _, hT => hT
  | p :: ps, [], _, _, _, hl, _, _ => by simp at hl
  | p :: ps, a :: args, [], _, _, _, ha, _ => ha.elim
  | p :: ps, a :: args, y :: argsC, tm, t, hl, ha, hT => by
    show TR m (setParams ps args (setL tm p a)) _
    simp only [List.zip_cons_cons, List.foldl_cons]
    exact params_sound ps (by simpa using hl) ha.2 (putT_sound hT (some p) ha.1)

theorem roundA_sound (hrec : RecOk E rec) {b : Nat} {args : List AV} {argsC : Array Value} (ha : All2 (VR m) args argsC.toList) (H : HR m base lvl h w) (G : GR E.gl base w) (hs : roundA rec lvl h b args = some (x, h')) :
    ∃ fn tmps asg body, (Instr.yield (m.ρ b) argsC).run E.P w = .ok (.round (m.ρ b) fn tmps asg body) w ∧ Rounds E.P (m.ρ b) fn tmps asg body w fun y w' => ∃ m', PostG m base lvl w x h' y w' m' := by
  unfold roundA at hs
  rw [getL_eq] at hs
  split at hs
  · rename_i a hab
    have hbl := (List.getElem?_eq_some_iff.1 hab).1
    have hbn : b < m.n := by rw [H.n]; exact hbl
    split at hs
    · rename_i st pend tm0 ps asg body hx
      have hent := (H.ent b a hab).2
      rw [hx] at hent
      obtain ⟨fn, t0, D, hw, hT0⟩ := hent
      split at hs
      · rename_i hc
        simp only [Bool.and_eq_true, Nat.beq_eq_true_eq, Nat.ble_eq, lenL_eq] at hc
        obtain ⟨hlen, hlb⟩ := hc
        have hsz : argsC.size = ps.size := by have := ha.length; simp at this hlen; omega
        have hy := run_yield (P := E.P) (args := argsC) hw (by simpa using hsz)
        refine ⟨_, _, _, _, hy, fun cl cs => ?_⟩
        split at hs
        · rename_i r hr
          split at hs
          · rename_i a' hmk hab'
            rw [getL_eq] at hab'
            split at hs
            · rename_i st' pd' tm' ps' as' bo' hx'
              simp only [Option.some.injEq, Prod.mk.injEq] at hs
              obtain ⟨rfl, rfl⟩ := hs
              have hT1 := params_sound ps.toList (argsC := argsC.toList) (by simpa using hlen) ha (show TR m tm0 t0 from hT0)
              have hz : (ps.zip argsC).foldl (fun tmps (x : Tmp × Value) => tmps.setIfInBounds x.1 x.2) t0 = (ps.toList.zip argsC.toList).foldl (fun t p => t.setIfInBounds p.1 p.2) t0 := by
                rw [← Array.foldl_toList, Array.toList_zip]
              generalize htm : (ps.toList.zip argsC.toList).foldl (fun t p => t.setIfInBounds p.1 p.2) t0 = tms at hT1 hz
              have hfr : Frame.round (m.ρ b) fn tms asg body .normal = FR (Frame.round (m.ρ b) fn tms asg body .normal) tms [.code asg, .beginRound, .code body] := rfl
              obtain ⟨t', todo', w1, m1, hst, hT', H1, hle, hB, hend, _⟩ := hrec _ _ _ _ _ _ hr (Frame.round (m.ρ b) fn tms asg body .normal) tms (cl :: cs) w m base ⟨hbn, rfl, rfl⟩ hT1 H G
              have hent' := (H1.ent b a' hab').2
              rw [hx'] at hent'
              obtain ⟨fn', t2, D', hw', hT2⟩ := hent'
              rw [hle.ρ b hbn] at hw'
              have hE := run_endRound (P := E.P) (pendOf r.jump) hw'
              have hlt := (Array.getElem?_eq_some_iff.1 hw').1
              have hlast : step E.P (lone (FR { Frame.round (m.ρ b) fn tms asg body .normal with defers := marksC m1 r.marks ++ [] } t' todo') (cl :: cs) w1) = .next (lone (cl.finish (.bool (pendOf r.jump).isNone)) cs (w1.putObj (m.ρ b) (.loop { state := if (pendOf r.jump).isNone then .ready else .done, pending := pendOf r.jump, fn := fn', tmps := t2, params := ps', assign := as', body := bo', defers := D' }))) := by
                cases hj : r.jump with
                | fell =>
                  rw [hj] at hend hE
                  have : todo' = [] := hend
                  subst this
                  exact stepF_round_end rfl rfl hE
                | ret =>
                  rw [hj] at hend hE
                  obtain ⟨k, rfl⟩ := hend
                  exact stepF_round_ret rfl rfl hE
                | exit id =>
                  rw [hj] at hend hE
                  obtain ⟨k, rfl, hk⟩ := hend
                  exact stepF_round_exit rfl rfl hk hE
              refine ⟨.bool (pendOf r.jump).isNone, w1.putObj (m.ρ b) (.loop { state := if (pendOf r.jump).isNone then .ready else .done, pending := pendOf r.jump, fn := fn', tmps := t2, params := ps', assign := as', body := bo', defers := D' }), ?_, m1, hle, rfl, ?_, hB.trans (below_putObj (H.own b hlb hbl) _)⟩
              · simp only [hz]
                rw [hfr]
                exact Steps.trans hst (.one hlast)
              · rw [setL_eq]
                refine H1.putEnt hab' hlb (by simp) (fun k hk => World.putObj_heap_other (by rw [hle.ρ b hbn] at hk; exact hk)) ⟨fun hx => by simp at hx, fn', t2, D', ?_, hT2⟩
                rw [hle.ρ b hbn]
                exact World.putObj_heap_same hlt
            · simp at hs
          · simp at hs
        · simp at hs
      · simp at hs
    · simp at hs
  · simp at hs

/-- What an operation does, whatever stands behind it. -/
def OpRes (P : Program) (t : Array Value) (o : Oper) (w : World) (R : Value → World → Prop) : Prop :=
  (∀ c, o.op ≠ .defer c) ∧ (∀ cs b, o.op ≠ .select cs b) ∧
    ((∃ y w', Does P t o w y w' ∧ R y w') ∨ (∃ f args, (execOp (evC t) o).run P w = .ok (.enter f args) w ∧ Calls P f args w fun e w' => ∃ y, e = .returned y ∧ R y w') ∨
      ∃ l fn tmps asg body, (execOp (evC t) o).run P w = .ok (.round l fn tmps asg body) w ∧ Rounds P l fn tmps asg body w R)

theorem OpRes.steps {P : Program} {o : Oper} {R : Value → World → Prop} (hr : OpRes P t o w R) {ops : Array Oper} {i : Nat} {rest : List Nat} {k : List Item} (ho : ops[i]? = some o)
    (hw : Region.wanted o (yielded ops t) = true) (fr : Frame) (cs : List Frame) :
    ∃ y w', Steps P (lone (FR fr t (.inRegion ops (i :: rest) :: k)) cs w) (lone (FR fr (putC t o.dst y) (.inRegion ops rest :: k)) cs w') ∧ R y w' := by
  obtain ⟨hd, _, ⟨y, w', h1, h2⟩ | ⟨f, args, h1, h2⟩ | ⟨l, fn, tmps, asg, body, h1, h2⟩⟩ := hr
  · exact ⟨y, w', .one (stepF_value ho hw hd h1), h2⟩
  · exact stepsF_enter ho hw hd h1 h2
  · obtain ⟨y, w', hst, hR⟩ := h2 (FR fr t (.inRegion ops (i :: rest) :: k)) cs
    refine ⟨y, w', ?_, hR⟩
    rw [← FR_finish (fr := fr) ho]
    refine .head (step_lone_go (fr' := Frame.round l fn tmps asg body .normal) (cs' := FR fr t (.inRegion ops (i :: rest) :: k) :: cs) (w' := w) ?_) hst
    rw [stepG_F ho hw hd]
    simp [stepG.apply, h1, FR]

theorem OpRes.congr {P : Program} {o : Oper} {R : Value → World → Prop} {t' : Array Value} (hr : OpRes P t o w R) (he : ∀ x ∈ o.op.operands, evC t x = evC t' x) : OpRes P t' o w R := by
  obtain ⟨hd, hs, h⟩ := hr
  have e := execOp_congr o hs he
  refine ⟨hd, hs, ?_⟩
  unfold Does at *
  rw [← e]
  exact h

theorem OpRes.some {P : Program} {o : Oper} {R : Value → World → Prop} (hr : OpRes P t o w R) : ∃ y w', R y w' := by
  obtain ⟨_, _, ⟨y, w', _, h2⟩ | ⟨f, args, _, h2⟩ | ⟨_, _, _, _, _, _, h2⟩⟩ := hr
  · exact ⟨y, w', h2⟩
  · obtain ⟨_, w', _, ⟨y, _, hR⟩, _⟩ := h2 []
    exact ⟨y, w', hR⟩
  · obtain ⟨y, w', _, hR⟩ := h2 (Frame.enter P 0 #[] .normal) []
    exact ⟨y, w', hR⟩

/-- What an operation leaves. -/
def PostO (o : Oper) (m : M) (base lvl : Nat) (w : World) (x : AV) (h' : Heap) (y : Value) (w' : World) (m' : M) : Prop := PostG m base lvl w x h' y w' m' ∧ (callV o = false → m.le m')
theorem Post.o {o : Oper} {w' : World} {y : Value} {m' : M} (p : Post m base lvl w x h' y w' m') : PostO o m base lvl w x h' y w' m' := ⟨p.g, fun _ => p.le⟩
theorem Post.sameO {o : Oper} {y : Value} (H : HR m base lvl h w) (hv : VR m x y) : PostO o m base lvl w x h y w m := (Post.same H hv).o
theorem callV_call {o : Oper} {c : Call} (hop : o.op = .call c) : callV o = true := by simp [callV, hop]
theorem callV_callee {o : Oper} {c : Call} {p : FuncId × List AV} (hop : o.op = .call c) (_ : calleeOf tm c = some p) : callV o = true := callV_call hop
theorem callV_yield {o : Oper} {c : Call} {p : Nat × List AV} (hop : o.op = .call c) (_ : yieldOf tm c = some p) : callV o = true := callV_call hop
theorem Rounds.mono {P : Program} {l : Nat} {fn : FuncId} {tmps : Array Value} {asg body : Code} {R R' : Value → World → Prop} (hr : Rounds P l fn tmps asg body w R) (hi : ∀ y w', R y w' → R' y w') : Rounds P l fn tmps asg body w R' := fun cl cs => by
  obtain ⟨y, w', h1, h2⟩ := hr cl cs
  exact ⟨y, w', h1, hi y w' h2⟩

/-- One operation. -/
theorem stepOp_res (hE : EnvOk E) (hrec : RecOk E rec) (hT : TR m tm t) (H : HR m base lvl h w) (G : GR E.gl base w) {o : Oper} (hs : stepOp E rec lvl h tm o = some (x, h')) :
    OpRes E.P t o w fun y w' => ∃ m', PostO o m base lvl w x h' y w' m' := by
  have one : (∀ c, o.op ≠ .defer c) → (∀ cs b, o.op ≠ .select cs b) → (∃ y w' m', Does E.P t o w y w' ∧ Post m base lvl w x h' y w' m') → OpRes E.P t o w fun y w' => ∃ m', PostO o m base lvl w x h' y w' m' :=
    fun hd hsel ⟨y, w', m', h1, h2⟩ => ⟨hd, hsel, .inl ⟨y, w', h1, m', h2.o⟩⟩
  have viaPure : (pureOp E tm o).map (fun x => (x, h)) = some (x, h') → ∃ y w' m', Does E.P t o w y w' ∧ Post m base lvl w x h' y w' m' := by
    intro hp
    cases hpo : pureOp E tm o with
    | none => rw [hpo] at hp; simp at hp
    | some x' =>
      rw [hpo] at hp
      simp only [Option.map_some, Option.some.injEq, Prod.mk.injEq] at hp
      obtain ⟨rfl, rfl⟩ := hp
      obtain ⟨y, h1, h2⟩ := pureOp_sound hT hpo w
      exact ⟨y, w, m, h1, Post.same H h2⟩
  have notDefer : pureOp E tm o ≠ none → ∀ c, o.op ≠ .defer c := by
    intro hp c hc
    apply hp
    simp [pureOp, hc, notSelect]
  have notSel : pureOp E tm o ≠ none → ∀ cs b, o.op ≠ .select cs b := by
    intro hp c b hc
    apply hp
    simp [pureOp, hc, notSelect]
  unfold stepOp at hs
  split at hs
  · rename_i a hop
    simp only [Option.some.injEq, Prod.mk.injEq] at hs
    obtain ⟨rfl, rfl⟩ := hs
    exact one (by simp [hop]) (by simp [hop]) ⟨evC t a, w, m, .inl (by simp [execOp, hop]), Post.same H (evA_sound hT a)⟩
  · rename_i a hop
    simp only [Option.some.injEq, Prod.mk.injEq] at hs
    obtain ⟨rfl, rfl⟩ := hs
    exact one (by simp [hop]) (by simp [hop]) ⟨evC t a, w, m, .inl (by simp [execOp, hop]), Post.same H (evA_sound hT a)⟩
  · rename_i u a hop
    cases hl : loadA E h u (evA tm a) with
    | none => rw [hl] at hs; simp at hs
    | some x' =>
      rw [hl] at hs
      simp only [Option.map_some, Option.some.injEq, Prod.mk.injEq] at hs
      obtain ⟨rfl, rfl⟩ := hs
      obtain ⟨v, hv, hr⟩ := loadA_sound (E := E) H G (evA_sound hT a) hl
      exact one (by simp [hop]) (by simp [hop]) ⟨v, w, m, .inl (by simp [execOp, hop, hv]), Post.same H hr⟩
  · rename_i b u a c yt hop
    split at hs
    · rename_i p q hp hq
      cases hbv : binA E.P b u a c p q with
      | none => rw [hbv] at hs; simp at hs
      | some v =>
        rw [hbv] at hs
        simp only [Option.map_some, Option.some.injEq, Prod.mk.injEq] at hs
        obtain ⟨rfl, rfl⟩ := hs
        have h1 := evA_sound hT a
        rw [hp] at h1
        have h2 := evA_sound hT c
        rw [hq] at h2
        have e1 : evC t a = p := h1
        have e2 : evC t c = q := h2
        have hr := binA_sound E.P b u a c p q v hbv w
        refine one (by simp [hop]) (by simp [hop]) ⟨v, w, m, .inl ?_, Post.same H (AV.of_sound m v)⟩
        simp only [execOp, hop, e1, e2]
        rw [Sem.run_bind, hr]
        simp
    · rename_i bb oo ll ss cp ex n2 c2 hp hq
      split at hs
      · rename_i r el hr hu
        simp only [Option.some.injEq, Prod.mk.injEq] at hs
        obtain ⟨rfl, rfl⟩ := hs
        have h1 := evA_sound hT a
        rw [hp] at h1
        obtain ⟨_, cc, o', h1, _⟩ : CR m (.slc bb oo ll ss cp ex) (evC t a) := h1
        have h2 := evA_sound hT c
        rw [hq] at h2
        have h2 : evC t c = .slice none n2 c2 := h2
        have heq : ∀ w, (Op.equal u (evC t a) (evC t c)).run E.P w = .ok false w := fun w => by
          rw [h1, h2]
          simp only [Op.equal, Op.maxDepth]
          unfold Op.equalIn
          simp [run_underlying hu]
        refine one (by simp [hop]) (by simp [hop]) ⟨.bool r, w, m, .inl ?_, Post.same H (show CR m (.v _) _ from rfl)⟩
        cases b <;> simp only [nilEq, Option.some.injEq, reduceCtorEq] at hr
        · subst hr
          have := heq w
          rw [h1, h2] at this
          simp [execOp, hop, h1, h2, eqGuard, binOp, this]
        · subst hr
          have := heq w
          rw [h1, h2] at this
          simp [execOp, hop, h1, h2, eqGuard, binOp, this]
      · simp at hs
    · have hn : pureOp E tm o ≠ none := fun hn => by rw [hn] at hs; simp at hs
      exact one (notDefer hn) (notSel hn) (viaPure hs)
  · rename_i c hop
    unfold callOp at hs
    split at hs
    · rename_i f args hcal
      split at hs
      · rename_i fn hfn
        split at hs
        · rename_i hbody
          -- a call of a function with a body
          have hcv : ∃ argsC : Array Value, (execOp (evC t) o).run E.P w = .ok (.enter f argsC) w ∧ All2 (VR m) args argsC.toList := by
            have hargs := args_sound hT c.args
            have hnb : ¬ fn.body = none := fun e => by simp [e] at hbody
            have hnum : ¬ fn.name = "runtime.NumGoroutine" := by simpa using hE.num f fn hfn
            unfold calleeOf at hcal
            split at hcal
            · rename_i fo hfo
              have hfv := evA_sound hT fo
              split at hcal
              · rename_i g first cs' hev
                rw [hev] at hfv
                have hfv' : evC t fo = .func (.func g) first cs' := hfv
                split at hcal
                · rename_i hfirst
                  have : first = #[] := by simpa using hfirst
                  subst this
                  simp only [Option.some.injEq, Prod.mk.injEq] at hcal
                  obtain ⟨rfl, rfl⟩ := hcal
                  refine ⟨c.args.map (evC t) ++ cs', ?_, ?_⟩
                  · simp [execOp, hop, resolve, hfo, hfv', Deferred.ofValue, invoke, callFunc, hfn, hnb, hnum]
                  · rw [Array.toList_append]
                    refine hargs.append ?_
                    generalize cs'.toList = l
                    induction l with
                    | nil => trivial
                    | cons a l ih => exact ⟨AV.of_sound m a, ih⟩
                · simp at hcal
              · rename_i g fs' cs' hev
                rw [hev] at hfv
                obtain ⟨vf, vc, hfv', h1, h2⟩ : ∃ vf vc : Array Value, evC t fo = .func (.func g) vf vc ∧ All2 (CE.R m) fs' vf.toList ∧ All2 (CE.R m) cs' vc.toList := hfv
                simp only [Option.some.injEq, Prod.mk.injEq] at hcal
                obtain ⟨rfl, rfl⟩ := hcal
                refine ⟨vf ++ (c.args.map (evC t) ++ vc), ?_, ?_⟩
                · simp [execOp, hop, resolve, hfo, hfv', Deferred.ofValue, invoke, callFunc, hfn, hnb, hnum]
                · rw [Array.toList_append, Array.toList_append]
                  exact (CEs.av h1).append (hargs.append (CEs.av h2))
              · simp at hcal
            · simp at hcal
          obtain ⟨argsC, hrun, hargs⟩ := hcv
          have hc := hookA_sound hE hrec hargs H G hs
          exact ⟨by simp [hop], by simp [hop], .inr (.inl ⟨f, argsC, hrun, hc.mono fun e w' ⟨y, hy, m', hp⟩ => ⟨y, hy, m', hp, fun hcv => by rw [callV_callee hop hcal] at hcv; cases hcv⟩⟩)⟩
        · exact one (by simp [hop]) (by simp [hop]) (viaPure hs)
      · simp at hs
    · split at hs
      · rename_i b args hyo
        have hcv := callV_yield hop hyo
        unfold yieldOf at hyo
        split at hyo
        · rename_i f hcf
          split at hyo
          · rename_i b' hev
            simp only [Option.some.injEq, Prod.mk.injEq] at hyo
            obtain ⟨rfl, rfl⟩ := hyo
            have hfv := evA_sound hT f
            rw [hev] at hfv
            obtain ⟨hbn, hfv'⟩ : b' < m.n ∧ evC t f = _ := hfv
            obtain ⟨fn, tmps, asg, body, hy, hrd⟩ := roundA_sound hrec (args_sound hT c.args) H G hs
            refine ⟨by simp [hop], by simp [hop], .inr (.inr ⟨_, fn, tmps, asg, body, ?_, hrd.mono fun y w' ⟨m', hp⟩ => ⟨m', hp, fun h0 => by rw [hcv] at h0; cases h0⟩⟩)⟩
            simp [execOp, hop, resolve, hcf, hfv', Deferred.ofValue, invoke, hy]
          · simp at hyo
        · simp at hyo
      · split at hs
        · rename_i b hb
          split at hs
          · rename_i r hr
            simp only [Option.some.injEq] at hs
            subst hs
            exact one (by simp [hop]) (by simp [hop]) (op_builtin hT H hop hb hr)
          · exact one (by simp [hop]) (by simp [hop]) (viaPure hs)
        · simp at hs
  · rename_i u a lo hi hop
    split at hs
    · rename_i r hr
      simp only [Option.some.injEq] at hs
      subst hs
      exact one (by simp [hop]) (by simp [hop]) (sliceA_sound hT H hop hr)
    · exact one (by simp [hop]) (by simp [hop]) (viaPure hs)
  · rename_i u a lo hi mx hop
    split at hs
    · rename_i r hr
      simp only [Option.some.injEq] at hs
      subst hs
      exact one (by simp [hop]) (by simp [hop]) (sliceA3_sound hT H hop hr)
    · exact one (by simp [hop]) (by simp [hop]) (viaPure hs)
  · split at hs
    · rename_i x' hpo
      exact one (notDefer (by rw [hpo]; simp)) (notSel (by rw [hpo]; simp)) (viaPure (by rw [hpo]; exact hs))
    · refine one (fun c hc => ?_) (fun cs b hc => ?_) (opA_sound hT H hs)
      · rw [hc] at hs; simp [opA] at hs
      · rw [hc] at hs; simp [opA] at hs

theorem map_other {α β : Type} {F : Option α} {x : α} {a b : β} {h' : β} (h : F.map (fun x => (x, a)) = some (x, h')) : F.map (fun x => (x, b)) = some (x, b) := by
  cases F with
  | none => simp at h
  | some y => simp at h ⊢; exact h.1

/-- An operation that looks at slots alone gives the same at every heap. -/
theorem blind_spec {E : Env} {rec : RunT} {ops : Array Oper} {i : Nat} {o : Oper} (ho : ops[i]? = some o) (hb : blindAt ops i = true) {lvl lvl' : Nat} {h h1 h' : Heap} {tm : Tm} {x : AV} (hs : stepOp E rec lvl h tm o = some (x, h')) :
    stepOp E rec lvl' h1 tm o = some (x, h1) := by
  unfold blindAt at hb
  rw [ho] at hb
  simp only at hb
  split at hb
  · rename_i a hg hop
    simp only [stepOp, hop, Option.some.injEq, Prod.mk.injEq] at hs ⊢
    exact ⟨hs.1, trivial⟩
  · rename_i a hg hop
    simp only [stepOp, hop, Option.some.injEq, Prod.mk.injEq] at hs ⊢
    exact ⟨hs.1, trivial⟩
  · rename_i hg hop
    simp only [stepOp, hop] at hs ⊢
    split at hs
    · rename_i p q hp hq
      cases hbv : binA E.P _ _ _ _ p q with
      | none => rw [hbv] at hs; simp at hs
      | some v => rw [hbv] at hs; simp at hs ⊢; exact hs.1
    · split at hs
      · rename_i hr hu
        simp only [Option.some.injEq, Prod.mk.injEq] at hs ⊢
        exact ⟨hs.1, trivial⟩
      · simp at hs
    · exact map_other hs
  · rename_i hg hop
    simp only [stepOp, hop] at hs ⊢
    split at hs
    · rename_i y hy
      simp only [Option.some.injEq, Prod.mk.injEq] at hs
      simp only [hs.1]
    · simp [opA] at hs
  · rename_i hg hop
    simp only [stepOp, hop] at hs ⊢
    split at hs
    · rename_i y hy
      simp only [Option.some.injEq, Prod.mk.injEq] at hs
      simp only [hs.1]
    · simp only [opA] at hs ⊢
      split at hs
      · rename_i l hl
        cases hg : getL l _ with
        | none => rw [hg] at hs; simp at hs
        | some a => rw [hg] at hs; simp at hs ⊢; exact hs.1
      · simp at hs
  · simp at hb


/-- What an operation may be said to do. -/
structure StepOk (E : Env) (S : StepT) : Prop where
  ok : ∀ {m : M} {base lvl : Nat} {h h' : Heap} {w : World} {tm : Tm} {t : Array Value} {x : AV}, TR m tm t → HR m base lvl h w → GR E.gl base w → ∀ {i : Nat} {o : Oper}, S lvl h tm i o = some (x, h') → OpRes E.P t o w fun y w' => ∃ m', PostO o m base lvl w x h' y w' m'
  blind : ∀ {ops : Array Oper} {i : Nat} {o : Oper}, ops[i]? = some o → blindAt ops i = true → ∀ {lvl lvl' : Nat} {h h1 h' : Heap} {tm : Tm} {x : AV}, S lvl h tm i o = some (x, h') → S lvl' h1 tm i o = some (x, h1)

theorem stdS_ok (hE : EnvOk E) (hrec : RecOk E rec) : StepOk E (stdS E rec) := ⟨fun hT H G _ _ hs => stepOp_res hE hrec hT H G hs, fun ho hb _ _ _ _ _ _ _ hs => blind_spec ho hb hs⟩

theorem stepOps_sound {S : StepT} (hS : StepOk E S) (ops : Array Oper) : ∀ (l : List Oper) (i : Nat), (∀ j, l[j]? = ops[i + j]?) → ∀ {m : M} {h h' : Heap} {w : World} {tm tm' : Tm} {t : Array Value}, TR m tm t → HR m base lvl h w → GR E.gl base w →
    stepOps S lvl ops l i h tm = some (h', tm') → ∀ (fr : Frame) (cs : List Frame) (k : List Item),
      ∃ t' w' m', Steps E.P (lone (FR fr t (.inRegion ops (List.range' i l.length) :: k)) cs w) (lone (FR fr t' k) cs w') ∧ TR m' tm' t' ∧ HR m' base lvl h' w' ∧ M.leG base m m' ∧ Below base w w'
  | [], i, _, m, h, h', w, tm, tm', t, hT, H, _, hs, fr, cs, k => by
    simp only [stepOps, Option.some.injEq, Prod.mk.injEq] at hs
    obtain ⟨rfl, rfl⟩ := hs
    exact ⟨t, w, m, .one stepF_regionEnd, hT, H, M.leG.refl _ m, Below.refl _ _⟩
  | o :: l, i, hl, m, h, h', w, tm, tm', t, hT, H, G, hs, fr, cs, k => by
    have ho : ops[i]? = some o := by simpa using (hl 0).symm
    have hl' : ∀ j, l[j]? = ops[i + 1 + j]? := fun j => by have := hl (j + 1); simpa [Nat.add_assoc, Nat.add_comm 1 j] using this
    have hs' : (if wantedA ops tm o then match S lvl h tm i o with
      | some (x, h') => stepOps S lvl ops l (i + 1) h' (putT tm o.dst x)
      | none => none
    else stepOps S lvl ops l (i + 1) h (putT tm o.dst (.tup []))) = some (h', tm') := hs
    simp only [List.length_cons, List.range'_succ]
    have hwant := wanted_sound hT ops o
    split at hs'
    · rename_i hw
      split at hs'
      · rename_i x h1 hop
        obtain ⟨y, w1, hst, m1, hp, _⟩ := (hS.ok hT H G hop).steps (rest := List.range' (i + 1) l.length) (k := k) ho (by rw [hwant]; exact hw) fr cs
        have hT1 : TR m1 (putT tm o.dst x) (putC t o.dst y) := putT_sound (hT.monoG hp.le) o.dst hp.val
        obtain ⟨t', w', m', hst', r1, r2, r3, r4⟩ := stepOps_sound hS ops l (i + 1) hl' hT1 hp.heap (G.below hp.below) hs' fr cs k
        exact ⟨t', w', m', Steps.trans hst hst', r1, r2, hp.le.trans r3, hp.below.trans r4⟩
      · simp at hs'
    · rename_i hw
      have hst := stepF_pass (P := E.P) (fr := fr) (t := t) (cs := cs) (w := w) (k := k) (rest := List.range' (i + 1) l.length) ho (by rw [hwant]; simpa using hw)
      have hT1 : TR m (putT tm o.dst (.tup [])) (putC t o.dst undef) := putT_sound hT o.dst ⟨#[], rfl, trivial⟩
      obtain ⟨t', w', m', hst', r⟩ := stepOps_sound hS ops l (i + 1) hl' hT1 H G hs' fr cs k
      exact ⟨t', w', m', .head hst hst', r⟩

end
end Go.Ev
