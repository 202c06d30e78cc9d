/-
  Blocks that may be there or not; frames of contracts; more blocks that are kept.
-/
import Derived.Test.YtgplabfjldndgaaGreatDoorSyG
namespace Go.Ev
open Go.RowKit
noncomputable section
variable {E : Env} {rec : RunT} {lvl K : Nat} {r : Res → Prop}

/-- More blocks may be asked to keep their numbers. -/
theorem outK_raise {K' : Nat} {s : St} (hK : K ≤ K') (hl : K' ≤ s.heap.length) (ho : OutK E lvl K' s r) : OutK E lvl K s r := by
  intro fr t cs w m base hR hT H G _
  obtain ⟨q, hq, t', todo', w', m', g1, g2, g3, g4, g5, g6⟩ := ho fr t cs w m base hR hT H G (by rw [H.n]; exact hl)
  exact ⟨q, hq, t', todo', w', m', g1, g2, g3, ⟨Nat.le_trans hK g4.n, fun b hb => g4.ρ b (Nat.lt_of_lt_of_le hb hK), fun b hb => g4.κ b (Nat.lt_of_lt_of_le hb hK), g4.lo, g4.F, g4.fresh⟩, g5, g6⟩

/-- a number for a block that is not there -/
theorem HR.pad {m : M} {base lvl : Nat} {h : Heap} {w : World} (H : HR m base lvl h w) : HR (m.push w.heap.size 0) base lvl (h ++ [none]) w := by
  have hmn := H.n
  have hle := M.le_push m w.heap.size 0
  have old : ∀ b a, (h ++ [none])[b]? = some (some a) → b < h.length ∧ h[b]? = some (some a) := fun b a hb => by
    rw [List.getElem?_append] at hb
    split at hb
    · rename_i hlt; exact ⟨hlt, hb⟩
    · rename_i hlt
      have : ([none] : Heap)[b - h.length]? = some (some a) := hb
      cases hk : b - h.length with
      | zero => rw [hk] at this; simp at this
      | succ k => rw [hk] at this; simp at this
  refine ⟨by simp [hmn], by have := H.lvlLe; simp; omega, H.baseLe, fun b a hb => ?_, fun b h1 h2 => ?_, fun b b' h1 h2 ⟨a, ha⟩ ⟨a', ha'⟩ hlo he => ?_, H.lo, fun p hp => ⟨(H.tab p hp).1, fun b a hb ha => ?_⟩⟩
  · obtain ⟨hlt, hb⟩ := old b a hb
    exact (H.ent b a hb).mono hle (by omega)
  · by_cases hlt : b < h.length
    · rw [hle.ρ b (by omega)]; exact H.own b h1 hlt
    · have e : b = m.n := by simp at h2; omega
      subst e
      rw [M.push_ρ]; exact H.baseLe
  · obtain ⟨l1, ha⟩ := old b a ha
    obtain ⟨l2, ha'⟩ := old b' a' ha'
    rw [hle.ρ b (by omega), hle.ρ b' (by omega)] at he
    exact H.inj b b' l1 l2 ⟨a, ha⟩ ⟨a', ha'⟩ hlo he
  · obtain ⟨l1, ha⟩ := old b a ha
    rw [hle.ρ b (by omega)]
    exact (H.tab p hp).2 b a hb ha
theorem outK_pad {h : Heap} {todo : List Item} {tm : Tm} (ho : OutK E lvl K ⟨h ++ [none], todo, tm⟩ r) : OutK E lvl K ⟨h, todo, tm⟩ r := by
  intro fr t cs w m base hR hT H G hK
  have hle := M.le_push m w.heap.size 0
  obtain ⟨q, hq, t', todo', w', m', g1, g2, g3, g4, g5, g6⟩ := ho fr t cs w (m.push w.heap.size 0) base (hR.mono (hle.g base)) (TR.mono hle hT) H.pad G (Nat.le_trans hK hle.n)
  exact ⟨q, hq, t', todo', w', m', g1, g2, g3, (M.leK.of_le hK (hle.g base)).trans g4, g5, g6⟩
theorem cOut_pad {f : FuncId} {hin hout : Heap} {args : List AV} {v : AV} (hc : COut E lvl hin f args v hout) : COut E lvl hin f args v (hout ++ [none]) := by
  intro m base w argsC ha H G
  refine (hc m base w argsC ha H G).mono fun en w' ⟨y, hy, m1, hp⟩ => ⟨y, hy, m1.push w'.heap.size 0, hp.le.trans ((M.le_push _ _ _).g base), VR.mono (M.le_push _ _ _) hp.val, hp.heap.pad, hp.below⟩
/-- A contract that needs no blocks holds beside any. -/
theorem cOut_frame (hE : EnvOk E) {f : FuncId} {args : List AV} {v : AV} (hr : ∀ a ∈ args, a.refs = []) (hv : v.refs = []) (hc : COut E 0 [] f args v []) (h : Heap) (lvl : Nat) : COut E lvl h f args v h := by
  intro m base w argsC ha H G
  have := callOther (e := []) (args' := args) (hin := []) (hout := []) (nb := []) (v := v) (v' := v) hE H G ha rfl (by simp) (by simp) (by simp) (by simp) hc (by
    refine map_ren_id fun a ha' => ?_
    exact AV.ren_id (hr a ha')) rfl rfl (AV.ren_id hv)
  rw [List.append_nil] at this
  exact this

theorem flatO_fix {o : Option AB} (h : FlatB o) (f : Nat → Nat) : o.map (AB.ren f) = o := by
  cases o with
  | none => rfl
  | some a => simp only [Option.map_some]; rw [flat_ab h]

/-- what is asked of a choice of blocks, but for what lies in them -/
def selOkP (e : List Nat) (L K L' : Nat) : Bool :=
  Nat.beq (lenL e) L' && nodupB e && (e.all fun b => Nat.blt b L) && ((dropL e K).all fun b => Nat.ble K b) && Nat.ble K (lenL e) && (List.range K).all (fun i => Nat.beq (getD0 e i) i)
theorem selOk_of {e : List Nat} {L K L' : Nat} {h' : Heap} (h : selOkP e L K L' = true) (hp : plainP h') : selOk e L K L' h' = true := by
  unfold selOk
  unfold selOkP at h
  rw [h, Bool.true_and, List.all_eq_true]
  exact plainP_spec hp
theorem outK_gcOP (e : List Nat) (fl : List Bool) (os : List (Nat × AV)) {h h' : Heap} {todo : List Item} {tm tm' : Tm} (hlK : lvl ≤ K) (hok : (selOkP e (lenL h) K (lenL h') && Nat.beq (lenL fl) (lenL h')) = true) (hpl : plainP h')
    (h2 : e.map (getL h) = renFl (nthE e (lenL h) (lenL e)) fl h') (hf : (∀ b, b < K → nthE e (lenL h) (lenL e) b = b) → fixP (nthE e (lenL h) (lenL e)) fl h') (h1 : renO (nthE e (lenL h) (lenL e)) os tm' 0 = tm)
    (h4 : os.map (fun p => getL tm' p.1) = os.map (fun p => some p.2)) (h3 : (∀ b, b < K → nthE e (lenL h) (lenL e) b = b) → fixO (nthE e (lenL h) (lenL e)) os) (ho : OutK E lvl K ⟨h', todo, tm'⟩ r) : OutK E lvl K ⟨h, todo, tm⟩ r := by
  rw [Bool.and_eq_true] at hok
  exact outK_gcO e fl os hlK (by rw [Bool.and_eq_true]; exact ⟨selOk_of hok.1 hpl, hok.2⟩) h2 hf h1 h4 h3 ho
end
end Go.Ev
