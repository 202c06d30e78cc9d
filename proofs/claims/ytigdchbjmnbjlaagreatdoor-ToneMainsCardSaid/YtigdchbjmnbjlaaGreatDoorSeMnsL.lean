/-
  Part of the proof.
-/
import Derived.Test.YtigdchbjmnbjlaaGreatDoorSeMnsF
import Derived.SevenTiedAt
import Derived.Test.YtigdchbjmnbjlaaGreatDoorCards
import Derived.Test.YtigdchbjmnbjlaaGreatDoorTie
section
open Go Go.RowKit Go.ChangeShapes Go.WideShapes Go.ChangeAt Go.WideMaps Go.WideElems
namespace Go.Proofs.YtigdchbjmnbjlaaGreatDoor
set_option maxRecDepth 100000
set_option maxHeartbeats 20000000
def MnsCore : Prop := ∀ (H : Type) (enc : TypeId × Value → H) (W : World) (v0 v1 : Value) (d0 d1 : DataW H) (p0 p1 : List MemPlace), laidMetH Tryz.prog laidL W →
 DataW.Trod enc Tryz.prog W 0 (fun _ => true) true 26 v0 d0 p0 → DataW.Trod enc Tryz.prog W 0 (fun _ => true) true 27 v1 d1 p1 →
 (∃ base, Value.okWide Tryz.prog W .any base 26 v0 ∧ Value.okWide Tryz.prog W .any base 27 v1) →
 Calls Tryz.prog 3 #[v0, v1] W fun e W' => e = .returned (.bool true) ∧ Below W.heap.size W W'
theorem mnsLifted (core : MnsCore) (os : Os) (started : os.Started) (H : Type) (enc : TypeId × Value → H) :
  ReturnsInHanded {} Tryz.checked os 3 .any (fun w args => (Rows.toneMainsSpec.pre enc Tryz.prog Tryz.f3 [] false w args ∧ laidMetH Tryz.prog laidL w) ∧ sizedMet enc Tryz.prog Tryz.f3 (OpenSpec.ofChange Rows.toneMainsSpec) false w args)
   (Rows.toneMainsSpec.post enc Tryz.prog Tryz.f3 false true false false) := by
 refine returnsInHanded_of_change_and (C := Tryz.checked) (X := fun w _ => laidMetH Tryz.prog laidL w) (fun _ _ _ hh h => h.of_heap hh) own started (by kernel_rfl) Tryz.func3
  (ChangeSpec.witness_shaped (enc := enc) (C := Tryz.checked) (os := os) (X := fun w _ => laidMetH Tryz.prog laidL w) false (World.doorLaid Tryz.prog 400 os) #[.agg #[.int .i64 0, .slice none 0 0, .slice none 0 0, .slice none 0 0], .agg #[.int .i64 0, .int .i64 0, .int .i64 0]] 8 rfl (World.shaped_of_RefB (by kernel_rfl) (by kernel_rfl)) (by kernel_rfl) (by kernel_rfl) (by kernel_rfl) (door_met os _)) ?_
 intro W base args ds gs before hval0 hW _ _ hL _
 have hval : ∀ (j : Nat) t v, Tryz.f3.params[j]? = some t → args[j]? = some v → Value.okWide Tryz.prog W .any base t v := hval0
 have hW' := hW
 obtain ⟨p, q, hA0, hV, rfl, hfz, hnd⟩ := hW
 have hA : DataW.TrodAll enc Tryz.prog W 0 (fun _ => true) true Tryz.f3.params.toList args.toList ds p := hA0
 rw [Tryz.params3] at hA hval
 obtain ⟨v0, v1, d0, d1, p0, p1, rfl, rfl, rfl, h0, h1⟩ := trodAll_two hA
 obtain ⟨rfl, rfl⟩ := trodVars_none hV
 have w0 := hval 0 26 v0 rfl rfl
 have w1 := hval 1 27 v1 rfl rfl
 have hlt : ∀ x ∈ p0 ++ p1, x.block < W.heap.size := fun x hx => hW'.lt x (by simpa using hx)
 refine (core H enc W v0 v1 d0 d1 p0 p1 hL h0 h1 ⟨base, w0, w1⟩).mono fun e W' ⟨he, hb⟩ => ⟨_, he, ?_⟩
 refine post_of_below (pa := p0 ++ p1) (pv := []) hW' (fun _ _ _ => trodAll_mk1 (shut_bool u4 _)) (fun sp hsp => ?_) (fun _ _ => rfl) (by simp) hb (ok_one (by kernel_rfl) rfl (okWide_bool_mk u4 _))
 exact trodAll_mk2
  (Trod_stays laidOut (by kernel_rfl) (of_decide_eq_true (by kernel_rfl)) h0 (fun x hx => hb.same (hlt x (by simp [hx]))) (fun x hx => hsp x (by simp [hx])))
  (Trod_stays laidOut (by kernel_rfl) (of_decide_eq_true (by kernel_rfl)) h1 (fun x hx => hb.same (hlt x (by simp [hx]))) (fun x hx => hsp x (by simp [hx])))
theorem mns_holds (core : MnsCore) : Rows.ToneMainsSaid :=
 OpenClaim.holds_of_wide 3 Tryz.f3 rfl rfl rfl rfl rfl rfl rfl ⟨rfl, rfl, rfl, rfl, rfl⟩ rfl rfl rfl rfl rfl (by as_aux_lemma => kernel_rfl) Tryz.func3 mnsFacts
  (of_decide_eq_true (by as_aux_lemma => kernel_rfl)) (by as_aux_lemma => unfold Func.isWrapper; first | (rw [if_pos (by decide +kernel)]; kernel_rfl) | (rw [if_neg (by decide +kernel)]; exact ⟨rfl, rfl⟩))
  (fun os started H enc _ => mnsLifted core os started H enc)
theorem mns_card (core : MnsCore) : Rows.ToneMainsCardSaid :=
 Claim7.holds_tied_plain_at .later [] [.data, .data, .data, .data] true (true, "4f7794d064ca170373b162174e095d50edf3fcf7dde4737158fe8090640449f0") false
  (mns_holds core) (fun _ h => by cases h) (by kernel_rfl) (fun _ h => by cases h) toneMains_row_tie rfl ⟨rfl, rfl⟩ (by kernel_rfl) rfl
  (fun f fn hf hfn => by
   obtain rfl : f = 3 := Option.some.inj ((show Tryz.prog.funcNamed "kilovar/kilovarlaw02.ToneMains" = some 3 by kernel_rfl).symm.trans hf) |>.symm
   obtain rfl : fn = Tryz.f3 := (Option.some.inj (Tryz.func3.symm.trans hfn)).symm
   exact ⟨by kernel_rfl, fun j t ht => by
    rw [Tryz.params3] at ht
    have h3 : t = 26 ∨ t = 27 := by
     rcases j with _ | _ | j
     ·exact .inl (by simpa using ht.symm)
     ·exact .inr (by simpa using ht.symm)
     ·simp at ht
    rcases h3 with rfl | rfl
    ·exact (show Tryz.prog.wantsStandIn 26 = false by kernel_rfl)
    ·exact (show Tryz.prog.wantsStandIn 27 = false by kernel_rfl)⟩)
  (by kernel_rfl)
end Go.Proofs.YtigdchbjmnbjlaaGreatDoor
end
