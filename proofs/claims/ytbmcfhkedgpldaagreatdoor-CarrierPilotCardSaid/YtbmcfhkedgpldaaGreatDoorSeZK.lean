/-
  Part of the proof: SeRd, SeBld, SeGr, SeLaw.
-/
import Derived.Test.YtbmcfhkedgpldaaGreatDoorSeAw
import Derived.Below
import Derived.Carry
import Derived.ChangeArms
import Derived.ChangeSame
import Derived.Eval
import Derived.KernelRfl
import Derived.LaidMore
import Derived.Laws.Externs
import Derived.Lib.Builder
import Derived.Lib.Walk
import Derived.MakeChecks
import Derived.OpenShut
import Derived.ProofKit
import Derived.Stop.Joined
import Derived.Test.YtbmcfhkedgpldaaGreatDoorChecked
import Derived.Test.YtbmcfhkedgpldaaGreatDoorRows
import Derived.WalkKit

/-! SeRd -/
section
open Go Go.Ev Go.RowKit Go.WideShapes Go.ChangeShapes
namespace Go.Proofs.YtbmcfhkedgpldaaGreatDoor
noncomputable section
section
variable {H : Type} {enc : TypeId × Value → H} {P : Program} {W : World}
theorem trod_float {w : World} {base fuel : Nat} {spare : Nat → Bool} {held : Bool} {t : TypeId} {cs : List Value} {x : DataW H × List MemPlace} {k : FloatKind} (ht : P.underlying t = some (.float k)) (h : DataW.trod enc P w base spare held fuel t cs = some x) : ∃ b, cs = [.float k b] ∧ (Lit.float k b).wf = true := by
 cases fuel with
 | zero => simp [DataW.trod] at h
 | succ n =>
  unfold DataW.trod at h
  rw [ht] at h
  split at h <;> simp_all
theorem wf32 {b : Nat} (h : (Lit.float .f32 b).wf = true) : b < 2 ^ 32 := by simpa [Lit.wf] using h
theorem rd_float {e : TypeId} {fuel : Nat} {held : Bool} {sp : Nat → Bool} {cs : List Value} {x : DataW H × List MemPlace} (he : P.underlying e = some (.float .f32)) (h : DataW.trod enc P W 0 sp held fuel e cs = some x) :
  Rd W cs fun ds => ∃ b : Nat, b < 2 ^ 32 ∧ ds = [.v (.float .f32 b)] := by
 obtain ⟨b, rfl, hw⟩ := trod_float he h
 exact ⟨[], [.v (.float .f32 b)], AtRest.nil W, ⟨_, [], rfl, by simp [DT.R], by simp [DT.Rl]⟩, rfl, b, wf32 hw, rfl⟩
theorem onesF_flatten : ∀ {rows : List (List DT)}, (∀ r ∈ rows, r.length = 1 ∧ ∃ b : Nat, b < 2 ^ 32 ∧ r = [.v (.float .f32 b)]) → ∃ ws : List Nat, (∀ b ∈ ws, b < 2 ^ 32) ∧ rows.flatten = (ws.map fun b => DT.v (.float .f32 b)) ∧ ws.length = rows.length
 | [], _ => ⟨[], by simp, rfl, rfl⟩
 | r :: rows, h => by
  obtain ⟨ws, h1, h2, h3⟩ := onesF_flatten (fun s hs => h s (List.mem_cons_of_mem _ hs))
  obtain ⟨_, b, hb, rfl⟩ := h r (List.mem_cons_self ..)
  exact ⟨b :: ws, by simpa [hb] using h1, by rw [List.flatten_cons, h2]; rfl, by simp [h3]⟩
theorem rd_floats {t e : TypeId} {fuel : Nat} {held : Bool} {cs : List Value} {x : DataW H × List MemPlace} (ht : P.underlying t = some (.slice e)) (he : P.underlying e = some (.float .f32)) (hsz : P.cellsOf e = 1)
  (hc : ∃ a len cap, cs = [.slice a len cap]) (h : DataW.trod enc P W 0 (fun _ => true) held fuel t cs = some x) :
  Rd W cs fun ds => ∃ ws : List Nat, (∀ b ∈ ws, b < 2 ^ 32) ∧ ws.length ≤ maxLen ∧ ds = [dF ws] := by
 obtain ⟨F, ds, h1, h2, h3, rows, h4, h5, h6⟩ := rd_slice (Q := fun ds => ∃ b : Nat, b < 2 ^ 32 ∧ ds = [.v (.float .f32 b)]) ht hsz (by omega) (fun {_ _ _} hh => rd_float he hh) hc h
 obtain ⟨ws, k1, k2, k3⟩ := onesF_flatten h5
 exact ⟨F, ds, h1, h2, h3, ws, k1, by omega, by rw [h6, k2, ← k3]; rfl⟩
end
end
end Go.Proofs.YtbmcfhkedgpldaaGreatDoor
end

/-! SeBld -/
section
open Go Go.RowKit
namespace Go.Proofs.YtbmcfhkedgpldaaGreatDoor
set_option maxRecDepth 100000
theorem bldSize : (Tryz.prog.info? 194).map (·.size) = some 2 := by kernel_rfl
theorem bldLies : liesAt Tryz.prog Tryz.prog.depth 194 (2 / Tryz.prog.cellsOf 194) 0 194 1 = true := by kernel_rfl
theorem t229 : Tryz.prog.underlying 192 = some (.pointer 194) := by kernel_rfl
theorem t275 : Tryz.prog.underlying 241 = some .unsafePointer := by kernel_rfl
set_option maxHeartbeats 1000000 in
theorem bld_used (b : Nat) (w : World) (h0 : w.cell? ⟨b, 0, none⟩ = some (.pointer (some ⟨b, 0, none⟩))) :
  Calls Tryz.prog 162 #[.pointer (some ⟨b, 0, none⟩)] w fun e w' => e = .returned (.tuple #[]) ∧ w' = w := by
 obtain ⟨j, hj, _⟩ := Option.map_eq_some_iff.1 bldSize
 go_enter Tryz.func162, Tryz.ntmps162
 go_wp2
 rw [Lib.run_neq_ptr_same w _ t229 hj]
 go_wp2
 go_end0
 exact ⟨rfl, rfl⟩
set_option maxHeartbeats 1000000 in
theorem bld_fresh (b : Nat) (w : World) (h0 : w.cell? ⟨b, 0, none⟩ = some (.pointer none)) (hsh : w.shape? b = some (194, 2)) (hfz : w.frozen? ⟨b, 0, none⟩ = false) :
  Calls Tryz.prog 162 #[.pointer (some ⟨b, 0, none⟩)] w fun e w' => e = .returned (.tuple #[]) ∧ w' = w.setCell ⟨b, 0, none⟩ (.pointer (some ⟨b, 0, none⟩)) := by
 obtain ⟨j, hj, hjs⟩ := Option.map_eq_some_iff.1 bldSize
 go_enter Tryz.func162, Tryz.ntmps162
 go_wp2
 rw [Lib.run_to_unsafe w ⟨b, 0, none⟩ t229 t275 hj (by rw [hjs]; decide) hsh (Nat.zero_lt_succ 1)]
 simp only [Result.andThen]
 rw [Oper.upon_value]
 go_wp2
 rw [run_callFunc_extern Tryz.func174 (by kernel_rfl) (by kernel_rfl) (by kernel_rfl) (e := Extern.AbiNoEscape.same) (by kernel_rfl)]
 rw [Lib.run_noEscape]
 simp only [Result.andThen]
 rw [Oper.upon_value]
 go_wp2
 rw [Lib.run_from_unsafe w ⟨b, 0, none⟩ t275 t229 hj hsh bldLies]
 simp only [Result.andThen]
 rw [Oper.upon_value]
 go_wp2
 go_end0
 exact ⟨rfl, rfl⟩
theorem noNum : Tryz.prog.funcs.all (fun fn => !(fn.name == "runtime.NumGoroutine")) = true := by kernel_rfl
theorem envOk : Go.Ev.EnvOk E where
 num f fn hf := by
  have h := noNum
  rw [Array.all_eq_true'] at h
  have := h fn (Array.mem_of_getElem? hf)
  simpa using this
 mixed := Checked.mixed Tryz.checked
 used f hf b w h := by
  have : f = 162 := by
   simp only [E, hooks] at hf
   split at hf
   ·assumption
   ·simp at hf
  subst this
  exact bld_used b w h
 fresh f hf b w h hsh hfz := by
  have : f = 162 := by
   simp only [E, hooks] at hf
   split at hf
   ·assumption
   ·simp at hf
  subst this
  exact bld_fresh b w h hsh hfz
 join f hf := by
  simp only [E, hooks] at hf
  split at hf <;> simp at hf
 known f k hf := by
  simp only [E, hooks] at hf
  split at hf <;> simp at hf
end Go.Proofs.YtbmcfhkedgpldaaGreatDoor
end

/-! SeGr -/
section
open Go Go.RowKit Go.ChangeShapes Go.WideShapes Go.ChangeAt
namespace Go.Proofs.YtbmcfhkedgpldaaGreatDoor
set_option maxRecDepth 100000
section
variable {H : Type} {enc : TypeId × Value → H} {P : Program} {w : World} {base : Nat} {spare : Nat → Bool} {held : Bool}
theorem arr_ints {t e : TypeId} {n : Nat} {k : IntKind} {fuel : Nat} {cs : List Value} {zs : List Int} {ps : List MemPlace} (ht : P.underlying t = some (.array n e)) (he : P.underlying e = some (.int k)) (hc : P.cellsOf e = 1) (hct : P.cellsOf t = n) (hz : zs.length = n)
  (h : DataW.trod enc P w base spare held fuel t cs = some (.agg (zs.map fun z => .lit (.int k z)), ps)) : cs = zs.map (Value.int k) := by
 obtain ⟨xs, m, rfl, hx, hlen, hn, hel⟩ := DataW.trod_array ht h
 simp only [Prod.mk.injEq, DataW.agg.injEq] at hx
 obtain ⟨hx, _⟩ := hx
 apply List.ext_getElem?
 intro i
 by_cases hi : i < n
 ·have hxi : xs[i]? = some xs[i] := List.getElem?_eq_getElem (by omega)
  have h1 := hel i hi
  rw [hc, Nat.mul_one, hxi] at h1
  obtain ⟨z, hcell, hy, _⟩ := DataW.trod_int he h1
  have e1 : (zs.map fun z => (DataW.lit (.int k z) : DataW H))[i]? = (xs.map (·.1))[i]? := by rw [hx]
  rw [List.getElem?_map, List.getElem?_map, hxi, hy] at e1
  have hzi : zs[i]? = some zs[i] := List.getElem?_eq_getElem (by omega)
  rw [hzi] at e1
  simp only [Option.map_some, Option.some.injEq, DataW.lit.injEq, Lit.int.injEq, true_and] at e1
  rw [List.getElem?_map, hzi, Option.map_some, e1]
  have e2 : ((cs.drop i).take 1)[0]? = some (.int k z) := by rw [hcell]; rfl
  rw [List.getElem?_take, if_pos (by omega), List.getElem?_drop] at e2
  simpa using e2
 ·rw [List.getElem?_eq_none (by omega), List.getElem?_eq_none (by simp; omega)]
theorem arr_pairs {t e f : TypeId} {n : Nat} {k : IntKind} {fuel : Nat} {cs : List Value} {zs : List (Int × Int)} {ps : List MemPlace} {g0 g1 : Field} (ht : P.underlying t = some (.array n e)) (he : P.underlying e = some (.struct #[g0, g1])) (h0 : g0.type = f) (h1 : g1.type = f) (ho0 : g0.offset = 0) (ho1 : g1.offset = 1) (hf : P.underlying f = some (.int k)) (hc : P.cellsOf e = 2) (hcf : P.cellsOf f = 1) (_hct : P.cellsOf t = n * 2) (hz : zs.length = n)
  (h : DataW.trod enc P w base spare held fuel t cs = some (.agg (zs.map fun z => .agg [.lit (.int k z.1), .lit (.int k z.2)]), ps)) : ∀ i z, zs[i]? = some z → cs[i * 2]? = some (.int k z.1) ∧ cs[i * 2 + 1]? = some (.int k z.2) := by
 obtain ⟨xs, m, rfl, hx, hlen, hn, hel⟩ := DataW.trod_array ht h
 simp only [Prod.mk.injEq, DataW.agg.injEq] at hx
 obtain ⟨hx, _⟩ := hx
 intro i z hzi
 have hi : i < n := by have := (List.getElem?_eq_some_iff.1 hzi).1; omega
 have hxi : xs[i]? = some xs[i] := List.getElem?_eq_getElem (by omega)
 have h2 := hel i hi
 rw [hc, hxi] at h2
 obtain ⟨ys, m', rfl, hy, hlen2, hn2, hel2⟩ := DataW.trod_struct he h2
 have e1 : (zs.map fun z => (DataW.agg [.lit (.int k z.1), .lit (.int k z.2)] : DataW H))[i]? = (xs.map (·.1))[i]? := by rw [hx]
 rw [List.getElem?_map, List.getElem?_map, hxi, hzi, hy] at e1
 simp only [Option.map_some, Option.some.injEq, DataW.agg.injEq] at e1
 have a0 := hel2 0 g0 rfl
 have a1 := hel2 1 g1 rfl
 match ys, hn2, e1, a0, a1 with
 | [y0, y1], _, e1, a0, a1 =>
  rw [h0, ho0, hcf] at a0
  rw [h1, ho1, hcf] at a1
  obtain ⟨z0, c0, d0, _⟩ := DataW.trod_int hf (show DataW.trod _ _ _ _ _ _ _ _ _ = some y0 from a0)
  obtain ⟨z1, c1, d1, _⟩ := DataW.trod_int hf (show DataW.trod _ _ _ _ _ _ _ _ _ = some y1 from a1)
  rw [d0, d1] at e1
  simp at e1
  obtain ⟨r0, r1⟩ := e1
  have q0 : ((((cs.drop (i * 2)).take 2).drop 0).take 1)[0]? = some (.int k z0) := by rw [c0]; rfl
  have q1 : ((((cs.drop (i * 2)).take 2).drop 1).take 1)[0]? = some (.int k z1) := by rw [c1]; rfl
  rw [List.getElem?_take, if_pos (by omega), List.getElem?_drop, List.getElem?_take, if_pos (by omega), List.getElem?_drop] at q0 q1
  rw [r0, r1]
  exact ⟨by simpa using q0, by simpa using q1⟩
end
theorem gTurns : Tryz.prog.globalNamed "kilovar/carrier.turns" = some 0 := by kernel_rfl
theorem gPairs : Tryz.prog.globalNamed "kilovar/carrier.pairs" = some 1 := by kernel_rfl
theorem gPow : Tryz.prog.globalNamed "internal/strconv.uint64pow10" = some 4 := by kernel_rfl
def laidL : List (String × DataW Unit) := [("math/bits.deBruijn32tab", Rows.laid_math_bits_deBruijn32tab), ("math/bits.deBruijn64tab", Rows.laid_math_bits_deBruijn64tab), ("internal/strconv.uint64pow10", Rows.laid_internal_strconv_uint64pow10), ("kilovar/carrier.pairs", Rows.laid_kilovar_carrier_pairs), ("kilovar/carrier.turns", Rows.laid_kilovar_carrier_turns)]
theorem cells_of_var {P : Program} {w : World} {name : String} {g : Nat} {cs : Array Value} (hg : P.globalNamed name = some g) (hv : w.var? P name = some cs) : ∃ t fz, w.heap[g]? = some (.cells cs t fz) := by
 unfold World.var? at hv
 rw [hg] at hv
 simp only [Option.bind_some] at hv
 split at hv
 ·rename_i cs' t fz hc
  simp only [Option.some.injEq] at hv
  subst hv
  exact ⟨t, fz, hc⟩
 ·simp at hv
theorem tables {W : World} {base : Nat} (hbase : 5 ≤ base) (h : laidMetH Tryz.prog laidL W) : Go.Ev.GR E.gl base W := by
 rw [MakeChecks.laidMetH_plain _ _ _ (by kernel_rfl)] at h
 obtain ⟨ps, ⟨_, _, _, _, _, _, _, _, _, _, ⟨_, _, _, _, _, _, _, _, _, _, ⟨g4, t4, cs4, f4, p4, q4, hg4, ht4, hv4, hd4, ⟨g1, t1, cs1, f1, p1, q1, hg1, ht1, hv1, hd1, ⟨g0, t0, cs0, f0, p0, q0, hg0, ht0, hv0, hd0, _⟩, _⟩, _⟩, _⟩, _⟩, _⟩ := h
 obtain rfl := Option.some.inj (gPow.symm.trans hg4)
 obtain rfl := Option.some.inj (gPairs.symm.trans hg1)
 obtain rfl := Option.some.inj (gTurns.symm.trans hg0)
 obtain rfl := Option.some.inj ((show (Tryz.prog.globals[4]?).map (·.type) = some 264 by kernel_rfl).symm.trans ht4)
 obtain rfl := Option.some.inj ((show (Tryz.prog.globals[1]?).map (·.type) = some 22 by kernel_rfl).symm.trans ht1)
 obtain rfl := Option.some.inj ((show (Tryz.prog.globals[0]?).map (·.type) = some 164 by kernel_rfl).symm.trans ht0)
 obtain ⟨u4, z4, k4⟩ := cells_of_var hg4 hv4
 obtain ⟨u1, z1, k1⟩ := cells_of_var hg1 hv1
 obtain ⟨u0, z0, k0⟩ := cells_of_var hg0 hv0
 have e4 : cs4.toList = tabPow := arr_ints (n := 20) (k := .u64) (e := 239) (zs := (List.range 20).map fun i => ((10 ^ i : Nat) : Int)) (by kernel_rfl) (by kernel_rfl) (by kernel_rfl) (by kernel_rfl) (by kernel_rfl) hd4
 have e1 : cs1.toList = tabPairs := arr_ints (n := 4) (k := .i64) (e := 3) (zs := [0, 1, 3, 2]) (by kernel_rfl) (by kernel_rfl) (by kernel_rfl) (by kernel_rfl) (by kernel_rfl) hd1
 have e0 : cs0.toList = tabTurns := by
  have hp := arr_pairs (n := 4) (k := .i64) (e := 160) (f := 3) (g0 := { name := "Re", type := 3, offset := 0, embedded := false, tag := "", pkgPath := "", byteOffset := 0 }) (g1 := { name := "Im", type := 3, offset := 1, embedded := false, tag := "", pkgPath := "", byteOffset := 8 }) (zs := [(1, 0), (0, 1), (-1, 0), (0, -1)]) (by kernel_rfl) (by kernel_rfl) rfl rfl rfl rfl (by kernel_rfl) (by kernel_rfl) (by kernel_rfl) (by kernel_rfl) (by kernel_rfl) hd0
  obtain ⟨xs, m, _, _, hlen, _⟩ := DataW.trod_array (n := 4) (e := 160) (by kernel_rfl) hd0
  rw [show Tryz.prog.cellsOf 164 = 8 by kernel_rfl] at hlen
  have q0 := hp 0 _ rfl
  have q1 := hp 1 _ rfl
  have q2 := hp 2 _ rfl
  have q3 := hp 3 _ rfl
  generalize cs0.toList = l at hlen q0 q1 q2 q3
  match l, hlen, q0, q1, q2, q3 with
  | [a, b, c, d, e, f, g, h], _, q0, q1, q2, q3 =>
   simp at q0 q1 q2 q3
   obtain ⟨rfl, rfl⟩ := q0
   obtain ⟨rfl, rfl⟩ := q1
   obtain ⟨rfl, rfl⟩ := q2
   obtain ⟨rfl, rfl⟩ := q3
   rfl
 intro g cs hl
 have hcase : (g = 0 ∧ cs = tabTurns) ∨ (g = 1 ∧ cs = tabPairs) ∨ (g = 4 ∧ cs = tabPow) := by
  have hl' : (if Nat.beq 0 g then some tabTurns else if Nat.beq 1 g then some tabPairs else if Nat.beq 4 g then some tabPow else none) = some cs := hl
  split at hl'
  ·rename_i hb; exact .inl ⟨(Nat.eq_of_beq_eq_true hb).symm, by simpa using hl'.symm⟩
  ·split at hl'
   ·rename_i hb; exact .inr (.inl ⟨(Nat.eq_of_beq_eq_true hb).symm, by simpa using hl'.symm⟩)
   ·split at hl'
    ·rename_i hb; exact .inr (.inr ⟨(Nat.eq_of_beq_eq_true hb).symm, by simpa using hl'.symm⟩)
    ·simp at hl'
 rcases hcase with ⟨rfl, rfl⟩ | ⟨rfl, rfl⟩ | ⟨rfl, rfl⟩
 ·exact ⟨by omega, cs0, u0, z0, k0, e0⟩
 ·exact ⟨by omega, cs1, u1, z1, k1, e1⟩
 ·exact ⟨by omega, cs4, u4, z4, k4, e4⟩
end Go.Proofs.YtbmcfhkedgpldaaGreatDoor
end

/-! SeLaw -/
section
open Go Go.RowKit Go.ChangeShapes Go.WideShapes Go.ChangeAt Go.WideMaps Go.WideElems
namespace Go.Proofs.YtbmcfhkedgpldaaGreatDoor
set_option maxRecDepth 100000
section
variable {H : Type} {enc : TypeId × Value → H} {P : Program}
theorem post_of_below {f : Func} {s : ChangeSpec} {apart fresh handsOn again : Bool} {W W' : World} {args : Array Value} {v : Value} {ds gs : List (DataW H)} {before pa pv : List MemPlace}
  (hW : DataW.Whole enc P f.params.toList s.vars apart W args.toList ds gs before)
  (hres : ∀ (b : Nat) (sp : Nat → Bool) (hd : Bool), DataW.TrodAll enc P W' b sp hd f.resultTypes.toList (v.resultList f.resultTypes.size) (s.fn H (ds ++ gs)).results [])
  (hargs : ∀ sp : Nat → Bool, (∀ p ∈ before, sp p.block = true) → DataW.TrodAll enc P W' 0 sp true f.params.toList args.toList (s.fn H (ds ++ gs)).args pa)
  (hvars : ∀ sp : Nat → Bool, (∀ p ∈ before, sp p.block = true) → DataW.TrodVars enc P W' sp s.vars (s.fn H (ds ++ gs)).vars pv)
  (hps : before = pa ++ pv) (hb : Below W.heap.size W W')
  (hok : ∀ (j : Nat) (t : TypeId) (r : Value), f.resultTypes[j]? = some t → (v.resultList f.resultTypes.size)[j]? = some r → Value.okWide P W' .any 0 t r) :
  s.post enc P f apart fresh handsOn again W args v W' := by
 have hlt : ∀ p ∈ before, p.block < W.heap.size := fun p hp => hW.lt p hp
 have hold : ∀ p ∈ before, (fun b => decide (b < W.heap.size)) p.block = true := fun p hp => by simpa using hlt p hp
 refine ⟨ds, gs, before, [], pa, pv, hW, hres _ _ _, hargs _ hold, hvars _ hold, World.keptBut_mono (fun p hp => ⟨hp, ?_⟩) (hb.frame (· ∈ before)), fun _ => ?_⟩
 ·rw [hps, List.mem_append] at hp
  exact Or.inr hp
 ·obtain ⟨_, _, _, _, _, hz, hn⟩ := hW
  refine ⟨hok, _, _, ([] ++ pa) ++ pv, ⟨[] ++ pa, pv, trodAll_append (hargs _ (fun _ _ => rfl)) (hres _ _ _), hvars _ (fun _ _ => rfl), rfl, ?_, ?_⟩, ?_⟩
  ·intro b off hp
   have hin : MemPlace.cell b off ∈ before := by rw [hps]; simpa using hp
   rw [hb.frozen (hlt _ hin)]
   exact hz b off hin
  ·intro ha
   have := hn ha
   rw [hps] at this
   simpa using this
  ·intro p hp _
   rw [hps]
   simpa using hp
end
theorem own : ownKnob Tryz.prog.godebug = none := by kernel_rfl
theorem laidOut : laidOutB Tryz.prog = true := by kernel_rfl
theorem u4 : Tryz.prog.underlying 4 = some .bool := by kernel_rfl
theorem door_met (os : Os) (args : Array Value) : laidMetH Tryz.prog laidL ((World.doorLaid Tryz.prog 400 os).forCall (fun _ _ => 0) ⟨#[], args, []⟩).memory :=
 laidMetH_of_parts3 (fuel := 8) (laidMet_of_run' 8 (by kernel_rfl) (by kernel_rfl)) (by kernel_rfl) (by kernel_rfl)
end Go.Proofs.YtbmcfhkedgpldaaGreatDoor
end
