/-
  Part of the proof.
-/
import Derived.Test.YtigdchbjmnbjlaaGreatDoorSeAw
import Derived.Below
import Derived.Carry
import Derived.ChangeArms
import Derived.ChangeSame
import Derived.Eval
import Derived.KernelRfl
import Derived.LaidMore
import Derived.Laws.Externs
import Derived.Lib.Builder
import Derived.Lib.Walk
import Derived.MakeChecks
import Derived.OpenShut
import Derived.ProofKit
import Derived.Room.Shelf.Join48
import Derived.Shelf.Strings.OnBuilder
import Derived.Stop.Joined
import Derived.Test.YtigdchbjmnbjlaaGreatDoorChecked
import Derived.Test.YtigdchbjmnbjlaaGreatDoorProg
import Derived.Test.YtigdchbjmnbjlaaGreatDoorRows
import Derived.WalkKit
set_option maxHeartbeats 20000000
set_option maxRecDepth 100000
section
open Go Go.Shelf Go.Ev Go.RowKit Go.Proofs
namespace Go.Proofs.YtigdchbjmnbjlaaGreatDoor
def laysJ_ren : Go.Shelf.Ren := ⟨fun | 156 => 176 | 165 => 191 | 166 => 192 | 169 => 193 | 240 => 201 | 241 => 202 | 276 => 208 | 277 => 209 | n => n, fun | 31 => 240 | 9 => 9 | 3 => 3 | 4 => 4 | 0 => 0 | 20 => 20 | 72 => 254 | 76 => 258 | 70 => 251 | 37 => 252 | 75 => 257 | 127 => 266 | 164 => 273 | 5 => 5 | 80 => 260 | n => n, fun | n => n⟩
theorem laysJ : Go.Proofs.Lays.n156 Tryz.prog laysJ_ren := {
 mixed := by kernel_rfl
 f156 := Tryz.func176.trans (congrArg some (by kernel_rfl))
 f165 := Tryz.func191.trans (congrArg some (by kernel_rfl))
 f166 := Tryz.func192.trans (congrArg some (by kernel_rfl))
 f169 := Tryz.func193.trans (congrArg some (by kernel_rfl))
 f240 := Tryz.func201.trans (congrArg some (by kernel_rfl))
 f241 := Tryz.func202.trans (congrArg some (by kernel_rfl))
 f276 := Tryz.func208.trans (congrArg some (by kernel_rfl))
 f277 := Tryz.func209.trans (congrArg some (by kernel_rfl))
 t0 := Tryz.underlying0
 a0 := Tryz.isAgg0
 z0 := Tryz.sizeOf0
 v0 := Tryz.zeroValue0
 t3 := Tryz.underlying3
 a3 := Tryz.isAgg3
 z3 := Tryz.sizeOf3
 v3 := Tryz.zeroValue3
 t4 := Tryz.underlying4
 a4 := Tryz.isAgg4
 z4 := Tryz.sizeOf4
 v4 := Tryz.zeroValue4
 t9 := Tryz.underlying9
 a9 := Tryz.isAgg9
 z9 := Tryz.sizeOf9
 v9 := Tryz.zeroValue9
 t20 := Tryz.underlying20
 a20 := Tryz.isAgg20
 z20 := Tryz.sizeOf20
 v20 := Tryz.zeroValue20
 t31 := Tryz.underlying240
 a31 := Tryz.isAgg240
 z31 := Tryz.sizeOf240
 v31 := Tryz.zeroValue240
 t37 := Tryz.underlying252
 a37 := Tryz.isAgg252
 z37 := Tryz.sizeOf252
 v37 := Tryz.zeroValue252
 t70 := Tryz.underlying251
 a70 := Tryz.isAgg251
 z70 := Tryz.sizeOf251
 v70 := Tryz.zeroValue251
 t72 := Tryz.underlying254
 a72 := Tryz.isAgg254
 z72 := Tryz.sizeOf254
 v72 := Tryz.zeroValue254
 t75 := Tryz.underlying257
 a75 := Tryz.isAgg257
 z75 := Tryz.sizeOf257
 v75 := Tryz.zeroValue257
 t76 := Tryz.underlying258
 a76 := Tryz.isAgg258
 z76 := Tryz.sizeOf258
 v76 := Tryz.zeroValue258
 t127 := Tryz.underlying266
 a127 := Tryz.isAgg266
 z127 := Tryz.sizeOf266
 v127 := Tryz.zeroValue266
 t164 := Tryz.underlying273
 a164 := Tryz.isAgg273
 z164 := Tryz.sizeOf273
 v164 := Tryz.zeroValue273 }
theorem extraJ : Builder.Extra Tryz.prog laysJ_ren := {
 sizeBuilder := by kernel_rfl
 liesBuilder := by kernel_rfl
 t5 := Tryz.underlying5
 a5 := Tryz.isAgg5
 z5 := Tryz.sizeOf5
 v5 := Tryz.zeroValue5
 infoByte := by kernel_rfl
 cellsByte := by kernel_rfl
 sizeByte := by kernel_rfl
 neB5 := by decide }
theorem joinL_eq (sep : List UInt8) : ∀ l : List ByteArray, Lib.join (l.map (·.data.toList)) sep = joinL sep l
 | [] => rfl
 | [x] => by simp [Lib.join, List.intercalate, joinL]
 | x :: y :: r => by
  have ih := joinL_eq sep (y :: r)
  have hu : joinL sep (x :: y :: r) = appL x.data.toList (appL sep (joinL sep (y :: r))) := rfl
  rw [hu, ← ih, appL_eq, appL_eq]
  simp [Lib.join, List.intercalate]
theorem joinOk (bk o c : Nat) (xs : List ByteArray) (sep : ByteArray) (w : World) (hcell : ∀ (j : Nat) x, xs[j]? = some x → w.cell? ⟨bk, o + j, none⟩ = some (.string x)) (hbk : bk < w.heap.size) (hN : xs.length ≤ 140737488355328) (hc : xs.length ≤ c)
  (hl : (joinL sep.data.toList xs).length ≤ 281474976710656) :
  Calls Tryz.prog 176 #[.slice (some ⟨bk, o, none⟩) xs.length c, .string sep] w fun e w' => e = .returned (.string ⟨⟨joinL sep.data.toList xs⟩⟩) ∧ Below w.heap.size w w' := by
 have h := Any.strings_Join_48 laysJ extraJ bk o c xs sep w hcell hbk hN hc (by rw [joinL_eq]; exact hl)
 rw [joinL_eq] at h
 exact h
end Go.Proofs.YtigdchbjmnbjlaaGreatDoor
end
section
open Go Go.RowKit
namespace Go.Proofs.YtigdchbjmnbjlaaGreatDoor
theorem bldSize : (Tryz.prog.info? 254).map (·.size) = some 2 := by kernel_rfl
theorem bldLies : liesAt Tryz.prog Tryz.prog.depth 254 (2 / Tryz.prog.cellsOf 254) 0 254 1 = true := by kernel_rfl
theorem t229 : Tryz.prog.underlying 251 = some (.pointer 254) := by kernel_rfl
theorem t275 : Tryz.prog.underlying 273 = some .unsafePointer := by kernel_rfl
set_option maxHeartbeats 1000000 in
theorem bld_used (b : Nat) (w : World) (h0 : w.cell? ⟨b, 0, none⟩ = some (.pointer (some ⟨b, 0, none⟩))) :
  Calls Tryz.prog 201 #[.pointer (some ⟨b, 0, none⟩)] w fun e w' => e = .returned (.tuple #[]) ∧ w' = w := by
 obtain ⟨j, hj, _⟩ := Option.map_eq_some_iff.1 bldSize
 go_enter Tryz.func201, Tryz.ntmps201
 go_wp2
 rw [Lib.run_neq_ptr_same w _ t229 hj]
 go_wp2
 go_end0
 exact ⟨rfl, rfl⟩
set_option maxHeartbeats 1000000 in
theorem bld_fresh (b : Nat) (w : World) (h0 : w.cell? ⟨b, 0, none⟩ = some (.pointer none)) (hsh : w.shape? b = some (254, 2)) (hfz : w.frozen? ⟨b, 0, none⟩ = false) :
  Calls Tryz.prog 201 #[.pointer (some ⟨b, 0, none⟩)] w fun e w' => e = .returned (.tuple #[]) ∧ w' = w.setCell ⟨b, 0, none⟩ (.pointer (some ⟨b, 0, none⟩)) := by
 obtain ⟨j, hj, hjs⟩ := Option.map_eq_some_iff.1 bldSize
 go_enter Tryz.func201, Tryz.ntmps201
 go_wp2
 rw [Lib.run_to_unsafe w ⟨b, 0, none⟩ t229 t275 hj (by rw [hjs]; decide) hsh (Nat.zero_lt_succ 1)]
 simp only [Result.andThen]
 rw [Oper.upon_value]
 go_wp2
 rw [run_callFunc_extern Tryz.func208 (by kernel_rfl) (by kernel_rfl) (by kernel_rfl) (e := Extern.AbiNoEscape.same) (by kernel_rfl)]
 rw [Lib.run_noEscape]
 simp only [Result.andThen]
 rw [Oper.upon_value]
 go_wp2
 rw [Lib.run_from_unsafe w ⟨b, 0, none⟩ t275 t229 hj hsh bldLies]
 simp only [Result.andThen]
 rw [Oper.upon_value]
 go_wp2
 go_end0
 exact ⟨rfl, rfl⟩
theorem noNum : Tryz.prog.funcs.all (fun fn => !(fn.name == "runtime.NumGoroutine")) = true := by kernel_rfl
theorem envOk : Go.Ev.EnvOk E where
 num f fn hf := by
  have h := noNum
  rw [Array.all_eq_true'] at h
  have := h fn (Array.mem_of_getElem? hf)
  simpa using this
 mixed := Checked.mixed Tryz.checked
 used f hf b w h := by
  have : f = 201 := by
   simp only [E, hooks] at hf
   split at hf
   ·assumption
   ·split at hf <;> simp at hf
  subst this
  exact bld_used b w h
 fresh f hf b w h hsh hfz := by
  have : f = 201 := by
   simp only [E, hooks] at hf
   split at hf
   ·assumption
   ·split at hf <;> simp at hf
  subst this
  exact bld_fresh b w h hsh hfz
 join f hf := by
  have : f = 176 := by
   simp only [E, hooks] at hf
   split at hf
   ·simp at hf
   ·split at hf
    ·assumption
    ·simp at hf
  subst this
  exact fun bk o c xs sep w h1 h2 h3 h4 h5 => joinOk bk o c xs sep w h1 h2 h3 h4 h5
 known f k hf := by
  simp only [E, hooks] at hf
  split at hf
  ·simp at hf
  ·split at hf <;> simp at hf
end Go.Proofs.YtigdchbjmnbjlaaGreatDoor
end
section
open Go Go.RowKit Go.ChangeShapes Go.WideShapes Go.ChangeAt
namespace Go.Proofs.YtigdchbjmnbjlaaGreatDoor
section
variable {H : Type} {enc : TypeId × Value → H} {P : Program} {w : World} {base : Nat} {spare : Nat → Bool} {held : Bool}
theorem arr_ints {t e : TypeId} {n : Nat} {k : IntKind} {fuel : Nat} {cs : List Value} {zs : List Int} {ps : List MemPlace} (ht : P.underlying t = some (.array n e)) (he : P.underlying e = some (.int k)) (hc : P.cellsOf e = 1) (hct : P.cellsOf t = n) (hz : zs.length = n)
  (h : DataW.trod enc P w base spare held fuel t cs = some (.agg (zs.map fun z => .lit (.int k z)), ps)) : cs = zs.map (Value.int k) := by
 obtain ⟨xs, m, rfl, hx, hlen, hn, hel⟩ := DataW.trod_array ht h
 simp only [Prod.mk.injEq, DataW.agg.injEq] at hx
 obtain ⟨hx, _⟩ := hx
 apply List.ext_getElem?
 intro i
 by_cases hi : i < n
 ·have hxi : xs[i]? = some xs[i] := List.getElem?_eq_getElem (by omega)
  have h1 := hel i hi
  rw [hc, Nat.mul_one, hxi] at h1
  obtain ⟨z, hcell, hy, _⟩ := DataW.trod_int he h1
  have e1 : (zs.map fun z => (DataW.lit (.int k z) : DataW H))[i]? = (xs.map (·.1))[i]? := by rw [hx]
  rw [List.getElem?_map, List.getElem?_map, hxi, hy] at e1
  have hzi : zs[i]? = some zs[i] := List.getElem?_eq_getElem (by omega)
  rw [hzi] at e1
  simp only [Option.map_some, Option.some.injEq, DataW.lit.injEq, Lit.int.injEq, true_and] at e1
  rw [List.getElem?_map, hzi, Option.map_some, e1]
  have e2 : ((cs.drop i).take 1)[0]? = some (.int k z) := by rw [hcell]; rfl
  rw [List.getElem?_take, if_pos (by omega), List.getElem?_drop] at e2
  simpa using e2
 ·rw [List.getElem?_eq_none (by omega), List.getElem?_eq_none (by simp; omega)]
theorem arr_strs {t e : TypeId} {n : Nat} {fuel : Nat} {cs : List Value} {zs : List ByteArray} {ps : List MemPlace} (ht : P.underlying t = some (.array n e)) (he : P.underlying e = some .string) (hc : P.cellsOf e = 1) (hct : P.cellsOf t = n) (hz : zs.length = n)
  (h : DataW.trod enc P w base spare held fuel t cs = some (.agg (zs.map fun z => .lit (.string z.data.toList)), ps)) : cs = zs.map Value.string := by
 obtain ⟨xs, m, rfl, hx, hlen, hn, hel⟩ := DataW.trod_array ht h
 simp only [Prod.mk.injEq, DataW.agg.injEq] at hx
 obtain ⟨hx, _⟩ := hx
 apply List.ext_getElem?
 intro i
 by_cases hi : i < n
 ·have hxi : xs[i]? = some xs[i] := List.getElem?_eq_getElem (by omega)
  have h1 := hel i hi
  rw [hc, Nat.mul_one, hxi] at h1
  obtain ⟨z, hcell, hy, _⟩ := DataW.trod_string he h1
  have e1 : (zs.map fun z => (DataW.lit (.string z.data.toList) : DataW H))[i]? = (xs.map (·.1))[i]? := by rw [hx]
  rw [List.getElem?_map, List.getElem?_map, hxi, hy] at e1
  have hzi : zs[i]? = some zs[i] := List.getElem?_eq_getElem (by omega)
  rw [hzi] at e1
  simp only [Option.map_some, Option.some.injEq, DataW.lit.injEq, Lit.string.injEq] at e1
  have e3 : zs[i] = z := by
   have : (zs[i]).data = z.data := by rw [← Array.toList_inj]; exact e1
   cases hzz : zs[i]; cases z; rw [hzz] at this; simp at this; rw [this]
  rw [List.getElem?_map, hzi, Option.map_some, e3]
  have e2 : ((cs.drop i).take 1)[0]? = some (.string z) := by rw [hcell]; rfl
  rw [List.getElem?_take, if_pos (by omega), List.getElem?_drop] at e2
  simpa using e2
 ·rw [List.getElem?_eq_none (by omega), List.getElem?_eq_none (by simp; omega)]
end
theorem gPow : Tryz.prog.globalNamed "internal/strconv.uint64pow10" = some 1 := by kernel_rfl
theorem gSta : Tryz.prog.globalNamed "kilovar/tone.states" = some 0 := by kernel_rfl
def laidL : List (String × DataW Unit) := [("math/bits.deBruijn32tab", Rows.laid_math_bits_deBruijn32tab), ("math/bits.deBruijn64tab", Rows.laid_math_bits_deBruijn64tab), ("internal/strconv.uint64pow10", Rows.laid_internal_strconv_uint64pow10), ("kilovar/tone.states", Rows.laid_kilovar_tone_states)]
theorem cells_of_var {P : Program} {w : World} {name : String} {g : Nat} {cs : Array Value} (hg : P.globalNamed name = some g) (hv : w.var? P name = some cs) : ∃ t fz, w.heap[g]? = some (.cells cs t fz) := by
 unfold World.var? at hv
 rw [hg] at hv
 simp only [Option.bind_some] at hv
 split at hv
 ·rename_i cs' t fz hc
  simp only [Option.some.injEq] at hv
  subst hv
  exact ⟨t, fz, hc⟩
 ·simp at hv
theorem tables {W : World} {base : Nat} (hbase : 2 ≤ base) (h : laidMetH Tryz.prog laidL W) : Go.Ev.GR E.gl base W := by
 rw [MakeChecks.laidMetH_plain _ _ _ (by kernel_rfl)] at h
 obtain ⟨ps, ⟨_, _, _, _, _, _, _, _, _, _, ⟨_, _, _, _, _, _, _, _, _, _, ⟨gP, tP, csP, fP, pP, qP, hgP, htP, hvP, hdP, ⟨gS, tS, csS, fS, pS, qS, hgS, htS, hvS, hdS, _⟩, _⟩, _⟩, _⟩, _⟩ := h
 obtain rfl := Option.some.inj (gPow.symm.trans hgP)
 obtain rfl := Option.some.inj ((show (Tryz.prog.globals[1]?).map (·.type) = some 277 by kernel_rfl).symm.trans htP)
 obtain rfl := Option.some.inj (gSta.symm.trans hgS)
 obtain rfl := Option.some.inj ((show (Tryz.prog.globals[0]?).map (·.type) = some 226 by kernel_rfl).symm.trans htS)
 obtain ⟨uP, zP, kP⟩ := cells_of_var hgP hvP
 obtain ⟨uS, zS, kS⟩ := cells_of_var hgS hvS
 have eP : csP.toList = tabPow := arr_ints (n := 20) (k := .u64) (e := 268) (zs := (List.range 20).map fun i => ((10 ^ i : Nat) : Int)) (by kernel_rfl) (by kernel_rfl) (by kernel_rfl) (by kernel_rfl) (by kernel_rfl) hdP
 have eS : csS.toList = tabStates := arr_strs (n := 3) (e := 9) (zs := [⟨#[111, 110]⟩, ⟨#[111, 102, 102]⟩, ⟨#[109, 97, 121]⟩]) (by kernel_rfl) (by kernel_rfl) (by kernel_rfl) (by kernel_rfl) (by kernel_rfl) hdS
 intro g cs hl
 have hcase : (g = 0 ∧ cs = tabStates) ∨ (g = 1 ∧ cs = tabPow) := by
  have hl' : (if Nat.beq 0 g then some tabStates else if Nat.beq 1 g then some tabPow else none) = some cs := hl
  split at hl'
  ·rename_i hb; exact .inl ⟨(Nat.eq_of_beq_eq_true hb).symm, by simpa using hl'.symm⟩
  ·split at hl'
   ·rename_i hb; exact .inr ⟨(Nat.eq_of_beq_eq_true hb).symm, by simpa using hl'.symm⟩
   ·simp at hl'
 rcases hcase with ⟨rfl, rfl⟩ | ⟨rfl, rfl⟩
 ·exact ⟨by omega, csS, uS, zS, kS, eS⟩
 ·exact ⟨by omega, csP, uP, zP, kP, eP⟩
end Go.Proofs.YtigdchbjmnbjlaaGreatDoor
end
section
open Go Go.Ev Go.RowKit Go.ChangeShapes Go.WideShapes
namespace Go.Proofs.YtigdchbjmnbjlaaGreatDoor
theorem met_tables {W : World} (hL : laidMetH Tryz.prog laidL W) : 2 ≤ W.heap.size ∧ GR E.gl W.heap.size W := by
 have hblk : ∃ c ty fz, W.heap[1]? = some (.cells c ty fz) := by
  obtain ⟨_, c, t, fz, h, _⟩ := tables (base := 2) (Nat.le_refl _) hL 1 tabPow rfl
  exact ⟨c, t, fz, h⟩
 have hsz : 2 ≤ W.heap.size := by
  obtain ⟨c, t, fz, h⟩ := hblk
  have := (Array.getElem?_eq_some_iff.1 h).1
  omega
 exact ⟨hsz, tables hsz hL⟩
def m0 (F : List (Nat × List Value)) : M := { n := 0, ρ := fun _ => 0, κ := fun _ => 0, lo := 0, F := F }
theorem hr0 (W : World) {F : List (Nat × List Value)} (hF : AtRest W F) : HR (m0 F) W.heap.size 0 [] W :=
 ⟨rfl, Nat.le_refl _, Nat.le_refl _, fun b a hb => by simp at hb, fun b _ hb => by simp at hb, fun b b' hb => by simp at hb, Nat.le_refl _, fun p hp => ⟨hF p hp, fun b a _ hb => by simp at hb⟩⟩
theorem c3_ : Tryz.prog.cellsOf 3 = 1 := by kernel_rfl
theorem agg_of {W : World} {b t : Nat} {fs : Array Field} {v : Value} (hu : Tryz.prog.underlying t = some (.struct fs)) (h : Value.okWide Tryz.prog W .any b t v) : ∃ cs, v = .agg cs := by
 simp only [Value.okWide, hu] at h
 obtain ⟨cs, h1, _⟩ := h
 exact ⟨cs, h1⟩
theorem trod_fields {H : Type} {enc : TypeId × Value → H} {P : Program} {W : World} {t : TypeId} {fuel : Nat} {held : Bool} {base : Nat} {sp : Nat → Bool} {cs : List Value} {x : DataW H × List MemPlace} {fs : Array Field} (ht : P.underlying t = some (.struct fs)) (fl : List (Nat × Nat)) (hfs : fs.toList.map (fun f => (f.type, f.offset)) = fl)
  (h : DataW.trod enc P W base sp held fuel t cs = some x) : cs.length = P.cellsOf t ∧ ∃ m, ∀ (i : Nat) (p : Nat × Nat), fl[i]? = some p → ∃ y, DataW.trod enc P W base sp held m p.1 ((cs.drop p.2).take (P.cellsOf p.1)) = some y := by
 obtain ⟨xs, m, rfl, _, hlen, hn, hel⟩ := DataW.trod_struct ht h
 refine ⟨hlen, m, fun i p hp => ?_⟩
 rw [← hfs, List.getElem?_map] at hp
 obtain ⟨f, hf, e⟩ := Option.map_eq_some_iff.1 hp
 have hf' : fs[i]? = some f := by simpa using hf
 have hi : i < fs.size := (Array.getElem?_eq_some_iff.1 hf').1
 have h1 := hel i f hf'
 rw [List.getElem?_eq_getElem (by omega)] at h1
 subst e
 exact ⟨_, h1⟩
end Go.Proofs.YtigdchbjmnbjlaaGreatDoor
end
section
open Go Go.Ev Go.RowKit Go.ChangeShapes Go.WideShapes
namespace Go.Proofs.YtigdchbjmnbjlaaGreatDoor
theorem u3T : Tryz.prog.underlying 3 = some (.int .i64) := by kernel_rfl
theorem sl_of {H : Type} {enc : TypeId × Value → H} {W : World} {fuel : Nat} {held : Bool} {cs : List Value} {t e : TypeId} {x : DataW H × List MemPlace} (hu : Tryz.prog.underlying t = some (.slice e)) (h : DataW.trod enc Tryz.prog W 0 (fun _ => true) held fuel t cs = some x) : ∃ a len cap, cs = [.slice a len cap] := by
 rcases DataW.trod_slice hu h with ⟨e, _⟩ | ⟨a, len, cap, _, _, _, _, e, _⟩
 ·exact ⟨_, _, _, e⟩
 ·exact ⟨_, _, _, e⟩
end Go.Proofs.YtigdchbjmnbjlaaGreatDoor
end
section
open Go Go.Ev Go.RowKit Go.ChangeShapes Go.WideShapes
namespace Go.Proofs.YtigdchbjmnbjlaaGreatDoor
theorem rd_catM {W : World} {c1 c2 : List Value} {Q1 Q2 Q : List DT → Prop} (h1 : Rd W c1 Q1) (h2 : Rd W c2 Q2) (hQ : ∀ a b, Q1 a → Q2 b → Q (a ++ b)) : Rd W (c1 ++ c2) Q := by
 obtain ⟨F, a, f1, r1, l1, q1⟩ := h1
 obtain ⟨G, b, f2, r2, l2, q2⟩ := h2
 exact ⟨F ++ G, a ++ b, f1.app f2, Rl_append r1 l1 r2, by simp [l1, l2], hQ a b q1 q2⟩
theorem m9 : Tryz.prog.underlying 9 = some .string := by kernel_rfl
theorem m22 : Tryz.prog.underlying 22 = some (.slice 47) := by kernel_rfl
theorem m23 : Tryz.prog.underlying 23 = some (.slice 97) := by kernel_rfl
theorem m24 : Tryz.prog.underlying 24 = some (.slice 99) := by kernel_rfl
theorem m26 : Tryz.prog.underlying 26 = some (.struct (Tryz.prog.fieldsOf 26)) := by kernel_rfl
theorem m27 : Tryz.prog.underlying 27 = some (.array 3 3) := by kernel_rfl
theorem m47 : Tryz.prog.underlying 47 = some (.struct (Tryz.prog.fieldsOf 47)) := by kernel_rfl
theorem m97 : Tryz.prog.underlying 97 = some (.struct (Tryz.prog.fieldsOf 97)) := by kernel_rfl
theorem m99 : Tryz.prog.underlying 99 = some (.struct (Tryz.prog.fieldsOf 99)) := by kernel_rfl
section
variable {H : Type} {enc : TypeId × Value → H} {W : World} {fuel : Nat} {held : Bool} {cs : List Value} {x : DataW H × List MemPlace}
theorem rd_iM (h : DataW.trod enc Tryz.prog W 0 (fun _ => true) held fuel 3 cs = some x) : Rd W cs fun ds => ∃ z : Int, ds = [.v (.int .i64 z)] := by
 obtain ⟨F, ds, h1, h2, h3, z, _, h5⟩ := rd_int u3T h
 exact ⟨F, ds, h1, h2, h3, z, h5⟩
theorem rd_sM (h : DataW.trod enc Tryz.prog W 0 (fun _ => true) held fuel 9 cs = some x) : Rd W cs fun ds => ∃ s : ByteArray, ds = [.v (.string s)] := by
 obtain ⟨F, ds, h1, h2, h3, z, _, h5⟩ := rd_string m9 h
 exact ⟨F, ds, h1, h2, h3, z, h5⟩
theorem rd_g (h : DataW.trod enc Tryz.prog W 0 (fun _ => true) held fuel 47 cs = some x) : Rd W cs fun ds => ∃ p : Gs, ds = gsd p := by
 obtain ⟨hlen, m, fld⟩ := trod_fields m47 [(3, 0), (3, 1)] (by kernel_rfl) h
 rw [show Tryz.prog.cellsOf 47 = 2 by kernel_rfl] at hlen
 match cs, hlen with
 | [a, b], _ =>
  obtain ⟨_, h0⟩ := fld 0 _ rfl
  obtain ⟨_, h1⟩ := fld 1 _ rfl
  simp only [c3_] at h0 h1
  exact rd_catM (c1 := [a]) (rd_iM h0) (rd_iM h1) (by
   rintro _ _ ⟨y, rfl⟩ ⟨z, rfl⟩
   exact ⟨(y, z), rfl⟩)
theorem gs_flatten : ∀ {rows : List (List DT)}, (∀ r ∈ rows, r.length = 2 ∧ ∃ f : Gs, r = gsd f) → ∃ l : List Gs, l.length = rows.length ∧ rows.flatten = gD l
 | [], _ => ⟨[], rfl, rfl⟩
 | r :: rows, h => by
  obtain ⟨l, h1, h2⟩ := gs_flatten (fun s hs => h s (List.mem_cons_of_mem _ hs))
  obtain ⟨_, f, rfl⟩ := h r (List.mem_cons_self ..)
  exact ⟨f :: l, by simp [h1], by rw [List.flatten_cons, h2]; rfl⟩
theorem rd_gs (h : DataW.trod enc Tryz.prog W 0 (fun _ => true) held fuel 22 cs = some x) : Rd W cs fun ds => ∃ l : List Gs, l.length ≤ maxLen ∧ ds = [.s (gD l) l.length 2] := by
 obtain ⟨F, ds, h1, h2, h3, rows, h4, h5, h6⟩ := rd_slice (Q := fun ds => ∃ f : Gs, ds = gsd f) m22 (by kernel_rfl : Tryz.prog.cellsOf 47 = 2) (by omega) (fun {_ _ _} hh => rd_g hh) (sl_of m22 h) h
 obtain ⟨l, k1, k2⟩ := gs_flatten h5
 exact ⟨F, ds, h1, h2, h3, l, by omega, by rw [h6, k2, k1]⟩
theorem rd_nd (h : DataW.trod enc Tryz.prog W 0 (fun _ => true) held fuel 97 cs = some x) : Rd W cs fun ds => ∃ f : Nd, ds = f.d := by
 obtain ⟨hlen, m, fld⟩ := trod_fields m97 [(9, 0), (3, 1), (3, 2), (22, 3)] (by kernel_rfl) h
 rw [show Tryz.prog.cellsOf 97 = 4 by kernel_rfl] at hlen
 match cs, hlen with
 | [a, b, c, d], _ =>
  obtain ⟨_, h0⟩ := fld 0 _ rfl
  obtain ⟨_, h1⟩ := fld 1 _ rfl
  obtain ⟨_, h2⟩ := fld 2 _ rfl
  obtain ⟨_, h3⟩ := fld 3 _ rfl
  simp only [c3_, show Tryz.prog.cellsOf 9 = 1 by kernel_rfl, show Tryz.prog.cellsOf 22 = 1 by kernel_rfl] at h0 h1 h2 h3
  exact rd_catM (c1 := [a]) (rd_sM h0) (rd_catM (c1 := [b]) (rd_iM h1) (rd_catM (c1 := [c]) (rd_iM h2) (rd_gs h3) (Q := fun ds => ∃ (y : Int) (l : List Gs), ds = [.v (.int .i64 y), .s (gD l) l.length 2]) (by
   rintro _ _ ⟨y, rfl⟩ ⟨l, _, rfl⟩
   exact ⟨y, l, rfl⟩)) (Q := fun ds => ∃ (x y : Int) (l : List Gs), ds = [.v (.int .i64 x), .v (.int .i64 y), .s (gD l) l.length 2]) (by
   rintro _ _ ⟨x, rfl⟩ ⟨y, l, rfl⟩
   exact ⟨x, y, l, rfl⟩)) (by
   rintro _ _ ⟨o, rfl⟩ ⟨x, y, l, rfl⟩
   exact ⟨⟨o, x, y, l⟩, rfl⟩)
theorem nd_flatten : ∀ {rows : List (List DT)}, (∀ r ∈ rows, r.length = 4 ∧ ∃ f : Nd, r = f.d) → ∃ l : List Nd, l.length = rows.length ∧ rows.flatten = ndD l
 | [], _ => ⟨[], rfl, rfl⟩
 | r :: rows, h => by
  obtain ⟨l, h1, h2⟩ := nd_flatten (fun s hs => h s (List.mem_cons_of_mem _ hs))
  obtain ⟨_, f, rfl⟩ := h r (List.mem_cons_self ..)
  exact ⟨f :: l, by simp [h1], by rw [List.flatten_cons, h2]; rfl⟩
theorem rd_nds (h : DataW.trod enc Tryz.prog W 0 (fun _ => true) held fuel 23 cs = some x) : Rd W cs fun ds => ∃ l : List Nd, l.length ≤ maxLen ∧ ds = [.s (ndD l) l.length 4] := by
 obtain ⟨F, ds, h1, h2, h3, rows, h4, h5, h6⟩ := rd_slice (Q := fun ds => ∃ f : Nd, ds = f.d) m23 (by kernel_rfl : Tryz.prog.cellsOf 97 = 4) (by omega) (fun {_ _ _} hh => rd_nd hh) (sl_of m23 h) h
 obtain ⟨l, k1, k2⟩ := nd_flatten h5
 exact ⟨F, ds, h1, h2, h3, l, by omega, by rw [h6, k2, k1]⟩
theorem rd_ld (h : DataW.trod enc Tryz.prog W 0 (fun _ => true) held fuel 99 cs = some x) : Rd W cs fun ds => ∃ f : Ld, ds = f.d := by
 obtain ⟨hlen, m, fld⟩ := trod_fields m99 [(3, 0), (9, 1), (22, 2)] (by kernel_rfl) h
 rw [show Tryz.prog.cellsOf 99 = 3 by kernel_rfl] at hlen
 match cs, hlen with
 | [a, b, c], _ =>
  obtain ⟨_, h0⟩ := fld 0 _ rfl
  obtain ⟨_, h1⟩ := fld 1 _ rfl
  obtain ⟨_, h2⟩ := fld 2 _ rfl
  simp only [c3_, show Tryz.prog.cellsOf 9 = 1 by kernel_rfl, show Tryz.prog.cellsOf 22 = 1 by kernel_rfl] at h0 h1 h2
  exact rd_catM (c1 := [a]) (rd_iM h0) (rd_catM (c1 := [b]) (rd_sM h1) (rd_gs h2) (Q := fun ds => ∃ (y : ByteArray) (l : List Gs), ds = [.v (.string y), .s (gD l) l.length 2]) (by
   rintro _ _ ⟨y, rfl⟩ ⟨l, _, rfl⟩
   exact ⟨y, l, rfl⟩)) (by
   rintro _ _ ⟨o, rfl⟩ ⟨y, l, rfl⟩
   exact ⟨⟨o, y, l⟩, rfl⟩)
theorem ld_flatten : ∀ {rows : List (List DT)}, (∀ r ∈ rows, r.length = 3 ∧ ∃ f : Ld, r = f.d) → ∃ l : List Ld, l.length = rows.length ∧ rows.flatten = ldD l
 | [], _ => ⟨[], rfl, rfl⟩
 | r :: rows, h => by
  obtain ⟨l, h1, h2⟩ := ld_flatten (fun s hs => h s (List.mem_cons_of_mem _ hs))
  obtain ⟨_, f, rfl⟩ := h r (List.mem_cons_self ..)
  exact ⟨f :: l, by simp [h1], by rw [List.flatten_cons, h2]; rfl⟩
theorem rd_lds (h : DataW.trod enc Tryz.prog W 0 (fun _ => true) held fuel 24 cs = some x) : Rd W cs fun ds => ∃ l : List Ld, l.length ≤ maxLen ∧ ds = [.s (ldD l) l.length 3] := by
 obtain ⟨F, ds, h1, h2, h3, rows, h4, h5, h6⟩ := rd_slice (Q := fun ds => ∃ f : Ld, ds = f.d) m24 (by kernel_rfl : Tryz.prog.cellsOf 99 = 3) (by omega) (fun {_ _ _} hh => rd_ld hh) (sl_of m24 h) h
 obtain ⟨l, k1, k2⟩ := ld_flatten h5
 exact ⟨F, ds, h1, h2, h3, l, by omega, by rw [h6, k2, k1]⟩
theorem rd_mains (h : DataW.trod enc Tryz.prog W 0 (fun _ => true) held fuel 26 cs = some x) : Rd W cs fun ds => ∃ (c : Int) (g : List Gs) (N : List Nd) (L : List Ld), N.length ≤ maxLen ∧ L.length ≤ maxLen ∧ ds.map DT.ac = mnC c g N L := by
 obtain ⟨hlen, m, fld⟩ := trod_fields m26 [(3, 0), (22, 1), (23, 2), (24, 3)] (by kernel_rfl) h
 rw [show Tryz.prog.cellsOf 26 = 4 by kernel_rfl] at hlen
 match cs, hlen with
 | [a, b, c, d], _ =>
  obtain ⟨_, h0⟩ := fld 0 _ rfl
  obtain ⟨_, h1⟩ := fld 1 _ rfl
  obtain ⟨_, h2⟩ := fld 2 _ rfl
  obtain ⟨_, h3⟩ := fld 3 _ rfl
  simp only [c3_, show Tryz.prog.cellsOf 22 = 1 by kernel_rfl, show Tryz.prog.cellsOf 23 = 1 by kernel_rfl, show Tryz.prog.cellsOf 24 = 1 by kernel_rfl] at h0 h1 h2 h3
  exact rd_catM (c1 := [a]) (rd_iM h0) (rd_catM (c1 := [b]) (rd_gs h1) (rd_catM (c1 := [c]) (rd_nds h2) (rd_lds h3) (Q := fun ds => ∃ (N : List Nd) (L : List Ld), N.length ≤ maxLen ∧ L.length ≤ maxLen ∧ ds = [.s (ndD N) N.length 4, .s (ldD L) L.length 3]) (by
   rintro _ _ ⟨N, hN, rfl⟩ ⟨L, hL, rfl⟩
   exact ⟨N, L, hN, hL, rfl⟩)) (Q := fun ds => ∃ (g : List Gs) (N : List Nd) (L : List Ld), N.length ≤ maxLen ∧ L.length ≤ maxLen ∧ ds = [.s (gD g) g.length 2, .s (ndD N) N.length 4, .s (ldD L) L.length 3]) (by
   rintro _ _ ⟨g, _, rfl⟩ ⟨N, L, hN, hL, rfl⟩
   exact ⟨g, N, L, hN, hL, rfl⟩)) (by
   rintro _ _ ⟨z, rfl⟩ ⟨g, N, L, hN, hL, rfl⟩
   exact ⟨z, g, N, L, hN, hL, rfl⟩)
theorem rd_i3M (h : DataW.trod enc Tryz.prog W 0 (fun _ => true) held fuel 27 cs = some x) : ∃ a b c : Int, cs = [.int .i64 a, .int .i64 b, .int .i64 c] := by
 obtain ⟨xs, m, rfl, _, hlen, hn, hel⟩ := DataW.trod_array m27 h
 rw [show Tryz.prog.cellsOf 27 = 3 by kernel_rfl] at hlen
 rw [c3_] at hel
 match cs, hlen with
 | [a, b, c], _ =>
  have one : ∀ i (hi : i < 3) z, (([a, b, c] : List Value).drop (i * 1)).take 1 = [z] → ∃ r : Int, z = .int .i64 r := fun i hi z hz => by
   have h1 := hel i hi
   rw [hz, List.getElem?_eq_getElem (by omega)] at h1
   obtain ⟨r, hr, _⟩ := DataW.trod_int u3T h1
   exact ⟨r, by simpa using hr⟩
  obtain ⟨p, rfl⟩ := one 0 (by omega) a rfl
  obtain ⟨q, rfl⟩ := one 1 (by omega) b rfl
  obtain ⟨r, rfl⟩ := one 2 (by omega) c rfl
  exact ⟨p, q, r, rfl⟩
end
theorem arr_ofM {W : World} {b t n e : Nat} {v : Value} (hu : Tryz.prog.underlying t = some (.array n e)) (h : Value.okWide Tryz.prog W .any b t v) : ∃ cs, v = .agg cs := by
 cases v with
 | agg cs => exact ⟨cs, rfl⟩
 | _ => simp [Value.okWide, hu] at h
end Go.Proofs.YtigdchbjmnbjlaaGreatDoor
end
section
open Go Go.RowKit Go.ChangeShapes Go.WideShapes Go.ChangeAt Go.WideMaps Go.WideElems
namespace Go.Proofs.YtigdchbjmnbjlaaGreatDoor
section
variable {H : Type} {enc : TypeId × Value → H} {P : Program}
theorem post_of_below {f : Func} {s : ChangeSpec} {apart fresh handsOn again : Bool} {W W' : World} {args : Array Value} {v : Value} {ds gs : List (DataW H)} {before pa pv : List MemPlace}
  (hW : DataW.Whole enc P f.params.toList s.vars apart W args.toList ds gs before)
  (hres : ∀ (b : Nat) (sp : Nat → Bool) (hd : Bool), DataW.TrodAll enc P W' b sp hd f.resultTypes.toList (v.resultList f.resultTypes.size) (s.fn H (ds ++ gs)).results [])
  (hargs : ∀ sp : Nat → Bool, (∀ p ∈ before, sp p.block = true) → DataW.TrodAll enc P W' 0 sp true f.params.toList args.toList (s.fn H (ds ++ gs)).args pa)
  (hvars : ∀ sp : Nat → Bool, (∀ p ∈ before, sp p.block = true) → DataW.TrodVars enc P W' sp s.vars (s.fn H (ds ++ gs)).vars pv)
  (hps : before = pa ++ pv) (hb : Below W.heap.size W W')
  (hok : ∀ (j : Nat) (t : TypeId) (r : Value), f.resultTypes[j]? = some t → (v.resultList f.resultTypes.size)[j]? = some r → Value.okWide P W' .any 0 t r) :
  s.post enc P f apart fresh handsOn again W args v W' := by
 have hlt : ∀ p ∈ before, p.block < W.heap.size := fun p hp => hW.lt p hp
 have hold : ∀ p ∈ before, (fun b => decide (b < W.heap.size)) p.block = true := fun p hp => by simpa using hlt p hp
 refine ⟨ds, gs, before, [], pa, pv, hW, hres _ _ _, hargs _ hold, hvars _ hold, World.keptBut_mono (fun p hp => ⟨hp, ?_⟩) (hb.frame (· ∈ before)), fun _ => ?_⟩
 ·rw [hps, List.mem_append] at hp
  exact Or.inr hp
 ·obtain ⟨_, _, _, _, _, hz, hn⟩ := hW
  refine ⟨hok, _, _, ([] ++ pa) ++ pv, ⟨[] ++ pa, pv, trodAll_append (hargs _ (fun _ _ => rfl)) (hres _ _ _), hvars _ (fun _ _ => rfl), rfl, ?_, ?_⟩, ?_⟩
  ·intro b off hp
   have hin : MemPlace.cell b off ∈ before := by rw [hps]; simpa using hp
   rw [hb.frozen (hlt _ hin)]
   exact hz b off hin
  ·intro ha
   have := hn ha
   rw [hps] at this
   simpa using this
  ·intro p hp _
   rw [hps]
   simpa using hp
end
theorem own : ownKnob Tryz.prog.godebug = none := by kernel_rfl
theorem laidOut : laidOutB Tryz.prog = true := by kernel_rfl
theorem u4 : Tryz.prog.underlying 4 = some .bool := by kernel_rfl
theorem door_met (os : Os) (args : Array Value) : laidMetH Tryz.prog laidL ((World.doorLaid Tryz.prog 400 os).forCall (fun _ _ => 0) ⟨#[], args, []⟩).memory :=
 laidMetH_of_parts3 (fuel := 8) (laidMet_of_run' 8 (by kernel_rfl) (by kernel_rfl)) (by kernel_rfl) (by kernel_rfl)
end Go.Proofs.YtigdchbjmnbjlaaGreatDoor
end
