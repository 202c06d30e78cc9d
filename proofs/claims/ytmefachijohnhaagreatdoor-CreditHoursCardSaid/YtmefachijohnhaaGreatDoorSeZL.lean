/-
  Part of the proof: SeJn, SeBld, SeGr, SeRd, SeRdO, SeRdB, SeRdA, SeLaw.
-/
import Derived.Test.YtmefachijohnhaaGreatDoorSeAw
import Derived.Below
import Derived.Carry
import Derived.ChangeArms
import Derived.ChangeSame
import Derived.Eval
import Derived.KernelRfl
import Derived.LaidMore
import Derived.Laws.Externs
import Derived.Lib.Builder
import Derived.Lib.Walk
import Derived.MakeChecks
import Derived.OpenShut
import Derived.ProofKit
import Derived.Room.Shelf.Join48
import Derived.Shelf.Strings.OnBuilder
import Derived.Stop.Joined
import Derived.Test.YtmefachijohnhaaGreatDoorChecked
import Derived.Test.YtmefachijohnhaaGreatDoorProg
import Derived.Test.YtmefachijohnhaaGreatDoorRows
import Derived.WalkKit

/-! SeJn -/
section
open Go Go.Shelf Go.Ev Go.RowKit Go.Proofs
namespace Go.Proofs.YtmefachijohnhaaGreatDoor
set_option maxRecDepth 100000
def laysJ_ren : Go.Shelf.Ren := ⟨fun | 156 => 134 | 165 => 157 | 166 => 158 | 169 => 159 | 240 => 173 | 241 => 174 | 276 => 189 | 277 => 190 | n => n, fun | 31 => 117 | 9 => 9 | 3 => 3 | 4 => 4 | 0 => 0 | 20 => 20 | 72 => 229 | 76 => 233 | 70 => 227 | 37 => 128 | 75 => 232 | 127 => 243 | 164 => 260 | 5 => 5 | 80 => 235 | n => n, fun | n => n⟩
theorem laysJ : Go.Proofs.Lays.n156 Tryz.prog laysJ_ren := {
 mixed := by kernel_rfl
 f156 := Tryz.func134.trans (congrArg some (by kernel_rfl))
 f165 := Tryz.func157.trans (congrArg some (by kernel_rfl))
 f166 := Tryz.func158.trans (congrArg some (by kernel_rfl))
 f169 := Tryz.func159.trans (congrArg some (by kernel_rfl))
 f240 := Tryz.func173.trans (congrArg some (by kernel_rfl))
 f241 := Tryz.func174.trans (congrArg some (by kernel_rfl))
 f276 := Tryz.func189.trans (congrArg some (by kernel_rfl))
 f277 := Tryz.func190.trans (congrArg some (by kernel_rfl))
 t0 := Tryz.underlying0
 a0 := Tryz.isAgg0
 z0 := Tryz.sizeOf0
 v0 := Tryz.zeroValue0
 t3 := Tryz.underlying3
 a3 := Tryz.isAgg3
 z3 := Tryz.sizeOf3
 v3 := Tryz.zeroValue3
 t4 := Tryz.underlying4
 a4 := Tryz.isAgg4
 z4 := Tryz.sizeOf4
 v4 := Tryz.zeroValue4
 t9 := Tryz.underlying9
 a9 := Tryz.isAgg9
 z9 := Tryz.sizeOf9
 v9 := Tryz.zeroValue9
 t20 := Tryz.underlying20
 a20 := Tryz.isAgg20
 z20 := Tryz.sizeOf20
 v20 := Tryz.zeroValue20
 t31 := Tryz.underlying117
 a31 := Tryz.isAgg117
 z31 := Tryz.sizeOf117
 v31 := Tryz.zeroValue117
 t37 := Tryz.underlying128
 a37 := Tryz.isAgg128
 z37 := Tryz.sizeOf128
 v37 := Tryz.zeroValue128
 t70 := Tryz.underlying227
 a70 := Tryz.isAgg227
 z70 := Tryz.sizeOf227
 v70 := Tryz.zeroValue227
 t72 := Tryz.underlying229
 a72 := Tryz.isAgg229
 z72 := Tryz.sizeOf229
 v72 := Tryz.zeroValue229
 t75 := Tryz.underlying232
 a75 := Tryz.isAgg232
 z75 := Tryz.sizeOf232
 v75 := Tryz.zeroValue232
 t76 := Tryz.underlying233
 a76 := Tryz.isAgg233
 z76 := Tryz.sizeOf233
 v76 := Tryz.zeroValue233
 t127 := Tryz.underlying243
 a127 := Tryz.isAgg243
 z127 := Tryz.sizeOf243
 v127 := Tryz.zeroValue243
 t164 := Tryz.underlying260
 a164 := Tryz.isAgg260
 z164 := Tryz.sizeOf260
 v164 := Tryz.zeroValue260 }
theorem extraJ : Builder.Extra Tryz.prog laysJ_ren := {
 sizeBuilder := by kernel_rfl
 liesBuilder := by kernel_rfl
 t5 := Tryz.underlying5
 a5 := Tryz.isAgg5
 z5 := Tryz.sizeOf5
 v5 := Tryz.zeroValue5
 infoByte := by kernel_rfl
 cellsByte := by kernel_rfl
 sizeByte := by kernel_rfl
 neB5 := by decide }
theorem joinL_eq (sep : List UInt8) : ∀ l : List ByteArray, Lib.join (l.map (·.data.toList)) sep = joinL sep l
 | [] => rfl
 | [x] => by simp [Lib.join, List.intercalate, joinL]
 | x :: y :: r => by
  have ih := joinL_eq sep (y :: r)
  have hu : joinL sep (x :: y :: r) = appL x.data.toList (appL sep (joinL sep (y :: r))) := rfl
  rw [hu, ← ih, appL_eq, appL_eq]
  simp [Lib.join, List.intercalate]
theorem joinOk (bk o c : Nat) (xs : List ByteArray) (sep : ByteArray) (w : World) (hcell : ∀ (j : Nat) x, xs[j]? = some x → w.cell? ⟨bk, o + j, none⟩ = some (.string x)) (hbk : bk < w.heap.size) (hN : xs.length ≤ 140737488355328) (hc : xs.length ≤ c)
  (hl : (joinL sep.data.toList xs).length ≤ 281474976710656) :
  Calls Tryz.prog 134 #[.slice (some ⟨bk, o, none⟩) xs.length c, .string sep] w fun e w' => e = .returned (.string ⟨⟨joinL sep.data.toList xs⟩⟩) ∧ Below w.heap.size w w' := by
 have h := Any.strings_Join_48 laysJ extraJ bk o c xs sep w hcell hbk hN hc (by rw [joinL_eq]; exact hl)
 rw [joinL_eq] at h
 exact h
end Go.Proofs.YtmefachijohnhaaGreatDoor
end

/-! SeBld -/
section
open Go Go.RowKit
namespace Go.Proofs.YtmefachijohnhaaGreatDoor
set_option maxRecDepth 100000
theorem bldSize : (Tryz.prog.info? 229).map (·.size) = some 2 := by kernel_rfl
theorem bldLies : liesAt Tryz.prog Tryz.prog.depth 229 (2 / Tryz.prog.cellsOf 229) 0 229 1 = true := by kernel_rfl
theorem t229 : Tryz.prog.underlying 227 = some (.pointer 229) := by kernel_rfl
theorem t275 : Tryz.prog.underlying 260 = some .unsafePointer := by kernel_rfl
set_option maxHeartbeats 1000000 in
theorem bld_used (b : Nat) (w : World) (h0 : w.cell? ⟨b, 0, none⟩ = some (.pointer (some ⟨b, 0, none⟩))) :
  Calls Tryz.prog 173 #[.pointer (some ⟨b, 0, none⟩)] w fun e w' => e = .returned (.tuple #[]) ∧ w' = w := by
 obtain ⟨j, hj, _⟩ := Option.map_eq_some_iff.1 bldSize
 go_enter Tryz.func173, Tryz.ntmps173
 go_wp2
 rw [Lib.run_neq_ptr_same w _ t229 hj]
 go_wp2
 go_end0
 exact ⟨rfl, rfl⟩
set_option maxHeartbeats 1000000 in
theorem bld_fresh (b : Nat) (w : World) (h0 : w.cell? ⟨b, 0, none⟩ = some (.pointer none)) (hsh : w.shape? b = some (229, 2)) (hfz : w.frozen? ⟨b, 0, none⟩ = false) :
  Calls Tryz.prog 173 #[.pointer (some ⟨b, 0, none⟩)] w fun e w' => e = .returned (.tuple #[]) ∧ w' = w.setCell ⟨b, 0, none⟩ (.pointer (some ⟨b, 0, none⟩)) := by
 obtain ⟨j, hj, hjs⟩ := Option.map_eq_some_iff.1 bldSize
 go_enter Tryz.func173, Tryz.ntmps173
 go_wp2
 rw [Lib.run_to_unsafe w ⟨b, 0, none⟩ t229 t275 hj (by rw [hjs]; decide) hsh (Nat.zero_lt_succ 1)]
 simp only [Result.andThen]
 rw [Oper.upon_value]
 go_wp2
 rw [run_callFunc_extern Tryz.func189 (by kernel_rfl) (by kernel_rfl) (by kernel_rfl) (e := Extern.AbiNoEscape.same) (by kernel_rfl)]
 rw [Lib.run_noEscape]
 simp only [Result.andThen]
 rw [Oper.upon_value]
 go_wp2
 rw [Lib.run_from_unsafe w ⟨b, 0, none⟩ t275 t229 hj hsh bldLies]
 simp only [Result.andThen]
 rw [Oper.upon_value]
 go_wp2
 go_end0
 exact ⟨rfl, rfl⟩
theorem noNum : Tryz.prog.funcs.all (fun fn => !(fn.name == "runtime.NumGoroutine")) = true := by kernel_rfl
theorem envOk : Go.Ev.EnvOk E where
 num f fn hf := by
  have h := noNum
  rw [Array.all_eq_true'] at h
  have := h fn (Array.mem_of_getElem? hf)
  simpa using this
 mixed := Checked.mixed Tryz.checked
 used f hf b w h := by
  have : f = 173 := by
   simp only [E, hooks] at hf
   split at hf
   ·assumption
   ·split at hf <;> simp at hf
  subst this
  exact bld_used b w h
 fresh f hf b w h hsh hfz := by
  have : f = 173 := by
   simp only [E, hooks] at hf
   split at hf
   ·assumption
   ·split at hf <;> simp at hf
  subst this
  exact bld_fresh b w h hsh hfz
 join f hf := by
  have : f = 134 := by
   simp only [E, hooks] at hf
   split at hf
   ·simp at hf
   ·split at hf
    ·assumption
    ·simp at hf
  subst this
  exact fun bk o c xs sep w h1 h2 h3 h4 h5 => joinOk bk o c xs sep w h1 h2 h3 h4 h5
 known f k hf := by
  simp only [E, hooks] at hf
  split at hf
  ·simp at hf
  ·split at hf <;> simp at hf
end Go.Proofs.YtmefachijohnhaaGreatDoor
end

/-! SeGr -/
section
open Go Go.RowKit Go.ChangeShapes Go.WideShapes Go.ChangeAt
namespace Go.Proofs.YtmefachijohnhaaGreatDoor
set_option maxRecDepth 100000
section
variable {H : Type} {enc : TypeId × Value → H} {P : Program} {w : World} {base : Nat} {spare : Nat → Bool} {held : Bool}
theorem arr_ints {t e : TypeId} {n : Nat} {k : IntKind} {fuel : Nat} {cs : List Value} {zs : List Int} {ps : List MemPlace} (ht : P.underlying t = some (.array n e)) (he : P.underlying e = some (.int k)) (hc : P.cellsOf e = 1) (hct : P.cellsOf t = n) (hz : zs.length = n)
  (h : DataW.trod enc P w base spare held fuel t cs = some (.agg (zs.map fun z => .lit (.int k z)), ps)) : cs = zs.map (Value.int k) := by
 obtain ⟨xs, m, rfl, hx, hlen, hn, hel⟩ := DataW.trod_array ht h
 simp only [Prod.mk.injEq, DataW.agg.injEq] at hx
 obtain ⟨hx, _⟩ := hx
 apply List.ext_getElem?
 intro i
 by_cases hi : i < n
 ·have hxi : xs[i]? = some xs[i] := List.getElem?_eq_getElem (by omega)
  have h1 := hel i hi
  rw [hc, Nat.mul_one, hxi] at h1
  obtain ⟨z, hcell, hy, _⟩ := DataW.trod_int he h1
  have e1 : (zs.map fun z => (DataW.lit (.int k z) : DataW H))[i]? = (xs.map (·.1))[i]? := by rw [hx]
  rw [List.getElem?_map, List.getElem?_map, hxi, hy] at e1
  have hzi : zs[i]? = some zs[i] := List.getElem?_eq_getElem (by omega)
  rw [hzi] at e1
  simp only [Option.map_some, Option.some.injEq, DataW.lit.injEq, Lit.int.injEq, true_and] at e1
  rw [List.getElem?_map, hzi, Option.map_some, e1]
  have e2 : ((cs.drop i).take 1)[0]? = some (.int k z) := by rw [hcell]; rfl
  rw [List.getElem?_take, if_pos (by omega), List.getElem?_drop] at e2
  simpa using e2
 ·rw [List.getElem?_eq_none (by omega), List.getElem?_eq_none (by simp; omega)]
end
theorem gPow : Tryz.prog.globalNamed "internal/strconv.uint64pow10" = some 1 := by kernel_rfl
def laidL : List (String × DataW Unit) := [("math/bits.deBruijn32tab", Rows.laid_math_bits_deBruijn32tab), ("math/bits.deBruijn64tab", Rows.laid_math_bits_deBruijn64tab), ("internal/strconv.uint64pow10", Rows.laid_internal_strconv_uint64pow10)]
theorem cells_of_var {P : Program} {w : World} {name : String} {g : Nat} {cs : Array Value} (hg : P.globalNamed name = some g) (hv : w.var? P name = some cs) : ∃ t fz, w.heap[g]? = some (.cells cs t fz) := by
 unfold World.var? at hv
 rw [hg] at hv
 simp only [Option.bind_some] at hv
 split at hv
 ·rename_i cs' t fz hc
  simp only [Option.some.injEq] at hv
  subst hv
  exact ⟨t, fz, hc⟩
 ·simp at hv
theorem tables {W : World} {base : Nat} (hbase : 2 ≤ base) (h : laidMetH Tryz.prog laidL W) : Go.Ev.GR E.gl base W := by
 rw [MakeChecks.laidMetH_plain _ _ _ (by kernel_rfl)] at h
 obtain ⟨ps, ⟨_, _, _, _, _, _, _, _, _, _, ⟨_, _, _, _, _, _, _, _, _, _, ⟨gP, tP, csP, fP, pP, qP, hgP, htP, hvP, hdP, _⟩, _⟩, _⟩, _⟩ := h
 obtain rfl := Option.some.inj (gPow.symm.trans hgP)
 obtain rfl := Option.some.inj ((show (Tryz.prog.globals[1]?).map (·.type) = some 276 by kernel_rfl).symm.trans htP)
 obtain ⟨uP, zP, kP⟩ := cells_of_var hgP hvP
 have eP : csP.toList = tabPow := arr_ints (n := 20) (k := .u64) (e := 256) (zs := (List.range 20).map fun i => ((10 ^ i : Nat) : Int)) (by kernel_rfl) (by kernel_rfl) (by kernel_rfl) (by kernel_rfl) (by kernel_rfl) hdP
 intro g cs hl
 have hcase : g = 1 ∧ cs = tabPow := by
  have hl' : (if Nat.beq 1 g then some tabPow else none) = some cs := hl
  split at hl'
  ·rename_i hb; exact ⟨(Nat.eq_of_beq_eq_true hb).symm, by simpa using hl'.symm⟩
  ·simp at hl'
 obtain ⟨rfl, rfl⟩ := hcase
 exact ⟨by omega, csP, uP, zP, kP, eP⟩
end Go.Proofs.YtmefachijohnhaaGreatDoor
end

/-! SeRd -/
section
open Go Go.Ev Go.RowKit Go.ChangeShapes Go.WideShapes
namespace Go.Proofs.YtmefachijohnhaaGreatDoor
set_option maxRecDepth 100000
theorem met_tables {W : World} (hL : laidMetH Tryz.prog laidL W) : 2 ≤ W.heap.size ∧ GR E.gl W.heap.size W := by
 have hblk : ∃ c ty fz, W.heap[1]? = some (.cells c ty fz) := by
  obtain ⟨_, c, t, fz, h, _⟩ := tables (base := 2) (Nat.le_refl _) hL 1 tabPow rfl
  exact ⟨c, t, fz, h⟩
 have hsz : 2 ≤ W.heap.size := by
  obtain ⟨c, t, fz, h⟩ := hblk
  have := (Array.getElem?_eq_some_iff.1 h).1
  omega
 exact ⟨hsz, tables hsz hL⟩
def m0 (F : List (Nat × List Value)) : M := { n := 0, ρ := fun _ => 0, κ := fun _ => 0, lo := 0, F := F }
theorem hr0 (W : World) {F : List (Nat × List Value)} (hF : AtRest W F) : HR (m0 F) W.heap.size 0 [] W :=
 ⟨rfl, Nat.le_refl _, Nat.le_refl _, fun b a hb => by simp at hb, fun b _ hb => by simp at hb, fun b b' hb => by simp at hb, Nat.le_refl _, fun p hp => ⟨hF p hp, fun b a _ hb => by simp at hb⟩⟩
theorem c3_ : Tryz.prog.cellsOf 3 = 1 := by kernel_rfl
theorem agg_of {W : World} {b t : Nat} {fs : Array Field} {v : Value} (hu : Tryz.prog.underlying t = some (.struct fs)) (h : Value.okWide Tryz.prog W .any b t v) : ∃ cs, v = .agg cs := by
 simp only [Value.okWide, hu] at h
 obtain ⟨cs, h1, _⟩ := h
 exact ⟨cs, h1⟩
theorem trod_fields {H : Type} {enc : TypeId × Value → H} {P : Program} {W : World} {t : TypeId} {fuel : Nat} {held : Bool} {base : Nat} {sp : Nat → Bool} {cs : List Value} {x : DataW H × List MemPlace} {fs : Array Field} (ht : P.underlying t = some (.struct fs)) (fl : List (Nat × Nat)) (hfs : fs.toList.map (fun f => (f.type, f.offset)) = fl)
  (h : DataW.trod enc P W base sp held fuel t cs = some x) : cs.length = P.cellsOf t ∧ ∃ m, ∀ (i : Nat) (p : Nat × Nat), fl[i]? = some p → ∃ y, DataW.trod enc P W base sp held m p.1 ((cs.drop p.2).take (P.cellsOf p.1)) = some y := by
 obtain ⟨xs, m, rfl, _, hlen, hn, hel⟩ := DataW.trod_struct ht h
 refine ⟨hlen, m, fun i p hp => ?_⟩
 rw [← hfs, List.getElem?_map] at hp
 obtain ⟨f, hf, e⟩ := Option.map_eq_some_iff.1 hp
 have hf' : fs[i]? = some f := by simpa using hf
 have hi : i < fs.size := (Array.getElem?_eq_some_iff.1 hf').1
 have h1 := hel i f hf'
 rw [List.getElem?_eq_getElem (by omega)] at h1
 subst e
 exact ⟨_, h1⟩
end Go.Proofs.YtmefachijohnhaaGreatDoor
end

/-! SeRdO -/
section
open Go Go.Ev Go.RowKit Go.ChangeShapes Go.WideShapes
namespace Go.Proofs.YtmefachijohnhaaGreatDoor
set_option maxRecDepth 100000
theorem rd_cat {W : World} {c1 c2 : List Value} {Q1 Q2 Q : List DT → Prop} (h1 : Rd W c1 Q1) (h2 : Rd W c2 Q2) (hQ : ∀ a b, Q1 a → Q2 b → Q (a ++ b)) : Rd W (c1 ++ c2) Q := by
 obtain ⟨F, a, f1, r1, l1, q1⟩ := h1
 obtain ⟨G, b, f2, r2, l2, q2⟩ := h2
 exact ⟨F ++ G, a ++ b, f1.app f2, Rl_append r1 l1 r2, by simp [l1, l2], hQ a b q1 q2⟩
theorem v9 : Tryz.prog.underlying 9 = some .string := by kernel_rfl
theorem v4 : Tryz.prog.underlying 4 = some .bool := by kernel_rfl
theorem sl_of {H : Type} {enc : TypeId × Value → H} {W : World} {t e : Nat} {fuel : Nat} {held : Bool} {cs : List Value} {x : DataW H × List MemPlace} (ht : Tryz.prog.underlying t = some (.slice e)) (h : DataW.trod enc Tryz.prog W 0 (fun _ => true) held fuel t cs = some x) : ∃ a len cap, cs = [.slice a len cap] := by
 rcases DataW.trod_slice ht h with ⟨e, _⟩ | ⟨a, len, cap, _, _, _, _, e, _⟩
 ·exact ⟨_, _, _, e⟩
 ·exact ⟨_, _, _, e⟩
section
variable {H : Type} {enc : TypeId × Value → H} {W : World} {fuel : Nat} {held : Bool} {cs : List Value} {x : DataW H × List MemPlace}
theorem rd_i (h : DataW.trod enc Tryz.prog W 0 (fun _ => true) held fuel 3 cs = some x) : Rd W cs fun ds => ∃ z : Int, ds = [.v (.int .i64 z)] := by
 obtain ⟨F, ds, h1, h2, h3, z, _, h5⟩ := rd_int u3_ h
 exact ⟨F, ds, h1, h2, h3, z, h5⟩
theorem rd_b (h : DataW.trod enc Tryz.prog W 0 (fun _ => true) held fuel 4 cs = some x) : Rd W cs fun ds => ∃ b : Bool, ds = [.v (.bool b)] := rd_bool v4 h
end
end Go.Proofs.YtmefachijohnhaaGreatDoor
end

/-! SeRdB -/
section
open Go Go.Ev Go.RowKit Go.ChangeShapes Go.WideShapes
namespace Go.Proofs.YtmefachijohnhaaGreatDoor
set_option maxRecDepth 100000
theorem v164 : Tryz.prog.underlying 164 = some (.array 7 4) := by kernel_rfl
theorem v82 : Tryz.prog.underlying 82 = some (.array 2 3) := by kernel_rfl
theorem v81 : Tryz.prog.underlying 81 = some (.slice 168) := by kernel_rfl
theorem v168 : Tryz.prog.underlying 168 = some (.struct (Tryz.prog.fieldsOf 168)) := by kernel_rfl
theorem v166 : Tryz.prog.underlying 166 = some (.struct (Tryz.prog.fieldsOf 166)) := by kernel_rfl
theorem c4_ : Tryz.prog.cellsOf 4 = 1 := by kernel_rfl
section
variable {H : Type} {enc : TypeId × Value → H} {W : World} {fuel : Nat} {held : Bool} {cs : List Value} {x : DataW H × List MemPlace}
def isB (ds : List DT) : Prop := ∃ b : Bool, ds = [.v (.bool b)]
theorem rd_days (h : DataW.trod enc Tryz.prog W 0 (fun _ => true) held fuel 164 cs = some x) : Rd W cs fun ds => ∃ a b c d e f g : Bool, ds = [.v (.bool a), .v (.bool b), .v (.bool c), .v (.bool d), .v (.bool e), .v (.bool f), .v (.bool g)] := by
 obtain ⟨xs, m, rfl, _, hlen, hn, hel⟩ := DataW.trod_array v164 h
 rw [show Tryz.prog.cellsOf 164 = 7 by kernel_rfl] at hlen
 rw [c4_] at hel
 match cs, hlen with
 | [a, b, c, d, e, f, g], _ =>
  have one : ∀ i (hi : i < 7) y, (([a, b, c, d, e, f, g] : List Value).drop (i * 1)).take 1 = [y] → Rd W [y] fun ds => ∃ b : Bool, ds = [.v (.bool b)] := fun i hi y hy => by
   have h1 := hel i hi
   rw [hy, List.getElem?_eq_getElem (by omega)] at h1
   exact rd_b h1
  exact rd_cat (c1 := [a]) (one 0 (by omega) a rfl) (rd_cat (c1 := [b]) (one 1 (by omega) b rfl) (rd_cat (c1 := [c]) (one 2 (by omega) c rfl) (rd_cat (c1 := [d]) (one 3 (by omega) d rfl) (rd_cat (c1 := [e]) (one 4 (by omega) e rfl) (rd_cat (c1 := [f]) (one 5 (by omega) f rfl) (one 6 (by omega) g rfl)
   (Q := fun ds => ∃ f g : Bool, ds = [.v (.bool f), .v (.bool g)]) (by rintro _ _ ⟨f, rfl⟩ ⟨g, rfl⟩; exact ⟨f, g, rfl⟩))
   (Q := fun ds => ∃ e f g : Bool, ds = [.v (.bool e), .v (.bool f), .v (.bool g)]) (by rintro _ _ ⟨e, rfl⟩ ⟨f, g, rfl⟩; exact ⟨e, f, g, rfl⟩))
   (Q := fun ds => ∃ d e f g : Bool, ds = [.v (.bool d), .v (.bool e), .v (.bool f), .v (.bool g)]) (by rintro _ _ ⟨d, rfl⟩ ⟨e, f, g, rfl⟩; exact ⟨d, e, f, g, rfl⟩))
   (Q := fun ds => ∃ c d e f g : Bool, ds = [.v (.bool c), .v (.bool d), .v (.bool e), .v (.bool f), .v (.bool g)]) (by rintro _ _ ⟨c, rfl⟩ ⟨d, e, f, g, rfl⟩; exact ⟨c, d, e, f, g, rfl⟩))
   (Q := fun ds => ∃ b c d e f g : Bool, ds = [.v (.bool b), .v (.bool c), .v (.bool d), .v (.bool e), .v (.bool f), .v (.bool g)]) (by rintro _ _ ⟨b, rfl⟩ ⟨c, d, e, f, g, rfl⟩; exact ⟨b, c, d, e, f, g, rfl⟩))
   (by rintro _ _ ⟨a, rfl⟩ ⟨b, c, d, e, f, g, rfl⟩; exact ⟨a, b, c, d, e, f, g, rfl⟩)
theorem rd_i2 (h : DataW.trod enc Tryz.prog W 0 (fun _ => true) held fuel 82 cs = some x) : ∃ t c : Int, cs = [.int .i64 t, .int .i64 c] := by
 obtain ⟨xs, m, rfl, _, hlen, hn, hel⟩ := DataW.trod_array v82 h
 rw [show Tryz.prog.cellsOf 82 = 2 by kernel_rfl] at hlen
 rw [c3_] at hel
 match cs, hlen with
 | [a, b], _ =>
  have h0 := hel 0 (by omega)
  have h1 := hel 1 (by omega)
  rw [List.getElem?_eq_getElem (by omega)] at h0 h1
  obtain ⟨t, ht, _⟩ := DataW.trod_int u3_ h0
  obtain ⟨c, hc, _⟩ := DataW.trod_int u3_ h1
  have ht : a = .int .i64 t := by simpa using ht
  have hc : b = .int .i64 c := by simpa using hc
  exact ⟨t, c, by rw [ht, hc]⟩
theorem rd_span (h : DataW.trod enc Tryz.prog W 0 (fun _ => true) held fuel 166 cs = some x) : Rd W cs fun ds => ∃ f l : Int, ds = [.v (.int .i64 f), .v (.int .i64 l)] := by
 obtain ⟨hlen, m, fld⟩ := trod_fields v166 [(3, 0), (3, 1)] (by kernel_rfl) h
 rw [show Tryz.prog.cellsOf 166 = 2 by kernel_rfl] at hlen
 match cs, hlen with
 | [a, b], _ =>
  obtain ⟨_, h0⟩ := fld 0 _ rfl
  obtain ⟨_, h1⟩ := fld 1 _ rfl
  simp only [c3_] at h0 h1
  exact rd_cat (c1 := [a]) (rd_i h0) (rd_i h1) (by
   rintro _ _ ⟨f, rfl⟩ ⟨l, rfl⟩
   exact ⟨f, l, rfl⟩)
theorem rd_hr (h : DataW.trod enc Tryz.prog W 0 (fun _ => true) held fuel 168 cs = some x) : Rd W cs fun ds => ∃ q : Hr, ds = q.d := by
 obtain ⟨hlen, m, fld⟩ := trod_fields v168 [(164, 0), (166, 7)] (by kernel_rfl) h
 rw [show Tryz.prog.cellsOf 168 = 9 by kernel_rfl] at hlen
 match cs, hlen with
 | [a, b, c, d, e, f, g, p, q], _ =>
  obtain ⟨_, h0⟩ := fld 0 _ rfl
  obtain ⟨_, h1⟩ := fld 1 _ rfl
  simp only [show Tryz.prog.cellsOf 164 = 7 by kernel_rfl, show Tryz.prog.cellsOf 166 = 2 by kernel_rfl] at h0 h1
  exact rd_cat (c1 := [a, b, c, d, e, f, g]) (rd_days h0) (rd_span h1) (by
   rintro _ _ ⟨a, b, c, d, e, f, g, rfl⟩ ⟨p, q, rfl⟩
   exact ⟨⟨a, b, c, d, e, f, g, p, q⟩, rfl⟩)
theorem hrs_flatten : ∀ {rows : List (List DT)}, (∀ r ∈ rows, r.length = 9 ∧ ∃ f : Hr, r = f.d) → ∃ l : List Hr, l.length = rows.length ∧ rows.flatten = hrD l
 | [], _ => ⟨[], rfl, rfl⟩
 | r :: rows, h => by
  obtain ⟨l, h1, h2⟩ := hrs_flatten (fun s hs => h s (List.mem_cons_of_mem _ hs))
  obtain ⟨_, f, rfl⟩ := h r (List.mem_cons_self ..)
  exact ⟨f :: l, by simp [h1], by rw [List.flatten_cons, h2]; rfl⟩
theorem rd_hrs (h : DataW.trod enc Tryz.prog W 0 (fun _ => true) held fuel 81 cs = some x) : Rd W cs fun ds => ∃ l : List Hr, l.length ≤ maxLen ∧ ds = [.s (hrD l) l.length 9] := by
 obtain ⟨F, ds, h1, h2, h3, rows, h4, h5, h6⟩ := rd_slice (Q := fun ds => ∃ f : Hr, ds = f.d) v81 (by kernel_rfl : Tryz.prog.cellsOf 168 = 9) (by omega) (fun {_ _ _} hh => rd_hr hh) (sl_of v81 h) h
 obtain ⟨l, k1, k2⟩ := hrs_flatten h5
 exact ⟨F, ds, h1, h2, h3, l, by omega, by rw [h6, k2, k1]⟩
end
end Go.Proofs.YtmefachijohnhaaGreatDoor
end

/-! SeRdA -/
section
open Go Go.Ev Go.RowKit Go.ChangeShapes Go.WideShapes
namespace Go.Proofs.YtmefachijohnhaaGreatDoor
set_option maxRecDepth 100000
set_option maxHeartbeats 20000000
theorem v26 : Tryz.prog.underlying 26 = some (.struct (Tryz.prog.fieldsOf 26)) := by kernel_rfl
theorem v24 : Tryz.prog.underlying 24 = some (.slice 3) := by kernel_rfl
theorem len22 {l : List Value} (h : l.length = 22) : ∃ c0 c1 c2 c3 c4 c5 c6 c7 c8 c9 c10 c11 c12 c13 c14 c15 c16 c17 c18 c19 c20 c21, l = [c0, c1, c2, c3, c4, c5, c6, c7, c8, c9, c10, c11, c12, c13, c14, c15, c16, c17, c18, c19, c20, c21] := by
 match l, h with
 | [c0, c1, c2, c3, c4, c5, c6, c7, c8, c9, c10, c11, c12, c13, c14, c15, c16, c17, c18, c19, c20, c21], _ => exact ⟨c0, c1, c2, c3, c4, c5, c6, c7, c8, c9, c10, c11, c12, c13, c14, c15, c16, c17, c18, c19, c20, c21, rfl⟩
theorem len8i {l : List Int} (h : l.length = 8) : ∃ kk0 kk1 kk2 kk3 kk4 kk5 kk6 kk7, l = [kk0, kk1, kk2, kk3, kk4, kk5, kk6, kk7] := by
 match l, h with
 | [kk0, kk1, kk2, kk3, kk4, kk5, kk6, kk7], _ => exact ⟨kk0, kk1, kk2, kk3, kk4, kk5, kk6, kk7, rfl⟩
theorem read_bytes {H : Type} {enc : TypeId × Value → H} {P : Program} {W : World} {t e n : Nat} {fuel : Nat} {held : Bool} {base : Nat} {sp : Nat → Bool} {cs : List Value} {x : DataW H × List MemPlace} (ht : P.underlying t = some (.array n e)) (he : P.underlying e = some (.int .u8)) (hc : P.cellsOf e = 1) (hct : P.cellsOf t = n)
  (h : DataW.trod enc P W base sp held fuel t cs = some x) : ∃ l : List Int, l.length = n ∧ cs = l.map (.int .u8) ∧ ∀ b ∈ l, 0 ≤ b ∧ b < 256 := by
 obtain ⟨xs, m, rfl, _, hlen, hn, hel⟩ := DataW.trod_array ht h
 rw [hct] at hlen
 have one : ∀ i, i < n → ∃ b : Int, cs[i]? = some (.int .u8 b) ∧ 0 ≤ b ∧ b < 256 := fun i hi => by
  have h1 := hel i (by omega)
  rw [hc, Nat.mul_one, List.getElem?_eq_getElem (by omega)] at h1
  obtain ⟨b, hcell, _, hw⟩ := DataW.trod_int he h1
  have e2 : ((cs.drop i).take 1)[0]? = some (.int .u8 b) := by rw [hcell]; rfl
  rw [List.getElem?_take, if_pos (by omega), List.getElem?_drop] at e2
  have hw' : decide (IntKind.u8.min ≤ b) && decide (b ≤ IntKind.u8.max) := hw
  rw [Bool.and_eq_true, decide_eq_true_eq, decide_eq_true_eq] at hw'
  have e3 : IntKind.u8.min = 0 := by decide
  have e4 : IntKind.u8.max = 255 := by decide
  exact ⟨b, by simpa using e2, by omega, by omega⟩
 have key : ∀ (n : Nat) (cs : List Value), cs.length = n → (∀ i, i < n → ∃ b : Int, cs[i]? = some (.int .u8 b) ∧ 0 ≤ b ∧ b < 256) → ∃ l : List Int, l.length = n ∧ cs = l.map (.int .u8) ∧ ∀ b ∈ l, 0 ≤ b ∧ b < 256 := by
  intro n
  induction n with
  | zero => intro cs hl _; exact ⟨[], rfl, by rw [List.eq_nil_of_length_eq_zero hl]; rfl, by simp⟩
  | succ n ih =>
   intro cs hl hh
   match cs, hl with
   | c :: cs, hl =>
    obtain ⟨b, hb, hr⟩ := hh 0 (by omega)
    obtain ⟨l, h1, h2, h3⟩ := ih cs (by simpa using hl) fun i hi => by have := hh (i + 1) (by omega); simpa using this
    refine ⟨b :: l, by simp [h1], ?_, fun a ha => ?_⟩
    ·have : c = .int .u8 b := by simpa using hb
     rw [this, h2]; rfl
    ·rcases List.mem_cons.1 ha with rfl | ha
     ·exact hr
     ·exact h3 a ha
 exact key n cs hlen one
theorem rd_account {H : Type} {enc : TypeId × Value → H} {W : World} {fuel : Nat} {held : Bool} {cs : List Value} {x : DataW H × List MemPlace} (h : DataW.trod enc Tryz.prog W 0 (fun _ => true) held fuel 26 cs = some x) :
  ∃ (F : List (Nat × List Value)) (us : List Int) (y : Value) (c : Bool) (b d s e kk0 kk1 kk2 kk3 kk4 kk5 kk6 kk7 mm0 mm1 mm2 mm3 mm4 mm5 mm6 mm7 : Int), AtRest W F ∧ DT.R F (.s (iD us) us.length 1) y ∧ cs = [.int .i64 b, .int .i64 d, .int .i64 s, .int .i64 e, .int .u8 kk0, .int .u8 kk1, .int .u8 kk2, .int .u8 kk3, .int .u8 kk4, .int .u8 kk5, .int .u8 kk6, .int .u8 kk7, .int .u8 mm0, .int .u8 mm1, .int .u8 mm2, .int .u8 mm3, .int .u8 mm4, .int .u8 mm5, .int .u8 mm6, .int .u8 mm7, .bool c, y] := by
 obtain ⟨hlen, m, fld⟩ := trod_fields v26 [(3, 0), (3, 1), (3, 2), (3, 3), (23, 4), (23, 12), (4, 20), (24, 21)] (by kernel_rfl) h
 rw [show Tryz.prog.cellsOf 26 = 22 by kernel_rfl] at hlen
 obtain ⟨c0, c1, c2, c3, c4, c5, c6, c7, c8, c9, c10, c11, c12, c13, c14, c15, c16, c17, c18, c19, c20, c21, rfl⟩ := len22 hlen
 have one : ∀ (i o : Nat) (z : Value), [(3, 0), (3, 1), (3, 2), (3, 3), (23, 4), (23, 12), (4, 20), (24, 21)][i]? = some ((3 : Nat), o) → ([c0, c1, c2, c3, c4, c5, c6, c7, c8, c9, c10, c11, c12, c13, c14, c15, c16, c17, c18, c19, c20, c21].drop o).take 1 = [z] → ∃ r : Int, z = .int .i64 r := by
  intro i o z hi hz
  obtain ⟨y, hy⟩ := fld i _ hi
  have hy : DataW.trod enc Tryz.prog W 0 (fun _ => true) held m 3 (([c0, c1, c2, c3, c4, c5, c6, c7, c8, c9, c10, c11, c12, c13, c14, c15, c16, c17, c18, c19, c20, c21].drop o).take (Tryz.prog.cellsOf 3)) = some y := hy
  rw [c3_, hz] at hy
  obtain ⟨r, hr, _⟩ := DataW.trod_int u3_ hy
  exact ⟨r, by simpa using hr⟩
 obtain ⟨b, rfl⟩ := one 0 0 c0 rfl rfl
 obtain ⟨d, rfl⟩ := one 1 1 c1 rfl rfl
 obtain ⟨s, rfl⟩ := one 2 2 c2 rfl rfl
 obtain ⟨e, rfl⟩ := one 3 3 c3 rfl rfl
 obtain ⟨y4, h4⟩ := fld 4 _ rfl
 obtain ⟨y5, h5⟩ := fld 5 _ rfl
 obtain ⟨y6, h6⟩ := fld 6 _ rfl
 obtain ⟨y7, h7⟩ := fld 7 _ rfl
 obtain ⟨lk, hk, ek, _⟩ := read_bytes (n := 8) u23_ u5_ (by kernel_rfl) (by kernel_rfl) h4
 obtain ⟨lm, hm, em, _⟩ := read_bytes (n := 8) u23_ u5_ (by kernel_rfl) (by kernel_rfl) h5
 obtain ⟨kk0, kk1, kk2, kk3, kk4, kk5, kk6, kk7, rfl⟩ := len8i hk
 obtain ⟨mm0, mm1, mm2, mm3, mm4, mm5, mm6, mm7, rfl⟩ := len8i hm
 have ek : [c4, c5, c6, c7, c8, c9, c10, c11] = [Value.int .u8 kk0, Value.int .u8 kk1, Value.int .u8 kk2, Value.int .u8 kk3, Value.int .u8 kk4, Value.int .u8 kk5, Value.int .u8 kk6, Value.int .u8 kk7] := ek
 have em : [c12, c13, c14, c15, c16, c17, c18, c19] = [Value.int .u8 mm0, Value.int .u8 mm1, Value.int .u8 mm2, Value.int .u8 mm3, Value.int .u8 mm4, Value.int .u8 mm5, Value.int .u8 mm6, Value.int .u8 mm7] := em
 simp only [List.cons.injEq, and_true] at ek em
 obtain ⟨rfl, rfl, rfl, rfl, rfl, rfl, rfl, rfl⟩ := ek
 obtain ⟨rfl, rfl, rfl, rfl, rfl, rfl, rfl, rfl⟩ := em
 obtain ⟨c, hc, _⟩ := DataW.trod_bool v4 h6
 have hc : [c20] = [Value.bool c] := hc
 obtain rfl := (List.cons.inj hc).1
 have h7 : DataW.trod enc Tryz.prog W 0 (fun _ => true) held m 24 [c21] = some y7 := h7
 have hsl : ∃ a len cap, [c21] = [Value.slice a len cap] := by
  rcases DataW.trod_slice v24 h7 with ⟨e, _⟩ | ⟨a, len, cap, _, _, _, _, e, _⟩
  ·exact ⟨_, _, _, e⟩
  ·exact ⟨_, _, _, e⟩
 obtain ⟨F, ds, g1, g2, _, us, _, _, rfl⟩ := rd_ints v24 u3_ c3_ hsl h7
 simp only [DT.Rl] at g2
 obtain ⟨y, rest, e', hy, _⟩ := g2
 have ey : c21 = y := (List.cons.inj e').1
 exact ⟨F, us, c21, c, b, d, s, e, kk0, kk1, kk2, kk3, kk4, kk5, kk6, kk7, mm0, mm1, mm2, mm3, mm4, mm5, mm6, mm7, g1, by rw [ey]; exact hy, rfl⟩
end Go.Proofs.YtmefachijohnhaaGreatDoor
end

/-! SeLaw -/
section
open Go Go.RowKit Go.ChangeShapes Go.WideShapes Go.ChangeAt Go.WideMaps Go.WideElems
namespace Go.Proofs.YtmefachijohnhaaGreatDoor
set_option maxRecDepth 100000
section
variable {H : Type} {enc : TypeId × Value → H} {P : Program}
theorem post_of_below {f : Func} {s : ChangeSpec} {apart fresh handsOn again : Bool} {W W' : World} {args : Array Value} {v : Value} {ds gs : List (DataW H)} {before pa pv : List MemPlace}
  (hW : DataW.Whole enc P f.params.toList s.vars apart W args.toList ds gs before)
  (hres : ∀ (b : Nat) (sp : Nat → Bool) (hd : Bool), DataW.TrodAll enc P W' b sp hd f.resultTypes.toList (v.resultList f.resultTypes.size) (s.fn H (ds ++ gs)).results [])
  (hargs : ∀ sp : Nat → Bool, (∀ p ∈ before, sp p.block = true) → DataW.TrodAll enc P W' 0 sp true f.params.toList args.toList (s.fn H (ds ++ gs)).args pa)
  (hvars : ∀ sp : Nat → Bool, (∀ p ∈ before, sp p.block = true) → DataW.TrodVars enc P W' sp s.vars (s.fn H (ds ++ gs)).vars pv)
  (hps : before = pa ++ pv) (hb : Below W.heap.size W W')
  (hok : ∀ (j : Nat) (t : TypeId) (r : Value), f.resultTypes[j]? = some t → (v.resultList f.resultTypes.size)[j]? = some r → Value.okWide P W' .any 0 t r) :
  s.post enc P f apart fresh handsOn again W args v W' := by
 have hlt : ∀ p ∈ before, p.block < W.heap.size := fun p hp => hW.lt p hp
 have hold : ∀ p ∈ before, (fun b => decide (b < W.heap.size)) p.block = true := fun p hp => by simpa using hlt p hp
 refine ⟨ds, gs, before, [], pa, pv, hW, hres _ _ _, hargs _ hold, hvars _ hold, World.keptBut_mono (fun p hp => ⟨hp, ?_⟩) (hb.frame (· ∈ before)), fun _ => ?_⟩
 ·rw [hps, List.mem_append] at hp
  exact Or.inr hp
 ·obtain ⟨_, _, _, _, _, hz, hn⟩ := hW
  refine ⟨hok, _, _, ([] ++ pa) ++ pv, ⟨[] ++ pa, pv, trodAll_append (hargs _ (fun _ _ => rfl)) (hres _ _ _), hvars _ (fun _ _ => rfl), rfl, ?_, ?_⟩, ?_⟩
  ·intro b off hp
   have hin : MemPlace.cell b off ∈ before := by rw [hps]; simpa using hp
   rw [hb.frozen (hlt _ hin)]
   exact hz b off hin
  ·intro ha
   have := hn ha
   rw [hps] at this
   simpa using this
  ·intro p hp _
   rw [hps]
   simpa using hp
end
theorem own : ownKnob Tryz.prog.godebug = none := by kernel_rfl
theorem laidOut : laidOutB Tryz.prog = true := by kernel_rfl
theorem u4 : Tryz.prog.underlying 4 = some .bool := by kernel_rfl
theorem door_met (os : Os) (args : Array Value) : laidMetH Tryz.prog laidL ((World.doorLaid Tryz.prog 400 os).forCall (fun _ _ => 0) ⟨#[], args, []⟩).memory :=
 laidMetH_of_parts3 (fuel := 8) (laidMet_of_run' 8 (by kernel_rfl) (by kernel_rfl)) (by kernel_rfl) (by kernel_rfl)
end Go.Proofs.YtmefachijohnhaaGreatDoor
end
