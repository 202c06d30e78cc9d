/-
  Part of the proof: SeJn, SeBld, SeGr, SeRd, SeNm, SeNa, SeWa, SeWb, SeWd, SeOd, SeRdO, SeOa, SeOb, SeOc, SeOe, SeHr, SeRdB, SeRdA, SeLaw.
-/
import Derived.Test.YtneaafigbnjceaaGreatDoorSeAw
import Derived.Below
import Derived.Carry
import Derived.ChangeArms
import Derived.ChangeSame
import Derived.Eval
import Derived.KernelRfl
import Derived.LaidMore
import Derived.Laws.Externs
import Derived.Lib.Builder
import Derived.Lib.Walk
import Derived.MakeChecks
import Derived.OpenShut
import Derived.ProofKit
import Derived.Room.Shelf.Join48
import Derived.Shelf.Strings.OnBuilder
import Derived.Stop.Joined
import Derived.Test.YtneaafigbnjceaaGreatDoorChecked
import Derived.Test.YtneaafigbnjceaaGreatDoorProg
import Derived.Test.YtneaafigbnjceaaGreatDoorRows
import Derived.WalkKit

/-! SeJn -/
section
open Go Go.Shelf Go.Ev Go.RowKit Go.Proofs
namespace Go.Proofs.YtneaafigbnjceaaGreatDoor
set_option maxRecDepth 100000
def laysJ_ren : Go.Shelf.Ren := ⟨fun | 156 => 84 | 165 => 111 | 166 => 112 | 169 => 113 | 240 => 131 | 241 => 132 | 276 => 147 | 277 => 148 | n => n, fun | 31 => 96 | 9 => 9 | 3 => 3 | 4 => 4 | 0 => 0 | 20 => 20 | 72 => 185 | 76 => 189 | 70 => 183 | 37 => 93 | 75 => 188 | 127 => 203 | 164 => 219 | 5 => 5 | 80 => 191 | n => n, fun | n => n⟩
theorem laysJ : Go.Proofs.Lays.n156 Tryz.prog laysJ_ren := {
 mixed := by kernel_rfl
 f156 := Tryz.func84.trans (congrArg some (by kernel_rfl))
 f165 := Tryz.func111.trans (congrArg some (by kernel_rfl))
 f166 := Tryz.func112.trans (congrArg some (by kernel_rfl))
 f169 := Tryz.func113.trans (congrArg some (by kernel_rfl))
 f240 := Tryz.func131.trans (congrArg some (by kernel_rfl))
 f241 := Tryz.func132.trans (congrArg some (by kernel_rfl))
 f276 := Tryz.func147.trans (congrArg some (by kernel_rfl))
 f277 := Tryz.func148.trans (congrArg some (by kernel_rfl))
 t0 := Tryz.underlying0
 a0 := Tryz.isAgg0
 z0 := Tryz.sizeOf0
 v0 := Tryz.zeroValue0
 t3 := Tryz.underlying3
 a3 := Tryz.isAgg3
 z3 := Tryz.sizeOf3
 v3 := Tryz.zeroValue3
 t4 := Tryz.underlying4
 a4 := Tryz.isAgg4
 z4 := Tryz.sizeOf4
 v4 := Tryz.zeroValue4
 t9 := Tryz.underlying9
 a9 := Tryz.isAgg9
 z9 := Tryz.sizeOf9
 v9 := Tryz.zeroValue9
 t20 := Tryz.underlying20
 a20 := Tryz.isAgg20
 z20 := Tryz.sizeOf20
 v20 := Tryz.zeroValue20
 t31 := Tryz.underlying96
 a31 := Tryz.isAgg96
 z31 := Tryz.sizeOf96
 v31 := Tryz.zeroValue96
 t37 := Tryz.underlying93
 a37 := Tryz.isAgg93
 z37 := Tryz.sizeOf93
 v37 := Tryz.zeroValue93
 t70 := Tryz.underlying183
 a70 := Tryz.isAgg183
 z70 := Tryz.sizeOf183
 v70 := Tryz.zeroValue183
 t72 := Tryz.underlying185
 a72 := Tryz.isAgg185
 z72 := Tryz.sizeOf185
 v72 := Tryz.zeroValue185
 t75 := Tryz.underlying188
 a75 := Tryz.isAgg188
 z75 := Tryz.sizeOf188
 v75 := Tryz.zeroValue188
 t76 := Tryz.underlying189
 a76 := Tryz.isAgg189
 z76 := Tryz.sizeOf189
 v76 := Tryz.zeroValue189
 t127 := Tryz.underlying203
 a127 := Tryz.isAgg203
 z127 := Tryz.sizeOf203
 v127 := Tryz.zeroValue203
 t164 := Tryz.underlying219
 a164 := Tryz.isAgg219
 z164 := Tryz.sizeOf219
 v164 := Tryz.zeroValue219 }
theorem extraJ : Builder.Extra Tryz.prog laysJ_ren := {
 sizeBuilder := by kernel_rfl
 liesBuilder := by kernel_rfl
 t5 := Tryz.underlying5
 a5 := Tryz.isAgg5
 z5 := Tryz.sizeOf5
 v5 := Tryz.zeroValue5
 infoByte := by kernel_rfl
 cellsByte := by kernel_rfl
 sizeByte := by kernel_rfl
 neB5 := by decide }
theorem joinL_eq (sep : List UInt8) : ∀ l : List ByteArray, Lib.join (l.map (·.data.toList)) sep = joinL sep l
 | [] => rfl
 | [x] => by simp [Lib.join, List.intercalate, joinL]
 | x :: y :: r => by
  have ih := joinL_eq sep (y :: r)
  have hu : joinL sep (x :: y :: r) = appL x.data.toList (appL sep (joinL sep (y :: r))) := rfl
  rw [hu, ← ih, appL_eq, appL_eq]
  simp [Lib.join, List.intercalate]
theorem joinOk (bk o c : Nat) (xs : List ByteArray) (sep : ByteArray) (w : World) (hcell : ∀ (j : Nat) x, xs[j]? = some x → w.cell? ⟨bk, o + j, none⟩ = some (.string x)) (hbk : bk < w.heap.size) (hN : xs.length ≤ 140737488355328) (hc : xs.length ≤ c)
  (hl : (joinL sep.data.toList xs).length ≤ 281474976710656) :
  Calls Tryz.prog 84 #[.slice (some ⟨bk, o, none⟩) xs.length c, .string sep] w fun e w' => e = .returned (.string ⟨⟨joinL sep.data.toList xs⟩⟩) ∧ Below w.heap.size w w' := by
 have h := Any.strings_Join_48 laysJ extraJ bk o c xs sep w hcell hbk hN hc (by rw [joinL_eq]; exact hl)
 rw [joinL_eq] at h
 exact h
end Go.Proofs.YtneaafigbnjceaaGreatDoor
end

/-! SeBld -/
section
open Go Go.RowKit
namespace Go.Proofs.YtneaafigbnjceaaGreatDoor
set_option maxRecDepth 100000
theorem bldSize : (Tryz.prog.info? 185).map (·.size) = some 2 := by kernel_rfl
theorem bldLies : liesAt Tryz.prog Tryz.prog.depth 185 (2 / Tryz.prog.cellsOf 185) 0 185 1 = true := by kernel_rfl
theorem t229 : Tryz.prog.underlying 183 = some (.pointer 185) := by kernel_rfl
theorem t275 : Tryz.prog.underlying 219 = some .unsafePointer := by kernel_rfl
set_option maxHeartbeats 1000000 in
theorem bld_used (b : Nat) (w : World) (h0 : w.cell? ⟨b, 0, none⟩ = some (.pointer (some ⟨b, 0, none⟩))) :
  Calls Tryz.prog 131 #[.pointer (some ⟨b, 0, none⟩)] w fun e w' => e = .returned (.tuple #[]) ∧ w' = w := by
 obtain ⟨j, hj, _⟩ := Option.map_eq_some_iff.1 bldSize
 go_enter Tryz.func131, Tryz.ntmps131
 go_wp2
 rw [Lib.run_neq_ptr_same w _ t229 hj]
 go_wp2
 go_end0
 exact ⟨rfl, rfl⟩
set_option maxHeartbeats 1000000 in
theorem bld_fresh (b : Nat) (w : World) (h0 : w.cell? ⟨b, 0, none⟩ = some (.pointer none)) (hsh : w.shape? b = some (185, 2)) (hfz : w.frozen? ⟨b, 0, none⟩ = false) :
  Calls Tryz.prog 131 #[.pointer (some ⟨b, 0, none⟩)] w fun e w' => e = .returned (.tuple #[]) ∧ w' = w.setCell ⟨b, 0, none⟩ (.pointer (some ⟨b, 0, none⟩)) := by
 obtain ⟨j, hj, hjs⟩ := Option.map_eq_some_iff.1 bldSize
 go_enter Tryz.func131, Tryz.ntmps131
 go_wp2
 rw [Lib.run_to_unsafe w ⟨b, 0, none⟩ t229 t275 hj (by rw [hjs]; decide) hsh (Nat.zero_lt_succ 1)]
 simp only [Result.andThen]
 rw [Oper.upon_value]
 go_wp2
 rw [run_callFunc_extern Tryz.func147 (by kernel_rfl) (by kernel_rfl) (by kernel_rfl) (e := Extern.AbiNoEscape.same) (by kernel_rfl)]
 rw [Lib.run_noEscape]
 simp only [Result.andThen]
 rw [Oper.upon_value]
 go_wp2
 rw [Lib.run_from_unsafe w ⟨b, 0, none⟩ t275 t229 hj hsh bldLies]
 simp only [Result.andThen]
 rw [Oper.upon_value]
 go_wp2
 go_end0
 exact ⟨rfl, rfl⟩
theorem noNum : Tryz.prog.funcs.all (fun fn => !(fn.name == "runtime.NumGoroutine")) = true := by kernel_rfl
theorem envOk : Go.Ev.EnvOk E where
 num f fn hf := by
  have h := noNum
  rw [Array.all_eq_true'] at h
  have := h fn (Array.mem_of_getElem? hf)
  simpa using this
 mixed := Checked.mixed Tryz.checked
 used f hf b w h := by
  have : f = 131 := by
   simp only [E, hooks] at hf
   split at hf
   ·assumption
   ·split at hf <;> simp at hf
  subst this
  exact bld_used b w h
 fresh f hf b w h hsh hfz := by
  have : f = 131 := by
   simp only [E, hooks] at hf
   split at hf
   ·assumption
   ·split at hf <;> simp at hf
  subst this
  exact bld_fresh b w h hsh hfz
 join f hf := by
  have : f = 84 := by
   simp only [E, hooks] at hf
   split at hf
   ·simp at hf
   ·split at hf
    ·assumption
    ·simp at hf
  subst this
  exact fun bk o c xs sep w h1 h2 h3 h4 h5 => joinOk bk o c xs sep w h1 h2 h3 h4 h5
 known f k hf := by
  simp only [E, hooks] at hf
  split at hf
  ·simp at hf
  ·split at hf <;> simp at hf
end Go.Proofs.YtneaafigbnjceaaGreatDoor
end

/-! SeGr -/
section
open Go Go.RowKit Go.ChangeShapes Go.WideShapes Go.ChangeAt
namespace Go.Proofs.YtneaafigbnjceaaGreatDoor
set_option maxRecDepth 100000
section
variable {H : Type} {enc : TypeId × Value → H} {P : Program} {w : World} {base : Nat} {spare : Nat → Bool} {held : Bool}
theorem arr_ints {t e : TypeId} {n : Nat} {k : IntKind} {fuel : Nat} {cs : List Value} {zs : List Int} {ps : List MemPlace} (ht : P.underlying t = some (.array n e)) (he : P.underlying e = some (.int k)) (hc : P.cellsOf e = 1) (hct : P.cellsOf t = n) (hz : zs.length = n)
  (h : DataW.trod enc P w base spare held fuel t cs = some (.agg (zs.map fun z => .lit (.int k z)), ps)) : cs = zs.map (Value.int k) := by
 obtain ⟨xs, m, rfl, hx, hlen, hn, hel⟩ := DataW.trod_array ht h
 simp only [Prod.mk.injEq, DataW.agg.injEq] at hx
 obtain ⟨hx, _⟩ := hx
 apply List.ext_getElem?
 intro i
 by_cases hi : i < n
 ·have hxi : xs[i]? = some xs[i] := List.getElem?_eq_getElem (by omega)
  have h1 := hel i hi
  rw [hc, Nat.mul_one, hxi] at h1
  obtain ⟨z, hcell, hy, _⟩ := DataW.trod_int he h1
  have e1 : (zs.map fun z => (DataW.lit (.int k z) : DataW H))[i]? = (xs.map (·.1))[i]? := by rw [hx]
  rw [List.getElem?_map, List.getElem?_map, hxi, hy] at e1
  have hzi : zs[i]? = some zs[i] := List.getElem?_eq_getElem (by omega)
  rw [hzi] at e1
  simp only [Option.map_some, Option.some.injEq, DataW.lit.injEq, Lit.int.injEq, true_and] at e1
  rw [List.getElem?_map, hzi, Option.map_some, e1]
  have e2 : ((cs.drop i).take 1)[0]? = some (.int k z) := by rw [hcell]; rfl
  rw [List.getElem?_take, if_pos (by omega), List.getElem?_drop] at e2
  simpa using e2
 ·rw [List.getElem?_eq_none (by omega), List.getElem?_eq_none (by simp; omega)]
end
theorem gPow : Tryz.prog.globalNamed "internal/strconv.uint64pow10" = some 1 := by kernel_rfl
def laidL : List (String × DataW Unit) := [("math/bits.deBruijn32tab", Rows.laid_math_bits_deBruijn32tab), ("math/bits.deBruijn64tab", Rows.laid_math_bits_deBruijn64tab), ("internal/strconv.uint64pow10", Rows.laid_internal_strconv_uint64pow10)]
theorem cells_of_var {P : Program} {w : World} {name : String} {g : Nat} {cs : Array Value} (hg : P.globalNamed name = some g) (hv : w.var? P name = some cs) : ∃ t fz, w.heap[g]? = some (.cells cs t fz) := by
 unfold World.var? at hv
 rw [hg] at hv
 simp only [Option.bind_some] at hv
 split at hv
 ·rename_i cs' t fz hc
  simp only [Option.some.injEq] at hv
  subst hv
  exact ⟨t, fz, hc⟩
 ·simp at hv
theorem tables {W : World} {base : Nat} (hbase : 2 ≤ base) (h : laidMetH Tryz.prog laidL W) : Go.Ev.GR E.gl base W := by
 rw [MakeChecks.laidMetH_plain _ _ _ (by kernel_rfl)] at h
 obtain ⟨ps, ⟨_, _, _, _, _, _, _, _, _, _, ⟨_, _, _, _, _, _, _, _, _, _, ⟨gP, tP, csP, fP, pP, qP, hgP, htP, hvP, hdP, _⟩, _⟩, _⟩, _⟩ := h
 obtain rfl := Option.some.inj (gPow.symm.trans hgP)
 obtain rfl := Option.some.inj ((show (Tryz.prog.globals[1]?).map (·.type) = some 236 by kernel_rfl).symm.trans htP)
 obtain ⟨uP, zP, kP⟩ := cells_of_var hgP hvP
 have eP : csP.toList = tabPow := arr_ints (n := 20) (k := .u64) (e := 215) (zs := (List.range 20).map fun i => ((10 ^ i : Nat) : Int)) (by kernel_rfl) (by kernel_rfl) (by kernel_rfl) (by kernel_rfl) (by kernel_rfl) hdP
 intro g cs hl
 have hcase : g = 1 ∧ cs = tabPow := by
  have hl' : (if Nat.beq 1 g then some tabPow else none) = some cs := hl
  split at hl'
  ·rename_i hb; exact ⟨(Nat.eq_of_beq_eq_true hb).symm, by simpa using hl'.symm⟩
  ·simp at hl'
 obtain ⟨rfl, rfl⟩ := hcase
 exact ⟨by omega, csP, uP, zP, kP, eP⟩
end Go.Proofs.YtneaafigbnjceaaGreatDoor
end

/-! SeRd -/
section
open Go Go.Ev Go.RowKit Go.ChangeShapes Go.WideShapes
namespace Go.Proofs.YtneaafigbnjceaaGreatDoor
set_option maxRecDepth 100000
theorem met_tables {W : World} (hL : laidMetH Tryz.prog laidL W) : 2 ≤ W.heap.size ∧ GR E.gl W.heap.size W := by
 have hblk : ∃ c ty fz, W.heap[1]? = some (.cells c ty fz) := by
  obtain ⟨_, c, t, fz, h, _⟩ := tables (base := 2) (Nat.le_refl _) hL 1 tabPow rfl
  exact ⟨c, t, fz, h⟩
 have hsz : 2 ≤ W.heap.size := by
  obtain ⟨c, t, fz, h⟩ := hblk
  have := (Array.getElem?_eq_some_iff.1 h).1
  omega
 exact ⟨hsz, tables hsz hL⟩
def m0 (F : List (Nat × List Value)) : M := { n := 0, ρ := fun _ => 0, κ := fun _ => 0, lo := 0, F := F }
theorem hr0 (W : World) {F : List (Nat × List Value)} (hF : AtRest W F) : HR (m0 F) W.heap.size 0 [] W :=
 ⟨rfl, Nat.le_refl _, Nat.le_refl _, fun b a hb => by simp at hb, fun b _ hb => by simp at hb, fun b b' hb => by simp at hb, Nat.le_refl _, fun p hp => ⟨hF p hp, fun b a _ hb => by simp at hb⟩⟩
theorem c3_ : Tryz.prog.cellsOf 3 = 1 := by kernel_rfl
theorem agg_of {W : World} {b t : Nat} {fs : Array Field} {v : Value} (hu : Tryz.prog.underlying t = some (.struct fs)) (h : Value.okWide Tryz.prog W .any b t v) : ∃ cs, v = .agg cs := by
 simp only [Value.okWide, hu] at h
 obtain ⟨cs, h1, _⟩ := h
 exact ⟨cs, h1⟩
theorem trod_fields {H : Type} {enc : TypeId × Value → H} {P : Program} {W : World} {t : TypeId} {fuel : Nat} {held : Bool} {base : Nat} {sp : Nat → Bool} {cs : List Value} {x : DataW H × List MemPlace} {fs : Array Field} (ht : P.underlying t = some (.struct fs)) (fl : List (Nat × Nat)) (hfs : fs.toList.map (fun f => (f.type, f.offset)) = fl)
  (h : DataW.trod enc P W base sp held fuel t cs = some x) : cs.length = P.cellsOf t ∧ ∃ m, ∀ (i : Nat) (p : Nat × Nat), fl[i]? = some p → ∃ y, DataW.trod enc P W base sp held m p.1 ((cs.drop p.2).take (P.cellsOf p.1)) = some y := by
 obtain ⟨xs, m, rfl, _, hlen, hn, hel⟩ := DataW.trod_struct ht h
 refine ⟨hlen, m, fun i p hp => ?_⟩
 rw [← hfs, List.getElem?_map] at hp
 obtain ⟨f, hf, e⟩ := Option.map_eq_some_iff.1 hp
 have hf' : fs[i]? = some f := by simpa using hf
 have hi : i < fs.size := (Array.getElem?_eq_some_iff.1 hf').1
 have h1 := hel i f hf'
 rw [List.getElem?_eq_getElem (by omega)] at h1
 subst e
 exact ⟨_, h1⟩
end Go.Proofs.YtneaafigbnjceaaGreatDoor
end

/-! SeNm -/
section
open Go Go.Ev
namespace Go.Proofs.YtneaafigbnjceaaGreatDoor
def swapL (l : List Int) (i k : Nat) : List Int := (l.set i (l.getD k 0)).set k (l.getD i 0)
def drawL : Nat → Nat → List Int → List Int
 | 0, _, l => l
 | i + 1, x, l => drawL i (630360016 * x % 2147483647) (swapL l (i + 1) (630360016 * x % 2147483647 % (i + 1 + 1)))
def idL (n : Nat) : List Int := (List.range n).map Int.ofNat
def drawn (x n : Nat) : List Int := drawL (n - 1) x (idL n)
end Go.Proofs.YtneaafigbnjceaaGreatDoor
end

/-! SeNa -/
section
open Go Go.Ev
namespace Go.Proofs.YtneaafigbnjceaaGreatDoor
noncomputable section
set_option maxRecDepth 100000
set_option maxHeartbeats 20000000
end
end Go.Proofs.YtneaafigbnjceaaGreatDoor
end

/-! SeWa -/
section
open Go Go.Ev
namespace Go.Proofs.YtneaafigbnjceaaGreatDoor
noncomputable section
set_option maxRecDepth 100000
set_option maxHeartbeats 20000000
def s78 (c : Bool) (e : Int) (_j : Nat → Value) : St := startK Tryz.f61 [] [iB c, iI e]
def s83 (c : Bool) (e : Int) (_j : Nat → Value) : St := startK Tryz.f38 [] [iB c, iI e]
end
end Go.Proofs.YtneaafigbnjceaaGreatDoor
end

/-! SeWb -/
section
open Go Go.Ev
namespace Go.Proofs.YtneaafigbnjceaaGreatDoor
noncomputable section
set_option maxRecDepth 100000
set_option maxHeartbeats 20000000
def s77 (x l h : Int) (_j : Nat → Value) : St := startK Tryz.f63 [] [iI x, iI l, iI h]
def s17 (x l h : Int) (_j : Nat → Value) : St := startK Tryz.f37 [] [iI x, iI l, iI h]
end
end Go.Proofs.YtneaafigbnjceaaGreatDoor
end

/-! SeWd -/
section
open Go Go.Ev
namespace Go.Proofs.YtneaafigbnjceaaGreatDoor
noncomputable section
set_option maxRecDepth 100000
set_option maxHeartbeats 20000000
abbrev ztWd0 : List Item := [.code (atC [1, 0, 1, 0, 0] (bodyOf Tryz.f53)), .inLoop (atC [1, 0, 1, 0, 0] (bodyOf Tryz.f53)), .inBlock 0, .code (atC [1, 1] (bodyOf Tryz.f53))]
abbrev ztWd1 : List Item := [.code (atC [1, 0, 1, 0, 0] (bodyOf Tryz.f36)), .inLoop (atC [1, 0, 1, 0, 0] (bodyOf Tryz.f36)), .inBlock 0, .code (atC [1, 1] (bodyOf Tryz.f36))]
def s76 (C : List DT) (n _i : Nat) (_e _z : Int) (_j : Nat → Value) : St := startK Tryz.f53 [] [.e (.one (.dp (.s C n 1)))]
def s82 (C : List DT) (n _i : Nat) (_e _z : Int) (_j : Nat → Value) : St := startK Tryz.f36 [] [.e (.one (.dp (.s C n 1)))]
def q76 (C : List DT) (n i : Nat) (_e _z : Int) (j : Nat → Value) : St := ⟨[], ztWd0, mkT j [(5, .e (.one (.dp (.s C n 1)))), (6, (iI (Int.ofNat n))), (7, (iI (Int.ofNat i)))] 15 0⟩
def q82 (C : List DT) (n i : Nat) (_e _z : Int) (j : Nat → Value) : St := ⟨[], ztWd1, mkT j [(0, .e (.one (.dp (.s C n 1)))), (3, (iI (Int.ofNat i)))] 19 0⟩
def p76a_end (C : List DT) (n _i : Nat) (_e _z : Int) (j : Nat → Value) : St := ⟨[], ztWd0, mkT j [(5, .e (.one (.dp (.s C n 1)))), (6, (iI (Int.ofNat n))), (7, (iI 0))] 15 0⟩
theorem p76a (hE : EnvOk E) (C : List DT) (n i : Nat) (e z : Int) : Sg 0 0 (s76 C n i e z) (p76a_end C n i e z) := fun ho j =>
 oS hE [.run 4, .ops [(1, .d .len)] [], .run 2] [5, 6, 7] (ps := []) trivial
  ho
def p82a_end (C : List DT) (n _i : Nat) (_e _z : Int) (j : Nat → Value) : St := ⟨[], ztWd1, mkT j [(0, .e (.one (.dp (.s C n 1)))), (3, (iI 0))] 19 0⟩
theorem p82a (hE : EnvOk E) (C : List DT) (n i : Nat) (e z : Int) : Sg 0 0 (s82 C n i e z) (p82a_end C n i e z) := fun ho j =>
 oS hE [.run 7] [0, 3] (ps := []) trivial
  ho
def p76s_end (C : List DT) (n i : Nat) (_e _z : Int) (j : Nat → Value) : St := ⟨[], ztWd0, mkT j [(5, .e (.one (.dp (.s C n 1)))), (6, (iI (Int.ofNat n))), (7, (iI (Int.ofNat (i + 1))))] 15 0⟩
theorem p76s (hE : EnvOk E) (C : List DT) (n i : Nat) (e z : Int) (h0 : (decide (Int.ofNat i < Int.ofNat n) : Bool) = true) (h1 : (0 : Int) ≤ Int.ofNat i ∧ Int.ofNat i < (↑n : Int)) (h2 : ((Int.ofNat i).toNat * nat_lit 1 : Nat) = i) (h3 : (getL C i : Option DT) = (.some (.v (.int .i64 z)))) (h4 : (z != (0 : Int) : Bool) = false) (h5 : ((iI (wrapF IntKind.i64 (Int.ofNat i + (1 : Int)))) : AV) = (iI (Int.ofNat (i + 1)))) : Sg 0 0 (q76 C n i e z) (p76s_end C n i e z) := fun ho j =>
 oS hE [.run 3, .cond true, .run 4, .ops [(1, .d (.ld (.v (.int .i64 z)))), (0, .d (.ix i))] [], .run 2, .cond false, .run 2, .ops [(0, .rn (iI (Int.ofNat (i + 1))))] [], .run 1] [5, 6, 7] (aP h0 <| aP h1 <| aP h2 <| aP h3 <| aP h4 <| aP h5 <| aZ)
  ho
def p76e_end (_C : List DT) (_n _i : Nat) (_e z : Int) (j : Nat → Value) : St := ⟨[], [.code .ret, .inBlock 1, .code (atC [1, 0, 1, 0, 0, 1, 1, 1] (bodyOf Tryz.f53)), .inLoop (atC [1, 0, 1, 0, 0] (bodyOf Tryz.f53)), .inBlock 0, .code (atC [1, 1] (bodyOf Tryz.f53))], mkT j [(2, (iI z))] 15 0⟩
theorem p76e (hE : EnvOk E) (C : List DT) (n i : Nat) (e z : Int) (h0 : (decide (Int.ofNat i < Int.ofNat n) : Bool) = true) (h1 : (0 : Int) ≤ Int.ofNat i ∧ Int.ofNat i < (↑n : Int)) (h2 : ((Int.ofNat i).toNat * nat_lit 1 : Nat) = i) (h3 : (getL C i : Option DT) = (.some (.v (.int .i64 z)))) (h4 : (z != (0 : Int) : Bool) = true) : Sg 0 0 (q76 C n i e z) (p76e_end C n i e z) := fun ho j =>
 oS hE [.run 3, .cond true, .run 4, .ops [(1, .d (.ld (.v (.int .i64 z)))), (0, .d (.ix i))] [], .run 2, .cond true, .run 2] [2] (aP h0 <| aP h1 <| aP h2 <| aP h3 <| aP h4 <| aZ)
  ho
def p76x_end (_C : List DT) (_n _i : Nat) (_e _z : Int) (j : Nat → Value) : St := ⟨[], [.code .ret], mkT j [(2, (iI 0))] 15 0⟩
theorem p76x (hE : EnvOk E) (C : List DT) (n i : Nat) (e z : Int) (h0 : (decide (Int.ofNat i < Int.ofNat n) : Bool) = false) : Sg 0 0 (q76 C n i e z) (p76x_end C n i e z) := fun ho j =>
 oS hE [.run 3, .cond false, .run 3] [2] (aP h0 <| aZ)
  ho
def p82s_end (C : List DT) (n i : Nat) (_e _z : Int) (j : Nat → Value) : St := ⟨[], ztWd1, mkT j [(0, .e (.one (.dp (.s C n 1)))), (3, (iI (Int.ofNat (i + 1))))] 19 0⟩
theorem p82s (hE : EnvOk E) (C : List DT) (n i : Nat) (e z : Int) (h0 : (decide (Int.ofNat i < (↑n : Int)) : Bool) = true) (h1 : (0 : Int) ≤ Int.ofNat i ∧ Int.ofNat i < (↑n : Int)) (h2 : ((Int.ofNat i).toNat * nat_lit 1 : Nat) = i) (h3 : (getL C i : Option DT) = (.some (.v (.int .i64 z)))) (h4 : (z != (0 : Int) : Bool) = false) (h5 : ((iI (wrapF IntKind.i64 (Int.ofNat i + (1 : Int)))) : AV) = (iI (Int.ofNat (i + 1)))) : Sg 0 0 (q82 C n i e z) (p82s_end C n i e z) := fun ho j =>
 oS hE [.run 2, .ops [(2, .d .len)] [], .cond true, .run 4, .ops [(3, .d (.ld (.v (.int .i64 z)))), (2, .d (.ix i))] [], .cond false, .run 2, .ops [(1, .rn (iI (Int.ofNat (i + 1))))] [], .run 1] [0, 3] (aP h0 <| aP h1 <| aP h2 <| aP h3 <| aP h4 <| aP h5 <| aZ)
  ho
def p82e_end (_C : List DT) (_n _i : Nat) (_e z : Int) (j : Nat → Value) : St := ⟨[], [.code .ret, .inBlock 1, .code (atC [1, 0, 1, 0, 0, 1, 1] (bodyOf Tryz.f36)), .inLoop (atC [1, 0, 1, 0, 0] (bodyOf Tryz.f36)), .inBlock 0, .code (atC [1, 1] (bodyOf Tryz.f36))], mkT j [(2, (iI z))] 19 0⟩
theorem p82e (hE : EnvOk E) (C : List DT) (n i : Nat) (e z : Int) (h0 : (decide (Int.ofNat i < (↑n : Int)) : Bool) = true) (h1 : (0 : Int) ≤ Int.ofNat i ∧ Int.ofNat i < (↑n : Int)) (h2 : ((Int.ofNat i).toNat * nat_lit 1 : Nat) = i) (h3 : (getL C i : Option DT) = (.some (.v (.int .i64 z)))) (h4 : (z != (0 : Int) : Bool) = true) (h5 : (0 : Int) ≤ Int.ofNat i ∧ Int.ofNat i < (↑n : Int)) (h6 : ((Int.ofNat i).toNat * nat_lit 1 : Nat) = i) (h7 : (getL C i : Option DT) = (.some (.v (.int .i64 z)))) : Sg 0 0 (q82 C n i e z) (p82e_end C n i e z) := fun ho j =>
 oS hE [.run 2, .ops [(2, .d .len)] [], .cond true, .run 4, .ops [(3, .d (.ld (.v (.int .i64 z)))), (2, .d (.ix i))] [], .cond true, .run 1, .ops [(3, .d (.ld (.v (.int .i64 z)))), (2, .d (.ix i))] []] [2] (aP h0 <| aP h1 <| aP h2 <| aP h3 <| aP h4 <| aP h5 <| aP h6 <| aP h7 <| aZ)
  ho
def p82x_end (_C : List DT) (_n _i : Nat) (_e _z : Int) (j : Nat → Value) : St := ⟨[], [.code .ret], mkT j [(2, (iI 0))] 19 0⟩
theorem p82x (hE : EnvOk E) (C : List DT) (n i : Nat) (e z : Int) (h0 : (decide (Int.ofNat i < (↑n : Int)) : Bool) = false) : Sg 0 0 (q82 C n i e z) (p82x_end C n i e z) := fun ho j =>
 oS hE [.run 2, .ops [(2, .d .len)] [], .cond false, .run 3] [2] (aP h0 <| aZ)
  ho
def firstI : List Int → Int
 | [] => 0
 | x :: r => if x = 0 then firstI r else x
theorem l76 (hE : EnvOk E) (xs : List Int) (n : Nat) (hn : xs.length = n) (hm : n ≤ 4000000) : ∀ m i, m + i = n → ∀ j, OutK E 0 0 (q76 (iD xs) (n) (i) 0 0 j) (Go.Ev.Ends E Tryz.f53 (iI (firstI (xs.drop i))) [])
 | 0, i, hk, j => by
  rw [List.drop_eq_nil_of_le (by omega)]
  exact p76x hE (iD xs) n i 0 0 (decide_eq_false (by (try simp only [Int.ofNat_eq_natCast]); omega)) (fun j => outK_ret (ends_ret (by kernel_rfl))) j
 | m + 1, i, hk, j => by
  have hl : i < xs.length := by omega
  have hx : xs[i]? = some xs[i] := List.getElem?_eq_getElem hl
  rw [List.drop_eq_getElem_cons hl]
  generalize xs[i] = z at hx
  have hu : firstI (z :: xs.drop (i + 1)) = if z = 0 then firstI (xs.drop (i + 1)) else z := rfl
  rw [hu]
  by_cases h : z = 0
  ·rw [if_pos h]
   exact p76s hE (iD xs) n i 0 z (decide_eq_true (by (try simp only [Int.ofNat_eq_natCast]); omega)) ⟨by (try simp only [Int.ofNat_eq_natCast]); omega, by (try simp only [Int.ofNat_eq_natCast]); omega⟩ (Nat.mul_one _) (getI hx) (by rw [h]; rfl) (iIe (by (try simp only [Int.ofNat_eq_natCast]); rw [wrap_id (by omega) (by omega)]; try omega)) (l76 hE xs n hn hm m (i + 1) (by omega)) j
  ·rw [if_neg h]
   exact p76e hE (iD xs) n i 0 z (decide_eq_true (by (try simp only [Int.ofNat_eq_natCast]); omega)) ⟨by (try simp only [Int.ofNat_eq_natCast]); omega, by (try simp only [Int.ofNat_eq_natCast]); omega⟩ (Nat.mul_one _) (getI hx) (bne_iff_ne.2 h) (fun j => outK_ret (ends_ret (by kernel_rfl))) j
theorem K76 (hE : EnvOk E) (xs : List Int) (hm : xs.length ≤ 4000000) : COut E 0 [] 53 [dI xs] (iI (firstI xs)) [] :=
 cOut_start Tryz.func53 rfl (p76a hE (iD xs) (xs.length) 0 0 0 (l76 hE xs xs.length rfl hm xs.length 0 rfl) fun _ => undef)
theorem l82 (hE : EnvOk E) (xs : List Int) (n : Nat) (hn : xs.length = n) (hm : n ≤ 4000000) : ∀ m i, m + i = n → ∀ j, OutK E 0 0 (q82 (iD xs) (n) (i) 0 0 j) (Go.Ev.Ends E Tryz.f36 (iI (firstI (xs.drop i))) [])
 | 0, i, hk, j => by
  rw [List.drop_eq_nil_of_le (by omega)]
  exact p82x hE (iD xs) n i 0 0 (decide_eq_false (by (try simp only [Int.ofNat_eq_natCast]); omega)) (fun j => outK_ret (ends_ret (by kernel_rfl))) j
 | m + 1, i, hk, j => by
  have hl : i < xs.length := by omega
  have hx : xs[i]? = some xs[i] := List.getElem?_eq_getElem hl
  rw [List.drop_eq_getElem_cons hl]
  generalize xs[i] = z at hx
  have hu : firstI (z :: xs.drop (i + 1)) = if z = 0 then firstI (xs.drop (i + 1)) else z := rfl
  rw [hu]
  by_cases h : z = 0
  ·rw [if_pos h]
   exact p82s hE (iD xs) n i 0 z (decide_eq_true (by (try simp only [Int.ofNat_eq_natCast]); omega)) ⟨by (try simp only [Int.ofNat_eq_natCast]); omega, by (try simp only [Int.ofNat_eq_natCast]); omega⟩ (Nat.mul_one _) (getI hx) (by rw [h]; rfl) (iIe (by (try simp only [Int.ofNat_eq_natCast]); rw [wrap_id (by omega) (by omega)]; try omega)) (l82 hE xs n hn hm m (i + 1) (by omega)) j
  ·rw [if_neg h]
   exact p82e hE (iD xs) n i 0 z (decide_eq_true (by (try simp only [Int.ofNat_eq_natCast]); omega)) ⟨by (try simp only [Int.ofNat_eq_natCast]); omega, by (try simp only [Int.ofNat_eq_natCast]); omega⟩ (Nat.mul_one _) (getI hx) (bne_iff_ne.2 h) ⟨by (try simp only [Int.ofNat_eq_natCast]); omega, by (try simp only [Int.ofNat_eq_natCast]); omega⟩ (Nat.mul_one _) (getI hx) (fun j => outK_ret (ends_ret (by kernel_rfl))) j
theorem K82 (hE : EnvOk E) (xs : List Int) (hm : xs.length ≤ 4000000) : COut E 0 [] 36 [dI xs] (iI (firstI xs)) [] :=
 cOut_start Tryz.func36 rfl (p82a hE (iD xs) (xs.length) 0 0 0 (l82 hE xs xs.length rfl hm xs.length 0 rfl) fun _ => undef)
end
end Go.Proofs.YtneaafigbnjceaaGreatDoor
end

/-! SeOd -/
section
open Go Go.Ev
namespace Go.Proofs.YtneaafigbnjceaaGreatDoor
noncomputable section
structure Od where
 o : ByteArray
 t : Int
def Od.d (x : Od) : List DT := [.v (.string x.o), .v (.int .i64 x.t)]
theorem Od.len (x : Od) : x.d.length = 2 := rfl
end
end Go.Proofs.YtneaafigbnjceaaGreatDoor
end

/-! SeRdO -/
section
open Go Go.Ev Go.RowKit Go.ChangeShapes Go.WideShapes
namespace Go.Proofs.YtneaafigbnjceaaGreatDoor
set_option maxRecDepth 100000
theorem v9 : Tryz.prog.underlying 9 = some .string := by kernel_rfl
theorem v4 : Tryz.prog.underlying 4 = some .bool := by kernel_rfl
section
variable {H : Type} {enc : TypeId × Value → H} {W : World} {fuel : Nat} {held : Bool} {cs : List Value} {x : DataW H × List MemPlace}
end
end Go.Proofs.YtneaafigbnjceaaGreatDoor
end

/-! SeOa -/
section
open Go Go.Ev
namespace Go.Proofs.YtneaafigbnjceaaGreatDoor
noncomputable section
set_option maxRecDepth 100000
set_option maxHeartbeats 20000000
end
end Go.Proofs.YtneaafigbnjceaaGreatDoor
end

/-! SeOb -/
section
open Go Go.Ev
namespace Go.Proofs.YtneaafigbnjceaaGreatDoor
noncomputable section
set_option maxRecDepth 100000
set_option maxHeartbeats 20000000
end
end Go.Proofs.YtneaafigbnjceaaGreatDoor
end

/-! SeOc -/
section
open Go Go.Ev
namespace Go.Proofs.YtneaafigbnjceaaGreatDoor
noncomputable section
set_option maxRecDepth 100000
set_option maxHeartbeats 20000000
end
end Go.Proofs.YtneaafigbnjceaaGreatDoor
end

/-! SeOe -/
section
open Go Go.Ev
namespace Go.Proofs.YtneaafigbnjceaaGreatDoor
noncomputable section
set_option maxRecDepth 100000
set_option maxHeartbeats 20000000
end
end Go.Proofs.YtneaafigbnjceaaGreatDoor
end

/-! SeHr -/
section
open Go Go.Ev
namespace Go.Proofs.YtneaafigbnjceaaGreatDoor
noncomputable section
structure Hr where
 d0 : Bool
 d1 : Bool
 d2 : Bool
 d3 : Bool
 d4 : Bool
 d5 : Bool
 d6 : Bool
 f : Int
 l : Int
def Hr.d (x : Hr) : List DT := [.v (.bool x.d0), .v (.bool x.d1), .v (.bool x.d2), .v (.bool x.d3), .v (.bool x.d4), .v (.bool x.d5), .v (.bool x.d6), .v (.int .i64 x.f), .v (.int .i64 x.l)]
theorem Hr.len (x : Hr) : x.d.length = 9 := rfl
end
end Go.Proofs.YtneaafigbnjceaaGreatDoor
end

/-! SeRdB -/
section
open Go Go.Ev Go.RowKit Go.ChangeShapes Go.WideShapes
namespace Go.Proofs.YtneaafigbnjceaaGreatDoor
set_option maxRecDepth 100000
theorem v164 : Tryz.prog.underlying 123 = some (.array 7 4) := by kernel_rfl
section
variable {H : Type} {enc : TypeId × Value → H} {W : World} {fuel : Nat} {held : Bool} {cs : List Value} {x : DataW H × List MemPlace}
def isB (ds : List DT) : Prop := ∃ b : Bool, ds = [.v (.bool b)]
end
end Go.Proofs.YtneaafigbnjceaaGreatDoor
end

/-! SeRdA -/
section
open Go Go.Ev Go.RowKit Go.ChangeShapes Go.WideShapes
namespace Go.Proofs.YtneaafigbnjceaaGreatDoor
set_option maxRecDepth 100000
set_option maxHeartbeats 20000000
theorem v26 : Tryz.prog.underlying 26 = some (.struct (Tryz.prog.fieldsOf 26)) := by kernel_rfl
theorem v24 : Tryz.prog.underlying 24 = some (.slice 3) := by kernel_rfl
theorem len22 {l : List Value} (h : l.length = 22) : ∃ c0 c1 c2 c3 c4 c5 c6 c7 c8 c9 c10 c11 c12 c13 c14 c15 c16 c17 c18 c19 c20 c21, l = [c0, c1, c2, c3, c4, c5, c6, c7, c8, c9, c10, c11, c12, c13, c14, c15, c16, c17, c18, c19, c20, c21] := by
 match l, h with
 | [c0, c1, c2, c3, c4, c5, c6, c7, c8, c9, c10, c11, c12, c13, c14, c15, c16, c17, c18, c19, c20, c21], _ => exact ⟨c0, c1, c2, c3, c4, c5, c6, c7, c8, c9, c10, c11, c12, c13, c14, c15, c16, c17, c18, c19, c20, c21, rfl⟩
theorem len8i {l : List Int} (h : l.length = 8) : ∃ kk0 kk1 kk2 kk3 kk4 kk5 kk6 kk7, l = [kk0, kk1, kk2, kk3, kk4, kk5, kk6, kk7] := by
 match l, h with
 | [kk0, kk1, kk2, kk3, kk4, kk5, kk6, kk7], _ => exact ⟨kk0, kk1, kk2, kk3, kk4, kk5, kk6, kk7, rfl⟩
theorem read_bytes {H : Type} {enc : TypeId × Value → H} {P : Program} {W : World} {t e n : Nat} {fuel : Nat} {held : Bool} {base : Nat} {sp : Nat → Bool} {cs : List Value} {x : DataW H × List MemPlace} (ht : P.underlying t = some (.array n e)) (he : P.underlying e = some (.int .u8)) (hc : P.cellsOf e = 1) (hct : P.cellsOf t = n)
  (h : DataW.trod enc P W base sp held fuel t cs = some x) : ∃ l : List Int, l.length = n ∧ cs = l.map (.int .u8) ∧ ∀ b ∈ l, 0 ≤ b ∧ b < 256 := by
 obtain ⟨xs, m, rfl, _, hlen, hn, hel⟩ := DataW.trod_array ht h
 rw [hct] at hlen
 have one : ∀ i, i < n → ∃ b : Int, cs[i]? = some (.int .u8 b) ∧ 0 ≤ b ∧ b < 256 := fun i hi => by
  have h1 := hel i (by omega)
  rw [hc, Nat.mul_one, List.getElem?_eq_getElem (by omega)] at h1
  obtain ⟨b, hcell, _, hw⟩ := DataW.trod_int he h1
  have e2 : ((cs.drop i).take 1)[0]? = some (.int .u8 b) := by rw [hcell]; rfl
  rw [List.getElem?_take, if_pos (by omega), List.getElem?_drop] at e2
  have hw' : decide (IntKind.u8.min ≤ b) && decide (b ≤ IntKind.u8.max) := hw
  rw [Bool.and_eq_true, decide_eq_true_eq, decide_eq_true_eq] at hw'
  have e3 : IntKind.u8.min = 0 := by decide
  have e4 : IntKind.u8.max = 255 := by decide
  exact ⟨b, by simpa using e2, by omega, by omega⟩
 have key : ∀ (n : Nat) (cs : List Value), cs.length = n → (∀ i, i < n → ∃ b : Int, cs[i]? = some (.int .u8 b) ∧ 0 ≤ b ∧ b < 256) → ∃ l : List Int, l.length = n ∧ cs = l.map (.int .u8) ∧ ∀ b ∈ l, 0 ≤ b ∧ b < 256 := by
  intro n
  induction n with
  | zero => intro cs hl _; exact ⟨[], rfl, by rw [List.eq_nil_of_length_eq_zero hl]; rfl, by simp⟩
  | succ n ih =>
   intro cs hl hh
   match cs, hl with
   | c :: cs, hl =>
    obtain ⟨b, hb, hr⟩ := hh 0 (by omega)
    obtain ⟨l, h1, h2, h3⟩ := ih cs (by simpa using hl) fun i hi => by have := hh (i + 1) (by omega); simpa using this
    refine ⟨b :: l, by simp [h1], ?_, fun a ha => ?_⟩
    ·have : c = .int .u8 b := by simpa using hb
     rw [this, h2]; rfl
    ·rcases List.mem_cons.1 ha with rfl | ha
     ·exact hr
     ·exact h3 a ha
 exact key n cs hlen one
end Go.Proofs.YtneaafigbnjceaaGreatDoor
end

/-! SeLaw -/
section
open Go Go.RowKit Go.ChangeShapes Go.WideShapes Go.ChangeAt Go.WideMaps Go.WideElems
namespace Go.Proofs.YtneaafigbnjceaaGreatDoor
set_option maxRecDepth 100000
section
variable {H : Type} {enc : TypeId × Value → H} {P : Program}
theorem post_of_below {f : Func} {s : ChangeSpec} {apart fresh handsOn again : Bool} {W W' : World} {args : Array Value} {v : Value} {ds gs : List (DataW H)} {before pa pv : List MemPlace}
  (hW : DataW.Whole enc P f.params.toList s.vars apart W args.toList ds gs before)
  (hres : ∀ (b : Nat) (sp : Nat → Bool) (hd : Bool), DataW.TrodAll enc P W' b sp hd f.resultTypes.toList (v.resultList f.resultTypes.size) (s.fn H (ds ++ gs)).results [])
  (hargs : ∀ sp : Nat → Bool, (∀ p ∈ before, sp p.block = true) → DataW.TrodAll enc P W' 0 sp true f.params.toList args.toList (s.fn H (ds ++ gs)).args pa)
  (hvars : ∀ sp : Nat → Bool, (∀ p ∈ before, sp p.block = true) → DataW.TrodVars enc P W' sp s.vars (s.fn H (ds ++ gs)).vars pv)
  (hps : before = pa ++ pv) (hb : Below W.heap.size W W')
  (hok : ∀ (j : Nat) (t : TypeId) (r : Value), f.resultTypes[j]? = some t → (v.resultList f.resultTypes.size)[j]? = some r → Value.okWide P W' .any 0 t r) :
  s.post enc P f apart fresh handsOn again W args v W' := by
 have hlt : ∀ p ∈ before, p.block < W.heap.size := fun p hp => hW.lt p hp
 have hold : ∀ p ∈ before, (fun b => decide (b < W.heap.size)) p.block = true := fun p hp => by simpa using hlt p hp
 refine ⟨ds, gs, before, [], pa, pv, hW, hres _ _ _, hargs _ hold, hvars _ hold, World.keptBut_mono (fun p hp => ⟨hp, ?_⟩) (hb.frame (· ∈ before)), fun _ => ?_⟩
 ·rw [hps, List.mem_append] at hp
  exact Or.inr hp
 ·obtain ⟨_, _, _, _, _, hz, hn⟩ := hW
  refine ⟨hok, _, _, ([] ++ pa) ++ pv, ⟨[] ++ pa, pv, trodAll_append (hargs _ (fun _ _ => rfl)) (hres _ _ _), hvars _ (fun _ _ => rfl), rfl, ?_, ?_⟩, ?_⟩
  ·intro b off hp
   have hin : MemPlace.cell b off ∈ before := by rw [hps]; simpa using hp
   rw [hb.frozen (hlt _ hin)]
   exact hz b off hin
  ·intro ha
   have := hn ha
   rw [hps] at this
   simpa using this
  ·intro p hp _
   rw [hps]
   simpa using hp
end
theorem own : ownKnob Tryz.prog.godebug = none := by kernel_rfl
theorem laidOut : laidOutB Tryz.prog = true := by kernel_rfl
theorem u4 : Tryz.prog.underlying 4 = some .bool := by kernel_rfl
theorem door_met (os : Os) (args : Array Value) : laidMetH Tryz.prog laidL ((World.doorLaid Tryz.prog 400 os).forCall (fun _ _ => 0) ⟨#[], args, []⟩).memory :=
 laidMetH_of_parts3 (fuel := 8) (laidMet_of_run' 8 (by kernel_rfl) (by kernel_rfl)) (by kernel_rfl) (by kernel_rfl)
end Go.Proofs.YtneaafigbnjceaaGreatDoor
end
