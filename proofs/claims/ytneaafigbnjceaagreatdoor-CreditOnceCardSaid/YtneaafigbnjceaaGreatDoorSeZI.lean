/-
  Part of the proof: SySort, SeSo, SeTc, SyIns, SeTd, SeTe, SeTf, SeTg, SePq, SePk, SeTh, SeTk, SeOm.
-/
import Derived.Test.YtneaafigbnjceaaGreatDoorSeZH
import Derived.Shelf.Sort.Plain
import Derived.Sort.Grow
import Derived.Sort.Row

/-! SySort -/
section
open Go Go.Ev Go.RowKit
namespace Go.Ev
def Sorts (P : Program) (f : FuncId) : Prop := ∀ (blk off cap : Nat) (zs : List Int) (w : World), Go.Sort.Holds (Value.int .i64) w blk off zs.toArray → blk < w.heap.size → zs.length < 4611686018427387904 →
 Calls P f #[.slice (some ⟨blk, off, none⟩) zs.length cap] w fun e w' => e = .returned (.tuple #[]) ∧ ∃ n os, w' = Go.Sort.grow (Go.Sort.putRow (Value.int .i64) (Go.Sort.ahead w n) blk off (zs.mergeSort fun x y => decide (x ≤ y)).toArray) os
theorem all2_ints {m : M} : ∀ {l : List Int} {vs : List Value}, All2 (CR m) (l.map fun z => AC.v (.int .i64 z)) vs → vs = l.map (Value.int .i64)
 | [], [], _ => rfl
 | _ :: _, _ :: _, ⟨h, ht⟩ => by rw [all2_ints ht]; exact congrArg (· :: _) h
 | [], _ :: _, h => h.elim
 | _ :: _, [], h => h.elim
theorem ints_all2 {m : M} : ∀ {l : List Int}, All2 (CR m) (l.map fun z => AC.v (.int .i64 z)) (l.map (Value.int .i64))
 | [] => trivial
 | _ :: _ => ⟨rfl, ints_all2⟩
theorem sort_bridge {E : Env} {f : FuncId} (hS : Sorts E.P f) (xs : List Int) (n cap el lvl i : Nat) (h : Heap) (fl ex : Bool) (hn : xs.length = n) (h0 : 0 < n) (hm : n ≤ 4000000) (hi : h[i]? = some (some ⟨xs.map fun z => AC.v (.int .i64 z), n, el, fl, .cells⟩)) (hlv : lvl ≤ i) :
  COut E lvl h f [.e (.one (.slc i 0 n 1 cap ex))] (.tup []) (h.set i (some ⟨(xs.mergeSort fun x y => decide (x ≤ y)).map fun z => AC.v (.int .i64 z), n, el, fl, .cells⟩)) := by
 intro m base w argsC ha H G
 obtain ⟨y, hy, hR⟩ : ∃ y, argsC.toList = [y] ∧ VR m (.e (.one (.slc i 0 n 1 cap ex))) y := by
  generalize argsC.toList = l at ha
  match l, ha with
  | [y], hh => exact ⟨y, rfl, hh.1⟩
  | [], hh => exact hh.elim
  | _ :: _ :: _, hh => exact hh.2.elim
 have e : argsC = #[y] := by rw [← Array.toList_inj, hy]
 subst e
 obtain ⟨hb, c', o', rfl, ho', hlc, hcc, _, hk, _⟩ := hR
 have hc0 : o' = 0 := by
  rcases ho' with h | h
  ·exact h
  ·omega
 subst hc0
 have B := H.blk i _ hi rfl
 obtain ⟨c, fz, hc, hsz, hfz, hle, hr⟩ := B.at_
 have hr := all2_ints hr
 have hlt : m.ρ i < w.heap.size := (Array.getElem?_eq_some_iff.1 hc).1
 have hcell : ∀ j, j < n → c[j]? = some (.int .i64 (xs.getD j 0)) := fun j hj => by
  have h1 : (c.toList.take n)[j]? = (xs.map (Value.int .i64))[j]? := by rw [← hr]
  rw [List.getElem?_take, if_pos hj, List.getElem?_map, List.getElem?_eq_getElem (show j < xs.length by omega)] at h1
  rw [← Array.getElem?_toList, h1, List.getD_eq_getElem?_getD, List.getElem?_eq_getElem (show j < xs.length by omega)]; rfl
 have hlo : m.lo ≤ i := Nat.le_trans H.lo hlv
 have hH : Go.Sort.Holds (Value.int .i64) w (m.ρ i) 0 xs.toArray := fun j hj => by
  have hj : j < xs.length := by simpa using hj
  have hfree := (hfz hlo).free j (by rw [hsz]; have : n ≤ c.size := hle; omega)
  constructor
  ·simp only [World.cell?, hc, Nat.zero_add, Option.isSome_none, Bool.false_eq_true, if_false]
   rw [hcell j (by omega)]
   simp [List.getD_eq_getElem?_getD, hj]
  ·simp only [World.frozen?, hc, Nat.zero_add]
   obtain ⟨lo, hi⟩ := fz
   simpa using hfree
 subst hn
 refine (hS (m.ρ i) 0 c' xs w hH hlt (by omega)).mono fun e w' ⟨he, k, os, hw⟩ => ?_
 subst he hw
 generalize hzs : (xs.mergeSort fun x y => decide (x ≤ y)) = zs
 have hlen : zs.length = xs.length := by rw [← hzs, List.length_mergeSort]
 let c2 : Array Value := Go.Sort.putCells (Value.int .i64) 0 zs.toArray c
 have hc2 : c2.size = c.size := by simp [c2, Go.Sort.putCells]
 have htake : c2.toList.take xs.length = zs.map (Value.int .i64) := by
  apply List.ext_getElem?
  intro q
  rw [List.getElem?_take]
  by_cases hi : q < xs.length
  ·have hic : q < c.size := by have : xs.length ≤ c.size := hle; omega
   rw [if_pos hi, Array.getElem?_toList, List.getElem?_map, List.getElem?_eq_getElem (show q < zs.length by omega)]
   simp only [c2, Go.Sort.putCells, Array.getElem?_mapIdx, Array.getElem?_eq_getElem hic, Option.map_some]
   rw [if_pos ⟨Nat.zero_le _, by simpa using (show q < zs.length by omega)⟩]
   simp [show q < zs.length by omega]
  ·rw [if_neg hi, List.getElem?_eq_none (by simp; omega)]
 have HP := H.put (b := i) hi hlv rfl hc (fun h => hfz h) hc2 hsz hle (cells := zs.map fun z => AC.v (.int .i64 z)) (by simp [hlen]) (by rw [htake]; exact ints_all2)
 have hheap : ∀ b, b < w.heap.size → (Go.Sort.grow (Go.Sort.putRow (Value.int .i64) (Go.Sort.ahead w k) (m.ρ i) 0 zs.toArray) os).heap[b]? = (w.setRow (m.ρ i) c2).heap[b]? := fun b hb => by
  have h1 : b < (w.heap.modify (m.ρ i) (Go.Sort.onCells (Go.Sort.putCells (Value.int .i64) 0 zs.toArray))).size := by simpa using hb
  show (w.heap.modify (m.ρ i) (Go.Sort.onCells (Go.Sort.putCells (Value.int .i64) 0 zs.toArray)) ++ os)[b]? = _
  rw [Array.getElem?_append_left h1, World.setRow, Array.getElem?_modify, Array.getElem?_modify]
  by_cases hb0 : m.ρ i = b
  ·subst hb0
   simp only [if_true, hc, Option.map_some, Go.Sort.onCells]; rfl
  ·simp only [if_neg hb0]
 refine ⟨_, rfl, m, M.leG.refl _ m, ⟨#[], rfl, trivial⟩, HP.world ?_ ?_, ?_⟩
 ·simp [World.setRow, Go.Sort.grow, Go.Sort.putRow, Go.Sort.mapBlock, Go.Sort.ahead]
 ·intro b hb
  exact hheap b (by simpa [World.setRow] using hb)
 ·refine ⟨rfl, rfl, rfl, by simp [Go.Sort.grow, Go.Sort.putRow, Go.Sort.mapBlock, Go.Sort.ahead], fun b hb => ?_⟩
  rw [hheap b (Nat.lt_of_lt_of_le hb H.baseLe)]
  exact setRow_other w _ _ _ (fun h => by have := H.own i hlv (List.getElem?_eq_some_iff.1 hi).1; omega)
end Go.Ev
end

/-! SeSo -/
section
open Go Go.Shelf Go.Sort Go.Ev Go.RowKit Go.Lib Go.Proofs
namespace Go.Proofs.YtneaafigbnjceaaGreatDoor.Bk
set_option maxRecDepth 100000
def laysS_ren : Go.Shelf.Ren := ⟨fun | 189 => 93 | 125 => 119 | 257 => 118 | 128 => 142 | 129 => 143 | 294 => 133 | 295 => 134 | 296 => 135 | 297 => 136 | 298 => 137 | 299 => 138 | 216 => 139 | 300 => 140 | 301 => 141 | 328 => 149 | 329 => 150 | 330 => 151 | 331 => 152 | 332 => 153 | 215 => 154 | 343 => 159 | n => n, fun | 28 => 24 | 3 => 3 | 46 => 159 | 0 => 0 | 51 => 65 | 53 => 215 | 4 => 4 | 183 => 206 | 182 => 205 | 131 => 211 | 5 => 5 | 9 => 9 | 218 => 222 | 222 => 226 | 228 => 232 | 229 => 233 | n => n, fun | n => n⟩
theorem laysS : Go.Proofs.Lays.n189 Tryz.prog laysS_ren := {
 mixed := by kernel_rfl
 f125 := Tryz.func119.trans (congrArg some (by kernel_rfl))
 f128 := Tryz.func142.trans (congrArg some (by kernel_rfl))
 f129 := Tryz.func143.trans (congrArg some (by kernel_rfl))
 f189 := Tryz.func93.trans (congrArg some (by kernel_rfl))
 f215 := Tryz.func154.trans (congrArg some (by kernel_rfl))
 f216 := Tryz.func139.trans (congrArg some (by kernel_rfl))
 f257 := Tryz.func118.trans (congrArg some (by kernel_rfl))
 f294 := Tryz.func133.trans (congrArg some (by kernel_rfl))
 f295 := Tryz.func134.trans (congrArg some (by kernel_rfl))
 f296 := Tryz.func135.trans (congrArg some (by kernel_rfl))
 f297 := Tryz.func136.trans (congrArg some (by kernel_rfl))
 f298 := Tryz.func137.trans (congrArg some (by kernel_rfl))
 f299 := Tryz.func138.trans (congrArg some (by kernel_rfl))
 f300 := Tryz.func140.trans (congrArg some (by kernel_rfl))
 f301 := Tryz.func141.trans (congrArg some (by kernel_rfl))
 f328 := Tryz.func149.trans (congrArg some (by kernel_rfl))
 f329 := Tryz.func150.trans (congrArg some (by kernel_rfl))
 f330 := Tryz.func151.trans (congrArg some (by kernel_rfl))
 f331 := Tryz.func152.trans (congrArg some (by kernel_rfl))
 f332 := Tryz.func153.trans (congrArg some (by kernel_rfl))
 f343 := Tryz.func159.trans (congrArg some (by kernel_rfl))
 t0 := Tryz.underlying0
 a0 := Tryz.isAgg0
 z0 := Tryz.sizeOf0
 v0 := Tryz.zeroValue0
 t3 := Tryz.underlying3
 a3 := Tryz.isAgg3
 z3 := Tryz.sizeOf3
 v3 := Tryz.zeroValue3
 t4 := Tryz.underlying4
 a4 := Tryz.isAgg4
 z4 := Tryz.sizeOf4
 v4 := Tryz.zeroValue4
 t5 := Tryz.underlying5
 a5 := Tryz.isAgg5
 z5 := Tryz.sizeOf5
 v5 := Tryz.zeroValue5
 t9 := Tryz.underlying9
 a9 := Tryz.isAgg9
 z9 := Tryz.sizeOf9
 v9 := Tryz.zeroValue9
 t28 := Tryz.underlying24
 a28 := Tryz.isAgg24
 z28 := Tryz.sizeOf24
 v28 := Tryz.zeroValue24
 t46 := Tryz.underlying159
 a46 := Tryz.isAgg159
 z46 := Tryz.sizeOf159
 v46 := Tryz.zeroValue159
 t51 := Tryz.underlying65
 a51 := Tryz.isAgg65
 z51 := Tryz.sizeOf65
 v51 := Tryz.zeroValue65
 t53 := Tryz.underlying215
 a53 := Tryz.isAgg215
 z53 := Tryz.sizeOf215
 v53 := Tryz.zeroValue215
 t131 := Tryz.underlying211
 a131 := Tryz.isAgg211
 z131 := Tryz.sizeOf211
 v131 := Tryz.zeroValue211
 t182 := Tryz.underlying205
 a182 := Tryz.isAgg205
 z182 := Tryz.sizeOf205
 v182 := Tryz.zeroValue205
 t183 := Tryz.underlying206
 a183 := Tryz.isAgg206
 z183 := Tryz.sizeOf206
 v183 := Tryz.zeroValue206
 t218 := Tryz.underlying222
 a218 := Tryz.isAgg222
 z218 := Tryz.sizeOf222
 v218 := Tryz.zeroValue222
 t222 := Tryz.underlying226
 a222 := Tryz.isAgg226
 z222 := Tryz.sizeOf226
 v222 := Tryz.zeroValue226
 t228 := Tryz.underlying232
 a228 := Tryz.isAgg232
 z228 := Tryz.sizeOf232
 v228 := Tryz.zeroValue232
 t229 := Tryz.underlying233
 a229 := Tryz.isAgg233
 z229 := Tryz.sizeOf233
 v229 := Tryz.zeroValue233 }
open Go.Sort Go.RowKit in
theorem sort_int (blk off cap : Nat) (zs : List Int) (w : World) (hH : Holds (Value.int .i64) w blk off zs.toArray) (hblk : blk < w.heap.size) (hsz : zs.length < 4611686018427387904) :
  Calls Tryz.prog 93 #[.slice (some ⟨blk, off, none⟩) zs.length cap] w fun e w' =>
   e = .returned (.tuple #[]) ∧ ∃ n os, w' = grow (putRow (Value.int .i64) (Sort.ahead w n) blk off (zs.mergeSort fun x y => decide (x ≤ y)).toArray) os := Any.slices_Sort_int laysS blk off cap zs w hH hblk hsz
theorem sortsE : Sorts E.P 93 := fun blk off cap zs w hH hb hs => sort_int blk off cap zs w hH hb hs
theorem K141 (xs : List Int) (n cap el lvl i : Nat) (h : Heap) (fl ex : Bool) (hn : xs.length = n) (h0 : 0 < n) (hm : n ≤ 4000000) (hi : h[i]? = some (some ⟨xs.map fun z => AC.v (.int .i64 z), n, el, fl, .cells⟩)) (hlv : lvl ≤ i) : COut E lvl h 93 [.e (.one (.slc i 0 n 1 cap ex))] (.tup []) (h.set i (some ⟨(xs.mergeSort fun x y => decide (x ≤ y)).map fun z => AC.v (.int .i64 z), n, el, fl, .cells⟩)) := sort_bridge sortsE xs n cap el lvl i h fl ex hn h0 hm hi hlv
end Go.Proofs.YtneaafigbnjceaaGreatDoor.Bk
end

/-! SeTc -/
section
open Go Go.Ev
namespace Go.Proofs.YtneaafigbnjceaaGreatDoor.Bk
noncomputable section
set_option maxRecDepth 100000
set_option maxHeartbeats 20000000
def s79o (V : AccP) (U : List DT) (un : Nat) (ac : Bool) (_j : Nat → Value) : St := startK Tryz.f58 [] [(.e (.agg (zAc V ac U un)))]
def s93 (V : AccP) (U : List DT) (un : Nat) (ac : Bool) (t m : Int) (_j : Nat → Value) : St := startK Tryz.f56 [] [(.e (.agg (zAc V ac U un))), iI t, iI m]
def p79o_end (V : AccP) (un : Nat) (ac : Bool) (X : List AC) (j : Nat → Value) : St := ⟨[(zBk (accN V [(.v (.bool (ac))), (.slc 1 0 (un) 1 (un) false)]) 22 44), (zBf (X) (un) 3)], [(.code .ret)], mkT j [(2, (.e (.one (.ptr 0 0))))] 8 0⟩
theorem p79o (hE : EnvOk E) (V : AccP) (U : List DT) (un _n : Nat) (ac : Bool) (X : List AC) (h0 : COut E 0 [] 95 [(.e (.one (.dp (.s (U) (un) 1))))] (.e (.one (.slc 0 0 (un) 1 (un) false))) [(zBf (X) (un) 3)]) (h3 : True) (h5 : FlatB (some { cells := X, n := un, elem := (3 : TypeId), full := false, ext := AX.cells : AB }) ∧ True) (g0 : FlatC (X)) : Sg 0 0 (s79o V U un ac) (p79o_end V un ac X) := fun ho j =>
 oS hE [.run 3, (.ops [(2, (.cl [] [] [(.e (.one (.dp (.s (U) (un) 1))))] [] (.e (.one (.slc 0 0 (un) 1 (un) false))) [(zBf (X) (un) 3)] (.e (.one (.slc 2 0 (un) 1 (un) false))) [true] [(zBf (X) (un) 3)]))] []), .run 2] [2] (s' := fun j => ⟨[(zBk (accN V [(.v (.bool (ac))), (.slc 2 0 (un) 1 (un) false)]) 22 44), (zBk (accN V [(.v (.bool (ac))), (.slc 2 0 (un) 1 (un) false)]) 22 44), (zBf (X) (un) 3)], [(.code .ret)], mkT j [(2, (.e (.one (.ptr 1 0))))] 8 0⟩) (aP h0 <| aP (rfl : ([(.e (.one (.dp (.s (U) (un) 1))))] : List AV) = [(.e (.one (.dp (.s (U) (un) 1))))]) <| aP (rfl : ([] : List (Option (Option AB))) = []) <| aP h3 <| aP (rfl : ([(.some (zBf (X) (un) 3))] : List (Option (Option AB))) = [(.some (zBf (X) (un) 3))]) <| aP h5 <| aP (rfl : ((.e (.one (.slc 2 0 (un) 1 (un) false))) : AV) = (.e (.one (.slc 2 0 (un) 1 (un) false)))) <| aZ)
  fun j => outK_gcF [1, 2] [false, true] (h' := [(zBk (accN V [(.v (.bool (ac))), (.slc 1 0 (un) 1 (un) false)]) 22 44), (zBf (X) (un) 3)]) (by decide) (by kernel_rfl) (by kernel_rfl) ⟨g0, trivial⟩ (by kernel_rfl) (ho j)
def p93_end (V : AccP) (N : Nat) (ac : Bool) (e g : Int) (D : List AC) (j : Nat → Value) : St := ⟨[(zBk [.v (.int .i64 g), .v (.int .i64 e), (.v (.int .i64 (V.s))), (.v (.int .i64 (V.e))), (.v (.int .u8 (V.k0))), (.v (.int .u8 (V.k1))), (.v (.int .u8 (V.k2))), (.v (.int .u8 (V.k3))), (.v (.int .u8 (V.k4))), (.v (.int .u8 (V.k5))), (.v (.int .u8 (V.k6))), (.v (.int .u8 (V.k7))), (.v (.int .u8 (V.m0))), (.v (.int .u8 (V.m1))), (.v (.int .u8 (V.m2))), (.v (.int .u8 (V.m3))), (.v (.int .u8 (V.m4))), (.v (.int .u8 (V.m5))), (.v (.int .u8 (V.m6))), (.v (.int .u8 (V.m7))), (.v (.bool (ac))), (.slc 1 0 (N) 1 (N) false)] 22 44), (zBf (D) (N) 3)], [(.code .ret)], mkT j [(6, (.e (.one (.ptr 0 0))))] 36 0⟩
theorem p93 (hE : EnvOk E) (V : AccP) (U : List DT) (un _n N : Nat) (ac : Bool) (t m e f g q : Int) (D X Y : List AC) (h0 : COut E 0 [] 92 [(.e (.agg (zAc V ac U un))), (iI (m))] (iI (q)) []) (h2 : COut E 0 [] 58 [(.e (.agg (zAc V ac U un)))] (.e (.agg (accN V [(.v (.bool (ac))), (.slc 0 0 (un) 1 (un) false)]))) [(zBf (X) (un) 3)]) (h5 : True) (h7 : FlatB (some { cells := X, n := un, elem := (3 : TypeId), full := false, ext := AX.cells : AB }) ∧ True) (h9 : ((iI (wrapF IntKind.i64 (V.d - q))) : AV) = (iI (e))) (h10 : ((iI (wrapF IntKind.i64 (m - q))) : AV) = (iI (f))) (h11 : ((iI (wrapF IntKind.i64 (V.b + f))) : AV) = (iI (g))) (h12 : ¬un + 1 ≤ un) (h13 : (small (un + 1) (1 : Nat) (8 : Nat) : Bool) = true) (h14 : (un : Nat) = un * nat_lit 1) (h15 : (appL X ((fun x => AC.v (Value.int IntKind.i64 t) :: x) []) : List AC) = Y) (h16 : (un + 1 : Nat) = N) (h17 : (N * nat_lit 1 : Nat) = N) (h18 : COut E 0 [(zBk (zAc V ac U un) 22 44), (zBk zAz 22 44), none, (zBk [.v (.int .i64 g), .v (.int .i64 e), (.v (.int .i64 (V.s))), (.v (.int .i64 (V.e))), (.v (.int .u8 (V.k0))), (.v (.int .u8 (V.k1))), (.v (.int .u8 (V.k2))), (.v (.int .u8 (V.k3))), (.v (.int .u8 (V.k4))), (.v (.int .u8 (V.k5))), (.v (.int .u8 (V.k6))), (.v (.int .u8 (V.k7))), (.v (.int .u8 (V.m0))), (.v (.int .u8 (V.m1))), (.v (.int .u8 (V.m2))), (.v (.int .u8 (V.m3))), (.v (.int .u8 (V.m4))), (.v (.int .u8 (V.m5))), (.v (.int .u8 (V.m6))), (.v (.int .u8 (V.m7))), (.v (.bool (ac))), (.slc 5 0 (N) 1 (N) false)] 22 44), (zBk [.v (.int .i64 t)] 1 3), (zBf (Y) (N) 3)] 93 [(.e (.one (.slc 5 0 (N) 1 (N) false)))] (.tup []) [(zBk (zAc V ac U un) 22 44), (zBk zAz 22 44), none, (zBk [.v (.int .i64 g), .v (.int .i64 e), (.v (.int .i64 (V.s))), (.v (.int .i64 (V.e))), (.v (.int .u8 (V.k0))), (.v (.int .u8 (V.k1))), (.v (.int .u8 (V.k2))), (.v (.int .u8 (V.k3))), (.v (.int .u8 (V.k4))), (.v (.int .u8 (V.k5))), (.v (.int .u8 (V.k6))), (.v (.int .u8 (V.k7))), (.v (.int .u8 (V.m0))), (.v (.int .u8 (V.m1))), (.v (.int .u8 (V.m2))), (.v (.int .u8 (V.m3))), (.v (.int .u8 (V.m4))), (.v (.int .u8 (V.m5))), (.v (.int .u8 (V.m6))), (.v (.int .u8 (V.m7))), (.v (.bool (ac))), (.slc 5 0 (N) 1 (N) false)] 22 44), (zBk [.v (.int .i64 t)] 1 3), (zBf (D) (N) 3)]) (g0 : FlatC (D)) : Sg 0 0 (s93 V U un ac t m) (p93_end V N ac e g D) := fun ho j =>
 oS hE [.run 3, (.ops [(2, (.c0 (iI (q))))] []), .run 1, (.ops [(1, (.cl [] [] [(.e (.agg (zAc V ac U un)))] [] (.e (.agg (accN V [(.v (.bool (ac))), (.slc 0 0 (un) 1 (un) false)]))) [(zBf (X) (un) 3)] (.e (.agg (accN V [(.v (.bool (ac))), (.slc 2 0 (un) 1 (un) false)]))) [true] [(zBf (X) (un) 3)]))] []), .run 1, (.ops [(3, (.rn (iI (e))))] []), .run 1, (.ops [(4, (.rn (iI (f)))), (5, (.rn (iI (g))))] []), .run 1, (.ops [(4, (.app (N) (N) (Y)))] []), .run 1, (.ops [(2, (.cw (.tup []) [(zBk (zAc V ac U un) 22 44), (zBk zAz 22 44), none, (zBk [.v (.int .i64 g), .v (.int .i64 e), (.v (.int .i64 (V.s))), (.v (.int .i64 (V.e))), (.v (.int .u8 (V.k0))), (.v (.int .u8 (V.k1))), (.v (.int .u8 (V.k2))), (.v (.int .u8 (V.k3))), (.v (.int .u8 (V.k4))), (.v (.int .u8 (V.k5))), (.v (.int .u8 (V.k6))), (.v (.int .u8 (V.k7))), (.v (.int .u8 (V.m0))), (.v (.int .u8 (V.m1))), (.v (.int .u8 (V.m2))), (.v (.int .u8 (V.m3))), (.v (.int .u8 (V.m4))), (.v (.int .u8 (V.m5))), (.v (.int .u8 (V.m6))), (.v (.int .u8 (V.m7))), (.v (.bool (ac))), (.slc 5 0 (N) 1 (N) false)] 22 44), (zBk [.v (.int .i64 t)] 1 3), (zBf (D) (N) 3)]))] []), .run 2] [6] (s' := fun j => ⟨[(zBk (zAc V ac U un) 22 44), (zBk [.v (.int .i64 g), .v (.int .i64 e), (.v (.int .i64 (V.s))), (.v (.int .i64 (V.e))), (.v (.int .u8 (V.k0))), (.v (.int .u8 (V.k1))), (.v (.int .u8 (V.k2))), (.v (.int .u8 (V.k3))), (.v (.int .u8 (V.k4))), (.v (.int .u8 (V.k5))), (.v (.int .u8 (V.k6))), (.v (.int .u8 (V.k7))), (.v (.int .u8 (V.m0))), (.v (.int .u8 (V.m1))), (.v (.int .u8 (V.m2))), (.v (.int .u8 (V.m3))), (.v (.int .u8 (V.m4))), (.v (.int .u8 (V.m5))), (.v (.int .u8 (V.m6))), (.v (.int .u8 (V.m7))), (.v (.bool (ac))), (.slc 5 0 (N) 1 (N) false)] 22 44), none, (zBk [.v (.int .i64 g), .v (.int .i64 e), (.v (.int .i64 (V.s))), (.v (.int .i64 (V.e))), (.v (.int .u8 (V.k0))), (.v (.int .u8 (V.k1))), (.v (.int .u8 (V.k2))), (.v (.int .u8 (V.k3))), (.v (.int .u8 (V.k4))), (.v (.int .u8 (V.k5))), (.v (.int .u8 (V.k6))), (.v (.int .u8 (V.k7))), (.v (.int .u8 (V.m0))), (.v (.int .u8 (V.m1))), (.v (.int .u8 (V.m2))), (.v (.int .u8 (V.m3))), (.v (.int .u8 (V.m4))), (.v (.int .u8 (V.m5))), (.v (.int .u8 (V.m6))), (.v (.int .u8 (V.m7))), (.v (.bool (ac))), (.slc 5 0 (N) 1 (N) false)] 22 44), (zBk [.v (.int .i64 t)] 1 3), (zBf (D) (N) 3)], [(.code .ret)], mkT j [(6, (.e (.one (.ptr 1 0))))] 36 0⟩) (aP h0 <| aN <| aP h2 <| aP (rfl : ([(.e (.agg (zAc V ac U un)))] : List AV) = [(.e (.agg (zAc V ac U un)))]) <| aP (rfl : ([] : List (Option (Option AB))) = []) <| aP h5 <| aP (rfl : ([(.some (zBf (X) (un) 3))] : List (Option (Option AB))) = [(.some (zBf (X) (un) 3))]) <| aP h7 <| aP (rfl : ((.e (.agg (accN V [(.v (.bool (ac))), (.slc 2 0 (un) 1 (un) false)]))) : AV) = (.e (.agg (accN V [(.v (.bool (ac))), (.slc 2 0 (un) 1 (un) false)])))) <| aP h9 <| aP h10 <| aP h11 <| aP h12 <| aP h13 <| aP h14 <| aP h15 <| aP h16 <| aP h17 <| aP h18 <| aZ)
  fun j => outK_gcF [1, 5] [false, true] (h' := [(zBk [.v (.int .i64 g), .v (.int .i64 e), (.v (.int .i64 (V.s))), (.v (.int .i64 (V.e))), (.v (.int .u8 (V.k0))), (.v (.int .u8 (V.k1))), (.v (.int .u8 (V.k2))), (.v (.int .u8 (V.k3))), (.v (.int .u8 (V.k4))), (.v (.int .u8 (V.k5))), (.v (.int .u8 (V.k6))), (.v (.int .u8 (V.k7))), (.v (.int .u8 (V.m0))), (.v (.int .u8 (V.m1))), (.v (.int .u8 (V.m2))), (.v (.int .u8 (V.m3))), (.v (.int .u8 (V.m4))), (.v (.int .u8 (V.m5))), (.v (.int .u8 (V.m6))), (.v (.int .u8 (V.m7))), (.v (.bool (ac))), (.slc 1 0 (N) 1 (N) false)] 22 44), (zBf (D) (N) 3)]) (by decide) (by kernel_rfl) (by kernel_rfl) ⟨g0, trivial⟩ (by kernel_rfl) (ho j)
theorem K79o (hE : EnvOk E) (V : AccP) (us : List Int) (n : Nat) (c : Bool) (hn : us.length = n) (h0 : 0 < n) (hm : n ≤ 1000) : COut E 0 [] 58 [accA V us n c] (.e (.agg (accN V [.v (.bool c), .slc 0 0 n 1 n false]))) [some ⟨iC us, n, 3, false, .cells⟩] := by
 have hc : COut E 0 [] 58 [accA V us n c] (.e (.agg (accN V [.v (.bool c), .slc 1 0 n 1 n false]))) [bK (accN V [.v (.bool c), .slc 1 0 n 1 n false]) 22 44, some ⟨iC us, n, 3, false, .cells⟩] := cOut_start Tryz.func58 rfl (p79o hE (V) (iD us) (n) 0 (c) (iC us) (K135n hE us n hn h0 (by omega)) (by first | rfl | trivial | exact flat_iC us | exact ⟨flat_iC us, trivial⟩) (by first | rfl | trivial | exact flat_iC us | exact ⟨flat_iC us, trivial⟩) (flat_iC us) (fun j => outK_ret (ends_ret (by kernel_rfl))) fun _ => undef)
 exact cOut_gcF [1] [true] (h' := [some ⟨iC us, n, 3, false, .cells⟩]) (Nat.le_refl _) hc (by kernel_rfl) (by rfl) (by exact ⟨flat_iC us, trivial⟩) (by rfl)
def credV (V : AccP) (m : Int) : AccP := { V with b := (wrapF .i64 (V.b + wrapF .i64 (m - paidI V m))), d := (wrapF .i64 (V.d - paidI V m)) }
def insI (us : List Int) (t : Int) : List Int := (us ++ [t]).mergeSort fun x y => decide (x ≤ y)
theorem insI_len (us : List Int) (t : Int) : (insI us t).length = us.length + 1 := by simp [insI]
theorem iC_eq (l : List Int) : iC l = l.map fun z => AC.v (.int .i64 z) := by simp [iD, DT.ac]
theorem K141c (us : List Int) (t : Int) (n cap el lvl i : Nat) (h : Heap) (fl ex : Bool) (hn : us.length + 1 = n) (hm : n ≤ 4000000) (hi : h[i]? = some (some ⟨iC (us ++ [t]), n, el, fl, .cells⟩)) (hlv : lvl ≤ i) : COut E lvl h 93 [.e (.one (.slc i 0 n 1 cap ex))] (.tup []) (h.set i (some ⟨iC (insI us t), n, el, fl, .cells⟩)) := by
 rw [iC_eq] at hi ⊢
 exact K141 (us ++ [t]) n cap el lvl i h fl ex (by simp [hn]) (by omega) hm hi hlv
theorem K93n (hE : EnvOk E) (V : AccP) (us : List Int) (n : Nat) (c : Bool) (hn : us.length = n) (h0 : 0 < n) (hm : n ≤ 1000) (t m : Int) : COut E 0 [] 56 [accA V us n c, iI t, iI m] (accA (credV V m) (insI us t) (n + 1) c) [] := by
 have hc : COut E 0 [] 56 [accA V us n c, iI t, iI m] (.e (.agg (accN (credV V m) [.v (.bool c), .slc 1 0 (n + 1) 1 (n + 1) false]))) [bK (accN (credV V m) [.v (.bool c), .slc 1 0 (n + 1) 1 (n + 1) false]) 22 44, some ⟨iC (insI us t), n + 1, 3, false, .cells⟩] := cOut_start Tryz.func56 rfl (p93 hE (V) (iD us) (n) 0 (n + 1) (c) (t) (m) ((wrapF .i64 (V.d - paidI V m))) (wrapF .i64 (m - paidI V m)) ((wrapF .i64 (V.b + wrapF .i64 (m - paidI V m)))) (paidI V m) (iC (insI us t)) (iC us) (iC (us ++ [t])) (K140 hE V us n c m) (K79o hE V us n c hn h0 hm) (by first | rfl | trivial | exact flat_iC us | exact ⟨flat_iC us, trivial⟩ | simp) (by first | rfl | trivial | exact flat_iC us | exact ⟨flat_iC us, trivial⟩ | simp) (by first | rfl | trivial | exact flat_iC us | exact ⟨flat_iC us, trivial⟩ | simp) (by first | rfl | trivial | exact flat_iC us | exact ⟨flat_iC us, trivial⟩ | simp) (by first | rfl | trivial | exact flat_iC us | exact ⟨flat_iC us, trivial⟩ | simp) (by omega) (by simp [small]; omega) (by first | rfl | trivial | exact flat_iC us | exact ⟨flat_iC us, trivial⟩ | simp) (by rw [appL_eq, iC_eq, iC_eq, List.map_append]; rfl) (by first | rfl | trivial | exact flat_iC us | exact ⟨flat_iC us, trivial⟩ | simp) (by first | rfl | trivial | exact flat_iC us | exact ⟨flat_iC us, trivial⟩ | simp) (K141c us t (n + 1) (n + 1) 3 0 5 _ false false (by omega) (by omega) rfl (by omega)) (flat_iC _) (fun j => outK_ret (ends_ret (by kernel_rfl))) fun _ => undef)
 exact cOut_clear (cOut_freeze 1 hc rfl (Nat.zero_le _) (ds := iD (insI us t)) ⟨.inl rfl, .inl rfl, .inl rfl, .inl rfl, .inl rfl, .inl rfl, .inl rfl, .inl rfl, .inl rfl, .inl rfl, .inl rfl, .inl rfl, .inl rfl, .inl rfl, .inl rfl, .inl rfl, .inl rfl, .inl rfl, .inl rfl, .inl rfl, .inl rfl, .inr ⟨0, n + 1, 1, n + 1, false, iD (insI us t), rfl, rfl, by rw [takeL_eq, dropL_eq, List.drop_zero, if_pos (by simp [insI_len, hn]), List.take_of_length_le (by simp [insI_len, hn])]⟩, trivial⟩) rfl
end
end Go.Proofs.YtneaafigbnjceaaGreatDoor.Bk
end

/-! SyIns -/
section
namespace Go.Ev
def insG (t : Int) : List Int → List Int
 | [] => [t]
 | x :: l => if x > t then t :: x :: l else x :: insG t l
theorem insG_perm (t : Int) : ∀ l, (insG t l).Perm (l ++ [t])
 | [] => List.Perm.refl _
 | x :: l => by
  unfold insG
  split
  ·exact (List.perm_append_singleton t (x :: l)).symm
  ·exact List.Perm.cons x (insG_perm t l)
theorem insG_mem (t y : Int) (l : List Int) : y ∈ insG t l ↔ y ∈ l ∨ y = t := by
 rw [(insG_perm t l).mem_iff]; simp
theorem insG_sorted (t : Int) : ∀ l, l.Pairwise (· ≤ ·) → (insG t l).Pairwise (· ≤ ·)
 | [], _ => by simp [insG]
 | x :: l, h => by
  obtain ⟨h1, h2⟩ := List.pairwise_cons.1 h
  unfold insG
  split
  ·rename_i hx
   refine List.pairwise_cons.2 ⟨fun y hy => ?_, h⟩
   rcases List.mem_cons.1 hy with rfl | hy
   ·omega
   ·have := h1 y hy; omega
  ·rename_i hx
   refine List.pairwise_cons.2 ⟨fun y hy => ?_, insG_sorted t l h2⟩
   rcases (insG_mem t y l).1 hy with hy | rfl
   ·exact h1 y hy
   ·omega
theorem perm_sorted_eq : ∀ {a b : List Int}, a.Perm b → a.Pairwise (· ≤ ·) → b.Pairwise (· ≤ ·) → a = b
 | [], b, h, _, _ => h.nil_eq
 | x :: a, [], h, _, _ => absurd h.length_eq (by simp)
 | x :: a, y :: b, h, ha, hb => by
  obtain ⟨a1, a2⟩ := List.pairwise_cons.1 ha
  obtain ⟨b1, b2⟩ := List.pairwise_cons.1 hb
  have hx : x ∈ y :: b := h.mem_iff.1 List.mem_cons_self
  have hy : y ∈ x :: a := h.mem_iff.2 List.mem_cons_self
  have e : x = y := by
   rcases List.mem_cons.1 hx with e | hx
   ·exact e
   ·rcases List.mem_cons.1 hy with e | hy
    ·exact e.symm
    ·have := b1 x hx; have := a1 y hy; omega
  subst e
  rw [perm_sorted_eq (List.Perm.cons_inv h) a2 b2]
theorem insG_sort (t : Int) (l : List Int) (h : l.Pairwise (· ≤ ·)) : (l ++ [t]).mergeSort (fun x y => decide (x ≤ y)) = insG t l := by
 refine perm_sorted_eq ((List.mergeSort_perm _ _).trans (insG_perm t l).symm) ?_ (insG_sorted t l h)
 have := List.pairwise_mergeSort (le := fun x y : Int => decide (x ≤ y)) (fun a b c => by simp only [decide_eq_true_eq]; omega) (fun a b => by simp only [Bool.or_eq_true, decide_eq_true_eq]; omega) (l ++ [t])
 exact this.imp fun h => by simpa using h
end Go.Ev
end

/-! SeTd -/
section
open Go Go.Ev
namespace Go.Proofs.YtneaafigbnjceaaGreatDoor.Bk
noncomputable section
set_option maxRecDepth 100000
set_option maxHeartbeats 20000000
theorem app1 (l : List Int) (x : Int) : appL (iC l) [AC.v (.int .i64 x)] = iC (l ++ [x]) := by rw [appL_eq, iC_eq l, iC_eq (l ++ [x]), List.map_append]; rfl
end
end Go.Proofs.YtneaafigbnjceaaGreatDoor.Bk
end

/-! SeTe -/
section
open Go Go.Ev
namespace Go.Proofs.YtneaafigbnjceaaGreatDoor.Bk
theorem rng0 {a b z : Int} (h : rngI a b z = 0) : a ≤ z ∧ z ≤ b := by
 unfold rngI at h
 split at h
 ·omega
 ·omega
theorem firstI_zero {l : List Int} (h : firstI l = 0) : ∀ x ∈ l, x = 0 := by
 induction l with
 | nil => simp
 | cons a l ih =>
  intro x hx
  unfold firstI at h
  split at h
  ·rename_i ha
   rcases List.mem_cons.1 hx with rfl | hx
   ·exact ha
   ·exact ih h x hx
  ·rename_i ha; exact absurd h ha
structure OkA (V : AccP) : Prop where
 b : -1000000000000 ≤ V.b ∧ V.b ≤ 1000000000000
 d : 0 ≤ V.d ∧ V.d ≤ 1000000000000
 s : 0 ≤ V.s ∧ V.s ≤ 100
theorem okA {V : AccP} {us : List Int} {n : Nat} {c : Bool} (h : chkA V us n c = 0) : OkA V :=
 have f := firstI_zero h
 ⟨rng0 (f _ (by simp)), rng0 (f _ (by simp)), rng0 (f _ (by simp))⟩
theorem pay_le {V : AccP} (hV : OkA V) {m : Int} (hm : 1 ≤ m ∧ m ≤ 100000000) : 0 ≤ paidI V m ∧ paidI V m ≤ m ∧ paidI V m ≤ V.d := by
 have h0 : 0 ≤ m * V.s := Int.mul_nonneg (by omega) hV.s.1
 have h1 : m * V.s ≤ m * 100 := Int.mul_le_mul_of_nonneg_left hV.s.2 (by omega)
 have hd := hV.d
 unfold paidI
 rw [wrap_id (n := m * V.s) (by omega) (by omega)]
 have h2 : (m * V.s).tdiv 100 = (m * V.s) / 100 := Int.tdiv_eq_ediv_of_nonneg h0
 rw [h2]
 have h3 : 0 ≤ (m * V.s) / 100 := by omega
 have h4 : (m * V.s) / 100 ≤ m := by omega
 rw [wrap_id (by omega) (by omega)]
 split <;> omega
end Go.Proofs.YtneaafigbnjceaaGreatDoor.Bk
end

/-! SeTf -/
section
open Go Go.Ev
namespace Go.Proofs.YtneaafigbnjceaaGreatDoor.Bk
noncomputable section
set_option maxRecDepth 100000
set_option maxHeartbeats 20000000
def s23 (V : AccP) (U : List DT) (un : Nat) (ac : Bool) (t m s0 s1 s2 s3 s4 s5 s6 s7 : Int) (_j : Nat → Value) : St := startK Tryz.f13 [] [(.e (.agg (zAc V ac U un))), (.e (.agg (zTk t m s0 s1 s2 s3 s4 s5 s6 s7)))]
def p23e_end (k : Int) (j : Nat → Value) : St := ⟨[(zBk zAz 22 44)], [(.code .ret), (.code (atC [1, 1] (bodyOf Tryz.f13)))], mkT j [(4, (.e (.one (.ptr 0 0)))), (5, (iI (k)))] 26 0⟩
theorem p23e (hE : EnvOk E) (V : AccP) (U : List DT) (un : Nat) (ac : Bool) (t m e f g k s0 s1 s2 s3 s4 s5 s6 s7 : Int) (h0 : COut E 0 [] 54 [(.e (.agg (zAc V ac U un)))] (iI (e)) []) (h2 : COut E 0 [] 48 [(.e (.agg (zTk t m s0 s1 s2 s3 s4 s5 s6 s7)))] (iI (f)) []) (h5 : COut E 0 [] 55 [(.e (.agg (zAc V ac U un))), (.e (.agg (zTk t m s0 s1 s2 s3 s4 s5 s6 s7)))] (iI (g)) []) (h7 : COut E 4 [(zBk (zAc V ac U un) 22 44), (zBk (zTk t m s0 s1 s2 s3 s4 s5 s6 s7) 10 35), (zBk zAz 22 44), (zBk [.v (.int .i64 e), .v (.int .i64 f), .v (.int .i64 g)] 3 36)] 53 [(.e (.one (.slc 3 0 3 1 3 true)))] (iI (k)) [(zBk (zAc V ac U un) 22 44), (zBk (zTk t m s0 s1 s2 s3 s4 s5 s6 s7) 10 35), (zBk zAz 22 44), (zBk [.v (.int .i64 e), .v (.int .i64 f), .v (.int .i64 g)] 3 36)]) (h9 : (k != (0 : Int) : Bool) = true) : Sg 0 0 (s23 V U un ac t m s0 s1 s2 s3 s4 s5 s6 s7) (p23e_end k) := fun ho j =>
 oS hE [.run 4, (.ops [(1, (.c0 (iI (e)))), (3, (.c0 (iI (f)))), (6, (.c0 (iI (g)))), (8, (.d (.c1 (iI (k)))))] []), .run 2, (.cond true), .run 2] [4, 5] (s' := fun j => ⟨[(zBk (zAc V ac U un) 22 44), (zBk (zTk t m s0 s1 s2 s3 s4 s5 s6 s7) 10 35), (zBk zAz 22 44), (zBk [.v (.int .i64 e), .v (.int .i64 f), .v (.int .i64 g)] 3 36)], [(.code .ret), (.code (atC [1, 1] (bodyOf Tryz.f13)))], mkT j [(4, (.e (.one (.ptr 2 0)))), (5, (iI (k)))] 26 0⟩) (aP h0 <| aN <| aP h2 <| aN <| aP (rfl : (true : Bool) = true) <| aP h5 <| aN <| aP h7 <| aN <| aP h9 <| aZ)
  fun j => gZ [2] (ho j)
def p23o_end (W : AccP) (C : List DT) (n : Nat) (ac : Bool) (j : Nat → Value) : St := ⟨[(zBk (zAc W ac C n) 22 44)], [(.code .ret)], mkT j [(4, (.e (.one (.ptr 0 0)))), (5, (iI 0))] 26 0⟩
theorem p23o (hE : EnvOk E) (V W : AccP) (C U : List DT) (un n : Nat) (ac : Bool) (t m e f g k s0 s1 s2 s3 s4 s5 s6 s7 : Int) (h0 : COut E 0 [] 54 [(.e (.agg (zAc V ac U un)))] (iI (e)) []) (h2 : COut E 0 [] 48 [(.e (.agg (zTk t m s0 s1 s2 s3 s4 s5 s6 s7)))] (iI (f)) []) (h5 : COut E 0 [] 55 [(.e (.agg (zAc V ac U un))), (.e (.agg (zTk t m s0 s1 s2 s3 s4 s5 s6 s7)))] (iI (g)) []) (h7 : COut E 4 [(zBk (zAc V ac U un) 22 44), (zBk (zTk t m s0 s1 s2 s3 s4 s5 s6 s7) 10 35), (zBk zAz 22 44), (zBk [.v (.int .i64 e), .v (.int .i64 f), .v (.int .i64 g)] 3 36)] 53 [(.e (.one (.slc 3 0 3 1 3 true)))] (iI (k)) [(zBk (zAc V ac U un) 22 44), (zBk (zTk t m s0 s1 s2 s3 s4 s5 s6 s7) 10 35), (zBk zAz 22 44), (zBk [.v (.int .i64 e), .v (.int .i64 f), .v (.int .i64 g)] 3 36)]) (h9 : (k != (0 : Int) : Bool) = false) (h10 : COut E 0 [] 56 [(.e (.agg (zAc V ac U un))), (iI (t)), (iI (m))] (.e (.agg (zAc W ac C n))) []) : Sg 0 0 (s23 V U un ac t m s0 s1 s2 s3 s4 s5 s6 s7) (p23o_end W C n ac) := fun ho j =>
 oS hE [.run 4, (.ops [(1, (.c0 (iI (e)))), (3, (.c0 (iI (f)))), (6, (.c0 (iI (g)))), (8, (.d (.c1 (iI (k)))))] []), .run 2, (.cond false), .run 2, (.ops [(5, (.c0 (.e (.agg (zAc W ac C n)))))] [])] [4, 5] (s' := fun j => ⟨[(zBk (zAc V ac U un) 22 44), (zBk (zTk t m s0 s1 s2 s3 s4 s5 s6 s7) 10 35), (zBk (zAc W ac C n) 22 44), (zBk [.v (.int .i64 e), .v (.int .i64 f), .v (.int .i64 g)] 3 36)], [(.code .ret)], mkT j [(4, (.e (.one (.ptr 2 0)))), (5, (iI 0))] 26 0⟩) (aP h0 <| aN <| aP h2 <| aN <| aP (rfl : (true : Bool) = true) <| aP h5 <| aN <| aP h7 <| aN <| aP h9 <| aP h10 <| aN <| aZ)
  fun j => gZ [2] (ho j)
theorem K23e (hE : EnvOk E) (V : AccP) (hV : KeyB V) (us : List Int) (c : Bool) (hm : us.length ≤ 1000) (t m s0 s1 s2 s3 s4 s5 s6 s7 k : Int) (h : firstI [chkA V us us.length c, chkT t m, crI V c us us.length t m [s0, s1, s2, s3, s4, s5, s6, s7]] = k) (hk : k ≠ 0) : COut E 0 [] 13 [accA V us us.length c, tokA t m s0 s1 s2 s3 s4 s5 s6 s7] (.tup [.agg zAz, .one (.v (.int .i64 k))]) [] := by
 have k76 := K76 hE [chkA V us us.length c, chkT t m, crI V c us us.length t m [s0, s1, s2, s3, s4, s5, s6, s7]] (by simp)
 rw [h] at k76
 exact cOut_clear (cOut_start Tryz.func13 rfl (p23e hE (V) (iD us) (us.length) (c) (t) (m) (chkA V us us.length c) (chkT t m) (crI V c us us.length t m [s0, s1, s2, s3, s4, s5, s6, s7]) (k) (s0) (s1) (s2) (s3) (s4) (s5) (s6) (s7) (K20 hE V us _ c rfl (by omega)) (K91 hE t m s0 s1 s2 s3 s4 s5 s6 s7) (K92 hE V hV us _ c rfl (by omega) t m s0 s1 s2 s3 s4 s5 s6 s7) (lend2 4 hE 53 _ _ 36 true k76 _ 3 rfl) (bne_iff_ne.2 hk) (fun j => outK_ret (ends_ret (by kernel_rfl))) fun _ => undef)) rfl
theorem K23o (hE : EnvOk E) (V W : AccP) (hV : KeyB V) (us ws : List Int) (c : Bool) (hm : us.length ≤ 1000) (t m s0 s1 s2 s3 s4 s5 s6 s7 : Int) (h : firstI [chkA V us us.length c, chkT t m, crI V c us us.length t m [s0, s1, s2, s3, s4, s5, s6, s7]] = 0) (h93 : COut E 0 [] 56 [accA V us us.length c, iI t, iI m] (accA W ws ws.length c) []) : COut E 0 [] 13 [accA V us us.length c, tokA t m s0 s1 s2 s3 s4 s5 s6 s7] (.tup [.agg (accN W [.v (.bool c), .dp (.s (iD ws) ws.length 1)]), .one (.v (.int .i64 0))]) [] := by
 have k76 := K76 hE [chkA V us us.length c, chkT t m, crI V c us us.length t m [s0, s1, s2, s3, s4, s5, s6, s7]] (by simp)
 rw [h] at k76
 exact cOut_clear (cOut_start Tryz.func13 rfl (p23o hE (V) (W) (iD ws) (iD us) (us.length) (ws.length) (c) (t) (m) (chkA V us us.length c) (chkT t m) (crI V c us us.length t m [s0, s1, s2, s3, s4, s5, s6, s7]) (0) (s0) (s1) (s2) (s3) (s4) (s5) (s6) (s7) (K20 hE V us _ c rfl (by omega)) (K91 hE t m s0 s1 s2 s3 s4 s5 s6 s7) (K92 hE V hV us _ c rfl (by omega) t m s0 s1 s2 s3 s4 s5 s6 s7) (lend2 4 hE 53 _ _ 36 true k76 _ 3 rfl) rfl h93 (fun j => outK_ret (ends_ret (by kernel_rfl))) fun _ => undef)) rfl
end
end Go.Proofs.YtneaafigbnjceaaGreatDoor.Bk
end

/-! SeTg -/
section
open Go Go.Ev
namespace Go.Proofs.YtneaafigbnjceaaGreatDoor.Bk
noncomputable section
set_option maxRecDepth 100000
set_option maxHeartbeats 20000000
abbrev ztTg2 : List Item := [(.code (atC [1, 0, 1, 0, 0] (bodyOf Tryz.f94))), (.inLoop (atC [1, 0, 1, 0, 0] (bodyOf Tryz.f94))), (.inBlock 0), (.code (atC [1, 1] (bodyOf Tryz.f94)))]
def s93v (V : AccP) (cp : Nat) (ac : Bool) (t m : Int) (_j : Nat → Value) : St := startK Tryz.f56 [] [(.e (.agg (accN V [.v (.bool ac), .v (.slice none 0 cp)]))), iI t, iI m]
def s93w (V : AccP) (cp : Nat) (ad : Addr) (ac : Bool) (t m : Int) (_j : Nat → Value) : St := startK Tryz.f56 [] [(.e (.agg (accN V [.v (.bool ac), .v (.slice (some ad) 0 cp)]))), iI t, iI m]
def s142 (C : List DT) (n : Nat) (_j : Nat → Value) : St := startK Tryz.f94 [] [(.e (.one (.dp (.s C n 10)))), .e (.one (.v (.func (.func 48) #[] #[])))]
def s94 (C : List DT) (n : Nat) (x : Int) (_j : Nat → Value) : St := startK Tryz.f57 [] [(.e (.one (.dp (.s C n 10)))), iI x, .e (.one (.v (.func (.func 48) #[] #[])))]
def s140u (V : AccP) (uv : Value) (ac : Bool) (m : Int) (_j : Nat → Value) : St := startK Tryz.f92 [] [(.e (.agg (accN V [.v (.bool ac), .v uv]))), iI m]
def s135w (cp : Nat) (ad : Addr) (_j : Nat → Value) : St := startK Tryz.f95 [] [(.e (.one (.v (.slice (some ad) 0 cp))))]
def s79w (V : AccP) (cp : Nat) (ad : Addr) (ac : Bool) (_j : Nat → Value) : St := startK Tryz.f58 [] [(.e (.agg (accN V [.v (.bool ac), .v (.slice (some ad) 0 cp)])))]
def q142 (C : List DT) (n i : Nat) (j : Nat → Value) : St := ⟨[], ztTg2, mkT j [(1, (.e (.one (.v (.func (.func 48) #[] #[]))))), (8, (.e (.one (.dp (.s (C) (n) 10))))), (9, (iI (Int.ofNat n))), (10, (iI (Int.ofNat i)))] 21 0⟩
def p140u_end (e : Int) (j : Nat → Value) : St := ⟨[], [(.code .ret)], mkT j [(4, (iI (e)))] 13 0⟩
theorem p140u (hE : EnvOk E) (V : AccP) (uv : Value) (ac : Bool) (m e x q : Int) (h0 : ((iI (wrapF IntKind.i64 (m * V.s))) : AV) = (iI (x))) (h1 : ((100 : Int) : Int) ≠ (0 : Int)) (h2 : (wrapF IntKind.i64 (x.tdiv (100 : Int)) : Int) = q) (h3 : ((iI (if q < V.d then q else V.d)) : AV) = (iI (e))) : Sg 0 0 (s140u V uv ac m) (p140u_end e) := fun ho j =>
 oS hE [.run 3, (.ops [(5, (.rn (iI (x)))), (6, (.quo (q))), (7, (.rn (iI (e))))] [])] [4] (s' := fun j => ⟨[(zBk (accN V [(.v (.bool (ac))), (.v (uv))]) 22 44)], [(.code .ret)], mkT j [(4, (iI (e)))] 13 0⟩) (aP h0 <| aP h1 <| aP h2 <| aP h3 <| aZ)
  fun j => gZ [] (ho j)
def p135w_end (j : Nat → Value) : St := ⟨[(zBk [] 0 3)], [(.code .ret)], mkT j [(2, (.e (.one (.slc 0 0 0 1 0 true))))] 8 0⟩
theorem p135w (hE : EnvOk E) (cp : Nat) (ad : Addr) : Sg 0 0 (s135w cp ad) (p135w_end) := fun ho j =>
 oS hE [.run 8, (.ops [(2, .apz)] [])] [2] (ps := []) trivial
  ho
def p79w_end (V : AccP) (ac : Bool) (j : Nat → Value) : St := ⟨[(zBk (accN V [(.v (.bool (ac))), (.slc 1 0 0 1 0 true)]) 22 44), (zBk [] 0 3)], [(.code .ret)], mkT j [(2, (.e (.one (.ptr 0 0))))] 8 0⟩
theorem p79w (hE : EnvOk E) (V : AccP) (_n cp : Nat) (ad : Addr) (ac : Bool) (h0 : COut E 0 [] 95 [(.e (.one (.v (.slice (.some (ad)) 0 (cp)))))] (.e (.one (.slc 0 0 0 1 0 true))) [(zBk [] 0 3)]) (h3 : True) (h5 : FlatB (some { cells := [], n := (0 : Nat), elem := (3 : TypeId), full := true, ext := AX.cells : AB }) ∧ True) : Sg 0 0 (s79w V cp ad ac) (p79w_end V ac) := fun ho j =>
 oS hE [.run 3, (.ops [(2, (.cl [] [] [(.e (.one (.v (.slice (.some (ad)) 0 (cp)))))] [] (.e (.one (.slc 0 0 0 1 0 true))) [(zBk [] 0 3)] (.e (.one (.slc 2 0 0 1 0 true))) [true] [(zBk [] 0 3)]))] []), .run 2] [2] (s' := fun j => ⟨[(zBk (accN V [(.v (.bool (ac))), (.slc 2 0 0 1 0 true)]) 22 44), (zBk (accN V [(.v (.bool (ac))), (.slc 2 0 0 1 0 true)]) 22 44), (zBk [] 0 3)], [(.code .ret)], mkT j [(2, (.e (.one (.ptr 1 0))))] 8 0⟩) (aP h0 <| aP (rfl : ([(.e (.one (.v (.slice (.some (ad)) 0 (cp)))))] : List AV) = [(.e (.one (.v (.slice (.some (ad)) 0 (cp)))))]) <| aP (rfl : ([] : List (Option (Option AB))) = []) <| aP h3 <| aP (rfl : ([(.some (zBk [] 0 3))] : List (Option (Option AB))) = [(.some (zBk [] 0 3))]) <| aP h5 <| aP (rfl : ((.e (.one (.slc 2 0 0 1 0 true))) : AV) = (.e (.one (.slc 2 0 0 1 0 true)))) <| aZ)
  fun j => gZ [1, 2] (ho j)
def p93v_end (V : AccP) (ac : Bool) (t e g : Int) (j : Nat → Value) : St := ⟨[(zBk [.v (.int .i64 g), .v (.int .i64 e), (.v (.int .i64 (V.s))), (.v (.int .i64 (V.e))), (.v (.int .u8 (V.k0))), (.v (.int .u8 (V.k1))), (.v (.int .u8 (V.k2))), (.v (.int .u8 (V.k3))), (.v (.int .u8 (V.k4))), (.v (.int .u8 (V.k5))), (.v (.int .u8 (V.k6))), (.v (.int .u8 (V.k7))), (.v (.int .u8 (V.m0))), (.v (.int .u8 (V.m1))), (.v (.int .u8 (V.m2))), (.v (.int .u8 (V.m3))), (.v (.int .u8 (V.m4))), (.v (.int .u8 (V.m5))), (.v (.int .u8 (V.m6))), (.v (.int .u8 (V.m7))), (.v (.bool (ac))), (.slc 1 0 1 1 1 false)] 22 44), (zBf [.v (.int .i64 t)] 1 3)], [(.code .ret)], mkT j [(6, (.e (.one (.ptr 0 0))))] 36 0⟩
theorem p93v (hE : EnvOk E) (V : AccP) (cp : Nat) (ac : Bool) (t m e f g q : Int) (h0 : COut E 0 [] 92 [(.e (.agg (accN V [(.v (.bool (ac))), (.v (.slice none 0 (cp)))]))), (iI (m))] (iI (q)) []) (h2 : ((iI (wrapF IntKind.i64 (V.d - q))) : AV) = (iI (e))) (h3 : ((iI (wrapF IntKind.i64 (m - q))) : AV) = (iI (f))) (h4 : ((iI (wrapF IntKind.i64 (V.b + f))) : AV) = (iI (g))) : Sg 0 0 (s93v V cp ac t m) (p93v_end V ac t e g) := fun ho j =>
 outK_seg hE (R4_ok hE) [.run 3, (.ops [(2, (.c0 (iI (q))))] []), .run 3, (.ops [(3, (.rn (iI (e))))] []), .run 1, (.ops [(4, (.rn (iI (f)))), (5, (.rn (iI (g))))] []), .run 6] [6] (s' := fun j => ⟨[(zBk (accN V [(.v (.bool (ac))), (.v (.slice none 0 (cp)))]) 22 44), (zBk [.v (.int .i64 g), .v (.int .i64 e), (.v (.int .i64 (V.s))), (.v (.int .i64 (V.e))), (.v (.int .u8 (V.k0))), (.v (.int .u8 (V.k1))), (.v (.int .u8 (V.k2))), (.v (.int .u8 (V.k3))), (.v (.int .u8 (V.k4))), (.v (.int .u8 (V.k5))), (.v (.int .u8 (V.k6))), (.v (.int .u8 (V.k7))), (.v (.int .u8 (V.m0))), (.v (.int .u8 (V.m1))), (.v (.int .u8 (V.m2))), (.v (.int .u8 (V.m3))), (.v (.int .u8 (V.m4))), (.v (.int .u8 (V.m5))), (.v (.int .u8 (V.m6))), (.v (.int .u8 (V.m7))), (.v (.bool (ac))), (.slc 4 0 1 1 1 false)] 22 44), (zBk [.v (.int .i64 g), .v (.int .i64 e), (.v (.int .i64 (V.s))), (.v (.int .i64 (V.e))), (.v (.int .u8 (V.k0))), (.v (.int .u8 (V.k1))), (.v (.int .u8 (V.k2))), (.v (.int .u8 (V.k3))), (.v (.int .u8 (V.k4))), (.v (.int .u8 (V.k5))), (.v (.int .u8 (V.k6))), (.v (.int .u8 (V.k7))), (.v (.int .u8 (V.m0))), (.v (.int .u8 (V.m1))), (.v (.int .u8 (V.m2))), (.v (.int .u8 (V.m3))), (.v (.int .u8 (V.m4))), (.v (.int .u8 (V.m5))), (.v (.int .u8 (V.m6))), (.v (.int .u8 (V.m7))), (.v (.bool (ac))), (.slc 4 0 1 1 1 false)] 22 44), (zBk [.v (.int .i64 t)] 1 3), (zBf [.v (.int .i64 t)] 1 3)], [(.code .ret)], mkT j [(6, (.e (.one (.ptr 1 0))))] 36 0⟩) (fun j => by kernel_rfl) (aP h0 <| aN <| aP h2 <| aP h3 <| aP h4 <| aZ)
  fun j => gZ [1, 4] (ho j)
def p93w_end (V : AccP) (ac : Bool) (t e g : Int) (j : Nat → Value) : St := ⟨[(zBk [.v (.int .i64 g), .v (.int .i64 e), (.v (.int .i64 (V.s))), (.v (.int .i64 (V.e))), (.v (.int .u8 (V.k0))), (.v (.int .u8 (V.k1))), (.v (.int .u8 (V.k2))), (.v (.int .u8 (V.k3))), (.v (.int .u8 (V.k4))), (.v (.int .u8 (V.k5))), (.v (.int .u8 (V.k6))), (.v (.int .u8 (V.k7))), (.v (.int .u8 (V.m0))), (.v (.int .u8 (V.m1))), (.v (.int .u8 (V.m2))), (.v (.int .u8 (V.m3))), (.v (.int .u8 (V.m4))), (.v (.int .u8 (V.m5))), (.v (.int .u8 (V.m6))), (.v (.int .u8 (V.m7))), (.v (.bool (ac))), (.slc 1 0 1 1 1 false)] 22 44), (zBf [.v (.int .i64 t)] 1 3)], [(.code .ret)], mkT j [(6, (.e (.one (.ptr 0 0))))] 36 0⟩
theorem p93w (hE : EnvOk E) (V : AccP) (_n cp : Nat) (ad : Addr) (ac : Bool) (t m e f g q : Int) (h0 : COut E 0 [] 92 [(.e (.agg (accN V [(.v (.bool (ac))), (.v (.slice (.some (ad)) 0 (cp)))]))), (iI (m))] (iI (q)) []) (h2 : COut E 0 [] 58 [(.e (.agg (accN V [(.v (.bool (ac))), (.v (.slice (.some (ad)) 0 (cp)))])))] (.e (.agg (accN V [(.v (.bool (ac))), (.slc 0 0 0 1 0 true)]))) [(zBk [] 0 3)]) (h5 : True) (h7 : FlatB (some { cells := [], n := (0 : Nat), elem := (3 : TypeId), full := true, ext := AX.cells : AB }) ∧ True) (h9 : ((iI (wrapF IntKind.i64 (V.d - q))) : AV) = (iI (e))) (h10 : ((iI (wrapF IntKind.i64 (m - q))) : AV) = (iI (f))) (h11 : ((iI (wrapF IntKind.i64 (V.b + f))) : AV) = (iI (g))) : Sg 0 0 (s93w V cp ad ac t m) (p93w_end V ac t e g) := fun ho j =>
 outK_seg hE (R4_ok hE) [.run 3, (.ops [(2, (.c0 (iI (q))))] []), .run 1, (.ops [(1, (.cl [] [] [(.e (.agg (accN V [(.v (.bool (ac))), (.v (.slice (.some (ad)) 0 (cp)))])))] [] (.e (.agg (accN V [(.v (.bool (ac))), (.slc 0 0 0 1 0 true)]))) [(zBk [] 0 3)] (.e (.agg (accN V [(.v (.bool (ac))), (.slc 2 0 0 1 0 true)]))) [true] [(zBk [] 0 3)]))] []), .run 1, (.ops [(3, (.rn (iI (e))))] []), .run 1, (.ops [(4, (.rn (iI (f)))), (5, (.rn (iI (g))))] []), .run 6] [6] (s' := fun j => ⟨[(zBk (accN V [(.v (.bool (ac))), (.v (.slice (.some (ad)) 0 (cp)))]) 22 44), (zBk [.v (.int .i64 g), .v (.int .i64 e), (.v (.int .i64 (V.s))), (.v (.int .i64 (V.e))), (.v (.int .u8 (V.k0))), (.v (.int .u8 (V.k1))), (.v (.int .u8 (V.k2))), (.v (.int .u8 (V.k3))), (.v (.int .u8 (V.k4))), (.v (.int .u8 (V.k5))), (.v (.int .u8 (V.k6))), (.v (.int .u8 (V.k7))), (.v (.int .u8 (V.m0))), (.v (.int .u8 (V.m1))), (.v (.int .u8 (V.m2))), (.v (.int .u8 (V.m3))), (.v (.int .u8 (V.m4))), (.v (.int .u8 (V.m5))), (.v (.int .u8 (V.m6))), (.v (.int .u8 (V.m7))), (.v (.bool (ac))), (.slc 5 0 1 1 1 false)] 22 44), (zBk [] 0 3), (zBk [.v (.int .i64 g), .v (.int .i64 e), (.v (.int .i64 (V.s))), (.v (.int .i64 (V.e))), (.v (.int .u8 (V.k0))), (.v (.int .u8 (V.k1))), (.v (.int .u8 (V.k2))), (.v (.int .u8 (V.k3))), (.v (.int .u8 (V.k4))), (.v (.int .u8 (V.k5))), (.v (.int .u8 (V.k6))), (.v (.int .u8 (V.k7))), (.v (.int .u8 (V.m0))), (.v (.int .u8 (V.m1))), (.v (.int .u8 (V.m2))), (.v (.int .u8 (V.m3))), (.v (.int .u8 (V.m4))), (.v (.int .u8 (V.m5))), (.v (.int .u8 (V.m6))), (.v (.int .u8 (V.m7))), (.v (.bool (ac))), (.slc 5 0 1 1 1 false)] 22 44), (zBk [.v (.int .i64 t)] 1 3), (zBf [.v (.int .i64 t)] 1 3)], [(.code .ret)], mkT j [(6, (.e (.one (.ptr 1 0))))] 36 0⟩) (fun j => by kernel_rfl) (aP h0 <| aN <| aP h2 <| aP (rfl : ([(.e (.agg (accN V [(.v (.bool (ac))), (.v (.slice (.some (ad)) 0 (cp)))])))] : List AV) = [(.e (.agg (accN V [(.v (.bool (ac))), (.v (.slice (.some (ad)) 0 (cp)))])))]) <| aP (rfl : ([] : List (Option (Option AB))) = []) <| aP h5 <| aP (rfl : ([(.some (zBk [] 0 3))] : List (Option (Option AB))) = [(.some (zBk [] 0 3))]) <| aP h7 <| aP (rfl : ((.e (.agg (accN V [(.v (.bool (ac))), (.slc 2 0 0 1 0 true)]))) : AV) = (.e (.agg (accN V [(.v (.bool (ac))), (.slc 2 0 0 1 0 true)])))) <| aP h9 <| aP h10 <| aP h11 <| aZ)
  fun j => gZ [1, 5] (ho j)
def p142a_end (C : List DT) (n : Nat) (j : Nat → Value) : St := ⟨[], ztTg2, mkT j [(1, (.e (.one (.v (.func (.func 48) #[] #[]))))), (8, (.e (.one (.dp (.s (C) (n) 10))))), (9, (iI (Int.ofNat n))), (10, (iI 0))] 21 0⟩
theorem p142a (hE : EnvOk E) (C : List DT) (n : Nat) : Sg 0 0 (s142 C n) (p142a_end C n) := fun ho j =>
 oS hE [.run 4, (.ops [(1, (.d .len))] []), .run 2] [1, 8, 9, 10] (ps := []) trivial
  ho
def p94s_end (e : Int) (j : Nat → Value) : St := ⟨[], [(.code .ret)], mkT j [(6, (iI (e)))] 14 0⟩
theorem p94s (hE : EnvOk E) (C : List DT) (n : Nat) (e x : Int) (h0 : (decide ((↑n : Int) > x) : Bool) = false) (h1 : COut E 0 [] 94 [(.e (.one (.dp (.s (C) (n) 10)))), (.e (.one (.v (.func (.func 48) #[] #[]))))] (iI (e)) []) : Sg 0 0 (s94 C n x) (p94s_end e) := fun ho j =>
 oS hE [.run 4, (.ops [(1, (.d .len))] []), (.cond false), .run 2, (.ops [(2, (.c0 (iI (e))))] [])] [6] (aP h0 <| aP h1 <| aN <| aZ)
  ho
def p94m_end (j : Nat → Value) : St := ⟨[], [(.code .ret), (.code (atC [1, 1] (bodyOf Tryz.f57)))], mkT j [(6, (iI 5))] 14 0⟩
theorem p94m (hE : EnvOk E) (C : List DT) (n : Nat) (x : Int) (h0 : (decide ((↑n : Int) > x) : Bool) = true) : Sg 0 0 (s94 C n x) (p94m_end) := fun ho j =>
 oS hE [.run 4, (.ops [(1, (.d .len))] []), (.cond true), .run 2] [6] (aP h0 <| aZ)
  ho
def p142s_end (C : List DT) (n i : Nat) (j : Nat → Value) : St := ⟨[], ztTg2, mkT j [(1, (.e (.one (.v (.func (.func 48) #[] #[]))))), (8, (.e (.one (.dp (.s (C) (n) 10))))), (9, (iI (Int.ofNat n))), (10, (iI (Int.ofNat (i + 1))))] 21 0⟩
theorem p142s (hE : EnvOk E) (C : List DT) (n i : Nat) (t m e s0 s1 s2 s3 s4 s5 s6 s7 : Int) (h0 : (decide (Int.ofNat i < Int.ofNat n) : Bool) = true) (h1 : (0 : Int) ≤ Int.ofNat i ∧ Int.ofNat i < (↑n : Int)) (h2 : ((Int.ofNat i).toNat * nat_lit 10 : Nat) = i.mul (nat_lit 10)) (h3 : (takeL (dropL C (i.mul (nat_lit 10))) (10 : Nat) : Option (List DT)) = (.some (zTkd t m s0 s1 s2 s3 s4 s5 s6 s7))) (h4 : COut E 0 [] 48 [(.e (.agg (zTk t m s0 s1 s2 s3 s4 s5 s6 s7)))] (iI (e)) []) (h6 : (e != (0 : Int) : Bool) = false) (h7 : ((iI (wrapF IntKind.i64 (Int.ofNat i + (1 : Int)))) : AV) = (iI (Int.ofNat (i + 1)))) : Sg 0 0 (q142 C n i) (p142s_end C n i) := fun ho j =>
 oS hE [.run 3, (.cond true), .run 4, (.ops [(1, (.d (.ldn (zTkd t m s0 s1 s2 s3 s4 s5 s6 s7)))), (0, (.d (.ix (i.mul (nat_lit 10)))))] []), .run 1, (.ops [(2, (.c0 (iI (e))))] []), .run 2, (.cond false), .run 2, (.ops [(1, (.rn (iI (Int.ofNat (i + 1)))))] []), .run 1] [1, 8, 9, 10] (s' := fun j => ⟨[(zBk (zTk t m s0 s1 s2 s3 s4 s5 s6 s7) 10 35)], ztTg2, mkT j [(1, (.e (.one (.v (.func (.func 48) #[] #[]))))), (8, (.e (.one (.dp (.s (C) (n) 10))))), (9, (iI (Int.ofNat n))), (10, (iI (Int.ofNat (i + 1))))] 21 0⟩) (aP h0 <| aP h1 <| aP h2 <| aP h3 <| aP h4 <| aN <| aP h6 <| aP h7 <| aZ)
  fun j => gZ [] (ho j)
def p142f_end (e : Int) (j : Nat → Value) : St := ⟨[], [(.code .ret), (.inBlock 1), (.code (atC [1, 0, 1, 0, 0, 1, 1, 1] (bodyOf Tryz.f94))), (.inLoop (atC [1, 0, 1, 0, 0] (bodyOf Tryz.f94))), (.inBlock 0), (.code (atC [1, 1] (bodyOf Tryz.f94)))], mkT j [(4, (iI (e)))] 21 0⟩
theorem p142f (hE : EnvOk E) (C : List DT) (n i : Nat) (t m e s0 s1 s2 s3 s4 s5 s6 s7 : Int) (h0 : (decide (Int.ofNat i < Int.ofNat n) : Bool) = true) (h1 : (0 : Int) ≤ Int.ofNat i ∧ Int.ofNat i < (↑n : Int)) (h2 : ((Int.ofNat i).toNat * nat_lit 10 : Nat) = i.mul (nat_lit 10)) (h3 : (takeL (dropL C (i.mul (nat_lit 10))) (10 : Nat) : Option (List DT)) = (.some (zTkd t m s0 s1 s2 s3 s4 s5 s6 s7))) (h4 : COut E 0 [] 48 [(.e (.agg (zTk t m s0 s1 s2 s3 s4 s5 s6 s7)))] (iI (e)) []) (h6 : (e != (0 : Int) : Bool) = true) : Sg 0 0 (q142 C n i) (p142f_end e) := fun ho j =>
 oS hE [.run 3, (.cond true), .run 4, (.ops [(1, (.d (.ldn (zTkd t m s0 s1 s2 s3 s4 s5 s6 s7)))), (0, (.d (.ix (i.mul (nat_lit 10)))))] []), .run 1, (.ops [(2, (.c0 (iI (e))))] []), .run 2, (.cond true), .run 2] [4] (s' := fun j => ⟨[(zBk (zTk t m s0 s1 s2 s3 s4 s5 s6 s7) 10 35)], [(.code .ret), (.inBlock 1), (.code (atC [1, 0, 1, 0, 0, 1, 1, 1] (bodyOf Tryz.f94))), (.inLoop (atC [1, 0, 1, 0, 0] (bodyOf Tryz.f94))), (.inBlock 0), (.code (atC [1, 1] (bodyOf Tryz.f94)))], mkT j [(4, (iI (e)))] 21 0⟩) (aP h0 <| aP h1 <| aP h2 <| aP h3 <| aP h4 <| aN <| aP h6 <| aZ)
  fun j => gZ [] (ho j)
def p142x_end (j : Nat → Value) : St := ⟨[], [(.code .ret)], mkT j [(4, (iI 0))] 21 0⟩
theorem p142x (hE : EnvOk E) (C : List DT) (n i : Nat) (h0 : (decide (Int.ofNat i < Int.ofNat n) : Bool) = false) : Sg 0 0 (q142 C n i) (p142x_end) := fun ho j =>
 oS hE [.run 3, (.cond false), .run 3] [4] (aP h0 <| aZ)
  ho
theorem K140u (hE : EnvOk E) (V : AccP) (c : Bool) (u : Value) (m : Int) : COut E 0 [] 92 [.e (.agg (accN V [.v (.bool c), .v u])), iI m] (iI (paidI V m)) [] :=
 cOut_start Tryz.func92 rfl (p140u hE (V) (u) (c) (m) (paidI V m) (wrapF .i64 (m * V.s)) (wrapF .i64 ((wrapF .i64 (m * V.s)).tdiv 100)) rfl (by decide) rfl rfl (fun j => outK_ret (ends_ret (by kernel_rfl))) fun _ => undef)
theorem K135w (hE : EnvOk E) (a : Addr) (cp : Nat) : COut E 0 [] 95 [.e (.one (.v (.slice (some a) 0 cp)))] (.e (.one (.slc 0 0 0 1 0 true))) [(zBk [] 0 3)] :=
 cOut_start Tryz.func95 rfl (p135w hE (cp) (a) (fun j => outK_ret (ends_ret (by kernel_rfl))) fun _ => undef)
theorem K79w (hE : EnvOk E) (V : AccP) (c : Bool) (a : Addr) (cp : Nat) : COut E 0 [] 58 [.e (.agg (accN V [.v (.bool c), .v (.slice (some a) 0 cp)]))] (.e (.agg (accN V [.v (.bool c), .slc 0 0 0 1 0 true]))) [(zBk [] 0 3)] := by
 have hc : COut E 0 [] 58 [.e (.agg (accN V [.v (.bool c), .v (.slice (some a) 0 cp)]))] (.e (.agg (accN V [.v (.bool c), .slc 1 0 0 1 0 true]))) [bK (accN V [.v (.bool c), .slc 1 0 0 1 0 true]) 22 44, (zBk [] 0 3)] := cOut_start Tryz.func58 rfl (p79w hE (V) 0 (cp) (a) (c) (K135w hE a cp) (by first | rfl | trivial) ⟨fun _ h => (by cases h), trivial⟩ (fun j => outK_ret (ends_ret (by kernel_rfl))) fun _ => undef)
 exact cOut_gcF [1] [true] (h' := [(zBk [] 0 3)]) (Nat.le_refl _) hc (by kernel_rfl) (by rfl) (by exact ⟨fun _ h => by simp at h, trivial⟩) (by rfl)
theorem insI_nil (t : Int) : insI [] t = [t] := by simp [insI]
theorem K93v (hE : EnvOk E) (V : AccP) (c : Bool) (cp : Nat) (t m : Int) : COut E 0 [] 56 [.e (.agg (accN V [.v (.bool c), .v (.slice none 0 cp)])), iI t, iI m] (accA (credV V m) [t] 1 c) [] := by
 have hc : COut E 0 [] 56 [.e (.agg (accN V [.v (.bool c), .v (.slice none 0 cp)])), iI t, iI m] (.e (.agg (accN (credV V m) [.v (.bool c), .slc 1 0 1 1 1 false]))) [bK (accN (credV V m) [.v (.bool c), .slc 1 0 1 1 1 false]) 22 44, some ⟨iC [t], 1, 3, false, .cells⟩] := cOut_start Tryz.func56 rfl (p93v hE (V) (cp) (c) (t) (m) ((wrapF .i64 (V.d - paidI V m))) (wrapF .i64 (m - paidI V m)) ((wrapF .i64 (V.b + wrapF .i64 (m - paidI V m)))) (paidI V m) (K140u hE V c _ m) (by first | rfl | trivial) (by first | rfl | trivial) (by first | rfl | trivial) (fun j => outK_ret (ends_ret (by kernel_rfl))) fun _ => undef)
 exact cOut_clear (cOut_freeze 1 hc rfl (Nat.zero_le _) (ds := iD [t]) ⟨.inl rfl, .inl rfl, .inl rfl, .inl rfl, .inl rfl, .inl rfl, .inl rfl, .inl rfl, .inl rfl, .inl rfl, .inl rfl, .inl rfl, .inl rfl, .inl rfl, .inl rfl, .inl rfl, .inl rfl, .inl rfl, .inl rfl, .inl rfl, .inl rfl, .inr ⟨0, 1, 1, 1, false, iD [t], rfl, rfl, rfl⟩, trivial⟩) rfl
theorem K93w (hE : EnvOk E) (V : AccP) (c : Bool) (a : Addr) (cp : Nat) (t m : Int) : COut E 0 [] 56 [.e (.agg (accN V [.v (.bool c), .v (.slice (some a) 0 cp)])), iI t, iI m] (accA (credV V m) [t] 1 c) [] := by
 have hc : COut E 0 [] 56 [.e (.agg (accN V [.v (.bool c), .v (.slice (some a) 0 cp)])), iI t, iI m] (.e (.agg (accN (credV V m) [.v (.bool c), .slc 1 0 1 1 1 false]))) [bK (accN (credV V m) [.v (.bool c), .slc 1 0 1 1 1 false]) 22 44, some ⟨iC [t], 1, 3, false, .cells⟩] := cOut_start Tryz.func56 rfl (p93w hE (V) 0 (cp) (a) (c) (t) (m) ((wrapF .i64 (V.d - paidI V m))) (wrapF .i64 (m - paidI V m)) ((wrapF .i64 (V.b + wrapF .i64 (m - paidI V m)))) (paidI V m) (K140u hE V c _ m) (K79w hE V c a cp) (by first | rfl | trivial) ⟨fun _ h => (by cases h), trivial⟩ (by first | rfl | trivial) (by first | rfl | trivial) (by first | rfl | trivial) (fun j => outK_ret (ends_ret (by kernel_rfl))) fun _ => undef)
 exact cOut_clear (cOut_freeze 1 hc rfl (Nat.zero_le _) (ds := iD [t]) ⟨.inl rfl, .inl rfl, .inl rfl, .inl rfl, .inl rfl, .inl rfl, .inl rfl, .inl rfl, .inl rfl, .inl rfl, .inl rfl, .inl rfl, .inl rfl, .inl rfl, .inl rfl, .inl rfl, .inl rfl, .inl rfl, .inl rfl, .inl rfl, .inl rfl, .inr ⟨0, 1, 1, 1, false, iD [t], rfl, rfl, rfl⟩, trivial⟩) rfl
theorem acc_last {R : AC → Value → Prop} (V : AccP) (a x : AC) : ∀ {ys : List Value}, All2 R (accN V [a, x]) ys → ∃ y, R x y ∧ ∀ x', R x' y → All2 R (accN V [a, x']) ys
 | [_y0, _y1, _y2, _y3, _y4, _y5, _y6, _y7, _y8, _y9, _y10, _y11, _y12, _y13, _y14, _y15, _y16, _y17, _y18, _y19, _y20, y21], ⟨h0, h1, h2, h3, h4, h5, h6, h7, h8, h9, h10, h11, h12, h13, h14, h15, h16, h17, h18, h19, h20, h21, _⟩ => ⟨y21, h21, fun _x' hx => ⟨h0, h1, h2, h3, h4, h5, h6, h7, h8, h9, h10, h11, h12, h13, h14, h15, h16, h17, h18, h19, h20, hx, trivial⟩⟩
theorem cOut_emp {f : FuncId} {rest : List AV} {v : AV} {ho : Heap} (V : AccP) (c : Bool) (h1 : ∀ cp, COut E 0 [] f (.e (.agg (accN V [.v (.bool c), .v (.slice none 0 cp)])) :: rest) v ho) (h2 : ∀ a cp, COut E 0 [] f (.e (.agg (accN V [.v (.bool c), .v (.slice (some a) 0 cp)])) :: rest) v ho) : COut E 0 [] f (accA V [] 0 c :: rest) v ho := by
 intro M base w argsC ha H G
 generalize hl : argsC.toList = l at ha
 match l, ha with
 | y :: r, ⟨⟨cs, hy, hcs⟩, hr⟩ =>
  obtain ⟨z, hz, hk⟩ := acc_last V (.v (.bool c)) _ hcs
  have hz : DT.R M.F (.s [] 0 1) z := hz
  simp only [DT.R] at hz
  rcases hz with ⟨_, q, cp, rfl⟩ | ⟨h0, _⟩
  ·cases q with
   | none => exact h1 cp M base w argsC (by rw [hl]; exact ⟨⟨cs, hy, hk _ rfl⟩, hr⟩) H G
   | some a => exact h2 a cp M base w argsC (by rw [hl]; exact ⟨⟨cs, hy, hk _ rfl⟩, hr⟩) H G
  ·omega
theorem K93 (hE : EnvOk E) (V : AccP) (us : List Int) (n : Nat) (c : Bool) (hn : us.length = n) (hm : n ≤ 1000) (t m : Int) : COut E 0 [] 56 [accA V us n c, iI t, iI m] (accA (credV V m) (insI us t) (n + 1) c) [] := by
 rcases us with _ | ⟨u, us⟩
 ·obtain rfl := hn
  rw [insI_nil]
  exact cOut_emp V c (fun cp => K93v hE V c cp t m) (fun a cp => K93w hE V c a cp t m)
 ·exact K93n hE V (u :: us) n c hn (by rw [← hn]; exact Nat.succ_pos _) hm t m
theorem row_get {α β : Type} {f : α → List β} {k : Nat} (hf : ∀ x, (f x).length = k) : ∀ {l : List α} {i : Nat} {x : α}, l[i]? = some x → ((l.flatMap f).drop (i * k)).take k = f x ∧ i * k + k ≤ (l.flatMap f).length
 | [], _, _, h => by simp at h
 | a :: l, 0, x, h => by
  obtain rfl : a = x := by simpa using h
  rw [Nat.zero_mul, List.drop_zero, List.flatMap_cons, List.take_append_of_le_length (Nat.le_of_eq (hf _).symm), List.take_of_length_le (Nat.le_of_eq (hf _))]
  refine ⟨rfl, ?_⟩
  rw [List.length_append, hf]; omega
 | a :: l, i + 1, x, h => by
  obtain ⟨h1, h2⟩ := row_get hf (l := l) (i := i) (x := x) (by simpa using h)
  rw [List.flatMap_cons, Nat.succ_mul, List.drop_append, List.drop_eq_nil_of_le (by rw [hf]; omega), hf, show i * k + k - k = i * k by omega, List.nil_append]
  refine ⟨h1, ?_⟩
  rw [List.length_append, hf]; omega
theorem flat_dt {ds : List DT} (h : ∀ d ∈ ds, ∃ v, d = .v v) : FlatC (ds.map DT.ac) := by
 intro c hc
 obtain ⟨d, hd, rfl⟩ := List.mem_map.1 hc
 obtain ⟨v, rfl⟩ := h d hd
 rfl
end
end Go.Proofs.YtneaafigbnjceaaGreatDoor.Bk
end

/-! SePq -/
section
open Go Go.Ev
namespace Go.Proofs.YtneaafigbnjceaaGreatDoor.Bk
noncomputable section
def Rise (us : List Int) : Prop := us.Pairwise (· < ·) ∧ ∀ z ∈ us, 1 ≤ z ∧ z ≤ 999999999
theorem rise1_0 {b x : Int} (h : rise1 b x = 0) : b < x ∧ 1 ≤ x ∧ x ≤ 999999999 := by
 have h : (if num x = 0 then (if (if x ≤ b then (11 : Int) else 0) = 0 then (0 : Int) else _) else num x) = 0 := h
 unfold num rngI at h
 by_cases h1 : x < 1 ∨ 999999999 < x
 ·rw [if_pos h1] at h; simp at h
 ·rw [if_neg h1, if_pos rfl] at h
  by_cases h2 : x ≤ b
  ·rw [if_pos h2] at h; simp at h
  ·omega
theorem rise1_to {b x : Int} (h : b < x) (h1 : 1 ≤ x) (h2 : x ≤ 999999999) : rise1 b x = 0 := by
 have e : num x = 0 := by unfold num rngI; rw [if_neg (by omega)]
 show (if num x = 0 then (if (if x ≤ b then (11 : Int) else 0) = 0 then (0 : Int) else _) else num x) = 0
 have h3 : ¬ x ≤ b := by omega
 rw [e, if_pos rfl, if_neg h3, if_pos rfl]
theorem rise_of : ∀ (us : List Int) (b : Int), riseE b us = 0 → (∀ z ∈ us, b < z) ∧ Rise us
 | [], b, _ => ⟨fun z hz => by simp at hz, .nil, fun z hz => by simp at hz⟩
 | x :: us, b, h => by
  have h : (if rise1 b x = 0 then riseE x us else rise1 b x) = 0 := h
  by_cases hx : rise1 b x = 0
  ·rw [if_pos hx] at h
   obtain ⟨h1, h2, h3⟩ := rise1_0 hx
   obtain ⟨h4, h5, h6⟩ := rise_of us x h
   refine ⟨fun z hz => ?_, List.pairwise_cons.2 ⟨h4, h5⟩, fun z hz => ?_⟩
   ·rcases List.mem_cons.1 hz with rfl | hz
    ·exact h1
    ·have := h4 z hz; omega
   ·rcases List.mem_cons.1 hz with rfl | hz
    ·exact ⟨h2, h3⟩
    ·exact h6 z hz
  ·rw [if_neg hx] at h; exact absurd h hx
theorem rise_to : ∀ (us : List Int) (b : Int), (∀ z ∈ us, b < z) → Rise us → riseE b us = 0
 | [], b, _, _ => rfl
 | x :: us, b, h, ⟨hp, hr⟩ => by
  obtain ⟨h1, h2⟩ := List.pairwise_cons.1 hp
  have hx := hr x (List.mem_cons_self ..)
  show (if rise1 b x = 0 then riseE x us else rise1 b x) = 0
  rw [if_pos (rise1_to (h x (List.mem_cons_self ..)) hx.1 hx.2)]
  exact rise_to us x h1 ⟨h2, fun z hz => hr z (List.mem_cons_of_mem _ hz)⟩
theorem Rise.le {us : List Int} (h : Rise us) : us.Pairwise (· ≤ ·) := h.1.imp fun h => Int.le_of_lt h
theorem Rise.nodup {us : List Int} (h : Rise us) : us.Nodup := h.1.imp fun h => by omega
theorem insI_eq {us : List Int} (h : Rise us) (x : Int) : insI us x = insG x us := insG_sort x us h.le
theorem insI_mem {us : List Int} (h : Rise us) (x y : Int) : y ∈ insI us x ↔ y ∈ us ∨ y = x := by rw [insI_eq h]; exact insG_mem x y us
theorem insI_rise {us : List Int} (h : Rise us) {x : Int} (hx : x ∉ us) (h1 : 1 ≤ x) (h2 : x ≤ 999999999) : Rise (insI us x) := by
 refine ⟨?_, fun z hz => ?_⟩
 ·rw [insI_eq h]
  have a := insG_sorted x us h.le
  have b : (insG x us).Nodup := (insG_perm x us).nodup_iff.2 (by
   rw [List.nodup_append]
   exact ⟨h.nodup, by simp, fun a ha b hb => by
    rw [List.mem_singleton] at hb
    subst hb
    intro e; subst e; exact hx ha⟩)
  exact (a.and b).imp fun ⟨h3, h4⟩ => by omega
 ·rcases (insI_mem h x z).1 hz with hz | rfl
  ·exact h.2 z hz
  ·exact ⟨h1, h2⟩
structure GdA (V : AccP) (us : List Int) (c : Bool) : Prop where
 b : -1000000000000 ≤ V.b ∧ V.b ≤ 1000000000000
 d : 0 ≤ V.d ∧ V.d ≤ 1000000000000
 s : 0 ≤ V.s ∧ V.s ≤ 100
 e : 0 ≤ V.e ∧ V.e ≤ 100000000
 w : (!c && !newE V) = false
 n : us.length ≤ 256
 u : Rise us
theorem fI_c (a : Int) (l : List Int) : firstI (a :: l) = if a = 0 then firstI l else a := rfl
theorem fI_0 {a : Int} {l : List Int} (h : firstI (a :: l) = 0) : a = 0 ∧ firstI l = 0 := by
 rw [fI_c] at h
 by_cases ha : a = 0
 ·rw [if_pos ha] at h; exact ⟨ha, h⟩
 ·rw [if_neg ha] at h; exact absurd h ha
theorem rngI_0 {a b z : Int} (h : rngI a b z = 0) : a ≤ z ∧ z ≤ b := by
 unfold rngI at h
 split at h
 ·simp at h
 ·omega
theorem rngI_to {a b z : Int} (h : a ≤ z) (h' : z ≤ b) : rngI a b z = 0 := by unfold rngI; rw [if_neg (by omega)]
theorem good_of {V : AccP} {us : List Int} {c : Bool} (h : chkA V us us.length c = 0) : GdA V us c := by
 unfold chkA at h
 obtain ⟨h1, h⟩ := fI_0 h
 obtain ⟨h2, h⟩ := fI_0 h
 obtain ⟨h3, h⟩ := fI_0 h
 obtain ⟨h4, h⟩ := fI_0 h
 obtain ⟨h5, h⟩ := fI_0 h
 obtain ⟨h6, _⟩ := fI_0 h
 have h5 : (!c && !newE V) = false := by
  cases hc : (!c && !newE V)
  ·rfl
  ·rw [hc] at h5; simp at h5
 have hn : us.length ≤ 256 := by
  by_cases hh : 256 < us.length
  ·rw [if_pos hh] at h6; simp at h6
  ·omega
 rw [if_neg (by omega)] at h6
 exact ⟨rngI_0 h1, rngI_0 h2, rngI_0 h3, rngI_0 h4, h5, hn, (rise_of _ _ h6).2⟩
theorem GdA.chk {V : AccP} {us : List Int} {c : Bool} (h : GdA V us c) : chkA V us us.length c = 0 := by
 have h6 : (if 256 < us.length then (5 : Int) else riseE (-9223372036854775808) us) = 0 := by
  rw [if_neg (by have := h.n; omega)]
  exact rise_to _ _ (fun z hz => by have := h.u.2 z hz; omega) h.u
 have e : ∀ (a b c d e f : Int), a = 0 → b = 0 → c = 0 → d = 0 → e = 0 → f = 0 → firstI [a, b, c, d, e, f] = 0 := by
  intro a b c d e f ha hb hc hd he hf; subst ha hb hc hd he hf; rfl
 exact e _ _ _ _ _ _ (rngI_to h.b.1 h.b.2) (rngI_to h.d.1 h.d.2) (rngI_to h.s.1 h.s.2) (rngI_to h.e.1 h.e.2) (by rw [h.w]; rfl) h6
theorem cred_b {V : AccP} {us : List Int} {c : Bool} (h : GdA V us c) {m : Int} (hm : 1 ≤ m ∧ m ≤ 100000000) (hb : V.b ≤ 900000000000) :
  (credV V m).b = V.b + (m - paidI V m) ∧ (credV V m).d = V.d - paidI V m ∧ 0 ≤ paidI V m ∧ paidI V m ≤ m ∧ paidI V m ≤ V.d := by
 obtain ⟨p0, p1, p2⟩ := pay_le (okA h.chk) hm
 have h1 := h.b
 have h2 := h.d
 refine ⟨?_, ?_, p0, p1, p2⟩
 ·show wrapF .i64 (V.b + wrapF .i64 (m - paidI V m)) = _
  rw [wrap_id (n := m - paidI V m) (by omega) (by omega), wrap_id (by omega) (by omega)]
 ·show wrapF .i64 (V.d - paidI V m) = _
  rw [wrap_id (by omega) (by omega)]
theorem cred_good {V : AccP} {us : List Int} {c : Bool} (h : GdA V us c) {x m : Int} (hm : 1 ≤ m ∧ m ≤ 100000000) (hb : V.b ≤ 900000000000) (hx : x ∉ us) (h1 : 1 ≤ x ∧ x ≤ 999999999) (hl : us.length ≤ 255) : GdA (credV V m) (insI us x) c := by
 obtain ⟨e1, e2, p0, p1, p2⟩ := cred_b h hm hb
 have b1 := h.b
 have b2 := h.d
 exact ⟨by rw [e1]; omega, by rw [e2]; omega, h.s, h.e, h.w, by rw [insI_len]; omega, insI_rise h.u hx h1.1 h1.2⟩
theorem sameK_refl (l : List Int) : sameK l l = true := by
 unfold sameK
 rw [List.all_eq_true]
 intro i _
 exact beq_self_eq_true _
theorem sameK_8 {a0 a1 a2 a3 a4 a5 a6 a7 b0 b1 b2 b3 b4 b5 b6 b7 : Int} (h : sameK [a0, a1, a2, a3, a4, a5, a6, a7] [b0, b1, b2, b3, b4, b5, b6, b7] = true) : a0 = b0 ∧ a1 = b1 ∧ a2 = b2 ∧ a3 = b3 ∧ a4 = b4 ∧ a5 = b5 ∧ a6 = b6 ∧ a7 = b7 := by
 unfold sameK at h
 rw [List.all_eq_true] at h
 have g : ∀ i, i < 8 → _ := fun i hi => eq_of_beq (h i (List.mem_range.2 hi))
 exact ⟨g 0 (by decide), g 1 (by decide), g 2 (by decide), g 3 (by decide), g 4 (by decide), g 5 (by decide), g 6 (by decide), g 7 (by decide)⟩
theorem step_inj {j x y r : Int} (hj : 0 ≤ j ∧ j ≤ 7) (hx : 0 ≤ x ∧ x < 256) (hy : 0 ≤ y ∧ y < 256) (h : ((2 * j + 3) * x + r + j) % 256 = ((2 * j + 3) * y + r + j) % 256) : x = y := by
 have hj : j = 0 ∨ j = 1 ∨ j = 2 ∨ j = 3 ∨ j = 4 ∨ j = 5 ∨ j = 6 ∨ j = 7 := by omega
 rcases hj with rfl | rfl | rfl | rfl | rfl | rfl | rfl | rfl <;> omega
theorem seal_inj {j : Int} (hj : 0 ≤ j ∧ j ≤ 7) : ∀ (l : List Int) (x y : Int), 0 ≤ x ∧ x < 256 → 0 ≤ y ∧ y < 256 → sealB j x l = sealB j y l → x = y
 | [], x, y, _, _, h => h
 | s :: l, x, y, hx, hy, h => by
  have h : sealB j (((2 * j + 3) * x + s + j) % 256) l = sealB j (((2 * j + 3) * y + s + j) % 256) l := h
  exact step_inj (r := s) hj hx hy (seal_inj hj l _ _ ⟨by omega, by omega⟩ ⟨by omega, by omega⟩ h)
structure Byt (k0 k1 k2 k3 k4 k5 k6 k7 : Int) : Prop where
 h0 : 0 ≤ k0 ∧ k0 < 256
 h1 : 0 ≤ k1 ∧ k1 < 256
 h2 : 0 ≤ k2 ∧ k2 < 256
 h3 : 0 ≤ k3 ∧ k3 < 256
 h4 : 0 ≤ k4 ∧ k4 < 256
 h5 : 0 ≤ k5 ∧ k5 < 256
 h6 : 0 ≤ k6 ∧ k6 < 256
 h7 : 0 ≤ k7 ∧ k7 < 256
theorem crI_ok {V : AccP} {us : List Int} {c : Bool} (h : GdA V us c) {t m : Int} (s : List Int) (hm : 1 ≤ m ∧ m ≤ 100000000) (hb : V.b ≤ 900000000000) (hv : validB V c t m s = true) (ht : t ∉ us) (hl : us.length ≤ 255) : crI V c us us.length t m s = 0 := by
 obtain ⟨p0, p1, p2⟩ := pay_le (okA h.chk) hm
 have h1 := h.b
 have e : ∀ (a b c d : Int), a = 0 → b = 0 → c = 0 → d = 0 → firstI [a, b, c, d] = 0 := by intro a b c d ha hb hc hd; subst ha hb hc hd; rfl
 refine e _ _ _ _ (by rw [hv]; rfl) (by rw [decide_eq_false ht]; rfl) (by rw [decide_eq_false (by omega)]; rfl) ?_
 rw [wrap_id (n := V.b + m) (by omega) (by omega), wrap_id (by omega) (by omega), decide_eq_false (by omega)]; rfl
theorem crI_27 {V : AccP} {us : List Int} {c : Bool} {n : Nat} {t m : Int} {s : List Int} (hv : validB V c t m s = false) : crI V c us n t m s = 27 := by
 unfold crI crL
 rw [hv]; rfl
theorem crI_9 {V : AccP} {us : List Int} {c : Bool} {n : Nat} {t m : Int} {s : List Int} (hv : validB V c t m s = true) (ht : t ∈ us) : crI V c us n t m s = 9 := by
 unfold crI crL
 rw [hv, decide_eq_true ht]; rfl
theorem chkT_ok {t m : Int} (h : 1 ≤ t ∧ t ≤ 999999999) (h' : 1 ≤ m ∧ m ≤ 100000000) : chkT t m = 0 := by
 have e : ∀ (a b : Int), a = 0 → b = 0 → firstI [a, b] = 0 := by intro a b ha hb; subst ha hb; rfl
 exact e _ _ (rngI_to h.1 h.2) (rngI_to h'.1 h'.2)
end
end Go.Proofs.YtneaafigbnjceaaGreatDoor.Bk
end

/-! SePk -/
section
open Go Go.Ev
namespace Go.Proofs.YtneaafigbnjceaaGreatDoor
open Bk
noncomputable section
set_option maxRecDepth 100000
set_option maxHeartbeats 20000000
structure Tk where
 t : Int
 m : Int
 y0 : Int
 y1 : Int
 y2 : Int
 y3 : Int
 y4 : Int
 y5 : Int
 y6 : Int
 y7 : Int
abbrev zK (V : AccP) : List AC := zB8 V.k0 V.k1 V.k2 V.k3 V.k4 V.k5 V.k6 V.k7
def tkOf (k0 k1 k2 k3 k4 k5 k6 k7 x m : Int) : Tk := ⟨x, m, sb 0 k0 x m, sb 1 k1 x m, sb 2 k2 x m, sb 3 k3 x m, sb 4 k4 x m, sb 5 k5 x m, sb 6 k6 x m, sb 7 k7 x m⟩
abbrev tkA (T : Tk) : AV := .e (.agg [.v (.int .i64 T.t), .v (.int .i64 T.m), .v (.int .u8 T.y0), .v (.int .u8 T.y1), .v (.int .u8 T.y2), .v (.int .u8 T.y3), .v (.int .u8 T.y4), .v (.int .u8 T.y5), .v (.int .u8 T.y6), .v (.int .u8 T.y7)])
theorem u16_id {n : Int} (h : 0 ≤ n ∧ n < 65536) : IntKind.i64.wrap n = n := by
 rw [← wrapF_eq]; exact wrap_id (by omega) (by omega)
theorem iB_c {f : FuncId} {args : List AV} {x y : Bool} (h : COut E 0 [] f args (iB x) []) (e : x = y) : COut E 0 [] f args (iB y) [] := e ▸ h
theorem credOk (hE : EnvOk E) {V : AccP} {us : List Int} {c : Bool} (g : GdA V us c) (hk : KeyB V) (k0 k1 k2 k3 k4 k5 k6 k7 x m : Int) (hm : 1 ≤ m ∧ m ≤ 100000000) (hx : 1 ≤ x ∧ x ≤ 999999999) (hb : V.b ≤ 900000000000) (hl : us.length ≤ 255) (hv : validB V c x m (sls k0 k1 k2 k3 k4 k5 k6 k7 x m) = true) (hn : x ∉ us) : COut E 0 [] 13 [accA V us us.length c, tkA (tkOf k0 k1 k2 k3 k4 k5 k6 k7 x m)] (.tup [.agg (zAc (credV V m) c (iD (insI us x)) (insI us x).length), .one (.v (.int .i64 0))]) [] := by
 have e : ∀ (a b c : Int), a = 0 → b = 0 → c = 0 → firstI [a, b, c] = 0 := by intro a b c ha hb hc; subst ha hb hc; rfl
 exact K23o hE V (credV V m) hk us (insI us x) c (by omega) x m (sb 0 k0 x m) (sb 1 k1 x m) (sb 2 k2 x m) (sb 3 k3 x m) (sb 4 k4 x m) (sb 5 k5 x m) (sb 6 k6 x m) (sb 7 k7 x m) (e _ _ _ g.chk (chkT_ok hx hm) (crI_ok g (sls k0 k1 k2 k3 k4 k5 k6 k7 x m) hm hb hv hn hl)) (by rw [insI_len]; exact K93 hE V us us.length c rfl (by omega) x m)
theorem credBad (hE : EnvOk E) {V : AccP} {us : List Int} {c : Bool} (g : GdA V us c) (hk : KeyB V) (k0 k1 k2 k3 k4 k5 k6 k7 x m k : Int) (hm : 1 ≤ m ∧ m ≤ 100000000) (hx : 1 ≤ x ∧ x ≤ 999999999) (hl : us.length ≤ 255) (h : crI V c us us.length x m (sls k0 k1 k2 k3 k4 k5 k6 k7 x m) = k) (h0 : k ≠ 0) : COut E 0 [] 13 [accA V us us.length c, tkA (tkOf k0 k1 k2 k3 k4 k5 k6 k7 x m)] (.tup [.agg zAz, .one (.v (.int .i64 k))]) [] := by
 have e : ∀ (a b c k : Int), a = 0 → b = 0 → c = k → firstI [a, b, c] = k := by
  intro a b c k ha hb hc; subst ha hb hc
  show (if (0 : Int) = 0 then (if (0 : Int) = 0 then (if c = 0 then 0 else c) else 0) else 0) = c
  rw [if_pos rfl, if_pos rfl]
  by_cases hc : c = 0
  ·rw [if_pos hc, hc]
  ·rw [if_neg hc]
 exact K23e hE V hk us c (by omega) x m (sb 0 k0 x m) (sb 1 k1 x m) (sb 2 k2 x m) (sb 3 k3 x m) (sb 4 k4 x m) (sb 5 k5 x m) (sb 6 k6 x m) (sb 7 k7 x m) k (e _ _ _ _ g.chk (chkT_ok hx hm) h) h0
end
end Go.Proofs.YtneaafigbnjceaaGreatDoor
end

/-! SeTh -/
section
open Go Go.Ev
namespace Go.Proofs.YtneaafigbnjceaaGreatDoor.Bk
noncomputable section
set_option maxRecDepth 100000
set_option maxHeartbeats 20000000
abbrev ztTh2 : List Item := [(.code (atC [1, 1, 1, 1, 0, 1, 0, 0] (bodyOf Tryz.f15))), (.inLoop (atC [1, 1, 1, 1, 0, 1, 0, 0] (bodyOf Tryz.f15))), (.inBlock 0), (.code (atC [1, 1, 1, 1, 1] (bodyOf Tryz.f15)))]
abbrev ztTh4 : List Item := [(.code (atC [1, 1, 0, 1, 0, 0] (bodyOf Tryz.f59))), (.inLoop (atC [1, 1, 0, 1, 0, 0] (bodyOf Tryz.f59))), (.inBlock 0), (.code (atC [1, 1, 1] (bodyOf Tryz.f59)))]
def s96 (t m x s0 s1 s2 s3 s4 s5 s6 s7 : Int) (_j : Nat → Value) : St := startK Tryz.f60 [] [.e (.agg (zTx t m s0 s1 s2 s3 s4 s5 s6 s7 x))]
def s95 (C : List DT) (n : Nat) (_j : Nat → Value) : St := startK Tryz.f59 [] [(.e (.one (.dp (.s C n 11)))), .e (.one (.v (.func (.func 60) #[] #[])))]
def s24 (V : AccP) (C U : List DT) (un n : Nat) (ac : Bool) (_j : Nat → Value) : St := startK Tryz.f15 [] [(.e (.agg (zAc V ac U un))), (.e (.one (.dp (.s C n 10))))]
def q95 (C : List DT) (n i : Nat) (D : List AC) (j : Nat → Value) : St := ⟨[(zBk D n 3)], ztTh4, mkT j [(1, (.e (.one (.v (.func (.func 60) #[] #[]))))), (5, (.e (.one (.slc 0 0 (n) 1 (n) true)))), (11, (.e (.one (.dp (.s (C) (n) 11))))), (12, (iI (Int.ofNat n))), (13, (iI (Int.ofNat i)))] 26 0⟩
def q24n (V : AccP) (C U : List DT) (un n i : Nat) (ac : Bool) (j : Nat → Value) : St := ⟨[(zBk zAz 22 44), (zBk (zAc V ac U un) 22 44)], ztTh2, mkT j [(4, (.e (.one (.ptr 0 0)))), (8, (.e (.one (.ptr 1 0)))), (9, (.e (.one (.v (.slice none 0 0))))), (25, (.e (.one (.dp (.s (C) (n) 10))))), (26, (iI (Int.ofNat n))), (27, (iI (Int.ofNat i)))] 56 0⟩
def q24 (V : AccP) (C U : List DT) (un n i N : Nat) (ac : Bool) (D : List AC) (j : Nat → Value) : St := ⟨[(zBk zAz 22 44), (zBk (zAc V ac U un) 22 44), some ⟨D, N * 11, 116, false, .cells⟩], ztTh2, mkT j [(4, (.e (.one (.ptr 0 0)))), (8, (.e (.one (.ptr 1 0)))), (9, (.e (.one (.slc 2 0 N 11 N false)))), (25, (.e (.one (.dp (.s (C) (n) 10))))), (26, (iI (Int.ofNat n))), (27, (iI (Int.ofNat i)))] 56 0⟩
def q24x (V : AccP) (C U T : List DT) (un n i N : Nat) (ac : Bool) (j : Nat → Value) : St := ⟨[(zBk zAz 22 44), (zBk (zAc V ac U un) 22 44), none], ztTh2, mkT j [(4, (.e (.one (.ptr 0 0)))), (8, (.e (.one (.ptr 1 0)))), (9, (.e (.one (.dp (.s T N 11))))), (25, (.e (.one (.dp (.s (C) (n) 10))))), (26, (iI (Int.ofNat n))), (27, (iI (Int.ofNat i)))] 56 0⟩
def p96_end (x : Int) (j : Nat → Value) : St := ⟨[], [(.code .ret)], mkT j [(2, (iI (x)))] 5 0⟩
theorem p96 (hE : EnvOk E) (t m x s0 s1 s2 s3 s4 s5 s6 s7 : Int) : Sg 0 0 (s96 t m x s0 s1 s2 s3 s4 s5 s6 s7) (p96_end x) := fun ho j =>
 oS hE [.run 4] [2] (s' := fun j => ⟨[(zBk (zTx t m s0 s1 s2 s3 s4 s5 s6 s7 x) 11 116)], [(.code .ret)], mkT j [(2, (iI (x)))] 5 0⟩) (ps := []) trivial
  fun j => gZ [] (ho j)
def p95a_end (C : List DT) (n : Nat) (D : List AC) (j : Nat → Value) : St := ⟨[(zBk (D) (n) 3)], ztTh4, mkT j [(1, (.e (.one (.v (.func (.func 60) #[] #[]))))), (5, (.e (.one (.slc 0 0 (n) 1 (n) true)))), (11, (.e (.one (.dp (.s (C) (n) 11))))), (12, (iI (Int.ofNat n))), (13, (iI 0))] 26 0⟩
theorem p95a (hE : EnvOk E) (C : List DT) (n : Nat) (_z : Int) (D : List AC) (h0 : (0 : Int) ≤ (↑n : Int) ∧ (↑n : Int) ≤ (↑n : Int)) (h1 : (small (↑n : Int).toNat (1 : Nat) (8 : Nat) : Bool) = true) (h2 : ((↑n : Int).toNat : Nat) = n) (h4 : (n * 1 : Nat) = n) (h5 : (repeatC ((fun z => List.map AC.v z.cells.toList) (Value.int IntKind.i64 (0 : Int))) n : List AC) = D) : Sg 0 0 (s95 C n) (p95a_end C n D) := fun ho j =>
 oS hE [.run 3, (.ops [(2, (.mk (n) (n) (n) (D))), (1, (.d .len))] []), .run 2, (.ops [(1, (.d .len))] []), .run 2] [1, 5, 11, 12, 13] (aP h0 <| aP h1 <| aP h2 <| aP h2 <| aP h4 <| aP h5 <| aZ)
  ho
def p24a_end (V : AccP) (C U : List DT) (un n : Nat) (ac : Bool) (j : Nat → Value) : St := ⟨[(zBk zAz 22 44), (zBk (zAc V ac U un) 22 44)], ztTh2, mkT j [(4, (.e (.one (.ptr 0 0)))), (8, (.e (.one (.ptr 1 0)))), (9, (.e (.one (.v (.slice none 0 0))))), (25, (.e (.one (.dp (.s (C) (n) 10))))), (26, (iI (Int.ofNat n))), (27, (iI 0))] 56 0⟩
theorem p24a (hE : EnvOk E) (V : AccP) (C U : List DT) (un n : Nat) (ac : Bool) (e f k : Int) (h0 : COut E 0 [] 54 [(.e (.agg (zAc V ac U un)))] (iI (e)) []) (h2 : COut E 0 [] 57 [(.e (.one (.dp (.s (C) (n) 10)))), (iI 256), (.e (.one (.v (.func (.func 48) #[] #[]))))] (iI (f)) []) (h4 : COut E 3 [(zBk (zAc V ac U un) 22 44), (zBk zAz 22 44), (zBk (zI2 e f) 2 36)] 53 [(.e (.one (.slc 2 0 2 1 2 true)))] (iI (k)) [(zBk (zAc V ac U un) 22 44), (zBk zAz 22 44), (zBk (zI2 e f) 2 36)]) (h6 : (k != (0 : Int) : Bool) = false) (h7 : COut E 0 [] 58 [(.e (.agg (zAc V ac U un)))] (.e (.agg (zAc V ac U un))) []) : Sg 0 0 (s24 V C U un n ac) (p24a_end V C U un n ac) := fun ho j =>
 oS hE [.run 4, (.ops [(1, (.c0 (iI (e)))), (3, (.c0 (iI (f)))), (5, (.d (.c1 (iI (k)))))] []), .run 2, (.cond false), .run 2, (.ops [(1, (.c0 (.e (.agg (zAc V ac U un)))))] []), .run 4, (.ops [(1, (.d .len))] []), .run 2] [4, 8, 9, 25, 26, 27] (s' := fun j => ⟨[(zBk (zAc V ac U un) 22 44), (zBk zAz 22 44), (zBk (zI2 e f) 2 36), (zBk (zAc V ac U un) 22 44)], ztTh2, mkT j [(4, (.e (.one (.ptr 1 0)))), (8, (.e (.one (.ptr 3 0)))), (9, (.e (.one (.v (.slice none 0 0))))), (25, (.e (.one (.dp (.s (C) (n) 10))))), (26, (iI (Int.ofNat n))), (27, (iI 0))] 56 0⟩) (aP h0 <| aN <| aP h2 <| aN <| aP h4 <| aN <| aP h6 <| aP h7 <| aN <| aZ)
  fun j => gZ [1, 3] (ho j)
def p95s_end (C : List DT) (n i : Nat) (X : List AC) (j : Nat → Value) : St := ⟨[(zBk (X) (n) 3)], ztTh4, mkT j [(1, (.e (.one (.v (.func (.func 60) #[] #[]))))), (5, (.e (.one (.slc 0 0 (n) 1 (n) true)))), (11, (.e (.one (.dp (.s (C) (n) 11))))), (12, (iI (Int.ofNat n))), (13, (iI (Int.ofNat (i + 1))))] 26 0⟩
theorem p95s (hE : EnvOk E) (C : List DT) (n i : Nat) (t m x s0 s1 s2 s3 s4 s5 s6 s7 : Int) (D X : List AC) (h0 : (decide (Int.ofNat i < Int.ofNat n) : Bool) = true) (h1 : (0 : Int) ≤ Int.ofNat i ∧ Int.ofNat i < (↑n : Int)) (h2 : ((Int.ofNat i).toNat * nat_lit 11 : Nat) = i.mul (nat_lit 11)) (h3 : (takeL (dropL C (i.mul (nat_lit 11))) (11 : Nat) : Option (List DT)) = (.some (zTxd t m s0 s1 s2 s3 s4 s5 s6 s7 x))) (h4 : COut E 0 [] 60 [(.e (.agg (zTx t m s0 s1 s2 s3 s4 s5 s6 s7 x)))] (iI (x)) []) (h7 : (nat_lit 0 + (Int.ofNat i).toNat * nat_lit 1 : Nat) = i) (h8 : i + 1 ≤ n) (h9 : (overL [AC.v (Value.int IntKind.i64 x)] D i : List AC) = X) (h10 : ((iI (wrapF IntKind.i64 (Int.ofNat i + (1 : Int)))) : AV) = (iI (Int.ofNat (i + 1)))) (g0 : FlatC (X)) : Sg 0 0 (q95 C n i D) (p95s_end C n i X) := fun ho j =>
 oS hE [.run 3, (.cond true), .run 4, (.ops [(2, (.d (.ldn (zTxd t m s0 s1 s2 s3 s4 s5 s6 s7 x)))), (1, (.d (.ix (i.mul (nat_lit 11)))))] []), (.ops [(4, (.c0 (iI (x)))), (5, (.ix (i))), (6, (.st (X)))] []), .run 1, (.ops [(1, (.rn (iI (Int.ofNat (i + 1)))))] []), .run 1] [1, 5, 11, 12, 13] (s' := fun j => ⟨[(zBk (X) (n) 3), (zBk (zTx t m s0 s1 s2 s3 s4 s5 s6 s7 x) 11 116)], ztTh4, mkT j [(1, (.e (.one (.v (.func (.func 60) #[] #[]))))), (5, (.e (.one (.slc 0 0 (n) 1 (n) true)))), (11, (.e (.one (.dp (.s (C) (n) 11))))), (12, (iI (Int.ofNat n))), (13, (iI (Int.ofNat (i + 1))))] 26 0⟩) (aP h0 <| aP h1 <| aP h2 <| aP h3 <| aP h4 <| aN <| aP h1 <| aP h7 <| aP h8 <| aP h9 <| aP h10 <| aZ)
  fun j => outK_gcF [0] [true] (h' := [(zBk (X) (n) 3)]) (by decide) (by kernel_rfl) (by kernel_rfl) ⟨g0, trivial⟩ (by kernel_rfl) (ho j)
def p95x_end (n : Nat) (D : List AC) (j : Nat → Value) : St := ⟨[(zBk (D) (n) 3)], [(.code .ret)], mkT j [(4, (.e (.one (.slc 0 0 (n) 1 (n) true))))] 26 0⟩
theorem p95x (hE : EnvOk E) (C : List DT) (n i : Nat) (D : List AC) (h0 : (decide (Int.ofNat i < Int.ofNat n) : Bool) = false) : Sg 0 0 (q95 C n i D) (p95x_end n D) := fun ho j =>
 oS hE [.run 3, (.cond false), .run 3] [4] (aP h0 <| aZ)
  ho
def p24nf_end (V : AccP) (C U : List DT) (un n i : Nat) (ac : Bool) (j : Nat → Value) : St := ⟨[(zBk zAz 22 44), (zBk (zAc V ac U un) 22 44)], ztTh2, mkT j [(4, (.e (.one (.ptr 0 0)))), (8, (.e (.one (.ptr 1 0)))), (9, (.e (.one (.v (.slice none 0 0))))), (25, (.e (.one (.dp (.s (C) (n) 10))))), (26, (iI (Int.ofNat n))), (27, (iI (Int.ofNat (i + 1))))] 56 0⟩
theorem p24nf (hE : EnvOk E) (V : AccP) (C U : List DT) (un n i : Nat) (ac : Bool) (t m e s0 s1 s2 s3 s4 s5 s6 s7 : Int) (h0 : (decide (Int.ofNat i < Int.ofNat n) : Bool) = true) (h1 : (0 : Int) ≤ Int.ofNat i ∧ Int.ofNat i < (↑n : Int)) (h2 : ((Int.ofNat i).toNat * nat_lit 10 : Nat) = i.mul (nat_lit 10)) (h3 : (takeL (dropL C (i.mul (nat_lit 10))) (10 : Nat) : Option (List DT)) = (.some (zTkd t m s0 s1 s2 s3 s4 s5 s6 s7))) (h4 : COut E 0 [] 55 [(.e (.agg (zAc V ac U un))), (.e (.agg (zTk t m s0 s1 s2 s3 s4 s5 s6 s7)))] (iI (e)) []) (h6 : (e == (0 : Int) : Bool) = false) (h7 : ((iI (wrapF IntKind.i64 (Int.ofNat i + (1 : Int)))) : AV) = (iI (Int.ofNat (i + 1)))) : Sg 0 0 (q24n V C U un n i ac) (p24nf_end V C U un n i ac) := fun ho j =>
 oS hE [.run 3, (.cond true), .run 4, (.ops [(2, (.d (.ldn (zTkd t m s0 s1 s2 s3 s4 s5 s6 s7)))), (1, (.d (.ix (i.mul (nat_lit 10)))))] []), .run 3, (.ops [(3, (.c0 (iI (e))))] []), (.cond false), .run 2, (.ops [(0, (.rn (iI (Int.ofNat (i + 1)))))] []), .run 1] [4, 8, 9, 25, 26, 27] (s' := fun j => ⟨[(zBk zAz 22 44), (zBk (zAc V ac U un) 22 44), (zBk (zTk t m s0 s1 s2 s3 s4 s5 s6 s7) 10 35), (zBk [.v (.int .i64 t), .v (.int .i64 m), .v (.int .u8 s0), .v (.int .u8 s1), .v (.int .u8 s2), .v (.int .u8 s3), .v (.int .u8 s4), .v (.int .u8 s5), .v (.int .u8 s6), .v (.int .u8 s7), (.v (.int .i64 (Int.ofNat i)))] 11 116)], ztTh2, mkT j [(4, (.e (.one (.ptr 0 0)))), (8, (.e (.one (.ptr 1 0)))), (9, (.e (.one (.v (.slice none 0 0))))), (25, (.e (.one (.dp (.s (C) (n) 10))))), (26, (iI (Int.ofNat n))), (27, (iI (Int.ofNat (i + 1))))] 56 0⟩) (aP h0 <| aP h1 <| aP h2 <| aP h3 <| aP h4 <| aN <| aP h6 <| aP h7 <| aZ)
  fun j => gZ [0, 1] (ho j)
def p24nt_end (W : AccP) (C U2 : List DT) (wn n i : Nat) (ac : Bool) (t m s0 s1 s2 s3 s4 s5 s6 s7 : Int) (j : Nat → Value) : St := ⟨[(zBk zAz 22 44), (zBk (zAc W ac U2 wn) 22 44), (zBf [.v (.int .i64 t), .v (.int .i64 m), .v (.int .u8 s0), .v (.int .u8 s1), .v (.int .u8 s2), .v (.int .u8 s3), .v (.int .u8 s4), .v (.int .u8 s5), .v (.int .u8 s6), .v (.int .u8 s7), (.v (.int .i64 (Int.ofNat i)))] 11 116)], ztTh2, mkT j [(4, (.e (.one (.ptr 0 0)))), (8, (.e (.one (.ptr 1 0)))), (9, (.e (.one (.slc 2 0 1 11 1 false)))), (25, (.e (.one (.dp (.s (C) (n) 10))))), (26, (iI (Int.ofNat n))), (27, (iI (Int.ofNat (i + 1))))] 56 0⟩
theorem p24nt (hE : EnvOk E) (V W : AccP) (C U U2 : List DT) (un wn n i : Nat) (ac : Bool) (t m e s0 s1 s2 s3 s4 s5 s6 s7 : Int) (h0 : (decide (Int.ofNat i < Int.ofNat n) : Bool) = true) (h1 : (0 : Int) ≤ Int.ofNat i ∧ Int.ofNat i < (↑n : Int)) (h2 : ((Int.ofNat i).toNat * nat_lit 10 : Nat) = i.mul (nat_lit 10)) (h3 : (takeL (dropL C (i.mul (nat_lit 10))) (10 : Nat) : Option (List DT)) = (.some (zTkd t m s0 s1 s2 s3 s4 s5 s6 s7))) (h4 : COut E 0 [] 55 [(.e (.agg (zAc V ac U un))), (.e (.agg (zTk t m s0 s1 s2 s3 s4 s5 s6 s7)))] (iI (e)) []) (h6 : (e == (0 : Int) : Bool) = true) (h7 : COut E 0 [] 56 [(.e (.agg (zAc V ac U un))), (iI (t)), (iI (m))] (.e (.agg (zAc W ac U2 wn))) []) (h9 : ((iI (wrapF IntKind.i64 (Int.ofNat i + (1 : Int)))) : AV) = (iI (Int.ofNat (i + 1)))) : Sg 0 0 (q24n V C U un n i ac) (p24nt_end W C U2 wn n i ac t m s0 s1 s2 s3 s4 s5 s6 s7) := fun ho j =>
 oS hE [.run 3, (.cond true), .run 4, (.ops [(2, (.d (.ldn (zTkd t m s0 s1 s2 s3 s4 s5 s6 s7)))), (1, (.d (.ix (i.mul (nat_lit 10)))))] []), .run 3, (.ops [(3, (.c0 (iI (e))))] []), (.cond true), .run 1, (.ops [(7, (.c0 (.e (.agg (zAc W ac U2 wn)))))] []), .run 2, (.ops [(0, (.rn (iI (Int.ofNat (i + 1)))))] []), .run 1] [4, 8, 9, 25, 26, 27] (s' := fun j => ⟨[(zBk zAz 22 44), (zBk (zAc W ac U2 wn) 22 44), (zBk (zTk t m s0 s1 s2 s3 s4 s5 s6 s7) 10 35), (zBk [.v (.int .i64 t), .v (.int .i64 m), .v (.int .u8 s0), .v (.int .u8 s1), .v (.int .u8 s2), .v (.int .u8 s3), .v (.int .u8 s4), .v (.int .u8 s5), .v (.int .u8 s6), .v (.int .u8 s7), (.v (.int .i64 (Int.ofNat i)))] 11 116), (zBk [.v (.int .i64 t), .v (.int .i64 m), .v (.int .u8 s0), .v (.int .u8 s1), .v (.int .u8 s2), .v (.int .u8 s3), .v (.int .u8 s4), .v (.int .u8 s5), .v (.int .u8 s6), .v (.int .u8 s7), (.v (.int .i64 (Int.ofNat i)))] 11 116), (zBf [.v (.int .i64 t), .v (.int .i64 m), .v (.int .u8 s0), .v (.int .u8 s1), .v (.int .u8 s2), .v (.int .u8 s3), .v (.int .u8 s4), .v (.int .u8 s5), .v (.int .u8 s6), .v (.int .u8 s7), (.v (.int .i64 (Int.ofNat i)))] 11 116)], ztTh2, mkT j [(4, (.e (.one (.ptr 0 0)))), (8, (.e (.one (.ptr 1 0)))), (9, (.e (.one (.slc 5 0 1 11 1 false)))), (25, (.e (.one (.dp (.s (C) (n) 10))))), (26, (iI (Int.ofNat n))), (27, (iI (Int.ofNat (i + 1))))] 56 0⟩) (aP h0 <| aP h1 <| aP h2 <| aP h3 <| aP h4 <| aN <| aP h6 <| aP h7 <| aN <| aP h9 <| aZ)
  fun j => gZ [0, 1, 5] (ho j)
def p24bf_end (V : AccP) (C U : List DT) (un n i N : Nat) (ac : Bool) (D : List AC) (j : Nat → Value) : St := ⟨[(zBk zAz 22 44), (zBk (zAc V ac U un) 22 44), (zBf (D) (N * 11) 116)], ztTh2, mkT j [(4, (.e (.one (.ptr 0 0)))), (8, (.e (.one (.ptr 1 0)))), (9, (.e (.one (.slc 2 0 (N) 11 (N) false)))), (25, (.e (.one (.dp (.s (C) (n) 10))))), (26, (iI (Int.ofNat n))), (27, (iI (Int.ofNat (i + 1))))] 56 0⟩
theorem p24bf (hE : EnvOk E) (V : AccP) (C U : List DT) (un n i N : Nat) (ac : Bool) (t m e s0 s1 s2 s3 s4 s5 s6 s7 : Int) (D : List AC) (h0 : (decide (Int.ofNat i < Int.ofNat n) : Bool) = true) (h1 : (0 : Int) ≤ Int.ofNat i ∧ Int.ofNat i < (↑n : Int)) (h2 : ((Int.ofNat i).toNat * nat_lit 10 : Nat) = i.mul (nat_lit 10)) (h3 : (takeL (dropL C (i.mul (nat_lit 10))) (10 : Nat) : Option (List DT)) = (.some (zTkd t m s0 s1 s2 s3 s4 s5 s6 s7))) (h4 : COut E 0 [] 55 [(.e (.agg (zAc V ac U un))), (.e (.agg (zTk t m s0 s1 s2 s3 s4 s5 s6 s7)))] (iI (e)) []) (h6 : (e == (0 : Int) : Bool) = false) (h7 : ((iI (wrapF IntKind.i64 (Int.ofNat i + (1 : Int)))) : AV) = (iI (Int.ofNat (i + 1)))) (g0 : FlatC (D)) : Sg 0 0 (q24 V C U un n i N ac D) (p24bf_end V C U un n i N ac D) := fun ho j =>
 oS hE [.run 3, (.cond true), .run 4, (.ops [(2, (.d (.ldn (zTkd t m s0 s1 s2 s3 s4 s5 s6 s7)))), (1, (.d (.ix (i.mul (nat_lit 10)))))] []), .run 3, (.ops [(3, (.c0 (iI (e))))] []), (.cond false), .run 2, (.ops [(0, (.rn (iI (Int.ofNat (i + 1)))))] []), .run 1] [4, 8, 9, 25, 26, 27] (s' := fun j => ⟨[(zBk zAz 22 44), (zBk (zAc V ac U un) 22 44), (zBf (D) (N * 11) 116), (zBk (zTk t m s0 s1 s2 s3 s4 s5 s6 s7) 10 35), (zBk [.v (.int .i64 t), .v (.int .i64 m), .v (.int .u8 s0), .v (.int .u8 s1), .v (.int .u8 s2), .v (.int .u8 s3), .v (.int .u8 s4), .v (.int .u8 s5), .v (.int .u8 s6), .v (.int .u8 s7), (.v (.int .i64 (Int.ofNat i)))] 11 116)], ztTh2, mkT j [(4, (.e (.one (.ptr 0 0)))), (8, (.e (.one (.ptr 1 0)))), (9, (.e (.one (.slc 2 0 (N) 11 (N) false)))), (25, (.e (.one (.dp (.s (C) (n) 10))))), (26, (iI (Int.ofNat n))), (27, (iI (Int.ofNat (i + 1))))] 56 0⟩) (aP h0 <| aP h1 <| aP h2 <| aP h3 <| aP h4 <| aN <| aP h6 <| aP h7 <| aZ)
  fun j => outK_gcF [0, 1, 2] [false, false, true] (h' := [(zBk zAz 22 44), (zBk (zAc V ac U un) 22 44), (zBf (D) (N * 11) 116)]) (by decide) (by kernel_rfl) (by kernel_rfl) ⟨g0, trivial⟩ (by kernel_rfl) (ho j)
def p24bt_end (W : AccP) (C U2 : List DT) (wn n i N : Nat) (ac : Bool) (Y : List AC) (j : Nat → Value) : St := ⟨[(zBk zAz 22 44), (zBk (zAc W ac U2 wn) 22 44), (zBf (Y) ((N + 1) * 11) 116)], ztTh2, mkT j [(4, (.e (.one (.ptr 0 0)))), (8, (.e (.one (.ptr 1 0)))), (9, (.e (.one (.slc 2 0 (N + 1) 11 (N + 1) false)))), (25, (.e (.one (.dp (.s (C) (n) 10))))), (26, (iI (Int.ofNat n))), (27, (iI (Int.ofNat (i + 1))))] 56 0⟩
theorem p24bt (hE : EnvOk E) (V W : AccP) (C U U2 : List DT) (un wn n i N : Nat) (ac : Bool) (t m e _x s0 s1 s2 s3 s4 s5 s6 s7 : Int) (D Y : List AC) (h0 : (decide (Int.ofNat i < Int.ofNat n) : Bool) = true) (h1 : (0 : Int) ≤ Int.ofNat i ∧ Int.ofNat i < (↑n : Int)) (h2 : ((Int.ofNat i).toNat * nat_lit 10 : Nat) = i.mul (nat_lit 10)) (h3 : (takeL (dropL C (i.mul (nat_lit 10))) (10 : Nat) : Option (List DT)) = (.some (zTkd t m s0 s1 s2 s3 s4 s5 s6 s7))) (h4 : COut E 0 [] 55 [(.e (.agg (zAc V ac U un))), (.e (.agg (zTk t m s0 s1 s2 s3 s4 s5 s6 s7)))] (iI (e)) []) (h6 : (e == (0 : Int) : Bool) = true) (h7 : COut E 0 [] 56 [(.e (.agg (zAc V ac U un))), (iI (t)), (iI (m))] (.e (.agg (zAc W ac U2 wn))) []) (h9 : ¬N + 1 ≤ N) (h10 : (small (N + 1) (11 : Nat) (32 : Nat) : Bool) = true) (h11 : (N * 11 : Nat) = N * nat_lit 11) (h12 : (appL D ((fun x => AC.v (Value.int IntKind.i64 t) :: x) ((fun x => AC.v (Value.int IntKind.i64 m) :: x) ((fun x => AC.v (Value.int IntKind.u8 s0) :: x) ((fun x => AC.v (Value.int IntKind.u8 s1) :: x) ((fun x => AC.v (Value.int IntKind.u8 s2) :: x) ((fun x => AC.v (Value.int IntKind.u8 s3) :: x) ((fun x => AC.v (Value.int IntKind.u8 s4) :: x) ((fun x => AC.v (Value.int IntKind.u8 s5) :: x) ((fun x => AC.v (Value.int IntKind.u8 s6) :: x) ((fun x => AC.v (Value.int IntKind.u8 s7) :: x) ((fun x => AC.v (Value.int IntKind.i64 (Int.ofNat i)) :: x) []))))))))))) : List AC) = Y) (h14 : ((N + 1) * nat_lit 11 : Nat) = (N + 1) * 11) (h15 : ((iI (wrapF IntKind.i64 (Int.ofNat i + (1 : Int)))) : AV) = (iI (Int.ofNat (i + 1)))) (g0 : FlatC (Y)) : Sg 0 0 (q24 V C U un n i N ac D) (p24bt_end W C U2 wn n i N ac Y) := fun ho j =>
 oS hE [.run 3, (.cond true), .run 4, (.ops [(2, (.d (.ldn (zTkd t m s0 s1 s2 s3 s4 s5 s6 s7)))), (1, (.d (.ix (i.mul (nat_lit 10)))))] []), .run 3, (.ops [(3, (.c0 (iI (e))))] []), (.cond true), .run 1, (.ops [(7, (.c0 (.e (.agg (zAc W ac U2 wn)))))] []), (.ops [(3, (.app (N + 1) ((N + 1) * 11) (Y)))] []), .run 1, (.ops [(0, (.rn (iI (Int.ofNat (i + 1)))))] []), .run 1] [4, 8, 9, 25, 26, 27] (s' := fun j => ⟨[(zBk zAz 22 44), (zBk (zAc W ac U2 wn) 22 44), none, (zBk (zTk t m s0 s1 s2 s3 s4 s5 s6 s7) 10 35), (zBk [.v (.int .i64 t), .v (.int .i64 m), .v (.int .u8 s0), .v (.int .u8 s1), .v (.int .u8 s2), .v (.int .u8 s3), .v (.int .u8 s4), .v (.int .u8 s5), .v (.int .u8 s6), .v (.int .u8 s7), (.v (.int .i64 (Int.ofNat i)))] 11 116), (zBk [.v (.int .i64 t), .v (.int .i64 m), .v (.int .u8 s0), .v (.int .u8 s1), .v (.int .u8 s2), .v (.int .u8 s3), .v (.int .u8 s4), .v (.int .u8 s5), .v (.int .u8 s6), .v (.int .u8 s7), (.v (.int .i64 (Int.ofNat i)))] 11 116), (zBf (Y) ((N + 1) * 11) 116)], ztTh2, mkT j [(4, (.e (.one (.ptr 0 0)))), (8, (.e (.one (.ptr 1 0)))), (9, (.e (.one (.slc 6 0 (N + 1) 11 (N + 1) false)))), (25, (.e (.one (.dp (.s (C) (n) 10))))), (26, (iI (Int.ofNat n))), (27, (iI (Int.ofNat (i + 1))))] 56 0⟩) (aP h0 <| aP h1 <| aP h2 <| aP h3 <| aP h4 <| aN <| aP h6 <| aP h7 <| aN <| aP h9 <| aP h10 <| aP h11 <| aP h12 <| aP (rfl : (N + 1 : Nat) = N + 1) <| aP h14 <| aP h15 <| aZ)
  fun j => outK_gcF [0, 1, 6] [false, false, true] (h' := [(zBk zAz 22 44), (zBk (zAc W ac U2 wn) 22 44), (zBf (Y) ((N + 1) * 11) 116)]) (by decide) (by kernel_rfl) (by kernel_rfl) ⟨g0, trivial⟩ (by kernel_rfl) (ho j)
def p24x_end (V : AccP) (U U2 : List DT) (un N : Nat) (ac : Bool) (j : Nat → Value) : St := ⟨[(zBk (zAc V ac U un) 22 44)], [(.code .ret)], mkT j [(4, (.e (.one (.ptr 0 0)))), (5, (.e (.one (.dp (.s (U2) (N) 1))))), (6, (iI 0))] 56 0⟩
theorem p24x (hE : EnvOk E) (V : AccP) (C U U2 T : List DT) (un n i N : Nat) (ac : Bool) (h0 : (decide (Int.ofNat i < Int.ofNat n) : Bool) = false) (h1 : COut E 0 [] 59 [(.e (.one (.dp (.s (T) (N) 11)))), (.e (.one (.v (.func (.func 60) #[] #[]))))] (.e (.one (.dp (.s (U2) (N) 1)))) []) : Sg 0 0 (q24x V C U T un n i N ac) (p24x_end V U U2 un N ac) := fun ho j =>
 oS hE [.run 3, (.cond false), .run 2, (.ops [(2, (.c0 (.e (.one (.dp (.s (U2) (N) 1))))))] [])] [4, 5, 6] (s' := fun j => ⟨[(zBk (zAc V ac U un) 22 44), (zBk (zAc V ac U un) 22 44), none], [(.code .ret)], mkT j [(4, (.e (.one (.ptr 0 0)))), (5, (.e (.one (.dp (.s (U2) (N) 1))))), (6, (iI 0))] 56 0⟩) (aP h0 <| aP h1 <| aN <| aP (rfl : (true : Bool) = true) <| aZ)
  fun j => gZ [0] (ho j)
def p24y_end (V : AccP) (U : List DT) (un : Nat) (ac : Bool) (j : Nat → Value) : St := ⟨[(zBk (zAc V ac U un) 22 44)], [(.code .ret)], mkT j [(4, (.e (.one (.ptr 0 0)))), (5, (.e (.one (.dp (.s [] 0 1))))), (6, (iI 0))] 56 0⟩
theorem p24y (hE : EnvOk E) (V : AccP) (C U : List DT) (un n i : Nat) (ac : Bool) (h0 : (decide (Int.ofNat i < Int.ofNat n) : Bool) = false) (h1 : COut E 0 [] 59 [(.e (.one (.v (.slice none 0 0)))), (.e (.one (.v (.func (.func 60) #[] #[]))))] (.e (.one (.dp (.s [] 0 1)))) []) : Sg 0 0 (q24n V C U un n i ac) (p24y_end V U un ac) := fun ho j =>
 oS hE [.run 3, (.cond false), .run 2, (.ops [(2, (.c0 (.e (.one (.dp (.s [] 0 1))))))] [])] [4, 5, 6] (s' := fun j => ⟨[(zBk (zAc V ac U un) 22 44), (zBk (zAc V ac U un) 22 44)], [(.code .ret)], mkT j [(4, (.e (.one (.ptr 0 0)))), (5, (.e (.one (.dp (.s [] 0 1))))), (6, (iI 0))] 56 0⟩) (aP h0 <| aP h1 <| aN <| aP (rfl : (true : Bool) = true) <| aZ)
  fun j => gZ [0] (ho j)
theorem look_frz {i : Nat} {ds : List DT} : ∀ (l l' : List (Nat × AV)), All2 (fun p q => p.1 = q.1 ∧ FrzV i ds p.2 q.2) l l' → ∀ k, (lookT l k = none ∧ lookT l' k = none) ∨ ∃ x y, lookT l k = some x ∧ lookT l' k = some y ∧ FrzV i ds x y
 | [], [], _, k => .inl ⟨rfl, rfl⟩
 | p :: l, q :: l', h, k => by
  obtain ⟨⟨h1, h2⟩, h3⟩ := h
  have e1 : lookT (p :: l) k = if Nat.beq p.1 k then some p.2 else lookT l k := rfl
  have e2 : lookT (q :: l') k = if Nat.beq q.1 k then some q.2 else lookT l' k := rfl
  rw [e1, e2, h1]
  by_cases c : Nat.beq q.1 k = true
  ·rw [if_pos c, if_pos c]; exact .inr ⟨_, _, rfl, rfl, h2⟩
  ·rw [if_neg c, if_neg c]; exact look_frz l l' h3 k
theorem frz2 {i : Nat} {ds : List DT} (j : Nat → Value) (l l' : List (Nat × AV)) (h : All2 (fun p q => p.1 = q.1 ∧ FrzV i ds p.2 q.2) l l') : ∀ n k, All2 (FrzV i ds) (mkT j l n k) (mkT j l' n k)
 | 0, _ => trivial
 | n + 1, k => by
  refine ⟨?_, frz2 j l l' h n (k + 1)⟩
  show FrzV i ds (match lookT l k with | some x => x | none => .e (.one (.v (j k)))) (match lookT l' k with | some x => x | none => .e (.one (.v (j k))))
  rcases look_frz l l' h k with ⟨a, b⟩ | ⟨x, y, a, b, c⟩
  ·rw [a, b]; exact .inl rfl
  ·rw [a, b]; exact c
theorem st_iC (l : List Int) (k : Nat) (v : Int) : overL [AC.v (.int .i64 v)] (iC l) k = iC (l.set k v) := by
 show setL _ _ _ = _
 rw [setL_eq]
 simp [List.map_set]; rfl
theorem rep0 : ∀ n, repeatC ((fun z => List.map AC.v z.cells.toList) (Value.int IntKind.i64 (0 : Int))) n = iC (List.replicate n 0)
 | 0 => rfl
 | n + 1 => by
  show _ ++ repeatC _ n = _
  rw [rep0 n, List.replicate_succ]
  rfl
theorem cOut_nilA {f : FuncId} {rest : List AV} {v : AV} {ho : Heap} (sz : Nat) (hc : COut E 0 [] f (.e (.one (.dp (.s [] 0 sz))) :: rest) v ho) : COut E 0 [] f (.e (.one (.v (.slice none 0 0))) :: rest) v ho := by
 intro M base w argsC ha H G
 refine hc M base w argsC ?_ H G
 generalize argsC.toList = l at ha
 match l, ha with
 | y :: r, ⟨hy, hr⟩ =>
  refine ⟨?_, hr⟩
  have hy : y = .slice none 0 0 := hy
  subst hy
  show DT.R M.F (.s [] 0 sz) _
  simp only [DT.R]
  exact .inl ⟨trivial, none, 0, rfl⟩
theorem KeyB.cred {V : AccP} (h : KeyB V) (m : Int) : KeyB (credV V m) := ⟨h.k0, h.k1, h.k2, h.k3, h.k4, h.k5, h.k6, h.k7, h.m0, h.m1, h.m2, h.m3, h.m4, h.m5, h.m6, h.m7⟩
def accB (V : AccP) (c : Bool) (us : List Int) (ty : Nat) : Option AB := some ⟨accN V [.v (.bool c), .dp (.s (iD us) us.length 1)], 22, ty, true, .cells⟩
end
end Go.Proofs.YtneaafigbnjceaaGreatDoor.Bk
end

/-! SeTk -/
section
open Go Go.Ev
namespace Go.Proofs.YtneaafigbnjceaaGreatDoor.Bk
noncomputable section
set_option maxRecDepth 100000
set_option maxHeartbeats 20000000
structure TokP where
 t : Int
 m : Int
 s0 : Int
 s1 : Int
 s2 : Int
 s3 : Int
 s4 : Int
 s5 : Int
 s6 : Int
 s7 : Int
def TokP.d (x : TokP) : List DT := [.v (.int .i64 x.t), .v (.int .i64 x.m), .v (.int .u8 x.s0), .v (.int .u8 x.s1), .v (.int .u8 x.s2), .v (.int .u8 x.s3), .v (.int .u8 x.s4), .v (.int .u8 x.s5), .v (.int .u8 x.s6), .v (.int .u8 x.s7)]
def tkD (l : List TokP) : List DT := l.flatMap TokP.d
def tkC (l : List TokP) : List AC := (tkD l).map DT.ac
theorem tkD_len (l : List TokP) : (tkD l).length = l.length * 10 := by
 induction l with
 | nil => rfl
 | cons x l ih => show (TokP.d x ++ tkD l).length = _; rw [List.length_append, ih, List.length_cons, show (TokP.d x).length = 10 from rfl]; omega
theorem tk_get {l : List TokP} {i : Nat} {x : TokP} (h : l[i]? = some x) : takeL (dropL (tkD l) (i.mul 10)) 10 = some (TokP.d x) := by
 obtain ⟨h1, h2⟩ := row_get (f := TokP.d) (k := 10) (fun _ => rfl) h
 rw [takeL_eq, dropL_eq, if_pos (by rw [List.length_drop]; unfold tkD; show 10 ≤ _ - i * 10; omega)]
 exact congrArg some h1
theorem flat_tkC (l : List TokP) : FlatC (tkC l) := flat_dt fun d hd => by
 obtain ⟨x, _, hx⟩ := List.mem_flatMap.1 hd
 simp only [TokP.d, List.mem_cons, List.not_mem_nil, or_false] at hx
 rcases hx with rfl | rfl | rfl | rfl | rfl | rfl | rfl | rfl | rfl | rfl <;> exact ⟨_, rfl⟩
theorem tkC_app (l : List TokP) (x : TokP) : appL (tkC l) ((TokP.d x).map DT.ac) = tkC (l ++ [x]) := by
 rw [appL_eq]
 unfold tkC tkD
 rw [List.flatMap_append, List.map_append]
 simp
def tokE : List TokP → Int
 | [] => 0
 | x :: r => if chkT x.t x.m = 0 then tokE r else chkT x.t x.m
theorem l142 (hE : EnvOk E) (l : List TokP) (hm : l.length ≤ 100000) : ∀ k i, k + i = l.length → ∀ j, OutK E 0 0 (q142 (tkD l) (l.length) (i) j) (Go.Ev.Ends E Tryz.f94 (iI (tokE (l.drop i))) [])
 | 0, i, hk, j => by
  rw [List.drop_eq_nil_of_le (by omega)]
  exact p142x hE (tkD l) (l.length) (i) (decide_eq_false (by (try simp only [Int.ofNat_eq_natCast]); omega)) (fun j => outK_ret (ends_ret (by kernel_rfl))) j
 | k + 1, i, hk, j => by
  have hl : i < l.length := by omega
  have hx : l[i]? = some l[i] := List.getElem?_eq_getElem hl
  rw [List.drop_eq_getElem_cons hl]
  generalize l[i] = x at hx
  by_cases h : chkT x.t x.m = 0
  ·rw [show tokE (x :: l.drop (i + 1)) = tokE (l.drop (i + 1)) from if_pos h]
   exact p142s hE (tkD l) (l.length) (i) (x.t) (x.m) (chkT x.t x.m) (x.s0) (x.s1) (x.s2) (x.s3) (x.s4) (x.s5) (x.s6) (x.s7) (decide_eq_true (by (try simp only [Int.ofNat_eq_natCast]); omega)) ⟨by (try simp only [Int.ofNat_eq_natCast]); omega, by (try simp only [Int.ofNat_eq_natCast]); omega⟩ rfl (tk_get hx) (K91 hE _ _ _ _ _ _ _ _ _ _) (by rw [h]; rfl) (iIe (by (try simp only [Int.ofNat_eq_natCast]); rw [wrap_id (by omega) (by omega)]; try omega)) (l142 hE l hm k (i + 1) (by omega)) j
  ·rw [show tokE (x :: l.drop (i + 1)) = chkT x.t x.m from if_neg h]
   exact p142f hE (tkD l) (l.length) (i) (x.t) (x.m) (chkT x.t x.m) (x.s0) (x.s1) (x.s2) (x.s3) (x.s4) (x.s5) (x.s6) (x.s7) (decide_eq_true (by (try simp only [Int.ofNat_eq_natCast]); omega)) ⟨by (try simp only [Int.ofNat_eq_natCast]); omega, by (try simp only [Int.ofNat_eq_natCast]); omega⟩ rfl (tk_get hx) (K91 hE _ _ _ _ _ _ _ _ _ _) (bne_iff_ne.2 h) (fun j => outK_ret (ends_ret (by kernel_rfl))) j
def tokM (l : List TokP) : Int := if l.length > 256 then 5 else tokE l
theorem K142 (hE : EnvOk E) (l : List TokP) (hm : l.length ≤ 100000) : COut E 0 [] 94 [.e (.one (.dp (.s (tkD l) l.length 10))), .e (.one (.v (.func (.func 48) #[] #[])))] (iI (tokE l)) [] :=
 cOut_start Tryz.func94 rfl (p142a hE (tkD l) (l.length) (l142 hE l hm l.length 0 rfl) fun _ => undef)
theorem K94 (hE : EnvOk E) (l : List TokP) (hm : l.length ≤ 100000) : COut E 0 [] 57 [.e (.one (.dp (.s (tkD l) l.length 10))), iI 256, .e (.one (.v (.func (.func 48) #[] #[])))] (iI (tokM l)) [] := by
 unfold tokM
 by_cases h : l.length > 256
 ·rw [if_pos h]
  exact cOut_start Tryz.func57 rfl (p94m hE (tkD l) (l.length) (256) (decide_eq_true (by (try simp only [Int.ofNat_eq_natCast]); omega)) (fun j => outK_ret (ends_ret (by kernel_rfl))) fun _ => undef)
 ·rw [if_neg h]
  exact cOut_start Tryz.func57 rfl (p94s hE (tkD l) (l.length) (tokE l) (256) (decide_eq_false (by (try simp only [Int.ofNat_eq_natCast]); omega)) (K142 hE l hm) (fun j => outK_ret (ends_ret (by kernel_rfl))) fun _ => undef)
def ixd (p : TokP × Int) : List DT := p.1.d ++ [.v (.int .i64 p.2)]
def ixD (l : List (TokP × Int)) : List DT := l.flatMap ixd
def ixC (l : List (TokP × Int)) : List AC := (ixD l).map DT.ac
theorem ixD_len (l : List (TokP × Int)) : (ixD l).length = l.length * 11 := by
 induction l with
 | nil => rfl
 | cons x l ih => show (ixd x ++ ixD l).length = _; rw [List.length_append, ih, List.length_cons, show (ixd x).length = 11 from rfl]; omega
theorem ix_get {l : List (TokP × Int)} {i : Nat} {x : TokP × Int} (h : l[i]? = some x) : takeL (dropL (ixD l) (i.mul 11)) 11 = some (ixd x) := by
 obtain ⟨h1, h2⟩ := row_get (f := ixd) (k := 11) (fun _ => rfl) h
 rw [takeL_eq, dropL_eq, if_pos (by rw [List.length_drop]; unfold ixD; show 11 ≤ _ - i * 11; omega)]
 exact congrArg some h1
theorem flat_ixC (l : List (TokP × Int)) : FlatC (ixC l) := flat_dt fun d hd => by
 obtain ⟨x, _, hx⟩ := List.mem_flatMap.1 hd
 simp only [ixd, TokP.d, List.mem_append, List.mem_cons, List.not_mem_nil, or_false] at hx
 rcases hx with (rfl | rfl | rfl | rfl | rfl | rfl | rfl | rfl | rfl | rfl) | rfl <;> exact ⟨_, rfl⟩
theorem ixC_app (l : List (TokP × Int)) (x : TokP × Int) : appL (ixC l) ((ixd x).map DT.ac) = ixC (l ++ [x]) := by
 rw [appL_eq]
 unfold ixC ixD
 rw [List.flatMap_append, List.map_append]
 simp
theorem K96 (hE : EnvOk E) (x : TokP) (k : Int) : COut E 0 [] 60 [.e (.agg ((ixd (x, k)).map DT.ac))] (iI k) [] :=
 cOut_start Tryz.func60 rfl (p96 hE (x.t) (x.m) (k) (x.s0) (x.s1) (x.s2) (x.s3) (x.s4) (x.s5) (x.s6) (x.s7) (fun j => outK_ret (ends_ret (by kernel_rfl))) fun _ => undef)
def idx (l : List (TokP × Int)) (i : Nat) : List Int := (l.take i).map (·.2) ++ List.replicate (l.length - i) 0
theorem idx_all (l : List (TokP × Int)) : idx l l.length = l.map (·.2) := by simp [idx]
theorem idx_set {l : List (TokP × Int)} {i : Nat} {x : TokP × Int} (h : l[i]? = some x) : (idx l i).set i x.2 = idx l (i + 1) := by
 obtain ⟨hi, hx⟩ := List.getElem?_eq_some_iff.1 h
 have e : l.length - i = l.length - (i + 1) + 1 := by omega
 unfold idx
 rw [List.set_append_right _ _ (by simp; omega), e, List.replicate_succ, List.take_add_one, h]
 simp [Nat.min_eq_left (Nat.le_of_lt hi)]
theorem l95 (hE : EnvOk E) (l : List (TokP × Int)) (hm : l.length ≤ 100000) : ∀ k i, k + i = l.length → ∀ j, OutK E 0 0 (q95 (ixD l) (l.length) (i) (iC (idx l i)) j) (Go.Ev.Ends E Tryz.f59 (.e (.one (.slc 0 0 l.length 1 l.length true))) [bK (iC (l.map (·.2))) l.length 3])
 | 0, i, hk, j => by
  obtain rfl : i = l.length := by omega
  rw [idx_all]
  exact p95x hE (ixD l) (l.length) (l.length) (iC (l.map (·.2))) (decide_eq_false (by (try simp only [Int.ofNat_eq_natCast]); omega)) (fun j => outK_ret (ends_ret (by kernel_rfl))) j
 | k + 1, i, hk, j => by
  have hl : i < l.length := by omega
  have hx : l[i]? = some l[i] := List.getElem?_eq_getElem hl
  generalize l[i] = q at hx
  obtain ⟨x, z⟩ := q
  exact p95s hE (ixD l) (l.length) (i) (x.t) (x.m) (z) (x.s0) (x.s1) (x.s2) (x.s3) (x.s4) (x.s5) (x.s6) (x.s7) (iC (idx l i)) (iC (idx l (i + 1))) (decide_eq_true (by (try simp only [Int.ofNat_eq_natCast]); omega)) ⟨by (try simp only [Int.ofNat_eq_natCast]); omega, by (try simp only [Int.ofNat_eq_natCast]); omega⟩ rfl (ix_get hx) (K96 hE x z) (by show 0 + i * 1 = i; omega) (by first | rfl | omega | simp) (by rw [st_iC, idx_set hx]) (iIe (by (try simp only [Int.ofNat_eq_natCast]); rw [wrap_id (by omega) (by omega)]; try omega)) (flat_iC _) (l95 hE l hm k (i + 1) (by omega)) j
theorem K95 (hE : EnvOk E) (l : List (TokP × Int)) (hm : l.length ≤ 100000) : COut E 0 [] 59 [.e (.one (.dp (.s (ixD l) l.length 11))), .e (.one (.v (.func (.func 60) #[] #[])))] (.e (.one (.dp (.s (iD (l.map (·.2))) l.length 1)))) [] := by
 have hc : COut E 0 [] 59 [.e (.one (.dp (.s (ixD l) l.length 11))), .e (.one (.v (.func (.func 60) #[] #[])))] (.e (.one (.slc 0 0 l.length 1 l.length true))) [bK (iC (l.map (·.2))) l.length 3] :=
  cOut_start Tryz.func59 rfl (p95a hE (ixD l) (l.length) 0 (iC (idx l 0)) ⟨by omega, by omega⟩ (by simp [small]; omega) rfl (Nat.mul_one _) (by rw [rep0]; rfl) (l95 hE l hm l.length 0 rfl) fun _ => undef)
 have hlen : (iD (l.map (·.2))).length = l.length := by simp
 exact cOut_clear (cOut_freeze 0 hc rfl (Nat.zero_le _) (ds := iD (l.map (·.2))) (.inr ⟨0, l.length, 1, l.length, true, iD (l.map (·.2)), rfl, rfl, by rw [takeL_eq, dropL_eq, List.drop_zero, if_pos (by rw [hlen]; omega), List.take_of_length_le (by rw [hlen]; omega)]⟩)) rfl
def crX (V : AccP) (c : Bool) (us : List Int) (x : TokP) : Int := crI V c us us.length x.t x.m [x.s0, x.s1, x.s2, x.s3, x.s4, x.s5, x.s6, x.s7]
def allF (c : Bool) : List TokP → Nat → AccP → List Int → AccP × List Int × List (TokP × Int)
 | [], _, V, us => (V, us, [])
 | x :: r, i, V, us => if crX V c us x = 0 then
   ((allF c r (i + 1) (credV V x.m) (insI us x.t)).1, (allF c r (i + 1) (credV V x.m) (insI us x.t)).2.1, (x, Int.ofNat i) :: (allF c r (i + 1) (credV V x.m) (insI us x.t)).2.2)
  else allF c r (i + 1) V us
theorem allF_pos {c : Bool} {x : TokP} {r : List TokP} {i : Nat} {V : AccP} {us : List Int} (h : crX V c us x = 0) : allF c (x :: r) i V us = ((allF c r (i + 1) (credV V x.m) (insI us x.t)).1, (allF c r (i + 1) (credV V x.m) (insI us x.t)).2.1, (x, Int.ofNat i) :: (allF c r (i + 1) (credV V x.m) (insI us x.t)).2.2) := if_pos h
theorem allF_neg {c : Bool} {x : TokP} {r : List TokP} {i : Nat} {V : AccP} {us : List Int} (h : ¬ crX V c us x = 0) : allF c (x :: r) i V us = allF c r (i + 1) V us := if_neg h
def res24 (c : Bool) (r : AccP × List Int) (o : List (TokP × Int)) : AV := .tup [.agg (accN r.1 [.v (.bool c), .dp (.s (iD r.2) r.2.length 1)]), .one (.dp (.s (iD (o.map (·.2))) o.length 1)), .one (.v (.int .i64 0))]
theorem l24 (hE : EnvOk E) (l : List TokP) (c : Bool) (hm : l.length ≤ 1000) : ∀ k i, k + i = l.length → ∀ (V : AccP) (_hV : KeyB V) (us : List Int) (_hu : us.length + k ≤ 1000) (o : List (TokP × Int)) (_ho : o.length ≤ i) (j), OutK E 0 0 (q24 (V) (tkD l) (iD us) (us.length) (l.length) (i) (o.length) (c) (ixC o) j) (Go.Ev.Ends E Tryz.f15 (res24 c ((allF c (l.drop i) i V us).1, (allF c (l.drop i) i V us).2.1) (o ++ (allF c (l.drop i) i V us).2.2)) [accB (allF c (l.drop i) i V us).1 c (allF c (l.drop i) i V us).2.1 44])
 | 0, i, hk, V, hV, us, hu, o, ho, j => by
  rw [List.drop_eq_nil_of_le (by omega)]
  show OutK _ _ _ _ (Go.Ev.Ends E Tryz.f15 (res24 c (V, us) (o ++ [])) [accB V c us 44])
  rw [List.append_nil]
  refine outK_freeze 2 (ds := ixD o) (N := o.length * 11) (el := 116) (fl := false) (h' := (q24x (V) (tkD l) (iD us) (ixD o) (us.length) (l.length) (i) (o.length) (c) j).heap) (tm' := (q24x (V) (tkD l) (iD us) (ixD o) (us.length) (l.length) (i) (o.length) (c) j).tm) rfl (Nat.zero_le _) ⟨.inl rfl, .inl rfl, trivial, trivial⟩ (frz2 j [(4, (.e (.one (.ptr 0 0)))), (8, (.e (.one (.ptr 1 0)))), (9, (.e (.one (.slc 2 0 o.length 11 o.length false)))), (25, (.e (.one (.dp (.s (tkD l) (l.length) 10))))), (26, (iI (Int.ofNat l.length))), (27, (iI (Int.ofNat i)))] [(4, (.e (.one (.ptr 0 0)))), (8, (.e (.one (.ptr 1 0)))), (9, (.e (.one (.dp (.s (ixD o) o.length 11))))), (25, (.e (.one (.dp (.s (tkD l) (l.length) 10))))), (26, (iI (Int.ofNat l.length))), (27, (iI (Int.ofNat i)))] ⟨⟨rfl, .inl rfl⟩, ⟨rfl, .inl rfl⟩, ⟨rfl, .inr ⟨0, o.length, 11, o.length, false, ixD o, rfl, rfl, by rw [takeL_eq, dropL_eq, List.drop_zero, if_pos (Nat.le_of_eq (ixD_len _).symm), List.take_of_length_le (Nat.le_of_eq (ixD_len _))]⟩⟩, ⟨rfl, .inl rfl⟩, ⟨rfl, .inl rfl⟩, ⟨rfl, .inl rfl⟩, trivial⟩ 56 0) ?_
  exact p24x hE (V) (tkD l) (iD us) (iD (o.map (·.2))) (ixD o) (us.length) (l.length) (i) (o.length) (c) (decide_eq_false (by (try simp only [Int.ofNat_eq_natCast]); omega)) (K95 hE o (by omega)) (fun j => outK_ret (ends_ret (by kernel_rfl))) j
 | k + 1, i, hk, V, hV, us, hu, o, ho, j => by
  have hl : i < l.length := by omega
  have hx : l[i]? = some l[i] := List.getElem?_eq_getElem hl
  rw [List.drop_eq_getElem_cons hl]
  generalize l[i] = x at hx
  by_cases h : crX V c us x = 0
  ·rw [allF_pos h]
   have ih := l24 hE l c hm k (i + 1) (by omega) (credV V x.m) (hV.cred _) (insI us x.t) (by rw [insI_len]; omega) (o ++ [(x, Int.ofNat i)]) (by simp; omega)
   rw [show (o ++ [(x, Int.ofNat i)]).length = o.length + 1 by simp, insI_len, List.append_assoc] at ih
   exact p24bt hE (V) (credV V x.m) (tkD l) (iD us) (iD (insI us x.t)) (us.length) (us.length + 1) (l.length) (i) (o.length) (c) (x.t) (x.m) (crX V c us x) 0 (x.s0) (x.s1) (x.s2) (x.s3) (x.s4) (x.s5) (x.s6) (x.s7) (ixC o) (ixC (o ++ [(x, Int.ofNat i)])) (decide_eq_true (by (try simp only [Int.ofNat_eq_natCast]); omega)) ⟨by (try simp only [Int.ofNat_eq_natCast]); omega, by (try simp only [Int.ofNat_eq_natCast]); omega⟩ rfl (tk_get hx) (K92 hE V hV us _ c rfl (by omega) _ _ _ _ _ _ _ _ _ _) (by rw [h]; rfl) (K93 hE V us _ c rfl (by omega) _ _) (by omega) (by simp [small]; omega) (by first | rfl | omega | simp) (ixC_app o (x, Int.ofNat i)) (by first | rfl | omega | simp) (iIe (by (try simp only [Int.ofNat_eq_natCast]); rw [wrap_id (by omega) (by omega)]; try omega)) (flat_ixC _) ih j
  ·rw [allF_neg h]
   exact p24bf hE (V) (tkD l) (iD us) (us.length) (l.length) (i) (o.length) (c) (x.t) (x.m) (crX V c us x) (x.s0) (x.s1) (x.s2) (x.s3) (x.s4) (x.s5) (x.s6) (x.s7) (ixC o) (decide_eq_true (by (try simp only [Int.ofNat_eq_natCast]); omega)) ⟨by (try simp only [Int.ofNat_eq_natCast]); omega, by (try simp only [Int.ofNat_eq_natCast]); omega⟩ rfl (tk_get hx) (K92 hE V hV us _ c rfl (by omega) _ _ _ _ _ _ _ _ _ _) (beq_eq_false_iff_ne.2 h) (iIe (by (try simp only [Int.ofNat_eq_natCast]); rw [wrap_id (by omega) (by omega)]; try omega)) (flat_ixC _) (l24 hE l c hm k (i + 1) (by omega) V hV us (by omega) o (by omega)) j
theorem l24n (hE : EnvOk E) (l : List TokP) (c : Bool) (hm : l.length ≤ 1000) : ∀ k i, k + i = l.length → ∀ (V : AccP) (_hV : KeyB V) (us : List Int) (_hu : us.length + k ≤ 1000) (j), OutK E 0 0 (q24n (V) (tkD l) (iD us) (us.length) (l.length) (i) (c) j) (Go.Ev.Ends E Tryz.f15 (res24 c ((allF c (l.drop i) i V us).1, (allF c (l.drop i) i V us).2.1) (allF c (l.drop i) i V us).2.2) [accB (allF c (l.drop i) i V us).1 c (allF c (l.drop i) i V us).2.1 44])
 | 0, i, hk, V, hV, us, hu, j => by
  rw [List.drop_eq_nil_of_le (by omega)]
  exact p24y hE (V) (tkD l) (iD us) (us.length) (l.length) (i) (c) (decide_eq_false (by (try simp only [Int.ofNat_eq_natCast]); omega)) (cOut_nilA 11 (K95 hE [] (by simp))) (fun j => outK_ret (ends_ret (by kernel_rfl))) j
 | k + 1, i, hk, V, hV, us, hu, j => by
  have hl : i < l.length := by omega
  have hx : l[i]? = some l[i] := List.getElem?_eq_getElem hl
  rw [List.drop_eq_getElem_cons hl]
  generalize l[i] = x at hx
  by_cases h : crX V c us x = 0
  ·rw [allF_pos h]
   have ih := l24 hE l c hm k (i + 1) (by omega) (credV V x.m) (hV.cred _) (insI us x.t) (by rw [insI_len]; omega) [(x, Int.ofNat i)] (by simp)
   rw [insI_len] at ih
   exact p24nt hE (V) (credV V x.m) (tkD l) (iD us) (iD (insI us x.t)) (us.length) (us.length + 1) (l.length) (i) (c) (x.t) (x.m) (crX V c us x) (x.s0) (x.s1) (x.s2) (x.s3) (x.s4) (x.s5) (x.s6) (x.s7) (decide_eq_true (by (try simp only [Int.ofNat_eq_natCast]); omega)) ⟨by (try simp only [Int.ofNat_eq_natCast]); omega, by (try simp only [Int.ofNat_eq_natCast]); omega⟩ rfl (tk_get hx) (K92 hE V hV us _ c rfl (by omega) _ _ _ _ _ _ _ _ _ _) (by rw [h]; rfl) (K93 hE V us _ c rfl (by omega) _ _) (iIe (by (try simp only [Int.ofNat_eq_natCast]); rw [wrap_id (by omega) (by omega)]; try omega)) ih j
  ·rw [allF_neg h]
   exact p24nf hE (V) (tkD l) (iD us) (us.length) (l.length) (i) (c) (x.t) (x.m) (crX V c us x) (x.s0) (x.s1) (x.s2) (x.s3) (x.s4) (x.s5) (x.s6) (x.s7) (decide_eq_true (by (try simp only [Int.ofNat_eq_natCast]); omega)) ⟨by (try simp only [Int.ofNat_eq_natCast]); omega, by (try simp only [Int.ofNat_eq_natCast]); omega⟩ rfl (tk_get hx) (K92 hE V hV us _ c rfl (by omega) _ _ _ _ _ _ _ _ _ _) (beq_eq_false_iff_ne.2 h) (iIe (by (try simp only [Int.ofNat_eq_natCast]); rw [wrap_id (by omega) (by omega)]; try omega)) (l24n hE l c hm k (i + 1) (by omega) V hV us (by omega)) j
theorem K24 (hE : EnvOk E) (V : AccP) (hV : KeyB V) (us : List Int) (c : Bool) (l : List TokP) (hu : us.length ≤ 500) (hm : l.length ≤ 400) (h : firstI [chkA V us us.length c, tokM l] = 0) : COut E 0 [] 15 [accA V us us.length c, .e (.one (.dp (.s (tkD l) l.length 10)))] (res24 c ((allF c l 0 V us).1, (allF c l 0 V us).2.1) (allF c l 0 V us).2.2) [] := by
 have k76 := K76 hE [chkA V us us.length c, tokM l] (by simp)
 rw [h] at k76
 have := l24n hE l c (by omega) l.length 0 rfl V hV us (by omega)
 rw [List.drop_zero] at this
 exact cOut_clear (cOut_start Tryz.func15 rfl (p24a hE (V) (tkD l) (iD us) (us.length) (l.length) (c) (chkA V us us.length c) (tokM l) (0) (K20 hE V us _ c rfl (by omega)) (K94 hE l (by omega)) (lend2 3 hE 53 _ _ 36 true k76 _ 2 rfl) rfl (K79 hE V us _ c rfl (by omega)) this fun _ => undef)) rfl
end
end Go.Proofs.YtneaafigbnjceaaGreatDoor.Bk
end

/-! SeOm -/
section
open Go Go.Ev Go.RowKit
open Extern.Stop
namespace Go.Proofs.YtneaafigbnjceaaGreatDoor.Bk
noncomputable section
set_option maxRecDepth 100000
set_option maxHeartbeats 4000000
def tk (V : AccP) (x : Int × Int) : TokP := ⟨1 + x.1, 1 + x.2, sb 0 V.k0 (1 + x.1) (1 + x.2), sb 1 V.k1 (1 + x.1) (1 + x.2), sb 2 V.k2 (1 + x.1) (1 + x.2), sb 3 V.k3 (1 + x.1) (1 + x.2), sb 4 V.k4 (1 + x.1) (1 + x.2), sb 5 V.k5 (1 + x.1) (1 + x.2), sb 6 V.k6 (1 + x.1) (1 + x.2), sb 7 V.k7 (1 + x.1) (1 + x.2)⟩
def Sd (x : Int × Int) : Prop := (0 ≤ x.1 ∧ x.1 < 65536) ∧ 0 ≤ x.2 ∧ x.2 < 65536
def num1 (x : Int × Int) : Int := 1 + x.1
structure Inv (V : AccP) (n : Nat) (W : AccP) (ws : List Int) : Prop where
 g : GdA W ws false
 e : ({ W with b := 0, d := 0 } : AccP) = { V with b := 0, d := 0 }
 b : W.b + 65536 * n ≤ 2000000000
 l : ws.length + n ≤ 200
theorem Inv.eq {V W : AccP} {n : Nat} {ws : List Int} (h : Inv V n W ws) : W = { V with b := W.b, d := W.d } := congrArg (fun A : AccP => { A with b := W.b, d := W.d }) h.e
theorem Inv.key {V W : AccP} {n : Nat} {ws : List Int} (h : Inv V n W ws) (hk : KeyB V) : KeyB W := by
 rw [h.eq]
 exact ⟨hk.k0, hk.k1, hk.k2, hk.k3, hk.k4, hk.k5, hk.k6, hk.k7, hk.m0, hk.m1, hk.m2, hk.m3, hk.m4, hk.m5, hk.m6, hk.m7⟩
theorem Inv.less {V W : AccP} {n k : Nat} {ws : List Int} (h : Inv V n W ws) (hk : k ≤ n) : Inv V k W ws := ⟨h.g, h.e, by have := h.b; omega, by have := h.l; omega⟩
theorem Sd.m {x : Int × Int} (h : Sd x) : 1 ≤ 1 + x.2 ∧ 1 + x.2 ≤ 100000000 := by have := h.2; omega
theorem Sd.t {x : Int × Int} (h : Sd x) : 1 ≤ 1 + x.1 ∧ 1 + x.1 ≤ 999999999 := by have := h.1; omega
theorem Inv.step {V W : AccP} {n : Nat} {ws : List Int} (h : Inv V (n + 1) W ws) {x : Int × Int} (hx : Sd x) (hn : 1 + x.1 ∉ ws) : Inv V n (credV W (1 + x.2)) (insI ws (1 + x.1)) := by
 have hb := h.b
 have hl := h.l
 obtain ⟨e1, e2, p0, p1, p2⟩ := cred_b h.g hx.m (by omega)
 have h2 := hx.2
 exact ⟨cred_good h.g hx.m (by omega) hn hx.t (by omega), h.e, by rw [e1]; omega, by rw [insI_len]; omega⟩
theorem Inv.sls {V W : AccP} {n : Nat} {ws : List Int} (h : Inv V n W ws) (t m : Int) : sls W.k0 W.k1 W.k2 W.k3 W.k4 W.k5 W.k6 W.k7 t m = sls V.k0 V.k1 V.k2 V.k3 V.k4 V.k5 V.k6 V.k7 t m := by rw [h.eq]
theorem Inv.valid {V W : AccP} {n : Nat} {ws : List Int} (h : Inv V n W ws) (x : Int × Int) : validB W false (1 + x.1) (1 + x.2) [(tk V x).s0, (tk V x).s1, (tk V x).s2, (tk V x).s3, (tk V x).s4, (tk V x).s5, (tk V x).s6, (tk V x).s7] = true := by
 unfold validB
 rw [h.sls, show [(tk V x).s0, (tk V x).s1, (tk V x).s2, (tk V x).s3, (tk V x).s4, (tk V x).s5, (tk V x).s6, (tk V x).s7] = Bk.sls V.k0 V.k1 V.k2 V.k3 V.k4 V.k5 V.k6 V.k7 (1 + x.1) (1 + x.2) from rfl, sameK_refl]
 rfl
theorem Inv.cr0 {V W : AccP} {n : Nat} {ws : List Int} (h : Inv V (n + 1) W ws) {x : Int × Int} (hx : Sd x) (hn : 1 + x.1 ∉ ws) : crX W false ws (tk V x) = 0 :=
 crI_ok h.g _ hx.m (by have := h.b; omega) (h.valid x) hn (by have := h.l; omega)
theorem Inv.cr9 {V W : AccP} {n : Nat} {ws : List Int} (h : Inv V n W ws) {x : Int × Int} (hn : 1 + x.1 ∈ ws) : crX W false ws (tk V x) = 9 := crI_9 (h.valid x) hn
def frs (us : List Int) : List Int → List (Int × Int) → Int × Int
 | _, [] => (0, 0)
 | seen, x :: r => if 1 + x.1 ∉ us ∧ 1 + x.1 ∉ seen then (1 + x.2 + (frs us (seen ++ [1 + x.1]) r).1, 1 + (frs us (seen ++ [1 + x.1]) r).2) else frs us (seen ++ [1 + x.1]) r
structure Fin (V : AccP) (us : List Int) (n : Nat) (W : AccP) (ws seen : List Int) (l : List (Int × Int)) (r : AccP × List Int × List (TokP × Int)) : Prop where
 i : Inv V n r.1 r.2.1
 m : ∀ y, y ∈ r.2.1 ↔ y ∈ us ∨ y ∈ seen ∨ y ∈ l.map num1
 w : r.1.b - r.1.d = W.b - W.d + (frs us seen l).1
 k : (r.2.2.length : Int) = (frs us seen l).2
 d : r.1.d ≤ W.d
 z : W.b ≤ r.1.b
theorem fin_of {V : AccP} {us : List Int} : ∀ (l : List (Int × Int)) (n i : Nat) (W : AccP) (ws seen : List Int), Inv V (l.length + n) W ws → (∀ y, y ∈ ws ↔ y ∈ us ∨ y ∈ seen) → (∀ x ∈ l, Sd x) → Fin V us n W ws seen l (allF false (l.map (tk V)) i W ws)
 | [], n, i, W, ws, seen, h, hm, _ => ⟨h.less (by simp), fun y => by show y ∈ ws ↔ _; rw [hm y]; simp, by show W.b - W.d = _; simp [frs], by simp [allF, frs], Int.le_refl _, Int.le_refl _⟩
 | x :: l, n, i, W, ws, seen, h, hm, hs => by
  have hx := hs x (List.mem_cons_self ..)
  have hs' : ∀ y ∈ l, Sd y := fun y hy => hs y (List.mem_cons_of_mem _ hy)
  have h : Inv V (l.length + n + 1) W ws := h.less (by simp only [List.length_cons]; omega)
  rw [List.map_cons]
  by_cases hn : 1 + x.1 ∈ ws
  ·have hf : frs us seen (x :: l) = frs us (seen ++ [1 + x.1]) l := by
    show (if _ then _ else _) = _
    rw [if_neg]
    intro ⟨a, b⟩
    rcases (hm _).1 hn with c | c
    ·exact a c
    ·exact b c
   rw [allF_neg (by rw [h.cr9 hn]; decide)]
   have ih := fin_of (us := us) l n (i + 1) W ws (seen ++ [1 + x.1]) (h.less (by omega)) (fun y => by
    rw [hm y, List.mem_append, List.mem_singleton]
    constructor
    ·rintro (a | a)
     ·exact .inl a
     ·exact .inr (.inl a)
    ·rintro (a | a | rfl)
     ·exact .inl a
     ·exact .inr a
     ·exact (hm _).1 hn) hs'
   refine ⟨ih.i, fun y => ?_, by rw [hf]; exact ih.w, by rw [hf]; exact ih.k, ih.d, ih.z⟩
   rw [ih.m y]
   simp only [List.map_cons, List.mem_append, List.mem_cons, List.not_mem_nil, or_false, or_assoc, num1]
  ·have hf : frs us seen (x :: l) = (1 + x.2 + (frs us (seen ++ [1 + x.1]) l).1, 1 + (frs us (seen ++ [1 + x.1]) l).2) := by
    show (if _ then _ else _) = _
    rw [if_pos]
    exact ⟨fun a => hn ((hm _).2 (.inl a)), fun a => hn ((hm _).2 (.inr a))⟩
   rw [allF_pos (h.cr0 hx hn)]
   have hi := h.step hx hn
   obtain ⟨e1, e2, p0, p1, p2⟩ := cred_b h.g hx.m (by have := h.b; omega)
   have ih := fin_of (us := us) l n (i + 1) (credV W (1 + x.2)) (insI ws (1 + x.1)) (seen ++ [1 + x.1]) hi (fun y => by
    rw [insI_mem h.g.u, hm y, List.mem_append, List.mem_singleton, or_assoc]) hs'
   refine ⟨ih.i, fun y => ?_, ?_, ?_, ?_, ?_⟩
   ·show y ∈ (allF false (l.map (tk V)) (i + 1) (credV W (1 + x.2)) (insI ws (1 + x.1))).2.1 ↔ _
    rw [ih.m y]
    simp only [List.map_cons, List.mem_append, List.mem_cons, List.not_mem_nil, or_false, or_assoc, num1]
   ·rw [hf]
    show (allF false (l.map (tk V)) (i + 1) (credV W (1 + x.2)) (insI ws (1 + x.1))).1.b - _ = _
    have := ih.w
    rw [e1, e2] at this
    show _ - (allF false (l.map (tk V)) (i + 1) (credV W (1 + x.2)) (insI ws (1 + x.1))).1.d = W.b - W.d + (1 + x.2 + (frs us (seen ++ [1 + x.1]) l).1)
    omega
   ·rw [hf]
    show (((allF false (l.map (tk V)) (i + 1) (credV W (1 + x.2)) (insI ws (1 + x.1))).2.2.length + 1 : Nat) : Int) = _
    have := ih.k
    show _ = 1 + (frs us (seen ++ [1 + x.1]) l).2
    omega
   ·have := ih.d
    rw [e2] at this
    show (allF false (l.map (tk V)) (i + 1) (credV W (1 + x.2)) (insI ws (1 + x.1))).1.d ≤ _
    omega
   ·have := ih.z
    rw [e1] at this
    show _ ≤ (allF false (l.map (tk V)) (i + 1) (credV W (1 + x.2)) (insI ws (1 + x.1))).1.b
    omega
theorem frs_dup {us : List Int} {ex : List (Int × Int)} : ∀ (l : List (Int × Int)) (seen : List Int), (∀ x ∈ ex, 1 + x.1 ∈ seen ∨ 1 + x.1 ∈ l.map num1) → frs us seen (l ++ ex) = frs us seen l
 | [], seen, h => by
  rw [List.nil_append]
  induction ex generalizing seen with
  | nil => rfl
  | cons x ex ih =>
   have hx : 1 + x.1 ∈ seen := by
    rcases h x (List.mem_cons_self ..) with a | a
    ·exact a
    ·simp at a
   show (if _ then _ else _) = _
   rw [if_neg (fun a => a.2 hx)]
   exact ih _ fun y hy => by
    rcases h y (List.mem_cons_of_mem _ hy) with a | a
    ·exact .inl (List.mem_append_left _ a)
    ·exact .inr a
 | x :: l, seen, h => by
  have ih := frs_dup (us := us) (ex := ex) l (seen ++ [1 + x.1]) fun y hy => by
   rcases h y hy with a | a
   ·exact .inl (List.mem_append_left _ a)
   ·rw [List.map_cons, List.mem_cons] at a
    rcases a with a | a
    ·exact .inl (List.mem_append_right _ (by rw [a]; exact List.mem_singleton.2 rfl))
    ·exact .inr a
  rw [List.cons_append]
  show (if _ then _ else _) = (if _ then _ else _)
  rw [ih]
def sumN (us : List Int) : List (Int × Int) → Int × Int
 | [] => (0, 0)
 | x :: r => if 1 + x.1 ∉ us then (1 + x.2 + (sumN us r).1, 1 + (sumN us r).2) else sumN us r
theorem sumN_c (us : List Int) (x : Int × Int) (r : List (Int × Int)) : sumN us (x :: r) = if 1 + x.1 ∉ us then (1 + x.2 + (sumN us r).1, 1 + (sumN us r).2) else sumN us r := rfl
theorem sumN_app (us : List Int) : ∀ a b : List (Int × Int), sumN us (a ++ b) = ((sumN us a).1 + (sumN us b).1, (sumN us a).2 + (sumN us b).2)
 | [], b => by
  show sumN us b = ((0 : Int) + (sumN us b).1, (0 : Int) + (sumN us b).2)
  rw [Int.zero_add, Int.zero_add]
 | x :: a, b => by
  rw [List.cons_append, sumN_c, sumN_c, sumN_app us a b]
  by_cases h : 1 + x.1 ∉ us
  ·rw [if_pos h, if_pos h]
   simp only [Prod.mk.injEq]
   omega
  ·rw [if_neg h, if_neg h]
theorem sumN_rev (us : List Int) : ∀ a : List (Int × Int), sumN us a.reverse = sumN us a
 | [] => rfl
 | x :: a => by
  rw [List.reverse_cons, sumN_app, sumN_rev us a, sumN_c, sumN_c]
  by_cases h : 1 + x.1 ∉ us
  ·rw [if_pos h, if_pos h]
   show ((sumN us a).1 + (1 + x.2 + 0), (sumN us a).2 + (1 + 0)) = _
   simp only [Prod.mk.injEq]
   omega
  ·rw [if_neg h, if_neg h]
   show ((sumN us a).1 + 0, (sumN us a).2 + 0) = _
   simp
theorem frs_sum {us : List Int} : ∀ (l : List (Int × Int)) (seen : List Int), l.Pairwise (fun x y => x.1 ≠ y.1) → (∀ x ∈ l, 1 + x.1 ∉ seen) → frs us seen l = sumN us l
 | [], _, _, _ => rfl
 | x :: l, seen, hp, hs => by
  obtain ⟨h1, h2⟩ := List.pairwise_cons.1 hp
  have ih := frs_sum (us := us) l (seen ++ [1 + x.1]) h2 fun y hy => by
   rw [List.mem_append, List.mem_singleton]
   rintro (a | a)
   ·exact hs y (List.mem_cons_of_mem _ hy) a
   ·have := h1 y hy; omega
  show (if _ then _ else _) = (if _ then _ else _)
  rw [ih]
  have hx := hs x (List.mem_cons_self ..)
  by_cases h : 1 + x.1 ∈ us
  ·rw [if_neg (fun a => a.1 h), if_neg (fun a => a h)]
  ·rw [if_pos ⟨h, hx⟩, if_pos h]
theorem rise_ext : ∀ (a b : List Int), a.Pairwise (· < ·) → b.Pairwise (· < ·) → (∀ y, y ∈ a ↔ y ∈ b) → a = b
 | [], [], _, _, _ => rfl
 | [], y :: b, _, _, h => absurd ((h y).2 (List.mem_cons_self ..)) (by simp)
 | x :: a, [], _, _, h => absurd ((h x).1 (List.mem_cons_self ..)) (by simp)
 | x :: a, y :: b, ha, hb, h => by
  obtain ⟨a1, a2⟩ := List.pairwise_cons.1 ha
  obtain ⟨b1, b2⟩ := List.pairwise_cons.1 hb
  have e : x = y := by
   rcases List.mem_cons.1 ((h x).1 (List.mem_cons_self ..)) with c | c
   ·exact c
   ·rcases List.mem_cons.1 ((h y).2 (List.mem_cons_self ..)) with d | d
    ·exact d.symm
    ·have q1 := b1 x c; have q2 := a1 y d; exact absurd q1 (by omega)
  subst e
  rw [rise_ext a b a2 b2 fun y => ⟨fun hy => by
   rcases List.mem_cons.1 ((h y).1 (List.mem_cons_of_mem _ hy)) with c | c
   ·subst c; have := a1 y hy; omega
   ·exact c, fun hy => by
   rcases List.mem_cons.1 ((h y).2 (List.mem_cons_of_mem _ hy)) with c | c
   ·subst c; have := b1 y hy; omega
   ·exact c⟩]
theorem order_eq {V : AccP} {us : List Int} {l ex : List (Int × Int)} {i i' n : Nat} (h : Inv V (l.length + ex.length + n) V us) (hs : ∀ x ∈ l, Sd x) (hex : ∀ x ∈ ex, x ∈ l) (hp : l.Pairwise (fun x y => x.1 ≠ y.1)) (hd : V.d = 0) :
  (allF false (l.reverse.map (tk V)) i V us).1 = (allF false ((l ++ ex).map (tk V)) i' V us).1 ∧ (allF false (l.reverse.map (tk V)) i V us).2.1 = (allF false ((l ++ ex).map (tk V)) i' V us).2.1 ∧ (allF false (l.reverse.map (tk V)) i V us).2.2.length = (allF false ((l ++ ex).map (tk V)) i' V us).2.2.length := by
 have f1 := fin_of (us := us) l.reverse 0 i V us [] (h.less (by simp; omega)) (fun y => by simp) (fun x hx => hs x (List.mem_reverse.1 hx))
 have f2 := fin_of (us := us) (l ++ ex) 0 i' V us [] (h.less (by simp)) (fun y => by simp) (fun x hx => by
  rcases List.mem_append.1 hx with a | a
  ·exact hs x a
  ·exact hs x (hex x a))
 have hdup : frs us [] (l ++ ex) = frs us [] l := frs_dup l [] fun x hx => .inr (List.mem_map.2 ⟨x, hex x hx, rfl⟩)
 have hrev : frs us [] l.reverse = frs us [] l := by
  rw [frs_sum l [] hp (fun x _ => by simp), frs_sum l.reverse [] (List.pairwise_reverse.2 (hp.imp fun a b => a b.symm)) (fun x _ => by simp), sumN_rev]
 have w1 := f1.w
 have w2 := f2.w
 rw [hrev] at w1
 rw [hdup] at w2
 have d1 := f1.d
 have d2 := f2.d
 have e1 := f1.i.g.d
 have e2 := f2.i.g.d
 have b1 : (allF false (l.reverse.map (tk V)) i V us).1.d = (allF false ((l ++ ex).map (tk V)) i' V us).1.d := by omega
 have b2 : (allF false (l.reverse.map (tk V)) i V us).1.b = (allF false ((l ++ ex).map (tk V)) i' V us).1.b := by omega
 refine ⟨?_, rise_ext _ _ f1.i.g.u.1 f2.i.g.u.1 fun y => ?_, ?_⟩
 ·rw [f1.i.eq, f2.i.eq, b1, b2]
 ·rw [f1.m y, f2.m y, List.map_append, List.mem_append, List.map_reverse, List.mem_reverse]
  constructor
  ·rintro (a | a | a)
   ·exact .inl a
   ·exact .inr (.inl a)
   ·exact .inr (.inr (.inl a))
  ·rintro (a | a | a | a)
   ·exact .inl a
   ·exact .inr (.inl a)
   ·exact .inr (.inr a)
   ·obtain ⟨x, hx, rfl⟩ := List.mem_map.1 a
    exact .inr (.inr (List.mem_map.2 ⟨x, hex x hx, rfl⟩))
 ·have k1 := f1.k
  have k2 := f2.k
  rw [hrev] at k1
  rw [hdup] at k2
  omega
structure B16 where
 y0 : Int
 y1 : Int
 y2 : Int
 y3 : Int
 y4 : Int
 y5 : Int
 y6 : Int
 y7 : Int
 y8 : Int
 y9 : Int
 y10 : Int
 y11 : Int
 y12 : Int
 y13 : Int
 y14 : Int
 y15 : Int
def B16.l (B : B16) : List Int := [B.y0, B.y1, B.y2, B.y3, B.y4, B.y5, B.y6, B.y7, B.y8, B.y9, B.y10, B.y11, B.y12, B.y13, B.y14, B.y15]
def B16.c (B : B16) : List AC := (B.l.map (Value.int .u8)).map AC.v
def bk (V : AccP) (x : Int × Int) : B16 := ⟨oct3 (1 + x.1), oct2 (1 + x.1), oct1 (1 + x.1), oct0 (1 + x.1), oct3 (1 + x.2), oct2 (1 + x.2), oct1 (1 + x.2), oct0 (1 + x.2), (tk V x).s0, (tk V x).s1, (tk V x).s2, (tk V x).s3, (tk V x).s4, (tk V x).s5, (tk V x).s6, (tk V x).s7⟩
def bkC (l : List B16) : List AC := l.flatMap B16.c
theorem bkC_len (l : List B16) : (bkC l).length = l.length * 16 := by
 induction l with
 | nil => rfl
 | cons x l ih => show (B16.c x ++ bkC l).length = _; rw [List.length_append, ih, List.length_cons, show (B16.c x).length = 16 from rfl]; omega
theorem bk_get {l : List B16} {i : Nat} {x : B16} (h : l[i]? = some x) : takeL (dropL (bkC l) (i * 16)) 16 = some x.c := by
 obtain ⟨h1, h2⟩ := row_get (f := B16.c) (k := 16) (fun _ => rfl) h
 rw [takeL_eq, dropL_eq, if_pos (by rw [List.length_drop]; unfold bkC; omega)]
 exact congrArg some h1
theorem flat_bkC (l : List B16) : FlatC (bkC l) := by
 intro c hc
 obtain ⟨x, _, hx⟩ := List.mem_flatMap.1 hc
 unfold B16.c at hx
 obtain ⟨v, _, rfl⟩ := List.mem_map.1 hx
 rfl
theorem bkC_app (l : List B16) (x : B16) : appL (bkC l) x.c = bkC (l ++ [x]) := by
 rw [appL_eq]
 unfold bkC
 rw [List.flatMap_append]
 simp
theorem eqB_t (a : B16) : EqOk E 40 a.c a.c true := eqBlk a.l rfl
theorem eqB_f {a b : B16} (h : a ≠ b) : EqOk E 40 a.c b.c false := by
 have := eqArr (t := 40) (e := 5) (n := 16) (u := .int .u8) rfl u64_ u5_ (by kernel_rfl) (xs := a.l.map (Value.int .u8)) (ys := b.l.map (Value.int .u8)) rfl rfl (fun i => (a.l[i]?.getD 0) == (b.l[i]?.getD 0)) (fun w i x y hx hy => by
  rw [List.getElem?_map] at hx hy
  cases e1 : a.l[i]? with
  | none => rw [e1] at hx; simp at hx
  | some p =>
   cases e2 : b.l[i]? with
   | none => rw [e2] at hy; simp at hy
   | some q =>
    rw [e1] at hx; rw [e2] at hy
    simp only [Option.map_some, Option.some.injEq] at hx hy
    subst hx hy
    rw [show (9999 : Nat) = 9998 + 1 from rfl]
    exact run_equalIn_int w 9998 5 .u8 .u8 p q u5_)
 have hf : ((List.range 16).all fun i => (a.l[i]?.getD 0) == (b.l[i]?.getD 0)) = false := by
  cases hc : ((List.range 16).all fun i => (a.l[i]?.getD 0) == (b.l[i]?.getD 0)) with
  | false => rfl
  | true =>
   rw [List.all_eq_true] at hc
   have g : ∀ i, i < 16 → _ := fun i hi => eq_of_beq (hc i (List.mem_range.2 hi))
   obtain ⟨a0, a1, a2, a3, a4, a5, a6, a7, a8, a9, a10, a11, a12, a13, a14, a15⟩ := a
   obtain ⟨b0, b1, b2, b3, b4, b5, b6, b7, b8, b9, b10, b11, b12, b13, b14, b15⟩ := b
   have q0 : a0 = b0 := g 0 (by decide)
   have q1 : a1 = b1 := g 1 (by decide)
   have q2 : a2 = b2 := g 2 (by decide)
   have q3 : a3 = b3 := g 3 (by decide)
   have q4 : a4 = b4 := g 4 (by decide)
   have q5 : a5 = b5 := g 5 (by decide)
   have q6 : a6 = b6 := g 6 (by decide)
   have q7 : a7 = b7 := g 7 (by decide)
   have q8 : a8 = b8 := g 8 (by decide)
   have q9 : a9 = b9 := g 9 (by decide)
   have q10 : a10 = b10 := g 10 (by decide)
   have q11 : a11 = b11 := g 11 (by decide)
   have q12 : a12 = b12 := g 12 (by decide)
   have q13 : a13 = b13 := g 13 (by decide)
   have q14 : a14 = b14 := g 14 (by decide)
   have q15 : a15 = b15 := g 15 (by decide)
   subst q0 q1 q2 q3 q4 q5 q6 q7 q8 q9 q10 q11 q12 q13 q14 q15
   exact absurd rfl h
 rw [hf] at this
 exact this
def oN (a b c d : Int) : Int := ((a * 256 + b) * 256 + c) * 256 + d
def byt (x : Int) : Prop := 0 ≤ x ∧ x < 256
def B16.ok (B : B16) : Prop := ∀ z ∈ B.l, byt z
theorem sealB_inj {j : Int} (hj : 0 ≤ j ∧ j ≤ 7) {a b : Int} (ha : byt a) (hb : byt b) (q : List Int) : ∀ (p : List Int) (x : Int), byt x → sealB j x (p ++ a :: q) = sealB j x (p ++ b :: q) → a = b
 | [], x, hx, h => by
  have h : sealB j (((2 * j + 3) * x + a + j) % 256) q = sealB j (((2 * j + 3) * x + b + j) % 256) q := h
  have := seal_inj hj q _ _ ⟨by omega, by omega⟩ ⟨by omega, by omega⟩ h
  unfold byt at ha hb
  generalize (2 * j + 3) * x = z at this
  omega
 | s :: p, x, hx, h => sealB_inj hj ha hb q p (((2 * j + 3) * x + s + j) % 256) ⟨by omega, by omega⟩ h
def B16.t (B : B16) : Int := oN B.y0 B.y1 B.y2 B.y3
def B16.m (B : B16) : Int := oN B.y4 B.y5 B.y6 B.y7
def B16.s (B : B16) : List Int := [B.y8, B.y9, B.y10, B.y11, B.y12, B.y13, B.y14, B.y15]
def B16.n (B : B16) : List Int := [B.y0, B.y1, B.y2, B.y3, B.y4, B.y5, B.y6, B.y7]
theorem oct_oN {a b c d : Int} (ha : byt a) (hb : byt b) (hc : byt c) (hd : byt d) : oct3 (oN a b c d) = a ∧ oct2 (oN a b c d) = b ∧ oct1 (oN a b c d) = c ∧ oct0 (oN a b c d) = d := by
 unfold byt at ha hb hc hd
 unfold oN oct3 oct2 oct1 oct0
 omega
theorem oN_oct {t : Int} (h : 0 ≤ t ∧ t < 4294967296) : oN (oct3 t) (oct2 t) (oct1 t) (oct0 t) = t := by
 unfold oN oct3 oct2 oct1 oct0
 omega
theorem B16.oct {B : B16} (h : B.ok) : [oct3 B.t, oct2 B.t, oct1 B.t, oct0 B.t, oct3 B.m, oct2 B.m, oct1 B.m, oct0 B.m] = B.n := by
 have g : ∀ z ∈ B.l, byt z := h
 unfold B16.l at g
 obtain ⟨a1, a2, a3, a4⟩ := oct_oN (g B.y0 (by simp)) (g B.y1 (by simp)) (g B.y2 (by simp)) (g B.y3 (by simp))
 obtain ⟨b1, b2, b3, b4⟩ := oct_oN (g B.y4 (by simp)) (g B.y5 (by simp)) (g B.y6 (by simp)) (g B.y7 (by simp))
 unfold B16.t B16.m B16.n
 rw [a1, a2, a3, a4, b1, b2, b3, b4]
def sealed (V : AccP) (B : B16) : Prop := [sealB 0 V.k0 B.n, sealB 1 V.k1 B.n, sealB 2 V.k2 B.n, sealB 3 V.k3 B.n, sealB 4 V.k4 B.n, sealB 5 V.k5 B.n, sealB 6 V.k6 B.n, sealB 7 V.k7 B.n] = B.s
theorem sealed_bk (V : AccP) (x : Int × Int) : sealed V (bk V x) := rfl
theorem sealed_of {V : AccP} {B : B16} (h : B.ok) (hv : validB V false B.t B.m B.s = true) : sealed V B := by
 unfold validB at hv
 rw [Bool.false_and, Bool.or_false] at hv
 have hv : sameK [B.y8, B.y9, B.y10, B.y11, B.y12, B.y13, B.y14, B.y15] [sb 0 V.k0 B.t B.m, sb 1 V.k1 B.t B.m, sb 2 V.k2 B.t B.m, sb 3 V.k3 B.t B.m, sb 4 V.k4 B.t B.m, sb 5 V.k5 B.t B.m, sb 6 V.k6 B.t B.m, sb 7 V.k7 B.t B.m] = true := hv
 obtain ⟨e0, e1, e2, e3, e4, e5, e6, e7⟩ := sameK_8 hv
 have q := B16.oct h
 unfold sb at e0 e1 e2 e3 e4 e5 e6 e7
 rw [q] at e0 e1 e2 e3 e4 e5 e6 e7
 unfold sealed B16.s
 rw [e0, e1, e2, e3, e4, e5, e6, e7]
def B16.put (B : B16) (p : Nat) (z : Int) : B16 :=
 match p with
 | 0 => { B with y0 := z }
 | 1 => { B with y1 := z }
 | 2 => { B with y2 := z }
 | 3 => { B with y3 := z }
 | 4 => { B with y4 := z }
 | 5 => { B with y5 := z }
 | 6 => { B with y6 := z }
 | 7 => { B with y7 := z }
 | 8 => { B with y8 := z }
 | 9 => { B with y9 := z }
 | 10 => { B with y10 := z }
 | 11 => { B with y11 := z }
 | 12 => { B with y12 := z }
 | 13 => { B with y13 := z }
 | 14 => { B with y14 := z }
 | _ => { B with y15 := z }
def B16.at (B : B16) (p : Nat) : Int :=
 match p with
 | 0 => B.y0
 | 1 => B.y1
 | 2 => B.y2
 | 3 => B.y3
 | 4 => B.y4
 | 5 => B.y5
 | 6 => B.y6
 | 7 => B.y7
 | 8 => B.y8
 | 9 => B.y9
 | 10 => B.y10
 | 11 => B.y11
 | 12 => B.y12
 | 13 => B.y13
 | 14 => B.y14
 | _ => B.y15
theorem B16.at_ok {B : B16} (h : B.ok) (p : Nat) : byt (B.at p) := by
 unfold B16.at
 split <;> exact h _ (by simp [B16.l])
theorem B16.put_ok {B : B16} (h : B.ok) (p : Nat) {z : Int} (hz : byt z) : (B.put p z).ok := by
 have g : ∀ z ∈ B.l, byt z := h
 unfold B16.l at g
 simp only [List.mem_cons, List.not_mem_nil, or_false] at g
 unfold B16.put B16.ok
 split <;> (intro w hw; simp only [B16.l, List.mem_cons, List.not_mem_nil, or_false] at hw; rcases hw with rfl | rfl | rfl | rfl | rfl | rfl | rfl | rfl | rfl | rfl | rfl | rfl | rfl | rfl | rfl | rfl <;> first | exact hz | exact g _ (by simp))
theorem not_sealed {V : AccP} (hk : KeyB V) {B : B16} (hB : B.ok) (hs : sealed V B) {p : Nat} (hp : p < 16) {z : Int} (hz : byt z) (hne : z ≠ B.at p) : ¬ sealed V (B.put p z) := by
 intro h
 have hB' := hB
 unfold sealed B16.s at hs h
 simp only [List.cons.injEq, and_true] at hs h
 obtain ⟨a0, a1, a2, a3, a4, a5, a6, a7⟩ := hs
 obtain ⟨c0, c1, c2, c3, c4, c5, c6, c7⟩ := h
 have g := B16.at_ok hB p
 have hp : p = 0 ∨ p = 1 ∨ p = 2 ∨ p = 3 ∨ p = 4 ∨ p = 5 ∨ p = 6 ∨ p = 7 ∨ p = 8 ∨ p = 9 ∨ p = 10 ∨ p = 11 ∨ p = 12 ∨ p = 13 ∨ p = 14 ∨ p = 15 := by omega
 rcases hp with rfl | rfl | rfl | rfl | rfl | rfl | rfl | rfl | rfl | rfl | rfl | rfl | rfl | rfl | rfl | rfl
 ·exact hne (sealB_inj (j := 0) (by decide) hz g [B.y1, B.y2, B.y3, B.y4, B.y5, B.y6, B.y7] [] V.k0 hk.k0 (c0.trans a0.symm))
 ·exact hne (sealB_inj (j := 0) (by decide) hz g [B.y2, B.y3, B.y4, B.y5, B.y6, B.y7] [B.y0] V.k0 hk.k0 (c0.trans a0.symm))
 ·exact hne (sealB_inj (j := 0) (by decide) hz g [B.y3, B.y4, B.y5, B.y6, B.y7] [B.y0, B.y1] V.k0 hk.k0 (c0.trans a0.symm))
 ·exact hne (sealB_inj (j := 0) (by decide) hz g [B.y4, B.y5, B.y6, B.y7] [B.y0, B.y1, B.y2] V.k0 hk.k0 (c0.trans a0.symm))
 ·exact hne (sealB_inj (j := 0) (by decide) hz g [B.y5, B.y6, B.y7] [B.y0, B.y1, B.y2, B.y3] V.k0 hk.k0 (c0.trans a0.symm))
 ·exact hne (sealB_inj (j := 0) (by decide) hz g [B.y6, B.y7] [B.y0, B.y1, B.y2, B.y3, B.y4] V.k0 hk.k0 (c0.trans a0.symm))
 ·exact hne (sealB_inj (j := 0) (by decide) hz g [B.y7] [B.y0, B.y1, B.y2, B.y3, B.y4, B.y5] V.k0 hk.k0 (c0.trans a0.symm))
 ·exact hne (sealB_inj (j := 0) (by decide) hz g [] [B.y0, B.y1, B.y2, B.y3, B.y4, B.y5, B.y6] V.k0 hk.k0 (c0.trans a0.symm))
 ·exact hne (c0.symm.trans a0)
 ·exact hne (c1.symm.trans a1)
 ·exact hne (c2.symm.trans a2)
 ·exact hne (c3.symm.trans a3)
 ·exact hne (c4.symm.trans a4)
 ·exact hne (c5.symm.trans a5)
 ·exact hne (c6.symm.trans a6)
 ·exact hne (c7.symm.trans a7)
theorem oct_byt (t : Int) : byt (oct3 t) ∧ byt (oct2 t) ∧ byt (oct1 t) ∧ byt (oct0 t) := by
 unfold oct3 oct2 oct1 oct0 byt
 omega
theorem bk_ok {V : AccP} (hk : KeyB V) (x : Int × Int) : (bk V x).ok := by
 obtain ⟨a0, a1, a2, a3⟩ := oct_byt (1 + x.1)
 obtain ⟨b0, b1, b2, b3⟩ := oct_byt (1 + x.2)
 intro z hz
 simp only [B16.l, bk, List.mem_cons, List.not_mem_nil, or_false] at hz
 rcases hz with rfl | rfl | rfl | rfl | rfl | rfl | rfl | rfl | rfl | rfl | rfl | rfl | rfl | rfl | rfl | rfl
 ·exact a0
 ·exact a1
 ·exact a2
 ·exact a3
 ·exact b0
 ·exact b1
 ·exact b2
 ·exact b3
 ·exact sealB_b 0 _ _ hk.k0
 ·exact sealB_b 1 _ _ hk.k1
 ·exact sealB_b 2 _ _ hk.k2
 ·exact sealB_b 3 _ _ hk.k3
 ·exact sealB_b 4 _ _ hk.k4
 ·exact sealB_b 5 _ _ hk.k5
 ·exact sealB_b 6 _ _ hk.k6
 ·exact sealB_b 7 _ _ hk.k7
theorem Inv.broken {V W : AccP} {n : Nat} {ws : List Int} (h : Inv V n W ws) {B : B16} (hB : B.ok) (hs : ¬ sealed V B) : crI W false ws ws.length B.t B.m B.s = 27 := by
 refine crI_27 ?_
 cases hv : validB W false B.t B.m B.s with
 | false => rfl
 | true =>
  have he : validB W false B.t B.m B.s = validB V false B.t B.m B.s := by
   unfold validB
   rw [h.sls]
   rfl
  exact absurd (sealed_of hB (he ▸ hv)) hs
theorem rngI_3 {a b z : Int} (h : rngI a b z ≠ 0) : rngI a b z = 3 := by
 unfold rngI at h ⊢
 split
 ·rfl
 ·rename_i g
  rw [if_neg g] at h
  exact absurd rfl h
theorem chkT_3 {t m : Int} (h : chkT t m ≠ 0) : chkT t m = 3 := by
 have e : chkT t m = if num t = 0 then (if amt m = 0 then 0 else amt m) else num t := rfl
 rw [e] at h ⊢
 by_cases h1 : num t = 0
 ·rw [if_pos h1] at h ⊢
  by_cases h2 : amt m = 0
  ·rw [if_pos h2] at h; exact absurd rfl h
  ·rw [if_neg h2]; exact rngI_3 h2
 ·rw [if_neg h1]; exact rngI_3 h1
end
end Go.Proofs.YtneaafigbnjceaaGreatDoor.Bk
end
