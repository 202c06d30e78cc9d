/-
  CarrierLosses: what came in, the run, the card.
-/
import Derived.Test.YthjgejgnaicdpaaGreatDoorSeLC
import Derived.Test.YthjgejgnaicdpaaGreatDoorSeAw
import Derived.Test.YthjgejgnaicdpaaGreatDoorSeLosL
import Derived.Test.YthjgejgnaicdpaaGreatDoorSyArg
import Derived.Test.YthjgejgnaicdpaaGreatDoorSyList
open Go Go.Ev Go.RowKit Go.ChangeShapes Go.WideShapes
namespace Go.Proofs.YthjgejgnaicdpaaGreatDoor
set_option maxRecDepth 100000
set_option maxHeartbeats 20000000

theorem u3 : Tryz.prog.underlying 3 = some (.int .i64) := by kernel_rfl
theorem u5 : Tryz.prog.underlying 5 = some (.int .u8) := by kernel_rfl
theorem u139 : Tryz.prog.underlying 139 = some (.slice 122) := by kernel_rfl
theorem u120 : Tryz.prog.underlying 120 = some (.array 16 5) := by kernel_rfl
def F (n : String) (t o b : Nat) : Field := { name := n, type := t, offset := o, embedded := false, tag := "", pkgPath := "", byteOffset := b }
theorem u122 : Tryz.prog.underlying 122 = some (.struct #[F "Station" 3 0 0, F "Counter" 3 1 8, F "Kind" 3 2 16, F "Payload" 120 3 24]) := by kernel_rfl

/-- a field of a struct that came in -/
theorem field_of {H : Type} {enc : TypeId × Value → H} {P : Program} {W : World} {t : TypeId} {fs : Array Field} {fuel : Nat} {held : Bool} {sp : Nat → Bool} {cs : List Value} {x : DataW H × List MemPlace} (ht : P.underlying t = some (.struct fs)) (h : DataW.trod enc P W 0 sp held fuel t cs = some x) :
    cs.length = P.cellsOf t ∧ ∃ n, ∀ (i : Nat) (f : Field), fs[i]? = some f → ∃ y, DataW.trod enc P W 0 sp held n f.type ((cs.drop f.offset).take (P.cellsOf f.type)) = some y := by
  obtain ⟨xs, n, _, _, hl, hlen, hf⟩ := DataW.trod_struct ht h
  refine ⟨hl, n, fun i f hi => ?_⟩
  have h1 := hf i f hi
  have hlt : i < xs.length := by
    rw [hlen]
    exact (Array.getElem?_eq_some_iff.1 hi).1
  exact ⟨xs[i], by rw [h1, List.getElem?_eq_getElem hlt]⟩
theorem int_of {H : Type} {enc : TypeId × Value → H} {W : World} {n : Nat} {held : Bool} {sp : Nat → Bool} {cs : List Value} (h : ∃ y, DataW.trod enc Tryz.prog W 0 sp held n 3 cs = some y) : ∃ z : Int, cs = [.int .i64 z] := by
  obtain ⟨y, hy⟩ := h
  obtain ⟨z, rfl, _⟩ := DataW.trod_int u3 hy
  exact ⟨z, rfl⟩
theorem c3 : Tryz.prog.cellsOf 3 = 1 := by kernel_rfl
theorem c120 : Tryz.prog.cellsOf 120 = 16 := by kernel_rfl
theorem c122 : Tryz.prog.cellsOf 122 = 19 := by kernel_rfl
theorem cut3 {α : Type} (l : List α) (a b c : Nat) (h : l.length = a + b + c) : l = l.take a ++ ((l.drop a).take b ++ (l.drop (a + b)).take c) := by
  have e1 : (l.drop (a + b)).take c = l.drop (a + b) := List.take_of_length_le (by rw [List.length_drop]; omega)
  rw [e1, ← List.drop_drop, List.take_append_drop, List.take_append_drop]
/-- a telegram that came in -/
theorem read_tel {H : Type} {enc : TypeId × Value → H} {W : World} {n : Nat} {held : Bool} {sp : Nat → Bool} {cs : List Value} {y : DataW H × List MemPlace} (h : DataW.trod enc Tryz.prog W 0 sp held n 122 cs = some y) :
    ∃ (s c d : Int) (ps : List UInt8), ps.length = 16 ∧ cs = .int .i64 s :: .int .i64 c :: .int .i64 d :: ps.map fun b => Value.int .u8 b.toNat := by
  obtain ⟨hl, m, hf⟩ := field_of u122 h
  rw [c122] at hl
  obtain ⟨s, hs⟩ := int_of (hf 0 _ rfl)
  obtain ⟨c, hc⟩ := int_of (hf 1 _ rfl)
  obtain ⟨d, hd⟩ := int_of (hf 2 _ rfl)
  obtain ⟨y3, h3⟩ := hf 3 _ rfl
  obtain ⟨ps, hp, hpv⟩ := read_bytes u120 u5 (by kernel_rfl) c120 h3
  have hs : (cs.drop 0).take (Tryz.prog.cellsOf 3) = _ := hs
  have hc : (cs.drop 1).take (Tryz.prog.cellsOf 3) = _ := hc
  have hd : (cs.drop 2).take (Tryz.prog.cellsOf 3) = _ := hd
  have hpv : (cs.drop 3).take (Tryz.prog.cellsOf 120) = _ := hpv
  rw [c3] at hs hc hd
  rw [c120] at hpv
  refine ⟨s, c, d, ps, hp, ?_⟩
  have e1 := cut3 cs 1 1 17 hl
  have e2 := cut3 (cs.drop 2) 1 16 0 (by rw [List.length_drop]; omega)
  have e3 : (cs.drop (1 + 1)).take 17 = cs.drop 2 := List.take_of_length_le (by rw [List.length_drop]; omega)
  rw [e3] at e1
  rw [List.drop_drop, List.take_zero, List.append_nil] at e2
  rw [List.drop_zero] at hs
  rw [e1, hs, hc, e2, hd, hpv]
  rfl

theorem row_tel {H : Type} {enc : TypeId × Value → H} {W : World} {n : Nat} {held : Bool} {sp : Nat → Bool} {cs : List Value} {y : DataW H × List MemPlace} (h : DataW.trod enc Tryz.prog W 0 sp held n 122 cs = some y) : isTel (cs.map AC.v) := by
  obtain ⟨s, c, d, ps, hp, rfl⟩ := read_tel h
  refine ⟨s, c, d, ps, hp, ?_⟩
  simp only [List.map_cons, List.map_map]
  rfl
/-- a slice of telegrams that came in -/
theorem read_tels {H : Type} {enc : TypeId × Value → H} {W : World} {fuel : Nat} {held : Bool} {a : Option Addr} {len cap : Nat} {x : DataW H × List MemPlace}
    (h : DataW.trod enc Tryz.prog W 0 (fun _ => true) held fuel 139 [.slice a len cap] = some x) (hd : ∃ (b : Nat) (c : Array Value) (ty : TypeId) (fz : Nat × Nat), W.heap[b]? = some (.cells c ty fz)) :
    ∃ (b : Nat) (c : Array Value) (ty : TypeId) (fz : Nat × Nat) (y : AC) (n : Nat) (l : List (List AC)), W.heap[b]? = some (.cells c ty fz) ∧ SlT (c.toList.map AC.v) y n l ∧
      ∀ m : M, m.ρ 0 = b → m.κ 0 = c.size → 0 < m.n → CR m y (.slice a len cap) := by
  rcases read_slice u139 c122 (by omega) h with rfl | ⟨b, o, c, ty, fz, n, rfl, hl0, hlc, hcm, hb, hsize, hel⟩
  · obtain ⟨b, c, ty, fz, hb⟩ := hd
    exact ⟨b, c, ty, fz, .v (.slice a 0 cap), 0, [], hb, ⟨rfl, by simp, .inl ⟨rfl, a, cap, rfl⟩⟩, fun m _ _ _ => rfl⟩
  · refine ⟨b, c, ty, fz, .slc 0 o len 19 len false, len, (List.range len).map fun i => ((c.toList.drop (o + i * 19)).take 19).map AC.v, hb, ⟨by simp, fun r hr => ?_, .inr ⟨hl0, o, len, false, rfl, fun i r hr => ?_⟩⟩, fun m h1 h2 h3 => ?_⟩
    · obtain ⟨i, hi, rfl⟩ := List.mem_map.1 hr
      obtain ⟨y, hy⟩ := hel i (List.mem_range.1 hi)
      exact row_tel hy
    · have hil : i < len := by
        have := (List.getElem?_eq_some_iff.1 hr).1
        simpa using this
      rw [List.getElem?_map, List.getElem?_range hil, Option.map_some, Option.some.injEq] at hr
      subst hr
      have hle : (i + 1) * 19 ≤ cap * 19 := Nat.mul_le_mul_right _ (by omega)
      rw [Nat.succ_mul] at hle
      rw [takeL_eq, dropL_eq, ← List.map_drop, if_pos (by simp; omega), ← List.map_take]
    · exact ⟨h3, cap, o, by rw [h1], .inl rfl, Nat.le_refl _, hlc, hcm, by rw [h2]; exact hsize, fun hh => by simp at hh⟩

theorem lossCore : LossCore := by
  intro H enc W v0 v1 d0 d1 p0 p1 hL h0 h1 ⟨base, w0, w1⟩
  have hblk : ∃ c ty fz, W.heap[4]? = some (.cells c ty fz) := by
    obtain ⟨_, c, t, fz, h, _⟩ := tables (base := 5) (Nat.le_refl _) hL 4 tabPow rfl
    exact ⟨c, t, fz, h⟩
  have hsz : 5 ≤ W.heap.size := by
    obtain ⟨c, t, fz, h⟩ := hblk
    have := (Array.getElem?_eq_some_iff.1 h).1
    omega
  have hG : GR E.gl W.heap.size W := tables hsz hL
  have hd : ∃ (b : Nat) (c : Array Value) (ty : TypeId) (fz : Nat × Nat), W.heap[b]? = some (.cells c ty fz) := ⟨4, hblk⟩
  obtain ⟨a0, l0, c0, rfl⟩ := okWide_slice u139 w0
  obtain ⟨f0, h0⟩ := h0
  obtain ⟨f1, h1⟩ := h1
  obtain ⟨z, hz, _⟩ := DataW.trod_int u3 h1
  obtain rfl : v1 = .int .i64 z := by
    simp only [Value.okWide, u3] at w1
    cases v1 <;> simp_all [Value.cells, Cell.okWide, Cell.ok]
  obtain ⟨b0, A0, t0, z0, x0, n0, l, hb0, s0, cr0⟩ := read_tels h0 hd
  obtain ⟨H1, hk⟩ := core11 envOk (N := A0.size) (ty := t0) (fl := false) (flat_v A0.toList) l z s0 (k15 envOk)
  let ρ : Nat → Nat := fun _ => b0
  let κ : Nat → Nat := fun _ => A0.size
  have hH : HR ⟨1, ρ, κ, 1⟩ W.heap.size 1 [some ⟨A0.toList.map AC.v, A0.size, t0, false, .cells⟩] W := by
    refine hr_args rfl (Nat.le_refl _) fun i a hi => ?_
    rcases i with _ | i
    · simp only [List.getElem?_cons_zero, Option.some.injEq] at hi
      subst hi
      exact br_all (m := ⟨1, ρ, κ, 1⟩) (b := 0) hb0 rfl (by show 0 < 1; omega)
    · simp at hi
  have hargs : All2 (VR ⟨1, ρ, κ, 1⟩) [.e (.one x0), iI z] (#[.slice a0 l0 c0, .int .i64 z] : Array Value).toList :=
    ⟨cr0 _ rfl rfl (by show 0 < 1; omega), rfl, trivial⟩
  exact (hk _ _ _ _ hargs hH hG).mono fun e W' ⟨y, he, m', hp⟩ => ⟨by
    have hy : y = .bool true := hp.val
    rw [he, hy], hp.below⟩

/-- IT HOLDS: the law CarrierLosses returns true, whatever telegrams and station come in. -/
theorem carrierLosses : Rows.CarrierLossesCardSaid := loss_card lossCore
end Go.Proofs.YthjgejgnaicdpaaGreatDoor
