/-
  CarrierTelegrams: what came in, the run, the card.
-/
import Derived.Test.YthjgejgnaicdpaaGreatDoorSeTG
import Derived.Test.YthjgejgnaicdpaaGreatDoorSeAw
import Derived.Test.YthjgejgnaicdpaaGreatDoorSeTl
import Derived.Test.YthjgejgnaicdpaaGreatDoorSyArg
import Derived.Test.YthjgejgnaicdpaaGreatDoorSyList
open Go Go.Ev Go.RowKit Go.ChangeShapes Go.WideShapes
namespace Go.Proofs.YthjgejgnaicdpaaGreatDoor
set_option maxRecDepth 100000
set_option maxHeartbeats 20000000

theorem u3 : Tryz.prog.underlying 3 = some (.int .i64) := by kernel_rfl
theorem u5 : Tryz.prog.underlying 5 = some (.int .u8) := by kernel_rfl
theorem u105 : Tryz.prog.underlying 105 = some (.array 8 5) := by kernel_rfl
theorem u86 : Tryz.prog.underlying 86 = some (.slice 5) := by kernel_rfl
theorem u120 : Tryz.prog.underlying 120 = some (.array 16 5) := by kernel_rfl
theorem u123 : Tryz.prog.underlying 123 = some (.array 32 5) := by kernel_rfl
def F (n : String) (t o b : Nat) : Field := { name := n, type := t, offset := o, embedded := false, tag := "", pkgPath := "", byteOffset := b }
theorem u122 : Tryz.prog.underlying 122 = some (.struct #[F "Station" 3 0 0, F "Counter" 3 1 8, F "Kind" 3 2 16, F "Payload" 120 3 24]) := by kernel_rfl
theorem u125 : Tryz.prog.underlying 125 = some (.struct #[F "Telegram" 122 0 0, F "Frame" 123 19 40, F "Stream" 86 51 72]) := by kernel_rfl

theorem all2_u8 {m : M} : ∀ (l : List UInt8), All2 (CR m) (l.map u8c) (l.map fun b => Value.int .u8 b.toNat)
  | [] => trivial
  | _ :: l => ⟨rfl, all2_u8 l⟩
theorem one_slice {H : Type} {enc : TypeId × Value → H} {P : Program} {W : World} {t e : TypeId} {fuel : Nat} {held : Bool} {sp : Nat → Bool} {cs : List Value} {x : DataW H × List MemPlace} (ht : P.underlying t = some (.slice e)) (h : DataW.trod enc P W 0 sp held fuel t cs = some x) : ∃ a len cap, cs = [.slice a len cap] := by
  rcases DataW.trod_slice ht h with ⟨h1, _⟩ | ⟨a, len, cap, _, _, _, _, h1, _⟩
  · exact ⟨_, _, _, h1⟩
  · exact ⟨_, _, _, h1⟩

/-- a field of a struct that came in -/
theorem field_of {H : Type} {enc : TypeId × Value → H} {P : Program} {W : World} {t : TypeId} {fs : Array Field} {fuel : Nat} {held : Bool} {sp : Nat → Bool} {cs : List Value} {x : DataW H × List MemPlace} (ht : P.underlying t = some (.struct fs)) (h : DataW.trod enc P W 0 sp held fuel t cs = some x) :
    cs.length = P.cellsOf t ∧ ∃ n, ∀ (i : Nat) (f : Field), fs[i]? = some f → ∃ y, DataW.trod enc P W 0 sp held n f.type ((cs.drop f.offset).take (P.cellsOf f.type)) = some y := by
  obtain ⟨xs, n, _, _, hl, hlen, hf⟩ := DataW.trod_struct ht h
  refine ⟨hl, n, fun i f hi => ?_⟩
  have h1 := hf i f hi
  have hlt : i < xs.length := by
    rw [hlen]
    exact (Array.getElem?_eq_some_iff.1 hi).1
  exact ⟨xs[i], by rw [h1, List.getElem?_eq_getElem hlt]⟩
theorem int_of {H : Type} {enc : TypeId × Value → H} {W : World} {n : Nat} {held : Bool} {sp : Nat → Bool} {cs : List Value} (h : ∃ y, DataW.trod enc Tryz.prog W 0 sp held n 3 cs = some y) : ∃ z : Int, cs = [.int .i64 z] := by
  obtain ⟨y, hy⟩ := h
  obtain ⟨z, rfl, _⟩ := DataW.trod_int u3 hy
  exact ⟨z, rfl⟩
theorem c3 : Tryz.prog.cellsOf 3 = 1 := by kernel_rfl
theorem c120 : Tryz.prog.cellsOf 120 = 16 := by kernel_rfl
theorem c122 : Tryz.prog.cellsOf 122 = 19 := by kernel_rfl
theorem c123 : Tryz.prog.cellsOf 123 = 32 := by kernel_rfl
theorem c125 : Tryz.prog.cellsOf 125 = 52 := by kernel_rfl
theorem c86 : Tryz.prog.cellsOf 86 = 1 := by kernel_rfl
theorem cut3 {α : Type} (l : List α) (a b c : Nat) (h : l.length = a + b + c) : l = l.take a ++ ((l.drop a).take b ++ (l.drop (a + b)).take c) := by
  have e1 : (l.drop (a + b)).take c = l.drop (a + b) := List.take_of_length_le (by rw [List.length_drop]; omega)
  rw [e1, ← List.drop_drop, List.take_append_drop, List.take_append_drop]
/-- a telegram that came in -/
theorem read_tel {H : Type} {enc : TypeId × Value → H} {W : World} {n : Nat} {held : Bool} {sp : Nat → Bool} {cs : List Value} {y : DataW H × List MemPlace} (h : DataW.trod enc Tryz.prog W 0 sp held n 122 cs = some y) :
    ∃ (s c d : Int) (ps : List UInt8), ps.length = 16 ∧ cs = .int .i64 s :: .int .i64 c :: .int .i64 d :: ps.map fun b => Value.int .u8 b.toNat := by
  obtain ⟨hl, m, hf⟩ := field_of u122 h
  rw [c122] at hl
  obtain ⟨s, hs⟩ := int_of (hf 0 _ rfl)
  obtain ⟨c, hc⟩ := int_of (hf 1 _ rfl)
  obtain ⟨d, hd⟩ := int_of (hf 2 _ rfl)
  obtain ⟨y3, h3⟩ := hf 3 _ rfl
  obtain ⟨ps, hp, hpv⟩ := read_bytes u120 u5 (by kernel_rfl) c120 h3
  have hs : (cs.drop 0).take (Tryz.prog.cellsOf 3) = _ := hs
  have hc : (cs.drop 1).take (Tryz.prog.cellsOf 3) = _ := hc
  have hd : (cs.drop 2).take (Tryz.prog.cellsOf 3) = _ := hd
  have hpv : (cs.drop 3).take (Tryz.prog.cellsOf 120) = _ := hpv
  rw [c3] at hs hc hd
  rw [c120] at hpv
  refine ⟨s, c, d, ps, hp, ?_⟩
  have e1 := cut3 cs 1 1 17 hl
  have e2 := cut3 (cs.drop 2) 1 16 0 (by rw [List.length_drop]; omega)
  have e3 : (cs.drop (1 + 1)).take 17 = cs.drop 2 := List.take_of_length_le (by rw [List.length_drop]; omega)
  rw [e3] at e1
  rw [List.drop_drop, List.take_zero, List.append_nil] at e2
  rw [List.drop_zero] at hs
  rw [e1, hs, hc, e2, hd, hpv]
  rfl

theorem telCore : TelCore := by
  intro H enc W v0 v1 d0 d1 p0 p1 hL h0 h1 ⟨base, w0, w1⟩
  have hblk : ∃ c ty fz, W.heap[4]? = some (.cells c ty fz) := by
    obtain ⟨_, c, t, fz, h, _⟩ := tables (base := 5) (Nat.le_refl _) hL 4 tabPow rfl
    exact ⟨c, t, fz, h⟩
  have hsz : 5 ≤ W.heap.size := by
    obtain ⟨c, t, fz, h⟩ := hblk
    have := (Array.getElem?_eq_some_iff.1 h).1
    omega
  have hG : GR E.gl W.heap.size W := tables hsz hL
  have hd : ∃ (b : Nat) (c : Array Value) (ty : TypeId) (fz : Nat × Nat), W.heap[b]? = some (.cells c ty fz) := ⟨4, hblk⟩
  obtain ⟨k0, rfl⟩ : ∃ cs, v0 = .agg cs := by
    simp only [Value.okWide, u105] at w0
    obtain ⟨cs, h1, _⟩ := w0
    exact ⟨cs, h1⟩
  obtain ⟨f0, h0⟩ := h0
  obtain ⟨ks, hks, hkv⟩ := read_bytes u105 u5 (by kernel_rfl) (by kernel_rfl) h0
  obtain ⟨cs, rfl, hcs⟩ := okWide_struct u125 w1
  obtain ⟨f1, h1⟩ := h1
  obtain ⟨hl, n, hf⟩ := field_of u125 h1
  have hl : cs.toList.length = 52 := hl.trans c125
  obtain ⟨y1, hy1⟩ := hf 0 _ rfl
  obtain ⟨y2, hy2⟩ := hf 1 _ rfl
  obtain ⟨y3, hy3⟩ := hf 2 _ rfl
  obtain ⟨s, c, d, ps, hps, ht⟩ := read_tel hy1
  obtain ⟨fs, hfs, hft⟩ := read_bytes u123 u5 (by kernel_rfl) c123 hy2
  obtain ⟨a1, l1, c1, hst⟩ := one_slice u86 hy3
  rw [hst] at hy3
  obtain ⟨b0, A0, t0, z0, x0, n0, xs, hb0, s0, cr0⟩ := read_rows 0 u86 (by kernel_rfl) (by omega) (fun n cs y h => read_byte u5 h) hy3 hd
  have ht : (cs.toList.drop 0).take (Tryz.prog.cellsOf 122) = _ := ht
  have hft : (cs.toList.drop 19).take (Tryz.prog.cellsOf 123) = _ := hft
  have hst : (cs.toList.drop 51).take (Tryz.prog.cellsOf 86) = _ := hst
  rw [c122, List.drop_zero] at ht
  rw [c123] at hft
  rw [c86] at hst
  have hcl := cut3 cs.toList 19 32 1 hl
  rw [ht, hft, hst] at hcl
  obtain ⟨H1, hk⟩ := core10 envOk (XN := A0.size) (Xy := t0) (Xf := false) (flat_v A0.toList) hks hps hfs s c d (s1_of_rows s0) (k15 envOk)
  let ρ : Nat → Nat := fun _ => b0
  let κ : Nat → Nat := fun _ => A0.size
  have hH : HR ⟨1, ρ, κ, 1⟩ W.heap.size 1 [some ⟨A0.toList.map AC.v, A0.size, t0, false, .cells⟩] W := by
    refine hr_args rfl (Nat.le_refl _) fun i a hi => ?_
    rcases i with _ | i
    · simp only [List.getElem?_cons_zero, Option.some.injEq] at hi
      subst hi
      exact br_all (m := ⟨1, ρ, κ, 1⟩) (b := 0) hb0 rfl (by show 0 < 1; omega)
    · simp at hi
  have hargs : All2 (VR ⟨1, ρ, κ, 1⟩) [.e (.agg (ks.map u8c)), .e (.agg (telC s c d ps ++ (fs.map u8c ++ [x0])))] (#[.agg k0, .agg cs] : Array Value).toList := by
    refine ⟨⟨k0, rfl, ?_⟩, ⟨cs, rfl, ?_⟩, trivial⟩
    · have e : k0.toList = ks.map fun b => Value.int .u8 b.toNat := hkv
      rw [e]
      exact all2_u8 ks
    · rw [hcl]
      exact All2.append (show All2 (CR ⟨1, ρ, κ, 1⟩) (telC s c d ps) _ from ⟨rfl, rfl, rfl, all2_u8 ps⟩) (All2.append (all2_u8 fs) ⟨cr0 _ rfl rfl (by show 0 < 1; omega), trivial⟩)
  exact (hk _ _ _ _ hargs hH hG).mono fun e W' ⟨y, he, m', hp⟩ => ⟨by
    have hy : y = .bool true := hp.val
    rw [he, hy], hp.below⟩

/-- IT HOLDS: the law CarrierTelegrams returns true, whatever key, telegram, frame and stream come in. -/
theorem carrierTelegrams : Rows.CarrierTelegramsCardSaid := tel_card telCore
end Go.Proofs.YthjgejgnaicdpaaGreatDoor
