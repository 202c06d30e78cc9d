/-
  CarrierSeals: what came in, the run, the card.
-/
import Derived.Test.YthjgejgnaicdpaaGreatDoorSeT
import Derived.Test.YthjgejgnaicdpaaGreatDoorSeSl
import Derived.Test.YthjgejgnaicdpaaGreatDoorSyArg
open Go Go.Ev Go.RowKit Go.ChangeShapes Go.WideShapes
namespace Go.Proofs.YthjgejgnaicdpaaGreatDoor
set_option maxRecDepth 100000
set_option maxHeartbeats 20000000

theorem u5 : Tryz.prog.underlying 5 = some (.int .u8) := by kernel_rfl
theorem u105 : Tryz.prog.underlying 105 = some (.array 8 5) := by kernel_rfl
theorem u86 : Tryz.prog.underlying 86 = some (.slice 5) := by kernel_rfl
theorem u106 : Tryz.prog.underlying 106 = some (.slice 120) := by kernel_rfl
theorem u107 : Tryz.prog.underlying 107 = some (.slice 105) := by kernel_rfl
theorem u120 : Tryz.prog.underlying 120 = some (.array 16 5) := by kernel_rfl
theorem u109 : Tryz.prog.underlying 109 = some (.struct #[{ name := "Blocks", type := 106, offset := 0, embedded := false, tag := "", pkgPath := "", byteOffset := 0 }, { name := "Seals", type := 107, offset := 1, embedded := false, tag := "", pkgPath := "", byteOffset := 24 }]) := by kernel_rfl

theorem all2_u8 {m : M} : ∀ (l : List UInt8), All2 (CR m) (l.map u8c) (l.map fun b => Value.int .u8 b.toNat)
  | [] => trivial
  | _ :: l => ⟨rfl, all2_u8 l⟩

theorem one_slice {H : Type} {enc : TypeId × Value → H} {P : Program} {W : World} {t e : TypeId} {fuel : Nat} {held : Bool} {sp : Nat → Bool} {cs : List Value} {x : DataW H × List MemPlace} (ht : P.underlying t = some (.slice e)) (h : DataW.trod enc P W 0 sp held fuel t cs = some x) : ∃ a len cap, cs = [.slice a len cap] := by
  rcases DataW.trod_slice ht h with ⟨h1, _⟩ | ⟨a, len, cap, _, _, _, _, h1, _⟩
  · exact ⟨_, _, _, h1⟩
  · exact ⟨_, _, _, h1⟩

theorem sealsCore : SealsCore := by
  intro H enc W v0 v1 v2 d0 d1 d2 p0 p1 p2 hL h0 h1 h2 ⟨base, w0, w1, w2⟩
  have hblk : ∃ c ty fz, W.heap[4]? = some (.cells c ty fz) := by
    obtain ⟨_, c, t, fz, h, _⟩ := tables (base := 5) (Nat.le_refl _) hL 4 tabPow rfl
    exact ⟨c, t, fz, h⟩
  have hsz : 5 ≤ W.heap.size := by
    obtain ⟨c, t, fz, h⟩ := hblk
    have := (Array.getElem?_eq_some_iff.1 h).1
    omega
  have hG : GR E.gl W.heap.size W := tables hsz hL
  have hd : ∃ (b : Nat) (c : Array Value) (ty : TypeId) (fz : Nat × Nat), W.heap[b]? = some (.cells c ty fz) := ⟨4, hblk⟩
  obtain ⟨k0, rfl⟩ : ∃ cs, v0 = .agg cs := by
    simp only [Value.okWide, u105] at w0
    obtain ⟨cs, h1, _⟩ := w0
    exact ⟨cs, h1⟩
  obtain ⟨f0, h0⟩ := h0
  obtain ⟨ks, hks, hkv⟩ := read_bytes u105 u5 (by kernel_rfl) (by kernel_rfl) h0
  obtain ⟨a1, l1, c1, rfl⟩ := okWide_slice u86 w1
  obtain ⟨f1, h1⟩ := h1
  obtain ⟨b0, A0, t0, z0, x0, n0, xs, hb0, s0, cr0⟩ := read_rows 0 u86 (by kernel_rfl) (by omega) (fun n cs y h => read_byte u5 h) h1 hd
  obtain ⟨cs, rfl, hcs⟩ := okWide_struct u109 w2
  obtain ⟨f2, h2⟩ := h2
  obtain ⟨y1, y2, n, _, hlen, hy1, hy2⟩ := trod_struct2 u109 h2
  have hc2 : (Value.agg cs).cells.toList.length = 2 := hlen.trans (by kernel_rfl)
  match hcl : cs.toList, hc2 with
  | [q1, q2], _ =>
    have e0 : (Value.agg cs).cells.toList = [q1, q2] := hcl
    rw [e0] at hy1 hy2
    have hy1 : DataW.trod enc Tryz.prog W 0 (fun _ => true) true n 106 [q1] = some y1 := hy1
    have hy2 : DataW.trod enc Tryz.prog W 0 (fun _ => true) true n 107 [q2] = some y2 := hy2
    obtain ⟨a2, l2, c2, e2⟩ := one_slice u106 hy1
    obtain ⟨a3, l3, c3, e3⟩ := one_slice u107 hy2
    rw [e2] at hy1
    rw [e3] at hy2
    obtain rfl : q1 = _ := (List.cons.inj e2).1
    obtain rfl : q2 = _ := (List.cons.inj e3).1
    obtain ⟨b1, A1, t1, z1, x1, n1, bss, hb1, s1, cr1⟩ := read_rows 1 u106 (sz := 16) (by kernel_rfl) (by omega) (fun n cs y h => read_bytes u120 u5 (by kernel_rfl) (by kernel_rfl) h) hy1 hd
    obtain ⟨b2, A2, t2, z2, x2, n2, ss, hb2, s2, cr2⟩ := read_rows 2 u107 (sz := 8) (by kernel_rfl) (by omega) (fun n cs y h => read_bytes u105 u5 (by kernel_rfl) (by kernel_rfl) h) hy2 hd
    have hk := k9 envOk (SN := A0.size) (BN := A1.size) (XN := A2.size) (Sy := t0) (By := t1) (Xy := t2) (Sf := false) (Bf := false) (Xf := false) (flat_v A0.toList) (flat_v A1.toList) (flat_v A2.toList) ks hks xs bss ss s0 s1 s2
    let ρ : Nat → Nat := fun i => Nat.rec b0 (fun i _ => Nat.rec b1 (fun _ _ => b2) i) i
    let κ : Nat → Nat := fun i => Nat.rec A0.size (fun i _ => Nat.rec A1.size (fun _ _ => A2.size) i) i
    have hH : HR ⟨3, ρ, κ, 3⟩ W.heap.size 3 [some ⟨A0.toList.map AC.v, A0.size, t0, false, .cells⟩, some ⟨A1.toList.map AC.v, A1.size, t1, false, .cells⟩, some ⟨A2.toList.map AC.v, A2.size, t2, false, .cells⟩] W := by
      refine hr_args rfl (Nat.le_refl _) fun i a hi => ?_
      rcases i with _ | _ | _ | i
      · simp only [List.getElem?_cons_zero, Option.some.injEq] at hi
        subst hi
        exact br_all (m := ⟨3, ρ, κ, 3⟩) (b := 0) hb0 rfl (by show 0 < 3; omega)
      · simp only [List.getElem?_cons_succ, List.getElem?_cons_zero, Option.some.injEq] at hi
        subst hi
        exact br_all (m := ⟨3, ρ, κ, 3⟩) (b := 1) hb1 rfl (by show 1 < 3; omega)
      · simp only [List.getElem?_cons_succ, List.getElem?_cons_zero, Option.some.injEq] at hi
        subst hi
        exact br_all (m := ⟨3, ρ, κ, 3⟩) (b := 2) hb2 rfl (by show 2 < 3; omega)
      · simp at hi
    have hargs : All2 (VR ⟨3, ρ, κ, 3⟩) [.e (.agg (ks.map u8c)), .e (.one x0), .e (.agg [x1, x2])] (#[.agg k0, .slice a1 l1 c1, .agg cs] : Array Value).toList := by
      refine ⟨⟨k0, rfl, ?_⟩, cr0 _ rfl rfl (by show 0 < 3; omega), ⟨cs, rfl, ?_⟩, trivial⟩
      · have e : k0.toList = ks.map fun b => Value.int .u8 b.toNat := hkv
        rw [e]
        exact all2_u8 ks
      · rw [hcl]
        exact ⟨cr1 _ rfl rfl (by show 1 < 3; omega), cr2 _ rfl rfl (by show 2 < 3; omega), trivial⟩
    exact (hk _ _ _ _ hargs hH hG).mono fun e W' ⟨y, he, m', hp⟩ => ⟨by
      have hy : y = .bool true := hp.val
      rw [he, hy], hp.below⟩

/-- IT HOLDS: the law CarrierSeals returns true, whatever key, bytes, blocks and seals come in. -/
theorem carrierSeals : Rows.CarrierSealsCardSaid := seals_card sealsCore
end Go.Proofs.YthjgejgnaicdpaaGreatDoor
