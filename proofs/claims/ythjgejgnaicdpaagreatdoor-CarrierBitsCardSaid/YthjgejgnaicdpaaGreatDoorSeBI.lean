/-
  CarrierBits: what came in, the run, the card.
-/
import Derived.Test.YthjgejgnaicdpaaGreatDoorSeBH
import Derived.Test.YthjgejgnaicdpaaGreatDoorSeBl
import Derived.Test.YthjgejgnaicdpaaGreatDoorSyList
open Go Go.Ev Go.RowKit Go.ChangeShapes Go.WideShapes
namespace Go.Proofs.YthjgejgnaicdpaaGreatDoor
set_option maxRecDepth 100000
set_option maxHeartbeats 20000000

theorem u3 : Tryz.prog.underlying 3 = some (.int .i64) := by kernel_rfl
theorem u5 : Tryz.prog.underlying 5 = some (.int .u8) := by kernel_rfl
theorem u86 : Tryz.prog.underlying 86 = some (.slice 5) := by kernel_rfl
theorem u25 : Tryz.prog.underlying 25 = some (.slice 3) := by kernel_rfl

theorem bitsCore : BitsCore := by
  intro H enc W v0 v1 v2 d0 d1 d2 p0 p1 p2 hL h0 h1 h2 ⟨base, w0, w1, w2⟩
  have hblk : ∃ c ty fz, W.heap[4]? = some (.cells c ty fz) := by
    obtain ⟨_, c, t, fz, h, _⟩ := tables (base := 5) (Nat.le_refl _) hL 4 tabPow rfl
    exact ⟨c, t, fz, h⟩
  have hsz : 5 ≤ W.heap.size := by
    obtain ⟨c, t, fz, h⟩ := hblk
    have := (Array.getElem?_eq_some_iff.1 h).1
    omega
  have hG : GR E.gl W.heap.size W := tables hsz hL
  have hd : ∃ (b : Nat) (c : Array Value) (ty : TypeId) (fz : Nat × Nat), W.heap[b]? = some (.cells c ty fz) := ⟨4, hblk⟩
  obtain ⟨a0, l0, c0, rfl⟩ := okWide_slice u86 w0
  obtain ⟨a1, l1, c1, rfl⟩ := okWide_slice u86 w1
  obtain ⟨a2, l2, c2, rfl⟩ := okWide_slice u25 w2
  obtain ⟨f0, h0⟩ := h0
  obtain ⟨f1, h1⟩ := h1
  obtain ⟨f2, h2⟩ := h2
  obtain ⟨b0, A0, t0, z0, x0, n0, xs, hb0, s0, cr0⟩ := read_rows 0 u86 (by kernel_rfl) (by omega) (fun n cs y h => read_byte u5 h) h0 hd
  obtain ⟨b1, A1, t1, z1, x1, n1, ys, hb1, s1, cr1⟩ := read_rows 1 u86 (by kernel_rfl) (by omega) (fun n cs y h => read_byte u5 h) h1 hd
  obtain ⟨b2, A2, t2, z2, x2, n2, zs, hb2, s2, _, cr2⟩ := read_ints 2 u25 u3 (by kernel_rfl) h2 hd
  have hk := k8 envOk (SN := A0.size) (BN := A1.size) (XN := A2.size) (Sy := t0) (By := t1) (Xy := t2) (Sf := false) (Bf := false) (Xf := false) (flat_v A0.toList) (flat_v A1.toList) (flat_v A2.toList) xs.flatten ys.flatten zs (s1_of_rows s0) (s1_of_rows s1) s2
  let ρ : Nat → Nat := fun i => Nat.rec b0 (fun i _ => Nat.rec b1 (fun _ _ => b2) i) i
  let κ : Nat → Nat := fun i => Nat.rec A0.size (fun i _ => Nat.rec A1.size (fun _ _ => A2.size) i) i
  have hH : HR ⟨3, ρ, κ, 3⟩ W.heap.size 3 [some ⟨A0.toList.map AC.v, A0.size, t0, false, .cells⟩, some ⟨A1.toList.map AC.v, A1.size, t1, false, .cells⟩, some ⟨A2.toList.map AC.v, A2.size, t2, false, .cells⟩] W := by
    refine hr_args rfl (Nat.le_refl _) fun i a hi => ?_
    rcases i with _ | _ | _ | i
    · simp only [List.getElem?_cons_zero, Option.some.injEq] at hi
      subst hi
      exact br_all (m := ⟨3, ρ, κ, 3⟩) (b := 0) hb0 rfl (by show 0 < 3; omega)
    · simp only [List.getElem?_cons_succ, List.getElem?_cons_zero, Option.some.injEq] at hi
      subst hi
      exact br_all (m := ⟨3, ρ, κ, 3⟩) (b := 1) hb1 rfl (by show 1 < 3; omega)
    · simp only [List.getElem?_cons_succ, List.getElem?_cons_zero, Option.some.injEq] at hi
      subst hi
      exact br_all (m := ⟨3, ρ, κ, 3⟩) (b := 2) hb2 rfl (by show 2 < 3; omega)
    · simp at hi
  have hargs : All2 (VR ⟨3, ρ, κ, 3⟩) [.e (.one x0), .e (.one x1), .e (.one x2)] (#[.slice a0 l0 c0, .slice a1 l1 c1, .slice a2 l2 c2] : Array Value).toList :=
    ⟨cr0 _ rfl rfl (by show 0 < 3; omega), cr1 _ rfl rfl (by show 1 < 3; omega), cr2 _ rfl rfl (by show 2 < 3; omega), trivial⟩
  exact (hk _ _ _ _ hargs hH hG).mono fun e W' ⟨y, he, m', hp⟩ => ⟨by
    have hy : y = .bool true := hp.val
    rw [he, hy], hp.below⟩

/-- IT HOLDS: the law CarrierBits returns true, whatever two lists of bytes and list of integers come in. -/
theorem carrierBits : Rows.CarrierBitsCardSaid := bits_card bitsCore
end Go.Proofs.YthjgejgnaicdpaaGreatDoor
