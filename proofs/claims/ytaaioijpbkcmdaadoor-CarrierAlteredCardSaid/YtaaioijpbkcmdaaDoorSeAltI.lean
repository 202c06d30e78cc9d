/-
  CarrierAltered: what came in, the run, the card.
-/
import Derived.Test.YtaaioijpbkcmdaaDoorSeAM
import Derived.Test.YtaaioijpbkcmdaaDoorSeAw
import Derived.Test.YtaaioijpbkcmdaaDoorSeAltL
import Derived.Test.YtaaioijpbkcmdaaDoorSyArg
open Go Go.Ev Go.RowKit Go.ChangeShapes Go.WideShapes
namespace Go.Proofs.YtaaioijpbkcmdaaDoor
set_option maxRecDepth 100000
set_option maxHeartbeats 20000000

theorem core3 (hE : EnvOk E) {C : List AC} {N ty n : Nat} {fl : Bool} {x0 : AC} (hC : FlatC C) (hN : C.length = N) {ks : List UInt8} (hk : ks.length = 8) {rows : List (List UInt8)} (h0 : SlOk 0 16 C x0 n rows) (a b c d : UInt8) (K4 : COut E 0 [] 4 [] (iB true) []) :
    ∃ H : Heap, COut E 1 [some ⟨C, N, ty, fl, .cells⟩] 3 [.e (.agg (ks.map u8c)), .e (.one x0), .e (.agg [u8c a, u8c b, u8c c, u8c d])] (iB true) H := by
  obtain ⟨hl, hw, ⟨rfl, p, cp, rfl⟩ | ⟨h0n, o, cap, ex, rfl, hel⟩⟩ := h0
  · obtain ⟨k0, k1, k2, k3, k4, k5, k6, k7, rfl⟩ := len8 hk
    exact ⟨_, cOut_start Tryd.func3 rfl (c3n hE k0 k1 k2 k3 k4 k5 k6 k7 C N ty fl p cp a b c d K4 (fun j => outK_ret (ends_ret (by kernel_rfl))) (fun _ => undef))⟩
  · by_cases hn8 : n ≤ 8
    · exact main3 hE hC hN hk hl hw h0n hn8 hel a b c d K4
    · obtain ⟨k0, k1, k2, k3, k4, k5, k6, k7, rfl⟩ := len8 hk
      have d1 : decide ((n : Int) < (1 : Int)) = false := decide_eq_false (by omega)
      have d8 : decide ((n : Int) > (8 : Int)) = true := decide_eq_true (by omega)
      exact ⟨_, cOut_start Tryd.func3 rfl (c3w hE k0 k1 k2 k3 k4 k5 k6 k7 C N ty o n cap fl ex a b c d (by rw [d1]; rfl) (by rw [d1]; rfl) (by rw [d1]; rfl) d1 d8 K4 (fun j => outK_ret (ends_ret (by kernel_rfl))) (fun _ => undef))⟩

theorem u5 : Tryd.prog.underlying 5 = some (.int .u8) := by kernel_rfl
theorem u23 : Tryd.prog.underlying 23 = some (.array 8 5) := by kernel_rfl
theorem u25 : Tryd.prog.underlying 25 = some (.array 4 5) := by kernel_rfl
theorem u24 : Tryd.prog.underlying 24 = some (.slice 32) := by kernel_rfl
theorem u32 : Tryd.prog.underlying 32 = some (.array 16 5) := by kernel_rfl

theorem all2_u8 {m : M} : ∀ (l : List UInt8), All2 (CR m) (l.map u8c) (l.map fun b => Value.int .u8 b.toNat)
  | [] => trivial
  | _ :: l => ⟨rfl, all2_u8 l⟩
theorem len4 {l : List UInt8} (h : l.length = 4) : ∃ a b c d, l = [a, b, c, d] := by
  match l, h with
  | [a, b, c, d], _ => exact ⟨a, b, c, d, rfl⟩

theorem altCore : AltCore := by
  intro H enc W v0 v1 v2 d0 d1 d2 p0 p1 p2 hL h0 h1 h2 ⟨base, w0, w1, w2⟩
  have hblk : ∃ c ty fz, W.heap[3]? = some (.cells c ty fz) := by
    obtain ⟨_, c, t, fz, h, _⟩ := tables (base := 4) (Nat.le_refl _) hL 3 tabPow rfl
    exact ⟨c, t, fz, h⟩
  have hsz : 4 ≤ W.heap.size := by
    obtain ⟨c, t, fz, h⟩ := hblk
    have := (Array.getElem?_eq_some_iff.1 h).1
    omega
  have hG : GR E.gl W.heap.size W := tables hsz hL
  have hd : ∃ (b : Nat) (c : Array Value) (ty : TypeId) (fz : Nat × Nat), W.heap[b]? = some (.cells c ty fz) := ⟨3, hblk⟩
  obtain ⟨k0, rfl⟩ : ∃ cs, v0 = .agg cs := by
    simp only [Value.okWide, u23] at w0
    obtain ⟨cs, h1, _⟩ := w0
    exact ⟨cs, h1⟩
  obtain ⟨q0, rfl⟩ : ∃ cs, v2 = .agg cs := by
    simp only [Value.okWide, u25] at w2
    obtain ⟨cs, h1, _⟩ := w2
    exact ⟨cs, h1⟩
  obtain ⟨f0, h0⟩ := h0
  obtain ⟨ks, hks, hkv⟩ := read_bytes u23 u5 (by kernel_rfl) (by kernel_rfl) h0
  obtain ⟨f2, h2⟩ := h2
  obtain ⟨ns, hns, hnv⟩ := read_bytes u25 u5 (by kernel_rfl) (by kernel_rfl) h2
  obtain ⟨a, b, c, d, rfl⟩ := len4 hns
  obtain ⟨a1, l1, c1, rfl⟩ := okWide_slice u24 w1
  obtain ⟨f1, h1⟩ := h1
  obtain ⟨b0, A0, t0, z0, x0, n0, rows, hb0, s0, cr0⟩ := read_rows 0 u24 (sz := 16) (by kernel_rfl) (by omega) (fun n cs y h => read_bytes u32 u5 (by kernel_rfl) (by kernel_rfl) h) h1 hd
  obtain ⟨H1, hk⟩ := core3 envOk (N := A0.size) (ty := t0) (fl := false) (flat_v A0.toList) (by simp) hks s0 a b c d (k15 envOk)
  let ρ : Nat → Nat := fun _ => b0
  let κ : Nat → Nat := fun _ => A0.size
  have hH : HR ⟨1, ρ, κ, 1⟩ W.heap.size 1 [some ⟨A0.toList.map AC.v, A0.size, t0, false, .cells⟩] W := by
    refine hr_args rfl (Nat.le_refl _) fun i a hi => ?_
    rcases i with _ | i
    · simp only [List.getElem?_cons_zero, Option.some.injEq] at hi
      subst hi
      exact br_all (m := ⟨1, ρ, κ, 1⟩) (b := 0) hb0 rfl (by show 0 < 1; omega)
    · simp at hi
  have hargs : All2 (VR ⟨1, ρ, κ, 1⟩) [.e (.agg (ks.map u8c)), .e (.one x0), .e (.agg [u8c a, u8c b, u8c c, u8c d])] (#[.agg k0, .slice a1 l1 c1, .agg q0] : Array Value).toList := by
    refine ⟨⟨k0, rfl, ?_⟩, cr0 _ rfl rfl (by show 0 < 1; omega), ⟨q0, rfl, ?_⟩, trivial⟩
    · have e : k0.toList = ks.map fun b => Value.int .u8 b.toNat := hkv
      rw [e]
      exact all2_u8 ks
    · have e : q0.toList = [a, b, c, d].map fun b => Value.int .u8 b.toNat := hnv
      rw [e]
      exact all2_u8 [a, b, c, d]
  exact (hk _ _ _ _ hargs hH hG).mono fun e W' ⟨y, he, m', hp⟩ => ⟨by
    have hy : y = .bool true := hp.val
    rw [he, hy], hp.below⟩

/-- IT HOLDS: the law CarrierAltered returns true, whatever key, blocks and numbers come in. -/
theorem carrierAltered : Rows.CarrierAlteredCardSaid := alt_card altCore
end Go.Proofs.YtaaioijpbkcmdaaDoor
