/-
  Part of the proof: SeAgrI.
-/
import Derived.Test.YtigdchbjmnbjlaaGreatDoorSeAgrL

/-! SeAgrI -/
section
open Go Go.Ev Go.RowKit Go.ChangeShapes Go.WideShapes
namespace Go.Proofs.YtigdchbjmnbjlaaGreatDoor
set_option maxRecDepth 100000
set_option maxHeartbeats 20000000
theorem v104a : Tryz.prog.underlying 104 = some (.slice 108) := by kernel_rfl
theorem v108a : Tryz.prog.underlying 108 = some (.array 2 5) := by kernel_rfl
theorem v5a : Tryz.prog.underlying 5 = some (.int .u8) := by kernel_rfl
theorem c5a : Tryz.prog.cellsOf 5 = 1 := by kernel_rfl
def byteP (p : Int × Int) : Prop := (0 ≤ p.1 ∧ p.1 < 256) ∧ 0 ≤ p.2 ∧ p.2 < 256
theorem rd_u2 {H : Type} {enc : TypeId × Value → H} {W : World} {fuel : Nat} {held : Bool} {cs : List Value} {x : DataW H × List MemPlace} (h : DataW.trod enc Tryz.prog W 0 (fun _ => true) held fuel 108 cs = some x) : ∃ p : Int × Int, cs = [.int .u8 p.1, .int .u8 p.2] ∧ byteP p := by
 obtain ⟨xs, m, rfl, _, hlen, hn, hel⟩ := DataW.trod_array v108a h
 rw [show Tryz.prog.cellsOf 108 = 2 by kernel_rfl] at hlen
 rw [c5a] at hel
 have e3 : IntKind.u8.min = 0 := by decide
 have e4 : IntKind.u8.max = 255 := by decide
 match cs, hlen with
 | [a, b], _ =>
  have one : ∀ i (hi : i < 2) z, (([a, b] : List Value).drop (i * 1)).take 1 = [z] → ∃ r : Int, z = .int .u8 r ∧ 0 ≤ r ∧ r < 256 := fun i hi z hz => by
   have h1 := hel i hi
   rw [hz, List.getElem?_eq_getElem (by omega)] at h1
   obtain ⟨r, hr, _, hw⟩ := DataW.trod_int v5a h1
   have hw' : decide (IntKind.u8.min ≤ r) && decide (r ≤ IntKind.u8.max) := hw
   rw [Bool.and_eq_true, decide_eq_true_eq, decide_eq_true_eq] at hw'
   exact ⟨r, by simpa using hr, by omega, by omega⟩
  obtain ⟨p, rfl, hp⟩ := one 0 (by omega) a rfl
  obtain ⟨q, rfl, hq⟩ := one 1 (by omega) b rfl
  exact ⟨(p, q), rfl, hp, hq⟩
theorem acts_flat : ∀ {rows : List (List DT)}, (∀ r ∈ rows, r.length = 2 ∧ ∃ p : Int × Int, r = acP p ∧ byteP p) → ∃ L : List (Int × Int), L.length = rows.length ∧ rows.flatten = acD L ∧ ∀ p ∈ L, byteP p
 | [], _ => ⟨[], rfl, rfl, fun _ h => by simp at h⟩
 | r :: rows, h => by
  obtain ⟨L, h1, h2, h3⟩ := acts_flat (fun s hs => h s (List.mem_cons_of_mem _ hs))
  obtain ⟨_, p, rfl, hp⟩ := h r (List.mem_cons_self ..)
  exact ⟨p :: L, by simp [h1], by rw [List.flatten_cons, h2]; rfl, fun q hq => (List.mem_cons.1 hq).elim (fun e => e ▸ hp) (h3 q)⟩
theorem rd_acts {H : Type} {enc : TypeId × Value → H} {W : World} {fuel : Nat} {held : Bool} {c : Value} {x : DataW H × List MemPlace} (h : DataW.trod enc Tryz.prog W 0 (fun _ => true) held fuel 104 [c] = some x) : ∃ (F : List (Nat × List Value)) (L : List (Int × Int)), (∀ p ∈ L, byteP p) ∧ AtRest W F ∧ DT.R F (.s (acD L) L.length 2) c := by
 obtain ⟨F, ds, g1, g2, _, rows, g3, h5, rfl⟩ := rd_slice (Q := fun ds => ∃ p : Int × Int, ds = acP p ∧ byteP p) v104a (by kernel_rfl : Tryz.prog.cellsOf 108 = 2) (by omega) (fun {_ _ _} hh => by
  obtain ⟨p, rfl, hp⟩ := rd_u2 hh
  exact ⟨[], acP p, fun _ hq => by simp at hq, by simp only [DT.Rl]; exact ⟨_, _, rfl, rfl, _, _, rfl, rfl, by trivial⟩, rfl, p, rfl, hp⟩) (sl_of v104a h) h
 obtain ⟨L, k1, k2, k3⟩ := acts_flat h5
 rw [k2, ← k1] at g2
 simp only [DT.Rl] at g2
 obtain ⟨y, rest, e', hy, _⟩ := g2
 have ey : c = y := (List.cons.inj e').1
 exact ⟨F, L, k3, g1, by rw [ey]; exact hy⟩
theorem agrCore : AgrCore := by
 intro H enc W v0 v1 d0 d1 p0 p1 hL h0 h1 ⟨base, w0, w1⟩
 obtain ⟨hsz, hG⟩ := met_tables hL
 obtain ⟨f0, h0⟩ := h0
 obtain ⟨f1, h1⟩ := h1
 obtain ⟨p, ln, cp, hs⟩ := sl_of v22_ h0
 obtain rfl : v0 = .slice p ln cp := by
  simp only [Value.okWide, v22_] at w0
  cases v0 <;> simp_all [Value.cells, Cell.okWide, Cell.ok]
 obtain ⟨p', ln', cp', hs'⟩ := sl_of v104a h1
 obtain rfl : v1 = .slice p' ln' cp' := by
  simp only [Value.okWide, v104a] at w1
  cases v1 <;> simp_all [Value.cells, Cell.okWide, Cell.ok]
 obtain ⟨F0, xs, a0, r0⟩ := rd_I (c := .slice p ln cp) h0
 obtain ⟨F1, L, hb, a1, r1⟩ := rd_acts (c := .slice p' ln' cp') h1
 have hk := agrRun envOk (kAw envOk) xs L hb
 have hargs : All2 (VR (m0 (F0 ++ F1))) [dI xs, .e (.one (.dp (.s (acD L) L.length 2)))] (#[.slice p ln cp, .slice p' ln' cp'] : Array Value).toList :=
  ⟨DT.R.mono (fun p hp => List.mem_append_left _ hp) _ _ r0, DT.R.mono (fun p hp => List.mem_append_right _ hp) _ _ r1, trivial⟩
 exact (hk _ _ _ _ hargs (hr0 W (a0.app a1)) hG).mono fun e W' ⟨y, he, m', hp⟩ => ⟨by
  have hy : y = .bool true := hp.val
  rw [he, hy], hp.below⟩
theorem toneAgrees : Rows.ToneAgreesCardSaid := agr_card agrCore
end Go.Proofs.YtigdchbjmnbjlaaGreatDoor
end
