/-
  Part of the proof: SeClnI.
-/
import Derived.Test.YtbmcfhkedgpldaaGreatDoorSeClnL

/-! SeClnI -/
section
open Go Go.Ev Go.RowKit Go.ChangeShapes Go.WideShapes Ieee
namespace Go.Proofs.YtbmcfhkedgpldaaGreatDoor
set_option maxRecDepth 100000
set_option maxHeartbeats 20000000
theorem v104 : Tryz.prog.underlying 104 = some (.int .u16) := by kernel_rfl
theorem v86 : Tryz.prog.underlying 86 = some (.slice 5) := by kernel_rfl
theorem v5 : Tryz.prog.underlying 5 = some (.int .u8) := by kernel_rfl
theorem v105 : Tryz.prog.underlying 105 = some (.slice 109) := by kernel_rfl
theorem vI8 : Tryz.prog.underlying 109 = some (.int .i8) := by kernel_rfl
theorem ones_k {k : IntKind} {Q : Int → Prop} : ∀ {rows : List (List DT)}, (∀ r ∈ rows, r.length = 1 ∧ ∃ z : Int, Q z ∧ r = [.v (.int k z)]) → ∃ zs : List Int, (∀ z ∈ zs, Q z) ∧ rows.flatten = (zs.map fun z => DT.v (.int k z)) ∧ zs.length = rows.length
 | [], _ => ⟨[], by simp, rfl, rfl⟩
 | r :: rows, h => by
  obtain ⟨zs, h1, h2, h3⟩ := ones_k (fun s hs => h s (List.mem_cons_of_mem _ hs))
  obtain ⟨_, z, hq, rfl⟩ := h r (List.mem_cons_self ..)
  exact ⟨z :: zs, by simpa [hq] using h1, by rw [List.flatten_cons, h2]; rfl, by simp [h3]⟩
theorem rd_k {H : Type} {enc : TypeId × Value → H} {W : World} {k : IntKind} {t e : TypeId} {fuel : Nat} {held : Bool} {cs : List Value} {x : DataW H × List MemPlace} (ht : Tryz.prog.underlying t = some (.slice e)) (he : Tryz.prog.underlying e = some (.int k)) (hsz : Tryz.prog.cellsOf e = 1)
  (hc : ∃ a len cap, cs = [.slice a len cap]) (h : DataW.trod enc Tryz.prog W 0 (fun _ => true) held fuel t cs = some x) :
  Rd W cs fun ds => ∃ zs : List Int, (∀ z ∈ zs, (Lit.int k z).wf = true) ∧ ds = [.s (zs.map fun z => .v (.int k z)) zs.length 1] := by
 obtain ⟨F, ds, h1, h2, h3, rows, h4, h5, h6⟩ := rd_slice (Q := fun ds => ∃ z : Int, (Lit.int k z).wf = true ∧ ds = [.v (.int k z)]) ht hsz (by omega) (fun {_ _ _} hh => rd_int he hh) hc h
 obtain ⟨zs, k1, k2, k3⟩ := ones_k h5
 exact ⟨F, ds, h1, h2, h3, zs, k1, by rw [h6, k2, ← k3]⟩
theorem wfb {k : IntKind} {z : Int} (h : (Lit.int k z).wf = true) : k.min ≤ z ∧ z ≤ k.max := by
 have h' : (decide (k.min ≤ z) && decide (z ≤ k.max)) = true := h
 simpa using h'
theorem clnCore : ClnCore := by
 intro H enc W v0 v1 v2 d0 d1 d2 p0 p1 p2 hL h0 h1 h2 ⟨base, w0, w1, w2⟩
 have hblk : ∃ c ty fz, W.heap[4]? = some (.cells c ty fz) := by
  obtain ⟨_, c, t, fz, h, _⟩ := tables (base := 5) (Nat.le_refl _) hL 4 tabPow rfl
  exact ⟨c, t, fz, h⟩
 have hsz : 5 ≤ W.heap.size := by
  obtain ⟨c, t, fz, h⟩ := hblk
  have := (Array.getElem?_eq_some_iff.1 h).1
  omega
 have hG : GR E.gl W.heap.size W := tables hsz hL
 obtain ⟨a1, l1, c1, rfl⟩ := okWide_slice v86 w1
 obtain ⟨a2, l2, c2, rfl⟩ := okWide_slice v105 w2
 obtain ⟨f0, h0⟩ := h0
 obtain ⟨f1, h1⟩ := h1
 obtain ⟨f2, h2⟩ := h2
 obtain ⟨z, hz, _, hzw⟩ := DataW.trod_int v104 h0
 obtain rfl : v0 = .int .u16 z := by
  simp only [Value.okWide, v104] at w0
  cases v0 <;> simp_all [Value.cells, Cell.okWide, Cell.ok]
 obtain ⟨F1, ds1, hF1, hRl1, _, s, hs, rfl⟩ := rd_k v86 v5 (by kernel_rfl) ⟨a1, l1, c1, rfl⟩ h1
 obtain ⟨F2, ds2, hF2, hRl2, _, es, hes, rfl⟩ := rd_k v105 vI8 (by kernel_rfl) ⟨a2, l2, c2, rfl⟩ h2
 have one : ∀ {F : List (Nat × List Value)} {d : DT} {v : Value}, DT.Rl F [d] [v] → DT.R F d v := by
  intro F d v h
  simp only [DT.Rl] at h
  obtain ⟨y, r, e, hy, _⟩ := h
  have e2 : y = v := (List.cons.inj e).1.symm
  rw [← e2]; exact hy
 have hR2 : DT.R (F1 ++ F2) (.s (eD es) es.length 1) (.slice a2 l2 c2) := DT.R.mono (fun p hp => List.mem_append_right _ hp) _ _ (one hRl2)
 have hR1 : DT.R (F1 ++ F2) (.s (bD s) s.length 1) (.slice a1 l1 c1) := DT.R.mono (fun p hp => List.mem_append_left _ hp) _ _ (one hRl1)
 have m1 : IntKind.u16.min = 0 ∧ IntKind.u16.max = 65535 := by decide
 have m2 : IntKind.u8.min = 0 ∧ IntKind.u8.max = 255 := by decide
 have m3 : IntKind.i8.min = -128 ∧ IntKind.i8.max = 127 := by decide
 have bz : 0 ≤ z ∧ z < 65536 := by have := wfb hzw; omega
 have bs : ∀ x ∈ s, 0 ≤ x ∧ x < 256 := fun x hx => by have := wfb (hs x hx); omega
 have be : ∀ x ∈ es, -128 ≤ x ∧ x < 128 := fun x hx => by have := wfb (hes x hx); omega
 have hk := clnRun envOk (kAw envOk) z s es bz bs be rfl rfl
 let m : M := { n := 0, ρ := fun _ => 0, κ := fun _ => 0, lo := 0, F := F1 ++ F2 }
 have hH : HR m W.heap.size 0 [] W := ⟨rfl, Nat.le_refl _, Nat.le_refl _, fun b a hb => by simp at hb, fun b _ hb => by simp at hb, fun b b' hb => by simp at hb, Nat.le_refl _, fun p hp => ⟨(hF1.app hF2) p hp, fun b a _ hb => by simp at hb⟩⟩
 have hargs : All2 (VR m) [.e (.one (.v (.int .u16 z))), .e (.one (.dp (.s (bD s) s.length 1))), .e (.one (.dp (.s (eD es) es.length 1)))] (#[.int .u16 z, .slice a1 l1 c1, .slice a2 l2 c2] : Array Value).toList := ⟨rfl, hR1, hR2, trivial⟩
 exact (hk _ _ _ _ hargs hH hG).mono fun e W' ⟨y, he, m', hp⟩ => ⟨by
  have hy : y = .bool true := hp.val
  rw [he, hy], hp.below⟩
theorem carrierClean : Rows.CarrierCleanCardSaid := cln_card clnCore
end Go.Proofs.YtbmcfhkedgpldaaGreatDoor
end
