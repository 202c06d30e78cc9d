/-
  Part of the proof: SeOrdI.
-/
import Derived.Test.YtmefachijohnhaaGreatDoorSeOrdL

/-! SeOrdI -/
section
open Go Go.Ev Go.RowKit Go.ChangeShapes Go.WideShapes
namespace Go.Proofs.YtmefachijohnhaaGreatDoor
set_option maxRecDepth 100000
set_option maxHeartbeats 20000000
theorem ordCore : OrdCore := by
 intro H enc W v0 v1 v2 d0 d1 d2 p0 p1 p2 hL h0 h1 h2 ⟨base, w0, w1, w2⟩
 obtain ⟨hsz, hG⟩ := met_tables hL
 obtain ⟨f0, h0⟩ := h0
 obtain ⟨f1, h1⟩ := h1
 obtain ⟨f2, h2⟩ := h2
 obtain ⟨q0, rfl⟩ := agg_of v98 w0
 obtain ⟨o, ho, _⟩ := DataW.trod_string v9 h1
 obtain ⟨t, ht, _⟩ := DataW.trod_int u3_ h2
 obtain rfl : v1 = .string o := by
  simp only [Value.okWide, v9] at w1
  cases v1 <;> simp_all [Value.cells, Cell.okWide, Cell.ok]
 obtain rfl : v2 = .int .i64 t := by
  simp only [Value.okWide, u3_] at w2
  cases v2 <;> simp_all [Value.cells, Cell.okWide, Cell.ok]
 obtain ⟨F0, e0, a0, r0, l0, a, b, L, hLm, rfl⟩ := rd_sw h0
 have hk := ordersRun envOk (kAw envOk) a b L o t hLm
 have hargs : All2 (VR (m0 F0)) [.e (.agg [.v (.bool a), .v (.bool b), .dp (.s (odD L) L.length 2)]), .e (.one (.v (.string o))), .e (.one (.v (.int .i64 t)))] (#[.agg q0, .string o, .int .i64 t] : Array Value).toList :=
  ⟨agg_in (fun p hp => hp) r0 l0, rfl, rfl, trivial⟩
 exact (hk _ _ _ _ hargs (hr0 W a0) hG).mono fun e W' ⟨y, he, m', hp⟩ => ⟨by
  have hy : y = .bool true := hp.val
  rw [he, hy], hp.below⟩
theorem creditOrders : Rows.CreditOrdersCardSaid := ord_card ordCore
end Go.Proofs.YtmefachijohnhaaGreatDoor
end
