/-
  Part of the proof: SeStpI.
-/
import Derived.Test.YtnhabbponbpmfaaGreatDoorSeStpL

/-! SeStpI -/
section
open Go Go.Ev Go.RowKit Go.ChangeShapes Go.WideShapes
namespace Go.Proofs.YtnhabbponbpmfaaGreatDoor
set_option maxRecDepth 100000
set_option maxHeartbeats 20000000
theorem stpCore : StpCore := by
 intro H enc W v0 v1 v2 d0 d1 d2 p0 p1 p2 hL h0 h1 h2 ⟨base, w0, w1, w2⟩
 obtain ⟨hsz, hG⟩ := met_tables hL
 obtain ⟨f0, h0⟩ := h0
 obtain ⟨f1, h1⟩ := h1
 obtain ⟨f2, h2⟩ := h2
 obtain ⟨q0, rfl⟩ := agg_of v61 w0
 obtain ⟨q1, rfl⟩ := agg_of v63 w1
 obtain ⟨q2, rfl⟩ := agg_of v65 w2
 obtain ⟨F0, e0, a0, r0, l0, L, x, y, hLm, rfl⟩ := rd_snd h0
 obtain ⟨F1, e1, a1, r1, l1, K, t, hKm, rfl⟩ := rd_rcv h1
 obtain ⟨F2, e2, a2, r2, l2, f, u, z, rfl⟩ := rd_stp h2
 have hk := stepsRun envOk (kAw envOk) L K f x y t u z hLm hKm
 have hargs : All2 (VR (m0 (F0 ++ (F1 ++ F2)))) [.e (.agg [.dp (.s (frD L) L.length 4), .v (.int .i64 x), .v (.int .i64 y)]), .e (.agg [.v (.int .i64 t), .dp (.s (frD K) K.length 4)]), .e (.agg [.v (.int .i64 f.a), .v (.int .i64 f.b), .v (.int .i64 f.c), .dp (.s (bD f.s) f.s.length 1), .v (.int .i64 u), .v (.int .i64 z)])] (#[.agg q0, .agg q1, .agg q2] : Array Value).toList :=
  ⟨agg_in (fun p hp => List.mem_append_left _ hp) r0 l0, agg_in (fun p hp => List.mem_append_right _ (List.mem_append_left _ hp)) r1 l1, agg_in (fun p hp => List.mem_append_right _ (List.mem_append_right _ hp)) r2 l2, trivial⟩
 exact (hk _ _ _ _ hargs (hr0 W (a0.app (a1.app a2))) hG).mono fun e W' ⟨y, he, m', hp⟩ => ⟨by
  have hy : y = .bool true := hp.val
  rw [he, hy], hp.below⟩
theorem linkSteps : Rows.LinkStepsCardSaid := stp_card stpCore
end Go.Proofs.YtnhabbponbpmfaaGreatDoor
end
