/-
  Part of the proof.
-/
import Derived.Test.YtigdchbjmnbjlaaGreatDoorSeMnsL
section
open Go Go.Ev Go.RowKit Go.ChangeShapes Go.WideShapes
namespace Go.Proofs.YtigdchbjmnbjlaaGreatDoor
set_option maxRecDepth 100000
set_option maxHeartbeats 20000000
theorem mnsCore : MnsCore := by
 intro H enc W v0 v1 d0 d1 p0 p1 hL h0 h1 ⟨base, w0, w1⟩
 obtain ⟨hsz, hG⟩ := met_tables hL
 obtain ⟨f0, h0⟩ := h0
 obtain ⟨f1, h1⟩ := h1
 obtain ⟨q0, rfl⟩ := agg_of m26 w0
 obtain ⟨q1, rfl⟩ := arr_ofM m27 w1
 obtain ⟨n0, n1, n2, hq⟩ := rd_i3M h1
 have hq : q1 = #[.int .i64 n0, .int .i64 n1, .int .i64 n2] := by rw [← Array.toList_inj]; exact hq
 subst hq
 obtain ⟨F, ds, a0, r0, l0, c, g, N, L, hN, hL2, e0⟩ := rd_mains h0
 have hk := mnRun envOk (kAw envOk) c g N L n0 n1 n2 hN hL2
 have hargs : All2 (VR (m0 F)) [aM c g N L, .e (.agg [.v (.int .i64 n0), .v (.int .i64 n1), .v (.int .i64 n2)])] (#[.agg q0, .agg #[.int .i64 n0, .int .i64 n1, .int .i64 n2]] : Array Value).toList := by
  refine ⟨⟨q0, rfl, ?_⟩, ⟨_, rfl, rfl, rfl, rfl, trivial⟩, trivial⟩
  have h9 := DT.Rl.ac (m := m0 F) r0
  rw [e0, l0, List.take_length] at h9
  exact h9
 exact (hk _ _ _ _ hargs (hr0 W a0) hG).mono fun e W' ⟨y, he, m', hp⟩ => ⟨by
  have hy : y = .bool true := hp.val
  rw [he, hy], hp.below⟩
theorem toneMains : Rows.ToneMainsCardSaid := mns_card mnsCore
end Go.Proofs.YtigdchbjmnbjlaaGreatDoor
end
