/-
  Part of the proof: SeRcvI.
-/
import Derived.Test.YtaccakbjankeeaaGreatDoorSeRcvL

/-! SeRcvI -/
section
open Go Go.Ev Go.RowKit Go.ChangeShapes Go.WideShapes
namespace Go.Proofs.YtaccakbjankeeaaGreatDoor
set_option maxRecDepth 100000
set_option maxHeartbeats 20000000
theorem v87_ : Tryz.prog.underlying 87 = some (.struct (Tryz.prog.fieldsOf 87)) := by kernel_rfl
theorem rcvCore : RcvCore := by
 intro H enc W v0 v1 v2 d0 d1 d2 p0 p1 p2 hL h0 h1 h2 ⟨base, w0, w1, w2⟩
 obtain ⟨hsz, hG⟩ := met_tables hL
 obtain ⟨f0, h0⟩ := h0
 obtain ⟨f1, h1⟩ := h1
 obtain ⟨f2, h2⟩ := h2
 obtain ⟨q0, rfl⟩ := agg_of v87_ w0
 obtain ⟨m, hm, _⟩ := DataW.trod_int u3T h2
 obtain rfl := int_of hm w2
 obtain ⟨p, ln, cp, hs⟩ := sl_of v22_ h1
 obtain rfl : v1 = .slice p ln cp := by
  simp only [Value.okWide, v22_] at w1
  cases v1 <;> simp_all [Value.cells, Cell.okWide, Cell.ok]
 obtain ⟨F0, n, xs, ys, y1, y2, a0, e0, r1, r2⟩ := rd_end v87_ (by kernel_rfl) (by kernel_rfl) h0
 obtain ⟨F1, zs, a1, r3⟩ := rd_I (c := .slice p ln cp) h1
 have hk := recvRun envOk (kAw envOk) n m xs ys zs
 have hargs : All2 (VR (m0 (F0 ++ F1))) [aE n xs ys, dI zs, iI m] (#[.agg q0, .slice p ln cp, .int .i64 m] : Array Value).toList := by
  refine ⟨⟨q0, rfl, ?_⟩, DT.R.mono (fun p hp => List.mem_append_right _ hp) _ _ r3, rfl, trivial⟩
  have e3 : q0.toList = [.int .i64 n, y1, y2] := e0
  rw [e3]
  exact ⟨rfl, DT.R.mono (fun p hp => List.mem_append_left _ hp) _ _ r1, DT.R.mono (fun p hp => List.mem_append_left _ hp) _ _ r2, trivial⟩
 exact (hk _ _ _ _ hargs (hr0 W (a0.app a1)) hG).mono fun e W' ⟨y, he, m', hp⟩ => ⟨by
  have hy : y = .bool true := hp.val
  rw [he, hy], hp.below⟩
theorem toneReceivers : Rows.ToneReceiversCardSaid := rcv_card rcvCore
end Go.Proofs.YtaccakbjankeeaaGreatDoor
end
