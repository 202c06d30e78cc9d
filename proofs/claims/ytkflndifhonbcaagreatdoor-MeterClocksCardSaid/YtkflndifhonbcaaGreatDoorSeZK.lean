/-
  Part of the proof: SeCloI.
-/
import Derived.Test.YtkflndifhonbcaaGreatDoorSeCloL

/-! SeCloI -/
section
open Go Go.Ev Go.RowKit Go.ChangeShapes Go.WideShapes
namespace Go.Proofs.YtkflndifhonbcaaGreatDoor
set_option maxRecDepth 100000
set_option maxHeartbeats 20000000
theorem cloCore : CloCore := by
 intro H enc W v0 v1 d0 d1 p0 p1 hL h0 h1 ⟨base, w0, w1⟩
 obtain ⟨hsz, hG⟩ := met_tables hL
 obtain ⟨f0, h0⟩ := h0
 obtain ⟨f1, h1⟩ := h1
 obtain ⟨k0, rfl⟩ := agg_of v102 w0
 obtain ⟨k1, rfl⟩ := agg_of v104 w1
 obtain ⟨l0, hl0, e0⟩ := read_struct (n := 4) v102 u3_ c3_ (by kernel_rfl) (by kernel_rfl) h0
 obtain ⟨l1, hl1, e1⟩ := read_struct (n := 4) v104 u3_ c3_ (by kernel_rfl) (by kernel_rfl) h1
 obtain ⟨s, o, l, v, rfl⟩ := four hl0
 obtain ⟨t, x, y, z, rfl⟩ := four hl1
 have hk := cloRun envOk (kAw envOk) s o l v t x y z
 have hargs : All2 (VR (m0 [])) [clA s o l v, clA t x y z] (#[.agg k0, .agg k1] : Array Value).toList := by
  refine ⟨⟨k0, rfl, ?_⟩, ⟨k1, rfl, ?_⟩, trivial⟩
  ·have e : k0.toList = [.int .i64 s, .int .i64 o, .int .i64 l, .int .i64 v] := e0
   rw [e]
   exact ⟨rfl, rfl, rfl, rfl, trivial⟩
  ·have e : k1.toList = [.int .i64 t, .int .i64 x, .int .i64 y, .int .i64 z] := e1
   rw [e]
   exact ⟨rfl, rfl, rfl, rfl, trivial⟩
 exact (hk _ _ _ _ hargs (hr0 W (fun p hp => by simp at hp)) hG).mono fun e W' ⟨y, he, m', hp⟩ => ⟨by
  have hy : y = .bool true := hp.val
  rw [he, hy], hp.below⟩
theorem meterClocks : Rows.MeterClocksCardSaid := clo_card cloCore
end Go.Proofs.YtkflndifhonbcaaGreatDoor
end
