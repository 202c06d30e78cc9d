/-
  Part of the proof: SeIvlI.
-/
import Derived.Test.YtkflndifhonbcaaGreatDoorSeIvlL

/-! SeIvlI -/
section
open Go Go.Ev Go.RowKit Go.ChangeShapes Go.WideShapes
namespace Go.Proofs.YtkflndifhonbcaaGreatDoor
set_option maxRecDepth 100000
set_option maxHeartbeats 20000000
theorem v79 : Tryz.prog.underlying 79 = some (.struct (Tryz.prog.fieldsOf 79)) := by kernel_rfl
theorem twoI {l : List Int} (h : l.length = 2) : ∃ a b, l = [a, b] := by
 match l, h with
 | [a, b], _ => exact ⟨a, b, rfl⟩
theorem int_of {W : World} {b : Nat} {v : Value} {z : Int} (hz : v.cells.toList = [.int .i64 z]) (h : Value.okWide Tryz.prog W .any b 3 v) : v = .int .i64 z := by
 simp only [Value.okWide, u3_] at h
 cases v <;> simp_all [Value.cells, Cell.okWide, Cell.ok]
theorem ivlCore : IvlCore := by
 intro H enc W v0 v1 v2 d0 d1 d2 p0 p1 p2 hL h0 h1 h2 ⟨base, w0, w1, w2⟩
 obtain ⟨hsz, hG⟩ := met_tables hL
 obtain ⟨f0, h0⟩ := h0
 obtain ⟨f1, h1⟩ := h1
 obtain ⟨f2, h2⟩ := h2
 obtain ⟨k0, rfl⟩ := agg_of v102 w0
 obtain ⟨k1, rfl⟩ := agg_of v79 w1
 obtain ⟨z, hz, _⟩ := DataW.trod_int u3_ h2
 obtain rfl := int_of hz w2
 obtain ⟨l0, hl0, e0⟩ := read_struct (n := 4) v102 u3_ c3_ (by kernel_rfl) (by kernel_rfl) h0
 obtain ⟨l1, hl1, e1⟩ := read_struct (n := 2) v79 u3_ c3_ (by kernel_rfl) (by kernel_rfl) h1
 obtain ⟨s, o, l, v, rfl⟩ := four hl0
 obtain ⟨f, e, rfl⟩ := twoI hl1
 have hk := ivlRun envOk (kAw envOk) s o l v f e z
 have hargs : All2 (VR (m0 [])) [clA s o l v, .e (.agg [.v (.int .i64 f), .v (.int .i64 e)]), iI z] (#[.agg k0, .agg k1, .int .i64 z] : Array Value).toList := by
  refine ⟨⟨k0, rfl, ?_⟩, ⟨k1, rfl, ?_⟩, rfl, trivial⟩
  ·have e : k0.toList = [.int .i64 s, .int .i64 o, .int .i64 l, .int .i64 v] := e0
   rw [e]
   exact ⟨rfl, rfl, rfl, rfl, trivial⟩
  ·have e' : k1.toList = [.int .i64 f, .int .i64 e] := e1
   rw [e']
   exact ⟨rfl, rfl, trivial⟩
 exact (hk _ _ _ _ hargs (hr0 W (fun p hp => by simp at hp)) hG).mono fun e W' ⟨y, he, m', hp⟩ => ⟨by
  have hy : y = .bool true := hp.val
  rw [he, hy], hp.below⟩
theorem meterIntervals : Rows.MeterIntervalsCardSaid := ivl_card ivlCore
end Go.Proofs.YtkflndifhonbcaaGreatDoor
end
