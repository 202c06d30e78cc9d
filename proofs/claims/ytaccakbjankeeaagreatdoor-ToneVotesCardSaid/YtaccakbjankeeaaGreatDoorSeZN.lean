/-
  Part of the proof: SeVotI.
-/
import Derived.Test.YtaccakbjankeeaaGreatDoorSeVotL

/-! SeVotI -/
section
open Go Go.Ev Go.RowKit Go.ChangeShapes Go.WideShapes
namespace Go.Proofs.YtaccakbjankeeaaGreatDoor
set_option maxRecDepth 100000
set_option maxHeartbeats 20000000
theorem v23_ : Tryz.prog.underlying 23 = some (.slice 22) := by kernel_rfl
theorem rows_flatten : ∀ {rows : List (List DT)}, (∀ r ∈ rows, r.length = 1 ∧ ∃ us : List Int, r = [.s (iD us) us.length 1]) → ∃ L : List (List Int), L.length = rows.length ∧ rows.flatten = rD L
 | [], _ => ⟨[], rfl, rfl⟩
 | r :: rows, h => by
  obtain ⟨L, h1, h2⟩ := rows_flatten (fun s hs => h s (List.mem_cons_of_mem _ hs))
  obtain ⟨_, us, rfl⟩ := h r (List.mem_cons_self ..)
  exact ⟨us :: L, by simp [h1], by rw [List.flatten_cons, h2]; rfl⟩
theorem rd_LL {H : Type} {enc : TypeId × Value → H} {W : World} {fuel : Nat} {held : Bool} {c : Value} {x : DataW H × List MemPlace} (h : DataW.trod enc Tryz.prog W 0 (fun _ => true) held fuel 23 [c] = some x) : ∃ (F : List (Nat × List Value)) (L : List (List Int)), AtRest W F ∧ DT.R F (.s (rD L) L.length 1) c := by
 obtain ⟨F, ds, g1, g2, _, rows, _, h5, rfl⟩ := rd_slice (Q := fun ds => ∃ us : List Int, ds = [.s (iD us) us.length 1]) v23_ (by kernel_rfl : Tryz.prog.cellsOf 22 = 1) (by omega) (fun {_ _ _} hh => by
  obtain ⟨F, ds, g1, g2, g3, us, _, _, g4⟩ := rd_ints v22_ u3T c3_ (sl_of v22_ hh) hh
  exact ⟨F, ds, g1, g2, g3, us, g4⟩) (sl_of v23_ h) h
 obtain ⟨L, k1, k2⟩ := rows_flatten h5
 rw [k2, ← k1] at g2
 simp only [DT.Rl] at g2
 obtain ⟨y, rest, e', hy, _⟩ := g2
 have ey : c = y := (List.cons.inj e').1
 exact ⟨F, L, g1, by rw [ey]; exact hy⟩
theorem votCore : VotCore := by
 intro H enc W v0 d0 p0 hL h0 ⟨base, w0⟩
 obtain ⟨hsz, hG⟩ := met_tables hL
 obtain ⟨f0, h0⟩ := h0
 obtain ⟨p, ln, cp, hs⟩ := sl_of v23_ h0
 obtain rfl : v0 = .slice p ln cp := by
  simp only [Value.okWide, v23_] at w0
  cases v0 <;> simp_all [Value.cells, Cell.okWide, Cell.ok]
 obtain ⟨F0, L, a0, r0⟩ := rd_LL (c := .slice p ln cp) h0
 have hk := votesRun envOk (kAw envOk) L
 have hargs : All2 (VR (m0 F0)) [dR L] (#[.slice p ln cp] : Array Value).toList := ⟨r0, trivial⟩
 exact (hk _ _ _ _ hargs (hr0 W a0) hG).mono fun e W' ⟨y, he, m', hp⟩ => ⟨by
  have hy : y = .bool true := hp.val
  rw [he, hy], hp.below⟩
theorem toneVotes : Rows.ToneVotesCardSaid := vot_card votCore
end Go.Proofs.YtaccakbjankeeaaGreatDoor
end
