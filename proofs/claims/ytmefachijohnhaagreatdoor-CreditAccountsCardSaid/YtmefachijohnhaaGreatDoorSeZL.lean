/-
  Part of the proof: SeAccI.
-/
import Derived.Test.YtmefachijohnhaaGreatDoorSeAccL

/-! SeAccI -/
section
open Go Go.Ev Go.RowKit Go.ChangeShapes Go.WideShapes
namespace Go.Proofs.YtmefachijohnhaaGreatDoor
set_option maxRecDepth 100000
set_option maxHeartbeats 20000000
theorem v26 : Tryz.prog.underlying 26 = some (.struct (Tryz.prog.fieldsOf 26)) := by kernel_rfl
theorem v24 : Tryz.prog.underlying 24 = some (.slice 3) := by kernel_rfl
theorem v4 : Tryz.prog.underlying 4 = some .bool := by kernel_rfl
theorem len22 {l : List Value} (h : l.length = 22) : ∃ c0 c1 c2 c3 c4 c5 c6 c7 c8 c9 c10 c11 c12 c13 c14 c15 c16 c17 c18 c19 c20 c21, l = [c0, c1, c2, c3, c4, c5, c6, c7, c8, c9, c10, c11, c12, c13, c14, c15, c16, c17, c18, c19, c20, c21] := by
 match l, h with
 | [c0, c1, c2, c3, c4, c5, c6, c7, c8, c9, c10, c11, c12, c13, c14, c15, c16, c17, c18, c19, c20, c21], _ => exact ⟨c0, c1, c2, c3, c4, c5, c6, c7, c8, c9, c10, c11, c12, c13, c14, c15, c16, c17, c18, c19, c20, c21, rfl⟩
theorem len8i {l : List Int} (h : l.length = 8) : ∃ kk0 kk1 kk2 kk3 kk4 kk5 kk6 kk7, l = [kk0, kk1, kk2, kk3, kk4, kk5, kk6, kk7] := by
 match l, h with
 | [kk0, kk1, kk2, kk3, kk4, kk5, kk6, kk7], _ => exact ⟨kk0, kk1, kk2, kk3, kk4, kk5, kk6, kk7, rfl⟩
theorem read_bytes {H : Type} {enc : TypeId × Value → H} {P : Program} {W : World} {t e n : Nat} {fuel : Nat} {held : Bool} {base : Nat} {sp : Nat → Bool} {cs : List Value} {x : DataW H × List MemPlace} (ht : P.underlying t = some (.array n e)) (he : P.underlying e = some (.int .u8)) (hc : P.cellsOf e = 1) (hct : P.cellsOf t = n)
  (h : DataW.trod enc P W base sp held fuel t cs = some x) : ∃ l : List Int, l.length = n ∧ cs = l.map (.int .u8) ∧ ∀ b ∈ l, 0 ≤ b ∧ b < 256 := by
 obtain ⟨xs, m, rfl, _, hlen, hn, hel⟩ := DataW.trod_array ht h
 rw [hct] at hlen
 have one : ∀ i, i < n → ∃ b : Int, cs[i]? = some (.int .u8 b) ∧ 0 ≤ b ∧ b < 256 := fun i hi => by
  have h1 := hel i (by omega)
  rw [hc, Nat.mul_one, List.getElem?_eq_getElem (by omega)] at h1
  obtain ⟨b, hcell, _, hw⟩ := DataW.trod_int he h1
  have e2 : ((cs.drop i).take 1)[0]? = some (.int .u8 b) := by rw [hcell]; rfl
  rw [List.getElem?_take, if_pos (by omega), List.getElem?_drop] at e2
  have hw' : decide (IntKind.u8.min ≤ b) && decide (b ≤ IntKind.u8.max) := hw
  rw [Bool.and_eq_true, decide_eq_true_eq, decide_eq_true_eq] at hw'
  have e3 : IntKind.u8.min = 0 := by decide
  have e4 : IntKind.u8.max = 255 := by decide
  exact ⟨b, by simpa using e2, by omega, by omega⟩
 have key : ∀ (n : Nat) (cs : List Value), cs.length = n → (∀ i, i < n → ∃ b : Int, cs[i]? = some (.int .u8 b) ∧ 0 ≤ b ∧ b < 256) → ∃ l : List Int, l.length = n ∧ cs = l.map (.int .u8) ∧ ∀ b ∈ l, 0 ≤ b ∧ b < 256 := by
  intro n
  induction n with
  | zero => intro cs hl _; exact ⟨[], rfl, by rw [List.eq_nil_of_length_eq_zero hl]; rfl, by simp⟩
  | succ n ih =>
   intro cs hl hh
   match cs, hl with
   | c :: cs, hl =>
    obtain ⟨b, hb, hr⟩ := hh 0 (by omega)
    obtain ⟨l, h1, h2, h3⟩ := ih cs (by simpa using hl) fun i hi => by have := hh (i + 1) (by omega); simpa using this
    refine ⟨b :: l, by simp [h1], ?_, fun a ha => ?_⟩
    ·have : c = .int .u8 b := by simpa using hb
     rw [this, h2]; rfl
    ·rcases List.mem_cons.1 ha with rfl | ha
     ·exact hr
     ·exact h3 a ha
 exact key n cs hlen one
theorem int_of {W : World} {b : Nat} {v : Value} {z : Int} (hz : v.cells.toList = [.int .i64 z]) (h : Value.okWide Tryz.prog W .any b 3 v) : v = .int .i64 z := by
 simp only [Value.okWide, u3_] at h
 cases v <;> simp_all [Value.cells, Cell.okWide, Cell.ok]
theorem rd_account {H : Type} {enc : TypeId × Value → H} {W : World} {fuel : Nat} {held : Bool} {cs : List Value} {x : DataW H × List MemPlace} (h : DataW.trod enc Tryz.prog W 0 (fun _ => true) held fuel 26 cs = some x) :
  ∃ (F : List (Nat × List Value)) (us : List Int) (y : Value) (c : Bool) (b d s e kk0 kk1 kk2 kk3 kk4 kk5 kk6 kk7 mm0 mm1 mm2 mm3 mm4 mm5 mm6 mm7 : Int), AtRest W F ∧ DT.R F (.s (iD us) us.length 1) y ∧ cs = [.int .i64 b, .int .i64 d, .int .i64 s, .int .i64 e, .int .u8 kk0, .int .u8 kk1, .int .u8 kk2, .int .u8 kk3, .int .u8 kk4, .int .u8 kk5, .int .u8 kk6, .int .u8 kk7, .int .u8 mm0, .int .u8 mm1, .int .u8 mm2, .int .u8 mm3, .int .u8 mm4, .int .u8 mm5, .int .u8 mm6, .int .u8 mm7, .bool c, y] := by
 obtain ⟨hlen, m, fld⟩ := trod_fields v26 [(3, 0), (3, 1), (3, 2), (3, 3), (23, 4), (23, 12), (4, 20), (24, 21)] (by kernel_rfl) h
 rw [show Tryz.prog.cellsOf 26 = 22 by kernel_rfl] at hlen
 obtain ⟨c0, c1, c2, c3, c4, c5, c6, c7, c8, c9, c10, c11, c12, c13, c14, c15, c16, c17, c18, c19, c20, c21, rfl⟩ := len22 hlen
 have one : ∀ (i o : Nat) (z : Value), [(3, 0), (3, 1), (3, 2), (3, 3), (23, 4), (23, 12), (4, 20), (24, 21)][i]? = some ((3 : Nat), o) → ([c0, c1, c2, c3, c4, c5, c6, c7, c8, c9, c10, c11, c12, c13, c14, c15, c16, c17, c18, c19, c20, c21].drop o).take 1 = [z] → ∃ r : Int, z = .int .i64 r := by
  intro i o z hi hz
  obtain ⟨y, hy⟩ := fld i _ hi
  have hy : DataW.trod enc Tryz.prog W 0 (fun _ => true) held m 3 (([c0, c1, c2, c3, c4, c5, c6, c7, c8, c9, c10, c11, c12, c13, c14, c15, c16, c17, c18, c19, c20, c21].drop o).take (Tryz.prog.cellsOf 3)) = some y := hy
  rw [c3_, hz] at hy
  obtain ⟨r, hr, _⟩ := DataW.trod_int u3_ hy
  exact ⟨r, by simpa using hr⟩
 obtain ⟨b, rfl⟩ := one 0 0 c0 rfl rfl
 obtain ⟨d, rfl⟩ := one 1 1 c1 rfl rfl
 obtain ⟨s, rfl⟩ := one 2 2 c2 rfl rfl
 obtain ⟨e, rfl⟩ := one 3 3 c3 rfl rfl
 obtain ⟨y4, h4⟩ := fld 4 _ rfl
 obtain ⟨y5, h5⟩ := fld 5 _ rfl
 obtain ⟨y6, h6⟩ := fld 6 _ rfl
 obtain ⟨y7, h7⟩ := fld 7 _ rfl
 obtain ⟨lk, hk, ek, _⟩ := read_bytes (n := 8) u23_ u5_ (by kernel_rfl) (by kernel_rfl) h4
 obtain ⟨lm, hm, em, _⟩ := read_bytes (n := 8) u23_ u5_ (by kernel_rfl) (by kernel_rfl) h5
 obtain ⟨kk0, kk1, kk2, kk3, kk4, kk5, kk6, kk7, rfl⟩ := len8i hk
 obtain ⟨mm0, mm1, mm2, mm3, mm4, mm5, mm6, mm7, rfl⟩ := len8i hm
 have ek : [c4, c5, c6, c7, c8, c9, c10, c11] = [Value.int .u8 kk0, Value.int .u8 kk1, Value.int .u8 kk2, Value.int .u8 kk3, Value.int .u8 kk4, Value.int .u8 kk5, Value.int .u8 kk6, Value.int .u8 kk7] := ek
 have em : [c12, c13, c14, c15, c16, c17, c18, c19] = [Value.int .u8 mm0, Value.int .u8 mm1, Value.int .u8 mm2, Value.int .u8 mm3, Value.int .u8 mm4, Value.int .u8 mm5, Value.int .u8 mm6, Value.int .u8 mm7] := em
 simp only [List.cons.injEq, and_true] at ek em
 obtain ⟨rfl, rfl, rfl, rfl, rfl, rfl, rfl, rfl⟩ := ek
 obtain ⟨rfl, rfl, rfl, rfl, rfl, rfl, rfl, rfl⟩ := em
 obtain ⟨c, hc, _⟩ := DataW.trod_bool v4 h6
 have hc : [c20] = [Value.bool c] := hc
 obtain rfl := (List.cons.inj hc).1
 have h7 : DataW.trod enc Tryz.prog W 0 (fun _ => true) held m 24 [c21] = some y7 := h7
 have hsl : ∃ a len cap, [c21] = [Value.slice a len cap] := by
  rcases DataW.trod_slice v24 h7 with ⟨e, _⟩ | ⟨a, len, cap, _, _, _, _, e, _⟩
  ·exact ⟨_, _, _, e⟩
  ·exact ⟨_, _, _, e⟩
 obtain ⟨F, ds, g1, g2, _, us, _, _, rfl⟩ := rd_ints v24 u3_ c3_ hsl h7
 simp only [DT.Rl] at g2
 obtain ⟨y, rest, e', hy, _⟩ := g2
 have ey : c21 = y := (List.cons.inj e').1
 exact ⟨F, us, c21, c, b, d, s, e, kk0, kk1, kk2, kk3, kk4, kk5, kk6, kk7, mm0, mm1, mm2, mm3, mm4, mm5, mm6, mm7, g1, by rw [ey]; exact hy, rfl⟩
theorem accCore : AccCore := by
 intro H enc W v0 v1 d0 d1 p0 p1 hL h0 h1 ⟨base, w0, w1⟩
 obtain ⟨hsz, hG⟩ := met_tables hL
 obtain ⟨f0, h0⟩ := h0
 obtain ⟨f1, h1⟩ := h1
 obtain ⟨q0, rfl⟩ := agg_of v26 w0
 obtain ⟨z, hz, _⟩ := DataW.trod_int u3_ h1
 obtain rfl := int_of hz w1
 obtain ⟨F, us, y, c, b, d, s, e, kk0, kk1, kk2, kk3, kk4, kk5, kk6, kk7, mm0, mm1, mm2, mm3, mm4, mm5, mm6, mm7, hF, hR, e0⟩ := rd_account h0
 have hk := accRun envOk (kAw envOk) ⟨b, d, s, e, kk0, kk1, kk2, kk3, kk4, kk5, kk6, kk7, mm0, mm1, mm2, mm3, mm4, mm5, mm6, mm7⟩ us us.length c rfl z
 have hargs : All2 (VR (m0 F)) [accA ⟨b, d, s, e, kk0, kk1, kk2, kk3, kk4, kk5, kk6, kk7, mm0, mm1, mm2, mm3, mm4, mm5, mm6, mm7⟩ us us.length c, iI z] (#[.agg q0, .int .i64 z] : Array Value).toList := by
  refine ⟨⟨q0, rfl, ?_⟩, rfl, trivial⟩
  have e1 : q0.toList = [.int .i64 b, .int .i64 d, .int .i64 s, .int .i64 e, .int .u8 kk0, .int .u8 kk1, .int .u8 kk2, .int .u8 kk3, .int .u8 kk4, .int .u8 kk5, .int .u8 kk6, .int .u8 kk7, .int .u8 mm0, .int .u8 mm1, .int .u8 mm2, .int .u8 mm3, .int .u8 mm4, .int .u8 mm5, .int .u8 mm6, .int .u8 mm7, .bool c, y] := e0
  rw [e1]
  exact ⟨rfl, rfl, rfl, rfl, rfl, rfl, rfl, rfl, rfl, rfl, rfl, rfl, rfl, rfl, rfl, rfl, rfl, rfl, rfl, rfl, rfl, hR, trivial⟩
 exact (hk _ _ _ _ hargs (hr0 W hF) hG).mono fun e W' ⟨y, he, m', hp⟩ => ⟨by
  have hy : y = .bool true := hp.val
  rw [he, hy], hp.below⟩
theorem creditAccounts : Rows.CreditAccountsCardSaid := acc_card accCore
end Go.Proofs.YtmefachijohnhaaGreatDoor
end
