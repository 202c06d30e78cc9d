/-
  Words of floats in open runs.
-/
import Derived.Test.YtgplabfjldndgaaGreatDoorSeLem
import Derived.Test.YtgplabfjldndgaaGreatDoorSyRd
import Derived.Test.YtgplabfjldndgaaGreatDoorFlC
import Derived.Laws.Externs
import Derived.Laws.Bits64
open Go Go.Ev
namespace Go.Proofs.YtgplabfjldndgaaGreatDoor
noncomputable section
abbrev fC (b : Nat) : AC := .v (.float .f32 b)
abbrev dC (b : Nat) : AC := .v (.float .f64 b)
def nanP (k : FloatKind) (y : Value) : Prop := ∃ b, y = .float k b ∧ (k.format.read b).isNaN = true
def nanD : AC := .any (nanP .f64)

theorem cr_nan {m : M} {b : Nat} (h : (Ieee.double.read b).isNaN = true) : CR m nanD (.float .f64 b) := ⟨⟨b, rfl, h⟩, rfl, fun _ h => by cases h⟩
theorem nan_of {m : M} {p : Value} (h : CR m nanD p) : ∃ b, p = .float .f64 b ∧ (Ieee.double.read b).isNaN = true := h.1
theorem isNaN_order {f : Ieee.Format} {x y : Nat} (h : (f.read x).isNaN = true) : f.order x y = none := by
  unfold Ieee.Format.order
  cases hx : f.read x <;> rw [hx] at h <;> simp [Ieee.Datum.isNaN] at h
  simp [Ieee.Datum.order]
theorem isNaN_product {d e : Ieee.Datum} (h : e.isNaN = true) : d.product e = none := by
  cases e <;> simp [Ieee.Datum.isNaN] at h
  cases d <;> simp [Ieee.Datum.product]

/-- what the tape may say of a NaN -/
theorem chosen_nan (t : Nat) : (Ieee.double.read ((t % 2) * 2 ^ 63 + 0x7ff0000000000000 + 1 + (t / 2) % (2 ^ 52 - 1))).isNaN = true := by
  have h1 : t % 2 < 2 := Nat.mod_lt _ (by omega)
  have h2 : t / 2 % (2 ^ 52 - 1) < 2 ^ 52 - 1 := Nat.mod_lt _ (by omega)
  generalize t / 2 % (2 ^ 52 - 1) = q at h2
  generalize t % 2 = s at h1
  have e1 : Ieee.double.signWeight = 9223372036854775808 := by decide
  have e2 : Ieee.double.binade = 4503599627370496 := by decide
  have e3 : Ieee.double.infRung = 9218868437227405312 := by decide
  have hm : (s * 2 ^ 63 + 0x7ff0000000000000 + 1 + q) % Ieee.double.signWeight = 9218868437227405313 + q := by rw [e1]; omega
  unfold Ieee.Format.read
  rw [hm, e2, e3]
  simp only
  rw [if_neg (by omega), if_neg (by omega), if_neg (by omega)]
  rfl
theorem run_choose {P : Program} {q : Question} {w : World} (hq : q.forced = false) : (choose q).run P w = .ok (q.cut (w.tape w.drawn q)) { w with drawn := w.drawn + 1 } := by
  simp [choose, Sem.run, hq]

/-- a conversion to float64 -/
theorem run_conv64 {P : Program} {s d : TypeId} (hs : P.underlying s = some (.float .f32)) (hd : P.underlying d = some (.float .f64)) (b : Nat) (w : World) : (convert s d (.float .f32 b)).run P w = (Conv.floatToFloat .f32 b .f64).run P w := by
  simp only [convert, Sem.run_bind, run_underlying hs, run_underlying hd, Result.andThen_ok]
theorem conv_nan {P : Program} {s d : TypeId} (hs : P.underlying s = some (.float .f32)) (hd : P.underlying d = some (.float .f64)) {b : Nat} (h : (Ieee.single.read b).isNaN = true) : ConvOk P s d (fC b) nanD := by
  intro m p w hp
  obtain rfl : p = .float .f32 b := hp
  refine ⟨_, w.drawn + 1, ?_, cr_nan (chosen_nan (w.tape w.drawn (.nanConv .f64 b)))⟩
  rw [run_conv64 hs hd]
  unfold Conv.floatToFloat
  rw [if_neg (by decide)]
  have hx : ∃ u t, FloatKind.f32.decode b = .nan u t := by
    show ∃ u t, Ieee.single.read b = .nan u t
    cases hx : Ieee.single.read b <;> rw [hx] at h <;> simp [Ieee.Datum.isNaN] at h
    exact ⟨_, _, rfl⟩
  obtain ⟨u, t, hx⟩ := hx
  rw [hx]
  simp only [Sem.run_bind, run_choose (q := .nanConv .f64 b) rfl, Result.andThen_ok]
  rfl
theorem conv_inf {P : Program} {s d : TypeId} (hs : P.underlying s = some (.float .f32)) (hd : P.underlying d = some (.float .f64)) {b : Nat} {u : Bool} (h : Ieee.single.read b = .infinity u) : ConvOk P s d (fC b) (dC (Ieee.double.word u Ieee.double.infRung)) := by
  intro m p w hp
  obtain rfl : p = .float .f32 b := hp
  refine ⟨_, w.drawn, ?_, rfl⟩
  rw [run_conv64 hs hd]
  unfold Conv.floatToFloat
  rw [if_neg (by decide), show FloatKind.f32.decode b = .infinity u from h]
  rfl
/-! Products with 16. -/
theorem c16_double : Ieee.double.read 4625196817309499392 = .number false (2 ^ Ieee.double.fractionBits) (4 - Ieee.double.fractionBits) := by decide
theorem c16_single : Ieee.single.read 1098907648 = .number false (2 ^ Ieee.single.fractionBits) (4 - Ieee.single.fractionBits) := by decide
theorem run_mul {P : Program} {t : TypeId} {x z : Operand} {k : FloatKind} {a b : Nat} (w : World) : (do eqGuard .mul t x z (.float k a) (.float k b); binOp .mul t (.float k a) (.float k b) : Sem Value).run P w = (Op.floatArith .mul k a b).run P w := by
  simp [eqGuard, binOp]
theorem mul_nan {P : Program} {t : TypeId} {x z : Operand} {a : Nat} : BinOk P .mul t x z (dC a) nanD nanD := by
  intro m p q w hp hq
  obtain rfl : p = .float .f64 a := hp
  obtain ⟨b, rfl, h⟩ := nan_of hq
  refine ⟨_, w.drawn + 1, ?_, cr_nan (chosen_nan (w.tape w.drawn (.nanBits .f64 a b)))⟩
  rw [run_mul]
  have h1 : FloatKind.f64.format.mul a b = none := by
    show Ieee.Format.mul Ieee.double a b = none
    unfold Ieee.Format.mul
    rw [isNaN_product h]
    rfl
  simp only [Op.floatArith, pure_bind, h1]
  simp only [Sem.run_bind, run_choose (q := .nanBits .f64 a b) rfl, Result.andThen_ok]
  rfl
theorem mul_ok {P : Program} {t : TypeId} {x z : Operand} {k : FloatKind} {a b r : Nat} (h : k.format.mul a b = some r) : BinOk P .mul t x z (.v (.float k a)) (.v (.float k b)) (.v (.float k r)) := by
  intro m p q w hp hq
  obtain rfl : p = .float k a := hp
  obtain rfl : q = .float k b := hq
  refine ⟨_, w.drawn, ?_, rfl⟩
  rw [run_mul]
  simp only [Op.floatArith, pure_bind, h]
  rfl
theorem quo_ok {P : Program} {t : TypeId} {x z : Operand} {k : FloatKind} {a b r : Nat} (h : k.format.div a b = some r) : BinOk P .quo t x z (.v (.float k a)) (.v (.float k b)) (.v (.float k r)) := by
  intro m p q w hp hq
  obtain rfl : p = .float k a := hp
  obtain rfl : q = .float k b := hq
  refine ⟨_, w.drawn, ?_, rfl⟩
  have : (do eqGuard .quo t x z (.float k a) (.float k b); binOp .quo t (.float k a) (.float k b) : Sem Value).run P w = (Op.floatArith .quo k a b).run P w := by simp [eqGuard, binOp]
  rw [this]
  simp only [Op.floatArith, pure_bind, h]
  rfl
theorem neq_nan {P : Program} {t : TypeId} {x z : Operand} : BinOk P .neq t x z nanD nanD (.v (.bool true)) := by
  intro m p q w hp hq
  obtain ⟨a, rfl, h⟩ := nan_of hp
  obtain ⟨b, rfl, _⟩ := nan_of hq
  refine ⟨_, w.drawn, ?_, rfl⟩
  have ho : FloatKind.f64.format.order a b = none := isNaN_order (f := Ieee.double) h
  simp [eqGuard, binOp, Op.floatCmp, ho]
theorem andNot_ok {P : Program} {t : TypeId} {x z : Operand} {r : Nat} (h : r < 2 ^ 64) : BinOk P .andNot t x z (.v (.int .u64 r)) (.v (.int .u64 9223372036854775808)) (.v (.int .u64 (Int.ofNat (r % 2 ^ 63)))) := by
  intro m p q w hp hq
  obtain rfl : p = .int .u64 r := hp
  obtain rfl : q = .int .u64 9223372036854775808 := hq
  refine ⟨_, w.drawn, ?_, rfl⟩
  have e1 : (do eqGuard .andNot t x z (.int .u64 r) (.int .u64 9223372036854775808); binOp .andNot t (.int .u64 r) (.int .u64 9223372036854775808) : Sem Value) = Op.intBits .andNot .u64 r 9223372036854775808 := by simp [eqGuard, binOp]
  have e2 : (BitVec.ofInt 64 (r : Int) &&& ~~~ BitVec.ofInt 64 9223372036854775808).toNat = r % 2 ^ 63 := by
    have h2 : ~~~ BitVec.ofInt 64 9223372036854775808 = BitVec.ofNat 64 (2 ^ 63 - 1) := by decide
    have h3 : 2 ^ 63 - 1 < (2 : Nat) ^ 64 := by decide
    rw [h2, BitVec.toNat_and, BitVec.ofInt_natCast, BitVec.toNat_ofNat, BitVec.toNat_ofNat, Nat.mod_eq_of_lt h, Nat.mod_eq_of_lt h3]
    exact Nat.and_two_pow_sub_one_eq_mod r 63
  rw [e1]
  show Result.ok (Value.int .u64 (IntKind.wrap .u64 ((BitVec.ofInt 64 (r : Int) &&& ~~~ BitVec.ofInt 64 9223372036854775808).toNat : Int))) w = _
  rw [e2]
  have h4 : r % 2 ^ 63 < 2 ^ 63 := Nat.mod_lt _ (by decide)
  have e3 : IntKind.wrap .u64 ((r % 2 ^ 63 : Nat) : Int) = ((r % 2 ^ 63 : Nat) : Int) := by
    rw [IntKind.wrap_u64]
    omega
  rw [e3]
  rfl
/-- an integer as a float -/
theorem conv_int {P : Program} {s d : TypeId} {k : FloatKind} {j : IntKind} (hs : P.underlying s = some (.int j)) (hd : P.underlying d = some (.float k)) (n : Int) : ConvOk P s d (.v (.int j n)) (.v (.float k (k.nearest n))) := by
  intro m p w hp
  obtain rfl : p = .int j n := hp
  refine ⟨_, w.drawn, ?_, rfl⟩
  simp only [convert, Sem.run_bind, run_underlying hs, run_underlying hd, Result.andThen_ok]
  rfl
/-- a float as an integer -/
theorem conv_toInt {P : Program} {s d : TypeId} {k : FloatKind} (hs : P.underlying s = some (.float k)) (hd : P.underlying d = some (.int .i64)) {b : Nat} {n : Int} (h : (k.format.read b).toInt .zero = some n) (h0 : -9223372036854775808 ≤ n) (h1 : n ≤ 9223372036854775807) : ConvOk P s d (.v (.float k b)) (.v (.int .i64 n)) := by
  intro m p w hp
  obtain rfl : p = .float k b := hp
  refine ⟨_, w.drawn, ?_, rfl⟩
  simp only [convert, Sem.run_bind, run_underlying hs, run_underlying hd, Result.andThen_ok, Conv.floatToInt]
  rw [show (k.decode b).toInt .zero = some n from h]
  simp only
  rw [if_pos ⟨h0, h1⟩]
  rfl

/-! math.archTrunc -/
theorem ext_trunc (ps : Array Value) (w : World) : (callFunc 170 ps).run E.P w = ((Extern.MathFloor.toIntegral "math.archTrunc" .zero ps).run E.P w).andThen fun v w' => .ok (.value v) w' :=
  run_callFunc_extern Tryz.func170 (by kernel_rfl) (by kernel_rfl) (by kernel_rfl) (e := Extern.MathFloor.toIntegral "math.archTrunc" .zero) (by kernel_rfl) ps w
theorem toIntegral_eq (n : String) (way : Ieee.Toward) (b : Nat) : Extern.MathFloor.toIntegral n way #[.float .f64 b] = (match FloatKind.f64.decode b with
    | .nan s t =>
      if FloatKind.f64.format.quiet t = t then pure (.float .f64 b) else do
      let kept ← choose (.extern "math.Floor,Ceil,Trunc,RoundToEven.signallingNaN kept" 2)
      pure (.float .f64 (if kept == 1 then b else FloatKind.f64.encode (.nan s (FloatKind.f64.format.quiet t))))
    | d => pure (.float .f64 (FloatKind.f64.encode (d.integral way)))) := rfl
theorem args_one {m : M} {x : AC} {ps : Array Value} (h : All2 (VR m) [.e (.one x)] ps.toList) : ∃ y, ps = #[y] ∧ CR m x y := by
  obtain ⟨l⟩ := ps
  match l, h with
  | [y], h => exact ⟨y, rfl, h.1⟩
theorem quiet_nan {b : Nat} {u : Bool} {t : Nat} (h : Ieee.double.read b = .nan u t) : (Ieee.double.read (Ieee.double.write (.nan u (Ieee.double.quiet t)))).isNaN = true := by
  have hb : t < 2 ^ 52 := by
    unfold Ieee.Format.read at h
    simp only at h
    split at h
    · simp at h
    · split at h
      · simp at h
      · split at h
        · simp at h
        · simp only [Ieee.Datum.nan.injEq] at h
          have e1 : Ieee.double.signWeight = 9223372036854775808 := by decide
          have e3 : Ieee.double.infRung = 9218868437227405312 := by decide
          have := Nat.mod_lt b (show 0 < Ieee.double.signWeight by rw [e1]; omega)
          rw [e1] at this h
          rw [e3] at h
          omega
  have hq : Ieee.double.quiet t < 2 ^ 52 := Nat.or_lt_two_pow hb (by decide)
  have hq0 : 2 ^ 51 ≤ Ieee.double.quiet t := Nat.right_le_or
  show (Ieee.double.read (Ieee.double.word u (Ieee.double.infRung + Ieee.double.quiet t % Ieee.double.binade))).isNaN = true
  have e1 : Ieee.double.signWeight = 9223372036854775808 := by decide
  have e2 : Ieee.double.binade = 4503599627370496 := by decide
  have e3 : Ieee.double.infRung = 9218868437227405312 := by decide
  generalize Ieee.double.quiet t = q at hq hq0
  rw [e2, Nat.mod_eq_of_lt (by omega), Ieee.Format.read_word _ _ (by rw [e1, e3]; omega), e2, e3, if_neg (by omega), if_neg (by omega), if_neg (by omega)]
  rfl
theorem trunc_nan : ExtOk E.P 170 [.e (.one nanD)] nanD := by
  intro m ps w h
  obtain ⟨y, rfl, hy⟩ := args_one h
  obtain ⟨b, rfl, hb⟩ := nan_of hy
  have hx : ∃ u t, FloatKind.f64.decode b = .nan u t := by
    show ∃ u t, Ieee.double.read b = .nan u t
    cases hx : Ieee.double.read b <;> rw [hx] at hb <;> simp [Ieee.Datum.isNaN] at hb
    exact ⟨_, _, rfl⟩
  obtain ⟨u, t, hx⟩ := hx
  rw [ext_trunc, toIntegral_eq, hx]
  simp only
  by_cases hq : FloatKind.f64.format.quiet t = t
  · rw [if_pos hq]
    exact ⟨_, w.drawn, rfl, cr_nan hb⟩
  · rw [if_neg hq]
    simp only [Sem.run_bind, run_choose (q := .extern "math.Floor,Ceil,Trunc,RoundToEven.signallingNaN kept" 2) rfl, Result.andThen_ok]
    refine ⟨_, w.drawn + 1, rfl, ?_⟩
    split
    · exact cr_nan hb
    · exact cr_nan (quiet_nan hx)
theorem trunc_ok {b : Nat} (h : (Ieee.double.read b).isNaN = false) : ExtOk E.P 170 [.e (.one (dC b))] (dC (Ieee.double.write ((Ieee.double.read b).integral .zero))) := by
  intro m ps w hp
  obtain ⟨y, rfl, hy⟩ := args_one hp
  obtain rfl : y = .float .f64 b := hy
  rw [ext_trunc, toIntegral_eq, show FloatKind.f64.decode b = Ieee.double.read b from rfl]
  refine ⟨_, w.drawn, ?_, rfl⟩
  cases hd : Ieee.double.read b with
  | nan u t => rw [hd] at h; simp [Ieee.Datum.isNaN] at h
  | infinity u => rfl
  | number u g e => rfl
end
end Go.Proofs.YtgplabfjldndgaaGreatDoor
