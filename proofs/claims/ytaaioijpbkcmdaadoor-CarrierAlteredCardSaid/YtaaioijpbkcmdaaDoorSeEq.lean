/-
  Whether two telegrams, two spans are equal.
-/
import Derived.Test.YtaaioijpbkcmdaaDoorSeLem
open Go Go.Ev Go.RowKit
open Extern.Stop (cell)
namespace Go.Proofs.YtaaioijpbkcmdaaDoor
set_option maxRecDepth 100000
noncomputable section

def icA (n : Int) : AC := .v (.int .i64 n)
theorem int_cells {m : M} : ∀ {l : List Value} {cs : List Value}, All2 (CR m) (l.map AC.v) cs → cs = l
  | [], [], _ => rfl
  | [], _ :: _, h => h.elim
  | _ :: _, [], h => h.elim
  | x :: l, c :: cs, h => by
    obtain ⟨h1, h2⟩ := h
    rw [int_cells h2, show c = x from h1]
/-- the cells of a telegram -/
def telV (s c d : Int) (ps : List UInt8) : List Value := .int .i64 s :: .int .i64 c :: .int .i64 d :: ps.map cell
def telC (s c d : Int) (ps : List UInt8) : List AC := icA s :: icA c :: icA d :: ps.map u8c
theorem telC_eq (s c d : Int) (ps : List UInt8) : telC s c d ps = (telV s c d ps).map AC.v := by
  simp [telC, telV, icA, u8c, cell]
section
variable (w : World)
theorem part_int (P : Program) {t : TypeId} {k : IntKind} (h : P.underlying t = some (.int k)) (xs : Array Value) (n : Nat) {v : Value} (hv : xs[n]? = some v) : (part t xs n).run P w = .ok v w := by
  simp [part, isAgg, run_underlying h, hv]
theorem part_arr (P : Program) {t e : TypeId} {k : Nat} {i : TypeInfo} (h : P.underlying t = some (.array k e)) (hi : P.info? t = some i) (xs : Array Value) (n : Nat) : (part t xs n).run P w = .ok (.agg (xs.extract n (n + i.size))) w := by
  simp [part, isAgg, run_underlying h, run_sizeOf hi]
end
theorem u3_ : Tryd.prog.underlying 3 = some (.int .i64) := by kernel_rfl
theorem u5_ : Tryd.prog.underlying 5 = some (.int .u8) := by kernel_rfl
theorem u120_ : Tryd.prog.underlying 32 = some (.array 16 5) := by kernel_rfl
theorem i120_ : (Tryd.prog.info? 32).map (·.size) = some 16 := by kernel_rfl
theorem i5_ : (Tryd.prog.info? 5).map (·.size) = some 1 := by kernel_rfl
theorem some_of {α β : Type} {o : Option α} {f : α → β} {b : β} (h : o.map f = some b) : ∃ a, o = some a ∧ f a = b := by
  cases o with
  | none => simp at h
  | some a => exact ⟨a, rfl, by simpa using h⟩
theorem z5_ (w : World) : (sizeOf 5).run Tryd.prog w = .ok 1 w := by
  obtain ⟨i, hi, hz⟩ := some_of i5_
  rw [run_sizeOf hi, hz]
theorem q3_ (w : World) (a b : Int) : (Op.equalIn 9999 3 (.int .i64 a) (.int .i64 b)).run Tryd.prog w = .ok (a == b) w := by
  rw [show (9999 : Nat) = 9998 + 1 from rfl]
  exact run_equalIn_int w 9998 3 .i64 .i64 a b u3_
theorem b120_ (w : World) (ps ps' : List UInt8) (hp : ps.length = 16) (hp' : ps'.length = 16) : (Op.equalIn 9999 32 (.agg (ps.map cell).toArray) (.agg (ps'.map cell).toArray)).run Tryd.prog w = .ok (ps == ps') w := by
  rw [show (9999 : Nat) = 9997 + 2 from rfl]
  exact run_equalIn_bytes w 9997 32 5 16 u120_ u5_ z5_ ps ps' hp hp'
theorem p120_ (w : World) (a b c : Int) (qs : List UInt8) (hqs : qs.length = 16) : (part 32 (telV a b c qs).toArray 3).run Tryd.prog w = .ok (.agg (qs.map cell).toArray) w := by
  obtain ⟨i120, hi120, hz120⟩ := some_of i120_
  rw [part_arr w _ u120_ hi120, hz120]
  simp [telV, hqs]
  rw [List.take_of_length_le (by simp [hqs])]
theorem eq_step (P : Program) (w : World) {d : Nat} {xs ys : Array Value} {f : Field} {fs : List Field} {t n : Nat} {a b : Value} {r : Bool} (h : f.name ≠ "_") (ht : f.type = t) (hn : f.offset = n) (h1 : (part t xs n).run P w = .ok a w) (h2 : (part t ys n).run P w = .ok b w) (h3 : (Op.equalIn d t a b).run P w = .ok r w) :
    (Op.eqFields d xs ys (f :: fs)).run P w = if r then (Op.eqFields d xs ys fs).run P w else .ok false w := by
  subst ht hn
  cases r <;> simp [Op.eqFields, h, h1, h2, h3]
theorem eq_nil (P : Program) (w : World) {d : Nat} {xs ys : Array Value} : (Op.eqFields d xs ys []).run P w = .ok true w := by simp [Op.eqFields]
theorem eqTelAt {t : TypeId} (hu : Tryd.prog.underlying t = some (.struct (Tryd.prog.fieldsOf t))) (hst : Tryd.prog.stoodInHeld t = false)
    (hfs : (Tryd.prog.fieldsOf t).toList.map (fun f => (f.name == "_", f.type, f.offset)) = [(false, 3, 0), (false, 3, 1), (false, 3, 2), (false, 32, 3)]) (s c d s' c' d' : Int) (ps ps' : List UInt8) (hp : ps.length = 16) (hp' : ps'.length = 16) :
    EqOk E t (telC s c d ps) (telC s' c' d' ps') (s == s' && c == c' && d == d' && ps == ps') := by
  intro m c1 c2 w h1 h2
  rw [telC_eq] at h1 h2
  have e1 : c1 = (telV s c d ps).toArray := by rw [← Array.toList_inj]; exact int_cells h1
  have e2 : c2 = (telV s' c' d' ps').toArray := by rw [← Array.toList_inj]; exact int_cells h2
  subst e1 e2
  show (Op.equalIn 10000 t _ _).run Tryd.prog w = _
  rw [show (10000 : Nat) = 9999 + 1 from rfl]
  rw [run_equalIn_struct w 9999 t _ _ hu hst]
  obtain ⟨f0, r0, hf0⟩ : ∃ f r, (Tryd.prog.fieldsOf t).toList = f :: r := by
    cases h : (Tryd.prog.fieldsOf t).toList with
    | nil => rw [h] at hfs; simp at hfs
    | cons f r => exact ⟨f, r, rfl⟩
  rw [hf0] at hfs ⊢
  simp only [List.map_cons, List.cons.injEq, Prod.mk.injEq] at hfs
  obtain ⟨⟨a1, a2, a3⟩, hfs⟩ := hfs
  obtain ⟨f1, r1, rfl⟩ : ∃ f r, r0 = f :: r := by cases r0 with
    | nil => simp at hfs
    | cons f r => exact ⟨f, r, rfl⟩
  simp only [List.map_cons, List.cons.injEq, Prod.mk.injEq] at hfs
  obtain ⟨⟨b1, b2, b3⟩, hfs⟩ := hfs
  obtain ⟨f2, r2, rfl⟩ : ∃ f r, r1 = f :: r := by cases r1 with
    | nil => simp at hfs
    | cons f r => exact ⟨f, r, rfl⟩
  simp only [List.map_cons, List.cons.injEq, Prod.mk.injEq] at hfs
  obtain ⟨⟨c1, c2, c3⟩, hfs⟩ := hfs
  obtain ⟨f3, r3, rfl⟩ : ∃ f r, r2 = f :: r := by cases r2 with
    | nil => simp at hfs
    | cons f r => exact ⟨f, r, rfl⟩
  simp only [List.map_cons, List.cons.injEq, Prod.mk.injEq, List.map_eq_nil_iff] at hfs
  obtain ⟨⟨d1, d2, d3⟩, rfl⟩ := hfs
  have n0 : f0.name ≠ "_" := by simpa using a1
  have n1 : f1.name ≠ "_" := by simpa using b1
  have n2 : f2.name ≠ "_" := by simpa using c1
  have n3 : f3.name ≠ "_" := by simpa using d1
  have i3 := u3_
  have g0 : ∀ (a b c : Int) (qs : List UInt8), (telV a b c qs).toArray[0]? = some (.int .i64 a) := fun a b c qs => by simp [telV]
  have g1 : ∀ (a b c : Int) (qs : List UInt8), (telV a b c qs).toArray[1]? = some (.int .i64 b) := fun a b c qs => by simp [telV]
  have g2 : ∀ (a b c : Int) (qs : List UInt8), (telV a b c qs).toArray[2]? = some (.int .i64 c) := fun a b c qs => by simp [telV]
  rw [eq_step Tryd.prog w n0 a2 a3 (part_int w Tryd.prog i3 _ 0 (g0 ..)) (part_int w Tryd.prog i3 _ 0 (g0 ..)) (q3_ w _ _),
    eq_step Tryd.prog w n1 b2 b3 (part_int w Tryd.prog i3 _ 1 (g1 ..)) (part_int w Tryd.prog i3 _ 1 (g1 ..)) (q3_ w _ _),
    eq_step Tryd.prog w n2 c2 c3 (part_int w Tryd.prog i3 _ 2 (g2 ..)) (part_int w Tryd.prog i3 _ 2 (g2 ..)) (q3_ w _ _),
    eq_step Tryd.prog w n3 d2 d3 (p120_ w _ _ _ _ hp) (p120_ w _ _ _ _ hp') (b120_ w ps ps' hp hp'), eq_nil]
  by_cases h1 : s = s' <;> by_cases h2 : c = c' <;> by_cases h3 : d = d' <;> by_cases h4 : ps = ps' <;> simp [h1, h2, h3, h4]
theorem eqTel128 (s c d s' c' d' : Int) (ps ps' : List UInt8) (hp : ps.length = 16) (hp' : ps'.length = 16) : EqOk E 40 (telC s c d ps) (telC s' c' d' ps') (s == s' && c == c' && d == d' && ps == ps') :=
  eqTelAt (by kernel_rfl) (by kernel_rfl) (by kernel_rfl) s c d s' c' d' ps ps' hp hp'
end
end Go.Proofs.YtaaioijpbkcmdaaDoor
