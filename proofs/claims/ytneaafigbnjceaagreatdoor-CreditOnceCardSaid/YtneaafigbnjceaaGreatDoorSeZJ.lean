/-
  Part of the proof: SeRow.
-/
import Derived.Test.YtneaafigbnjceaaGreatDoorSeZI

/-! SeRow -/
section
open Go Go.Ev
namespace Go.Proofs.YtneaafigbnjceaaGreatDoor
noncomputable section
theorem row_get {α β : Type} {f : α → List β} {k : Nat} (hf : ∀ x, (f x).length = k) : ∀ {l : List α} {i : Nat} {x : α}, l[i]? = some x → ((l.flatMap f).drop (i * k)).take k = f x ∧ i * k + k ≤ (l.flatMap f).length
 | [], _, _, h => by simp at h
 | a :: l, 0, x, h => by
  obtain rfl : a = x := by simpa using h
  rw [Nat.zero_mul, List.drop_zero, List.flatMap_cons, List.take_append_of_le_length (Nat.le_of_eq (hf _).symm), List.take_of_length_le (Nat.le_of_eq (hf _))]
  refine ⟨rfl, ?_⟩
  rw [List.length_append, hf]; omega
 | a :: l, i + 1, x, h => by
  obtain ⟨h1, h2⟩ := row_get hf (l := l) (i := i) (x := x) (by simpa using h)
  rw [List.flatMap_cons, Nat.succ_mul, List.drop_append, List.drop_eq_nil_of_le (by rw [hf]; omega), hf, show i * k + k - k = i * k by omega, List.nil_append]
  refine ⟨h1, ?_⟩
  rw [List.length_append, hf]; omega
section
variable {α : Type} {f : α → List DT} {k : Nat}
theorem rows_get (hf : ∀ x, (f x).length = k) {l : List α} {i : Nat} {x : α} (h : l[i]? = some x) : takeL (dropL (l.flatMap f) (i.mul k)) k = some (f x) := by
 obtain ⟨h1, h2⟩ := row_get hf h
 rw [takeL_eq, dropL_eq, if_pos (by rw [List.length_drop]; show k ≤ _ - i * k; omega)]
 exact congrArg some h1
theorem rows_part (hf : ∀ x, (f x).length = k) {l : List α} {i : Nat} {x : α} (h : l[i]? = some x) {o : Nat} {d : DT} (hd : (f x)[o]? = some d) : getL (l.flatMap f) (i.mul k + o) = some d := by
 obtain ⟨h1, h2⟩ := row_get hf h
 have ho : o < k := by
  have := (List.getElem?_eq_some_iff.1 hd).1
  rwa [hf] at this
 rw [← h1, List.getElem?_take, if_pos ho, List.getElem?_drop] at hd
 rw [getL_eq]; exact hd
end
theorem cOut_nilA {f : FuncId} {rest : List AV} {v : AV} {ho : Heap} (sz : Nat) (hc : COut E 0 [] f (.e (.one (.dp (.s [] 0 sz))) :: rest) v ho) : COut E 0 [] f (.e (.one (.v (.slice none 0 0))) :: rest) v ho := by
 intro M base w argsC ha H G
 refine hc M base w argsC ?_ H G
 generalize argsC.toList = l at ha
 match l, ha with
 | y :: r, ⟨hy, hr⟩ =>
  refine ⟨?_, hr⟩
  have hy : y = .slice none 0 0 := hy
  subst hy
  show DT.R M.F (.s [] 0 sz) _
  simp only [DT.R]
  exact .inl ⟨trivial, none, 0, rfl⟩
theorem nil_dp (m : M) (sz : Nat) {y : Value} {p : Option Addr} {c : Nat} (h : y = .slice p 0 c) : CR m (.dp (.s [] 0 sz)) y := by
 subst h
 show DT.R m.F (.s [] 0 sz) _
 simp only [DT.R]
 exact .inl ⟨trivial, p, c, rfl⟩
theorem all2_wk {α β : Type} {R S : α → β → Prop} : ∀ {l l' : List α}, All2 (fun a a' => ∀ y, R a y → S a' y) l l' → ∀ {ys : List β}, All2 R l ys → All2 S l' ys
 | [], [], _, [], _ => trivial
 | _ :: _, _ :: _, ⟨h, t⟩, _ :: _, ⟨a, b⟩ => ⟨h _ a, all2_wk t b⟩
 | [], _ :: _, h, _, _ => h.elim
 | _ :: _, [], h, _, _ => h.elim
 | _ :: _, _ :: _, _, [], h => h.elim
 | [], [], _, _ :: _, h => h.elim
theorem tup_wk {f : FuncId} {args : List AV} {l l' : List AE} {h : Heap} (hc : COut E 0 [] f args (.tup l) h) (hw : ∀ m : M, All2 (fun a a' => ∀ y, ER m a y → ER m a' y) l l') : COut E 0 [] f args (.tup l') h :=
 cOut_weak hc fun m _ ⟨cs, hy, ha⟩ => ⟨cs, hy, all2_wk (hw m) ha⟩
theorem wkNc (m : M) (sz : Nat) : ∀ y, CR m (.v (.slice none 0 0)) y → CR m (.dp (.s [] 0 sz)) y := fun _ h => nil_dp m sz h
theorem wkA (m : M) {l l' : List AC} (hw : All2 (fun a a' => ∀ y, CR m a y → CR m a' y) l l') : ∀ y, ER m (.agg l) y → ER m (.agg l') y := fun _ ⟨cs, hy, ha⟩ => ⟨cs, hy, all2_wk hw ha⟩
end
end Go.Proofs.YtneaafigbnjceaaGreatDoor
end
