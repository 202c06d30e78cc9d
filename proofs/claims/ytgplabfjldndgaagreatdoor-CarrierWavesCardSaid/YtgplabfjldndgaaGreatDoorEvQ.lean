/-
  Regions in which two operations come in either order: each order is a region of its own.
-/
import Derived.Test.YtgplabfjldndgaaGreatDoorEvP
namespace Go.Ev
open Go.RowKit
noncomputable section

/-- at which place a number stands -/
def posL (l : List Nat) (j : Nat) : Nat := List.rec (motive := fun _ => Nat) 0 (fun a _ ih => if Nat.beq a j then 0 else Nat.succ ih) l
def virtEdges (π : List Nat) (X : List (Nat × Nat)) (j : Nat) (es : List Edge) : List Edge :=
  (es.filter bindsB).map (fun e => Edge.mk (posL π e.on) .data) ++ (X.filter fun p : Nat × Nat => Nat.beq p.2 j).map fun p : Nat × Nat => Edge.mk (posL π p.1) .data
/-- a region's operations in the order of a list, with edges more; nothing of it is guarded -/
def virtOps (π : List Nat) (X : List (Nat × Nat)) (ops : Array Oper) : Array Oper :=
  (π.map fun j => match ops[j]? with
    | some o => { o with after := (virtEdges π X j o.after.toList).toArray, guard := none }
    | none => { dst := none, op := .move (.const undef), type := 0, pos := "", after := #[], guard := none }).toArray

/-- all of it is listed once, nothing is guarded, edges lead back -/
def okVirt (π : List Nat) (ops : Array Oper) : Bool :=
  Nat.beq (lenL π) (lenL ops.toList) && (List.range (lenL π)).all (fun k => Nat.beq (posL π (getD0 π k)) k && Nat.blt (getD0 π k) (lenL π)) && (List.range (lenL π)).all (fun j => Nat.beq (getD0 π (posL π j)) j && Nat.blt (posL π j) (lenL π)) &&
    (List.range (lenL π)).all (fun i => match ops[i]? with
      | some o => (match o.guard with | none => true | some _ => false) && o.after.toList.all fun e => !bindsB e || Nat.blt e.on i
      | none => false)

structure VirtOk (π : List Nat) (ops : Array Oper) : Prop where
  len : π.length = ops.size
  back : ∀ k, k < ops.size → posL π (getD0 π k) = k ∧ getD0 π k < ops.size
  forth : ∀ j, j < ops.size → getD0 π (posL π j) = j ∧ posL π j < ops.size
  free : ∀ (i : Nat) (o : Oper), ops[i]? = some o → o.guard = none ∧ ∀ e ∈ o.after, bindsB e = true → e.on < i

theorem okVirt_spec {π : List Nat} {ops : Array Oper} (h : okVirt π ops = true) : VirtOk π ops := by
  simp only [okVirt, Bool.and_eq_true, List.all_eq_true, lenL_eq] at h
  obtain ⟨⟨⟨h1, h2⟩, h3⟩, h4⟩ := h
  have h1 := Nat.eq_of_beq_eq_true h1
  have hl : π.length = ops.size := by simpa using h1
  rw [hl] at h2 h3 h4
  refine ⟨hl, fun k hk => ?_, fun j hj => ?_, fun i o ho => ?_⟩
  · obtain ⟨a, b⟩ := h2 k (List.mem_range.2 hk)
    exact ⟨Nat.eq_of_beq_eq_true a, by simpa [Nat.blt_eq] using b⟩
  · obtain ⟨a, b⟩ := h3 j (List.mem_range.2 hj)
    exact ⟨Nat.eq_of_beq_eq_true a, by simpa [Nat.blt_eq] using b⟩
  · have hi := (Array.getElem?_eq_some_iff.1 ho).1
    have := h4 i (List.mem_range.2 hi)
    rw [ho] at this
    simp only [Bool.and_eq_true, List.all_eq_true, Bool.or_eq_true, Bool.not_eq_true', Nat.blt_eq] at this
    obtain ⟨a, b⟩ := this
    refine ⟨?_, fun e he hb => ?_⟩
    · split at a
      · assumption
      · simp at a
    · rcases b e (by simpa using he) with h | h
      · rw [hb] at h; simp at h
      · exact h

theorem getD0_get {π : List Nat} {k : Nat} (h : k < π.length) : π[k]? = some (getD0 π k) := by
  rw [getD0_eq, List.getD_eq_getElem?_getD, List.getElem?_eq_getElem h]; rfl

theorem virt_get {π : List Nat} {X : List (Nat × Nat)} {ops : Array Oper} (hv : VirtOk π ops) {k : Nat} {o : Oper} (ho : (virtOps π X ops)[k]? = some o) : ∃ o0, k < ops.size ∧ ops[getD0 π k]? = some o0 ∧
    o = { o0 with after := (virtEdges π X (getD0 π k) o0.after.toList).toArray, guard := none } := by
  have hk : k < π.length := by
    have := (Array.getElem?_eq_some_iff.1 ho).1
    simpa [virtOps] using this
  have hk' : k < ops.size := by rw [← hv.len]; exact hk
  obtain ⟨_, hlt⟩ := hv.back k hk'
  refine ⟨ops[getD0 π k], hk', Array.getElem?_eq_getElem hlt, ?_⟩
  simp only [virtOps, List.getElem?_toArray, List.getElem?_map, getD0_get hk, Option.map_some, Array.getElem?_eq_getElem hlt, Option.some.injEq] at ho
  exact ho.symm

theorem virt_virt {π : List Nat} {X : List (Nat × Nat)} {ops : Array Oper} (hv : VirtOk π ops) : Virt (virtOps π X ops) ops (getD0 π) := fun k o ho => by
  obtain ⟨o0, _, h1, rfl⟩ := virt_get hv ho
  refine ⟨o0.after, o0.guard, h1, fun t => ?_⟩
  have hg := (hv.free _ o0 h1).1
  simp [Region.wanted, hg]

/-- the order keeps to edges more -/
def RespL (X : List (Nat × Nat)) : Array Bool → List Nat → Prop
  | _, [] => True
  | listed, j :: l => (∀ p ∈ X, p.2 = j → listed.getD p.1 false = true) ∧ RespL X (listed.setIfInBounds j true) l

theorem resp_done {a b : Nat} : ∀ (l : List Nat) (listed : Array Bool), listed.getD a false = true → RespL [(a, b)] listed l
  | [], _, _ => trivial
  | j :: l, listed, h => ⟨fun p hp _ => by rw [List.mem_singleton.1 hp]; exact h, resp_done l _ (by
      by_cases hj : j < listed.size
      · exact (set_listed hj).2 (.inr h)
      · rw [Array.setIfInBounds_eq_of_size_le (by omega)]; exact h)⟩

theorem resp_either {ops : Array Oper} {a b : Nat} (hab : a ≠ b) : ∀ (l : List Nat) (listed : Array Bool), listed.size = ops.size → ValidL ops listed l → RespL [(a, b)] listed l ∨ RespL [(b, a)] listed l
  | [], _, _, _ => .inl trivial
  | j :: l, listed, hs, hv => by
    have hj : j < listed.size := by
      obtain ⟨_, o, h2, _⟩ := mem_ready.1 hv.1
      rw [hs]; exact (Array.getElem?_eq_some_iff.1 h2).1
    by_cases h1 : j = a
    · subst h1
      exact .inl ⟨fun p hp he => by rw [List.mem_singleton.1 hp] at he; exact absurd he.symm hab, resp_done l _ ((set_listed hj).2 (.inl rfl))⟩
    · by_cases h2 : j = b
      · subst h2
        exact .inr ⟨fun p hp he => by rw [List.mem_singleton.1 hp] at he; exact absurd he hab, resp_done l _ ((set_listed hj).2 (.inl rfl))⟩
      · rcases resp_either hab l (listed.setIfInBounds j true) (by simpa using hs) hv.2 with h | h
        · exact .inl ⟨fun p hp he => by rw [List.mem_singleton.1 hp] at he; exact absurd he.symm h2, h⟩
        · exact .inr ⟨fun p hp he => by rw [List.mem_singleton.1 hp] at he; exact absurd he.symm h1, h⟩

theorem resp_cons {p : Nat × Nat} {X : List (Nat × Nat)} : ∀ (l : List Nat) (listed : Array Bool), RespL [p] listed l → RespL X listed l → RespL (p :: X) listed l
  | [], _, _, _ => trivial
  | _ :: l, _, h1, h2 => ⟨fun q hq he => by
      rcases List.mem_cons.1 hq with rfl | hq
      · exact h1.1 q (List.mem_singleton.2 rfl) he
      · exact h2.1 q hq he, resp_cons l _ h1.2 h2.2⟩
theorem resp_nil : ∀ (l : List Nat) (listed : Array Bool), RespL [] listed l
  | [], _ => trivial
  | _ :: l, _ => ⟨fun _ hq => by simp at hq, resp_nil l _⟩

theorem ready_nil_all {ops : Array Oper} (hfree : ∀ (i : Nat) (o : Oper), ops[i]? = some o → ∀ e ∈ o.after, bindsB e = true → e.on < i) {listed : Array Bool} (hs : listed.size = ops.size) (h : Region.ready .any ops listed = []) : ∀ i, i < ops.size → listed.getD i false = true := by
  intro i
  induction i using Nat.strongRecOn with
  | _ i ih =>
    intro hi
    cases hl : listed.getD i false with
    | true => rfl
    | false =>
      exfalso
      have hl' : listed.getD i true = false := by
        have hb : i < listed.size := by omega
        simp [hb] at hl ⊢
        exact hl
      have : i ∈ Region.ready .any ops listed := mem_ready.2 ⟨hl', ops[i], Array.getElem?_eq_getElem hi, fun e he hb => by
        rw [binds_any] at hb
        have hlt := hfree i ops[i] (Array.getElem?_eq_getElem hi) e he hb
        exact ih e.on hlt (by omega)⟩
      rw [h] at this
      simp at this

theorem valid_virt {π : List Nat} {X : List (Nat × Nat)} {ops : Array Oper} (hv : VirtOk π ops) (hX : ∀ p ∈ X, p.1 < ops.size) : ∀ (l : List Nat) (l0 l1 : Array Bool), l0.size = ops.size → l1.size = ops.size → (∀ j, j < ops.size → l1.getD (posL π j) false = l0.getD j false) →
    ValidL ops l0 l → RespL X l0 l → ∃ l', l = l'.map (getD0 π) ∧ ValidL (virtOps π X ops) l1 l'
  | [], l0, l1, hs0, hs1, he, hl, _ => by
    refine ⟨[], rfl, ?_⟩
    have hall := ready_nil_all (fun i o ho => (hv.free i o ho).2) hs0 hl
    apply List.eq_nil_iff_forall_not_mem.2
    intro k hk
    obtain ⟨h1, o, h2, _⟩ := mem_ready.1 hk
    obtain ⟨_, hk', _, _⟩ := virt_get hv h2
    obtain ⟨b1, b2⟩ := hv.back k hk'
    have := he _ b2
    rw [b1, hall _ b2] at this
    have hb : k < l1.size := by omega
    simp [hb] at h1 this
    rw [h1] at this
    simp at this
  | j :: l, l0, l1, hs0, hs1, he, hl, hr => by
    obtain ⟨hm, hl⟩ := hl
    obtain ⟨hr1, hr⟩ := hr
    obtain ⟨h1, o, h2, h3⟩ := mem_ready.1 hm
    have hj := (Array.getElem?_eq_some_iff.1 h2).1
    obtain ⟨f1, f2⟩ := hv.forth j hj
    have hset : ∀ i, i < ops.size → (l1.setIfInBounds (posL π j) true).getD (posL π i) false = (l0.setIfInBounds j true).getD i false := fun i hi => by
      by_cases hij : i = j
      · subst hij
        rw [(set_listed (by omega)).2 (.inl rfl), (set_listed (by omega)).2 (.inl rfl)]
      · have : posL π i ≠ posL π j := fun e => hij (by rw [← (hv.forth i hi).1, e, f1])
        rw [set_unlisted this, set_unlisted hij]
        exact he i hi
    obtain ⟨l', hl1, hl2⟩ := valid_virt hv hX l (l0.setIfInBounds j true) (l1.setIfInBounds (posL π j) true) (by simpa using hs0) (by simpa using hs1) hset hl hr
    refine ⟨posL π j :: l', by simp only [List.map_cons, f1, hl1], mem_ready.2 ⟨?_, ?_⟩, hl2⟩
    · have := he j hj
      have hb : posL π j < l1.size := by omega
      have hb0 : j < l0.size := by omega
      simp [hb, hb0] at this h1 ⊢
      rw [this]; exact h1
    · have hsz : posL π j < (virtOps π X ops).size := by simp [virtOps, hv.len]; exact f2
      refine ⟨(virtOps π X ops)[posL π j], Array.getElem?_eq_getElem hsz, fun e hmem hb => ?_⟩
      obtain ⟨o0, _, g1, g2⟩ := virt_get (X := X) hv (Array.getElem?_eq_getElem hsz)
      rw [f1, h2] at g1
      cases g1
      rw [g2] at hmem
      simp only [virtEdges, f1, List.mem_toArray, List.mem_append, List.mem_map, List.mem_filter, Array.mem_toList_iff] at hmem
      rcases hmem with ⟨e0, ⟨k1, k2⟩, rfl⟩ | ⟨p, ⟨k1, k2⟩, rfl⟩
      · have hlt := (hv.free j o h2).2 e0 k1 k2
        show l1.getD (posL π e0.on) false = true
        rw [he e0.on (by omega)]
        exact h3 e0 k1 (by rw [binds_any]; exact k2)
      · show l1.getD (posL π p.1) false = true
        rw [he p.1 (hX p k1)]
        exact hr1 p k1 (Nat.eq_of_beq_eq_true k2)

end
end Go.Ev
