/-
  Regions that draw their order: whatever order is drawn, one end. First the orders and the plan, with no world in sight.
-/
import Derived.Test.YtgplabfjldndgaaGreatDoorEvK
namespace Go.Ev
open Go.RowKit

theorem getD0_eq (l : List Nat) (i : Nat) : getD0 l i = l.getD i 0 := by
  unfold getD0
  rw [getL_eq, List.getD_eq_getElem?_getD]
  cases l[i]? <;> rfl

theorem masksFrom_spec : ∀ (l : List Oper) (acc : List Nat), ∃ r : List Nat, masksFrom l acc = acc ++ r ∧ r.length = l.length ∧ ∀ i o, l[i]? = some o → (acc ++ r)[acc.length + i]? = some (maskOf ((acc ++ r).take (acc.length + i)) o.after.toList)
  | [], acc => ⟨[], by simp [masksFrom], rfl, fun i o h => by simp at h⟩
  | o :: l, acc => by
    obtain ⟨r, h1, h2, h3⟩ := masksFrom_spec l (acc ++ [maskOf acc o.after.toList])
    refine ⟨maskOf acc o.after.toList :: r, ?_, by simp [h2], ?_⟩
    · show masksFrom l (appL acc [maskOf acc o.after.toList]) = _
      rw [appL_eq, h1]; simp
    · intro i o' hi
      cases i with
      | zero =>
        simp at hi; subst hi
        simp
      | succ i =>
        simp at hi
        have := h3 i o' hi
        simp only [List.append_assoc, List.cons_append, List.nil_append, List.length_append, List.length_cons, List.length_nil] at this
        have e : acc.length + (i + 1) = acc.length + (0 + 1) + i := by omega
        rw [e]
        exact this

/-- The wait of an operation: one edge, and what that one waits for. -/
theorem mask_step {ops : Array Oper} {i : Nat} {o : Oper} (ho : ops[i]? = some o) (hlt : ∀ e ∈ o.after, bindsB e = true → e.on < i) {j : Nat} (h : Nat.testBit (getD0 (masksFrom ops.toList []) i) j = true) :
    ∃ e ∈ o.after, bindsB e = true ∧ (j = e.on ∨ Nat.testBit (getD0 (masksFrom ops.toList []) e.on) j = true) := by
  obtain ⟨r, h1, h2, h3⟩ := masksFrom_spec ops.toList []
  have h4 := h3 i o (by simpa using ho)
  simp only [List.nil_append, List.length_nil, Nat.zero_add] at h1 h4
  rw [h1] at h ⊢
  have e1 : getD0 r i = maskOf (r.take i) o.after.toList := by rw [getD0_eq, List.getD_eq_getElem?_getD, h4]; rfl
  rw [e1] at h
  have key : ∀ es : List Edge, (∀ e ∈ es, bindsB e = true → e.on < i) → Nat.testBit (maskOf (r.take i) es) j = true → ∃ e ∈ es, bindsB e = true ∧ (j = e.on ∨ Nat.testBit (getD0 r e.on) j = true) := by
    intro es
    induction es with
    | nil => intro _ h; simp [maskOf] at h
    | cons e es ih =>
      intro hlt h
      have h' : Nat.testBit (if bindsB e then Nat.lor (Nat.lor (2 ^ e.on) (getD0 (r.take i) e.on)) (maskOf (r.take i) es) else maskOf (r.take i) es) j = true := h
      split at h'
      · rename_i hb
        have h'' : Nat.testBit ((2 ^ e.on ||| getD0 (r.take i) e.on) ||| maskOf (r.take i) es) j = true := h'
        rw [Nat.testBit_or, Nat.testBit_or, Nat.testBit_two_pow] at h''
        simp only [Bool.or_eq_true, decide_eq_true_eq] at h''
        rcases h'' with (h'' | h'') | h''
        · exact ⟨e, by simp, hb, .inl h''.symm⟩
        · refine ⟨e, by simp, hb, .inr ?_⟩
          have hl := hlt e (by simp) hb
          have : getD0 (r.take i) e.on = getD0 r e.on := by rw [getD0_eq, getD0_eq, List.getD_eq_getElem?_getD, List.getD_eq_getElem?_getD, List.getElem?_take, if_pos hl]
          rwa [this] at h''
        · obtain ⟨e', he', h2⟩ := ih (fun e he => hlt e (by simp [he])) h''
          exact ⟨e', by simp [he'], h2⟩
      · obtain ⟨e', he', h2⟩ := ih (fun e he => hlt e (by simp [he])) h'
        exact ⟨e', by simp [he'], h2⟩
  obtain ⟨e, he, hb, hj⟩ := key o.after.toList (fun e he => hlt e (by simpa using he)) h
  exact ⟨e, by simpa using he, hb, hj⟩

theorem binds_any (e : Edge) : Region.binds .any e = bindsB e := by
  unfold Region.binds bindsB
  cases e.ground <;> rfl

theorem writers_spec (d : Nat) : ∀ (l : List Oper) (i j : Nat), j ∈ writers l d i ↔ ∃ k o, j = i + k ∧ l[k]? = some o ∧ o.dst = some d
  | [], i, j => by simp [writers]
  | o :: l, i, j => by
    have ih := writers_spec d l (i + 1) j
    show j ∈ (if (match o.dst with | some e => Nat.beq e d | none => false) then i :: writers l d (i + 1) else writers l d (i + 1)) ↔ _
    have hb : (match o.dst with | some e => Nat.beq e d | none => false) = true ↔ o.dst = some d := by
      cases hd : o.dst with
      | none => simp
      | some e => simp
    generalize (match o.dst with | some e => Nat.beq e d | none => false) = bb at hb
    constructor
    · intro h
      split at h
      · rename_i hc
        rcases List.mem_cons.1 h with rfl | h
        · exact ⟨0, o, rfl, rfl, hb.1 hc⟩
        · obtain ⟨k, o', h1, h2, h3⟩ := ih.1 h
          exact ⟨k + 1, o', by omega, by simpa using h2, h3⟩
      · obtain ⟨k, o', h1, h2, h3⟩ := ih.1 h
        exact ⟨k + 1, o', by omega, by simpa using h2, h3⟩
    · rintro ⟨k, o', h1, h2, h3⟩
      cases k with
      | zero =>
        simp at h2; subst h2
        rw [if_pos (hb.2 h3)]
        simp [h1]
      | succ k =>
        have := ih.2 ⟨k, o', by omega, by simpa using h2, h3⟩
        split
        · exact List.mem_cons_of_mem _ this
        · exact this

/-- Operation i writes slot d. -/
def Wr (ops : Array Oper) (d i : Nat) : Prop := ∃ o, ops[i]? = some o ∧ o.dst = some d
theorem mem_writers {ops : Array Oper} {d j : Nat} : j ∈ writers ops.toList d 0 ↔ Wr ops d j := by
  rw [writers_spec]
  constructor
  · rintro ⟨k, o, h1, h2, h3⟩
    exact ⟨o, by rw [h1]; simpa using h2, h3⟩
  · rintro ⟨o, h1, h2⟩
    exact ⟨j, o, by omega, by simpa using h1, h2⟩

/-- What is so of all operations of a region that has been looked through. -/
structure OpsOk (ops : Array Oper) : Prop where
  lt : ∀ i o, ops[i]? = some o → ∀ e ∈ o.after, bindsB e = true → e.on < i
  one : ∀ d i j, Wr ops d i → Wr ops d j → i = j
  pre : ∀ i o, ops[i]? = some o → ∀ d ∈ looks ops o, ∀ j, Wr ops d j → Nat.testBit (getD0 (masksFrom ops.toList []) i) j = true ∨ Nat.testBit (getD0 (masksFrom ops.toList []) j) i = true

/-- What a plan of a piece says; what is done before it counts as its first part. -/
structure PlanOk (ops : Array Oper) (p : Plan) : Prop extends OpsOk ops where
  chain : chainB (masksFrom ops.toList []) (p.b1 ++ p.b2) = true
  nodup : nodupB (p.b1 ++ p.b2) = true
  apart : ∀ i ∈ p.a, i ∉ p.b1 ++ p.b2
  waits : ∀ i ∈ p.b2, ∀ j ∈ p.a, Nat.testBit (getD0 (masksFrom ops.toList []) i) j = true ∨ blindAt ops j = true
  lookB : ∀ i ∈ p.b1 ++ p.b2, ∀ o, ops[i]? = some o → ∀ d ∈ looks ops o, ∀ j, Wr ops d j → Nat.testBit (getD0 (masksFrom ops.toList []) i) j = true ∨ j ∉ p.a

theorem okOps_spec {ops : Array Oper} {ms : List Nat} : ∀ {l : List Oper} {i : Nat}, okOps ms ops l i = true → ∀ k o, l[k]? = some o →
    (∀ e ∈ o.after, bindsB e = true → e.on < i + k) ∧ (∀ d, o.dst = some d → ∀ j, Wr ops d j → j = i + k) ∧ (∀ d ∈ looks ops o, ∀ j, Wr ops d j → Nat.testBit (getD0 ms (i + k)) j = true ∨ Nat.testBit (getD0 ms j) (i + k) = true)
  | [], i, _, k, o, h => by simp at h
  | o :: l, i, h, k, o', hk => by
    have h' : ((o.after.toList.all fun e => !bindsB e || Nat.blt e.on i) && (match o.dst with | some d => (match writers ops.toList d 0 with | [j] => Nat.beq j i | _ => false) | none => true) &&
      ((looks ops o).all fun d => (writers ops.toList d 0).all fun j => Nat.testBit (getD0 ms i) j || Nat.testBit (getD0 ms j) i) && okOps ms ops l (i + 1)) = true := h
    simp only [Bool.and_eq_true] at h'
    obtain ⟨⟨⟨h1, h2⟩, h3⟩, h4⟩ := h'
    cases k with
    | succ k =>
      have := okOps_spec h4 k o' (by simpa using hk)
      have e : i + 1 + k = i + (k + 1) := by omega
      rwa [e] at this
    | zero =>
      simp at hk; subst hk
      refine ⟨fun e he hb => ?_, fun d hd j hj => ?_, fun d hd j hj => ?_⟩
      · have := List.all_eq_true.1 h1 e (by simpa using he)
        simp only [hb, Bool.not_true, Bool.false_or] at this
        rw [Nat.blt_eq] at this
        omega
      · rw [hd] at h2
        simp only at h2
        have hm := mem_writers.2 hj
        split at h2
        · rename_i j' heq
          rw [heq] at hm
          simp at hm
          have := Nat.eq_of_beq_eq_true h2
          omega
        · simp at h2
      · have := List.all_eq_true.1 (List.all_eq_true.1 h3 d hd) j (mem_writers.2 hj)
        simpa using this

theorem opsOk_of {ops : Array Oper} (h1 : okOps (masksFrom ops.toList []) ops ops.toList 0 = true) : OpsOk ops := by
  have hs := fun i o (ho : ops[i]? = some o) => okOps_spec h1 i o (by simpa using ho)
  refine ⟨fun i o ho e he hb => by simpa using (hs i o ho).1 e he hb, fun d i j hi hj => ?_, fun i o ho d hd j hj => by simpa using (hs i o ho).2.2 d hd j hj⟩
  obtain ⟨o, ho, hd⟩ := hi
  have := (hs i o ho).2.1 d hd j hj
  omega

/-- What a piece that has been looked through says. -/
structure SegOk (ops : Array Oper) (n : Nat) (g : Seg) : Prop where
  plan : PlanOk ops (planSeg g)
  okA : okA (masksFrom ops.toList []) ops g.a (List.range g.k) = true
  all : ∀ i, i < g.k' → i ∈ (planSeg g).a ∨ i ∈ g.b1 ++ g.b2
  dom : ∀ i, i < n → g.k' ≤ i → ∀ j, j < g.k' → Nat.testBit (getD0 (masksFrom ops.toList []) i) j = true
  inA : ∀ i ∈ g.a, g.k ≤ i ∧ i < g.k'
  inB : ∀ i ∈ g.b1 ++ g.b2, g.k ≤ i ∧ i < g.k'
  lt : g.k < g.k'
  le : g.k' ≤ n

theorem segOk_of {ops : Array Oper} {n : Nat} {g : Seg} (ho : OpsOk ops) (hok : okSeg (masksFrom ops.toList []) n ops g = true) : SegOk ops n g := by
  unfold okSeg at hok
  simp only [Bool.and_eq_true, appL_eq] at hok
  obtain ⟨⟨⟨⟨⟨⟨⟨⟨⟨⟨⟨h1, h2⟩, h3⟩, h4⟩, h5⟩, h6⟩, h7⟩, h8⟩, h9⟩, h10⟩, h11⟩, h12⟩ := hok
  refine ⟨⟨ho, h2, h3, fun i hi => ?_, fun i hi j hj => ?_, fun i hi o ho d hd j hj => ?_⟩, h1, fun i hi => ?_, fun i hi hk j hj => ?_, fun i hi => ?_, fun i hi => ?_, by simpa using h11, by simpa using h12⟩
  · have := List.all_eq_true.1 h4 i hi
    simpa [planSeg] using this
  · have := List.all_eq_true.1 (List.all_eq_true.1 h6 i hi) j hj
    simpa using this
  · have := List.all_eq_true.1 h7 i hi
    rw [ho] at this
    have := List.all_eq_true.1 (List.all_eq_true.1 this d hd) j (mem_writers.2 hj)
    simpa using this
  · have := List.all_eq_true.1 h5 i (by simpa using hi)
    simpa using this
  · have := List.all_eq_true.1 h8 i (by simpa using hi)
    rw [Bool.or_eq_true, Nat.blt_eq] at this
    have e := Nat.eq_of_beq_eq_true (this.resolve_left (by omega))
    have e2 := congrArg (fun x => Nat.testBit x j) e
    have e3 : Nat.land (getD0 (masksFrom ops.toList []) i) (2 ^ g.k' - 1) = getD0 (masksFrom ops.toList []) i &&& (2 ^ g.k' - 1) := rfl
    rw [e3, Nat.testBit_and, Nat.testBit_two_pow_sub_one] at e2
    simp [hj] at e2
    exact e2
  · have := List.all_eq_true.1 h9 i hi
    simpa using this
  · have := List.all_eq_true.1 h10 i hi
    simpa using this

theorem chain_spec {ms : List Nat} : ∀ {l : List Nat}, chainB ms l = true → ∀ {x y : Nat} {l1 l2 : List Nat}, l = l1 ++ x :: y :: l2 → Nat.testBit (getD0 ms y) x = true
  | l, h, x, y, [], l2, hl => by
    subst hl
    simp only [List.nil_append, chainB, Bool.and_eq_true] at h
    exact h.1
  | l, h, x, y, a :: l1, l2, hl => by
    subst hl
    have h' : chainB ms (l1 ++ x :: y :: l2) = true := by
      cases l1 with
      | nil => simp only [List.cons_append, List.nil_append, chainB, Bool.and_eq_true] at h ⊢; exact h.2
      | cons b l1 => simp only [List.cons_append, chainB, Bool.and_eq_true] at h ⊢; exact h.2
    exact chain_spec h' rfl

/-- What waits for all that it waits for. -/
theorem pre_listed {ops : Array Oper} (hp : OpsOk ops) {S : Nat → Prop} (hS : ∀ i o, ops[i]? = some o → S i → ∀ e ∈ o.after, bindsB e = true → S e.on) :
    ∀ (i : Nat) (o : Oper), ops[i]? = some o → (∀ e ∈ o.after, bindsB e = true → S e.on) → ∀ j, Nat.testBit (getD0 (masksFrom ops.toList []) i) j = true → S j := by
  intro i
  induction i using Nat.strongRecOn with
  | _ i ih =>
    intro o ho hd j hj
    obtain ⟨e, he, hb, h⟩ := mask_step ho (hp.lt i o ho) hj
    rcases h with rfl | h
    · exact hd e he hb
    · have hlt := hp.lt i o ho e he hb
      have hsz : i < ops.size := (Array.getElem?_eq_some_iff.1 ho).1
      obtain ⟨o', ho'⟩ : ∃ o', ops[e.on]? = some o' := ⟨ops[e.on], Array.getElem?_eq_getElem (by omega)⟩
      exact ih e.on hlt o' ho' (hS e.on o' ho' (hd e he hb)) j h

theorem mask_lt {ops : Array Oper} (hp : OpsOk ops) {i : Nat} {o : Oper} (ho : ops[i]? = some o) {j : Nat} (h : Nat.testBit (getD0 (masksFrom ops.toList []) i) j = true) : j < i :=
  pre_listed hp (S := fun k => k < i) (fun k ok hk hlt e he hb => Nat.lt_trans (hp.lt k ok hk e he hb) hlt) i o ho (fun e he hb => hp.lt i o ho e he hb) j h

section order
variable {P : Program} {ops : Array Oper} {fr : Frame} {cs : List Frame} {k : List Item}

theorem order_sound (Inv : Array Bool → Array Value → World → Prop)
    (hstep : ∀ listed t w i, Inv listed t w → i ∈ Region.ready .any ops listed → ∀ rest, ∃ t' w', Steps P (lone (FR fr t (.inRegion ops (i :: rest) :: k)) cs w) (lone (FR fr t' (.inRegion ops rest :: k)) cs w') ∧ Inv (listed.setIfInBounds i true) t' w') :
    ∀ (fuel tp : Nat) (listed : Array Bool) (t : Array Value) (w : World) (rem : List Nat), Inv listed t w → (∀ i, i < ops.size → listed.getD i true = false → i ∈ rem) → rem.length ≤ fuel →
      ∃ t' w' listed', Steps P (lone (FR fr t (.inRegion ops (Region.linearise.go .any ops fuel tp listed []) :: k)) cs w) (lone (FR fr t' (.inRegion ops [] :: k)) cs w') ∧ Inv listed' t' w' ∧ Region.ready .any ops listed' = [] := by
  intro fuel
  induction fuel with
  | zero =>
    intro tp listed t w rem hI hrem hlen
    have : rem = [] := List.eq_nil_of_length_eq_zero (by omega)
    subst this
    refine ⟨t, w, listed, by simp only [Region.linearise.go, List.reverse_nil]; exact .refl _ _, hI, ?_⟩
    apply List.eq_nil_iff_forall_not_mem.2
    intro i hi
    obtain ⟨h1, o, h2, _⟩ := mem_ready.1 hi
    exact absurd (hrem i (Array.getElem?_eq_some_iff.1 h2).1 h1) (by simp)
  | succ fuel ih =>
    intro tp listed t w rem hI hrem hlen
    simp only [Region.linearise.go]
    change ∃ t' w' listed', Steps P (lone (FR fr t (.inRegion ops (match (Region.ready .any ops listed)[tp % (Region.ready .any ops listed).length]? with
      | some i => Region.linearise.go .any ops fuel (tp / (Region.ready .any ops listed).length) (listed.setIfInBounds i true) [i]
      | none => [].reverse) :: k)) cs w) _ ∧ _
    cases hi : (Region.ready .any ops listed)[tp % (Region.ready .any ops listed).length]? with
    | none =>
      have hnil : Region.ready .any ops listed = [] := by
        cases hr : Region.ready .any ops listed with
        | nil => rfl
        | cons x xs =>
          rw [hr] at hi
          have hlt : tp % (x :: xs).length < (x :: xs).length := Nat.mod_lt _ (by simp)
          simp at hi
          simp at hlt
          omega
      exact ⟨t, w, listed, .refl _ _, hI, hnil⟩
    | some i =>
      simp only []
      rw [linearise_go_acc, List.reverse_singleton, List.singleton_append]
      have hmem := List.mem_of_getElem? hi
      obtain ⟨t1, w1, hst, hI1⟩ := hstep listed t w i hI hmem (Region.linearise.go .any ops fuel (tp / (Region.ready .any ops listed).length) (listed.setIfInBounds i true) [])
      obtain ⟨h1, o, h2, _⟩ := mem_ready.1 hmem
      have hin := hrem i (Array.getElem?_eq_some_iff.1 h2).1 h1
      obtain ⟨t', w', l', g1, g2, g3⟩ := ih (tp / (Region.ready .any ops listed).length) (listed.setIfInBounds i true) t1 w1 (rem.erase i) hI1 (fun j hj hl => by
        by_cases hij : i = j
        · subst hij
          by_cases hb : i < listed.size
          · simp [hb] at hl
          · simp [hb] at h1
        · rw [getD_set_ne true hij] at hl
          exact (List.mem_erase_of_ne (fun e => hij e.symm)).2 (hrem j hj hl)) (by
        have := List.length_erase_of_mem hin
        omega)
      exact ⟨t', w', l', Steps.trans hst g1, g2, g3⟩

theorem all_listed (hp : OpsOk ops) {listed : Array Bool} (hs : listed.size = ops.size) (h : Region.ready .any ops listed = []) : ∀ i, i < ops.size → listed.getD i false = true := by
  intro i
  induction i using Nat.strongRecOn with
  | _ i ih =>
    intro hi
    cases hl : listed.getD i false with
    | true => rfl
    | false =>
      exfalso
      have hl' : listed.getD i true = false := by
        have hb : i < listed.size := by omega
        simp [hb] at hl ⊢
        exact hl
      have : i ∈ Region.ready .any ops listed := mem_ready.2 ⟨hl', ops[i], Array.getElem?_eq_getElem hi, fun e he hb => by
        rw [binds_any] at hb
        have hlt := hp.lt i ops[i] (Array.getElem?_eq_getElem hi) e he hb
        exact ih e.on hlt (by omega)⟩
      rw [h] at this
      simp at this
end order

end Go.Ev
