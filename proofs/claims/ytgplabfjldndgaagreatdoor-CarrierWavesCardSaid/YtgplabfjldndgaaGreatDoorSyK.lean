/-
  Contracts whose values lie deep.
-/
import Derived.Test.YtgplabfjldndgaaGreatDoorSyP
namespace Go.Ev
open Go.RowKit
noncomputable section

section
variable {E : Env} {lvl : Nat}

/-! A block that the call made comes to rest. -/
def FrzC (i : Nat) (ds : List DT) (x x' : AC) : Prop := x' = x ∨ ∃ o len sz cap ex r, x = .slc i o len sz cap ex ∧ x' = .dp (.s r len sz) ∧ takeL (dropL ds o) (len * sz) = some r
def FrzE (i : Nat) (ds : List DT) : AE → AE → Prop
  | .one x, .one x' => FrzC i ds x x'
  | .agg l, .agg l' => All2 (FrzC i ds) l l'
  | _, _ => False
def FrzV (i : Nat) (ds : List DT) : AV → AV → Prop
  | .e x, .e x' => FrzE i ds x x'
  | .tup l, .tup l' => All2 (FrzE i ds) l l'
  | _, _ => False

theorem DT.Rl.of_all2 {m : M} : ∀ {ds : List DT} {ys : List Value}, All2 (CR m) (ds.map DT.ac) ys → DT.Rl m.F ds ys
  | [], _, _ => by simp [DT.Rl]
  | d :: ds, [], h => h.elim
  | d :: ds, y :: ys, h => by
    simp only [DT.Rl]
    refine ⟨y, ys, rfl, ?_, DT.Rl.of_all2 h.2⟩
    have h1 : CR m d.ac y := h.1
    cases d with
    | v x => simpa [DT.R, DT.ac, CR] using h1
    | s c n sz => exact h1
theorem DT.Rl.more {F : List (Nat × List Value)} : ∀ {l : List DT} {ys zs : List Value}, DT.Rl F l ys → DT.Rl F l (ys ++ zs)
  | [], _, _, _ => by simp [DT.Rl]
  | d :: l, ys, zs, r => by
    simp only [DT.Rl] at r ⊢
    obtain ⟨y, r', rfl, h1, h2⟩ := r
    exact ⟨y, r' ++ zs, rfl, h1, DT.Rl.more h2⟩

/-- a slice whose block is at rest -/
theorem CR.rest {m m2 : M} {w : World} {i : Nat} {ds : List DT} {N el : Nat} {fl : Bool} (B : BR m w i ⟨ds.map DT.ac, N, el, fl, .cells⟩) {c : Array Value} {fz : Nat × Nat} (hc : w.heap[m.ρ i]? = some (.cells c el fz)) (hF : ∀ p ∈ m.F, p ∈ m2.F) (hp : (m.ρ i, c.toList) ∈ m2.F)
    {o len sz cap : Nat} {ex : Bool} {r : List DT} (hr : takeL (dropL ds o) (len * sz) = some r) {y : Value} (hy : CR m (.slc i o len sz cap ex) y) : DV.R m2.F (.s r len sz) y := by
  obtain ⟨hb, cc, o', rfl, g0, g1, g1', g2, g3, g4⟩ := hy
  obtain ⟨b1, b2, c', fz', b3, b4, b5, b6, b7⟩ := B
  have b3 : w.heap[m.ρ i]? = some (.cells c' el fz') := b3
  rw [hc] at b3
  simp only [Option.some.injEq, Obj.cells.injEq] at b3
  obtain ⟨rfl, _, _⟩ := b3
  show DT.R m2.F (.s r len sz) _
  simp only [DT.R]
  rcases Nat.eq_zero_or_pos len with rfl | h0
  · exact .inl ⟨rfl, _, _, rfl⟩
  · obtain rfl : o' = o := by rcases g0 with g0 | g0 <;> omega
    obtain ⟨t1, rfl⟩ := takeL_some hr
    rw [dropL_eq] at t1
    have hsz : c.toList.length = m.κ i := by simpa using b4
    refine .inr ⟨h0, m.ρ i, o', cc, c.toList, rfl, by omega, g2, hp, by omega, by rw [dropL_eq, List.length_take]; omega, ?_⟩
    have hR := ((DT.Rl.of_all2 (m := m) b7).mono hF).more (zs := c.toList.drop N)
    rw [List.take_append_drop] at hR
    rw [dropL_eq]
    exact (hR.drop o').pre (len * sz)

theorem FrzC.sound {m m2 : M} {w : World} {i : Nat} {ds : List DT} {N el : Nat} {fl : Bool} (B : BR m w i ⟨ds.map DT.ac, N, el, fl, .cells⟩) {c : Array Value} {fz : Nat × Nat} (hc : w.heap[m.ρ i]? = some (.cells c el fz)) {bs : Nat} (hle : M.leG bs m m2) (hp : (m.ρ i, c.toList) ∈ m2.F)
    {x x' : AC} {y : Value} (h : FrzC i ds x x') (hy : CR m x y) : CR m2 x' y := by
  rcases h with rfl | ⟨o, len, sz, cap, ex, r, rfl, rfl, hr⟩
  · exact CR.monoG hle hy
  · exact CR.rest B hc hle.F hp hr hy
theorem all2_map {α β γ : Type} {R : α → β → Prop} {T : α → γ → Prop} {S : γ → β → Prop} (hi : ∀ a b c, T a c → R a b → S c b) : ∀ {l : List α} {l' : List γ} {ys : List β}, All2 T l l' → All2 R l ys → All2 S l' ys
  | [], [], [], _, _ => trivial
  | _ :: _, _ :: _, _ :: _, h1, h2 => ⟨hi _ _ _ h1.1 h2.1, all2_map hi h1.2 h2.2⟩
  | [], [], _ :: _, _, h => h.elim
  | [], _ :: _, _, h, _ => h.elim
  | _ :: _, [], _, h, _ => h.elim
  | _ :: _, _ :: _, [], _, h => h.elim
theorem FrzE.sound {m m2 : M} {w : World} {i : Nat} {ds : List DT} {N el : Nat} {fl : Bool} (B : BR m w i ⟨ds.map DT.ac, N, el, fl, .cells⟩) {c : Array Value} {fz : Nat × Nat} (hc : w.heap[m.ρ i]? = some (.cells c el fz)) {bs : Nat} (hle : M.leG bs m m2) (hp : (m.ρ i, c.toList) ∈ m2.F) :
    ∀ {x x' : AE} {y : Value}, FrzE i ds x x' → ER m x y → ER m2 x' y
  | .one _, .one _, _, h, hy => FrzC.sound B hc hle hp h hy
  | .agg _, .agg _, _, h, hy => by
    obtain ⟨cs, h1, h2⟩ := hy
    exact ⟨cs, h1, all2_map (R := CR m) (T := FrzC i ds) (S := CR m2) (fun a b c' h0 h3 => FrzC.sound B hc hle hp h0 h3) (show All2 (FrzC i ds) _ _ from h) h2⟩
  | .one _, .agg _, _, h, _ => h.elim
  | .agg _, .one _, _, h, _ => h.elim
theorem FrzV.sound {m m2 : M} {w : World} {i : Nat} {ds : List DT} {N el : Nat} {fl : Bool} (B : BR m w i ⟨ds.map DT.ac, N, el, fl, .cells⟩) {c : Array Value} {fz : Nat × Nat} (hc : w.heap[m.ρ i]? = some (.cells c el fz)) {bs : Nat} (hle : M.leG bs m m2) (hp : (m.ρ i, c.toList) ∈ m2.F) :
    ∀ {x x' : AV} {y : Value}, FrzV i ds x x' → VR m x y → VR m2 x' y
  | .e _, .e _, _, h, hy => FrzE.sound B hc hle hp h hy
  | .tup _, .tup _, _, h, hy => by
    obtain ⟨cs, h1, h2⟩ := hy
    exact ⟨cs, h1, all2_map (R := ER m) (T := FrzE i ds) (S := ER m2) (fun a b c' h0 h3 => FrzE.sound B hc hle hp h0 h3) (show All2 (FrzE i ds) _ _ from h) h2⟩
  | .e _, .tup _, _, h, _ => h.elim
  | .tup _, .e _, _, h, _ => h.elim

/-- A block comes to rest. -/
theorem HR.freeze {m : M} {base : Nat} {h : Heap} {w : World} (H : HR m base lvl h w) {i : Nat} {ds : List DT} {N el : Nat} {fl : Bool} (hi : h[i]? = some (some ⟨ds.map DT.ac, N, el, fl, .cells⟩)) (hl : lvl ≤ i) :
    ∃ m2, HR m2 base lvl (h.set i none) w ∧ M.leG base m m2 ∧ m2.n = m.n ∧ m2.ρ = m.ρ ∧ m2.κ = m.κ ∧ (∀ x x' y, FrzV i ds x x' → VR m x y → VR m2 x' y) ∧ (∀ x x' y, FrzC i ds x x' → CR m x y → CR m2 x' y) := by
  have B := H.blk i _ hi rfl
  obtain ⟨b1, b2, c, fz, b3, b4, b5, b6, b7⟩ := id B
  have hil := (List.getElem?_eq_some_iff.1 hi).1
  let m2 : M := { n := m.n, ρ := m.ρ, κ := m.κ, lo := m.lo, F := (m.ρ i, c.toList) :: m.F }
  have hle : M.leG base m m2 := ⟨Nat.le_refl _, fun _ _ => rfl, fun _ _ => rfl, rfl, fun p hp => List.mem_cons_of_mem _ hp, fun p hp => by
    rcases List.mem_cons.1 hp with rfl | hp
    · exact .inr (H.own i hl hil)
    · exact .inl hp⟩
  have hK := H.kill i
  refine ⟨m2, ⟨hK.n, hK.lvlLe, hK.baseLe, fun b a hb => (hK.ent b a hb).monoG hle (by rw [hK.n]; exact (List.getElem?_eq_some_iff.1 hb).1), hK.own, hK.inj, hK.lo, fun p hp => ?_⟩, hle, rfl, rfl, rfl,
    fun x x' y hx hy => FrzV.sound B b3 hle (List.mem_cons_self ..) hx hy, fun x x' y hx hy => FrzC.sound B b3 hle (List.mem_cons_self ..) hx hy⟩
  rcases List.mem_cons.1 hp with rfl | hp
  · refine ⟨⟨c, el, fz, b3, rfl⟩, fun b a hb ha he => ?_⟩
    have ha' := alive_set ha
    exact ha'.2 (H.inj b i (List.getElem?_eq_some_iff.1 ha'.1).1 hil ⟨a, ha'.1⟩ ⟨_, hi⟩ (.inr (Nat.le_trans H.lo hl)) he)
  · exact hK.tab p hp

/-- A contract whose result leads to a block of its own: the block comes to rest. -/
theorem cOut_freeze {f : FuncId} {hin : Heap} {args : List AV} {v v' : AV} {hout : Heap} (i : Nat) {ds : List DT} {N el : Nat} {fl : Bool} (hc : COut E lvl hin f args v hout) (hi : getL hout i = some (some ⟨ds.map DT.ac, N, el, fl, .cells⟩)) (hl : lvl ≤ i) (hv : FrzV i ds v v') :
    COut E lvl hin f args v' (setL hout i none) := by
  rw [getL_eq] at hi
  rw [setL_eq]
  intro m base w argsC ha H G
  refine (hc m base w argsC ha H G).mono fun e w' ⟨y, hy, m1, hp⟩ => ⟨y, hy, ?_⟩
  obtain ⟨m2, H2, hle, hn, hρ, hκ, hV, _⟩ := hp.heap.freeze hi hl
  exact ⟨m2, hp.le.trans hle, hV _ _ _ hv hp.val, H2, hp.below⟩


/-! Blocks are lent to a call that asks for what lies deep. -/
def LendC (h : Heap) (x x' : AC) : Prop := (x' = x ∧ x.refs = []) ∨ ∃ i o len sz cap ex r ds N el fl, x = .slc i o len sz cap ex ∧ x' = .dp (.s r len sz) ∧ getL h i = some (some ⟨ds.map DT.ac, N, el, fl, .cells⟩) ∧ takeL (dropL ds o) (len * sz) = some r
def LendE (h : Heap) : AE → AE → Prop
  | .one x, .one x' => LendC h x x'
  | .agg l, .agg l' => All2 (LendC h) l l'
  | _, _ => False
def LendV (h : Heap) : AV → AV → Prop
  | .e x, .e x' => LendE h x x'
  | _, _ => False

/-- the blocks of a heap, as tables -/
theorem lendTabs {m : M} {base : Nat} {w : World} : ∀ (h : Heap), (∀ b a, h[b]? = some (some a) → EntR m w b a) → ∀ k, k ≤ h.length → ∃ F : List (Nat × List Value), (∀ p ∈ F, ∃ (c : Array Value) (t : TypeId) (fz : Nat × Nat), w.heap[p.1]? = some (.cells c t fz) ∧ c.toList = p.2) ∧
    ∀ i a, i < k → h[i]? = some (some a) → a.ext = .cells → ∃ (c : Array Value) (fz : Nat × Nat), w.heap[m.ρ i]? = some (.cells c a.elem fz) ∧ (m.ρ i, c.toList) ∈ F
  | h, hent, 0, _ => ⟨[], by simp, fun i a hi => by omega⟩
  | h, hent, k + 1, hk => by
    obtain ⟨F, h1, h2⟩ := lendTabs (base := base) h hent k (by omega)
    by_cases hx : ∃ a, h[k]? = some (some a) ∧ a.ext = .cells
    · obtain ⟨a, ha, hc⟩ := hx
      obtain ⟨b1, b2, c, fz, b3, _⟩ := (hent k a ha).1 hc
      refine ⟨(m.ρ k, c.toList) :: F, fun p hp => ?_, fun i a' hi ha' hc' => ?_⟩
      · rcases List.mem_cons.1 hp with rfl | hp
        · exact ⟨c, a.elem, fz, b3, rfl⟩
        · exact h1 p hp
      · by_cases hik : i = k
        · subst hik
          rw [ha] at ha'
          simp only [Option.some.injEq] at ha'
          subst ha'
          exact ⟨c, fz, b3, List.mem_cons_self ..⟩
        · obtain ⟨c', fz', g1, g2⟩ := h2 i a' (by omega) ha' hc'
          exact ⟨c', fz', g1, List.mem_cons_of_mem _ g2⟩
    · refine ⟨F, h1, fun i a' hi ha' hc' => ?_⟩
      by_cases hik : i = k
      · subst hik; exact absurd ⟨a', ha', hc'⟩ hx
      · exact h2 i a' (by omega) ha' hc'

theorem cOut_lend {f : FuncId} {args args' : List AV} {v : AV} (h : Heap) (hc : COut E 0 [] f args' v []) (ha : All2 (LendV h) args args') (hv : v.refs = []) (hf : v.flat = true) : COut E lvl h f args v h := by
  intro m base w argsC hA H G
  obtain ⟨F, h1, h2⟩ := lendTabs (base := base) h H.ent h.length (Nat.le_refl _)
  let mc : M := { n := 0, ρ := m.ρ, κ := m.κ, lo := 0, F := F ++ m.F }
  have Hc : HR mc w.heap.size 0 [] w := ⟨rfl, Nat.le_refl _, Nat.le_refl _, fun b a hb => by simp at hb, fun b _ hb => by simp at hb, fun b b' hb => by simp at hb, Nat.le_refl _, fun p hp => ⟨by
    rcases List.mem_append.1 hp with hp | hp
    · exact h1 p hp
    · exact (H.tab p hp).1, fun b a _ hb => by simp at hb⟩⟩
  let mg : M := { n := m.n, ρ := m.ρ, κ := m.κ, lo := m.lo, F := F ++ m.F }
  have lc : ∀ x x' y, LendC h x x' → CR m x y → CR mc x' y := by
    intro x x' y hx hy
    rcases hx with ⟨rfl, hr⟩ | ⟨i, o, len, sz, cap, ex, r, ds, N, el, fl, rfl, rfl, hi, hr⟩
    · exact CR.free (m1 := m) (m2 := mc) (fun p hp => List.mem_append_right _ hp) hr hy
    · rw [getL_eq] at hi
      obtain ⟨c, fz, g1, g2⟩ := h2 i _ (List.getElem?_eq_some_iff.1 hi).1 hi rfl
      exact CR.rest (m2 := mc) (H.blk i _ hi rfl) g1 (fun p hp => List.mem_append_right _ hp) (List.mem_append_left _ g2) hr hy
  have lv : ∀ x y x', LendV h x x' → VR m x y → VR mc x' y := by
    intro x y x' hx hy
    match x, x', hx with
    | .e (.one x), .e (.one x'), hx => exact lc x x' y hx hy
    | .e (.agg l), .e (.agg l'), hx =>
      obtain ⟨cs, k1, k2⟩ := hy
      exact ⟨cs, k1, all2_map (R := CR m) (T := LendC h) (S := CR mc) (fun a b c' h0 h3 => lc a c' b h0 h3) (show All2 (LendC h) _ _ from hx) k2⟩
  have hA' : All2 (VR mc) args' argsC.toList := all2_map (R := VR m) (T := LendV h) (S := VR mc) (fun a b c' h0 h3 => lv a b c' h0 h3) ha hA
  refine (hc mc w.heap.size w argsC hA' Hc (G.up H.baseLe)).mono fun e w' ⟨y, hy, m1, hp⟩ => ⟨y, hy, m, M.leG.refl _ m, ?_, H.world hp.below.size hp.below.block, hp.below.mono H.baseLe⟩
  have hd := VR.downG hp.le (.inl hf) (fun b hb => by rw [hv] at hb; simp at hb) hp.val
  -- nothing in it leads anywhere
  have flatC : ∀ (x : AC) (y : Value), x.flat = true → x.refs = [] → CR mc x y → CR m x y := fun x y hf hr h => by
    cases x with
    | v _ => exact h
    | any _ => exact h
    | dp _ => simp [AC.flat] at hf
    | ptr => simp [AC.refs] at hr
    | slc => simp [AC.refs] at hr
    | yld => simp [AC.refs] at hr
    | mp => simp [AC.refs] at hr
    | clo g fs cs =>
      simp only [AC.refs, List.append_eq_nil_iff] at hr
      simp only [AC.flat, Bool.and_eq_true] at hf
      obtain ⟨vf, vc, hy, h1, h2⟩ := h
      have key : ∀ {l : List CE}, l.flatMap CE.refs = [] → (l.all fun e => e.atoms.all CA.flat) = true → ∀ e ∈ l, ∀ c ∈ e.atoms, ∀ y, CR mc c.ac y → CR m c.ac y := fun {l} hl hfl e he c hc y hr' => by
        have h0 : c.refs = [] := List.flatMap_eq_nil_iff.1 (List.flatMap_eq_nil_iff.1 hl e he) c hc
        have h3 := List.all_eq_true.1 (List.all_eq_true.1 hfl e he) c hc
        cases c with
        | v _ => exact hr'
        | dp _ => simp [CA.flat] at h3
        | _ => simp [CA.refs] at h0
      exact ⟨vf, vc, hy, CEs.to (key hr.1 hf.1) h1, CEs.to (key hr.2 hf.2) h2⟩
  have flatE : ∀ (x : AE) (y : Value), x.flat = true → x.refs = [] → ER mc x y → ER m x y := fun x y hf hr h => by
    cases x with
    | one x => exact flatC x y hf hr h
    | agg l =>
      obtain ⟨cs, k1, k2⟩ := h
      simp only [AE.refs, List.flatMap_eq_nil_iff] at hr
      exact ⟨cs, k1, all2_free (fun a ha b hb => flatC a b (List.all_eq_true.1 hf a ha) (hr a ha) hb) k2⟩
  cases v with
  | e x => exact flatE x y hf hv hd
  | tup l =>
    obtain ⟨cs, k1, k2⟩ := hd
    simp only [AV.refs, List.flatMap_eq_nil_iff] at hv
    exact ⟨cs, k1, all2_free (fun a ha b hb => flatE a b (List.all_eq_true.1 hf a ha) (hv a ha) hb) k2⟩
end
end
end Go.Ev
