/-
  Part of the proof: SeH, SeLem, SyK, SyL, SyO, SyArg, SyList, SyRd, SeEqI, SeGen, SeAcc, SeBa, SeEqB, SeCl.
-/
import Derived.Test.YtneaafigbnjceaaGreatDoorSeZE
import Derived.ChangeArms
import Derived.Ground.SlgnProg
import Derived.KernelRfl
import Derived.OpenShut
import Derived.Shelf.SlicesG.Clone
import Derived.Stop.BytesEq
import Derived.WideShapes

/-! SeH -/
section
open Go Go.Ev
namespace Go.Proofs.YtneaafigbnjceaaGreatDoor
noncomputable section
def R0 : RunT := rec0
theorem R0_ok {E : Env} (_ : EnvOk E) : RecOk E R0 := rec0_ok E
def R4 : RunT := run E 4000
theorem R4_ok (hE : EnvOk E) : RecOk E R4 := run_sound hE 4000
theorem wrap_id {n : Int} (h0 : -9223372036854775808 ≤ n) (h1 : n ≤ 9223372036854775807) : wrapF .i64 n = n := by
 rw [wrapF_eq]
 exact IntWalk.i64_in n (by omega)
theorem aP {p : Prop} {l : List Prop} (h : p) (t : AllP l) : AllP (p :: l) := ⟨h, t⟩
theorem aN {l : List Prop} (t : AllP l) : AllP ((([] : List Nat) = []) :: l) := ⟨rfl, t⟩
theorem aZ : AllP [] := trivial
abbrev bK (l : List AC) (n ty : Nat) : Option AB := some ⟨l, n, ty, true, .cells⟩
theorem oS {E : Env} (hE : EnvOk E) {lvl K : Nat} (l : List SAns) (ks : List Nat) {s : St} {s' : (Nat → Value) → St} {ps : List Prop} {r : Res → Prop} {rd : Option Nat} (hp : AllP ps) (ho : ∀ j, OutK E lvl K (s' j) r rd) (h : ∀ j, segV E R0 lvl l ks j s = some (s' j, ps) := by intro j; kernel_rfl) : OutK E lvl K s r rd := outK_seg hE (R0_ok hE) l ks h hp ho
theorem gZ {E : Env} {lvl K : Nat} {r : Res → Prop} {rd : Option Nat} (e : List Nat) {h h' : Heap} {todo : List Item} {tm tm' : Tm} (ho : OutK E lvl K ⟨h', todo, tm'⟩ r rd) (hlK : lvl ≤ K := by decide) (hok : selOk e (lenL h) K (lenL h') h' = true := by kernel_rfl)
    (h2 : e.map (getL h) = h'.map (fun b => some (b.map (AB.ren (nthE e (lenL h) (lenL e))))) := by kernel_rfl) (h1 : tm'.map (AV.ren (nthE e (lenL h) (lenL e))) = tm := by kernel_rfl) : OutK E lvl K ⟨h, todo, tm⟩ r rd := outK_gc e hlK hok h2 h1 ho

abbrev Sg (l K : Nat) (a b : (Nat → Value) → St) : Prop := ∀ {Φ : Res → Prop}, (∀ j, OutK E l K (b j) Φ) → ∀ j, OutK E l K (a j) Φ
end
end Go.Proofs.YtneaafigbnjceaaGreatDoor
end

/-! SeLem -/
section
open Go Go.Ev
namespace Go.Proofs.YtneaafigbnjceaaGreatDoor
noncomputable section
theorem iIe {a b : Int} (h : a = b) : (iI a : AV) = iI b := by rw [h]
theorem wrap_u8 (n : Int) : wrapF .u8 n = n % 256 := by rw [wrapF_eq, IntKind.wrap_u8]
theorem iUe {a b : Int} (h : a = b) : (iU a : AV) = iU b := by rw [h]
end
end Go.Proofs.YtneaafigbnjceaaGreatDoor
end

/-! SyK -/
section
namespace Go.Ev
open Go.RowKit
noncomputable section
section
variable {E : Env} {lvl : Nat}
def FrzC (i : Nat) (ds : List DT) (x x' : AC) : Prop := x' = x ∨ ∃ o len sz cap ex r, x = .slc i o len sz cap ex ∧ x' = .dp (.s r len sz) ∧ takeL (dropL ds o) (len * sz) = some r
def FrzE (i : Nat) (ds : List DT) : AE → AE → Prop
 | .one x, .one x' => FrzC i ds x x'
 | .agg l, .agg l' => All2 (FrzC i ds) l l'
 | _, _ => False
def FrzV (i : Nat) (ds : List DT) : AV → AV → Prop
 | .e x, .e x' => FrzE i ds x x'
 | .tup l, .tup l' => All2 (FrzE i ds) l l'
 | _, _ => False
theorem DT.Rl.of_all2 {m : M} : ∀ {ds : List DT} {ys : List Value}, All2 (CR m) (ds.map DT.ac) ys → DT.Rl m.F ds ys
 | [], _, _ => by simp [DT.Rl]
 | d :: ds, [], h => h.elim
 | d :: ds, y :: ys, h => by
  simp only [DT.Rl]
  refine ⟨y, ys, rfl, ?_, DT.Rl.of_all2 h.2⟩
  have h1 : CR m d.ac y := h.1
  cases d with
  | v x => simpa [DT.R, DT.ac, CR] using h1
  | s c n sz => exact h1
theorem DT.Rl.more {F : List (Nat × List Value)} : ∀ {l : List DT} {ys zs : List Value}, DT.Rl F l ys → DT.Rl F l (ys ++ zs)
 | [], _, _, _ => by simp [DT.Rl]
 | d :: l, ys, zs, r => by
  simp only [DT.Rl] at r ⊢
  obtain ⟨y, r', rfl, h1, h2⟩ := r
  exact ⟨y, r' ++ zs, rfl, h1, DT.Rl.more h2⟩
theorem CR.rest {m m2 : M} {w : World} {i : Nat} {ds : List DT} {N el : Nat} {fl : Bool} (B : BR m w i ⟨ds.map DT.ac, N, el, fl, .cells⟩) {c : Array Value} {fz : Nat × Nat} (hc : w.heap[m.ρ i]? = some (.cells c el fz)) (hF : ∀ p ∈ m.F, p ∈ m2.F) (hp : (m.ρ i, c.toList) ∈ m2.F)
  {o len sz cap : Nat} {ex : Bool} {r : List DT} (hr : takeL (dropL ds o) (len * sz) = some r) {y : Value} (hy : CR m (.slc i o len sz cap ex) y) : DV.R m2.F (.s r len sz) y := by
 obtain ⟨hb, cc, o', rfl, g0, g1, g1', g2, g3, g4⟩ := hy
 obtain ⟨b1, b2, c', fz', b3, b4, b5, b6, b7⟩ := B
 have b3 : w.heap[m.ρ i]? = some (.cells c' el fz') := b3
 rw [hc] at b3
 simp only [Option.some.injEq, Obj.cells.injEq] at b3
 obtain ⟨rfl, _, _⟩ := b3
 show DT.R m2.F (.s r len sz) _
 simp only [DT.R]
 rcases Nat.eq_zero_or_pos len with rfl | h0
 ·exact .inl ⟨rfl, _, _, rfl⟩
 ·obtain rfl : o' = o := by rcases g0 with g0 | g0 <;> omega
  obtain ⟨t1, rfl⟩ := takeL_some hr
  rw [dropL_eq] at t1
  have hsz : c.toList.length = m.κ i := by simpa using b4
  refine .inr ⟨h0, m.ρ i, o', cc, c.toList, rfl, by omega, g2, hp, by omega, by rw [dropL_eq, List.length_take]; omega, ?_⟩
  have hR := ((DT.Rl.of_all2 (m := m) b7).mono hF).more (zs := c.toList.drop N)
  rw [List.take_append_drop] at hR
  rw [dropL_eq]
  exact (hR.drop o').pre (len * sz)
theorem FrzC.sound {m m2 : M} {w : World} {i : Nat} {ds : List DT} {N el : Nat} {fl : Bool} (B : BR m w i ⟨ds.map DT.ac, N, el, fl, .cells⟩) {c : Array Value} {fz : Nat × Nat} (hc : w.heap[m.ρ i]? = some (.cells c el fz)) {bs : Nat} (hle : M.leG bs m m2) (hp : (m.ρ i, c.toList) ∈ m2.F)
  {x x' : AC} {y : Value} (h : FrzC i ds x x') (hy : CR m x y) : CR m2 x' y := by
 rcases h with rfl | ⟨o, len, sz, cap, ex, r, rfl, rfl, hr⟩
 ·exact CR.monoG hle hy
 ·exact CR.rest B hc hle.F hp hr hy
theorem all2_map {α β γ : Type} {R : α → β → Prop} {T : α → γ → Prop} {S : γ → β → Prop} (hi : ∀ a b c, T a c → R a b → S c b) : ∀ {l : List α} {l' : List γ} {ys : List β}, All2 T l l' → All2 R l ys → All2 S l' ys
 | [], [], [], _, _ => trivial
 | _ :: _, _ :: _, _ :: _, h1, h2 => ⟨hi _ _ _ h1.1 h2.1, all2_map hi h1.2 h2.2⟩
 | [], [], _ :: _, _, h => h.elim
 | [], _ :: _, _, h, _ => h.elim
 | _ :: _, [], _, h, _ => h.elim
 | _ :: _, _ :: _, [], _, h => h.elim
theorem FrzE.sound {m m2 : M} {w : World} {i : Nat} {ds : List DT} {N el : Nat} {fl : Bool} (B : BR m w i ⟨ds.map DT.ac, N, el, fl, .cells⟩) {c : Array Value} {fz : Nat × Nat} (hc : w.heap[m.ρ i]? = some (.cells c el fz)) {bs : Nat} (hle : M.leG bs m m2) (hp : (m.ρ i, c.toList) ∈ m2.F) :
  ∀ {x x' : AE} {y : Value}, FrzE i ds x x' → ER m x y → ER m2 x' y
 | .one _, .one _, _, h, hy => FrzC.sound B hc hle hp h hy
 | .agg _, .agg _, _, h, hy => by
  obtain ⟨cs, h1, h2⟩ := hy
  exact ⟨cs, h1, all2_map (R := CR m) (T := FrzC i ds) (S := CR m2) (fun a b c' h0 h3 => FrzC.sound B hc hle hp h0 h3) (show All2 (FrzC i ds) _ _ from h) h2⟩
 | .one _, .agg _, _, h, _ => h.elim
 | .agg _, .one _, _, h, _ => h.elim
theorem FrzV.sound {m m2 : M} {w : World} {i : Nat} {ds : List DT} {N el : Nat} {fl : Bool} (B : BR m w i ⟨ds.map DT.ac, N, el, fl, .cells⟩) {c : Array Value} {fz : Nat × Nat} (hc : w.heap[m.ρ i]? = some (.cells c el fz)) {bs : Nat} (hle : M.leG bs m m2) (hp : (m.ρ i, c.toList) ∈ m2.F) :
  ∀ {x x' : AV} {y : Value}, FrzV i ds x x' → VR m x y → VR m2 x' y
 | .e _, .e _, _, h, hy => FrzE.sound B hc hle hp h hy
 | .tup _, .tup _, _, h, hy => by
  obtain ⟨cs, h1, h2⟩ := hy
  exact ⟨cs, h1, all2_map (R := ER m) (T := FrzE i ds) (S := ER m2) (fun a b c' h0 h3 => FrzE.sound B hc hle hp h0 h3) (show All2 (FrzE i ds) _ _ from h) h2⟩
 | .e _, .tup _, _, h, _ => h.elim
 | .tup _, .e _, _, h, _ => h.elim
theorem HR.freeze {m : M} {base : Nat} {h : Heap} {w : World} (H : HR m base lvl h w) {i : Nat} {ds : List DT} {N el : Nat} {fl : Bool} (hi : h[i]? = some (some ⟨ds.map DT.ac, N, el, fl, .cells⟩)) (hl : lvl ≤ i) :
  ∃ m2, HR m2 base lvl (h.set i none) w ∧ M.leG base m m2 ∧ m2.n = m.n ∧ m2.ρ = m.ρ ∧ m2.κ = m.κ ∧ (∀ x x' y, FrzV i ds x x' → VR m x y → VR m2 x' y) ∧ (∀ x x' y, FrzC i ds x x' → CR m x y → CR m2 x' y) := by
 have B := H.blk i _ hi rfl
 obtain ⟨b1, b2, c, fz, b3, b4, b5, b6, b7⟩ := id B
 have hil := (List.getElem?_eq_some_iff.1 hi).1
 let m2 : M := { n := m.n, ρ := m.ρ, κ := m.κ, lo := m.lo, F := (m.ρ i, c.toList) :: m.F }
 have hle : M.leG base m m2 := ⟨Nat.le_refl _, fun _ _ => rfl, fun _ _ => rfl, rfl, fun p hp => List.mem_cons_of_mem _ hp, fun p hp => by
  rcases List.mem_cons.1 hp with rfl | hp
  ·exact .inr (H.own i hl hil)
  ·exact .inl hp⟩
 have hK := H.kill i
 refine ⟨m2, ⟨hK.n, hK.lvlLe, hK.baseLe, fun b a hb => (hK.ent b a hb).monoG hle (by rw [hK.n]; exact (List.getElem?_eq_some_iff.1 hb).1), hK.own, hK.inj, hK.lo, fun p hp => ?_⟩, hle, rfl, rfl, rfl,
  fun x x' y hx hy => FrzV.sound B b3 hle (List.mem_cons_self ..) hx hy, fun x x' y hx hy => FrzC.sound B b3 hle (List.mem_cons_self ..) hx hy⟩
 rcases List.mem_cons.1 hp with rfl | hp
 ·refine ⟨⟨c, el, fz, b3, rfl⟩, fun b a hb ha he => ?_⟩
  have ha' := alive_set ha
  exact ha'.2 (H.inj b i (List.getElem?_eq_some_iff.1 ha'.1).1 hil ⟨a, ha'.1⟩ ⟨_, hi⟩ (.inr (Nat.le_trans H.lo hl)) he)
 ·exact hK.tab p hp
theorem cOut_freeze {f : FuncId} {hin : Heap} {args : List AV} {v v' : AV} {hout : Heap} (i : Nat) {ds : List DT} {N el : Nat} {fl : Bool} (hc : COut E lvl hin f args v hout) (hi : getL hout i = some (some ⟨ds.map DT.ac, N, el, fl, .cells⟩)) (hl : lvl ≤ i) (hv : FrzV i ds v v') :
  COut E lvl hin f args v' (setL hout i none) := by
 rw [getL_eq] at hi
 rw [setL_eq]
 intro m base w argsC ha H G
 refine (hc m base w argsC ha H G).mono fun e w' ⟨y, hy, m1, hp⟩ => ⟨y, hy, ?_⟩
 obtain ⟨m2, H2, hle, hn, hρ, hκ, hV, _⟩ := hp.heap.freeze hi hl
 exact ⟨m2, hp.le.trans hle, hV _ _ _ hv hp.val, H2, hp.below⟩
def LendC (h : Heap) (x x' : AC) : Prop := (x' = x ∧ x.refs = []) ∨ ∃ i o len sz cap ex r ds N el fl, x = .slc i o len sz cap ex ∧ x' = .dp (.s r len sz) ∧ getL h i = some (some ⟨ds.map DT.ac, N, el, fl, .cells⟩) ∧ takeL (dropL ds o) (len * sz) = some r
def LendE (h : Heap) : AE → AE → Prop
 | .one x, .one x' => LendC h x x'
 | .agg l, .agg l' => All2 (LendC h) l l'
 | _, _ => False
def LendV (h : Heap) : AV → AV → Prop
 | .e x, .e x' => LendE h x x'
 | _, _ => False
theorem lendTabs {m : M} {base : Nat} {w : World} : ∀ (h : Heap), (∀ b a, h[b]? = some (some a) → EntR m w b a) → ∀ k, k ≤ h.length → ∃ F : List (Nat × List Value), (∀ p ∈ F, ∃ (c : Array Value) (t : TypeId) (fz : Nat × Nat), w.heap[p.1]? = some (.cells c t fz) ∧ c.toList = p.2) ∧
  ∀ i a, i < k → h[i]? = some (some a) → a.ext = .cells → ∃ (c : Array Value) (fz : Nat × Nat), w.heap[m.ρ i]? = some (.cells c a.elem fz) ∧ (m.ρ i, c.toList) ∈ F
 | h, hent, 0, _ => ⟨[], by simp, fun i a hi => by omega⟩
 | h, hent, k + 1, hk => by
  obtain ⟨F, h1, h2⟩ := lendTabs (base := base) h hent k (by omega)
  by_cases hx : ∃ a, h[k]? = some (some a) ∧ a.ext = .cells
  ·obtain ⟨a, ha, hc⟩ := hx
   obtain ⟨b1, b2, c, fz, b3, _⟩ := (hent k a ha).1 hc
   refine ⟨(m.ρ k, c.toList) :: F, fun p hp => ?_, fun i a' hi ha' hc' => ?_⟩
   ·rcases List.mem_cons.1 hp with rfl | hp
    ·exact ⟨c, a.elem, fz, b3, rfl⟩
    ·exact h1 p hp
   ·by_cases hik : i = k
    ·subst hik
     rw [ha] at ha'
     simp only [Option.some.injEq] at ha'
     subst ha'
     exact ⟨c, fz, b3, List.mem_cons_self ..⟩
    ·obtain ⟨c', fz', g1, g2⟩ := h2 i a' (by omega) ha' hc'
     exact ⟨c', fz', g1, List.mem_cons_of_mem _ g2⟩
  ·refine ⟨F, h1, fun i a' hi ha' hc' => ?_⟩
   by_cases hik : i = k
   ·subst hik; exact absurd ⟨a', ha', hc'⟩ hx
   ·exact h2 i a' (by omega) ha' hc'
theorem cOut_lend {f : FuncId} {args args' : List AV} {v : AV} (h : Heap) (hc : COut E 0 [] f args' v []) (ha : All2 (LendV h) args args') (hv : v.refs = []) (hf : v.flat = true) : COut E lvl h f args v h := by
 intro m base w argsC hA H G
 obtain ⟨F, h1, h2⟩ := lendTabs (base := base) h H.ent h.length (Nat.le_refl _)
 let mc : M := { n := 0, ρ := m.ρ, κ := m.κ, lo := 0, F := F ++ m.F }
 have Hc : HR mc w.heap.size 0 [] w := ⟨rfl, Nat.le_refl _, Nat.le_refl _, fun b a hb => by simp at hb, fun b _ hb => by simp at hb, fun b b' hb => by simp at hb, Nat.le_refl _, fun p hp => ⟨by
  rcases List.mem_append.1 hp with hp | hp
  ·exact h1 p hp
  ·exact (H.tab p hp).1, fun b a _ hb => by simp at hb⟩⟩
 let mg : M := { n := m.n, ρ := m.ρ, κ := m.κ, lo := m.lo, F := F ++ m.F }
 have lc : ∀ x x' y, LendC h x x' → CR m x y → CR mc x' y := by
  intro x x' y hx hy
  rcases hx with ⟨rfl, hr⟩ | ⟨i, o, len, sz, cap, ex, r, ds, N, el, fl, rfl, rfl, hi, hr⟩
  ·exact CR.free (m1 := m) (m2 := mc) (fun p hp => List.mem_append_right _ hp) hr hy
  ·rw [getL_eq] at hi
   obtain ⟨c, fz, g1, g2⟩ := h2 i _ (List.getElem?_eq_some_iff.1 hi).1 hi rfl
   exact CR.rest (m2 := mc) (H.blk i _ hi rfl) g1 (fun p hp => List.mem_append_right _ hp) (List.mem_append_left _ g2) hr hy
 have lv : ∀ x y x', LendV h x x' → VR m x y → VR mc x' y := by
  intro x y x' hx hy
  match x, x', hx with
  | .e (.one x), .e (.one x'), hx => exact lc x x' y hx hy
  | .e (.agg l), .e (.agg l'), hx =>
   obtain ⟨cs, k1, k2⟩ := hy
   exact ⟨cs, k1, all2_map (R := CR m) (T := LendC h) (S := CR mc) (fun a b c' h0 h3 => lc a c' b h0 h3) (show All2 (LendC h) _ _ from hx) k2⟩
 have hA' : All2 (VR mc) args' argsC.toList := all2_map (R := VR m) (T := LendV h) (S := VR mc) (fun a b c' h0 h3 => lv a b c' h0 h3) ha hA
 refine (hc mc w.heap.size w argsC hA' Hc (G.up H.baseLe)).mono fun e w' ⟨y, hy, m1, hp⟩ => ⟨y, hy, m, M.leG.refl _ m, ?_, H.world hp.below.size hp.below.block, hp.below.mono H.baseLe⟩
 have hd := VR.downG hp.le (.inl hf) (fun b hb => by rw [hv] at hb; simp at hb) hp.val
 -- nothing in it leads anywhere
 have flatC : ∀ (x : AC) (y : Value), x.flat = true → x.refs = [] → CR mc x y → CR m x y := fun x y hf hr h => by
  cases x with
  | v _ => exact h
  | any _ => exact h
  | dp _ => simp [AC.flat] at hf
  | ptr => simp [AC.refs] at hr
  | slc => simp [AC.refs] at hr
  | yld => simp [AC.refs] at hr
  | mp => simp [AC.refs] at hr
  | clo g fs cs =>
   simp only [AC.refs, List.append_eq_nil_iff] at hr
   simp only [AC.flat, Bool.and_eq_true] at hf
   obtain ⟨vf, vc, hy, h1, h2⟩ := h
   have key : ∀ {l : List CE}, l.flatMap CE.refs = [] → (l.all fun e => e.atoms.all CA.flat) = true → ∀ e ∈ l, ∀ c ∈ e.atoms, ∀ y, CR mc c.ac y → CR m c.ac y := fun {l} hl hfl e he c hc y hr' => by
    have h0 : c.refs = [] := List.flatMap_eq_nil_iff.1 (List.flatMap_eq_nil_iff.1 hl e he) c hc
    have h3 := List.all_eq_true.1 (List.all_eq_true.1 hfl e he) c hc
    cases c with
    | v _ => exact hr'
    | dp _ => simp [CA.flat] at h3
    | _ => simp [CA.refs] at h0
   exact ⟨vf, vc, hy, CEs.to (key hr.1 hf.1) h1, CEs.to (key hr.2 hf.2) h2⟩
 have flatE : ∀ (x : AE) (y : Value), x.flat = true → x.refs = [] → ER mc x y → ER m x y := fun x y hf hr h => by
  cases x with
  | one x => exact flatC x y hf hr h
  | agg l =>
   obtain ⟨cs, k1, k2⟩ := h
   simp only [AE.refs, List.flatMap_eq_nil_iff] at hr
   exact ⟨cs, k1, all2_free (fun a ha b hb => flatC a b (List.all_eq_true.1 hf a ha) (hr a ha) hb) k2⟩
 cases v with
 | e x => exact flatE x y hf hv hd
 | tup l =>
  obtain ⟨cs, k1, k2⟩ := hd
  simp only [AV.refs, List.flatMap_eq_nil_iff] at hv
  exact ⟨cs, k1, all2_free (fun a ha b hb => flatE a b (List.all_eq_true.1 hf a ha) (hv a ha) hb) k2⟩
end
end
end Go.Ev
end

/-! SyL -/
section
namespace Go.Ev
open Go.RowKit
noncomputable section
variable {E : Env} {rec : RunT} {lvl K : Nat} {r : Res → Prop} {rd : Option Nat}
end
end Go.Ev
end

/-! SyO -/
section
namespace Go.Ev
open Go.RowKit
noncomputable section
section
variable {E : Env} {lvl K : Nat} {rd : Option Nat} {Φ : Res → Prop}
def FrzB (i : Nat) (ds : List DT) : Option AB → Option AB → Prop
 | none, none => True
 | some a, some a' => a' = a ∨ (a.ext = .cells ∧ a'.ext = .cells ∧ a'.n = a.n ∧ a'.elem = a.elem ∧ a'.full = a.full ∧ All2 (FrzC i ds) a.cells a'.cells)
 | _, _ => False
theorem all2_len {α β : Type} {R : α → β → Prop} : ∀ {l : List α} {ys : List β}, All2 R l ys → l.length = ys.length
 | [], [], _ => rfl
 | _ :: _, _ :: _, h => by simp [all2_len h.2]
theorem outK_freeze (i : Nat) {ds : List DT} {N el : Nat} {fl : Bool} {h h' : Heap} {todo : List Item} {tm tm' : Tm} (hi : getL h i = some (some ⟨ds.map DT.ac, N, el, fl, .cells⟩)) (hl : lvl ≤ i)
  (hh : All2 (FrzB i ds) (setL h i none) h') (ht : All2 (FrzV i ds) tm tm') (ho : OutK E lvl K ⟨h', todo, tm'⟩ Φ rd) : OutK E lvl K ⟨h, todo, tm⟩ Φ rd := by
 rw [getL_eq] at hi
 rw [setL_eq] at hh
 refine .before (s' := ⟨h', todo, tm'⟩) (fun fr t cs w m base hT H G => ?_) ho
 obtain ⟨m2, H2, hle, hn, hρ, hκ, hV, hC⟩ := HR.freeze H hi hl
 have hlen := all2_len hh
 have back : ∀ (b : Nat) (a' : AB), h'[b]? = some (some a') → ∃ a : AB, (h.set i none)[b]? = some (some a) ∧ (a' = a ∨ (a.ext = .cells ∧ a'.ext = .cells ∧ a'.n = a.n ∧ a'.elem = a.elem ∧ a'.full = a.full ∧ All2 (FrzC i ds) a.cells a'.cells)) := by
  intro b a' hb
  obtain ⟨x, hx, hr⟩ := hh.get' hb
  cases x with
  | none => exact hr.elim
  | some a => exact ⟨a, hx, hr⟩
 have hxm : ∀ {x x' : AC} {y : Value}, FrzC i ds x x' → CR m2 x y → CR m x y ∨ CR m2 x' y := fun {x x' y} hf hy => by
  rcases hf with rfl | _
  ·exact .inr hy
  ·left
   rename_i hf
   obtain ⟨o, len, sz, cap, ex, r, rfl, rfl, hr⟩ := hf
   obtain ⟨hb, c, o', hy', rest⟩ := hy
   exact ⟨by rw [← hn]; exact hb, c, o', by rw [← hρ]; exact hy', by rw [← hκ]; exact rest⟩
 refine ⟨t, w, m2, .refl _ _, all2_map (R := VR m) (T := FrzV i ds) (S := VR m2) (fun a b c h0 h3 => hV a c b h0 h3) ht hT, ⟨by rw [H2.n, hlen], by rw [← hlen]; exact H2.lvlLe, H2.baseLe, fun b a' hb => ?_, fun b hb hb2 => H2.own b hb (by rw [hlen]; exact hb2), ?_, H2.lo, fun p hp => ⟨(H2.tab p hp).1, fun b a' hb ha => ?_⟩⟩, hle, Below.refl _ _⟩
 ·obtain ⟨a, ha, hr⟩ := back b a' hb
  rcases hr with rfl | ⟨r1, r2, r3, r4, r5, r6⟩
  ·exact H2.ent b a' ha
  ·obtain ⟨B, _⟩ := H2.ent b a ha
   obtain ⟨b1, b2, c, fz, b3, b4, b5, b6, b7⟩ := B r1
   refine ⟨fun _ => ⟨by rw [← all2_len r6, b1, r3], fun hf => by rw [r3]; exact b2 (by rw [← r5]; exact hf), c, fz, by rw [r4]; exact b3, b4, b5, by rw [r3]; exact b6, ?_⟩, by rw [r2]; trivial⟩
   rw [r3]
   exact all2_map (R := CR m2) (T := FrzC i ds) (S := CR m2) (fun x y x' h0 h3 => (hxm h0 h3).elim (fun h => hC x x' y h0 h) id) r6 b7
 ·intro b b' hb hb' h1 h2 h3 h4
  refine H2.inj b b' (by rw [hlen]; exact hb) (by rw [hlen]; exact hb') ?_ ?_ h3 h4
  ·obtain ⟨a, ha⟩ := h1; obtain ⟨a0, h0, _⟩ := back b a ha; exact ⟨a0, h0⟩
  ·obtain ⟨a, ha⟩ := h2; obtain ⟨a0, h0, _⟩ := back b' a ha; exact ⟨a0, h0⟩
 ·obtain ⟨a, ha0, _⟩ := back b a' ha
  exact (H2.tab p hp).2 b a hb ha0
end
end
end Go.Ev
end

/-! SyArg -/
section
namespace Go.Ev
open Go.RowKit Go.WideShapes Go.ChangeShapes
noncomputable section
theorem cells_block {W : World} {b o n : Nat} {vs : List Value} (h : W.cells? 0 ⟨b, o, none⟩ n = some vs) (h0 : 0 < n) :
  ∃ (c : Array Value) (ty : TypeId) (fz : Nat × Nat), W.heap[b]? = some (.cells c ty fz) ∧ o + n ≤ c.size ∧ vs = (c.toList.drop o).take n := by
 unfold World.cells? at h
 rw [if_pos (Nat.zero_le _)] at h
 have hl : vs.length = n := by simpa using mapM_some_length h
 have hg : ∀ i, i < n → W.cell? ⟨b, o + i, none⟩ = vs[i]? := fun i hi => by
  have := mapM_some_get h i i (by simp [hi])
  rwa [add_plain] at this
 have h1 := hg 0 h0
 rw [List.getElem?_eq_getElem (by omega)] at h1
 unfold World.cell? at h1
 split at h1
 ·rename_i c ty fz hc
  have hg' : ∀ i, i < n → c[o + i]? = vs[i]? := fun i hi => by
   have := hg i hi
   simpa [World.cell?, hc] using this
  have hlast := hg' (n - 1) (by omega)
  rw [List.getElem?_eq_getElem (by omega)] at hlast
  have hsz : o + (n - 1) < c.size := by
   rcases Nat.lt_or_ge (o + (n - 1)) c.size with hh | hh
   ·exact hh
   ·rw [Array.getElem?_eq_none hh] at hlast; simp at hlast
  refine ⟨c, ty, fz, hc, by omega, ?_⟩
  apply List.ext_getElem?
  intro i
  by_cases hi : i < n
  ·rw [← hg' i hi, List.getElem?_take, if_pos hi, List.getElem?_drop, Array.getElem?_toList]
  ·rw [List.getElem?_eq_none (by omega), List.getElem?_take, if_neg hi]
 ·simp at h1
section
variable {H : Type} {enc : TypeId × Value → H} {P : Program} {W : World}
theorem read_slice {t e : TypeId} {sz fuel : Nat} {held : Bool} {a : Option Addr} {len cap : Nat} {x : DataW H × List MemPlace} (ht : P.underlying t = some (.slice e)) (hsz : P.cellsOf e = sz) (h0 : 0 < sz)
  (h : DataW.trod enc P W 0 (fun _ => true) held fuel t [.slice a len cap] = some x) :
  len = 0 ∨ ∃ (b o : Nat) (c : Array Value) (ty : TypeId) (fz : Nat × Nat) (n : Nat), a = some ⟨b, o, none⟩ ∧ 0 < len ∧ len ≤ cap ∧ cap ≤ maxLen ∧ W.heap[b]? = some (.cells c ty fz) ∧ o + cap * sz ≤ c.size ∧
   ∀ i, i < len → ∃ y, DataW.trod enc P W 0 (fun _ => true) held n e ((c.toList.drop (o + i * sz)).take sz) = some y := by
 rcases DataW.trod_slice ht h with ⟨h1, _⟩ | ⟨a', len', cap', elems, rest, n, _, h1, _, hb, hl, hm, hlen, hel, hsp, _⟩
 ·simp only [List.cons.injEq, Value.slice.injEq, and_true] at h1
  exact .inl h1.2.1
 simp only [List.cons.injEq, Value.slice.injEq, and_true] at h1
 obtain ⟨rfl, rfl, rfl⟩ := h1
 by_cases hz : len = 0
 ·exact .inl hz
 obtain ⟨hrl, hr⟩ := hsp rfl
 rw [hsz] at hel hr
 have all : ∀ i, i < cap → ∃ vs y, W.cells? 0 (a'.add (i * sz)) sz = some vs ∧ DataW.trod enc P W 0 (fun _ => true) held n e vs = some y := fun i hi => by
  by_cases hil : i < len
  ·have := hel i hil
   rw [List.getElem?_eq_getElem (by omega)] at this
   obtain ⟨vs, h2, h3⟩ := Option.bind_eq_some_iff.1 this
   exact ⟨vs, _, h2, h3⟩
  ·have := hr (i - len) (by omega)
   rw [List.getElem?_eq_getElem (by omega), show len + (i - len) = i by omega] at this
   obtain ⟨vs, h2, h3⟩ := Option.bind_eq_some_iff.1 this
   exact ⟨vs, _, h2, h3⟩
 obtain ⟨b, o, spot⟩ := a'
 have hspot : spot = none := by
  obtain ⟨vs, _, h2, _⟩ := all 0 (by omega)
  unfold World.cells? at h2
  rw [if_pos (Nat.zero_le _)] at h2
  have hl2 : vs.length = sz := by simpa using mapM_some_length h2
  have h3 := mapM_some_get h2 0 0 (by simp [h0])
  rw [List.getElem?_eq_getElem (by omega)] at h3
  simpa [Addr.add] using World.cell?_spot h3
 subst hspot
 obtain ⟨vs0, _, h2, _⟩ := all 0 (by omega)
 rw [add_plain] at h2
 obtain ⟨c, ty, fz, hc, _, _⟩ := cells_block h2 h0
 refine .inr ⟨b, o, c, ty, fz, n, rfl, by omega, hl, hm, hc, ?_, fun i hi => ?_⟩
 ·obtain ⟨vs1, _, h3, _⟩ := all (cap - 1) (by omega)
  rw [add_plain] at h3
  obtain ⟨c', ty', fz', hc', hle, _⟩ := cells_block h3 h0
  rw [hc] at hc'
  simp only [Option.some.injEq, Obj.cells.injEq] at hc'
  obtain ⟨rfl, _⟩ := hc'
  have : (cap - 1) * sz + sz = cap * sz := by rw [← Nat.succ_mul, Nat.succ_eq_add_one, show cap - 1 + 1 = cap by omega]
  omega
 ·obtain ⟨vs1, y, h3, h4⟩ := all i (by omega)
  rw [add_plain] at h3
  obtain ⟨c', ty', fz', hc', _, rfl⟩ := cells_block h3 h0
  rw [hc] at hc'
  simp only [Option.some.injEq, Obj.cells.injEq] at hc'
  obtain ⟨rfl, _⟩ := hc'
  exact ⟨y, h4⟩
theorem byte_of_wf {z : Int} (h : (Lit.int .u8 z).wf = true) : ∃ b : UInt8, z = b.toNat := by
 have := bounds_u8 h
 refine ⟨UInt8.ofNat z.toNat, ?_⟩
 rw [UInt8.toNat_ofNat']
 omega
theorem bytes_list : ∀ (cs : List Value), (∀ i, i < cs.length → ∃ b : UInt8, cs[i]? = some (.int .u8 b.toNat)) → ∃ l : List UInt8, l.length = cs.length ∧ cs = l.map fun b => Value.int .u8 b.toNat
 | [], _ => ⟨[], rfl, rfl⟩
 | v :: cs, h => by
  obtain ⟨b, hb⟩ := h 0 (by simp)
  simp only [List.getElem?_cons_zero, Option.some.injEq] at hb
  obtain ⟨l, h1, h2⟩ := bytes_list cs (fun i hi => by
   obtain ⟨b, hb⟩ := h (i + 1) (by simp; omega)
   exact ⟨b, by simpa using hb⟩)
  exact ⟨b :: l, by simp [h1], by rw [List.map_cons, ← h2, hb]⟩
theorem read_bytes {t e : TypeId} {n fuel : Nat} {held : Bool} {base : Nat} {sp : Nat → Bool} {cs : List Value} {x : DataW H × List MemPlace} (ht : P.underlying t = some (.array n e)) (he : P.underlying e = some (.int .u8)) (hc : P.cellsOf e = 1) (hct : P.cellsOf t = n)
  (h : DataW.trod enc P W base sp held fuel t cs = some x) : ∃ l : List UInt8, l.length = n ∧ cs = l.map fun b => Value.int .u8 b.toNat := by
 obtain ⟨xs, m, rfl, _, hlen, hn, hel⟩ := DataW.trod_array ht h
 rw [hct] at hlen
 obtain ⟨l, h1, h2⟩ := bytes_list cs (fun i hi => by
  have h1 := hel i (by omega)
  rw [hc, Nat.mul_one, List.getElem?_eq_getElem (by omega)] at h1
  obtain ⟨z, hcell, _, hw⟩ := DataW.trod_int he h1
  obtain ⟨b, rfl⟩ := byte_of_wf hw
  have e2 : ((cs.drop i).take 1)[0]? = some (.int .u8 b.toNat) := by rw [hcell]; rfl
  rw [List.getElem?_take, if_pos (by omega), List.getElem?_drop] at e2
  exact ⟨b, by simpa using e2⟩)
 exact ⟨l, by omega, h2⟩
end
def ElemsAt (C : List AC) (o w : Nat) (xs : List (List UInt8)) : Prop := ∀ k x, xs[k]? = some x → x.length = w ∧ takeL (dropL C (o + k * w)) w = some (x.map u8c)
def SlOk (b sz : Nat) (C : List AC) (x : AC) (n : Nat) (xs : List (List UInt8)) : Prop :=
 xs.length = n ∧ (∀ y ∈ xs, y.length = sz) ∧ ((n = 0 ∧ ∃ p c, x = .v (.slice p 0 c)) ∨ (0 < n ∧ ∃ o cap ex, x = .slc b o n sz cap ex ∧ ElemsAt C o sz xs))
theorem SlOk.opq {b sz n K : Nat} {C : List AC} {x : AC} {xs : List (List UInt8)} (h : SlOk b sz C x n xs) (hK : b < K) : OpqC K x := by
 obtain ⟨_, _, ⟨rfl, p, c, rfl⟩ | ⟨_, o, cap, ex, rfl, _⟩⟩ := h
 ·intro k hk; simp [AC.refs] at hk
 ·intro k hk; simp [AC.refs] at hk; omega
theorem SlOk.below {b sz n K : Nat} {C : List AC} {x : AC} {xs : List (List UInt8)} (h : SlOk b sz C x n xs) (hK : b < K) : refsBelow K (AV.refs (.e (.one x))) = true := by
 have := h.opq hK
 simpa [refsBelow, AV.refs, AE.refs, OpqC] using this
theorem elems_take : ∀ {xs : List (List UInt8)} {C : List AC} {o w : Nat}, ElemsAt C o w xs → xs ≠ [] ∨ o ≤ C.length → takeL (dropL C o) (xs.length * w) = some (xs.flatten.map u8c)
 | [], C, o, w, _, _ => by simp [takeL_eq]
 | x :: xs, C, o, w, h, _ => by
  obtain ⟨hw, hx⟩ := h 0 x rfl
  rw [takeL_eq, dropL_eq, Nat.zero_mul, Nat.add_zero] at hx
  split at hx
  ·rename_i hle
   simp only [Option.some.injEq, List.length_drop] at hx hle
   by_cases hw0 : w = 0
   ·subst hw0
    have hall : ∀ y ∈ xs, y = [] := fun y hy => by
     obtain ⟨k, hk⟩ := List.getElem?_of_mem hy
     have := (h (k + 1) y (by simpa using hk)).1
     exact List.eq_nil_of_length_eq_zero this
    have hx0 : x = [] := List.eq_nil_of_length_eq_zero hw
    have : (x :: xs).flatten = [] := by
     rw [List.flatten_eq_nil_iff]
     intro l hl
     rcases List.mem_cons.1 hl with rfl | hl
     ·exact hx0
     ·exact hall l hl
    rw [this, takeL_eq]
    simp
   ·have ih := elems_take (xs := xs) (C := C) (o := o + w) (w := w) (fun k y hk => by
     have := h (k + 1) y (by simpa using hk)
     rwa [show o + (k + 1) * w = o + w + k * w by rw [Nat.succ_mul]; omega] at this) (.inr (by omega))
    rw [takeL_eq, dropL_eq] at ih ⊢
    split at ih
    ·rename_i hle2
     simp only [Option.some.injEq, List.length_drop] at ih hle2
     have e : (x :: xs).length * w = w + xs.length * w := by rw [List.length_cons, Nat.succ_mul]; omega
     rw [e, if_pos (by rw [List.length_drop]; omega), List.take_add, hx, List.drop_drop, ih, List.flatten_cons, List.map_append]
    ·simp at ih
  ·simp at hx
theorem blk_some {h : Heap} {b : Nat} {C : List AC} {N : Nat} {ty : TypeId} {fl : Bool} (hb : getL h b = some (some ⟨C, N, ty, fl, .cells⟩)) : blk h b = some ⟨C, N, ty, fl, .cells⟩ := by
 unfold blk
 rw [hb]
theorem all_isOne (l : List UInt8) : (l.map u8c).all AC.isOne = true := by
 rw [List.all_eq_true]
 intro c hc
 obtain ⟨x, _, rfl⟩ := List.mem_map.1 hc
 rfl
theorem SlOk.copy {b sz bytes n : Nat} {C : List AC} {x : AC} {xs : List (List UInt8)} (hs : SlOk b sz C x n xs) {h : Heap} {N : Nat} {ty : TypeId} {fl : Bool} (hb : getL h b = some (some ⟨C, N, ty, fl, .cells⟩)) (hm : small (0 + n) sz bytes = true) :
  CopyOk h sz bytes (.e (.one x)) n (xs.flatten.map u8c) (decide (n = 0)) := by
 obtain ⟨hl, _, ⟨rfl, p, c, rfl⟩ | ⟨h0, o, cap, ex, rfl, hC⟩⟩ := hs
 ·have : xs = [] := List.eq_nil_of_length_eq_zero hl
  subst this
  exact .inr (.inr (.inl ⟨rfl, rfl, rfl, p, c, rfl⟩))
 ·refine .inr (.inr (.inr ⟨decide_eq_false (by omega), h0, hm, all_isOne _, b, o, cap, ex, _, rfl, blk_some hb, ?_⟩))
  have := elems_take hC (.inl (by intro e; subst e; simp at hl; omega))
  rwa [hl] at this
section
variable {H : Type} {enc : TypeId × Value → H} {P : Program} {W : World}
end
end
end Go.Ev
end

/-! SyList -/
section
namespace Go.Ev
open Go.RowKit Go.WideShapes Go.ChangeShapes
noncomputable section
def S1 (b : Nat) (C : List AC) (x : AC) (n : Nat) (cs : List AC) : Prop :=
 cs.length = n ∧ ((n = 0 ∧ ∃ p c, x = .v (.slice p 0 c)) ∨ (0 < n ∧ ∃ o cap ex, x = .slc b o n 1 cap ex ∧ takeL (dropL C o) n = some cs))
theorem S1.opq {b n K : Nat} {C cs : List AC} {x : AC} (h : S1 b C x n cs) (hK : b < K) : OpqC K x := by
 obtain ⟨_, ⟨rfl, p, c, rfl⟩ | ⟨_, o, cap, ex, rfl, _⟩⟩ := h
 ·intro k hk; simp [AC.refs] at hk
 ·intro k hk; simp [AC.refs] at hk; omega
theorem S1.below {b n K : Nat} {C cs : List AC} {x : AC} (h : S1 b C x n cs) (hK : b < K) : refsBelow K (AV.refs (.e (.one x))) = true := by
 have := h.opq hK
 simpa [refsBelow, AV.refs, AE.refs, OpqC] using this
theorem S1.copy {b bytes n : Nat} {C cs : List AC} {x : AC} (hs : S1 b C x n cs) (h1 : cs.all AC.isOne = true) {h : Heap} {N : Nat} {ty : TypeId} {fl : Bool} (hb : getL h b = some (some ⟨C, N, ty, fl, .cells⟩)) (hm : small (0 + n) 1 bytes = true) :
  CopyOk h 1 bytes (.e (.one x)) n cs (decide (n = 0)) := by
 obtain ⟨hl, ⟨rfl, p, c, rfl⟩ | ⟨h0, o, cap, ex, rfl, hC⟩⟩ := hs
 ·have : cs = [] := List.eq_nil_of_length_eq_zero hl
  subst this
  exact .inr (.inr (.inl ⟨rfl, rfl, rfl, p, c, rfl⟩))
 ·exact .inr (.inr (.inr ⟨decide_eq_false (by omega), h0, hm, h1, b, o, cap, ex, _, rfl, blk_some hb, by rw [Nat.mul_one]; exact hC⟩))
section
variable {H : Type} {enc : TypeId × Value → H} {P : Program} {W : World}
end
end
end Go.Ev
end

/-! SyRd -/
section
namespace Go.Ev
open Go.RowKit Go.WideShapes Go.ChangeShapes
noncomputable section
def AtRest (W : World) (F : List (Nat × List Value)) : Prop := ∀ p ∈ F, ∃ (c : Array Value) (t : TypeId) (fz : Nat × Nat), W.heap[p.1]? = some (.cells c t fz) ∧ c.toList = p.2
theorem AtRest.nil (W : World) : AtRest W [] := fun p hp => by simp at hp
theorem AtRest.app {W : World} {F G : List (Nat × List Value)} (h : AtRest W F) (k : AtRest W G) : AtRest W (F ++ G) := fun p hp => (List.mem_append.1 hp).elim (h p) (k p)
theorem AtRest.cons {W : World} {F : List (Nat × List Value)} {b : Nat} {c : Array Value} {t : TypeId} {fz : Nat × Nat} (h : AtRest W F) (hb : W.heap[b]? = some (.cells c t fz)) : AtRest W ((b, c.toList) :: F) := fun p hp => by
 rcases List.mem_cons.1 hp with rfl | hp
 ·exact ⟨c, t, fz, hb, rfl⟩
 ·exact h p hp
def Rd (W : World) (cs : List Value) (Q : List DT → Prop) : Prop := ∃ (F : List (Nat × List Value)) (ds : List DT), AtRest W F ∧ DT.Rl F ds cs ∧ ds.length = cs.length ∧ Q ds
section
variable {H : Type} {enc : TypeId × Value → H} {P : Program} {W : World}
theorem rd_int {e : TypeId} {k : IntKind} {fuel : Nat} {held : Bool} {sp : Nat → Bool} {cs : List Value} {x : DataW H × List MemPlace} (he : P.underlying e = some (.int k)) (h : DataW.trod enc P W 0 sp held fuel e cs = some x) :
  Rd W cs fun ds => ∃ z : Int, (Lit.int k z).wf = true ∧ ds = [.v (.int k z)] := by
 obtain ⟨z, rfl, _, hw⟩ := DataW.trod_int he h
 exact ⟨[], [.v (.int k z)], AtRest.nil W, ⟨_, [], rfl, by simp [DT.R], by simp [DT.Rl]⟩, rfl, z, hw, rfl⟩
theorem Rl_append {F G : List (Nat × List Value)} : ∀ {l l' : List DT} {ys zs : List Value}, DT.Rl F l ys → l.length = ys.length → DT.Rl G l' zs → DT.Rl (F ++ G) (l ++ l') (ys ++ zs)
 | [], l', [], zs, _, _, h => DT.Rl.mono (fun p hp => List.mem_append_right _ hp) _ _ h
 | [], _, _ :: _, _, _, h, _ => by simp at h
 | d :: l, l', ys, zs, h, hl, h' => by
  simp only [DT.Rl] at h
  obtain ⟨y, r, rfl, h1, h2⟩ := h
  show DT.Rl (F ++ G) (d :: (l ++ l')) (y :: (r ++ zs))
  simp only [DT.Rl]
  exact ⟨y, r ++ zs, rfl, DT.R.mono (fun p hp => List.mem_append_left _ hp) _ _ h1, Rl_append h2 (by simpa using hl) h'⟩
theorem rd_rows {c : List Value} {sz : Nat} {Q : List DT → Prop} : ∀ (n o : Nat), o + n * sz ≤ c.length → (∀ i, i < n → Rd W ((c.drop (o + i * sz)).take sz) Q) →
  ∃ (F : List (Nat × List Value)) (rows : List (List DT)), AtRest W F ∧ rows.length = n ∧ (∀ r ∈ rows, r.length = sz ∧ Q r) ∧ DT.Rl F rows.flatten ((c.drop o).take (n * sz))
 | 0, o, _, _ => ⟨[], [], AtRest.nil W, rfl, by simp, by simp [DT.Rl]⟩
 | n + 1, o, hl, h => by
  rw [Nat.succ_mul] at hl
  obtain ⟨F0, d0, a0, r0, l0, q0⟩ := h 0 (by omega)
  rw [Nat.zero_mul, Nat.add_zero] at r0 l0
  have hlen : ((c.drop o).take sz).length = sz := by rw [List.length_take, List.length_drop]; omega
  rw [hlen] at l0
  obtain ⟨F1, rows, a1, rl, rq, r1⟩ := rd_rows (c := c) (sz := sz) (Q := Q) n (o + sz) (by omega) (fun i hi => by
   have := h (i + 1) (by omega)
   rw [Nat.succ_mul] at this
   rw [show o + sz + i * sz = o + (i * sz + sz) by omega]
   exact this)
  refine ⟨F0 ++ F1, d0 :: rows, a0.app a1, by simp [rl], fun r hr => ?_, ?_⟩
  ·rcases List.mem_cons.1 hr with rfl | hr
   ·exact ⟨l0, q0⟩
   ·exact rq r hr
  ·have e : (c.drop o).take ((n + 1) * sz) = (c.drop o).take sz ++ (c.drop (o + sz)).take (n * sz) := by
    rw [show (n + 1) * sz = sz + n * sz by rw [Nat.succ_mul]; omega, List.take_add, List.drop_drop]
   rw [e, List.flatten_cons]
   exact Rl_append r0 (by rw [l0, hlen]) r1
theorem rd_slice {t e : TypeId} {sz fuel : Nat} {held : Bool} {cs : List Value} {x : DataW H × List MemPlace} {Q : List DT → Prop} (ht : P.underlying t = some (.slice e)) (hsz : P.cellsOf e = sz) (h0 : 0 < sz)
  (rd : ∀ {fuel : Nat} {cs : List Value} {x : DataW H × List MemPlace}, DataW.trod enc P W 0 (fun _ => true) held fuel e cs = some x → Rd W cs Q)
  (hc : ∃ a len cap, cs = [.slice a len cap]) (h : DataW.trod enc P W 0 (fun _ => true) held fuel t cs = some x) :
  Rd W cs fun ds => ∃ rows : List (List DT), rows.length ≤ maxLen ∧ (∀ r ∈ rows, r.length = sz ∧ Q r) ∧ ds = [.s rows.flatten rows.length sz] := by
 obtain ⟨a, len, cap, rfl⟩ := hc
 rcases read_slice ht hsz h0 h with rfl | ⟨b, o, c, ty, fz, n, rfl, hl0, hlc, hcm, hb, hsize, hel⟩
 ·refine ⟨[], [.s [] 0 sz], AtRest.nil W, ⟨_, [], rfl, ?_, by simp [DT.Rl]⟩, rfl, [], by simp, by simp, rfl⟩
  simp only [DT.R]
  exact .inl ⟨trivial, a, cap, rfl⟩
 ·have hmul : len * sz ≤ cap * sz := Nat.mul_le_mul_right _ hlc
  obtain ⟨F, rows, aF, rl, rq, rr⟩ := rd_rows (W := W) (c := c.toList) (sz := sz) (Q := Q) len o (by simp; omega) (fun i hi => by
   obtain ⟨y, hy⟩ := hel i hi
   exact rd hy)
  have hfl : rows.flatten.length = len * sz := by
   rw [← rl]
   clear rr rl hmul
   induction rows with
   | nil => simp
   | cons r rows ih =>
    rw [List.flatten_cons, List.length_append, ih (fun s hs => rq s (List.mem_cons_of_mem _ hs)), (rq r (List.mem_cons_self ..)).1, List.length_cons, Nat.succ_mul]
    omega
  refine ⟨(b, c.toList) :: F, [.s rows.flatten rows.length sz], aF.cons hb, ⟨_, [], rfl, ?_, by simp [DT.Rl]⟩, rfl, rows, by omega, rq, rfl⟩
  simp only [DT.R]
  rw [rl]
  refine .inr ⟨hl0, b, o, cap, c.toList, rfl, hlc, hcm, List.mem_cons_self .., by simpa using hsize, hfl, ?_⟩
  have := (rr.mono (fun p hp => List.mem_cons_of_mem (b, c.toList) hp)).more (zs := (c.toList.drop o).drop (len * sz))
  rwa [List.take_append_drop] at this
def dI (z : Int) : DT := .v (.int .i64 z)
def dL (zs : List Int) : DT := .s (zs.map dI) zs.length 1
def Word64 (z : Int) : Prop := -9223372036854775808 ≤ z ∧ z ≤ 9223372036854775807
theorem ones_flatten {Q : Int → Prop} : ∀ {rows : List (List DT)}, (∀ r ∈ rows, r.length = 1 ∧ ∃ z : Int, Q z ∧ r = [dI z]) → ∃ zs : List Int, (∀ z ∈ zs, Q z) ∧ rows.flatten = zs.map dI ∧ zs.length = rows.length
 | [], _ => ⟨[], by simp, rfl, rfl⟩
 | r :: rows, h => by
  obtain ⟨zs, h1, h2, h3⟩ := ones_flatten (fun s hs => h s (List.mem_cons_of_mem _ hs))
  obtain ⟨_, z, hq, rfl⟩ := h r (List.mem_cons_self ..)
  exact ⟨z :: zs, by simpa [hq] using h1, by rw [List.flatten_cons, h2]; rfl, by simp [h3]⟩
theorem rd_ints {t e : TypeId} {fuel : Nat} {held : Bool} {cs : List Value} {x : DataW H × List MemPlace} (ht : P.underlying t = some (.slice e)) (he : P.underlying e = some (.int .i64)) (hsz : P.cellsOf e = 1)
  (hc : ∃ a len cap, cs = [.slice a len cap]) (h : DataW.trod enc P W 0 (fun _ => true) held fuel t cs = some x) :
  Rd W cs fun ds => ∃ zs : List Int, (∀ z ∈ zs, Word64 z) ∧ zs.length ≤ maxLen ∧ ds = [dL zs] := by
 obtain ⟨F, ds, h1, h2, h3, rows, h4, h5, h6⟩ := rd_slice (Q := fun ds => ∃ z : Int, Word64 z ∧ ds = [dI z]) ht hsz (by omega) (fun {_ _ _} hh => by
  obtain ⟨F, ds, h1, h2, h3, z, h4, h5⟩ := rd_int he hh
  exact ⟨F, ds, h1, h2, h3, z, bounds_i64 h4, h5⟩) hc h
 obtain ⟨zs, k1, k2, k3⟩ := ones_flatten h5
 exact ⟨F, ds, h1, h2, h3, zs, k1, by omega, by rw [h6, k2, ← k3]; rfl⟩
end
end
end Go.Ev
end

/-! SeEqI -/
section
open Go Go.Ev Go.RowKit
open Extern.Stop
namespace Go.Proofs.YtneaafigbnjceaaGreatDoor
noncomputable section
abbrev iD (l : List Int) : List DT := l.map fun x => .v (.int .i64 x)
abbrev iC (l : List Int) : List AC := (iD l).map DT.ac
theorem flat_iC (l : List Int) : FlatC (iC l) := by
 intro c hc
 simp only [List.map_map, List.mem_map] at hc
 obtain ⟨x, _, rfl⟩ := hc
 rfl
theorem cells_of {m : M} : ∀ {l : List Value} {cs : List Value}, All2 (CR m) (l.map AC.v) cs → cs = l
 | [], [], _ => rfl
 | [], _ :: _, h => h.elim
 | _ :: _, [], h => h.elim
 | x :: l, c :: cs, h => by
  obtain ⟨h1, h2⟩ := h
  rw [cells_of h2, show c = x from h1]
theorem u3_ : Tryz.prog.underlying 3 = some (.int .i64) := by kernel_rfl
theorem q3_ (w : World) (a b : Int) : (Op.equalIn 9999 3 (.int .i64 a) (.int .i64 b)).run Tryz.prog w = .ok (a == b) w := by
 rw [show (9999 : Nat) = 9998 + 1 from rfl]
 exact run_equalIn_int w 9998 3 .i64 .i64 a b u3_
theorem eq_step (P : Program) (w : World) {d : Nat} {xs ys : Array Value} {f : Field} {fs : List Field} {t n : Nat} {a b : Value} {r : Bool} (h : f.name ≠ "_") (ht : f.type = t) (hn : f.offset = n) (h1 : (part t xs n).run P w = .ok a w) (h2 : (part t ys n).run P w = .ok b w) (h3 : (Op.equalIn d t a b).run P w = .ok r w) :
  (Op.eqFields d xs ys (f :: fs)).run P w = if r then (Op.eqFields d xs ys fs).run P w else .ok false w := by
 subst ht hn
 cases r <;> simp [Op.eqFields, h, h1, h2, h3]
theorem eq_nil (P : Program) (w : World) {d : Nat} {xs ys : Array Value} : (Op.eqFields d xs ys []).run P w = .ok true w := by simp [Op.eqFields]
end
end Go.Proofs.YtneaafigbnjceaaGreatDoor
end

/-! SeGen -/
section
open Go Go.Ev
namespace Go.Proofs.YtneaafigbnjceaaGreatDoor
noncomputable section
theorem cOut_clear {f : FuncId} {args : List AV} {v : AV} {h : Heap} (hc : COut E 0 [] f args v h) (hv : v.refs = []) : COut E 0 [] f args v [] :=
 cOut_gc (h' := []) [] (Nat.zero_le _) hc rfl rfl (AV.ren_id hv)
theorem getI {xs : List Int} {i : Nat} {x : Int} (h : xs[i]? = some x) : getL (iD xs) i = some (.v (.int .i64 x)) := by rw [getL_eq, List.getElem?_map, h]; rfl
abbrev dI (xs : List Int) : AV := .e (.one (.dp (.s (iD xs) xs.length 1)))
theorem cOut_weak {f : FuncId} {args : List AV} {h : Heap} {v v' : AV} (hc : COut E 0 [] f args v h) (hw : ∀ (m : M) (y : Value), VR m v y → VR m v' y) : COut E 0 [] f args v' h := by
 intro m base w argsC ha H G
 exact (hc m base w argsC ha H G).mono fun en w' ⟨y, hy, m1, hp⟩ => ⟨y, hy, m1, hp.le, hw _ _ hp.val, hp.heap, hp.below⟩
theorem lend2 (lv : Nat) (_hE : EnvOk E) (f : FuncId) (xs : List Int) (r : Int) (ty : Nat) (fl : Bool) (hc : COut E 0 [] f [dI xs] (iI r) []) (h : Heap) (i : Nat) (hh : getL h i = some (some ⟨(iD xs).map DT.ac, xs.length, ty, fl, .cells⟩)) : COut E lv h f [.e (.one (.slc i 0 xs.length 1 xs.length true))] (iI r) h :=
 cOut_lend h hc ⟨.inr ⟨i, 0, xs.length, 1, xs.length, true, iD xs, iD xs, xs.length, ty, fl, rfl, rfl, hh, by rw [takeL_eq, dropL_eq, List.drop_zero, if_pos (by simp), List.take_of_length_le (by simp)]⟩, trivial⟩ rfl rfl
end
end Go.Proofs.YtneaafigbnjceaaGreatDoor
end

/-! SeAcc -/
section
open Go Go.Ev
namespace Go.Proofs.YtneaafigbnjceaaGreatDoor
structure AccP where
 b : Int
 d : Int
 s : Int
 e : Int
 k0 : Int
 k1 : Int
 k2 : Int
 k3 : Int
 k4 : Int
 k5 : Int
 k6 : Int
 k7 : Int
 m0 : Int
 m1 : Int
 m2 : Int
 m3 : Int
 m4 : Int
 m5 : Int
 m6 : Int
 m7 : Int
abbrev accN (V : AccP) (r : List AC) : List AC := .v (.int .i64 V.b) :: .v (.int .i64 V.d) :: .v (.int .i64 V.s) :: .v (.int .i64 V.e) :: .v (.int .u8 V.k0) :: .v (.int .u8 V.k1) :: .v (.int .u8 V.k2) :: .v (.int .u8 V.k3) :: .v (.int .u8 V.k4) :: .v (.int .u8 V.k5) :: .v (.int .u8 V.k6) :: .v (.int .u8 V.k7) :: .v (.int .u8 V.m0) :: .v (.int .u8 V.m1) :: .v (.int .u8 V.m2) :: .v (.int .u8 V.m3) :: .v (.int .u8 V.m4) :: .v (.int .u8 V.m5) :: .v (.int .u8 V.m6) :: .v (.int .u8 V.m7) :: r
abbrev accZ (r : List AC) : List AC := .v (.int .i64 0) :: .v (.int .i64 0) :: .v (.int .i64 0) :: .v (.int .i64 0) :: .v (.int .u8 0) :: .v (.int .u8 0) :: .v (.int .u8 0) :: .v (.int .u8 0) :: .v (.int .u8 0) :: .v (.int .u8 0) :: .v (.int .u8 0) :: .v (.int .u8 0) :: .v (.int .u8 0) :: .v (.int .u8 0) :: .v (.int .u8 0) :: .v (.int .u8 0) :: .v (.int .u8 0) :: .v (.int .u8 0) :: .v (.int .u8 0) :: .v (.int .u8 0) :: r
def vZ : AccP := ⟨0, 0, 0, 0, 0, 0, 0, 0, 0, 0, 0, 0, 0, 0, 0, 0, 0, 0, 0, 0⟩
abbrev zB8 (a b c d e f g h : Int) : List AC := [.v (.int .u8 a), .v (.int .u8 b), .v (.int .u8 c), .v (.int .u8 d), .v (.int .u8 e), .v (.int .u8 f), .v (.int .u8 g), .v (.int .u8 h)]
abbrev zTk (t m a b c d e f g h : Int) : List AC := [.v (.int .i64 t), .v (.int .i64 m), .v (.int .u8 a), .v (.int .u8 b), .v (.int .u8 c), .v (.int .u8 d), .v (.int .u8 e), .v (.int .u8 f), .v (.int .u8 g), .v (.int .u8 h)]
abbrev zTkd (t m a b c d e f g h : Int) : List DT := [.v (.int .i64 t), .v (.int .i64 m), .v (.int .u8 a), .v (.int .u8 b), .v (.int .u8 c), .v (.int .u8 d), .v (.int .u8 e), .v (.int .u8 f), .v (.int .u8 g), .v (.int .u8 h)]
abbrev zTx (t m a b c d e f g h i : Int) : List AC := [.v (.int .i64 t), .v (.int .i64 m), .v (.int .u8 a), .v (.int .u8 b), .v (.int .u8 c), .v (.int .u8 d), .v (.int .u8 e), .v (.int .u8 f), .v (.int .u8 g), .v (.int .u8 h), .v (.int .i64 i)]
abbrev zTxd (t m a b c d e f g h i : Int) : List DT := [.v (.int .i64 t), .v (.int .i64 m), .v (.int .u8 a), .v (.int .u8 b), .v (.int .u8 c), .v (.int .u8 d), .v (.int .u8 e), .v (.int .u8 f), .v (.int .u8 g), .v (.int .u8 h), .v (.int .i64 i)]
abbrev zU (l : List Int) : List AC := l.map fun x => .v (.int .u8 x)
abbrev zI2 (a b : Int) : List AC := [.v (.int .i64 a), .v (.int .i64 b)]
abbrev zAc (V : AccP) (c : Bool) (U : List DT) (n : Nat) : List AC := accN V [.v (.bool c), .dp (.s U n 1)]
abbrev zAz : List AC := accZ [.v (.bool false), .v (.slice none 0 0)]
abbrev zBk (c : List AC) (n t : Nat) : Option AB := some ⟨c, n, t, true, .cells⟩
abbrev zBf (c : List AC) (n t : Nat) : Option AB := some ⟨c, n, t, false, .cells⟩
end Go.Proofs.YtneaafigbnjceaaGreatDoor
end

/-! SeBa -/
section
open Go Go.Ev
namespace Go.Proofs.YtneaafigbnjceaaGreatDoor.Bk
noncomputable section
set_option maxRecDepth 100000
set_option maxHeartbeats 20000000
abbrev ztBa0 : List Item := [(.code (atC [1, 1, 0, 1, 0, 0] (bodyOf Tryz.f42))), (.inLoop (atC [1, 1, 0, 1, 0, 0] (bodyOf Tryz.f42))), (.inBlock 0), (.code (atC [1, 1, 1] (bodyOf Tryz.f42)))]
abbrev ztBa1 : List Item := [(.code (atC [1, 0, 1, 0, 0] (bodyOf Tryz.f116))), (.inLoop (atC [1, 0, 1, 0, 0] (bodyOf Tryz.f116))), (.inBlock 0), (.code (atC [1, 1] (bodyOf Tryz.f116)))]
abbrev ztBa2 : List Item := [(.code (atC [1, 0, 1, 0, 0] (bodyOf Tryz.f53))), (.inLoop (atC [1, 0, 1, 0, 0] (bodyOf Tryz.f53))), (.inBlock 0), (.code (atC [1, 1] (bodyOf Tryz.f53)))]
abbrev ztBa3 : List Item := [(.code (atC [1, 0, 1, 0, 0] (bodyOf Tryz.f36))), (.inLoop (atC [1, 0, 1, 0, 0] (bodyOf Tryz.f36))), (.inBlock 0), (.code (atC [1, 1] (bodyOf Tryz.f36)))]
def s78 (e : Int) (c : Bool) (_j : Nat → Value) : St := startK Tryz.f61 [] [iB c, iI e]
def s83 (e : Int) (c : Bool) (_j : Nat → Value) : St := startK Tryz.f38 [] [iB c, iI e]
def s77 (x lo hi : Int) (_j : Nat → Value) : St := startK Tryz.f63 [] [iI x, iI lo, iI hi]
def s17 (x lo hi : Int) (_j : Nat → Value) : St := startK Tryz.f37 [] [iI x, iI lo, iI hi]
def s88 (x : Int) (_j : Nat → Value) : St := startK Tryz.f85 [] [iI x]
def s84 (x : Int) (_j : Nat → Value) : St := startK Tryz.f39 [] [iI x]
def s76 (C : List DT) (n : Nat) (_j : Nat → Value) : St := startK Tryz.f53 [] [(.e (.one (.dp (.s C n 1))))]
def s82 (C : List DT) (n : Nat) (_j : Nat → Value) : St := startK Tryz.f36 [] [(.e (.one (.dp (.s C n 1))))]
def s30 (C C2 : List DT) (n p : Nat) (_j : Nat → Value) : St := startK Tryz.f42 [] [(.e (.one (.dp (.s C n 1)))), (.e (.one (.dp (.s C2 p 1))))]
def s135 (C : List DT) (n : Nat) (_j : Nat → Value) : St := startK Tryz.f95 [] [(.e (.one (.dp (.s C n 1))))]
def s136 (V : AccP) (U : List DT) (un : Nat) (x b : Int) (ac : Bool) (_j : Nat → Value) : St := startK Tryz.f115 [bK (zAc V ac U un) 22 44, bK [.v (.int .i64 b)] 1 3, bK [.clo 115 [] [.one (.ptr 1 0)]] 1 129] [iI x, (.e (.one (.ptr 1 0)))]
def s87 (V : AccP) (U : List DT) (un : Nat) (x b : Int) (ac : Bool) (_j : Nat → Value) : St := startK Tryz.f89 [bK (zAc V ac U un) 22 44, bK [.v (.int .i64 b)] 1 3, bK [.clo 115 [] [.one (.ptr 1 0)]] 1 129] [iI x, (.e (.one (.ptr 2 0)))]
def s137 (V : AccP) (U C : List DT) (un n : Nat) (b : Int) (ac : Bool) (_j : Nat → Value) : St := startK Tryz.f116 [bK (zAc V ac U un) 22 44, bK [.v (.int .i64 b)] 1 3, bK [.clo 115 [] [.one (.ptr 1 0)]] 1 129] [(.e (.one (.dp (.s C n 1)))), (.e (.one (.clo 89 [] [.one (.ptr 2 0)])))]
def s86 (V : AccP) (U C : List DT) (un n : Nat) (b lo : Int) (ac : Bool) (_j : Nat → Value) : St := startK Tryz.f88 [bK (zAc V ac U un) 22 44, bK [.v (.int .i64 b)] 1 3, bK [.clo 115 [] [.one (.ptr 1 0)]] 1 129] [(.e (.one (.dp (.s C n 1)))), iI lo, (.e (.one (.clo 89 [] [.one (.ptr 2 0)])))]
def q76 (C : List DT) (n i : Nat) (j : Nat → Value) : St := ⟨[], ztBa2, mkT j [(5, (.e (.one (.dp (.s (C) (n) 1))))), (6, (iI (Int.ofNat n))), (7, (iI (Int.ofNat i)))] 15 0⟩
def q82 (C : List DT) (n i : Nat) (j : Nat → Value) : St := ⟨[], ztBa3, mkT j [(0, (.e (.one (.dp (.s (C) (n) 1))))), (3, (iI (Int.ofNat i)))] 19 0⟩
def q30 (C C2 : List DT) (n p i : Nat) (j : Nat → Value) : St := ⟨[], ztBa0, mkT j [(0, (.e (.one (.dp (.s (C) (n) 1))))), (1, (.e (.one (.dp (.s (C2) (p) 1))))), (5, (iI (Int.ofNat i)))] 26 0⟩
def q137 (V : AccP) (U C : List DT) (un n i : Nat) (b : Int) (ac : Bool) (j : Nat → Value) : St := ⟨[(zBk (zAc V ac U un) 22 44), (zBk [.v (.int .i64 b)] 1 3), (zBk [(.clo 115 [] [(.one (.ptr 1 0))])] 1 129)], ztBa1, mkT j [(1, (.e (.one (.clo 89 [] [(.one (.ptr 2 0))])))), (8, (.e (.one (.dp (.s (C) (n) 1))))), (9, (iI (Int.ofNat n))), (10, (iI (Int.ofNat i)))] 21 0⟩
def p78t_end (e : Int) (j : Nat → Value) : St := ⟨[], [(.code .ret), (.code (atC [1, 1] (bodyOf Tryz.f61)))], mkT j [(4, (iI (e)))] 7 0⟩
theorem p78t (hE : EnvOk E) (e : Int) (c : Bool) (h0 : (c : Bool) = true) : Sg 0 0 (s78 e c) (p78t_end e) := fun ho j =>
 oS hE [.run 5, (.cond true), .run 2] [4] (aP h0 <| aZ)
  ho
def p78f_end (j : Nat → Value) : St := ⟨[], [(.code .ret)], mkT j [(4, (iI 0))] 7 0⟩
theorem p78f (hE : EnvOk E) (e : Int) (c : Bool) (h0 : (c : Bool) = false) : Sg 0 0 (s78 e c) (p78f_end) := fun ho j =>
 oS hE [.run 5, (.cond false), .run 3] [4] (aP h0 <| aZ)
  ho
def p83t_end (e : Int) (j : Nat → Value) : St := ⟨[], [(.code .ret), (.code (atC [1, 1] (bodyOf Tryz.f38)))], mkT j [(4, (iI (e)))] 7 0⟩
theorem p83t (hE : EnvOk E) (e : Int) (c : Bool) (h0 : (c : Bool) = true) : Sg 0 0 (s83 e c) (p83t_end e) := fun ho j =>
 oS hE [.run 5, (.cond true), .run 2] [4] (aP h0 <| aZ)
  ho
def p83f_end (j : Nat → Value) : St := ⟨[], [(.code .ret)], mkT j [(4, (iI 0))] 7 0⟩
theorem p83f (hE : EnvOk E) (e : Int) (c : Bool) (h0 : (c : Bool) = false) : Sg 0 0 (s83 e c) (p83f_end) := fun ho j =>
 oS hE [.run 5, (.cond false), .run 3] [4] (aP h0 <| aZ)
  ho
def p77a_end (e : Int) (j : Nat → Value) : St := ⟨[], [(.code .ret)], mkT j [(6, (iI (e)))] 16 0⟩
theorem p77a (hE : EnvOk E) (x lo hi e : Int) (h0 : (decide (x < lo) == false : Bool) = false) (h1 : (decide (x < lo) == false : Bool) = false) (h2 : (decide (x < lo) == false : Bool) = false) (h3 : (decide (x < lo) : Bool) = true) (h4 : COut E 0 [] 61 [(iB true), (iI 3)] (iI (e)) []) : Sg 0 0 (s77 x lo hi) (p77a_end e) := fun ho j =>
 oS hE [.run 3, (.ops [(8, (.c0 (iI (e)))), (7, (.pk true))] [(4, false), (5, false), (6, false)])] [6] (aP h0 <| aP h1 <| aP h2 <| aP h3 <| aP h4 <| aN <| aZ)
  ho
def p77b_end (e : Int) (j : Nat → Value) : St := ⟨[], [(.code .ret)], mkT j [(6, (iI (e)))] 16 0⟩
theorem p77b (hE : EnvOk E) (x lo hi e : Int) (h0 : (decide (x < lo) == false : Bool) = true) (h1 : (decide (x < lo) == false : Bool) = true) (h2 : (decide (x < lo) == false : Bool) = true) (h3 : (decide (x < lo) : Bool) = false) (h4 : COut E 0 [] 61 [(iB (decide (x > hi))), (iI 3)] (iI (e)) []) : Sg 0 0 (s77 x lo hi) (p77b_end e) := fun ho j =>
 oS hE [.run 3, (.ops [(8, (.c0 (iI (e)))), (7, (.pk false))] [(4, true), (5, true), (6, true)])] [6] (aP h0 <| aP h1 <| aP h2 <| aP h3 <| aP h4 <| aN <| aZ)
  ho
def p17a_end (e : Int) (j : Nat → Value) : St := ⟨[], [(.code .ret)], mkT j [(6, (iI (e)))] 16 0⟩
theorem p17a (hE : EnvOk E) (x lo hi e : Int) (h0 : (decide (x < lo) == false : Bool) = false) (h1 : (decide (x < lo) == false : Bool) = false) (h2 : (decide (x < lo) == false : Bool) = false) (h3 : (decide (x < lo) : Bool) = true) (h4 : COut E 0 [] 38 [(iB true), (iI 3)] (iI (e)) []) : Sg 0 0 (s17 x lo hi) (p17a_end e) := fun ho j =>
 oS hE [.run 3, (.ops [(8, (.c0 (iI (e)))), (7, (.pk true))] [(4, false), (5, false), (6, false)])] [6] (aP h0 <| aP h1 <| aP h2 <| aP h3 <| aP h4 <| aN <| aZ)
  ho
def p17b_end (e : Int) (j : Nat → Value) : St := ⟨[], [(.code .ret)], mkT j [(6, (iI (e)))] 16 0⟩
theorem p17b (hE : EnvOk E) (x lo hi e : Int) (h0 : (decide (x < lo) == false : Bool) = true) (h1 : (decide (x < lo) == false : Bool) = true) (h2 : (decide (x < lo) == false : Bool) = true) (h3 : (decide (x < lo) : Bool) = false) (h4 : COut E 0 [] 38 [(iB (decide (x > hi))), (iI 3)] (iI (e)) []) : Sg 0 0 (s17 x lo hi) (p17b_end e) := fun ho j =>
 oS hE [.run 3, (.ops [(8, (.c0 (iI (e)))), (7, (.pk false))] [(4, true), (5, true), (6, true)])] [6] (aP h0 <| aP h1 <| aP h2 <| aP h3 <| aP h4 <| aN <| aZ)
  ho
def p88_end (e : Int) (j : Nat → Value) : St := ⟨[], [(.code .ret)], mkT j [(2, (iI (e)))] 5 0⟩
theorem p88 (hE : EnvOk E) (x e : Int) (h0 : COut E 0 [] 63 [(iI (x)), (iI 1), (iI 999999999)] (iI (e)) []) : Sg 0 0 (s88 x) (p88_end e) := fun ho j =>
 oS hE [.run 3, (.ops [(1, (.c0 (iI (e))))] [])] [2] (aP h0 <| aN <| aZ)
  ho
def p84_end (e : Int) (j : Nat → Value) : St := ⟨[], [(.code .ret)], mkT j [(2, (iI (e)))] 5 0⟩
theorem p84 (hE : EnvOk E) (x e : Int) (h0 : COut E 0 [] 37 [(iI (x)), (iI 1), (iI 999999999)] (iI (e)) []) : Sg 0 0 (s84 x) (p84_end e) := fun ho j =>
 oS hE [.run 3, (.ops [(1, (.c0 (iI (e))))] [])] [2] (aP h0 <| aN <| aZ)
  ho
def p76a_end (C : List DT) (n : Nat) (j : Nat → Value) : St := ⟨[], ztBa2, mkT j [(5, (.e (.one (.dp (.s (C) (n) 1))))), (6, (iI (Int.ofNat n))), (7, (iI 0))] 15 0⟩
theorem p76a (hE : EnvOk E) (C : List DT) (n : Nat) : Sg 0 0 (s76 C n) (p76a_end C n) := fun ho j =>
 oS hE [.run 4, (.ops [(1, (.d .len))] []), .run 2] [5, 6, 7] (ps := []) trivial
  ho
def p82a_end (C : List DT) (n : Nat) (j : Nat → Value) : St := ⟨[], ztBa3, mkT j [(0, (.e (.one (.dp (.s (C) (n) 1))))), (3, (iI 0))] 19 0⟩
theorem p82a (hE : EnvOk E) (C : List DT) (n : Nat) : Sg 0 0 (s82 C n) (p82a_end C n) := fun ho j =>
 oS hE [.run 7] [0, 3] (ps := []) trivial
  ho
def p137a_end (V : AccP) (U C : List DT) (un n : Nat) (b : Int) (ac : Bool) (j : Nat → Value) : St := ⟨[(zBk (zAc V ac U un) 22 44), (zBk [.v (.int .i64 b)] 1 3), (zBk [(.clo 115 [] [(.one (.ptr 1 0))])] 1 129)], ztBa1, mkT j [(1, (.e (.one (.clo 89 [] [(.one (.ptr 2 0))])))), (8, (.e (.one (.dp (.s (C) (n) 1))))), (9, (iI (Int.ofNat n))), (10, (iI 0))] 21 0⟩
theorem p137a (hE : EnvOk E) (V : AccP) (U C : List DT) (un n : Nat) (b : Int) (ac : Bool) : Sg 0 3 (s137 V U C un n b ac) (p137a_end V U C un n b ac) := fun ho j =>
 oS hE [.run 4, (.ops [(1, (.d .len))] []), .run 2] [1, 8, 9, 10] (ps := []) trivial
  ho
def p30a_end (C C2 : List DT) (n p : Nat) (j : Nat → Value) : St := ⟨[], ztBa0, mkT j [(0, (.e (.one (.dp (.s (C) (n) 1))))), (1, (.e (.one (.dp (.s (C2) (p) 1))))), (5, (iI 0))] 26 0⟩
theorem p30a (hE : EnvOk E) (C C2 : List DT) (n p : Nat) (h0 : ((↑n : Int) != (↑p : Int) : Bool) = false) : Sg 0 0 (s30 C C2 n p) (p30a_end C C2 n p) := fun ho j =>
 oS hE [.run 4, (.ops [(1, (.d .len)), (3, (.d .len))] []), (.cond false), .run 6] [0, 1, 5] (aP h0 <| aZ)
  ho
def p30n_end (j : Nat → Value) : St := ⟨[], [(.code .ret), (.code (atC [1, 1] (bodyOf Tryz.f42)))], mkT j [(4, (iB false))] 26 0⟩
theorem p30n (hE : EnvOk E) (C C2 : List DT) (n p : Nat) (h0 : ((↑n : Int) != (↑p : Int) : Bool) = true) : Sg 0 0 (s30 C C2 n p) (p30n_end) := fun ho j =>
 oS hE [.run 4, (.ops [(1, (.d .len)), (3, (.d .len))] []), (.cond true), .run 2] [4] (aP h0 <| aZ)
  ho
def p136_end (V : AccP) (U : List DT) (un : Nat) (x e : Int) (ac : Bool) (j : Nat → Value) : St := ⟨[(zBk (zAc V ac U un) 22 44), (zBk [.v (.int .i64 x)] 1 3), (zBk [(.clo 115 [] [(.one (.ptr 1 0))])] 1 129)], [(.code .ret)], mkT j [(3, (iI (e)))] 11 0⟩
theorem p136 (hE : EnvOk E) (V : AccP) (U : List DT) (un : Nat) (x b e : Int) (ac : Bool) (h0 : COut E 0 [] 61 [(iB (decide (x ≤ b))), (iI 11)] (iI (e)) []) : Sg 0 3 (s136 V U un x b ac) (p136_end V U un x e ac) := fun ho j =>
 oS hE [.run 3, (.ops [(3, (.c0 (iI (e))))] []), .run 4] [3] (aP h0 <| aN <| aZ)
  ho
def p87_end (V : AccP) (U : List DT) (un : Nat) (x e : Int) (ac : Bool) (j : Nat → Value) : St := ⟨[(zBk (zAc V ac U un) 22 44), (zBk [.v (.int .i64 x)] 1 3), (zBk [(.clo 115 [] [(.one (.ptr 1 0))])] 1 129)], [(.code .ret)], mkT j [(3, (iI (e)))] 11 0⟩
theorem p87 (hE : EnvOk E) (V : AccP) (U : List DT) (un : Nat) (x b e f g : Int) (ac : Bool) (h0 : COut E 0 [] 85 [(iI (x))] (iI (f)) []) (h3 : COut E 0 [(zBk (zAc V ac U un) 22 44), (zBk [.v (.int .i64 b)] 1 3), (zBk [(.clo 115 [] [(.one (.ptr 1 0))])] 1 129)] 115 [(iI (x)), (.e (.one (.ptr 1 0)))] (iI (g)) [(zBk (zAc V ac U un) 22 44), (zBk [.v (.int .i64 x)] 1 3), (zBk [(.clo 115 [] [(.one (.ptr 1 0))])] 1 129)]) (h4 : COut E 4 [(zBk (zAc V ac U un) 22 44), (zBk [.v (.int .i64 x)] 1 3), (zBk [(.clo 115 [] [(.one (.ptr 1 0))])] 1 129), (zBk (zI2 f g) 2 36)] 53 [(.e (.one (.slc 3 0 2 1 2 true)))] (iI (e)) [(zBk (zAc V ac U un) 22 44), (zBk [.v (.int .i64 x)] 1 3), (zBk [(.clo 115 [] [(.one (.ptr 1 0))])] 1 129), (zBk (zI2 f g) 2 36)]) : Sg 0 3 (s87 V U un x b ac) (p87_end V U un x e ac) := fun ho j =>
 oS hE [.run 3, (.ops [(1, (.c0 (iI (f)))), (4, (.cw (iI (g)) [(zBk (zAc V ac U un) 22 44), (zBk [.v (.int .i64 x)] 1 3), (zBk [(.clo 115 [] [(.one (.ptr 1 0))])] 1 129)])), (6, (.d (.c1 (iI (e)))))] [])] [3] (s' := fun j => ⟨[(zBk (zAc V ac U un) 22 44), (zBk [.v (.int .i64 x)] 1 3), (zBk [(.clo 115 [] [(.one (.ptr 1 0))])] 1 129), (zBk (zI2 f g) 2 36)], [(.code .ret)], mkT j [(3, (iI (e)))] 11 0⟩) (aP h0 <| aN <| aP (rfl : (true : Bool) = true) <| aP h3 <| aP h4 <| aN <| aZ)
  fun j => gZ [0, 1, 2] (ho j)
def p86m_end (V : AccP) (U : List DT) (un : Nat) (b : Int) (ac : Bool) (j : Nat → Value) : St := ⟨[(zBk (zAc V ac U un) 22 44), (zBk [.v (.int .i64 b)] 1 3), (zBk [(.clo 115 [] [(.one (.ptr 1 0))])] 1 129)], [(.code .ret), (.code (atC [1, 1] (bodyOf Tryz.f88)))], mkT j [(6, (iI 5))] 14 0⟩
theorem p86m (hE : EnvOk E) (V : AccP) (U C : List DT) (un n : Nat) (b lo : Int) (ac : Bool) (h0 : (decide ((↑n : Int) > lo) : Bool) = true) : Sg 0 3 (s86 V U C un n b lo ac) (p86m_end V U un b ac) := fun ho j =>
 oS hE [.run 4, (.ops [(1, (.d .len))] []), (.cond true), .run 2] [6] (aP h0 <| aZ)
  ho
def p86_end (V : AccP) (U : List DT) (un : Nat) (e z : Int) (ac : Bool) (j : Nat → Value) : St := ⟨[(zBk (zAc V ac U un) 22 44), (zBk [.v (.int .i64 z)] 1 3), (zBk [(.clo 115 [] [(.one (.ptr 1 0))])] 1 129)], [(.code .ret)], mkT j [(6, (iI (e)))] 14 0⟩
theorem p86 (hE : EnvOk E) (V : AccP) (U C : List DT) (un n : Nat) (b lo e z : Int) (ac : Bool) (h0 : (decide ((↑n : Int) > lo) : Bool) = false) (h1 : COut E 0 [(zBk (zAc V ac U un) 22 44), (zBk [.v (.int .i64 b)] 1 3), (zBk [(.clo 115 [] [(.one (.ptr 1 0))])] 1 129)] 116 [(.e (.one (.dp (.s (C) (n) 1)))), (.e (.one (.clo 89 [] [(.one (.ptr 2 0))])))] (iI (e)) [(zBk (zAc V ac U un) 22 44), (zBk [.v (.int .i64 z)] 1 3), (zBk [(.clo 115 [] [(.one (.ptr 1 0))])] 1 129)]) : Sg 0 3 (s86 V U C un n b lo ac) (p86_end V U un e z ac) := fun ho j =>
 oS hE [.run 4, (.ops [(1, (.d .len))] []), (.cond false), .run 2, (.ops [(2, (.cw (iI (e)) [(zBk (zAc V ac U un) 22 44), (zBk [.v (.int .i64 z)] 1 3), (zBk [(.clo 115 [] [(.one (.ptr 1 0))])] 1 129)]))] [])] [6] (aP h0 <| aP h1 <| aZ)
  ho
def p135_end (n : Nat) (c : Bool) (D : List AC) (j : Nat → Value) : St := ⟨[(.some ⟨(D), (n), 3, (c), .cells⟩)], [(.code .ret)], mkT j [(2, (.e (.one (.slc 0 0 (n) 1 (n) (c)))))] 8 0⟩
theorem p135 (hE : EnvOk E) (C : List DT) (n : Nat) (c : Bool) (D : List AC) (h0 : (0 : Nat) < n) (h1 : CopyOk [(zBk [] 0 3)] 1 8 (.e (.one (.dp (.s (C) (n) 1)))) n D c) (h2 : (n * 1 : Nat) = n) (g0 : FlatC (D)) : Sg 0 0 (s135 C n) (p135_end n c D) := fun ho j =>
 oS hE [.run 4, (.ops [(1, (.d .nc))] []), .run 3, (.ops [(2, (.cpu (n) (n) (D) (c)))] [])] [2] (s' := fun j => ⟨[none, (.some ⟨(D), (n), 3, (c), .cells⟩)], [(.code .ret)], mkT j [(2, (.e (.one (.slc 1 0 (n) 1 (n) (c)))))] 8 0⟩) (aP h0 <| aP h1 <| aP h2 <| aZ)
  fun j => outK_gcF [1] [true] (h' := [(.some ⟨(D), (n), 3, (c), .cells⟩)]) (by decide) (by kernel_rfl) (by kernel_rfl) ⟨g0, trivial⟩ (by kernel_rfl) (ho j)
def p76s_end (C : List DT) (n i : Nat) (j : Nat → Value) : St := ⟨[], ztBa2, mkT j [(5, (.e (.one (.dp (.s (C) (n) 1))))), (6, (iI (Int.ofNat n))), (7, (iI (Int.ofNat (i + 1))))] 15 0⟩
theorem p76s (hE : EnvOk E) (C : List DT) (n i : Nat) (z : Int) (h0 : (decide (Int.ofNat i < Int.ofNat n) : Bool) = true) (h1 : (0 : Int) ≤ Int.ofNat i ∧ Int.ofNat i < (↑n : Int)) (h2 : ((Int.ofNat i).toNat * nat_lit 1 : Nat) = i) (h3 : (getL C i : Option DT) = (.some (.v (.int .i64 z)))) (h4 : (z != (0 : Int) : Bool) = false) (h5 : ((iI (wrapF IntKind.i64 (Int.ofNat i + (1 : Int)))) : AV) = (iI (Int.ofNat (i + 1)))) : Sg 0 0 (q76 C n i) (p76s_end C n i) := fun ho j =>
 oS hE [.run 3, (.cond true), .run 4, (.ops [(1, (.d (.ld (.v (.int .i64 z))))), (0, (.d (.ix (i))))] []), .run 2, (.cond false), .run 2, (.ops [(0, (.rn (iI (Int.ofNat (i + 1)))))] []), .run 1] [5, 6, 7] (aP h0 <| aP h1 <| aP h2 <| aP h3 <| aP h4 <| aP h5 <| aZ)
  ho
def p76e_end (z : Int) (j : Nat → Value) : St := ⟨[], [(.code .ret), (.inBlock 1), (.code (atC [1, 0, 1, 0, 0, 1, 1, 1] (bodyOf Tryz.f53))), (.inLoop (atC [1, 0, 1, 0, 0] (bodyOf Tryz.f53))), (.inBlock 0), (.code (atC [1, 1] (bodyOf Tryz.f53)))], mkT j [(2, (iI (z)))] 15 0⟩
theorem p76e (hE : EnvOk E) (C : List DT) (n i : Nat) (z : Int) (h0 : (decide (Int.ofNat i < Int.ofNat n) : Bool) = true) (h1 : (0 : Int) ≤ Int.ofNat i ∧ Int.ofNat i < (↑n : Int)) (h2 : ((Int.ofNat i).toNat * nat_lit 1 : Nat) = i) (h3 : (getL C i : Option DT) = (.some (.v (.int .i64 z)))) (h4 : (z != (0 : Int) : Bool) = true) : Sg 0 0 (q76 C n i) (p76e_end z) := fun ho j =>
 oS hE [.run 3, (.cond true), .run 4, (.ops [(1, (.d (.ld (.v (.int .i64 z))))), (0, (.d (.ix (i))))] []), .run 2, (.cond true), .run 2] [2] (aP h0 <| aP h1 <| aP h2 <| aP h3 <| aP h4 <| aZ)
  ho
def p76x_end (j : Nat → Value) : St := ⟨[], [(.code .ret)], mkT j [(2, (iI 0))] 15 0⟩
theorem p76x (hE : EnvOk E) (C : List DT) (n i : Nat) (h0 : (decide (Int.ofNat i < Int.ofNat n) : Bool) = false) : Sg 0 0 (q76 C n i) (p76x_end) := fun ho j =>
 oS hE [.run 3, (.cond false), .run 3] [2] (aP h0 <| aZ)
  ho
def p82s_end (C : List DT) (n i : Nat) (j : Nat → Value) : St := ⟨[], ztBa3, mkT j [(0, (.e (.one (.dp (.s (C) (n) 1))))), (3, (iI (Int.ofNat (i + 1))))] 19 0⟩
theorem p82s (hE : EnvOk E) (C : List DT) (n i : Nat) (z : Int) (h0 : (decide (Int.ofNat i < (↑n : Int)) : Bool) = true) (h1 : (0 : Int) ≤ Int.ofNat i ∧ Int.ofNat i < (↑n : Int)) (h2 : ((Int.ofNat i).toNat * nat_lit 1 : Nat) = i) (h3 : (getL C i : Option DT) = (.some (.v (.int .i64 z)))) (h4 : (z != (0 : Int) : Bool) = false) (h5 : ((iI (wrapF IntKind.i64 (Int.ofNat i + (1 : Int)))) : AV) = (iI (Int.ofNat (i + 1)))) : Sg 0 0 (q82 C n i) (p82s_end C n i) := fun ho j =>
 oS hE [.run 2, (.ops [(2, (.d .len))] []), (.cond true), .run 4, (.ops [(3, (.d (.ld (.v (.int .i64 z))))), (2, (.d (.ix (i))))] []), (.cond false), .run 2, (.ops [(1, (.rn (iI (Int.ofNat (i + 1)))))] []), .run 1] [0, 3] (aP h0 <| aP h1 <| aP h2 <| aP h3 <| aP h4 <| aP h5 <| aZ)
  ho
def p82e_end (z : Int) (j : Nat → Value) : St := ⟨[], [(.code .ret), (.inBlock 1), (.code (atC [1, 0, 1, 0, 0, 1, 1] (bodyOf Tryz.f36))), (.inLoop (atC [1, 0, 1, 0, 0] (bodyOf Tryz.f36))), (.inBlock 0), (.code (atC [1, 1] (bodyOf Tryz.f36)))], mkT j [(2, (iI (z)))] 19 0⟩
theorem p82e (hE : EnvOk E) (C : List DT) (n i : Nat) (z : Int) (h0 : (decide (Int.ofNat i < (↑n : Int)) : Bool) = true) (h1 : (0 : Int) ≤ Int.ofNat i ∧ Int.ofNat i < (↑n : Int)) (h2 : ((Int.ofNat i).toNat * nat_lit 1 : Nat) = i) (h3 : (getL C i : Option DT) = (.some (.v (.int .i64 z)))) (h4 : (z != (0 : Int) : Bool) = true) : Sg 0 0 (q82 C n i) (p82e_end z) := fun ho j =>
 oS hE [.run 2, (.ops [(2, (.d .len))] []), (.cond true), .run 4, (.ops [(3, (.d (.ld (.v (.int .i64 z))))), (2, (.d (.ix (i))))] []), (.cond true), .run 1, (.ops [(3, (.d (.ld (.v (.int .i64 z))))), (2, (.d (.ix (i))))] [])] [2] (aP h0 <| aP h1 <| aP h2 <| aP h3 <| aP h4 <| aP h1 <| aP h2 <| aP h3 <| aZ)
  ho
def p82x_end (j : Nat → Value) : St := ⟨[], [(.code .ret)], mkT j [(2, (iI 0))] 19 0⟩
theorem p82x (hE : EnvOk E) (C : List DT) (n i : Nat) (h0 : (decide (Int.ofNat i < (↑n : Int)) : Bool) = false) : Sg 0 0 (q82 C n i) (p82x_end) := fun ho j =>
 oS hE [.run 2, (.ops [(2, (.d .len))] []), (.cond false), .run 3] [2] (aP h0 <| aZ)
  ho
def p30s_end (C C2 : List DT) (n p i : Nat) (j : Nat → Value) : St := ⟨[], ztBa0, mkT j [(0, (.e (.one (.dp (.s (C) (n) 1))))), (1, (.e (.one (.dp (.s (C2) (p) 1))))), (5, (iI (Int.ofNat (i + 1))))] 26 0⟩
theorem p30s (hE : EnvOk E) (C C2 : List DT) (n p i : Nat) (z w : Int) (h0 : (decide (Int.ofNat i < (↑n : Int)) : Bool) = true) (h1 : (0 : Int) ≤ Int.ofNat i ∧ Int.ofNat i < (↑n : Int)) (h2 : ((Int.ofNat i).toNat * nat_lit 1 : Nat) = i) (h3 : (getL C i : Option DT) = (.some (.v (.int .i64 z)))) (h4 : (0 : Int) ≤ Int.ofNat i ∧ Int.ofNat i < (↑p : Int)) (h6 : (getL C2 i : Option DT) = (.some (.v (.int .i64 w)))) (h8 : (z != w : Bool) = false) (h9 : ((iI (wrapF IntKind.i64 (Int.ofNat i + (1 : Int)))) : AV) = (iI (Int.ofNat (i + 1)))) : Sg 0 0 (q30 C C2 n p i) (p30s_end C C2 n p i) := fun ho j =>
 oS hE [.run 2, (.ops [(2, (.d .len))] []), (.cond true), .run 4, (.ops [(3, (.d (.ld (.v (.int .i64 z))))), (7, (.d (.ld (.v (.int .i64 w))))), (2, (.d (.ix (i)))), (6, (.d (.ix (i))))] []), (.cond false), .run 2, (.ops [(1, (.rn (iI (Int.ofNat (i + 1)))))] []), .run 1] [0, 1, 5] (aP h0 <| aP h1 <| aP h2 <| aP h3 <| aP h4 <| aP h2 <| aP h6 <| aP (rfl : (true : Bool) = true) <| aP h8 <| aP h9 <| aZ)
  ho
def p30d_end (j : Nat → Value) : St := ⟨[], [(.code .ret), (.inBlock 1), (.code (atC [1, 1, 0, 1, 0, 0, 1, 1] (bodyOf Tryz.f42))), (.inLoop (atC [1, 1, 0, 1, 0, 0] (bodyOf Tryz.f42))), (.inBlock 0), (.code (atC [1, 1, 1] (bodyOf Tryz.f42)))], mkT j [(4, (iB false))] 26 0⟩
theorem p30d (hE : EnvOk E) (C C2 : List DT) (n p i : Nat) (z w : Int) (h0 : (decide (Int.ofNat i < (↑n : Int)) : Bool) = true) (h1 : (0 : Int) ≤ Int.ofNat i ∧ Int.ofNat i < (↑n : Int)) (h2 : ((Int.ofNat i).toNat * nat_lit 1 : Nat) = i) (h3 : (getL C i : Option DT) = (.some (.v (.int .i64 z)))) (h4 : (0 : Int) ≤ Int.ofNat i ∧ Int.ofNat i < (↑p : Int)) (h6 : (getL C2 i : Option DT) = (.some (.v (.int .i64 w)))) (h8 : (z != w : Bool) = true) : Sg 0 0 (q30 C C2 n p i) (p30d_end) := fun ho j =>
 oS hE [.run 2, (.ops [(2, (.d .len))] []), (.cond true), .run 4, (.ops [(3, (.d (.ld (.v (.int .i64 z))))), (7, (.d (.ld (.v (.int .i64 w))))), (2, (.d (.ix (i)))), (6, (.d (.ix (i))))] []), (.cond true), .run 2] [4] (aP h0 <| aP h1 <| aP h2 <| aP h3 <| aP h4 <| aP h2 <| aP h6 <| aP (rfl : (true : Bool) = true) <| aP h8 <| aZ)
  ho
def p30x_end (j : Nat → Value) : St := ⟨[], [(.code .ret)], mkT j [(4, (iB true))] 26 0⟩
theorem p30x (hE : EnvOk E) (C C2 : List DT) (n p i : Nat) (h0 : (decide (Int.ofNat i < (↑n : Int)) : Bool) = false) : Sg 0 0 (q30 C C2 n p i) (p30x_end) := fun ho j =>
 oS hE [.run 2, (.ops [(2, (.d .len))] []), (.cond false), .run 3] [4] (aP h0 <| aZ)
  ho
def p137s_end (V : AccP) (U C : List DT) (un n i : Nat) (z : Int) (ac : Bool) (j : Nat → Value) : St := ⟨[(zBk (zAc V ac U un) 22 44), (zBk [.v (.int .i64 z)] 1 3), (zBk [(.clo 115 [] [(.one (.ptr 1 0))])] 1 129)], ztBa1, mkT j [(1, (.e (.one (.clo 89 [] [(.one (.ptr 2 0))])))), (8, (.e (.one (.dp (.s (C) (n) 1))))), (9, (iI (Int.ofNat n))), (10, (iI (Int.ofNat (i + 1))))] 21 0⟩
theorem p137s (hE : EnvOk E) (V : AccP) (U C : List DT) (un n i : Nat) (b e z : Int) (ac : Bool) (h0 : (decide (Int.ofNat i < Int.ofNat n) : Bool) = true) (h1 : (0 : Int) ≤ Int.ofNat i ∧ Int.ofNat i < (↑n : Int)) (h2 : ((Int.ofNat i).toNat * nat_lit 1 : Nat) = i) (h3 : (getL C i : Option DT) = (.some (.v (.int .i64 z)))) (h4 : COut E 0 [(zBk (zAc V ac U un) 22 44), (zBk [.v (.int .i64 b)] 1 3), (zBk [(.clo 115 [] [(.one (.ptr 1 0))])] 1 129)] 89 [(iI (z)), (.e (.one (.ptr 2 0)))] (iI (e)) [(zBk (zAc V ac U un) 22 44), (zBk [.v (.int .i64 z)] 1 3), (zBk [(.clo 115 [] [(.one (.ptr 1 0))])] 1 129)]) (h5 : (e != (0 : Int) : Bool) = false) (h6 : ((iI (wrapF IntKind.i64 (Int.ofNat i + (1 : Int)))) : AV) = (iI (Int.ofNat (i + 1)))) : Sg 0 3 (q137 V U C un n i b ac) (p137s_end V U C un n i z ac) := fun ho j =>
 oS hE [.run 3, (.cond true), .run 4, (.ops [(1, (.d (.ld (.v (.int .i64 z))))), (0, (.d (.ix (i))))] []), .run 1, (.ops [(2, (.cw (iI (e)) [(zBk (zAc V ac U un) 22 44), (zBk [.v (.int .i64 z)] 1 3), (zBk [(.clo 115 [] [(.one (.ptr 1 0))])] 1 129)]))] []), .run 2, (.cond false), .run 2, (.ops [(0, (.rn (iI (Int.ofNat (i + 1)))))] []), .run 1] [1, 8, 9, 10] (aP h0 <| aP h1 <| aP h2 <| aP h3 <| aP h4 <| aP h5 <| aP h6 <| aZ)
  ho
def p137e_end (V : AccP) (U : List DT) (un : Nat) (e z : Int) (ac : Bool) (j : Nat → Value) : St := ⟨[(zBk (zAc V ac U un) 22 44), (zBk [.v (.int .i64 z)] 1 3), (zBk [(.clo 115 [] [(.one (.ptr 1 0))])] 1 129)], [(.code .ret), (.inBlock 1), (.code (atC [1, 0, 1, 0, 0, 1, 1, 1] (bodyOf Tryz.f116))), (.inLoop (atC [1, 0, 1, 0, 0] (bodyOf Tryz.f116))), (.inBlock 0), (.code (atC [1, 1] (bodyOf Tryz.f116)))], mkT j [(4, (iI (e)))] 21 0⟩
theorem p137e (hE : EnvOk E) (V : AccP) (U C : List DT) (un n i : Nat) (b e z : Int) (ac : Bool) (h0 : (decide (Int.ofNat i < Int.ofNat n) : Bool) = true) (h1 : (0 : Int) ≤ Int.ofNat i ∧ Int.ofNat i < (↑n : Int)) (h2 : ((Int.ofNat i).toNat * nat_lit 1 : Nat) = i) (h3 : (getL C i : Option DT) = (.some (.v (.int .i64 z)))) (h4 : COut E 0 [(zBk (zAc V ac U un) 22 44), (zBk [.v (.int .i64 b)] 1 3), (zBk [(.clo 115 [] [(.one (.ptr 1 0))])] 1 129)] 89 [(iI (z)), (.e (.one (.ptr 2 0)))] (iI (e)) [(zBk (zAc V ac U un) 22 44), (zBk [.v (.int .i64 z)] 1 3), (zBk [(.clo 115 [] [(.one (.ptr 1 0))])] 1 129)]) (h5 : (e != (0 : Int) : Bool) = true) : Sg 0 3 (q137 V U C un n i b ac) (p137e_end V U un e z ac) := fun ho j =>
 oS hE [.run 3, (.cond true), .run 4, (.ops [(1, (.d (.ld (.v (.int .i64 z))))), (0, (.d (.ix (i))))] []), .run 1, (.ops [(2, (.cw (iI (e)) [(zBk (zAc V ac U un) 22 44), (zBk [.v (.int .i64 z)] 1 3), (zBk [(.clo 115 [] [(.one (.ptr 1 0))])] 1 129)]))] []), .run 2, (.cond true), .run 2] [4] (aP h0 <| aP h1 <| aP h2 <| aP h3 <| aP h4 <| aP h5 <| aZ)
  ho
def p137x_end (V : AccP) (U : List DT) (un : Nat) (b : Int) (ac : Bool) (j : Nat → Value) : St := ⟨[(zBk (zAc V ac U un) 22 44), (zBk [.v (.int .i64 b)] 1 3), (zBk [(.clo 115 [] [(.one (.ptr 1 0))])] 1 129)], [(.code .ret)], mkT j [(4, (iI 0))] 21 0⟩
theorem p137x (hE : EnvOk E) (V : AccP) (U C : List DT) (un n i : Nat) (b : Int) (ac : Bool) (h0 : (decide (Int.ofNat i < Int.ofNat n) : Bool) = false) : Sg 0 3 (q137 V U C un n i b ac) (p137x_end V U un b ac) := fun ho j =>
 oS hE [.run 3, (.cond false), .run 3] [4] (aP h0 <| aZ)
  ho
theorem K78 (hE : EnvOk E) (c : Bool) (e : Int) : COut E 0 [] 61 [iB c, iI e] (iI (if c = true then e else 0)) [] := by
 cases c with
 | true => exact cOut_start Tryz.func61 rfl (p78t hE (e) (true) rfl (fun j => outK_ret (ends_ret (by kernel_rfl))) fun _ => undef)
 | false => exact cOut_start Tryz.func61 rfl (p78f hE (e) (false) rfl (fun j => outK_ret (ends_ret (by kernel_rfl))) fun _ => undef)
theorem K83 (hE : EnvOk E) (c : Bool) (e : Int) : COut E 0 [] 38 [iB c, iI e] (iI (if c = true then e else 0)) [] := by
 cases c with
 | true => exact cOut_start Tryz.func38 rfl (p83t hE (e) (true) rfl (fun j => outK_ret (ends_ret (by kernel_rfl))) fun _ => undef)
 | false => exact cOut_start Tryz.func38 rfl (p83f hE (e) (false) rfl (fun j => outK_ret (ends_ret (by kernel_rfl))) fun _ => undef)
def rngI (a b z : Int) : Int := if z < a ∨ b < z then 3 else 0
theorem K77 (hE : EnvOk E) (z a b : Int) : COut E 0 [] 63 [iI z, iI a, iI b] (iI (rngI a b z)) [] := by
 by_cases h : z < a
 ·have e : rngI a b z = 3 := by simp [rngI, h]
  rw [e]
  exact cOut_start Tryz.func63 rfl (p77a hE (z) (a) (b) (3) (by simp [h]) (by simp [h]) (by simp [h]) (decide_eq_true (by (try simp only [Int.ofNat_eq_natCast]); omega)) (K78 hE true 3) (fun j => outK_ret (ends_ret (by kernel_rfl))) fun _ => undef)
 ·have e : rngI a b z = (if decide (z > b) = true then 3 else 0) := by simp [rngI, h]
  rw [e]
  exact cOut_start Tryz.func63 rfl (p77b hE (z) (a) (b) (if decide (z > b) = true then 3 else 0) (by rw [decide_eq_false (by omega)]; rfl) (by rw [decide_eq_false (by omega)]; rfl) (by rw [decide_eq_false (by omega)]; rfl) (decide_eq_false (by (try simp only [Int.ofNat_eq_natCast]); omega)) (K78 hE _ 3) (fun j => outK_ret (ends_ret (by kernel_rfl))) fun _ => undef)
theorem K17 (hE : EnvOk E) (z a b : Int) : COut E 0 [] 37 [iI z, iI a, iI b] (iI (rngI a b z)) [] := by
 by_cases h : z < a
 ·have e : rngI a b z = 3 := by simp [rngI, h]
  rw [e]
  exact cOut_start Tryz.func37 rfl (p17a hE (z) (a) (b) (3) (by simp [h]) (by simp [h]) (by simp [h]) (decide_eq_true (by (try simp only [Int.ofNat_eq_natCast]); omega)) (K83 hE true 3) (fun j => outK_ret (ends_ret (by kernel_rfl))) fun _ => undef)
 ·have e : rngI a b z = (if decide (z > b) = true then 3 else 0) := by simp [rngI, h]
  rw [e]
  exact cOut_start Tryz.func37 rfl (p17b hE (z) (a) (b) (if decide (z > b) = true then 3 else 0) (by rw [decide_eq_false (by omega)]; rfl) (by rw [decide_eq_false (by omega)]; rfl) (by rw [decide_eq_false (by omega)]; rfl) (decide_eq_false (by (try simp only [Int.ofNat_eq_natCast]); omega)) (K83 hE _ 3) (fun j => outK_ret (ends_ret (by kernel_rfl))) fun _ => undef)
def num (z : Int) : Int := rngI 1 999999999 z
theorem K88 (hE : EnvOk E) (z : Int) : COut E 0 [] 85 [iI z] (iI (num z)) [] :=
 cOut_start Tryz.func85 rfl (p88 hE (z) (num z) (K77 hE z 1 999999999) (fun j => outK_ret (ends_ret (by kernel_rfl))) fun _ => undef)
theorem K84 (hE : EnvOk E) (z : Int) : COut E 0 [] 39 [iI z] (iI (num z)) [] :=
 cOut_start Tryz.func39 rfl (p84 hE (z) (num z) (K17 hE z 1 999999999) (fun j => outK_ret (ends_ret (by kernel_rfl))) fun _ => undef)
def firstI : List Int → Int
 | [] => 0
 | x :: r => if x = 0 then firstI r else x
theorem l76 (hE : EnvOk E) (xs : List Int) (n : Nat) (hn : xs.length = n) (hm : n ≤ 4000000) : ∀ m i, m + i = n → ∀ j, OutK E 0 0 (q76 (iD xs) (n) (i) j) (Go.Ev.Ends E Tryz.f53 (iI (firstI (xs.drop i))) [])
 | 0, i, hk, j => by
  rw [List.drop_eq_nil_of_le (by omega)]
  exact p76x hE (iD xs) (n) (i) (decide_eq_false (by (try simp only [Int.ofNat_eq_natCast]); omega)) (fun j => outK_ret (ends_ret (by kernel_rfl))) j
 | m + 1, i, hk, j => by
  have hlt : i < xs.length := by omega
  have hx : xs[i]? = some xs[i] := List.getElem?_eq_getElem hlt
  rw [List.drop_eq_getElem_cons hlt]
  generalize xs[i] = z at hx
  have hu : firstI (z :: xs.drop (i + 1)) = if z = 0 then firstI (xs.drop (i + 1)) else z := rfl
  rw [hu]
  by_cases hz : z = 0
  ·rw [if_pos hz]
   exact p76s hE (iD xs) (n) (i) (z) (decide_eq_true (by (try simp only [Int.ofNat_eq_natCast]); omega)) ⟨by (try simp only [Int.ofNat_eq_natCast]); omega, by (try simp only [Int.ofNat_eq_natCast]); omega⟩ (Nat.mul_one _) (getI hx) (by rw [hz]; rfl) (iIe (by (try simp only [Int.ofNat_eq_natCast]); rw [wrap_id (by omega) (by omega)]; try omega)) (l76 hE xs n hn hm m (i + 1) (by omega)) j
  ·rw [if_neg hz]
   exact p76e hE (iD xs) (n) (i) (z) (decide_eq_true (by (try simp only [Int.ofNat_eq_natCast]); omega)) ⟨by (try simp only [Int.ofNat_eq_natCast]); omega, by (try simp only [Int.ofNat_eq_natCast]); omega⟩ (Nat.mul_one _) (getI hx) (bne_iff_ne.2 hz) (fun j => outK_ret (ends_ret (by kernel_rfl))) j
theorem K76 (hE : EnvOk E) (xs : List Int) (hm : xs.length ≤ 4000000) : COut E 0 [] 53 [dI xs] (iI (firstI xs)) [] :=
 cOut_start Tryz.func53 rfl (p76a hE (iD xs) (xs.length) (l76 hE xs _ rfl hm xs.length 0 rfl) fun _ => undef)
theorem l82 (hE : EnvOk E) (xs : List Int) (n : Nat) (hn : xs.length = n) (hm : n ≤ 4000000) : ∀ m i, m + i = n → ∀ j, OutK E 0 0 (q82 (iD xs) (n) (i) j) (Go.Ev.Ends E Tryz.f36 (iI (firstI (xs.drop i))) [])
 | 0, i, hk, j => by
  rw [List.drop_eq_nil_of_le (by omega)]
  exact p82x hE (iD xs) (n) (i) (decide_eq_false (by (try simp only [Int.ofNat_eq_natCast]); omega)) (fun j => outK_ret (ends_ret (by kernel_rfl))) j
 | m + 1, i, hk, j => by
  have hlt : i < xs.length := by omega
  have hx : xs[i]? = some xs[i] := List.getElem?_eq_getElem hlt
  rw [List.drop_eq_getElem_cons hlt]
  generalize xs[i] = z at hx
  have hu : firstI (z :: xs.drop (i + 1)) = if z = 0 then firstI (xs.drop (i + 1)) else z := rfl
  rw [hu]
  by_cases hz : z = 0
  ·rw [if_pos hz]
   exact p82s hE (iD xs) (n) (i) (z) (decide_eq_true (by (try simp only [Int.ofNat_eq_natCast]); omega)) ⟨by (try simp only [Int.ofNat_eq_natCast]); omega, by (try simp only [Int.ofNat_eq_natCast]); omega⟩ (Nat.mul_one _) (getI hx) (by rw [hz]; rfl) (iIe (by (try simp only [Int.ofNat_eq_natCast]); rw [wrap_id (by omega) (by omega)]; try omega)) (l82 hE xs n hn hm m (i + 1) (by omega)) j
  ·rw [if_neg hz]
   exact p82e hE (iD xs) (n) (i) (z) (decide_eq_true (by (try simp only [Int.ofNat_eq_natCast]); omega)) ⟨by (try simp only [Int.ofNat_eq_natCast]); omega, by (try simp only [Int.ofNat_eq_natCast]); omega⟩ (Nat.mul_one _) (getI hx) (bne_iff_ne.2 hz) (fun j => outK_ret (ends_ret (by kernel_rfl))) j
theorem K82 (hE : EnvOk E) (xs : List Int) (hm : xs.length ≤ 4000000) : COut E 0 [] 36 [dI xs] (iI (firstI xs)) [] :=
 cOut_start Tryz.func36 rfl (p82a hE (iD xs) (xs.length) (l82 hE xs _ rfl hm xs.length 0 rfl) fun _ => undef)
theorem l30 (hE : EnvOk E) (xs ys : List Int) (n : Nat) (hn : xs.length = n) (hp : ys.length = n) (hm : n ≤ 4000000) : ∀ m i, m + i = n → ∀ j, OutK E 0 0 (q30 (iD xs) (iD ys) (n) (n) (i) j) (Go.Ev.Ends E Tryz.f42 (iB (decide (xs.drop i = ys.drop i))) [])
 | 0, i, hk, j => by
  rw [List.drop_eq_nil_of_le (by omega), List.drop_eq_nil_of_le (by omega)]
  exact p30x hE (iD xs) (iD ys) (n) (n) (i) (decide_eq_false (by (try simp only [Int.ofNat_eq_natCast]); omega)) (fun j => outK_ret (ends_ret (by kernel_rfl))) j
 | m + 1, i, hk, j => by
  have hl : i < xs.length := by omega
  have hl2 : i < ys.length := by omega
  have hx : xs[i]? = some xs[i] := List.getElem?_eq_getElem hl
  have hy : ys[i]? = some ys[i] := List.getElem?_eq_getElem hl2
  rw [List.drop_eq_getElem_cons hl, List.drop_eq_getElem_cons hl2]
  generalize xs[i] = z at hx
  generalize ys[i] = w at hy
  by_cases h1 : z = w
  ·have e : decide (z :: xs.drop (i + 1) = w :: ys.drop (i + 1)) = decide (xs.drop (i + 1) = ys.drop (i + 1)) := by rw [h1]; simp
   rw [e]
   exact p30s hE (iD xs) (iD ys) (n) (n) (i) (z) (w) (decide_eq_true (by (try simp only [Int.ofNat_eq_natCast]); omega)) ⟨by (try simp only [Int.ofNat_eq_natCast]); omega, by (try simp only [Int.ofNat_eq_natCast]); omega⟩ (Nat.mul_one _) (getI hx) ⟨by (try simp only [Int.ofNat_eq_natCast]); omega, by (try simp only [Int.ofNat_eq_natCast]); omega⟩ (getI hy) (by rw [h1]; simp) (iIe (by (try simp only [Int.ofNat_eq_natCast]); rw [wrap_id (by omega) (by omega)]; try omega)) (l30 hE xs ys n hn hp hm m (i + 1) (by omega)) j
  ·have e : decide (z :: xs.drop (i + 1) = w :: ys.drop (i + 1)) = false := decide_eq_false fun h => h1 (List.cons.inj h).1
   rw [e]
   exact p30d hE (iD xs) (iD ys) (n) (n) (i) (z) (w) (decide_eq_true (by (try simp only [Int.ofNat_eq_natCast]); omega)) ⟨by (try simp only [Int.ofNat_eq_natCast]); omega, by (try simp only [Int.ofNat_eq_natCast]); omega⟩ (Nat.mul_one _) (getI hx) ⟨by (try simp only [Int.ofNat_eq_natCast]); omega, by (try simp only [Int.ofNat_eq_natCast]); omega⟩ (getI hy) (bne_iff_ne.2 h1) (fun j => outK_ret (ends_ret (by kernel_rfl))) j
theorem K30 (hE : EnvOk E) (xs ys : List Int) (n p : Nat) (hn : xs.length = n) (hp : ys.length = p) (hm : n ≤ 4000000) : COut E 0 [] 42 [.e (.one (.dp (.s (iD xs) n 1))), .e (.one (.dp (.s (iD ys) p 1)))] (iB (decide (xs = ys))) [] := by
 by_cases h : p = n
 ·subst h
  exact cOut_start Tryz.func42 rfl (p30a hE (iD xs) (iD ys) (p) (p) (by simp) (l30 hE xs ys p hn hp hm p 0 rfl) fun _ => undef)
 ·have e : decide (xs = ys) = false := decide_eq_false fun e => h (by rw [← hn, ← hp, e])
  rw [e]
  exact cOut_start Tryz.func42 rfl (p30n hE (iD xs) (iD ys) (n) (p) (bne_iff_ne.2 (by omega)) (fun j => outK_ret (ends_ret (by kernel_rfl))) fun _ => undef)
def HB (V : AccP) (U : List DT) (un : Nat) (ac : Bool) (b : Int) : Heap := [bK (zAc V ac U un) 22 44, bK [.v (.int .i64 b)] 1 3, bK [.clo 115 [] [.one (.ptr 1 0)]] 1 129]
theorem K136 (hE : EnvOk E) (V : AccP) (U : List DT) (un : Nat) (ac : Bool) (x b : Int) : COut E 0 (HB V U un ac b) 115 [iI x, .e (.one (.ptr 1 0))] (iI (if x ≤ b then 11 else 0)) (HB V U un ac x) := by
 have k := K78 hE (decide (x ≤ b)) 11
 rw [show (if decide (x ≤ b) = true then (11 : Int) else 0) = if x ≤ b then 11 else 0 by simp] at k
 exact cOut_start Tryz.func115 rfl (p136 hE (V) (U) (un) (x) (b) (if x ≤ b then 11 else 0) (ac) k (fun j => outK_ret (ends_ret (by kernel_rfl))) fun _ => undef)
def rise1 (b x : Int) : Int := firstI [num x, if x ≤ b then 11 else 0]
theorem K87 (hE : EnvOk E) (V : AccP) (U : List DT) (un : Nat) (ac : Bool) (x b : Int) : COut E 0 (HB V U un ac b) 89 [iI x, .e (.one (.ptr 2 0))] (iI (rise1 b x)) (HB V U un ac x) :=
 cOut_start Tryz.func89 rfl (p87 hE (V) (U) (un) (x) (b) (rise1 b x) (num x) (if x ≤ b then 11 else 0) (ac) (K88 hE x) (K136 hE V U un ac x b) (lend2 4 hE 53 [num x, if x ≤ b then 11 else 0] _ 36 true (K76 hE _ (by simp)) _ 3 rfl) (fun j => outK_ret (ends_ret (by kernel_rfl))) fun _ => undef)
def riseE : Int → List Int → Int
 | _, [] => 0
 | b, z :: l => if rise1 b z = 0 then riseE z l else rise1 b z
def riseB : Int → List Int → Int
 | b, [] => b
 | b, z :: l => if rise1 b z = 0 then riseB z l else z
theorem l137 (hE : EnvOk E) (V : AccP) (U : List DT) (un : Nat) (ac : Bool) (xs : List Int) (n : Nat) (hn : xs.length = n) (hm : n ≤ 4000000) : ∀ m i b, m + i = n → ∀ j, OutK E 0 3 (q137 (V) (U) (iD xs) (un) (n) (i) (b) (ac) j) (Go.Ev.Ends E Tryz.f116 (iI (riseE b (xs.drop i))) (HB V U un ac (riseB b (xs.drop i))))
 | 0, i, b, hk, j => by
  rw [List.drop_eq_nil_of_le (by omega)]
  exact p137x hE (V) (U) (iD xs) (un) (n) (i) (b) (ac) (decide_eq_false (by (try simp only [Int.ofNat_eq_natCast]); omega)) (fun j => outK_ret (ends_ret (by kernel_rfl))) j
 | m + 1, i, b, hk, j => by
  have hlt : i < xs.length := by omega
  have hx : xs[i]? = some xs[i] := List.getElem?_eq_getElem hlt
  rw [List.drop_eq_getElem_cons hlt]
  generalize xs[i] = z at hx
  have h1 : riseE b (z :: xs.drop (i + 1)) = if rise1 b z = 0 then riseE z (xs.drop (i + 1)) else rise1 b z := rfl
  have h2 : riseB b (z :: xs.drop (i + 1)) = if rise1 b z = 0 then riseB z (xs.drop (i + 1)) else z := rfl
  rw [h1, h2]
  by_cases hz : rise1 b z = 0
  ·rw [if_pos hz, if_pos hz]
   exact p137s hE (V) (U) (iD xs) (un) (n) (i) (b) (rise1 b z) (z) (ac) (decide_eq_true (by (try simp only [Int.ofNat_eq_natCast]); omega)) ⟨by (try simp only [Int.ofNat_eq_natCast]); omega, by (try simp only [Int.ofNat_eq_natCast]); omega⟩ (Nat.mul_one _) (getI hx) (K87 hE V U un ac z b) (by rw [hz]; rfl) (iIe (by (try simp only [Int.ofNat_eq_natCast]); rw [wrap_id (by omega) (by omega)]; try omega)) (l137 hE V U un ac xs n hn hm m (i + 1) z (by omega)) j
  ·rw [if_neg hz, if_neg hz]
   exact p137e hE (V) (U) (iD xs) (un) (n) (i) (b) (rise1 b z) (z) (ac) (decide_eq_true (by (try simp only [Int.ofNat_eq_natCast]); omega)) ⟨by (try simp only [Int.ofNat_eq_natCast]); omega, by (try simp only [Int.ofNat_eq_natCast]); omega⟩ (Nat.mul_one _) (getI hx) (K87 hE V U un ac z b) (bne_iff_ne.2 hz) (fun j => outK_ret (ends_ret (by kernel_rfl))) j
theorem K137 (hE : EnvOk E) (V : AccP) (U : List DT) (un : Nat) (ac : Bool) (xs : List Int) (n : Nat) (hn : xs.length = n) (hm : n ≤ 4000000) (b : Int) : COut E 0 (HB V U un ac b) 116 [.e (.one (.dp (.s (iD xs) n 1))), (.e (.one (.clo 89 [] [.one (.ptr 2 0)])))] (iI (riseE b xs)) (HB V U un ac (riseB b xs)) :=
 cOut_start Tryz.func116 rfl (p137a hE (V) (U) (iD xs) (un) (n) (b) (ac)  (l137 hE V U un ac xs n hn hm n 0 b rfl) fun _ => undef)
theorem K86 (hE : EnvOk E) (V : AccP) (U : List DT) (un : Nat) (ac : Bool) (xs : List Int) (n : Nat) (hn : xs.length = n) (hm : n ≤ 4000000) (b : Int) : COut E 0 (HB V U un ac b) 88 [.e (.one (.dp (.s (iD xs) n 1))), iI 256, (.e (.one (.clo 89 [] [.one (.ptr 2 0)])))] (iI (if 256 < n then 5 else riseE b xs)) (HB V U un ac (if 256 < n then b else riseB b xs)) := by
 by_cases h : 256 < n
 ·rw [if_pos h, if_pos h]
  exact cOut_start Tryz.func88 rfl (p86m hE (V) (U) (iD xs) (un) (n) (b) (256) (ac) (decide_eq_true (by (try simp only [Int.ofNat_eq_natCast]); omega)) (fun j => outK_ret (ends_ret (by kernel_rfl))) fun _ => undef)
 ·rw [if_neg h, if_neg h]
  exact cOut_start Tryz.func88 rfl (p86 hE (V) (U) (iD xs) (un) (n) (b) (256) (riseE b xs) (riseB b xs) (ac) (decide_eq_false (by (try simp only [Int.ofNat_eq_natCast]); omega)) (K137 hE V U un ac xs n hn hm b) (fun j => outK_ret (ends_ret (by kernel_rfl))) fun _ => undef)
theorem K135n (hE : EnvOk E) (xs : List Int) (n : Nat) (hn : xs.length = n) (h0 : 0 < n) (hm : n ≤ 1000000) : COut E 0 [] 95 [.e (.one (.dp (.s (iD xs) n 1)))] (.e (.one (.slc 0 0 n 1 n false))) [some ⟨iC xs, n, 3, false, .cells⟩] := by
 subst hn
 have h1 : (iC xs).all AC.isOne = true := by simp [List.all_map, DT.ac, AC.isOne]
 exact cOut_start Tryz.func95 rfl (p135 hE (iD xs) (xs.length) (false) (iC xs) h0 (.inr (.inl ⟨rfl, by omega, by simp [small]; omega, h1, _, rfl, rfl, by simp⟩)) (Nat.mul_one _) (flat_iC xs) (fun j => outK_ret (ends_ret (by kernel_rfl))) fun _ => undef)
end
end Go.Proofs.YtneaafigbnjceaaGreatDoor.Bk
end

/-! SeEqB -/
section
open Go Go.Ev Go.RowKit
open Extern.Stop
namespace Go.Proofs.YtneaafigbnjceaaGreatDoor
noncomputable section
section
variable {P : Program} (w : World)
theorem run_equalIn_cells (d : Nat) (t e : TypeId) (n : Nat) {u : TypeDesc} (hag : isAggD u = false) (ht : P.underlying t = some (.array n e)) (he : P.underlying e = some u) (hsz : ∀ w, (sizeOf e).run P w = .ok 1 w)
  (xs ys : List Value) (hx : xs.length = n) (hy : ys.length = n) (q : Nat → Bool) (hq : ∀ i x y, xs[i]? = some x → ys[i]? = some y → (Op.equalIn (d + 1) e x y).run P w = .ok (q i) w) :
  (Op.equalIn (d + 2) t (.agg xs.toArray) (.agg ys.toArray)).run P w = .ok ((List.range n).all q) w := by
 rw [List.range_eq_range', Op.equalIn]
 simp only [Sem.run_bind, run_underlying ht, Result.andThen_ok, hsz, Std.Legacy.Range.forIn_eq_forIn_range', Std.Legacy.Range.size, Nat.sub_zero, Nat.add_sub_cancel, Nat.div_one]
 have hl : ∀ i ∈ List.range' 0 n 1, i < n := fun i hi => by simpa using (List.mem_range'_1.1 hi).2
 generalize List.range' 0 n 1 = l at hl ⊢
 induction l with
 | nil => simp
 | cons i l ih =>
  have hi : i < n := hl i (by simp)
  have gx : xs[i]? = some xs[i] := List.getElem?_eq_getElem (show i < xs.length by omega)
  have gy : ys[i]? = some ys[i] := List.getElem?_eq_getElem (show i < ys.length by omega)
  have part_one : ∀ (zs : List Value) (z : Value), zs[i]? = some z → (part e zs.toArray (i * 1)).run P w = .ok z w := by
   intro zs z hz
   have : (isAgg e).run P w = .ok false w := by
    simp only [isAgg, Sem.run_bind, run_underlying he, Result.andThen_ok]
    cases u <;> simp_all [isAggD]
   simp [part, this, hz]
  simp only [List.forIn_cons, Sem.run_bind, part_one xs _ gx, part_one ys _ gy, hq i _ _ gx gy, Result.andThen_ok, List.all_cons]
  cases hb : q i
  ·simp
  ·simp only [Bool.not_true, Bool.false_eq_true, if_false, Sem.run_pure, Result.andThen_ok, Bool.true_and]
   exact ih fun j hj => hl j (by simp [hj])
end
theorem some_of {α β : Type} {o : Option α} {f : α → β} {b : β} (h : o.map f = some b) : ∃ a, o = some a ∧ f a = b := by
 cases o with
 | none => simp at h
 | some a => exact ⟨a, rfl, by simpa using h⟩
theorem size1 {e : TypeId} (h : (Tryz.prog.info? e).map (·.size) = some 1) (w : World) : (sizeOf e).run Tryz.prog w = .ok 1 w := by
 obtain ⟨i, hi, hz⟩ := some_of h
 rw [Go.Ev.run_sizeOf hi w, hz]
theorem eqArr {t e n : Nat} {u : TypeDesc} (hag : isAggD u = false) (ht : Tryz.prog.underlying t = some (.array n e)) (he : Tryz.prog.underlying e = some u) (hsz : (Tryz.prog.info? e).map (·.size) = some 1)
  {xs ys : List Value} (hx : xs.length = n) (hy : ys.length = n) (q : Nat → Bool) (hq : ∀ (w : World) i x y, xs[i]? = some x → ys[i]? = some y → (Op.equalIn 9999 e x y).run Tryz.prog w = .ok (q i) w) : EqOk E t (xs.map AC.v) (ys.map AC.v) ((List.range n).all q) := by
 intro m c1 c2 w h1 h2
 have e1 : c1 = xs.toArray := by rw [← Array.toList_inj]; exact cells_of h1
 have e2 : c2 = ys.toArray := by rw [← Array.toList_inj]; exact cells_of h2
 subst e1 e2
 show (Op.equalIn 10000 t _ _).run Tryz.prog w = _
 exact run_equalIn_cells w 9998 t e n hag ht he (size1 hsz) xs ys hx hy q (hq w)
theorem u23_ : Tryz.prog.underlying 23 = some (.array 8 5) := by kernel_rfl
theorem u5_ : Tryz.prog.underlying 5 = some (.int .u8) := by kernel_rfl
def sameK (l l' : List Int) : Bool := (List.range 8).all fun i => (l[i]?.getD 0) == (l'[i]?.getD 0)
theorem eqK (l l' : List Int) (h : l.length = 8) (h' : l'.length = 8) : EqOk E 23 ((l.map (Value.int .u8)).map AC.v) ((l'.map (Value.int .u8)).map AC.v) (sameK l l') :=
 eqArr (t := 23) (e := 5) (n := 8) (u := .int .u8) rfl u23_ u5_ (by kernel_rfl) (by simp [h]) (by simp [h']) (fun i => (l[i]?.getD 0) == (l'[i]?.getD 0)) (fun w i x y hx hy => by
  rw [List.getElem?_map] at hx hy
  cases e1 : l[i]? with
  | none => rw [e1] at hx; simp at hx
  | some a =>
   cases e2 : l'[i]? with
   | none => rw [e2] at hy; simp at hy
   | some b =>
    rw [e1] at hx; rw [e2] at hy
    simp only [Option.map_some, Option.some.injEq] at hx hy
    subst hx hy
    rw [show (9999 : Nat) = 9998 + 1 from rfl]
    exact run_equalIn_int w 9998 5 .u8 .u8 a b u5_)
theorem eqSelf (l : List Int) (h : l.length = 8) : EqOk E 23 ((l.map (Value.int .u8)).map AC.v) ((l.map (Value.int .u8)).map AC.v) true := by
 have e : sameK l l = true := by simp [sameK]
 rw [← e]; exact eqK l l h h
end
end Go.Proofs.YtneaafigbnjceaaGreatDoor
end

/-! SeCl -/
section
open Go Go.Shelf Go.Ev Go.RowKit Go.Lib Go.Proofs
namespace Go.Proofs.YtneaafigbnjceaaGreatDoor
set_option maxRecDepth 100000
def laysC_ren : Go.Shelf.Ren := ⟨fun | 41 => 95 | n => n, fun | 22 => 24 | 23 => 3 | 4 => 4 | n => n, fun | n => n⟩
theorem laysC : Go.Proofs.SlLaysN.n41 Tryz.prog laysC_ren := {
 mixed := by kernel_rfl
 f41 := ⟨Tryz.f95.name, by decide, Tryz.func95.trans (congrArg some (by kernel_rfl))⟩
 t4 := Tryz.underlying4
 a4 := Tryz.isAgg4
 z4 := Tryz.sizeOf4
 v4 := Tryz.zeroValue4
 t22 := Tryz.underlying24
 a22 := Tryz.isAgg24
 z22 := Tryz.sizeOf24
 v22 := Tryz.zeroValue24
 t23 := Tryz.underlying3
 a23 := Tryz.isAgg3
 z23 := Tryz.sizeOf3
 v23 := Tryz.zeroValue3
 i23 := by kernel_rfl }
theorem slices_Clone_int_nil (n c : Nat) (w : World) :
  Calls Tryz.prog 95 #[.slice none n c] w fun e w' => e = .returned (.slice none 0 0) ∧ w' = w := AnyG.slices_Clone_int_nil laysC n c w
theorem slices_Clone_int_zero (a : Addr) (c : Nat) (w : World) :
  Calls Tryz.prog 95 #[.slice (some a) 0 c] w fun e w' => ∃ v', e = .returned v' ∧ w'.ownsRow w.heap.size 3 1 v' 0 [] ∧ v' ≠ .slice none 0 0 ∧ Below w.heap.size w w' := AnyG.slices_Clone_int_zero laysC a c w
theorem cloneZ (_hE : EnvOk E) : COut E 0 [] 95 [.e (.one (.dp (.s [] 0 1)))] (.e (.one (.dp (.s [] 0 1)))) [] := by
 intro m base w argsC ha H G
 obtain ⟨y, hy, hR⟩ : ∃ y, argsC.toList = [y] ∧ VR m (.e (.one (.dp (.s [] 0 1)))) y := by
  generalize argsC.toList = l at ha
  match l, ha with
  | [y], hh => exact ⟨y, rfl, hh.1⟩
  | [], hh => exact hh.elim
  | _ :: _ :: _, hh => exact hh.2.elim
 have e : argsC = #[y] := by rw [← Array.toList_inj, hy]
 subst e
 have hR : DT.R m.F (.s [] 0 1) y := hR
 simp only [DT.R] at hR
 have mk : ∀ (q : Option Addr) (n : Nat), DT.R m.F (.s [] 0 1) (.slice q 0 n) := fun q n => by
  simp only [DT.R]; exact .inl ⟨trivial, q, n, rfl⟩
 rcases hR with ⟨_, p, c, rfl⟩ | ⟨h, _⟩
 ·cases p with
  | none => exact (slices_Clone_int_nil 0 c w).mono fun e w' ⟨he, hw⟩ => by subst hw; exact ⟨_, he, m, M.leG.refl _ m, mk none 0, H, Below.refl _ _⟩
  | some a =>
   refine (slices_Clone_int_zero a c w).mono fun e w' ⟨v', he, ho, _, hB⟩ => ?_
   obtain ⟨_, ⟨hv, _⟩ | ⟨g, cp, _, hv, _⟩⟩ := ho
   ·subst hv; exact ⟨_, he, m, M.leG.refl _ m, mk _ _, H.world hB.size hB.block, hB.mono H.baseLe⟩
   ·subst hv; exact ⟨_, he, m, M.leG.refl _ m, mk _ _, H.world hB.size hB.block, hB.mono H.baseLe⟩
 ·omega
end Go.Proofs.YtneaafigbnjceaaGreatDoor
end
