/-
  Part of the proof: SyK, SyL, SyO, SyArg, SyList, SyRd, SeEqI, SeGen, SeRow, SeWd, SeTa, SeVz.
-/
import Derived.Test.YtaccakbjankeeaaGreatDoorSeZE
import Derived.ChangeArms
import Derived.OpenShut
import Derived.Stop.BytesEq
import Derived.WideShapes

/-! SyK -/
section
namespace Go.Ev
open Go.RowKit
noncomputable section
section
variable {E : Env} {lvl : Nat}
def FrzC (i : Nat) (ds : List DT) (x x' : AC) : Prop := x' = x ∨ ∃ o len sz cap ex r, x = .slc i o len sz cap ex ∧ x' = .dp (.s r len sz) ∧ takeL (dropL ds o) (len * sz) = some r
def FrzE (i : Nat) (ds : List DT) : AE → AE → Prop
 | .one x, .one x' => FrzC i ds x x'
 | .agg l, .agg l' => All2 (FrzC i ds) l l'
 | _, _ => False
def FrzV (i : Nat) (ds : List DT) : AV → AV → Prop
 | .e x, .e x' => FrzE i ds x x'
 | .tup l, .tup l' => All2 (FrzE i ds) l l'
 | _, _ => False
theorem DT.Rl.of_all2 {m : M} : ∀ {ds : List DT} {ys : List Value}, All2 (CR m) (ds.map DT.ac) ys → DT.Rl m.F ds ys
 | [], _, _ => by simp [DT.Rl]
 | d :: ds, [], h => h.elim
 | d :: ds, y :: ys, h => by
  simp only [DT.Rl]
  refine ⟨y, ys, rfl, ?_, DT.Rl.of_all2 h.2⟩
  have h1 : CR m d.ac y := h.1
  cases d with
  | v x => simpa [DT.R, DT.ac, CR] using h1
  | s c n sz => exact h1
theorem DT.Rl.more {F : List (Nat × List Value)} : ∀ {l : List DT} {ys zs : List Value}, DT.Rl F l ys → DT.Rl F l (ys ++ zs)
 | [], _, _, _ => by simp [DT.Rl]
 | d :: l, ys, zs, r => by
  simp only [DT.Rl] at r ⊢
  obtain ⟨y, r', rfl, h1, h2⟩ := r
  exact ⟨y, r' ++ zs, rfl, h1, DT.Rl.more h2⟩
theorem CR.rest {m m2 : M} {w : World} {i : Nat} {ds : List DT} {N el : Nat} {fl : Bool} (B : BR m w i ⟨ds.map DT.ac, N, el, fl, .cells⟩) {c : Array Value} {fz : Nat × Nat} (hc : w.heap[m.ρ i]? = some (.cells c el fz)) (hF : ∀ p ∈ m.F, p ∈ m2.F) (hp : (m.ρ i, c.toList) ∈ m2.F)
  {o len sz cap : Nat} {ex : Bool} {r : List DT} (hr : takeL (dropL ds o) (len * sz) = some r) {y : Value} (hy : CR m (.slc i o len sz cap ex) y) : DV.R m2.F (.s r len sz) y := by
 obtain ⟨hb, cc, o', rfl, g0, g1, g1', g2, g3, g4⟩ := hy
 obtain ⟨b1, b2, c', fz', b3, b4, b5, b6, b7⟩ := B
 have b3 : w.heap[m.ρ i]? = some (.cells c' el fz') := b3
 rw [hc] at b3
 simp only [Option.some.injEq, Obj.cells.injEq] at b3
 obtain ⟨rfl, _, _⟩ := b3
 show DT.R m2.F (.s r len sz) _
 simp only [DT.R]
 rcases Nat.eq_zero_or_pos len with rfl | h0
 ·exact .inl ⟨rfl, _, _, rfl⟩
 ·obtain rfl : o' = o := by rcases g0 with g0 | g0 <;> omega
  obtain ⟨t1, rfl⟩ := takeL_some hr
  rw [dropL_eq] at t1
  have hsz : c.toList.length = m.κ i := by simpa using b4
  refine .inr ⟨h0, m.ρ i, o', cc, c.toList, rfl, by omega, g2, hp, by omega, by rw [dropL_eq, List.length_take]; omega, ?_⟩
  have hR := ((DT.Rl.of_all2 (m := m) b7).mono hF).more (zs := c.toList.drop N)
  rw [List.take_append_drop] at hR
  rw [dropL_eq]
  exact (hR.drop o').pre (len * sz)
theorem FrzC.sound {m m2 : M} {w : World} {i : Nat} {ds : List DT} {N el : Nat} {fl : Bool} (B : BR m w i ⟨ds.map DT.ac, N, el, fl, .cells⟩) {c : Array Value} {fz : Nat × Nat} (hc : w.heap[m.ρ i]? = some (.cells c el fz)) {bs : Nat} (hle : M.leG bs m m2) (hp : (m.ρ i, c.toList) ∈ m2.F)
  {x x' : AC} {y : Value} (h : FrzC i ds x x') (hy : CR m x y) : CR m2 x' y := by
 rcases h with rfl | ⟨o, len, sz, cap, ex, r, rfl, rfl, hr⟩
 ·exact CR.monoG hle hy
 ·exact CR.rest B hc hle.F hp hr hy
theorem all2_map {α β γ : Type} {R : α → β → Prop} {T : α → γ → Prop} {S : γ → β → Prop} (hi : ∀ a b c, T a c → R a b → S c b) : ∀ {l : List α} {l' : List γ} {ys : List β}, All2 T l l' → All2 R l ys → All2 S l' ys
 | [], [], [], _, _ => trivial
 | _ :: _, _ :: _, _ :: _, h1, h2 => ⟨hi _ _ _ h1.1 h2.1, all2_map hi h1.2 h2.2⟩
 | [], [], _ :: _, _, h => h.elim
 | [], _ :: _, _, h, _ => h.elim
 | _ :: _, [], _, h, _ => h.elim
 | _ :: _, _ :: _, [], _, h => h.elim
theorem FrzE.sound {m m2 : M} {w : World} {i : Nat} {ds : List DT} {N el : Nat} {fl : Bool} (B : BR m w i ⟨ds.map DT.ac, N, el, fl, .cells⟩) {c : Array Value} {fz : Nat × Nat} (hc : w.heap[m.ρ i]? = some (.cells c el fz)) {bs : Nat} (hle : M.leG bs m m2) (hp : (m.ρ i, c.toList) ∈ m2.F) :
  ∀ {x x' : AE} {y : Value}, FrzE i ds x x' → ER m x y → ER m2 x' y
 | .one _, .one _, _, h, hy => FrzC.sound B hc hle hp h hy
 | .agg _, .agg _, _, h, hy => by
  obtain ⟨cs, h1, h2⟩ := hy
  exact ⟨cs, h1, all2_map (R := CR m) (T := FrzC i ds) (S := CR m2) (fun a b c' h0 h3 => FrzC.sound B hc hle hp h0 h3) (show All2 (FrzC i ds) _ _ from h) h2⟩
 | .one _, .agg _, _, h, _ => h.elim
 | .agg _, .one _, _, h, _ => h.elim
theorem FrzV.sound {m m2 : M} {w : World} {i : Nat} {ds : List DT} {N el : Nat} {fl : Bool} (B : BR m w i ⟨ds.map DT.ac, N, el, fl, .cells⟩) {c : Array Value} {fz : Nat × Nat} (hc : w.heap[m.ρ i]? = some (.cells c el fz)) {bs : Nat} (hle : M.leG bs m m2) (hp : (m.ρ i, c.toList) ∈ m2.F) :
  ∀ {x x' : AV} {y : Value}, FrzV i ds x x' → VR m x y → VR m2 x' y
 | .e _, .e _, _, h, hy => FrzE.sound B hc hle hp h hy
 | .tup _, .tup _, _, h, hy => by
  obtain ⟨cs, h1, h2⟩ := hy
  exact ⟨cs, h1, all2_map (R := ER m) (T := FrzE i ds) (S := ER m2) (fun a b c' h0 h3 => FrzE.sound B hc hle hp h0 h3) (show All2 (FrzE i ds) _ _ from h) h2⟩
 | .e _, .tup _, _, h, _ => h.elim
 | .tup _, .e _, _, h, _ => h.elim
theorem HR.freeze {m : M} {base : Nat} {h : Heap} {w : World} (H : HR m base lvl h w) {i : Nat} {ds : List DT} {N el : Nat} {fl : Bool} (hi : h[i]? = some (some ⟨ds.map DT.ac, N, el, fl, .cells⟩)) (hl : lvl ≤ i) :
  ∃ m2, HR m2 base lvl (h.set i none) w ∧ M.leG base m m2 ∧ m2.n = m.n ∧ m2.ρ = m.ρ ∧ m2.κ = m.κ ∧ (∀ x x' y, FrzV i ds x x' → VR m x y → VR m2 x' y) ∧ (∀ x x' y, FrzC i ds x x' → CR m x y → CR m2 x' y) := by
 have B := H.blk i _ hi rfl
 obtain ⟨b1, b2, c, fz, b3, b4, b5, b6, b7⟩ := id B
 have hil := (List.getElem?_eq_some_iff.1 hi).1
 let m2 : M := { n := m.n, ρ := m.ρ, κ := m.κ, lo := m.lo, F := (m.ρ i, c.toList) :: m.F }
 have hle : M.leG base m m2 := ⟨Nat.le_refl _, fun _ _ => rfl, fun _ _ => rfl, rfl, fun p hp => List.mem_cons_of_mem _ hp, fun p hp => by
  rcases List.mem_cons.1 hp with rfl | hp
  ·exact .inr (H.own i hl hil)
  ·exact .inl hp⟩
 have hK := H.kill i
 refine ⟨m2, ⟨hK.n, hK.lvlLe, hK.baseLe, fun b a hb => (hK.ent b a hb).monoG hle (by rw [hK.n]; exact (List.getElem?_eq_some_iff.1 hb).1), hK.own, hK.inj, hK.lo, fun p hp => ?_⟩, hle, rfl, rfl, rfl,
  fun x x' y hx hy => FrzV.sound B b3 hle (List.mem_cons_self ..) hx hy, fun x x' y hx hy => FrzC.sound B b3 hle (List.mem_cons_self ..) hx hy⟩
 rcases List.mem_cons.1 hp with rfl | hp
 ·refine ⟨⟨c, el, fz, b3, rfl⟩, fun b a hb ha he => ?_⟩
  have ha' := alive_set ha
  exact ha'.2 (H.inj b i (List.getElem?_eq_some_iff.1 ha'.1).1 hil ⟨a, ha'.1⟩ ⟨_, hi⟩ (.inr (Nat.le_trans H.lo hl)) he)
 ·exact hK.tab p hp
theorem cOut_freeze {f : FuncId} {hin : Heap} {args : List AV} {v v' : AV} {hout : Heap} (i : Nat) {ds : List DT} {N el : Nat} {fl : Bool} (hc : COut E lvl hin f args v hout) (hi : getL hout i = some (some ⟨ds.map DT.ac, N, el, fl, .cells⟩)) (hl : lvl ≤ i) (hv : FrzV i ds v v') :
  COut E lvl hin f args v' (setL hout i none) := by
 rw [getL_eq] at hi
 rw [setL_eq]
 intro m base w argsC ha H G
 refine (hc m base w argsC ha H G).mono fun e w' ⟨y, hy, m1, hp⟩ => ⟨y, hy, ?_⟩
 obtain ⟨m2, H2, hle, hn, hρ, hκ, hV, _⟩ := hp.heap.freeze hi hl
 exact ⟨m2, hp.le.trans hle, hV _ _ _ hv hp.val, H2, hp.below⟩
def LendC (h : Heap) (x x' : AC) : Prop := (x' = x ∧ x.refs = []) ∨ ∃ i o len sz cap ex r ds N el fl, x = .slc i o len sz cap ex ∧ x' = .dp (.s r len sz) ∧ getL h i = some (some ⟨ds.map DT.ac, N, el, fl, .cells⟩) ∧ takeL (dropL ds o) (len * sz) = some r
def LendE (h : Heap) : AE → AE → Prop
 | .one x, .one x' => LendC h x x'
 | .agg l, .agg l' => All2 (LendC h) l l'
 | _, _ => False
def LendV (h : Heap) : AV → AV → Prop
 | .e x, .e x' => LendE h x x'
 | _, _ => False
theorem lendTabs {m : M} {base : Nat} {w : World} : ∀ (h : Heap), (∀ b a, h[b]? = some (some a) → EntR m w b a) → ∀ k, k ≤ h.length → ∃ F : List (Nat × List Value), (∀ p ∈ F, ∃ (c : Array Value) (t : TypeId) (fz : Nat × Nat), w.heap[p.1]? = some (.cells c t fz) ∧ c.toList = p.2) ∧
  ∀ i a, i < k → h[i]? = some (some a) → a.ext = .cells → ∃ (c : Array Value) (fz : Nat × Nat), w.heap[m.ρ i]? = some (.cells c a.elem fz) ∧ (m.ρ i, c.toList) ∈ F
 | h, hent, 0, _ => ⟨[], by simp, fun i a hi => by omega⟩
 | h, hent, k + 1, hk => by
  obtain ⟨F, h1, h2⟩ := lendTabs (base := base) h hent k (by omega)
  by_cases hx : ∃ a, h[k]? = some (some a) ∧ a.ext = .cells
  ·obtain ⟨a, ha, hc⟩ := hx
   obtain ⟨b1, b2, c, fz, b3, _⟩ := (hent k a ha).1 hc
   refine ⟨(m.ρ k, c.toList) :: F, fun p hp => ?_, fun i a' hi ha' hc' => ?_⟩
   ·rcases List.mem_cons.1 hp with rfl | hp
    ·exact ⟨c, a.elem, fz, b3, rfl⟩
    ·exact h1 p hp
   ·by_cases hik : i = k
    ·subst hik
     rw [ha] at ha'
     simp only [Option.some.injEq] at ha'
     subst ha'
     exact ⟨c, fz, b3, List.mem_cons_self ..⟩
    ·obtain ⟨c', fz', g1, g2⟩ := h2 i a' (by omega) ha' hc'
     exact ⟨c', fz', g1, List.mem_cons_of_mem _ g2⟩
  ·refine ⟨F, h1, fun i a' hi ha' hc' => ?_⟩
   by_cases hik : i = k
   ·subst hik; exact absurd ⟨a', ha', hc'⟩ hx
   ·exact h2 i a' (by omega) ha' hc'
theorem cOut_lend {f : FuncId} {args args' : List AV} {v : AV} (h : Heap) (hc : COut E 0 [] f args' v []) (ha : All2 (LendV h) args args') (hv : v.refs = []) (hf : v.flat = true) : COut E lvl h f args v h := by
 intro m base w argsC hA H G
 obtain ⟨F, h1, h2⟩ := lendTabs (base := base) h H.ent h.length (Nat.le_refl _)
 let mc : M := { n := 0, ρ := m.ρ, κ := m.κ, lo := 0, F := F ++ m.F }
 have Hc : HR mc w.heap.size 0 [] w := ⟨rfl, Nat.le_refl _, Nat.le_refl _, fun b a hb => by simp at hb, fun b _ hb => by simp at hb, fun b b' hb => by simp at hb, Nat.le_refl _, fun p hp => ⟨by
  rcases List.mem_append.1 hp with hp | hp
  ·exact h1 p hp
  ·exact (H.tab p hp).1, fun b a _ hb => by simp at hb⟩⟩
 let mg : M := { n := m.n, ρ := m.ρ, κ := m.κ, lo := m.lo, F := F ++ m.F }
 have lc : ∀ x x' y, LendC h x x' → CR m x y → CR mc x' y := by
  intro x x' y hx hy
  rcases hx with ⟨rfl, hr⟩ | ⟨i, o, len, sz, cap, ex, r, ds, N, el, fl, rfl, rfl, hi, hr⟩
  ·exact CR.free (m1 := m) (m2 := mc) (fun p hp => List.mem_append_right _ hp) hr hy
  ·rw [getL_eq] at hi
   obtain ⟨c, fz, g1, g2⟩ := h2 i _ (List.getElem?_eq_some_iff.1 hi).1 hi rfl
   exact CR.rest (m2 := mc) (H.blk i _ hi rfl) g1 (fun p hp => List.mem_append_right _ hp) (List.mem_append_left _ g2) hr hy
 have lv : ∀ x y x', LendV h x x' → VR m x y → VR mc x' y := by
  intro x y x' hx hy
  match x, x', hx with
  | .e (.one x), .e (.one x'), hx => exact lc x x' y hx hy
  | .e (.agg l), .e (.agg l'), hx =>
   obtain ⟨cs, k1, k2⟩ := hy
   exact ⟨cs, k1, all2_map (R := CR m) (T := LendC h) (S := CR mc) (fun a b c' h0 h3 => lc a c' b h0 h3) (show All2 (LendC h) _ _ from hx) k2⟩
 have hA' : All2 (VR mc) args' argsC.toList := all2_map (R := VR m) (T := LendV h) (S := VR mc) (fun a b c' h0 h3 => lv a b c' h0 h3) ha hA
 refine (hc mc w.heap.size w argsC hA' Hc (G.up H.baseLe)).mono fun e w' ⟨y, hy, m1, hp⟩ => ⟨y, hy, m, M.leG.refl _ m, ?_, H.world hp.below.size hp.below.block, hp.below.mono H.baseLe⟩
 have hd := VR.downG hp.le (.inl hf) (fun b hb => by rw [hv] at hb; simp at hb) hp.val
 -- nothing in it leads anywhere
 have flatC : ∀ (x : AC) (y : Value), x.flat = true → x.refs = [] → CR mc x y → CR m x y := fun x y hf hr h => by
  cases x with
  | v _ => exact h
  | any _ => exact h
  | dp _ => simp [AC.flat] at hf
  | ptr => simp [AC.refs] at hr
  | slc => simp [AC.refs] at hr
  | yld => simp [AC.refs] at hr
  | mp => simp [AC.refs] at hr
  | clo g fs cs =>
   simp only [AC.refs, List.append_eq_nil_iff] at hr
   simp only [AC.flat, Bool.and_eq_true] at hf
   obtain ⟨vf, vc, hy, h1, h2⟩ := h
   have key : ∀ {l : List CE}, l.flatMap CE.refs = [] → (l.all fun e => e.atoms.all CA.flat) = true → ∀ e ∈ l, ∀ c ∈ e.atoms, ∀ y, CR mc c.ac y → CR m c.ac y := fun {l} hl hfl e he c hc y hr' => by
    have h0 : c.refs = [] := List.flatMap_eq_nil_iff.1 (List.flatMap_eq_nil_iff.1 hl e he) c hc
    have h3 := List.all_eq_true.1 (List.all_eq_true.1 hfl e he) c hc
    cases c with
    | v _ => exact hr'
    | dp _ => simp [CA.flat] at h3
    | _ => simp [CA.refs] at h0
   exact ⟨vf, vc, hy, CEs.to (key hr.1 hf.1) h1, CEs.to (key hr.2 hf.2) h2⟩
 have flatE : ∀ (x : AE) (y : Value), x.flat = true → x.refs = [] → ER mc x y → ER m x y := fun x y hf hr h => by
  cases x with
  | one x => exact flatC x y hf hr h
  | agg l =>
   obtain ⟨cs, k1, k2⟩ := h
   simp only [AE.refs, List.flatMap_eq_nil_iff] at hr
   exact ⟨cs, k1, all2_free (fun a ha b hb => flatC a b (List.all_eq_true.1 hf a ha) (hr a ha) hb) k2⟩
 cases v with
 | e x => exact flatE x y hf hv hd
 | tup l =>
  obtain ⟨cs, k1, k2⟩ := hd
  simp only [AV.refs, List.flatMap_eq_nil_iff] at hv
  exact ⟨cs, k1, all2_free (fun a ha b hb => flatE a b (List.all_eq_true.1 hf a ha) (hv a ha) hb) k2⟩
end
end
end Go.Ev
end

/-! SyL -/
section
namespace Go.Ev
open Go.RowKit
noncomputable section
variable {E : Env} {rec : RunT} {lvl K : Nat} {r : Res → Prop} {rd : Option Nat}
end
end Go.Ev
end

/-! SyO -/
section
namespace Go.Ev
open Go.RowKit
noncomputable section
section
variable {E : Env} {lvl K : Nat} {rd : Option Nat} {Φ : Res → Prop}
def FrzB (i : Nat) (ds : List DT) : Option AB → Option AB → Prop
 | none, none => True
 | some a, some a' => a' = a ∨ (a.ext = .cells ∧ a'.ext = .cells ∧ a'.n = a.n ∧ a'.elem = a.elem ∧ a'.full = a.full ∧ All2 (FrzC i ds) a.cells a'.cells)
 | _, _ => False
theorem all2_len {α β : Type} {R : α → β → Prop} : ∀ {l : List α} {ys : List β}, All2 R l ys → l.length = ys.length
 | [], [], _ => rfl
 | _ :: _, _ :: _, h => by simp [all2_len h.2]
theorem outK_freeze (i : Nat) {ds : List DT} {N el : Nat} {fl : Bool} {h h' : Heap} {todo : List Item} {tm tm' : Tm} (hi : getL h i = some (some ⟨ds.map DT.ac, N, el, fl, .cells⟩)) (hl : lvl ≤ i)
  (hh : All2 (FrzB i ds) (setL h i none) h') (ht : All2 (FrzV i ds) tm tm') (ho : OutK E lvl K ⟨h', todo, tm'⟩ Φ rd) : OutK E lvl K ⟨h, todo, tm⟩ Φ rd := by
 rw [getL_eq] at hi
 rw [setL_eq] at hh
 refine .before (s' := ⟨h', todo, tm'⟩) (fun fr t cs w m base hT H G => ?_) ho
 obtain ⟨m2, H2, hle, hn, hρ, hκ, hV, hC⟩ := HR.freeze H hi hl
 have hlen := all2_len hh
 have back : ∀ (b : Nat) (a' : AB), h'[b]? = some (some a') → ∃ a : AB, (h.set i none)[b]? = some (some a) ∧ (a' = a ∨ (a.ext = .cells ∧ a'.ext = .cells ∧ a'.n = a.n ∧ a'.elem = a.elem ∧ a'.full = a.full ∧ All2 (FrzC i ds) a.cells a'.cells)) := by
  intro b a' hb
  obtain ⟨x, hx, hr⟩ := hh.get' hb
  cases x with
  | none => exact hr.elim
  | some a => exact ⟨a, hx, hr⟩
 have hxm : ∀ {x x' : AC} {y : Value}, FrzC i ds x x' → CR m2 x y → CR m x y ∨ CR m2 x' y := fun {x x' y} hf hy => by
  rcases hf with rfl | _
  ·exact .inr hy
  ·left
   rename_i hf
   obtain ⟨o, len, sz, cap, ex, r, rfl, rfl, hr⟩ := hf
   obtain ⟨hb, c, o', hy', rest⟩ := hy
   exact ⟨by rw [← hn]; exact hb, c, o', by rw [← hρ]; exact hy', by rw [← hκ]; exact rest⟩
 refine ⟨t, w, m2, .refl _ _, all2_map (R := VR m) (T := FrzV i ds) (S := VR m2) (fun a b c h0 h3 => hV a c b h0 h3) ht hT, ⟨by rw [H2.n, hlen], by rw [← hlen]; exact H2.lvlLe, H2.baseLe, fun b a' hb => ?_, fun b hb hb2 => H2.own b hb (by rw [hlen]; exact hb2), ?_, H2.lo, fun p hp => ⟨(H2.tab p hp).1, fun b a' hb ha => ?_⟩⟩, hle, Below.refl _ _⟩
 ·obtain ⟨a, ha, hr⟩ := back b a' hb
  rcases hr with rfl | ⟨r1, r2, r3, r4, r5, r6⟩
  ·exact H2.ent b a' ha
  ·obtain ⟨B, _⟩ := H2.ent b a ha
   obtain ⟨b1, b2, c, fz, b3, b4, b5, b6, b7⟩ := B r1
   refine ⟨fun _ => ⟨by rw [← all2_len r6, b1, r3], fun hf => by rw [r3]; exact b2 (by rw [← r5]; exact hf), c, fz, by rw [r4]; exact b3, b4, b5, by rw [r3]; exact b6, ?_⟩, by rw [r2]; trivial⟩
   rw [r3]
   exact all2_map (R := CR m2) (T := FrzC i ds) (S := CR m2) (fun x y x' h0 h3 => (hxm h0 h3).elim (fun h => hC x x' y h0 h) id) r6 b7
 ·intro b b' hb hb' h1 h2 h3 h4
  refine H2.inj b b' (by rw [hlen]; exact hb) (by rw [hlen]; exact hb') ?_ ?_ h3 h4
  ·obtain ⟨a, ha⟩ := h1; obtain ⟨a0, h0, _⟩ := back b a ha; exact ⟨a0, h0⟩
  ·obtain ⟨a, ha⟩ := h2; obtain ⟨a0, h0, _⟩ := back b' a ha; exact ⟨a0, h0⟩
 ·obtain ⟨a, ha0, _⟩ := back b a' ha
  exact (H2.tab p hp).2 b a hb ha0
end
end
end Go.Ev
end

/-! SyArg -/
section
namespace Go.Ev
open Go.RowKit Go.WideShapes Go.ChangeShapes
noncomputable section
theorem cells_block {W : World} {b o n : Nat} {vs : List Value} (h : W.cells? 0 ⟨b, o, none⟩ n = some vs) (h0 : 0 < n) :
  ∃ (c : Array Value) (ty : TypeId) (fz : Nat × Nat), W.heap[b]? = some (.cells c ty fz) ∧ o + n ≤ c.size ∧ vs = (c.toList.drop o).take n := by
 unfold World.cells? at h
 rw [if_pos (Nat.zero_le _)] at h
 have hl : vs.length = n := by simpa using mapM_some_length h
 have hg : ∀ i, i < n → W.cell? ⟨b, o + i, none⟩ = vs[i]? := fun i hi => by
  have := mapM_some_get h i i (by simp [hi])
  rwa [add_plain] at this
 have h1 := hg 0 h0
 rw [List.getElem?_eq_getElem (by omega)] at h1
 unfold World.cell? at h1
 split at h1
 ·rename_i c ty fz hc
  have hg' : ∀ i, i < n → c[o + i]? = vs[i]? := fun i hi => by
   have := hg i hi
   simpa [World.cell?, hc] using this
  have hlast := hg' (n - 1) (by omega)
  rw [List.getElem?_eq_getElem (by omega)] at hlast
  have hsz : o + (n - 1) < c.size := by
   rcases Nat.lt_or_ge (o + (n - 1)) c.size with hh | hh
   ·exact hh
   ·rw [Array.getElem?_eq_none hh] at hlast; simp at hlast
  refine ⟨c, ty, fz, hc, by omega, ?_⟩
  apply List.ext_getElem?
  intro i
  by_cases hi : i < n
  ·rw [← hg' i hi, List.getElem?_take, if_pos hi, List.getElem?_drop, Array.getElem?_toList]
  ·rw [List.getElem?_eq_none (by omega), List.getElem?_take, if_neg hi]
 ·simp at h1
section
variable {H : Type} {enc : TypeId × Value → H} {P : Program} {W : World}
theorem read_slice {t e : TypeId} {sz fuel : Nat} {held : Bool} {a : Option Addr} {len cap : Nat} {x : DataW H × List MemPlace} (ht : P.underlying t = some (.slice e)) (hsz : P.cellsOf e = sz) (h0 : 0 < sz)
  (h : DataW.trod enc P W 0 (fun _ => true) held fuel t [.slice a len cap] = some x) :
  len = 0 ∨ ∃ (b o : Nat) (c : Array Value) (ty : TypeId) (fz : Nat × Nat) (n : Nat), a = some ⟨b, o, none⟩ ∧ 0 < len ∧ len ≤ cap ∧ cap ≤ maxLen ∧ W.heap[b]? = some (.cells c ty fz) ∧ o + cap * sz ≤ c.size ∧
   ∀ i, i < len → ∃ y, DataW.trod enc P W 0 (fun _ => true) held n e ((c.toList.drop (o + i * sz)).take sz) = some y := by
 rcases DataW.trod_slice ht h with ⟨h1, _⟩ | ⟨a', len', cap', elems, rest, n, _, h1, _, hb, hl, hm, hlen, hel, hsp, _⟩
 ·simp only [List.cons.injEq, Value.slice.injEq, and_true] at h1
  exact .inl h1.2.1
 simp only [List.cons.injEq, Value.slice.injEq, and_true] at h1
 obtain ⟨rfl, rfl, rfl⟩ := h1
 by_cases hz : len = 0
 ·exact .inl hz
 obtain ⟨hrl, hr⟩ := hsp rfl
 rw [hsz] at hel hr
 have all : ∀ i, i < cap → ∃ vs y, W.cells? 0 (a'.add (i * sz)) sz = some vs ∧ DataW.trod enc P W 0 (fun _ => true) held n e vs = some y := fun i hi => by
  by_cases hil : i < len
  ·have := hel i hil
   rw [List.getElem?_eq_getElem (by omega)] at this
   obtain ⟨vs, h2, h3⟩ := Option.bind_eq_some_iff.1 this
   exact ⟨vs, _, h2, h3⟩
  ·have := hr (i - len) (by omega)
   rw [List.getElem?_eq_getElem (by omega), show len + (i - len) = i by omega] at this
   obtain ⟨vs, h2, h3⟩ := Option.bind_eq_some_iff.1 this
   exact ⟨vs, _, h2, h3⟩
 obtain ⟨b, o, spot⟩ := a'
 have hspot : spot = none := by
  obtain ⟨vs, _, h2, _⟩ := all 0 (by omega)
  unfold World.cells? at h2
  rw [if_pos (Nat.zero_le _)] at h2
  have hl2 : vs.length = sz := by simpa using mapM_some_length h2
  have h3 := mapM_some_get h2 0 0 (by simp [h0])
  rw [List.getElem?_eq_getElem (by omega)] at h3
  simpa [Addr.add] using World.cell?_spot h3
 subst hspot
 obtain ⟨vs0, _, h2, _⟩ := all 0 (by omega)
 rw [add_plain] at h2
 obtain ⟨c, ty, fz, hc, _, _⟩ := cells_block h2 h0
 refine .inr ⟨b, o, c, ty, fz, n, rfl, by omega, hl, hm, hc, ?_, fun i hi => ?_⟩
 ·obtain ⟨vs1, _, h3, _⟩ := all (cap - 1) (by omega)
  rw [add_plain] at h3
  obtain ⟨c', ty', fz', hc', hle, _⟩ := cells_block h3 h0
  rw [hc] at hc'
  simp only [Option.some.injEq, Obj.cells.injEq] at hc'
  obtain ⟨rfl, _⟩ := hc'
  have : (cap - 1) * sz + sz = cap * sz := by rw [← Nat.succ_mul, Nat.succ_eq_add_one, show cap - 1 + 1 = cap by omega]
  omega
 ·obtain ⟨vs1, y, h3, h4⟩ := all i (by omega)
  rw [add_plain] at h3
  obtain ⟨c', ty', fz', hc', _, rfl⟩ := cells_block h3 h0
  rw [hc] at hc'
  simp only [Option.some.injEq, Obj.cells.injEq] at hc'
  obtain ⟨rfl, _⟩ := hc'
  exact ⟨y, h4⟩
end
def ElemsAt (C : List AC) (o w : Nat) (xs : List (List UInt8)) : Prop := ∀ k x, xs[k]? = some x → x.length = w ∧ takeL (dropL C (o + k * w)) w = some (x.map u8c)
def SlOk (b sz : Nat) (C : List AC) (x : AC) (n : Nat) (xs : List (List UInt8)) : Prop :=
 xs.length = n ∧ (∀ y ∈ xs, y.length = sz) ∧ ((n = 0 ∧ ∃ p c, x = .v (.slice p 0 c)) ∨ (0 < n ∧ ∃ o cap ex, x = .slc b o n sz cap ex ∧ ElemsAt C o sz xs))
theorem SlOk.opq {b sz n K : Nat} {C : List AC} {x : AC} {xs : List (List UInt8)} (h : SlOk b sz C x n xs) (hK : b < K) : OpqC K x := by
 obtain ⟨_, _, ⟨rfl, p, c, rfl⟩ | ⟨_, o, cap, ex, rfl, _⟩⟩ := h
 ·intro k hk; simp [AC.refs] at hk
 ·intro k hk; simp [AC.refs] at hk; omega
theorem SlOk.below {b sz n K : Nat} {C : List AC} {x : AC} {xs : List (List UInt8)} (h : SlOk b sz C x n xs) (hK : b < K) : refsBelow K (AV.refs (.e (.one x))) = true := by
 have := h.opq hK
 simpa [refsBelow, AV.refs, AE.refs, OpqC] using this
theorem elems_take : ∀ {xs : List (List UInt8)} {C : List AC} {o w : Nat}, ElemsAt C o w xs → xs ≠ [] ∨ o ≤ C.length → takeL (dropL C o) (xs.length * w) = some (xs.flatten.map u8c)
 | [], C, o, w, _, _ => by simp [takeL_eq]
 | x :: xs, C, o, w, h, _ => by
  obtain ⟨hw, hx⟩ := h 0 x rfl
  rw [takeL_eq, dropL_eq, Nat.zero_mul, Nat.add_zero] at hx
  split at hx
  ·rename_i hle
   simp only [Option.some.injEq, List.length_drop] at hx hle
   by_cases hw0 : w = 0
   ·subst hw0
    have hall : ∀ y ∈ xs, y = [] := fun y hy => by
     obtain ⟨k, hk⟩ := List.getElem?_of_mem hy
     have := (h (k + 1) y (by simpa using hk)).1
     exact List.eq_nil_of_length_eq_zero this
    have hx0 : x = [] := List.eq_nil_of_length_eq_zero hw
    have : (x :: xs).flatten = [] := by
     rw [List.flatten_eq_nil_iff]
     intro l hl
     rcases List.mem_cons.1 hl with rfl | hl
     ·exact hx0
     ·exact hall l hl
    rw [this, takeL_eq]
    simp
   ·have ih := elems_take (xs := xs) (C := C) (o := o + w) (w := w) (fun k y hk => by
     have := h (k + 1) y (by simpa using hk)
     rwa [show o + (k + 1) * w = o + w + k * w by rw [Nat.succ_mul]; omega] at this) (.inr (by omega))
    rw [takeL_eq, dropL_eq] at ih ⊢
    split at ih
    ·rename_i hle2
     simp only [Option.some.injEq, List.length_drop] at ih hle2
     have e : (x :: xs).length * w = w + xs.length * w := by rw [List.length_cons, Nat.succ_mul]; omega
     rw [e, if_pos (by rw [List.length_drop]; omega), List.take_add, hx, List.drop_drop, ih, List.flatten_cons, List.map_append]
    ·simp at ih
  ·simp at hx
theorem blk_some {h : Heap} {b : Nat} {C : List AC} {N : Nat} {ty : TypeId} {fl : Bool} (hb : getL h b = some (some ⟨C, N, ty, fl, .cells⟩)) : blk h b = some ⟨C, N, ty, fl, .cells⟩ := by
 unfold blk
 rw [hb]
theorem all_isOne (l : List UInt8) : (l.map u8c).all AC.isOne = true := by
 rw [List.all_eq_true]
 intro c hc
 obtain ⟨x, _, rfl⟩ := List.mem_map.1 hc
 rfl
theorem SlOk.copy {b sz bytes n : Nat} {C : List AC} {x : AC} {xs : List (List UInt8)} (hs : SlOk b sz C x n xs) {h : Heap} {N : Nat} {ty : TypeId} {fl : Bool} (hb : getL h b = some (some ⟨C, N, ty, fl, .cells⟩)) (hm : small (0 + n) sz bytes = true) :
  CopyOk h sz bytes (.e (.one x)) n (xs.flatten.map u8c) (decide (n = 0)) := by
 obtain ⟨hl, _, ⟨rfl, p, c, rfl⟩ | ⟨h0, o, cap, ex, rfl, hC⟩⟩ := hs
 ·have : xs = [] := List.eq_nil_of_length_eq_zero hl
  subst this
  exact .inr (.inr (.inl ⟨rfl, rfl, rfl, p, c, rfl⟩))
 ·refine .inr (.inr (.inr ⟨decide_eq_false (by omega), h0, hm, all_isOne _, b, o, cap, ex, _, rfl, blk_some hb, ?_⟩))
  have := elems_take hC (.inl (by intro e; subst e; simp at hl; omega))
  rwa [hl] at this
section
variable {H : Type} {enc : TypeId × Value → H} {P : Program} {W : World}
end
end
end Go.Ev
end

/-! SyList -/
section
namespace Go.Ev
open Go.RowKit Go.WideShapes Go.ChangeShapes
noncomputable section
def S1 (b : Nat) (C : List AC) (x : AC) (n : Nat) (cs : List AC) : Prop :=
 cs.length = n ∧ ((n = 0 ∧ ∃ p c, x = .v (.slice p 0 c)) ∨ (0 < n ∧ ∃ o cap ex, x = .slc b o n 1 cap ex ∧ takeL (dropL C o) n = some cs))
theorem S1.opq {b n K : Nat} {C cs : List AC} {x : AC} (h : S1 b C x n cs) (hK : b < K) : OpqC K x := by
 obtain ⟨_, ⟨rfl, p, c, rfl⟩ | ⟨_, o, cap, ex, rfl, _⟩⟩ := h
 ·intro k hk; simp [AC.refs] at hk
 ·intro k hk; simp [AC.refs] at hk; omega
theorem S1.below {b n K : Nat} {C cs : List AC} {x : AC} (h : S1 b C x n cs) (hK : b < K) : refsBelow K (AV.refs (.e (.one x))) = true := by
 have := h.opq hK
 simpa [refsBelow, AV.refs, AE.refs, OpqC] using this
theorem S1.copy {b bytes n : Nat} {C cs : List AC} {x : AC} (hs : S1 b C x n cs) (h1 : cs.all AC.isOne = true) {h : Heap} {N : Nat} {ty : TypeId} {fl : Bool} (hb : getL h b = some (some ⟨C, N, ty, fl, .cells⟩)) (hm : small (0 + n) 1 bytes = true) :
  CopyOk h 1 bytes (.e (.one x)) n cs (decide (n = 0)) := by
 obtain ⟨hl, ⟨rfl, p, c, rfl⟩ | ⟨h0, o, cap, ex, rfl, hC⟩⟩ := hs
 ·have : cs = [] := List.eq_nil_of_length_eq_zero hl
  subst this
  exact .inr (.inr (.inl ⟨rfl, rfl, rfl, p, c, rfl⟩))
 ·exact .inr (.inr (.inr ⟨decide_eq_false (by omega), h0, hm, h1, b, o, cap, ex, _, rfl, blk_some hb, by rw [Nat.mul_one]; exact hC⟩))
section
variable {H : Type} {enc : TypeId × Value → H} {P : Program} {W : World}
end
end
end Go.Ev
end

/-! SyRd -/
section
namespace Go.Ev
open Go.RowKit Go.WideShapes Go.ChangeShapes
noncomputable section
def AtRest (W : World) (F : List (Nat × List Value)) : Prop := ∀ p ∈ F, ∃ (c : Array Value) (t : TypeId) (fz : Nat × Nat), W.heap[p.1]? = some (.cells c t fz) ∧ c.toList = p.2
theorem AtRest.nil (W : World) : AtRest W [] := fun p hp => by simp at hp
theorem AtRest.app {W : World} {F G : List (Nat × List Value)} (h : AtRest W F) (k : AtRest W G) : AtRest W (F ++ G) := fun p hp => (List.mem_append.1 hp).elim (h p) (k p)
theorem AtRest.cons {W : World} {F : List (Nat × List Value)} {b : Nat} {c : Array Value} {t : TypeId} {fz : Nat × Nat} (h : AtRest W F) (hb : W.heap[b]? = some (.cells c t fz)) : AtRest W ((b, c.toList) :: F) := fun p hp => by
 rcases List.mem_cons.1 hp with rfl | hp
 ·exact ⟨c, t, fz, hb, rfl⟩
 ·exact h p hp
def Rd (W : World) (cs : List Value) (Q : List DT → Prop) : Prop := ∃ (F : List (Nat × List Value)) (ds : List DT), AtRest W F ∧ DT.Rl F ds cs ∧ ds.length = cs.length ∧ Q ds
section
variable {H : Type} {enc : TypeId × Value → H} {P : Program} {W : World}
theorem rd_int {e : TypeId} {k : IntKind} {fuel : Nat} {held : Bool} {sp : Nat → Bool} {cs : List Value} {x : DataW H × List MemPlace} (he : P.underlying e = some (.int k)) (h : DataW.trod enc P W 0 sp held fuel e cs = some x) :
  Rd W cs fun ds => ∃ z : Int, (Lit.int k z).wf = true ∧ ds = [.v (.int k z)] := by
 obtain ⟨z, rfl, _, hw⟩ := DataW.trod_int he h
 exact ⟨[], [.v (.int k z)], AtRest.nil W, ⟨_, [], rfl, by simp [DT.R], by simp [DT.Rl]⟩, rfl, z, hw, rfl⟩
theorem rd_bool {e : TypeId} {fuel : Nat} {held : Bool} {sp : Nat → Bool} {cs : List Value} {x : DataW H × List MemPlace} (he : P.underlying e = some .bool) (h : DataW.trod enc P W 0 sp held fuel e cs = some x) :
  Rd W cs fun ds => ∃ b : Bool, ds = [.v (.bool b)] := by
 obtain ⟨b, rfl, _⟩ := DataW.trod_bool he h
 exact ⟨[], [.v (.bool b)], AtRest.nil W, ⟨_, [], rfl, by simp [DT.R], by simp [DT.Rl]⟩, rfl, b, rfl⟩
theorem Rl_append {F G : List (Nat × List Value)} : ∀ {l l' : List DT} {ys zs : List Value}, DT.Rl F l ys → l.length = ys.length → DT.Rl G l' zs → DT.Rl (F ++ G) (l ++ l') (ys ++ zs)
 | [], l', [], zs, _, _, h => DT.Rl.mono (fun p hp => List.mem_append_right _ hp) _ _ h
 | [], _, _ :: _, _, _, h, _ => by simp at h
 | d :: l, l', ys, zs, h, hl, h' => by
  simp only [DT.Rl] at h
  obtain ⟨y, r, rfl, h1, h2⟩ := h
  show DT.Rl (F ++ G) (d :: (l ++ l')) (y :: (r ++ zs))
  simp only [DT.Rl]
  exact ⟨y, r ++ zs, rfl, DT.R.mono (fun p hp => List.mem_append_left _ hp) _ _ h1, Rl_append h2 (by simpa using hl) h'⟩
theorem rd_rows {c : List Value} {sz : Nat} {Q : List DT → Prop} : ∀ (n o : Nat), o + n * sz ≤ c.length → (∀ i, i < n → Rd W ((c.drop (o + i * sz)).take sz) Q) →
  ∃ (F : List (Nat × List Value)) (rows : List (List DT)), AtRest W F ∧ rows.length = n ∧ (∀ r ∈ rows, r.length = sz ∧ Q r) ∧ DT.Rl F rows.flatten ((c.drop o).take (n * sz))
 | 0, o, _, _ => ⟨[], [], AtRest.nil W, rfl, by simp, by simp [DT.Rl]⟩
 | n + 1, o, hl, h => by
  rw [Nat.succ_mul] at hl
  obtain ⟨F0, d0, a0, r0, l0, q0⟩ := h 0 (by omega)
  rw [Nat.zero_mul, Nat.add_zero] at r0 l0
  have hlen : ((c.drop o).take sz).length = sz := by rw [List.length_take, List.length_drop]; omega
  rw [hlen] at l0
  obtain ⟨F1, rows, a1, rl, rq, r1⟩ := rd_rows (c := c) (sz := sz) (Q := Q) n (o + sz) (by omega) (fun i hi => by
   have := h (i + 1) (by omega)
   rw [Nat.succ_mul] at this
   rw [show o + sz + i * sz = o + (i * sz + sz) by omega]
   exact this)
  refine ⟨F0 ++ F1, d0 :: rows, a0.app a1, by simp [rl], fun r hr => ?_, ?_⟩
  ·rcases List.mem_cons.1 hr with rfl | hr
   ·exact ⟨l0, q0⟩
   ·exact rq r hr
  ·have e : (c.drop o).take ((n + 1) * sz) = (c.drop o).take sz ++ (c.drop (o + sz)).take (n * sz) := by
    rw [show (n + 1) * sz = sz + n * sz by rw [Nat.succ_mul]; omega, List.take_add, List.drop_drop]
   rw [e, List.flatten_cons]
   exact Rl_append r0 (by rw [l0, hlen]) r1
theorem rd_slice {t e : TypeId} {sz fuel : Nat} {held : Bool} {cs : List Value} {x : DataW H × List MemPlace} {Q : List DT → Prop} (ht : P.underlying t = some (.slice e)) (hsz : P.cellsOf e = sz) (h0 : 0 < sz)
  (rd : ∀ {fuel : Nat} {cs : List Value} {x : DataW H × List MemPlace}, DataW.trod enc P W 0 (fun _ => true) held fuel e cs = some x → Rd W cs Q)
  (hc : ∃ a len cap, cs = [.slice a len cap]) (h : DataW.trod enc P W 0 (fun _ => true) held fuel t cs = some x) :
  Rd W cs fun ds => ∃ rows : List (List DT), rows.length ≤ maxLen ∧ (∀ r ∈ rows, r.length = sz ∧ Q r) ∧ ds = [.s rows.flatten rows.length sz] := by
 obtain ⟨a, len, cap, rfl⟩ := hc
 rcases read_slice ht hsz h0 h with rfl | ⟨b, o, c, ty, fz, n, rfl, hl0, hlc, hcm, hb, hsize, hel⟩
 ·refine ⟨[], [.s [] 0 sz], AtRest.nil W, ⟨_, [], rfl, ?_, by simp [DT.Rl]⟩, rfl, [], by simp, by simp, rfl⟩
  simp only [DT.R]
  exact .inl ⟨trivial, a, cap, rfl⟩
 ·have hmul : len * sz ≤ cap * sz := Nat.mul_le_mul_right _ hlc
  obtain ⟨F, rows, aF, rl, rq, rr⟩ := rd_rows (W := W) (c := c.toList) (sz := sz) (Q := Q) len o (by simp; omega) (fun i hi => by
   obtain ⟨y, hy⟩ := hel i hi
   exact rd hy)
  have hfl : rows.flatten.length = len * sz := by
   rw [← rl]
   clear rr rl hmul
   induction rows with
   | nil => simp
   | cons r rows ih =>
    rw [List.flatten_cons, List.length_append, ih (fun s hs => rq s (List.mem_cons_of_mem _ hs)), (rq r (List.mem_cons_self ..)).1, List.length_cons, Nat.succ_mul]
    omega
  refine ⟨(b, c.toList) :: F, [.s rows.flatten rows.length sz], aF.cons hb, ⟨_, [], rfl, ?_, by simp [DT.Rl]⟩, rfl, rows, by omega, rq, rfl⟩
  simp only [DT.R]
  rw [rl]
  refine .inr ⟨hl0, b, o, cap, c.toList, rfl, hlc, hcm, List.mem_cons_self .., by simpa using hsize, hfl, ?_⟩
  have := (rr.mono (fun p hp => List.mem_cons_of_mem (b, c.toList) hp)).more (zs := (c.toList.drop o).drop (len * sz))
  rwa [List.take_append_drop] at this
def dI (z : Int) : DT := .v (.int .i64 z)
def dL (zs : List Int) : DT := .s (zs.map dI) zs.length 1
def dR (rows : List (List Int)) : DT := .s (rows.map dL) rows.length 1
def Word64 (z : Int) : Prop := -9223372036854775808 ≤ z ∧ z ≤ 9223372036854775807
theorem ones_flatten {Q : Int → Prop} : ∀ {rows : List (List DT)}, (∀ r ∈ rows, r.length = 1 ∧ ∃ z : Int, Q z ∧ r = [dI z]) → ∃ zs : List Int, (∀ z ∈ zs, Q z) ∧ rows.flatten = zs.map dI ∧ zs.length = rows.length
 | [], _ => ⟨[], by simp, rfl, rfl⟩
 | r :: rows, h => by
  obtain ⟨zs, h1, h2, h3⟩ := ones_flatten (fun s hs => h s (List.mem_cons_of_mem _ hs))
  obtain ⟨_, z, hq, rfl⟩ := h r (List.mem_cons_self ..)
  exact ⟨z :: zs, by simpa [hq] using h1, by rw [List.flatten_cons, h2]; rfl, by simp [h3]⟩
theorem rd_ints {t e : TypeId} {fuel : Nat} {held : Bool} {cs : List Value} {x : DataW H × List MemPlace} (ht : P.underlying t = some (.slice e)) (he : P.underlying e = some (.int .i64)) (hsz : P.cellsOf e = 1)
  (hc : ∃ a len cap, cs = [.slice a len cap]) (h : DataW.trod enc P W 0 (fun _ => true) held fuel t cs = some x) :
  Rd W cs fun ds => ∃ zs : List Int, (∀ z ∈ zs, Word64 z) ∧ zs.length ≤ maxLen ∧ ds = [dL zs] := by
 obtain ⟨F, ds, h1, h2, h3, rows, h4, h5, h6⟩ := rd_slice (Q := fun ds => ∃ z : Int, Word64 z ∧ ds = [dI z]) ht hsz (by omega) (fun {_ _ _} hh => by
  obtain ⟨F, ds, h1, h2, h3, z, h4, h5⟩ := rd_int he hh
  exact ⟨F, ds, h1, h2, h3, z, bounds_i64 h4, h5⟩) hc h
 obtain ⟨zs, k1, k2, k3⟩ := ones_flatten h5
 exact ⟨F, ds, h1, h2, h3, zs, k1, by omega, by rw [h6, k2, ← k3]; rfl⟩
end
end
end Go.Ev
end

/-! SeEqI -/
section
open Go Go.Ev Go.RowKit
open Extern.Stop
namespace Go.Proofs.YtaccakbjankeeaaGreatDoor
noncomputable section
abbrev iD (l : List Int) : List DT := l.map fun x => .v (.int .i64 x)
abbrev iC (l : List Int) : List AC := (iD l).map DT.ac
theorem flat_iC (l : List Int) : FlatC (iC l) := by
 intro c hc
 simp only [List.map_map, List.mem_map] at hc
 obtain ⟨x, _, rfl⟩ := hc
 rfl
theorem iC_app (l r : List Int) : appL (iC l) (iC r) = iC (l ++ r) := by rw [appL_eq]; simp
end
end Go.Proofs.YtaccakbjankeeaaGreatDoor
end

/-! SeGen -/
section
open Go Go.Ev
namespace Go.Proofs.YtaccakbjankeeaaGreatDoor
noncomputable section
theorem cOut_clear {f : FuncId} {args : List AV} {v : AV} {h : Heap} (hc : COut E 0 [] f args v h) (hv : v.refs = []) : COut E 0 [] f args v [] :=
 cOut_gc (h' := []) [] (Nat.zero_le _) hc rfl rfl (AV.ren_id hv)
theorem getI {xs : List Int} {i : Nat} {x : Int} (h : xs[i]? = some x) : getL (iD xs) i = some (.v (.int .i64 x)) := by rw [getL_eq, List.getElem?_map, h]; rfl
abbrev dI (xs : List Int) : AV := .e (.one (.dp (.s (iD xs) xs.length 1)))
theorem cOut_weak {f : FuncId} {args : List AV} {h : Heap} {v v' : AV} (hc : COut E 0 [] f args v h) (hw : ∀ (m : M) (y : Value), VR m v y → VR m v' y) : COut E 0 [] f args v' h := by
 intro m base w argsC ha H G
 exact (hc m base w argsC ha H G).mono fun en w' ⟨y, hy, m1, hp⟩ => ⟨y, hy, m1, hp.le, hw _ _ hp.val, hp.heap, hp.below⟩
theorem lend2 (lv : Nat) (_hE : EnvOk E) (f : FuncId) (xs : List Int) (r : Int) (ty : Nat) (fl : Bool) (hc : COut E 0 [] f [dI xs] (iI r) []) (h : Heap) (i : Nat) (hh : getL h i = some (some ⟨(iD xs).map DT.ac, xs.length, ty, fl, .cells⟩)) : COut E lv h f [.e (.one (.slc i 0 xs.length 1 xs.length true))] (iI r) h :=
 cOut_lend h hc ⟨.inr ⟨i, 0, xs.length, 1, xs.length, true, iD xs, iD xs, xs.length, ty, fl, rfl, rfl, hh, by rw [takeL_eq, dropL_eq, List.drop_zero, if_pos (by simp), List.take_of_length_le (by simp)]⟩, trivial⟩ rfl rfl
end
end Go.Proofs.YtaccakbjankeeaaGreatDoor
end

/-! SeRow -/
section
open Go Go.Ev
namespace Go.Proofs.YtaccakbjankeeaaGreatDoor
noncomputable section
section
variable {α : Type} {f : α → List DT} {k : Nat}
theorem flat_rows (l : List DT) : FlatC (l.map DT.ac) := by
 intro c hc
 obtain ⟨d, _, rfl⟩ := List.mem_map.1 hc
 cases d <;> rfl
theorem tkAll (ds : List DT) (n : Nat) (h : ds.length = n) : takeL (dropL ds 0) n = some ds := by
 rw [takeL_eq, dropL_eq, List.drop_zero, if_pos (by omega), List.take_of_length_le (by omega)]
theorem frzAll {b : Nat} (ds : List DT) (n sz cap : Nat) (ex : Bool) (h : ds.length = n * sz) : FrzC b ds (.slc b 0 n sz cap ex) (.dp (.s ds n sz)) :=
 .inr ⟨0, n, sz, cap, ex, ds, rfl, rfl, tkAll ds _ h⟩
end
theorem nil_dp (m : M) (sz : Nat) {y : Value} {p : Option Addr} {c : Nat} (h : y = .slice p 0 c) : CR m (.dp (.s [] 0 sz)) y := by
 subst h
 show DT.R m.F (.s [] 0 sz) _
 simp only [DT.R]
 exact .inl ⟨trivial, p, c, rfl⟩
theorem all2_wk {α β : Type} {R S : α → β → Prop} : ∀ {l l' : List α}, All2 (fun a a' => ∀ y, R a y → S a' y) l l' → ∀ {ys : List β}, All2 R l ys → All2 S l' ys
 | [], [], _, [], _ => trivial
 | _ :: _, _ :: _, ⟨h, t⟩, _ :: _, ⟨a, b⟩ => ⟨h _ a, all2_wk t b⟩
 | [], _ :: _, h, _, _ => h.elim
 | _ :: _, [], h, _, _ => h.elim
 | _ :: _, _ :: _, _, [], h => h.elim
 | [], [], _, _ :: _, h => h.elim
theorem tup_wk {f : FuncId} {args : List AV} {l l' : List AE} {h : Heap} (hc : COut E 0 [] f args (.tup l) h) (hw : ∀ m : M, All2 (fun a a' => ∀ y, ER m a y → ER m a' y) l l') : COut E 0 [] f args (.tup l') h :=
 cOut_weak hc fun m _ ⟨cs, hy, ha⟩ => ⟨cs, hy, all2_wk (hw m) ha⟩
theorem wkN (m : M) (sz : Nat) : ∀ y, ER m (.one (.v (.slice none 0 0))) y → ER m (.one (.dp (.s [] 0 sz))) y := fun _ h => nil_dp m sz h
theorem wkNc (m : M) (sz : Nat) : ∀ y, CR m (.v (.slice none 0 0)) y → CR m (.dp (.s [] 0 sz)) y := fun _ h => nil_dp m sz h
end
end Go.Proofs.YtaccakbjankeeaaGreatDoor
end

/-! SeWd -/
section
open Go Go.Ev
namespace Go.Proofs.YtaccakbjankeeaaGreatDoor
noncomputable section
set_option maxRecDepth 100000
set_option maxHeartbeats 20000000
def s69 (C : List DT) (n _i : Nat) (_e _z : Int) (_j : JN) : St := startK Tryz.f69 [] [(dQ C n)]
def s17 (C : List DT) (n _i : Nat) (_e _z : Int) (_j : JN) : St := startK Tryz.f17 [] [(dQ C n)]
def q69 (C : List DT) (n i : Nat) (_e _z : Int) (j : JN) : St := ⟨[], [(.code (aF [1, 0, 1, 0, 0] Tryz.f69)), (.inLoop (aF [1, 0, 1, 0, 0] Tryz.f69)), (.inBlock 0), (.code (aF [1, 1] Tryz.f69))], mkT j [(5, (dQ C n)), (6, (iN n)), (7, (iN i))] 15 0⟩
def q17 (C : List DT) (n i : Nat) (_e _z : Int) (j : JN) : St := ⟨[], [(.code (aF [1, 0, 1, 0, 0] Tryz.f17)), (.inLoop (aF [1, 0, 1, 0, 0] Tryz.f17)), (.inBlock 0), (.code (aF [1, 1] Tryz.f17))], mkT j [(0, (dQ C n)), (3, (iN i))] 19 0⟩
def p69a_end (C : List DT) (n _i : Nat) (_e _z : Int) (j : JN) : St := ⟨[], [(.code (aF [1, 0, 1, 0, 0] Tryz.f69)), (.inLoop (aF [1, 0, 1, 0, 0] Tryz.f69)), (.inBlock 0), (.code (aF [1, 1] Tryz.f69))], mkT j [(5, (dQ C n)), (6, (iN n)), (7, (iI 0))] 15 0⟩
theorem p69a (hE : EnvOk E) (C : List DT) (n i : Nat) (e z : Int)  {Φ : Res → Prop} (ho : ∀ j, OutK E 0 0 (p69a_end C n i e z j) Φ) (j : JN) : OutK E 0 0 (s69 C n i e z j) Φ :=
 oS hE [.run 4, (.ops [(1, (.d .len))] []), .run 2] [5, 6, 7] (ps := []) trivial
  ho
def p17a_end (C : List DT) (n _i : Nat) (_e _z : Int) (j : JN) : St := ⟨[], [(.code (aF [1, 0, 1, 0, 0] Tryz.f17)), (.inLoop (aF [1, 0, 1, 0, 0] Tryz.f17)), (.inBlock 0), (.code (aF [1, 1] Tryz.f17))], mkT j [(0, (dQ C n)), (3, (iI 0))] 19 0⟩
theorem p17a (hE : EnvOk E) (C : List DT) (n i : Nat) (e z : Int)  {Φ : Res → Prop} (ho : ∀ j, OutK E 0 0 (p17a_end C n i e z j) Φ) (j : JN) : OutK E 0 0 (s17 C n i e z j) Φ :=
 oS hE [.run 7] [0, 3] (ps := []) trivial
  ho
def p69s_end (C : List DT) (n i : Nat) (_e _z : Int) (j : JN) : St := ⟨[], [(.code (aF [1, 0, 1, 0, 0] Tryz.f69)), (.inLoop (aF [1, 0, 1, 0, 0] Tryz.f69)), (.inBlock 0), (.code (aF [1, 1] Tryz.f69))], mkT j [(5, (dQ C n)), (6, (iN n)), (7, (iN (i + 1)))] 15 0⟩
theorem p69s (hE : EnvOk E) (C : List DT) (n i : Nat) (e z : Int) (h0 : (decide (Int.ofNat i < Int.ofNat n) : Bool) = true) (h1 : (0 : Int) ≤ Int.ofNat i ∧ Int.ofNat i < (↑n : Int)) (h2 : ((Int.ofNat i).toNat * nat_lit 1 : Nat) = i) (h3 : (getL C i : Option DT) = (.some (.v (.int .i64 z)))) (h4 : (z != (0 : Int) : Bool) = false) (h5 : ((iI (wrapF IntKind.i64 (Int.ofNat i + (1 : Int)))) : AV) = (iN (i + 1))) {Φ : Res → Prop} (ho : ∀ j, OutK E 0 0 (p69s_end C n i e z j) Φ) (j : JN) : OutK E 0 0 (q69 C n i e z j) Φ :=
 oS hE [.run 3, (.cond true), .run 4, (.ops [(1, (.d (.ld (.v (.int .i64 z))))), (0, (.d (.ix i)))] []), .run 2, (.cond false), .run 2, (.ops [(0, (.rn (iN (i + 1))))] []), .run 1] [5, 6, 7] (aQ h0 h1 h2 h3 <| aP h4 <| aP h5 <| aZ)
  ho
def p69e_end (_C : List DT) (_n _i : Nat) (_e z : Int) (j : JN) : St := ⟨[], [(.code .ret), (.inBlock 1), (.code (aF [1, 0, 1, 0, 0, 1, 1, 1] Tryz.f69)), (.inLoop (aF [1, 0, 1, 0, 0] Tryz.f69)), (.inBlock 0), (.code (aF [1, 1] Tryz.f69))], mkT j [(2, (iI z))] 15 0⟩
theorem p69e (hE : EnvOk E) (C : List DT) (n i : Nat) (e z : Int) (h0 : (decide (Int.ofNat i < Int.ofNat n) : Bool) = true) (h1 : (0 : Int) ≤ Int.ofNat i ∧ Int.ofNat i < (↑n : Int)) (h2 : ((Int.ofNat i).toNat * nat_lit 1 : Nat) = i) (h3 : (getL C i : Option DT) = (.some (.v (.int .i64 z)))) (h4 : (z != (0 : Int) : Bool) = true) {Φ : Res → Prop} (ho : ∀ j, OutK E 0 0 (p69e_end C n i e z j) Φ) (j : JN) : OutK E 0 0 (q69 C n i e z j) Φ :=
 oS hE [.run 3, (.cond true), .run 4, (.ops [(1, (.d (.ld (.v (.int .i64 z))))), (0, (.d (.ix i)))] []), .run 2, (.cond true), .run 2] [2] (aQ h0 h1 h2 h3 <| aP h4 <| aZ)
  ho
def p69x_end (_C : List DT) (_n _i : Nat) (_e _z : Int) (j : JN) : St := ⟨[], [(.code .ret)], mkT j [(2, (iI 0))] 15 0⟩
theorem p69x (hE : EnvOk E) (C : List DT) (n i : Nat) (e z : Int) (h0 : (decide (Int.ofNat i < Int.ofNat n) : Bool) = false) {Φ : Res → Prop} (ho : ∀ j, OutK E 0 0 (p69x_end C n i e z j) Φ) (j : JN) : OutK E 0 0 (q69 C n i e z j) Φ :=
 oS hE [.run 3, (.cond false), .run 3] [2] (aP h0 <| aZ)
  ho
def p17s_end (C : List DT) (n i : Nat) (_e _z : Int) (j : JN) : St := ⟨[], [(.code (aF [1, 0, 1, 0, 0] Tryz.f17)), (.inLoop (aF [1, 0, 1, 0, 0] Tryz.f17)), (.inBlock 0), (.code (aF [1, 1] Tryz.f17))], mkT j [(0, (dQ C n)), (3, (iN (i + 1)))] 19 0⟩
theorem p17s (hE : EnvOk E) (C : List DT) (n i : Nat) (e z : Int) (h0 : (decide (Int.ofNat i < (↑n : Int)) : Bool) = true) (h1 : (0 : Int) ≤ Int.ofNat i ∧ Int.ofNat i < (↑n : Int)) (h2 : ((Int.ofNat i).toNat * nat_lit 1 : Nat) = i) (h3 : (getL C i : Option DT) = (.some (.v (.int .i64 z)))) (h4 : (z != (0 : Int) : Bool) = false) (h5 : ((iI (wrapF IntKind.i64 (Int.ofNat i + (1 : Int)))) : AV) = (iN (i + 1))) {Φ : Res → Prop} (ho : ∀ j, OutK E 0 0 (p17s_end C n i e z j) Φ) (j : JN) : OutK E 0 0 (q17 C n i e z j) Φ :=
 oS hE [.run 2, (.ops [(2, (.d .len))] []), (.cond true), .run 4, (.ops [(3, (.d (.ld (.v (.int .i64 z))))), (2, (.d (.ix i)))] []), (.cond false), .run 2, (.ops [(1, (.rn (iN (i + 1))))] []), .run 1] [0, 3] (aQ h0 h1 h2 h3 <| aP h4 <| aP h5 <| aZ)
  ho
def p17e_end (_C : List DT) (_n _i : Nat) (_e z : Int) (j : JN) : St := ⟨[], [(.code .ret), (.inBlock 1), (.code (aF [1, 0, 1, 0, 0, 1, 1] Tryz.f17)), (.inLoop (aF [1, 0, 1, 0, 0] Tryz.f17)), (.inBlock 0), (.code (aF [1, 1] Tryz.f17))], mkT j [(2, (iI z))] 19 0⟩
theorem p17e (hE : EnvOk E) (C : List DT) (n i : Nat) (e z : Int) (h0 : (decide (Int.ofNat i < (↑n : Int)) : Bool) = true) (h1 : (0 : Int) ≤ Int.ofNat i ∧ Int.ofNat i < (↑n : Int)) (h2 : ((Int.ofNat i).toNat * nat_lit 1 : Nat) = i) (h3 : (getL C i : Option DT) = (.some (.v (.int .i64 z)))) (h4 : (z != (0 : Int) : Bool) = true) (h5 : (0 : Int) ≤ Int.ofNat i ∧ Int.ofNat i < (↑n : Int)) (h6 : ((Int.ofNat i).toNat * nat_lit 1 : Nat) = i) (h7 : (getL C i : Option DT) = (.some (.v (.int .i64 z)))) {Φ : Res → Prop} (ho : ∀ j, OutK E 0 0 (p17e_end C n i e z j) Φ) (j : JN) : OutK E 0 0 (q17 C n i e z j) Φ :=
 oS hE [.run 2, (.ops [(2, (.d .len))] []), (.cond true), .run 4, (.ops [(3, (.d (.ld (.v (.int .i64 z))))), (2, (.d (.ix i)))] []), (.cond true), .run 1, (.ops [(3, (.d (.ld (.v (.int .i64 z))))), (2, (.d (.ix i)))] [])] [2] (aQ h0 h1 h2 h3 <| aQ h4 h5 h6 h7 <| aZ)
  ho
def p17x_end (_C : List DT) (_n _i : Nat) (_e _z : Int) (j : JN) : St := ⟨[], [(.code .ret)], mkT j [(2, (iI 0))] 19 0⟩
theorem p17x (hE : EnvOk E) (C : List DT) (n i : Nat) (e z : Int) (h0 : (decide (Int.ofNat i < (↑n : Int)) : Bool) = false) {Φ : Res → Prop} (ho : ∀ j, OutK E 0 0 (p17x_end C n i e z j) Φ) (j : JN) : OutK E 0 0 (q17 C n i e z j) Φ :=
 oS hE [.run 2, (.ops [(2, (.d .len))] []), (.cond false), .run 3] [2] (aP h0 <| aZ)
  ho
def firstI : List Int → Int
 | [] => 0
 | x :: r => if x = 0 then firstI r else x
theorem l69 (hE : EnvOk E) (xs : List Int) (n : Nat) (hn : xs.length = n) (hm : n ≤ 4000000) : ∀ m i, m + i = n → ∀ j, OutK E 0 0 (q69 (iD xs) n i 0 0 j) (Go.Ev.Ends E Tryz.f69 (iI (firstI (xs.drop i))) [])
 | 0, i, hk, j => by
  rw [List.drop_eq_nil_of_le (by omega)]
  exact p69x hE (iD xs) n i 0 0 dF (fun j => outK_ret (ends_ret (by kernel_rfl))) j
 | m + 1, i, hk, j => by
  have hl : i < xs.length := by omega
  have hx : xs[i]? = some xs[i] := List.getElem?_eq_getElem hl
  rw [List.drop_eq_getElem_cons hl]
  generalize xs[i] = z at hx
  have hu : firstI (z :: xs.drop (i + 1)) = if z = 0 then firstI (xs.drop (i + 1)) else z := rfl
  rw [hu]
  by_cases h : z = 0
  ·rw [if_pos h]
   exact p69s hE (iD xs) n i 0 z dT bP (Nat.mul_one _) (getI hx) (by rw [h]; rfl) (iIe (by (try simp only [Int.ofNat_eq_natCast]); rw [wrap_id (by omega) (by omega)]; try omega)) (l69 hE xs n hn hm m (i + 1) (by omega)) j
  ·rw [if_neg h]
   exact p69e hE (iD xs) n i 0 z dT bP (Nat.mul_one _) (getI hx) (bne_iff_ne.2 h) (fun j => outK_ret (ends_ret (by kernel_rfl))) j
theorem K69 (hE : EnvOk E) (xs : List Int) (hm : xs.length ≤ 4000000) : COut E 0 [] 69 [dI xs] (iI (firstI xs)) [] :=
 cOut_start Tryz.func69 rfl (p69a hE (iD xs) xs.length 0 0 0 (l69 hE xs xs.length rfl hm xs.length 0 rfl) fun _ => undef)
theorem l17 (hE : EnvOk E) (xs : List Int) (n : Nat) (hn : xs.length = n) (hm : n ≤ 4000000) : ∀ m i, m + i = n → ∀ j, OutK E 0 0 (q17 (iD xs) n i 0 0 j) (Go.Ev.Ends E Tryz.f17 (iI (firstI (xs.drop i))) [])
 | 0, i, hk, j => by
  rw [List.drop_eq_nil_of_le (by omega)]
  exact p17x hE (iD xs) n i 0 0 dF (fun j => outK_ret (ends_ret (by kernel_rfl))) j
 | m + 1, i, hk, j => by
  have hl : i < xs.length := by omega
  have hx : xs[i]? = some xs[i] := List.getElem?_eq_getElem hl
  rw [List.drop_eq_getElem_cons hl]
  generalize xs[i] = z at hx
  have hu : firstI (z :: xs.drop (i + 1)) = if z = 0 then firstI (xs.drop (i + 1)) else z := rfl
  rw [hu]
  by_cases h : z = 0
  ·rw [if_pos h]
   exact p17s hE (iD xs) n i 0 z dT bP (Nat.mul_one _) (getI hx) (by rw [h]; rfl) (iIe (by (try simp only [Int.ofNat_eq_natCast]); rw [wrap_id (by omega) (by omega)]; try omega)) (l17 hE xs n hn hm m (i + 1) (by omega)) j
  ·rw [if_neg h]
   exact p17e hE (iD xs) n i 0 z dT bP (Nat.mul_one _) (getI hx) (bne_iff_ne.2 h) bP (Nat.mul_one _) (getI hx) (fun j => outK_ret (ends_ret (by kernel_rfl))) j
theorem K17 (hE : EnvOk E) (xs : List Int) (hm : xs.length ≤ 4000000) : COut E 0 [] 17 [dI xs] (iI (firstI xs)) [] :=
 cOut_start Tryz.func17 rfl (p17a hE (iD xs) xs.length 0 0 0 (l17 hE xs xs.length rfl hm xs.length 0 rfl) fun _ => undef)
end
end Go.Proofs.YtaccakbjankeeaaGreatDoor
end

/-! SeTa -/
section
open Go Go.Ev
namespace Go.Proofs.YtaccakbjankeeaaGreatDoor
noncomputable section
set_option maxRecDepth 100000
set_option maxHeartbeats 20000000
def s130 (_C _C2 : List DT) (_n _m _i : Nat) (x _e _f _g lo hi _z _w : Int) (_b _a : Bool) (_D : List AC) (_cp : Nat) (_ad : Addr) (_j : JN) : St := startK Tryz.f130 [bK [.v (.int .i64 lo)] 1 3, bK [.v (.int .i64 hi)] 1 3] [iI x, (.e (.one (.ptr 0 0))), (.e (.one (.ptr 1 0)))]
def s82 (C _C2 : List DT) (n _m _i : Nat) (_x _e _f _g lo hi _z _w : Int) (_b _a : Bool) (_D : List AC) (_cp : Nat) (_ad : Addr) (_j : JN) : St := startK Tryz.f82 [bK [.v (.int .i64 lo)] 1 3, bK [.v (.int .i64 hi)] 1 3] [(dQ C n), (.e (.one (.clo 130 [] [.one (.ptr 0 0), .one (.ptr 1 0)])))]
def s97 (C _C2 : List DT) (n _m _i : Nat) (_x _e _f _g lo hi z _w : Int) (_b _a : Bool) (_D : List AC) (_cp : Nat) (_ad : Addr) (_j : JN) : St := startK Tryz.f97 [bK [.v (.int .i64 lo)] 1 3, bK [.v (.int .i64 hi)] 1 3] [(dQ C n), iI z, (.e (.one (.clo 130 [] [.one (.ptr 0 0), .one (.ptr 1 0)])))]
def s77 (C _C2 : List DT) (n _m _i : Nat) (_x _e _f _g lo hi z _w : Int) (_b _a : Bool) (_D : List AC) (_cp : Nat) (_ad : Addr) (_j : JN) : St := startK Tryz.f77 [bK [.v (.int .i64 lo)] 1 3, bK [.v (.int .i64 hi)] 1 3] [(dQ C n), iI z, (.e (.one (.clo 130 [] [.one (.ptr 0 0), .one (.ptr 1 0)])))]
def s133 (C _C2 : List DT) (n _m _i : Nat) (_x _e _f _g _lo _hi _z _w : Int) (_b _a : Bool) (_D : List AC) (_cp : Nat) (_ad : Addr) (_j : JN) : St := startK Tryz.f133 [] [(dQ C n)]
def s93 (C _C2 : List DT) (n _m _i : Nat) (_x _e _f _g _lo _hi _z _w : Int) (_b _a : Bool) (_D : List AC) (_cp : Nat) (_ad : Addr) (_j : JN) : St := startK Tryz.f93 [] [(dQ C n)]
def s28 (C _C2 : List DT) (n _m _i : Nat) (_x _e _f _g _lo _hi _z _w : Int) (_b _a : Bool) (_D : List AC) (_cp : Nat) (_ad : Addr) (_j : JN) : St := startK Tryz.f28 [] [(dQ C n)]
def s25 (C _C2 : List DT) (n _m _i : Nat) (_x _e _f _g _lo _hi _z _w : Int) (_b _a : Bool) (_D : List AC) (_cp : Nat) (_ad : Addr) (_j : JN) : St := startK Tryz.f25 [] [(dQ C n)]
def s59 (C C2 : List DT) (n m _i : Nat) (_x _e _f _g _lo _hi _z _w : Int) (_b _a : Bool) (_D : List AC) (_cp : Nat) (_ad : Addr) (_j : JN) : St := startK Tryz.f59 [] [(dQ C n), (dQ C2 m)]
def q82 (C _C2 : List DT) (n _m i : Nat) (_x _e _f _g lo hi _z _w : Int) (_b _a : Bool) (_D : List AC) (_cp : Nat) (_ad : Addr) (j : JN) : St := ⟨[(bK [(.v (.int .i64 lo))] 1 3), (bK [(.v (.int .i64 hi))] 1 3)], [(.code (aF [1, 0, 1, 0, 0] Tryz.f82)), (.inLoop (aF [1, 0, 1, 0, 0] Tryz.f82)), (.inBlock 0), (.code (aF [1, 1] Tryz.f82))], mkT j [(1, (.e (.one (.clo 130 [] [(.one (.ptr 0 0)), (.one (.ptr 1 0))])))), (8, (dQ C n)), (9, (iN n)), (10, (iN i))] 21 0⟩
def q93 (C _C2 : List DT) (n _m i : Nat) (_x _e _f _g _lo _hi _z _w : Int) (_b _a : Bool) (_D : List AC) (_cp : Nat) (_ad : Addr) (j : JN) : St := ⟨[], [(.code (aF [1, 1, 0, 1, 0, 0] Tryz.f93)), (.inLoop (aF [1, 1, 0, 1, 0, 0] Tryz.f93)), (.inBlock 0), (.code (aF [1, 1, 1] Tryz.f93))], mkT j [(0, (dQ C n)), (4, (iN i))] 33 0⟩
def q59 (C C2 : List DT) (n m i : Nat) (_x _e _f _g _lo _hi _z _w : Int) (_b _a : Bool) (_D : List AC) (_cp : Nat) (_ad : Addr) (j : JN) : St := ⟨[], [(.code (aF [1, 1, 0, 1, 0, 0] Tryz.f59)), (.inLoop (aF [1, 1, 0, 1, 0, 0] Tryz.f59)), (.inBlock 0), (.code (aF [1, 1, 1] Tryz.f59))], mkT j [(0, (dQ C n)), (1, (dQ C2 m)), (5, (iN i))] 26 0⟩
def p130_end (_C _C2 : List DT) (_n _m _i : Nat) (_x e _f _g lo hi _z _w : Int) (_b _a : Bool) (_D : List AC) (_cp : Nat) (_ad : Addr) (j : JN) : St := ⟨[(bK [(.v (.int .i64 lo))] 1 3), (bK [(.v (.int .i64 hi))] 1 3)], [(.code .ret)], mkT j [(4, (iI e))] 9 0⟩
theorem p130 (hE : EnvOk E) (C C2 : List DT) (n m i : Nat) (x e f g lo hi z w : Int) (b a : Bool) (D : List AC) (cp : Nat) (ad : Addr) (h0 : COut E 0 [] 72 [(iI x), (iI lo), (iI hi)] (iI e) []) {Φ : Res → Prop} (ho : ∀ j, OutK E 0 2 (p130_end C C2 n m i x e f g lo hi z w b a D cp ad j) Φ) (j : JN) : OutK E 0 2 (s130 C C2 n m i x e f g lo hi z w b a D cp ad j) Φ :=
 oS hE [.run 3, (.ops [(3, (.c0 (iI e)))] [])] [4] (aP h0 <| aN <| aZ)
  ho
def p82a_end (C _C2 : List DT) (n _m _i : Nat) (_x _e _f _g lo hi _z _w : Int) (_b _a : Bool) (_D : List AC) (_cp : Nat) (_ad : Addr) (j : JN) : St := ⟨[(bK [(.v (.int .i64 lo))] 1 3), (bK [(.v (.int .i64 hi))] 1 3)], [(.code (aF [1, 0, 1, 0, 0] Tryz.f82)), (.inLoop (aF [1, 0, 1, 0, 0] Tryz.f82)), (.inBlock 0), (.code (aF [1, 1] Tryz.f82))], mkT j [(1, (.e (.one (.clo 130 [] [(.one (.ptr 0 0)), (.one (.ptr 1 0))])))), (8, (dQ C n)), (9, (iN n)), (10, (iI 0))] 21 0⟩
theorem p82a (hE : EnvOk E) (C C2 : List DT) (n m i : Nat) (x e f g lo hi z w : Int) (b a : Bool) (D : List AC) (cp : Nat) (ad : Addr)  {Φ : Res → Prop} (ho : ∀ j, OutK E 0 2 (p82a_end C C2 n m i x e f g lo hi z w b a D cp ad j) Φ) (j : JN) : OutK E 0 2 (s82 C C2 n m i x e f g lo hi z w b a D cp ad j) Φ :=
 oS hE [.run 4, (.ops [(1, (.d .len))] []), .run 2] [1, 8, 9, 10] (ps := []) trivial
  ho
def p97m_end (_C _C2 : List DT) (_n _m _i : Nat) (_x _e _f _g lo hi _z _w : Int) (_b _a : Bool) (_D : List AC) (_cp : Nat) (_ad : Addr) (j : JN) : St := ⟨[(bK [(.v (.int .i64 lo))] 1 3), (bK [(.v (.int .i64 hi))] 1 3)], [(.code .ret), (.code (aF [1, 1] Tryz.f97))], mkT j [(6, (iI 5))] 14 0⟩
theorem p97m (hE : EnvOk E) (C C2 : List DT) (n m i : Nat) (x e f g lo hi z w : Int) (b a : Bool) (D : List AC) (cp : Nat) (ad : Addr) (h0 : (decide ((↑n : Int) > z) : Bool) = true) {Φ : Res → Prop} (ho : ∀ j, OutK E 0 2 (p97m_end C C2 n m i x e f g lo hi z w b a D cp ad j) Φ) (j : JN) : OutK E 0 2 (s97 C C2 n m i x e f g lo hi z w b a D cp ad j) Φ :=
 oS hE [.run 4, (.ops [(1, (.d .len))] []), (.cond true), .run 2] [6] (aP h0 <| aZ)
  ho
def p97s_end (_C _C2 : List DT) (_n _m _i : Nat) (_x e _f _g lo hi _z _w : Int) (_b _a : Bool) (_D : List AC) (_cp : Nat) (_ad : Addr) (j : JN) : St := ⟨[(bK [(.v (.int .i64 lo))] 1 3), (bK [(.v (.int .i64 hi))] 1 3)], [(.code .ret)], mkT j [(6, (iI e))] 14 0⟩
theorem p97s (hE : EnvOk E) (C C2 : List DT) (n m i : Nat) (x e f g lo hi z w : Int) (b a : Bool) (D : List AC) (cp : Nat) (ad : Addr) (h0 : (decide ((↑n : Int) > z) : Bool) = false) (h1 : COut E 0 [(bK [(.v (.int .i64 lo))] 1 3), (bK [(.v (.int .i64 hi))] 1 3)] 82 [(dQ C n), (.e (.one (.clo 130 [] [(.one (.ptr 0 0)), (.one (.ptr 1 0))])))] (iI e) [(bK [(.v (.int .i64 lo))] 1 3), (bK [(.v (.int .i64 hi))] 1 3)]) {Φ : Res → Prop} (ho : ∀ j, OutK E 0 2 (p97s_end C C2 n m i x e f g lo hi z w b a D cp ad j) Φ) (j : JN) : OutK E 0 2 (s97 C C2 n m i x e f g lo hi z w b a D cp ad j) Φ :=
 oS hE [.run 4, (.ops [(1, (.d .len))] []), (.cond false), .run 2, (.ops [(2, (.cw (iI e) [(bK [(.v (.int .i64 lo))] 1 3), (bK [(.v (.int .i64 hi))] 1 3)]))] [])] [6] (aP h0 <| aP h1 <| aZ)
  ho
def p77z_end (_C _C2 : List DT) (_n _m _i : Nat) (_x _e _f _g lo hi _z _w : Int) (_b _a : Bool) (_D : List AC) (_cp : Nat) (_ad : Addr) (j : JN) : St := ⟨[(bK [(.v (.int .i64 lo))] 1 3), (bK [(.v (.int .i64 hi))] 1 3)], [(.code .ret), (.code (aF [1, 1] Tryz.f77))], mkT j [(6, (iI 12))] 14 0⟩
theorem p77z (hE : EnvOk E) (C C2 : List DT) (n m i : Nat) (x e f g lo hi z w : Int) (b a : Bool) (D : List AC) (cp : Nat) (ad : Addr) (h0 : ((↑n : Int) == (0 : Int) : Bool) = true) {Φ : Res → Prop} (ho : ∀ j, OutK E 0 2 (p77z_end C C2 n m i x e f g lo hi z w b a D cp ad j) Φ) (j : JN) : OutK E 0 2 (s77 C C2 n m i x e f g lo hi z w b a D cp ad j) Φ :=
 oS hE [.run 4, (.ops [(1, (.d .len))] []), (.cond true), .run 2] [6] (aP h0 <| aZ)
  ho
def p77s_end (_C _C2 : List DT) (_n _m _i : Nat) (_x e _f _g lo hi _z _w : Int) (_b _a : Bool) (_D : List AC) (_cp : Nat) (_ad : Addr) (j : JN) : St := ⟨[(bK [(.v (.int .i64 lo))] 1 3), (bK [(.v (.int .i64 hi))] 1 3)], [(.code .ret)], mkT j [(6, (iI e))] 14 0⟩
theorem p77s (hE : EnvOk E) (C C2 : List DT) (n m i : Nat) (x e f g lo hi z w : Int) (b a : Bool) (D : List AC) (cp : Nat) (ad : Addr) (h0 : ((↑n : Int) == (0 : Int) : Bool) = false) (h1 : COut E 0 [(bK [(.v (.int .i64 lo))] 1 3), (bK [(.v (.int .i64 hi))] 1 3)] 97 [(dQ C n), (iI z), (.e (.one (.clo 130 [] [(.one (.ptr 0 0)), (.one (.ptr 1 0))])))] (iI e) [(bK [(.v (.int .i64 lo))] 1 3), (bK [(.v (.int .i64 hi))] 1 3)]) {Φ : Res → Prop} (ho : ∀ j, OutK E 0 2 (p77s_end C C2 n m i x e f g lo hi z w b a D cp ad j) Φ) (j : JN) : OutK E 0 2 (s77 C C2 n m i x e f g lo hi z w b a D cp ad j) Φ :=
 oS hE [.run 4, (.ops [(1, (.d .len))] []), (.cond false), .run 2, (.ops [(3, (.cw (iI e) [(bK [(.v (.int .i64 lo))] 1 3), (bK [(.v (.int .i64 hi))] 1 3)]))] [])] [6] (aP h0 <| aP h1 <| aZ)
  ho
def p133_end (_C _C2 : List DT) (_n _m _i : Nat) (_x e _f _g _lo _hi _z _w : Int) (_b _a : Bool) (_D : List AC) (_cp : Nat) (_ad : Addr) (j : JN) : St := ⟨[], [(.code .ret)], mkT j [(2, (iI e))] 6 0⟩
theorem p133 (hE : EnvOk E) (C C2 : List DT) (n m i : Nat) (x e f g lo hi z w : Int) (b a : Bool) (D : List AC) (cp : Nat) (ad : Addr) (h0 : COut E 0 [(bK [(.v (.int .i64 0))] 1 3), (bK [(.v (.int .i64 6))] 1 3)] 77 [(dQ C n), (iI 8), (.e (.one (.clo 130 [] [(.one (.ptr 0 0)), (.one (.ptr 1 0))])))] (iI e) [(bK [(.v (.int .i64 0))] 1 3), (bK [(.v (.int .i64 6))] 1 3)]) {Φ : Res → Prop} (ho : ∀ j, OutK E 0 0 (p133_end C C2 n m i x e f g lo hi z w b a D cp ad j) Φ) (j : JN) : OutK E 0 0 (s133 C C2 n m i x e f g lo hi z w b a D cp ad j) Φ :=
 outK_seg hE (R4_ok hE) [.run 3, (.ops [(2, (.cw (iI e) [(bK [(.v (.int .i64 0))] 1 3), (bK [(.v (.int .i64 6))] 1 3)]))] [])] [2] (s' := fun j => ⟨[(bK [(.v (.int .i64 0))] 1 3), (bK [(.v (.int .i64 6))] 1 3)], [(.code .ret)], mkT j [(2, (iI e))] 6 0⟩) (fun j => by kernel_rfl) (aP h0 <| aZ)
  fun j => gZ [] (ho j)
def p93e_end (_C _C2 : List DT) (_n _m _i : Nat) (_x _e _f g _lo _hi _z _w : Int) (_b _a : Bool) (_D : List AC) (_cp : Nat) (_ad : Addr) (j : JN) : St := ⟨[], [(.code .ret), (.code (aF [1, 1] Tryz.f93))], mkT j [(2, (iI g))] 33 0⟩
theorem p93e (hE : EnvOk E) (C C2 : List DT) (n m i : Nat) (x e f g lo hi z w : Int) (b a : Bool) (D : List AC) (cp : Nat) (ad : Addr) (h0 : COut E 0 [] 32 [(iB ((↑n : Int) == (0 : Int))), (iI 12)] (iI e) []) (h2 : COut E 0 [] 32 [(iB (decide ((↑n : Int) > (8 : Int)))), (iI 5)] (iI f) []) (h4 : COut E 1 [(bK [(.v (.int .i64 e)), (.v (.int .i64 f))] 2 3)] 17 [(.e (.one (.slc 0 0 2 1 2 true)))] (iI g) [(bK [(.v (.int .i64 e)), (.v (.int .i64 f))] 2 3)]) (h6 : (g != (0 : Int) : Bool) = true) {Φ : Res → Prop} (ho : ∀ j, OutK E 0 0 (p93e_end C C2 n m i x e f g lo hi z w b a D cp ad j) Φ) (j : JN) : OutK E 0 0 (s93 C C2 n m i x e f g lo hi z w b a D cp ad j) Φ :=
 oS hE [.run 4, (.ops [(3, (.c0 (iI e))), (7, (.c0 (iI f))), (9, (.d (.c1 (iI g)))), (1, (.d .len)), (5, (.d .len))] []), .run 2, (.cond true), .run 2] [2] (s' := fun j => ⟨[(bK [(.v (.int .i64 e)), (.v (.int .i64 f))] 2 3)], [(.code .ret), (.code (aF [1, 1] Tryz.f93))], mkT j [(2, (iI g))] 33 0⟩) (aP h0 <| aN <| aP h2 <| aN <| aP h4 <| aN <| aP h6 <| aZ)
  fun j => gZ [] (ho j)
def p93a_end (C _C2 : List DT) (n _m _i : Nat) (_x _e _f _g _lo _hi _z _w : Int) (_b _a : Bool) (_D : List AC) (_cp : Nat) (_ad : Addr) (j : JN) : St := ⟨[], [(.code (aF [1, 1, 0, 1, 0, 0] Tryz.f93)), (.inLoop (aF [1, 1, 0, 1, 0, 0] Tryz.f93)), (.inBlock 0), (.code (aF [1, 1, 1] Tryz.f93))], mkT j [(0, (dQ C n)), (4, (iI 0))] 33 0⟩
theorem p93a (hE : EnvOk E) (C C2 : List DT) (n m i : Nat) (x e f g lo hi z w : Int) (b a : Bool) (D : List AC) (cp : Nat) (ad : Addr) (h0 : COut E 0 [] 32 [(iB ((↑n : Int) == (0 : Int))), (iI 12)] (iI e) []) (h2 : COut E 0 [] 32 [(iB (decide ((↑n : Int) > (8 : Int)))), (iI 5)] (iI f) []) (h4 : COut E 1 [(bK [(.v (.int .i64 e)), (.v (.int .i64 f))] 2 3)] 17 [(.e (.one (.slc 0 0 2 1 2 true)))] (iI g) [(bK [(.v (.int .i64 e)), (.v (.int .i64 f))] 2 3)]) (h6 : (g != (0 : Int) : Bool) = false) {Φ : Res → Prop} (ho : ∀ j, OutK E 0 0 (p93a_end C C2 n m i x e f g lo hi z w b a D cp ad j) Φ) (j : JN) : OutK E 0 0 (s93 C C2 n m i x e f g lo hi z w b a D cp ad j) Φ :=
 oS hE [.run 4, (.ops [(3, (.c0 (iI e))), (7, (.c0 (iI f))), (9, (.d (.c1 (iI g)))), (1, (.d .len)), (5, (.d .len))] []), .run 2, (.cond false), .run 6] [0, 4] (s' := fun j => ⟨[(bK [(.v (.int .i64 e)), (.v (.int .i64 f))] 2 3)], [(.code (aF [1, 1, 0, 1, 0, 0] Tryz.f93)), (.inLoop (aF [1, 1, 0, 1, 0, 0] Tryz.f93)), (.inBlock 0), (.code (aF [1, 1, 1] Tryz.f93))], mkT j [(0, (dQ C n)), (4, (iI 0))] 33 0⟩) (aP h0 <| aN <| aP h2 <| aN <| aP h4 <| aN <| aP h6 <| aZ)
  fun j => gZ [] (ho j)
def p28_end (_C _C2 : List DT) (n _m _i : Nat) (_x _e _f _g _lo _hi _z _w : Int) (b _a : Bool) (D : List AC) (_cp : Nat) (_ad : Addr) (j : JN) : St := ⟨[(.some ⟨(D), n, 3, b, .cells⟩)], [(.code .ret)], mkT j [(2, (.e (.one (.slc 0 0 n 1 n b))))] 6 0⟩
theorem p28 (hE : EnvOk E) (C C2 : List DT) (n m i : Nat) (x e f g lo hi z w : Int) (b a : Bool) (D : List AC) (cp : Nat) (ad : Addr) (h0 : CopyOk [(bK [] 0 3)] 1 8 (dQ C n) n D b) (h1 : (n * 1 : Nat) = n) (g0 : FlatC D) {Φ : Res → Prop} (ho : ∀ j, OutK E 0 0 (p28_end C C2 n m i x e f g lo hi z w b a D cp ad j) Φ) (j : JN) : OutK E 0 0 (s28 C C2 n m i x e f g lo hi z w b a D cp ad j) Φ :=
 oS hE [.run 3, (.ops [(2, (.cpu n n D b))] [])] [2] (s' := fun j => ⟨[none, (.some ⟨(D), n, 3, b, .cells⟩)], [(.code .ret)], mkT j [(2, (.e (.one (.slc 1 0 n 1 n b))))] 6 0⟩) (aP h0 <| aP h1 <| aZ)
  fun j => outK_gcF [1] [true] (h' := [(.some ⟨(D), n, 3, b, .cells⟩)]) (by decide) (by kernel_rfl) (by kernel_rfl) ⟨g0, trivial⟩ (by kernel_rfl) (ho j)
def p25_end (_C _C2 : List DT) (n _m _i : Nat) (_x _e _f _g _lo _hi _z _w : Int) (_b _a : Bool) (_D : List AC) (_cp : Nat) (_ad : Addr) (j : JN) : St := ⟨[], [(.code .ret)], mkT j [(2, (iB (decide ((↑n : Int) ≤ (9 : Int)))))] 6 0⟩
theorem p25 (hE : EnvOk E) (C C2 : List DT) (n m i : Nat) (x e f g lo hi z w : Int) (b a : Bool) (D : List AC) (cp : Nat) (ad : Addr)  {Φ : Res → Prop} (ho : ∀ j, OutK E 0 0 (p25_end C C2 n m i x e f g lo hi z w b a D cp ad j) Φ) (j : JN) : OutK E 0 0 (s25 C C2 n m i x e f g lo hi z w b a D cp ad j) Φ :=
 oS hE [.run 3, (.ops [(1, (.d .len))] [])] [2] (ps := []) trivial
  ho
def p59n_end (_C _C2 : List DT) (_n _m _i : Nat) (_x _e _f _g _lo _hi _z _w : Int) (_b _a : Bool) (_D : List AC) (_cp : Nat) (_ad : Addr) (j : JN) : St := ⟨[], [(.code .ret), (.code (aF [1, 1] Tryz.f59))], mkT j [(4, (iB false))] 26 0⟩
theorem p59n (hE : EnvOk E) (C C2 : List DT) (n m i : Nat) (x e f g lo hi z w : Int) (b a : Bool) (D : List AC) (cp : Nat) (ad : Addr) (h0 : ((↑n : Int) != (↑m : Int) : Bool) = true) {Φ : Res → Prop} (ho : ∀ j, OutK E 0 0 (p59n_end C C2 n m i x e f g lo hi z w b a D cp ad j) Φ) (j : JN) : OutK E 0 0 (s59 C C2 n m i x e f g lo hi z w b a D cp ad j) Φ :=
 oS hE [.run 4, (.ops [(1, (.d .len)), (3, (.d .len))] []), (.cond true), .run 2] [4] (aP h0 <| aZ)
  ho
def p59a_end (C C2 : List DT) (n m _i : Nat) (_x _e _f _g _lo _hi _z _w : Int) (_b _a : Bool) (_D : List AC) (_cp : Nat) (_ad : Addr) (j : JN) : St := ⟨[], [(.code (aF [1, 1, 0, 1, 0, 0] Tryz.f59)), (.inLoop (aF [1, 1, 0, 1, 0, 0] Tryz.f59)), (.inBlock 0), (.code (aF [1, 1, 1] Tryz.f59))], mkT j [(0, (dQ C n)), (1, (dQ C2 m)), (5, (iI 0))] 26 0⟩
theorem p59a (hE : EnvOk E) (C C2 : List DT) (n m i : Nat) (x e f g lo hi z w : Int) (b a : Bool) (D : List AC) (cp : Nat) (ad : Addr) (h0 : ((↑n : Int) != (↑m : Int) : Bool) = false) {Φ : Res → Prop} (ho : ∀ j, OutK E 0 0 (p59a_end C C2 n m i x e f g lo hi z w b a D cp ad j) Φ) (j : JN) : OutK E 0 0 (s59 C C2 n m i x e f g lo hi z w b a D cp ad j) Φ :=
 oS hE [.run 4, (.ops [(1, (.d .len)), (3, (.d .len))] []), (.cond false), .run 6] [0, 1, 5] (aP h0 <| aZ)
  ho
def p82s_end (C _C2 : List DT) (n _m i : Nat) (_x _e _f _g lo hi _z _w : Int) (_b _a : Bool) (_D : List AC) (_cp : Nat) (_ad : Addr) (j : JN) : St := ⟨[(bK [(.v (.int .i64 lo))] 1 3), (bK [(.v (.int .i64 hi))] 1 3)], [(.code (aF [1, 0, 1, 0, 0] Tryz.f82)), (.inLoop (aF [1, 0, 1, 0, 0] Tryz.f82)), (.inBlock 0), (.code (aF [1, 1] Tryz.f82))], mkT j [(1, (.e (.one (.clo 130 [] [(.one (.ptr 0 0)), (.one (.ptr 1 0))])))), (8, (dQ C n)), (9, (iN n)), (10, (iN (i + 1)))] 21 0⟩
theorem p82s (hE : EnvOk E) (C C2 : List DT) (n m i : Nat) (x e f g lo hi z w : Int) (b a : Bool) (D : List AC) (cp : Nat) (ad : Addr) (h0 : (decide (Int.ofNat i < Int.ofNat n) : Bool) = true) (h1 : (0 : Int) ≤ Int.ofNat i ∧ Int.ofNat i < (↑n : Int)) (h2 : ((Int.ofNat i).toNat * nat_lit 1 : Nat) = i) (h3 : (getL C i : Option DT) = (.some (.v (.int .i64 x)))) (h4 : COut E 0 [(bK [(.v (.int .i64 lo))] 1 3), (bK [(.v (.int .i64 hi))] 1 3)] 130 [(iI x), (.e (.one (.ptr 0 0))), (.e (.one (.ptr 1 0)))] (iI e) [(bK [(.v (.int .i64 lo))] 1 3), (bK [(.v (.int .i64 hi))] 1 3)]) (h5 : (e != (0 : Int) : Bool) = false) (h6 : ((iI (wrapF IntKind.i64 (Int.ofNat i + (1 : Int)))) : AV) = (iN (i + 1))) {Φ : Res → Prop} (ho : ∀ j, OutK E 0 2 (p82s_end C C2 n m i x e f g lo hi z w b a D cp ad j) Φ) (j : JN) : OutK E 0 2 (q82 C C2 n m i x e f g lo hi z w b a D cp ad j) Φ :=
 oS hE [.run 3, (.cond true), .run 4, (.ops [(1, (.d (.ld (.v (.int .i64 x))))), (0, (.d (.ix i)))] []), .run 1, (.ops [(2, (.cw (iI e) [(bK [(.v (.int .i64 lo))] 1 3), (bK [(.v (.int .i64 hi))] 1 3)]))] []), .run 2, (.cond false), .run 2, (.ops [(0, (.rn (iN (i + 1))))] []), .run 1] [1, 8, 9, 10] (aQ h0 h1 h2 h3 <| aP h4 <| aP h5 <| aP h6 <| aZ)
  ho
def p82e_end (_C _C2 : List DT) (_n _m _i : Nat) (_x e _f _g lo hi _z _w : Int) (_b _a : Bool) (_D : List AC) (_cp : Nat) (_ad : Addr) (j : JN) : St := ⟨[(bK [(.v (.int .i64 lo))] 1 3), (bK [(.v (.int .i64 hi))] 1 3)], [(.code .ret), (.inBlock 1), (.code (aF [1, 0, 1, 0, 0, 1, 1, 1] Tryz.f82)), (.inLoop (aF [1, 0, 1, 0, 0] Tryz.f82)), (.inBlock 0), (.code (aF [1, 1] Tryz.f82))], mkT j [(4, (iI e))] 21 0⟩
theorem p82e (hE : EnvOk E) (C C2 : List DT) (n m i : Nat) (x e f g lo hi z w : Int) (b a : Bool) (D : List AC) (cp : Nat) (ad : Addr) (h0 : (decide (Int.ofNat i < Int.ofNat n) : Bool) = true) (h1 : (0 : Int) ≤ Int.ofNat i ∧ Int.ofNat i < (↑n : Int)) (h2 : ((Int.ofNat i).toNat * nat_lit 1 : Nat) = i) (h3 : (getL C i : Option DT) = (.some (.v (.int .i64 x)))) (h4 : COut E 0 [(bK [(.v (.int .i64 lo))] 1 3), (bK [(.v (.int .i64 hi))] 1 3)] 130 [(iI x), (.e (.one (.ptr 0 0))), (.e (.one (.ptr 1 0)))] (iI e) [(bK [(.v (.int .i64 lo))] 1 3), (bK [(.v (.int .i64 hi))] 1 3)]) (h5 : (e != (0 : Int) : Bool) = true) {Φ : Res → Prop} (ho : ∀ j, OutK E 0 2 (p82e_end C C2 n m i x e f g lo hi z w b a D cp ad j) Φ) (j : JN) : OutK E 0 2 (q82 C C2 n m i x e f g lo hi z w b a D cp ad j) Φ :=
 oS hE [.run 3, (.cond true), .run 4, (.ops [(1, (.d (.ld (.v (.int .i64 x))))), (0, (.d (.ix i)))] []), .run 1, (.ops [(2, (.cw (iI e) [(bK [(.v (.int .i64 lo))] 1 3), (bK [(.v (.int .i64 hi))] 1 3)]))] []), .run 2, (.cond true), .run 2] [4] (aQ h0 h1 h2 h3 <| aP h4 <| aP h5 <| aZ)
  ho
def p82x_end (_C _C2 : List DT) (_n _m _i : Nat) (_x _e _f _g lo hi _z _w : Int) (_b _a : Bool) (_D : List AC) (_cp : Nat) (_ad : Addr) (j : JN) : St := ⟨[(bK [(.v (.int .i64 lo))] 1 3), (bK [(.v (.int .i64 hi))] 1 3)], [(.code .ret)], mkT j [(4, (iI 0))] 21 0⟩
theorem p82x (hE : EnvOk E) (C C2 : List DT) (n m i : Nat) (x e f g lo hi z w : Int) (b a : Bool) (D : List AC) (cp : Nat) (ad : Addr) (h0 : (decide (Int.ofNat i < Int.ofNat n) : Bool) = false) {Φ : Res → Prop} (ho : ∀ j, OutK E 0 2 (p82x_end C C2 n m i x e f g lo hi z w b a D cp ad j) Φ) (j : JN) : OutK E 0 2 (q82 C C2 n m i x e f g lo hi z w b a D cp ad j) Φ :=
 oS hE [.run 3, (.cond false), .run 3] [4] (aP h0 <| aZ)
  ho
def p93s_end (C _C2 : List DT) (n _m i : Nat) (_x _e _f _g _lo _hi _z _w : Int) (_b _a : Bool) (_D : List AC) (_cp : Nat) (_ad : Addr) (j : JN) : St := ⟨[], [(.code (aF [1, 1, 0, 1, 0, 0] Tryz.f93)), (.inLoop (aF [1, 1, 0, 1, 0, 0] Tryz.f93)), (.inBlock 0), (.code (aF [1, 1, 1] Tryz.f93))], mkT j [(0, (dQ C n)), (4, (iN (i + 1)))] 33 0⟩
theorem p93s (hE : EnvOk E) (C C2 : List DT) (n m i : Nat) (x e f g lo hi z w : Int) (b a : Bool) (D : List AC) (cp : Nat) (ad : Addr) (h0 : (decide (Int.ofNat i < (↑n : Int)) : Bool) = true) (h1 : (0 : Int) ≤ Int.ofNat i ∧ Int.ofNat i < (↑n : Int)) (h2 : ((Int.ofNat i).toNat * nat_lit 1 : Nat) = i) (h3 : (getL C i : Option DT) = (.some (.v (.int .i64 x)))) (h4 : COut E 0 [] 18 [(iI x), (iI 0), (iI 6)] (iI e) []) (h6 : (e != (0 : Int) : Bool) = false) (h7 : ((iI (wrapF IntKind.i64 (Int.ofNat i + (1 : Int)))) : AV) = (iN (i + 1))) {Φ : Res → Prop} (ho : ∀ j, OutK E 0 0 (p93s_end C C2 n m i x e f g lo hi z w b a D cp ad j) Φ) (j : JN) : OutK E 0 0 (q93 C C2 n m i x e f g lo hi z w b a D cp ad j) Φ :=
 oS hE [.run 2, (.ops [(2, (.d .len))] []), (.cond true), .run 4, (.ops [(3, (.d (.ld (.v (.int .i64 x))))), (4, (.c0 (iI e))), (2, (.d (.ix i)))] []), .run 2, (.cond false), .run 2, (.ops [(1, (.rn (iN (i + 1))))] []), .run 1] [0, 4] (aQ h0 h1 h2 h3 <| aP h4 <| aN <| aP h6 <| aP h7 <| aZ)
  ho
def p93f_end (_C _C2 : List DT) (_n _m _i : Nat) (_x e _f _g _lo _hi _z _w : Int) (_b _a : Bool) (_D : List AC) (_cp : Nat) (_ad : Addr) (j : JN) : St := ⟨[], [(.code .ret), (.inBlock 1), (.code (aF [1, 1, 0, 1, 0, 0, 1, 1] Tryz.f93)), (.inLoop (aF [1, 1, 0, 1, 0, 0] Tryz.f93)), (.inBlock 0), (.code (aF [1, 1, 1] Tryz.f93))], mkT j [(2, (iI e))] 33 0⟩
theorem p93f (hE : EnvOk E) (C C2 : List DT) (n m i : Nat) (x e f g lo hi z w : Int) (b a : Bool) (D : List AC) (cp : Nat) (ad : Addr) (h0 : (decide (Int.ofNat i < (↑n : Int)) : Bool) = true) (h1 : (0 : Int) ≤ Int.ofNat i ∧ Int.ofNat i < (↑n : Int)) (h2 : ((Int.ofNat i).toNat * nat_lit 1 : Nat) = i) (h3 : (getL C i : Option DT) = (.some (.v (.int .i64 x)))) (h4 : COut E 0 [] 18 [(iI x), (iI 0), (iI 6)] (iI e) []) (h6 : (e != (0 : Int) : Bool) = true) {Φ : Res → Prop} (ho : ∀ j, OutK E 0 0 (p93f_end C C2 n m i x e f g lo hi z w b a D cp ad j) Φ) (j : JN) : OutK E 0 0 (q93 C C2 n m i x e f g lo hi z w b a D cp ad j) Φ :=
 oS hE [.run 2, (.ops [(2, (.d .len))] []), (.cond true), .run 4, (.ops [(3, (.d (.ld (.v (.int .i64 x))))), (4, (.c0 (iI e))), (2, (.d (.ix i)))] []), .run 2, (.cond true), .run 2] [2] (aQ h0 h1 h2 h3 <| aP h4 <| aN <| aP h6 <| aZ)
  ho
def p93x_end (_C _C2 : List DT) (_n _m _i : Nat) (_x _e _f _g _lo _hi _z _w : Int) (_b _a : Bool) (_D : List AC) (_cp : Nat) (_ad : Addr) (j : JN) : St := ⟨[], [(.code .ret)], mkT j [(2, (iI 0))] 33 0⟩
theorem p93x (hE : EnvOk E) (C C2 : List DT) (n m i : Nat) (x e f g lo hi z w : Int) (b a : Bool) (D : List AC) (cp : Nat) (ad : Addr) (h0 : (decide (Int.ofNat i < (↑n : Int)) : Bool) = false) {Φ : Res → Prop} (ho : ∀ j, OutK E 0 0 (p93x_end C C2 n m i x e f g lo hi z w b a D cp ad j) Φ) (j : JN) : OutK E 0 0 (q93 C C2 n m i x e f g lo hi z w b a D cp ad j) Φ :=
 oS hE [.run 2, (.ops [(2, (.d .len))] []), (.cond false), .run 3] [2] (aP h0 <| aZ)
  ho
def p59s_end (C C2 : List DT) (n m i : Nat) (_x _e _f _g _lo _hi _z _w : Int) (_b _a : Bool) (_D : List AC) (_cp : Nat) (_ad : Addr) (j : JN) : St := ⟨[], [(.code (aF [1, 1, 0, 1, 0, 0] Tryz.f59)), (.inLoop (aF [1, 1, 0, 1, 0, 0] Tryz.f59)), (.inBlock 0), (.code (aF [1, 1, 1] Tryz.f59))], mkT j [(0, (dQ C n)), (1, (dQ C2 m)), (5, (iN (i + 1)))] 26 0⟩
theorem p59s (hE : EnvOk E) (C C2 : List DT) (n m i : Nat) (x e f g lo hi z w : Int) (b a : Bool) (D : List AC) (cp : Nat) (ad : Addr) (h0 : (decide (Int.ofNat i < (↑n : Int)) : Bool) = true) (h1 : (0 : Int) ≤ Int.ofNat i ∧ Int.ofNat i < (↑n : Int)) (h2 : ((Int.ofNat i).toNat * nat_lit 1 : Nat) = i) (h3 : (getL C i : Option DT) = (.some (.v (.int .i64 x)))) (h4 : (0 : Int) ≤ Int.ofNat i ∧ Int.ofNat i < (↑m : Int)) (h5 : ((Int.ofNat i).toNat * nat_lit 1 : Nat) = i) (h6 : (getL C2 i : Option DT) = (.some (.v (.int .i64 z)))) (h8 : (x != z : Bool) = false) (h9 : ((iI (wrapF IntKind.i64 (Int.ofNat i + (1 : Int)))) : AV) = (iN (i + 1))) {Φ : Res → Prop} (ho : ∀ j, OutK E 0 0 (p59s_end C C2 n m i x e f g lo hi z w b a D cp ad j) Φ) (j : JN) : OutK E 0 0 (q59 C C2 n m i x e f g lo hi z w b a D cp ad j) Φ :=
 oS hE [.run 2, (.ops [(2, (.d .len))] []), (.cond true), .run 4, (.ops [(3, (.d (.ld (.v (.int .i64 x))))), (7, (.d (.ld (.v (.int .i64 z))))), (2, (.d (.ix i))), (6, (.d (.ix i)))] []), (.cond false), .run 2, (.ops [(1, (.rn (iN (i + 1))))] []), .run 1] [0, 1, 5] (aQ h0 h1 h2 h3 <| aP h4 <| aP h5 <| aP h6 <| aV <| aP h8 <| aP h9 <| aZ)
  ho
def p59f_end (_C _C2 : List DT) (_n _m _i : Nat) (_x _e _f _g _lo _hi _z _w : Int) (_b _a : Bool) (_D : List AC) (_cp : Nat) (_ad : Addr) (j : JN) : St := ⟨[], [(.code .ret), (.inBlock 1), (.code (aF [1, 1, 0, 1, 0, 0, 1, 1] Tryz.f59)), (.inLoop (aF [1, 1, 0, 1, 0, 0] Tryz.f59)), (.inBlock 0), (.code (aF [1, 1, 1] Tryz.f59))], mkT j [(4, (iB false))] 26 0⟩
theorem p59f (hE : EnvOk E) (C C2 : List DT) (n m i : Nat) (x e f g lo hi z w : Int) (b a : Bool) (D : List AC) (cp : Nat) (ad : Addr) (h0 : (decide (Int.ofNat i < (↑n : Int)) : Bool) = true) (h1 : (0 : Int) ≤ Int.ofNat i ∧ Int.ofNat i < (↑n : Int)) (h2 : ((Int.ofNat i).toNat * nat_lit 1 : Nat) = i) (h3 : (getL C i : Option DT) = (.some (.v (.int .i64 x)))) (h4 : (0 : Int) ≤ Int.ofNat i ∧ Int.ofNat i < (↑m : Int)) (h5 : ((Int.ofNat i).toNat * nat_lit 1 : Nat) = i) (h6 : (getL C2 i : Option DT) = (.some (.v (.int .i64 z)))) (h8 : (x != z : Bool) = true) {Φ : Res → Prop} (ho : ∀ j, OutK E 0 0 (p59f_end C C2 n m i x e f g lo hi z w b a D cp ad j) Φ) (j : JN) : OutK E 0 0 (q59 C C2 n m i x e f g lo hi z w b a D cp ad j) Φ :=
 oS hE [.run 2, (.ops [(2, (.d .len))] []), (.cond true), .run 4, (.ops [(3, (.d (.ld (.v (.int .i64 x))))), (7, (.d (.ld (.v (.int .i64 z))))), (2, (.d (.ix i))), (6, (.d (.ix i)))] []), (.cond true), .run 2] [4] (aQ h0 h1 h2 h3 <| aP h4 <| aP h5 <| aP h6 <| aV <| aP h8 <| aZ)
  ho
def p59x_end (_C _C2 : List DT) (_n _m _i : Nat) (_x _e _f _g _lo _hi _z _w : Int) (_b _a : Bool) (_D : List AC) (_cp : Nat) (_ad : Addr) (j : JN) : St := ⟨[], [(.code .ret)], mkT j [(4, (iB true))] 26 0⟩
theorem p59x (hE : EnvOk E) (C C2 : List DT) (n m i : Nat) (x e f g lo hi z w : Int) (b a : Bool) (D : List AC) (cp : Nat) (ad : Addr) (h0 : (decide (Int.ofNat i < (↑n : Int)) : Bool) = false) {Φ : Res → Prop} (ho : ∀ j, OutK E 0 0 (p59x_end C C2 n m i x e f g lo hi z w b a D cp ad j) Φ) (j : JN) : OutK E 0 0 (q59 C C2 n m i x e f g lo hi z w b a D cp ad j) Φ :=
 oS hE [.run 2, (.ops [(2, (.d .len))] []), (.cond false), .run 3] [4] (aP h0 <| aZ)
  ho
def fI (c : Bool) (e : Int) : Int := if c = true then e else 0
def rg (x lo hi : Int) : Int := if x < lo ∨ hi < x then 3 else 0
theorem K85 (hE : EnvOk E) (c : Bool) (e : Int) : COut E 0 [] 85 [iB c, iI e] (iI (fI c e)) [] := by
 have h := A85_all hE c e
 rw [show A85_r0 c e = fI c e by unfold A85_r0 fI; cases c <;> rfl] at h
 exact h
theorem K32 (hE : EnvOk E) (c : Bool) (e : Int) : COut E 0 [] 32 [iB c, iI e] (iI (fI c e)) [] := by
 have h := A32_all hE c e
 rw [show A32_r0 c e = fI c e by unfold A32_r0 fI; cases c <;> rfl] at h
 exact h
theorem rg_of (x lo hi : Int) : (bif decide (x < lo) then (3 : Int) else (bif decide (x > hi) then Int.ofNat (nat_lit 3) else 0)) = rg x lo hi := by
 unfold rg
 by_cases h1 : x < lo
 ·rw [decide_eq_true h1, if_pos (.inl h1)]; rfl
 ·rw [decide_eq_false h1]
  by_cases h2 : hi < x
  ·rw [if_pos (.inr h2)]; show (bif decide (x > hi) then _ else _) = _; rw [decide_eq_true h2]; rfl
  ·rw [if_neg (by omega)]; show (bif decide (x > hi) then _ else _) = _; rw [decide_eq_false h2]; rfl
theorem K72 (hE : EnvOk E) (x lo hi : Int) : COut E 0 [] 72 [iI x, iI lo, iI hi] (iI (rg x lo hi)) [] := by
 have h := A72_all hE x lo hi
 rw [show A72_r0 x lo hi = rg x lo hi from rg_of x lo hi] at h
 exact h
theorem K18 (hE : EnvOk E) (x lo hi : Int) : COut E 0 [] 18 [iI x, iI lo, iI hi] (iI (rg x lo hi)) [] := by
 have h := A18_all hE x lo hi
 rw [show A18_r0 x lo hi = rg x lo hi from rg_of x lo hi] at h
 exact h
theorem gI {l : List Int} {i : Nat} {x : Int} (h : l[i]? = some x) : getL (iD l) i = some (.v (.int .i64 x)) := by rw [getL_eq, List.getElem?_map, h]; rfl
def eachE (lo hi : Int) : List Int → Int
 | [] => 0
 | x :: r => if rg x lo hi = 0 then eachE lo hi r else rg x lo hi
def mapE (xs : List Int) : Int := if xs.length = 0 then 12 else if 8 < xs.length then 5 else eachE 0 6 xs
abbrev hB (lo hi : Int) : Heap := [bK [.v (.int .i64 lo)] 1 3, bK [.v (.int .i64 hi)] 1 3]
theorem K130 (hE : EnvOk E) (x lo hi : Int) : COut E 0 (hB lo hi) 130 [iI x, (.e (.one (.ptr 0 0))), (.e (.one (.ptr 1 0)))] (iI (rg x lo hi)) (hB lo hi) :=
 cOut_start Tryz.func130 rfl (p130 hE [] [] 0 0 0 x (rg x lo hi) 0 0 lo hi 0 0 false false [] 0 (⟨0, 0, none⟩) (K72 hE x lo hi) (fun j => outK_ret (ends_ret (by kernel_rfl))) fun _ => undef)
theorem l82 (hE : EnvOk E) (lo hi : Int) (xs : List Int) (hm : xs.length ≤ 100000) : ∀ k i, k + i = xs.length → ∀ j, OutK E 0 2 (q82 (iD xs) [] xs.length 0 i 0 0 0 0 lo hi 0 0 false false [] 0 (⟨0, 0, none⟩) j) (Go.Ev.Ends E Tryz.f82 (iI (eachE lo hi (xs.drop i))) (hB lo hi))
 | 0, i, hk, j => by
  obtain rfl : i = xs.length := by omega
  rw [List.drop_length]
  exact p82x hE (iD xs) [] xs.length 0 xs.length 0 0 0 0 lo hi 0 0 false false [] 0 (⟨0, 0, none⟩) dF (fun j => outK_ret (ends_ret (by kernel_rfl))) j
 | k + 1, i, hk, j => by
  have hl : i < xs.length := by omega
  have hx : xs[i]? = some xs[i] := List.getElem?_eq_getElem hl
  rw [List.drop_eq_getElem_cons hl]
  generalize xs[i] = x at hx
  by_cases h : rg x lo hi = 0
  ·rw [show eachE lo hi (x :: xs.drop (i + 1)) = eachE lo hi (xs.drop (i + 1)) from if_pos h]
   exact p82s hE (iD xs) [] xs.length 0 i x (rg x lo hi) 0 0 lo hi 0 0 false false [] 0 (⟨0, 0, none⟩) dT bP (Nat.mul_one _) (gI hx) (K130 hE x lo hi) (by rw [h]; rfl) (iIe (by (try simp only [Int.ofNat_eq_natCast]); rw [wrap_id (by omega) (by omega)]; try omega)) (l82 hE lo hi xs hm k (i + 1) (by omega)) j
  ·rw [show eachE lo hi (x :: xs.drop (i + 1)) = rg x lo hi from if_neg h]
   exact p82e hE (iD xs) [] xs.length 0 i x (rg x lo hi) 0 0 lo hi 0 0 false false [] 0 (⟨0, 0, none⟩) dT bP (Nat.mul_one _) (gI hx) (K130 hE x lo hi) (bne_iff_ne.2 h) (fun j => outK_ret (ends_ret (by kernel_rfl))) j
theorem K82 (hE : EnvOk E) (lo hi : Int) (xs : List Int) (hm : xs.length ≤ 100000) : COut E 0 (hB lo hi) 82 [dI xs, (.e (.one (.clo 130 [] [.one (.ptr 0 0), .one (.ptr 1 0)])))] (iI (eachE lo hi xs)) (hB lo hi) :=
 cOut_start Tryz.func82 rfl (p82a hE (iD xs) [] xs.length 0 0 0 0 0 0 lo hi 0 0 false false [] 0 (⟨0, 0, none⟩) (l82 hE lo hi xs hm xs.length 0 rfl) fun _ => undef)
theorem K97 (hE : EnvOk E) (lo hi z : Int) (xs : List Int) (hm : xs.length ≤ 100000) : COut E 0 (hB lo hi) 97 [dI xs, iI z, (.e (.one (.clo 130 [] [.one (.ptr 0 0), .one (.ptr 1 0)])))] (iI (if (xs.length : Int) > z then 5 else eachE lo hi xs)) (hB lo hi) := by
 by_cases h : (xs.length : Int) > z
 ·rw [if_pos h]
  exact cOut_start Tryz.func97 rfl (p97m hE (iD xs) [] xs.length 0 0 0 0 0 0 lo hi z 0 false false [] 0 (⟨0, 0, none⟩) (decide_eq_true h) (fun j => outK_ret (ends_ret (by kernel_rfl))) fun _ => undef)
 ·rw [if_neg h]
  exact cOut_start Tryz.func97 rfl (p97s hE (iD xs) [] xs.length 0 0 0 (eachE lo hi xs) 0 0 lo hi z 0 false false [] 0 (⟨0, 0, none⟩) (decide_eq_false h) (K82 hE lo hi xs hm) (fun j => outK_ret (ends_ret (by kernel_rfl))) fun _ => undef)
theorem K77 (hE : EnvOk E) (lo hi z : Int) (xs : List Int) (hm : xs.length ≤ 100000) : COut E 0 (hB lo hi) 77 [dI xs, iI z, (.e (.one (.clo 130 [] [.one (.ptr 0 0), .one (.ptr 1 0)])))] (iI (if xs.length = 0 then 12 else if (xs.length : Int) > z then 5 else eachE lo hi xs)) (hB lo hi) := by
 by_cases h : xs.length = 0
 ·rw [if_pos h]
  exact cOut_start Tryz.func77 rfl (p77z hE (iD xs) [] xs.length 0 0 0 0 0 0 lo hi z 0 false false [] 0 (⟨0, 0, none⟩) (by rw [h]; rfl) (fun j => outK_ret (ends_ret (by kernel_rfl))) fun _ => undef)
 ·rw [if_neg h]
  exact cOut_start Tryz.func77 rfl (p77s hE (iD xs) [] xs.length 0 0 0 ((if (xs.length : Int) > z then 5 else eachE lo hi xs)) 0 0 lo hi z 0 false false [] 0 (⟨0, 0, none⟩) (beq_eq_false_iff_ne.2 (by omega)) (K97 hE lo hi z xs hm) (fun j => outK_ret (ends_ret (by kernel_rfl))) fun _ => undef)
theorem K133 (hE : EnvOk E) (xs : List Int) (hm : xs.length ≤ 100000) : COut E 0 [] 133 [dI xs] (iI (mapE xs)) [] := by
 have e : mapE xs = (if xs.length = 0 then 12 else if (xs.length : Int) > 8 then 5 else eachE 0 6 xs) := by
  unfold mapE
  by_cases h : 8 < xs.length
  ·rw [if_pos h, if_pos (show (xs.length : Int) > 8 by omega)]
  ·rw [if_neg h, if_neg (show ¬ (xs.length : Int) > 8 by omega)]
 rw [e]
 exact cOut_clear (cOut_start Tryz.func133 rfl (p133 hE (iD xs) [] xs.length 0 0 0 ((if xs.length = 0 then 12 else if (xs.length : Int) > 8 then 5 else eachE 0 6 xs)) 0 0 0 0 0 0 false false [] 0 (⟨0, 0, none⟩) (K77 hE 0 6 8 xs hm) (fun j => outK_ret (ends_ret (by kernel_rfl))) fun _ => undef)) rfl
theorem l93 (hE : EnvOk E) (xs : List Int) (hm : xs.length ≤ 100000) : ∀ k i, k + i = xs.length → ∀ j, OutK E 0 0 (q93 (iD xs) [] xs.length 0 i 0 0 0 0 0 0 0 0 false false [] 0 (⟨0, 0, none⟩) j) (Go.Ev.Ends E Tryz.f93 (iI (eachE 0 6 (xs.drop i))) [])
 | 0, i, hk, j => by
  obtain rfl : i = xs.length := by omega
  rw [List.drop_length]
  exact p93x hE (iD xs) [] xs.length 0 xs.length 0 0 0 0 0 0 0 0 false false [] 0 (⟨0, 0, none⟩) dF (fun j => outK_ret (ends_ret (by kernel_rfl))) j
 | k + 1, i, hk, j => by
  have hl : i < xs.length := by omega
  have hx : xs[i]? = some xs[i] := List.getElem?_eq_getElem hl
  rw [List.drop_eq_getElem_cons hl]
  generalize xs[i] = x at hx
  by_cases h : rg x 0 6 = 0
  ·rw [show eachE 0 6 (x :: xs.drop (i + 1)) = eachE 0 6 (xs.drop (i + 1)) from if_pos h]
   exact p93s hE (iD xs) [] xs.length 0 i x (rg x 0 6) 0 0 0 0 0 0 false false [] 0 (⟨0, 0, none⟩) dT bP (Nat.mul_one _) (gI hx) (K18 hE x 0 6) (by rw [h]; rfl) (iIe (by (try simp only [Int.ofNat_eq_natCast]); rw [wrap_id (by omega) (by omega)]; try omega)) (l93 hE xs hm k (i + 1) (by omega)) j
  ·rw [show eachE 0 6 (x :: xs.drop (i + 1)) = rg x 0 6 from if_neg h]
   exact p93f hE (iD xs) [] xs.length 0 i x (rg x 0 6) 0 0 0 0 0 0 false false [] 0 (⟨0, 0, none⟩) dT bP (Nat.mul_one _) (gI hx) (K18 hE x 0 6) (bne_iff_ne.2 h) (fun j => outK_ret (ends_ret (by kernel_rfl))) j
theorem fI2 (a b : Int) : firstI [a, b] = if a = 0 then b else a := by
 show (if a = 0 then (if b = 0 then 0 else b) else a) = _
 by_cases h : b = 0
 ·rw [if_pos h, h]
 ·rw [if_neg h]
theorem K93 (hE : EnvOk E) (xs : List Int) (hm : xs.length ≤ 100000) : COut E 0 [] 93 [dI xs] (iI (mapE xs)) [] := by
 have k17 := K17 hE [fI ((xs.length : Int) == 0) 12, fI (decide ((xs.length : Int) > 8)) 5] (by simp)
 have e : firstI [fI ((xs.length : Int) == 0) 12, fI (decide ((xs.length : Int) > 8)) 5] = if xs.length = 0 then 12 else if 8 < xs.length then 5 else 0 := by
  rw [fI2]
  unfold fI
  by_cases h : xs.length = 0
  ·rw [if_pos h, if_pos (show ((xs.length : Int) == 0) = true by rw [h]; rfl)]; rfl
  ·rw [if_neg h, if_neg (show ¬ ((xs.length : Int) == 0) = true from fun a => h (by have := eq_of_beq a; omega)), if_pos rfl]
   by_cases h2 : 8 < xs.length
   ·rw [if_pos h2, if_pos (decide_eq_true (show (xs.length : Int) > 8 by omega))]
   ·rw [if_neg h2, if_neg (by simp; omega)]
 by_cases h : (if xs.length = 0 then (12 : Int) else if 8 < xs.length then 5 else 0) = 0
 ·have e2 : mapE xs = eachE 0 6 (xs.drop 0) := by
   rw [List.drop_zero]
   unfold mapE
   by_cases h1 : xs.length = 0
   ·rw [if_pos h1] at h; exact absurd h (by decide)
   ·rw [if_neg h1] at h ⊢
    by_cases h2 : 8 < xs.length
    ·rw [if_pos h2] at h; exact absurd h (by decide)
    ·rw [if_neg h2]
  rw [e, h] at k17
  rw [e2]
  exact cOut_clear (cOut_start Tryz.func93 rfl (p93a hE (iD xs) [] xs.length 0 0 0 (fI ((xs.length : Int) == 0) 12) (fI (decide ((xs.length : Int) > 8)) 5) 0 0 0 0 0 false false [] 0 (⟨0, 0, none⟩) (K32 hE _ _) (K32 hE _ _) (lend2 1 hE 17 _ _ 3 true k17 _ 0 rfl) rfl (l93 hE xs hm xs.length 0 rfl) fun _ => undef)) rfl
 ·have e2 : mapE xs = if xs.length = 0 then 12 else if 8 < xs.length then 5 else 0 := by
   unfold mapE
   by_cases h1 : xs.length = 0
   ·rw [if_pos h1, if_pos h1]
   ·rw [if_neg h1] at h ⊢
    rw [if_neg h1]
    by_cases h2 : 8 < xs.length
    ·rw [if_pos h2, if_pos h2]
    ·rw [if_neg h2] at h; exact absurd rfl h
  rw [e, ← e2] at k17
  rw [← e2] at h
  exact cOut_clear (cOut_start Tryz.func93 rfl (p93e hE (iD xs) [] xs.length 0 0 0 (fI ((xs.length : Int) == 0) 12) (fI (decide ((xs.length : Int) > 8)) 5) (mapE xs) 0 0 0 0 false false [] 0 (⟨0, 0, none⟩) (K32 hE _ _) (K32 hE _ _) (lend2 1 hE 17 _ _ 3 true k17 _ 0 rfl) (bne_iff_ne.2 h) (fun j => outK_ret (ends_ret (by kernel_rfl))) fun _ => undef)) rfl
theorem cpI (xs : List Int) (hm : xs.length ≤ 100000) (h : Heap) : CopyOk h 1 8 (dI xs) xs.length (iC xs) (decide (xs.length = 0)) := by
 by_cases h0 : xs.length = 0
 ·obtain rfl := List.length_eq_zero_iff.1 h0
  exact .inl ⟨rfl, rfl, rfl, _, _, rfl⟩
 ·rw [decide_eq_false h0]
  exact .inr (.inl ⟨rfl, by omega, by simp [small]; omega, by simp [List.all_eq_true, DT.ac, AC.isOne], iD xs, rfl, rfl, by simp⟩)
theorem frI (xs : List Int) (b : Bool) : FrzC 0 (iD xs) (.slc 0 0 xs.length 1 xs.length b) (.dp (.s (iD xs) xs.length 1)) := frzAll (iD xs) xs.length 1 xs.length b (by simp)
theorem K28 (hE : EnvOk E) (xs : List Int) (hm : xs.length ≤ 100000) : COut E 0 [] 28 [dI xs] (dI xs) [] := by
 have hc : COut E 0 [] 28 [dI xs] (.e (.one (.slc 0 0 xs.length 1 xs.length (decide (xs.length = 0))))) [some ⟨iC xs, xs.length, 3, decide (xs.length = 0), .cells⟩] :=
  cOut_start Tryz.func28 rfl (p28 hE (iD xs) [] xs.length 0 0 0 0 0 0 0 0 0 0 (decide (xs.length = 0)) false (iC xs) 0 (⟨0, 0, none⟩) (cpI xs hm _) oB (flat_iC _) (fun j => outK_ret (ends_ret (by kernel_rfl))) fun _ => undef)
 exact cOut_clear (cOut_freeze 0 hc rfl (Nat.zero_le _) (ds := iD xs) (frI xs _)) rfl
theorem K25 (hE : EnvOk E) (xs : List Int) : COut E 0 [] 25 [dI xs] (iB (decide ((xs.length : Int) ≤ 9))) [] :=
 cOut_start Tryz.func25 rfl (p25 hE (iD xs) [] xs.length 0 0 0 0 0 0 0 0 0 0 false false [] 0 (⟨0, 0, none⟩) (fun j => outK_ret (ends_ret (by kernel_rfl))) fun _ => undef)
theorem l59 (hE : EnvOk E) (xs ys : List Int) (hm : xs.length ≤ 100000) (he : xs.length = ys.length) : ∀ k i, k + i = xs.length → ∀ j, OutK E 0 0 (q59 (iD xs) (iD ys) xs.length ys.length i 0 0 0 0 0 0 0 0 false false [] 0 (⟨0, 0, none⟩) j) (Go.Ev.Ends E Tryz.f59 (iB (decide (xs.drop i = ys.drop i))) [])
 | 0, i, hk, j => by
  obtain rfl : i = xs.length := by omega
  have e : decide (xs.drop xs.length = ys.drop xs.length) = true := decide_eq_true (by rw [List.drop_length, he, List.drop_length])
  rw [e]
  exact p59x hE (iD xs) (iD ys) xs.length ys.length xs.length 0 0 0 0 0 0 0 0 false false [] 0 (⟨0, 0, none⟩) dF (fun j => outK_ret (ends_ret (by kernel_rfl))) j
 | k + 1, i, hk, j => by
  have hl : i < xs.length := by omega
  have hl2 : i < ys.length := by omega
  have hx : xs[i]? = some xs[i] := List.getElem?_eq_getElem hl
  have hy : ys[i]? = some ys[i] := List.getElem?_eq_getElem hl2
  rw [List.drop_eq_getElem_cons hl, List.drop_eq_getElem_cons hl2]
  generalize xs[i] = x at hx
  generalize ys[i] = y at hy
  by_cases h : x = y
  ·have e : decide (x :: xs.drop (i + 1) = y :: ys.drop (i + 1)) = decide (xs.drop (i + 1) = ys.drop (i + 1)) := by
    subst h
    by_cases h2 : xs.drop (i + 1) = ys.drop (i + 1)
    ·rw [decide_eq_true h2, decide_eq_true (by rw [h2])]
    ·rw [decide_eq_false h2, decide_eq_false (fun a => h2 (List.cons.inj a).2)]
   rw [e]
   exact p59s hE (iD xs) (iD ys) xs.length ys.length i x 0 0 0 0 0 y 0 false false [] 0 (⟨0, 0, none⟩) dT bP (Nat.mul_one _) (gI hx) bP (Nat.mul_one _) (gI hy) (by rw [h]; simp) (iIe (by (try simp only [Int.ofNat_eq_natCast]); rw [wrap_id (by omega) (by omega)]; try omega)) (l59 hE xs ys hm he k (i + 1) (by omega)) j
  ·have e : decide (x :: xs.drop (i + 1) = y :: ys.drop (i + 1)) = false := decide_eq_false fun a => h (List.cons.inj a).1
   rw [e]
   exact p59f hE (iD xs) (iD ys) xs.length ys.length i x 0 0 0 0 0 y 0 false false [] 0 (⟨0, 0, none⟩) dT bP (Nat.mul_one _) (gI hx) bP (Nat.mul_one _) (gI hy) (bne_iff_ne.2 h) (fun j => outK_ret (ends_ret (by kernel_rfl))) j
theorem K59 (hE : EnvOk E) (xs ys : List Int) (hm : xs.length ≤ 100000) : COut E 0 [] 59 [dI xs, dI ys] (iB (decide (xs = ys))) [] := by
 by_cases he : xs.length = ys.length
 ·have := l59 hE xs ys hm he xs.length 0 rfl
  rw [List.drop_zero, List.drop_zero] at this
  exact cOut_start Tryz.func59 rfl (p59a hE (iD xs) (iD ys) xs.length ys.length 0 0 0 0 0 0 0 0 0 false false [] 0 (⟨0, 0, none⟩) (by rw [he]; simp) this fun _ => undef)
 ·rw [show decide (xs = ys) = false from decide_eq_false fun a => he (by rw [a])]
  exact cOut_start Tryz.func59 rfl (p59n hE (iD xs) (iD ys) xs.length ys.length 0 0 0 0 0 0 0 0 0 false false [] 0 (⟨0, 0, none⟩) (bne_iff_ne.2 (by omega)) (fun j => outK_ret (ends_ret (by kernel_rfl))) fun _ => undef)
end
end Go.Proofs.YtaccakbjankeeaaGreatDoor
end

/-! SeVz -/
section
open Go Go.Ev
namespace Go.Proofs.YtaccakbjankeeaaGreatDoor
noncomputable section
set_option maxRecDepth 100000
set_option maxHeartbeats 20000000
def z130 (x lo hi : Int) (_j : JN) : St := startK Tryz.f130 [bK [.v (.int .i64 lo)] 1 3, bK [.v (.int .i64 hi)] 1 3] [iI x, (.e (.one (.ptr 0 0))), (.e (.one (.ptr 1 0)))]
def z82 (C : List DT) (n : Nat) (lo hi : Int) (_j : JN) : St := startK Tryz.f82 [bK [.v (.int .i64 lo)] 1 3, bK [.v (.int .i64 hi)] 1 3] [(dQ C n), (.e (.one (.clo 130 [] [.one (.ptr 0 0), .one (.ptr 1 0)])))]
def z97 (C : List DT) (n : Nat) (lo hi z : Int) (_j : JN) : St := startK Tryz.f97 [bK [.v (.int .i64 lo)] 1 3, bK [.v (.int .i64 hi)] 1 3] [(dQ C n), iI z, (.e (.one (.clo 130 [] [.one (.ptr 0 0), .one (.ptr 1 0)])))]
def yz82 (C : List DT) (n i : Nat) (lo hi : Int) (j : JN) : St := ⟨[(bK [(.v (.int .i64 lo))] 1 3), (bK [(.v (.int .i64 hi))] 1 3)], [(.code (aF [1, 0, 1, 0, 0] Tryz.f82)), (.inLoop (aF [1, 0, 1, 0, 0] Tryz.f82)), (.inBlock 0), (.code (aF [1, 1] Tryz.f82))], mkT j [(1, (.e (.one (.clo 130 [] [(.one (.ptr 0 0)), (.one (.ptr 1 0))])))), (8, (dQ C n)), (9, (iN n)), (10, (iN i))] 21 0⟩
def pz130_end (e lo hi : Int) (j : JN) : St := ⟨[(bK [(.v (.int .i64 lo))] 1 3), (bK [(.v (.int .i64 hi))] 1 3)], [(.code .ret)], mkT j [(4, (iI e))] 9 0⟩
theorem pz130 (hE : EnvOk E) (x e lo hi : Int) (h0 : COut E 0 [] 72 [(iI x), (iI lo), (iI hi)] (iI e) []) {Φ : Res → Prop} (ho : ∀ j, OutK E 2 2 (pz130_end e lo hi j) Φ) (j : JN) : OutK E 2 2 (z130 x lo hi j) Φ :=
 oS hE [.run 3, (.ops [(3, (.c0 (iI e)))] [])] [4] (aP h0 <| aN <| aZ)
  ho
def pz82a_end (C : List DT) (n : Nat) (lo hi : Int) (j : JN) : St := ⟨[(bK [(.v (.int .i64 lo))] 1 3), (bK [(.v (.int .i64 hi))] 1 3)], [(.code (aF [1, 0, 1, 0, 0] Tryz.f82)), (.inLoop (aF [1, 0, 1, 0, 0] Tryz.f82)), (.inBlock 0), (.code (aF [1, 1] Tryz.f82))], mkT j [(1, (.e (.one (.clo 130 [] [(.one (.ptr 0 0)), (.one (.ptr 1 0))])))), (8, (dQ C n)), (9, (iN n)), (10, (iI 0))] 21 0⟩
theorem pz82a (hE : EnvOk E) (C : List DT) (n : Nat) (lo hi : Int) {Φ : Res → Prop} (ho : ∀ j, OutK E 2 2 (pz82a_end C n lo hi j) Φ) (j : JN) : OutK E 2 2 (z82 C n lo hi j) Φ :=
 oS hE [.run 4, (.ops [(1, (.d .len))] []), .run 2] [1, 8, 9, 10] (ps := []) trivial
  ho
def pz97m_end (lo hi : Int) (j : JN) : St := ⟨[(bK [(.v (.int .i64 lo))] 1 3), (bK [(.v (.int .i64 hi))] 1 3)], [(.code .ret), (.code (aF [1, 1] Tryz.f97))], mkT j [(6, (iI 5))] 14 0⟩
theorem pz97m (hE : EnvOk E) (C : List DT) (n : Nat) (lo hi z : Int) (h0 : (decide ((↑n : Int) > z) : Bool) = true) {Φ : Res → Prop} (ho : ∀ j, OutK E 2 2 (pz97m_end lo hi j) Φ) (j : JN) : OutK E 2 2 (z97 C n lo hi z j) Φ :=
 oS hE [.run 4, (.ops [(1, (.d .len))] []), (.cond true), .run 2] [6] (aP h0 <| aZ)
  ho
def pz97s_end (e lo hi : Int) (j : JN) : St := ⟨[(bK [(.v (.int .i64 lo))] 1 3), (bK [(.v (.int .i64 hi))] 1 3)], [(.code .ret)], mkT j [(6, (iI e))] 14 0⟩
theorem pz97s (hE : EnvOk E) (C : List DT) (n : Nat) (e lo hi z : Int) (h0 : (decide ((↑n : Int) > z) : Bool) = false) (h1 : COut E 2 [(bK [(.v (.int .i64 lo))] 1 3), (bK [(.v (.int .i64 hi))] 1 3)] 82 [(dQ C n), (.e (.one (.clo 130 [] [(.one (.ptr 0 0)), (.one (.ptr 1 0))])))] (iI e) [(bK [(.v (.int .i64 lo))] 1 3), (bK [(.v (.int .i64 hi))] 1 3)]) {Φ : Res → Prop} (ho : ∀ j, OutK E 2 2 (pz97s_end e lo hi j) Φ) (j : JN) : OutK E 2 2 (z97 C n lo hi z j) Φ :=
 oS hE [.run 4, (.ops [(1, (.d .len))] []), (.cond false), .run 2, (.ops [(2, (.cw (iI e) [(bK [(.v (.int .i64 lo))] 1 3), (bK [(.v (.int .i64 hi))] 1 3)]))] [])] [6] (aP h0 <| aP h1 <| aZ)
  ho
def pz82s_end (C : List DT) (n i : Nat) (lo hi : Int) (j : JN) : St := ⟨[(bK [(.v (.int .i64 lo))] 1 3), (bK [(.v (.int .i64 hi))] 1 3)], [(.code (aF [1, 0, 1, 0, 0] Tryz.f82)), (.inLoop (aF [1, 0, 1, 0, 0] Tryz.f82)), (.inBlock 0), (.code (aF [1, 1] Tryz.f82))], mkT j [(1, (.e (.one (.clo 130 [] [(.one (.ptr 0 0)), (.one (.ptr 1 0))])))), (8, (dQ C n)), (9, (iN n)), (10, (iN (i + 1)))] 21 0⟩
theorem pz82s (hE : EnvOk E) (C : List DT) (n i : Nat) (x e lo hi : Int) (h0 : (decide (Int.ofNat i < Int.ofNat n) : Bool) = true) (h1 : (0 : Int) ≤ Int.ofNat i ∧ Int.ofNat i < (↑n : Int)) (h2 : ((Int.ofNat i).toNat * nat_lit 1 : Nat) = i) (h3 : (getL C i : Option DT) = (.some (.v (.int .i64 x)))) (h4 : COut E 2 [(bK [(.v (.int .i64 lo))] 1 3), (bK [(.v (.int .i64 hi))] 1 3)] 130 [(iI x), (.e (.one (.ptr 0 0))), (.e (.one (.ptr 1 0)))] (iI e) [(bK [(.v (.int .i64 lo))] 1 3), (bK [(.v (.int .i64 hi))] 1 3)]) (h5 : (e != (0 : Int) : Bool) = false) (h6 : ((iI (wrapF IntKind.i64 (Int.ofNat i + (1 : Int)))) : AV) = (iN (i + 1))) {Φ : Res → Prop} (ho : ∀ j, OutK E 2 2 (pz82s_end C n i lo hi j) Φ) (j : JN) : OutK E 2 2 (yz82 C n i lo hi j) Φ :=
 oS hE [.run 3, (.cond true), .run 4, (.ops [(1, (.d (.ld (.v (.int .i64 x))))), (0, (.d (.ix i)))] []), .run 1, (.ops [(2, (.cw (iI e) [(bK [(.v (.int .i64 lo))] 1 3), (bK [(.v (.int .i64 hi))] 1 3)]))] []), .run 2, (.cond false), .run 2, (.ops [(0, (.rn (iN (i + 1))))] []), .run 1] [1, 8, 9, 10] (aQ h0 h1 h2 h3 <| aP h4 <| aP h5 <| aP h6 <| aZ)
  ho
def pz82e_end (e lo hi : Int) (j : JN) : St := ⟨[(bK [(.v (.int .i64 lo))] 1 3), (bK [(.v (.int .i64 hi))] 1 3)], [(.code .ret), (.inBlock 1), (.code (aF [1, 0, 1, 0, 0, 1, 1, 1] Tryz.f82)), (.inLoop (aF [1, 0, 1, 0, 0] Tryz.f82)), (.inBlock 0), (.code (aF [1, 1] Tryz.f82))], mkT j [(4, (iI e))] 21 0⟩
theorem pz82e (hE : EnvOk E) (C : List DT) (n i : Nat) (x e lo hi : Int) (h0 : (decide (Int.ofNat i < Int.ofNat n) : Bool) = true) (h1 : (0 : Int) ≤ Int.ofNat i ∧ Int.ofNat i < (↑n : Int)) (h2 : ((Int.ofNat i).toNat * nat_lit 1 : Nat) = i) (h3 : (getL C i : Option DT) = (.some (.v (.int .i64 x)))) (h4 : COut E 2 [(bK [(.v (.int .i64 lo))] 1 3), (bK [(.v (.int .i64 hi))] 1 3)] 130 [(iI x), (.e (.one (.ptr 0 0))), (.e (.one (.ptr 1 0)))] (iI e) [(bK [(.v (.int .i64 lo))] 1 3), (bK [(.v (.int .i64 hi))] 1 3)]) (h5 : (e != (0 : Int) : Bool) = true) {Φ : Res → Prop} (ho : ∀ j, OutK E 2 2 (pz82e_end e lo hi j) Φ) (j : JN) : OutK E 2 2 (yz82 C n i lo hi j) Φ :=
 oS hE [.run 3, (.cond true), .run 4, (.ops [(1, (.d (.ld (.v (.int .i64 x))))), (0, (.d (.ix i)))] []), .run 1, (.ops [(2, (.cw (iI e) [(bK [(.v (.int .i64 lo))] 1 3), (bK [(.v (.int .i64 hi))] 1 3)]))] []), .run 2, (.cond true), .run 2] [4] (aQ h0 h1 h2 h3 <| aP h4 <| aP h5 <| aZ)
  ho
def pz82x_end (lo hi : Int) (j : JN) : St := ⟨[(bK [(.v (.int .i64 lo))] 1 3), (bK [(.v (.int .i64 hi))] 1 3)], [(.code .ret)], mkT j [(4, (iI 0))] 21 0⟩
theorem pz82x (hE : EnvOk E) (C : List DT) (n i : Nat) (lo hi : Int) (h0 : (decide (Int.ofNat i < Int.ofNat n) : Bool) = false) {Φ : Res → Prop} (ho : ∀ j, OutK E 2 2 (pz82x_end lo hi j) Φ) (j : JN) : OutK E 2 2 (yz82 C n i lo hi j) Φ :=
 oS hE [.run 3, (.cond false), .run 3] [4] (aP h0 <| aZ)
  ho
theorem Kz130 (hE : EnvOk E) (x lo hi : Int) : COut E 2 (hB lo hi) 130 [iI x, (.e (.one (.ptr 0 0))), (.e (.one (.ptr 1 0)))] (iI (rg x lo hi)) (hB lo hi) :=
 cOut_start Tryz.func130 rfl (pz130 hE x (rg x lo hi) lo hi (K72 hE x lo hi) (fun j => outK_ret (ends_ret (by kernel_rfl))) fun _ => undef)
theorem lz82 (hE : EnvOk E) (lo hi : Int) (xs : List Int) (hm : xs.length ≤ 100000) : ∀ k i, k + i = xs.length → ∀ j, OutK E 2 2 (yz82 (iD xs) xs.length i lo hi j) (Go.Ev.Ends E Tryz.f82 (iI (eachE lo hi (xs.drop i))) (hB lo hi))
 | 0, i, hk, j => by
  obtain rfl : i = xs.length := by omega
  rw [List.drop_length]
  exact pz82x hE (iD xs) xs.length xs.length lo hi dF (fun j => outK_ret (ends_ret (by kernel_rfl))) j
 | k + 1, i, hk, j => by
  have hl : i < xs.length := by omega
  have hx : xs[i]? = some xs[i] := List.getElem?_eq_getElem hl
  rw [List.drop_eq_getElem_cons hl]
  generalize xs[i] = x at hx
  by_cases h : rg x lo hi = 0
  ·rw [show eachE lo hi (x :: xs.drop (i + 1)) = eachE lo hi (xs.drop (i + 1)) from if_pos h]
   exact pz82s hE (iD xs) xs.length i x (rg x lo hi) lo hi dT bP (Nat.mul_one _) (gI hx) (Kz130 hE x lo hi) (by rw [h]; rfl) (iIe (by (try simp only [Int.ofNat_eq_natCast]); rw [wrap_id (by omega) (by omega)]; try omega)) (lz82 hE lo hi xs hm k (i + 1) (by omega)) j
  ·rw [show eachE lo hi (x :: xs.drop (i + 1)) = rg x lo hi from if_neg h]
   exact pz82e hE (iD xs) xs.length i x (rg x lo hi) lo hi dT bP (Nat.mul_one _) (gI hx) (Kz130 hE x lo hi) (bne_iff_ne.2 h) (fun j => outK_ret (ends_ret (by kernel_rfl))) j
theorem Kz82 (hE : EnvOk E) (lo hi : Int) (xs : List Int) (hm : xs.length ≤ 100000) : COut E 2 (hB lo hi) 82 [dI xs, (.e (.one (.clo 130 [] [.one (.ptr 0 0), .one (.ptr 1 0)])))] (iI (eachE lo hi xs)) (hB lo hi) :=
 cOut_start Tryz.func82 rfl (pz82a hE (iD xs) xs.length lo hi (lz82 hE lo hi xs hm xs.length 0 rfl) fun _ => undef)
def mostE (lo hi z : Int) (xs : List Int) : Int := if (xs.length : Int) > z then 5 else eachE lo hi xs
theorem Kz97 (hE : EnvOk E) (lo hi z : Int) (xs : List Int) (hm : xs.length ≤ 100000) : COut E 2 (hB lo hi) 97 [dI xs, iI z, (.e (.one (.clo 130 [] [.one (.ptr 0 0), .one (.ptr 1 0)])))] (iI (mostE lo hi z xs)) (hB lo hi) := by
 unfold mostE
 by_cases h : (xs.length : Int) > z
 ·rw [if_pos h]
  exact cOut_start Tryz.func97 rfl (pz97m hE (iD xs) xs.length lo hi z (decide_eq_true h) (fun j => outK_ret (ends_ret (by kernel_rfl))) fun _ => undef)
 ·rw [if_neg h]
  exact cOut_start Tryz.func97 rfl (pz97s hE (iD xs) xs.length (eachE lo hi xs) lo hi z (decide_eq_false h) (Kz82 hE lo hi xs hm) (fun j => outK_ret (ends_ret (by kernel_rfl))) fun _ => undef)
end
end Go.Proofs.YtaccakbjankeeaaGreatDoor
end
