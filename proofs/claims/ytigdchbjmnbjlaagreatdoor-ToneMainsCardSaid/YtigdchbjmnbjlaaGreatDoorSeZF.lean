/-
  Part of the proof.
-/
import Derived.Test.YtigdchbjmnbjlaaGreatDoorSeZE
import Derived.ChangeArms
import Derived.KernelRfl
import Derived.OpenShut
import Derived.Stop.BytesEq
import Derived.WideShapes
set_option maxHeartbeats 20000000
set_option maxRecDepth 100000
section
open Go Go.Ev
namespace Go.Proofs.YtigdchbjmnbjlaaGreatDoor
noncomputable section
def R0 : RunT := rec0
theorem R0_ok {E : Env} (_ : EnvOk E) : RecOk E R0 := rec0_ok E
def R4 : RunT := run E 4000
theorem R4_ok (hE : EnvOk E) : RecOk E R4 := run_sound hE 4000
theorem wrap_id {n : Int} (h0 : -9223372036854775808 ≤ n) (h1 : n ≤ 9223372036854775807) : wrapF .i64 n = n := by
 rw [wrapF_eq]
 exact IntWalk.i64_in n (by omega)
theorem aP {p : Prop} {l : List Prop} (h : p) (t : AllP l) : AllP (p :: l) := ⟨h, t⟩
theorem aN {l : List Prop} (t : AllP l) : AllP ((([] : List Nat) = []) :: l) := ⟨rfl, t⟩
theorem aZ : AllP [] := trivial
abbrev bK (l : List AC) (n ty : Nat) : Option AB := some ⟨l, n, ty, true, .cells⟩
theorem oS {E : Env} (hE : EnvOk E) {lvl K : Nat} (l : List SAns) (ks : List Nat) {s : St} {s' : (Nat → Value) → St} {ps : List Prop} {r : Res → Prop} {rd : Option Nat} (hp : AllP ps) (ho : ∀ j, OutK E lvl K (s' j) r rd) (h : ∀ j, segV E R0 lvl l ks j s = some (s' j, ps) := by intro j; kernel_rfl) : OutK E lvl K s r rd := outK_seg hE (R0_ok hE) l ks h hp ho
theorem gZ {E : Env} {lvl K : Nat} {r : Res → Prop} {rd : Option Nat} (e : List Nat) {h h' : Heap} {todo : List Item} {tm tm' : Tm} (ho : OutK E lvl K ⟨h', todo, tm'⟩ r rd) (hlK : lvl ≤ K := by decide) (hok : selOk e (lenL h) K (lenL h') h' = true := by kernel_rfl)
    (h2 : e.map (getL h) = h'.map (fun b => some (b.map (AB.ren (nthE e (lenL h) (lenL e))))) := by kernel_rfl) (h1 : tm'.map (AV.ren (nthE e (lenL h) (lenL e))) = tm := by kernel_rfl) : OutK E lvl K ⟨h, todo, tm⟩ r rd := outK_gc e hlK hok h2 h1 ho
abbrev tQ (C : List DT) (s : Nat) (N : List DT) (n : Nat) (g m : Int) (O : List DT) (o : Nat) : List AC := [.dp (.s C s 1), .dp (.s N n 1), .v (.int .i64 g), .v (.int .i64 m), .dp (.s O o 1)]
abbrev dQ (l : List DT) (n : Nat) : AV := .e (.one (.dp (.s l n 1)))
abbrev JN := Nat → Value
abbrev aF (l : List Nat) (f : Func) := atC l (bodyOf f)
abbrev oI (z : Int) : AE := .one (.v (.int .i64 z))
abbrev tA (C : List DT) (s : Nat) (N : List DT) (n : Nat) (g m : Int) (O : List DT) (o : Nat) : AV := .e (.agg (tQ C s N n g m O o))
abbrev iN (n : Nat) : AV := .e (.one (.v (.int .i64 (Int.ofNat n))))
theorem oB {p : Prop} (h : p := by first | rfl | trivial | omega | simp | (simp <;> omega)) : p := h
theorem dT {p : Prop} [Decidable p] (h : p := by (try simp only [Int.ofNat_eq_natCast]); omega) : decide p = true := decide_eq_true h
theorem dF {p : Prop} [Decidable p] (h : ¬p := by (try simp only [Int.ofNat_eq_natCast]); omega) : decide p = false := decide_eq_false h
theorem aV {ps : List Prop} (h : AllP ps) : AllP (((true : Bool) = true) :: ps) := aP rfl h
theorem aQ {p q r s : Prop} {ps : List Prop} (a : p) (b : q) (c : r) (d : s) (h : AllP ps) : AllP (p :: q :: r :: s :: ps) := aP a <| aP b <| aP c <| aP d h
theorem bP {p q : Prop} (h : p := by (try simp only [Int.ofNat_eq_natCast]); omega) (k : q := by (try simp only [Int.ofNat_eq_natCast]); omega) : p ∧ q := ⟨h, k⟩
abbrev mQ (c : Int) (G : List DT) (g : Nat) (C : List DT) (n : Nat) (L : List DT) (l : Nat) : List AC := [.v (.int .i64 c), .dp (.s G g 2), .dp (.s C n 4), .dp (.s L l 3)]
abbrev zzQ : List AC := [.v (.int .i64 0), .v (.slice none 0 0), .v (.slice none 0 0), .v (.slice none 0 0)]
abbrev uD : JN := fun _ => undef
theorem sQ {p : Prop} (h : p := by simp only [small, Bool.and_eq_true, decide_eq_true_eq]; omega) : p := h
theorem wQ {a b : Int} (h : a = b := by (try simp only [Int.ofNat_eq_natCast]); rw [wrap_id (by omega) (by omega)]; try omega) : (iI a : AV) = iI b := by rw [h]

abbrev Sg (l K : Nat) (a b : (Nat → Value) → St) : Prop := ∀ {Φ : Res → Prop}, (∀ j, OutK E l K (b j) Φ) → ∀ j, OutK E l K (a j) Φ
end
end Go.Proofs.YtigdchbjmnbjlaaGreatDoor
end
section
open Go Go.Ev
namespace Go.Proofs.YtigdchbjmnbjlaaGreatDoor
noncomputable section
theorem iIe {a b : Int} (h : a = b) : (iI a : AV) = iI b := by rw [h]
theorem iIn (i : Nat) (h : i ≤ 4000000) : (iI (wrapF IntKind.i64 (Int.ofNat i + (1 : Int))) : AV) = iI (Int.ofNat (i + 1)) :=
 iIe (by rw [wrap_id (by simp only [Int.ofNat_eq_natCast]; omega) (by simp only [Int.ofNat_eq_natCast]; omega)]; simp)
end
end Go.Proofs.YtigdchbjmnbjlaaGreatDoor
end
section
namespace Go.Ev
open Go.RowKit
noncomputable section
section
variable {E : Env} {lvl : Nat}
def FrzC (i : Nat) (ds : List DT) (x x' : AC) : Prop := x' = x ∨ ∃ o len sz cap ex r, x = .slc i o len sz cap ex ∧ x' = .dp (.s r len sz) ∧ takeL (dropL ds o) (len * sz) = some r
def FrzE (i : Nat) (ds : List DT) : AE → AE → Prop
 | .one x, .one x' => FrzC i ds x x'
 | .agg l, .agg l' => All2 (FrzC i ds) l l'
 | _, _ => False
def FrzV (i : Nat) (ds : List DT) : AV → AV → Prop
 | .e x, .e x' => FrzE i ds x x'
 | .tup l, .tup l' => All2 (FrzE i ds) l l'
 | _, _ => False
theorem DT.Rl.of_all2 {m : M} : ∀ {ds : List DT} {ys : List Value}, All2 (CR m) (ds.map DT.ac) ys → DT.Rl m.F ds ys
 | [], _, _ => by simp [DT.Rl]
 | d :: ds, [], h => h.elim
 | d :: ds, y :: ys, h => by
  simp only [DT.Rl]
  refine ⟨y, ys, rfl, ?_, DT.Rl.of_all2 h.2⟩
  have h1 : CR m d.ac y := h.1
  cases d with
  | v x => simpa [DT.R, DT.ac, CR] using h1
  | s c n sz => exact h1
theorem DT.Rl.more {F : List (Nat × List Value)} : ∀ {l : List DT} {ys zs : List Value}, DT.Rl F l ys → DT.Rl F l (ys ++ zs)
 | [], _, _, _ => by simp [DT.Rl]
 | d :: l, ys, zs, r => by
  simp only [DT.Rl] at r ⊢
  obtain ⟨y, r', rfl, h1, h2⟩ := r
  exact ⟨y, r' ++ zs, rfl, h1, DT.Rl.more h2⟩
theorem CR.rest {m m2 : M} {w : World} {i : Nat} {ds : List DT} {N el : Nat} {fl : Bool} (B : BR m w i ⟨ds.map DT.ac, N, el, fl, .cells⟩) {c : Array Value} {fz : Nat × Nat} (hc : w.heap[m.ρ i]? = some (.cells c el fz)) (hF : ∀ p ∈ m.F, p ∈ m2.F) (hp : (m.ρ i, c.toList) ∈ m2.F)
  {o len sz cap : Nat} {ex : Bool} {r : List DT} (hr : takeL (dropL ds o) (len * sz) = some r) {y : Value} (hy : CR m (.slc i o len sz cap ex) y) : DV.R m2.F (.s r len sz) y := by
 obtain ⟨hb, cc, o', rfl, g0, g1, g1', g2, g3, g4⟩ := hy
 obtain ⟨b1, b2, c', fz', b3, b4, b5, b6, b7⟩ := B
 have b3 : w.heap[m.ρ i]? = some (.cells c' el fz') := b3
 rw [hc] at b3
 simp only [Option.some.injEq, Obj.cells.injEq] at b3
 obtain ⟨rfl, _, _⟩ := b3
 show DT.R m2.F (.s r len sz) _
 simp only [DT.R]
 rcases Nat.eq_zero_or_pos len with rfl | h0
 ·exact .inl ⟨rfl, _, _, rfl⟩
 ·obtain rfl : o' = o := by rcases g0 with g0 | g0 <;> omega
  obtain ⟨t1, rfl⟩ := takeL_some hr
  rw [dropL_eq] at t1
  have hsz : c.toList.length = m.κ i := by simpa using b4
  refine .inr ⟨h0, m.ρ i, o', cc, c.toList, rfl, by omega, g2, hp, by omega, by rw [dropL_eq, List.length_take]; omega, ?_⟩
  have hR := ((DT.Rl.of_all2 (m := m) b7).mono hF).more (zs := c.toList.drop N)
  rw [List.take_append_drop] at hR
  rw [dropL_eq]
  exact (hR.drop o').pre (len * sz)
theorem FrzC.sound {m m2 : M} {w : World} {i : Nat} {ds : List DT} {N el : Nat} {fl : Bool} (B : BR m w i ⟨ds.map DT.ac, N, el, fl, .cells⟩) {c : Array Value} {fz : Nat × Nat} (hc : w.heap[m.ρ i]? = some (.cells c el fz)) {bs : Nat} (hle : M.leG bs m m2) (hp : (m.ρ i, c.toList) ∈ m2.F)
  {x x' : AC} {y : Value} (h : FrzC i ds x x') (hy : CR m x y) : CR m2 x' y := by
 rcases h with rfl | ⟨o, len, sz, cap, ex, r, rfl, rfl, hr⟩
 ·exact CR.monoG hle hy
 ·exact CR.rest B hc hle.F hp hr hy
theorem all2_map {α β γ : Type} {R : α → β → Prop} {T : α → γ → Prop} {S : γ → β → Prop} (hi : ∀ a b c, T a c → R a b → S c b) : ∀ {l : List α} {l' : List γ} {ys : List β}, All2 T l l' → All2 R l ys → All2 S l' ys
 | [], [], [], _, _ => trivial
 | _ :: _, _ :: _, _ :: _, h1, h2 => ⟨hi _ _ _ h1.1 h2.1, all2_map hi h1.2 h2.2⟩
 | [], [], _ :: _, _, h => h.elim
 | [], _ :: _, _, h, _ => h.elim
 | _ :: _, [], _, h, _ => h.elim
 | _ :: _, _ :: _, [], _, h => h.elim
theorem FrzE.sound {m m2 : M} {w : World} {i : Nat} {ds : List DT} {N el : Nat} {fl : Bool} (B : BR m w i ⟨ds.map DT.ac, N, el, fl, .cells⟩) {c : Array Value} {fz : Nat × Nat} (hc : w.heap[m.ρ i]? = some (.cells c el fz)) {bs : Nat} (hle : M.leG bs m m2) (hp : (m.ρ i, c.toList) ∈ m2.F) :
  ∀ {x x' : AE} {y : Value}, FrzE i ds x x' → ER m x y → ER m2 x' y
 | .one _, .one _, _, h, hy => FrzC.sound B hc hle hp h hy
 | .agg _, .agg _, _, h, hy => by
  obtain ⟨cs, h1, h2⟩ := hy
  exact ⟨cs, h1, all2_map (R := CR m) (T := FrzC i ds) (S := CR m2) (fun a b c' h0 h3 => FrzC.sound B hc hle hp h0 h3) (show All2 (FrzC i ds) _ _ from h) h2⟩
 | .one _, .agg _, _, h, _ => h.elim
 | .agg _, .one _, _, h, _ => h.elim
theorem FrzV.sound {m m2 : M} {w : World} {i : Nat} {ds : List DT} {N el : Nat} {fl : Bool} (B : BR m w i ⟨ds.map DT.ac, N, el, fl, .cells⟩) {c : Array Value} {fz : Nat × Nat} (hc : w.heap[m.ρ i]? = some (.cells c el fz)) {bs : Nat} (hle : M.leG bs m m2) (hp : (m.ρ i, c.toList) ∈ m2.F) :
  ∀ {x x' : AV} {y : Value}, FrzV i ds x x' → VR m x y → VR m2 x' y
 | .e _, .e _, _, h, hy => FrzE.sound B hc hle hp h hy
 | .tup _, .tup _, _, h, hy => by
  obtain ⟨cs, h1, h2⟩ := hy
  exact ⟨cs, h1, all2_map (R := ER m) (T := FrzE i ds) (S := ER m2) (fun a b c' h0 h3 => FrzE.sound B hc hle hp h0 h3) (show All2 (FrzE i ds) _ _ from h) h2⟩
 | .e _, .tup _, _, h, _ => h.elim
 | .tup _, .e _, _, h, _ => h.elim
theorem HR.freeze {m : M} {base : Nat} {h : Heap} {w : World} (H : HR m base lvl h w) {i : Nat} {ds : List DT} {N el : Nat} {fl : Bool} (hi : h[i]? = some (some ⟨ds.map DT.ac, N, el, fl, .cells⟩)) (hl : lvl ≤ i) :
  ∃ m2, HR m2 base lvl (h.set i none) w ∧ M.leG base m m2 ∧ m2.n = m.n ∧ m2.ρ = m.ρ ∧ m2.κ = m.κ ∧ (∀ x x' y, FrzV i ds x x' → VR m x y → VR m2 x' y) ∧ (∀ x x' y, FrzC i ds x x' → CR m x y → CR m2 x' y) := by
 have B := H.blk i _ hi rfl
 obtain ⟨b1, b2, c, fz, b3, b4, b5, b6, b7⟩ := id B
 have hil := (List.getElem?_eq_some_iff.1 hi).1
 let m2 : M := { n := m.n, ρ := m.ρ, κ := m.κ, lo := m.lo, F := (m.ρ i, c.toList) :: m.F }
 have hle : M.leG base m m2 := ⟨Nat.le_refl _, fun _ _ => rfl, fun _ _ => rfl, rfl, fun p hp => List.mem_cons_of_mem _ hp, fun p hp => by
  rcases List.mem_cons.1 hp with rfl | hp
  ·exact .inr (H.own i hl hil)
  ·exact .inl hp⟩
 have hK := H.kill i
 refine ⟨m2, ⟨hK.n, hK.lvlLe, hK.baseLe, fun b a hb => (hK.ent b a hb).monoG hle (by rw [hK.n]; exact (List.getElem?_eq_some_iff.1 hb).1), hK.own, hK.inj, hK.lo, fun p hp => ?_⟩, hle, rfl, rfl, rfl,
  fun x x' y hx hy => FrzV.sound B b3 hle (List.mem_cons_self ..) hx hy, fun x x' y hx hy => FrzC.sound B b3 hle (List.mem_cons_self ..) hx hy⟩
 rcases List.mem_cons.1 hp with rfl | hp
 ·refine ⟨⟨c, el, fz, b3, rfl⟩, fun b a hb ha he => ?_⟩
  have ha' := alive_set ha
  exact ha'.2 (H.inj b i (List.getElem?_eq_some_iff.1 ha'.1).1 hil ⟨a, ha'.1⟩ ⟨_, hi⟩ (.inr (Nat.le_trans H.lo hl)) he)
 ·exact hK.tab p hp
theorem cOut_freeze {f : FuncId} {hin : Heap} {args : List AV} {v v' : AV} {hout : Heap} (i : Nat) {ds : List DT} {N el : Nat} {fl : Bool} (hc : COut E lvl hin f args v hout) (hi : getL hout i = some (some ⟨ds.map DT.ac, N, el, fl, .cells⟩)) (hl : lvl ≤ i) (hv : FrzV i ds v v') :
  COut E lvl hin f args v' (setL hout i none) := by
 rw [getL_eq] at hi
 rw [setL_eq]
 intro m base w argsC ha H G
 refine (hc m base w argsC ha H G).mono fun e w' ⟨y, hy, m1, hp⟩ => ⟨y, hy, ?_⟩
 obtain ⟨m2, H2, hle, hn, hρ, hκ, hV, _⟩ := hp.heap.freeze hi hl
 exact ⟨m2, hp.le.trans hle, hV _ _ _ hv hp.val, H2, hp.below⟩
def LendC (h : Heap) (x x' : AC) : Prop := (x' = x ∧ x.refs = []) ∨ ∃ i o len sz cap ex r ds N el fl, x = .slc i o len sz cap ex ∧ x' = .dp (.s r len sz) ∧ getL h i = some (some ⟨ds.map DT.ac, N, el, fl, .cells⟩) ∧ takeL (dropL ds o) (len * sz) = some r
def LendE (h : Heap) : AE → AE → Prop
 | .one x, .one x' => LendC h x x'
 | .agg l, .agg l' => All2 (LendC h) l l'
 | _, _ => False
def LendV (h : Heap) : AV → AV → Prop
 | .e x, .e x' => LendE h x x'
 | _, _ => False
theorem lendTabs {m : M} {base : Nat} {w : World} : ∀ (h : Heap), (∀ b a, h[b]? = some (some a) → EntR m w b a) → ∀ k, k ≤ h.length → ∃ F : List (Nat × List Value), (∀ p ∈ F, ∃ (c : Array Value) (t : TypeId) (fz : Nat × Nat), w.heap[p.1]? = some (.cells c t fz) ∧ c.toList = p.2) ∧
  ∀ i a, i < k → h[i]? = some (some a) → a.ext = .cells → ∃ (c : Array Value) (fz : Nat × Nat), w.heap[m.ρ i]? = some (.cells c a.elem fz) ∧ (m.ρ i, c.toList) ∈ F
 | h, hent, 0, _ => ⟨[], by simp, fun i a hi => by omega⟩
 | h, hent, k + 1, hk => by
  obtain ⟨F, h1, h2⟩ := lendTabs (base := base) h hent k (by omega)
  by_cases hx : ∃ a, h[k]? = some (some a) ∧ a.ext = .cells
  ·obtain ⟨a, ha, hc⟩ := hx
   obtain ⟨b1, b2, c, fz, b3, _⟩ := (hent k a ha).1 hc
   refine ⟨(m.ρ k, c.toList) :: F, fun p hp => ?_, fun i a' hi ha' hc' => ?_⟩
   ·rcases List.mem_cons.1 hp with rfl | hp
    ·exact ⟨c, a.elem, fz, b3, rfl⟩
    ·exact h1 p hp
   ·by_cases hik : i = k
    ·subst hik
     rw [ha] at ha'
     simp only [Option.some.injEq] at ha'
     subst ha'
     exact ⟨c, fz, b3, List.mem_cons_self ..⟩
    ·obtain ⟨c', fz', g1, g2⟩ := h2 i a' (by omega) ha' hc'
     exact ⟨c', fz', g1, List.mem_cons_of_mem _ g2⟩
  ·refine ⟨F, h1, fun i a' hi ha' hc' => ?_⟩
   by_cases hik : i = k
   ·subst hik; exact absurd ⟨a', ha', hc'⟩ hx
   ·exact h2 i a' (by omega) ha' hc'
theorem cOut_lend {f : FuncId} {args args' : List AV} {v : AV} (h : Heap) (hc : COut E 0 [] f args' v []) (ha : All2 (LendV h) args args') (hv : v.refs = []) (hf : v.flat = true) : COut E lvl h f args v h := by
 intro m base w argsC hA H G
 obtain ⟨F, h1, h2⟩ := lendTabs (base := base) h H.ent h.length (Nat.le_refl _)
 let mc : M := { n := 0, ρ := m.ρ, κ := m.κ, lo := 0, F := F ++ m.F }
 have Hc : HR mc w.heap.size 0 [] w := ⟨rfl, Nat.le_refl _, Nat.le_refl _, fun b a hb => by simp at hb, fun b _ hb => by simp at hb, fun b b' hb => by simp at hb, Nat.le_refl _, fun p hp => ⟨by
  rcases List.mem_append.1 hp with hp | hp
  ·exact h1 p hp
  ·exact (H.tab p hp).1, fun b a _ hb => by simp at hb⟩⟩
 let mg : M := { n := m.n, ρ := m.ρ, κ := m.κ, lo := m.lo, F := F ++ m.F }
 have lc : ∀ x x' y, LendC h x x' → CR m x y → CR mc x' y := by
  intro x x' y hx hy
  rcases hx with ⟨rfl, hr⟩ | ⟨i, o, len, sz, cap, ex, r, ds, N, el, fl, rfl, rfl, hi, hr⟩
  ·exact CR.free (m1 := m) (m2 := mc) (fun p hp => List.mem_append_right _ hp) hr hy
  ·rw [getL_eq] at hi
   obtain ⟨c, fz, g1, g2⟩ := h2 i _ (List.getElem?_eq_some_iff.1 hi).1 hi rfl
   exact CR.rest (m2 := mc) (H.blk i _ hi rfl) g1 (fun p hp => List.mem_append_right _ hp) (List.mem_append_left _ g2) hr hy
 have lv : ∀ x y x', LendV h x x' → VR m x y → VR mc x' y := by
  intro x y x' hx hy
  match x, x', hx with
  | .e (.one x), .e (.one x'), hx => exact lc x x' y hx hy
  | .e (.agg l), .e (.agg l'), hx =>
   obtain ⟨cs, k1, k2⟩ := hy
   exact ⟨cs, k1, all2_map (R := CR m) (T := LendC h) (S := CR mc) (fun a b c' h0 h3 => lc a c' b h0 h3) (show All2 (LendC h) _ _ from hx) k2⟩
 have hA' : All2 (VR mc) args' argsC.toList := all2_map (R := VR m) (T := LendV h) (S := VR mc) (fun a b c' h0 h3 => lv a b c' h0 h3) ha hA
 refine (hc mc w.heap.size w argsC hA' Hc (G.up H.baseLe)).mono fun e w' ⟨y, hy, m1, hp⟩ => ⟨y, hy, m, M.leG.refl _ m, ?_, H.world hp.below.size hp.below.block, hp.below.mono H.baseLe⟩
 have hd := VR.downG hp.le (.inl hf) (fun b hb => by rw [hv] at hb; simp at hb) hp.val
 -- nothing in it leads anywhere
 have flatC : ∀ (x : AC) (y : Value), x.flat = true → x.refs = [] → CR mc x y → CR m x y := fun x y hf hr h => by
  cases x with
  | v _ => exact h
  | any _ => exact h
  | dp _ => simp [AC.flat] at hf
  | ptr => simp [AC.refs] at hr
  | slc => simp [AC.refs] at hr
  | yld => simp [AC.refs] at hr
  | mp => simp [AC.refs] at hr
  | clo g fs cs =>
   simp only [AC.refs, List.append_eq_nil_iff] at hr
   simp only [AC.flat, Bool.and_eq_true] at hf
   obtain ⟨vf, vc, hy, h1, h2⟩ := h
   have key : ∀ {l : List CE}, l.flatMap CE.refs = [] → (l.all fun e => e.atoms.all CA.flat) = true → ∀ e ∈ l, ∀ c ∈ e.atoms, ∀ y, CR mc c.ac y → CR m c.ac y := fun {l} hl hfl e he c hc y hr' => by
    have h0 : c.refs = [] := List.flatMap_eq_nil_iff.1 (List.flatMap_eq_nil_iff.1 hl e he) c hc
    have h3 := List.all_eq_true.1 (List.all_eq_true.1 hfl e he) c hc
    cases c with
    | v _ => exact hr'
    | dp _ => simp [CA.flat] at h3
    | _ => simp [CA.refs] at h0
   exact ⟨vf, vc, hy, CEs.to (key hr.1 hf.1) h1, CEs.to (key hr.2 hf.2) h2⟩
 have flatE : ∀ (x : AE) (y : Value), x.flat = true → x.refs = [] → ER mc x y → ER m x y := fun x y hf hr h => by
  cases x with
  | one x => exact flatC x y hf hr h
  | agg l =>
   obtain ⟨cs, k1, k2⟩ := h
   simp only [AE.refs, List.flatMap_eq_nil_iff] at hr
   exact ⟨cs, k1, all2_free (fun a ha b hb => flatC a b (List.all_eq_true.1 hf a ha) (hr a ha) hb) k2⟩
 cases v with
 | e x => exact flatE x y hf hv hd
 | tup l =>
  obtain ⟨cs, k1, k2⟩ := hd
  simp only [AV.refs, List.flatMap_eq_nil_iff] at hv
  exact ⟨cs, k1, all2_free (fun a ha b hb => flatE a b (List.all_eq_true.1 hf a ha) (hv a ha) hb) k2⟩
end
end
end Go.Ev
end
section
namespace Go.Ev
open Go.RowKit
noncomputable section
variable {E : Env} {rec : RunT} {lvl K : Nat} {r : Res → Prop} {rd : Option Nat}
def RoundEnds (b : Nat) (v : AV) (h' : Heap) (r : Res) : Prop :=
 r.marks = [] ∧ ∃ a' st' pd' tm' ps' as' bo', getL r.heap b = some (some a') ∧ a'.ext = .loop st' pd' tm' ps' as' bo' ∧ v = .e (.one (.v (.bool (pendOf r.jump).isNone))) ∧
  h' = setL r.heap b (some { a' with ext := .loop (if (pendOf r.jump).isNone then .ready else .done) (pendOf r.jump) tm' ps' as' bo' })
theorem leG_of_leK {base : Nat} {m m' : M} (hK : K = m.n) (h : M.leK base K m m') : M.leG base m m' := by
 subst hK
 exact ⟨h.n, fun b hb => h.ρ b hb, fun b hb => h.κ b hb, h.lo, h.F, h.fresh⟩
theorem roundK_of {h h' : Heap} {b : Nat} {args : List AV} {v : AV} {a : AB} {st : LoopState} {pend : Option Code} {tm0 : Tm} {ps : Array Tmp} {asg body : Code} (hab : getL h b = some (some a)) (hx : a.ext = .loop st pend tm0 ps asg body) (hc : (Nat.beq (lenL args) (lenL ps.toList) && Nat.ble lvl b) = true)
  (ho : OutK E lvl (lenL h) ⟨h, [.code asg, .beginRound, .code body], setParams ps.toList args tm0⟩ (RoundEnds b v h') (some b)) : RoundK E lvl h b args v h' := by
 intro m base w argsC ha H G
 rw [getL_eq] at hab
 have hbl := (List.getElem?_eq_some_iff.1 hab).1
 have hmn := H.n
 have hbn : b < m.n := by rw [hmn]; exact hbl
 have hent := (H.ent b a hab).2
 rw [hx] at hent
 obtain ⟨fn, t0, D, hw, hT0⟩ := hent
 simp only [Bool.and_eq_true, Nat.ble_eq, lenL_eq] at hc
 obtain ⟨hlen, hlb⟩ := hc
 have hsz : argsC.size = ps.size := by have := ha.length; simp at this hlen; omega
 have hy := run_yield (P := E.P) (args := argsC) hw (by simpa using hsz)
 refine ⟨_, _, _, _, hy, fun cl cs => ?_⟩
 have hT1 := params_sound ps.toList (argsC := argsC.toList) (by simpa using hlen) ha (show TR m tm0 t0 from hT0)
 have hz : (ps.zip argsC).foldl (fun tmps (x : Tmp × Value) => tmps.setIfInBounds x.1 x.2) t0 = (ps.toList.zip argsC.toList).foldl (fun t p => t.setIfInBounds p.1 p.2) t0 := by
  rw [← Array.foldl_toList, Array.toList_zip]
 generalize htm : (ps.toList.zip argsC.toList).foldl (fun t p => t.setIfInBounds p.1 p.2) t0 = tms at hT1 hz
 have hfr : Frame.round (m.ρ b) fn tms asg body .normal = FR (Frame.round (m.ρ b) fn tms asg body .normal) tms [.code asg, .beginRound, .code body] := rfl
 obtain ⟨r, ⟨hmk, a', st', pd', tm', ps', as', bo', hab', hx', hv, hh⟩, t', todo', w1, m1, hst, hT', H1, hle, hB, hend, _⟩ := ho (Frame.round (m.ρ b) fn tms asg body .normal) tms (cl :: cs) w m base ⟨by rw [lenL_eq]; exact hbl, rfl, rfl⟩ hT1 H G (by rw [lenL_eq, hmn]; exact Nat.le_refl _)
 have hleG : M.leG base m m1 := leG_of_leK (by rw [lenL_eq, hmn]) hle
 rw [getL_eq] at hab'
 have hent' := (H1.ent b a' hab').2
 rw [hx'] at hent'
 obtain ⟨fn', t2, D', hw', hT2⟩ := hent'
 rw [hleG.ρ b hbn] at hw'
 have hE := run_endRound (P := E.P) (pendOf r.jump) hw'
 have hlt := (Array.getElem?_eq_some_iff.1 hw').1
 have hlast : step E.P (lone (FR { Frame.round (m.ρ b) fn tms asg body .normal with defers := marksC m1 r.marks ++ [] } t' todo') (cl :: cs) w1) = .next (lone (cl.finish (.bool (pendOf r.jump).isNone)) cs (w1.putObj (m.ρ b) (.loop { state := if (pendOf r.jump).isNone then .ready else .done, pending := pendOf r.jump, fn := fn', tmps := t2, params := ps', assign := as', body := bo', defers := D' }))) := by
  rw [hmk]
  cases hj : r.jump with
  | fell =>
   rw [hj] at hend hE
   have : todo' = [] := hend
   subst this
   exact stepF_round_end rfl rfl hE
  | ret =>
   rw [hj] at hend hE
   obtain ⟨k, rfl⟩ := hend
   exact stepF_round_ret rfl rfl hE
  | exit id =>
   rw [hj] at hend hE
   obtain ⟨k, rfl, hk⟩ := hend
   exact stepF_round_exit rfl rfl hk hE
 refine ⟨.bool (pendOf r.jump).isNone, w1.putObj (m.ρ b) (.loop { state := if (pendOf r.jump).isNone then .ready else .done, pending := pendOf r.jump, fn := fn', tmps := t2, params := ps', assign := as', body := bo', defers := D' }), ?_, m1, hleG, ?_, ?_, hB.trans (below_putObj (H.own b hlb hbl) _)⟩
 ·simp only [hz]
  rw [hfr]
  exact Steps.trans hst (.one hlast)
 ·rw [hv]; exact (rfl : Value.bool (pendOf r.jump).isNone = .bool (pendOf r.jump).isNone)
 ·rw [hh, setL_eq]
  refine H1.putEnt hab' hlb (by simp) (fun k hk => World.putObj_heap_other (by rw [hleG.ρ b hbn] at hk; exact hk)) ⟨fun hx => by simp at hx, fn', t2, D', ?_, hT2⟩
  rw [hleG.ρ b hbn]
  exact World.putObj_heap_same hlt
theorem outK_begin {h : Heap} {b : Nat} {k : List Item} {tm : Tm} {a : AB} {pd : Option Code} {tm' : Tm} {ps : Array Tmp} {asg bo : Code} (hab : getL h b = some (some a)) (hx : a.ext = .loop .ready pd tm' ps asg bo) (hlb : Nat.ble lvl b = true)
  (ho : OutK E lvl K ⟨setL h b (some { a with ext := .loop .busy pd tm' ps asg bo }), k, tm⟩ r (some b)) : OutK E lvl K ⟨h, .beginRound :: k, tm⟩ r (some b) := by
 intro fr t cs w m base hR hT H G hK
 rw [getL_eq] at hab
 rw [Nat.ble_eq] at hlb
 have hR' := hR
 obtain ⟨hbK, hro, hkd⟩ := hR
 have hent := (H.ent b a hab).2
 rw [hx] at hent
 obtain ⟨fn', t2, D', hw', hT2⟩ := hent
 have hlt := (Array.getElem?_eq_some_iff.1 hw').1
 have hbr := run_beginRound (P := E.P) hw' rfl
 have H1 : HR m base lvl (h.set b (some { a with ext := .loop .busy pd tm' ps asg bo })) (w.putObj (m.ρ b) (.loop { state := .busy, pending := pd, fn := fn', tmps := t2, params := ps, assign := asg, body := bo, defers := D' })) :=
  H.putEnt hab hlb (by simp) (fun k hk => World.putObj_heap_other hk) ⟨fun hx => by simp at hx, fn', t2, D', World.putObj_heap_same hlt, hT2⟩
 have hB1 := below_putObj (w := w) (H.own b hlb (List.getElem?_eq_some_iff.1 hab).1) (.loop { state := .busy, pending := pd, fn := fn', tmps := t2, params := ps, assign := asg, body := bo, defers := D' })
 rw [setL_eq] at ho
 obtain ⟨q, hq, t', todo'', w', m', g1, g2, g3, g4, g5, g6⟩ := ho fr t cs _ m base hR' hT H1 (G.below hB1) hK
 exact ⟨q, hq, t', todo'', w', m', .head (stepF_beginRound hro hbr) g1, g2, g3, g4, hB1.trans g5, g6⟩
theorem outK_loop (hE : EnvOk E) {h h2 : Heap} {k : List Item} {tm : Tm} {f : Operand} {ps : Array Tmp} {asg body : Code} {g : FuncId} {avs : List AV} {v : AV} {a : AB} {st : LoopState} {pd : Option Code} {tm' : Tm} {ps' : Array Tmp} {asg' bo' : Code} {fn : Func}
  (hcal : calleeFn tm f = some (g, avs)) (hfn : E.P.funcs[g]? = some fn) (hbd : fn.body.isSome = true) (hKl : Nat.ble K (lenL h) = true)
  (hc : COut E lvl (appL (appL h [some markEnt]) [some (loopEnt .ready none tm ps asg body)]) g (.e (.one (.yld (lenL h + 1))) :: avs) v h2)
  (hab : getL h2 (lenL h + 1) = some (some a)) (hx : a.ext = .loop st pd tm' ps' asg' bo') (hst : st ≠ .busy)
  (ho : OutK E lvl (lenL h + 1) ⟨setL h2 (lenL h + 1) (some { a with ext := .loop .exhausted pd tm' ps' asg' bo' }), (pd.map Item.code).toList ++ k, tm⟩ (fun q => r { q with marks := appL q.marks [lenL h] })) :
  OutK E lvl K ⟨h, .code (.rangeFunc f ps asg body) :: k, tm⟩ r := by
 intro fr t cs w m base hR hT H G hK
 have hR : fr.roundOf = none := hR
 have H : HR m base lvl h w := H
 have hT : TR m tm t := hT
 rw [Nat.ble_eq, lenL_eq] at hKl
 simp only [lenL_eq, appL_eq] at hc hab ho
 rw [getL_eq] at hab
 rw [setL_eq] at ho
 have hmn := H.n
 obtain ⟨csC, hev, hcs⟩ := calleeFn_sound hT hcal
 obtain ⟨w2, m2, hen, H2, hle2, hn2, hρ2, hρ1, hB2⟩ := enter_sound (P := E.P) hT H fr.fn ps asg body
 have hargs : All2 (VR m2) (.e (.one (.yld (h.length + 1))) :: avs) (#[Value.func (.yield (w.heap.size + 1)) #[] #[]] ++ csC).toList := by
  rw [Array.toList_append]
  refine ⟨⟨by omega, by rw [hρ2]⟩, ?_⟩
  exact hcs.imp fun _ _ => VR.mono hle2
 have hcall := hc m2 base w2 _ hargs H2 (G.below hB2)
 obtain ⟨e, w', fr', ⟨y, rfl, m', hp⟩, hsteps, _, hleave⟩ := hcall (FR { fr with defers := [{ target := .collected w.heap.size, args := #[] }] ++ fr.defers } t (.inRangeFunc (w.heap.size + 1) :: k) :: cs)
 have hent := (hp.heap.ent _ a hab).2
 rw [hx] at hent
 obtain ⟨fn', t2, D', hw', hT2⟩ := hent
 have hb2 : h.length + 1 < m2.n := by omega
 rw [hp.le.ρ _ hb2, hρ2] at hw'
 have hEnd := run_endLoop (P := E.P) hw' hst
 have hlt := (Array.getElem?_eq_some_iff.1 hw').1
 have hlvl := H.lvlLe
 have hbl := (List.getElem?_eq_some_iff.1 hab).1
 have hown := hp.heap.own (h.length + 1) (by omega) hbl
 rw [hp.le.ρ _ hb2, hρ2] at hown
 have e1 : marksC m' [h.length] = [{ target := .collected w.heap.size, args := #[] }] := by
  simp only [marksC, List.map_cons, List.map_nil]
  rw [hp.le.ρ _ (by omega), hρ1]
 have hnb : ¬ fn.body = none := fun e => by simp [e] at hbd
 have hnum : ¬ fn.name = "runtime.NumGoroutine" := by simpa using hE.num g fn hfn
 have hst1 := stepF_rangeFunc (P := E.P) (fr := fr) (t := t) (cs := cs) (w := w) (k := k) (f := f) (ps := ps) (asg := asg) (body := body) (g := g) (args := #[Value.func (.yield (w.heap.size + 1)) #[] #[]] ++ csC) (d := { target := .fn (.func g) csC, args := #[Value.func (.yield (w.heap.size + 1)) #[] #[]] })
  (by rw [hR]; exact hen) (by
   have hcv : ∀ v : Value, evC t (.const v) = v := fun _ => rfl
   simp [resolve, hev, Deferred.ofValue, hcv]) (by simp [invoke, callFunc, hfn, hnb, hnum])
 have hsteps1 := Steps.head hst1 (Steps.trans hsteps (.head (step_leave_returned hleave) (.one (stepF_endLoop hEnd))))
 have H3 : HR m' base lvl (h2.set (h.length + 1) (some { a with ext := .loop .exhausted pd tm' ps' asg' bo' })) (w'.putObj (w.heap.size + 1) (.loop { state := .exhausted, pending := pd, fn := fn', tmps := t2, params := ps', assign := asg', body := bo', defers := D' })) := by
  refine hp.heap.putEnt hab (by omega) (by simp) (fun k hk => World.putObj_heap_other (by rw [hp.le.ρ _ hb2, hρ2] at hk; exact hk)) ⟨fun hx => by simp at hx, fn', t2, D', ?_, hT2⟩
  rw [hp.le.ρ _ hb2, hρ2]
  exact World.putObj_heap_same hlt
 have hleA : M.leG base m m' := (hle2.g base).trans hp.le
 have hBA : Below base w _ := (hB2.trans hp.below).trans (below_putObj hown (.loop { state := .exhausted, pending := pd, fn := fn', tmps := t2, params := ps', assign := asg', body := bo', defers := D' }))
 have hn1 : h.length + 1 ≤ m'.n := by have := hp.le.n; omega
 obtain ⟨q, hq, t', todo'', w3, m3, g1, g2, g3, g4, g5, g6, g7⟩ := ho { fr with defers := [{ target := .collected w.heap.size, args := #[] }] ++ fr.defers } t cs _ m' base (show fr.roundOf = none from hR) (hT.monoG hleA) H3 (G.below hBA) hn1
 refine ⟨_, hq, t', todo'', w3, m3, Steps.trans hsteps1 ?_, g2, g3, (M.leK.of_le hK hleA).trans ⟨by have := g4.n; omega, fun b hb => g4.ρ b (by omega), fun b hb => g4.κ b (by omega), g4.lo, g4.F, g4.fresh⟩, hBA.trans g5, g6, ?_⟩
 ·have e : marksC m3 (q.marks ++ [h.length]) ++ fr.defers = marksC m3 q.marks ++ ([{ target := .collected w.heap.size, args := #[] }] ++ fr.defers) := by
   rw [← e1]
   simp only [marksC, List.map_append, List.map_cons, List.map_nil, List.append_assoc]
   rw [g4.ρ _ (by omega)]
  simp only [e]
  exact g1
 ·intro b hb
  simp only [List.mem_append, List.mem_singleton] at hb
  rcases hb with hb | rfl
  ·exact g7 b hb
  ·have := g4.n; omega
def EndsM (E : Env) (lvl : Nat) (fn : Func) (v : AV) (hout : Heap) (q : Res) : Prop := fellOrRet q.jump = true ∧ dropMarks lvl q.heap q.marks = some hout ∧ resultsA E fn q.tm hout = some v
theorem cOut_startM {f : FuncId} {fn : Func} (hf : E.P.funcs[f]? = some fn) (hb : fn.body.isSome = true) {hin hout : Heap} {args : List AV} {v : AV} (ho : OutK E lvl (lenL hin) (startK fn hin args) (EndsM E lvl fn v hout)) : COut E lvl hin f args v hout := by
 cases hc : fn.body with
 | none => rw [hc] at hb; simp at hb
 | some c =>
 have e : bodyOf fn = c := by simp [bodyOf, hc]
 unfold startK at ho
 rw [e, lenL_eq] at ho
 intro m base w argsC ha H G cs
 let fr0 : Frame := Frame.enter E.P f argsC .normal
 have hT : TR m (appL args (List.replicate (fn.ntmps - lenL args) (.tup []))) (argsC ++ Array.replicate (fn.ntmps - argsC.size) undef) := by
  unfold TR
  rw [appL_eq, lenL_eq, Array.toList_append, Array.toList_replicate]
  have hl : args.length = argsC.size := by have := ha.length; simpa using this
  rw [hl]
  exact ha.append (all2_undef m _)
 have he : fr0 = FR fr0 (argsC ++ Array.replicate (fn.ntmps - argsC.size) undef) [.code c] := by
  simp [fr0, Frame.enter, FR, hf, hc]
 have hround : fr0.roundOf = none := rfl
 obtain ⟨q, ⟨hj, hdm, hv⟩, t', todo', w1, m', hst, hT', H', hle, hB, hend, _⟩ := ho fr0 _ cs w m base hround hT H G (by rw [H.n]; exact Nat.le_refl _)
 have hleG : M.leG base m m' := leG_of_leK H.n.symm hle
 have hd0 : fr0.defers = [] := rfl
 rw [hd0, List.append_nil] at hst
 have fin : ∃ todo'', Steps E.P (lone (FR { fr0 with defers := marksC m' q.marks } t' todo') cs w1) (lone { FR { fr0 with defers := marksC m' q.marks } t' todo'' with mode := .returning } cs w1) := by
  cases hjj : q.jump with
  | fell =>
   rw [hjj] at hend
   have : todo' = [] := hend
   subst this
   exact ⟨[], .one (stepF_end hround)⟩
  | ret =>
   rw [hjj] at hend
   obtain ⟨k, rfl⟩ := hend
   exact ⟨.code .ret :: k, .one (stepF_ret hround)⟩
  | exit id => rw [hjj] at hj; simp [fellOrRet] at hj
 obtain ⟨todo'', hfin⟩ := fin
 obtain ⟨w', hdr, H2, hB2⟩ := dropMarks_sound E.P q.marks _ _ _ H' hdm { FR { fr0 with defers := marksC m' q.marks } t' todo'' with mode := .returning } cs (by simp) rfl
 obtain ⟨y, hy, hvr⟩ := resultsA_sound (E := E) hT' H2 ((G.below hB).below hB2) hv
 refine ⟨.returned y, w', { FR fr0 t' todo'' with mode := .returning }, ⟨y, rfl, m', hleG, hvr, H2, hB.trans hB2⟩, ?_, rfl, ?_⟩
 ·show Steps E.P (lone fr0 cs w) _
  rw [he]
  exact Steps.trans hst (Steps.trans hfin hdr)
 ·exact ⟨rfl, rfl, rfl, fn, hf, hy⟩
end
end Go.Ev
end
section
namespace Go.Ev
open Go.RowKit
noncomputable section
section
variable {E : Env} {lvl K : Nat} {rd : Option Nat} {Φ : Res → Prop}
def FrzB (i : Nat) (ds : List DT) : Option AB → Option AB → Prop
 | none, none => True
 | some a, some a' => a' = a ∨ (a.ext = .cells ∧ a'.ext = .cells ∧ a'.n = a.n ∧ a'.elem = a.elem ∧ a'.full = a.full ∧ All2 (FrzC i ds) a.cells a'.cells)
 | _, _ => False
theorem all2_len {α β : Type} {R : α → β → Prop} : ∀ {l : List α} {ys : List β}, All2 R l ys → l.length = ys.length
 | [], [], _ => rfl
 | _ :: _, _ :: _, h => by simp [all2_len h.2]
theorem outK_freeze (i : Nat) {ds : List DT} {N el : Nat} {fl : Bool} {h h' : Heap} {todo : List Item} {tm tm' : Tm} (hi : getL h i = some (some ⟨ds.map DT.ac, N, el, fl, .cells⟩)) (hl : lvl ≤ i)
  (hh : All2 (FrzB i ds) (setL h i none) h') (ht : All2 (FrzV i ds) tm tm') (ho : OutK E lvl K ⟨h', todo, tm'⟩ Φ rd) : OutK E lvl K ⟨h, todo, tm⟩ Φ rd := by
 rw [getL_eq] at hi
 rw [setL_eq] at hh
 refine .before (s' := ⟨h', todo, tm'⟩) (fun fr t cs w m base hT H G => ?_) ho
 obtain ⟨m2, H2, hle, hn, hρ, hκ, hV, hC⟩ := HR.freeze H hi hl
 have hlen := all2_len hh
 have back : ∀ (b : Nat) (a' : AB), h'[b]? = some (some a') → ∃ a : AB, (h.set i none)[b]? = some (some a) ∧ (a' = a ∨ (a.ext = .cells ∧ a'.ext = .cells ∧ a'.n = a.n ∧ a'.elem = a.elem ∧ a'.full = a.full ∧ All2 (FrzC i ds) a.cells a'.cells)) := by
  intro b a' hb
  obtain ⟨x, hx, hr⟩ := hh.get' hb
  cases x with
  | none => exact hr.elim
  | some a => exact ⟨a, hx, hr⟩
 have hxm : ∀ {x x' : AC} {y : Value}, FrzC i ds x x' → CR m2 x y → CR m x y ∨ CR m2 x' y := fun {x x' y} hf hy => by
  rcases hf with rfl | _
  ·exact .inr hy
  ·left
   rename_i hf
   obtain ⟨o, len, sz, cap, ex, r, rfl, rfl, hr⟩ := hf
   obtain ⟨hb, c, o', hy', rest⟩ := hy
   exact ⟨by rw [← hn]; exact hb, c, o', by rw [← hρ]; exact hy', by rw [← hκ]; exact rest⟩
 refine ⟨t, w, m2, .refl _ _, all2_map (R := VR m) (T := FrzV i ds) (S := VR m2) (fun a b c h0 h3 => hV a c b h0 h3) ht hT, ⟨by rw [H2.n, hlen], by rw [← hlen]; exact H2.lvlLe, H2.baseLe, fun b a' hb => ?_, fun b hb hb2 => H2.own b hb (by rw [hlen]; exact hb2), ?_, H2.lo, fun p hp => ⟨(H2.tab p hp).1, fun b a' hb ha => ?_⟩⟩, hle, Below.refl _ _⟩
 ·obtain ⟨a, ha, hr⟩ := back b a' hb
  rcases hr with rfl | ⟨r1, r2, r3, r4, r5, r6⟩
  ·exact H2.ent b a' ha
  ·obtain ⟨B, _⟩ := H2.ent b a ha
   obtain ⟨b1, b2, c, fz, b3, b4, b5, b6, b7⟩ := B r1
   refine ⟨fun _ => ⟨by rw [← all2_len r6, b1, r3], fun hf => by rw [r3]; exact b2 (by rw [← r5]; exact hf), c, fz, by rw [r4]; exact b3, b4, b5, by rw [r3]; exact b6, ?_⟩, by rw [r2]; trivial⟩
   rw [r3]
   exact all2_map (R := CR m2) (T := FrzC i ds) (S := CR m2) (fun x y x' h0 h3 => (hxm h0 h3).elim (fun h => hC x x' y h0 h) id) r6 b7
 ·intro b b' hb hb' h1 h2 h3 h4
  refine H2.inj b b' (by rw [hlen]; exact hb) (by rw [hlen]; exact hb') ?_ ?_ h3 h4
  ·obtain ⟨a, ha⟩ := h1; obtain ⟨a0, h0, _⟩ := back b a ha; exact ⟨a0, h0⟩
  ·obtain ⟨a, ha⟩ := h2; obtain ⟨a0, h0, _⟩ := back b' a ha; exact ⟨a0, h0⟩
 ·obtain ⟨a, ha0, _⟩ := back b a' ha
  exact (H2.tab p hp).2 b a hb ha0
end
end
end Go.Ev
end
section
namespace Go.Ev
open Go.RowKit Go.WideShapes Go.ChangeShapes
noncomputable section
theorem cells_block {W : World} {b o n : Nat} {vs : List Value} (h : W.cells? 0 ⟨b, o, none⟩ n = some vs) (h0 : 0 < n) :
  ∃ (c : Array Value) (ty : TypeId) (fz : Nat × Nat), W.heap[b]? = some (.cells c ty fz) ∧ o + n ≤ c.size ∧ vs = (c.toList.drop o).take n := by
 unfold World.cells? at h
 rw [if_pos (Nat.zero_le _)] at h
 have hl : vs.length = n := by simpa using mapM_some_length h
 have hg : ∀ i, i < n → W.cell? ⟨b, o + i, none⟩ = vs[i]? := fun i hi => by
  have := mapM_some_get h i i (by simp [hi])
  rwa [add_plain] at this
 have h1 := hg 0 h0
 rw [List.getElem?_eq_getElem (by omega)] at h1
 unfold World.cell? at h1
 split at h1
 ·rename_i c ty fz hc
  have hg' : ∀ i, i < n → c[o + i]? = vs[i]? := fun i hi => by
   have := hg i hi
   simpa [World.cell?, hc] using this
  have hlast := hg' (n - 1) (by omega)
  rw [List.getElem?_eq_getElem (by omega)] at hlast
  have hsz : o + (n - 1) < c.size := by
   rcases Nat.lt_or_ge (o + (n - 1)) c.size with hh | hh
   ·exact hh
   ·rw [Array.getElem?_eq_none hh] at hlast; simp at hlast
  refine ⟨c, ty, fz, hc, by omega, ?_⟩
  apply List.ext_getElem?
  intro i
  by_cases hi : i < n
  ·rw [← hg' i hi, List.getElem?_take, if_pos hi, List.getElem?_drop, Array.getElem?_toList]
  ·rw [List.getElem?_eq_none (by omega), List.getElem?_take, if_neg hi]
 ·simp at h1
section
variable {H : Type} {enc : TypeId × Value → H} {P : Program} {W : World}
theorem read_slice {t e : TypeId} {sz fuel : Nat} {held : Bool} {a : Option Addr} {len cap : Nat} {x : DataW H × List MemPlace} (ht : P.underlying t = some (.slice e)) (hsz : P.cellsOf e = sz) (h0 : 0 < sz)
  (h : DataW.trod enc P W 0 (fun _ => true) held fuel t [.slice a len cap] = some x) :
  len = 0 ∨ ∃ (b o : Nat) (c : Array Value) (ty : TypeId) (fz : Nat × Nat) (n : Nat), a = some ⟨b, o, none⟩ ∧ 0 < len ∧ len ≤ cap ∧ cap ≤ maxLen ∧ W.heap[b]? = some (.cells c ty fz) ∧ o + cap * sz ≤ c.size ∧
   ∀ i, i < len → ∃ y, DataW.trod enc P W 0 (fun _ => true) held n e ((c.toList.drop (o + i * sz)).take sz) = some y := by
 rcases DataW.trod_slice ht h with ⟨h1, _⟩ | ⟨a', len', cap', elems, rest, n, _, h1, _, hb, hl, hm, hlen, hel, hsp, _⟩
 ·simp only [List.cons.injEq, Value.slice.injEq, and_true] at h1
  exact .inl h1.2.1
 simp only [List.cons.injEq, Value.slice.injEq, and_true] at h1
 obtain ⟨rfl, rfl, rfl⟩ := h1
 by_cases hz : len = 0
 ·exact .inl hz
 obtain ⟨hrl, hr⟩ := hsp rfl
 rw [hsz] at hel hr
 have all : ∀ i, i < cap → ∃ vs y, W.cells? 0 (a'.add (i * sz)) sz = some vs ∧ DataW.trod enc P W 0 (fun _ => true) held n e vs = some y := fun i hi => by
  by_cases hil : i < len
  ·have := hel i hil
   rw [List.getElem?_eq_getElem (by omega)] at this
   obtain ⟨vs, h2, h3⟩ := Option.bind_eq_some_iff.1 this
   exact ⟨vs, _, h2, h3⟩
  ·have := hr (i - len) (by omega)
   rw [List.getElem?_eq_getElem (by omega), show len + (i - len) = i by omega] at this
   obtain ⟨vs, h2, h3⟩ := Option.bind_eq_some_iff.1 this
   exact ⟨vs, _, h2, h3⟩
 obtain ⟨b, o, spot⟩ := a'
 have hspot : spot = none := by
  obtain ⟨vs, _, h2, _⟩ := all 0 (by omega)
  unfold World.cells? at h2
  rw [if_pos (Nat.zero_le _)] at h2
  have hl2 : vs.length = sz := by simpa using mapM_some_length h2
  have h3 := mapM_some_get h2 0 0 (by simp [h0])
  rw [List.getElem?_eq_getElem (by omega)] at h3
  simpa [Addr.add] using World.cell?_spot h3
 subst hspot
 obtain ⟨vs0, _, h2, _⟩ := all 0 (by omega)
 rw [add_plain] at h2
 obtain ⟨c, ty, fz, hc, _, _⟩ := cells_block h2 h0
 refine .inr ⟨b, o, c, ty, fz, n, rfl, by omega, hl, hm, hc, ?_, fun i hi => ?_⟩
 ·obtain ⟨vs1, _, h3, _⟩ := all (cap - 1) (by omega)
  rw [add_plain] at h3
  obtain ⟨c', ty', fz', hc', hle, _⟩ := cells_block h3 h0
  rw [hc] at hc'
  simp only [Option.some.injEq, Obj.cells.injEq] at hc'
  obtain ⟨rfl, _⟩ := hc'
  have : (cap - 1) * sz + sz = cap * sz := by rw [← Nat.succ_mul, Nat.succ_eq_add_one, show cap - 1 + 1 = cap by omega]
  omega
 ·obtain ⟨vs1, y, h3, h4⟩ := all i (by omega)
  rw [add_plain] at h3
  obtain ⟨c', ty', fz', hc', _, rfl⟩ := cells_block h3 h0
  rw [hc] at hc'
  simp only [Option.some.injEq, Obj.cells.injEq] at hc'
  obtain ⟨rfl, _⟩ := hc'
  exact ⟨y, h4⟩
end
def ElemsAt (C : List AC) (o w : Nat) (xs : List (List UInt8)) : Prop := ∀ k x, xs[k]? = some x → x.length = w ∧ takeL (dropL C (o + k * w)) w = some (x.map u8c)
def SlOk (b sz : Nat) (C : List AC) (x : AC) (n : Nat) (xs : List (List UInt8)) : Prop :=
 xs.length = n ∧ (∀ y ∈ xs, y.length = sz) ∧ ((n = 0 ∧ ∃ p c, x = .v (.slice p 0 c)) ∨ (0 < n ∧ ∃ o cap ex, x = .slc b o n sz cap ex ∧ ElemsAt C o sz xs))
theorem SlOk.opq {b sz n K : Nat} {C : List AC} {x : AC} {xs : List (List UInt8)} (h : SlOk b sz C x n xs) (hK : b < K) : OpqC K x := by
 obtain ⟨_, _, ⟨rfl, p, c, rfl⟩ | ⟨_, o, cap, ex, rfl, _⟩⟩ := h
 ·intro k hk; simp [AC.refs] at hk
 ·intro k hk; simp [AC.refs] at hk; omega
theorem SlOk.below {b sz n K : Nat} {C : List AC} {x : AC} {xs : List (List UInt8)} (h : SlOk b sz C x n xs) (hK : b < K) : refsBelow K (AV.refs (.e (.one x))) = true := by
 have := h.opq hK
 simpa [refsBelow, AV.refs, AE.refs, OpqC] using this
theorem elems_take : ∀ {xs : List (List UInt8)} {C : List AC} {o w : Nat}, ElemsAt C o w xs → xs ≠ [] ∨ o ≤ C.length → takeL (dropL C o) (xs.length * w) = some (xs.flatten.map u8c)
 | [], C, o, w, _, _ => by simp [takeL_eq]
 | x :: xs, C, o, w, h, _ => by
  obtain ⟨hw, hx⟩ := h 0 x rfl
  rw [takeL_eq, dropL_eq, Nat.zero_mul, Nat.add_zero] at hx
  split at hx
  ·rename_i hle
   simp only [Option.some.injEq, List.length_drop] at hx hle
   by_cases hw0 : w = 0
   ·subst hw0
    have hall : ∀ y ∈ xs, y = [] := fun y hy => by
     obtain ⟨k, hk⟩ := List.getElem?_of_mem hy
     have := (h (k + 1) y (by simpa using hk)).1
     exact List.eq_nil_of_length_eq_zero this
    have hx0 : x = [] := List.eq_nil_of_length_eq_zero hw
    have : (x :: xs).flatten = [] := by
     rw [List.flatten_eq_nil_iff]
     intro l hl
     rcases List.mem_cons.1 hl with rfl | hl
     ·exact hx0
     ·exact hall l hl
    rw [this, takeL_eq]
    simp
   ·have ih := elems_take (xs := xs) (C := C) (o := o + w) (w := w) (fun k y hk => by
     have := h (k + 1) y (by simpa using hk)
     rwa [show o + (k + 1) * w = o + w + k * w by rw [Nat.succ_mul]; omega] at this) (.inr (by omega))
    rw [takeL_eq, dropL_eq] at ih ⊢
    split at ih
    ·rename_i hle2
     simp only [Option.some.injEq, List.length_drop] at ih hle2
     have e : (x :: xs).length * w = w + xs.length * w := by rw [List.length_cons, Nat.succ_mul]; omega
     rw [e, if_pos (by rw [List.length_drop]; omega), List.take_add, hx, List.drop_drop, ih, List.flatten_cons, List.map_append]
    ·simp at ih
  ·simp at hx
theorem blk_some {h : Heap} {b : Nat} {C : List AC} {N : Nat} {ty : TypeId} {fl : Bool} (hb : getL h b = some (some ⟨C, N, ty, fl, .cells⟩)) : blk h b = some ⟨C, N, ty, fl, .cells⟩ := by
 unfold blk
 rw [hb]
theorem all_isOne (l : List UInt8) : (l.map u8c).all AC.isOne = true := by
 rw [List.all_eq_true]
 intro c hc
 obtain ⟨x, _, rfl⟩ := List.mem_map.1 hc
 rfl
theorem SlOk.copy {b sz bytes n : Nat} {C : List AC} {x : AC} {xs : List (List UInt8)} (hs : SlOk b sz C x n xs) {h : Heap} {N : Nat} {ty : TypeId} {fl : Bool} (hb : getL h b = some (some ⟨C, N, ty, fl, .cells⟩)) (hm : small (0 + n) sz bytes = true) :
  CopyOk h sz bytes (.e (.one x)) n (xs.flatten.map u8c) (decide (n = 0)) := by
 obtain ⟨hl, _, ⟨rfl, p, c, rfl⟩ | ⟨h0, o, cap, ex, rfl, hC⟩⟩ := hs
 ·have : xs = [] := List.eq_nil_of_length_eq_zero hl
  subst this
  exact .inr (.inr (.inl ⟨rfl, rfl, rfl, p, c, rfl⟩))
 ·refine .inr (.inr (.inr ⟨decide_eq_false (by omega), h0, hm, all_isOne _, b, o, cap, ex, _, rfl, blk_some hb, ?_⟩))
  have := elems_take hC (.inl (by intro e; subst e; simp at hl; omega))
  rwa [hl] at this
section
variable {H : Type} {enc : TypeId × Value → H} {P : Program} {W : World}
end
end
end Go.Ev
end
section
namespace Go.Ev
open Go.RowKit Go.WideShapes Go.ChangeShapes
noncomputable section
def S1 (b : Nat) (C : List AC) (x : AC) (n : Nat) (cs : List AC) : Prop :=
 cs.length = n ∧ ((n = 0 ∧ ∃ p c, x = .v (.slice p 0 c)) ∨ (0 < n ∧ ∃ o cap ex, x = .slc b o n 1 cap ex ∧ takeL (dropL C o) n = some cs))
theorem S1.opq {b n K : Nat} {C cs : List AC} {x : AC} (h : S1 b C x n cs) (hK : b < K) : OpqC K x := by
 obtain ⟨_, ⟨rfl, p, c, rfl⟩ | ⟨_, o, cap, ex, rfl, _⟩⟩ := h
 ·intro k hk; simp [AC.refs] at hk
 ·intro k hk; simp [AC.refs] at hk; omega
theorem S1.below {b n K : Nat} {C cs : List AC} {x : AC} (h : S1 b C x n cs) (hK : b < K) : refsBelow K (AV.refs (.e (.one x))) = true := by
 have := h.opq hK
 simpa [refsBelow, AV.refs, AE.refs, OpqC] using this
theorem S1.copy {b bytes n : Nat} {C cs : List AC} {x : AC} (hs : S1 b C x n cs) (h1 : cs.all AC.isOne = true) {h : Heap} {N : Nat} {ty : TypeId} {fl : Bool} (hb : getL h b = some (some ⟨C, N, ty, fl, .cells⟩)) (hm : small (0 + n) 1 bytes = true) :
  CopyOk h 1 bytes (.e (.one x)) n cs (decide (n = 0)) := by
 obtain ⟨hl, ⟨rfl, p, c, rfl⟩ | ⟨h0, o, cap, ex, rfl, hC⟩⟩ := hs
 ·have : cs = [] := List.eq_nil_of_length_eq_zero hl
  subst this
  exact .inr (.inr (.inl ⟨rfl, rfl, rfl, p, c, rfl⟩))
 ·exact .inr (.inr (.inr ⟨decide_eq_false (by omega), h0, hm, h1, b, o, cap, ex, _, rfl, blk_some hb, by rw [Nat.mul_one]; exact hC⟩))
section
variable {H : Type} {enc : TypeId × Value → H} {P : Program} {W : World}
end
end
end Go.Ev
end
section
namespace Go.Ev
open Go.RowKit Go.WideShapes Go.ChangeShapes
noncomputable section
def AtRest (W : World) (F : List (Nat × List Value)) : Prop := ∀ p ∈ F, ∃ (c : Array Value) (t : TypeId) (fz : Nat × Nat), W.heap[p.1]? = some (.cells c t fz) ∧ c.toList = p.2
theorem AtRest.nil (W : World) : AtRest W [] := fun p hp => by simp at hp
theorem AtRest.app {W : World} {F G : List (Nat × List Value)} (h : AtRest W F) (k : AtRest W G) : AtRest W (F ++ G) := fun p hp => (List.mem_append.1 hp).elim (h p) (k p)
theorem AtRest.cons {W : World} {F : List (Nat × List Value)} {b : Nat} {c : Array Value} {t : TypeId} {fz : Nat × Nat} (h : AtRest W F) (hb : W.heap[b]? = some (.cells c t fz)) : AtRest W ((b, c.toList) :: F) := fun p hp => by
 rcases List.mem_cons.1 hp with rfl | hp
 ·exact ⟨c, t, fz, hb, rfl⟩
 ·exact h p hp
def Rd (W : World) (cs : List Value) (Q : List DT → Prop) : Prop := ∃ (F : List (Nat × List Value)) (ds : List DT), AtRest W F ∧ DT.Rl F ds cs ∧ ds.length = cs.length ∧ Q ds
section
variable {H : Type} {enc : TypeId × Value → H} {P : Program} {W : World}
theorem rd_int {e : TypeId} {k : IntKind} {fuel : Nat} {held : Bool} {sp : Nat → Bool} {cs : List Value} {x : DataW H × List MemPlace} (he : P.underlying e = some (.int k)) (h : DataW.trod enc P W 0 sp held fuel e cs = some x) :
  Rd W cs fun ds => ∃ z : Int, (Lit.int k z).wf = true ∧ ds = [.v (.int k z)] := by
 obtain ⟨z, rfl, _, hw⟩ := DataW.trod_int he h
 exact ⟨[], [.v (.int k z)], AtRest.nil W, ⟨_, [], rfl, by simp [DT.R], by simp [DT.Rl]⟩, rfl, z, hw, rfl⟩
theorem rd_string {e : TypeId} {fuel : Nat} {held : Bool} {sp : Nat → Bool} {cs : List Value} {x : DataW H × List MemPlace} (he : P.underlying e = some .string) (h : DataW.trod enc P W 0 sp held fuel e cs = some x) :
  Rd W cs fun ds => ∃ s : ByteArray, s.size ≤ maxLen ∧ ds = [.v (.string s)] := by
 obtain ⟨s, rfl, _, hs⟩ := DataW.trod_string he h
 exact ⟨[], [.v (.string s)], AtRest.nil W, ⟨_, [], rfl, by simp [DT.R], by simp [DT.Rl]⟩, rfl, s, hs, rfl⟩
theorem Rl_append {F G : List (Nat × List Value)} : ∀ {l l' : List DT} {ys zs : List Value}, DT.Rl F l ys → l.length = ys.length → DT.Rl G l' zs → DT.Rl (F ++ G) (l ++ l') (ys ++ zs)
 | [], l', [], zs, _, _, h => DT.Rl.mono (fun p hp => List.mem_append_right _ hp) _ _ h
 | [], _, _ :: _, _, _, h, _ => by simp at h
 | d :: l, l', ys, zs, h, hl, h' => by
  simp only [DT.Rl] at h
  obtain ⟨y, r, rfl, h1, h2⟩ := h
  show DT.Rl (F ++ G) (d :: (l ++ l')) (y :: (r ++ zs))
  simp only [DT.Rl]
  exact ⟨y, r ++ zs, rfl, DT.R.mono (fun p hp => List.mem_append_left _ hp) _ _ h1, Rl_append h2 (by simpa using hl) h'⟩
theorem rd_rows {c : List Value} {sz : Nat} {Q : List DT → Prop} : ∀ (n o : Nat), o + n * sz ≤ c.length → (∀ i, i < n → Rd W ((c.drop (o + i * sz)).take sz) Q) →
  ∃ (F : List (Nat × List Value)) (rows : List (List DT)), AtRest W F ∧ rows.length = n ∧ (∀ r ∈ rows, r.length = sz ∧ Q r) ∧ DT.Rl F rows.flatten ((c.drop o).take (n * sz))
 | 0, o, _, _ => ⟨[], [], AtRest.nil W, rfl, by simp, by simp [DT.Rl]⟩
 | n + 1, o, hl, h => by
  rw [Nat.succ_mul] at hl
  obtain ⟨F0, d0, a0, r0, l0, q0⟩ := h 0 (by omega)
  rw [Nat.zero_mul, Nat.add_zero] at r0 l0
  have hlen : ((c.drop o).take sz).length = sz := by rw [List.length_take, List.length_drop]; omega
  rw [hlen] at l0
  obtain ⟨F1, rows, a1, rl, rq, r1⟩ := rd_rows (c := c) (sz := sz) (Q := Q) n (o + sz) (by omega) (fun i hi => by
   have := h (i + 1) (by omega)
   rw [Nat.succ_mul] at this
   rw [show o + sz + i * sz = o + (i * sz + sz) by omega]
   exact this)
  refine ⟨F0 ++ F1, d0 :: rows, a0.app a1, by simp [rl], fun r hr => ?_, ?_⟩
  ·rcases List.mem_cons.1 hr with rfl | hr
   ·exact ⟨l0, q0⟩
   ·exact rq r hr
  ·have e : (c.drop o).take ((n + 1) * sz) = (c.drop o).take sz ++ (c.drop (o + sz)).take (n * sz) := by
    rw [show (n + 1) * sz = sz + n * sz by rw [Nat.succ_mul]; omega, List.take_add, List.drop_drop]
   rw [e, List.flatten_cons]
   exact Rl_append r0 (by rw [l0, hlen]) r1
theorem rd_slice {t e : TypeId} {sz fuel : Nat} {held : Bool} {cs : List Value} {x : DataW H × List MemPlace} {Q : List DT → Prop} (ht : P.underlying t = some (.slice e)) (hsz : P.cellsOf e = sz) (h0 : 0 < sz)
  (rd : ∀ {fuel : Nat} {cs : List Value} {x : DataW H × List MemPlace}, DataW.trod enc P W 0 (fun _ => true) held fuel e cs = some x → Rd W cs Q)
  (hc : ∃ a len cap, cs = [.slice a len cap]) (h : DataW.trod enc P W 0 (fun _ => true) held fuel t cs = some x) :
  Rd W cs fun ds => ∃ rows : List (List DT), rows.length ≤ maxLen ∧ (∀ r ∈ rows, r.length = sz ∧ Q r) ∧ ds = [.s rows.flatten rows.length sz] := by
 obtain ⟨a, len, cap, rfl⟩ := hc
 rcases read_slice ht hsz h0 h with rfl | ⟨b, o, c, ty, fz, n, rfl, hl0, hlc, hcm, hb, hsize, hel⟩
 ·refine ⟨[], [.s [] 0 sz], AtRest.nil W, ⟨_, [], rfl, ?_, by simp [DT.Rl]⟩, rfl, [], by simp, by simp, rfl⟩
  simp only [DT.R]
  exact .inl ⟨trivial, a, cap, rfl⟩
 ·have hmul : len * sz ≤ cap * sz := Nat.mul_le_mul_right _ hlc
  obtain ⟨F, rows, aF, rl, rq, rr⟩ := rd_rows (W := W) (c := c.toList) (sz := sz) (Q := Q) len o (by simp; omega) (fun i hi => by
   obtain ⟨y, hy⟩ := hel i hi
   exact rd hy)
  have hfl : rows.flatten.length = len * sz := by
   rw [← rl]
   clear rr rl hmul
   induction rows with
   | nil => simp
   | cons r rows ih =>
    rw [List.flatten_cons, List.length_append, ih (fun s hs => rq s (List.mem_cons_of_mem _ hs)), (rq r (List.mem_cons_self ..)).1, List.length_cons, Nat.succ_mul]
    omega
  refine ⟨(b, c.toList) :: F, [.s rows.flatten rows.length sz], aF.cons hb, ⟨_, [], rfl, ?_, by simp [DT.Rl]⟩, rfl, rows, by omega, rq, rfl⟩
  simp only [DT.R]
  rw [rl]
  refine .inr ⟨hl0, b, o, cap, c.toList, rfl, hlc, hcm, List.mem_cons_self .., by simpa using hsize, hfl, ?_⟩
  have := (rr.mono (fun p hp => List.mem_cons_of_mem (b, c.toList) hp)).more (zs := (c.toList.drop o).drop (len * sz))
  rwa [List.take_append_drop] at this
def dI (z : Int) : DT := .v (.int .i64 z)
end
end
end Go.Ev
end
section
open Go Go.Ev Go.RowKit
open Extern.Stop
namespace Go.Proofs.YtigdchbjmnbjlaaGreatDoor
noncomputable section
abbrev iD (l : List Int) : List DT := l.map fun x => .v (.int .i64 x)
abbrev iC (l : List Int) : List AC := (iD l).map DT.ac
abbrev iV (l : List Int) : List Value := l.map (.int .i64)
theorem flat_iC (l : List Int) : FlatC (iC l) := by
 intro c hc
 simp only [List.map_map, List.mem_map] at hc
 obtain ⟨x, _, rfl⟩ := hc
 rfl
theorem iC_app (l r : List Int) : appL (iC l) (iC r) = iC (l ++ r) := by rw [appL_eq]; simp
theorem cells_of {m : M} : ∀ {l : List Value} {cs : List Value}, All2 (CR m) (l.map AC.v) cs → cs = l
 | [], [], _ => rfl
 | [], _ :: _, h => h.elim
 | _ :: _, [], h => h.elim
 | x :: l, c :: cs, h => by
  obtain ⟨h1, h2⟩ := h
  rw [cells_of h2, show c = x from h1]
theorem iC_v (l : List Int) : iC l = (iV l).map AC.v := by simp [DT.ac]
theorem u3_ : Tryz.prog.underlying 3 = some (.int .i64) := by kernel_rfl
theorem q3_ (w : World) (a b : Int) : (Op.equalIn 9999 3 (.int .i64 a) (.int .i64 b)).run Tryz.prog w = .ok (a == b) w := by
 rw [show (9999 : Nat) = 9998 + 1 from rfl]
 exact run_equalIn_int w 9998 3 .i64 .i64 a b u3_
theorem part3_ (w : World) (l : List Int) (k : Nat) {x : Int} (h : l[k]? = some x) : (part 3 (iV l).toArray k).run Tryz.prog w = .ok (.int .i64 x) w := by
 have : (iV l)[k]? = some (.int .i64 x) := by rw [List.getElem?_map, h]; rfl
 simp [part, isAgg, run_underlying u3_, this]
theorem eq_step (P : Program) (w : World) {d : Nat} {xs ys : Array Value} {f : Field} {fs : List Field} {t n : Nat} {a b : Value} {r : Bool} (h : f.name ≠ "_") (ht : f.type = t) (hn : f.offset = n) (h1 : (part t xs n).run P w = .ok a w) (h2 : (part t ys n).run P w = .ok b w) (h3 : (Op.equalIn d t a b).run P w = .ok r w) :
  (Op.eqFields d xs ys (f :: fs)).run P w = if r then (Op.eqFields d xs ys fs).run P w else .ok false w := by
 subst ht hn
 cases r <;> simp [Op.eqFields, h, h1, h2, h3]
theorem eq_nil (P : Program) (w : World) {d : Nat} {xs ys : Array Value} : (Op.eqFields d xs ys []).run P w = .ok true w := by simp [Op.eqFields]
theorem eqFs (w : World) (l l' : List Int) (hl : l.length = l'.length) : ∀ (fs : List Field) (i : Nat), i + fs.length = l.length → fs.map (fun f => (f.name == "_", f.type, f.offset)) = (List.range' i fs.length).map (fun k => (false, 3, k)) →
  (Op.eqFields 9999 (iV l).toArray (iV l').toArray fs).run Tryz.prog w = .ok (l.drop i == l'.drop i) w
 | [], i, hi, _ => by
  have e1 : l.drop i = [] := List.drop_eq_nil_of_le (by simp at hi; omega)
  have e2 : l'.drop i = [] := List.drop_eq_nil_of_le (by simp at hi; omega)
  rw [eq_nil, e1, e2]; rfl
 | f :: fs, i, hi, hf => by
  have hi' : i + fs.length + 1 = l.length := by simpa [Nat.add_assoc] using hi
  simp only [List.map_cons, List.length_cons, List.range'_succ, List.cons.injEq, Prod.mk.injEq] at hf
  obtain ⟨⟨a1, a2, a3⟩, hf⟩ := hf
  have ih := eqFs w l l' hl fs (i + 1) (by omega) hf
  have h1 : i < l.length := by omega
  have h2 : i < l'.length := by omega
  rw [eq_step Tryz.prog w (by simpa using a1) a2 a3 (part3_ w l i (List.getElem?_eq_getElem h1)) (part3_ w l' i (List.getElem?_eq_getElem h2)) (q3_ w _ _), ih, List.drop_eq_getElem_cons h1, List.drop_eq_getElem_cons h2, List.cons_beq_cons]
  cases l[i] == l'[i] <;> simp
theorem eqIs {t : TypeId} {n : Nat} (hu : Tryz.prog.underlying t = some (.struct (Tryz.prog.fieldsOf t))) (hst : Tryz.prog.stoodInHeld t = false)
  (hfs : (Tryz.prog.fieldsOf t).toList.map (fun f => (f.name == "_", f.type, f.offset)) = (List.range' 0 n).map (fun k => (false, 3, k))) (l l' : List Int) (h1 : l.length = n) (h2 : l'.length = n) : EqOk E t (iC l) (iC l') (l == l') := by
 intro m c1 c2 w g1 g2
 rw [iC_v] at g1 g2
 have e1 : c1 = (iV l).toArray := by rw [← Array.toList_inj]; exact cells_of g1
 have e2 : c2 = (iV l').toArray := by rw [← Array.toList_inj]; exact cells_of g2
 subst e1 e2
 show (Op.equalIn 10000 t _ _).run Tryz.prog w = _
 rw [show (10000 : Nat) = 9999 + 1 from rfl]
 rw [run_equalIn_struct w 9999 t _ _ hu hst]
 have hl : (Tryz.prog.fieldsOf t).toList.length = n := by have := congrArg List.length hfs; simpa using this
 have := eqFs w l l' (by omega) (Tryz.prog.fieldsOf t).toList 0 (by omega) (by rw [hl]; exact hfs)
 simpa using this
end
end Go.Proofs.YtigdchbjmnbjlaaGreatDoor
end
section
open Go Go.Ev
namespace Go.Proofs.YtigdchbjmnbjlaaGreatDoor
noncomputable section
theorem cOut_clear {f : FuncId} {args : List AV} {v : AV} {h : Heap} (hc : COut E 0 [] f args v h) (hv : v.refs = []) : COut E 0 [] f args v [] :=
 cOut_gc (h' := []) [] (Nat.zero_le _) hc rfl rfl (AV.ren_id hv)
theorem getI {xs : List Int} {i : Nat} {x : Int} (h : xs[i]? = some x) : getL (iD xs) i = some (.v (.int .i64 x)) := by rw [getL_eq, List.getElem?_map, h]; rfl
abbrev dI (xs : List Int) : AV := .e (.one (.dp (.s (iD xs) xs.length 1)))
theorem lend2 (lv : Nat) (hE : EnvOk E) (f : FuncId) (xs : List Int) (r : Int) (ty : Nat) (fl : Bool) (hc : COut E 0 [] f [dI xs] (iI r) []) (h : Heap) (i : Nat) (hh : getL h i = some (some ⟨(iD xs).map DT.ac, xs.length, ty, fl, .cells⟩)) : COut E lv h f [.e (.one (.slc i 0 xs.length 1 xs.length true))] (iI r) h :=
 cOut_lend h hc ⟨.inr ⟨i, 0, xs.length, 1, xs.length, true, iD xs, iD xs, xs.length, ty, fl, rfl, rfl, hh, by rw [takeL_eq, dropL_eq, List.drop_zero, if_pos (by simp), List.take_of_length_le (by simp)]⟩, trivial⟩ rfl rfl
end
end Go.Proofs.YtigdchbjmnbjlaaGreatDoor
end
section
open Go Go.Ev
namespace Go.Proofs.YtigdchbjmnbjlaaGreatDoor
noncomputable section
theorem row_get {α β : Type} {f : α → List β} {k : Nat} (hf : ∀ x, (f x).length = k) : ∀ {l : List α} {i : Nat} {x : α}, l[i]? = some x → ((l.flatMap f).drop (i * k)).take k = f x ∧ i * k + k ≤ (l.flatMap f).length
 | [], _, _, h => by simp at h
 | a :: l, 0, x, h => by
  obtain rfl : a = x := by simpa using h
  rw [Nat.zero_mul, List.drop_zero, List.flatMap_cons, List.take_append_of_le_length (Nat.le_of_eq (hf _).symm), List.take_of_length_le (Nat.le_of_eq (hf _))]
  refine ⟨rfl, ?_⟩
  rw [List.length_append, hf]; omega
 | a :: l, i + 1, x, h => by
  obtain ⟨h1, h2⟩ := row_get hf (l := l) (i := i) (x := x) (by simpa using h)
  rw [List.flatMap_cons, Nat.succ_mul, List.drop_append, List.drop_eq_nil_of_le (by rw [hf]; omega), hf, show i * k + k - k = i * k by omega, List.nil_append]
  refine ⟨h1, ?_⟩
  rw [List.length_append, hf]; omega
section
variable {α : Type} {f : α → List DT} {k : Nat}
theorem rows_len (hf : ∀ x, (f x).length = k) : ∀ l : List α, (l.flatMap f).length = l.length * k
 | [] => by simp
 | x :: l => by rw [List.flatMap_cons, List.length_append, hf, rows_len hf l, List.length_cons, Nat.succ_mul]; omega
theorem rows_get (hf : ∀ x, (f x).length = k) {l : List α} {i : Nat} {x : α} (h : l[i]? = some x) : takeL (dropL (l.flatMap f) (i.mul k)) k = some (f x) := by
 obtain ⟨h1, h2⟩ := row_get hf h
 rw [takeL_eq, dropL_eq, if_pos (by rw [List.length_drop]; show k ≤ _ - i * k; omega)]
 exact congrArg some h1
theorem rows_part (hf : ∀ x, (f x).length = k) {l : List α} {i : Nat} {x : α} (h : l[i]? = some x) {o : Nat} {d : DT} (hd : (f x)[o]? = some d) : getL (l.flatMap f) (i.mul k + o) = some d := by
 obtain ⟨h1, h2⟩ := row_get hf h
 have ho : o < k := by
  have := (List.getElem?_eq_some_iff.1 hd).1
  rwa [hf] at this
 rw [← h1, List.getElem?_take, if_pos ho, List.getElem?_drop] at hd
 rw [getL_eq]; exact hd
theorem tkAll (ds : List DT) (n : Nat) (h : ds.length = n) : takeL (dropL ds 0) n = some ds := by
 rw [takeL_eq, dropL_eq, List.drop_zero, if_pos (by omega), List.take_of_length_le (by omega)]
theorem frzAll {b : Nat} (ds : List DT) (n sz cap : Nat) (ex : Bool) (h : ds.length = n * sz) : FrzC b ds (.slc b 0 n sz cap ex) (.dp (.s ds n sz)) :=
 .inr ⟨0, n, sz, cap, ex, ds, rfl, rfl, tkAll ds _ h⟩
end
theorem nil_dp (m : M) (sz : Nat) {y : Value} {p : Option Addr} {c : Nat} (h : y = .slice p 0 c) : CR m (.dp (.s [] 0 sz)) y := by
 subst h
 show DT.R m.F (.s [] 0 sz) _
 simp only [DT.R]
 exact .inl ⟨trivial, p, c, rfl⟩
theorem wkNc (m : M) (sz : Nat) : ∀ y, CR m (.v (.slice none 0 0)) y → CR m (.dp (.s [] 0 sz)) y := fun _ h => nil_dp m sz h
end
end Go.Proofs.YtigdchbjmnbjlaaGreatDoor
end
section
open Go Go.Ev
namespace Go.Proofs.YtigdchbjmnbjlaaGreatDoor
theorem get_bang {s : ByteArray} {k : Nat} {b : UInt8} (h : s[k]? = some b) : s.get! k = b := by
 have hk : k < s.size := by
  by_cases c : k < s.size
  ·exact c
  ·rw [getElem?_neg s k c] at h; cases h
 rw [getElem?_pos s k hk] at h
 have h := Option.some.inj h
 rw [← h]
 show s.data[k]! = s.data[k]
 exact getElem!_pos s.data k hk
theorem dec_lo {s : ByteArray} {k : Nat} {b : UInt8} (h : s[k]? = some b) (hb : b.toNat < 128) : Utf8.decode s k = (b.toNat, 1) := by
 unfold Utf8.decode
 simp only [Nat.add_zero, get_bang h]
 rw [if_pos hb]
theorem dec_hi {s : ByteArray} {k : Nat} {b : UInt8} (h : s[k]? = some b) (hb : 128 ≤ b.toNat) : 128 ≤ (Utf8.decode s k).1 := by
 unfold Utf8.decode
 simp only [Nat.add_zero, get_bang h]
 rw [if_neg (by omega)]
 have hr : (128 : Nat) ≤ (Utf8.runeError, 1).1 := by decide
 split
 ·split
  ·rename_i hc; exact hc
  ·exact hr
 ·split
  ·split
   ·rename_i hc; simp only [Bool.and_eq_true, decide_eq_true_eq] at hc; exact Nat.le_trans (by decide) hc.1
   ·exact hr
  ·split
   ·split
    ·rename_i hc; simp only [Bool.and_eq_true, decide_eq_true_eq] at hc; exact Nat.le_trans (by decide) hc.1
    ·exact hr
   ·exact hr
def ltrI (r : Int) : Bool := (decide (65 ≤ r) && decide (r ≤ 90)) || (decide (97 ≤ r) && decide (r ≤ 122))
def digI (r : Int) : Bool := decide (48 ≤ r) && decide (r ≤ 57)
def okI (r : Int) (i : Nat) : Bool := ltrI r || (!(decide (i = 0)) && (digI r || decide (r = 95)))
def nmL : List UInt8 → Nat → Bool
 | [], _ => true
 | b :: l, i => okI (Int.ofNat b.toNat) i && nmL l (i + 1)
def nameB (s : ByteArray) : Bool := decide (0 < s.size) && decide (s.size ≤ 24) && nmL s.data.toList 0
theorem bytes_drop {s : ByteArray} {k : Nat} {b : UInt8} (h : s[k]? = some b) : s.data.toList.drop k = b :: s.data.toList.drop (k + 1) := by
 have hk : k < s.size := by
  by_cases c : k < s.size
  ·exact c
  ·rw [getElem?_neg s k c] at h; cases h
 rw [getElem?_pos s k hk] at h
 have h := Option.some.inj h
 have hk2 : k < s.data.toList.length := by simpa using hk
 rw [List.drop_eq_getElem_cons hk2]
 congr 1
theorem byte_at {s : ByteArray} {k : Nat} (hk : k < s.size) : ∃ b, s[k]? = some b := ⟨_, getElem?_pos s k hk⟩
theorem hi_bad {r : Int} (h : 128 ≤ r) (i : Nat) : okI r i = false := by
 have h1 : ltrI r = false := by simp only [ltrI, Bool.or_eq_false_iff, Bool.and_eq_false_iff, decide_eq_false_iff_not]; omega
 have h2 : digI r = false := by simp only [digI, Bool.and_eq_false_iff, decide_eq_false_iff_not]; omega
 have h3 : decide (r = 95) = false := decide_eq_false (by omega)
 simp [okI, h1, h2, h3]
def swapL (l : List Int) (i k : Nat) : List Int := (l.set i (l.getD k 0)).set k (l.getD i 0)
def drawL : Nat → Nat → List Int → List Int
 | 0, _, l => l
 | i + 1, x, l => drawL i (630360016 * x % 2147483647) (swapL l (i + 1) (630360016 * x % 2147483647 % (i + 1 + 1)))
def idL (n : Nat) : List Int := (List.range n).map Int.ofNat
def drawn (x n : Nat) : List Int := drawL (n - 1) x (idL n)
end Go.Proofs.YtigdchbjmnbjlaaGreatDoor
end
section
open Go Go.Ev
namespace Go.Proofs.YtigdchbjmnbjlaaGreatDoor
noncomputable section
abbrev ztNa0 : List Item := [.code (aF [1, 1, 0, 1, 0, 0] Tryz.f181), .inLoop (aF [1, 1, 0, 1, 0, 0] Tryz.f181), .inBlock 0, .code (aF [1, 1, 1] Tryz.f181)]
abbrev ztNa1 : List Item := [.code (aF [1, 1, 0, 1, 0, 0] Tryz.f179), .inLoop (aF [1, 1, 0, 1, 0, 0] Tryz.f179), .inBlock 0, .code (aF [1, 1, 1] Tryz.f179)]
def ns83 (r : Int) (j : JN) : St := startK Tryz.f196 [] [.e (.one (.v (.int .i32 r)))]
def ns84 (r : Int) (j : JN) : St := startK Tryz.f197 [] [.e (.one (.v (.int .i32 r)))]
def ns19 (s : ByteArray) (j : JN) : St := startK Tryz.f181 [] [.e (.one (.v (.string s)))]
def ns20 (s : ByteArray) (j : JN) : St := startK Tryz.f179 [] [.e (.one (.v (.string s)))]
def nq19 (s : ByteArray) (p : Nat) (j : JN) : St := ⟨[.some ⟨[], 0, 0, false, .iter s p⟩], ztNa0, mkT j [(14, .e (.one (.ptr 0 0)))] 35 0⟩
def nq20 (s : ByteArray) (i : Nat) (j : JN) : St := ⟨[], ztNa1, mkT j [(0, .e (.one (.v (.string s)))), (3, (iN i))] 67 0⟩
def np83a_end (j : JN) : St := ⟨[], [.code .ret], mkT j [(2, (iB false))] 17 0⟩
theorem np83a (hE : EnvOk E) (r : Int) (h0 : (decide ((65 : Int) ≤ r) == true : Bool) = false) (h2 : (decide ((65 : Int) ≤ r) : Bool) = false) (h3 : (decide ((97 : Int) ≤ r) == true : Bool) = false) (h5 : (decide ((97 : Int) ≤ r) : Bool) = false) : Sg 0 0 (ns83 r) np83a_end := fun ho j =>
 oS hE [.run 3, .ops [(5, .pk false), (12, .pk false)] [(3, false), (4, false), (10, false), (11, false)]] [2] (aQ h0 h0 h2 h3 <| aP h3 <| aP h5 <| aZ)
  ho
def np83b_end (j : JN) : St := ⟨[], [.code .ret], mkT j [(2, (iB true))] 17 0⟩
theorem np83b (hE : EnvOk E) (r : Int) (h0 : (decide ((65 : Int) ≤ r) == true : Bool) = true) (h2 : (decide ((65 : Int) ≤ r) : Bool) = true) (h3 : (decide (r ≤ (90 : Int)) == false : Bool) = false) (h7 : (decide (r ≤ (90 : Int)) : Bool) = true) : Sg 0 0 (ns83 r) np83b_end := fun ho j =>
 oS hE [.run 3, .ops [(5, .pk true), (13, .pk true)] [(3, true), (4, true), (7, false), (8, false), (9, false), (12, false)]] [2] (aQ h0 h0 h2 h3 <| aQ h3 h3 h3 h7 <| aZ)
  ho
def np83c_end (j : JN) : St := ⟨[], [.code .ret], mkT j [(2, (iB false))] 17 0⟩
theorem np83c (hE : EnvOk E) (r : Int) (h0 : (decide ((65 : Int) ≤ r) == true : Bool) = true) (h2 : (decide ((65 : Int) ≤ r) : Bool) = true) (h3 : (decide (r ≤ (90 : Int)) == false : Bool) = true) (h6 : (decide ((97 : Int) ≤ r) == true : Bool) = false) (h9 : (decide ((97 : Int) ≤ r) : Bool) = false) (h10 : (decide (r ≤ (90 : Int)) : Bool) = false) : Sg 0 0 (ns83 r) np83c_end := fun ho j =>
 oS hE [.run 3, .ops [(5, .pk true), (12, .pk false), (13, .pk false)] [(3, true), (4, true), (7, true), (8, true), (9, true), (10, false), (11, false), (12, true)]] [2] (aQ h0 h0 h2 h3 <| aQ h3 h3 h6 h6 <| aP h3 <| aP h9 <| aP h10 <| aZ)
  ho
def np83d_end (r : Int) (j : JN) : St := ⟨[], [.code .ret], mkT j [(2, (iB (decide (r ≤ (122 : Int)))))] 17 0⟩
theorem np83d (hE : EnvOk E) (r : Int) (h0 : (decide ((65 : Int) ≤ r) == true : Bool) = true) (h2 : (decide ((65 : Int) ≤ r) : Bool) = true) (h3 : (decide (r ≤ (90 : Int)) == false : Bool) = true) (h6 : (decide ((97 : Int) ≤ r) == true : Bool) = true) (h9 : (decide ((97 : Int) ≤ r) : Bool) = true) (h10 : (decide (r ≤ (90 : Int)) : Bool) = false) : Sg 0 0 (ns83 r) (np83d_end r) := fun ho j =>
 oS hE [.run 3, .ops [(5, .pk true), (12, .pk true), (13, .pk false)] [(3, true), (4, true), (7, true), (8, true), (9, true), (10, true), (11, true), (12, true)]] [2] (aQ h0 h0 h2 h3 <| aQ h3 h3 h6 h6 <| aP h3 <| aP h9 <| aP h10 <| aZ)
  ho
def np84a_end (j : JN) : St := ⟨[], [.code .ret], mkT j [(2, (iB false))] 9 0⟩
theorem np84a (hE : EnvOk E) (r : Int) (h0 : (decide ((48 : Int) ≤ r) == true : Bool) = false) (h2 : (decide ((48 : Int) ≤ r) : Bool) = false) : Sg 0 0 (ns84 r) np84a_end := fun ho j =>
 oS hE [.run 3, .ops [(5, .pk false)] [(3, false), (4, false)]] [2] (aP h0 <| aP h0 <| aP h2 <| aZ)
  ho
def np84b_end (r : Int) (j : JN) : St := ⟨[], [.code .ret], mkT j [(2, (iB (decide (r ≤ (57 : Int)))))] 9 0⟩
theorem np84b (hE : EnvOk E) (r : Int) (h0 : (decide ((48 : Int) ≤ r) == true : Bool) = true) (h2 : (decide ((48 : Int) ≤ r) : Bool) = true) : Sg 0 0 (ns84 r) (np84b_end r) := fun ho j =>
 oS hE [.run 3, .ops [(5, .pk true)] [(3, true), (4, true)]] [2] (aP h0 <| aP h0 <| aP h2 <| aZ)
  ho
def np19z_end (j : JN) : St := ⟨[], [.code .ret, .code (aF [1, 1] Tryz.f181)], mkT j [(2, (iB false))] 35 0⟩
theorem np19z (hE : EnvOk E) (s : ByteArray) (n : Int) (h0 : ((iI (Int.ofNat s.size)) : AV) = (iI n)) (h1 : (decide (n < (1 : Int)) == false : Bool) = false) (h4 : (decide (n < (1 : Int)) : Bool) = true) : Sg 0 0 (ns19 s) np19z_end := fun ho j =>
 oS hE [.run 4, .ops [(1, .rn (iI n)), (7, .pk true)] [(4, false), (5, false), (6, false)], .run 3] [2] (aQ h0 h1 h1 h1 <| aP h4 <| aZ)
  ho
def np19g_end (j : JN) : St := ⟨[], [.code .ret, .code (aF [1, 1] Tryz.f181)], mkT j [(2, (iB false))] 35 0⟩
theorem np19g (hE : EnvOk E) (s : ByteArray) (n : Int) (h0 : ((iI (Int.ofNat s.size)) : AV) = (iI n)) (h1 : (decide (n < (1 : Int)) == false : Bool) = true) (h5 : (decide (n < (1 : Int)) : Bool) = false) (h6 : (decide (n > (24 : Int)) : Bool) = true) : Sg 0 0 (ns19 s) np19g_end := fun ho j =>
 oS hE [.run 4, .ops [(1, .rn (iI n)), (5, .rn (iI n)), (7, .pk false)] [(4, true), (5, true), (6, true)], .cond true, .run 2] [2] (aQ h0 h1 h1 h0 <| aP h1 <| aP h5 <| aP h6 <| aZ)
  ho
def np19a_end (s : ByteArray) (j : JN) : St := ⟨[.some ⟨[], 0, 0, false, .iter s 0⟩], ztNa0, mkT j [(14, .e (.one (.ptr 0 0)))] 35 0⟩
theorem np19a (hE : EnvOk E) (s : ByteArray) (n : Int) (h0 : ((iI (Int.ofNat s.size)) : AV) = (iI n)) (h1 : (decide (n < (1 : Int)) == false : Bool) = true) (h5 : (decide (n < (1 : Int)) : Bool) = false) (h6 : (decide (n > (24 : Int)) : Bool) = false) : Sg 0 0 (ns19 s) (np19a_end s) := fun ho j =>
 oS hE [.run 4, .ops [(1, .rn (iI n)), (5, .rn (iI n)), (7, .pk false)] [(4, true), (5, true), (6, true)], .cond false, .run 6] [14] (aQ h0 h1 h1 h0 <| aP h1 <| aP h5 <| aP h6 <| aZ)
  ho
def np20z_end (j : JN) : St := ⟨[], [.code .ret, .code (aF [1, 1] Tryz.f179)], mkT j [(2, (iB false))] 67 0⟩
theorem np20z (hE : EnvOk E) (s : ByteArray) (h0 : ((iB (s.toList == { data := #[] : ByteArray }.toList)) : AV) = (iB true)) : Sg 0 0 (ns20 s) np20z_end := fun ho j =>
 oS hE [.run 4, .ops [(1, .rn (iB true))] [], .run 3] [2] (aP h0 <| aZ)
  ho
def np20g_end (j : JN) : St := ⟨[], [.code .ret, .code (aF [1, 1] Tryz.f179)], mkT j [(2, (iB false))] 67 0⟩
theorem np20g (hE : EnvOk E) (s : ByteArray) (n : Int) (h0 : ((iB (s.toList == { data := #[] : ByteArray }.toList)) : AV) = (iB false)) (h1 : ((iI (Int.ofNat s.size)) : AV) = (iI n)) (h2 : (decide (n > (24 : Int)) : Bool) = true) : Sg 0 0 (ns20 s) np20g_end := fun ho j =>
 oS hE [.run 4, .ops [(1, .rn (iB false)), (4, .rn (iI n))] [], .cond true, .run 2] [2] (aP h0 <| aP h1 <| aP h2 <| aZ)
  ho
def np20a_end (s : ByteArray) (j : JN) : St := ⟨[], ztNa1, mkT j [(0, .e (.one (.v (.string s)))), (3, (iI 0))] 67 0⟩
theorem np20a (hE : EnvOk E) (s : ByteArray) (n : Int) (h0 : ((iB (s.toList == { data := #[] : ByteArray }.toList)) : AV) = (iB false)) (h1 : ((iI (Int.ofNat s.size)) : AV) = (iI n)) (h2 : (decide (n > (24 : Int)) : Bool) = false) : Sg 0 0 (ns20 s) (np20a_end s) := fun ho j =>
 oS hE [.run 4, .ops [(1, .rn (iB false)), (4, .rn (iI n))] [], .cond false, .run 6] [0, 3] (aP h0 <| aP h1 <| aP h2 <| aZ)
  ho
def np19x_end (j : JN) : St := ⟨[], [.code .ret], mkT j [(2, (iB true))] 35 0⟩
theorem np19x (hE : EnvOk E) (s : ByteArray) (p : Nat) (h0 : ¬p < s.size) : Sg 0 0 (nq19 s p) np19x_end := fun ho j =>
 oS hE [.run 1, .ops [(0, .nx none)] [], .run 5] [2] (s' := fun j => ⟨[.some ⟨[], 0, 0, false, .iter s p⟩], [.code .ret], mkT j [(2, (iB true))] 35 0⟩) (aP h0 <| aZ)
  fun j => gZ [] (ho j)
def np19l_end (s : ByteArray) (q : Nat) (j : JN) : St := ⟨[.some ⟨[], 0, 0, false, .iter s q⟩], ztNa0, mkT j [(14, .e (.one (.ptr 0 0)))] 35 0⟩
theorem np19l (hE : EnvOk E) (s : ByteArray) (p q r : Nat) (l d : Bool) (h0 : p < s.size) (h1 : ((Utf8.decode s p).fst : Nat) = r) (h2 : (p + (Utf8.decode s p).snd : Nat) = q) (h3 : COut E 0 [] 196 [.e (.one (.v (.int .i32 (Int.ofNat r))))] (iB l) []) (h5 : ((!l) == true : Bool) = false) (h9 : (!l : Bool) = false) : Sg 0 0 (nq19 s p) (np19l_end s q) := fun ho j =>
 oS hE [.run 1, .ops [(0, .nx (.some (r, q)))] [], .run 7, .ops [(1, .c0 (iB l)), (8, .c0 (iB d)), (15, .pk false)] [(4, false), (5, false), (6, false), (14, false)], .run 4] [14] (aQ h0 h1 h2 h3 <| aN <| aQ h5 h5 h5 h5 <| aP h9 <| aZ)
  ho
def np19f_end (j : JN) : St := ⟨[], [.code .ret, .inBlock 1, .inLoop (aF [1, 1, 0, 1, 0, 0] Tryz.f181), .inBlock 0, .code (aF [1, 1, 1] Tryz.f181)], mkT j [(2, (iB false))] 35 0⟩
theorem np19f (hE : EnvOk E) (s : ByteArray) (p q r : Nat) (l d : Bool) (h0 : p < s.size) (h1 : ((Utf8.decode s p).fst : Nat) = r) (h2 : (p + (Utf8.decode s p).snd : Nat) = q) (h3 : COut E 0 [] 196 [.e (.one (.v (.int .i32 (Int.ofNat r))))] (iB l) []) (h5 : ((!l) == true : Bool) = true) (h8 : ((Int.ofNat p == (0 : Int)) == false : Bool) = false) (h14 : (Int.ofNat p == (0 : Int) : Bool) = true) (h15 : (!l : Bool) = true) : Sg 0 0 (nq19 s p) np19f_end := fun ho j =>
 oS hE [.run 1, .ops [(0, .nx (.some (r, q)))] [], .run 7, .ops [(1, .c0 (iB l)), (8, .c0 (iB d)), (14, .pk true), (15, .pk true)] [(4, true), (5, true), (6, true), (7, false), (8, false), (9, false), (10, false), (13, false), (14, true)], .run 3] [2] (s' := fun j => ⟨[.some ⟨[], 0, 0, false, .iter s q⟩], [.code .ret, .inBlock 1, .inLoop (aF [1, 1, 0, 1, 0, 0] Tryz.f181), .inBlock 0, .code (aF [1, 1, 1] Tryz.f181)], mkT j [(2, (iB false))] 35 0⟩) (aQ h0 h1 h2 h3 <| aN <| aQ h5 h5 h5 h8 <| aQ h8 h8 h8 h8 <| aP h5 <| aP h14 <| aP h15 <| aZ)
  fun j => gZ [] (ho j)
def np19d_end (s : ByteArray) (q : Nat) (j : JN) : St := ⟨[.some ⟨[], 0, 0, false, .iter s q⟩], ztNa0, mkT j [(14, .e (.one (.ptr 0 0)))] 35 0⟩
theorem np19d (hE : EnvOk E) (s : ByteArray) (p q r : Nat) (l d : Bool) (h0 : p < s.size) (h1 : ((Utf8.decode s p).fst : Nat) = r) (h2 : (p + (Utf8.decode s p).snd : Nat) = q) (h3 : COut E 0 [] 196 [.e (.one (.v (.int .i32 (Int.ofNat r))))] (iB l) []) (h5 : ((!l) == true : Bool) = true) (h8 : ((Int.ofNat p == (0 : Int)) == false : Bool) = true) (h10 : COut E 0 [] 197 [.e (.one (.v (.int .i32 (Int.ofNat r))))] (iB d) []) (h14 : ((!d) == true : Bool) = false) (h17 : (!d : Bool) = false) (h19 : (Int.ofNat p == (0 : Int) : Bool) = false) (h20 : (!l : Bool) = true) : Sg 0 0 (nq19 s p) (np19d_end s q) := fun ho j =>
 oS hE [.run 1, .ops [(0, .nx (.some (r, q)))] [], .run 7, .ops [(1, .c0 (iB l)), (8, .c0 (iB d)), (13, .pk false), (14, .pk false), (15, .pk true)] [(4, true), (5, true), (6, true), (7, true), (8, true), (9, true), (10, true), (11, false), (12, false), (13, true), (14, true)], .run 4] [14] (aQ h0 h1 h2 h3 <| aN <| aQ h5 h5 h5 h8 <| aP h8 <| aP h10 <| aN <| aQ h8 h8 h14 h14 <| aQ h8 h17 h5 h19 <| aP h20 <| aZ)
  ho
def np19u_end (s : ByteArray) (q : Nat) (j : JN) : St := ⟨[.some ⟨[], 0, 0, false, .iter s q⟩], ztNa0, mkT j [(14, .e (.one (.ptr 0 0)))] 35 0⟩
theorem np19u (hE : EnvOk E) (s : ByteArray) (p q r : Nat) (l d : Bool) (h0 : p < s.size) (h1 : ((Utf8.decode s p).fst : Nat) = r) (h2 : (p + (Utf8.decode s p).snd : Nat) = q) (h3 : COut E 0 [] 196 [.e (.one (.v (.int .i32 (Int.ofNat r))))] (iB l) []) (h5 : ((!l) == true : Bool) = true) (h8 : ((Int.ofNat p == (0 : Int)) == false : Bool) = true) (h10 : COut E 0 [] 197 [.e (.one (.v (.int .i32 (Int.ofNat r))))] (iB d) []) (h14 : ((!d) == true : Bool) = true) (h17 : (!d : Bool) = true) (h19 : (Int.ofNat p == (0 : Int) : Bool) = false) (h20 : (!l : Bool) = true) (h21 : (Int.ofNat r != (95 : Int) : Bool) = false) : Sg 0 0 (nq19 s p) (np19u_end s q) := fun ho j =>
 oS hE [.run 1, .ops [(0, .nx (.some (r, q)))] [], .run 7, .ops [(1, .c0 (iB l)), (8, .c0 (iB d)), (13, .pk true), (14, .pk false), (15, .pk true)] [(4, true), (5, true), (6, true), (7, true), (8, true), (9, true), (10, true), (11, true), (12, true), (13, true), (14, true)], .cond false, .run 3] [14] (aQ h0 h1 h2 h3 <| aN <| aQ h5 h5 h5 h8 <| aP h8 <| aP h10 <| aN <| aQ h8 h8 h14 h14 <| aQ h8 h17 h5 h19 <| aP h20 <| aP h21 <| aZ)
  ho
def np19b_end (j : JN) : St := ⟨[], [.code .ret, .inBlock 1, .inLoop (aF [1, 1, 0, 1, 0, 0] Tryz.f181), .inBlock 0, .code (aF [1, 1, 1] Tryz.f181)], mkT j [(2, (iB false))] 35 0⟩
theorem np19b (hE : EnvOk E) (s : ByteArray) (p q r : Nat) (l d : Bool) (h0 : p < s.size) (h1 : ((Utf8.decode s p).fst : Nat) = r) (h2 : (p + (Utf8.decode s p).snd : Nat) = q) (h3 : COut E 0 [] 196 [.e (.one (.v (.int .i32 (Int.ofNat r))))] (iB l) []) (h5 : ((!l) == true : Bool) = true) (h8 : ((Int.ofNat p == (0 : Int)) == false : Bool) = true) (h10 : COut E 0 [] 197 [.e (.one (.v (.int .i32 (Int.ofNat r))))] (iB d) []) (h14 : ((!d) == true : Bool) = true) (h17 : (!d : Bool) = true) (h19 : (Int.ofNat p == (0 : Int) : Bool) = false) (h20 : (!l : Bool) = true) (h21 : (Int.ofNat r != (95 : Int) : Bool) = true) : Sg 0 0 (nq19 s p) np19b_end := fun ho j =>
 oS hE [.run 1, .ops [(0, .nx (.some (r, q)))] [], .run 7, .ops [(1, .c0 (iB l)), (8, .c0 (iB d)), (13, .pk true), (14, .pk false), (15, .pk true)] [(4, true), (5, true), (6, true), (7, true), (8, true), (9, true), (10, true), (11, true), (12, true), (13, true), (14, true)], .cond true, .run 2] [2] (s' := fun j => ⟨[.some ⟨[], 0, 0, false, .iter s q⟩], [.code .ret, .inBlock 1, .inLoop (aF [1, 1, 0, 1, 0, 0] Tryz.f181), .inBlock 0, .code (aF [1, 1, 1] Tryz.f181)], mkT j [(2, (iB false))] 35 0⟩) (aQ h0 h1 h2 h3 <| aN <| aQ h5 h5 h5 h8 <| aP h8 <| aP h10 <| aN <| aQ h8 h8 h14 h14 <| aQ h8 h17 h5 h19 <| aP h20 <| aP h21 <| aZ)
  fun j => gZ [] (ho j)
def np20x_end (j : JN) : St := ⟨[], [.code .ret], mkT j [(2, (iB true))] 67 0⟩
theorem np20x (hE : EnvOk E) (s : ByteArray) (n : Int) (i : Nat) (h0 : ((iI (Int.ofNat s.size)) : AV) = (iI n)) (h1 : (decide (Int.ofNat i < n) : Bool) = false) : Sg 0 0 (nq20 s i) np20x_end := fun ho j =>
 oS hE [.run 2, .ops [(2, .rn (iI n))] [], .cond false, .run 3] [2] (aP h0 <| aP h1 <| aZ)
  ho
def np20x1_end (j : JN) : St := ⟨[], [.code .ret, .inBlock 1, .code (aF [1, 1, 0, 1, 0, 0, 1, 1] Tryz.f179), .inLoop (aF [1, 1, 0, 1, 0, 0] Tryz.f179), .inBlock 0, .code (aF [1, 1, 1] Tryz.f179)], mkT j [(2, (iB false))] 67 0⟩
theorem np20x1 (hE : EnvOk E) (s : ByteArray) (n : Int) (i b : Nat) (h0 : ((iI (Int.ofNat s.size)) : AV) = (iI n)) (h1 : (decide (Int.ofNat i < n) : Bool) = true) (h2 : (0 : Int) ≤ Int.ofNat i) (h3 : (Option.map UInt8.toNat s[(Int.ofNat i).toNat]? : Option Nat) = (.some b)) (h4 : (decide (Int.ofNat b ≥ (97 : Int)) == true : Bool) = false) (h8 : (decide (Int.ofNat b ≥ (97 : Int)) : Bool) = false) (h11 : (decide (Int.ofNat b ≥ (65 : Int)) == true : Bool) = false) (h15 : (decide (Int.ofNat b ≥ (65 : Int)) : Bool) = false) (h18 : (decide (Int.ofNat b ≥ (48 : Int)) == true : Bool) = false) (h22 : (decide (Int.ofNat b ≥ (48 : Int)) : Bool) = false) (h28 : ((Int.ofNat i == (0 : Int)) == false : Bool) = true) (h31 : (Int.ofNat i == (0 : Int) : Bool) = false) (h33 : (!Int.ofNat b == (95 : Int) : Bool) = true) : Sg 0 0 (nq20 s i) np20x1_end := fun ho j =>
 oS hE [.run 2, .ops [(2, .rn (iI n))] [], .cond true, .run 4, .ops [(2, .si b), (7, .si b), (13, .si b), (18, .si b), (9, .pk false), (20, .pk false)] [(5, false), (6, false), (7, false), (8, false), (16, false), (17, false), (18, false), (19, false)], .run 1, .ops [(2, .si b), (7, .si b), (13, .si b), (9, .pk false)] [(5, false), (6, false), (7, false), (8, false)], .run 1, .ops [(8, .pk false), (9, .pk true)] [(3, true), (4, true), (5, true), (6, true), (7, true), (8, true)], .cond true, .run 2] [2] (aQ h0 h1 h2 h3 <| aQ h4 h4 h4 h4 <| aQ h8 h2 h3 h11 <| aQ h11 h11 h11 h15 <| aQ h2 h3 h18 h18 <| aQ h18 h18 h22 h2 <| aP h3 <| aV <| aV <| aV <| aP h28 <| aP h28 <| aV <| aP h31 <| aV <| aP h33 <| aZ)
  ho
def np20d1_end (s : ByteArray) (i : Nat) (j : JN) : St := ⟨[], ztNa1, mkT j [(0, .e (.one (.v (.string s)))), (3, (iN (i + 1)))] 67 0⟩
theorem np20d1 (hE : EnvOk E) (s : ByteArray) (n : Int) (i b : Nat) (h0 : ((iI (Int.ofNat s.size)) : AV) = (iI n)) (h1 : (decide (Int.ofNat i < n) : Bool) = true) (h2 : (0 : Int) ≤ Int.ofNat i) (h3 : (Option.map UInt8.toNat s[(Int.ofNat i).toNat]? : Option Nat) = (.some b)) (h4 : (decide (Int.ofNat b ≥ (97 : Int)) == true : Bool) = false) (h8 : (decide (Int.ofNat b ≥ (97 : Int)) : Bool) = false) (h11 : (decide (Int.ofNat b ≥ (65 : Int)) == true : Bool) = false) (h15 : (decide (Int.ofNat b ≥ (65 : Int)) : Bool) = false) (h18 : (decide (Int.ofNat b ≥ (48 : Int)) == true : Bool) = true) (h24 : (decide (Int.ofNat b ≥ (48 : Int)) : Bool) = true) (h25 : (decide (Int.ofNat b ≤ (57 : Int)) == false : Bool) = false) (h29 : (decide (Int.ofNat b ≤ (57 : Int)) : Bool) = true) (h33 : ((Int.ofNat i == (0 : Int)) == false : Bool) = true) (h36 : (Int.ofNat i == (0 : Int) : Bool) = false) (h38 : ((iI (wrapF IntKind.i64 (Int.ofNat i + (1 : Int)))) : AV) = (iN (i + 1))) : Sg 0 0 (nq20 s i) (np20d1_end s i) := fun ho j =>
 oS hE [.run 2, .ops [(2, .rn (iI n))] [], .cond true, .run 4, .ops [(2, .si b), (7, .si b), (13, .si b), (18, .si b), (9, .pk false), (20, .pk false)] [(5, false), (6, false), (7, false), (8, false), (16, false), (17, false), (18, false), (19, false)], .run 1, .ops [(2, .si b), (7, .si b), (13, .si b), (9, .pk true), (15, .pk true)] [(5, true), (6, true), (7, true), (8, true), (11, false), (12, false), (13, false), (14, false)], .run 1, .ops [(8, .pk false), (9, .pk true)] [(3, true), (4, true), (5, true), (6, true), (7, true), (8, true)], .run 3, .ops [(1, .rn (iN (i + 1)))] [], .run 1] [0, 3] (aQ h0 h1 h2 h3 <| aQ h4 h4 h4 h4 <| aQ h8 h2 h3 h11 <| aQ h11 h11 h11 h15 <| aQ h2 h3 h18 h18 <| aQ h18 h2 h3 h18 <| aQ h24 h25 h25 h25 <| aP h25 <| aP h29 <| aV <| aV <| aV <| aP h33 <| aP h33 <| aV <| aP h36 <| aV <| aP h38 <| aZ)
  ho
def np20c1_end (j : JN) : St := ⟨[], [.code .ret, .inBlock 1, .code (aF [1, 1, 0, 1, 0, 0, 1, 1] Tryz.f179), .inLoop (aF [1, 1, 0, 1, 0, 0] Tryz.f179), .inBlock 0, .code (aF [1, 1, 1] Tryz.f179)], mkT j [(2, (iB false))] 67 0⟩
theorem np20c1 (hE : EnvOk E) (s : ByteArray) (n : Int) (i b : Nat) (h0 : ((iI (Int.ofNat s.size)) : AV) = (iI n)) (h1 : (decide (Int.ofNat i < n) : Bool) = true) (h2 : (0 : Int) ≤ Int.ofNat i) (h3 : (Option.map UInt8.toNat s[(Int.ofNat i).toNat]? : Option Nat) = (.some b)) (h4 : (decide (Int.ofNat b ≥ (97 : Int)) == true : Bool) = false) (h8 : (decide (Int.ofNat b ≥ (97 : Int)) : Bool) = false) (h11 : (decide (Int.ofNat b ≥ (65 : Int)) == true : Bool) = false) (h15 : (decide (Int.ofNat b ≥ (65 : Int)) : Bool) = false) (h18 : (decide (Int.ofNat b ≥ (48 : Int)) == true : Bool) = true) (h24 : (decide (Int.ofNat b ≥ (48 : Int)) : Bool) = true) (h25 : (decide (Int.ofNat b ≤ (57 : Int)) == false : Bool) = true) (h31 : (decide (Int.ofNat b ≤ (57 : Int)) : Bool) = false) (h35 : ((Int.ofNat i == (0 : Int)) == false : Bool) = true) (h38 : (Int.ofNat i == (0 : Int) : Bool) = false) (h40 : (!Int.ofNat b == (95 : Int) : Bool) = true) : Sg 0 0 (nq20 s i) np20c1_end := fun ho j =>
 oS hE [.run 2, .ops [(2, .rn (iI n))] [], .cond true, .run 4, .ops [(2, .si b), (7, .si b), (13, .si b), (18, .si b), (9, .pk false), (20, .pk false)] [(5, false), (6, false), (7, false), (8, false), (16, false), (17, false), (18, false), (19, false)], .run 1, .ops [(2, .si b), (7, .si b), (13, .si b), (9, .pk true), (15, .pk false)] [(5, true), (6, true), (7, true), (8, true), (11, true), (12, true), (13, true), (14, true)], .run 1, .ops [(8, .pk false), (9, .pk true)] [(3, true), (4, true), (5, true), (6, true), (7, true), (8, true)], .cond true, .run 2] [2] (aQ h0 h1 h2 h3 <| aQ h4 h4 h4 h4 <| aQ h8 h2 h3 h11 <| aQ h11 h11 h11 h15 <| aQ h2 h3 h18 h18 <| aQ h18 h2 h3 h18 <| aQ h24 h25 h25 h25 <| aQ h2 h3 h25 h31 <| aV <| aV <| aV <| aP h35 <| aP h35 <| aV <| aP h38 <| aV <| aP h40 <| aZ)
  ho
def np20u1_end (s : ByteArray) (i : Nat) (j : JN) : St := ⟨[], ztNa1, mkT j [(0, .e (.one (.v (.string s)))), (3, (iN (i + 1)))] 67 0⟩
theorem np20u1 (hE : EnvOk E) (s : ByteArray) (n : Int) (i b : Nat) (h0 : ((iI (Int.ofNat s.size)) : AV) = (iI n)) (h1 : (decide (Int.ofNat i < n) : Bool) = true) (h2 : (0 : Int) ≤ Int.ofNat i) (h3 : (Option.map UInt8.toNat s[(Int.ofNat i).toNat]? : Option Nat) = (.some b)) (h4 : (decide (Int.ofNat b ≥ (97 : Int)) == true : Bool) = false) (h8 : (decide (Int.ofNat b ≥ (97 : Int)) : Bool) = false) (h11 : (decide (Int.ofNat b ≥ (65 : Int)) == true : Bool) = true) (h17 : (decide (Int.ofNat b ≥ (65 : Int)) : Bool) = true) (h20 : (decide (Int.ofNat b ≥ (48 : Int)) == true : Bool) = true) (h26 : (decide (Int.ofNat b ≥ (48 : Int)) : Bool) = true) (h27 : (decide (Int.ofNat b ≤ (57 : Int)) == false : Bool) = true) (h33 : (decide (Int.ofNat b ≤ (57 : Int)) : Bool) = false) (h34 : ((!decide (Int.ofNat b ≤ (90 : Int))) == true : Bool) = false) (h38 : (!decide (Int.ofNat b ≤ (90 : Int)) : Bool) = false) (h39 : ((iI (wrapF IntKind.i64 (Int.ofNat i + (1 : Int)))) : AV) = (iN (i + 1))) : Sg 0 0 (nq20 s i) (np20u1_end s i) := fun ho j =>
 oS hE [.run 2, .ops [(2, .rn (iI n))] [], .cond true, .run 4, .ops [(2, .si b), (7, .si b), (13, .si b), (18, .si b), (9, .pk false), (20, .pk true)] [(5, false), (6, false), (7, false), (8, false), (16, true), (17, true), (18, true), (19, true)], .run 1, .ops [(2, .si b), (7, .si b), (13, .si b), (9, .pk true), (15, .pk false)] [(5, true), (6, true), (7, true), (8, true), (11, true), (12, true), (13, true), (14, true)], .run 1, .ops [(9, .pk false)] [(3, false), (4, false), (5, false), (8, false)], .run 3, .ops [(1, .rn (iN (i + 1)))] [], .run 1] [0, 3] (aQ h0 h1 h2 h3 <| aQ h4 h4 h4 h4 <| aQ h8 h2 h3 h11 <| aQ h11 h11 h2 h3 <| aQ h11 h17 h2 h3 <| aQ h20 h20 h20 h2 <| aQ h3 h20 h26 h27 <| aQ h27 h27 h2 h3 <| aQ h27 h33 h34 h34 <| aQ h34 h34 h38 h39 <| aZ)
  ho
def np20v1_end (j : JN) : St := ⟨[], [.code .ret, .inBlock 1, .code (aF [1, 1, 0, 1, 0, 0, 1, 1] Tryz.f179), .inLoop (aF [1, 1, 0, 1, 0, 0] Tryz.f179), .inBlock 0, .code (aF [1, 1, 1] Tryz.f179)], mkT j [(2, (iB false))] 67 0⟩
theorem np20v1 (hE : EnvOk E) (s : ByteArray) (n : Int) (i b : Nat) (h0 : ((iI (Int.ofNat s.size)) : AV) = (iI n)) (h1 : (decide (Int.ofNat i < n) : Bool) = true) (h2 : (0 : Int) ≤ Int.ofNat i) (h3 : (Option.map UInt8.toNat s[(Int.ofNat i).toNat]? : Option Nat) = (.some b)) (h4 : (decide (Int.ofNat b ≥ (97 : Int)) == true : Bool) = false) (h8 : (decide (Int.ofNat b ≥ (97 : Int)) : Bool) = false) (h11 : (decide (Int.ofNat b ≥ (65 : Int)) == true : Bool) = true) (h17 : (decide (Int.ofNat b ≥ (65 : Int)) : Bool) = true) (h20 : (decide (Int.ofNat b ≥ (48 : Int)) == true : Bool) = true) (h26 : (decide (Int.ofNat b ≥ (48 : Int)) : Bool) = true) (h27 : (decide (Int.ofNat b ≤ (57 : Int)) == false : Bool) = true) (h33 : (decide (Int.ofNat b ≤ (57 : Int)) : Bool) = false) (h34 : ((!decide (Int.ofNat b ≤ (90 : Int))) == true : Bool) = true) (h37 : ((Int.ofNat i == (0 : Int)) == false : Bool) = true) (h40 : (Int.ofNat i == (0 : Int) : Bool) = false) (h41 : (!decide (Int.ofNat b ≤ (90 : Int)) : Bool) = true) (h42 : (!Int.ofNat b == (95 : Int) : Bool) = true) : Sg 0 0 (nq20 s i) np20v1_end := fun ho j =>
 oS hE [.run 2, .ops [(2, .rn (iI n))] [], .cond true, .run 4, .ops [(2, .si b), (7, .si b), (13, .si b), (18, .si b), (9, .pk false), (20, .pk true)] [(5, false), (6, false), (7, false), (8, false), (16, true), (17, true), (18, true), (19, true)], .run 1, .ops [(2, .si b), (7, .si b), (13, .si b), (9, .pk true), (15, .pk false)] [(5, true), (6, true), (7, true), (8, true), (11, true), (12, true), (13, true), (14, true)], .run 1, .ops [(8, .pk false), (9, .pk true)] [(3, true), (4, true), (5, true), (6, true), (7, true), (8, true)], .cond true, .run 2] [2] (aQ h0 h1 h2 h3 <| aQ h4 h4 h4 h4 <| aQ h8 h2 h3 h11 <| aQ h11 h11 h2 h3 <| aQ h11 h17 h2 h3 <| aQ h20 h20 h20 h2 <| aQ h3 h20 h26 h27 <| aQ h27 h27 h2 h3 <| aQ h27 h33 h34 h34 <| aQ h34 h37 h37 h34 <| aP h40 <| aP h41 <| aP h42 <| aZ)
  ho
def np20w1_end (s : ByteArray) (i : Nat) (j : JN) : St := ⟨[], ztNa1, mkT j [(0, .e (.one (.v (.string s)))), (3, (iN (i + 1)))] 67 0⟩
theorem np20w1 (hE : EnvOk E) (s : ByteArray) (n : Int) (i b : Nat) (h0 : ((iI (Int.ofNat s.size)) : AV) = (iI n)) (h1 : (decide (Int.ofNat i < n) : Bool) = true) (h2 : (0 : Int) ≤ Int.ofNat i) (h3 : (Option.map UInt8.toNat s[(Int.ofNat i).toNat]? : Option Nat) = (.some b)) (h4 : (decide (Int.ofNat b ≥ (97 : Int)) == true : Bool) = false) (h8 : (decide (Int.ofNat b ≥ (97 : Int)) : Bool) = false) (h11 : (decide (Int.ofNat b ≥ (65 : Int)) == true : Bool) = true) (h17 : (decide (Int.ofNat b ≥ (65 : Int)) : Bool) = true) (h20 : (decide (Int.ofNat b ≥ (48 : Int)) == true : Bool) = true) (h26 : (decide (Int.ofNat b ≥ (48 : Int)) : Bool) = true) (h27 : (decide (Int.ofNat b ≤ (57 : Int)) == false : Bool) = true) (h33 : (decide (Int.ofNat b ≤ (57 : Int)) : Bool) = false) (h34 : ((!decide (Int.ofNat b ≤ (90 : Int))) == true : Bool) = true) (h37 : ((Int.ofNat i == (0 : Int)) == false : Bool) = true) (h40 : (Int.ofNat i == (0 : Int) : Bool) = false) (h41 : (!decide (Int.ofNat b ≤ (90 : Int)) : Bool) = true) (h42 : (!Int.ofNat b == (95 : Int) : Bool) = false) (h43 : ((iI (wrapF IntKind.i64 (Int.ofNat i + (1 : Int)))) : AV) = (iN (i + 1))) : Sg 0 0 (nq20 s i) (np20w1_end s i) := fun ho j =>
 oS hE [.run 2, .ops [(2, .rn (iI n))] [], .cond true, .run 4, .ops [(2, .si b), (7, .si b), (13, .si b), (18, .si b), (9, .pk false), (20, .pk true)] [(5, false), (6, false), (7, false), (8, false), (16, true), (17, true), (18, true), (19, true)], .run 1, .ops [(2, .si b), (7, .si b), (13, .si b), (9, .pk true), (15, .pk false)] [(5, true), (6, true), (7, true), (8, true), (11, true), (12, true), (13, true), (14, true)], .run 1, .ops [(8, .pk false), (9, .pk true)] [(3, true), (4, true), (5, true), (6, true), (7, true), (8, true)], .cond false, .run 2, .ops [(1, .rn (iN (i + 1)))] [], .run 1] [0, 3] (aQ h0 h1 h2 h3 <| aQ h4 h4 h4 h4 <| aQ h8 h2 h3 h11 <| aQ h11 h11 h2 h3 <| aQ h11 h17 h2 h3 <| aQ h20 h20 h20 h2 <| aQ h3 h20 h26 h27 <| aQ h27 h27 h2 h3 <| aQ h27 h33 h34 h34 <| aQ h34 h37 h37 h34 <| aQ h40 h41 h42 h43 <| aZ)
  ho
def np20m1_end (s : ByteArray) (i : Nat) (j : JN) : St := ⟨[], ztNa1, mkT j [(0, .e (.one (.v (.string s)))), (3, (iN (i + 1)))] 67 0⟩
theorem np20m1 (hE : EnvOk E) (s : ByteArray) (n : Int) (i b : Nat) (h0 : ((iI (Int.ofNat s.size)) : AV) = (iI n)) (h1 : (decide (Int.ofNat i < n) : Bool) = true) (h2 : (0 : Int) ≤ Int.ofNat i) (h3 : (Option.map UInt8.toNat s[(Int.ofNat i).toNat]? : Option Nat) = (.some b)) (h4 : (decide (Int.ofNat b ≥ (97 : Int)) == true : Bool) = true) (h10 : (decide (Int.ofNat b ≥ (97 : Int)) : Bool) = true) (h11 : (decide (Int.ofNat b ≤ (122 : Int)) == false : Bool) = false) (h17 : (decide (Int.ofNat b ≤ (122 : Int)) : Bool) = true) (h20 : (decide (Int.ofNat b ≥ (48 : Int)) == true : Bool) = true) (h26 : (decide (Int.ofNat b ≥ (48 : Int)) : Bool) = true) (h27 : (decide (Int.ofNat b ≤ (57 : Int)) == false : Bool) = true) (h33 : (decide (Int.ofNat b ≤ (57 : Int)) : Bool) = false) (h34 : ((iI (wrapF IntKind.i64 (Int.ofNat i + (1 : Int)))) : AV) = (iN (i + 1))) : Sg 0 0 (nq20 s i) (np20m1_end s i) := fun ho j =>
 oS hE [.run 2, .ops [(2, .rn (iI n))] [], .cond true, .run 4, .ops [(2, .si b), (7, .si b), (13, .si b), (18, .si b), (9, .pk true), (21, .pk true)] [(5, true), (6, true), (7, true), (8, true), (11, false), (12, false), (13, false), (14, false), (15, false), (20, false)], .run 1, .ops [(2, .si b), (7, .si b), (13, .si b), (9, .pk true), (15, .pk false)] [(5, true), (6, true), (7, true), (8, true), (11, true), (12, true), (13, true), (14, true)], .run 5, .ops [(1, .rn (iN (i + 1)))] [], .run 1] [0, 3] (aQ h0 h1 h2 h3 <| aQ h4 h4 h4 h2 <| aQ h3 h4 h10 h11 <| aQ h11 h11 h11 h11 <| aQ h11 h17 h2 h3 <| aQ h20 h20 h20 h2 <| aQ h3 h20 h26 h27 <| aQ h27 h27 h2 h3 <| aP h27 <| aP h33 <| aP h34 <| aZ)
  ho
def np20y1_end (j : JN) : St := ⟨[], [.code .ret, .inBlock 1, .code (aF [1, 1, 0, 1, 0, 0, 1, 1] Tryz.f179), .inLoop (aF [1, 1, 0, 1, 0, 0] Tryz.f179), .inBlock 0, .code (aF [1, 1, 1] Tryz.f179)], mkT j [(2, (iB false))] 67 0⟩
theorem np20y1 (hE : EnvOk E) (s : ByteArray) (n : Int) (i b : Nat) (h0 : ((iI (Int.ofNat s.size)) : AV) = (iI n)) (h1 : (decide (Int.ofNat i < n) : Bool) = true) (h2 : (0 : Int) ≤ Int.ofNat i) (h3 : (Option.map UInt8.toNat s[(Int.ofNat i).toNat]? : Option Nat) = (.some b)) (h4 : (decide (Int.ofNat b ≥ (97 : Int)) == true : Bool) = true) (h10 : (decide (Int.ofNat b ≥ (97 : Int)) : Bool) = true) (h11 : (decide (Int.ofNat b ≤ (122 : Int)) == false : Bool) = true) (h18 : (decide (Int.ofNat b ≥ (65 : Int)) == true : Bool) = true) (h25 : (decide (Int.ofNat b ≥ (65 : Int)) : Bool) = true) (h26 : (decide (Int.ofNat b ≤ (122 : Int)) : Bool) = false) (h29 : (decide (Int.ofNat b ≥ (48 : Int)) == true : Bool) = true) (h35 : (decide (Int.ofNat b ≥ (48 : Int)) : Bool) = true) (h36 : (decide (Int.ofNat b ≤ (57 : Int)) == false : Bool) = true) (h42 : (decide (Int.ofNat b ≤ (57 : Int)) : Bool) = false) (h43 : ((!decide (Int.ofNat b ≤ (90 : Int))) == true : Bool) = true) (h46 : ((Int.ofNat i == (0 : Int)) == false : Bool) = true) (h49 : (Int.ofNat i == (0 : Int) : Bool) = false) (h50 : (!decide (Int.ofNat b ≤ (90 : Int)) : Bool) = true) (h51 : (!Int.ofNat b == (95 : Int) : Bool) = true) : Sg 0 0 (nq20 s i) np20y1_end := fun ho j =>
 oS hE [.run 2, .ops [(2, .rn (iI n))] [], .cond true, .run 4, .ops [(2, .si b), (7, .si b), (13, .si b), (18, .si b), (9, .pk true), (20, .pk true), (21, .pk false)] [(5, true), (6, true), (7, true), (8, true), (11, true), (12, true), (13, true), (14, true), (15, true), (16, true), (17, true), (18, true), (19, true), (20, true)], .run 1, .ops [(2, .si b), (7, .si b), (13, .si b), (9, .pk true), (15, .pk false)] [(5, true), (6, true), (7, true), (8, true), (11, true), (12, true), (13, true), (14, true)], .run 1, .ops [(8, .pk false), (9, .pk true)] [(3, true), (4, true), (5, true), (6, true), (7, true), (8, true)], .cond true, .run 2] [2] (aQ h0 h1 h2 h3 <| aQ h4 h4 h4 h2 <| aQ h3 h4 h10 h11 <| aQ h11 h11 h2 h3 <| aQ h11 h11 h18 h18 <| aQ h18 h2 h3 h18 <| aQ h11 h25 h26 h2 <| aQ h3 h29 h29 h29 <| aQ h2 h3 h29 h35 <| aQ h36 h36 h36 h2 <| aQ h3 h36 h42 h43 <| aQ h43 h43 h46 h46 <| aQ h43 h49 h50 h51 <| aZ)
  ho
def np20x0_end (j : JN) : St := ⟨[], [.code .ret, .inBlock 1, .code (aF [1, 1, 0, 1, 0, 0, 1, 1] Tryz.f179), .inLoop (aF [1, 1, 0, 1, 0, 0] Tryz.f179), .inBlock 0, .code (aF [1, 1, 1] Tryz.f179)], mkT j [(2, (iB false))] 67 0⟩
theorem np20x0 (hE : EnvOk E) (s : ByteArray) (n : Int) (i b : Nat) (h0 : ((iI (Int.ofNat s.size)) : AV) = (iI n)) (h1 : (decide (Int.ofNat i < n) : Bool) = true) (h2 : (0 : Int) ≤ Int.ofNat i) (h3 : (Option.map UInt8.toNat s[(Int.ofNat i).toNat]? : Option Nat) = (.some b)) (h4 : (decide (Int.ofNat b ≥ (97 : Int)) == true : Bool) = false) (h8 : (decide (Int.ofNat b ≥ (97 : Int)) : Bool) = false) (h11 : (decide (Int.ofNat b ≥ (65 : Int)) == true : Bool) = false) (h15 : (decide (Int.ofNat b ≥ (65 : Int)) : Bool) = false) (h18 : (decide (Int.ofNat b ≥ (48 : Int)) == true : Bool) = false) (h22 : (decide (Int.ofNat b ≥ (48 : Int)) : Bool) = false) (h28 : ((Int.ofNat i == (0 : Int)) == false : Bool) = false) (h31 : (Int.ofNat i == (0 : Int) : Bool) = true) : Sg 0 0 (nq20 s i) np20x0_end := fun ho j =>
 oS hE [.run 2, .ops [(2, .rn (iI n))] [], .cond true, .run 4, .ops [(2, .si b), (7, .si b), (13, .si b), (18, .si b), (9, .pk false), (20, .pk false)] [(5, false), (6, false), (7, false), (8, false), (16, false), (17, false), (18, false), (19, false)], .run 1, .ops [(2, .si b), (7, .si b), (13, .si b), (9, .pk false)] [(5, false), (6, false), (7, false), (8, false)], .run 1, .ops [(8, .pk true), (9, .pk true)] [(3, true), (4, true), (5, true), (6, false), (7, false), (8, true)], .run 3] [2] (aQ h0 h1 h2 h3 <| aQ h4 h4 h4 h4 <| aQ h8 h2 h3 h11 <| aQ h11 h11 h11 h15 <| aQ h2 h3 h18 h18 <| aQ h18 h18 h22 h2 <| aP h3 <| aV <| aV <| aV <| aP h28 <| aP h28 <| aV <| aP h31 <| aV <| aZ)
  ho
def np20d0_end (j : JN) : St := ⟨[], [.code .ret, .inBlock 1, .code (aF [1, 1, 0, 1, 0, 0, 1, 1] Tryz.f179), .inLoop (aF [1, 1, 0, 1, 0, 0] Tryz.f179), .inBlock 0, .code (aF [1, 1, 1] Tryz.f179)], mkT j [(2, (iB false))] 67 0⟩
theorem np20d0 (hE : EnvOk E) (s : ByteArray) (n : Int) (i b : Nat) (h0 : ((iI (Int.ofNat s.size)) : AV) = (iI n)) (h1 : (decide (Int.ofNat i < n) : Bool) = true) (h2 : (0 : Int) ≤ Int.ofNat i) (h3 : (Option.map UInt8.toNat s[(Int.ofNat i).toNat]? : Option Nat) = (.some b)) (h4 : (decide (Int.ofNat b ≥ (97 : Int)) == true : Bool) = false) (h8 : (decide (Int.ofNat b ≥ (97 : Int)) : Bool) = false) (h11 : (decide (Int.ofNat b ≥ (65 : Int)) == true : Bool) = false) (h15 : (decide (Int.ofNat b ≥ (65 : Int)) : Bool) = false) (h18 : (decide (Int.ofNat b ≥ (48 : Int)) == true : Bool) = true) (h24 : (decide (Int.ofNat b ≥ (48 : Int)) : Bool) = true) (h25 : (decide (Int.ofNat b ≤ (57 : Int)) == false : Bool) = false) (h29 : (decide (Int.ofNat b ≤ (57 : Int)) : Bool) = true) (h33 : ((Int.ofNat i == (0 : Int)) == false : Bool) = false) (h36 : (Int.ofNat i == (0 : Int) : Bool) = true) : Sg 0 0 (nq20 s i) np20d0_end := fun ho j =>
 oS hE [.run 2, .ops [(2, .rn (iI n))] [], .cond true, .run 4, .ops [(2, .si b), (7, .si b), (13, .si b), (18, .si b), (9, .pk false), (20, .pk false)] [(5, false), (6, false), (7, false), (8, false), (16, false), (17, false), (18, false), (19, false)], .run 1, .ops [(2, .si b), (7, .si b), (13, .si b), (9, .pk true), (15, .pk true)] [(5, true), (6, true), (7, true), (8, true), (11, false), (12, false), (13, false), (14, false)], .run 1, .ops [(8, .pk true), (9, .pk true)] [(3, true), (4, true), (5, true), (6, false), (7, false), (8, true)], .run 3] [2] (aQ h0 h1 h2 h3 <| aQ h4 h4 h4 h4 <| aQ h8 h2 h3 h11 <| aQ h11 h11 h11 h15 <| aQ h2 h3 h18 h18 <| aQ h18 h2 h3 h18 <| aQ h24 h25 h25 h25 <| aP h25 <| aP h29 <| aV <| aV <| aV <| aP h33 <| aP h33 <| aV <| aP h36 <| aV <| aZ)
  ho
def np20c0_end (j : JN) : St := ⟨[], [.code .ret, .inBlock 1, .code (aF [1, 1, 0, 1, 0, 0, 1, 1] Tryz.f179), .inLoop (aF [1, 1, 0, 1, 0, 0] Tryz.f179), .inBlock 0, .code (aF [1, 1, 1] Tryz.f179)], mkT j [(2, (iB false))] 67 0⟩
theorem np20c0 (hE : EnvOk E) (s : ByteArray) (n : Int) (i b : Nat) (h0 : ((iI (Int.ofNat s.size)) : AV) = (iI n)) (h1 : (decide (Int.ofNat i < n) : Bool) = true) (h2 : (0 : Int) ≤ Int.ofNat i) (h3 : (Option.map UInt8.toNat s[(Int.ofNat i).toNat]? : Option Nat) = (.some b)) (h4 : (decide (Int.ofNat b ≥ (97 : Int)) == true : Bool) = false) (h8 : (decide (Int.ofNat b ≥ (97 : Int)) : Bool) = false) (h11 : (decide (Int.ofNat b ≥ (65 : Int)) == true : Bool) = false) (h15 : (decide (Int.ofNat b ≥ (65 : Int)) : Bool) = false) (h18 : (decide (Int.ofNat b ≥ (48 : Int)) == true : Bool) = true) (h24 : (decide (Int.ofNat b ≥ (48 : Int)) : Bool) = true) (h25 : (decide (Int.ofNat b ≤ (57 : Int)) == false : Bool) = true) (h31 : (decide (Int.ofNat b ≤ (57 : Int)) : Bool) = false) (h35 : ((Int.ofNat i == (0 : Int)) == false : Bool) = false) (h38 : (Int.ofNat i == (0 : Int) : Bool) = true) : Sg 0 0 (nq20 s i) np20c0_end := fun ho j =>
 oS hE [.run 2, .ops [(2, .rn (iI n))] [], .cond true, .run 4, .ops [(2, .si b), (7, .si b), (13, .si b), (18, .si b), (9, .pk false), (20, .pk false)] [(5, false), (6, false), (7, false), (8, false), (16, false), (17, false), (18, false), (19, false)], .run 1, .ops [(2, .si b), (7, .si b), (13, .si b), (9, .pk true), (15, .pk false)] [(5, true), (6, true), (7, true), (8, true), (11, true), (12, true), (13, true), (14, true)], .run 1, .ops [(8, .pk true), (9, .pk true)] [(3, true), (4, true), (5, true), (6, false), (7, false), (8, true)], .run 3] [2] (aQ h0 h1 h2 h3 <| aQ h4 h4 h4 h4 <| aQ h8 h2 h3 h11 <| aQ h11 h11 h11 h15 <| aQ h2 h3 h18 h18 <| aQ h18 h2 h3 h18 <| aQ h24 h25 h25 h25 <| aQ h2 h3 h25 h31 <| aV <| aV <| aV <| aP h35 <| aP h35 <| aV <| aP h38 <| aV <| aZ)
  ho
def np20u0_end (s : ByteArray) (i : Nat) (j : JN) : St := ⟨[], ztNa1, mkT j [(0, .e (.one (.v (.string s)))), (3, (iN (i + 1)))] 67 0⟩
theorem np20u0 (hE : EnvOk E) (s : ByteArray) (n : Int) (i b : Nat) (h0 : ((iI (Int.ofNat s.size)) : AV) = (iI n)) (h1 : (decide (Int.ofNat i < n) : Bool) = true) (h2 : (0 : Int) ≤ Int.ofNat i) (h3 : (Option.map UInt8.toNat s[(Int.ofNat i).toNat]? : Option Nat) = (.some b)) (h4 : (decide (Int.ofNat b ≥ (97 : Int)) == true : Bool) = false) (h8 : (decide (Int.ofNat b ≥ (97 : Int)) : Bool) = false) (h11 : (decide (Int.ofNat b ≥ (65 : Int)) == true : Bool) = true) (h17 : (decide (Int.ofNat b ≥ (65 : Int)) : Bool) = true) (h20 : (decide (Int.ofNat b ≥ (48 : Int)) == true : Bool) = true) (h26 : (decide (Int.ofNat b ≥ (48 : Int)) : Bool) = true) (h27 : (decide (Int.ofNat b ≤ (57 : Int)) == false : Bool) = true) (h33 : (decide (Int.ofNat b ≤ (57 : Int)) : Bool) = false) (h34 : ((!decide (Int.ofNat b ≤ (90 : Int))) == true : Bool) = false) (h38 : (!decide (Int.ofNat b ≤ (90 : Int)) : Bool) = false) (h39 : ((iI (wrapF IntKind.i64 (Int.ofNat i + (1 : Int)))) : AV) = (iN (i + 1))) : Sg 0 0 (nq20 s i) (np20u0_end s i) := fun ho j =>
 oS hE [.run 2, .ops [(2, .rn (iI n))] [], .cond true, .run 4, .ops [(2, .si b), (7, .si b), (13, .si b), (18, .si b), (9, .pk false), (20, .pk true)] [(5, false), (6, false), (7, false), (8, false), (16, true), (17, true), (18, true), (19, true)], .run 1, .ops [(2, .si b), (7, .si b), (13, .si b), (9, .pk true), (15, .pk false)] [(5, true), (6, true), (7, true), (8, true), (11, true), (12, true), (13, true), (14, true)], .run 1, .ops [(9, .pk false)] [(3, false), (4, false), (5, false), (8, false)], .run 3, .ops [(1, .rn (iN (i + 1)))] [], .run 1] [0, 3] (aQ h0 h1 h2 h3 <| aQ h4 h4 h4 h4 <| aQ h8 h2 h3 h11 <| aQ h11 h11 h2 h3 <| aQ h11 h17 h2 h3 <| aQ h20 h20 h20 h2 <| aQ h3 h20 h26 h27 <| aQ h27 h27 h2 h3 <| aQ h27 h33 h34 h34 <| aQ h34 h34 h38 h39 <| aZ)
  ho
def np20v0_end (j : JN) : St := ⟨[], [.code .ret, .inBlock 1, .code (aF [1, 1, 0, 1, 0, 0, 1, 1] Tryz.f179), .inLoop (aF [1, 1, 0, 1, 0, 0] Tryz.f179), .inBlock 0, .code (aF [1, 1, 1] Tryz.f179)], mkT j [(2, (iB false))] 67 0⟩
theorem np20v0 (hE : EnvOk E) (s : ByteArray) (n : Int) (i b : Nat) (h0 : ((iI (Int.ofNat s.size)) : AV) = (iI n)) (h1 : (decide (Int.ofNat i < n) : Bool) = true) (h2 : (0 : Int) ≤ Int.ofNat i) (h3 : (Option.map UInt8.toNat s[(Int.ofNat i).toNat]? : Option Nat) = (.some b)) (h4 : (decide (Int.ofNat b ≥ (97 : Int)) == true : Bool) = false) (h8 : (decide (Int.ofNat b ≥ (97 : Int)) : Bool) = false) (h11 : (decide (Int.ofNat b ≥ (65 : Int)) == true : Bool) = true) (h17 : (decide (Int.ofNat b ≥ (65 : Int)) : Bool) = true) (h20 : (decide (Int.ofNat b ≥ (48 : Int)) == true : Bool) = true) (h26 : (decide (Int.ofNat b ≥ (48 : Int)) : Bool) = true) (h27 : (decide (Int.ofNat b ≤ (57 : Int)) == false : Bool) = true) (h33 : (decide (Int.ofNat b ≤ (57 : Int)) : Bool) = false) (h34 : ((!decide (Int.ofNat b ≤ (90 : Int))) == true : Bool) = true) (h37 : ((Int.ofNat i == (0 : Int)) == false : Bool) = false) (h40 : (Int.ofNat i == (0 : Int) : Bool) = true) (h41 : (!decide (Int.ofNat b ≤ (90 : Int)) : Bool) = true) : Sg 0 0 (nq20 s i) np20v0_end := fun ho j =>
 oS hE [.run 2, .ops [(2, .rn (iI n))] [], .cond true, .run 4, .ops [(2, .si b), (7, .si b), (13, .si b), (18, .si b), (9, .pk false), (20, .pk true)] [(5, false), (6, false), (7, false), (8, false), (16, true), (17, true), (18, true), (19, true)], .run 1, .ops [(2, .si b), (7, .si b), (13, .si b), (9, .pk true), (15, .pk false)] [(5, true), (6, true), (7, true), (8, true), (11, true), (12, true), (13, true), (14, true)], .run 1, .ops [(8, .pk true), (9, .pk true)] [(3, true), (4, true), (5, true), (6, false), (7, false), (8, true)], .run 3] [2] (aQ h0 h1 h2 h3 <| aQ h4 h4 h4 h4 <| aQ h8 h2 h3 h11 <| aQ h11 h11 h2 h3 <| aQ h11 h17 h2 h3 <| aQ h20 h20 h20 h2 <| aQ h3 h20 h26 h27 <| aQ h27 h27 h2 h3 <| aQ h27 h33 h34 h34 <| aQ h34 h37 h37 h34 <| aP h40 <| aP h41 <| aZ)
  ho
def np20w0_end (j : JN) : St := ⟨[], [.code .ret, .inBlock 1, .code (aF [1, 1, 0, 1, 0, 0, 1, 1] Tryz.f179), .inLoop (aF [1, 1, 0, 1, 0, 0] Tryz.f179), .inBlock 0, .code (aF [1, 1, 1] Tryz.f179)], mkT j [(2, (iB false))] 67 0⟩
theorem np20w0 (hE : EnvOk E) (s : ByteArray) (n : Int) (i b : Nat) (h0 : ((iI (Int.ofNat s.size)) : AV) = (iI n)) (h1 : (decide (Int.ofNat i < n) : Bool) = true) (h2 : (0 : Int) ≤ Int.ofNat i) (h3 : (Option.map UInt8.toNat s[(Int.ofNat i).toNat]? : Option Nat) = (.some b)) (h4 : (decide (Int.ofNat b ≥ (97 : Int)) == true : Bool) = false) (h8 : (decide (Int.ofNat b ≥ (97 : Int)) : Bool) = false) (h11 : (decide (Int.ofNat b ≥ (65 : Int)) == true : Bool) = true) (h17 : (decide (Int.ofNat b ≥ (65 : Int)) : Bool) = true) (h20 : (decide (Int.ofNat b ≥ (48 : Int)) == true : Bool) = true) (h26 : (decide (Int.ofNat b ≥ (48 : Int)) : Bool) = true) (h27 : (decide (Int.ofNat b ≤ (57 : Int)) == false : Bool) = true) (h33 : (decide (Int.ofNat b ≤ (57 : Int)) : Bool) = false) (h34 : ((!decide (Int.ofNat b ≤ (90 : Int))) == true : Bool) = true) (h37 : ((Int.ofNat i == (0 : Int)) == false : Bool) = false) (h40 : (Int.ofNat i == (0 : Int) : Bool) = true) (h41 : (!decide (Int.ofNat b ≤ (90 : Int)) : Bool) = true) : Sg 0 0 (nq20 s i) np20w0_end := fun ho j =>
 oS hE [.run 2, .ops [(2, .rn (iI n))] [], .cond true, .run 4, .ops [(2, .si b), (7, .si b), (13, .si b), (18, .si b), (9, .pk false), (20, .pk true)] [(5, false), (6, false), (7, false), (8, false), (16, true), (17, true), (18, true), (19, true)], .run 1, .ops [(2, .si b), (7, .si b), (13, .si b), (9, .pk true), (15, .pk false)] [(5, true), (6, true), (7, true), (8, true), (11, true), (12, true), (13, true), (14, true)], .run 1, .ops [(8, .pk true), (9, .pk true)] [(3, true), (4, true), (5, true), (6, false), (7, false), (8, true)], .run 3] [2] (aQ h0 h1 h2 h3 <| aQ h4 h4 h4 h4 <| aQ h8 h2 h3 h11 <| aQ h11 h11 h2 h3 <| aQ h11 h17 h2 h3 <| aQ h20 h20 h20 h2 <| aQ h3 h20 h26 h27 <| aQ h27 h27 h2 h3 <| aQ h27 h33 h34 h34 <| aQ h34 h37 h37 h34 <| aP h40 <| aP h41 <| aZ)
  ho
def np20m0_end (s : ByteArray) (i : Nat) (j : JN) : St := ⟨[], ztNa1, mkT j [(0, .e (.one (.v (.string s)))), (3, (iN (i + 1)))] 67 0⟩
theorem np20m0 (hE : EnvOk E) (s : ByteArray) (n : Int) (i b : Nat) (h0 : ((iI (Int.ofNat s.size)) : AV) = (iI n)) (h1 : (decide (Int.ofNat i < n) : Bool) = true) (h2 : (0 : Int) ≤ Int.ofNat i) (h3 : (Option.map UInt8.toNat s[(Int.ofNat i).toNat]? : Option Nat) = (.some b)) (h4 : (decide (Int.ofNat b ≥ (97 : Int)) == true : Bool) = true) (h10 : (decide (Int.ofNat b ≥ (97 : Int)) : Bool) = true) (h11 : (decide (Int.ofNat b ≤ (122 : Int)) == false : Bool) = false) (h17 : (decide (Int.ofNat b ≤ (122 : Int)) : Bool) = true) (h20 : (decide (Int.ofNat b ≥ (48 : Int)) == true : Bool) = true) (h26 : (decide (Int.ofNat b ≥ (48 : Int)) : Bool) = true) (h27 : (decide (Int.ofNat b ≤ (57 : Int)) == false : Bool) = true) (h33 : (decide (Int.ofNat b ≤ (57 : Int)) : Bool) = false) (h34 : ((iI (wrapF IntKind.i64 (Int.ofNat i + (1 : Int)))) : AV) = (iN (i + 1))) : Sg 0 0 (nq20 s i) (np20m0_end s i) := fun ho j =>
 oS hE [.run 2, .ops [(2, .rn (iI n))] [], .cond true, .run 4, .ops [(2, .si b), (7, .si b), (13, .si b), (18, .si b), (9, .pk true), (21, .pk true)] [(5, true), (6, true), (7, true), (8, true), (11, false), (12, false), (13, false), (14, false), (15, false), (20, false)], .run 1, .ops [(2, .si b), (7, .si b), (13, .si b), (9, .pk true), (15, .pk false)] [(5, true), (6, true), (7, true), (8, true), (11, true), (12, true), (13, true), (14, true)], .run 5, .ops [(1, .rn (iN (i + 1)))] [], .run 1] [0, 3] (aQ h0 h1 h2 h3 <| aQ h4 h4 h4 h2 <| aQ h3 h4 h10 h11 <| aQ h11 h11 h11 h11 <| aQ h11 h17 h2 h3 <| aQ h20 h20 h20 h2 <| aQ h3 h20 h26 h27 <| aQ h27 h27 h2 h3 <| aP h27 <| aP h33 <| aP h34 <| aZ)
  ho
def np20y0_end (j : JN) : St := ⟨[], [.code .ret, .inBlock 1, .code (aF [1, 1, 0, 1, 0, 0, 1, 1] Tryz.f179), .inLoop (aF [1, 1, 0, 1, 0, 0] Tryz.f179), .inBlock 0, .code (aF [1, 1, 1] Tryz.f179)], mkT j [(2, (iB false))] 67 0⟩
theorem np20y0 (hE : EnvOk E) (s : ByteArray) (n : Int) (i b : Nat) (h0 : ((iI (Int.ofNat s.size)) : AV) = (iI n)) (h1 : (decide (Int.ofNat i < n) : Bool) = true) (h2 : (0 : Int) ≤ Int.ofNat i) (h3 : (Option.map UInt8.toNat s[(Int.ofNat i).toNat]? : Option Nat) = (.some b)) (h4 : (decide (Int.ofNat b ≥ (97 : Int)) == true : Bool) = true) (h10 : (decide (Int.ofNat b ≥ (97 : Int)) : Bool) = true) (h11 : (decide (Int.ofNat b ≤ (122 : Int)) == false : Bool) = true) (h18 : (decide (Int.ofNat b ≥ (65 : Int)) == true : Bool) = true) (h25 : (decide (Int.ofNat b ≥ (65 : Int)) : Bool) = true) (h26 : (decide (Int.ofNat b ≤ (122 : Int)) : Bool) = false) (h29 : (decide (Int.ofNat b ≥ (48 : Int)) == true : Bool) = true) (h35 : (decide (Int.ofNat b ≥ (48 : Int)) : Bool) = true) (h36 : (decide (Int.ofNat b ≤ (57 : Int)) == false : Bool) = true) (h42 : (decide (Int.ofNat b ≤ (57 : Int)) : Bool) = false) (h43 : ((!decide (Int.ofNat b ≤ (90 : Int))) == true : Bool) = true) (h46 : ((Int.ofNat i == (0 : Int)) == false : Bool) = false) (h49 : (Int.ofNat i == (0 : Int) : Bool) = true) (h50 : (!decide (Int.ofNat b ≤ (90 : Int)) : Bool) = true) : Sg 0 0 (nq20 s i) np20y0_end := fun ho j =>
 oS hE [.run 2, .ops [(2, .rn (iI n))] [], .cond true, .run 4, .ops [(2, .si b), (7, .si b), (13, .si b), (18, .si b), (9, .pk true), (20, .pk true), (21, .pk false)] [(5, true), (6, true), (7, true), (8, true), (11, true), (12, true), (13, true), (14, true), (15, true), (16, true), (17, true), (18, true), (19, true), (20, true)], .run 1, .ops [(2, .si b), (7, .si b), (13, .si b), (9, .pk true), (15, .pk false)] [(5, true), (6, true), (7, true), (8, true), (11, true), (12, true), (13, true), (14, true)], .run 1, .ops [(8, .pk true), (9, .pk true)] [(3, true), (4, true), (5, true), (6, false), (7, false), (8, true)], .run 3] [2] (aQ h0 h1 h2 h3 <| aQ h4 h4 h4 h2 <| aQ h3 h4 h10 h11 <| aQ h11 h11 h2 h3 <| aQ h11 h11 h18 h18 <| aQ h18 h2 h3 h18 <| aQ h11 h25 h26 h2 <| aQ h3 h29 h29 h29 <| aQ h2 h3 h29 h35 <| aQ h36 h36 h36 h2 <| aQ h3 h36 h42 h43 <| aQ h43 h43 h46 h46 <| aP h43 <| aP h49 <| aP h50 <| aZ)
  ho
theorem nK83 (hE : EnvOk E) (r : Int) : COut E 0 [] 196 [.e (.one (.v (.int .i32 r)))] (iB (ltrI r)) [] := by
 by_cases a : 65 ≤ r
 ·by_cases b : r ≤ 90
  ·have e : ltrI r = true := by unfold ltrI; rw [decide_eq_true a, decide_eq_true b]; rfl
   rw [e]
   exact cOut_start Tryz.func196 rfl (np83b hE r (by simp <;> omega) (by simp <;> omega) (by simp <;> omega) (by simp <;> omega) (fun j => outK_ret (ends_ret (by kernel_rfl))) uD)
  ·by_cases c : 97 ≤ r
   ·have e : ltrI r = decide (r ≤ 122) := by unfold ltrI; rw [decide_eq_true a, decide_eq_false b, decide_eq_true c]; rfl
    rw [e]
    exact cOut_start Tryz.func196 rfl (np83d hE r (by simp <;> omega) (by simp <;> omega) (by simp <;> omega) (by simp <;> omega) (by simp <;> omega) (by simp <;> omega) (fun j => outK_ret (ends_ret (by kernel_rfl))) uD)
   ·have e : ltrI r = false := by unfold ltrI; rw [decide_eq_true a, decide_eq_false b, decide_eq_false c]; rfl
    rw [e]
    exact cOut_start Tryz.func196 rfl (np83c hE r (by simp <;> omega) (by simp <;> omega) (by simp <;> omega) (by simp <;> omega) (by simp <;> omega) (by simp <;> omega) (fun j => outK_ret (ends_ret (by kernel_rfl))) uD)
 ·have c : ¬ 97 ≤ r := by omega
  have e : ltrI r = false := by unfold ltrI; rw [decide_eq_false a, decide_eq_false c]; rfl
  rw [e]
  exact cOut_start Tryz.func196 rfl (np83a hE r (by simp <;> omega) (by simp <;> omega) (by simp <;> omega) (by simp <;> omega) (fun j => outK_ret (ends_ret (by kernel_rfl))) uD)
theorem nK84 (hE : EnvOk E) (r : Int) : COut E 0 [] 197 [.e (.one (.v (.int .i32 r)))] (iB (digI r)) [] := by
 by_cases a : 48 ≤ r
 ·have e : digI r = decide (r ≤ 57) := by unfold digI; rw [decide_eq_true a]; rfl
  rw [e]
  exact cOut_start Tryz.func197 rfl (np84b hE r (by simp <;> omega) (by simp <;> omega) (fun j => outK_ret (ends_ret (by kernel_rfl))) uD)
 ·have e : digI r = false := by unfold digI; rw [decide_eq_false a]; rfl
  rw [e]
  exact cOut_start Tryz.func197 rfl (np84a hE r (by simp <;> omega) (by simp <;> omega) (fun j => outK_ret (ends_ret (by kernel_rfl))) uD)
theorem nl19 (hE : EnvOk E) (s : ByteArray) :
  ∀ m p, m + p = s.size → ∀ j, OutK E 0 0 (nq19 s p j) (Go.Ev.Ends E Tryz.f181 (iB (nmL (s.data.toList.drop p) p)) [])
 | 0, p, hk, j => by
  have e1 : s.data.toList.drop p = [] := List.drop_eq_nil_of_le (by simp only [Array.length_toList]; show s.size ≤ p; omega)
  rw [e1]
  exact np19x hE s p (by omega) (fun j => outK_ret (ends_ret (by kernel_rfl))) j
 | m + 1, p, hk, j => by
  have hlt : p < s.size := by omega
  obtain ⟨b, hb⟩ := byte_at hlt
  have ih := nl19 hE s m (p + 1) (by omega)
  rw [bytes_drop hb]
  have hok : okI (Int.ofNat (Utf8.decode s p).1) p = okI (Int.ofNat b.toNat) p := by
   by_cases c : b.toNat < 128
   ·rw [dec_lo hb c]
   ·have h2 := dec_hi hb (by omega)
    rw [hi_bad (by simp only [Int.ofNat_eq_natCast]; omega) p, hi_bad (by simp only [Int.ofNat_eq_natCast]; omega) p]
  have hone : okI (Int.ofNat b.toNat) p = true → p + (Utf8.decode s p).2 = p + 1 := fun h => by
   by_cases c : b.toNat < 128
   ·rw [dec_lo hb c]
   ·rw [hi_bad (by simp only [Int.ofNat_eq_natCast]; omega) p] at h; cases h
  have hn : nmL (b :: s.data.toList.drop (p + 1)) p = (okI (Int.ofNat (Utf8.decode s p).1) p && nmL (s.data.toList.drop (p + 1)) (p + 1)) := by rw [hok]; rfl
  rw [hn]
  rw [← hok] at hone
  have h83 := nK83 hE (Int.ofNat (Utf8.decode s p).1)
  have h84 := nK84 hE (Int.ofNat (Utf8.decode s p).1)
  generalize hr : (Utf8.decode s p).1 = r at hone h83 h84
  cases hl : ltrI (Int.ofNat r) with
  | true =>
   rw [hl] at h83
   have ho : okI (Int.ofNat r) p = true := by unfold okI; rw [hl]; rfl
   rw [ho]
   exact np19l hE s p (p + 1) r true false hlt hr (hone ho) h83 rfl rfl ih j
  | false =>
   rw [hl] at h83
   by_cases h0 : p = 0
   ·have ho : okI (Int.ofNat r) p = false := by unfold okI; rw [hl, decide_eq_true h0]; rfl
    rw [ho]
    exact np19f hE s p _ r false false hlt hr rfl h83 rfl (by simp <;> omega) (by simp <;> omega) rfl (fun j => outK_ret (ends_ret (by kernel_rfl))) j
   ·cases hd : digI (Int.ofNat r) with
    | true =>
     rw [hd] at h84
     have ho : okI (Int.ofNat r) p = true := by unfold okI; rw [hl, hd, decide_eq_false h0]; rfl
     rw [ho]
     exact np19d hE s p (p + 1) r false true hlt hr (hone ho) h83 rfl (by simp <;> omega) h84 rfl rfl (by simp <;> omega) rfl ih j
    | false =>
     rw [hd] at h84
     by_cases h95 : (Int.ofNat r : Int) = 95
     ·have ho : okI (Int.ofNat r) p = true := by unfold okI; rw [hl, hd, decide_eq_false h0, decide_eq_true h95]; rfl
      rw [ho]
      exact np19u hE s p (p + 1) r false false hlt hr (hone ho) h83 rfl (by simp <;> omega) h84 rfl rfl (by simp <;> omega) rfl (by rw [h95]; rfl) ih j
     ·have ho : okI (Int.ofNat r) p = false := by unfold okI; rw [hl, hd, decide_eq_false h0, decide_eq_false h95]; rfl
      rw [ho]
      exact np19b hE s p _ r false false hlt hr rfl h83 rfl (by simp <;> omega) h84 rfl rfl (by simp <;> omega) rfl (bne_iff_ne.2 h95) (fun j => outK_ret (ends_ret (by kernel_rfl))) j
theorem nameB_of {s : ByteArray} (h : 0 < s.size) (h2 : s.size ≤ 24) : nameB s = nmL (s.data.toList.drop 0) 0 := by
 unfold nameB; rw [decide_eq_true h, decide_eq_true h2]; rfl
theorem nK19 (hE : EnvOk E) (s : ByteArray) : COut E 0 [] 181 [.e (.one (.v (.string s)))] (iB (nameB s)) [] := by
 by_cases h0 : 0 < s.size
 ·by_cases h2 : s.size ≤ 24
  ·rw [nameB_of h0 h2]
   exact cOut_start Tryz.func181 rfl (np19a hE s (Int.ofNat s.size) rfl (by simp <;> omega) (by simp <;> omega) (by simp <;> omega) (nl19 hE s s.size 0 (by omega)) uD)
  ·have e : nameB s = false := by unfold nameB; rw [decide_eq_true h0, decide_eq_false h2]; rfl
   rw [e]
   exact cOut_start Tryz.func181 rfl (np19g hE s (Int.ofNat s.size) rfl (by simp <;> omega) (by simp <;> omega) (by simp <;> omega) (fun j => outK_ret (ends_ret (by kernel_rfl))) uD)
 ·have e : nameB s = false := by unfold nameB; rw [decide_eq_false h0]; rfl
  rw [e]
  exact cOut_start Tryz.func181 rfl (np19z hE s (Int.ofNat s.size) rfl (by simp <;> omega) (by simp <;> omega) (fun j => outK_ret (ends_ret (by kernel_rfl))) uD)
theorem loop_len (s : ByteArray) : ∀ m i r, m + i = s.size → (ByteArray.toList.loop s i r).length = m + r.length
 | 0, i, r, h => by rw [ByteArray.toList.loop, if_neg (by omega), List.length_reverse, Nat.zero_add]
 | m + 1, i, r, h => by rw [ByteArray.toList.loop, if_pos (by omega), loop_len s m (i + 1) _ (by omega), List.length_cons]; omega
theorem toList_len (s : ByteArray) : s.toList.length = s.size := by
 have h := loop_len s s.size 0 [] rfl
 simpa [ByteArray.toList] using h
theorem eqE {s : ByteArray} : (s.toList == ({ data := #[] } : ByteArray).toList) = !(decide (0 < s.size)) := by
 have h0 : ({ data := #[] } : ByteArray).toList = [] := List.eq_nil_of_length_eq_zero (by rw [toList_len]; rfl)
 rw [h0]
 by_cases h : 0 < s.size
 ·rw [decide_eq_true h]
  cases hl : s.toList with
  | nil => have := toList_len s; rw [hl] at this; simp at this; omega
  | cons a l => rfl
 ·rw [decide_eq_false h]
  have : s.toList = [] := List.eq_nil_of_length_eq_zero (by rw [toList_len]; omega)
  rw [this]; rfl
theorem nl20 (hE : EnvOk E) (s : ByteArray) (hs : s.size ≤ 100) :
  ∀ m i, m + i = s.size → ∀ j, OutK E 0 0 (nq20 s i j) (Go.Ev.Ends E Tryz.f179 (iB (nmL (s.data.toList.drop i) i)) [])
 | 0, i, hk, j => by
  have e1 : s.data.toList.drop i = [] := List.drop_eq_nil_of_le (by simp only [Array.length_toList]; show s.size ≤ i; omega)
  rw [e1]
  exact np20x hE s (Int.ofNat s.size) i rfl (by simp <;> omega) (fun j => outK_ret (ends_ret (by kernel_rfl))) j
 | m + 1, i, hk, j => by
  have hlt : i < s.size := by omega
  obtain ⟨b8, hb⟩ := byte_at hlt
  have ih := nl20 hE s hs m (i + 1) (by omega)
  rw [bytes_drop hb]
  have hm : Option.map UInt8.toNat s[(Int.ofNat i).toNat]? = some b8.toNat := by
   show Option.map UInt8.toNat s[i]? = _
   rw [hb]; rfl
  have hn : nmL (b8 :: s.data.toList.drop (i + 1)) i = (okI (Int.ofNat b8.toNat) i && nmL (s.data.toList.drop (i + 1)) (i + 1)) := rfl
  rw [hn]
  clear hn
  generalize b8.toNat = b at hm
  have hlb : ltrI (Int.ofNat b) = ((decide (65 ≤ b) && decide (b ≤ 90)) || (decide (97 ≤ b) && decide (b ≤ 122))) := by
   unfold ltrI; rw [show decide ((65 : Int) ≤ Int.ofNat b) = decide (65 ≤ b) from decide_eq_decide.2 (by simp only [Int.ofNat_eq_natCast]; omega), show decide (Int.ofNat b ≤ (90 : Int)) = decide (b ≤ 90) from decide_eq_decide.2 (by simp only [Int.ofNat_eq_natCast]; omega), show decide ((97 : Int) ≤ Int.ofNat b) = decide (97 ≤ b) from decide_eq_decide.2 (by simp only [Int.ofNat_eq_natCast]; omega), show decide (Int.ofNat b ≤ (122 : Int)) = decide (b ≤ 122) from decide_eq_decide.2 (by simp only [Int.ofNat_eq_natCast]; omega)]
  have hdb : digI (Int.ofNat b) = (decide (48 ≤ b) && decide (b ≤ 57)) := by
   unfold digI; rw [show decide ((48 : Int) ≤ Int.ofNat b) = decide (48 ≤ b) from decide_eq_decide.2 (by simp only [Int.ofNat_eq_natCast]; omega), show decide (Int.ofNat b ≤ (57 : Int)) = decide (b ≤ 57) from decide_eq_decide.2 (by simp only [Int.ofNat_eq_natCast]; omega)]
  have hub : decide ((Int.ofNat b : Int) = 95) = decide (b = 95) := decide_eq_decide.2 (by simp only [Int.ofNat_eq_natCast]; omega)
  have rng : b < 48 ∨ (48 ≤ b ∧ b ≤ 57) ∨ (58 ≤ b ∧ b ≤ 64) ∨ (65 ≤ b ∧ b ≤ 90) ∨ (91 ≤ b ∧ b ≤ 96 ∧ b ≠ 95) ∨ b = 95 ∨ (97 ≤ b ∧ b ≤ 122) ∨ 123 ≤ b := by omega
  have dt : ∀ {q : Prop} [Decidable q], q → decide q = true := fun h => decide_eq_true h
  have df : ∀ {q : Prop} [Decidable q], ¬ q → decide q = false := fun h => decide_eq_false h
  by_cases h0 : i = 0
  ·rcases rng with g | g | g | g | g | g | g | g
   ·have ho : okI (Int.ofNat b) i = false := by unfold okI; rw [hlb, hdb, hub, df (q := 65 ≤ b) (by omega), dt (q := b ≤ 90) (by omega), df (q := 97 ≤ b) (by omega), dt (q := b ≤ 122) (by omega), df (q := 48 ≤ b) (by omega), dt (q := b ≤ 57) (by omega), df (q := b = 95) (by omega), dt (q := i = 0) h0]; rfl
    rw [ho]
    exact np20x0 hE s (Int.ofNat s.size) i b rfl (by simp <;> omega) (Int.natCast_nonneg _) hm (by simp <;> omega) (by simp <;> omega) (by simp <;> omega) (by simp <;> omega) (by simp <;> omega) (by simp <;> omega) (by simp <;> omega) (by simp <;> omega) (fun j => outK_ret (ends_ret (by kernel_rfl))) j
   ·have ho : okI (Int.ofNat b) i = false := by unfold okI; rw [hlb, hdb, hub, df (q := 65 ≤ b) (by omega), dt (q := b ≤ 90) (by omega), df (q := 97 ≤ b) (by omega), dt (q := b ≤ 122) (by omega), dt (q := 48 ≤ b) (by omega), dt (q := b ≤ 57) (by omega), df (q := b = 95) (by omega), dt (q := i = 0) h0]; rfl
    rw [ho]
    exact np20d0 hE s (Int.ofNat s.size) i b rfl (by simp <;> omega) (Int.natCast_nonneg _) hm (by simp <;> omega) (by simp <;> omega) (by simp <;> omega) (by simp <;> omega) (by simp <;> omega) (by simp <;> omega) (by simp <;> omega) (by simp <;> omega) (by simp <;> omega) (by simp <;> omega) (fun j => outK_ret (ends_ret (by kernel_rfl))) j
   ·have ho : okI (Int.ofNat b) i = false := by unfold okI; rw [hlb, hdb, hub, df (q := 65 ≤ b) (by omega), dt (q := b ≤ 90) (by omega), df (q := 97 ≤ b) (by omega), dt (q := b ≤ 122) (by omega), dt (q := 48 ≤ b) (by omega), df (q := b ≤ 57) (by omega), df (q := b = 95) (by omega), dt (q := i = 0) h0]; rfl
    rw [ho]
    exact np20c0 hE s (Int.ofNat s.size) i b rfl (by simp <;> omega) (Int.natCast_nonneg _) hm (by simp <;> omega) (by simp <;> omega) (by simp <;> omega) (by simp <;> omega) (by simp <;> omega) (by simp <;> omega) (by simp <;> omega) (by simp <;> omega) (by simp <;> omega) (by simp <;> omega) (fun j => outK_ret (ends_ret (by kernel_rfl))) j
   ·have ho : okI (Int.ofNat b) i = true := by unfold okI; rw [hlb, hdb, hub, dt (q := 65 ≤ b) (by omega), dt (q := b ≤ 90) (by omega), df (q := 97 ≤ b) (by omega), dt (q := b ≤ 122) (by omega), dt (q := 48 ≤ b) (by omega), df (q := b ≤ 57) (by omega), df (q := b = 95) (by omega), dt (q := i = 0) h0]; rfl
    rw [ho]
    exact np20u0 hE s (Int.ofNat s.size) i b rfl (by simp <;> omega) (Int.natCast_nonneg _) hm (by simp <;> omega) (by simp <;> omega) (by simp <;> omega) (by simp <;> omega) (by simp <;> omega) (by simp <;> omega) (by simp <;> omega) (by simp <;> omega) (by simp <;> omega) (by simp <;> omega) (iIn i (by omega)) ih j
   ·have ho : okI (Int.ofNat b) i = false := by unfold okI; rw [hlb, hdb, hub, dt (q := 65 ≤ b) (by omega), df (q := b ≤ 90) (by omega), df (q := 97 ≤ b) (by omega), dt (q := b ≤ 122) (by omega), dt (q := 48 ≤ b) (by omega), df (q := b ≤ 57) (by omega), df (q := b = 95) (by omega), dt (q := i = 0) h0]; rfl
    rw [ho]
    exact np20v0 hE s (Int.ofNat s.size) i b rfl (by simp <;> omega) (Int.natCast_nonneg _) hm (by simp <;> omega) (by simp <;> omega) (by simp <;> omega) (by simp <;> omega) (by simp <;> omega) (by simp <;> omega) (by simp <;> omega) (by simp <;> omega) (by simp <;> omega) (by simp <;> omega) (by simp <;> omega) (by simp <;> omega) (fun j => outK_ret (ends_ret (by kernel_rfl))) j
   ·have ho : okI (Int.ofNat b) i = false := by unfold okI; rw [hlb, hdb, hub, dt (q := 65 ≤ b) (by omega), df (q := b ≤ 90) (by omega), df (q := 97 ≤ b) (by omega), dt (q := b ≤ 122) (by omega), dt (q := 48 ≤ b) (by omega), df (q := b ≤ 57) (by omega), dt (q := b = 95) (by omega), dt (q := i = 0) h0]; rfl
    rw [ho]
    exact np20w0 hE s (Int.ofNat s.size) i b rfl (by simp <;> omega) (Int.natCast_nonneg _) hm (by simp <;> omega) (by simp <;> omega) (by simp <;> omega) (by simp <;> omega) (by simp <;> omega) (by simp <;> omega) (by simp <;> omega) (by simp <;> omega) (by simp <;> omega) (by simp <;> omega) (by simp <;> omega) (by simp <;> omega) (fun j => outK_ret (ends_ret (by kernel_rfl))) j
   ·have ho : okI (Int.ofNat b) i = true := by unfold okI; rw [hlb, hdb, hub, dt (q := 65 ≤ b) (by omega), df (q := b ≤ 90) (by omega), dt (q := 97 ≤ b) (by omega), dt (q := b ≤ 122) (by omega), dt (q := 48 ≤ b) (by omega), df (q := b ≤ 57) (by omega), df (q := b = 95) (by omega), dt (q := i = 0) h0]; rfl
    rw [ho]
    exact np20m0 hE s (Int.ofNat s.size) i b rfl (by simp <;> omega) (Int.natCast_nonneg _) hm (by simp <;> omega) (by simp <;> omega) (by simp <;> omega) (by simp <;> omega) (by simp <;> omega) (by simp <;> omega) (by simp <;> omega) (by simp <;> omega) (iIn i (by omega)) ih j
   ·have ho : okI (Int.ofNat b) i = false := by unfold okI; rw [hlb, hdb, hub, dt (q := 65 ≤ b) (by omega), df (q := b ≤ 90) (by omega), dt (q := 97 ≤ b) (by omega), df (q := b ≤ 122) (by omega), dt (q := 48 ≤ b) (by omega), df (q := b ≤ 57) (by omega), df (q := b = 95) (by omega), dt (q := i = 0) h0]; rfl
    rw [ho]
    exact np20y0 hE s (Int.ofNat s.size) i b rfl (by simp <;> omega) (Int.natCast_nonneg _) hm (by simp <;> omega) (by simp <;> omega) (by simp <;> omega) (by simp <;> omega) (by simp <;> omega) (by simp <;> omega) (by simp <;> omega) (by simp <;> omega) (by simp <;> omega) (by simp <;> omega) (by simp <;> omega) (by simp <;> omega) (by simp <;> omega) (by simp <;> omega) (fun j => outK_ret (ends_ret (by kernel_rfl))) j
  ·rcases rng with g | g | g | g | g | g | g | g
   ·have ho : okI (Int.ofNat b) i = false := by unfold okI; rw [hlb, hdb, hub, df (q := 65 ≤ b) (by omega), dt (q := b ≤ 90) (by omega), df (q := 97 ≤ b) (by omega), dt (q := b ≤ 122) (by omega), df (q := 48 ≤ b) (by omega), dt (q := b ≤ 57) (by omega), df (q := b = 95) (by omega), df (q := i = 0) h0]; rfl
    rw [ho]
    exact np20x1 hE s (Int.ofNat s.size) i b rfl (by simp <;> omega) (Int.natCast_nonneg _) hm (by simp <;> omega) (by simp <;> omega) (by simp <;> omega) (by simp <;> omega) (by simp <;> omega) (by simp <;> omega) (by simp <;> omega) (by simp <;> omega) (by simp <;> omega) (fun j => outK_ret (ends_ret (by kernel_rfl))) j
   ·have ho : okI (Int.ofNat b) i = true := by unfold okI; rw [hlb, hdb, hub, df (q := 65 ≤ b) (by omega), dt (q := b ≤ 90) (by omega), df (q := 97 ≤ b) (by omega), dt (q := b ≤ 122) (by omega), dt (q := 48 ≤ b) (by omega), dt (q := b ≤ 57) (by omega), df (q := b = 95) (by omega), df (q := i = 0) h0]; rfl
    rw [ho]
    exact np20d1 hE s (Int.ofNat s.size) i b rfl (by simp <;> omega) (Int.natCast_nonneg _) hm (by simp <;> omega) (by simp <;> omega) (by simp <;> omega) (by simp <;> omega) (by simp <;> omega) (by simp <;> omega) (by simp <;> omega) (by simp <;> omega) (by simp <;> omega) (by simp <;> omega) (iIn i (by omega)) ih j
   ·have ho : okI (Int.ofNat b) i = false := by unfold okI; rw [hlb, hdb, hub, df (q := 65 ≤ b) (by omega), dt (q := b ≤ 90) (by omega), df (q := 97 ≤ b) (by omega), dt (q := b ≤ 122) (by omega), dt (q := 48 ≤ b) (by omega), df (q := b ≤ 57) (by omega), df (q := b = 95) (by omega), df (q := i = 0) h0]; rfl
    rw [ho]
    exact np20c1 hE s (Int.ofNat s.size) i b rfl (by simp <;> omega) (Int.natCast_nonneg _) hm (by simp <;> omega) (by simp <;> omega) (by simp <;> omega) (by simp <;> omega) (by simp <;> omega) (by simp <;> omega) (by simp <;> omega) (by simp <;> omega) (by simp <;> omega) (by simp <;> omega) (by simp <;> omega) (fun j => outK_ret (ends_ret (by kernel_rfl))) j
   ·have ho : okI (Int.ofNat b) i = true := by unfold okI; rw [hlb, hdb, hub, dt (q := 65 ≤ b) (by omega), dt (q := b ≤ 90) (by omega), df (q := 97 ≤ b) (by omega), dt (q := b ≤ 122) (by omega), dt (q := 48 ≤ b) (by omega), df (q := b ≤ 57) (by omega), df (q := b = 95) (by omega), df (q := i = 0) h0]; rfl
    rw [ho]
    exact np20u1 hE s (Int.ofNat s.size) i b rfl (by simp <;> omega) (Int.natCast_nonneg _) hm (by simp <;> omega) (by simp <;> omega) (by simp <;> omega) (by simp <;> omega) (by simp <;> omega) (by simp <;> omega) (by simp <;> omega) (by simp <;> omega) (by simp <;> omega) (by simp <;> omega) (iIn i (by omega)) ih j
   ·have ho : okI (Int.ofNat b) i = false := by unfold okI; rw [hlb, hdb, hub, dt (q := 65 ≤ b) (by omega), df (q := b ≤ 90) (by omega), df (q := 97 ≤ b) (by omega), dt (q := b ≤ 122) (by omega), dt (q := 48 ≤ b) (by omega), df (q := b ≤ 57) (by omega), df (q := b = 95) (by omega), df (q := i = 0) h0]; rfl
    rw [ho]
    exact np20v1 hE s (Int.ofNat s.size) i b rfl (by simp <;> omega) (Int.natCast_nonneg _) hm (by simp <;> omega) (by simp <;> omega) (by simp <;> omega) (by simp <;> omega) (by simp <;> omega) (by simp <;> omega) (by simp <;> omega) (by simp <;> omega) (by simp <;> omega) (by simp <;> omega) (by simp <;> omega) (by simp <;> omega) (by simp <;> omega) (fun j => outK_ret (ends_ret (by kernel_rfl))) j
   ·have ho : okI (Int.ofNat b) i = true := by unfold okI; rw [hlb, hdb, hub, dt (q := 65 ≤ b) (by omega), df (q := b ≤ 90) (by omega), df (q := 97 ≤ b) (by omega), dt (q := b ≤ 122) (by omega), dt (q := 48 ≤ b) (by omega), df (q := b ≤ 57) (by omega), dt (q := b = 95) (by omega), df (q := i = 0) h0]; rfl
    rw [ho]
    exact np20w1 hE s (Int.ofNat s.size) i b rfl (by simp <;> omega) (Int.natCast_nonneg _) hm (by simp <;> omega) (by simp <;> omega) (by simp <;> omega) (by simp <;> omega) (by simp <;> omega) (by simp <;> omega) (by simp <;> omega) (by simp <;> omega) (by simp <;> omega) (by simp <;> omega) (by simp <;> omega) (by simp <;> omega) (by simp <;> omega) (iIn i (by omega)) ih j
   ·have ho : okI (Int.ofNat b) i = true := by unfold okI; rw [hlb, hdb, hub, dt (q := 65 ≤ b) (by omega), df (q := b ≤ 90) (by omega), dt (q := 97 ≤ b) (by omega), dt (q := b ≤ 122) (by omega), dt (q := 48 ≤ b) (by omega), df (q := b ≤ 57) (by omega), df (q := b = 95) (by omega), df (q := i = 0) h0]; rfl
    rw [ho]
    exact np20m1 hE s (Int.ofNat s.size) i b rfl (by simp <;> omega) (Int.natCast_nonneg _) hm (by simp <;> omega) (by simp <;> omega) (by simp <;> omega) (by simp <;> omega) (by simp <;> omega) (by simp <;> omega) (by simp <;> omega) (by simp <;> omega) (iIn i (by omega)) ih j
   ·have ho : okI (Int.ofNat b) i = false := by unfold okI; rw [hlb, hdb, hub, dt (q := 65 ≤ b) (by omega), df (q := b ≤ 90) (by omega), dt (q := 97 ≤ b) (by omega), df (q := b ≤ 122) (by omega), dt (q := 48 ≤ b) (by omega), df (q := b ≤ 57) (by omega), df (q := b = 95) (by omega), df (q := i = 0) h0]; rfl
    rw [ho]
    exact np20y1 hE s (Int.ofNat s.size) i b rfl (by simp <;> omega) (Int.natCast_nonneg _) hm (by simp <;> omega) (by simp <;> omega) (by simp <;> omega) (by simp <;> omega) (by simp <;> omega) (by simp <;> omega) (by simp <;> omega) (by simp <;> omega) (by simp <;> omega) (by simp <;> omega) (by simp <;> omega) (by simp <;> omega) (by simp <;> omega) (by simp <;> omega) (by simp <;> omega) (fun j => outK_ret (ends_ret (by kernel_rfl))) j
theorem nK20 (hE : EnvOk E) (s : ByteArray) : COut E 0 [] 179 [.e (.one (.v (.string s)))] (iB (nameB s)) [] := by
 by_cases h0 : 0 < s.size
 ·have e0 : (iB (s.toList == ({ data := #[] } : ByteArray).toList) : AV) = iB false := by rw [eqE, decide_eq_true h0]; rfl
  by_cases h2 : s.size ≤ 24
  ·rw [nameB_of h0 h2]
   exact cOut_start Tryz.func179 rfl (np20a hE s (Int.ofNat s.size) e0 rfl (by simp <;> omega) (nl20 hE s (by omega) s.size 0 (by omega)) uD)
  ·have e : nameB s = false := by unfold nameB; rw [decide_eq_true h0, decide_eq_false h2]; rfl
   rw [e]
   exact cOut_start Tryz.func179 rfl (np20g hE s (Int.ofNat s.size) e0 rfl (by simp <;> omega) (fun j => outK_ret (ends_ret (by kernel_rfl))) uD)
 ·have e : nameB s = false := by unfold nameB; rw [decide_eq_false h0]; rfl
  rw [e]
  exact cOut_start Tryz.func179 rfl (np20z hE s (by rw [eqE, decide_eq_false h0]; rfl) (fun j => outK_ret (ends_ret (by kernel_rfl))) uD)
end
end Go.Proofs.YtigdchbjmnbjlaaGreatDoor
end
section
open Go Go.Ev
namespace Go.Proofs.YtigdchbjmnbjlaaGreatDoor
noncomputable section
def s85 (c : Bool) (e : Int) (j : JN) : St := startK Tryz.f102 [] [iB c, iI e]
def s32 (c : Bool) (e : Int) (j : JN) : St := startK Tryz.f73 [] [iB c, iI e]
def A85_f_end (c : Bool) (e : Int) (j : JN) : St := ⟨[], [(.code .ret)], mkT j [(4, (iI 0))] 7 0⟩
theorem A85_f (hE : EnvOk E) (c : Bool) (e : Int) (c0 : (c : Bool) = false) {Φ : Res → Prop} (ho : ∀ j, OutK E 0 0 (A85_f_end c e j) Φ) (j : JN) : OutK E 0 0 (s85 c e j) Φ :=
 oS hE [.run 5, (.cond false), .run 3] [4] (ps := [(c : Bool) = false]) ⟨c0, trivial⟩
  ho
theorem A85_f_c (hE : EnvOk E) (c : Bool) (e : Int) (c0 : (c : Bool) = false)  : COut E 0 [] 102 [(iB c), (iI e)] (iI 0) [] := cOut_start Tryz.func102 rfl (A85_f hE c e c0  (fun j => outK_ret (ends_ret (by kernel_rfl))) uD)
def A85_t_end (c : Bool) (e : Int) (j : JN) : St := ⟨[], [(.code .ret), (.code (aF [1, 1] Tryz.f102))], mkT j [(4, (iI e))] 7 0⟩
theorem A85_t (hE : EnvOk E) (c : Bool) (e : Int) (c0 : (c : Bool) = true) {Φ : Res → Prop} (ho : ∀ j, OutK E 0 0 (A85_t_end c e j) Φ) (j : JN) : OutK E 0 0 (s85 c e j) Φ :=
 oS hE [.run 5, (.cond true), .run 2] [4] (ps := [(c : Bool) = true]) ⟨c0, trivial⟩
  ho
theorem A85_t_c (hE : EnvOk E) (c : Bool) (e : Int) (c0 : (c : Bool) = true)  : COut E 0 [] 102 [(iB c), (iI e)] (iI e) [] := cOut_start Tryz.func102 rfl (A85_t hE c e c0  (fun j => outK_ret (ends_ret (by kernel_rfl))) uD)
def A85_r0 (c : Bool) (e : Int) : Int := (bif c then e else 0)
theorem A85_all (hE : EnvOk E) (c : Bool) (e : Int) : COut E 0 [] 102 [(iB c), (iI e)] (iI (A85_r0 c e)) [] := by
 rcases Bool.eq_false_or_eq_true c with c0 | c0
 ·skip
  have e0 : A85_r0 c e = e := by unfold A85_r0; rw [c0]; first | done | rfl
  rw [e0]
  exact A85_t_c hE c e c0 
 ·skip
  have e0 : A85_r0 c e = 0 := by unfold A85_r0; rw [c0]; first | done | rfl
  rw [e0]
  exact A85_f_c hE c e c0 
def A32_f_end (c : Bool) (e : Int) (j : JN) : St := ⟨[], [(.code .ret)], mkT j [(4, (iI 0))] 7 0⟩
theorem A32_f (hE : EnvOk E) (c : Bool) (e : Int) (c0 : (c : Bool) = false) {Φ : Res → Prop} (ho : ∀ j, OutK E 0 0 (A32_f_end c e j) Φ) (j : JN) : OutK E 0 0 (s32 c e j) Φ :=
 oS hE [.run 5, (.cond false), .run 3] [4] (ps := [(c : Bool) = false]) ⟨c0, trivial⟩
  ho
theorem A32_f_c (hE : EnvOk E) (c : Bool) (e : Int) (c0 : (c : Bool) = false)  : COut E 0 [] 73 [(iB c), (iI e)] (iI 0) [] := cOut_start Tryz.func73 rfl (A32_f hE c e c0  (fun j => outK_ret (ends_ret (by kernel_rfl))) uD)
def A32_t_end (c : Bool) (e : Int) (j : JN) : St := ⟨[], [(.code .ret), (.code (aF [1, 1] Tryz.f73))], mkT j [(4, (iI e))] 7 0⟩
theorem A32_t (hE : EnvOk E) (c : Bool) (e : Int) (c0 : (c : Bool) = true) {Φ : Res → Prop} (ho : ∀ j, OutK E 0 0 (A32_t_end c e j) Φ) (j : JN) : OutK E 0 0 (s32 c e j) Φ :=
 oS hE [.run 5, (.cond true), .run 2] [4] (ps := [(c : Bool) = true]) ⟨c0, trivial⟩
  ho
theorem A32_t_c (hE : EnvOk E) (c : Bool) (e : Int) (c0 : (c : Bool) = true)  : COut E 0 [] 73 [(iB c), (iI e)] (iI e) [] := cOut_start Tryz.func73 rfl (A32_t hE c e c0  (fun j => outK_ret (ends_ret (by kernel_rfl))) uD)
def A32_r0 (c : Bool) (e : Int) : Int := (bif c then e else 0)
theorem A32_all (hE : EnvOk E) (c : Bool) (e : Int) : COut E 0 [] 73 [(iB c), (iI e)] (iI (A32_r0 c e)) [] := by
 rcases Bool.eq_false_or_eq_true c with c0 | c0
 ·skip
  have e0 : A32_r0 c e = e := by unfold A32_r0; rw [c0]; first | done | rfl
  rw [e0]
  exact A32_t_c hE c e c0 
 ·skip
  have e0 : A32_r0 c e = 0 := by unfold A32_r0; rw [c0]; first | done | rfl
  rw [e0]
  exact A32_f_c hE c e c0 
end
end Go.Proofs.YtigdchbjmnbjlaaGreatDoor
end
