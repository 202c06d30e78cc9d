/-
  Part of the proof: SeGi, SyW, SyV, SeGj, SeIa, SeXc.
-/
import Derived.Test.YtigdchbjmnbjlaaGreatDoorSeZJ

/-! SeGi -/
section
open Go Go.Ev
namespace Go.Proofs.YtigdchbjmnbjlaaGreatDoor
noncomputable section
set_option maxRecDepth 100000
set_option maxHeartbeats 20000000
theorem look_frz {i : Nat} {ds : List DT} : ∀ (l l' : List (Nat × AV)), All2 (fun p q => p.1 = q.1 ∧ FrzV i ds p.2 q.2) l l' → ∀ k, (lookT l k = none ∧ lookT l' k = none) ∨ ∃ x y, lookT l k = some x ∧ lookT l' k = some y ∧ FrzV i ds x y
 | [], [], _, k => .inl ⟨rfl, rfl⟩
 | p :: l, q :: l', h, k => by
  obtain ⟨⟨h1, h2⟩, h3⟩ := h
  have e1 : lookT (p :: l) k = if Nat.beq p.1 k then some p.2 else lookT l k := rfl
  have e2 : lookT (q :: l') k = if Nat.beq q.1 k then some q.2 else lookT l' k := rfl
  rw [e1, e2, h1]
  by_cases c : Nat.beq q.1 k = true
  ·rw [if_pos c, if_pos c]; exact .inr ⟨_, _, rfl, rfl, h2⟩
  ·rw [if_neg c, if_neg c]; exact look_frz l l' h3 k
theorem frz2 {i : Nat} {ds : List DT} (j : Nat → Value) (l l' : List (Nat × AV)) (h : All2 (fun p q => p.1 = q.1 ∧ FrzV i ds p.2 q.2) l l') : ∀ n k, All2 (FrzV i ds) (mkT j l n k) (mkT j l' n k)
 | 0, _ => trivial
 | n + 1, k => by
  refine ⟨?_, frz2 j l l' h n (k + 1)⟩
  show FrzV i ds (match lookT l k with | some x => x | none => .e (.one (.v (j k)))) (match lookT l' k with | some x => x | none => .e (.one (.v (j k))))
  rcases look_frz l l' h k with ⟨a, b⟩ | ⟨x, y, a, b, c⟩
  ·rw [a, b]; exact .inl rfl
  ·rw [a, b]; exact c
abbrev sN (acts : List (Int × Int)) (bits : List Int) (w i : Nat) (U : List (List Int)) (q N B : Nat) (xa as_ xb bs : List Int) (j : Nat → Value) : St := y9n (acD acts) (iD bits) (iD xa) (iD as_) (iD xb) (iD bs) (w) (acts.length) (i) (q) (N) (B) (as_.length) (bs.length) (rCt U) j
abbrev sO (acts : List (Int × Int)) (bits : List Int) (w i : Nat) (U : List (List Int)) (q N B : Nat) (xa as_ xb bs : List Int) (u : Nat) (As : List Int) (j : Nat → Value) : St := y9o (acD acts) (iD bits) (iD xa) (iD as_) (iD xb) (iD bs) (w) (acts.length) (i) (q) (u) (N) (B) (as_.length) (bs.length) (rCt U) (iC As) j
def gN (acts : List (Int × Int)) (bits : List Int) (w i : Nat) : Prop := ∀ (U : List (List Int)) (q N B : Nat) (hB : Bool) (xa as_ xb bs : List Int), AgOk w U N B hB [] → U.length = q → xa = um U N → as_ = nA U N → xb = um U B → bs = nB U B hB → q ≤ i + 1 → ∀ j, OutK E 0 0 (sN acts bits w i U q N B xa as_ xb bs j) (Go.Ev.Ends E Tryz.f9 (iB true) [])
def gO (acts : List (Int × Int)) (bits : List Int) (w i : Nat) : Prop := ∀ (U : List (List Int)) (q N B : Nat) (hB : Bool) (xa as_ xb bs : List Int) (u : Nat) (As : List Int), AgOk w U N B hB As → U.length = q → xa = um U N → as_ = nA U N → xb = um U B → bs = nB U B hB → q ≤ i + 1 → As.length = u → 0 < u → u ≤ i → ∀ j, OutK E 0 0 (sO acts bits w i U q N B xa as_ xb bs u As j) (Go.Ev.Ends E Tryz.f9 (iB true) [])
theorem t9n (hE : EnvOk E) (acts : List (Int × Int)) (bits : List Int) (w : Nat) (_hbits : okM w bits) (h24 : acts.length ≤ 24) (i : Nat) (x0 x1 : Int) (hx : acts[i]? = some (x0, x1)) (_b1 : 0 ≤ x1 ∧ x1 < 256) (ihN : gN acts bits w (i + 1)) (_ihO : gO acts bits w (i + 1)) (U : List (List Int)) (q N B : Nat) (hB : Bool) (xa as_ xb bs : List Int) (h : AgOk w U N B hB []) (hq : U.length = q) (hxa : xa = um U N) (has : as_ = nA U N) (hxb : xb = um U B) (hbs : bs = nB U B hB) (hqi : q ≤ i + 1) (hr : x0.tmod 5 = 3) : ∀ j, OutK E 0 0 (sN acts bits w i U q N B xa as_ xb bs j) (Go.Ev.Ends E Tryz.f9 (iB true) []) := by
 have hi : i < acts.length := (List.getElem?_eq_some_iff.1 hx).1
 have hrow : takeL (dropL (acD acts) (i.mul 2)) 2 = some [.v (.int .u8 x0), .v (.int .u8 x1)] := rows_get (f := acP) (fun _ => rfl) hx
 have n1 := h.n1
 have n2 := h.n2
 have b1' := h.b1
 have b2' := h.b2
 have okA : okM w xa := hxa ▸ um_ok h.ok (by omega)
 have okB : okM w xb := hxb ▸ um_ok h.ok (by omega)
 have gA : getL (rCt U) N = some (.dp (.s (iD xa) w 1)) := hxa ▸ rCt_get h.ok (by omega)
 have gB : getL (rCt U) B = some (.dp (.s (iD xb) w 1)) := hxb ▸ rCt_get h.ok (by omega)
 have jA : COut E 0 [] 57 [dG xa w, dG xa w] (iB true) [] := J57 hE (len_sm okA) okA.2 okA.2
 have jB : COut E 0 [] 57 [dG xb w, dG xb w] (iB true) [] := J57 hE (len_sm okB) okB.2 okB.2
 have aor : as_ = [] ∨ okM w as_ := has ▸ h.nA_or
 have bor : bs = [] ∨ okM w bs := hbs ▸ h.nB_or
 intro j
 by_cases e : N = B
 ·subst e
  obtain rfl : xa = xb := hxa.trans hxb.symm
  have kf := J53s hE (n := N) (by omega) okA bor okA.2 rfl okA.2 rfl okA.2
  have gX := gA
  have jX := jA
  have jR := jA
  exact p9tn hE (acD acts) (iD bits) (iD xa) (iD as_) (iD xa) (iD bs) (iD xa) (iD xa) (iD bs) (w) (acts.length) (i) (q) (N) (N) (N) (as_.length) (bs.length) (bs.length) (w) (w) (x0) (x1) (3) (0) (rCt U) (decide_eq_true (by (try simp only [Int.ofNat_eq_natCast]); omega)) ⟨by (try simp only [Int.ofNat_eq_natCast]); omega, by (try simp only [Int.ofNat_eq_natCast]); omega⟩ rfl hrow (by decide) hr rfl rfl rfl rfl kf rfl jR rfl (bne_self_eq_false _) (by rw [decide_eq_false (by (try simp only [Int.ofNat_eq_natCast]); omega)]; rfl) (iIe (by (try simp only [Int.ofNat_eq_natCast]); rw [wrap_id (by omega) (by omega)]; try omega)) (decide_eq_false (by (try simp only [Int.ofNat_eq_natCast]); omega)) (by rw [decide_eq_false (by (try simp only [Int.ofNat_eq_natCast]); omega)]; rfl) (decide_eq_false (by (try simp only [Int.ofNat_eq_natCast]); omega)) (by rw [decide_eq_false (by (try simp only [Int.ofNat_eq_natCast]); omega)]; rfl) ⟨by (try simp only [Int.ofNat_eq_natCast]); omega, by (try simp only [Int.ofNat_eq_natCast]); omega⟩ (by simp) gA jA (decide_eq_false (by (try simp only [Int.ofNat_eq_natCast]); omega)) ⟨by (try simp only [Int.ofNat_eq_natCast]); omega, by (try simp only [Int.ofNat_eq_natCast]); omega⟩ (by simp) gX jX (iIe (by (try simp only [Int.ofNat_eq_natCast]); rw [wrap_id (by omega) (by omega)]; try omega)) (by first | exact flat_rt _ | exact flat_iC _) (ihN U q N N hB xa (as_) xa (bs) h hq hxa has hxa hbs (by omega)) j
 ·obtain rfl : N = B + 1 := by omega
  have hb := h.nb rfl
  have hl := h.hb hb
  have eb : bs = xa := by rw [hbs, hxa]; exact if_pos hb
  have kf := J53t hE (n := B) (by omega) okB (eb ▸ okA) eb okB.2 rfl okA.2 okA.2
  have gX := gA
  have jX := jA
  have jR := jA
  exact p9tn hE (acD acts) (iD bits) (iD xa) (iD as_) (iD xb) (iD bs) (iD xa) (iD xa) (iD []) (w) (acts.length) (i) (q) ((B + 1)) (B) ((B + 1)) (as_.length) (bs.length) (0) (w) (w) (x0) (x1) (3) (0) (rCt U) (decide_eq_true (by (try simp only [Int.ofNat_eq_natCast]); omega)) ⟨by (try simp only [Int.ofNat_eq_natCast]); omega, by (try simp only [Int.ofNat_eq_natCast]); omega⟩ rfl hrow (by decide) hr rfl rfl rfl rfl kf rfl jR rfl (bne_self_eq_false _) (by rw [decide_eq_false (by (try simp only [Int.ofNat_eq_natCast]); omega)]; rfl) (iIe (by (try simp only [Int.ofNat_eq_natCast]); rw [wrap_id (by omega) (by omega)]; try omega)) (decide_eq_false (by (try simp only [Int.ofNat_eq_natCast]); omega)) (by rw [decide_eq_false (by (try simp only [Int.ofNat_eq_natCast]); omega)]; rfl) (decide_eq_false (by (try simp only [Int.ofNat_eq_natCast]); omega)) (by rw [decide_eq_false (by (try simp only [Int.ofNat_eq_natCast]); omega)]; rfl) ⟨by (try simp only [Int.ofNat_eq_natCast]); omega, by (try simp only [Int.ofNat_eq_natCast]); omega⟩ (by simp) gA jA (decide_eq_false (by (try simp only [Int.ofNat_eq_natCast]); omega)) ⟨by (try simp only [Int.ofNat_eq_natCast]); omega, by (try simp only [Int.ofNat_eq_natCast]); omega⟩ (by simp) gX jX (iIe (by (try simp only [Int.ofNat_eq_natCast]); rw [wrap_id (by omega) (by omega)]; try omega)) (by first | exact flat_rt _ | exact flat_iC _) (ihN U q (B + 1) (B + 1) false xa (as_) xa ([]) (h.taken rfl) hq hxa has hxa rfl (by omega)) j
theorem f9n (hE : EnvOk E) (acts : List (Int × Int)) (bits : List Int) (w : Nat) (_hbits : okM w bits) (h24 : acts.length ≤ 24) (i : Nat) (x0 x1 : Int) (hx : acts[i]? = some (x0, x1)) (b1 : 0 ≤ x1 ∧ x1 < 256) (ihN : gN acts bits w (i + 1)) (_ihO : gO acts bits w (i + 1)) (U : List (List Int)) (q N B : Nat) (hB : Bool) (xa as_ xb bs : List Int) (h : AgOk w U N B hB []) (hq : U.length = q) (hxa : xa = um U N) (has : as_ = nA U N) (hxb : xb = um U B) (hbs : bs = nB U B hB) (hqi : q ≤ i + 1) (hr : x0.tmod 5 = 4) : ∀ j, OutK E 0 0 (sN acts bits w i U q N B xa as_ xb bs j) (Go.Ev.Ends E Tryz.f9 (iB true) []) := by
 have hi : i < acts.length := (List.getElem?_eq_some_iff.1 hx).1
 have hrow : takeL (dropL (acD acts) (i.mul 2)) 2 = some [.v (.int .u8 x0), .v (.int .u8 x1)] := rows_get (f := acP) (fun _ => rfl) hx
 have n1 := h.n1
 have n2 := h.n2
 have b1' := h.b1
 have b2' := h.b2
 have okA : okM w xa := hxa ▸ um_ok h.ok (by omega)
 have okB : okM w xb := hxb ▸ um_ok h.ok (by omega)
 have gA : getL (rCt U) N = some (.dp (.s (iD xa) w 1)) := hxa ▸ rCt_get h.ok (by omega)
 have gB : getL (rCt U) B = some (.dp (.s (iD xb) w 1)) := hxb ▸ rCt_get h.ok (by omega)
 have jA : COut E 0 [] 57 [dG xa w, dG xa w] (iB true) [] := J57 hE (len_sm okA) okA.2 okA.2
 have jB : COut E 0 [] 57 [dG xb w, dG xb w] (iB true) [] := J57 hE (len_sm okB) okB.2 okB.2
 have aor : as_ = [] ∨ okM w as_ := has ▸ h.nA_or
 have bor : bs = [] ∨ okM w bs := hbs ▸ h.nB_or
 intro j
 obtain ⟨K, hK⟩ : ∃ K, K = x1.toNat % (N + 1) := ⟨_, rfl⟩
 have hKl : K < N + 1 := hK ▸ Nat.mod_lt _ (by omega)
 have hk : (IntKind.i64.wrap x1).tmod (Int.ofNat (N + 1)) = Int.ofNat K := hK ▸ modK b1 (N + 1)
 by_cases e1 : K < B
 ·have kf := J53u hE (n := B) (m := K) (by omega) e1 okB bor okB.2 rfl
  exact p9un hE (acD acts) (iD bits) (iD xa) (iD as_) (iD xb) (iD bs) (iD []) (iD []) (iD []) (w) (acts.length) (i) (q) (N) (B) (0) (K) (as_.length) (bs.length) (0) (0) (0) (x0) (x1) (4) (35) (rCt U) (decide_eq_true (by (try simp only [Int.ofNat_eq_natCast]); omega)) ⟨by (try simp only [Int.ofNat_eq_natCast]); omega, by (try simp only [Int.ofNat_eq_natCast]); omega⟩ rfl hrow (by decide) hr rfl rfl rfl rfl (iIe (by (try simp only [Int.ofNat_eq_natCast]); rw [wrap_id (by omega) (by omega)]; try omega)) (by (try simp only [Int.ofNat_eq_natCast]); omega) hk kf rfl rfl (decide_eq_true (by (try simp only [Int.ofNat_eq_natCast]); omega)) (iIe (by (try simp only [Int.ofNat_eq_natCast]); rw [wrap_id (by omega) (by omega)]; try omega)) (by first | exact flat_rt _ | exact flat_iC _) (ihN U q N B hB xa (as_) xb (bs) h hq hxa has hxb hbs (by omega)) j
 ·by_cases e2 : K = B
  ·subst e2
   have kf := J53s hE (n := K) (by omega) okB bor okB.2 rfl okB.2 rfl okB.2
   have gX := gB
   have jX := jB
   have gR := gB
   have jR := jB
   exact p9fn hE (acD acts) (iD bits) (iD xa) (iD as_) (iD xb) (iD bs) (iD xb) (iD xb) (iD bs) (w) (acts.length) (i) (q) (N) (K) (K) (K) (as_.length) (bs.length) (bs.length) (w) (w) (x0) (x1) (4) (0) (rCt U) (decide_eq_true (by (try simp only [Int.ofNat_eq_natCast]); omega)) ⟨by (try simp only [Int.ofNat_eq_natCast]); omega, by (try simp only [Int.ofNat_eq_natCast]); omega⟩ rfl hrow (by decide) hr rfl rfl rfl rfl (iIe (by (try simp only [Int.ofNat_eq_natCast]); rw [wrap_id (by omega) (by omega)]; try omega)) (by (try simp only [Int.ofNat_eq_natCast]); omega) hk kf rfl rfl rfl ⟨by (try simp only [Int.ofNat_eq_natCast]); omega, by (try simp only [Int.ofNat_eq_natCast]); omega⟩ (by simp) gR jR rfl (by rw [decide_eq_false (by (try simp only [Int.ofNat_eq_natCast]); omega)]; rfl) (iIe (by (try simp only [Int.ofNat_eq_natCast]); rw [wrap_id (by omega) (by omega)]; try omega)) (decide_eq_false (by (try simp only [Int.ofNat_eq_natCast]); omega)) (by rw [decide_eq_false (by (try simp only [Int.ofNat_eq_natCast]); omega)]; rfl) (decide_eq_false (by (try simp only [Int.ofNat_eq_natCast]); omega)) (by rw [decide_eq_false (by (try simp only [Int.ofNat_eq_natCast]); omega)]; rfl) ⟨by (try simp only [Int.ofNat_eq_natCast]); omega, by (try simp only [Int.ofNat_eq_natCast]); omega⟩ (by simp) gA jA (decide_eq_false (by (try simp only [Int.ofNat_eq_natCast]); omega)) ⟨by (try simp only [Int.ofNat_eq_natCast]); omega, by (try simp only [Int.ofNat_eq_natCast]); omega⟩ (by simp) gX jX (iIe (by (try simp only [Int.ofNat_eq_natCast]); rw [wrap_id (by omega) (by omega)]; try omega)) (by first | exact flat_rt _ | exact flat_iC _) (ihN U q N K hB xa (as_) xb (bs) h hq hxa has hxb hbs (by omega)) j
  ·obtain rfl : N = B + 1 := by omega
   obtain rfl : K = B + 1 := by omega
   have hb := h.nb rfl
   have hl := h.hb hb
   have eb : bs = xa := by rw [hbs, hxa]; exact if_pos hb
   have kf := J53t hE (n := B) (by omega) okB (eb ▸ okA) eb okB.2 rfl okA.2 okA.2
   have gX := gA
   have jX := jA
   have gR := gA
   have jR := jA
   exact p9fn hE (acD acts) (iD bits) (iD xa) (iD as_) (iD xb) (iD bs) (iD xa) (iD xa) (iD []) (w) (acts.length) (i) (q) ((B + 1)) (B) ((B + 1)) ((B + 1)) (as_.length) (bs.length) (0) (w) (w) (x0) (x1) (4) (0) (rCt U) (decide_eq_true (by (try simp only [Int.ofNat_eq_natCast]); omega)) ⟨by (try simp only [Int.ofNat_eq_natCast]); omega, by (try simp only [Int.ofNat_eq_natCast]); omega⟩ rfl hrow (by decide) hr rfl rfl rfl rfl (iIe (by (try simp only [Int.ofNat_eq_natCast]); rw [wrap_id (by omega) (by omega)]; try omega)) (by (try simp only [Int.ofNat_eq_natCast]); omega) hk kf rfl rfl rfl ⟨by (try simp only [Int.ofNat_eq_natCast]); omega, by (try simp only [Int.ofNat_eq_natCast]); omega⟩ (by simp) gR jR rfl (by rw [decide_eq_false (by (try simp only [Int.ofNat_eq_natCast]); omega)]; rfl) (iIe (by (try simp only [Int.ofNat_eq_natCast]); rw [wrap_id (by omega) (by omega)]; try omega)) (decide_eq_false (by (try simp only [Int.ofNat_eq_natCast]); omega)) (by rw [decide_eq_false (by (try simp only [Int.ofNat_eq_natCast]); omega)]; rfl) (decide_eq_false (by (try simp only [Int.ofNat_eq_natCast]); omega)) (by rw [decide_eq_false (by (try simp only [Int.ofNat_eq_natCast]); omega)]; rfl) ⟨by (try simp only [Int.ofNat_eq_natCast]); omega, by (try simp only [Int.ofNat_eq_natCast]); omega⟩ (by simp) gA jA (decide_eq_false (by (try simp only [Int.ofNat_eq_natCast]); omega)) ⟨by (try simp only [Int.ofNat_eq_natCast]); omega, by (try simp only [Int.ofNat_eq_natCast]); omega⟩ (by simp) gX jX (iIe (by (try simp only [Int.ofNat_eq_natCast]); rw [wrap_id (by omega) (by omega)]; try omega)) (by first | exact flat_rt _ | exact flat_iC _) (ihN U q (B + 1) (B + 1) false xa (as_) xa ([]) (h.taken rfl) hq hxa has hxa rfl (by omega)) j
theorem h9n (hE : EnvOk E) (acts : List (Int × Int)) (bits : List Int) (w : Nat) (_hbits : okM w bits) (h24 : acts.length ≤ 24) (i : Nat) (x0 x1 : Int) (hx : acts[i]? = some (x0, x1)) (b1 : 0 ≤ x1 ∧ x1 < 256) (ihN : gN acts bits w (i + 1)) (ihO : gO acts bits w (i + 1)) (U : List (List Int)) (q N B : Nat) (hB : Bool) (xa as_ xb bs : List Int) (h : AgOk w U N B hB []) (hq : U.length = q) (hxa : xa = um U N) (has : as_ = nA U N) (hxb : xb = um U B) (hbs : bs = nB U B hB) (hqi : q ≤ i + 1) (hr : x0.tmod 5 = 1) : ∀ j, OutK E 0 0 (sN acts bits w i U q N B xa as_ xb bs j) (Go.Ev.Ends E Tryz.f9 (iB true) []) := by
 have hi : i < acts.length := (List.getElem?_eq_some_iff.1 hx).1
 have hrow : takeL (dropL (acD acts) (i.mul 2)) 2 = some [.v (.int .u8 x0), .v (.int .u8 x1)] := rows_get (f := acP) (fun _ => rfl) hx
 have n1 := h.n1
 have n2 := h.n2
 have b1' := h.b1
 have b2' := h.b2
 have okA : okM w xa := hxa ▸ um_ok h.ok (by omega)
 have okB : okM w xb := hxb ▸ um_ok h.ok (by omega)
 have gA : getL (rCt U) N = some (.dp (.s (iD xa) w 1)) := hxa ▸ rCt_get h.ok (by omega)
 have gB : getL (rCt U) B = some (.dp (.s (iD xb) w 1)) := hxb ▸ rCt_get h.ok (by omega)
 have jA : COut E 0 [] 57 [dG xa w, dG xa w] (iB true) [] := J57 hE (len_sm okA) okA.2 okA.2
 have jB : COut E 0 [] 57 [dG xb w, dG xb w] (iB true) [] := J57 hE (len_sm okB) okB.2 okB.2
 have aor : as_ = [] ∨ okM w as_ := has ▸ h.nA_or
 have bor : bs = [] ∨ okM w bs := hbs ▸ h.nB_or
 intro j
 obtain ⟨K, hK⟩ : ∃ K, K = x1.toNat % q := ⟨_, rfl⟩
 have hKl : K < q := hK ▸ Nat.mod_lt _ (by omega)
 have hk : (IntKind.i64.wrap x1).tmod (q : Int) = Int.ofNat K := hK ▸ modK b1 q
 by_cases e0 : K = 0
 ·subst e0
  exact p9kn hE (acD acts) (iD bits) (iD xa) (iD as_) (iD xb) (iD bs) (w) (acts.length) (i) (q) (N) (B) (0) (as_.length) (bs.length) (x0) (x1) (1) (rCt U) (decide_eq_true (by (try simp only [Int.ofNat_eq_natCast]); omega)) ⟨by (try simp only [Int.ofNat_eq_natCast]); omega, by (try simp only [Int.ofNat_eq_natCast]); omega⟩ rfl hrow (by decide) hr rfl rfl (by omega) hk rfl (iIe (by (try simp only [Int.ofNat_eq_natCast]); rw [wrap_id (by omega) (by omega)]; try omega)) (by first | exact flat_rt _ | exact flat_iC _) (ihN U q N B hB xa (as_) xb (bs) h hq hxa has hxb hbs (by omega)) j
 ·obtain ⟨z, hz⟩ : ∃ z, z = um U K := ⟨_, rfl⟩
  have okR : okM w z := hz ▸ um_ok h.ok (by omega)
  have gR : getL (rCt U) K = some (.dp (.s (iD z) w 1)) := hz ▸ rCt_get h.ok (by omega)
  have k37 : COut E 0 [] 37 [dG z w] (dG z w) [] := J37 hE (len_sm okR) okR.2
  refine p9hn hE (acD acts) (iD bits) (iD xa) (iD as_) (iD xb) (iD bs) (w) (acts.length) (i) (q) (N) (B) (K) (as_.length) (bs.length) (x0) (x1) (1) (rCt U) (decide_eq_true (by (try simp only [Int.ofNat_eq_natCast]); omega)) ⟨by (try simp only [Int.ofNat_eq_natCast]); omega, by (try simp only [Int.ofNat_eq_natCast]); omega⟩ rfl hrow (by decide) hr rfl rfl (by omega) hk (beq_eq_false_iff_ne.2 (by (try simp only [Int.ofNat_eq_natCast]); omega)) (by first | exact flat_rt _ | exact flat_iC _) ?_ j
  by_cases e1 : B + 1 < K
  ·have kf := J51u hE (n := B) (m := K) (by omega) (by omega) okB bor okR okB.2 rfl okR.2
   exact p9Hn hE (acD acts) (iD bits) (iD xa) (iD as_) (iD xb) (iD bs) (iD z) (iD []) (iD []) (w) (acts.length) (i) (q) (N) (B) (0) (K) (as_.length) (bs.length) (0) (0) (7) (0) (rCt U) ⟨by (try simp only [Int.ofNat_eq_natCast]); omega, by (try simp only [Int.ofNat_eq_natCast]); omega⟩ (by simp) gR k37 kf (p9in hE (acD acts) (iD bits) (iD xa) (iD as_) (iD xb) (iD bs) (iD []) (iD []) (w) (acts.length) (i) (q) (N) (B) (0) (K) (as_.length) (bs.length) (0) (0) (7) (0) (rCt U) (iIe (by (try simp only [Int.ofNat_eq_natCast]); rw [wrap_id (by omega) (by omega)]; try omega)) (decide_eq_true (by (try simp only [Int.ofNat_eq_natCast]); omega)) rfl (iIe (by (try simp only [Int.ofNat_eq_natCast]); rw [wrap_id (by omega) (by omega)]; try omega)) (by first | exact flat_rt _ | exact flat_iC _) (ihN U q N B hB xa (as_) xb (bs) h hq hxa has hxb hbs (by omega)))
  ·by_cases e2 : K = B + 1
   ·subst e2
    have kf := J51t hE (n := B) (by omega) okB (show bs = [] ∨ bs = z by rw [hbs, hz]; unfold nB; split; exact .inr rfl; exact .inl rfl) okR okB.2 rfl okR.2 okB.2 (c2 := z.length) rfl
    have gX := gB
    have jX := jB
    exact p9Hn hE (acD acts) (iD bits) (iD xa) (iD as_) (iD xb) (iD bs) (iD z) (iD xb) (iD z) (w) (acts.length) (i) (q) (N) (B) (B) ((B + 1)) (as_.length) (bs.length) (z.length) (w) (0) ((Int.ofNat (B + 1))) (rCt U) ⟨by (try simp only [Int.ofNat_eq_natCast]); omega, by (try simp only [Int.ofNat_eq_natCast]); omega⟩ (by simp) gR k37 kf (p9jn hE (acD acts) (iD bits) (iD xa) (iD as_) (iD xb) (iD bs) (iD xb) (iD z) (w) (acts.length) (i) (q) (N) (B) (B) ((B + 1)) (as_.length) (bs.length) (z.length) (w) (0) ((Int.ofNat (B + 1))) (rCt U) (iIe (by (try simp only [Int.ofNat_eq_natCast]); rw [wrap_id (by omega) (by omega)]; try omega)) (decide_eq_false (by (try simp only [Int.ofNat_eq_natCast]); omega)) rfl rfl (by rw [decide_eq_false (by (try simp only [Int.ofNat_eq_natCast]); omega)]; rfl) (decide_eq_false (by (try simp only [Int.ofNat_eq_natCast]); omega)) (by rw [decide_eq_false (by (try simp only [Int.ofNat_eq_natCast]); omega)]; rfl) (decide_eq_false (by (try simp only [Int.ofNat_eq_natCast]); omega)) (bne_self_eq_false _) (by rw [decide_eq_false (by (try simp only [Int.ofNat_eq_natCast]); omega)]; rfl) (iIe (by (try simp only [Int.ofNat_eq_natCast]); rw [wrap_id (by omega) (by omega)]; try omega)) (decide_eq_false (by (try simp only [Int.ofNat_eq_natCast]); omega)) (by rw [decide_eq_false (by (try simp only [Int.ofNat_eq_natCast]); omega)]; rfl) (decide_eq_false (by (try simp only [Int.ofNat_eq_natCast]); omega)) (by rw [decide_eq_false (by (try simp only [Int.ofNat_eq_natCast]); omega)]; rfl) ⟨by (try simp only [Int.ofNat_eq_natCast]); omega, by (try simp only [Int.ofNat_eq_natCast]); omega⟩ (by simp) gA jA (decide_eq_false (by (try simp only [Int.ofNat_eq_natCast]); omega)) ⟨by (try simp only [Int.ofNat_eq_natCast]); omega, by (try simp only [Int.ofNat_eq_natCast]); omega⟩ (by simp) gX jX (iIe (by (try simp only [Int.ofNat_eq_natCast]); rw [wrap_id (by omega) (by omega)]; try omega)) (by first | exact flat_rt _ | exact flat_iC _) (ihO U q N B true xa (as_) xb (z) 1 ([Int.ofNat (B + 1)]) (h.heard (by omega)) hq hxa has hxb hz (by omega) rfl (by omega) (by omega)))
   ·have kf := J51s hE (n := B) (m := K) (by omega) (by omega) okB bor okR okB.2 rfl okR.2 okB.2 rfl
    have gX := gB
    have jX := jB
    exact p9Hn hE (acD acts) (iD bits) (iD xa) (iD as_) (iD xb) (iD bs) (iD z) (iD xb) (iD bs) (w) (acts.length) (i) (q) (N) (B) (B) (K) (as_.length) (bs.length) (bs.length) (w) (0) ((Int.ofNat B)) (rCt U) ⟨by (try simp only [Int.ofNat_eq_natCast]); omega, by (try simp only [Int.ofNat_eq_natCast]); omega⟩ (by simp) gR k37 kf (p9jn hE (acD acts) (iD bits) (iD xa) (iD as_) (iD xb) (iD bs) (iD xb) (iD bs) (w) (acts.length) (i) (q) (N) (B) (B) (K) (as_.length) (bs.length) (bs.length) (w) (0) ((Int.ofNat B)) (rCt U) (iIe (by (try simp only [Int.ofNat_eq_natCast]); rw [wrap_id (by omega) (by omega)]; try omega)) (decide_eq_false (by (try simp only [Int.ofNat_eq_natCast]); omega)) rfl rfl (by rw [decide_eq_false (by (try simp only [Int.ofNat_eq_natCast]); omega)]; rfl) (decide_eq_false (by (try simp only [Int.ofNat_eq_natCast]); omega)) (by rw [decide_eq_false (by (try simp only [Int.ofNat_eq_natCast]); omega)]; rfl) (decide_eq_false (by (try simp only [Int.ofNat_eq_natCast]); omega)) (bne_self_eq_false _) (by rw [decide_eq_false (by (try simp only [Int.ofNat_eq_natCast]); omega)]; rfl) (iIe (by (try simp only [Int.ofNat_eq_natCast]); rw [wrap_id (by omega) (by omega)]; try omega)) (decide_eq_false (by (try simp only [Int.ofNat_eq_natCast]); omega)) (by rw [decide_eq_false (by (try simp only [Int.ofNat_eq_natCast]); omega)]; rfl) (decide_eq_false (by (try simp only [Int.ofNat_eq_natCast]); omega)) (by rw [decide_eq_false (by (try simp only [Int.ofNat_eq_natCast]); omega)]; rfl) ⟨by (try simp only [Int.ofNat_eq_natCast]); omega, by (try simp only [Int.ofNat_eq_natCast]); omega⟩ (by simp) gA jA (decide_eq_false (by (try simp only [Int.ofNat_eq_natCast]); omega)) ⟨by (try simp only [Int.ofNat_eq_natCast]); omega, by (try simp only [Int.ofNat_eq_natCast]); omega⟩ (by simp) gX jX (iIe (by (try simp only [Int.ofNat_eq_natCast]); rw [wrap_id (by omega) (by omega)]; try omega)) (by first | exact flat_rt _ | exact flat_iC _) (ihO U q N B hB xa (as_) xb (bs) 1 ([Int.ofNat B]) h.again hq hxa has hxb hbs (by omega) rfl (by omega) (by omega)))
theorem t9o (hE : EnvOk E) (acts : List (Int × Int)) (bits : List Int) (w : Nat) (_hbits : okM w bits) (h24 : acts.length ≤ 24) (i : Nat) (x0 x1 : Int) (hx : acts[i]? = some (x0, x1)) (_b1 : 0 ≤ x1 ∧ x1 < 256) (_ihN : gN acts bits w (i + 1)) (ihO : gO acts bits w (i + 1)) (U : List (List Int)) (q N B : Nat) (hB : Bool) (xa as_ xb bs : List Int) (u : Nat) (As : List Int) (h : AgOk w U N B hB As) (hq : U.length = q) (hxa : xa = um U N) (has : as_ = nA U N) (hxb : xb = um U B) (hbs : bs = nB U B hB) (hqi : q ≤ i + 1) (hu : As.length = u) (hu0 : 0 < u) (hui : u ≤ i) (hr : x0.tmod 5 = 3) : ∀ j, OutK E 0 0 (sO acts bits w i U q N B xa as_ xb bs u As j) (Go.Ev.Ends E Tryz.f9 (iB true) []) := by
 have hi : i < acts.length := (List.getElem?_eq_some_iff.1 hx).1
 have hrow : takeL (dropL (acD acts) (i.mul 2)) 2 = some [.v (.int .u8 x0), .v (.int .u8 x1)] := rows_get (f := acP) (fun _ => rfl) hx
 have n1 := h.n1
 have n2 := h.n2
 have b1' := h.b1
 have b2' := h.b2
 have okA : okM w xa := hxa ▸ um_ok h.ok (by omega)
 have okB : okM w xb := hxb ▸ um_ok h.ok (by omega)
 have gA : getL (rCt U) N = some (.dp (.s (iD xa) w 1)) := hxa ▸ rCt_get h.ok (by omega)
 have gB : getL (rCt U) B = some (.dp (.s (iD xb) w 1)) := hxb ▸ rCt_get h.ok (by omega)
 have jA : COut E 0 [] 57 [dG xa w, dG xa w] (iB true) [] := J57 hE (len_sm okA) okA.2 okA.2
 have jB : COut E 0 [] 57 [dG xb w, dG xb w] (iB true) [] := J57 hE (len_sm okB) okB.2 okB.2
 have aor : as_ = [] ∨ okM w as_ := has ▸ h.nA_or
 have bor : bs = [] ∨ okM w bs := hbs ▸ h.nB_or
 intro j
 by_cases e : N = B
 ·subst e
  obtain rfl : xa = xb := hxa.trans hxb.symm
  have kf := J53s hE (n := N) (by omega) okA bor okA.2 rfl okA.2 rfl okA.2
  have gX := gA
  have jX := jA
  have jR := jA
  exact p9to hE (acD acts) (iD bits) (iD xa) (iD as_) (iD xa) (iD bs) (iD xa) (iD xa) (iD bs) (w) (acts.length) (i) (q) (u) (N) (N) (N) (as_.length) (bs.length) (bs.length) (w) (w) (x0) (x1) (3) (0) (rCt U) (iC As) (decide_eq_true (by (try simp only [Int.ofNat_eq_natCast]); omega)) ⟨by (try simp only [Int.ofNat_eq_natCast]); omega, by (try simp only [Int.ofNat_eq_natCast]); omega⟩ rfl hrow (by decide) hr rfl rfl rfl rfl kf rfl jR rfl (bne_self_eq_false _) (by rw [decide_eq_false (by (try simp only [Int.ofNat_eq_natCast]); omega)]; rfl) (iIe (by (try simp only [Int.ofNat_eq_natCast]); rw [wrap_id (by omega) (by omega)]; try omega)) (decide_eq_false (by (try simp only [Int.ofNat_eq_natCast]); omega)) (by rw [decide_eq_false (by (try simp only [Int.ofNat_eq_natCast]); omega)]; rfl) (decide_eq_false (by (try simp only [Int.ofNat_eq_natCast]); omega)) (by rw [decide_eq_false (by (try simp only [Int.ofNat_eq_natCast]); omega)]; rfl) ⟨by (try simp only [Int.ofNat_eq_natCast]); omega, by (try simp only [Int.ofNat_eq_natCast]); omega⟩ (by simp) gA jA (decide_eq_false (by (try simp only [Int.ofNat_eq_natCast]); omega)) ⟨by (try simp only [Int.ofNat_eq_natCast]); omega, by (try simp only [Int.ofNat_eq_natCast]); omega⟩ (by simp) gX jX (iIe (by (try simp only [Int.ofNat_eq_natCast]); rw [wrap_id (by omega) (by omega)]; try omega)) (by first | exact flat_rt _ | exact flat_iC _) (by first | exact flat_rt _ | exact flat_iC _) (ihO U q N N hB xa (as_) xa (bs) u (As) h hq hxa has hxa hbs (by omega) hu (by omega) (by omega)) j
 ·obtain rfl : N = B + 1 := by omega
  have hb := h.nb rfl
  have hl := h.hb hb
  have eb : bs = xa := by rw [hbs, hxa]; exact if_pos hb
  have kf := J53t hE (n := B) (by omega) okB (eb ▸ okA) eb okB.2 rfl okA.2 okA.2
  have gX := gA
  have jX := jA
  have jR := jA
  exact p9to hE (acD acts) (iD bits) (iD xa) (iD as_) (iD xb) (iD bs) (iD xa) (iD xa) (iD []) (w) (acts.length) (i) (q) (u) ((B + 1)) (B) ((B + 1)) (as_.length) (bs.length) (0) (w) (w) (x0) (x1) (3) (0) (rCt U) (iC As) (decide_eq_true (by (try simp only [Int.ofNat_eq_natCast]); omega)) ⟨by (try simp only [Int.ofNat_eq_natCast]); omega, by (try simp only [Int.ofNat_eq_natCast]); omega⟩ rfl hrow (by decide) hr rfl rfl rfl rfl kf rfl jR rfl (bne_self_eq_false _) (by rw [decide_eq_false (by (try simp only [Int.ofNat_eq_natCast]); omega)]; rfl) (iIe (by (try simp only [Int.ofNat_eq_natCast]); rw [wrap_id (by omega) (by omega)]; try omega)) (decide_eq_false (by (try simp only [Int.ofNat_eq_natCast]); omega)) (by rw [decide_eq_false (by (try simp only [Int.ofNat_eq_natCast]); omega)]; rfl) (decide_eq_false (by (try simp only [Int.ofNat_eq_natCast]); omega)) (by rw [decide_eq_false (by (try simp only [Int.ofNat_eq_natCast]); omega)]; rfl) ⟨by (try simp only [Int.ofNat_eq_natCast]); omega, by (try simp only [Int.ofNat_eq_natCast]); omega⟩ (by simp) gA jA (decide_eq_false (by (try simp only [Int.ofNat_eq_natCast]); omega)) ⟨by (try simp only [Int.ofNat_eq_natCast]); omega, by (try simp only [Int.ofNat_eq_natCast]); omega⟩ (by simp) gX jX (iIe (by (try simp only [Int.ofNat_eq_natCast]); rw [wrap_id (by omega) (by omega)]; try omega)) (by first | exact flat_rt _ | exact flat_iC _) (by first | exact flat_rt _ | exact flat_iC _) (ihO U q (B + 1) (B + 1) false xa (as_) xa ([]) u (As) (h.taken rfl) hq hxa has hxa rfl (by omega) hu (by omega) (by omega)) j
theorem f9o (hE : EnvOk E) (acts : List (Int × Int)) (bits : List Int) (w : Nat) (_hbits : okM w bits) (h24 : acts.length ≤ 24) (i : Nat) (x0 x1 : Int) (hx : acts[i]? = some (x0, x1)) (b1 : 0 ≤ x1 ∧ x1 < 256) (_ihN : gN acts bits w (i + 1)) (ihO : gO acts bits w (i + 1)) (U : List (List Int)) (q N B : Nat) (hB : Bool) (xa as_ xb bs : List Int) (u : Nat) (As : List Int) (h : AgOk w U N B hB As) (hq : U.length = q) (hxa : xa = um U N) (has : as_ = nA U N) (hxb : xb = um U B) (hbs : bs = nB U B hB) (hqi : q ≤ i + 1) (hu : As.length = u) (hu0 : 0 < u) (hui : u ≤ i) (hr : x0.tmod 5 = 4) : ∀ j, OutK E 0 0 (sO acts bits w i U q N B xa as_ xb bs u As j) (Go.Ev.Ends E Tryz.f9 (iB true) []) := by
 have hi : i < acts.length := (List.getElem?_eq_some_iff.1 hx).1
 have hrow : takeL (dropL (acD acts) (i.mul 2)) 2 = some [.v (.int .u8 x0), .v (.int .u8 x1)] := rows_get (f := acP) (fun _ => rfl) hx
 have n1 := h.n1
 have n2 := h.n2
 have b1' := h.b1
 have b2' := h.b2
 have okA : okM w xa := hxa ▸ um_ok h.ok (by omega)
 have okB : okM w xb := hxb ▸ um_ok h.ok (by omega)
 have gA : getL (rCt U) N = some (.dp (.s (iD xa) w 1)) := hxa ▸ rCt_get h.ok (by omega)
 have gB : getL (rCt U) B = some (.dp (.s (iD xb) w 1)) := hxb ▸ rCt_get h.ok (by omega)
 have jA : COut E 0 [] 57 [dG xa w, dG xa w] (iB true) [] := J57 hE (len_sm okA) okA.2 okA.2
 have jB : COut E 0 [] 57 [dG xb w, dG xb w] (iB true) [] := J57 hE (len_sm okB) okB.2 okB.2
 have aor : as_ = [] ∨ okM w as_ := has ▸ h.nA_or
 have bor : bs = [] ∨ okM w bs := hbs ▸ h.nB_or
 intro j
 obtain ⟨K, hK⟩ : ∃ K, K = x1.toNat % (N + 1) := ⟨_, rfl⟩
 have hKl : K < N + 1 := hK ▸ Nat.mod_lt _ (by omega)
 have hk : (IntKind.i64.wrap x1).tmod (Int.ofNat (N + 1)) = Int.ofNat K := hK ▸ modK b1 (N + 1)
 by_cases e1 : K < B
 ·have kf := J53u hE (n := B) (m := K) (by omega) e1 okB bor okB.2 rfl
  exact p9uo hE (acD acts) (iD bits) (iD xa) (iD as_) (iD xb) (iD bs) (iD []) (iD []) (iD []) (w) (acts.length) (i) (q) (u) (N) (B) (0) (K) (as_.length) (bs.length) (0) (0) (0) (x0) (x1) (4) (35) (rCt U) (iC As) (decide_eq_true (by (try simp only [Int.ofNat_eq_natCast]); omega)) ⟨by (try simp only [Int.ofNat_eq_natCast]); omega, by (try simp only [Int.ofNat_eq_natCast]); omega⟩ rfl hrow (by decide) hr rfl rfl rfl rfl (iIe (by (try simp only [Int.ofNat_eq_natCast]); rw [wrap_id (by omega) (by omega)]; try omega)) (by (try simp only [Int.ofNat_eq_natCast]); omega) hk kf rfl rfl (decide_eq_true (by (try simp only [Int.ofNat_eq_natCast]); omega)) (iIe (by (try simp only [Int.ofNat_eq_natCast]); rw [wrap_id (by omega) (by omega)]; try omega)) (by first | exact flat_rt _ | exact flat_iC _) (by first | exact flat_rt _ | exact flat_iC _) (ihO U q N B hB xa (as_) xb (bs) u (As) h hq hxa has hxb hbs (by omega) hu (by omega) (by omega)) j
 ·by_cases e2 : K = B
  ·subst e2
   have kf := J53s hE (n := K) (by omega) okB bor okB.2 rfl okB.2 rfl okB.2
   have gX := gB
   have jX := jB
   have gR := gB
   have jR := jB
   exact p9fo hE (acD acts) (iD bits) (iD xa) (iD as_) (iD xb) (iD bs) (iD xb) (iD xb) (iD bs) (w) (acts.length) (i) (q) (u) (N) (K) (K) (K) (as_.length) (bs.length) (bs.length) (w) (w) (x0) (x1) (4) (0) (rCt U) (iC As) (decide_eq_true (by (try simp only [Int.ofNat_eq_natCast]); omega)) ⟨by (try simp only [Int.ofNat_eq_natCast]); omega, by (try simp only [Int.ofNat_eq_natCast]); omega⟩ rfl hrow (by decide) hr rfl rfl rfl rfl (iIe (by (try simp only [Int.ofNat_eq_natCast]); rw [wrap_id (by omega) (by omega)]; try omega)) (by (try simp only [Int.ofNat_eq_natCast]); omega) hk kf rfl rfl rfl ⟨by (try simp only [Int.ofNat_eq_natCast]); omega, by (try simp only [Int.ofNat_eq_natCast]); omega⟩ (by simp) gR jR rfl (by rw [decide_eq_false (by (try simp only [Int.ofNat_eq_natCast]); omega)]; rfl) (iIe (by (try simp only [Int.ofNat_eq_natCast]); rw [wrap_id (by omega) (by omega)]; try omega)) (decide_eq_false (by (try simp only [Int.ofNat_eq_natCast]); omega)) (by rw [decide_eq_false (by (try simp only [Int.ofNat_eq_natCast]); omega)]; rfl) (decide_eq_false (by (try simp only [Int.ofNat_eq_natCast]); omega)) (by rw [decide_eq_false (by (try simp only [Int.ofNat_eq_natCast]); omega)]; rfl) ⟨by (try simp only [Int.ofNat_eq_natCast]); omega, by (try simp only [Int.ofNat_eq_natCast]); omega⟩ (by simp) gA jA (decide_eq_false (by (try simp only [Int.ofNat_eq_natCast]); omega)) ⟨by (try simp only [Int.ofNat_eq_natCast]); omega, by (try simp only [Int.ofNat_eq_natCast]); omega⟩ (by simp) gX jX (iIe (by (try simp only [Int.ofNat_eq_natCast]); rw [wrap_id (by omega) (by omega)]; try omega)) (by first | exact flat_rt _ | exact flat_iC _) (by first | exact flat_rt _ | exact flat_iC _) (ihO U q N K hB xa (as_) xb (bs) u (As) h hq hxa has hxb hbs (by omega) hu (by omega) (by omega)) j
  ·obtain rfl : N = B + 1 := by omega
   obtain rfl : K = B + 1 := by omega
   have hb := h.nb rfl
   have hl := h.hb hb
   have eb : bs = xa := by rw [hbs, hxa]; exact if_pos hb
   have kf := J53t hE (n := B) (by omega) okB (eb ▸ okA) eb okB.2 rfl okA.2 okA.2
   have gX := gA
   have jX := jA
   have gR := gA
   have jR := jA
   exact p9fo hE (acD acts) (iD bits) (iD xa) (iD as_) (iD xb) (iD bs) (iD xa) (iD xa) (iD []) (w) (acts.length) (i) (q) (u) ((B + 1)) (B) ((B + 1)) ((B + 1)) (as_.length) (bs.length) (0) (w) (w) (x0) (x1) (4) (0) (rCt U) (iC As) (decide_eq_true (by (try simp only [Int.ofNat_eq_natCast]); omega)) ⟨by (try simp only [Int.ofNat_eq_natCast]); omega, by (try simp only [Int.ofNat_eq_natCast]); omega⟩ rfl hrow (by decide) hr rfl rfl rfl rfl (iIe (by (try simp only [Int.ofNat_eq_natCast]); rw [wrap_id (by omega) (by omega)]; try omega)) (by (try simp only [Int.ofNat_eq_natCast]); omega) hk kf rfl rfl rfl ⟨by (try simp only [Int.ofNat_eq_natCast]); omega, by (try simp only [Int.ofNat_eq_natCast]); omega⟩ (by simp) gR jR rfl (by rw [decide_eq_false (by (try simp only [Int.ofNat_eq_natCast]); omega)]; rfl) (iIe (by (try simp only [Int.ofNat_eq_natCast]); rw [wrap_id (by omega) (by omega)]; try omega)) (decide_eq_false (by (try simp only [Int.ofNat_eq_natCast]); omega)) (by rw [decide_eq_false (by (try simp only [Int.ofNat_eq_natCast]); omega)]; rfl) (decide_eq_false (by (try simp only [Int.ofNat_eq_natCast]); omega)) (by rw [decide_eq_false (by (try simp only [Int.ofNat_eq_natCast]); omega)]; rfl) ⟨by (try simp only [Int.ofNat_eq_natCast]); omega, by (try simp only [Int.ofNat_eq_natCast]); omega⟩ (by simp) gA jA (decide_eq_false (by (try simp only [Int.ofNat_eq_natCast]); omega)) ⟨by (try simp only [Int.ofNat_eq_natCast]); omega, by (try simp only [Int.ofNat_eq_natCast]); omega⟩ (by simp) gX jX (iIe (by (try simp only [Int.ofNat_eq_natCast]); rw [wrap_id (by omega) (by omega)]; try omega)) (by first | exact flat_rt _ | exact flat_iC _) (by first | exact flat_rt _ | exact flat_iC _) (ihO U q (B + 1) (B + 1) false xa (as_) xa ([]) u (As) (h.taken rfl) hq hxa has hxa rfl (by omega) hu (by omega) (by omega)) j
theorem h9o (hE : EnvOk E) (acts : List (Int × Int)) (bits : List Int) (w : Nat) (_hbits : okM w bits) (h24 : acts.length ≤ 24) (i : Nat) (x0 x1 : Int) (hx : acts[i]? = some (x0, x1)) (b1 : 0 ≤ x1 ∧ x1 < 256) (_ihN : gN acts bits w (i + 1)) (ihO : gO acts bits w (i + 1)) (U : List (List Int)) (q N B : Nat) (hB : Bool) (xa as_ xb bs : List Int) (u : Nat) (As : List Int) (h : AgOk w U N B hB As) (hq : U.length = q) (hxa : xa = um U N) (has : as_ = nA U N) (hxb : xb = um U B) (hbs : bs = nB U B hB) (hqi : q ≤ i + 1) (hu : As.length = u) (hu0 : 0 < u) (hui : u ≤ i) (hr : x0.tmod 5 = 1) : ∀ j, OutK E 0 0 (sO acts bits w i U q N B xa as_ xb bs u As j) (Go.Ev.Ends E Tryz.f9 (iB true) []) := by
 have hi : i < acts.length := (List.getElem?_eq_some_iff.1 hx).1
 have hrow : takeL (dropL (acD acts) (i.mul 2)) 2 = some [.v (.int .u8 x0), .v (.int .u8 x1)] := rows_get (f := acP) (fun _ => rfl) hx
 have n1 := h.n1
 have n2 := h.n2
 have b1' := h.b1
 have b2' := h.b2
 have okA : okM w xa := hxa ▸ um_ok h.ok (by omega)
 have okB : okM w xb := hxb ▸ um_ok h.ok (by omega)
 have gA : getL (rCt U) N = some (.dp (.s (iD xa) w 1)) := hxa ▸ rCt_get h.ok (by omega)
 have gB : getL (rCt U) B = some (.dp (.s (iD xb) w 1)) := hxb ▸ rCt_get h.ok (by omega)
 have jA : COut E 0 [] 57 [dG xa w, dG xa w] (iB true) [] := J57 hE (len_sm okA) okA.2 okA.2
 have jB : COut E 0 [] 57 [dG xb w, dG xb w] (iB true) [] := J57 hE (len_sm okB) okB.2 okB.2
 have aor : as_ = [] ∨ okM w as_ := has ▸ h.nA_or
 have bor : bs = [] ∨ okM w bs := hbs ▸ h.nB_or
 intro j
 obtain ⟨K, hK⟩ : ∃ K, K = x1.toNat % q := ⟨_, rfl⟩
 have hKl : K < q := hK ▸ Nat.mod_lt _ (by omega)
 have hk : (IntKind.i64.wrap x1).tmod (q : Int) = Int.ofNat K := hK ▸ modK b1 q
 by_cases e0 : K = 0
 ·subst e0
  exact p9ko hE (acD acts) (iD bits) (iD xa) (iD as_) (iD xb) (iD bs) (w) (acts.length) (i) (q) (u) (N) (B) (0) (as_.length) (bs.length) (x0) (x1) (1) (rCt U) (iC As) (decide_eq_true (by (try simp only [Int.ofNat_eq_natCast]); omega)) ⟨by (try simp only [Int.ofNat_eq_natCast]); omega, by (try simp only [Int.ofNat_eq_natCast]); omega⟩ rfl hrow (by decide) hr rfl rfl (by omega) hk rfl (iIe (by (try simp only [Int.ofNat_eq_natCast]); rw [wrap_id (by omega) (by omega)]; try omega)) (by first | exact flat_rt _ | exact flat_iC _) (by first | exact flat_rt _ | exact flat_iC _) (ihO U q N B hB xa (as_) xb (bs) u (As) h hq hxa has hxb hbs (by omega) hu (by omega) (by omega)) j
 ·obtain ⟨z, hz⟩ : ∃ z, z = um U K := ⟨_, rfl⟩
  have okR : okM w z := hz ▸ um_ok h.ok (by omega)
  have gR : getL (rCt U) K = some (.dp (.s (iD z) w 1)) := hz ▸ rCt_get h.ok (by omega)
  have k37 : COut E 0 [] 37 [dG z w] (dG z w) [] := J37 hE (len_sm okR) okR.2
  refine p9ho hE (acD acts) (iD bits) (iD xa) (iD as_) (iD xb) (iD bs) (w) (acts.length) (i) (q) (u) (N) (B) (K) (as_.length) (bs.length) (x0) (x1) (1) (rCt U) (iC As) (decide_eq_true (by (try simp only [Int.ofNat_eq_natCast]); omega)) ⟨by (try simp only [Int.ofNat_eq_natCast]); omega, by (try simp only [Int.ofNat_eq_natCast]); omega⟩ rfl hrow (by decide) hr rfl rfl (by omega) hk (beq_eq_false_iff_ne.2 (by (try simp only [Int.ofNat_eq_natCast]); omega)) (by first | exact flat_rt _ | exact flat_iC _) (by first | exact flat_rt _ | exact flat_iC _) ?_ j
  by_cases e1 : B + 1 < K
  ·have kf := J51u hE (n := B) (m := K) (by omega) (by omega) okB bor okR okB.2 rfl okR.2
   exact p9Ho hE (acD acts) (iD bits) (iD xa) (iD as_) (iD xb) (iD bs) (iD z) (iD []) (iD []) (w) (acts.length) (i) (q) (u) (N) (B) (0) (K) (as_.length) (bs.length) (0) (0) (7) (0) (rCt U) (iC As) ⟨by (try simp only [Int.ofNat_eq_natCast]); omega, by (try simp only [Int.ofNat_eq_natCast]); omega⟩ (by simp) gR k37 kf (p9io hE (acD acts) (iD bits) (iD xa) (iD as_) (iD xb) (iD bs) (iD []) (iD []) (w) (acts.length) (i) (q) (u) (N) (B) (0) (K) (as_.length) (bs.length) (0) (0) (7) (0) (rCt U) (iC As) (iIe (by (try simp only [Int.ofNat_eq_natCast]); rw [wrap_id (by omega) (by omega)]; try omega)) (decide_eq_true (by (try simp only [Int.ofNat_eq_natCast]); omega)) rfl (iIe (by (try simp only [Int.ofNat_eq_natCast]); rw [wrap_id (by omega) (by omega)]; try omega)) (by first | exact flat_rt _ | exact flat_iC _) (by first | exact flat_rt _ | exact flat_iC _) (ihO U q N B hB xa (as_) xb (bs) u (As) h hq hxa has hxb hbs (by omega) hu (by omega) (by omega)))
  ·by_cases e2 : K = B + 1
   ·subst e2
    have kf := J51t hE (n := B) (by omega) okB (show bs = [] ∨ bs = z by rw [hbs, hz]; unfold nB; split; exact .inr rfl; exact .inl rfl) okR okB.2 rfl okR.2 okB.2 (c2 := z.length) rfl
    have gX := gB
    have jX := jB
    exact p9Ho hE (acD acts) (iD bits) (iD xa) (iD as_) (iD xb) (iD bs) (iD z) (iD xb) (iD z) (w) (acts.length) (i) (q) (u) (N) (B) (B) ((B + 1)) (as_.length) (bs.length) (z.length) (w) (0) ((Int.ofNat (B + 1))) (rCt U) (iC As) ⟨by (try simp only [Int.ofNat_eq_natCast]); omega, by (try simp only [Int.ofNat_eq_natCast]); omega⟩ (by simp) gR k37 kf (p9jo hE (acD acts) (iD bits) (iD xa) (iD as_) (iD xb) (iD bs) (iD xb) (iD z) (w) (acts.length) (i) (q) (u) (N) (B) (B) ((B + 1)) (as_.length) (bs.length) (z.length) (w) (0) ((Int.ofNat (B + 1))) (rCt U) (iC As) (iC (As ++ [Int.ofNat (B + 1)])) (iIe (by (try simp only [Int.ofNat_eq_natCast]); rw [wrap_id (by omega) (by omega)]; try omega)) (decide_eq_false (by (try simp only [Int.ofNat_eq_natCast]); omega)) rfl rfl (by rw [decide_eq_false (by (try simp only [Int.ofNat_eq_natCast]); omega)]; rfl) (decide_eq_false (by (try simp only [Int.ofNat_eq_natCast]); omega)) (by rw [decide_eq_false (by (try simp only [Int.ofNat_eq_natCast]); omega)]; rfl) (decide_eq_false (by (try simp only [Int.ofNat_eq_natCast]); omega)) (bne_self_eq_false _) (by omega) (by simp [small]; omega) (by first | rfl | trivial | omega | simp | (simp <;> omega)) (iC_app As [Int.ofNat (B + 1)]) (by first | rfl | trivial | omega | simp | (simp <;> omega)) (by rw [decide_eq_false (by (try simp only [Int.ofNat_eq_natCast]); omega)]; rfl) (iIe (by (try simp only [Int.ofNat_eq_natCast]); rw [wrap_id (by omega) (by omega)]; try omega)) (decide_eq_false (by (try simp only [Int.ofNat_eq_natCast]); omega)) (by rw [decide_eq_false (by (try simp only [Int.ofNat_eq_natCast]); omega)]; rfl) (decide_eq_false (by (try simp only [Int.ofNat_eq_natCast]); omega)) (by rw [decide_eq_false (by (try simp only [Int.ofNat_eq_natCast]); omega)]; rfl) ⟨by (try simp only [Int.ofNat_eq_natCast]); omega, by (try simp only [Int.ofNat_eq_natCast]); omega⟩ (by simp) gA jA (decide_eq_false (by (try simp only [Int.ofNat_eq_natCast]); omega)) ⟨by (try simp only [Int.ofNat_eq_natCast]); omega, by (try simp only [Int.ofNat_eq_natCast]); omega⟩ (by simp) gX jX (iIe (by (try simp only [Int.ofNat_eq_natCast]); rw [wrap_id (by omega) (by omega)]; try omega)) (by first | exact flat_rt _ | exact flat_iC _) (by first | exact flat_rt _ | exact flat_iC _) (ihO U q N B true xa (as_) xb (z) (u + 1) (As ++ [Int.ofNat (B + 1)]) (h.heard (by omega)) hq hxa has hxb hz (by omega) (by simp [hu]) (by omega) (by omega)))
   ·have kf := J51s hE (n := B) (m := K) (by omega) (by omega) okB bor okR okB.2 rfl okR.2 okB.2 rfl
    have gX := gB
    have jX := jB
    exact p9Ho hE (acD acts) (iD bits) (iD xa) (iD as_) (iD xb) (iD bs) (iD z) (iD xb) (iD bs) (w) (acts.length) (i) (q) (u) (N) (B) (B) (K) (as_.length) (bs.length) (bs.length) (w) (0) ((Int.ofNat B)) (rCt U) (iC As) ⟨by (try simp only [Int.ofNat_eq_natCast]); omega, by (try simp only [Int.ofNat_eq_natCast]); omega⟩ (by simp) gR k37 kf (p9jo hE (acD acts) (iD bits) (iD xa) (iD as_) (iD xb) (iD bs) (iD xb) (iD bs) (w) (acts.length) (i) (q) (u) (N) (B) (B) (K) (as_.length) (bs.length) (bs.length) (w) (0) ((Int.ofNat B)) (rCt U) (iC As) (iC (As ++ [Int.ofNat B])) (iIe (by (try simp only [Int.ofNat_eq_natCast]); rw [wrap_id (by omega) (by omega)]; try omega)) (decide_eq_false (by (try simp only [Int.ofNat_eq_natCast]); omega)) rfl rfl (by rw [decide_eq_false (by (try simp only [Int.ofNat_eq_natCast]); omega)]; rfl) (decide_eq_false (by (try simp only [Int.ofNat_eq_natCast]); omega)) (by rw [decide_eq_false (by (try simp only [Int.ofNat_eq_natCast]); omega)]; rfl) (decide_eq_false (by (try simp only [Int.ofNat_eq_natCast]); omega)) (bne_self_eq_false _) (by omega) (by simp [small]; omega) (by first | rfl | trivial | omega | simp | (simp <;> omega)) (iC_app As [Int.ofNat B]) (by first | rfl | trivial | omega | simp | (simp <;> omega)) (by rw [decide_eq_false (by (try simp only [Int.ofNat_eq_natCast]); omega)]; rfl) (iIe (by (try simp only [Int.ofNat_eq_natCast]); rw [wrap_id (by omega) (by omega)]; try omega)) (decide_eq_false (by (try simp only [Int.ofNat_eq_natCast]); omega)) (by rw [decide_eq_false (by (try simp only [Int.ofNat_eq_natCast]); omega)]; rfl) (decide_eq_false (by (try simp only [Int.ofNat_eq_natCast]); omega)) (by rw [decide_eq_false (by (try simp only [Int.ofNat_eq_natCast]); omega)]; rfl) ⟨by (try simp only [Int.ofNat_eq_natCast]); omega, by (try simp only [Int.ofNat_eq_natCast]); omega⟩ (by simp) gA jA (decide_eq_false (by (try simp only [Int.ofNat_eq_natCast]); omega)) ⟨by (try simp only [Int.ofNat_eq_natCast]); omega, by (try simp only [Int.ofNat_eq_natCast]); omega⟩ (by simp) gX jX (iIe (by (try simp only [Int.ofNat_eq_natCast]); rw [wrap_id (by omega) (by omega)]; try omega)) (by first | exact flat_rt _ | exact flat_iC _) (by first | exact flat_rt _ | exact flat_iC _) (ihO U q N B hB xa (as_) xb (bs) (u + 1) (As ++ [Int.ofNat B]) h.again hq hxa has hxb hbs (by omega) (by simp [hu]) (by omega) (by omega)))
theorem v9n (hE : EnvOk E) (acts : List (Int × Int)) (bits : List Int) (w : Nat) (_hbits : okM w bits) (h24 : acts.length ≤ 24) (i : Nat) (x0 x1 : Int) (hx : acts[i]? = some (x0, x1)) (_b1 : 0 ≤ x1 ∧ x1 < 256) (ihN : gN acts bits w (i + 1)) (_ihO : gO acts bits w (i + 1)) (U : List (List Int)) (q N B : Nat) (hB : Bool) (xa as_ xb bs : List Int) (h : AgOk w U N B hB []) (hq : U.length = q) (hxa : xa = um U N) (has : as_ = nA U N) (hxb : xb = um U B) (hbs : bs = nB U B hB) (hqi : q ≤ i + 1) (hr : x0.tmod 5 = 2) : ∀ j, OutK E 0 0 (sN acts bits w i U q N B xa as_ xb bs j) (Go.Ev.Ends E Tryz.f9 (iB true) []) := by
 have hi : i < acts.length := (List.getElem?_eq_some_iff.1 hx).1
 have hrow : takeL (dropL (acD acts) (i.mul 2)) 2 = some [.v (.int .u8 x0), .v (.int .u8 x1)] := rows_get (f := acP) (fun _ => rfl) hx
 have n1 := h.n1
 have n2 := h.n2
 have b1' := h.b1
 have b2' := h.b2
 have okA : okM w xa := hxa ▸ um_ok h.ok (by omega)
 have okB : okM w xb := hxb ▸ um_ok h.ok (by omega)
 have gA : getL (rCt U) N = some (.dp (.s (iD xa) w 1)) := hxa ▸ rCt_get h.ok (by omega)
 have gB : getL (rCt U) B = some (.dp (.s (iD xb) w 1)) := hxb ▸ rCt_get h.ok (by omega)
 have jA : COut E 0 [] 57 [dG xa w, dG xa w] (iB true) [] := J57 hE (len_sm okA) okA.2 okA.2
 have jB : COut E 0 [] 57 [dG xb w, dG xb w] (iB true) [] := J57 hE (len_sm okB) okB.2 okB.2
 have aor : as_ = [] ∨ okM w as_ := has ▸ h.nA_or
 have bor : bs = [] ∨ okM w bs := hbs ▸ h.nB_or
 intro j
 exact p9vn hE (acD acts) (iD bits) (iD xa) (iD as_) (iD xb) (iD bs) (w) (acts.length) (i) (q) (N) (B) (as_.length) (bs.length) (x0) (x1) (2) (rCt U) (decide_eq_true (by (try simp only [Int.ofNat_eq_natCast]); omega)) ⟨by (try simp only [Int.ofNat_eq_natCast]); omega, by (try simp only [Int.ofNat_eq_natCast]); omega⟩ rfl hrow (by decide) hr rfl rfl rfl (iIe (by (try simp only [Int.ofNat_eq_natCast]); rw [wrap_id (by omega) (by omega)]; try omega)) (by first | exact flat_rt _ | exact flat_iC _) (ihN U q N B hB xa (as_) xb (bs) h hq hxa has hxb hbs (by omega)) j
theorem v9o (hE : EnvOk E) (acts : List (Int × Int)) (bits : List Int) (w : Nat) (_hbits : okM w bits) (h24 : acts.length ≤ 24) (i : Nat) (x0 x1 : Int) (hx : acts[i]? = some (x0, x1)) (b1 : 0 ≤ x1 ∧ x1 < 256) (_ihN : gN acts bits w (i + 1)) (ihO : gO acts bits w (i + 1)) (U : List (List Int)) (q N B : Nat) (hB : Bool) (xa as_ xb bs : List Int) (u : Nat) (As : List Int) (h : AgOk w U N B hB As) (hq : U.length = q) (hxa : xa = um U N) (has : as_ = nA U N) (hxb : xb = um U B) (hbs : bs = nB U B hB) (hqi : q ≤ i + 1) (hu : As.length = u) (hu0 : 0 < u) (hui : u ≤ i) (hr : x0.tmod 5 = 2) : ∀ j, OutK E 0 0 (sO acts bits w i U q N B xa as_ xb bs u As j) (Go.Ev.Ends E Tryz.f9 (iB true) []) := by
 have hi : i < acts.length := (List.getElem?_eq_some_iff.1 hx).1
 have hrow : takeL (dropL (acD acts) (i.mul 2)) 2 = some [.v (.int .u8 x0), .v (.int .u8 x1)] := rows_get (f := acP) (fun _ => rfl) hx
 have n1 := h.n1
 have n2 := h.n2
 have b1' := h.b1
 have b2' := h.b2
 have okA : okM w xa := hxa ▸ um_ok h.ok (by omega)
 have okB : okM w xb := hxb ▸ um_ok h.ok (by omega)
 have gA : getL (rCt U) N = some (.dp (.s (iD xa) w 1)) := hxa ▸ rCt_get h.ok (by omega)
 have gB : getL (rCt U) B = some (.dp (.s (iD xb) w 1)) := hxb ▸ rCt_get h.ok (by omega)
 have jA : COut E 0 [] 57 [dG xa w, dG xa w] (iB true) [] := J57 hE (len_sm okA) okA.2 okA.2
 have jB : COut E 0 [] 57 [dG xb w, dG xb w] (iB true) [] := J57 hE (len_sm okB) okB.2 okB.2
 have aor : as_ = [] ∨ okM w as_ := has ▸ h.nA_or
 have bor : bs = [] ∨ okM w bs := hbs ▸ h.nB_or
 intro j
 obtain ⟨K, hK⟩ : ∃ K, K = x1.toNat % u := ⟨_, rfl⟩
 have hKl : K < u := hK ▸ Nat.mod_lt _ (by omega)
 have hk : (IntKind.i64.wrap x1).tmod (u : Int) = Int.ofNat K := hK ▸ modK b1 u
 have hmem : As[K]'(by omega) ∈ As := List.getElem_mem _
 obtain ⟨v, hv, hv1, hv2⟩ := h.an _ hmem
 have hget : As[K]? = some (Int.ofNat v) := by rw [List.getElem?_eq_getElem (by omega), hv]
 have gF := gCt hget
 rw [hv] at hmem
 refine p9v hE (acD acts) (iD bits) (iD xa) (iD as_) (iD xb) (iD bs) (w) (acts.length) (i) (q) (u) (N) (B) (as_.length) (bs.length) (x0) (x1) (2) (rCt U) (iC As) (decide_eq_true (by (try simp only [Int.ofNat_eq_natCast]); omega)) ⟨by (try simp only [Int.ofNat_eq_natCast]); omega, by (try simp only [Int.ofNat_eq_natCast]); omega⟩ rfl hrow (by decide) hr rfl rfl rfl (beq_eq_false_iff_ne.2 (by omega)) (by first | exact flat_rt _ | exact flat_iC _) (by first | exact flat_rt _ | exact flat_iC _) ?_ j
 by_cases e1 : v ≤ N
 ·have kf := J43s hE (n := N) (v := v) (by omega) e1 okA aor okA.2 rfl okA.2 rfl
  have gX := gA
  have jX := jA
  exact p9V hE (acD acts) (iD bits) (iD xa) (iD as_) (iD xb) (iD bs) (iD xa) (iD as_) (w) (acts.length) (i) (q) (u) (N) (B) (N) (K) (as_.length) (bs.length) (as_.length) (w) (x1) (0) ((Int.ofNat v)) (rCt U) (iC As) (by omega) hk ⟨by (try simp only [Int.ofNat_eq_natCast]); omega, by (try simp only [Int.ofNat_eq_natCast]); omega⟩ (by simp) gF kf (p9w hE (acD acts) (iD bits) (iD xa) (iD as_) (iD xb) (iD bs) (iD xa) (iD as_) (w) (acts.length) (i) (q) (u) (N) (B) (N) (as_.length) (bs.length) (as_.length) (w) (0) (rCt U) (iC As) rfl rfl (by rw [decide_eq_false (by (try simp only [Int.ofNat_eq_natCast]); omega)]; rfl) (iIe (by (try simp only [Int.ofNat_eq_natCast]); rw [wrap_id (by omega) (by omega)]; try omega)) (decide_eq_false (by (try simp only [Int.ofNat_eq_natCast]); omega)) (by rw [decide_eq_false (by (try simp only [Int.ofNat_eq_natCast]); omega)]; rfl) (decide_eq_false (by (try simp only [Int.ofNat_eq_natCast]); omega)) (by rw [decide_eq_false (by (try simp only [Int.ofNat_eq_natCast]); omega)]; rfl) ⟨by (try simp only [Int.ofNat_eq_natCast]); omega, by (try simp only [Int.ofNat_eq_natCast]); omega⟩ (by simp) gX jX (decide_eq_false (by (try simp only [Int.ofNat_eq_natCast]); omega)) (by rw [decide_eq_false (by (try simp only [Int.ofNat_eq_natCast]); omega)]; rfl) (iIe (by (try simp only [Int.ofNat_eq_natCast]); rw [wrap_id (by omega) (by omega)]; try omega)) (decide_eq_false (by (try simp only [Int.ofNat_eq_natCast]); omega)) (by rw [decide_eq_false (by (try simp only [Int.ofNat_eq_natCast]); omega)]; rfl) (decide_eq_false (by (try simp only [Int.ofNat_eq_natCast]); omega)) ⟨by (try simp only [Int.ofNat_eq_natCast]); omega, by (try simp only [Int.ofNat_eq_natCast]); omega⟩ (by simp) gB jB (iIe (by (try simp only [Int.ofNat_eq_natCast]); rw [wrap_id (by omega) (by omega)]; try omega)) (by first | exact flat_rt _ | exact flat_iC _) (by first | exact flat_rt _ | exact flat_iC _) (ihO U q N B hB xa (as_) xb (bs) u (As) h hq hxa has hxb hbs (by omega) hu (by omega) (by omega)))
 ·obtain rfl : v = N + 1 := by omega
  obtain ⟨eN, hb, hl⟩ := h.confirm hmem rfl
  obtain ⟨z, hz⟩ : ∃ z, z = um U (N + 1) := ⟨_, rfl⟩
  have okR : okM w z := hz ▸ um_ok h.ok (by omega)
  have ea : as_ = z := by rw [has, hz]; exact if_pos hl
  have kf := J43t hE (n := N) (by omega) okA (ea ▸ okR) ea okA.2 rfl okR.2
  have gX : getL (rCt U) (N + 1) = some (.dp (.s (iD z) w 1)) := hz ▸ rCt_get h.ok (by omega)
  have jX : COut E 0 [] 57 [dG z w, dG z w] (iB true) [] := J57 hE (len_sm okR) okR.2 okR.2
  have e3 : [] = nA U (N + 1) := (if_neg (by omega)).symm
  exact p9V hE (acD acts) (iD bits) (iD xa) (iD as_) (iD xb) (iD bs) (iD z) (iD []) (w) (acts.length) (i) (q) (u) (N) (B) ((N + 1)) (K) (as_.length) (bs.length) (0) (w) (x1) (0) ((Int.ofNat (N + 1))) (rCt U) (iC As) (by omega) hk ⟨by (try simp only [Int.ofNat_eq_natCast]); omega, by (try simp only [Int.ofNat_eq_natCast]); omega⟩ (by simp) gF kf (p9w hE (acD acts) (iD bits) (iD xa) (iD as_) (iD xb) (iD bs) (iD z) (iD []) (w) (acts.length) (i) (q) (u) (N) (B) ((N + 1)) (as_.length) (bs.length) (0) (w) (0) (rCt U) (iC As) rfl rfl (by rw [decide_eq_false (by (try simp only [Int.ofNat_eq_natCast]); omega)]; rfl) (iIe (by (try simp only [Int.ofNat_eq_natCast]); rw [wrap_id (by omega) (by omega)]; try omega)) (decide_eq_false (by (try simp only [Int.ofNat_eq_natCast]); omega)) (by rw [decide_eq_false (by (try simp only [Int.ofNat_eq_natCast]); omega)]; rfl) (decide_eq_false (by (try simp only [Int.ofNat_eq_natCast]); omega)) (by rw [decide_eq_false (by (try simp only [Int.ofNat_eq_natCast]); omega)]; rfl) ⟨by (try simp only [Int.ofNat_eq_natCast]); omega, by (try simp only [Int.ofNat_eq_natCast]); omega⟩ (by simp) gX jX (decide_eq_false (by (try simp only [Int.ofNat_eq_natCast]); omega)) (by rw [decide_eq_false (by (try simp only [Int.ofNat_eq_natCast]); omega)]; rfl) (iIe (by (try simp only [Int.ofNat_eq_natCast]); rw [wrap_id (by omega) (by omega)]; try omega)) (decide_eq_false (by (try simp only [Int.ofNat_eq_natCast]); omega)) (by rw [decide_eq_false (by (try simp only [Int.ofNat_eq_natCast]); omega)]; rfl) (decide_eq_false (by (try simp only [Int.ofNat_eq_natCast]); omega)) ⟨by (try simp only [Int.ofNat_eq_natCast]); omega, by (try simp only [Int.ofNat_eq_natCast]); omega⟩ (by simp) gB jB (iIe (by (try simp only [Int.ofNat_eq_natCast]); rw [wrap_id (by omega) (by omega)]; try omega)) (by first | exact flat_rt _ | exact flat_iC _) (by first | exact flat_rt _ | exact flat_iC _) (ihO U q (N + 1) B hB z ([]) xb (bs) u (As) (h.confirmed eN hb hl) hq hz e3 hxb hbs (by omega) hu (by omega) (by omega)))
theorem q9n {Φ : Res → Prop} (hE : EnvOk E) (acts : List (Int × Int)) (bits : List Int) (w i : Nat) (x0 x1 : Int) (b1 : 0 ≤ x1 ∧ x1 < 256) (U : List (List Int)) (q N B : Nat) (xa as_ xb bs : List Int) (h24 : w ≤ 8) (cont : ∀ j, OutK E 0 0 (y9rn (acD acts) (iD bits) (iD xa) (iD as_) (iD xb) (iD bs) (iD (nxl x1 w)) (w) (acts.length) (i) (q) (N) (B) (as_.length) (bs.length) (x1) (rCt U) j) Φ) : ∀ m k, m + k = w → ∀ j, OutK E 0 0 (y9qn (acD acts) (iD bits) (iD xa) (iD as_) (iD xb) (iD bs) (w) (acts.length) (i) (k) (q) (N) (B) (as_.length) (bs.length) (x1) (rCt U) (iC (nxl x1 k)) j) Φ
 | 0, k, hk, j => by
  obtain rfl : k = w := by omega
  have hzl := nxl_len x1 k
  generalize nxl x1 k = z at hzl cont ⊢
  exact outK_freeze 3 (ds := iD z) (N := k) (el := 3) (fl := false) (h' := (y9rn (acD acts) (iD bits) (iD xa) (iD as_) (iD xb) (iD bs) (iD z) (k) (acts.length) (i) (q) (N) (B) (as_.length) (bs.length) (x1) (rCt U) j).heap) (tm' := (y9rn (acD acts) (iD bits) (iD xa) (iD as_) (iD xb) (iD bs) (iD z) (k) (acts.length) (i) (q) (N) (B) (as_.length) (bs.length) (x1) (rCt U) j).tm) rfl (Nat.zero_le _) ⟨.inl rfl, .inl rfl, .inl rfl, trivial, trivial⟩ (frz2 j [(0, (.e (.one (.dp (.s (iD bits) k 1))))), (5, (.e (.one (.ptr 0 0)))), (6, (.e (.one (.ptr 1 0)))), (7, (.e (.one (.slc 2 0 q 1 q false)))), (8, (.e (.one (.v (.slice none 0 0))))), (11, (iI (IntKind.i64.wrap x1))), (12, (.e (.one (.slc 3 0 k 1 k false)))), (56, (.e (.one (.dp (.s (acD acts) acts.length 2))))), (57, (iI (Int.ofNat acts.length))), (58, (iI (Int.ofNat i))), (103, (iI (Int.ofNat k))), (104, (iI (Int.ofNat k)))] [(0, (.e (.one (.dp (.s (iD bits) k 1))))), (5, (.e (.one (.ptr 0 0)))), (6, (.e (.one (.ptr 1 0)))), (7, (.e (.one (.slc 2 0 q 1 q false)))), (8, (.e (.one (.v (.slice none 0 0))))), (11, (iI (IntKind.i64.wrap x1))), (12, (.e (.one (.dp (.s (iD z) k 1))))), (56, (.e (.one (.dp (.s (acD acts) acts.length 2))))), (57, (iI (Int.ofNat acts.length))), (58, (iI (Int.ofNat i))), (103, (iI (Int.ofNat k))), (104, (iI (Int.ofNat k)))] ⟨⟨rfl, .inl rfl⟩, ⟨rfl, .inl rfl⟩, ⟨rfl, .inl rfl⟩, ⟨rfl, .inl rfl⟩, ⟨rfl, .inl rfl⟩, ⟨rfl, .inl rfl⟩, ⟨rfl, .inr ⟨0, k, 1, k, false, iD z, rfl, rfl, by rw [Nat.mul_one]; exact tkAll _ _ (by rw [List.length_map]; exact hzl)⟩⟩, ⟨rfl, .inl rfl⟩, ⟨rfl, .inl rfl⟩, ⟨rfl, .inl rfl⟩, ⟨rfl, .inl rfl⟩, ⟨rfl, .inl rfl⟩, trivial⟩ 326 0) (cont j)
 | m + 1, k, hk, j => by
  exact p9qn hE (acD acts) (iD bits) (iD xa) (iD as_) (iD xb) (iD bs) (w) (acts.length) (i) (k) (q) (N) (B) (as_.length) (bs.length) (x1) ((x1 + Int.ofNat k)) (((x1 + Int.ofNat k).tmod 7)) (rCt U) (iC (nxl x1 (k + 1))) (iC (nxl x1 k)) (decide_eq_true (by (try simp only [Int.ofNat_eq_natCast]); omega)) (iIe (by rw [u8_id b1]; exact wrap_id (by simp only [Int.ofNat_eq_natCast]; omega) (by simp only [Int.ofNat_eq_natCast]; omega))) (by decide) rfl (by omega) (by simp [small]; omega) (by first | rfl | trivial | omega | simp | (simp <;> omega)) (iC_app _ [(x1 + Int.ofNat k).tmod 7]) (by first | rfl | trivial | omega | simp | (simp <;> omega)) (iIe (by (try simp only [Int.ofNat_eq_natCast]); rw [wrap_id (by omega) (by omega)]; try omega)) (by first | exact flat_rt _ | exact flat_iC _) (by first | exact flat_rt _ | exact flat_iC _) (q9n hE acts bits w i x0 x1 b1 U q N B xa as_ xb bs h24 cont m (k + 1) (by omega)) j
theorem z9n (hE : EnvOk E) (acts : List (Int × Int)) (bits : List Int) (w : Nat) (hbits : okM w bits) (h24 : acts.length ≤ 24) (i : Nat) (x0 x1 : Int) (hx : acts[i]? = some (x0, x1)) (b1 : 0 ≤ x1 ∧ x1 < 256) (ihN : gN acts bits w (i + 1)) (_ihO : gO acts bits w (i + 1)) (U : List (List Int)) (q N B : Nat) (hB : Bool) (xa as_ xb bs : List Int) (h : AgOk w U N B hB []) (hq : U.length = q) (hxa : xa = um U N) (has : as_ = nA U N) (hxb : xb = um U B) (hbs : bs = nB U B hB) (hqi : q ≤ i + 1) (hr : x0.tmod 5 = 0) : ∀ j, OutK E 0 0 (sN acts bits w i U q N B xa as_ xb bs j) (Go.Ev.Ends E Tryz.f9 (iB true) []) := by
 have hi : i < acts.length := (List.getElem?_eq_some_iff.1 hx).1
 have hrow : takeL (dropL (acD acts) (i.mul 2)) 2 = some [.v (.int .u8 x0), .v (.int .u8 x1)] := rows_get (f := acP) (fun _ => rfl) hx
 have n1 := h.n1
 have n2 := h.n2
 have b1' := h.b1
 have b2' := h.b2
 have okA : okM w xa := hxa ▸ um_ok h.ok (by omega)
 have okB : okM w xb := hxb ▸ um_ok h.ok (by omega)
 have gA : getL (rCt U) N = some (.dp (.s (iD xa) w 1)) := hxa ▸ rCt_get h.ok (by omega)
 have gB : getL (rCt U) B = some (.dp (.s (iD xb) w 1)) := hxb ▸ rCt_get h.ok (by omega)
 have jA : COut E 0 [] 57 [dG xa w, dG xa w] (iB true) [] := J57 hE (len_sm okA) okA.2 okA.2
 have jB : COut E 0 [] 57 [dG xb w, dG xb w] (iB true) [] := J57 hE (len_sm okB) okB.2 okB.2
 have aor : as_ = [] ∨ okM w as_ := has ▸ h.nA_or
 have bor : bs = [] ∨ okM w bs := hbs ▸ h.nB_or
 intro j
 have hw := len_pos hbits
 rw [hbits.2] at hw
 have okZ := nxl_ok b1.1 hw
 refine p9zn hE (acD acts) (iD bits) (iD xa) (iD as_) (iD xb) (iD bs) (w) (acts.length) (i) (q) (N) (B) (as_.length) (bs.length) (x0) (x1) (0) (rCt U) (decide_eq_true (by (try simp only [Int.ofNat_eq_natCast]); omega)) ⟨by (try simp only [Int.ofNat_eq_natCast]); omega, by (try simp only [Int.ofNat_eq_natCast]); omega⟩ rfl hrow (by decide) hr rfl (by first | exact flat_rt _ | exact flat_iC _) (p9pn hE (acD acts) (iD bits) (iD xa) (iD as_) (iD xb) (iD bs) (w) (acts.length) (i) (0) (q) (N) (B) (as_.length) (bs.length) (x1) ((x1 + Int.ofNat 0)) (((x1 + Int.ofNat 0).tmod 7)) (rCt U) (decide_eq_true (by (try simp only [Int.ofNat_eq_natCast]); omega)) (iIe (by rw [u8_id b1]; exact wrap_id (by simp only [Int.ofNat_eq_natCast]; omega) (by simp only [Int.ofNat_eq_natCast]; omega))) (by decide) rfl (iIe (by (try simp only [Int.ofNat_eq_natCast]); rw [wrap_id (by omega) (by omega)]; try omega)) (by first | exact flat_rt _ | exact flat_iC _) (q9n hE acts bits w i x0 x1 b1 U q N B xa as_ xb bs hw.2 ?_ (w - 1) 1 (by omega))) j
 generalize nxl x1 w = z at okZ
 have k37 : COut E 0 [] 37 [dG z w] (dG z w) [] := J37 hE (len_sm okZ) okZ.2
 refine fun j => p9rn hE (acD acts) (iD bits) (iD xa) (iD as_) (iD xb) (iD bs) (iD z) (w) (acts.length) (i) (q) (N) (B) (as_.length) (bs.length) (x1) (rCt U) (decide_eq_false (by (try simp only [Int.ofNat_eq_natCast]); omega)) (by first | exact flat_rt _ | exact flat_iC _) ?_ j
 by_cases e : U.length = N + 2
 ·have ea : okM w as_ := by rw [has, show nA U N = um U (N + 1) from if_pos e]; exact um_ok h.ok (by omega)
  have kf := J41h hE (n := N) (by omega) okA ea okZ okA.2 rfl okZ.2
  exact p9An hE (acD acts) (iD bits) (iD xa) (iD as_) (iD xb) (iD bs) (iD []) (iD []) (iD z) (w) (acts.length) (i) (q) (N) (B) (0) (as_.length) (bs.length) (0) (0) (31) (rCt U) k37 kf (p9dhn hE (acD acts) (iD bits) (iD xa) (iD as_) (iD xb) (iD bs) (iD []) (iD []) (iD z) (w) (acts.length) (i) (q) (N) (B) (0) (as_.length) (bs.length) (0) (0) (31) (rCt U) (iIe (by (try simp only [Int.ofNat_eq_natCast]); rw [wrap_id (by omega) (by omega)]; try omega)) (beq_iff_eq.2 (by (try simp only [Int.ofNat_eq_natCast]); omega)) rfl (iIe (by (try simp only [Int.ofNat_eq_natCast]); rw [wrap_id (by omega) (by omega)]; try omega)) (by first | exact flat_rt _ | exact flat_iC _) (ihN U q N B hB xa (as_) xb (bs) h hq hxa has hxb hbs (by omega)))
 ·have ea : as_ = [] := by rw [has]; exact if_neg e
  have kf := J41a hE (n := N) (by omega) okA ea okZ okA.2 rfl okZ.2 okA.2 (c2 := z.length) rfl
  have hl : U.length = N + 1 := by omega
  have gX : getL (rCt (U ++ [z])) N = some (.dp (.s (iD xa) w 1)) := by
   have := rCt_get (h.propose okZ hl).ok (k := N) (by rw [List.length_append]; omega)
   rw [um_app (by omega), ← hxa] at this
   exact this
  have gB' : getL (rCt (U ++ [z])) B = some (.dp (.s (iD xb) w 1)) := by
   have := rCt_get (h.propose okZ hl).ok (k := B) (by rw [List.length_append]; omega)
   rw [um_app (by omega), ← hxb] at this
   exact this
  have jX := jA
  exact p9An hE (acD acts) (iD bits) (iD xa) (iD as_) (iD xb) (iD bs) (iD xa) (iD z) (iD z) (w) (acts.length) (i) (q) (N) (B) (N) (as_.length) (bs.length) (z.length) (w) (0) (rCt U) k37 kf (p9dan hE (acD acts) (iD bits) (iD xa) (iD as_) (iD xb) (iD bs) (iD xa) (iD z) (iD z) (w) (acts.length) (i) (q) (N) (B) (N) (as_.length) (bs.length) (z.length) (w) (0) (rCt U) (rCt (U ++ [z])) (iIe (by (try simp only [Int.ofNat_eq_natCast]); rw [wrap_id (by omega) (by omega)]; try omega)) (beq_eq_false_iff_ne.2 (by (try simp only [Int.ofNat_eq_natCast]); omega)) rfl rfl (bne_self_eq_false _) (by omega) (by simp [small]; omega) (by first | rfl | trivial | omega | simp | (simp <;> omega)) (rCt_app U z okZ.2) (by first | rfl | trivial | omega | simp | (simp <;> omega)) (by rw [decide_eq_false (by (try simp only [Int.ofNat_eq_natCast]); omega)]; rfl) (iIe (by (try simp only [Int.ofNat_eq_natCast]); rw [wrap_id (by omega) (by omega)]; try omega)) (decide_eq_false (by (try simp only [Int.ofNat_eq_natCast]); omega)) (by rw [decide_eq_false (by (try simp only [Int.ofNat_eq_natCast]); omega)]; rfl) (decide_eq_false (by (try simp only [Int.ofNat_eq_natCast]); omega)) (by rw [decide_eq_false (by (try simp only [Int.ofNat_eq_natCast]); omega)]; rfl) ⟨by (try simp only [Int.ofNat_eq_natCast]); omega, by (try simp only [Int.ofNat_eq_natCast]); omega⟩ (by simp) gX jX (decide_eq_false (by (try simp only [Int.ofNat_eq_natCast]); omega)) ⟨by (try simp only [Int.ofNat_eq_natCast]); omega, by (try simp only [Int.ofNat_eq_natCast]); omega⟩ (by simp) gB' jB (iIe (by (try simp only [Int.ofNat_eq_natCast]); rw [wrap_id (by omega) (by omega)]; try omega)) (by first | exact flat_rt _ | exact flat_iC _) (ihN (U ++ [z]) (q + 1) N B hB xa (z) xb (bs) (h.propose okZ hl) (by rw [List.length_append, hq]; rfl) (by rw [um_app (by omega)]; exact hxa) (AgOk.nA_propose hl).symm (by rw [um_app (by omega)]; exact hxb) (by rw [h.nB_propose]; exact hbs) (by omega)))
theorem q9o {Φ : Res → Prop} (hE : EnvOk E) (acts : List (Int × Int)) (bits : List Int) (w i : Nat) (x0 x1 : Int) (b1 : 0 ≤ x1 ∧ x1 < 256) (U : List (List Int)) (q N B : Nat) (xa as_ xb bs : List Int) (h24 : w ≤ 8) (u : Nat) (As : List Int) (cont : ∀ j, OutK E 0 0 (y9ro (acD acts) (iD bits) (iD xa) (iD as_) (iD xb) (iD bs) (iD (nxl x1 w)) (w) (acts.length) (i) (q) (u) (N) (B) (as_.length) (bs.length) (x1) (rCt U) (iC As) j) Φ) : ∀ m k, m + k = w → ∀ j, OutK E 0 0 (y9qo (acD acts) (iD bits) (iD xa) (iD as_) (iD xb) (iD bs) (w) (acts.length) (i) (k) (q) (u) (N) (B) (as_.length) (bs.length) (x1) (rCt U) (iC As) (iC (nxl x1 k)) j) Φ
 | 0, k, hk, j => by
  obtain rfl : k = w := by omega
  have hzl := nxl_len x1 k
  generalize nxl x1 k = z at hzl cont ⊢
  exact outK_freeze 4 (ds := iD z) (N := k) (el := 3) (fl := false) (h' := (y9ro (acD acts) (iD bits) (iD xa) (iD as_) (iD xb) (iD bs) (iD z) (k) (acts.length) (i) (q) (u) (N) (B) (as_.length) (bs.length) (x1) (rCt U) (iC As) j).heap) (tm' := (y9ro (acD acts) (iD bits) (iD xa) (iD as_) (iD xb) (iD bs) (iD z) (k) (acts.length) (i) (q) (u) (N) (B) (as_.length) (bs.length) (x1) (rCt U) (iC As) j).tm) rfl (Nat.zero_le _) ⟨.inl rfl, .inl rfl, .inl rfl, .inl rfl, trivial, trivial⟩ (frz2 j [(0, (.e (.one (.dp (.s (iD bits) k 1))))), (5, (.e (.one (.ptr 0 0)))), (6, (.e (.one (.ptr 1 0)))), (7, (.e (.one (.slc 2 0 q 1 q false)))), (8, (.e (.one (.slc 3 0 u 1 u false)))), (11, (iI (IntKind.i64.wrap x1))), (12, (.e (.one (.slc 4 0 k 1 k false)))), (56, (.e (.one (.dp (.s (acD acts) acts.length 2))))), (57, (iI (Int.ofNat acts.length))), (58, (iI (Int.ofNat i))), (103, (iI (Int.ofNat k))), (104, (iI (Int.ofNat k)))] [(0, (.e (.one (.dp (.s (iD bits) k 1))))), (5, (.e (.one (.ptr 0 0)))), (6, (.e (.one (.ptr 1 0)))), (7, (.e (.one (.slc 2 0 q 1 q false)))), (8, (.e (.one (.slc 3 0 u 1 u false)))), (11, (iI (IntKind.i64.wrap x1))), (12, (.e (.one (.dp (.s (iD z) k 1))))), (56, (.e (.one (.dp (.s (acD acts) acts.length 2))))), (57, (iI (Int.ofNat acts.length))), (58, (iI (Int.ofNat i))), (103, (iI (Int.ofNat k))), (104, (iI (Int.ofNat k)))] ⟨⟨rfl, .inl rfl⟩, ⟨rfl, .inl rfl⟩, ⟨rfl, .inl rfl⟩, ⟨rfl, .inl rfl⟩, ⟨rfl, .inl rfl⟩, ⟨rfl, .inl rfl⟩, ⟨rfl, .inr ⟨0, k, 1, k, false, iD z, rfl, rfl, by rw [Nat.mul_one]; exact tkAll _ _ (by rw [List.length_map]; exact hzl)⟩⟩, ⟨rfl, .inl rfl⟩, ⟨rfl, .inl rfl⟩, ⟨rfl, .inl rfl⟩, ⟨rfl, .inl rfl⟩, ⟨rfl, .inl rfl⟩, trivial⟩ 326 0) (cont j)
 | m + 1, k, hk, j => by
  exact p9qo hE (acD acts) (iD bits) (iD xa) (iD as_) (iD xb) (iD bs) (w) (acts.length) (i) (k) (q) (u) (N) (B) (as_.length) (bs.length) (x1) ((x1 + Int.ofNat k)) (((x1 + Int.ofNat k).tmod 7)) (rCt U) (iC As) (iC (nxl x1 (k + 1))) (iC (nxl x1 k)) (decide_eq_true (by (try simp only [Int.ofNat_eq_natCast]); omega)) (iIe (by rw [u8_id b1]; exact wrap_id (by simp only [Int.ofNat_eq_natCast]; omega) (by simp only [Int.ofNat_eq_natCast]; omega))) (by decide) rfl (by omega) (by simp [small]; omega) (by first | rfl | trivial | omega | simp | (simp <;> omega)) (iC_app _ [(x1 + Int.ofNat k).tmod 7]) (by first | rfl | trivial | omega | simp | (simp <;> omega)) (iIe (by (try simp only [Int.ofNat_eq_natCast]); rw [wrap_id (by omega) (by omega)]; try omega)) (by first | exact flat_rt _ | exact flat_iC _) (by first | exact flat_rt _ | exact flat_iC _) (by first | exact flat_rt _ | exact flat_iC _) (q9o hE acts bits w i x0 x1 b1 U q N B xa as_ xb bs h24 u As cont m (k + 1) (by omega)) j
theorem z9o (hE : EnvOk E) (acts : List (Int × Int)) (bits : List Int) (w : Nat) (hbits : okM w bits) (h24 : acts.length ≤ 24) (i : Nat) (x0 x1 : Int) (hx : acts[i]? = some (x0, x1)) (b1 : 0 ≤ x1 ∧ x1 < 256) (_ihN : gN acts bits w (i + 1)) (ihO : gO acts bits w (i + 1)) (U : List (List Int)) (q N B : Nat) (hB : Bool) (xa as_ xb bs : List Int) (u : Nat) (As : List Int) (h : AgOk w U N B hB As) (hq : U.length = q) (hxa : xa = um U N) (has : as_ = nA U N) (hxb : xb = um U B) (hbs : bs = nB U B hB) (hqi : q ≤ i + 1) (hu : As.length = u) (hu0 : 0 < u) (hui : u ≤ i) (hr : x0.tmod 5 = 0) : ∀ j, OutK E 0 0 (sO acts bits w i U q N B xa as_ xb bs u As j) (Go.Ev.Ends E Tryz.f9 (iB true) []) := by
 have hi : i < acts.length := (List.getElem?_eq_some_iff.1 hx).1
 have hrow : takeL (dropL (acD acts) (i.mul 2)) 2 = some [.v (.int .u8 x0), .v (.int .u8 x1)] := rows_get (f := acP) (fun _ => rfl) hx
 have n1 := h.n1
 have n2 := h.n2
 have b1' := h.b1
 have b2' := h.b2
 have okA : okM w xa := hxa ▸ um_ok h.ok (by omega)
 have okB : okM w xb := hxb ▸ um_ok h.ok (by omega)
 have gA : getL (rCt U) N = some (.dp (.s (iD xa) w 1)) := hxa ▸ rCt_get h.ok (by omega)
 have gB : getL (rCt U) B = some (.dp (.s (iD xb) w 1)) := hxb ▸ rCt_get h.ok (by omega)
 have jA : COut E 0 [] 57 [dG xa w, dG xa w] (iB true) [] := J57 hE (len_sm okA) okA.2 okA.2
 have jB : COut E 0 [] 57 [dG xb w, dG xb w] (iB true) [] := J57 hE (len_sm okB) okB.2 okB.2
 have aor : as_ = [] ∨ okM w as_ := has ▸ h.nA_or
 have bor : bs = [] ∨ okM w bs := hbs ▸ h.nB_or
 intro j
 have hw := len_pos hbits
 rw [hbits.2] at hw
 have okZ := nxl_ok b1.1 hw
 refine p9zo hE (acD acts) (iD bits) (iD xa) (iD as_) (iD xb) (iD bs) (w) (acts.length) (i) (q) (u) (N) (B) (as_.length) (bs.length) (x0) (x1) (0) (rCt U) (iC As) (decide_eq_true (by (try simp only [Int.ofNat_eq_natCast]); omega)) ⟨by (try simp only [Int.ofNat_eq_natCast]); omega, by (try simp only [Int.ofNat_eq_natCast]); omega⟩ rfl hrow (by decide) hr rfl (by first | exact flat_rt _ | exact flat_iC _) (by first | exact flat_rt _ | exact flat_iC _) (p9po hE (acD acts) (iD bits) (iD xa) (iD as_) (iD xb) (iD bs) (w) (acts.length) (i) (0) (q) (u) (N) (B) (as_.length) (bs.length) (x1) ((x1 + Int.ofNat 0)) (((x1 + Int.ofNat 0).tmod 7)) (rCt U) (iC As) (decide_eq_true (by (try simp only [Int.ofNat_eq_natCast]); omega)) (iIe (by rw [u8_id b1]; exact wrap_id (by simp only [Int.ofNat_eq_natCast]; omega) (by simp only [Int.ofNat_eq_natCast]; omega))) (by decide) rfl (iIe (by (try simp only [Int.ofNat_eq_natCast]); rw [wrap_id (by omega) (by omega)]; try omega)) (by first | exact flat_rt _ | exact flat_iC _) (by first | exact flat_rt _ | exact flat_iC _) (q9o hE acts bits w i x0 x1 b1 U q N B xa as_ xb bs hw.2 u As ?_ (w - 1) 1 (by omega))) j
 generalize nxl x1 w = z at okZ
 have k37 : COut E 0 [] 37 [dG z w] (dG z w) [] := J37 hE (len_sm okZ) okZ.2
 refine fun j => p9ro hE (acD acts) (iD bits) (iD xa) (iD as_) (iD xb) (iD bs) (iD z) (w) (acts.length) (i) (q) (u) (N) (B) (as_.length) (bs.length) (x1) (rCt U) (iC As) (decide_eq_false (by (try simp only [Int.ofNat_eq_natCast]); omega)) (by first | exact flat_rt _ | exact flat_iC _) (by first | exact flat_rt _ | exact flat_iC _) ?_ j
 by_cases e : U.length = N + 2
 ·have ea : okM w as_ := by rw [has, show nA U N = um U (N + 1) from if_pos e]; exact um_ok h.ok (by omega)
  have kf := J41h hE (n := N) (by omega) okA ea okZ okA.2 rfl okZ.2
  exact p9Ao hE (acD acts) (iD bits) (iD xa) (iD as_) (iD xb) (iD bs) (iD []) (iD []) (iD z) (w) (acts.length) (i) (q) (u) (N) (B) (0) (as_.length) (bs.length) (0) (0) (31) (rCt U) (iC As) k37 kf (p9dho hE (acD acts) (iD bits) (iD xa) (iD as_) (iD xb) (iD bs) (iD []) (iD []) (iD z) (w) (acts.length) (i) (q) (u) (N) (B) (0) (as_.length) (bs.length) (0) (0) (31) (rCt U) (iC As) (iIe (by (try simp only [Int.ofNat_eq_natCast]); rw [wrap_id (by omega) (by omega)]; try omega)) (beq_iff_eq.2 (by (try simp only [Int.ofNat_eq_natCast]); omega)) rfl (iIe (by (try simp only [Int.ofNat_eq_natCast]); rw [wrap_id (by omega) (by omega)]; try omega)) (by first | exact flat_rt _ | exact flat_iC _) (by first | exact flat_rt _ | exact flat_iC _) (ihO U q N B hB xa (as_) xb (bs) u (As) h hq hxa has hxb hbs (by omega) hu (by omega) (by omega)))
 ·have ea : as_ = [] := by rw [has]; exact if_neg e
  have kf := J41a hE (n := N) (by omega) okA ea okZ okA.2 rfl okZ.2 okA.2 (c2 := z.length) rfl
  have hl : U.length = N + 1 := by omega
  have gX : getL (rCt (U ++ [z])) N = some (.dp (.s (iD xa) w 1)) := by
   have := rCt_get (h.propose okZ hl).ok (k := N) (by rw [List.length_append]; omega)
   rw [um_app (by omega), ← hxa] at this
   exact this
  have gB' : getL (rCt (U ++ [z])) B = some (.dp (.s (iD xb) w 1)) := by
   have := rCt_get (h.propose okZ hl).ok (k := B) (by rw [List.length_append]; omega)
   rw [um_app (by omega), ← hxb] at this
   exact this
  have jX := jA
  exact p9Ao hE (acD acts) (iD bits) (iD xa) (iD as_) (iD xb) (iD bs) (iD xa) (iD z) (iD z) (w) (acts.length) (i) (q) (u) (N) (B) (N) (as_.length) (bs.length) (z.length) (w) (0) (rCt U) (iC As) k37 kf (p9dao hE (acD acts) (iD bits) (iD xa) (iD as_) (iD xb) (iD bs) (iD xa) (iD z) (iD z) (w) (acts.length) (i) (q) (u) (N) (B) (N) (as_.length) (bs.length) (z.length) (w) (0) (rCt U) (iC As) (rCt (U ++ [z])) (iIe (by (try simp only [Int.ofNat_eq_natCast]); rw [wrap_id (by omega) (by omega)]; try omega)) (beq_eq_false_iff_ne.2 (by (try simp only [Int.ofNat_eq_natCast]); omega)) rfl rfl (bne_self_eq_false _) (by omega) (by simp [small]; omega) (by first | rfl | trivial | omega | simp | (simp <;> omega)) (rCt_app U z okZ.2) (by first | rfl | trivial | omega | simp | (simp <;> omega)) (by rw [decide_eq_false (by (try simp only [Int.ofNat_eq_natCast]); omega)]; rfl) (iIe (by (try simp only [Int.ofNat_eq_natCast]); rw [wrap_id (by omega) (by omega)]; try omega)) (decide_eq_false (by (try simp only [Int.ofNat_eq_natCast]); omega)) (by rw [decide_eq_false (by (try simp only [Int.ofNat_eq_natCast]); omega)]; rfl) (decide_eq_false (by (try simp only [Int.ofNat_eq_natCast]); omega)) (by rw [decide_eq_false (by (try simp only [Int.ofNat_eq_natCast]); omega)]; rfl) ⟨by (try simp only [Int.ofNat_eq_natCast]); omega, by (try simp only [Int.ofNat_eq_natCast]); omega⟩ (by simp) gX jX (decide_eq_false (by (try simp only [Int.ofNat_eq_natCast]); omega)) ⟨by (try simp only [Int.ofNat_eq_natCast]); omega, by (try simp only [Int.ofNat_eq_natCast]); omega⟩ (by simp) gB' jB (iIe (by (try simp only [Int.ofNat_eq_natCast]); rw [wrap_id (by omega) (by omega)]; try omega)) (by first | exact flat_rt _ | exact flat_iC _) (by first | exact flat_rt _ | exact flat_iC _) (fun j => outK_gcF [0, 1, 3, 2] [false, false, true, true] (h' := (sO acts bits w (i + 1) (U ++ [z]) (q + 1) N B xa z xb bs u As j).heap) (tm' := (sO acts bits w (i + 1) (U ++ [z]) (q + 1) N B xa z xb bs u As j).tm) (Nat.le_refl 0) (by kernel_rfl) (by kernel_rfl) ⟨flat_rt _, flat_iC _, trivial⟩ (by kernel_rfl) ((ihO (U ++ [z]) (q + 1) N B hB xa (z) xb (bs) u (As) (h.propose okZ hl) (by rw [List.length_append, hq]; rfl) (by rw [um_app (by omega)]; exact hxa) (AgOk.nA_propose hl).symm (by rw [um_app (by omega)]; exact hxb) (by rw [h.nB_propose]; exact hbs) (by omega) hu (by omega) (by omega)) j)))
end
end Go.Proofs.YtigdchbjmnbjlaaGreatDoor
end

/-! SyW -/
section
namespace Go.Ev
open Go.RowKit
noncomputable section
variable {E : Env} {lvl K : Nat} {rd : Option Nat} {Φ : Res → Prop}
def WkC (x x' : AC) : Prop := x' = x ∨ ∃ b o len sz cap, x = .slc b o len sz cap true ∧ x' = .slc b o len sz cap false
theorem WkC.sound {m : M} {x x' : AC} {y : Value} (h : WkC x x') (hy : CR m x y) : CR m x' y := by
 rcases h with rfl | ⟨b, o, len, sz, cap, rfl, rfl⟩
 ·exact hy
 ·obtain ⟨hb, c, o', e, g0, g1, g2, g3, g4, _⟩ := hy
  exact ⟨hb, c, o', e, g0, g1, g2, g3, g4, fun h => by simp at h⟩
end
end Go.Ev
end

/-! SyV -/
section
namespace Go.Ev
open Go.RowKit
noncomputable section
variable {E : Env} {lvl K : Nat} {rd : Option Nat} {Φ : Res → Prop}
def WkT (p q : Nat × AV) : Prop := p.1 = q.1 ∧ ∀ (m : M) (y : Value), VR m p.2 y → VR m q.2 y
def WkO : Option AV → Option AV → Prop
 | none, none => True
 | some x, some x' => ∀ (m : M) (y : Value), VR m x y → VR m x' y
 | _, _ => False
theorem lookT_wk (i : Nat) : ∀ {l l' : List (Nat × AV)}, All2 WkT l l' → WkO (lookT l i) (lookT l' i)
 | [], [], _ => trivial
 | [], _ :: _, h => h.elim
 | _ :: _, [], h => h.elim
 | (a, x) :: l, (b, x') :: l', h => by
  obtain ⟨⟨h1, h2⟩, h3⟩ := h
  have h1 : a = b := h1
  subst h1
  have ih := lookT_wk i h3
  show WkO (if Nat.beq a i then some x else lookT l i) (if Nat.beq a i then some x' else lookT l' i)
  cases Nat.beq a i with
  | true => exact h2
  | false => exact ih
theorem mkT_wk (j : Nat → Value) {l l' : List (Nat × AV)} (h : All2 WkT l l') (m : M) : ∀ (n i : Nat) (ys : List Value), All2 (VR m) (mkT j l n i) ys → All2 (VR m) (mkT j l' n i) ys
 | 0, _, _, hy => hy
 | n + 1, i, [], hy => hy.elim
 | n + 1, i, y :: ys, hy => by
  obtain ⟨h1, h2⟩ := hy
  refine ⟨?_, mkT_wk j h m n (i + 1) ys h2⟩
  have hw := lookT_wk i h
  revert h1 hw
  cases lookT l i <;> cases lookT l' i <;> intro h1 hw
  ·exact h1
  ·exact hw.elim
  ·exact hw.elim
  ·exact hw m y h1
theorem outK_vk {h : Heap} {todo : List Item} {j : Nat → Value} {l l' : List (Nat × AV)} {n i : Nat} (hl : All2 WkT l l') (ho : OutK E lvl K ⟨h, todo, mkT j l' n i⟩ Φ rd) : OutK E lvl K ⟨h, todo, mkT j l n i⟩ Φ rd :=
 .before (s' := ⟨h, todo, mkT j l' n i⟩) (fun _fr t _cs w m _base hT H _G => ⟨t, w, m, .refl _ _, mkT_wk j hl m n i _ hT, H, .refl _ _, .refl _ _⟩) ho
end
end Go.Ev
end

/-! SeGj -/
section
open Go Go.Ev
namespace Go.Proofs.YtigdchbjmnbjlaaGreatDoor
noncomputable section
set_option maxRecDepth 100000
set_option maxHeartbeats 20000000
theorem both (hE : EnvOk E) (acts : List (Int × Int)) (bits : List Int) (w : Nat) (hbits : okM w bits) (h24 : acts.length ≤ 24) (hb : ∀ p ∈ acts, (0 ≤ p.1 ∧ p.1 < 256) ∧ 0 ≤ p.2 ∧ p.2 < 256) : ∀ m i, m + i = acts.length → gN acts bits w i ∧ gO acts bits w i
 | 0, i, hi => by
  obtain rfl : i = acts.length := by omega
  refine ⟨?_, ?_⟩
  ·intro U q N B hB xa as_ xb bs h hq hxa has hxb hbs hqi j
   exact p9xn hE (acD acts) (iD bits) (iD xa) (iD as_) (iD xb) (iD bs) (w) (acts.length) (acts.length) (q) (N) (B) (as_.length) (bs.length) (rCt U) (decide_eq_false (by (try simp only [Int.ofNat_eq_natCast]); omega)) (fun j => outK_ret (ends_ret (by kernel_rfl))) j
  ·intro U q N B hB xa as_ xb bs u As h hq hxa has hxb hbs hqi hu hu0 hui j
   exact p9xo hE (acD acts) (iD bits) (iD xa) (iD as_) (iD xb) (iD bs) (w) (acts.length) (acts.length) (q) (u) (N) (B) (as_.length) (bs.length) (rCt U) (iC As) (decide_eq_false (by (try simp only [Int.ofNat_eq_natCast]); omega)) (fun j => outK_ret (ends_ret (by kernel_rfl))) j
 | m + 1, i, hi => by
  obtain ⟨ihN, ihO⟩ := both hE acts bits w hbits h24 hb m (i + 1) (by omega)
  have hl : i < acts.length := by omega
  have hx : acts[i]? = some acts[i] := List.getElem?_eq_getElem hl
  have hm := hb acts[i] (List.getElem_mem hl)
  generalize acts[i] = x at hx hm
  obtain ⟨x0, x1⟩ := x
  obtain ⟨b0, b1⟩ := hm
  have hr : x0.tmod 5 = 0 ∨ x0.tmod 5 = 1 ∨ x0.tmod 5 = 2 ∨ x0.tmod 5 = 3 ∨ x0.tmod 5 = 4 := by
   have b0' : 0 ≤ x0 := b0.1
   rw [Int.tmod_eq_emod_of_nonneg b0']; omega
  refine ⟨?_, ?_⟩
  ·intro U q N B hB xa as_ xb bs h hq hxa has hxb hbs hqi
   rcases hr with hr | hr | hr | hr | hr
   ·exact z9n hE acts bits w hbits h24 i x0 x1 hx b1 ihN ihO U q N B hB xa as_ xb bs h hq hxa has hxb hbs hqi hr
   ·exact h9n hE acts bits w hbits h24 i x0 x1 hx b1 ihN ihO U q N B hB xa as_ xb bs h hq hxa has hxb hbs hqi hr
   ·exact v9n hE acts bits w hbits h24 i x0 x1 hx b1 ihN ihO U q N B hB xa as_ xb bs h hq hxa has hxb hbs hqi hr
   ·exact t9n hE acts bits w hbits h24 i x0 x1 hx b1 ihN ihO U q N B hB xa as_ xb bs h hq hxa has hxb hbs hqi hr
   ·exact f9n hE acts bits w hbits h24 i x0 x1 hx b1 ihN ihO U q N B hB xa as_ xb bs h hq hxa has hxb hbs hqi hr
  ·intro U q N B hB xa as_ xb bs u As h hq hxa has hxb hbs hqi hu hu0 hui
   rcases hr with hr | hr | hr | hr | hr
   ·exact z9o hE acts bits w hbits h24 i x0 x1 hx b1 ihN ihO U q N B hB xa as_ xb bs u As h hq hxa has hxb hbs hqi hu hu0 hui hr
   ·exact h9o hE acts bits w hbits h24 i x0 x1 hx b1 ihN ihO U q N B hB xa as_ xb bs u As h hq hxa has hxb hbs hqi hu hu0 hui hr
   ·exact v9o hE acts bits w hbits h24 i x0 x1 hx b1 ihN ihO U q N B hB xa as_ xb bs u As h hq hxa has hxb hbs hqi hu hu0 hui hr
   ·exact t9o hE acts bits w hbits h24 i x0 x1 hx b1 ihN ihO U q N B hB xa as_ xb bs u As h hq hxa has hxb hbs hqi hu hu0 hui hr
   ·exact f9o hE acts bits w hbits h24 i x0 x1 hx b1 ihN ihO U q N B hB xa as_ xb bs u As h hq hxa has hxb hbs hqi hu hu0 hui hr
theorem start_ok {w : Nat} {bits : List Int} (h : okM w bits) : AgOk w [bits] 0 0 false [] where
 ok := fun x hx => by rw [List.mem_singleton.1 hx]; exact h
 n1 := by simp
 n2 := by simp
 b1 := by omega
 b2 := by omega
 hb := fun a => by simp at a
 nb := fun a => by omega
 an := fun v hv => by simp at hv
theorem agrRun (hE : EnvOk E) (hA : COut E 0 [] 10 [] (iB true) []) (bits : List Int) (acts : List (Int × Int)) (hb : ∀ p ∈ acts, (0 ≤ p.1 ∧ p.1 < 256) ∧ 0 ≤ p.2 ∧ p.2 < 256) : COut E 0 [] 9 [dI bits, .e (.one (.dp (.s (acD acts) acts.length 2)))] (iB true) [] := by
 have k34 := K25 hE bits
 by_cases h9 : (bits.length : Int) ≤ 9
 ·rw [decide_eq_true h9] at k34
  have hm : bits.length ≤ 100000 := by omega
  have k53 := K93 hE bits hm
  by_cases hm0 : mapE bits = 0
  ·rw [hm0] at k53
   have he : ((0 : Int) != (0 : Int)) = false := rfl
   by_cases ht : acts.length ≤ 24
   ·have k37 := K28 hE bits hm
    have hbits : okM bits.length bits := ⟨hm0, rfl⟩
    have go := (both hE acts bits bits.length hbits ht hb acts.length 0 rfl).1 [bits] 1 0 0 false bits [] bits [] (start_ok hbits) rfl rfl rfl rfl rfl (by omega)
    refine cOut_start Tryz.func9 rfl (p9a hE (acD acts) (iD bits) (bits.length) (acts.length) (0) (true) hA k34 rfl k53 rfl (by rw [he]; rfl) he (decide_eq_false (by (try simp only [Int.ofNat_eq_natCast]); omega)) k37 (fun j => ?_) fun _ => undef)
    refine outK_wks (h' := (sN acts bits bits.length 0 [bits] 1 0 0 bits [] bits [] j).heap) ⟨⟨rfl, rfl, rfl, rfl, fun h => h, wkS_r _, wkS_r _, wkS_n 1, trivial⟩, ⟨rfl, rfl, rfl, rfl, fun h => h, wkS_r _, wkS_r _, wkS_n 1, trivial⟩, ⟨rfl, rfl, rfl, rfl, fun h => Bool.noConfusion h, wkS_r _, trivial⟩, trivial⟩ ?_
    exact outK_vk (j := j) (l := [(0, (.e (.one (.dp (.s (iD bits) bits.length 1))))), (5, (.e (.one (.ptr 0 0)))), (6, (.e (.one (.ptr 1 0)))), (7, (.e (.one (.slc 2 0 1 1 1 true)))), (8, (.e (.one (.v (.slice none 0 0))))), (56, (.e (.one (.dp (.s (acD acts) acts.length 2))))), (57, (iI (Int.ofNat acts.length))), (58, (iI 0))]) (l' := [(0, (.e (.one (.dp (.s (iD bits) bits.length 1))))), (5, (.e (.one (.ptr 0 0)))), (6, (.e (.one (.ptr 1 0)))), (7, (.e (.one (.slc 2 0 1 1 1 false)))), (8, (.e (.one (.v (.slice none 0 0))))), (56, (.e (.one (.dp (.s (acD acts) acts.length 2))))), (57, (iI (Int.ofNat acts.length))), (58, (iI (Int.ofNat 0)))]) ⟨⟨rfl, fun _ _ h => h⟩, ⟨rfl, fun _ _ h => h⟩, ⟨rfl, fun _ _ h => h⟩, ⟨rfl, fun _ _ h => WkC.sound (.inr ⟨2, 0, 1, 1, 1, rfl, rfl⟩) h⟩, ⟨rfl, fun _ _ h => h⟩, ⟨rfl, fun _ _ h => h⟩, ⟨rfl, fun _ _ h => h⟩, ⟨rfl, fun _ _ h => h⟩, trivial⟩ (go j)
   ·exact cOut_clear (cOut_start Tryz.func9 rfl (p9l hE (acD acts) (iD bits) (bits.length) (acts.length) (0) (true) hA k34 rfl k53 rfl (by rw [he]; rfl) he (decide_eq_true (by (try simp only [Int.ofNat_eq_natCast]); omega)) (fun j => outK_ret (ends_ret (by kernel_rfl))) fun _ => undef)) rfl
  ·have he : (mapE bits != (0 : Int)) = true := bne_iff_ne.2 hm0
   exact cOut_clear (cOut_start Tryz.func9 rfl (p9c hE (acD acts) (iD bits) (bits.length) (acts.length) (mapE bits) (true) hA k34 rfl k53 rfl (by rw [he]; rfl) he (fun j => outK_ret (ends_ret (by kernel_rfl))) fun _ => undef)) rfl
 ·rw [decide_eq_false h9] at k34
  exact cOut_clear (cOut_start Tryz.func9 rfl (p9s hE (acD acts) (iD bits) (bits.length) (acts.length) 0 (false) hA k34 rfl rfl (fun j => outK_ret (ends_ret (by kernel_rfl))) fun _ => undef)) rfl
end
end Go.Proofs.YtigdchbjmnbjlaaGreatDoor
end

/-! SeIa -/
section
open Go Go.Ev
namespace Go.Proofs.YtigdchbjmnbjlaaGreatDoor
noncomputable section
abbrev iA (n : Int) : AC := .v (.int .i64 n)
abbrev nA0 : AC := .v (.slice none 0 0)
abbrev bF (l : List Int) : Option AB := some ⟨l.map iA, l.length, 3, false, .cells⟩
abbrev bT (l : List Int) : Option AB := some ⟨l.map iA, l.length, 3, true, .cells⟩
abbrev sE (b o n z c : Nat) (f : Bool) : AV := .e (.one (.slc b o n z c f))
end
end Go.Proofs.YtigdchbjmnbjlaaGreatDoor
end

/-! SeXc -/
section
open Go Go.Ev
namespace Go.Proofs.YtigdchbjmnbjlaaGreatDoor
noncomputable section
set_option maxRecDepth 100000
set_option maxHeartbeats 20000000
abbrev hXc : Heap := [(bK [(.slc 1 0 2 1 2 false), (iA 0), (.slc 2 0 2 1 2 false), (iA 1), (.slc 3 0 2 1 2 false), (iA 1), (.slc 4 0 2 1 2 false), (iA 1), (.slc 5 0 2 1 2 false), (iA 2), (.slc 6 0 2 1 2 false), (iA 3), (.slc 7 0 2 1 2 false), (iA 5), (.slc 8 0 2 1 2 false), (iA 7), (.slc 9 0 2 1 2 false), (iA 10), (.slc 10 0 2 1 2 false), (iA 14), (.slc 11 0 2 1 2 false), (iA 22)] 22 182), (bF [0, 0]), (bF [0, 1]), (bF [2, 0]), (bF [3, 0]), (bF [3, 1]), (bF [4, 1]), (bF [4, 2]), (bF [5, 2]), (bF [6, 2]), (bF [6, 3]), (bF [6, 4]), bK [.v (.int .i64 0)] 1 3]
abbrev oXc : Heap := [(bK [(.slc 1 0 2 1 2 false), (iA 0), (.slc 2 0 2 1 2 false), (iA 1), (.slc 3 0 2 1 2 false), (iA 1), (.slc 4 0 2 1 2 false), (iA 1), (.slc 5 0 2 1 2 false), (iA 2), (.slc 6 0 2 1 2 false), (iA 3), (.slc 7 0 2 1 2 false), (iA 5), (.slc 8 0 2 1 2 false), (iA 7), (.slc 9 0 2 1 2 false), (iA 10), (.slc 10 0 2 1 2 false), (iA 14), (.slc 11 0 2 1 2 false), (iA 22)] 22 182), (bF [0, 0]), (bF [0, 1]), (bF [2, 0]), (bF [3, 0]), (bF [3, 1]), (bF [4, 1]), (bF [4, 2]), (bF [5, 2]), (bF [6, 2]), (bF [6, 3]), (bF [6, 4]), (bT [0]), (bK [(.slc 14 0 3 1 3 false), (iA 0), (.slc 15 0 3 1 3 false), (iA 1), (.slc 16 0 3 1 3 false), (iA 1), (.slc 17 0 3 1 3 false), (iA 1), (.slc 18 0 3 1 3 false), (iA 2), (.slc 19 0 3 1 3 false), (iA 3), (.slc 20 0 3 1 3 false), (iA 5), (.slc 21 0 3 1 3 false), (iA 7), (.slc 22 0 3 1 3 false), (iA 10), (.slc 23 0 3 1 3 false), (iA 14), (.slc 24 0 3 1 3 false), (iA 22)] 22 182), (bF [0, 0, 0]), (bF [0, 1, 0]), (bF [2, 0, 0]), (bF [3, 0, 0]), (bF [3, 1, 0]), (bF [4, 1, 0]), (bF [4, 2, 0]), (bF [5, 2, 0]), (bF [6, 2, 0]), (bF [6, 3, 0]), (bF [6, 4, 0])]
def sXc (_ : Nat → Value) : St := startK Tryz.f110 hXc [.e (.one (.slc 0 0 11 2 11 true)), .e (.one (.slc 12 0 1 1 1 true))]
def Xc0 (j : Nat → Value) : St := sXc j
def Xc1 (j : Nat → Value) : St := ⟨[(bK [(.slc 1 0 2 1 2 false), (iA 0), (.slc 2 0 2 1 2 false), (iA 1), (.slc 3 0 2 1 2 false), (iA 1), (.slc 4 0 2 1 2 false), (iA 1), (.slc 5 0 2 1 2 false), (iA 2), (.slc 6 0 2 1 2 false), (iA 3), (.slc 7 0 2 1 2 false), (iA 5), (.slc 8 0 2 1 2 false), (iA 7), (.slc 9 0 2 1 2 false), (iA 10), (.slc 10 0 2 1 2 false), (iA 14), (.slc 11 0 2 1 2 false), (iA 22)] 22 182), (bF [0, 0]), (bF [0, 1]), (bF [2, 0]), (bF [3, 0]), (bF [3, 1]), (bF [4, 1]), (bF [4, 2]), (bF [5, 2]), (bF [6, 2]), (bF [6, 3]), (bF [6, 4]), (bT [0]), (bK [(.slc 14 0 3 1 3 false), (iA 0), (.slc 15 0 3 1 3 false), (iA 1), nA0, (iA 0), nA0, (iA 0), nA0, (iA 0), nA0, (iA 0), nA0, (iA 0), nA0, (iA 0), nA0, (iA 0), nA0, (iA 0), nA0, (iA 0)] 22 182), (bF [0, 0, 0]), (bF [0, 1, 0]), (bK [(.slc 3 0 2 1 2 false), (iA 1)] 2 182), (bF [2, 0, 0]), (bK [(.slc 17 0 3 1 3 false), (iA 1)] 2 182)], [(.code (atC [1, 1, 0, 1, 0, 0, 1, 1, 0, 0, 1, 1, 0, 0, 1, 1, 0, 0, 1, 1, 1, 1] (bodyOf Tryz.f110))), (.inBlock 3), (.code (atC [1, 1, 0, 1, 0, 0, 1, 1, 0, 0, 1, 1, 0, 0, 1, 1, 1] (bodyOf Tryz.f110))), (.inLoop (atC [1, 1, 0, 1, 0, 0, 1, 1, 0, 0, 1, 1, 0, 0] (bodyOf Tryz.f110))), (.inBlock 2), (.inBlock 1), (.code (atC [1, 1, 0, 1, 0, 0, 1, 1, 1] (bodyOf Tryz.f110))), (.inLoop (atC [1, 1, 0, 1, 0, 0] (bodyOf Tryz.f110))), (.inBlock 0), (.code (atC [1, 1, 1] (bodyOf Tryz.f110)))], mkT j [(1, (sE 12 0 1 1 1 true)), (5, (sE 13 0 11 2 11 true)), (6, (iI 2)), (7, (.e (.one (.ptr 16 0)))), (8, (iI 0)), (10, (.e (.one (.ptr 18 0)))), (19, (sE 0 0 11 2 11 true)), (20, (iI 11)), (21, (iI 2)), (26, (sE 12 0 1 1 1 true)), (27, (iI 1)), (28, (iI 0)), (51, (iB true))] 61 0⟩
theorem Xc0_step (hE : EnvOk E)  {Φ : Res → Prop} (ho : ∀ j, OutK E 13 13 (Xc1 j) Φ) (j : Nat → Value) : OutK E 13 13 (Xc0 j) Φ :=
 outK_seg hE (R4_ok hE) [.run 119] [1, 5, 6, 7, 8, 10, 19, 20, 21, 26, 27, 28, 51] (s' := fun j => ⟨[(bK [(.slc 1 0 2 1 2 false), (iA 0), (.slc 2 0 2 1 2 false), (iA 1), (.slc 3 0 2 1 2 false), (iA 1), (.slc 4 0 2 1 2 false), (iA 1), (.slc 5 0 2 1 2 false), (iA 2), (.slc 6 0 2 1 2 false), (iA 3), (.slc 7 0 2 1 2 false), (iA 5), (.slc 8 0 2 1 2 false), (iA 7), (.slc 9 0 2 1 2 false), (iA 10), (.slc 10 0 2 1 2 false), (iA 14), (.slc 11 0 2 1 2 false), (iA 22)] 22 182), (bF [0, 0]), (bF [0, 1]), (bF [2, 0]), (bF [3, 0]), (bF [3, 1]), (bF [4, 1]), (bF [4, 2]), (bF [5, 2]), (bF [6, 2]), (bF [6, 3]), (bF [6, 4]), (bT [0]), (bK [(.slc 15 0 3 1 3 false), (iA 0), (.slc 19 0 3 1 3 false), (iA 1), nA0, (iA 0), nA0, (iA 0), nA0, (iA 0), nA0, (iA 0), nA0, (iA 0), nA0, (iA 0), nA0, (iA 0), nA0, (iA 0), nA0, (iA 0)] 22 182), (bK [(.slc 1 0 2 1 2 false), (iA 0)] 2 182), (bF [0, 0, 0]), (bK [(.slc 15 0 3 1 3 false), (iA 0)] 2 182), (bK [nA0, (iA 0)] 2 182), (bK [(.slc 2 0 2 1 2 false), (iA 1)] 2 182), (bF [0, 1, 0]), (bK [(.slc 19 0 3 1 3 false), (iA 1)] 2 182), (bK [nA0, (iA 0)] 2 182), (bK [(.slc 3 0 2 1 2 false), (iA 1)] 2 182), (bF [2, 0, 0]), (bK [(.slc 23 0 3 1 3 false), (iA 1)] 2 182), (bK [nA0, (iA 0)] 2 182)], [(.code (atC [1, 1, 0, 1, 0, 0, 1, 1, 0, 0, 1, 1, 0, 0, 1, 1, 0, 0, 1, 1, 1, 1] (bodyOf Tryz.f110))), (.inBlock 3), (.code (atC [1, 1, 0, 1, 0, 0, 1, 1, 0, 0, 1, 1, 0, 0, 1, 1, 1] (bodyOf Tryz.f110))), (.inLoop (atC [1, 1, 0, 1, 0, 0, 1, 1, 0, 0, 1, 1, 0, 0] (bodyOf Tryz.f110))), (.inBlock 2), (.inBlock 1), (.code (atC [1, 1, 0, 1, 0, 0, 1, 1, 1] (bodyOf Tryz.f110))), (.inLoop (atC [1, 1, 0, 1, 0, 0] (bodyOf Tryz.f110))), (.inBlock 0), (.code (atC [1, 1, 1] (bodyOf Tryz.f110)))], mkT j [(1, (sE 12 0 1 1 1 true)), (5, (sE 13 0 11 2 11 true)), (6, (iI 2)), (7, (.e (.one (.ptr 22 0)))), (8, (iI 0)), (10, (.e (.one (.ptr 24 0)))), (19, (sE 0 0 11 2 11 true)), (20, (iI 11)), (21, (iI 2)), (26, (sE 12 0 1 1 1 true)), (27, (iI 1)), (28, (iI 0)), (51, (iB true))] 61 0⟩) (ps := []) (fun j => by kernel_rfl) trivial
  fun j => gZ [0, 1, 2, 3, 4, 5, 6, 7, 8, 9, 10, 11, 12, 13, 15, 19, 22, 23, 24] (ho j)
def Xc2 (j : Nat → Value) : St := ⟨[(bK [(.slc 1 0 2 1 2 false), (iA 0), (.slc 2 0 2 1 2 false), (iA 1), (.slc 3 0 2 1 2 false), (iA 1), (.slc 4 0 2 1 2 false), (iA 1), (.slc 5 0 2 1 2 false), (iA 2), (.slc 6 0 2 1 2 false), (iA 3), (.slc 7 0 2 1 2 false), (iA 5), (.slc 8 0 2 1 2 false), (iA 7), (.slc 9 0 2 1 2 false), (iA 10), (.slc 10 0 2 1 2 false), (iA 14), (.slc 11 0 2 1 2 false), (iA 22)] 22 182), (bF [0, 0]), (bF [0, 1]), (bF [2, 0]), (bF [3, 0]), (bF [3, 1]), (bF [4, 1]), (bF [4, 2]), (bF [5, 2]), (bF [6, 2]), (bF [6, 3]), (bF [6, 4]), (bT [0]), (bK [(.slc 14 0 3 1 3 false), (iA 0), (.slc 15 0 3 1 3 false), (iA 1), (.slc 16 0 3 1 3 false), (iA 1), (.slc 17 0 3 1 3 false), (iA 1), (.slc 18 0 3 1 3 false), (iA 2), nA0, (iA 0), nA0, (iA 0), nA0, (iA 0), nA0, (iA 0), nA0, (iA 0), nA0, (iA 0)] 22 182), (bF [0, 0, 0]), (bF [0, 1, 0]), (bF [2, 0, 0]), (bF [3, 0, 0]), (bF [3, 1, 0]), (bK [(.slc 6 0 2 1 2 false), (iA 3)] 2 182), (bF [4, 1, 0]), (bK [(.slc 20 0 3 1 3 false), (iA 3)] 2 182)], [(.code (atC [1, 1, 0, 1, 0, 0, 1, 1, 0, 0, 1, 1, 0, 0, 1, 1, 0, 0, 1, 1, 1, 1] (bodyOf Tryz.f110))), (.inBlock 3), (.code (atC [1, 1, 0, 1, 0, 0, 1, 1, 0, 0, 1, 1, 0, 0, 1, 1, 1] (bodyOf Tryz.f110))), (.inLoop (atC [1, 1, 0, 1, 0, 0, 1, 1, 0, 0, 1, 1, 0, 0] (bodyOf Tryz.f110))), (.inBlock 2), (.inBlock 1), (.code (atC [1, 1, 0, 1, 0, 0, 1, 1, 1] (bodyOf Tryz.f110))), (.inLoop (atC [1, 1, 0, 1, 0, 0] (bodyOf Tryz.f110))), (.inBlock 0), (.code (atC [1, 1, 1] (bodyOf Tryz.f110)))], mkT j [(1, (sE 12 0 1 1 1 true)), (5, (sE 13 0 11 2 11 true)), (6, (iI 5)), (7, (.e (.one (.ptr 19 0)))), (8, (iI 0)), (10, (.e (.one (.ptr 21 0)))), (19, (sE 0 0 11 2 11 true)), (20, (iI 11)), (21, (iI 5)), (26, (sE 12 0 1 1 1 true)), (27, (iI 1)), (28, (iI 0)), (51, (iB true))] 61 0⟩
theorem Xc1_step (hE : EnvOk E)  {Φ : Res → Prop} (ho : ∀ j, OutK E 13 13 (Xc2 j) Φ) (j : Nat → Value) : OutK E 13 13 (Xc1 j) Φ :=
 outK_seg hE (R4_ok hE) [.run 123] [1, 5, 6, 7, 8, 10, 19, 20, 21, 26, 27, 28, 51] (s' := fun j => ⟨[(bK [(.slc 1 0 2 1 2 false), (iA 0), (.slc 2 0 2 1 2 false), (iA 1), (.slc 3 0 2 1 2 false), (iA 1), (.slc 4 0 2 1 2 false), (iA 1), (.slc 5 0 2 1 2 false), (iA 2), (.slc 6 0 2 1 2 false), (iA 3), (.slc 7 0 2 1 2 false), (iA 5), (.slc 8 0 2 1 2 false), (iA 7), (.slc 9 0 2 1 2 false), (iA 10), (.slc 10 0 2 1 2 false), (iA 14), (.slc 11 0 2 1 2 false), (iA 22)] 22 182), (bF [0, 0]), (bF [0, 1]), (bF [2, 0]), (bF [3, 0]), (bF [3, 1]), (bF [4, 1]), (bF [4, 2]), (bF [5, 2]), (bF [6, 2]), (bF [6, 3]), (bF [6, 4]), (bT [0]), (bK [(.slc 14 0 3 1 3 false), (iA 0), (.slc 15 0 3 1 3 false), (iA 1), (.slc 17 0 3 1 3 false), (iA 1), (.slc 20 0 3 1 3 false), (iA 1), (.slc 24 0 3 1 3 false), (iA 2), nA0, (iA 0), nA0, (iA 0), nA0, (iA 0), nA0, (iA 0), nA0, (iA 0), nA0, (iA 0)] 22 182), (bF [0, 0, 0]), (bF [0, 1, 0]), (bK [(.slc 3 0 2 1 2 false), (iA 1)] 2 182), (bF [2, 0, 0]), (bK [(.slc 17 0 3 1 3 false), (iA 1)] 2 182), (bK [(.slc 4 0 2 1 2 false), (iA 1)] 2 182), (bF [3, 0, 0]), (bK [(.slc 20 0 3 1 3 false), (iA 1)] 2 182), (bK [nA0, (iA 0)] 2 182), (bK [(.slc 5 0 2 1 2 false), (iA 2)] 2 182), (bF [3, 1, 0]), (bK [(.slc 24 0 3 1 3 false), (iA 2)] 2 182), (bK [nA0, (iA 0)] 2 182), (bK [(.slc 6 0 2 1 2 false), (iA 3)] 2 182), (bF [4, 1, 0]), (bK [(.slc 28 0 3 1 3 false), (iA 3)] 2 182), (bK [nA0, (iA 0)] 2 182)], [(.code (atC [1, 1, 0, 1, 0, 0, 1, 1, 0, 0, 1, 1, 0, 0, 1, 1, 0, 0, 1, 1, 1, 1] (bodyOf Tryz.f110))), (.inBlock 3), (.code (atC [1, 1, 0, 1, 0, 0, 1, 1, 0, 0, 1, 1, 0, 0, 1, 1, 1] (bodyOf Tryz.f110))), (.inLoop (atC [1, 1, 0, 1, 0, 0, 1, 1, 0, 0, 1, 1, 0, 0] (bodyOf Tryz.f110))), (.inBlock 2), (.inBlock 1), (.code (atC [1, 1, 0, 1, 0, 0, 1, 1, 1] (bodyOf Tryz.f110))), (.inLoop (atC [1, 1, 0, 1, 0, 0] (bodyOf Tryz.f110))), (.inBlock 0), (.code (atC [1, 1, 1] (bodyOf Tryz.f110)))], mkT j [(1, (sE 12 0 1 1 1 true)), (5, (sE 13 0 11 2 11 true)), (6, (iI 5)), (7, (.e (.one (.ptr 27 0)))), (8, (iI 0)), (10, (.e (.one (.ptr 29 0)))), (19, (sE 0 0 11 2 11 true)), (20, (iI 11)), (21, (iI 5)), (26, (sE 12 0 1 1 1 true)), (27, (iI 1)), (28, (iI 0)), (51, (iB true))] 61 0⟩) (ps := []) (fun j => by kernel_rfl) trivial
  fun j => gZ [0, 1, 2, 3, 4, 5, 6, 7, 8, 9, 10, 11, 12, 13, 14, 15, 17, 20, 24, 27, 28, 29] (ho j)
def Xc3 (j : Nat → Value) : St := ⟨[(bK [(.slc 1 0 2 1 2 false), (iA 0), (.slc 2 0 2 1 2 false), (iA 1), (.slc 3 0 2 1 2 false), (iA 1), (.slc 4 0 2 1 2 false), (iA 1), (.slc 5 0 2 1 2 false), (iA 2), (.slc 6 0 2 1 2 false), (iA 3), (.slc 7 0 2 1 2 false), (iA 5), (.slc 8 0 2 1 2 false), (iA 7), (.slc 9 0 2 1 2 false), (iA 10), (.slc 10 0 2 1 2 false), (iA 14), (.slc 11 0 2 1 2 false), (iA 22)] 22 182), (bF [0, 0]), (bF [0, 1]), (bF [2, 0]), (bF [3, 0]), (bF [3, 1]), (bF [4, 1]), (bF [4, 2]), (bF [5, 2]), (bF [6, 2]), (bF [6, 3]), (bF [6, 4]), (bT [0]), (bK [(.slc 14 0 3 1 3 false), (iA 0), (.slc 15 0 3 1 3 false), (iA 1), (.slc 16 0 3 1 3 false), (iA 1), (.slc 17 0 3 1 3 false), (iA 1), (.slc 18 0 3 1 3 false), (iA 2), (.slc 19 0 3 1 3 false), (iA 3), (.slc 20 0 3 1 3 false), (iA 5), (.slc 21 0 3 1 3 false), (iA 7), nA0, (iA 0), nA0, (iA 0), nA0, (iA 0)] 22 182), (bF [0, 0, 0]), (bF [0, 1, 0]), (bF [2, 0, 0]), (bF [3, 0, 0]), (bF [3, 1, 0]), (bF [4, 1, 0]), (bF [4, 2, 0]), (bF [5, 2, 0]), (bK [(.slc 9 0 2 1 2 false), (iA 10)] 2 182), (bF [6, 2, 0]), (bK [(.slc 23 0 3 1 3 false), (iA 10)] 2 182)], [(.code (atC [1, 1, 0, 1, 0, 0, 1, 1, 0, 0, 1, 1, 0, 0, 1, 1, 0, 0, 1, 1, 1, 1] (bodyOf Tryz.f110))), (.inBlock 3), (.code (atC [1, 1, 0, 1, 0, 0, 1, 1, 0, 0, 1, 1, 0, 0, 1, 1, 1] (bodyOf Tryz.f110))), (.inLoop (atC [1, 1, 0, 1, 0, 0, 1, 1, 0, 0, 1, 1, 0, 0] (bodyOf Tryz.f110))), (.inBlock 2), (.inBlock 1), (.code (atC [1, 1, 0, 1, 0, 0, 1, 1, 1] (bodyOf Tryz.f110))), (.inLoop (atC [1, 1, 0, 1, 0, 0] (bodyOf Tryz.f110))), (.inBlock 0), (.code (atC [1, 1, 1] (bodyOf Tryz.f110)))], mkT j [(1, (sE 12 0 1 1 1 true)), (5, (sE 13 0 11 2 11 true)), (6, (iI 8)), (7, (.e (.one (.ptr 22 0)))), (8, (iI 0)), (10, (.e (.one (.ptr 24 0)))), (19, (sE 0 0 11 2 11 true)), (20, (iI 11)), (21, (iI 8)), (26, (sE 12 0 1 1 1 true)), (27, (iI 1)), (28, (iI 0)), (51, (iB true))] 61 0⟩
theorem Xc2_step (hE : EnvOk E)  {Φ : Res → Prop} (ho : ∀ j, OutK E 13 13 (Xc3 j) Φ) (j : Nat → Value) : OutK E 13 13 (Xc2 j) Φ :=
 outK_seg hE (R4_ok hE) [.run 123] [1, 5, 6, 7, 8, 10, 19, 20, 21, 26, 27, 28, 51] (s' := fun j => ⟨[(bK [(.slc 1 0 2 1 2 false), (iA 0), (.slc 2 0 2 1 2 false), (iA 1), (.slc 3 0 2 1 2 false), (iA 1), (.slc 4 0 2 1 2 false), (iA 1), (.slc 5 0 2 1 2 false), (iA 2), (.slc 6 0 2 1 2 false), (iA 3), (.slc 7 0 2 1 2 false), (iA 5), (.slc 8 0 2 1 2 false), (iA 7), (.slc 9 0 2 1 2 false), (iA 10), (.slc 10 0 2 1 2 false), (iA 14), (.slc 11 0 2 1 2 false), (iA 22)] 22 182), (bF [0, 0]), (bF [0, 1]), (bF [2, 0]), (bF [3, 0]), (bF [3, 1]), (bF [4, 1]), (bF [4, 2]), (bF [5, 2]), (bF [6, 2]), (bF [6, 3]), (bF [6, 4]), (bT [0]), (bK [(.slc 14 0 3 1 3 false), (iA 0), (.slc 15 0 3 1 3 false), (iA 1), (.slc 16 0 3 1 3 false), (iA 1), (.slc 17 0 3 1 3 false), (iA 1), (.slc 18 0 3 1 3 false), (iA 2), (.slc 20 0 3 1 3 false), (iA 3), (.slc 23 0 3 1 3 false), (iA 5), (.slc 27 0 3 1 3 false), (iA 7), nA0, (iA 0), nA0, (iA 0), nA0, (iA 0)] 22 182), (bF [0, 0, 0]), (bF [0, 1, 0]), (bF [2, 0, 0]), (bF [3, 0, 0]), (bF [3, 1, 0]), (bK [(.slc 6 0 2 1 2 false), (iA 3)] 2 182), (bF [4, 1, 0]), (bK [(.slc 20 0 3 1 3 false), (iA 3)] 2 182), (bK [(.slc 7 0 2 1 2 false), (iA 5)] 2 182), (bF [4, 2, 0]), (bK [(.slc 23 0 3 1 3 false), (iA 5)] 2 182), (bK [nA0, (iA 0)] 2 182), (bK [(.slc 8 0 2 1 2 false), (iA 7)] 2 182), (bF [5, 2, 0]), (bK [(.slc 27 0 3 1 3 false), (iA 7)] 2 182), (bK [nA0, (iA 0)] 2 182), (bK [(.slc 9 0 2 1 2 false), (iA 10)] 2 182), (bF [6, 2, 0]), (bK [(.slc 31 0 3 1 3 false), (iA 10)] 2 182), (bK [nA0, (iA 0)] 2 182)], [(.code (atC [1, 1, 0, 1, 0, 0, 1, 1, 0, 0, 1, 1, 0, 0, 1, 1, 0, 0, 1, 1, 1, 1] (bodyOf Tryz.f110))), (.inBlock 3), (.code (atC [1, 1, 0, 1, 0, 0, 1, 1, 0, 0, 1, 1, 0, 0, 1, 1, 1] (bodyOf Tryz.f110))), (.inLoop (atC [1, 1, 0, 1, 0, 0, 1, 1, 0, 0, 1, 1, 0, 0] (bodyOf Tryz.f110))), (.inBlock 2), (.inBlock 1), (.code (atC [1, 1, 0, 1, 0, 0, 1, 1, 1] (bodyOf Tryz.f110))), (.inLoop (atC [1, 1, 0, 1, 0, 0] (bodyOf Tryz.f110))), (.inBlock 0), (.code (atC [1, 1, 1] (bodyOf Tryz.f110)))], mkT j [(1, (sE 12 0 1 1 1 true)), (5, (sE 13 0 11 2 11 true)), (6, (iI 8)), (7, (.e (.one (.ptr 30 0)))), (8, (iI 0)), (10, (.e (.one (.ptr 32 0)))), (19, (sE 0 0 11 2 11 true)), (20, (iI 11)), (21, (iI 8)), (26, (sE 12 0 1 1 1 true)), (27, (iI 1)), (28, (iI 0)), (51, (iB true))] 61 0⟩) (ps := []) (fun j => by kernel_rfl) trivial
  fun j => gZ [0, 1, 2, 3, 4, 5, 6, 7, 8, 9, 10, 11, 12, 13, 14, 15, 16, 17, 18, 20, 23, 27, 30, 31, 32] (ho j)
def Xc4 (j : Nat → Value) : St := ⟨[(bK [(.slc 1 0 2 1 2 false), (iA 0), (.slc 2 0 2 1 2 false), (iA 1), (.slc 3 0 2 1 2 false), (iA 1), (.slc 4 0 2 1 2 false), (iA 1), (.slc 5 0 2 1 2 false), (iA 2), (.slc 6 0 2 1 2 false), (iA 3), (.slc 7 0 2 1 2 false), (iA 5), (.slc 8 0 2 1 2 false), (iA 7), (.slc 9 0 2 1 2 false), (iA 10), (.slc 10 0 2 1 2 false), (iA 14), (.slc 11 0 2 1 2 false), (iA 22)] 22 182), (bF [0, 0]), (bF [0, 1]), (bF [2, 0]), (bF [3, 0]), (bF [3, 1]), (bF [4, 1]), (bF [4, 2]), (bF [5, 2]), (bF [6, 2]), (bF [6, 3]), (bF [6, 4]), (bT [0]), (bK [(.slc 14 0 3 1 3 false), (iA 0), (.slc 15 0 3 1 3 false), (iA 1), (.slc 16 0 3 1 3 false), (iA 1), (.slc 17 0 3 1 3 false), (iA 1), (.slc 18 0 3 1 3 false), (iA 2), (.slc 19 0 3 1 3 false), (iA 3), (.slc 20 0 3 1 3 false), (iA 5), (.slc 21 0 3 1 3 false), (iA 7), (.slc 22 0 3 1 3 false), (iA 10), (.slc 23 0 3 1 3 false), (iA 14), (.slc 24 0 3 1 3 false), (iA 22)] 22 182), (bF [0, 0, 0]), (bF [0, 1, 0]), (bF [2, 0, 0]), (bF [3, 0, 0]), (bF [3, 1, 0]), (bF [4, 1, 0]), (bF [4, 2, 0]), (bF [5, 2, 0]), (bF [6, 2, 0]), (bF [6, 3, 0]), (bF [6, 4, 0])], [(.code .ret)], mkT j [(4, (sE 13 0 11 2 11 true))] 61 0⟩
theorem Xc3_step (hE : EnvOk E)  {Φ : Res → Prop} (ho : ∀ j, OutK E 13 13 (Xc4 j) Φ) (j : Nat → Value) : OutK E 13 13 (Xc3 j) Φ :=
 outK_seg hE (R4_ok hE) [.run 102] [4] (s' := fun j => ⟨[(bK [(.slc 1 0 2 1 2 false), (iA 0), (.slc 2 0 2 1 2 false), (iA 1), (.slc 3 0 2 1 2 false), (iA 1), (.slc 4 0 2 1 2 false), (iA 1), (.slc 5 0 2 1 2 false), (iA 2), (.slc 6 0 2 1 2 false), (iA 3), (.slc 7 0 2 1 2 false), (iA 5), (.slc 8 0 2 1 2 false), (iA 7), (.slc 9 0 2 1 2 false), (iA 10), (.slc 10 0 2 1 2 false), (iA 14), (.slc 11 0 2 1 2 false), (iA 22)] 22 182), (bF [0, 0]), (bF [0, 1]), (bF [2, 0]), (bF [3, 0]), (bF [3, 1]), (bF [4, 1]), (bF [4, 2]), (bF [5, 2]), (bF [6, 2]), (bF [6, 3]), (bF [6, 4]), (bT [0]), (bK [(.slc 14 0 3 1 3 false), (iA 0), (.slc 15 0 3 1 3 false), (iA 1), (.slc 16 0 3 1 3 false), (iA 1), (.slc 17 0 3 1 3 false), (iA 1), (.slc 18 0 3 1 3 false), (iA 2), (.slc 19 0 3 1 3 false), (iA 3), (.slc 20 0 3 1 3 false), (iA 5), (.slc 21 0 3 1 3 false), (iA 7), (.slc 23 0 3 1 3 false), (iA 10), (.slc 26 0 3 1 3 false), (iA 14), (.slc 30 0 3 1 3 false), (iA 22)] 22 182), (bF [0, 0, 0]), (bF [0, 1, 0]), (bF [2, 0, 0]), (bF [3, 0, 0]), (bF [3, 1, 0]), (bF [4, 1, 0]), (bF [4, 2, 0]), (bF [5, 2, 0]), (bK [(.slc 9 0 2 1 2 false), (iA 10)] 2 182), (bF [6, 2, 0]), (bK [(.slc 23 0 3 1 3 false), (iA 10)] 2 182), (bK [(.slc 10 0 2 1 2 false), (iA 14)] 2 182), (bF [6, 3, 0]), (bK [(.slc 26 0 3 1 3 false), (iA 14)] 2 182), (bK [nA0, (iA 0)] 2 182), (bK [(.slc 11 0 2 1 2 false), (iA 22)] 2 182), (bF [6, 4, 0]), (bK [(.slc 30 0 3 1 3 false), (iA 22)] 2 182), (bK [nA0, (iA 0)] 2 182)], [(.code .ret)], mkT j [(4, (sE 13 0 11 2 11 true))] 61 0⟩) (ps := []) (fun j => by kernel_rfl) trivial
  fun j => gZ [0, 1, 2, 3, 4, 5, 6, 7, 8, 9, 10, 11, 12, 13, 14, 15, 16, 17, 18, 19, 20, 21, 23, 26, 30] (ho j)
-- ends at 4
theorem KXc (hE : EnvOk E) : COut E 13 hXc 110 [.e (.one (.slc 0 0 11 2 11 true)), .e (.one (.slc 12 0 1 1 1 true))] (sE 13 0 11 2 11 true) oXc :=
 cOut_start Tryz.func110 rfl (Xc0_step hE (Xc1_step hE (Xc2_step hE (Xc3_step hE (fun j => outK_ret (ends_ret (by kernel_rfl)))))) fun _ => undef)
end
end Go.Proofs.YtigdchbjmnbjlaaGreatDoor
end
