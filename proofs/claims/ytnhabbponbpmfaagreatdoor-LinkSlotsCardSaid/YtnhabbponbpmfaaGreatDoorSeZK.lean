/-
  Part of the proof: SeSe, SyW, SyV, SyLd.
-/
import Derived.Test.YtnhabbponbpmfaaGreatDoorSeZJ

/-! SeSe -/
section
open Go Go.Ev
namespace Go.Proofs.YtnhabbponbpmfaaGreatDoor
noncomputable section
set_option maxRecDepth 100000
set_option maxHeartbeats 20000000
def svW : Nat → List Sn → List Int
 | 0, _ => []
 | k + 1, L => if wiN L = -1 then [] else wiN L :: svW k (stN L)
def svL : Nat → List Sn → List Sn
 | 0, L => L
 | k + 1, L => if wiN L = -1 then L else svL k (stN L)
theorem svW_e {k : Nat} {L : List Sn} (h : wiN L = -1) : svW (k + 1) L = [] := if_pos h
theorem svL_e {k : Nat} {L : List Sn} (h : wiN L = -1) : svL (k + 1) L = L := if_pos h
theorem svW_s {k n : Nat} {L : List Sn} (he : wiN L = Int.ofNat n) : svW (k + 1) L = Int.ofNat n :: svW k (stN L) := by
 show (if wiN L = -1 then _ else _) = _
 rw [if_neg (by rw [he]; simp only [Int.ofNat_eq_natCast]; omega), he]
theorem svL_s {k n : Nat} {L : List Sn} (he : wiN L = Int.ofNat n) : svL (k + 1) L = svL k (stN L) := if_neg (by rw [he]; simp only [Int.ofNat_eq_natCast]; omega)
theorem l55 (hE : EnvOk E) (K : Nat) (hK : K ≤ 256) : ∀ k i, k + i = K → ∀ (L : List Sn), VL L → L.length ≤ 100000 → ∀ W : List Int, W.length ≤ i → ∀ j, OutK E 0 0 (q55 (snD L) [] [] (L.length) 0 i K (W.length) 0 0 zE 0 0 0 0 0 0 0 0 0 0 0 false (iC W) [] j) (Go.Ev.Ends E Tryz.f55 (.tup [.one (.slc 0 0 (W ++ svW k L).length 1 (W ++ svW k L).length false), .one (.dp (.s (snD (svL k L)) (svL k L).length 4)), .one (.v (.int .i64 (0)))]) [some ⟨iC (W ++ svW k L), (W ++ svW k L).length, 3, false, .cells⟩])
 | 0, i, hk, L, hv, hm, W, hW, j => by
  rw [show svW 0 L = [] from rfl, show svL 0 L = L from rfl, List.append_nil]
  exact p55x hE (snD L) [] [] (L.length) 0 i K (W.length) 0 0 zE 0 0 0 0 0 0 0 0 0 0 0 false (iC W) [] (decide_eq_false (by (try simp only [Int.ofNat_eq_natCast]); omega)) (fun j => outK_ret (ends_ret (by kernel_rfl))) j
 | k + 1, i, hk, L, hv, hm, W, hW, j => by
  have h1 := S110 hE L hv hm
  rcases wi_spec L with he | ⟨n, b, he, hb, hg⟩
  ·rw [svW_e he, svL_e he, List.append_nil]
   rw [he] at h1
   exact p55b hE (snD L) (snD (stN L)) [] (L.length) ((stN L).length) i K (W.length) 0 0 zE 0 0 0 0 0 0 0 0 0 0 0 false (iC W) [] (decide_eq_true (by (try simp only [Int.ofNat_eq_natCast]); omega)) h1 (fun j => outK_ret (ends_ret (by kernel_rfl))) j
  ·rw [svW_s he, svL_s he]
   rw [he] at h1
   have ih := l55 hE K hK k (i + 1) (by omega) (stN L) hv.st (by rw [st_len]; exact hm) (W ++ [Int.ofNat n]) (by simp; omega)
   rw [List.append_assoc, show (W ++ [Int.ofNat n]).length = W.length + 1 by simp] at ih
   exact p55s hE (snD L) (snD (stN L)) [] (L.length) ((stN L).length) i K (W.length) 0 n zE 0 0 0 0 0 0 0 0 0 0 0 false (iC W) (iC (W ++ [Int.ofNat n])) (decide_eq_true (by (try simp only [Int.ofNat_eq_natCast]); omega)) h1 (by omega) (by simp [small]; omega) (Nat.mul_one _).symm (iC_app W [Int.ofNat n]) (Nat.mul_one _) (iIe (by (try simp only [Int.ofNat_eq_natCast]); rw [wrap_id (by omega) (by omega)]; try omega)) (flat_iC _) ih j
theorem l64 (hE : EnvOk E) (K : Nat) (hK : K ≤ 256) : ∀ k i, k + i = K → ∀ (L : List Sn), VL L → L.length ≤ 100000 → ∀ W : List Int, W.length ≤ i → ∀ j, OutK E 0 0 (q64 (snD L) [] [] (L.length) 0 i K (W.length) 0 0 zE 0 0 0 0 0 0 0 0 0 0 0 false (iC W) [] j) (Go.Ev.Ends E Tryz.f64 (.tup [.one (.slc 0 0 (W ++ svW k L).length 1 (W ++ svW k L).length false), .one (.dp (.s (snD (svL k L)) (svL k L).length 4))]) [some ⟨iC (W ++ svW k L), (W ++ svW k L).length, 3, false, .cells⟩])
 | 0, i, hk, L, hv, hm, W, hW, j => by
  rw [show svW 0 L = [] from rfl, show svL 0 L = L from rfl, List.append_nil]
  exact p64x hE (snD L) [] [] (L.length) 0 i K (W.length) 0 0 zE 0 0 0 0 0 0 0 0 0 0 0 false (iC W) [] (decide_eq_false (by (try simp only [Int.ofNat_eq_natCast]); omega)) (fun j => outK_ret (ends_ret (by kernel_rfl))) j
 | k + 1, i, hk, L, hv, hm, W, hW, j => by
  have h1 := K63 hE L hv.ok hm
  rcases wi_spec L with he | ⟨n, b, he, hb, hg⟩
  ·rw [svW_e he, svL_e he, List.append_nil]
   rw [he] at h1
   exact p64b hE (snD L) [] [] (L.length) 0 i K (W.length) 0 0 zE 0 0 0 0 0 0 0 0 0 0 0 false (iC W) [] (decide_eq_true (by (try simp only [Int.ofNat_eq_natCast]); omega)) h1 (fun j => outK_ret (ends_ret (by kernel_rfl))) j
  ·rw [svW_s he, svL_s he]
   rw [he] at h1
   have ih := l64 hE K hK k (i + 1) (by omega) (stN L) hv.st (by rw [st_len]; exact hm) (W ++ [Int.ofNat n]) (by simp; omega)
   rw [List.append_assoc, show (W ++ [Int.ofNat n]).length = W.length + 1 by simp] at ih
   exact p64s hE (snD L) (snD (stN L)) [] (L.length) ((stN L).length) i K (W.length) 0 n zE 0 0 0 0 0 0 0 0 0 0 0 false (iC W) (iC (W ++ [Int.ofNat n])) (decide_eq_true (by (try simp only [Int.ofNat_eq_natCast]); omega)) h1 (by omega) (by simp [small]; omega) (Nat.mul_one _).symm (iC_app W [Int.ofNat n]) (Nat.mul_one _) (S71 hE L hv hm n he) (iIe (by (try simp only [Int.ofNat_eq_natCast]); rw [wrap_id (by omega) (by omega)]; try omega)) (flat_iC _) ih j
def seE (L : List Sn) (x : Int) : Int := firstI [chkS L, rgS x 0 256]
def seW (L : List Sn) (x : Int) : List Int := if seE L x = 0 then svW x.toNat L else []
def seS (L : List Sn) (x : Int) : List Sn := if seE L x = 0 then svL x.toNat L else []
theorem se_ok {L : List Sn} {x : Int} (h : seE L x = 0) : VL L ∧ chkS L = 0 ∧ ∃ k : Nat, x = Int.ofNat k ∧ k ≤ 256 := by
 have h1 := firstI_zero h (chkS L) (by simp)
 have h2 := rgS_zero (firstI_zero h (rgS x 0 256) (by simp))
 exact ⟨VL_of h1, h1, x.toNat, by simp only [Int.ofNat_eq_natCast]; omega, by omega⟩
theorem frz3 (W : List Int) (b : Nat) : FrzC b (iD W) (.slc b 0 W.length 1 W.length false) (.dp (.s (iD W) W.length 1)) := frzAll _ _ 1 _ _ (by simp)
theorem K55 (hE : EnvOk E) (L : List Sn) (x : Int) (hm : L.length ≤ 100000) : COut E 0 [] 55 [dSn L, iI x] (.tup [.one (.dp (.s (iD (seW L x)) (seW L x).length 1)), .one (.dp (.s (snD (seS L x)) (seS L x).length 4)), .one (.v (.int .i64 (seE L x)))]) [] := by
 have h69 := K69 hE L hm
 have h108 := K108 hE x
 unfold seW seS
 by_cases h : seE L x = 0
 ·rw [if_pos h, if_pos h, h]
  obtain ⟨hv, hc, k, hk, h256⟩ := se_ok h
  subst hk
  rw [show (Int.ofNat k).toNat = k from rfl]
  have hst : ∀ {v : AV} {hout : Heap}, (∀ j, OutK E 0 0 (q55n (snD L) [] [] (L.length) 0 (0) k 0 0 0 zE 0 0 0 0 0 0 0 0 0 0 0 false [] [] j) (Go.Ev.Ends E Tryz.f55 v hout)) → COut E 0 [] 55 [dSn L, iI (Int.ofNat k)] v hout := fun ho =>
   cOut_start Tryz.func55 rfl (p55a hE (snD L) [] [] (L.length) 0 0 k 0 0 0 zE 0 0 0 0 0 0 (chkS L) (rgS (Int.ofNat k) 0 256) (seE L (Int.ofNat k)) 0 0 false [] [] h69 h108 (C78s hE (l := [chkS L, rgS (Int.ofNat k) 0 256]) rfl rfl rfl) (by rw [h]; rfl) (K109 hE L hm) ho fun _ => undef)
  rcases k with _ | k
  ·exact tup_wk (l := [.one (.v (.slice none 0 0)), .one (.dp (.s (snD L) (L).length 4)), .one (.v (.int .i64 (0)))]) (hst (p55z hE (snD L) [] [] (L.length) 0 0 0 0 0 0 zE 0 0 0 0 0 0 0 0 0 0 0 false [] [] (by decide) (fun j => outK_ret (ends_ret (by kernel_rfl))))) fun m => ⟨wkN m 1, fun _ h => h, fun _ h => h, trivial⟩
  ·have h1 := S110 hE L hv hm
   rcases wi_spec L with he | ⟨n, b, he, hb, hg⟩
   ·rw [svW_e he, svL_e he]
    rw [he] at h1
    exact tup_wk (l := [.one (.v (.slice none 0 0)), .one (.dp (.s (snD L) (L).length 4)), .one (.v (.int .i64 (0)))]) (hst (p55y hE (snD L) (snD (stN L)) [] (L.length) ((stN L).length) (0) (k + 1) 0 0 0 zE 0 0 0 0 0 0 0 0 0 0 0 false [] [] (decide_eq_true (by simp only [Int.ofNat_eq_natCast]; omega)) h1 (fun j => outK_ret (ends_ret (by kernel_rfl))))) fun m => ⟨wkN m 1, fun _ h => h, fun _ h => h, trivial⟩
   ·rw [svW_s he, svL_s he]
    rw [he] at h1
    have hc := hst (p55n hE (snD L) (snD (stN L)) [] (L.length) ((stN L).length) (0) (k + 1) 0 0 n zE 0 0 0 0 0 0 0 0 0 0 0 false [] [] (decide_eq_true (by simp only [Int.ofNat_eq_natCast]; omega)) h1 (iIe (by (try simp only [Int.ofNat_eq_natCast]); rw [wrap_id (by omega) (by omega)]; try omega)) (l55 hE (k + 1) h256 k 1 rfl (stN L) hv.st (by rw [st_len]; exact hm) [Int.ofNat n] (Nat.le_refl _)))
    exact cOut_clear (cOut_freeze 0 hc rfl (Nat.zero_le _) (ds := iD (Int.ofNat n :: svW k (stN L))) ⟨frz3 (Int.ofNat n :: svW k (stN L)) 0, .inl rfl, .inl rfl, trivial⟩) rfl
 ·rw [if_neg h, if_neg h]
  exact tup_wk (l := [.one (.v (.slice none 0 0)), .one (.v (.slice none 0 0)), .one (.v (.int .i64 (seE L x)))]) (cOut_start Tryz.func55 rfl (p55e hE (snD L) [] [] (L.length) 0 0 0 0 0 0 zE 0 0 0 x 0 0 (chkS L) (rgS x 0 256) (seE L x) 0 0 false [] [] h69 h108 (C78s hE (l := [chkS L, rgS x 0 256]) rfl rfl rfl) (bne_iff_ne.2 h) (fun j => outK_ret (ends_ret (by kernel_rfl))) fun _ => undef)) fun m => ⟨wkN m 1, wkN m 4, fun _ h => h, trivial⟩
theorem K64 (hE : EnvOk E) (L : List Sn) (hv : VL L) (hm : L.length ≤ 100000) (k : Nat) (h256 : k ≤ 256) : COut E 0 [] 64 [dSn L, iI (Int.ofNat k)] (.tup [.one (.dp (.s (iD (svW k L)) (svW k L).length 1)), .one (.dp (.s (snD (svL k L)) (svL k L).length 4))]) [] := by
 have hst : ∀ {v : AV} {hout : Heap}, (∀ j, OutK E 0 0 (q64n (snD L) [] [] (L.length) 0 (0) k 0 0 0 zE 0 0 0 0 0 0 0 0 0 0 0 false [] [] j) (Go.Ev.Ends E Tryz.f64 v hout)) → COut E 0 [] 64 [dSn L, iI (Int.ofNat k)] v hout := fun ho =>
  cOut_start Tryz.func64 rfl (p64a hE (snD L) [] [] (L.length) 0 0 k 0 0 0 zE 0 0 0 0 0 0 0 0 0 0 0 false [] [] ho fun _ => undef)
 rcases k with _ | k
 ·exact tup_wk (l := [.one (.v (.slice none 0 0)), .one (.dp (.s (snD L) (L).length 4))]) (hst (p64z hE (snD L) [] [] (L.length) 0 0 0 0 0 0 zE 0 0 0 0 0 0 0 0 0 0 0 false [] [] (by decide) (fun j => outK_ret (ends_ret (by kernel_rfl))))) fun m => ⟨wkN m 1, fun _ h => h, trivial⟩
 ·have h1 := K63 hE L hv.ok hm
  rcases wi_spec L with he | ⟨n, b, he, hb, hg⟩
  ·rw [svW_e he, svL_e he]
   rw [he] at h1
   exact tup_wk (l := [.one (.v (.slice none 0 0)), .one (.dp (.s (snD L) (L).length 4))]) (hst (p64y hE (snD L) [] [] (L.length) 0 (0) (k + 1) 0 0 0 zE 0 0 0 0 0 0 0 0 0 0 0 false [] [] (decide_eq_true (by simp only [Int.ofNat_eq_natCast]; omega)) h1 (fun j => outK_ret (ends_ret (by kernel_rfl))))) fun m => ⟨wkN m 1, fun _ h => h, trivial⟩
  ·rw [svW_s he, svL_s he]
   rw [he] at h1
   have hc := hst (p64n hE (snD L) (snD (stN L)) [] (L.length) ((stN L).length) (0) (k + 1) 0 0 n zE 0 0 0 0 0 0 0 0 0 0 0 false [] [] (decide_eq_true (by simp only [Int.ofNat_eq_natCast]; omega)) h1 (S71 hE L hv hm n he) (iIe (by (try simp only [Int.ofNat_eq_natCast]); rw [wrap_id (by omega) (by omega)]; try omega)) (l64 hE (k + 1) h256 k 1 rfl (stN L) hv.st (by rw [st_len]; exact hm) [Int.ofNat n] (Nat.le_refl _)))
   exact cOut_clear (cOut_freeze 0 hc rfl (Nat.zero_le _) (ds := iD (Int.ofNat n :: svW k (stN L))) ⟨frz3 (Int.ofNat n :: svW k (stN L)) 0, .inl rfl, trivial⟩) rfl
theorem apN (W : List Int) : appL (iC W) ((fun x => AC.v (Value.int IntKind.i64 (Int.negSucc (nat_lit 0))) :: x) []) = iC (W ++ [-1]) := by
 have h := iC_app W [-1]
 exact h
def slB (c : List Bool) (i : Nat) : Bool := (c[i % c.length]?).getD false
theorem sl_get {c : List Bool} {i : Nat} (hp : 0 < c.length) : c[i % c.length]? = some (slB c i) := by
 unfold slB
 have h : i % c.length < c.length := Nat.mod_lt _ hp
 rw [List.getElem?_eq_getElem h]; rfl
def acW (c : List Bool) : Nat → Nat → List Sn → List Int
 | 0, _, _ => []
 | k + 1, i, L => if slB c i = true then wiN L :: acW c k (i + 1) (stN L) else -1 :: acW c k (i + 1) L
theorem ac_o {c : List Bool} {k i : Nat} {L : List Sn} (h : slB c i = true) : acW c (k + 1) i L = wiN L :: acW c k (i + 1) (stN L) := if_pos h
theorem ac_c {c : List Bool} {k i : Nat} {L : List Sn} (h : slB c i = false) : acW c (k + 1) i L = -1 :: acW c k (i + 1) L := if_neg (by rw [h]; decide)
theorem l58 (hE : EnvOk E) (c : List Bool) (hp : 0 < c.length) (K : Nat) (hK : K ≤ 256) (N : Nat) (hm : N ≤ 100000) : ∀ k i, k + i = K → ∀ (L : List Sn), VL L → L.length = N → ∀ W : List Int, W.length ≤ i → ∀ j, OutK E 0 0 (q58 (snD L) [] (bbD c) (N) 0 i K (W.length) (c.length) 0 zE 0 0 0 0 0 0 0 0 0 0 0 false (iC W) [] j) (Go.Ev.Ends E Tryz.f58 (.tup [.one (.slc 0 0 (W ++ acW c k i L).length 1 (W ++ acW c k i L).length false), .one (.v (.int .i64 (0)))]) [some ⟨iC (W ++ acW c k i L), (W ++ acW c k i L).length, 3, false, .cells⟩])
 | 0, i, hk, L, hv, hl, W, hW, j => by
  rw [show acW c 0 i L = [] from rfl, List.append_nil]
  exact p58x hE (snD L) [] (bbD c) N 0 i K (W.length) (c.length) 0 zE 0 0 0 0 0 0 0 0 0 0 0 false (iC W) [] (decide_eq_false (by (try simp only [Int.ofNat_eq_natCast]); omega)) (fun j => outK_ret (ends_ret (by kernel_rfl))) j
 | k + 1, i, hk, L, hv, hl, W, hW, j => by
  have hs := sl_get (i := i) hp
  cases hb : slB c i with
  | true =>
   rw [ac_o hb]
   rw [hb] at hs
   have h1 := S110 hE L hv (by omega)
   rw [st_len, hl] at h1
   have ih := l58 hE c hp K hK N hm k (i + 1) (by omega) (stN L) hv.st (by rw [st_len]; exact hl) (W ++ [wiN L]) (by simp; omega)
   rw [List.append_assoc, show (W ++ [wiN L]).length = W.length + 1 by simp] at ih
   exact p58s hE (snD L) (snD (stN L)) (bbD c) N (i % c.length) i K (W.length) (c.length) 0 zE 0 0 0 0 0 (wiN L) 0 0 0 0 0 true (iC W) (iC (W ++ [wiN L])) (decide_eq_true (by (try simp only [Int.ofNat_eq_natCast]); omega)) (by have := hp; omega) rfl ⟨Int.natCast_nonneg _, by simp only [Int.ofNat_eq_natCast]; exact Int.ofNat_lt.2 (Nat.mod_lt _ hp)⟩ (Nat.mul_one _) (bb_get hs) (by first | rfl | omega | simp) (hl ▸ h1) (by omega) (by simp [small]; omega) (Nat.mul_one _).symm (iC_app W [wiN L]) (Nat.mul_one _) (iIe (by (try simp only [Int.ofNat_eq_natCast]); rw [wrap_id (by omega) (by omega)]; try omega)) (flat_iC _) ih j
  | false =>
   rw [ac_c hb]
   rw [hb] at hs
   have ih := l58 hE c hp K hK N hm k (i + 1) (by omega) L hv hl (W ++ [-1]) (by simp; omega)
   rw [List.append_assoc, show (W ++ [(-1 : Int)]).length = W.length + 1 by simp] at ih
   exact p58j hE (snD L) [] (bbD c) N (i % c.length) i K (W.length) (c.length) 0 zE 0 0 0 0 0 0 0 0 0 0 0 false (iC W) (iC (W ++ [-1])) (decide_eq_true (by (try simp only [Int.ofNat_eq_natCast]); omega)) (by have := hp; omega) rfl ⟨Int.natCast_nonneg _, by simp only [Int.ofNat_eq_natCast]; exact Int.ofNat_lt.2 (Nat.mod_lt _ hp)⟩ (Nat.mul_one _) (bb_get hs) (by first | rfl | omega | simp) (by omega) (by simp [small]; omega) (Nat.mul_one _).symm (apN W) (Nat.mul_one _) (iIe (by (try simp only [Int.ofNat_eq_natCast]); rw [wrap_id (by omega) (by omega)]; try omega)) (flat_iC _) ih j
theorem l68 (hE : EnvOk E) (c : List Bool) (hp : 0 < c.length) (K : Nat) (hK : K ≤ 256) (N : Nat) (hm : N ≤ 100000) : ∀ k i, k + i = K → ∀ (L : List Sn), VL L → L.length = N → ∀ W : List Int, W.length ≤ i → ∀ j, OutK E 0 0 (q68 (snD L) [] (bbD c) (N) 0 i K (W.length) (c.length) 0 zE 0 0 0 0 0 0 0 0 0 0 0 false (iC W) [] j) (Go.Ev.Ends E Tryz.f68 (.e (.one (.slc 0 0 (W ++ acW c k i L).length 1 (W ++ acW c k i L).length false))) [some ⟨iC (W ++ acW c k i L), (W ++ acW c k i L).length, 3, false, .cells⟩])
 | 0, i, hk, L, hv, hl, W, hW, j => by
  rw [show acW c 0 i L = [] from rfl, List.append_nil]
  exact p68x hE (snD L) [] (bbD c) N 0 i K (W.length) (c.length) 0 zE 0 0 0 0 0 0 0 0 0 0 0 false (iC W) [] (decide_eq_false (by (try simp only [Int.ofNat_eq_natCast]); omega)) (fun j => outK_ret (ends_ret (by kernel_rfl))) j
 | k + 1, i, hk, L, hv, hl, W, hW, j => by
  have hs := sl_get (i := i) hp
  cases hb : slB c i with
  | true =>
   rw [ac_o hb]
   rw [hb] at hs
   have h1 := K63 hE L hv.ok (by omega)
   subst hl
   have ih := l68 hE c hp K hK L.length hm k (i + 1) (by omega) (stN L) hv.st (st_len L) (W ++ [wiN L]) (by simp; omega)
   rw [List.append_assoc, show (W ++ [wiN L]).length = W.length + 1 by simp] at ih
   rcases wi_spec L with he | ⟨n, b, he, hb', hg⟩
   ·rw [st_none he, he] at ih
    rw [st_none he, he]
    rw [he] at h1
    exact p68i hE (snD L) [] (bbD c) (L.length) (i % c.length) i K (W.length) (c.length) 0 zE 0 0 0 0 0 0 0 0 0 0 0 true (iC W) (iC (W ++ [-1])) (decide_eq_true (by (try simp only [Int.ofNat_eq_natCast]); omega)) (by have := hp; omega) rfl ⟨Int.natCast_nonneg _, by simp only [Int.ofNat_eq_natCast]; exact Int.ofNat_lt.2 (Nat.mod_lt _ hp)⟩ (Nat.mul_one _) (bb_get hs) (by first | rfl | omega | simp) h1 (by omega) (by simp [small]; omega) (Nat.mul_one _).symm (apN W) (Nat.mul_one _) (iIe (by (try simp only [Int.ofNat_eq_natCast]); rw [wrap_id (by omega) (by omega)]; try omega)) (flat_iC _) ih j
   ·have h71 := S71 hE L hv hm n he
    rw [show dSn (stN L) = (.e (.one (.dp (.s (snD (stN L)) L.length 4))) : AV) by unfold dSn; rw [st_len]] at h71
    rw [he] at ih h1 ⊢
    exact p68s hE (snD L) (snD (stN L)) (bbD c) (L.length) (i % c.length) i K (W.length) (c.length) n zE 0 0 0 0 0 0 0 0 0 0 0 true (iC W) (iC (W ++ [Int.ofNat n])) (decide_eq_true (by (try simp only [Int.ofNat_eq_natCast]); omega)) (by have := hp; omega) rfl ⟨Int.natCast_nonneg _, by simp only [Int.ofNat_eq_natCast]; exact Int.ofNat_lt.2 (Nat.mod_lt _ hp)⟩ (Nat.mul_one _) (bb_get hs) (by first | rfl | omega | simp) h1 h71 (by omega) (by simp [small]; omega) (Nat.mul_one _).symm (iC_app W [Int.ofNat n]) (Nat.mul_one _) (iIe (by (try simp only [Int.ofNat_eq_natCast]); rw [wrap_id (by omega) (by omega)]; try omega)) (flat_iC _) ih j
  | false =>
   rw [ac_c hb]
   rw [hb] at hs
   have ih := l68 hE c hp K hK N hm k (i + 1) (by omega) L hv hl (W ++ [-1]) (by simp; omega)
   rw [List.append_assoc, show (W ++ [(-1 : Int)]).length = W.length + 1 by simp] at ih
   exact p68t hE (snD L) [] (bbD c) N (i % c.length) i K (W.length) (c.length) 0 zE 0 0 0 0 0 0 0 0 0 0 0 false (iC W) (iC (W ++ [-1])) (decide_eq_true (by (try simp only [Int.ofNat_eq_natCast]); omega)) (by have := hp; omega) rfl ⟨Int.natCast_nonneg _, by simp only [Int.ofNat_eq_natCast]; exact Int.ofNat_lt.2 (Nat.mod_lt _ hp)⟩ (Nat.mul_one _) (bb_get hs) (by first | rfl | omega | simp) (by omega) (by simp [small]; omega) (Nat.mul_one _).symm (apN W) (Nat.mul_one _) (iIe (by (try simp only [Int.ofNat_eq_natCast]); rw [wrap_id (by omega) (by omega)]; try omega)) (flat_iC _) ih j
def scE (L : List Sn) (c : List Bool) (x : Int) : Int := firstI [chkS L, cyE c, rgS x 0 256, opE c]
def scW (L : List Sn) (c : List Bool) (x : Int) : List Int := if scE L c x = 0 then acW c x.toNat 0 L else []
theorem cy_ok {c : List Bool} (h : cyE c = 0) : 0 < c.length ∧ c.length ≤ 16 := by
 have h1 := firstI_zero h (if ((c.length : Int) == 0) = true then 12 else 0) (by simp)
 have h2 := firstI_zero h (if decide ((c.length : Int) > 16) = true then 5 else 0) (by simp)
 constructor
 ·rcases Nat.eq_zero_or_pos c.length with hz | hz
  ·rw [hz] at h1; exact absurd h1 (by decide)
  ·exact hz
 ·rcases Nat.lt_or_ge 16 c.length with hz | hz
  ·rw [if_pos (decide_eq_true (by omega))] at h2; exact absurd h2 (by decide)
  ·exact hz
theorem sc_ok {L : List Sn} {c : List Bool} {x : Int} (h : scE L c x = 0) : VL L ∧ chkS L = 0 ∧ 0 < c.length ∧ opE c = 0 ∧ ∃ k : Nat, x = Int.ofNat k ∧ k ≤ 256 := by
 have h1 := firstI_zero h (chkS L) (by simp)
 have h3 := firstI_zero h (cyE c) (by simp)
 have h4 := firstI_zero h (opE c) (by simp)
 have h2 := rgS_zero (firstI_zero h (rgS x 0 256) (by simp))
 exact ⟨VL_of h1, h1, (cy_ok h3).1, h4, x.toNat, by simp only [Int.ofNat_eq_natCast]; omega, by omega⟩
theorem K58 (hE : EnvOk E) (L : List Sn) (c : List Bool) (x : Int) (hm : L.length ≤ 100000) (hcm : c.length ≤ 100000) : (scW L c x = [] ∧ COut E 0 [] 58 [dSn L, dB c, iI x] (.tup [.one (.v (.slice none 0 0)), .one (.v (.int .i64 (scE L c x)))]) []) ∨ COut E 0 [] 58 [dSn L, dB c, iI x] (.tup [.one (.slc 0 0 (scW L c x).length 1 (scW L c x).length false), .one (.v (.int .i64 (scE L c x)))]) [some ⟨iC (scW L c x), (scW L c x).length, 3, false, .cells⟩] := by
 have h69 := K69 hE L hm
 have h108 := K108 hE x
 have h111 := K111 hE c
 have h112 := K112 hE c hcm
 unfold scW
 by_cases h : scE L c x = 0
 ·rw [if_pos h, h]
  obtain ⟨hv, hc, hp, _, k, hk, h256⟩ := sc_ok h
  subst hk
  rw [show (Int.ofNat k).toNat = k from rfl]
  have hst : ∀ {v : AV} {hout : Heap}, (∀ j, OutK E 0 0 (q58n (snD L) [] (bbD c) (L.length) 0 (0) k 0 (c.length) 0 zE 0 0 0 0 0 0 0 0 0 0 0 false [] [] j) (Go.Ev.Ends E Tryz.f58 v hout)) → COut E 0 [] 58 [dSn L, dB c, iI (Int.ofNat k)] v hout := fun ho =>
   cOut_start Tryz.func58 rfl (p58a hE (snD L) [] (bbD c) (L.length) 0 0 k 0 (c.length) 0 zE 0 0 0 0 0 0 (chkS L) (cyE c) (scE L c (Int.ofNat k)) (rgS (Int.ofNat k) 0 256) (opE c) false [] [] h69 h111 h108 h112 (C78s hE (l := [chkS L, cyE c, rgS (Int.ofNat k) 0 256, opE c]) rfl rfl rfl) (by rw [h]; rfl) ho fun _ => undef)
  rcases k with _ | k
  ·exact .inl ⟨rfl, hst (p58z hE (snD L) [] (bbD c) (L.length) 0 0 0 0 (c.length) 0 zE 0 0 0 0 0 0 0 0 0 0 0 false [] [] (by decide) (fun j => outK_ret (ends_ret (by kernel_rfl))))⟩
  ·have hs := sl_get (i := 0) hp
   refine .inr (hst ?_)
   cases hb : slB c 0 with
   | true =>
    rw [ac_o hb]
    rw [hb] at hs
    have h1 := S110 hE L hv hm
    rw [st_len] at h1
    exact p58n hE (snD L) (snD (stN L)) (bbD c) (L.length) (0 % c.length) (0) (k + 1) 0 (c.length) 0 zE 0 0 0 0 0 (wiN L) 0 0 0 0 0 true [] [] (decide_eq_true (by simp only [Int.ofNat_eq_natCast]; omega)) (by have := hp; omega) rfl ⟨Int.natCast_nonneg _, by simp only [Int.ofNat_eq_natCast]; exact Int.ofNat_lt.2 (Nat.mod_lt _ hp)⟩ (Nat.mul_one _) (bb_get hs) (by first | rfl | omega | simp) h1 (iIe (by (try simp only [Int.ofNat_eq_natCast]); rw [wrap_id (by omega) (by omega)]; try omega)) (l58 hE c hp (k + 1) h256 L.length hm k 1 rfl (stN L) hv.st (st_len L) [wiN L] (Nat.le_refl _))
   | false =>
    rw [ac_c hb]
    rw [hb] at hs
    exact p58k hE (snD L) [] (bbD c) (L.length) (0 % c.length) (0) (k + 1) 0 (c.length) 0 zE 0 0 0 0 0 0 0 0 0 0 0 false [] [] (decide_eq_true (by simp only [Int.ofNat_eq_natCast]; omega)) (by have := hp; omega) rfl ⟨Int.natCast_nonneg _, by simp only [Int.ofNat_eq_natCast]; exact Int.ofNat_lt.2 (Nat.mod_lt _ hp)⟩ (Nat.mul_one _) (bb_get hs) (by first | rfl | omega | simp) (iIe (by (try simp only [Int.ofNat_eq_natCast]); rw [wrap_id (by omega) (by omega)]; try omega)) (l58 hE c hp (k + 1) h256 L.length hm k 1 rfl L hv rfl [-1] (Nat.le_refl _))
 ·rw [if_neg h]
  exact .inl ⟨rfl, (cOut_start Tryz.func58 rfl (p58e hE (snD L) [] (bbD c) (L.length) 0 0 0 0 (c.length) 0 zE 0 0 0 0 x 0 (chkS L) (cyE c) (scE L c x) (rgS x 0 256) (opE c) false [] [] h69 h111 h108 h112 (C78s hE (l := [chkS L, cyE c, rgS x 0 256, opE c]) rfl rfl rfl) (bne_iff_ne.2 h) (fun j => outK_ret (ends_ret (by kernel_rfl))) fun _ => undef))⟩
theorem one_wk {f : FuncId} {args : List AV} {h : Heap} (hc : COut E 0 [] f args (.e (.one (.v (.slice none 0 0)))) h) : COut E 0 [] f args (.e (.one (.dp (.s (iD (([] : List Int))) (([] : List Int)).length 1)))) h := cOut_nil1 (p := none) (c := 0) 1 hc
theorem K68 (hE : EnvOk E) (L : List Sn) (hv : VL L) (c : List Bool) (hp : 0 < c.length) (hm : L.length ≤ 100000) (k : Nat) (h256 : k ≤ 256) : COut E 0 [] 68 [dSn L, dB c, iI (Int.ofNat k)] (.e (.one (.dp (.s (iD (acW c k 0 L)) (acW c k 0 L).length 1)))) [] := by
 have hst : ∀ {v : AV} {hout : Heap}, (∀ j, OutK E 0 0 (q68n (snD L) [] (bbD c) (L.length) 0 (0) k 0 (c.length) 0 zE 0 0 0 0 0 0 0 0 0 0 0 false [] [] j) (Go.Ev.Ends E Tryz.f68 v hout)) → COut E 0 [] 68 [dSn L, dB c, iI (Int.ofNat k)] v hout := fun ho =>
  cOut_start Tryz.func68 rfl (p68a hE (snD L) [] (bbD c) (L.length) 0 0 k 0 (c.length) 0 zE 0 0 0 0 0 0 0 0 0 0 0 false [] [] ho fun _ => undef)
 rcases k with _ | k
 ·exact one_wk (hst (p68z hE (snD L) [] (bbD c) (L.length) 0 0 0 0 (c.length) 0 zE 0 0 0 0 0 0 0 0 0 0 0 false [] [] (by decide) (fun j => outK_ret (ends_ret (by kernel_rfl)))))
 ·have hs := sl_get (i := 0) hp
  have fin : ∀ W : List Int, COut E 0 [] 68 [dSn L, dB c, iI (Int.ofNat (k + 1))] (.e (.one (.slc 0 0 (W).length 1 (W).length false))) [some ⟨iC W, (W).length, 3, false, .cells⟩] → COut E 0 [] 68 [dSn L, dB c, iI (Int.ofNat (k + 1))] (.e (.one (.dp (.s (iD (W)) (W).length 1)))) [] := fun W hc =>
   cOut_clear (cOut_freeze 0 hc rfl (Nat.zero_le _) (ds := iD W) (frz3 W 0)) rfl
  refine fin _ (hst ?_)
  cases hb : slB c 0 with
  | true =>
   rw [ac_o hb]
   rw [hb] at hs
   have h1 := K63 hE L hv.ok hm
   rcases wi_spec L with he | ⟨n, b, he, hb', hg⟩
   ·rw [st_none he, he]
    rw [he] at h1
    exact p68j hE (snD L) [] (bbD c) (L.length) (0 % c.length) (0) (k + 1) 0 (c.length) 0 zE 0 0 0 0 0 0 0 0 0 0 0 true [] [] (decide_eq_true (by simp only [Int.ofNat_eq_natCast]; omega)) (by have := hp; omega) rfl ⟨Int.natCast_nonneg _, by simp only [Int.ofNat_eq_natCast]; exact Int.ofNat_lt.2 (Nat.mod_lt _ hp)⟩ (Nat.mul_one _) (bb_get hs) (by first | rfl | omega | simp) h1 (iIe (by (try simp only [Int.ofNat_eq_natCast]); rw [wrap_id (by omega) (by omega)]; try omega)) (l68 hE c hp (k + 1) h256 L.length hm k 1 rfl L hv rfl [-1] (Nat.le_refl _))
   ·have h71 := S71 hE L hv hm n he
    rw [show dSn (stN L) = (.e (.one (.dp (.s (snD (stN L)) L.length 4))) : AV) by unfold dSn; rw [st_len]] at h71
    rw [he] at h1 ⊢
    exact p68n hE (snD L) (snD (stN L)) (bbD c) (L.length) (0 % c.length) (0) (k + 1) 0 (c.length) n zE 0 0 0 0 0 0 0 0 0 0 0 true [] [] (decide_eq_true (by simp only [Int.ofNat_eq_natCast]; omega)) (by have := hp; omega) rfl ⟨Int.natCast_nonneg _, by simp only [Int.ofNat_eq_natCast]; exact Int.ofNat_lt.2 (Nat.mod_lt _ hp)⟩ (Nat.mul_one _) (bb_get hs) (by first | rfl | omega | simp) h1 h71 (iIe (by (try simp only [Int.ofNat_eq_natCast]); rw [wrap_id (by omega) (by omega)]; try omega)) (l68 hE c hp (k + 1) h256 L.length hm k 1 rfl (stN L) hv.st (st_len L) [Int.ofNat n] (Nat.le_refl _))
  | false =>
   rw [ac_c hb]
   rw [hb] at hs
   exact p68k hE (snD L) [] (bbD c) (L.length) (0 % c.length) (0) (k + 1) 0 (c.length) 0 zE 0 0 0 0 0 0 0 0 0 0 0 false [] [] (decide_eq_true (by simp only [Int.ofNat_eq_natCast]; omega)) (by have := hp; omega) rfl ⟨Int.natCast_nonneg _, by simp only [Int.ofNat_eq_natCast]; exact Int.ofNat_lt.2 (Nat.mod_lt _ hp)⟩ (Nat.mul_one _) (bb_get hs) (by first | rfl | omega | simp) (iIe (by (try simp only [Int.ofNat_eq_natCast]); rw [wrap_id (by omega) (by omega)]; try omega)) (l68 hE c hp (k + 1) h256 L.length hm k 1 rfl L hv rfl [-1] (Nat.le_refl _))
def opW (c : List Bool) : Nat → Nat → Nat → List Int
 | 0, _, _ => []
 | F + 1, i, n => if n = 0 then [] else if slB c i = true then Int.ofNat i :: opW c F (i + 1) (n - 1) else opW c F (i + 1) n
theorem op_z {c : List Bool} {F i : Nat} : opW c F i 0 = [] := by
 cases F with
 | zero => rfl
 | succ F => exact if_pos rfl
theorem op_o {c : List Bool} {F i n : Nat} (h : slB c i = true) : opW c (F + 1) i (n + 1) = Int.ofNat i :: opW c F (i + 1) n := by
 show (if n + 1 = 0 then _ else if slB c i = true then _ else _) = _
 rw [if_neg (Nat.succ_ne_zero n), if_pos h]; rfl
theorem op_c {c : List Bool} {F i n : Nat} (h : slB c i = false) : opW c (F + 1) i (n + 1) = opW c F (i + 1) (n + 1) := by
 show (if n + 1 = 0 then _ else if slB c i = true then _ else _) = _
 rw [if_neg (Nat.succ_ne_zero n), if_neg (by rw [h]; decide)]
def Rch (c : List Bool) (F i n : Nat) : Prop := ∃ d, slB c (i + d) = true ∧ (∀ e, e < d → slB c (i + e) = false) ∧ n * c.length + d + 1 ≤ F
theorem least {q : Nat → Bool} : ∀ D, (∃ d, d < D ∧ q d = true) → ∃ d, d < D ∧ q d = true ∧ ∀ e, e < d → q e = false
 | 0, ⟨d, h, _⟩ => absurd h (Nat.not_lt_zero d)
 | D + 1, ⟨d, h, hq⟩ => by
  cases h0 : q 0 with
  | true => exact ⟨0, Nat.succ_pos D, h0, fun e he => absurd he (Nat.not_lt_zero e)⟩
  | false =>
   have hd : d ≠ 0 := fun e => by rw [e, h0] at hq; exact absurd hq (by decide)
   obtain ⟨d', h1, h2, h3⟩ := least (q := fun e => q (e + 1)) D ⟨d - 1, by omega, by show q (d - 1 + 1) = true; rw [show d - 1 + 1 = d by omega]; exact hq⟩
   refine ⟨d' + 1, by omega, h2, fun e he => ?_⟩
   rcases e with _ | e
   ·exact h0
   ·exact h3 e (by omega)
theorem next_op {c : List Bool} (ho : opE c = 0) (i : Nat) : ∃ d, d < c.length ∧ slB c (i + d) = true ∧ ∀ e, e < d → slB c (i + e) = false := by
 have ha : (c.any fun x => x) = true := by
  unfold opE at ho
  cases h : (c.any fun x => x) with
  | true => rfl
  | false => rw [h] at ho; exact absurd ho (by decide)
 obtain ⟨x, hx, rfl⟩ := List.any_eq_true.1 ha
 obtain ⟨k, hk⟩ := List.mem_iff_getElem?.1 hx
 have hl : k < c.length := (List.getElem?_eq_some_iff.1 hk).1
 have hp : 0 < c.length := by omega
 have hm := Nat.mod_lt i hp
 refine least (q := fun d => slB c (i + d)) c.length ⟨(k + c.length - i % c.length) % c.length, Nat.mod_lt _ hp, ?_⟩
 show slB c (i + (k + c.length - i % c.length) % c.length) = true
 have e : (i + (k + c.length - i % c.length) % c.length) % c.length = k := by
  rw [Nat.add_mod_mod]
  have h1 := Nat.div_add_mod i c.length
  rw [show i + (k + c.length - i % c.length) = c.length * (i / c.length) + (k + c.length) by omega, Nat.mul_add_mod, Nat.add_mod_right, Nat.mod_eq_of_lt hl]
 unfold slB
 rw [e, hk]; rfl
theorem Rch.open {c : List Bool} (ho : opE c = 0) {F i n : Nat} (h : Rch c F i (n + 1)) (_hs : slB c i = true) : ∃ F', F = F' + 1 ∧ Rch c F' (i + 1) n := by
 obtain ⟨d, h1, h2, h3⟩ := h
 rw [Nat.succ_mul] at h3
 obtain ⟨d', g1, g2, g3⟩ := next_op ho (i + 1)
 refine ⟨F - 1, by omega, d', g2, g3, ?_⟩
 omega
theorem Rch.closed {c : List Bool} {F i n : Nat} (h : Rch c F i n) (hs : slB c i = false) : ∃ F', F = F' + 1 ∧ Rch c F' (i + 1) n := by
 obtain ⟨d, h1, h2, h3⟩ := h
 rcases d with _ | d
 ·rw [Nat.add_zero, hs] at h1; exact absurd h1 (by decide)
 ·refine ⟨F - 1, by omega, d, by rw [show i + 1 + d = i + (d + 1) by omega]; exact h1, fun e he => by rw [show i + 1 + e = i + (e + 1) by omega]; exact h2 (e + 1) (by omega), by omega⟩
theorem l57 (hE : EnvOk E) (c : List Bool) (ho : opE c = 0) (hp : 0 < c.length) (K : Nat) (hK : K ≤ 256) : ∀ F i n, (n = 0 ∨ Rch c F i (n - 1)) → i + F ≤ 1000000000000 → ∀ W : List Int, W.length + n = K → ∀ j, OutK E 0 0 (q57 [] [] (bbD c) 0 0 (i) K (W.length) (c.length) 0 zE 0 0 0 0 0 0 0 0 0 0 0 false (iC W) [] j) (Go.Ev.Ends E Tryz.f57 (.tup [.one (.slc 0 0 (W ++ opW c F i n).length 1 (W ++ opW c F i n).length false), .one (.v (.int .i64 (0)))]) [some ⟨iC (W ++ opW c F i n), (W ++ opW c F i n).length, 3, false, .cells⟩])
 | F, i, 0, hr, hi, W, hW, j => by
  rw [op_z, List.append_nil]
  exact p57x hE [] [] (bbD c) 0 0 i K (W.length) (c.length) 0 zE 0 0 0 0 0 0 0 0 0 0 0 false (iC W) [] (decide_eq_false (by (try simp only [Int.ofNat_eq_natCast]); omega)) (fun j => outK_ret (ends_ret (by kernel_rfl))) j
 | 0, i, n + 1, hr, hi, W, hW, j => by
  rcases hr with hr | ⟨d, _, _, h3⟩
  ·exact absurd hr (Nat.succ_ne_zero n)
  ·exact absurd h3 (by omega)
 | F + 1, i, n + 1, hr, hi, W, hW, j => by
  have hr : Rch c (F + 1) i n := hr.resolve_left (Nat.succ_ne_zero n)
  have hs := sl_get (i := i) hp
  cases hb : slB c i with
  | true =>
   rw [op_o hb]
   rw [hb] at hs
   have hr' : n = 0 ∨ Rch c F (i + 1) (n - 1) := by
    rcases n with _ | n
    ·exact .inl rfl
    ·obtain ⟨F', e, h⟩ := hr.open ho hb
     have : F' = F := by omega
     exact .inr (this ▸ h)
   have ih := l57 hE c ho hp K hK F (i + 1) n hr' (by omega) (W ++ [Int.ofNat i]) (by simp; omega)
   rw [List.append_assoc, show (W ++ [Int.ofNat i]).length = W.length + 1 by simp] at ih
   exact p57s hE [] [] (bbD c) 0 (i % c.length) i K (W.length) (c.length) 0 zE 0 0 0 0 0 0 0 0 0 0 0 true (iC W) (iC (W ++ [Int.ofNat i])) (decide_eq_true (by (try simp only [Int.ofNat_eq_natCast]); omega)) (by have := hp; omega) rfl ⟨Int.natCast_nonneg _, by simp only [Int.ofNat_eq_natCast]; exact Int.ofNat_lt.2 (Nat.mod_lt _ hp)⟩ (Nat.mul_one _) (bb_get hs) (by first | rfl | omega | simp) (by omega) (by simp [small]; omega) (Nat.mul_one _).symm (iC_app W [Int.ofNat i]) (Nat.mul_one _) (iIe (by (try simp only [Int.ofNat_eq_natCast]); rw [wrap_id (by omega) (by omega)]; try omega)) (flat_iC _) ih j
  | false =>
   rw [op_c hb]
   rw [hb] at hs
   obtain ⟨F', e, h⟩ := hr.closed hb
   have : F' = F := by omega
   exact p57j hE [] [] (bbD c) 0 (i % c.length) i K (W.length) (c.length) 0 zE 0 0 0 0 0 0 0 0 0 0 0 false (iC W) [] (decide_eq_true (by (try simp only [Int.ofNat_eq_natCast]); omega)) (by have := hp; omega) rfl ⟨Int.natCast_nonneg _, by simp only [Int.ofNat_eq_natCast]; exact Int.ofNat_lt.2 (Nat.mod_lt _ hp)⟩ (Nat.mul_one _) (bb_get hs) (by first | rfl | omega | simp) (iIe (by (try simp only [Int.ofNat_eq_natCast]); rw [wrap_id (by omega) (by omega)]; try omega)) (l57 hE c ho hp K hK F (i + 1) (n + 1) (.inr (this ▸ h)) (by omega) W hW) j
theorem l57n (hE : EnvOk E) (c : List Bool) (ho : opE c = 0) (hp : 0 < c.length) (n : Nat) (hK : n + 1 ≤ 256) : ∀ F i, Rch c F i n → i + F ≤ 1000000000000 → ∀ j, OutK E 0 0 (q57n [] [] (bbD c) 0 0 (i) (n + 1) 0 (c.length) 0 zE 0 0 0 0 0 0 0 0 0 0 0 false [] [] j) (Go.Ev.Ends E Tryz.f57 (.tup [.one (.slc 0 0 (opW c F i (n + 1)).length 1 (opW c F i (n + 1)).length false), .one (.v (.int .i64 (0)))]) [some ⟨iC (opW c F i (n + 1)), (opW c F i (n + 1)).length, 3, false, .cells⟩])
 | 0, i, hr, hi, j => by
  obtain ⟨d, _, _, h3⟩ := hr
  exact absurd h3 (by omega)
 | F + 1, i, hr, hi, j => by
  have hs := sl_get (i := i) hp
  cases hb : slB c i with
  | true =>
   rw [op_o hb]
   rw [hb] at hs
   have hr' : n = 0 ∨ Rch c F (i + 1) (n - 1) := by
    rcases n with _ | n
    ·exact .inl rfl
    ·obtain ⟨F', e, h⟩ := hr.open ho hb
     have : F' = F := by omega
     exact .inr (this ▸ h)
   exact p57n hE [] [] (bbD c) 0 (i % c.length) i (n + 1) 0 (c.length) 0 zE 0 0 0 0 0 0 0 0 0 0 0 true [] [] (decide_eq_true (by simp)) (by have := hp; omega) rfl ⟨Int.natCast_nonneg _, by simp only [Int.ofNat_eq_natCast]; exact Int.ofNat_lt.2 (Nat.mod_lt _ hp)⟩ (Nat.mul_one _) (bb_get hs) (by first | rfl | omega | simp) (iIe (by (try simp only [Int.ofNat_eq_natCast]); rw [wrap_id (by omega) (by omega)]; try omega)) (l57 hE c ho hp (n + 1) hK F (i + 1) n hr' (by omega) [Int.ofNat i] (by simp; omega)) j
  | false =>
   rw [op_c hb]
   rw [hb] at hs
   obtain ⟨F', e, h⟩ := hr.closed hb
   have : F' = F := by omega
   exact p57k hE [] [] (bbD c) 0 (i % c.length) i (n + 1) 0 (c.length) 0 zE 0 0 0 0 0 0 0 0 0 0 0 false [] [] (decide_eq_true (by simp)) (by have := hp; omega) rfl ⟨Int.natCast_nonneg _, by simp only [Int.ofNat_eq_natCast]; exact Int.ofNat_lt.2 (Nat.mod_lt _ hp)⟩ (Nat.mul_one _) (bb_get hs) (by first | rfl | omega | simp) (iIe (by (try simp only [Int.ofNat_eq_natCast]); rw [wrap_id (by omega) (by omega)]; try omega)) (l57n hE c ho hp n hK F (i + 1) (this ▸ h) (by omega)) j
theorem l67 (hE : EnvOk E) (c : List Bool) (ho : opE c = 0) (hp : 0 < c.length) (K : Nat) (hK : K ≤ 256) : ∀ F i n, (n = 0 ∨ Rch c F i (n - 1)) → i + F ≤ 1000000000000 → ∀ W : List Int, W.length + n = K → ∀ j, OutK E 0 0 (q67 [] [] (bbD c) 0 0 (i) K (W.length) (c.length) 0 zE 0 0 0 0 0 0 0 0 0 0 0 false (iC W) [] j) (Go.Ev.Ends E Tryz.f67 (.e (.one (.slc 0 0 (W ++ opW c F i n).length 1 (W ++ opW c F i n).length false))) [some ⟨iC (W ++ opW c F i n), (W ++ opW c F i n).length, 3, false, .cells⟩])
 | F, i, 0, hr, hi, W, hW, j => by
  rw [op_z, List.append_nil]
  exact p67x hE [] [] (bbD c) 0 0 i K (W.length) (c.length) 0 zE 0 0 0 0 0 0 0 0 0 0 0 false (iC W) [] (decide_eq_false (by (try simp only [Int.ofNat_eq_natCast]); omega)) (fun j => outK_ret (ends_ret (by kernel_rfl))) j
 | 0, i, n + 1, hr, hi, W, hW, j => by
  rcases hr with hr | ⟨d, _, _, h3⟩
  ·exact absurd hr (Nat.succ_ne_zero n)
  ·exact absurd h3 (by omega)
 | F + 1, i, n + 1, hr, hi, W, hW, j => by
  have hr : Rch c (F + 1) i n := hr.resolve_left (Nat.succ_ne_zero n)
  have hs := sl_get (i := i) hp
  cases hb : slB c i with
  | true =>
   rw [op_o hb]
   rw [hb] at hs
   have hr' : n = 0 ∨ Rch c F (i + 1) (n - 1) := by
    rcases n with _ | n
    ·exact .inl rfl
    ·obtain ⟨F', e, h⟩ := hr.open ho hb
     have : F' = F := by omega
     exact .inr (this ▸ h)
   have ih := l67 hE c ho hp K hK F (i + 1) n hr' (by omega) (W ++ [Int.ofNat i]) (by simp; omega)
   rw [List.append_assoc, show (W ++ [Int.ofNat i]).length = W.length + 1 by simp] at ih
   exact p67s hE [] [] (bbD c) 0 (i % c.length) i K (W.length) (c.length) 0 zE 0 0 0 0 0 0 0 0 0 0 0 true (iC W) (iC (W ++ [Int.ofNat i])) (decide_eq_true (by (try simp only [Int.ofNat_eq_natCast]); omega)) (by have := hp; omega) rfl ⟨Int.natCast_nonneg _, by simp only [Int.ofNat_eq_natCast]; exact Int.ofNat_lt.2 (Nat.mod_lt _ hp)⟩ (Nat.mul_one _) (bb_get hs) (by first | rfl | omega | simp) (by omega) (by simp [small]; omega) (Nat.mul_one _).symm (iC_app W [Int.ofNat i]) (Nat.mul_one _) (iIe (by (try simp only [Int.ofNat_eq_natCast]); rw [wrap_id (by omega) (by omega)]; try omega)) (flat_iC _) ih j
  | false =>
   rw [op_c hb]
   rw [hb] at hs
   obtain ⟨F', e, h⟩ := hr.closed hb
   have : F' = F := by omega
   exact p67j hE [] [] (bbD c) 0 (i % c.length) i K (W.length) (c.length) 0 zE 0 0 0 0 0 0 0 0 0 0 0 false (iC W) [] (decide_eq_true (by (try simp only [Int.ofNat_eq_natCast]); omega)) (by have := hp; omega) rfl ⟨Int.natCast_nonneg _, by simp only [Int.ofNat_eq_natCast]; exact Int.ofNat_lt.2 (Nat.mod_lt _ hp)⟩ (Nat.mul_one _) (bb_get hs) (by first | rfl | omega | simp) (iIe (by (try simp only [Int.ofNat_eq_natCast]); rw [wrap_id (by omega) (by omega)]; try omega)) (l67 hE c ho hp K hK F (i + 1) (n + 1) (.inr (this ▸ h)) (by omega) W hW) j
theorem l67n (hE : EnvOk E) (c : List Bool) (ho : opE c = 0) (hp : 0 < c.length) (n : Nat) (hK : n + 1 ≤ 256) : ∀ F i, Rch c F i n → i + F ≤ 1000000000000 → ∀ j, OutK E 0 0 (q67n [] [] (bbD c) 0 0 (i) (n + 1) 0 (c.length) 0 zE 0 0 0 0 0 0 0 0 0 0 0 false [] [] j) (Go.Ev.Ends E Tryz.f67 (.e (.one (.slc 0 0 (opW c F i (n + 1)).length 1 (opW c F i (n + 1)).length false))) [some ⟨iC (opW c F i (n + 1)), (opW c F i (n + 1)).length, 3, false, .cells⟩])
 | 0, i, hr, hi, j => by
  obtain ⟨d, _, _, h3⟩ := hr
  exact absurd h3 (by omega)
 | F + 1, i, hr, hi, j => by
  have hs := sl_get (i := i) hp
  cases hb : slB c i with
  | true =>
   rw [op_o hb]
   rw [hb] at hs
   have hr' : n = 0 ∨ Rch c F (i + 1) (n - 1) := by
    rcases n with _ | n
    ·exact .inl rfl
    ·obtain ⟨F', e, h⟩ := hr.open ho hb
     have : F' = F := by omega
     exact .inr (this ▸ h)
   exact p67n hE [] [] (bbD c) 0 (i % c.length) i (n + 1) 0 (c.length) 0 zE 0 0 0 0 0 0 0 0 0 0 0 true [] [] (decide_eq_true (by simp)) (by have := hp; omega) rfl ⟨Int.natCast_nonneg _, by simp only [Int.ofNat_eq_natCast]; exact Int.ofNat_lt.2 (Nat.mod_lt _ hp)⟩ (Nat.mul_one _) (bb_get hs) (by first | rfl | omega | simp) (iIe (by (try simp only [Int.ofNat_eq_natCast]); rw [wrap_id (by omega) (by omega)]; try omega)) (l67 hE c ho hp (n + 1) hK F (i + 1) n hr' (by omega) [Int.ofNat i] (by simp; omega)) j
  | false =>
   rw [op_c hb]
   rw [hb] at hs
   obtain ⟨F', e, h⟩ := hr.closed hb
   have : F' = F := by omega
   exact p67k hE [] [] (bbD c) 0 (i % c.length) i (n + 1) 0 (c.length) 0 zE 0 0 0 0 0 0 0 0 0 0 0 false [] [] (decide_eq_true (by simp)) (by have := hp; omega) rfl ⟨Int.natCast_nonneg _, by simp only [Int.ofNat_eq_natCast]; exact Int.ofNat_lt.2 (Nat.mod_lt _ hp)⟩ (Nat.mul_one _) (bb_get hs) (by first | rfl | omega | simp) (iIe (by (try simp only [Int.ofNat_eq_natCast]); rw [wrap_id (by omega) (by omega)]; try omega)) (l67n hE c ho hp n hK F (i + 1) (this ▸ h) (by omega)) j
def opN (c : List Bool) (i n : Nat) : List Int := opW c (n * c.length) i n
theorem rch0 {c : List Bool} (ho : opE c = 0) (i n : Nat) : Rch c ((n + 1) * c.length) i n := by
 obtain ⟨d, h1, h2, h3⟩ := next_op ho i
 exact ⟨d, h2, h3, by rw [Nat.succ_mul]; omega⟩
def soE (c : List Bool) (x y : Int) : Int := firstI [cyE c, rgS x 0 999999999, rgS y 0 256, opE c]
def soW (c : List Bool) (x y : Int) : List Int := if soE c x y = 0 then opN c x.toNat y.toNat else []
theorem so_ok {c : List Bool} {x y : Int} (h : soE c x y = 0) : 0 < c.length ∧ c.length ≤ 16 ∧ opE c = 0 ∧ (∃ i : Nat, x = Int.ofNat i ∧ i ≤ 999999999) ∧ ∃ k : Nat, y = Int.ofNat k ∧ k ≤ 256 := by
 have h3 := cy_ok (firstI_zero h (cyE c) (by simp))
 have h4 := firstI_zero h (opE c) (by simp)
 have h1 := rgS_zero (firstI_zero h (rgS x 0 999999999) (by simp))
 have h2 := rgS_zero (firstI_zero h (rgS y 0 256) (by simp))
 exact ⟨h3.1, h3.2, h4, ⟨x.toNat, by simp only [Int.ofNat_eq_natCast]; omega, by omega⟩, y.toNat, by simp only [Int.ofNat_eq_natCast]; omega, by omega⟩
theorem fuel {c : List Bool} {k i : Nat} (hc : c.length ≤ 16) (hk : k ≤ 256) (hi : i ≤ 999999999) : i + k * c.length ≤ 1000000000000 := by
 have := Nat.mul_le_mul hk hc
 omega
theorem K57 (hE : EnvOk E) (c : List Bool) (x y : Int) (hcm : c.length ≤ 100000) : (soW c x y = [] ∧ COut E 0 [] 57 [dB c, iI x, iI y] (.tup [.one (.v (.slice none 0 0)), .one (.v (.int .i64 (soE c x y)))]) []) ∨ COut E 0 [] 57 [dB c, iI x, iI y] (.tup [.one (.slc 0 0 (soW c x y).length 1 (soW c x y).length false), .one (.v (.int .i64 (soE c x y)))]) [some ⟨iC (soW c x y), (soW c x y).length, 3, false, .cells⟩] := by
 have h108 := K108 hE y
 have h111 := K111 hE c
 have h112 := K112 hE c hcm
 have h79 := S79 hE x 0 999999999
 unfold soW
 by_cases h : soE c x y = 0
 ·rw [if_pos h, h]
  obtain ⟨hp, h16, ho, ⟨i, hi, hib⟩, k, hk, h256⟩ := so_ok h
  subst hi hk
  rw [show (Int.ofNat k).toNat = k from rfl, show (Int.ofNat i).toNat = i from rfl]
  have hst : ∀ {v : AV} {hout : Heap}, (∀ j, OutK E 0 0 (q57n [] [] (bbD c) 0 0 (i) k 0 (c.length) 0 zE 0 0 0 0 0 0 0 0 0 0 0 false [] [] j) (Go.Ev.Ends E Tryz.f57 v hout)) → COut E 0 [] 57 [dB c, iI (Int.ofNat i), iI (Int.ofNat k)] v hout := fun ho =>
   cOut_start Tryz.func57 rfl (p57a hE [] [] (bbD c) 0 0 i k 0 (c.length) 0 zE 0 0 0 0 0 0 (cyE c) (rgS (Int.ofNat i) 0 999999999) (soE c (Int.ofNat i) (Int.ofNat k)) (rgS (Int.ofNat k) 0 256) (opE c) false [] [] h111 h79 h108 h112 (C78s hE (l := [cyE c, rgS (Int.ofNat i) 0 999999999, rgS (Int.ofNat k) 0 256, opE c]) rfl rfl rfl) (by rw [h]; rfl) ho fun _ => undef)
  rcases k with _ | k
  ·rw [show opN c i 0 = [] from op_z]
   exact .inl ⟨rfl, hst (p57z hE [] [] (bbD c) 0 0 i 0 0 (c.length) 0 zE 0 0 0 0 0 0 0 0 0 0 0 false [] [] (by decide) (fun j => outK_ret (ends_ret (by kernel_rfl))))⟩
  ·exact .inr (hst (l57n hE c ho hp k h256 ((k + 1) * c.length) i (rch0 ho i k) (fuel h16 h256 hib)))
 ·rw [if_neg h]
  exact .inl ⟨rfl, (cOut_start Tryz.func57 rfl (p57e hE [] [] (bbD c) 0 0 0 0 0 (c.length) 0 zE 0 0 0 x y 0 (cyE c) (rgS x 0 999999999) (soE c x y) (rgS y 0 256) (opE c) false [] [] h111 h79 h108 h112 (C78s hE (l := [cyE c, rgS x 0 999999999, rgS y 0 256, opE c]) rfl rfl rfl) (bne_iff_ne.2 h) (fun j => outK_ret (ends_ret (by kernel_rfl))) fun _ => undef))⟩
theorem K67 (hE : EnvOk E) (c : List Bool) (hp : 0 < c.length) (h16 : c.length ≤ 16) (ho : opE c = 0) (i k : Nat) (hib : i ≤ 999999999) (h256 : k ≤ 256) : COut E 0 [] 67 [dB c, iI (Int.ofNat i), iI (Int.ofNat k)] (.e (.one (.dp (.s (iD (opN c i k)) (opN c i k).length 1)))) [] := by
 have hst : ∀ {v : AV} {hout : Heap}, (∀ j, OutK E 0 0 (q67n [] [] (bbD c) 0 0 (i) k 0 (c.length) 0 zE 0 0 0 0 0 0 0 0 0 0 0 false [] [] j) (Go.Ev.Ends E Tryz.f67 v hout)) → COut E 0 [] 67 [dB c, iI (Int.ofNat i), iI (Int.ofNat k)] v hout := fun ho =>
  cOut_start Tryz.func67 rfl (p67a hE [] [] (bbD c) 0 0 i k 0 (c.length) 0 zE 0 0 0 0 0 0 0 0 0 0 0 false [] [] ho fun _ => undef)
 rcases k with _ | k
 ·rw [show opN c i 0 = [] from op_z]
  exact one_wk (hst (p67z hE [] [] (bbD c) 0 0 i 0 0 (c.length) 0 zE 0 0 0 0 0 0 0 0 0 0 0 false [] [] (by decide) (fun j => outK_ret (ends_ret (by kernel_rfl)))))
 ·exact cOut_clear (cOut_freeze 0 (hst (l67n hE c ho hp k h256 ((k + 1) * c.length) i (rch0 ho i k) (fuel h16 h256 hib))) rfl (Nat.zero_le _) (ds := iD (opN c i (k + 1))) (frz3 (opN c i (k + 1)) 0)) rfl
end
end Go.Proofs.YtnhabbponbpmfaaGreatDoor
end

/-! SyW -/
section
namespace Go.Ev
open Go.RowKit
noncomputable section
variable {E : Env} {lvl K : Nat} {rd : Option Nat} {Φ : Res → Prop}
def WkC (x x' : AC) : Prop := x' = x ∨ ∃ b o len sz cap, x = .slc b o len sz cap true ∧ x' = .slc b o len sz cap false
theorem WkC.sound {m : M} {x x' : AC} {y : Value} (h : WkC x x') (hy : CR m x y) : CR m x' y := by
 rcases h with rfl | ⟨b, o, len, sz, cap, rfl, rfl⟩
 ·exact hy
 ·obtain ⟨hb, c, o', e, g0, g1, g2, g3, g4, _⟩ := hy
  exact ⟨hb, c, o', e, g0, g1, g2, g3, g4, fun h => by simp at h⟩
end
end Go.Ev
end

/-! SyV -/
section
namespace Go.Ev
open Go.RowKit
noncomputable section
variable {E : Env} {lvl K : Nat} {rd : Option Nat} {Φ : Res → Prop}
def WkT (p q : Nat × AV) : Prop := p.1 = q.1 ∧ ∀ (m : M) (y : Value), VR m p.2 y → VR m q.2 y
def WkO : Option AV → Option AV → Prop
 | none, none => True
 | some x, some x' => ∀ (m : M) (y : Value), VR m x y → VR m x' y
 | _, _ => False
theorem lookT_wk (i : Nat) : ∀ {l l' : List (Nat × AV)}, All2 WkT l l' → WkO (lookT l i) (lookT l' i)
 | [], [], _ => trivial
 | [], _ :: _, h => h.elim
 | _ :: _, [], h => h.elim
 | (a, x) :: l, (b, x') :: l', h => by
  obtain ⟨⟨h1, h2⟩, h3⟩ := h
  have h1 : a = b := h1
  subst h1
  have ih := lookT_wk i h3
  show WkO (if Nat.beq a i then some x else lookT l i) (if Nat.beq a i then some x' else lookT l' i)
  cases Nat.beq a i with
  | true => exact h2
  | false => exact ih
theorem mkT_wk (j : Nat → Value) {l l' : List (Nat × AV)} (h : All2 WkT l l') (m : M) : ∀ (n i : Nat) (ys : List Value), All2 (VR m) (mkT j l n i) ys → All2 (VR m) (mkT j l' n i) ys
 | 0, _, _, hy => hy
 | n + 1, i, [], hy => hy.elim
 | n + 1, i, y :: ys, hy => by
  obtain ⟨h1, h2⟩ := hy
  refine ⟨?_, mkT_wk j h m n (i + 1) ys h2⟩
  have hw := lookT_wk i h
  revert h1 hw
  cases lookT l i <;> cases lookT l' i <;> intro h1 hw
  ·exact h1
  ·exact hw.elim
  ·exact hw.elim
  ·exact hw m y h1
theorem outK_vk {h : Heap} {todo : List Item} {j : Nat → Value} {l l' : List (Nat × AV)} {n i : Nat} (hl : All2 WkT l l') (ho : OutK E lvl K ⟨h, todo, mkT j l' n i⟩ Φ rd) : OutK E lvl K ⟨h, todo, mkT j l n i⟩ Φ rd :=
 .before (s' := ⟨h, todo, mkT j l' n i⟩) (fun _fr t _cs w m _base hT H _G => ⟨t, w, m, .refl _ _, mkT_wk j hl m n i _ hT, H, .refl _ _, .refl _ _⟩) ho
end
end Go.Ev
end

/-! SyLd -/
section
namespace Go.Ev
open Go.RowKit
noncomputable section
variable {E : Env} {lvl : Nat}
theorem all2_plain {m m2 : M} : ∀ {l : List Value} {ys : List Value}, All2 (CR m) ((l.map DT.v).map DT.ac) ys → All2 (CR m2) ((l.map DT.v).map DT.ac) ys
 | [], [], _ => trivial
 | [], _ :: _, h => h.elim
 | _ :: _, [], h => h.elim
 | _x :: l, _y :: _ys, h => ⟨h.1, all2_plain (l := l) h.2⟩
theorem cOut_lendI {f : FuncId} {args args' : List AV} {W : List Value} {N el n : Nat} {fl ex : Bool} {q : Value} (h : Heap) (hc : COut E 0 [] f args' (.tup [.one (.slc 0 0 n 1 n ex), .one (.v q)]) [some ⟨(W.map DT.v).map DT.ac, N, el, fl, .cells⟩]) (hW : W.length = n) (ha : All2 (LendV h) args args') : COut E lvl h f args (.tup [.one (.dp (.s (W.map DT.v) n 1)), .one (.v q)]) h := by
 intro m base w argsC hA H G
 obtain ⟨F, h1, h2⟩ := lendTabs (base := base) h H.ent h.length (Nat.le_refl _)
 let mc : M := { n := 0, ρ := m.ρ, κ := m.κ, lo := 0, F := F ++ m.F }
 have Hc : HR mc w.heap.size 0 [] w := ⟨rfl, Nat.le_refl _, Nat.le_refl _, fun b a hb => by simp at hb, fun b _ hb => by simp at hb, fun b b' hb => by simp at hb, Nat.le_refl _, fun p hp => ⟨by
  rcases List.mem_append.1 hp with hp | hp
  ·exact h1 p hp
  ·exact (H.tab p hp).1, fun b a _ hb => by simp at hb⟩⟩
 have lc : ∀ x x' y, LendC h x x' → CR m x y → CR mc x' y := by
  intro x x' y hx hy
  rcases hx with ⟨rfl, hr⟩ | ⟨i, o, len, sz, cap, ex, r, ds, N, el, fl, rfl, rfl, hi, hr⟩
  ·exact CR.free (m1 := m) (m2 := mc) (fun p hp => List.mem_append_right _ hp) hr hy
  ·rw [getL_eq] at hi
   obtain ⟨c, fz, g1, g2⟩ := h2 i _ (List.getElem?_eq_some_iff.1 hi).1 hi rfl
   exact CR.rest (m2 := mc) (H.blk i _ hi rfl) g1 (fun p hp => List.mem_append_right _ hp) (List.mem_append_left _ g2) hr hy
 have lv : ∀ x y x', LendV h x x' → VR m x y → VR mc x' y := by
  intro x y x' hx hy
  match x, x', hx with
  | .e (.one x), .e (.one x'), hx => exact lc x x' y hx hy
  | .e (.agg l), .e (.agg l'), hx =>
   obtain ⟨cs, k1, k2⟩ := hy
   exact ⟨cs, k1, all2_map (R := CR m) (T := LendC h) (S := CR mc) (fun a b c' h0 h3 => lc a c' b h0 h3) (show All2 (LendC h) _ _ from hx) k2⟩
 have hA' : All2 (VR mc) args' argsC.toList := all2_map (R := VR m) (T := LendV h) (S := VR mc) (fun a b c' h0 h3 => lv a b c' h0 h3) ha hA
 refine (hc mc w.heap.size w argsC hA' Hc (G.up H.baseLe)).mono fun e w' ⟨y, hy, m1, hp⟩ => ?_
 have H1 := hp.heap
 have B := H1.blk 0 _ rfl rfl
 have hown : w.heap.size ≤ m1.ρ 0 := H1.own 0 (Nat.zero_le _) (Nat.succ_pos _)
 obtain ⟨b1, b2, c, fz, b3, b4, b5, b6, b7⟩ := id B
 let m2 : M := { n := m.n, ρ := m.ρ, κ := m.κ, lo := m.lo, F := (m1.ρ 0, c.toList) :: m.F }
 have hle : M.leG base m m2 := ⟨Nat.le_refl _, fun _ _ => rfl, fun _ _ => rfl, rfl, fun p hp => List.mem_cons_of_mem _ hp, fun p hp => by
  rcases List.mem_cons.1 hp with rfl | hp
  ·exact .inr (Nat.le_trans H.baseLe hown)
  ·exact .inl hp⟩
 have H' := H.world hp.below.size hp.below.block
 have H2 : HR m2 base lvl h w' := ⟨H'.n, H'.lvlLe, H'.baseLe, fun b a hb => (H'.ent b a hb).monoG hle (by rw [H'.n]; exact (List.getElem?_eq_some_iff.1 hb).1), H'.own, H'.inj, H'.lo, fun p hp' => by
  rcases List.mem_cons.1 hp' with rfl | hp'
  ·refine ⟨⟨c, el, fz, b3, rfl⟩, fun b a _ hab he => ?_⟩
   have hlt := (H.ent b a hab).lt
   have he : m.ρ b = m1.ρ 0 := he
   omega
  ·exact H'.tab p hp'⟩
 refine ⟨y, hy, m2, hle, ?_, H2, hp.below.mono H.baseLe⟩
 obtain ⟨cs, hcs, hval⟩ := hp.val
 refine ⟨cs, hcs, ?_⟩
 generalize cs.toList = l at hval
 match l, hval with
 | [y0, y1], ⟨g0, g1, _⟩ =>
  let m3 : M := { n := m1.n, ρ := m1.ρ, κ := m1.κ, lo := m1.lo, F := (m1.ρ 0, c.toList) :: m.F }
  have B3 : BR m3 w' 0 ⟨(W.map DT.v).map DT.ac, N, el, fl, .cells⟩ := ⟨b1, b2, c, fz, b3, b4, b5, b6, all2_plain b7⟩
  have hr : takeL (dropL (W.map DT.v) 0) (n * 1) = some (W.map DT.v) := by
   rw [takeL_eq, dropL_eq, List.drop_zero, if_pos (by rw [List.length_map, hW, Nat.mul_one]; exact Nat.le_refl _), List.take_of_length_le (by rw [List.length_map, hW, Nat.mul_one]; exact Nat.le_refl _)]
  have h0 : DV.R m2.F (.s (W.map DT.v) n 1) y0 := CR.rest (m := m3) (m2 := m2) B3 b3 (fun p hp => hp) (List.mem_cons_self ..) hr g0
  exact ⟨h0, g1, trivial⟩
end
end Go.Ev
end
