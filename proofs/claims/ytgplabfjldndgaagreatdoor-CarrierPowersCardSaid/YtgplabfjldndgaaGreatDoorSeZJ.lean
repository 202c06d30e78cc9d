/-
  Part of the proof: SePe, SeEqF, SePf.
-/
import Derived.Test.YtgplabfjldndgaaGreatDoorSeZI
import Derived.Stop.BytesEq

/-! SePe -/
section
open Go Go.Ev
namespace Go.Proofs.YtgplabfjldndgaaGreatDoor
noncomputable section
set_option maxRecDepth 100000
set_option maxHeartbeats 20000000


open Ieee
theorem R29zt (hE : EnvOk E) (z : Nat → Value) (ws : List Nat) (mm0 mm1 mm2 : Bool) (L : Int) (hc : ∀ b ∈ ws, chkW 1024 b = 0) (i : Nat) (h : 4 * i + 4 ≤ ws.length) (_hi : i ≤ 4096) (hv : vio mm0 mm1 mm2 L ws i = true) : RoundK E 0 (hB z asg29 bod29 ws mm0 mm1 mm2 L []) 5 [iI (Int.ofNat i), wiA ws i] (iB true) (hB z asg29 bod29 ws mm0 mm1 mm2 L [Int.ofNat i]) := by
  have kv := K94 hE (pw0 (ww ws (4 * i)) (ww ws (4 * i + 1)) (ww ws (4 * i + 2)) (ww ws (4 * i + 3))) (pw1 (ww ws (4 * i)) (ww ws (4 * i + 1)) (ww ws (4 * i + 2)) (ww ws (4 * i + 3))) (pw2 (ww ws (4 * i)) (ww ws (4 * i + 1)) (ww ws (4 * i + 2)) (ww ws (4 * i + 3))) L mm0 mm1 mm2
  rw [show viq mm0 mm1 mm2 L (pw0 (ww ws (4 * i)) (ww ws (4 * i + 1)) (ww ws (4 * i + 2)) (ww ws (4 * i + 3))) (pw1 (ww ws (4 * i)) (ww ws (4 * i + 1)) (ww ws (4 * i + 2)) (ww ws (4 * i + 3))) (pw2 (ww ws (4 * i)) (ww ws (4 * i + 1)) (ww ws (4 * i + 2)) (ww ws (4 * i + 3))) = _ from hv] at kv
  refine roundK_of (a := loopEnt .ready none (T29 z) #[23, 24] asg29 bod29) rfl rfl (by kernel_rfl) ?_
  have e : (⟨hB z asg29 bod29 ws mm0 mm1 mm2 L [], [.code asg29, .beginRound, .code bod29], setParams (#[23, 24] : Array Tmp).toList [iI (Int.ofNat i), wiA ws i] (T29 z)⟩ : St) = sR29z z (fDT ws) ws.length i 0 0 0 mm0 mm1 mm2 L [] [] (ww ws (4 * i)) (ww ws (4 * i + 1)) (ww ws (4 * i + 2)) (ww ws (4 * i + 3)) 0 0 0 false (fun _ => undef) := by kernel_rfl
  rw [e]
  refine pR29z hE z (fDT ws) ws.length i 0 0 0 mm0 mm1 mm2 L [] [] (ww ws (4 * i)) (ww ws (4 * i + 1)) (ww ws (4 * i + 2)) (ww ws (4 * i + 3)) 0 0 0 false (fun j => ?_) _
  refine outK_begin (a := loopEnt .ready none (T29 z) #[23, 24] asg29 bod29) rfl rfl rfl ?_
  exact pB29zt hE z (fDT ws) ws.length i 0 0 0 mm0 mm1 mm2 L [] [] (ww ws (4 * i)) (ww ws (4 * i + 1)) (ww ws (4 * i + 2)) (ww ws (4 * i + 3)) (pw0 (ww ws (4 * i)) (ww ws (4 * i + 1)) (ww ws (4 * i + 2)) (ww ws (4 * i + 3))) (pw1 (ww ws (4 * i)) (ww ws (4 * i + 1)) (ww ws (4 * i + 2)) (ww ws (4 * i + 3))) (pw2 (ww ws (4 * i)) (ww ws (4 * i + 1)) (ww ws (4 * i + 2)) (ww ws (4 * i + 3))) true (K93 hE (bnd hc (by omega)) (bnd hc (by omega)) (bnd hc (by omega)) (bnd hc (by omega))) kv rfl (fun j => outK_fell ⟨rfl, _, _, _, _, _, _, _, rfl, rfl, rfl, by kernel_rfl⟩) j
theorem R29zf (hE : EnvOk E) (z : Nat → Value) (ws : List Nat) (mm0 mm1 mm2 : Bool) (L : Int) (hc : ∀ b ∈ ws, chkW 1024 b = 0) (i : Nat) (h : 4 * i + 4 ≤ ws.length) (_hi : i ≤ 4096) (hv : vio mm0 mm1 mm2 L ws i = false) : RoundK E 0 (hB z asg29 bod29 ws mm0 mm1 mm2 L []) 5 [iI (Int.ofNat i), wiA ws i] (iB true) (hB z asg29 bod29 ws mm0 mm1 mm2 L []) := by
  have kv := K94 hE (pw0 (ww ws (4 * i)) (ww ws (4 * i + 1)) (ww ws (4 * i + 2)) (ww ws (4 * i + 3))) (pw1 (ww ws (4 * i)) (ww ws (4 * i + 1)) (ww ws (4 * i + 2)) (ww ws (4 * i + 3))) (pw2 (ww ws (4 * i)) (ww ws (4 * i + 1)) (ww ws (4 * i + 2)) (ww ws (4 * i + 3))) L mm0 mm1 mm2
  rw [show viq mm0 mm1 mm2 L (pw0 (ww ws (4 * i)) (ww ws (4 * i + 1)) (ww ws (4 * i + 2)) (ww ws (4 * i + 3))) (pw1 (ww ws (4 * i)) (ww ws (4 * i + 1)) (ww ws (4 * i + 2)) (ww ws (4 * i + 3))) (pw2 (ww ws (4 * i)) (ww ws (4 * i + 1)) (ww ws (4 * i + 2)) (ww ws (4 * i + 3))) = _ from hv] at kv
  refine roundK_of (a := loopEnt .ready none (T29 z) #[23, 24] asg29 bod29) rfl rfl (by kernel_rfl) ?_
  have e : (⟨hB z asg29 bod29 ws mm0 mm1 mm2 L [], [.code asg29, .beginRound, .code bod29], setParams (#[23, 24] : Array Tmp).toList [iI (Int.ofNat i), wiA ws i] (T29 z)⟩ : St) = sR29z z (fDT ws) ws.length i 0 0 0 mm0 mm1 mm2 L [] [] (ww ws (4 * i)) (ww ws (4 * i + 1)) (ww ws (4 * i + 2)) (ww ws (4 * i + 3)) 0 0 0 false (fun _ => undef) := by kernel_rfl
  rw [e]
  refine pR29z hE z (fDT ws) ws.length i 0 0 0 mm0 mm1 mm2 L [] [] (ww ws (4 * i)) (ww ws (4 * i + 1)) (ww ws (4 * i + 2)) (ww ws (4 * i + 3)) 0 0 0 false (fun j => ?_) _
  refine outK_begin (a := loopEnt .ready none (T29 z) #[23, 24] asg29 bod29) rfl rfl rfl ?_
  exact pB29zf hE z (fDT ws) ws.length i 0 0 0 mm0 mm1 mm2 L [] [] (ww ws (4 * i)) (ww ws (4 * i + 1)) (ww ws (4 * i + 2)) (ww ws (4 * i + 3)) (pw0 (ww ws (4 * i)) (ww ws (4 * i + 1)) (ww ws (4 * i + 2)) (ww ws (4 * i + 3))) (pw1 (ww ws (4 * i)) (ww ws (4 * i + 1)) (ww ws (4 * i + 2)) (ww ws (4 * i + 3))) (pw2 (ww ws (4 * i)) (ww ws (4 * i + 1)) (ww ws (4 * i + 2)) (ww ws (4 * i + 3))) false (K93 hE (bnd hc (by omega)) (bnd hc (by omega)) (bnd hc (by omega)) (bnd hc (by omega))) kv rfl (fun j => outK_fell ⟨rfl, _, _, _, _, _, _, _, rfl, rfl, rfl, by kernel_rfl⟩) j
theorem R29it (hE : EnvOk E) (z : Nat → Value) (ws : List Nat) (mm0 mm1 mm2 : Bool) (L : Int) (hc : ∀ b ∈ ws, chkW 1024 b = 0) (i : Nat) (h : 4 * i + 4 ≤ ws.length) (hi : i ≤ 4096) (x : Int) (l : List Int) (hl : l.length + 1 ≤ i) (hv : vio mm0 mm1 mm2 L ws i = true) : RoundK E 0 (hB z asg29 bod29 ws mm0 mm1 mm2 L (x :: l)) 5 [iI (Int.ofNat i), wiA ws i] (iB true) (tB z asg29 bod29 ws mm0 mm1 mm2 L x l (Int.ofNat i)) := by
  have kv := K94 hE (pw0 (ww ws (4 * i)) (ww ws (4 * i + 1)) (ww ws (4 * i + 2)) (ww ws (4 * i + 3))) (pw1 (ww ws (4 * i)) (ww ws (4 * i + 1)) (ww ws (4 * i + 2)) (ww ws (4 * i + 3))) (pw2 (ww ws (4 * i)) (ww ws (4 * i + 1)) (ww ws (4 * i + 2)) (ww ws (4 * i + 3))) L mm0 mm1 mm2
  rw [show viq mm0 mm1 mm2 L (pw0 (ww ws (4 * i)) (ww ws (4 * i + 1)) (ww ws (4 * i + 2)) (ww ws (4 * i + 3))) (pw1 (ww ws (4 * i)) (ww ws (4 * i + 1)) (ww ws (4 * i + 2)) (ww ws (4 * i + 3))) (pw2 (ww ws (4 * i)) (ww ws (4 * i + 1)) (ww ws (4 * i + 2)) (ww ws (4 * i + 3))) = _ from hv] at kv
  refine roundK_of (a := loopEnt .ready none (T29 z) #[23, 24] asg29 bod29) rfl rfl (by kernel_rfl) ?_
  have e : (⟨hB z asg29 bod29 ws mm0 mm1 mm2 L (x :: l), [.code asg29, .beginRound, .code bod29], setParams (#[23, 24] : Array Tmp).toList [iI (Int.ofNat i), wiA ws i] (T29 z)⟩ : St) = sR29i z (fDT ws) ws.length i (l.length + 1) (l.length + 1) 0 mm0 mm1 mm2 L (iC (x :: l)) [] (ww ws (4 * i)) (ww ws (4 * i + 1)) (ww ws (4 * i + 2)) (ww ws (4 * i + 3)) 0 0 0 false (fun _ => undef) := by kernel_rfl
  rw [e]
  refine pR29i hE z (fDT ws) ws.length i (l.length + 1) (l.length + 1) 0 mm0 mm1 mm2 L (iC (x :: l)) [] (ww ws (4 * i)) (ww ws (4 * i + 1)) (ww ws (4 * i + 2)) (ww ws (4 * i + 3)) 0 0 0 false (fun j => ?_) _
  refine outK_begin (a := loopEnt .ready none (T29 z) #[23, 24] asg29 bod29) rfl rfl rfl ?_
  exact pB29it hE z (fDT ws) ws.length i (l.length + 1) (l.length + 1) (l.length + 1 + 1) mm0 mm1 mm2 L (iC (x :: l)) (iC (x :: (l ++ [Int.ofNat i]))) (ww ws (4 * i)) (ww ws (4 * i + 1)) (ww ws (4 * i + 2)) (ww ws (4 * i + 3)) (pw0 (ww ws (4 * i)) (ww ws (4 * i + 1)) (ww ws (4 * i + 2)) (ww ws (4 * i + 3))) (pw1 (ww ws (4 * i)) (ww ws (4 * i + 1)) (ww ws (4 * i + 2)) (ww ws (4 * i + 3))) (pw2 (ww ws (4 * i)) (ww ws (4 * i + 1)) (ww ws (4 * i + 2)) (ww ws (4 * i + 3))) true (K93 hE (bnd hc (by omega)) (bnd hc (by omega)) (bnd hc (by omega)) (bnd hc (by omega))) kv rfl (by omega) (sm1 (by omega)) (Nat.mul_one _).symm (iC_app (x :: l) [Int.ofNat i]) (Nat.mul_one _) (flat_iC _) (fun j => outK_fell ⟨rfl, _, _, _, _, _, _, _, rfl, rfl, rfl, by kernel_rfl⟩) j
theorem R29if (hE : EnvOk E) (z : Nat → Value) (ws : List Nat) (mm0 mm1 mm2 : Bool) (L : Int) (hc : ∀ b ∈ ws, chkW 1024 b = 0) (i : Nat) (h : 4 * i + 4 ≤ ws.length) (_hi : i ≤ 4096) (x : Int) (l : List Int) (hv : vio mm0 mm1 mm2 L ws i = false) : RoundK E 0 (hB z asg29 bod29 ws mm0 mm1 mm2 L (x :: l)) 5 [iI (Int.ofNat i), wiA ws i] (iB true) (hB z asg29 bod29 ws mm0 mm1 mm2 L (x :: l)) := by
  have kv := K94 hE (pw0 (ww ws (4 * i)) (ww ws (4 * i + 1)) (ww ws (4 * i + 2)) (ww ws (4 * i + 3))) (pw1 (ww ws (4 * i)) (ww ws (4 * i + 1)) (ww ws (4 * i + 2)) (ww ws (4 * i + 3))) (pw2 (ww ws (4 * i)) (ww ws (4 * i + 1)) (ww ws (4 * i + 2)) (ww ws (4 * i + 3))) L mm0 mm1 mm2
  rw [show viq mm0 mm1 mm2 L (pw0 (ww ws (4 * i)) (ww ws (4 * i + 1)) (ww ws (4 * i + 2)) (ww ws (4 * i + 3))) (pw1 (ww ws (4 * i)) (ww ws (4 * i + 1)) (ww ws (4 * i + 2)) (ww ws (4 * i + 3))) (pw2 (ww ws (4 * i)) (ww ws (4 * i + 1)) (ww ws (4 * i + 2)) (ww ws (4 * i + 3))) = _ from hv] at kv
  refine roundK_of (a := loopEnt .ready none (T29 z) #[23, 24] asg29 bod29) rfl rfl (by kernel_rfl) ?_
  have e : (⟨hB z asg29 bod29 ws mm0 mm1 mm2 L (x :: l), [.code asg29, .beginRound, .code bod29], setParams (#[23, 24] : Array Tmp).toList [iI (Int.ofNat i), wiA ws i] (T29 z)⟩ : St) = sR29i z (fDT ws) ws.length i (l.length + 1) (l.length + 1) 0 mm0 mm1 mm2 L (iC (x :: l)) [] (ww ws (4 * i)) (ww ws (4 * i + 1)) (ww ws (4 * i + 2)) (ww ws (4 * i + 3)) 0 0 0 false (fun _ => undef) := by kernel_rfl
  rw [e]
  refine pR29i hE z (fDT ws) ws.length i (l.length + 1) (l.length + 1) 0 mm0 mm1 mm2 L (iC (x :: l)) [] (ww ws (4 * i)) (ww ws (4 * i + 1)) (ww ws (4 * i + 2)) (ww ws (4 * i + 3)) 0 0 0 false (fun j => ?_) _
  refine outK_begin (a := loopEnt .ready none (T29 z) #[23, 24] asg29 bod29) rfl rfl rfl ?_
  exact pB29if hE z (fDT ws) ws.length i (l.length + 1) (l.length + 1) 0 mm0 mm1 mm2 L (iC (x :: l)) [] (ww ws (4 * i)) (ww ws (4 * i + 1)) (ww ws (4 * i + 2)) (ww ws (4 * i + 3)) (pw0 (ww ws (4 * i)) (ww ws (4 * i + 1)) (ww ws (4 * i + 2)) (ww ws (4 * i + 3))) (pw1 (ww ws (4 * i)) (ww ws (4 * i + 1)) (ww ws (4 * i + 2)) (ww ws (4 * i + 3))) (pw2 (ww ws (4 * i)) (ww ws (4 * i + 1)) (ww ws (4 * i + 2)) (ww ws (4 * i + 3))) false (K93 hE (bnd hc (by omega)) (bnd hc (by omega)) (bnd hc (by omega)) (bnd hc (by omega))) kv rfl (flat_iC _) (fun j => outK_fell ⟨rfl, _, _, _, _, _, _, _, rfl, rfl, rfl, by kernel_rfl⟩) j
theorem HB29 (hE : EnvOk E) (z : Nat → Value) (ws : List Nat) (mm0 mm1 mm2 : Bool) (L : Int) (hc : ∀ b ∈ ws, chkW 1024 b = 0) (i : Nat) (h : 4 * i + 4 ≤ ws.length) (hi : i ≤ 4096) : HB z asg29 bod29 ws mm0 mm1 mm2 L i :=
  ⟨fun hv => ⟨R29zt hE z ws mm0 mm1 mm2 L hc i h hi hv, fun x l hl => R29it hE z ws mm0 mm1 mm2 L hc i h hi x l hl hv⟩, fun hv l => match l with
    | [] => R29zf hE z ws mm0 mm1 mm2 L hc i h hi hv
    | x :: l => R29if hE z ws mm0 mm1 mm2 L hc i h hi x l hv⟩
theorem chkQ_zero {ws : List Nat} (h : chkQ ws = 0) : ∃ k, ws.length = 4 * k ∧ k ≤ 1024 ∧ ∀ b ∈ ws, chkW 1024 b = 0 := by
  unfold chkQ at h
  rw [firstI2] at h
  unfold chkS at h
  by_cases h1 : 4096 < ws.length
  · simp [h1] at h
  · rw [if_neg h1] at h
    by_cases h2 : chkL ws = 0
    · rw [if_pos h2] at h
      by_cases h3 : ws.length % 4 = 0
      · exact ⟨ws.length / 4, by omega, by omega, chk_mem h2⟩
      · rw [if_pos h3] at h; omega
    · rw [if_neg h2] at h; exact (h2 h).elim
theorem K27e (hE : EnvOk E) (ws : List Nat) (hm : ws.length ≤ 4000000) (h : chkQ ws ≠ 0) : COut E 0 [] 27 [.e (.one (dF ws).ac)] (.tup [.one (.dp (.s [] 0 3)), .one (.v (.int .i64 (chkQ ws)))]) [] :=
  cOut_nil2 (p := none) (c := 0) 3 (cOut_start Tryz.func27 rfl (p27e hE _ _ _ (K91 hE ws hm) (by simpa using h) (fun j => outK_ret (ends_ret (by kernel_rfl))) fun _ => undef))
theorem K27 (hE : EnvOk E) (ws : List Nat) (k : Nat) (h0 : chkQ ws = 0) (hk : ws.length = 4 * k) (hs : k ≤ 1024) (hc : ∀ b ∈ ws, chkW 1024 b = 0) : COut E 0 [] 27 [.e (.one (dF ws).ac)] (.tup [.one (.dp (.s (iD (pwL ws k)) k 3)), .one (.v (.int .i64 0))]) [] := by
  have k91 := K91 hE ws (by omega)
  rw [h0] at k91
  by_cases hz : k = 0
  · subst hz
    have hc1 : COut E 0 [] 27 [.e (.one (dF ws).ac)] (.tup [.one (.v (.slice none 0 0)), .one (.v (.int .i64 0))]) [some ⟨[.v (.slice none 0 0)], 1, 45, true, .cells⟩, some ⟨[.dp (.s (fDT ws) ws.length 1)], 1, 42, true, .cells⟩, none] := by
      refine cOut_startM Tryz.func27 rfl (p27a hE (fDT ws) ws.length 0 k91 rfl (K92 hE _ _) trivial trivial (fun j => ?_) fun _ => undef)
      refine (?_ : OutK E 0 0 ⟨[some ⟨[.v (.slice none 0 0)], 1, 45, true, .cells⟩, some ⟨[.dp (.s (fDT ws) ws.length 1)], 1, 42, true, .cells⟩], .code (.rangeFunc (.tmp 14) #[15, 16] asg27 bod27) :: [.inBlock 0, .code (atC [1, 1, 1, 1] (bodyOf Tryz.f27))], T27 j⟩ _)
      refine outK_loop hE (g := 155) (v := .tup []) (h2 := nA j asg27 bod27 ws) (a := loopEnt .ready none (T27 j) #[15, 16] asg27 bod27) rfl Tryz.func155 rfl rfl (iA0 hE j asg27 bod27 ws hk) (by kernel_rfl) rfl (by intro h; cases h) ?_
      exact pE27z hE j (fDT ws) ws.length 0 0 0 0 false false false 0 [] [] 0 0 0 0 0 0 0 false (fun j => outK_ret ⟨rfl, by kernel_rfl, by kernel_rfl⟩) j

    exact cOut_clear (cOut_nil2 (p := none) (c := 0) 3 hc1) rfl
  · have hc1 : COut E 0 [] 27 [.e (.one (dF ws).ac)] (.tup [.one (.slc 3 0 k 3 k false), .one (.v (.int .i64 0))]) [some ⟨[.slc 3 0 k 3 k false], 1, 45, true, .cells⟩, some ⟨[.dp (.s (fDT ws) ws.length 1)], 1, 42, true, .cells⟩, none, some ⟨iC (pwL ws k), k * 3, 113, false, .cells⟩] := by
      refine cOut_startM Tryz.func27 rfl (p27a hE (fDT ws) ws.length 0 k91 rfl (K92 hE _ _) trivial trivial (fun j => ?_) fun _ => undef)
      refine (?_ : OutK E 0 0 ⟨[some ⟨[.v (.slice none 0 0)], 1, 45, true, .cells⟩, some ⟨[.dp (.s (fDT ws) ws.length 1)], 1, 42, true, .cells⟩], .code (.rangeFunc (.tmp 14) #[15, 16] asg27 bod27) :: [.inBlock 0, .code (atC [1, 1, 1, 1] (bodyOf Tryz.f27))], T27 j⟩ _)
      refine outK_loop hE (g := 155) (v := .tup []) (h2 := oA j asg27 bod27 ws k (pwL ws k) (k * 3)) (a := loopEnt .ready none (T27 j) #[15, 16] asg27 bod27) rfl Tryz.func155 rfl rfl (iA' hE j asg27 bod27 ws k hk (by omega) hs hc (R27z hE j ws hc (by omega)) (fun i h1 h2 => R27i hE j ws hc i (by omega) (by omega))) (by kernel_rfl) rfl (by intro h; cases h) ?_
      exact pE27i hE j (fDT ws) ws.length 0 k (k * 3) 0 false false false 0 (iC (pwL ws k)) [] 0 0 0 0 0 0 0 false (flat_iC _) (fun j => outK_ret ⟨rfl, by kernel_rfl, by kernel_rfl⟩) j

    exact cOut_clear (cOut_freeze 3 hc1 rfl (Nat.zero_le _) (ds := iD (pwL ws k)) ⟨.inr ⟨0, k, 3, k, false, iD (pwL ws k), rfl, rfl, by rw [takeL_eq, dropL_eq, List.drop_zero, if_pos (by simp [pwL_len]), List.take_of_length_le (by simp [pwL_len])]⟩, .inl rfl, trivial⟩) rfl
theorem lend2 (lv : Nat) (_hE : EnvOk E) (f : FuncId) (xs : List Int) (r : Int) (ty : Nat) (fl : Bool) (hc : COut E 0 [] f [dI xs] (iI r) []) (h : Heap) (i : Nat) (hh : getL h i = some (some ⟨(iD xs).map DT.ac, xs.length, ty, fl, .cells⟩)) : COut E lv h f [.e (.one (.slc i 0 xs.length 1 xs.length true))] (iI r) h :=
  cOut_lend h hc ⟨.inr ⟨i, 0, xs.length, 1, xs.length, true, iD xs, iD xs, xs.length, ty, fl, rfl, rfl, hh, by rw [takeL_eq, dropL_eq, List.drop_zero, if_pos (by simp), List.take_of_length_le (by simp)]⟩, trivial⟩ rfl rfl
/-- what Violations says of its arguments -/
def chkV (ws : List Nat) (L : Int) : Int := firstI [chkQ ws, rngI 0 17179869184 L]
theorem K29e (hE : EnvOk E) (ws : List Nat) (mm0 mm1 mm2 : Bool) (L : Int) (hm : ws.length ≤ 4000000) (h : chkV ws L ≠ 0) : COut E 0 [] 29 [.e (.one (dF ws).ac), .e (.agg [.v (.bool mm0), .v (.bool mm1), .v (.bool mm2)]), iI L] (.tup [.one (.dp (.s [] 0 1)), .one (.v (.int .i64 (chkV ws L)))]) [] :=
  cOut_nil2 (p := none) (c := 0) 1 (cOut_start Tryz.func29 rfl (p29e hE _ _ _ _ _ L _ _ _ (K91 hE ws hm) (K80 hE _ _ _) (lend2 3 hE 79 [chkQ ws, rngI 0 17179869184 L] _ 26 true (K79 hE _ (by simp)) [some ⟨[.v (.bool mm0), .v (.bool mm1), .v (.bool mm2)], 3, 43, true, .cells⟩, some ⟨[.v (.int .i64 L)], 1, 3, true, .cells⟩, some ⟨[.v (.int .i64 (chkQ ws)), .v (.int .i64 (rngI 0 17179869184 L))], 2, 26, true, .cells⟩] 2 rfl) (bne_iff_ne.2 h) (fun j => outK_ret (ends_ret (by kernel_rfl))) fun _ => undef))
theorem K29 (hE : EnvOk E) (ws : List Nat) (mm0 mm1 mm2 : Bool) (L : Int) (k : Nat) (h0 : chkV ws L = 0) (hk : ws.length = 4 * k) (hs : k ≤ 1024) (hc : ∀ b ∈ ws, chkW 1024 b = 0) : COut E 0 [] 29 [.e (.one (dF ws).ac), .e (.agg [.v (.bool mm0), .v (.bool mm1), .v (.bool mm2)]), iI L] (.tup [.one (.dp (.s (iD (vioL mm0 mm1 mm2 L ws k)) (vioL mm0 mm1 mm2 L ws k).length 1)), .one (.v (.int .i64 0))]) [] := by
  have k79 := lend2 3 hE 79 [chkQ ws, rngI 0 17179869184 L] _ 26 true (K79 hE _ (by simp)) [some ⟨[.v (.bool mm0), .v (.bool mm1), .v (.bool mm2)], 3, 43, true, .cells⟩, some ⟨[.v (.int .i64 L)], 1, 3, true, .cells⟩, some ⟨[.v (.int .i64 (chkQ ws)), .v (.int .i64 (rngI 0 17179869184 L))], 2, 26, true, .cells⟩] 2 rfl
  rw [show firstI [chkQ ws, rngI 0 17179869184 L] = 0 from h0] at k79
  have hBB := fun j => iB' hE j asg29 bod29 ws mm0 mm1 mm2 L k hk hs hc fun i hi => HB29 hE j ws mm0 mm1 mm2 L hc i (by omega) (by omega)
  revert hBB
  generalize vioL mm0 mm1 mm2 L ws k = l
  intro hBB
  cases l with
  | nil =>
    have hc1 : COut E 0 [] 29 [.e (.one (dF ws).ac), .e (.agg [.v (.bool mm0), .v (.bool mm1), .v (.bool mm2)]), iI L] (.tup [.one (.v (.slice none 0 0)), .one (.v (.int .i64 0))]) [some ⟨[.v (.bool mm0), .v (.bool mm1), .v (.bool mm2)], 3, 43, true, .cells⟩, some ⟨[.v (.int .i64 L)], 1, 3, true, .cells⟩, some ⟨[.v (.slice none 0 0)], 1, 25, true, .cells⟩, some ⟨[.dp (.s (fDT ws) ws.length 1)], 1, 42, true, .cells⟩, none] := by
      refine cOut_startM Tryz.func29 rfl (p29a hE (fDT ws) ws.length mm0 mm1 mm2 L (chkQ ws) (rngI 0 17179869184 L) 0 (K91 hE ws (by omega)) (K80 hE _ _ _) k79 rfl (K92 hE _ _) trivial trivial (fun j => ?_) fun _ => undef)
      refine (?_ : OutK E 0 0 ⟨[some ⟨[.v (.bool mm0), .v (.bool mm1), .v (.bool mm2)], 3, 43, true, .cells⟩, some ⟨[.v (.int .i64 L)], 1, 3, true, .cells⟩, some ⟨[.v (.slice none 0 0)], 1, 25, true, .cells⟩, some ⟨[.dp (.s (fDT ws) ws.length 1)], 1, 42, true, .cells⟩], .code (.rangeFunc (.tmp 22) #[23, 24] asg29 bod29) :: [.inBlock 0, .code (atC [1, 1, 1, 1] (bodyOf Tryz.f29))], T29 j⟩ _)
      refine outK_loop hE (g := 155) (v := .tup []) (h2 := hB j asg29 bod29 ws mm0 mm1 mm2 L []) (a := loopEnt .ready none (T29 j) #[23, 24] asg29 bod29) rfl Tryz.func155 rfl rfl (hBB j) (by kernel_rfl) rfl (by intro h; cases h) ?_
      exact pE29z hE j (fDT ws) ws.length 0 0 0 0 mm0 mm1 mm2 L [] [] 0 0 0 0 0 0 0 false (fun j => outK_ret ⟨rfl, by kernel_rfl, by kernel_rfl⟩) j

    exact cOut_clear (cOut_nil2 (p := none) (c := 0) 1 hc1) rfl
  | cons x l =>
    have hc1 : COut E 0 [] 29 [.e (.one (dF ws).ac), .e (.agg [.v (.bool mm0), .v (.bool mm1), .v (.bool mm2)]), iI L] (.tup [.one (.slc 5 0 (l.length + 1) 1 (l.length + 1) false), .one (.v (.int .i64 0))]) [some ⟨[.v (.bool mm0), .v (.bool mm1), .v (.bool mm2)], 3, 43, true, .cells⟩, some ⟨[.v (.int .i64 L)], 1, 3, true, .cells⟩, some ⟨[.slc 5 0 (l.length + 1) 1 (l.length + 1) false], 1, 25, true, .cells⟩, some ⟨[.dp (.s (fDT ws) ws.length 1)], 1, 42, true, .cells⟩, none, some ⟨iC (x :: l), l.length + 1, 3, false, .cells⟩] := by
      refine cOut_startM Tryz.func29 rfl (p29a hE (fDT ws) ws.length mm0 mm1 mm2 L (chkQ ws) (rngI 0 17179869184 L) 0 (K91 hE ws (by omega)) (K80 hE _ _ _) k79 rfl (K92 hE _ _) trivial trivial (fun j => ?_) fun _ => undef)
      refine (?_ : OutK E 0 0 ⟨[some ⟨[.v (.bool mm0), .v (.bool mm1), .v (.bool mm2)], 3, 43, true, .cells⟩, some ⟨[.v (.int .i64 L)], 1, 3, true, .cells⟩, some ⟨[.v (.slice none 0 0)], 1, 25, true, .cells⟩, some ⟨[.dp (.s (fDT ws) ws.length 1)], 1, 42, true, .cells⟩], .code (.rangeFunc (.tmp 22) #[23, 24] asg29 bod29) :: [.inBlock 0, .code (atC [1, 1, 1, 1] (bodyOf Tryz.f29))], T29 j⟩ _)
      refine outK_loop hE (g := 155) (v := .tup []) (h2 := hB j asg29 bod29 ws mm0 mm1 mm2 L (x :: l)) (a := loopEnt .ready none (T29 j) #[23, 24] asg29 bod29) rfl Tryz.func155 rfl rfl (hBB j) (by kernel_rfl) rfl (by intro h; cases h) ?_
      exact pE29i hE j (fDT ws) ws.length 0 (l.length + 1) (l.length + 1) 0 mm0 mm1 mm2 L (iC (x :: l)) [] 0 0 0 0 0 0 0 false (flat_iC _) (fun j => outK_ret ⟨rfl, by kernel_rfl, by kernel_rfl⟩) j

    exact cOut_clear (cOut_freeze 5 hc1 rfl (Nat.zero_le _) (ds := iD (x :: l)) ⟨.inr ⟨0, l.length + 1, 1, l.length + 1, false, iD (x :: l), rfl, rfl, by rw [takeL_eq, dropL_eq, List.drop_zero, if_pos (by simp), List.take_of_length_le (by simp)]⟩, .inl rfl, trivial⟩) rfl
end
end Go.Proofs.YtgplabfjldndgaaGreatDoor

end

/-! SeEqF -/
section
open Go Go.Ev Go.RowKit
namespace Go.Proofs.YtgplabfjldndgaaGreatDoor
noncomputable section
section
variable {P : Program} (w : World)
theorem run_equalIn_cells (d : Nat) (t e : TypeId) (n : Nat) {u : TypeDesc} (hag : isAggD u = false) (ht : P.underlying t = some (.array n e)) (he : P.underlying e = some u) (hsz : ∀ w, (sizeOf e).run P w = .ok 1 w)
    (xs ys : List Value) (hx : xs.length = n) (hy : ys.length = n) (q : Nat → Bool) (hq : ∀ i x y, xs[i]? = some x → ys[i]? = some y → (Op.equalIn (d + 1) e x y).run P w = .ok (q i) w) :
    (Op.equalIn (d + 2) t (.agg xs.toArray) (.agg ys.toArray)).run P w = .ok ((List.range n).all q) w := by
  rw [List.range_eq_range', Op.equalIn]
  simp only [Sem.run_bind, run_underlying ht, Result.andThen_ok, hsz, Std.Legacy.Range.forIn_eq_forIn_range', Std.Legacy.Range.size, Nat.sub_zero, Nat.add_sub_cancel, Nat.div_one]
  have hl : ∀ i ∈ List.range' 0 n 1, i < n := fun i hi => by simpa using (List.mem_range'_1.1 hi).2
  generalize List.range' 0 n 1 = l at hl ⊢
  induction l with
  | nil => simp
  | cons i l ih =>
    have hi : i < n := hl i (by simp)
    have gx : xs[i]? = some xs[i] := List.getElem?_eq_getElem (show i < xs.length by omega)
    have gy : ys[i]? = some ys[i] := List.getElem?_eq_getElem (show i < ys.length by omega)
    have part_one : ∀ (zs : List Value) (z : Value), zs[i]? = some z → (part e zs.toArray (i * 1)).run P w = .ok z w := by
      intro zs z hz
      have : (isAgg e).run P w = .ok false w := by
        simp only [isAgg, Sem.run_bind, run_underlying he, Result.andThen_ok]
        cases u <;> simp_all [isAggD]
      simp [part, this, hz]
    simp only [List.forIn_cons, Sem.run_bind, part_one xs _ gx, part_one ys _ gy, hq i _ _ gx gy, Result.andThen_ok, List.all_cons]
    cases hb : q i
    · simp
    · simp only [Bool.not_true, Bool.false_eq_true, if_false, Sem.run_pure, Result.andThen_ok, Bool.true_and]
      exact ih fun j hj => hl j (by simp [hj])
end
theorem cells_of {m : M} : ∀ {l : List Value} {cs : List Value}, All2 (CR m) (l.map AC.v) cs → cs = l
  | [], [], _ => rfl
  | [], _ :: _, h => h.elim
  | _ :: _, [], h => h.elim
  | x :: l, c :: cs, h => by
    obtain ⟨h1, h2⟩ := h
    rw [cells_of h2, show c = x from h1]
theorem some_of {α β : Type} {o : Option α} {f : α → β} {b : β} (h : o.map f = some b) : ∃ a, o = some a ∧ f a = b := by
  cases o with
  | none => simp at h
  | some a => exact ⟨a, rfl, by simpa using h⟩
theorem size1 {e : TypeId} (h : (Tryz.prog.info? e).map (·.size) = some 1) (w : World) : (sizeOf e).run Tryz.prog w = .ok 1 w := by
  obtain ⟨i, hi, hz⟩ := some_of h
  rw [Go.Ev.run_sizeOf hi w, hz]
theorem eqArr {t e n : Nat} {u : TypeDesc} (hag : isAggD u = false) (ht : Tryz.prog.underlying t = some (.array n e)) (he : Tryz.prog.underlying e = some u) (hsz : (Tryz.prog.info? e).map (·.size) = some 1)
    {xs ys : List Value} (hx : xs.length = n) (hy : ys.length = n) (q : Nat → Bool) (hq : ∀ (w : World) i x y, xs[i]? = some x → ys[i]? = some y → (Op.equalIn 9999 e x y).run Tryz.prog w = .ok (q i) w) : EqOk E t (xs.map AC.v) (ys.map AC.v) ((List.range n).all q) := by
  intro m c1 c2 w h1 h2
  have e1 : c1 = xs.toArray := by rw [← Array.toList_inj]; exact cells_of h1
  have e2 : c2 = ys.toArray := by rw [← Array.toList_inj]; exact cells_of h2
  subst e1 e2
  show (Op.equalIn 10000 t _ _).run Tryz.prog w = _
  exact run_equalIn_cells w 9998 t e n hag ht he (size1 hsz) xs ys hx hy q (hq w)
end
end Go.Proofs.YtgplabfjldndgaaGreatDoor

end

/-! SePf -/
section
open Go Go.Ev
namespace Go.Proofs.YtgplabfjldndgaaGreatDoor
noncomputable section
set_option maxRecDepth 100000
set_option maxHeartbeats 20000000
def s4 (C : List DT) (n : Nat) (m0 m1 m2 : Bool) (L _e1 _e2 _g _s : Int) (_P _V : List DT) (_p _v : Nat) (_j : Nat → Value) : St := startK Tryz.f4 [] [(.e (.one (.dp (.s C n 1)))), .e (.agg [.v (.bool m0), .v (.bool m1), .v (.bool m2)]), iI L]
def s17 (_C : List DT) (_n : Nat) (z a b _e _f : Int) (_j : Nat → Value) : St := startK Tryz.f17 [] [iI z, iI a, iI b]
def s66n (_C : List DT) (_n : Nat) (_z _a _b _e _f : Int) (_j : Nat → Value) : St := startK Tryz.f66 [] [(.e (.one (.dp (.s [] 0 1)))), (.e (.one (.v (.slice none 0 0))))]
def s35n (_C : List DT) (_n : Nat) (_z _a _b _e _f : Int) (_j : Nat → Value) : St := startK Tryz.f35 [] [(.e (.one (.dp (.s [] 0 3)))), (.e (.one (.v (.slice none 0 0))))]
def s21n (_C : List DT) (_n : Nat) (_z _a _b e _f : Int) (_j : Nat → Value) : St := startK Tryz.f21 [] [(.e (.one (.dp (.s [] 0 1)))), iI e, iI e, (.e (.one (.v (.slice none 0 0))))]
def s21 (C : List DT) (n : Nat) (_z _a _b _e _f : Int) (_j : Nat → Value) : St := startK Tryz.f21 [] [(.e (.one (.dp (.s C n 1)))), iI 0, iI 0, (.e (.one (.dp (.s C n 1))))]
def p17a_end (_C : List DT) (_n : Nat) (_z _a _b e _f : Int) (j : Nat → Value) : St := ⟨[], [(.code .ret)], mkT j [(6, (iI (e)))] 16 0⟩
theorem p17a (hE : EnvOk E) (C : List DT) (n : Nat) (z a b e f : Int) (h0 : (decide (z < a) == false : Bool) = (nat_lit 4, false).snd) (h1 : (decide (z < a) == false : Bool) = (nat_lit 5, false).snd) (h2 : (decide (z < a) == false : Bool) = (nat_lit 6, false).snd) (h3 : (decide (z < a) : Bool) = true) (h4 : COut E 0 [] 82 [(iB true), (iI 3)] (iI (e)) []) {Φ : Res → Prop} (ho : ∀ j, OutK E 0 0 (p17a_end C n z a b e f j) Φ) (j : Nat → Value) : OutK E 0 0 (s17 C n z a b e f j) Φ :=
  outK_seg hE (R0_ok hE) [.run 3, (.ops [(8, (.c0 (iI (e)))), (7, (.pk true))] [(4, false), (5, false), (6, false)])] [6] (s' := fun j => ⟨[], [(.code .ret)], mkT j [(6, (iI (e)))] 16 0⟩) (ps := [(decide (z < a) == false : Bool) = (nat_lit 4, false).snd, (decide (z < a) == false : Bool) = (nat_lit 5, false).snd, (decide (z < a) == false : Bool) = (nat_lit 6, false).snd, (decide (z < a) : Bool) = true, COut E 0 [] 82 [(iB true), (iI 3)] (iI (e)) [], ([] : List Nat) = []]) (fun j => by kernel_rfl) ⟨h0, h1, h2, h3, h4, rfl, trivial⟩
    ho
def p17b_end (_C : List DT) (_n : Nat) (_z _a _b e _f : Int) (j : Nat → Value) : St := ⟨[], [(.code .ret)], mkT j [(6, (iI (e)))] 16 0⟩
theorem p17b (hE : EnvOk E) (C : List DT) (n : Nat) (z a b e f : Int) (h0 : (decide (z < a) == false : Bool) = (nat_lit 4, true).snd) (h1 : (decide (z < a) == false : Bool) = (nat_lit 5, true).snd) (h2 : (decide (z < a) == false : Bool) = (nat_lit 6, true).snd) (h3 : (decide (z < a) : Bool) = false) (h4 : COut E 0 [] 82 [(iB (decide (z > b))), (iI 3)] (iI (e)) []) {Φ : Res → Prop} (ho : ∀ j, OutK E 0 0 (p17b_end C n z a b e f j) Φ) (j : Nat → Value) : OutK E 0 0 (s17 C n z a b e f j) Φ :=
  outK_seg hE (R0_ok hE) [.run 3, (.ops [(8, (.c0 (iI (e)))), (7, (.pk false))] [(4, true), (5, true), (6, true)])] [6] (s' := fun j => ⟨[], [(.code .ret)], mkT j [(6, (iI (e)))] 16 0⟩) (ps := [(decide (z < a) == false : Bool) = (nat_lit 4, true).snd, (decide (z < a) == false : Bool) = (nat_lit 5, true).snd, (decide (z < a) == false : Bool) = (nat_lit 6, true).snd, (decide (z < a) : Bool) = false, COut E 0 [] 82 [(iB (decide (z > b))), (iI 3)] (iI (e)) [], ([] : List Nat) = []]) (fun j => by kernel_rfl) ⟨h0, h1, h2, h3, h4, rfl, trivial⟩
    ho
def p66n_end (_C : List DT) (_n : Nat) (_z _a _b _e _f : Int) (j : Nat → Value) : St := ⟨[], [(.code .ret)], mkT j [(4, (iB true))] 26 0⟩
theorem p66n (hE : EnvOk E) (C : List DT) (n : Nat) (z a b e f : Int)  {Φ : Res → Prop} (ho : ∀ j, OutK E 0 0 (p66n_end C n z a b e f j) Φ) (j : Nat → Value) : OutK E 0 0 (s66n C n z a b e f j) Φ :=
  outK_seg hE (R0_ok hE) [.run 4, (.ops [(1, (.d .len))] []), .run 9, (.ops [(2, (.d .len))] []), .run 4] [4] (s' := fun j => ⟨[], [(.code .ret)], mkT j [(4, (iB true))] 26 0⟩) (ps := []) (fun j => by kernel_rfl) trivial
    ho
def p35n_end (_C : List DT) (_n : Nat) (_z _a _b _e _f : Int) (j : Nat → Value) : St := ⟨[], [(.code .ret)], mkT j [(4, (iB true))] 26 0⟩
theorem p35n (hE : EnvOk E) (C : List DT) (n : Nat) (z a b e f : Int)  {Φ : Res → Prop} (ho : ∀ j, OutK E 0 0 (p35n_end C n z a b e f j) Φ) (j : Nat → Value) : OutK E 0 0 (s35n C n z a b e f j) Φ :=
  outK_seg hE (R0_ok hE) [.run 4, (.ops [(1, (.d .len))] []), .run 9, (.ops [(2, (.d .len))] []), .run 4] [4] (s' := fun j => ⟨[], [(.code .ret)], mkT j [(4, (iB true))] 26 0⟩) (ps := []) (fun j => by kernel_rfl) trivial
    ho
def p21n_end (_C : List DT) (_n : Nat) (_z _a _b e _f : Int) (j : Nat → Value) : St := ⟨[], [(.code .ret)], mkT j [(8, (iB (e == e)))] 19 0⟩
theorem p21n (hE : EnvOk E) (C : List DT) (n : Nat) (z a b e f : Int) (h0 : (e != (0 : Int) : Bool) = true) (h1 : COut E 0 [] 66 [(.e (.one (.dp (.s [] 0 1)))), (.e (.one (.v (.slice none 0 0))))] (iB true) []) {Φ : Res → Prop} (ho : ∀ j, OutK E 0 0 (p21n_end C n z a b e f j) Φ) (j : Nat → Value) : OutK E 0 0 (s21n C n z a b e f j) Φ :=
  outK_seg hE (R0_ok hE) [.run 5, (.cond true), .run 2, (.ops [(2, (.c0 (iB true)))] [])] [8] (s' := fun j => ⟨[], [(.code .ret)], mkT j [(8, (iB (e == e)))] 19 0⟩) (ps := [(e != (0 : Int) : Bool) = true, COut E 0 [] 66 [(.e (.one (.dp (.s [] 0 1)))), (.e (.one (.v (.slice none 0 0))))] (iB true) [], ([] : List Nat) = []]) (fun j => by kernel_rfl) ⟨h0, h1, rfl, trivial⟩
    ho
def p21_end (_C : List DT) (_n : Nat) (_z _a _b _e _f : Int) (j : Nat → Value) : St := ⟨[], [(.code .ret)], mkT j [(8, (iB true))] 19 0⟩
theorem p21 (hE : EnvOk E) (C : List DT) (n : Nat) (z a b e f : Int) (h0 : COut E 0 [] 66 [(.e (.one (.dp (.s (C) (n) 1)))), (.e (.one (.dp (.s (C) (n) 1))))] (iB true) []) {Φ : Res → Prop} (ho : ∀ j, OutK E 0 0 (p21_end C n z a b e f j) Φ) (j : Nat → Value) : OutK E 0 0 (s21 C n z a b e f j) Φ :=
  outK_seg hE (R0_ok hE) [.run 8, (.ops [(2, (.c0 (iB true)))] [])] [8] (s' := fun j => ⟨[], [(.code .ret)], mkT j [(8, (iB true))] 19 0⟩) (ps := [COut E 0 [] 66 [(.e (.one (.dp (.s (C) (n) 1)))), (.e (.one (.dp (.s (C) (n) 1))))] (iB true) [], ([] : List Nat) = []]) (fun j => by kernel_rfl) ⟨h0, rfl, trivial⟩
    ho
def p4N_end (_C : List DT) (_n : Nat) (_m0 _m1 _m2 : Bool) (_L _e1 _e2 _g _s : Int) (_P : List DT) (_V : List DT) (_p _v : Nat) (j : Nat → Value) : St := ⟨[], [(.code .ret), (.code (atC [1, 1] (bodyOf Tryz.f4)))], mkT j [(6, (iB true))] 76 0⟩
theorem p4N (hE : EnvOk E) (C : List DT) (n : Nat) (m0 m1 m2 : Bool) (L e1 e2 g s : Int) (P : List DT) (V : List DT) (p v : Nat) (h0 : COut E 0 [] 26 [(.e (.one (.dp (.s (C) (n) 1))))] (iB false) []) (h2 : COut E 0 [] 13 [] (iB true) []) {Φ : Res → Prop} (ho : ∀ j, OutK E 0 0 (p4N_end C n m0 m1 m2 L e1 e2 g s P V p v j) Φ) (j : Nat → Value) : OutK E 0 0 (s4 C n m0 m1 m2 L e1 e2 g s P V p v j) Φ :=
  outK_seg hE (R0_ok hE) [.run 4, (.ops [(1, (.c0 (iB false)))] []), .run 2, (.ops [(0, (.c0 (iB true)))] [])] [6] (s' := fun j => ⟨[(.some ⟨[(.v (.bool (m0))), (.v (.bool (m1))), (.v (.bool (m2)))], 3, 43, true, .cells⟩)], [(.code .ret), (.code (atC [1, 1] (bodyOf Tryz.f4)))], mkT j [(6, (iB true))] 76 0⟩) (ps := [COut E 0 [] 26 [(.e (.one (.dp (.s (C) (n) 1))))] (iB false) [], ([] : List Nat) = [], COut E 0 [] 13 [] (iB true) [], ([] : List Nat) = []]) (fun j => by kernel_rfl) ⟨h0, rfl, h2, rfl, trivial⟩
    fun j => outK_gc [] (by decide) (by kernel_rfl) (by kernel_rfl) (by kernel_rfl) (ho j)
def p4A_end (_C : List DT) (_n : Nat) (_m0 _m1 _m2 : Bool) (_L _e1 _e2 _g _s : Int) (_P : List DT) (_V : List DT) (_p _v : Nat) (j : Nat → Value) : St := ⟨[], [(.code .ret)], mkT j [(6, (iB true))] 76 0⟩
theorem p4A (hE : EnvOk E) (C : List DT) (n : Nat) (m0 m1 m2 : Bool) (L e1 e2 g s : Int) (P : List DT) (V : List DT) (p v : Nat) (h0 : COut E 0 [] 26 [(.e (.one (.dp (.s (C) (n) 1))))] (iB true) []) (h2 : COut E 0 [] 28 [(.e (.one (.dp (.s (C) (n) 1))))] (.e (.one (.dp (.s (C) (n) 1)))) []) (h4 : COut E 0 [] 27 [(.e (.one (.dp (.s (C) (n) 1))))] (.tup [(.one (.dp (.s (P) (p) 3))), (.one (.v (.int .i64 (e1))))]) []) (h6 : COut E 0 [] 28 [(.e (.one (.dp (.s (C) (n) 1))))] (.e (.one (.dp (.s (C) (n) 1)))) []) (h10 : COut E 0 [] 29 [(.e (.one (.dp (.s (C) (n) 1)))), (.e (.agg [(.v (.bool (m0))), (.v (.bool (m1))), (.v (.bool (m2)))])), (iI (L))] (.tup [(.one (.dp (.s (V) (v) 1))), (.one (.v (.int .i64 (e2))))]) []) (h15 : COut E 0 [] 30 [(.e (.one (.dp (.s (C) (n) 1))))] (iI (e1)) []) (h17 : COut E 0 [] 17 [(iI (L)), (iI 0), (iI 17179869184)] (iI (g)) []) (h19 : COut E 2 [(.some ⟨[(.v (.bool (m0))), (.v (.bool (m1))), (.v (.bool (m2)))], 3, 43, true, .cells⟩), (.some ⟨[(.v (.int .i64 (e1))), (.v (.int .i64 (g)))], 2, 3, true, .cells⟩)] 15 [(.e (.one (.slc 1 0 2 1 2 true)))] (iI (e2)) [(.some ⟨[(.v (.bool (m0))), (.v (.bool (m1))), (.v (.bool (m2)))], 3, 43, true, .cells⟩), (.some ⟨[(.v (.int .i64 (e1))), (.v (.int .i64 (g)))], 2, 3, true, .cells⟩)]) (h21 : (e1 == (0 : Int) : Bool) = false) (h22 : (e2 == (0 : Int) : Bool) = false) (h23 : COut E 0 [] 28 [(.e (.one (.dp (.s (C) (n) 1))))] (.e (.one (.dp (.s (C) (n) 1)))) []) (h25 : COut E 0 [] 33 [(.e (.one (.dp (.s (C) (n) 1))))] (iI (s)) []) (h27 : COut E 0 [] 34 [(.e (.one (.dp (.s (C) (n) 1))))] (iI (s)) []) (h29 : ((s == s) == true : Bool) = (nat_lit 7, true).snd) (h30 : ((s == s) == true : Bool) = (nat_lit 8, true).snd) (h31 : ((s == s) == true : Bool) = (nat_lit 9, true).snd) (h32 : COut E 0 [] 35 [(.e (.one (.dp (.s (P) (p) 3)))), (.e (.one (.v (.slice none 0 0))))] (iB true) []) (h34 : (s == s : Bool) = true) (h35 : ((e1 == e1) == true : Bool) = (nat_lit 17, true).snd) (h36 : ((e1 == e1) == true : Bool) = (nat_lit 18, true).snd) (h37 : ((e1 == e1) == true : Bool) = (nat_lit 19, true).snd) (h38 : ((e1 == e1) == true : Bool) = (nat_lit 20, true).snd) (h39 : ((e1 == e1) == true : Bool) = (nat_lit 21, true).snd) (h40 : COut E 0 [] 21 [(.e (.one (.dp (.s (V) (v) 1)))), (iI (e2)), (iI (e2)), (.e (.one (.v (.slice none 0 0))))] (iB true) []) (h42 : (e1 == e1 : Bool) = true) (h43 : COut E 0 [] 13 [] (iB true) []) {Φ : Res → Prop} (ho : ∀ j, OutK E 0 0 (p4A_end C n m0 m1 m2 L e1 e2 g s P V p v j) Φ) (j : Nat → Value) : OutK E 0 0 (s4 C n m0 m1 m2 L e1 e2 g s P V p v j) Φ :=
  outK_seg hE (R0_ok hE) [.run 4, (.ops [(1, (.c0 (iB true)))] []), .run 3, (.ops [(1, (.c0 (.e (.one (.dp (.s (C) (n) 1)))))), (2, (.c0 (.tup [(.one (.dp (.s (P) (p) 3))), (.one (.v (.int .i64 (e1))))])))] []), .run 1, (.ops [(1, (.c0 (.e (.one (.dp (.s (C) (n) 1)))))), (4, (.c0 (.tup [(.one (.dp (.s (V) (v) 1))), (.one (.v (.int .i64 (e2))))])))] []), .run 1, (.ops [(1, (.c0 (iI (e1))))] []), .run 1, (.ops [(2, (.c0 (iI (g)))), (4, (.d (.c1 (iI (e2)))))] []), .run 7, (.cond false), .run 4, (.cond false), .run 2, (.ops [(1, (.c0 (.e (.one (.dp (.s (C) (n) 1)))))), (2, (.c0 (iI (s)))), (4, (.c0 (iI (s)))), (9, (.c0 (iB true))), (21, (.c0 (iB true))), (24, (.c0 (iB true))), (10, (.pk true)), (22, (.pk true))] [(7, true), (8, true), (9, true), (17, true), (18, true), (19, true), (20, true), (21, true)])] [6] (s' := fun j => ⟨[(.some ⟨[(.v (.bool (m0))), (.v (.bool (m1))), (.v (.bool (m2)))], 3, 43, true, .cells⟩), (.some ⟨[(.v (.int .i64 (e1))), (.v (.int .i64 (g)))], 2, 3, true, .cells⟩)], [(.code .ret)], mkT j [(6, (iB true))] 76 0⟩) (ps := [COut E 0 [] 26 [(.e (.one (.dp (.s (C) (n) 1))))] (iB true) [], ([] : List Nat) = [], COut E 0 [] 28 [(.e (.one (.dp (.s (C) (n) 1))))] (.e (.one (.dp (.s (C) (n) 1)))) [], ([] : List Nat) = [], COut E 0 [] 27 [(.e (.one (.dp (.s (C) (n) 1))))] (.tup [(.one (.dp (.s (P) (p) 3))), (.one (.v (.int .i64 (e1))))]) [], ([] : List Nat) = [], COut E 0 [] 28 [(.e (.one (.dp (.s (C) (n) 1))))] (.e (.one (.dp (.s (C) (n) 1)))) [], ([] : List Nat) = [], (true : Bool) = true, (true : Bool) = true, COut E 0 [] 29 [(.e (.one (.dp (.s (C) (n) 1)))), (.e (.agg [(.v (.bool (m0))), (.v (.bool (m1))), (.v (.bool (m2)))])), (iI (L))] (.tup [(.one (.dp (.s (V) (v) 1))), (.one (.v (.int .i64 (e2))))]) [], ([] : List Nat) = [], (true : Bool) = true, (true : Bool) = true, (true : Bool) = true, COut E 0 [] 30 [(.e (.one (.dp (.s (C) (n) 1))))] (iI (e1)) [], ([] : List Nat) = [], COut E 0 [] 17 [(iI (L)), (iI 0), (iI 17179869184)] (iI (g)) [], ([] : List Nat) = [], COut E 2 [(.some ⟨[(.v (.bool (m0))), (.v (.bool (m1))), (.v (.bool (m2)))], 3, 43, true, .cells⟩), (.some ⟨[(.v (.int .i64 (e1))), (.v (.int .i64 (g)))], 2, 3, true, .cells⟩)] 15 [(.e (.one (.slc 1 0 2 1 2 true)))] (iI (e2)) [(.some ⟨[(.v (.bool (m0))), (.v (.bool (m1))), (.v (.bool (m2)))], 3, 43, true, .cells⟩), (.some ⟨[(.v (.int .i64 (e1))), (.v (.int .i64 (g)))], 2, 3, true, .cells⟩)], ([] : List Nat) = [], (e1 == (0 : Int) : Bool) = false, (e2 == (0 : Int) : Bool) = false, COut E 0 [] 28 [(.e (.one (.dp (.s (C) (n) 1))))] (.e (.one (.dp (.s (C) (n) 1)))) [], ([] : List Nat) = [], COut E 0 [] 33 [(.e (.one (.dp (.s (C) (n) 1))))] (iI (s)) [], ([] : List Nat) = [], COut E 0 [] 34 [(.e (.one (.dp (.s (C) (n) 1))))] (iI (s)) [], ([] : List Nat) = [], ((s == s) == true : Bool) = (nat_lit 7, true).snd, ((s == s) == true : Bool) = (nat_lit 8, true).snd, ((s == s) == true : Bool) = (nat_lit 9, true).snd, COut E 0 [] 35 [(.e (.one (.dp (.s (P) (p) 3)))), (.e (.one (.v (.slice none 0 0))))] (iB true) [], ([] : List Nat) = [], (s == s : Bool) = true, ((e1 == e1) == true : Bool) = (nat_lit 17, true).snd, ((e1 == e1) == true : Bool) = (nat_lit 18, true).snd, ((e1 == e1) == true : Bool) = (nat_lit 19, true).snd, ((e1 == e1) == true : Bool) = (nat_lit 20, true).snd, ((e1 == e1) == true : Bool) = (nat_lit 21, true).snd, COut E 0 [] 21 [(.e (.one (.dp (.s (V) (v) 1)))), (iI (e2)), (iI (e2)), (.e (.one (.v (.slice none 0 0))))] (iB true) [], ([] : List Nat) = [], (e1 == e1 : Bool) = true, COut E 0 [] 13 [] (iB true) [], ([] : List Nat) = []]) (fun j => by kernel_rfl) ⟨h0, rfl, h2, rfl, h4, rfl, h6, rfl, rfl, rfl, h10, rfl, rfl, rfl, rfl, h15, rfl, h17, rfl, h19, rfl, h21, h22, h23, rfl, h25, rfl, h27, rfl, h29, h30, h31, h32, rfl, h34, h35, h36, h37, h38, h39, h40, rfl, h42, h43, rfl, trivial⟩
    fun j => outK_gc [] (by decide) (by kernel_rfl) (by kernel_rfl) (by kernel_rfl) (ho j)
def p4B_end (_C : List DT) (_n : Nat) (_m0 _m1 _m2 : Bool) (_L _e1 _e2 _g _s : Int) (_P : List DT) (_V : List DT) (_p _v : Nat) (j : Nat → Value) : St := ⟨[], [(.code .ret)], mkT j [(6, (iB true))] 76 0⟩
theorem p4B (hE : EnvOk E) (C : List DT) (n : Nat) (m0 m1 m2 : Bool) (L e1 e2 g s : Int) (P : List DT) (V : List DT) (p v : Nat) (h0 : COut E 0 [] 26 [(.e (.one (.dp (.s (C) (n) 1))))] (iB true) []) (h2 : COut E 0 [] 28 [(.e (.one (.dp (.s (C) (n) 1))))] (.e (.one (.dp (.s (C) (n) 1)))) []) (h4 : COut E 0 [] 27 [(.e (.one (.dp (.s (C) (n) 1))))] (.tup [(.one (.dp (.s (P) (p) 3))), (.one (.v (.int .i64 (e1))))]) []) (h6 : COut E 0 [] 28 [(.e (.one (.dp (.s (C) (n) 1))))] (.e (.one (.dp (.s (C) (n) 1)))) []) (h10 : COut E 0 [] 29 [(.e (.one (.dp (.s (C) (n) 1)))), (.e (.agg [(.v (.bool (m0))), (.v (.bool (m1))), (.v (.bool (m2)))])), (iI (L))] (.tup [(.one (.dp (.s (V) (v) 1))), (.one (.v (.int .i64 (e2))))]) []) (h15 : COut E 0 [] 30 [(.e (.one (.dp (.s (C) (n) 1))))] (iI (e1)) []) (h17 : COut E 0 [] 17 [(iI (L)), (iI 0), (iI 17179869184)] (iI (g)) []) (h19 : COut E 2 [(.some ⟨[(.v (.bool (m0))), (.v (.bool (m1))), (.v (.bool (m2)))], 3, 43, true, .cells⟩), (.some ⟨[(.v (.int .i64 (e1))), (.v (.int .i64 (g)))], 2, 3, true, .cells⟩)] 15 [(.e (.one (.slc 1 0 2 1 2 true)))] (iI (e2)) [(.some ⟨[(.v (.bool (m0))), (.v (.bool (m1))), (.v (.bool (m2)))], 3, 43, true, .cells⟩), (.some ⟨[(.v (.int .i64 (e1))), (.v (.int .i64 (g)))], 2, 3, true, .cells⟩)]) (h21 : (e1 == (0 : Int) : Bool) = true) (h22 : COut E 0 [] 31 [(.e (.one (.dp (.s (C) (n) 1))))] (.e (.one (.dp (.s (P) (p) 3)))) []) (h24 : (e2 == (0 : Int) : Bool) = false) (h25 : COut E 0 [] 28 [(.e (.one (.dp (.s (C) (n) 1))))] (.e (.one (.dp (.s (C) (n) 1)))) []) (h27 : COut E 0 [] 33 [(.e (.one (.dp (.s (C) (n) 1))))] (iI (s)) []) (h29 : COut E 0 [] 34 [(.e (.one (.dp (.s (C) (n) 1))))] (iI (s)) []) (h31 : ((s == s) == true : Bool) = (nat_lit 7, true).snd) (h32 : ((s == s) == true : Bool) = (nat_lit 8, true).snd) (h33 : ((s == s) == true : Bool) = (nat_lit 9, true).snd) (h34 : COut E 0 [] 35 [(.e (.one (.dp (.s (P) (p) 3)))), (.e (.one (.dp (.s (P) (p) 3))))] (iB true) []) (h36 : (s == s : Bool) = true) (h37 : ((e1 == e1) == true : Bool) = (nat_lit 17, true).snd) (h38 : ((e1 == e1) == true : Bool) = (nat_lit 18, true).snd) (h39 : ((e1 == e1) == true : Bool) = (nat_lit 19, true).snd) (h40 : ((e1 == e1) == true : Bool) = (nat_lit 20, true).snd) (h41 : ((e1 == e1) == true : Bool) = (nat_lit 21, true).snd) (h42 : COut E 0 [] 21 [(.e (.one (.dp (.s (V) (v) 1)))), (iI (e2)), (iI (e2)), (.e (.one (.v (.slice none 0 0))))] (iB true) []) (h44 : (e1 == e1 : Bool) = true) (h45 : COut E 0 [] 13 [] (iB true) []) {Φ : Res → Prop} (ho : ∀ j, OutK E 0 0 (p4B_end C n m0 m1 m2 L e1 e2 g s P V p v j) Φ) (j : Nat → Value) : OutK E 0 0 (s4 C n m0 m1 m2 L e1 e2 g s P V p v j) Φ :=
  outK_seg hE (R0_ok hE) [.run 4, (.ops [(1, (.c0 (iB true)))] []), .run 3, (.ops [(1, (.c0 (.e (.one (.dp (.s (C) (n) 1)))))), (2, (.c0 (.tup [(.one (.dp (.s (P) (p) 3))), (.one (.v (.int .i64 (e1))))])))] []), .run 1, (.ops [(1, (.c0 (.e (.one (.dp (.s (C) (n) 1)))))), (4, (.c0 (.tup [(.one (.dp (.s (V) (v) 1))), (.one (.v (.int .i64 (e2))))])))] []), .run 1, (.ops [(1, (.c0 (iI (e1))))] []), .run 1, (.ops [(2, (.c0 (iI (g)))), (4, (.d (.c1 (iI (e2)))))] []), .run 7, (.cond true), (.ops [(1, (.c0 (.e (.one (.dp (.s (P) (p) 3))))))] []), .run 3, (.cond false), .run 2, (.ops [(1, (.c0 (.e (.one (.dp (.s (C) (n) 1)))))), (2, (.c0 (iI (s)))), (4, (.c0 (iI (s)))), (9, (.c0 (iB true))), (21, (.c0 (iB true))), (24, (.c0 (iB true))), (10, (.pk true)), (22, (.pk true))] [(7, true), (8, true), (9, true), (17, true), (18, true), (19, true), (20, true), (21, true)])] [6] (s' := fun j => ⟨[(.some ⟨[(.v (.bool (m0))), (.v (.bool (m1))), (.v (.bool (m2)))], 3, 43, true, .cells⟩), (.some ⟨[(.v (.int .i64 (e1))), (.v (.int .i64 (g)))], 2, 3, true, .cells⟩)], [(.code .ret)], mkT j [(6, (iB true))] 76 0⟩) (ps := [COut E 0 [] 26 [(.e (.one (.dp (.s (C) (n) 1))))] (iB true) [], ([] : List Nat) = [], COut E 0 [] 28 [(.e (.one (.dp (.s (C) (n) 1))))] (.e (.one (.dp (.s (C) (n) 1)))) [], ([] : List Nat) = [], COut E 0 [] 27 [(.e (.one (.dp (.s (C) (n) 1))))] (.tup [(.one (.dp (.s (P) (p) 3))), (.one (.v (.int .i64 (e1))))]) [], ([] : List Nat) = [], COut E 0 [] 28 [(.e (.one (.dp (.s (C) (n) 1))))] (.e (.one (.dp (.s (C) (n) 1)))) [], ([] : List Nat) = [], (true : Bool) = true, (true : Bool) = true, COut E 0 [] 29 [(.e (.one (.dp (.s (C) (n) 1)))), (.e (.agg [(.v (.bool (m0))), (.v (.bool (m1))), (.v (.bool (m2)))])), (iI (L))] (.tup [(.one (.dp (.s (V) (v) 1))), (.one (.v (.int .i64 (e2))))]) [], ([] : List Nat) = [], (true : Bool) = true, (true : Bool) = true, (true : Bool) = true, COut E 0 [] 30 [(.e (.one (.dp (.s (C) (n) 1))))] (iI (e1)) [], ([] : List Nat) = [], COut E 0 [] 17 [(iI (L)), (iI 0), (iI 17179869184)] (iI (g)) [], ([] : List Nat) = [], COut E 2 [(.some ⟨[(.v (.bool (m0))), (.v (.bool (m1))), (.v (.bool (m2)))], 3, 43, true, .cells⟩), (.some ⟨[(.v (.int .i64 (e1))), (.v (.int .i64 (g)))], 2, 3, true, .cells⟩)] 15 [(.e (.one (.slc 1 0 2 1 2 true)))] (iI (e2)) [(.some ⟨[(.v (.bool (m0))), (.v (.bool (m1))), (.v (.bool (m2)))], 3, 43, true, .cells⟩), (.some ⟨[(.v (.int .i64 (e1))), (.v (.int .i64 (g)))], 2, 3, true, .cells⟩)], ([] : List Nat) = [], (e1 == (0 : Int) : Bool) = true, COut E 0 [] 31 [(.e (.one (.dp (.s (C) (n) 1))))] (.e (.one (.dp (.s (P) (p) 3)))) [], ([] : List Nat) = [], (e2 == (0 : Int) : Bool) = false, COut E 0 [] 28 [(.e (.one (.dp (.s (C) (n) 1))))] (.e (.one (.dp (.s (C) (n) 1)))) [], ([] : List Nat) = [], COut E 0 [] 33 [(.e (.one (.dp (.s (C) (n) 1))))] (iI (s)) [], ([] : List Nat) = [], COut E 0 [] 34 [(.e (.one (.dp (.s (C) (n) 1))))] (iI (s)) [], ([] : List Nat) = [], ((s == s) == true : Bool) = (nat_lit 7, true).snd, ((s == s) == true : Bool) = (nat_lit 8, true).snd, ((s == s) == true : Bool) = (nat_lit 9, true).snd, COut E 0 [] 35 [(.e (.one (.dp (.s (P) (p) 3)))), (.e (.one (.dp (.s (P) (p) 3))))] (iB true) [], ([] : List Nat) = [], (s == s : Bool) = true, ((e1 == e1) == true : Bool) = (nat_lit 17, true).snd, ((e1 == e1) == true : Bool) = (nat_lit 18, true).snd, ((e1 == e1) == true : Bool) = (nat_lit 19, true).snd, ((e1 == e1) == true : Bool) = (nat_lit 20, true).snd, ((e1 == e1) == true : Bool) = (nat_lit 21, true).snd, COut E 0 [] 21 [(.e (.one (.dp (.s (V) (v) 1)))), (iI (e2)), (iI (e2)), (.e (.one (.v (.slice none 0 0))))] (iB true) [], ([] : List Nat) = [], (e1 == e1 : Bool) = true, COut E 0 [] 13 [] (iB true) [], ([] : List Nat) = []]) (fun j => by kernel_rfl) ⟨h0, rfl, h2, rfl, h4, rfl, h6, rfl, rfl, rfl, h10, rfl, rfl, rfl, rfl, h15, rfl, h17, rfl, h19, rfl, h21, h22, rfl, h24, h25, rfl, h27, rfl, h29, rfl, h31, h32, h33, h34, rfl, h36, h37, h38, h39, h40, h41, h42, rfl, h44, h45, rfl, trivial⟩
    fun j => outK_gc [] (by decide) (by kernel_rfl) (by kernel_rfl) (by kernel_rfl) (ho j)
def p4C_end (_C : List DT) (_n : Nat) (_m0 _m1 _m2 : Bool) (_L _e1 _e2 _g _s : Int) (_P : List DT) (_V : List DT) (_p _v : Nat) (j : Nat → Value) : St := ⟨[], [(.code .ret)], mkT j [(6, (iB true))] 76 0⟩
theorem p4C (hE : EnvOk E) (C : List DT) (n : Nat) (m0 m1 m2 : Bool) (L e1 e2 g s : Int) (P : List DT) (V : List DT) (p v : Nat) (h0 : COut E 0 [] 26 [(.e (.one (.dp (.s (C) (n) 1))))] (iB true) []) (h2 : COut E 0 [] 28 [(.e (.one (.dp (.s (C) (n) 1))))] (.e (.one (.dp (.s (C) (n) 1)))) []) (h4 : COut E 0 [] 27 [(.e (.one (.dp (.s (C) (n) 1))))] (.tup [(.one (.dp (.s (P) (p) 3))), (.one (.v (.int .i64 (e1))))]) []) (h6 : COut E 0 [] 28 [(.e (.one (.dp (.s (C) (n) 1))))] (.e (.one (.dp (.s (C) (n) 1)))) []) (h10 : COut E 0 [] 29 [(.e (.one (.dp (.s (C) (n) 1)))), (.e (.agg [(.v (.bool (m0))), (.v (.bool (m1))), (.v (.bool (m2)))])), (iI (L))] (.tup [(.one (.dp (.s (V) (v) 1))), (.one (.v (.int .i64 (e2))))]) []) (h15 : COut E 0 [] 30 [(.e (.one (.dp (.s (C) (n) 1))))] (iI (e1)) []) (h17 : COut E 0 [] 17 [(iI (L)), (iI 0), (iI 17179869184)] (iI (g)) []) (h19 : COut E 2 [(.some ⟨[(.v (.bool (m0))), (.v (.bool (m1))), (.v (.bool (m2)))], 3, 43, true, .cells⟩), (.some ⟨[(.v (.int .i64 (e1))), (.v (.int .i64 (g)))], 2, 3, true, .cells⟩)] 15 [(.e (.one (.slc 1 0 2 1 2 true)))] (iI (e2)) [(.some ⟨[(.v (.bool (m0))), (.v (.bool (m1))), (.v (.bool (m2)))], 3, 43, true, .cells⟩), (.some ⟨[(.v (.int .i64 (e1))), (.v (.int .i64 (g)))], 2, 3, true, .cells⟩)]) (h21 : (e1 == (0 : Int) : Bool) = true) (h22 : COut E 0 [] 31 [(.e (.one (.dp (.s (C) (n) 1))))] (.e (.one (.dp (.s (P) (p) 3)))) []) (h24 : (e2 == (0 : Int) : Bool) = true) (h25 : COut E 0 [] 32 [(.e (.one (.dp (.s (C) (n) 1)))), (.e (.agg [(.v (.bool (m0))), (.v (.bool (m1))), (.v (.bool (m2)))])), (iI (L))] (.e (.one (.dp (.s (V) (v) 1)))) []) (h27 : COut E 0 [] 28 [(.e (.one (.dp (.s (C) (n) 1))))] (.e (.one (.dp (.s (C) (n) 1)))) []) (h29 : COut E 0 [] 33 [(.e (.one (.dp (.s (C) (n) 1))))] (iI (s)) []) (h31 : COut E 0 [] 34 [(.e (.one (.dp (.s (C) (n) 1))))] (iI (s)) []) (h33 : ((s == s) == true : Bool) = (nat_lit 7, true).snd) (h34 : ((s == s) == true : Bool) = (nat_lit 8, true).snd) (h35 : ((s == s) == true : Bool) = (nat_lit 9, true).snd) (h36 : COut E 0 [] 35 [(.e (.one (.dp (.s (P) (p) 3)))), (.e (.one (.dp (.s (P) (p) 3))))] (iB true) []) (h38 : (s == s : Bool) = true) (h39 : ((e1 == e1) == true : Bool) = (nat_lit 17, true).snd) (h40 : ((e1 == e1) == true : Bool) = (nat_lit 18, true).snd) (h41 : ((e1 == e1) == true : Bool) = (nat_lit 19, true).snd) (h42 : ((e1 == e1) == true : Bool) = (nat_lit 20, true).snd) (h43 : ((e1 == e1) == true : Bool) = (nat_lit 21, true).snd) (h44 : COut E 0 [] 21 [(.e (.one (.dp (.s (V) (v) 1)))), (iI (e2)), (iI (e2)), (.e (.one (.dp (.s (V) (v) 1))))] (iB true) []) (h46 : (e1 == e1 : Bool) = true) (h47 : COut E 0 [] 13 [] (iB true) []) {Φ : Res → Prop} (ho : ∀ j, OutK E 0 0 (p4C_end C n m0 m1 m2 L e1 e2 g s P V p v j) Φ) (j : Nat → Value) : OutK E 0 0 (s4 C n m0 m1 m2 L e1 e2 g s P V p v j) Φ :=
  outK_seg hE (R0_ok hE) [.run 4, (.ops [(1, (.c0 (iB true)))] []), .run 3, (.ops [(1, (.c0 (.e (.one (.dp (.s (C) (n) 1)))))), (2, (.c0 (.tup [(.one (.dp (.s (P) (p) 3))), (.one (.v (.int .i64 (e1))))])))] []), .run 1, (.ops [(1, (.c0 (.e (.one (.dp (.s (C) (n) 1)))))), (4, (.c0 (.tup [(.one (.dp (.s (V) (v) 1))), (.one (.v (.int .i64 (e2))))])))] []), .run 1, (.ops [(1, (.c0 (iI (e1))))] []), .run 1, (.ops [(2, (.c0 (iI (g)))), (4, (.d (.c1 (iI (e2)))))] []), .run 7, (.cond true), (.ops [(1, (.c0 (.e (.one (.dp (.s (P) (p) 3))))))] []), .run 3, (.cond true), (.ops [(3, (.c0 (.e (.one (.dp (.s (V) (v) 1))))))] []), .run 1, (.ops [(1, (.c0 (.e (.one (.dp (.s (C) (n) 1)))))), (2, (.c0 (iI (s)))), (4, (.c0 (iI (s)))), (9, (.c0 (iB true))), (21, (.c0 (iB true))), (24, (.c0 (iB true))), (10, (.pk true)), (22, (.pk true))] [(7, true), (8, true), (9, true), (17, true), (18, true), (19, true), (20, true), (21, true)])] [6] (s' := fun j => ⟨[(.some ⟨[(.v (.bool (m0))), (.v (.bool (m1))), (.v (.bool (m2)))], 3, 43, true, .cells⟩), (.some ⟨[(.v (.int .i64 (e1))), (.v (.int .i64 (g)))], 2, 3, true, .cells⟩)], [(.code .ret)], mkT j [(6, (iB true))] 76 0⟩) (ps := [COut E 0 [] 26 [(.e (.one (.dp (.s (C) (n) 1))))] (iB true) [], ([] : List Nat) = [], COut E 0 [] 28 [(.e (.one (.dp (.s (C) (n) 1))))] (.e (.one (.dp (.s (C) (n) 1)))) [], ([] : List Nat) = [], COut E 0 [] 27 [(.e (.one (.dp (.s (C) (n) 1))))] (.tup [(.one (.dp (.s (P) (p) 3))), (.one (.v (.int .i64 (e1))))]) [], ([] : List Nat) = [], COut E 0 [] 28 [(.e (.one (.dp (.s (C) (n) 1))))] (.e (.one (.dp (.s (C) (n) 1)))) [], ([] : List Nat) = [], (true : Bool) = true, (true : Bool) = true, COut E 0 [] 29 [(.e (.one (.dp (.s (C) (n) 1)))), (.e (.agg [(.v (.bool (m0))), (.v (.bool (m1))), (.v (.bool (m2)))])), (iI (L))] (.tup [(.one (.dp (.s (V) (v) 1))), (.one (.v (.int .i64 (e2))))]) [], ([] : List Nat) = [], (true : Bool) = true, (true : Bool) = true, (true : Bool) = true, COut E 0 [] 30 [(.e (.one (.dp (.s (C) (n) 1))))] (iI (e1)) [], ([] : List Nat) = [], COut E 0 [] 17 [(iI (L)), (iI 0), (iI 17179869184)] (iI (g)) [], ([] : List Nat) = [], COut E 2 [(.some ⟨[(.v (.bool (m0))), (.v (.bool (m1))), (.v (.bool (m2)))], 3, 43, true, .cells⟩), (.some ⟨[(.v (.int .i64 (e1))), (.v (.int .i64 (g)))], 2, 3, true, .cells⟩)] 15 [(.e (.one (.slc 1 0 2 1 2 true)))] (iI (e2)) [(.some ⟨[(.v (.bool (m0))), (.v (.bool (m1))), (.v (.bool (m2)))], 3, 43, true, .cells⟩), (.some ⟨[(.v (.int .i64 (e1))), (.v (.int .i64 (g)))], 2, 3, true, .cells⟩)], ([] : List Nat) = [], (e1 == (0 : Int) : Bool) = true, COut E 0 [] 31 [(.e (.one (.dp (.s (C) (n) 1))))] (.e (.one (.dp (.s (P) (p) 3)))) [], ([] : List Nat) = [], (e2 == (0 : Int) : Bool) = true, COut E 0 [] 32 [(.e (.one (.dp (.s (C) (n) 1)))), (.e (.agg [(.v (.bool (m0))), (.v (.bool (m1))), (.v (.bool (m2)))])), (iI (L))] (.e (.one (.dp (.s (V) (v) 1)))) [], ([] : List Nat) = [], COut E 0 [] 28 [(.e (.one (.dp (.s (C) (n) 1))))] (.e (.one (.dp (.s (C) (n) 1)))) [], ([] : List Nat) = [], COut E 0 [] 33 [(.e (.one (.dp (.s (C) (n) 1))))] (iI (s)) [], ([] : List Nat) = [], COut E 0 [] 34 [(.e (.one (.dp (.s (C) (n) 1))))] (iI (s)) [], ([] : List Nat) = [], ((s == s) == true : Bool) = (nat_lit 7, true).snd, ((s == s) == true : Bool) = (nat_lit 8, true).snd, ((s == s) == true : Bool) = (nat_lit 9, true).snd, COut E 0 [] 35 [(.e (.one (.dp (.s (P) (p) 3)))), (.e (.one (.dp (.s (P) (p) 3))))] (iB true) [], ([] : List Nat) = [], (s == s : Bool) = true, ((e1 == e1) == true : Bool) = (nat_lit 17, true).snd, ((e1 == e1) == true : Bool) = (nat_lit 18, true).snd, ((e1 == e1) == true : Bool) = (nat_lit 19, true).snd, ((e1 == e1) == true : Bool) = (nat_lit 20, true).snd, ((e1 == e1) == true : Bool) = (nat_lit 21, true).snd, COut E 0 [] 21 [(.e (.one (.dp (.s (V) (v) 1)))), (iI (e2)), (iI (e2)), (.e (.one (.dp (.s (V) (v) 1))))] (iB true) [], ([] : List Nat) = [], (e1 == e1 : Bool) = true, COut E 0 [] 13 [] (iB true) [], ([] : List Nat) = []]) (fun j => by kernel_rfl) ⟨h0, rfl, h2, rfl, h4, rfl, h6, rfl, rfl, rfl, h10, rfl, rfl, rfl, rfl, h15, rfl, h17, rfl, h19, rfl, h21, h22, rfl, h24, h25, rfl, h27, rfl, h29, rfl, h31, rfl, h33, h34, h35, h36, rfl, h38, h39, h40, h41, h42, h43, h44, rfl, h46, h47, rfl, trivial⟩
    fun j => outK_gc [] (by decide) (by kernel_rfl) (by kernel_rfl) (by kernel_rfl) (ho j)

open Ieee
theorem run_equalIn_int {P : Program} (w : World) (d : Nat) {e : TypeId} {k : IntKind} (he : P.underlying e = some (.int k)) (a : Int) : (Op.equalIn (d + 1) e (.int k a) (.int k a)).run P w = .ok true w := by
  simp [Op.equalIn, run_underlying he]
theorem eqI113 (x y u : Int) : EqOk E 113 [.v (.int .i64 x), .v (.int .i64 y), .v (.int .i64 u)] [.v (.int .i64 x), .v (.int .i64 y), .v (.int .i64 u)] true :=
  eqArr (t := 113) (e := 3) (n := 3) (u := .int .i64) rfl (by kernel_rfl) (by kernel_rfl) (by kernel_rfl) (xs := [.int .i64 x, .int .i64 y, .int .i64 u]) (ys := [.int .i64 x, .int .i64 y, .int .i64 u]) rfl rfl (fun _ => true) (fun w i a b ha hb => by
    rw [show (9999 : Nat) = 9998 + 1 from rfl]
    have hab : a = b := by rw [ha] at hb; exact Option.some.inj hb
    subst hab
    have : ∃ z, a = .int .i64 z := by
      match i, ha with
      | 0, ha => simp at ha; exact ⟨_, ha.symm⟩
      | 1, ha => simp at ha; exact ⟨_, ha.symm⟩
      | 2, ha => simp at ha; exact ⟨_, ha.symm⟩
      | i + 3, ha => simp at ha
    obtain ⟨z, rfl⟩ := this
    exact run_equalIn_int w 9998 (by kernel_rfl) z)
theorem K26 (hE : EnvOk E) (C : List DT) (n : Nat) : COut E 0 [] 26 [.e (.one (.dp (.s C n 1)))] (iB (decide (n ≤ 160) || decide (n = 4097))) [] := by
  by_cases h : n ≤ 160
  · have h1 : decide ((n : Int) ≤ 160) = true := decide_eq_true (by omega)
    rw [decide_eq_true h, Bool.true_or]
    exact cOut_start Tryz.func26 rfl (p26a hE C n (by rw [h1]; rfl) (by rw [h1]; rfl) (by rw [h1]; rfl) h1 (fun j => outK_ret (ends_ret (by kernel_rfl))) fun _ => undef)
  · have h1 : decide ((n : Int) ≤ 160) = false := decide_eq_false (by omega)
    have e : ((n : Int) == 4097) = (decide (n ≤ 160) || decide (n = 4097)) := by
      rw [decide_eq_false h, Bool.false_or]
      by_cases h2 : n = 4097
      · subst h2; rfl
      · rw [decide_eq_false h2]; simp; omega
    rw [← e]
    exact cOut_start Tryz.func26 rfl (p26b hE C n (by rw [h1]; rfl) (by rw [h1]; rfl) (by rw [h1]; rfl) h1 (fun j => outK_ret (ends_ret (by kernel_rfl))) fun _ => undef)
/-- floats: a copy of a list -/
theorem K28 (hE : EnvOk E) (ws : List Nat) (hm : ws.length ≤ 1000000) : COut E 0 [] 28 [.e (.one (dF ws).ac)] (.e (.one (dF ws).ac)) [] := by
  have hfl : FlatC ((fDT ws).map DT.ac) := by
    intro c hc
    simp only [List.map_map, List.mem_map] at hc
    obtain ⟨x, _, rfl⟩ := hc
    exact ⟨_, rfl⟩
  have h1 : ((fDT ws).map DT.ac).all AC.isOne = true := by simp [List.all_map, DT.ac, AC.isOne]
  have hc1 : COut E 0 [] 28 [.e (.one (dF ws).ac)] (.e (.one (.slc 0 0 ws.length 1 ws.length (decide (ws.length = 0))))) [some ⟨(fDT ws).map DT.ac, ws.length, 23, decide (ws.length = 0), .cells⟩] := by
    refine cOut_start Tryz.func28 rfl (p28 hE (fDT ws) ws.length ((fDT ws).map DT.ac) (decide (ws.length = 0)) ?_ (Nat.mul_one _) hfl (fun j => outK_ret (ends_ret (by kernel_rfl))) fun _ => undef)
    by_cases h0 : ws.length = 0
    · exact .inl ⟨decide_eq_true h0, h0, by simp [List.eq_nil_of_length_eq_zero h0], _, _, by rw [h0]⟩
    · exact .inr (.inl ⟨decide_eq_false h0, by omega, by simp [small]; omega, h1, _, rfl, rfl, by simp⟩)
  exact cOut_clear (cOut_freeze 0 hc1 rfl (Nat.zero_le _) (ds := fDT ws) (.inr ⟨0, ws.length, 1, ws.length, _, fDT ws, rfl, rfl, by rw [takeL_eq, dropL_eq, List.drop_zero, if_pos (by simp), List.take_of_length_le (by simp)]⟩)) rfl
theorem K17 (hE : EnvOk E) (z a b : Int) : COut E 0 [] 17 [iI z, iI a, iI b] (iI (rngI a b z)) [] := by
  by_cases h : z < a
  · have e : rngI a b z = 3 := by simp [rngI, h]
    have h1 : decide (z < a) = true := decide_eq_true h
    rw [e]
    exact cOut_start Tryz.func17 rfl (p17a hE [] 0 z a b 3 0 (by rw [h1]; rfl) (by rw [h1]; rfl) (by rw [h1]; rfl) h1 (k60 hE true 3) (fun j => outK_ret (ends_ret (by kernel_rfl))) fun _ => undef)
  · have h1 : decide (z < a) = false := decide_eq_false h
    have h2 := k60 hE (decide (z > b)) 3
    have e : rngI a b z = if decide (z > b) = true then 3 else 0 := by
      unfold rngI
      by_cases g : b < z
      · rw [if_pos (.inr g), if_pos (decide_eq_true g)]
      · rw [if_neg (by omega), if_neg (by simp; omega)]
    rw [e]
    exact cOut_start Tryz.func17 rfl (p17b hE [] 0 z a b _ 0 (by rw [h1]; rfl) (by rw [h1]; rfl) (by rw [h1]; rfl) h1 h2 (fun j => outK_ret (ends_ret (by kernel_rfl))) fun _ => undef)
theorem row3 (l : List Int) (n i : Nat) (hl : l.length = n * 3) (hi : i < n) : ∃ x y u, takeL (dropL (iD l) (i.mul 3)) 3 = some [.v (.int .i64 x), .v (.int .i64 y), .v (.int .i64 u)] := by
  have hlt : i * 3 + 3 ≤ l.length := by rw [hl, ← Nat.succ_mul]; exact Nat.mul_le_mul_right 3 hi
  refine ⟨l[i * 3], l[i * 3 + 1], l[i * 3 + 2], ?_⟩
  show takeL (dropL (iD l) (i * 3)) 3 = _
  rw [takeL_eq, dropL_eq, ← List.map_drop, List.drop_eq_getElem_cons (by omega), List.drop_eq_getElem_cons (by omega), List.drop_eq_getElem_cons (by omega), if_pos (by simp only [List.map_cons, List.length_cons]; omega)]
  rfl
theorem l35 (hE : EnvOk E) (l : List Int) (n : Nat) (hl : l.length = n * 3) (hm : n ≤ 4000000) :
    ∀ m i, m + i = n → ∀ j, OutK E 0 0 (q35 (iD l) n i 0 0 0 j) (Go.Ev.Ends E Tryz.f35 (iB true) [])
  | 0, i, hk, j => p35x hE _ _ i 0 0 0 (decide_eq_false (by simp only [Int.ofNat_eq_natCast]; omega)) (fun j => outK_ret (ends_ret (by kernel_rfl))) j
  | m + 1, i, hk, j => by
    obtain ⟨x, y, u, ht⟩ := row3 l n i hl (by omega)
    have hb : (0 : Int) ≤ Int.ofNat i ∧ Int.ofNat i < (n : Int) := by simp only [Int.ofNat_eq_natCast]; omega
    exact p35s hE _ n i x y u (decide_eq_true hb.2) hb rfl ht hb rfl ht (eqI113 x y u) (iIn i (by omega)) (l35 hE l n hl hm m (i + 1) (by omega)) j
theorem K35 (hE : EnvOk E) (l : List Int) (n : Nat) (hl : l.length = n * 3) (hm : n ≤ 4000000) : COut E 0 [] 35 [.e (.one (.dp (.s (iD l) n 3))), .e (.one (.dp (.s (iD l) n 3)))] (iB true) [] :=
  cOut_start Tryz.func35 rfl (p35a hE _ n 0 0 0 0 (by simp) (l35 hE l n hl hm n 0 (by omega)) fun _ => undef)
theorem K35n (hE : EnvOk E) : COut E 0 [] 35 [.e (.one (.dp (.s [] 0 3))), .e (.one (.v (.slice none 0 0)))] (iB true) [] :=
  cOut_start Tryz.func35 rfl (p35n hE [] 0 0 0 0 0 0 (fun j => outK_ret (ends_ret (by kernel_rfl))) fun _ => undef)
theorem K66n (hE : EnvOk E) : COut E 0 [] 66 [.e (.one (.dp (.s [] 0 1))), .e (.one (.v (.slice none 0 0)))] (iB true) [] :=
  cOut_start Tryz.func66 rfl (p66n hE [] 0 0 0 0 0 0 (fun j => outK_ret (ends_ret (by kernel_rfl))) fun _ => undef)
theorem K21n (hE : EnvOk E) {e : Int} (h : e ≠ 0) : COut E 0 [] 21 [.e (.one (.dp (.s [] 0 1))), iI e, iI e, .e (.one (.v (.slice none 0 0)))] (iB true) [] := by
  have h1 : (e == e) = true := by simp
  have hc := cOut_start Tryz.func21 rfl (v := iB (e == e)) (hout := []) (p21n hE [] 0 0 0 0 e 0 (bne_iff_ne.2 h) (K66n hE) (fun j => outK_ret (ends_ret (by kernel_rfl))) fun _ => undef)
  rw [h1] at hc
  exact hc
theorem K21 (hE : EnvOk E) (xs : List Int) (hm : xs.length ≤ 4000000) : COut E 0 [] 21 [dI xs, iI 0, iI 0, dI xs] (iB true) [] :=
  cOut_start Tryz.func21 rfl (p21 hE _ _ 0 0 0 0 0 (K66 hE xs hm) (fun j => outK_ret (ends_ret (by kernel_rfl))) fun _ => undef)
theorem vioL_len (m0 m1 m2 : Bool) (L : Int) (ws : List Nat) : ∀ k, (vioL m0 m1 m2 L ws k).length ≤ k
  | 0 => Nat.le_refl _
  | k + 1 => by
    have := vioL_len m0 m1 m2 L ws k
    simp only [vioL]
    cases vio m0 m1 m2 L ws k <;> simp <;> omega
/-- The law's run. -/
theorem powRun (hE : EnvOk E) (hA : COut E 0 [] 13 [] (iB true) []) (ws : List Nat) (m0 m1 m2 : Bool) (L : Int) : COut E 0 [] 4 [.e (.one (dF ws).ac), .e (.agg [.v (.bool m0), .v (.bool m1), .v (.bool m2)]), iI L] (iB true) [] := by
  have h26 := K26 hE (fDT ws) ws.length
  by_cases hs : ws.length ≤ 160 ∨ ws.length = 4097
  · have e26 : (decide (ws.length ≤ 160) || decide (ws.length = 4097)) = true := by simpa using hs
    rw [e26] at h26
    have hm : ws.length ≤ 4000000 := by omega
    have h28 := K28 hE ws (by omega)
    have h15 := fun (h : Heap) (hh : getL h 1 = _) => lend2 2 hE 15 [chkQ ws, rngI 0 17179869184 L] _ 3 true (K15 hE _ (by simp)) h 1 hh
    have se : ((chkS ws == chkS ws) == true) = true := by simp
    have se2 : (chkS ws == chkS ws) = true := by simp
    by_cases hq : chkQ ws = 0
    · obtain ⟨k, hk, hks, hc⟩ := chkQ_zero hq
      have h27 := K27 hE ws k hq hk hks hc
      have h30 := K30 hE ws hm
      rw [hq] at h30
      by_cases hv : chkV ws L = 0
      · have h29 := K29 hE ws m0 m1 m2 L k hv hk hks hc
        have h15b := fun (h : Heap) (hh : getL h 1 = _) => h15 h hh
        rw [show firstI [chkQ ws, rngI 0 17179869184 L] = 0 from hv, hq] at h15b
        exact cOut_clear (cOut_start Tryz.func4 rfl (p4C hE (fDT ws) ws.length m0 m1 m2 L 0 0 _ (chkS ws) _ _ k _ h26 h28 h27 h28 h29 h30 (K17 hE _ _ _) (h15b _ rfl) rfl (K31 hE ws k hk hks hc) rfl (K32 hE ws m0 m1 m2 L k hk hks hc) h28 (K33 hE ws hm) (K34 hE ws hm) se se se (K35 hE _ k (pwL_len ws k) (by omega)) se2 rfl rfl rfl rfl rfl (K21 hE _ (by have := vioL_len m0 m1 m2 L ws k; omega)) rfl hA (fun j => outK_ret (ends_ret (by kernel_rfl))) fun _ => undef)) rfl
      · have h29 := K29e hE ws m0 m1 m2 L hm hv
        have h15b := fun (h : Heap) (hh : getL h 1 = _) => h15 h hh
        rw [show firstI [chkQ ws, rngI 0 17179869184 L] = chkV ws L from rfl, hq] at h15b
        exact cOut_clear (cOut_start Tryz.func4 rfl (p4B hE (fDT ws) ws.length m0 m1 m2 L 0 _ _ (chkS ws) _ _ k _ h26 h28 h27 h28 h29 h30 (K17 hE _ _ _) (h15b _ rfl) rfl (K31 hE ws k hk hks hc) (beq_eq_false_iff_ne.2 hv) h28 (K33 hE ws hm) (K34 hE ws hm) se se se (K35 hE _ k (pwL_len ws k) (by omega)) se2 rfl rfl rfl rfl rfl (K21n hE hv) rfl hA (fun j => outK_ret (ends_ret (by kernel_rfl))) fun _ => undef)) rfl
    · have hv : chkV ws L ≠ 0 := by unfold chkV; rw [firstI2, if_neg hq]; exact hq
      have h27 := K27e hE ws hm hq
      have h29 := K29e hE ws m0 m1 m2 L hm hv
      have qe : ((chkQ ws == chkQ ws) == true) = true := by simp
      have qe2 : (chkQ ws == chkQ ws) = true := by simp
      exact cOut_clear (cOut_start Tryz.func4 rfl (p4A hE (fDT ws) ws.length m0 m1 m2 L _ _ _ (chkS ws) _ _ 0 _ h26 h28 h27 h28 h29 (K30 hE ws hm) (K17 hE _ _ _) (h15 _ rfl) (beq_eq_false_iff_ne.2 hq) (beq_eq_false_iff_ne.2 hv) h28 (K33 hE ws hm) (K34 hE ws hm) se se se (K35n hE) se2 qe qe qe qe qe (K21n hE hv) qe2 hA (fun j => outK_ret (ends_ret (by kernel_rfl))) fun _ => undef)) rfl
  · have e26 : (decide (ws.length ≤ 160) || decide (ws.length = 4097)) = false := by simpa using hs
    rw [e26] at h26
    exact cOut_clear (cOut_start Tryz.func4 rfl (p4N hE (fDT ws) ws.length m0 m1 m2 L 0 0 0 0 [] [] 0 0 h26 hA (fun j => outK_ret (ends_ret (by kernel_rfl))) fun _ => undef)) rfl
end
end Go.Proofs.YtgplabfjldndgaaGreatDoor

end
