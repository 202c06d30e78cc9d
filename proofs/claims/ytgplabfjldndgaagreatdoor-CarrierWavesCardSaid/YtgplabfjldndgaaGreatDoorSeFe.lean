/-
  Part of the proof: SeFe.
-/
import Derived.Test.YtgplabfjldndgaaGreatDoorSeFd
open Go Go.Ev
namespace Go.Proofs.YtgplabfjldndgaaGreatDoor
noncomputable section
set_option maxRecDepth 100000
set_option maxHeartbeats 20000000


open Ieee
theorem eqFt {b : Bool} (h : b = false) : (b == false) = true := by rw [h]; rfl
theorem eqTf {b : Bool} (h : b = true) : (b == false) = false := by rw [h]; rfl
/-- is a sum that of a sample? -/
def okU (im re : Int) : Bool := decide (im = 0 ∧ re.tmod 4 = 0 ∧ rngI (-16384) 16384 (re.tdiv 4) = 0)
abbrev z4 : List AC := [.v (.float .f32 0), .v (.float .f32 0), .v (.float .f32 0), .v (.float .f32 0)]
def re0 (a0 _b0 a1 _b1 a2 _b2 a3 _b3 : Nat) : Int := ((((intW a0) + (intW a1)) + (intW a2)) + (intW a3))
def im0 (_a0 b0 _a1 b1 _a2 b2 _a3 b3 : Nat) : Int := ((((intW b0) + (intW b1)) + (intW b2)) + (intW b3))
def oq0 (a0 b0 a1 b1 a2 b2 a3 b3 : Nat) : Bool := okU (im0 a0 b0 a1 b1 a2 b2 a3 b3) (re0 a0 b0 a1 b1 a2 b2 a3 b3)
def sq0 (a0 b0 a1 b1 a2 b2 a3 b3 : Nat) : Nat := smpW ((re0 a0 b0 a1 b1 a2 b2 a3 b3).tdiv 4)
def re1 (a0 _b0 _a1 b1 a2 _b2 _a3 b3 : Nat) : Int := ((((intW a0) + (-(intW b1))) + (-(intW a2))) + (intW b3))
def im1 (_a0 b0 a1 _b1 _a2 b2 a3 _b3 : Nat) : Int := ((((intW b0) + (intW a1)) + (-(intW b2))) + (-(intW a3)))
def oq1 (a0 b0 a1 b1 a2 b2 a3 b3 : Nat) : Bool := okU (im1 a0 b0 a1 b1 a2 b2 a3 b3) (re1 a0 b0 a1 b1 a2 b2 a3 b3)
def sq1 (a0 b0 a1 b1 a2 b2 a3 b3 : Nat) : Nat := smpW ((re1 a0 b0 a1 b1 a2 b2 a3 b3).tdiv 4)
def re2 (a0 _b0 a1 _b1 a2 _b2 a3 _b3 : Nat) : Int := ((((intW a0) + (-(intW a1))) + (intW a2)) + (-(intW a3)))
def im2 (_a0 b0 _a1 b1 _a2 b2 _a3 b3 : Nat) : Int := ((((intW b0) + (-(intW b1))) + (intW b2)) + (-(intW b3)))
def oq2 (a0 b0 a1 b1 a2 b2 a3 b3 : Nat) : Bool := okU (im2 a0 b0 a1 b1 a2 b2 a3 b3) (re2 a0 b0 a1 b1 a2 b2 a3 b3)
def sq2 (a0 b0 a1 b1 a2 b2 a3 b3 : Nat) : Nat := smpW ((re2 a0 b0 a1 b1 a2 b2 a3 b3).tdiv 4)
def re3 (a0 _b0 _a1 b1 a2 _b2 _a3 b3 : Nat) : Int := ((((intW a0) + (intW b1)) + (-(intW a2))) + (-(intW b3)))
def im3 (_a0 b0 a1 _b1 _a2 b2 a3 _b3 : Nat) : Int := ((((intW b0) + (-(intW a1))) + (-(intW b2))) + (intW a3))
def oq3 (a0 b0 a1 b1 a2 b2 a3 b3 : Nat) : Bool := okU (im3 a0 b0 a1 b1 a2 b2 a3 b3) (re3 a0 b0 a1 b1 a2 b2 a3 b3)
def sq3 (a0 b0 a1 b1 a2 b2 a3 b3 : Nat) : Nat := smpW ((re3 a0 b0 a1 b1 a2 b2 a3 b3).tdiv 4)

abbrev unL (a0 b0 a1 b1 a2 b2 a3 b3 : Nat) : List AC := [fC (sq0 a0 b0 a1 b1 a2 b2 a3 b3), fC (sq1 a0 b0 a1 b1 a2 b2 a3 b3), fC (sq2 a0 b0 a1 b1 a2 b2 a3 b3), fC (sq3 a0 b0 a1 b1 a2 b2 a3 b3)]
def unR (ok : Bool) (a0 b0 a1 b1 a2 b2 a3 b3 : Nat) : List AC := cond ok (unL a0 b0 a1 b1 a2 b2 a3 b3) z4
def unE (ok : Bool) : Int := cond ok 0 1
theorem okU_t {im re : Int} (h1 : im = 0) (h2 : re.tmod 4 = 0) (h3 : rngI (-16384) 16384 (re.tdiv 4) = 0) : okU im re = true := by simp [okU, h1, h2, h3]
theorem okU_f {im re : Int} (h : ¬ (im = 0 ∧ re.tmod 4 = 0 ∧ rngI (-16384) 16384 (re.tdiv 4) = 0)) : okU im re = false := by simp only [okU, decide_eq_false_iff_not]; exact h
theorem tdiv4 {z : Int} (h : z.natAbs ≤ 2 ^ 40) : (z.tdiv 4).natAbs ≤ 2 ^ 40 := by rw [Int.natAbs_tdiv]; exact Nat.le_trans (Nat.div_le_self _ _) h
theorem rng_lrg (z : Int) : lrg z = decide (rngI (-16384) 16384 z ≠ 0) := by
  unfold lrg rngI
  by_cases h : z < -16384 ∨ 16384 < z
  · rw [if_pos h]; rcases h with h | h <;> simp <;> omega
  · rw [if_neg h]; simp; omega

theorem t37_4 (hE : EnvOk E) {a0 b0 : Nat} {a1 b1 : Nat} {a2 b2 : Nat} {a3 b3 : Nat} (_ha0 : chkW 4096 a0 = 0) (_hb0 : chkW 4096 b0 = 0) (_ha1 : chkW 4096 a1 = 0) (_hb1 : chkW 4096 b1 = 0) (_ha2 : chkW 4096 a2 = 0) (_hb2 : chkW 4096 b2 = 0) (_ha3 : chkW 4096 a3 = 0) (_hb3 : chkW 4096 b3 = 0) (q e : Int) (g : Bool) (j : Nat → Value) : OutK E 0 0 (q37_4 a0 b0 a1 b1 a2 b2 a3 b3 (intW a0) (intW b0) (intW a1) (intW b1) (intW a2) (intW b2) (intW a3) (intW b3) (sq0 a0 b0 a1 b1 a2 b2 a3 b3) (sq1 a0 b0 a1 b1 a2 b2 a3 b3) (sq2 a0 b0 a1 b1 a2 b2 a3 b3) (sq3 a0 b0 a1 b1 a2 b2 a3 b3) q e g j) (Go.Ev.Ends E Tryz.f37 (.tup [.agg (unR true a0 b0 a1 b1 a2 b2 a3 b3), .one (.v (.int .i64 (unE true)))]) [some ⟨unR true a0 b0 a1 b1 a2 b2 a3 b3, 4, 56, true, .cells⟩]) :=
  p37x hE a0 b0 a1 b1 a2 b2 a3 b3 (intW a0) (intW b0) (intW a1) (intW b1) (intW a2) (intW b2) (intW a3) (intW b3) (sq0 a0 b0 a1 b1 a2 b2 a3 b3) (sq1 a0 b0 a1 b1 a2 b2 a3 b3) (sq2 a0 b0 a1 b1 a2 b2 a3 b3) (sq3 a0 b0 a1 b1 a2 b2 a3 b3) q e g (fun j => outK_ret (ends_ret (by kernel_rfl))) j

theorem A37_3 (hE : EnvOk E) {a0 b0 : Nat} {a1 b1 : Nat} {a2 b2 : Nat} {a3 b3 : Nat} (ha0 : chkW 4096 a0 = 0) (hb0 : chkW 4096 b0 = 0) (ha1 : chkW 4096 a1 = 0) (hb1 : chkW 4096 b1 = 0) (ha2 : chkW 4096 a2 = 0) (hb2 : chkW 4096 b2 = 0) (ha3 : chkW 4096 a3 = 0) (hb3 : chkW 4096 b3 = 0) (s0 s1 s2 s3 : Nat) (q e : Int) (g : Bool) {Φ : Res → Prop} (ho : ∀ j, OutK E 0 0 (r37_3 a0 b0 a1 b1 a2 b2 a3 b3 (intW a0) (intW b0) (intW a1) (intW b1) (intW a2) (intW b2) (intW a3) (intW b3) s0 s1 s2 s3 q e g j) Φ) (j : Nat → Value) : OutK E 0 0 (q37_3 a0 b0 a1 b1 a2 b2 a3 b3 (intW a0) (intW b0) (intW a1) (intW b1) (intW a2) (intW b2) (intW a3) (intW b3) s0 s1 s2 s3 q e g j) Φ := by
  have ga0 := (chk_zero ha0).2.2
  have gb0 := (chk_zero hb0).2.2
  have ga1 := (chk_zero ha1).2.2
  have gb1 := (chk_zero hb1).2.2
  have ga2 := (chk_zero ha2).2.2
  have gb2 := (chk_zero hb2).2.2
  have ga3 := (chk_zero ha3).2.2
  have gb3 := (chk_zero hb3).2.2
  exact p37A_3 hE a0 b0 a1 b1 a2 b2 a3 b3 (intW a0) (intW b0) (intW a1) (intW b1) (intW a2) (intW b2) (intW a3) (intW b3) s0 s1 s2 s3 q e g (k106 hE (L := 4096) (by decide) ha0) (k106 hE (L := 4096) (by decide) hb0) (K105 hE (by unfold Sm; omega) (by unfold Sm; omega) (by unfold Sm; omega) (by unfold Sm; omega) (by omega) (by omega)) (K104 hE (by omega) (by omega) (by omega) (by omega) (by omega) (by omega)) (k106 hE (L := 4096) (by decide) ha1) (k106 hE (L := 4096) (by decide) hb1) (K105 hE (by unfold Sm; omega) (by unfold Sm; omega) (by unfold Sm; omega) (by unfold Sm; omega) (by omega) (by omega)) (K104 hE (by omega) (by omega) (by omega) (by omega) (by omega) (by omega)) (k106 hE (L := 4096) (by decide) ha2) (k106 hE (L := 4096) (by decide) hb2) (K105 hE (by unfold Sm; omega) (by unfold Sm; omega) (by unfold Sm; omega) (by unfold Sm; omega) (by omega) (by omega)) (K104 hE (by omega) (by omega) (by omega) (by omega) (by omega) (by omega)) (k106 hE (L := 4096) (by decide) ha3) (k106 hE (L := 4096) (by decide) hb3) (K105 hE (by unfold Sm; omega) (by unfold Sm; omega) (by unfold Sm; omega) (by unfold Sm; omega) (by omega) (by omega)) (K104 hE (by omega) (by omega) (by omega) (by omega) (by omega) (by omega)) ho j

theorem t37_3 (hE : EnvOk E) {a0 b0 : Nat} {a1 b1 : Nat} {a2 b2 : Nat} {a3 b3 : Nat} (ha0 : chkW 4096 a0 = 0) (hb0 : chkW 4096 b0 = 0) (ha1 : chkW 4096 a1 = 0) (hb1 : chkW 4096 b1 = 0) (ha2 : chkW 4096 a2 = 0) (hb2 : chkW 4096 b2 = 0) (ha3 : chkW 4096 a3 = 0) (hb3 : chkW 4096 b3 = 0) (s3 : Nat) (q e : Int) (g : Bool) (j : Nat → Value) : OutK E 0 0 (q37_3 a0 b0 a1 b1 a2 b2 a3 b3 (intW a0) (intW b0) (intW a1) (intW b1) (intW a2) (intW b2) (intW a3) (intW b3) (sq0 a0 b0 a1 b1 a2 b2 a3 b3) (sq1 a0 b0 a1 b1 a2 b2 a3 b3) (sq2 a0 b0 a1 b1 a2 b2 a3 b3) s3 q e g j) (Go.Ev.Ends E Tryz.f37 (.tup [.agg (unR (oq3 a0 b0 a1 b1 a2 b2 a3 b3 && true) a0 b0 a1 b1 a2 b2 a3 b3), .one (.v (.int .i64 (unE (oq3 a0 b0 a1 b1 a2 b2 a3 b3 && true))))]) [some ⟨unR (oq3 a0 b0 a1 b1 a2 b2 a3 b3 && true) a0 b0 a1 b1 a2 b2 a3 b3, 4, 56, true, .cells⟩]) := by
  have ga0 := (chk_zero ha0).2.2
  have gb0 := (chk_zero hb0).2.2
  have ga1 := (chk_zero ha1).2.2
  have gb1 := (chk_zero hb1).2.2
  have ga2 := (chk_zero ha2).2.2
  have gb2 := (chk_zero hb2).2.2
  have ga3 := (chk_zero ha3).2.2
  have gb3 := (chk_zero hb3).2.2
  have hq : ((((((intW a0) + (intW b1)) + (-(intW a2))) + (-(intW b3)))).tdiv 4).natAbs ≤ 2 ^ 40 := tdiv4 (by omega)
  by_cases c1 : ((((intW b0) + (-(intW a1))) + (-(intW b2))) + (intW a3)) = 0
  · by_cases c2 : (((((intW a0) + (intW b1)) + (-(intW a2))) + (-(intW b3)))).tmod 4 = 0
    · by_cases c3 : (rngI (-16384) 16384 ((((((intW a0) + (intW b1)) + (-(intW a2))) + (-(intW b3)))).tdiv 4)) = 0
      · have hok : oq3 a0 b0 a1 b1 a2 b2 a3 b3 = true := okU_t c1 c2 c3
        have hs : ((((((intW a0) + (intW b1)) + (-(intW a2))) + (-(intW b3)))).tdiv 4).natAbs < 2 ^ 24 := by
          unfold rngI at c3
          split at c3
          · omega
          · omega
        
        rw [hok, Bool.true_and]
        refine A37_3 hE ha0 hb0 ha1 hb1 ha2 hb2 ha3 hb3 (sq0 a0 b0 a1 b1 a2 b2 a3 b3) (sq1 a0 b0 a1 b1 a2 b2 a3 b3) (sq2 a0 b0 a1 b1 a2 b2 a3 b3) (smpW ((((((intW a0) + (intW b1)) + (-(intW a2))) + (-(intW b3)))).tdiv 4)) ((((((intW a0) + (intW b1)) + (-(intW a2))) + (-(intW b3)))).tdiv 4) (rngI (-16384) 16384 ((((((intW a0) + (intW b1)) + (-(intW a2))) + (-(intW b3)))).tdiv 4)) g (fun j => ?_) j
        exact p37p_3 hE a0 b0 a1 b1 a2 b2 a3 b3 (intW a0) (intW b0) (intW a1) (intW b1) (intW a2) (intW b2) (intW a3) (intW b3) (sq0 a0 b0 a1 b1 a2 b2 a3 b3) (sq1 a0 b0 a1 b1 a2 b2 a3 b3) (sq2 a0 b0 a1 b1 a2 b2 a3 b3) (smpW ((((((intW a0) + (intW b1)) + (-(intW a2))) + (-(intW b3)))).tdiv 4)) ((((((intW a0) + (intW b1)) + (-(intW a2))) + (-(intW b3)))).tdiv 4) (rngI (-16384) 16384 ((((((intW a0) + (intW b1)) + (-(intW a2))) + (-(intW b3)))).tdiv 4)) g (eqFt (neF c1)) (eqFt (neF c1)) (eqFt (neF c1)) (eqFt (neF c1)) (neF c1) (eqFt (neF c2)) (eqFt (neF c2)) (eqFt (neF c2)) (iIe (wr (by omega))) (eqFt (neF c2)) (K80 hE _ _ _) (eqFt (neF c2)) (neF c2) (neF c3) (iIe (wr (by omega))) (k101 hE hs) (t37_4 hE ha0 hb0 ha1 hb1 ha2 hb2 ha3 hb3  0 0 false) j
      · have hok : oq3 a0 b0 a1 b1 a2 b2 a3 b3 = false := okU_f fun h => c3 h.2.2
        
        rw [hok, Bool.false_and]
        refine A37_3 hE ha0 hb0 ha1 hb1 ha2 hb2 ha3 hb3 (sq0 a0 b0 a1 b1 a2 b2 a3 b3) (sq1 a0 b0 a1 b1 a2 b2 a3 b3) (sq2 a0 b0 a1 b1 a2 b2 a3 b3) s3 ((((((intW a0) + (intW b1)) + (-(intW a2))) + (-(intW b3)))).tdiv 4) (rngI (-16384) 16384 ((((((intW a0) + (intW b1)) + (-(intW a2))) + (-(intW b3)))).tdiv 4)) g (fun j => ?_) j
        exact p37w_3 hE a0 b0 a1 b1 a2 b2 a3 b3 (intW a0) (intW b0) (intW a1) (intW b1) (intW a2) (intW b2) (intW a3) (intW b3) (sq0 a0 b0 a1 b1 a2 b2 a3 b3) (sq1 a0 b0 a1 b1 a2 b2 a3 b3) (sq2 a0 b0 a1 b1 a2 b2 a3 b3) s3 ((((((intW a0) + (intW b1)) + (-(intW a2))) + (-(intW b3)))).tdiv 4) (rngI (-16384) 16384 ((((((intW a0) + (intW b1)) + (-(intW a2))) + (-(intW b3)))).tdiv 4)) g (eqFt (neF c1)) (eqFt (neF c1)) (eqFt (neF c1)) (eqFt (neF c1)) (neF c1) (eqFt (neF c2)) (eqFt (neF c2)) (eqFt (neF c2)) (iIe (wr (by omega))) (eqFt (neF c2)) (K80 hE _ _ _) (eqFt (neF c2)) (neF c2) (neT c3) (fun j => outK_ret (ends_ret (by kernel_rfl))) j
    · have hok : oq3 a0 b0 a1 b1 a2 b2 a3 b3 = false := okU_f fun h => c2 h.2.1
      rw [hok, Bool.false_and]
      refine A37_3 hE ha0 hb0 ha1 hb1 ha2 hb2 ha3 hb3 (sq0 a0 b0 a1 b1 a2 b2 a3 b3) (sq1 a0 b0 a1 b1 a2 b2 a3 b3) (sq2 a0 b0 a1 b1 a2 b2 a3 b3) s3 ((((((intW a0) + (intW b1)) + (-(intW a2))) + (-(intW b3)))).tdiv 4) (rngI (-16384) 16384 ((((((intW a0) + (intW b1)) + (-(intW a2))) + (-(intW b3)))).tdiv 4)) g (fun j => ?_) j
      exact p37r_3 hE a0 b0 a1 b1 a2 b2 a3 b3 (intW a0) (intW b0) (intW a1) (intW b1) (intW a2) (intW b2) (intW a3) (intW b3) (sq0 a0 b0 a1 b1 a2 b2 a3 b3) (sq1 a0 b0 a1 b1 a2 b2 a3 b3) (sq2 a0 b0 a1 b1 a2 b2 a3 b3) s3 ((((((intW a0) + (intW b1)) + (-(intW a2))) + (-(intW b3)))).tdiv 4) (rngI (-16384) 16384 ((((((intW a0) + (intW b1)) + (-(intW a2))) + (-(intW b3)))).tdiv 4)) g (eqFt (neF c1)) (eqFt (neF c1)) (eqFt (neF c1)) (eqFt (neF c1)) (neF c1) (eqTf (neT c2)) (eqTf (neT c2)) (eqTf (neT c2)) (eqTf (neT c2)) (eqTf (neT c2)) (neT c2) (fun j => outK_ret (ends_ret (by kernel_rfl))) j
  · have hok : oq3 a0 b0 a1 b1 a2 b2 a3 b3 = false := okU_f fun h => c1 h.1
    rw [hok, Bool.false_and]
    refine A37_3 hE ha0 hb0 ha1 hb1 ha2 hb2 ha3 hb3 (sq0 a0 b0 a1 b1 a2 b2 a3 b3) (sq1 a0 b0 a1 b1 a2 b2 a3 b3) (sq2 a0 b0 a1 b1 a2 b2 a3 b3) s3 ((((((intW a0) + (intW b1)) + (-(intW a2))) + (-(intW b3)))).tdiv 4) (rngI (-16384) 16384 ((((((intW a0) + (intW b1)) + (-(intW a2))) + (-(intW b3)))).tdiv 4)) g (fun j => ?_) j
    exact p37i_3 hE a0 b0 a1 b1 a2 b2 a3 b3 (intW a0) (intW b0) (intW a1) (intW b1) (intW a2) (intW b2) (intW a3) (intW b3) (sq0 a0 b0 a1 b1 a2 b2 a3 b3) (sq1 a0 b0 a1 b1 a2 b2 a3 b3) (sq2 a0 b0 a1 b1 a2 b2 a3 b3) s3 ((((((intW a0) + (intW b1)) + (-(intW a2))) + (-(intW b3)))).tdiv 4) (rngI (-16384) 16384 ((((((intW a0) + (intW b1)) + (-(intW a2))) + (-(intW b3)))).tdiv 4)) g (eqTf (neT c1)) (eqTf (neT c1)) (eqTf (neT c1)) (eqTf (neT c1)) (neT c1) (fun j => outK_ret (ends_ret (by kernel_rfl))) j

theorem A37_2 (hE : EnvOk E) {a0 b0 : Nat} {a1 b1 : Nat} {a2 b2 : Nat} {a3 b3 : Nat} (ha0 : chkW 4096 a0 = 0) (hb0 : chkW 4096 b0 = 0) (ha1 : chkW 4096 a1 = 0) (hb1 : chkW 4096 b1 = 0) (ha2 : chkW 4096 a2 = 0) (hb2 : chkW 4096 b2 = 0) (ha3 : chkW 4096 a3 = 0) (hb3 : chkW 4096 b3 = 0) (s0 s1 s2 s3 : Nat) (q e : Int) (g : Bool) {Φ : Res → Prop} (ho : ∀ j, OutK E 0 0 (r37_2 a0 b0 a1 b1 a2 b2 a3 b3 (intW a0) (intW b0) (intW a1) (intW b1) (intW a2) (intW b2) (intW a3) (intW b3) s0 s1 s2 s3 q e g j) Φ) (j : Nat → Value) : OutK E 0 0 (q37_2 a0 b0 a1 b1 a2 b2 a3 b3 (intW a0) (intW b0) (intW a1) (intW b1) (intW a2) (intW b2) (intW a3) (intW b3) s0 s1 s2 s3 q e g j) Φ := by
  have ga0 := (chk_zero ha0).2.2
  have gb0 := (chk_zero hb0).2.2
  have ga1 := (chk_zero ha1).2.2
  have gb1 := (chk_zero hb1).2.2
  have ga2 := (chk_zero ha2).2.2
  have gb2 := (chk_zero hb2).2.2
  have ga3 := (chk_zero ha3).2.2
  have gb3 := (chk_zero hb3).2.2
  exact p37A_2 hE a0 b0 a1 b1 a2 b2 a3 b3 (intW a0) (intW b0) (intW a1) (intW b1) (intW a2) (intW b2) (intW a3) (intW b3) s0 s1 s2 s3 q e g (k106 hE (L := 4096) (by decide) ha0) (k106 hE (L := 4096) (by decide) hb0) (K105 hE (by unfold Sm; omega) (by unfold Sm; omega) (by unfold Sm; omega) (by unfold Sm; omega) (by omega) (by omega)) (K104 hE (by omega) (by omega) (by omega) (by omega) (by omega) (by omega)) (k106 hE (L := 4096) (by decide) ha1) (k106 hE (L := 4096) (by decide) hb1) (K105 hE (by unfold Sm; omega) (by unfold Sm; omega) (by unfold Sm; omega) (by unfold Sm; omega) (by omega) (by omega)) (K104 hE (by omega) (by omega) (by omega) (by omega) (by omega) (by omega)) (k106 hE (L := 4096) (by decide) ha2) (k106 hE (L := 4096) (by decide) hb2) (K105 hE (by unfold Sm; omega) (by unfold Sm; omega) (by unfold Sm; omega) (by unfold Sm; omega) (by omega) (by omega)) (K104 hE (by omega) (by omega) (by omega) (by omega) (by omega) (by omega)) (k106 hE (L := 4096) (by decide) ha3) (k106 hE (L := 4096) (by decide) hb3) (K105 hE (by unfold Sm; omega) (by unfold Sm; omega) (by unfold Sm; omega) (by unfold Sm; omega) (by omega) (by omega)) (K104 hE (by omega) (by omega) (by omega) (by omega) (by omega) (by omega)) ho j

theorem t37_2 (hE : EnvOk E) {a0 b0 : Nat} {a1 b1 : Nat} {a2 b2 : Nat} {a3 b3 : Nat} (ha0 : chkW 4096 a0 = 0) (hb0 : chkW 4096 b0 = 0) (ha1 : chkW 4096 a1 = 0) (hb1 : chkW 4096 b1 = 0) (ha2 : chkW 4096 a2 = 0) (hb2 : chkW 4096 b2 = 0) (ha3 : chkW 4096 a3 = 0) (hb3 : chkW 4096 b3 = 0) (s2 s3 : Nat) (q e : Int) (g : Bool) (j : Nat → Value) : OutK E 0 0 (q37_2 a0 b0 a1 b1 a2 b2 a3 b3 (intW a0) (intW b0) (intW a1) (intW b1) (intW a2) (intW b2) (intW a3) (intW b3) (sq0 a0 b0 a1 b1 a2 b2 a3 b3) (sq1 a0 b0 a1 b1 a2 b2 a3 b3) s2 s3 q e g j) (Go.Ev.Ends E Tryz.f37 (.tup [.agg (unR (oq2 a0 b0 a1 b1 a2 b2 a3 b3 && (oq3 a0 b0 a1 b1 a2 b2 a3 b3 && true)) a0 b0 a1 b1 a2 b2 a3 b3), .one (.v (.int .i64 (unE (oq2 a0 b0 a1 b1 a2 b2 a3 b3 && (oq3 a0 b0 a1 b1 a2 b2 a3 b3 && true)))))]) [some ⟨unR (oq2 a0 b0 a1 b1 a2 b2 a3 b3 && (oq3 a0 b0 a1 b1 a2 b2 a3 b3 && true)) a0 b0 a1 b1 a2 b2 a3 b3, 4, 56, true, .cells⟩]) := by
  have ga0 := (chk_zero ha0).2.2
  have gb0 := (chk_zero hb0).2.2
  have ga1 := (chk_zero ha1).2.2
  have gb1 := (chk_zero hb1).2.2
  have ga2 := (chk_zero ha2).2.2
  have gb2 := (chk_zero hb2).2.2
  have ga3 := (chk_zero ha3).2.2
  have gb3 := (chk_zero hb3).2.2
  have hq : ((((((intW a0) + (-(intW a1))) + (intW a2)) + (-(intW a3)))).tdiv 4).natAbs ≤ 2 ^ 40 := tdiv4 (by omega)
  by_cases c1 : ((((intW b0) + (-(intW b1))) + (intW b2)) + (-(intW b3))) = 0
  · by_cases c2 : (((((intW a0) + (-(intW a1))) + (intW a2)) + (-(intW a3)))).tmod 4 = 0
    · by_cases c3 : (rngI (-16384) 16384 ((((((intW a0) + (-(intW a1))) + (intW a2)) + (-(intW a3)))).tdiv 4)) = 0
      · have hok : oq2 a0 b0 a1 b1 a2 b2 a3 b3 = true := okU_t c1 c2 c3
        have hs : ((((((intW a0) + (-(intW a1))) + (intW a2)) + (-(intW a3)))).tdiv 4).natAbs < 2 ^ 24 := by
          unfold rngI at c3
          split at c3
          · omega
          · omega
        
        rw [hok, Bool.true_and]
        refine A37_2 hE ha0 hb0 ha1 hb1 ha2 hb2 ha3 hb3 (sq0 a0 b0 a1 b1 a2 b2 a3 b3) (sq1 a0 b0 a1 b1 a2 b2 a3 b3) (smpW ((((((intW a0) + (-(intW a1))) + (intW a2)) + (-(intW a3)))).tdiv 4)) s3 ((((((intW a0) + (-(intW a1))) + (intW a2)) + (-(intW a3)))).tdiv 4) (rngI (-16384) 16384 ((((((intW a0) + (-(intW a1))) + (intW a2)) + (-(intW a3)))).tdiv 4)) g (fun j => ?_) j
        exact p37p_2 hE a0 b0 a1 b1 a2 b2 a3 b3 (intW a0) (intW b0) (intW a1) (intW b1) (intW a2) (intW b2) (intW a3) (intW b3) (sq0 a0 b0 a1 b1 a2 b2 a3 b3) (sq1 a0 b0 a1 b1 a2 b2 a3 b3) (smpW ((((((intW a0) + (-(intW a1))) + (intW a2)) + (-(intW a3)))).tdiv 4)) s3 ((((((intW a0) + (-(intW a1))) + (intW a2)) + (-(intW a3)))).tdiv 4) (rngI (-16384) 16384 ((((((intW a0) + (-(intW a1))) + (intW a2)) + (-(intW a3)))).tdiv 4)) g (eqFt (neF c1)) (eqFt (neF c1)) (eqFt (neF c1)) (eqFt (neF c1)) (neF c1) (eqFt (neF c2)) (eqFt (neF c2)) (eqFt (neF c2)) (iIe (wr (by omega))) (eqFt (neF c2)) (K80 hE _ _ _) (eqFt (neF c2)) (neF c2) (neF c3) (iIe (wr (by omega))) (k101 hE hs) (t37_3 hE ha0 hb0 ha1 hb1 ha2 hb2 ha3 hb3 s3 0 0 false) j
      · have hok : oq2 a0 b0 a1 b1 a2 b2 a3 b3 = false := okU_f fun h => c3 h.2.2
        
        rw [hok, Bool.false_and]
        refine A37_2 hE ha0 hb0 ha1 hb1 ha2 hb2 ha3 hb3 (sq0 a0 b0 a1 b1 a2 b2 a3 b3) (sq1 a0 b0 a1 b1 a2 b2 a3 b3) s2 s3 ((((((intW a0) + (-(intW a1))) + (intW a2)) + (-(intW a3)))).tdiv 4) (rngI (-16384) 16384 ((((((intW a0) + (-(intW a1))) + (intW a2)) + (-(intW a3)))).tdiv 4)) g (fun j => ?_) j
        exact p37w_2 hE a0 b0 a1 b1 a2 b2 a3 b3 (intW a0) (intW b0) (intW a1) (intW b1) (intW a2) (intW b2) (intW a3) (intW b3) (sq0 a0 b0 a1 b1 a2 b2 a3 b3) (sq1 a0 b0 a1 b1 a2 b2 a3 b3) s2 s3 ((((((intW a0) + (-(intW a1))) + (intW a2)) + (-(intW a3)))).tdiv 4) (rngI (-16384) 16384 ((((((intW a0) + (-(intW a1))) + (intW a2)) + (-(intW a3)))).tdiv 4)) g (eqFt (neF c1)) (eqFt (neF c1)) (eqFt (neF c1)) (eqFt (neF c1)) (neF c1) (eqFt (neF c2)) (eqFt (neF c2)) (eqFt (neF c2)) (iIe (wr (by omega))) (eqFt (neF c2)) (K80 hE _ _ _) (eqFt (neF c2)) (neF c2) (neT c3) (fun j => outK_ret (ends_ret (by kernel_rfl))) j
    · have hok : oq2 a0 b0 a1 b1 a2 b2 a3 b3 = false := okU_f fun h => c2 h.2.1
      rw [hok, Bool.false_and]
      refine A37_2 hE ha0 hb0 ha1 hb1 ha2 hb2 ha3 hb3 (sq0 a0 b0 a1 b1 a2 b2 a3 b3) (sq1 a0 b0 a1 b1 a2 b2 a3 b3) s2 s3 ((((((intW a0) + (-(intW a1))) + (intW a2)) + (-(intW a3)))).tdiv 4) (rngI (-16384) 16384 ((((((intW a0) + (-(intW a1))) + (intW a2)) + (-(intW a3)))).tdiv 4)) g (fun j => ?_) j
      exact p37r_2 hE a0 b0 a1 b1 a2 b2 a3 b3 (intW a0) (intW b0) (intW a1) (intW b1) (intW a2) (intW b2) (intW a3) (intW b3) (sq0 a0 b0 a1 b1 a2 b2 a3 b3) (sq1 a0 b0 a1 b1 a2 b2 a3 b3) s2 s3 ((((((intW a0) + (-(intW a1))) + (intW a2)) + (-(intW a3)))).tdiv 4) (rngI (-16384) 16384 ((((((intW a0) + (-(intW a1))) + (intW a2)) + (-(intW a3)))).tdiv 4)) g (eqFt (neF c1)) (eqFt (neF c1)) (eqFt (neF c1)) (eqFt (neF c1)) (neF c1) (eqTf (neT c2)) (eqTf (neT c2)) (eqTf (neT c2)) (eqTf (neT c2)) (eqTf (neT c2)) (neT c2) (fun j => outK_ret (ends_ret (by kernel_rfl))) j
  · have hok : oq2 a0 b0 a1 b1 a2 b2 a3 b3 = false := okU_f fun h => c1 h.1
    rw [hok, Bool.false_and]
    refine A37_2 hE ha0 hb0 ha1 hb1 ha2 hb2 ha3 hb3 (sq0 a0 b0 a1 b1 a2 b2 a3 b3) (sq1 a0 b0 a1 b1 a2 b2 a3 b3) s2 s3 ((((((intW a0) + (-(intW a1))) + (intW a2)) + (-(intW a3)))).tdiv 4) (rngI (-16384) 16384 ((((((intW a0) + (-(intW a1))) + (intW a2)) + (-(intW a3)))).tdiv 4)) g (fun j => ?_) j
    exact p37i_2 hE a0 b0 a1 b1 a2 b2 a3 b3 (intW a0) (intW b0) (intW a1) (intW b1) (intW a2) (intW b2) (intW a3) (intW b3) (sq0 a0 b0 a1 b1 a2 b2 a3 b3) (sq1 a0 b0 a1 b1 a2 b2 a3 b3) s2 s3 ((((((intW a0) + (-(intW a1))) + (intW a2)) + (-(intW a3)))).tdiv 4) (rngI (-16384) 16384 ((((((intW a0) + (-(intW a1))) + (intW a2)) + (-(intW a3)))).tdiv 4)) g (eqTf (neT c1)) (eqTf (neT c1)) (eqTf (neT c1)) (eqTf (neT c1)) (neT c1) (fun j => outK_ret (ends_ret (by kernel_rfl))) j

theorem A37_1 (hE : EnvOk E) {a0 b0 : Nat} {a1 b1 : Nat} {a2 b2 : Nat} {a3 b3 : Nat} (ha0 : chkW 4096 a0 = 0) (hb0 : chkW 4096 b0 = 0) (ha1 : chkW 4096 a1 = 0) (hb1 : chkW 4096 b1 = 0) (ha2 : chkW 4096 a2 = 0) (hb2 : chkW 4096 b2 = 0) (ha3 : chkW 4096 a3 = 0) (hb3 : chkW 4096 b3 = 0) (s0 s1 s2 s3 : Nat) (q e : Int) (g : Bool) {Φ : Res → Prop} (ho : ∀ j, OutK E 0 0 (r37_1 a0 b0 a1 b1 a2 b2 a3 b3 (intW a0) (intW b0) (intW a1) (intW b1) (intW a2) (intW b2) (intW a3) (intW b3) s0 s1 s2 s3 q e g j) Φ) (j : Nat → Value) : OutK E 0 0 (q37_1 a0 b0 a1 b1 a2 b2 a3 b3 (intW a0) (intW b0) (intW a1) (intW b1) (intW a2) (intW b2) (intW a3) (intW b3) s0 s1 s2 s3 q e g j) Φ := by
  have ga0 := (chk_zero ha0).2.2
  have gb0 := (chk_zero hb0).2.2
  have ga1 := (chk_zero ha1).2.2
  have gb1 := (chk_zero hb1).2.2
  have ga2 := (chk_zero ha2).2.2
  have gb2 := (chk_zero hb2).2.2
  have ga3 := (chk_zero ha3).2.2
  have gb3 := (chk_zero hb3).2.2
  exact p37A_1 hE a0 b0 a1 b1 a2 b2 a3 b3 (intW a0) (intW b0) (intW a1) (intW b1) (intW a2) (intW b2) (intW a3) (intW b3) s0 s1 s2 s3 q e g (k106 hE (L := 4096) (by decide) ha0) (k106 hE (L := 4096) (by decide) hb0) (K105 hE (by unfold Sm; omega) (by unfold Sm; omega) (by unfold Sm; omega) (by unfold Sm; omega) (by omega) (by omega)) (K104 hE (by omega) (by omega) (by omega) (by omega) (by omega) (by omega)) (k106 hE (L := 4096) (by decide) ha1) (k106 hE (L := 4096) (by decide) hb1) (K105 hE (by unfold Sm; omega) (by unfold Sm; omega) (by unfold Sm; omega) (by unfold Sm; omega) (by omega) (by omega)) (K104 hE (by omega) (by omega) (by omega) (by omega) (by omega) (by omega)) (k106 hE (L := 4096) (by decide) ha2) (k106 hE (L := 4096) (by decide) hb2) (K105 hE (by unfold Sm; omega) (by unfold Sm; omega) (by unfold Sm; omega) (by unfold Sm; omega) (by omega) (by omega)) (K104 hE (by omega) (by omega) (by omega) (by omega) (by omega) (by omega)) (k106 hE (L := 4096) (by decide) ha3) (k106 hE (L := 4096) (by decide) hb3) (K105 hE (by unfold Sm; omega) (by unfold Sm; omega) (by unfold Sm; omega) (by unfold Sm; omega) (by omega) (by omega)) (K104 hE (by omega) (by omega) (by omega) (by omega) (by omega) (by omega)) ho j

theorem t37_1 (hE : EnvOk E) {a0 b0 : Nat} {a1 b1 : Nat} {a2 b2 : Nat} {a3 b3 : Nat} (ha0 : chkW 4096 a0 = 0) (hb0 : chkW 4096 b0 = 0) (ha1 : chkW 4096 a1 = 0) (hb1 : chkW 4096 b1 = 0) (ha2 : chkW 4096 a2 = 0) (hb2 : chkW 4096 b2 = 0) (ha3 : chkW 4096 a3 = 0) (hb3 : chkW 4096 b3 = 0) (s1 s2 s3 : Nat) (q e : Int) (g : Bool) (j : Nat → Value) : OutK E 0 0 (q37_1 a0 b0 a1 b1 a2 b2 a3 b3 (intW a0) (intW b0) (intW a1) (intW b1) (intW a2) (intW b2) (intW a3) (intW b3) (sq0 a0 b0 a1 b1 a2 b2 a3 b3) s1 s2 s3 q e g j) (Go.Ev.Ends E Tryz.f37 (.tup [.agg (unR (oq1 a0 b0 a1 b1 a2 b2 a3 b3 && (oq2 a0 b0 a1 b1 a2 b2 a3 b3 && (oq3 a0 b0 a1 b1 a2 b2 a3 b3 && true))) a0 b0 a1 b1 a2 b2 a3 b3), .one (.v (.int .i64 (unE (oq1 a0 b0 a1 b1 a2 b2 a3 b3 && (oq2 a0 b0 a1 b1 a2 b2 a3 b3 && (oq3 a0 b0 a1 b1 a2 b2 a3 b3 && true))))))]) [some ⟨unR (oq1 a0 b0 a1 b1 a2 b2 a3 b3 && (oq2 a0 b0 a1 b1 a2 b2 a3 b3 && (oq3 a0 b0 a1 b1 a2 b2 a3 b3 && true))) a0 b0 a1 b1 a2 b2 a3 b3, 4, 56, true, .cells⟩]) := by
  have ga0 := (chk_zero ha0).2.2
  have gb0 := (chk_zero hb0).2.2
  have ga1 := (chk_zero ha1).2.2
  have gb1 := (chk_zero hb1).2.2
  have ga2 := (chk_zero ha2).2.2
  have gb2 := (chk_zero hb2).2.2
  have ga3 := (chk_zero ha3).2.2
  have gb3 := (chk_zero hb3).2.2
  have hq : ((((((intW a0) + (-(intW b1))) + (-(intW a2))) + (intW b3))).tdiv 4).natAbs ≤ 2 ^ 40 := tdiv4 (by omega)
  by_cases c1 : ((((intW b0) + (intW a1)) + (-(intW b2))) + (-(intW a3))) = 0
  · by_cases c2 : (((((intW a0) + (-(intW b1))) + (-(intW a2))) + (intW b3))).tmod 4 = 0
    · by_cases c3 : (rngI (-16384) 16384 ((((((intW a0) + (-(intW b1))) + (-(intW a2))) + (intW b3))).tdiv 4)) = 0
      · have hok : oq1 a0 b0 a1 b1 a2 b2 a3 b3 = true := okU_t c1 c2 c3
        have hs : ((((((intW a0) + (-(intW b1))) + (-(intW a2))) + (intW b3))).tdiv 4).natAbs < 2 ^ 24 := by
          unfold rngI at c3
          split at c3
          · omega
          · omega
        
        rw [hok, Bool.true_and]
        refine A37_1 hE ha0 hb0 ha1 hb1 ha2 hb2 ha3 hb3 (sq0 a0 b0 a1 b1 a2 b2 a3 b3) (smpW ((((((intW a0) + (-(intW b1))) + (-(intW a2))) + (intW b3))).tdiv 4)) s2 s3 ((((((intW a0) + (-(intW b1))) + (-(intW a2))) + (intW b3))).tdiv 4) (rngI (-16384) 16384 ((((((intW a0) + (-(intW b1))) + (-(intW a2))) + (intW b3))).tdiv 4)) g (fun j => ?_) j
        exact p37p_1 hE a0 b0 a1 b1 a2 b2 a3 b3 (intW a0) (intW b0) (intW a1) (intW b1) (intW a2) (intW b2) (intW a3) (intW b3) (sq0 a0 b0 a1 b1 a2 b2 a3 b3) (smpW ((((((intW a0) + (-(intW b1))) + (-(intW a2))) + (intW b3))).tdiv 4)) s2 s3 ((((((intW a0) + (-(intW b1))) + (-(intW a2))) + (intW b3))).tdiv 4) (rngI (-16384) 16384 ((((((intW a0) + (-(intW b1))) + (-(intW a2))) + (intW b3))).tdiv 4)) g (eqFt (neF c1)) (eqFt (neF c1)) (eqFt (neF c1)) (eqFt (neF c1)) (neF c1) (eqFt (neF c2)) (eqFt (neF c2)) (eqFt (neF c2)) (iIe (wr (by omega))) (eqFt (neF c2)) (K80 hE _ _ _) (eqFt (neF c2)) (neF c2) (neF c3) (iIe (wr (by omega))) (k101 hE hs) (t37_2 hE ha0 hb0 ha1 hb1 ha2 hb2 ha3 hb3 s2 s3 0 0 false) j
      · have hok : oq1 a0 b0 a1 b1 a2 b2 a3 b3 = false := okU_f fun h => c3 h.2.2
        
        rw [hok, Bool.false_and]
        refine A37_1 hE ha0 hb0 ha1 hb1 ha2 hb2 ha3 hb3 (sq0 a0 b0 a1 b1 a2 b2 a3 b3) s1 s2 s3 ((((((intW a0) + (-(intW b1))) + (-(intW a2))) + (intW b3))).tdiv 4) (rngI (-16384) 16384 ((((((intW a0) + (-(intW b1))) + (-(intW a2))) + (intW b3))).tdiv 4)) g (fun j => ?_) j
        exact p37w_1 hE a0 b0 a1 b1 a2 b2 a3 b3 (intW a0) (intW b0) (intW a1) (intW b1) (intW a2) (intW b2) (intW a3) (intW b3) (sq0 a0 b0 a1 b1 a2 b2 a3 b3) s1 s2 s3 ((((((intW a0) + (-(intW b1))) + (-(intW a2))) + (intW b3))).tdiv 4) (rngI (-16384) 16384 ((((((intW a0) + (-(intW b1))) + (-(intW a2))) + (intW b3))).tdiv 4)) g (eqFt (neF c1)) (eqFt (neF c1)) (eqFt (neF c1)) (eqFt (neF c1)) (neF c1) (eqFt (neF c2)) (eqFt (neF c2)) (eqFt (neF c2)) (iIe (wr (by omega))) (eqFt (neF c2)) (K80 hE _ _ _) (eqFt (neF c2)) (neF c2) (neT c3) (fun j => outK_ret (ends_ret (by kernel_rfl))) j
    · have hok : oq1 a0 b0 a1 b1 a2 b2 a3 b3 = false := okU_f fun h => c2 h.2.1
      rw [hok, Bool.false_and]
      refine A37_1 hE ha0 hb0 ha1 hb1 ha2 hb2 ha3 hb3 (sq0 a0 b0 a1 b1 a2 b2 a3 b3) s1 s2 s3 ((((((intW a0) + (-(intW b1))) + (-(intW a2))) + (intW b3))).tdiv 4) (rngI (-16384) 16384 ((((((intW a0) + (-(intW b1))) + (-(intW a2))) + (intW b3))).tdiv 4)) g (fun j => ?_) j
      exact p37r_1 hE a0 b0 a1 b1 a2 b2 a3 b3 (intW a0) (intW b0) (intW a1) (intW b1) (intW a2) (intW b2) (intW a3) (intW b3) (sq0 a0 b0 a1 b1 a2 b2 a3 b3) s1 s2 s3 ((((((intW a0) + (-(intW b1))) + (-(intW a2))) + (intW b3))).tdiv 4) (rngI (-16384) 16384 ((((((intW a0) + (-(intW b1))) + (-(intW a2))) + (intW b3))).tdiv 4)) g (eqFt (neF c1)) (eqFt (neF c1)) (eqFt (neF c1)) (eqFt (neF c1)) (neF c1) (eqTf (neT c2)) (eqTf (neT c2)) (eqTf (neT c2)) (eqTf (neT c2)) (eqTf (neT c2)) (neT c2) (fun j => outK_ret (ends_ret (by kernel_rfl))) j
  · have hok : oq1 a0 b0 a1 b1 a2 b2 a3 b3 = false := okU_f fun h => c1 h.1
    rw [hok, Bool.false_and]
    refine A37_1 hE ha0 hb0 ha1 hb1 ha2 hb2 ha3 hb3 (sq0 a0 b0 a1 b1 a2 b2 a3 b3) s1 s2 s3 ((((((intW a0) + (-(intW b1))) + (-(intW a2))) + (intW b3))).tdiv 4) (rngI (-16384) 16384 ((((((intW a0) + (-(intW b1))) + (-(intW a2))) + (intW b3))).tdiv 4)) g (fun j => ?_) j
    exact p37i_1 hE a0 b0 a1 b1 a2 b2 a3 b3 (intW a0) (intW b0) (intW a1) (intW b1) (intW a2) (intW b2) (intW a3) (intW b3) (sq0 a0 b0 a1 b1 a2 b2 a3 b3) s1 s2 s3 ((((((intW a0) + (-(intW b1))) + (-(intW a2))) + (intW b3))).tdiv 4) (rngI (-16384) 16384 ((((((intW a0) + (-(intW b1))) + (-(intW a2))) + (intW b3))).tdiv 4)) g (eqTf (neT c1)) (eqTf (neT c1)) (eqTf (neT c1)) (eqTf (neT c1)) (neT c1) (fun j => outK_ret (ends_ret (by kernel_rfl))) j

theorem A37_0 (hE : EnvOk E) {a0 b0 : Nat} {a1 b1 : Nat} {a2 b2 : Nat} {a3 b3 : Nat} (ha0 : chkW 4096 a0 = 0) (hb0 : chkW 4096 b0 = 0) (ha1 : chkW 4096 a1 = 0) (hb1 : chkW 4096 b1 = 0) (ha2 : chkW 4096 a2 = 0) (hb2 : chkW 4096 b2 = 0) (ha3 : chkW 4096 a3 = 0) (hb3 : chkW 4096 b3 = 0) (s0 s1 s2 s3 : Nat) (q e : Int) (g : Bool) {Φ : Res → Prop} (ho : ∀ j, OutK E 0 0 (r37_0 a0 b0 a1 b1 a2 b2 a3 b3 (intW a0) (intW b0) (intW a1) (intW b1) (intW a2) (intW b2) (intW a3) (intW b3) s0 s1 s2 s3 q e g j) Φ) (j : Nat → Value) : OutK E 0 0 (q37_0 a0 b0 a1 b1 a2 b2 a3 b3 (intW a0) (intW b0) (intW a1) (intW b1) (intW a2) (intW b2) (intW a3) (intW b3) s0 s1 s2 s3 q e g j) Φ := by
  have ga0 := (chk_zero ha0).2.2
  have gb0 := (chk_zero hb0).2.2
  have ga1 := (chk_zero ha1).2.2
  have gb1 := (chk_zero hb1).2.2
  have ga2 := (chk_zero ha2).2.2
  have gb2 := (chk_zero hb2).2.2
  have ga3 := (chk_zero ha3).2.2
  have gb3 := (chk_zero hb3).2.2
  exact p37A_0 hE a0 b0 a1 b1 a2 b2 a3 b3 (intW a0) (intW b0) (intW a1) (intW b1) (intW a2) (intW b2) (intW a3) (intW b3) s0 s1 s2 s3 q e g (k106 hE (L := 4096) (by decide) ha0) (k106 hE (L := 4096) (by decide) hb0) (K105 hE (by unfold Sm; omega) (by unfold Sm; omega) (by unfold Sm; omega) (by unfold Sm; omega) (by omega) (by omega)) (K104 hE (by omega) (by omega) (by omega) (by omega) (by omega) (by omega)) (k106 hE (L := 4096) (by decide) ha1) (k106 hE (L := 4096) (by decide) hb1) (K105 hE (by unfold Sm; omega) (by unfold Sm; omega) (by unfold Sm; omega) (by unfold Sm; omega) (by omega) (by omega)) (K104 hE (by omega) (by omega) (by omega) (by omega) (by omega) (by omega)) (k106 hE (L := 4096) (by decide) ha2) (k106 hE (L := 4096) (by decide) hb2) (K105 hE (by unfold Sm; omega) (by unfold Sm; omega) (by unfold Sm; omega) (by unfold Sm; omega) (by omega) (by omega)) (K104 hE (by omega) (by omega) (by omega) (by omega) (by omega) (by omega)) (k106 hE (L := 4096) (by decide) ha3) (k106 hE (L := 4096) (by decide) hb3) (K105 hE (by unfold Sm; omega) (by unfold Sm; omega) (by unfold Sm; omega) (by unfold Sm; omega) (by omega) (by omega)) (K104 hE (by omega) (by omega) (by omega) (by omega) (by omega) (by omega)) ho j

theorem t37_0 (hE : EnvOk E) {a0 b0 : Nat} {a1 b1 : Nat} {a2 b2 : Nat} {a3 b3 : Nat} (ha0 : chkW 4096 a0 = 0) (hb0 : chkW 4096 b0 = 0) (ha1 : chkW 4096 a1 = 0) (hb1 : chkW 4096 b1 = 0) (ha2 : chkW 4096 a2 = 0) (hb2 : chkW 4096 b2 = 0) (ha3 : chkW 4096 a3 = 0) (hb3 : chkW 4096 b3 = 0) (s0 s1 s2 s3 : Nat) (q e : Int) (g : Bool) (j : Nat → Value) : OutK E 0 0 (q37_0 a0 b0 a1 b1 a2 b2 a3 b3 (intW a0) (intW b0) (intW a1) (intW b1) (intW a2) (intW b2) (intW a3) (intW b3) s0 s1 s2 s3 q e g j) (Go.Ev.Ends E Tryz.f37 (.tup [.agg (unR (oq0 a0 b0 a1 b1 a2 b2 a3 b3 && (oq1 a0 b0 a1 b1 a2 b2 a3 b3 && (oq2 a0 b0 a1 b1 a2 b2 a3 b3 && (oq3 a0 b0 a1 b1 a2 b2 a3 b3 && true)))) a0 b0 a1 b1 a2 b2 a3 b3), .one (.v (.int .i64 (unE (oq0 a0 b0 a1 b1 a2 b2 a3 b3 && (oq1 a0 b0 a1 b1 a2 b2 a3 b3 && (oq2 a0 b0 a1 b1 a2 b2 a3 b3 && (oq3 a0 b0 a1 b1 a2 b2 a3 b3 && true)))))))]) [some ⟨unR (oq0 a0 b0 a1 b1 a2 b2 a3 b3 && (oq1 a0 b0 a1 b1 a2 b2 a3 b3 && (oq2 a0 b0 a1 b1 a2 b2 a3 b3 && (oq3 a0 b0 a1 b1 a2 b2 a3 b3 && true)))) a0 b0 a1 b1 a2 b2 a3 b3, 4, 56, true, .cells⟩]) := by
  have ga0 := (chk_zero ha0).2.2
  have gb0 := (chk_zero hb0).2.2
  have ga1 := (chk_zero ha1).2.2
  have gb1 := (chk_zero hb1).2.2
  have ga2 := (chk_zero ha2).2.2
  have gb2 := (chk_zero hb2).2.2
  have ga3 := (chk_zero ha3).2.2
  have gb3 := (chk_zero hb3).2.2
  have hq : ((((((intW a0) + (intW a1)) + (intW a2)) + (intW a3))).tdiv 4).natAbs ≤ 2 ^ 40 := tdiv4 (by omega)
  by_cases c1 : ((((intW b0) + (intW b1)) + (intW b2)) + (intW b3)) = 0
  · by_cases c2 : (((((intW a0) + (intW a1)) + (intW a2)) + (intW a3))).tmod 4 = 0
    · by_cases c3 : (rngI (-16384) 16384 ((((((intW a0) + (intW a1)) + (intW a2)) + (intW a3))).tdiv 4)) = 0
      · have hok : oq0 a0 b0 a1 b1 a2 b2 a3 b3 = true := okU_t c1 c2 c3
        have hs : ((((((intW a0) + (intW a1)) + (intW a2)) + (intW a3))).tdiv 4).natAbs < 2 ^ 24 := by
          unfold rngI at c3
          split at c3
          · omega
          · omega
        
        rw [hok, Bool.true_and]
        refine A37_0 hE ha0 hb0 ha1 hb1 ha2 hb2 ha3 hb3 (smpW ((((((intW a0) + (intW a1)) + (intW a2)) + (intW a3))).tdiv 4)) s1 s2 s3 ((((((intW a0) + (intW a1)) + (intW a2)) + (intW a3))).tdiv 4) (rngI (-16384) 16384 ((((((intW a0) + (intW a1)) + (intW a2)) + (intW a3))).tdiv 4)) g (fun j => ?_) j
        exact p37p_0 hE a0 b0 a1 b1 a2 b2 a3 b3 (intW a0) (intW b0) (intW a1) (intW b1) (intW a2) (intW b2) (intW a3) (intW b3) (smpW ((((((intW a0) + (intW a1)) + (intW a2)) + (intW a3))).tdiv 4)) s1 s2 s3 ((((((intW a0) + (intW a1)) + (intW a2)) + (intW a3))).tdiv 4) (rngI (-16384) 16384 ((((((intW a0) + (intW a1)) + (intW a2)) + (intW a3))).tdiv 4)) g (eqFt (neF c1)) (eqFt (neF c1)) (eqFt (neF c1)) (eqFt (neF c1)) (neF c1) (eqFt (neF c2)) (eqFt (neF c2)) (eqFt (neF c2)) (iIe (wr (by omega))) (eqFt (neF c2)) (K80 hE _ _ _) (eqFt (neF c2)) (neF c2) (neF c3) (iIe (wr (by omega))) (k101 hE hs) (t37_1 hE ha0 hb0 ha1 hb1 ha2 hb2 ha3 hb3 s1 s2 s3 0 0 false) j
      · have hok : oq0 a0 b0 a1 b1 a2 b2 a3 b3 = false := okU_f fun h => c3 h.2.2
        
        rw [hok, Bool.false_and]
        refine A37_0 hE ha0 hb0 ha1 hb1 ha2 hb2 ha3 hb3 s0 s1 s2 s3 ((((((intW a0) + (intW a1)) + (intW a2)) + (intW a3))).tdiv 4) (rngI (-16384) 16384 ((((((intW a0) + (intW a1)) + (intW a2)) + (intW a3))).tdiv 4)) g (fun j => ?_) j
        exact p37w_0 hE a0 b0 a1 b1 a2 b2 a3 b3 (intW a0) (intW b0) (intW a1) (intW b1) (intW a2) (intW b2) (intW a3) (intW b3) s0 s1 s2 s3 ((((((intW a0) + (intW a1)) + (intW a2)) + (intW a3))).tdiv 4) (rngI (-16384) 16384 ((((((intW a0) + (intW a1)) + (intW a2)) + (intW a3))).tdiv 4)) g (eqFt (neF c1)) (eqFt (neF c1)) (eqFt (neF c1)) (eqFt (neF c1)) (neF c1) (eqFt (neF c2)) (eqFt (neF c2)) (eqFt (neF c2)) (iIe (wr (by omega))) (eqFt (neF c2)) (K80 hE _ _ _) (eqFt (neF c2)) (neF c2) (neT c3) (fun j => outK_ret (ends_ret (by kernel_rfl))) j
    · have hok : oq0 a0 b0 a1 b1 a2 b2 a3 b3 = false := okU_f fun h => c2 h.2.1
      rw [hok, Bool.false_and]
      refine A37_0 hE ha0 hb0 ha1 hb1 ha2 hb2 ha3 hb3 s0 s1 s2 s3 ((((((intW a0) + (intW a1)) + (intW a2)) + (intW a3))).tdiv 4) (rngI (-16384) 16384 ((((((intW a0) + (intW a1)) + (intW a2)) + (intW a3))).tdiv 4)) g (fun j => ?_) j
      exact p37r_0 hE a0 b0 a1 b1 a2 b2 a3 b3 (intW a0) (intW b0) (intW a1) (intW b1) (intW a2) (intW b2) (intW a3) (intW b3) s0 s1 s2 s3 ((((((intW a0) + (intW a1)) + (intW a2)) + (intW a3))).tdiv 4) (rngI (-16384) 16384 ((((((intW a0) + (intW a1)) + (intW a2)) + (intW a3))).tdiv 4)) g (eqFt (neF c1)) (eqFt (neF c1)) (eqFt (neF c1)) (eqFt (neF c1)) (neF c1) (eqTf (neT c2)) (eqTf (neT c2)) (eqTf (neT c2)) (eqTf (neT c2)) (eqTf (neT c2)) (neT c2) (fun j => outK_ret (ends_ret (by kernel_rfl))) j
  · have hok : oq0 a0 b0 a1 b1 a2 b2 a3 b3 = false := okU_f fun h => c1 h.1
    rw [hok, Bool.false_and]
    refine A37_0 hE ha0 hb0 ha1 hb1 ha2 hb2 ha3 hb3 s0 s1 s2 s3 ((((((intW a0) + (intW a1)) + (intW a2)) + (intW a3))).tdiv 4) (rngI (-16384) 16384 ((((((intW a0) + (intW a1)) + (intW a2)) + (intW a3))).tdiv 4)) g (fun j => ?_) j
    exact p37i_0 hE a0 b0 a1 b1 a2 b2 a3 b3 (intW a0) (intW b0) (intW a1) (intW b1) (intW a2) (intW b2) (intW a3) (intW b3) s0 s1 s2 s3 ((((((intW a0) + (intW a1)) + (intW a2)) + (intW a3))).tdiv 4) (rngI (-16384) 16384 ((((((intW a0) + (intW a1)) + (intW a2)) + (intW a3))).tdiv 4)) g (eqTf (neT c1)) (eqTf (neT c1)) (eqTf (neT c1)) (eqTf (neT c1)) (neT c1) (fun j => outK_ret (ends_ret (by kernel_rfl))) j

theorem t41_4 (hE : EnvOk E) {a0 b0 : Nat} {a1 b1 : Nat} {a2 b2 : Nat} {a3 b3 : Nat} (_ha0 : chkW 4096 a0 = 0) (_hb0 : chkW 4096 b0 = 0) (_ha1 : chkW 4096 a1 = 0) (_hb1 : chkW 4096 b1 = 0) (_ha2 : chkW 4096 a2 = 0) (_hb2 : chkW 4096 b2 = 0) (_ha3 : chkW 4096 a3 = 0) (_hb3 : chkW 4096 b3 = 0) (q e : Int) (g : Bool) (j : Nat → Value) : OutK E 0 0 (q41_4 a0 b0 a1 b1 a2 b2 a3 b3 (intW a0) (intW b0) (intW a1) (intW b1) (intW a2) (intW b2) (intW a3) (intW b3) (sq0 a0 b0 a1 b1 a2 b2 a3 b3) (sq1 a0 b0 a1 b1 a2 b2 a3 b3) (sq2 a0 b0 a1 b1 a2 b2 a3 b3) (sq3 a0 b0 a1 b1 a2 b2 a3 b3) q e g j) (Go.Ev.Ends E Tryz.f41 (.tup [.agg (unR true a0 b0 a1 b1 a2 b2 a3 b3), .one (.v (.int .i64 (unE true)))]) [some ⟨unR true a0 b0 a1 b1 a2 b2 a3 b3, 4, 56, true, .cells⟩]) :=
  p41x hE a0 b0 a1 b1 a2 b2 a3 b3 (intW a0) (intW b0) (intW a1) (intW b1) (intW a2) (intW b2) (intW a3) (intW b3) (sq0 a0 b0 a1 b1 a2 b2 a3 b3) (sq1 a0 b0 a1 b1 a2 b2 a3 b3) (sq2 a0 b0 a1 b1 a2 b2 a3 b3) (sq3 a0 b0 a1 b1 a2 b2 a3 b3) q e g (fun j => outK_ret (ends_ret (by kernel_rfl))) j

theorem A41_3 (hE : EnvOk E) {a0 b0 : Nat} {a1 b1 : Nat} {a2 b2 : Nat} {a3 b3 : Nat} (ha0 : chkW 4096 a0 = 0) (hb0 : chkW 4096 b0 = 0) (ha1 : chkW 4096 a1 = 0) (hb1 : chkW 4096 b1 = 0) (ha2 : chkW 4096 a2 = 0) (hb2 : chkW 4096 b2 = 0) (ha3 : chkW 4096 a3 = 0) (hb3 : chkW 4096 b3 = 0) (s0 s1 s2 s3 : Nat) (q e : Int) (g : Bool) {Φ : Res → Prop} (ho : ∀ j, OutK E 0 0 (r41_3 a0 b0 a1 b1 a2 b2 a3 b3 (intW a0) (intW b0) (intW a1) (intW b1) (intW a2) (intW b2) (intW a3) (intW b3) s0 s1 s2 s3 q e g j) Φ) (j : Nat → Value) : OutK E 0 0 (q41_3 a0 b0 a1 b1 a2 b2 a3 b3 (intW a0) (intW b0) (intW a1) (intW b1) (intW a2) (intW b2) (intW a3) (intW b3) s0 s1 s2 s3 q e g j) Φ := by
  have ga0 := (chk_zero ha0).2.2
  have gb0 := (chk_zero hb0).2.2
  have ga1 := (chk_zero ha1).2.2
  have gb1 := (chk_zero hb1).2.2
  have ga2 := (chk_zero ha2).2.2
  have gb2 := (chk_zero hb2).2.2
  have ga3 := (chk_zero ha3).2.2
  have gb3 := (chk_zero hb3).2.2
  exact p41A_3 hE a0 b0 a1 b1 a2 b2 a3 b3 (intW a0) (intW b0) (intW a1) (intW b1) (intW a2) (intW b2) (intW a3) (intW b3) s0 s1 s2 s3 q e g (k65 hE (L := 4096) (by decide) ha0) (k65 hE (L := 4096) (by decide) hb0) (K109_0 hE (by decide)) (K108 hE (by unfold Sm; omega) (by unfold Sm; omega) (by unfold Sm; omega) (by unfold Sm; omega) (by omega) (by omega)) (K107 hE (by omega) (by omega) (by omega) (by omega) (by omega) (by omega)) (k65 hE (L := 4096) (by decide) ha1) (k65 hE (L := 4096) (by decide) hb1) (K109_3 hE (by decide)) (K108 hE (by unfold Sm; omega) (by unfold Sm; omega) (by unfold Sm; omega) (by unfold Sm; omega) (by omega) (by omega)) (K107 hE (by omega) (by omega) (by omega) (by omega) (by omega) (by omega)) (k65 hE (L := 4096) (by decide) ha2) (k65 hE (L := 4096) (by decide) hb2) (K109_2 hE (by decide)) (K108 hE (by unfold Sm; omega) (by unfold Sm; omega) (by unfold Sm; omega) (by unfold Sm; omega) (by omega) (by omega)) (K107 hE (by omega) (by omega) (by omega) (by omega) (by omega) (by omega)) (k65 hE (L := 4096) (by decide) ha3) (k65 hE (L := 4096) (by decide) hb3) (K109_1 hE (by decide)) (K108 hE (by unfold Sm; omega) (by unfold Sm; omega) (by unfold Sm; omega) (by unfold Sm; omega) (by omega) (by omega)) (K107 hE (by omega) (by omega) (by omega) (by omega) (by omega) (by omega)) ho j

theorem t41_3 (hE : EnvOk E) {a0 b0 : Nat} {a1 b1 : Nat} {a2 b2 : Nat} {a3 b3 : Nat} (ha0 : chkW 4096 a0 = 0) (hb0 : chkW 4096 b0 = 0) (ha1 : chkW 4096 a1 = 0) (hb1 : chkW 4096 b1 = 0) (ha2 : chkW 4096 a2 = 0) (hb2 : chkW 4096 b2 = 0) (ha3 : chkW 4096 a3 = 0) (hb3 : chkW 4096 b3 = 0) (s3 : Nat) (q e : Int) (g : Bool) (j : Nat → Value) : OutK E 0 0 (q41_3 a0 b0 a1 b1 a2 b2 a3 b3 (intW a0) (intW b0) (intW a1) (intW b1) (intW a2) (intW b2) (intW a3) (intW b3) (sq0 a0 b0 a1 b1 a2 b2 a3 b3) (sq1 a0 b0 a1 b1 a2 b2 a3 b3) (sq2 a0 b0 a1 b1 a2 b2 a3 b3) s3 q e g j) (Go.Ev.Ends E Tryz.f41 (.tup [.agg (unR (oq3 a0 b0 a1 b1 a2 b2 a3 b3 && true) a0 b0 a1 b1 a2 b2 a3 b3), .one (.v (.int .i64 (unE (oq3 a0 b0 a1 b1 a2 b2 a3 b3 && true))))]) [some ⟨unR (oq3 a0 b0 a1 b1 a2 b2 a3 b3 && true) a0 b0 a1 b1 a2 b2 a3 b3, 4, 56, true, .cells⟩]) := by
  have ga0 := (chk_zero ha0).2.2
  have gb0 := (chk_zero hb0).2.2
  have ga1 := (chk_zero ha1).2.2
  have gb1 := (chk_zero hb1).2.2
  have ga2 := (chk_zero ha2).2.2
  have gb2 := (chk_zero hb2).2.2
  have ga3 := (chk_zero ha3).2.2
  have gb3 := (chk_zero hb3).2.2
  have hq : ((((((intW a0) + (intW b1)) + (-(intW a2))) + (-(intW b3)))).tdiv 4).natAbs ≤ 2 ^ 40 := tdiv4 (by omega)
  by_cases c1 : ((((intW b0) + (-(intW a1))) + (-(intW b2))) + (intW a3)) = 0
  · by_cases c2 : (((((intW a0) + (intW b1)) + (-(intW a2))) + (-(intW b3)))).tmod 4 = 0
    · by_cases c3 : (rngI (-16384) 16384 ((((((intW a0) + (intW b1)) + (-(intW a2))) + (-(intW b3)))).tdiv 4)) = 0
      · have hok : oq3 a0 b0 a1 b1 a2 b2 a3 b3 = true := okU_t c1 c2 c3
        have hs : ((((((intW a0) + (intW b1)) + (-(intW a2))) + (-(intW b3)))).tdiv 4).natAbs < 2 ^ 24 := by
          unfold rngI at c3
          split at c3
          · omega
          · omega
        have c3 : (lrg ((((((intW a0) + (intW b1)) + (-(intW a2))) + (-(intW b3)))).tdiv 4)) = false := by rw [rng_lrg]; simpa using c3
        rw [hok, Bool.true_and]
        refine A41_3 hE ha0 hb0 ha1 hb1 ha2 hb2 ha3 hb3 (sq0 a0 b0 a1 b1 a2 b2 a3 b3) (sq1 a0 b0 a1 b1 a2 b2 a3 b3) (sq2 a0 b0 a1 b1 a2 b2 a3 b3) (smpW ((((((intW a0) + (intW b1)) + (-(intW a2))) + (-(intW b3)))).tdiv 4)) ((((((intW a0) + (intW b1)) + (-(intW a2))) + (-(intW b3)))).tdiv 4) e (lrg ((((((intW a0) + (intW b1)) + (-(intW a2))) + (-(intW b3)))).tdiv 4)) (fun j => ?_) j
        exact p41p_3 hE a0 b0 a1 b1 a2 b2 a3 b3 (intW a0) (intW b0) (intW a1) (intW b1) (intW a2) (intW b2) (intW a3) (intW b3) (sq0 a0 b0 a1 b1 a2 b2 a3 b3) (sq1 a0 b0 a1 b1 a2 b2 a3 b3) (sq2 a0 b0 a1 b1 a2 b2 a3 b3) (smpW ((((((intW a0) + (intW b1)) + (-(intW a2))) + (-(intW b3)))).tdiv 4)) ((((((intW a0) + (intW b1)) + (-(intW a2))) + (-(intW b3)))).tdiv 4) e (lrg ((((((intW a0) + (intW b1)) + (-(intW a2))) + (-(intW b3)))).tdiv 4)) (eqFt (neF c1)) (eqFt (neF c1)) (eqFt (neF c1)) (eqFt (neF c1)) (neF c1) (eqFt (neF c2)) (eqFt (neF c2)) (eqFt (neF c2)) (iIe (wr (by omega))) (eqFt (neF c2)) (K110 hE _) (neF c2) (c3) (iIe (wr (by omega))) (k64 hE hs) (t41_4 hE ha0 hb0 ha1 hb1 ha2 hb2 ha3 hb3  0 0 false) j
      · have hok : oq3 a0 b0 a1 b1 a2 b2 a3 b3 = false := okU_f fun h => c3 h.2.2
        have c3 : (lrg ((((((intW a0) + (intW b1)) + (-(intW a2))) + (-(intW b3)))).tdiv 4)) = true := by rw [rng_lrg]; simpa using c3
        rw [hok, Bool.false_and]
        refine A41_3 hE ha0 hb0 ha1 hb1 ha2 hb2 ha3 hb3 (sq0 a0 b0 a1 b1 a2 b2 a3 b3) (sq1 a0 b0 a1 b1 a2 b2 a3 b3) (sq2 a0 b0 a1 b1 a2 b2 a3 b3) s3 ((((((intW a0) + (intW b1)) + (-(intW a2))) + (-(intW b3)))).tdiv 4) e (lrg ((((((intW a0) + (intW b1)) + (-(intW a2))) + (-(intW b3)))).tdiv 4)) (fun j => ?_) j
        exact p41w_3 hE a0 b0 a1 b1 a2 b2 a3 b3 (intW a0) (intW b0) (intW a1) (intW b1) (intW a2) (intW b2) (intW a3) (intW b3) (sq0 a0 b0 a1 b1 a2 b2 a3 b3) (sq1 a0 b0 a1 b1 a2 b2 a3 b3) (sq2 a0 b0 a1 b1 a2 b2 a3 b3) s3 ((((((intW a0) + (intW b1)) + (-(intW a2))) + (-(intW b3)))).tdiv 4) e (lrg ((((((intW a0) + (intW b1)) + (-(intW a2))) + (-(intW b3)))).tdiv 4)) (eqFt (neF c1)) (eqFt (neF c1)) (eqFt (neF c1)) (eqFt (neF c1)) (neF c1) (eqFt (neF c2)) (eqFt (neF c2)) (eqFt (neF c2)) (iIe (wr (by omega))) (eqFt (neF c2)) (K110 hE _) (neF c2) (c3) (fun j => outK_ret (ends_ret (by kernel_rfl))) j
    · have hok : oq3 a0 b0 a1 b1 a2 b2 a3 b3 = false := okU_f fun h => c2 h.2.1
      rw [hok, Bool.false_and]
      refine A41_3 hE ha0 hb0 ha1 hb1 ha2 hb2 ha3 hb3 (sq0 a0 b0 a1 b1 a2 b2 a3 b3) (sq1 a0 b0 a1 b1 a2 b2 a3 b3) (sq2 a0 b0 a1 b1 a2 b2 a3 b3) s3 ((((((intW a0) + (intW b1)) + (-(intW a2))) + (-(intW b3)))).tdiv 4) e (lrg ((((((intW a0) + (intW b1)) + (-(intW a2))) + (-(intW b3)))).tdiv 4)) (fun j => ?_) j
      exact p41r_3 hE a0 b0 a1 b1 a2 b2 a3 b3 (intW a0) (intW b0) (intW a1) (intW b1) (intW a2) (intW b2) (intW a3) (intW b3) (sq0 a0 b0 a1 b1 a2 b2 a3 b3) (sq1 a0 b0 a1 b1 a2 b2 a3 b3) (sq2 a0 b0 a1 b1 a2 b2 a3 b3) s3 ((((((intW a0) + (intW b1)) + (-(intW a2))) + (-(intW b3)))).tdiv 4) e (lrg ((((((intW a0) + (intW b1)) + (-(intW a2))) + (-(intW b3)))).tdiv 4)) (eqFt (neF c1)) (eqFt (neF c1)) (eqFt (neF c1)) (eqFt (neF c1)) (neF c1) (eqTf (neT c2)) (eqTf (neT c2)) (eqTf (neT c2)) (eqTf (neT c2)) (neT c2) (fun j => outK_ret (ends_ret (by kernel_rfl))) j
  · have hok : oq3 a0 b0 a1 b1 a2 b2 a3 b3 = false := okU_f fun h => c1 h.1
    rw [hok, Bool.false_and]
    refine A41_3 hE ha0 hb0 ha1 hb1 ha2 hb2 ha3 hb3 (sq0 a0 b0 a1 b1 a2 b2 a3 b3) (sq1 a0 b0 a1 b1 a2 b2 a3 b3) (sq2 a0 b0 a1 b1 a2 b2 a3 b3) s3 ((((((intW a0) + (intW b1)) + (-(intW a2))) + (-(intW b3)))).tdiv 4) e (lrg ((((((intW a0) + (intW b1)) + (-(intW a2))) + (-(intW b3)))).tdiv 4)) (fun j => ?_) j
    exact p41i_3 hE a0 b0 a1 b1 a2 b2 a3 b3 (intW a0) (intW b0) (intW a1) (intW b1) (intW a2) (intW b2) (intW a3) (intW b3) (sq0 a0 b0 a1 b1 a2 b2 a3 b3) (sq1 a0 b0 a1 b1 a2 b2 a3 b3) (sq2 a0 b0 a1 b1 a2 b2 a3 b3) s3 ((((((intW a0) + (intW b1)) + (-(intW a2))) + (-(intW b3)))).tdiv 4) e (lrg ((((((intW a0) + (intW b1)) + (-(intW a2))) + (-(intW b3)))).tdiv 4)) (eqTf (neT c1)) (eqTf (neT c1)) (eqTf (neT c1)) (eqTf (neT c1)) (neT c1) (fun j => outK_ret (ends_ret (by kernel_rfl))) j

theorem A41_2 (hE : EnvOk E) {a0 b0 : Nat} {a1 b1 : Nat} {a2 b2 : Nat} {a3 b3 : Nat} (ha0 : chkW 4096 a0 = 0) (hb0 : chkW 4096 b0 = 0) (ha1 : chkW 4096 a1 = 0) (hb1 : chkW 4096 b1 = 0) (ha2 : chkW 4096 a2 = 0) (hb2 : chkW 4096 b2 = 0) (ha3 : chkW 4096 a3 = 0) (hb3 : chkW 4096 b3 = 0) (s0 s1 s2 s3 : Nat) (q e : Int) (g : Bool) {Φ : Res → Prop} (ho : ∀ j, OutK E 0 0 (r41_2 a0 b0 a1 b1 a2 b2 a3 b3 (intW a0) (intW b0) (intW a1) (intW b1) (intW a2) (intW b2) (intW a3) (intW b3) s0 s1 s2 s3 q e g j) Φ) (j : Nat → Value) : OutK E 0 0 (q41_2 a0 b0 a1 b1 a2 b2 a3 b3 (intW a0) (intW b0) (intW a1) (intW b1) (intW a2) (intW b2) (intW a3) (intW b3) s0 s1 s2 s3 q e g j) Φ := by
  have ga0 := (chk_zero ha0).2.2
  have gb0 := (chk_zero hb0).2.2
  have ga1 := (chk_zero ha1).2.2
  have gb1 := (chk_zero hb1).2.2
  have ga2 := (chk_zero ha2).2.2
  have gb2 := (chk_zero hb2).2.2
  have ga3 := (chk_zero ha3).2.2
  have gb3 := (chk_zero hb3).2.2
  exact p41A_2 hE a0 b0 a1 b1 a2 b2 a3 b3 (intW a0) (intW b0) (intW a1) (intW b1) (intW a2) (intW b2) (intW a3) (intW b3) s0 s1 s2 s3 q e g (k65 hE (L := 4096) (by decide) ha0) (k65 hE (L := 4096) (by decide) hb0) (K109_0 hE (by decide)) (K108 hE (by unfold Sm; omega) (by unfold Sm; omega) (by unfold Sm; omega) (by unfold Sm; omega) (by omega) (by omega)) (K107 hE (by omega) (by omega) (by omega) (by omega) (by omega) (by omega)) (k65 hE (L := 4096) (by decide) ha1) (k65 hE (L := 4096) (by decide) hb1) (K109_2 hE (by decide)) (K108 hE (by unfold Sm; omega) (by unfold Sm; omega) (by unfold Sm; omega) (by unfold Sm; omega) (by omega) (by omega)) (K107 hE (by omega) (by omega) (by omega) (by omega) (by omega) (by omega)) (k65 hE (L := 4096) (by decide) ha2) (k65 hE (L := 4096) (by decide) hb2) (K109_0 hE (by decide)) (K108 hE (by unfold Sm; omega) (by unfold Sm; omega) (by unfold Sm; omega) (by unfold Sm; omega) (by omega) (by omega)) (K107 hE (by omega) (by omega) (by omega) (by omega) (by omega) (by omega)) (k65 hE (L := 4096) (by decide) ha3) (k65 hE (L := 4096) (by decide) hb3) (K109_2 hE (by decide)) (K108 hE (by unfold Sm; omega) (by unfold Sm; omega) (by unfold Sm; omega) (by unfold Sm; omega) (by omega) (by omega)) (K107 hE (by omega) (by omega) (by omega) (by omega) (by omega) (by omega)) ho j

theorem t41_2 (hE : EnvOk E) {a0 b0 : Nat} {a1 b1 : Nat} {a2 b2 : Nat} {a3 b3 : Nat} (ha0 : chkW 4096 a0 = 0) (hb0 : chkW 4096 b0 = 0) (ha1 : chkW 4096 a1 = 0) (hb1 : chkW 4096 b1 = 0) (ha2 : chkW 4096 a2 = 0) (hb2 : chkW 4096 b2 = 0) (ha3 : chkW 4096 a3 = 0) (hb3 : chkW 4096 b3 = 0) (s2 s3 : Nat) (q e : Int) (g : Bool) (j : Nat → Value) : OutK E 0 0 (q41_2 a0 b0 a1 b1 a2 b2 a3 b3 (intW a0) (intW b0) (intW a1) (intW b1) (intW a2) (intW b2) (intW a3) (intW b3) (sq0 a0 b0 a1 b1 a2 b2 a3 b3) (sq1 a0 b0 a1 b1 a2 b2 a3 b3) s2 s3 q e g j) (Go.Ev.Ends E Tryz.f41 (.tup [.agg (unR (oq2 a0 b0 a1 b1 a2 b2 a3 b3 && (oq3 a0 b0 a1 b1 a2 b2 a3 b3 && true)) a0 b0 a1 b1 a2 b2 a3 b3), .one (.v (.int .i64 (unE (oq2 a0 b0 a1 b1 a2 b2 a3 b3 && (oq3 a0 b0 a1 b1 a2 b2 a3 b3 && true)))))]) [some ⟨unR (oq2 a0 b0 a1 b1 a2 b2 a3 b3 && (oq3 a0 b0 a1 b1 a2 b2 a3 b3 && true)) a0 b0 a1 b1 a2 b2 a3 b3, 4, 56, true, .cells⟩]) := by
  have ga0 := (chk_zero ha0).2.2
  have gb0 := (chk_zero hb0).2.2
  have ga1 := (chk_zero ha1).2.2
  have gb1 := (chk_zero hb1).2.2
  have ga2 := (chk_zero ha2).2.2
  have gb2 := (chk_zero hb2).2.2
  have ga3 := (chk_zero ha3).2.2
  have gb3 := (chk_zero hb3).2.2
  have hq : ((((((intW a0) + (-(intW a1))) + (intW a2)) + (-(intW a3)))).tdiv 4).natAbs ≤ 2 ^ 40 := tdiv4 (by omega)
  by_cases c1 : ((((intW b0) + (-(intW b1))) + (intW b2)) + (-(intW b3))) = 0
  · by_cases c2 : (((((intW a0) + (-(intW a1))) + (intW a2)) + (-(intW a3)))).tmod 4 = 0
    · by_cases c3 : (rngI (-16384) 16384 ((((((intW a0) + (-(intW a1))) + (intW a2)) + (-(intW a3)))).tdiv 4)) = 0
      · have hok : oq2 a0 b0 a1 b1 a2 b2 a3 b3 = true := okU_t c1 c2 c3
        have hs : ((((((intW a0) + (-(intW a1))) + (intW a2)) + (-(intW a3)))).tdiv 4).natAbs < 2 ^ 24 := by
          unfold rngI at c3
          split at c3
          · omega
          · omega
        have c3 : (lrg ((((((intW a0) + (-(intW a1))) + (intW a2)) + (-(intW a3)))).tdiv 4)) = false := by rw [rng_lrg]; simpa using c3
        rw [hok, Bool.true_and]
        refine A41_2 hE ha0 hb0 ha1 hb1 ha2 hb2 ha3 hb3 (sq0 a0 b0 a1 b1 a2 b2 a3 b3) (sq1 a0 b0 a1 b1 a2 b2 a3 b3) (smpW ((((((intW a0) + (-(intW a1))) + (intW a2)) + (-(intW a3)))).tdiv 4)) s3 ((((((intW a0) + (-(intW a1))) + (intW a2)) + (-(intW a3)))).tdiv 4) e (lrg ((((((intW a0) + (-(intW a1))) + (intW a2)) + (-(intW a3)))).tdiv 4)) (fun j => ?_) j
        exact p41p_2 hE a0 b0 a1 b1 a2 b2 a3 b3 (intW a0) (intW b0) (intW a1) (intW b1) (intW a2) (intW b2) (intW a3) (intW b3) (sq0 a0 b0 a1 b1 a2 b2 a3 b3) (sq1 a0 b0 a1 b1 a2 b2 a3 b3) (smpW ((((((intW a0) + (-(intW a1))) + (intW a2)) + (-(intW a3)))).tdiv 4)) s3 ((((((intW a0) + (-(intW a1))) + (intW a2)) + (-(intW a3)))).tdiv 4) e (lrg ((((((intW a0) + (-(intW a1))) + (intW a2)) + (-(intW a3)))).tdiv 4)) (eqFt (neF c1)) (eqFt (neF c1)) (eqFt (neF c1)) (eqFt (neF c1)) (neF c1) (eqFt (neF c2)) (eqFt (neF c2)) (eqFt (neF c2)) (iIe (wr (by omega))) (eqFt (neF c2)) (K110 hE _) (neF c2) (c3) (iIe (wr (by omega))) (k64 hE hs) (t41_3 hE ha0 hb0 ha1 hb1 ha2 hb2 ha3 hb3 s3 0 0 false) j
      · have hok : oq2 a0 b0 a1 b1 a2 b2 a3 b3 = false := okU_f fun h => c3 h.2.2
        have c3 : (lrg ((((((intW a0) + (-(intW a1))) + (intW a2)) + (-(intW a3)))).tdiv 4)) = true := by rw [rng_lrg]; simpa using c3
        rw [hok, Bool.false_and]
        refine A41_2 hE ha0 hb0 ha1 hb1 ha2 hb2 ha3 hb3 (sq0 a0 b0 a1 b1 a2 b2 a3 b3) (sq1 a0 b0 a1 b1 a2 b2 a3 b3) s2 s3 ((((((intW a0) + (-(intW a1))) + (intW a2)) + (-(intW a3)))).tdiv 4) e (lrg ((((((intW a0) + (-(intW a1))) + (intW a2)) + (-(intW a3)))).tdiv 4)) (fun j => ?_) j
        exact p41w_2 hE a0 b0 a1 b1 a2 b2 a3 b3 (intW a0) (intW b0) (intW a1) (intW b1) (intW a2) (intW b2) (intW a3) (intW b3) (sq0 a0 b0 a1 b1 a2 b2 a3 b3) (sq1 a0 b0 a1 b1 a2 b2 a3 b3) s2 s3 ((((((intW a0) + (-(intW a1))) + (intW a2)) + (-(intW a3)))).tdiv 4) e (lrg ((((((intW a0) + (-(intW a1))) + (intW a2)) + (-(intW a3)))).tdiv 4)) (eqFt (neF c1)) (eqFt (neF c1)) (eqFt (neF c1)) (eqFt (neF c1)) (neF c1) (eqFt (neF c2)) (eqFt (neF c2)) (eqFt (neF c2)) (iIe (wr (by omega))) (eqFt (neF c2)) (K110 hE _) (neF c2) (c3) (fun j => outK_ret (ends_ret (by kernel_rfl))) j
    · have hok : oq2 a0 b0 a1 b1 a2 b2 a3 b3 = false := okU_f fun h => c2 h.2.1
      rw [hok, Bool.false_and]
      refine A41_2 hE ha0 hb0 ha1 hb1 ha2 hb2 ha3 hb3 (sq0 a0 b0 a1 b1 a2 b2 a3 b3) (sq1 a0 b0 a1 b1 a2 b2 a3 b3) s2 s3 ((((((intW a0) + (-(intW a1))) + (intW a2)) + (-(intW a3)))).tdiv 4) e (lrg ((((((intW a0) + (-(intW a1))) + (intW a2)) + (-(intW a3)))).tdiv 4)) (fun j => ?_) j
      exact p41r_2 hE a0 b0 a1 b1 a2 b2 a3 b3 (intW a0) (intW b0) (intW a1) (intW b1) (intW a2) (intW b2) (intW a3) (intW b3) (sq0 a0 b0 a1 b1 a2 b2 a3 b3) (sq1 a0 b0 a1 b1 a2 b2 a3 b3) s2 s3 ((((((intW a0) + (-(intW a1))) + (intW a2)) + (-(intW a3)))).tdiv 4) e (lrg ((((((intW a0) + (-(intW a1))) + (intW a2)) + (-(intW a3)))).tdiv 4)) (eqFt (neF c1)) (eqFt (neF c1)) (eqFt (neF c1)) (eqFt (neF c1)) (neF c1) (eqTf (neT c2)) (eqTf (neT c2)) (eqTf (neT c2)) (eqTf (neT c2)) (neT c2) (fun j => outK_ret (ends_ret (by kernel_rfl))) j
  · have hok : oq2 a0 b0 a1 b1 a2 b2 a3 b3 = false := okU_f fun h => c1 h.1
    rw [hok, Bool.false_and]
    refine A41_2 hE ha0 hb0 ha1 hb1 ha2 hb2 ha3 hb3 (sq0 a0 b0 a1 b1 a2 b2 a3 b3) (sq1 a0 b0 a1 b1 a2 b2 a3 b3) s2 s3 ((((((intW a0) + (-(intW a1))) + (intW a2)) + (-(intW a3)))).tdiv 4) e (lrg ((((((intW a0) + (-(intW a1))) + (intW a2)) + (-(intW a3)))).tdiv 4)) (fun j => ?_) j
    exact p41i_2 hE a0 b0 a1 b1 a2 b2 a3 b3 (intW a0) (intW b0) (intW a1) (intW b1) (intW a2) (intW b2) (intW a3) (intW b3) (sq0 a0 b0 a1 b1 a2 b2 a3 b3) (sq1 a0 b0 a1 b1 a2 b2 a3 b3) s2 s3 ((((((intW a0) + (-(intW a1))) + (intW a2)) + (-(intW a3)))).tdiv 4) e (lrg ((((((intW a0) + (-(intW a1))) + (intW a2)) + (-(intW a3)))).tdiv 4)) (eqTf (neT c1)) (eqTf (neT c1)) (eqTf (neT c1)) (eqTf (neT c1)) (neT c1) (fun j => outK_ret (ends_ret (by kernel_rfl))) j

theorem A41_1 (hE : EnvOk E) {a0 b0 : Nat} {a1 b1 : Nat} {a2 b2 : Nat} {a3 b3 : Nat} (ha0 : chkW 4096 a0 = 0) (hb0 : chkW 4096 b0 = 0) (ha1 : chkW 4096 a1 = 0) (hb1 : chkW 4096 b1 = 0) (ha2 : chkW 4096 a2 = 0) (hb2 : chkW 4096 b2 = 0) (ha3 : chkW 4096 a3 = 0) (hb3 : chkW 4096 b3 = 0) (s0 s1 s2 s3 : Nat) (q e : Int) (g : Bool) {Φ : Res → Prop} (ho : ∀ j, OutK E 0 0 (r41_1 a0 b0 a1 b1 a2 b2 a3 b3 (intW a0) (intW b0) (intW a1) (intW b1) (intW a2) (intW b2) (intW a3) (intW b3) s0 s1 s2 s3 q e g j) Φ) (j : Nat → Value) : OutK E 0 0 (q41_1 a0 b0 a1 b1 a2 b2 a3 b3 (intW a0) (intW b0) (intW a1) (intW b1) (intW a2) (intW b2) (intW a3) (intW b3) s0 s1 s2 s3 q e g j) Φ := by
  have ga0 := (chk_zero ha0).2.2
  have gb0 := (chk_zero hb0).2.2
  have ga1 := (chk_zero ha1).2.2
  have gb1 := (chk_zero hb1).2.2
  have ga2 := (chk_zero ha2).2.2
  have gb2 := (chk_zero hb2).2.2
  have ga3 := (chk_zero ha3).2.2
  have gb3 := (chk_zero hb3).2.2
  exact p41A_1 hE a0 b0 a1 b1 a2 b2 a3 b3 (intW a0) (intW b0) (intW a1) (intW b1) (intW a2) (intW b2) (intW a3) (intW b3) s0 s1 s2 s3 q e g (k65 hE (L := 4096) (by decide) ha0) (k65 hE (L := 4096) (by decide) hb0) (K109_0 hE (by decide)) (K108 hE (by unfold Sm; omega) (by unfold Sm; omega) (by unfold Sm; omega) (by unfold Sm; omega) (by omega) (by omega)) (K107 hE (by omega) (by omega) (by omega) (by omega) (by omega) (by omega)) (k65 hE (L := 4096) (by decide) ha1) (k65 hE (L := 4096) (by decide) hb1) (K109_1 hE (by decide)) (K108 hE (by unfold Sm; omega) (by unfold Sm; omega) (by unfold Sm; omega) (by unfold Sm; omega) (by omega) (by omega)) (K107 hE (by omega) (by omega) (by omega) (by omega) (by omega) (by omega)) (k65 hE (L := 4096) (by decide) ha2) (k65 hE (L := 4096) (by decide) hb2) (K109_2 hE (by decide)) (K108 hE (by unfold Sm; omega) (by unfold Sm; omega) (by unfold Sm; omega) (by unfold Sm; omega) (by omega) (by omega)) (K107 hE (by omega) (by omega) (by omega) (by omega) (by omega) (by omega)) (k65 hE (L := 4096) (by decide) ha3) (k65 hE (L := 4096) (by decide) hb3) (K109_3 hE (by decide)) (K108 hE (by unfold Sm; omega) (by unfold Sm; omega) (by unfold Sm; omega) (by unfold Sm; omega) (by omega) (by omega)) (K107 hE (by omega) (by omega) (by omega) (by omega) (by omega) (by omega)) ho j

theorem t41_1 (hE : EnvOk E) {a0 b0 : Nat} {a1 b1 : Nat} {a2 b2 : Nat} {a3 b3 : Nat} (ha0 : chkW 4096 a0 = 0) (hb0 : chkW 4096 b0 = 0) (ha1 : chkW 4096 a1 = 0) (hb1 : chkW 4096 b1 = 0) (ha2 : chkW 4096 a2 = 0) (hb2 : chkW 4096 b2 = 0) (ha3 : chkW 4096 a3 = 0) (hb3 : chkW 4096 b3 = 0) (s1 s2 s3 : Nat) (q e : Int) (g : Bool) (j : Nat → Value) : OutK E 0 0 (q41_1 a0 b0 a1 b1 a2 b2 a3 b3 (intW a0) (intW b0) (intW a1) (intW b1) (intW a2) (intW b2) (intW a3) (intW b3) (sq0 a0 b0 a1 b1 a2 b2 a3 b3) s1 s2 s3 q e g j) (Go.Ev.Ends E Tryz.f41 (.tup [.agg (unR (oq1 a0 b0 a1 b1 a2 b2 a3 b3 && (oq2 a0 b0 a1 b1 a2 b2 a3 b3 && (oq3 a0 b0 a1 b1 a2 b2 a3 b3 && true))) a0 b0 a1 b1 a2 b2 a3 b3), .one (.v (.int .i64 (unE (oq1 a0 b0 a1 b1 a2 b2 a3 b3 && (oq2 a0 b0 a1 b1 a2 b2 a3 b3 && (oq3 a0 b0 a1 b1 a2 b2 a3 b3 && true))))))]) [some ⟨unR (oq1 a0 b0 a1 b1 a2 b2 a3 b3 && (oq2 a0 b0 a1 b1 a2 b2 a3 b3 && (oq3 a0 b0 a1 b1 a2 b2 a3 b3 && true))) a0 b0 a1 b1 a2 b2 a3 b3, 4, 56, true, .cells⟩]) := by
  have ga0 := (chk_zero ha0).2.2
  have gb0 := (chk_zero hb0).2.2
  have ga1 := (chk_zero ha1).2.2
  have gb1 := (chk_zero hb1).2.2
  have ga2 := (chk_zero ha2).2.2
  have gb2 := (chk_zero hb2).2.2
  have ga3 := (chk_zero ha3).2.2
  have gb3 := (chk_zero hb3).2.2
  have hq : ((((((intW a0) + (-(intW b1))) + (-(intW a2))) + (intW b3))).tdiv 4).natAbs ≤ 2 ^ 40 := tdiv4 (by omega)
  by_cases c1 : ((((intW b0) + (intW a1)) + (-(intW b2))) + (-(intW a3))) = 0
  · by_cases c2 : (((((intW a0) + (-(intW b1))) + (-(intW a2))) + (intW b3))).tmod 4 = 0
    · by_cases c3 : (rngI (-16384) 16384 ((((((intW a0) + (-(intW b1))) + (-(intW a2))) + (intW b3))).tdiv 4)) = 0
      · have hok : oq1 a0 b0 a1 b1 a2 b2 a3 b3 = true := okU_t c1 c2 c3
        have hs : ((((((intW a0) + (-(intW b1))) + (-(intW a2))) + (intW b3))).tdiv 4).natAbs < 2 ^ 24 := by
          unfold rngI at c3
          split at c3
          · omega
          · omega
        have c3 : (lrg ((((((intW a0) + (-(intW b1))) + (-(intW a2))) + (intW b3))).tdiv 4)) = false := by rw [rng_lrg]; simpa using c3
        rw [hok, Bool.true_and]
        refine A41_1 hE ha0 hb0 ha1 hb1 ha2 hb2 ha3 hb3 (sq0 a0 b0 a1 b1 a2 b2 a3 b3) (smpW ((((((intW a0) + (-(intW b1))) + (-(intW a2))) + (intW b3))).tdiv 4)) s2 s3 ((((((intW a0) + (-(intW b1))) + (-(intW a2))) + (intW b3))).tdiv 4) e (lrg ((((((intW a0) + (-(intW b1))) + (-(intW a2))) + (intW b3))).tdiv 4)) (fun j => ?_) j
        exact p41p_1 hE a0 b0 a1 b1 a2 b2 a3 b3 (intW a0) (intW b0) (intW a1) (intW b1) (intW a2) (intW b2) (intW a3) (intW b3) (sq0 a0 b0 a1 b1 a2 b2 a3 b3) (smpW ((((((intW a0) + (-(intW b1))) + (-(intW a2))) + (intW b3))).tdiv 4)) s2 s3 ((((((intW a0) + (-(intW b1))) + (-(intW a2))) + (intW b3))).tdiv 4) e (lrg ((((((intW a0) + (-(intW b1))) + (-(intW a2))) + (intW b3))).tdiv 4)) (eqFt (neF c1)) (eqFt (neF c1)) (eqFt (neF c1)) (eqFt (neF c1)) (neF c1) (eqFt (neF c2)) (eqFt (neF c2)) (eqFt (neF c2)) (iIe (wr (by omega))) (eqFt (neF c2)) (K110 hE _) (neF c2) (c3) (iIe (wr (by omega))) (k64 hE hs) (t41_2 hE ha0 hb0 ha1 hb1 ha2 hb2 ha3 hb3 s2 s3 0 0 false) j
      · have hok : oq1 a0 b0 a1 b1 a2 b2 a3 b3 = false := okU_f fun h => c3 h.2.2
        have c3 : (lrg ((((((intW a0) + (-(intW b1))) + (-(intW a2))) + (intW b3))).tdiv 4)) = true := by rw [rng_lrg]; simpa using c3
        rw [hok, Bool.false_and]
        refine A41_1 hE ha0 hb0 ha1 hb1 ha2 hb2 ha3 hb3 (sq0 a0 b0 a1 b1 a2 b2 a3 b3) s1 s2 s3 ((((((intW a0) + (-(intW b1))) + (-(intW a2))) + (intW b3))).tdiv 4) e (lrg ((((((intW a0) + (-(intW b1))) + (-(intW a2))) + (intW b3))).tdiv 4)) (fun j => ?_) j
        exact p41w_1 hE a0 b0 a1 b1 a2 b2 a3 b3 (intW a0) (intW b0) (intW a1) (intW b1) (intW a2) (intW b2) (intW a3) (intW b3) (sq0 a0 b0 a1 b1 a2 b2 a3 b3) s1 s2 s3 ((((((intW a0) + (-(intW b1))) + (-(intW a2))) + (intW b3))).tdiv 4) e (lrg ((((((intW a0) + (-(intW b1))) + (-(intW a2))) + (intW b3))).tdiv 4)) (eqFt (neF c1)) (eqFt (neF c1)) (eqFt (neF c1)) (eqFt (neF c1)) (neF c1) (eqFt (neF c2)) (eqFt (neF c2)) (eqFt (neF c2)) (iIe (wr (by omega))) (eqFt (neF c2)) (K110 hE _) (neF c2) (c3) (fun j => outK_ret (ends_ret (by kernel_rfl))) j
    · have hok : oq1 a0 b0 a1 b1 a2 b2 a3 b3 = false := okU_f fun h => c2 h.2.1
      rw [hok, Bool.false_and]
      refine A41_1 hE ha0 hb0 ha1 hb1 ha2 hb2 ha3 hb3 (sq0 a0 b0 a1 b1 a2 b2 a3 b3) s1 s2 s3 ((((((intW a0) + (-(intW b1))) + (-(intW a2))) + (intW b3))).tdiv 4) e (lrg ((((((intW a0) + (-(intW b1))) + (-(intW a2))) + (intW b3))).tdiv 4)) (fun j => ?_) j
      exact p41r_1 hE a0 b0 a1 b1 a2 b2 a3 b3 (intW a0) (intW b0) (intW a1) (intW b1) (intW a2) (intW b2) (intW a3) (intW b3) (sq0 a0 b0 a1 b1 a2 b2 a3 b3) s1 s2 s3 ((((((intW a0) + (-(intW b1))) + (-(intW a2))) + (intW b3))).tdiv 4) e (lrg ((((((intW a0) + (-(intW b1))) + (-(intW a2))) + (intW b3))).tdiv 4)) (eqFt (neF c1)) (eqFt (neF c1)) (eqFt (neF c1)) (eqFt (neF c1)) (neF c1) (eqTf (neT c2)) (eqTf (neT c2)) (eqTf (neT c2)) (eqTf (neT c2)) (neT c2) (fun j => outK_ret (ends_ret (by kernel_rfl))) j
  · have hok : oq1 a0 b0 a1 b1 a2 b2 a3 b3 = false := okU_f fun h => c1 h.1
    rw [hok, Bool.false_and]
    refine A41_1 hE ha0 hb0 ha1 hb1 ha2 hb2 ha3 hb3 (sq0 a0 b0 a1 b1 a2 b2 a3 b3) s1 s2 s3 ((((((intW a0) + (-(intW b1))) + (-(intW a2))) + (intW b3))).tdiv 4) e (lrg ((((((intW a0) + (-(intW b1))) + (-(intW a2))) + (intW b3))).tdiv 4)) (fun j => ?_) j
    exact p41i_1 hE a0 b0 a1 b1 a2 b2 a3 b3 (intW a0) (intW b0) (intW a1) (intW b1) (intW a2) (intW b2) (intW a3) (intW b3) (sq0 a0 b0 a1 b1 a2 b2 a3 b3) s1 s2 s3 ((((((intW a0) + (-(intW b1))) + (-(intW a2))) + (intW b3))).tdiv 4) e (lrg ((((((intW a0) + (-(intW b1))) + (-(intW a2))) + (intW b3))).tdiv 4)) (eqTf (neT c1)) (eqTf (neT c1)) (eqTf (neT c1)) (eqTf (neT c1)) (neT c1) (fun j => outK_ret (ends_ret (by kernel_rfl))) j

theorem A41_0 (hE : EnvOk E) {a0 b0 : Nat} {a1 b1 : Nat} {a2 b2 : Nat} {a3 b3 : Nat} (ha0 : chkW 4096 a0 = 0) (hb0 : chkW 4096 b0 = 0) (ha1 : chkW 4096 a1 = 0) (hb1 : chkW 4096 b1 = 0) (ha2 : chkW 4096 a2 = 0) (hb2 : chkW 4096 b2 = 0) (ha3 : chkW 4096 a3 = 0) (hb3 : chkW 4096 b3 = 0) (s0 s1 s2 s3 : Nat) (q e : Int) (g : Bool) {Φ : Res → Prop} (ho : ∀ j, OutK E 0 0 (r41_0 a0 b0 a1 b1 a2 b2 a3 b3 (intW a0) (intW b0) (intW a1) (intW b1) (intW a2) (intW b2) (intW a3) (intW b3) s0 s1 s2 s3 q e g j) Φ) (j : Nat → Value) : OutK E 0 0 (q41_0 a0 b0 a1 b1 a2 b2 a3 b3 (intW a0) (intW b0) (intW a1) (intW b1) (intW a2) (intW b2) (intW a3) (intW b3) s0 s1 s2 s3 q e g j) Φ := by
  have ga0 := (chk_zero ha0).2.2
  have gb0 := (chk_zero hb0).2.2
  have ga1 := (chk_zero ha1).2.2
  have gb1 := (chk_zero hb1).2.2
  have ga2 := (chk_zero ha2).2.2
  have gb2 := (chk_zero hb2).2.2
  have ga3 := (chk_zero ha3).2.2
  have gb3 := (chk_zero hb3).2.2
  exact p41A_0 hE a0 b0 a1 b1 a2 b2 a3 b3 (intW a0) (intW b0) (intW a1) (intW b1) (intW a2) (intW b2) (intW a3) (intW b3) s0 s1 s2 s3 q e g (k65 hE (L := 4096) (by decide) ha0) (k65 hE (L := 4096) (by decide) hb0) (K109_0 hE (by decide)) (K108 hE (by unfold Sm; omega) (by unfold Sm; omega) (by unfold Sm; omega) (by unfold Sm; omega) (by omega) (by omega)) (K107 hE (by omega) (by omega) (by omega) (by omega) (by omega) (by omega)) (k65 hE (L := 4096) (by decide) ha1) (k65 hE (L := 4096) (by decide) hb1) (K109_0 hE (by decide)) (K108 hE (by unfold Sm; omega) (by unfold Sm; omega) (by unfold Sm; omega) (by unfold Sm; omega) (by omega) (by omega)) (K107 hE (by omega) (by omega) (by omega) (by omega) (by omega) (by omega)) (k65 hE (L := 4096) (by decide) ha2) (k65 hE (L := 4096) (by decide) hb2) (K109_0 hE (by decide)) (K108 hE (by unfold Sm; omega) (by unfold Sm; omega) (by unfold Sm; omega) (by unfold Sm; omega) (by omega) (by omega)) (K107 hE (by omega) (by omega) (by omega) (by omega) (by omega) (by omega)) (k65 hE (L := 4096) (by decide) ha3) (k65 hE (L := 4096) (by decide) hb3) (K109_0 hE (by decide)) (K108 hE (by unfold Sm; omega) (by unfold Sm; omega) (by unfold Sm; omega) (by unfold Sm; omega) (by omega) (by omega)) (K107 hE (by omega) (by omega) (by omega) (by omega) (by omega) (by omega)) ho j

theorem t41_0 (hE : EnvOk E) {a0 b0 : Nat} {a1 b1 : Nat} {a2 b2 : Nat} {a3 b3 : Nat} (ha0 : chkW 4096 a0 = 0) (hb0 : chkW 4096 b0 = 0) (ha1 : chkW 4096 a1 = 0) (hb1 : chkW 4096 b1 = 0) (ha2 : chkW 4096 a2 = 0) (hb2 : chkW 4096 b2 = 0) (ha3 : chkW 4096 a3 = 0) (hb3 : chkW 4096 b3 = 0) (s0 s1 s2 s3 : Nat) (q e : Int) (g : Bool) (j : Nat → Value) : OutK E 0 0 (q41_0 a0 b0 a1 b1 a2 b2 a3 b3 (intW a0) (intW b0) (intW a1) (intW b1) (intW a2) (intW b2) (intW a3) (intW b3) s0 s1 s2 s3 q e g j) (Go.Ev.Ends E Tryz.f41 (.tup [.agg (unR (oq0 a0 b0 a1 b1 a2 b2 a3 b3 && (oq1 a0 b0 a1 b1 a2 b2 a3 b3 && (oq2 a0 b0 a1 b1 a2 b2 a3 b3 && (oq3 a0 b0 a1 b1 a2 b2 a3 b3 && true)))) a0 b0 a1 b1 a2 b2 a3 b3), .one (.v (.int .i64 (unE (oq0 a0 b0 a1 b1 a2 b2 a3 b3 && (oq1 a0 b0 a1 b1 a2 b2 a3 b3 && (oq2 a0 b0 a1 b1 a2 b2 a3 b3 && (oq3 a0 b0 a1 b1 a2 b2 a3 b3 && true)))))))]) [some ⟨unR (oq0 a0 b0 a1 b1 a2 b2 a3 b3 && (oq1 a0 b0 a1 b1 a2 b2 a3 b3 && (oq2 a0 b0 a1 b1 a2 b2 a3 b3 && (oq3 a0 b0 a1 b1 a2 b2 a3 b3 && true)))) a0 b0 a1 b1 a2 b2 a3 b3, 4, 56, true, .cells⟩]) := by
  have ga0 := (chk_zero ha0).2.2
  have gb0 := (chk_zero hb0).2.2
  have ga1 := (chk_zero ha1).2.2
  have gb1 := (chk_zero hb1).2.2
  have ga2 := (chk_zero ha2).2.2
  have gb2 := (chk_zero hb2).2.2
  have ga3 := (chk_zero ha3).2.2
  have gb3 := (chk_zero hb3).2.2
  have hq : ((((((intW a0) + (intW a1)) + (intW a2)) + (intW a3))).tdiv 4).natAbs ≤ 2 ^ 40 := tdiv4 (by omega)
  by_cases c1 : ((((intW b0) + (intW b1)) + (intW b2)) + (intW b3)) = 0
  · by_cases c2 : (((((intW a0) + (intW a1)) + (intW a2)) + (intW a3))).tmod 4 = 0
    · by_cases c3 : (rngI (-16384) 16384 ((((((intW a0) + (intW a1)) + (intW a2)) + (intW a3))).tdiv 4)) = 0
      · have hok : oq0 a0 b0 a1 b1 a2 b2 a3 b3 = true := okU_t c1 c2 c3
        have hs : ((((((intW a0) + (intW a1)) + (intW a2)) + (intW a3))).tdiv 4).natAbs < 2 ^ 24 := by
          unfold rngI at c3
          split at c3
          · omega
          · omega
        have c3 : (lrg ((((((intW a0) + (intW a1)) + (intW a2)) + (intW a3))).tdiv 4)) = false := by rw [rng_lrg]; simpa using c3
        rw [hok, Bool.true_and]
        refine A41_0 hE ha0 hb0 ha1 hb1 ha2 hb2 ha3 hb3 (smpW ((((((intW a0) + (intW a1)) + (intW a2)) + (intW a3))).tdiv 4)) s1 s2 s3 ((((((intW a0) + (intW a1)) + (intW a2)) + (intW a3))).tdiv 4) e (lrg ((((((intW a0) + (intW a1)) + (intW a2)) + (intW a3))).tdiv 4)) (fun j => ?_) j
        exact p41p_0 hE a0 b0 a1 b1 a2 b2 a3 b3 (intW a0) (intW b0) (intW a1) (intW b1) (intW a2) (intW b2) (intW a3) (intW b3) (smpW ((((((intW a0) + (intW a1)) + (intW a2)) + (intW a3))).tdiv 4)) s1 s2 s3 ((((((intW a0) + (intW a1)) + (intW a2)) + (intW a3))).tdiv 4) e (lrg ((((((intW a0) + (intW a1)) + (intW a2)) + (intW a3))).tdiv 4)) (eqFt (neF c1)) (eqFt (neF c1)) (eqFt (neF c1)) (eqFt (neF c1)) (neF c1) (eqFt (neF c2)) (eqFt (neF c2)) (eqFt (neF c2)) (iIe (wr (by omega))) (eqFt (neF c2)) (K110 hE _) (neF c2) (c3) (iIe (wr (by omega))) (k64 hE hs) (t41_1 hE ha0 hb0 ha1 hb1 ha2 hb2 ha3 hb3 s1 s2 s3 0 0 false) j
      · have hok : oq0 a0 b0 a1 b1 a2 b2 a3 b3 = false := okU_f fun h => c3 h.2.2
        have c3 : (lrg ((((((intW a0) + (intW a1)) + (intW a2)) + (intW a3))).tdiv 4)) = true := by rw [rng_lrg]; simpa using c3
        rw [hok, Bool.false_and]
        refine A41_0 hE ha0 hb0 ha1 hb1 ha2 hb2 ha3 hb3 s0 s1 s2 s3 ((((((intW a0) + (intW a1)) + (intW a2)) + (intW a3))).tdiv 4) e (lrg ((((((intW a0) + (intW a1)) + (intW a2)) + (intW a3))).tdiv 4)) (fun j => ?_) j
        exact p41w_0 hE a0 b0 a1 b1 a2 b2 a3 b3 (intW a0) (intW b0) (intW a1) (intW b1) (intW a2) (intW b2) (intW a3) (intW b3) s0 s1 s2 s3 ((((((intW a0) + (intW a1)) + (intW a2)) + (intW a3))).tdiv 4) e (lrg ((((((intW a0) + (intW a1)) + (intW a2)) + (intW a3))).tdiv 4)) (eqFt (neF c1)) (eqFt (neF c1)) (eqFt (neF c1)) (eqFt (neF c1)) (neF c1) (eqFt (neF c2)) (eqFt (neF c2)) (eqFt (neF c2)) (iIe (wr (by omega))) (eqFt (neF c2)) (K110 hE _) (neF c2) (c3) (fun j => outK_ret (ends_ret (by kernel_rfl))) j
    · have hok : oq0 a0 b0 a1 b1 a2 b2 a3 b3 = false := okU_f fun h => c2 h.2.1
      rw [hok, Bool.false_and]
      refine A41_0 hE ha0 hb0 ha1 hb1 ha2 hb2 ha3 hb3 s0 s1 s2 s3 ((((((intW a0) + (intW a1)) + (intW a2)) + (intW a3))).tdiv 4) e (lrg ((((((intW a0) + (intW a1)) + (intW a2)) + (intW a3))).tdiv 4)) (fun j => ?_) j
      exact p41r_0 hE a0 b0 a1 b1 a2 b2 a3 b3 (intW a0) (intW b0) (intW a1) (intW b1) (intW a2) (intW b2) (intW a3) (intW b3) s0 s1 s2 s3 ((((((intW a0) + (intW a1)) + (intW a2)) + (intW a3))).tdiv 4) e (lrg ((((((intW a0) + (intW a1)) + (intW a2)) + (intW a3))).tdiv 4)) (eqFt (neF c1)) (eqFt (neF c1)) (eqFt (neF c1)) (eqFt (neF c1)) (neF c1) (eqTf (neT c2)) (eqTf (neT c2)) (eqTf (neT c2)) (eqTf (neT c2)) (neT c2) (fun j => outK_ret (ends_ret (by kernel_rfl))) j
  · have hok : oq0 a0 b0 a1 b1 a2 b2 a3 b3 = false := okU_f fun h => c1 h.1
    rw [hok, Bool.false_and]
    refine A41_0 hE ha0 hb0 ha1 hb1 ha2 hb2 ha3 hb3 s0 s1 s2 s3 ((((((intW a0) + (intW a1)) + (intW a2)) + (intW a3))).tdiv 4) e (lrg ((((((intW a0) + (intW a1)) + (intW a2)) + (intW a3))).tdiv 4)) (fun j => ?_) j
    exact p41i_0 hE a0 b0 a1 b1 a2 b2 a3 b3 (intW a0) (intW b0) (intW a1) (intW b1) (intW a2) (intW b2) (intW a3) (intW b3) s0 s1 s2 s3 ((((((intW a0) + (intW a1)) + (intW a2)) + (intW a3))).tdiv 4) e (lrg ((((((intW a0) + (intW a1)) + (intW a2)) + (intW a3))).tdiv 4)) (eqTf (neT c1)) (eqTf (neT c1)) (eqTf (neT c1)) (eqTf (neT c1)) (neT c1) (fun j => outK_ret (ends_ret (by kernel_rfl))) j

theorem chkZ4 {a0 b0 : Nat} {a1 b1 : Nat} {a2 b2 : Nat} {a3 b3 : Nat} (h : chkZL [(a0, b0),(a1, b1),(a2, b2),(a3, b3)] = 0) : chkW 4096 a0 = 0 ∧ chkW 4096 b0 = 0 ∧ chkW 4096 a1 = 0 ∧ chkW 4096 b1 = 0 ∧ chkW 4096 a2 = 0 ∧ chkW 4096 b2 = 0 ∧ chkW 4096 a3 = 0 ∧ chkW 4096 b3 = 0 := by
  have key : ∀ a b, chkZ (a, b) = 0 → chkW 4096 a = 0 ∧ chkW 4096 b = 0 := by
    intro a b h
    rw [← pan_eq] at h
    unfold pan at h
    by_cases h1 : chkW 4096 a = 0
    · by_cases h2 : chkW 4096 b = 0
      · exact ⟨h1, h2⟩
      · by_cases h3 : chkW 4096 b = 1 <;> simp [h1, h2, h3] at h
    · by_cases h3 : chkW 4096 a = 1
      · simp [h3] at h
      · by_cases h4 : chkW 4096 b = 1 <;> simp [h1, h3, h4] at h
  unfold chkZL at h
  simp only [List.map_cons, List.map_nil, firstI] at h
  by_cases h0 : chkZ (a0, b0) = 0
  · by_cases h1 : chkZ (a1, b1) = 0
    · by_cases h2 : chkZ (a2, b2) = 0
      · by_cases h3 : chkZ (a3, b3) = 0
        · exact ⟨(key _ _ h0).1, (key _ _ h0).2, (key _ _ h1).1, (key _ _ h1).2, (key _ _ h2).1, (key _ _ h2).2, key _ _ h3⟩
        · simp [h0, h1, h2, h3] at h
      · simp [h0, h1, h2] at h
    · simp [h0, h1] at h
  · simp [h0] at h
def okA (a0 b0 a1 b1 a2 b2 a3 b3 : Nat) : Bool := (oq0 a0 b0 a1 b1 a2 b2 a3 b3 && (oq1 a0 b0 a1 b1 a2 b2 a3 b3 && (oq2 a0 b0 a1 b1 a2 b2 a3 b3 && (oq3 a0 b0 a1 b1 a2 b2 a3 b3 && true))))
theorem lendZ (lv : Nat) (hE : EnvOk E) (a0 b0 a1 b1 a2 b2 a3 b3 : Nat) (h : Heap) (hh : getL h 0 = some (some ⟨([.v (.complex .f32 a0 b0), .v (.complex .f32 a1 b1), .v (.complex .f32 a2 b2), .v (.complex .f32 a3 b3)] : List DT).map DT.ac, 4, 59, true, .cells⟩)) : COut E lv h 102 [.e (.one (.slc 0 0 4 1 4 true)), .e (.one (.v (.func (.func 103) #[] #[])))] (iI (chkZL [(a0, b0),(a1, b1),(a2, b2),(a3, b3)])) h :=
  cOut_lend h (K102 hE [(a0, b0),(a1, b1),(a2, b2),(a3, b3)] (by simp)) ⟨lend1 hh rfl, .inl ⟨rfl, rfl⟩, trivial⟩ rfl rfl
/-- what Unfour gives -/
def unfE (a0 b0 a1 b1 a2 b2 a3 b3 : Nat) : Int := if chkZL [(a0, b0),(a1, b1),(a2, b2),(a3, b3)] = 0 then unE (okA a0 b0 a1 b1 a2 b2 a3 b3) else chkZL [(a0, b0),(a1, b1),(a2, b2),(a3, b3)]
def unfL (a0 b0 a1 b1 a2 b2 a3 b3 : Nat) : List AC := unR (decide (chkZL [(a0, b0),(a1, b1),(a2, b2),(a3, b3)] = 0) && okA a0 b0 a1 b1 a2 b2 a3 b3) a0 b0 a1 b1 a2 b2 a3 b3
theorem K37 (hE : EnvOk E) (a0 b0 a1 b1 a2 b2 a3 b3 : Nat) : COut E 0 [] 37 [.e (.agg (zL a0 b0 a1 b1 a2 b2 a3 b3))] (.tup [.agg (unfL a0 b0 a1 b1 a2 b2 a3 b3), .one (.v (.int .i64 (unfE a0 b0 a1 b1 a2 b2 a3 b3)))]) [] := by
  unfold unfL unfE
  by_cases h : chkZL [(a0, b0),(a1, b1),(a2, b2),(a3, b3)] = 0
  · obtain ⟨ha0, hb0, ha1, hb1, ha2, hb2, ha3, hb3⟩ := chkZ4 h
    rw [if_pos h, decide_eq_true h, Bool.true_and]
    exact cOut_clear (cOut_start Tryz.func37 rfl (p37a hE a0 b0 a1 b1 a2 b2 a3 b3 _ (lendZ _ hE a0 b0 a1 b1 a2 b2 a3 b3 _ rfl) (by simpa using h) (t37_0 hE ha0 hb0 ha1 hb1 ha2 hb2 ha3 hb3 0 0 0 0 0 0 false) fun _ => undef)) (by cases okA a0 b0 a1 b1 a2 b2 a3 b3 <;> rfl)
  · rw [if_neg h, decide_eq_false h, Bool.false_and]
    exact cOut_clear (cOut_start Tryz.func37 rfl (p37e hE a0 b0 a1 b1 a2 b2 a3 b3 _ (lendZ _ hE a0 b0 a1 b1 a2 b2 a3 b3 _ rfl) (by simpa using h) (fun j => outK_ret (ends_ret (by kernel_rfl))) fun _ => undef)) rfl

theorem K41 (hE : EnvOk E) {a0 b0 : Nat} {a1 b1 : Nat} {a2 b2 : Nat} {a3 b3 : Nat} (h : chkZL [(a0, b0),(a1, b1),(a2, b2),(a3, b3)] = 0) : COut E 0 [] 41 [.e (.agg (zL a0 b0 a1 b1 a2 b2 a3 b3))] (.tup [.agg (unfL a0 b0 a1 b1 a2 b2 a3 b3), .one (.v (.int .i64 (unfE a0 b0 a1 b1 a2 b2 a3 b3)))]) [] := by
  unfold unfL unfE
  obtain ⟨ha0, hb0, ha1, hb1, ha2, hb2, ha3, hb3⟩ := chkZ4 h
  rw [if_pos h, decide_eq_true h, Bool.true_and]
  exact cOut_clear (cOut_start Tryz.func41 rfl (p41a hE a0 b0 a1 b1 a2 b2 a3 b3 (t41_0 hE ha0 hb0 ha1 hb1 ha2 hb2 ha3 hb3 0 0 0 0 0 0 false) fun _ => undef)) (by cases okA a0 b0 a1 b1 a2 b2 a3 b3 <;> rfl)
end
end Go.Proofs.YtgplabfjldndgaaGreatDoor
