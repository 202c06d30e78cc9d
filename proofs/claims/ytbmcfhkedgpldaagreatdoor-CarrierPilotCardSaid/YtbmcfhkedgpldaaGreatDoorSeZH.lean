/-
  Part of the proof: SeFe, SeFf, SePlF, SePlM, SePm.
-/
import Derived.Test.YtbmcfhkedgpldaaGreatDoorSeZG

/-! SeFe -/
section
open Go Go.Ev
namespace Go.Proofs.YtbmcfhkedgpldaaGreatDoor
noncomputable section
set_option maxRecDepth 100000
set_option maxHeartbeats 20000000
open Ieee
theorem eqFt {b : Bool} (h : b = false) : (b == false) = true := by rw [h]; rfl
theorem eqTf {b : Bool} (h : b = true) : (b == false) = false := by rw [h]; rfl
def okU (im re : Int) : Bool := decide (im = 0 ∧ re.tmod 4 = 0 ∧ rngI (-16384) 16384 (re.tdiv 4) = 0)
abbrev z4 : List AC := [.v (.float .f32 0), .v (.float .f32 0), .v (.float .f32 0), .v (.float .f32 0)]
def re0 (a0 _b0 a1 _b1 a2 _b2 a3 _b3 : Nat) : Int := ((((intW a0) + (intW a1)) + (intW a2)) + (intW a3))
def im0 (_a0 b0 _a1 b1 _a2 b2 _a3 b3 : Nat) : Int := ((((intW b0) + (intW b1)) + (intW b2)) + (intW b3))
def oq0 (a0 b0 a1 b1 a2 b2 a3 b3 : Nat) : Bool := okU (im0 a0 b0 a1 b1 a2 b2 a3 b3) (re0 a0 b0 a1 b1 a2 b2 a3 b3)
def sq0 (a0 b0 a1 b1 a2 b2 a3 b3 : Nat) : Nat := smpW ((re0 a0 b0 a1 b1 a2 b2 a3 b3).tdiv 4)
def re1 (a0 _b0 _a1 b1 a2 _b2 _a3 b3 : Nat) : Int := ((((intW a0) + (-(intW b1))) + (-(intW a2))) + (intW b3))
def im1 (_a0 b0 a1 _b1 _a2 b2 a3 _b3 : Nat) : Int := ((((intW b0) + (intW a1)) + (-(intW b2))) + (-(intW a3)))
def oq1 (a0 b0 a1 b1 a2 b2 a3 b3 : Nat) : Bool := okU (im1 a0 b0 a1 b1 a2 b2 a3 b3) (re1 a0 b0 a1 b1 a2 b2 a3 b3)
def sq1 (a0 b0 a1 b1 a2 b2 a3 b3 : Nat) : Nat := smpW ((re1 a0 b0 a1 b1 a2 b2 a3 b3).tdiv 4)
def re2 (a0 _b0 a1 _b1 a2 _b2 a3 _b3 : Nat) : Int := ((((intW a0) + (-(intW a1))) + (intW a2)) + (-(intW a3)))
def im2 (_a0 b0 _a1 b1 _a2 b2 _a3 b3 : Nat) : Int := ((((intW b0) + (-(intW b1))) + (intW b2)) + (-(intW b3)))
def oq2 (a0 b0 a1 b1 a2 b2 a3 b3 : Nat) : Bool := okU (im2 a0 b0 a1 b1 a2 b2 a3 b3) (re2 a0 b0 a1 b1 a2 b2 a3 b3)
def sq2 (a0 b0 a1 b1 a2 b2 a3 b3 : Nat) : Nat := smpW ((re2 a0 b0 a1 b1 a2 b2 a3 b3).tdiv 4)
def re3 (a0 _b0 _a1 b1 a2 _b2 _a3 b3 : Nat) : Int := ((((intW a0) + (intW b1)) + (-(intW a2))) + (-(intW b3)))
def im3 (_a0 b0 a1 _b1 _a2 b2 a3 _b3 : Nat) : Int := ((((intW b0) + (-(intW a1))) + (-(intW b2))) + (intW a3))
def oq3 (a0 b0 a1 b1 a2 b2 a3 b3 : Nat) : Bool := okU (im3 a0 b0 a1 b1 a2 b2 a3 b3) (re3 a0 b0 a1 b1 a2 b2 a3 b3)
def sq3 (a0 b0 a1 b1 a2 b2 a3 b3 : Nat) : Nat := smpW ((re3 a0 b0 a1 b1 a2 b2 a3 b3).tdiv 4)
abbrev unL (a0 b0 a1 b1 a2 b2 a3 b3 : Nat) : List AC := [fC (sq0 a0 b0 a1 b1 a2 b2 a3 b3), fC (sq1 a0 b0 a1 b1 a2 b2 a3 b3), fC (sq2 a0 b0 a1 b1 a2 b2 a3 b3), fC (sq3 a0 b0 a1 b1 a2 b2 a3 b3)]
def unR (ok : Bool) (a0 b0 a1 b1 a2 b2 a3 b3 : Nat) : List AC := cond ok (unL a0 b0 a1 b1 a2 b2 a3 b3) z4
def unE (ok : Bool) : Int := cond ok 0 1
theorem okU_t {im re : Int} (h1 : im = 0) (h2 : re.tmod 4 = 0) (h3 : rngI (-16384) 16384 (re.tdiv 4) = 0) : okU im re = true := by simp [okU, h1, h2, h3]
theorem okU_f {im re : Int} (h : ¬ (im = 0 ∧ re.tmod 4 = 0 ∧ rngI (-16384) 16384 (re.tdiv 4) = 0)) : okU im re = false := by simp only [okU, decide_eq_false_iff_not]; exact h
theorem tdiv4 {z : Int} (h : z.natAbs ≤ 2 ^ 40) : (z.tdiv 4).natAbs ≤ 2 ^ 40 := by rw [Int.natAbs_tdiv]; exact Nat.le_trans (Nat.div_le_self _ _) h
theorem t37_4 (hE : EnvOk E) {a0 b0 : Nat} {a1 b1 : Nat} {a2 b2 : Nat} {a3 b3 : Nat} (_ha0 : chkW 4096 a0 = 0) (_hb0 : chkW 4096 b0 = 0) (_ha1 : chkW 4096 a1 = 0) (_hb1 : chkW 4096 b1 = 0) (_ha2 : chkW 4096 a2 = 0) (_hb2 : chkW 4096 b2 = 0) (_ha3 : chkW 4096 a3 = 0) (_hb3 : chkW 4096 b3 = 0) (q e : Int) (g : Bool) (j : Nat → Value) : OutK E 0 0 (q37_4 a0 b0 a1 b1 a2 b2 a3 b3 (intW a0) (intW b0) (intW a1) (intW b1) (intW a2) (intW b2) (intW a3) (intW b3) (sq0 a0 b0 a1 b1 a2 b2 a3 b3) (sq1 a0 b0 a1 b1 a2 b2 a3 b3) (sq2 a0 b0 a1 b1 a2 b2 a3 b3) (sq3 a0 b0 a1 b1 a2 b2 a3 b3) q e g j) (Go.Ev.Ends E Tryz.f37 (.tup [.agg (unR true a0 b0 a1 b1 a2 b2 a3 b3), .one (.v (.int .i64 (unE true)))]) [some ⟨unR true a0 b0 a1 b1 a2 b2 a3 b3, 4, 56, true, .cells⟩]) :=
 p37x hE a0 b0 a1 b1 a2 b2 a3 b3 (intW a0) (intW b0) (intW a1) (intW b1) (intW a2) (intW b2) (intW a3) (intW b3) (sq0 a0 b0 a1 b1 a2 b2 a3 b3) (sq1 a0 b0 a1 b1 a2 b2 a3 b3) (sq2 a0 b0 a1 b1 a2 b2 a3 b3) (sq3 a0 b0 a1 b1 a2 b2 a3 b3) q e g (fun j => outK_ret (ends_ret (by kernel_rfl))) j
theorem A37_3 (hE : EnvOk E) {a0 b0 : Nat} {a1 b1 : Nat} {a2 b2 : Nat} {a3 b3 : Nat} (ha0 : chkW 4096 a0 = 0) (hb0 : chkW 4096 b0 = 0) (ha1 : chkW 4096 a1 = 0) (hb1 : chkW 4096 b1 = 0) (ha2 : chkW 4096 a2 = 0) (hb2 : chkW 4096 b2 = 0) (ha3 : chkW 4096 a3 = 0) (hb3 : chkW 4096 b3 = 0) (s0 s1 s2 s3 : Nat) (q e : Int) (g : Bool) {Φ : Res → Prop} (ho : ∀ j, OutK E 0 0 (r37_3 a0 b0 a1 b1 a2 b2 a3 b3 (intW a0) (intW b0) (intW a1) (intW b1) (intW a2) (intW b2) (intW a3) (intW b3) s0 s1 s2 s3 q e g j) Φ) (j : Nat → Value) : OutK E 0 0 (q37_3 a0 b0 a1 b1 a2 b2 a3 b3 (intW a0) (intW b0) (intW a1) (intW b1) (intW a2) (intW b2) (intW a3) (intW b3) s0 s1 s2 s3 q e g j) Φ := by
 have ga0 := (chk_zero ha0).2.2
 have gb0 := (chk_zero hb0).2.2
 have ga1 := (chk_zero ha1).2.2
 have gb1 := (chk_zero hb1).2.2
 have ga2 := (chk_zero ha2).2.2
 have gb2 := (chk_zero hb2).2.2
 have ga3 := (chk_zero ha3).2.2
 have gb3 := (chk_zero hb3).2.2
 exact p37A_3 hE a0 b0 a1 b1 a2 b2 a3 b3 (intW a0) (intW b0) (intW a1) (intW b1) (intW a2) (intW b2) (intW a3) (intW b3) s0 s1 s2 s3 q e g (k106 hE (L := 4096) (by decide) ha0) (k106 hE (L := 4096) (by decide) hb0) (K105 hE (by unfold Sm; omega) (by unfold Sm; omega) (by unfold Sm; omega) (by unfold Sm; omega) (by omega) (by omega)) (K104 hE (by omega) (by omega) (by omega) (by omega) (by omega) (by omega)) (k106 hE (L := 4096) (by decide) ha1) (k106 hE (L := 4096) (by decide) hb1) (K105 hE (by unfold Sm; omega) (by unfold Sm; omega) (by unfold Sm; omega) (by unfold Sm; omega) (by omega) (by omega)) (K104 hE (by omega) (by omega) (by omega) (by omega) (by omega) (by omega)) (k106 hE (L := 4096) (by decide) ha2) (k106 hE (L := 4096) (by decide) hb2) (K105 hE (by unfold Sm; omega) (by unfold Sm; omega) (by unfold Sm; omega) (by unfold Sm; omega) (by omega) (by omega)) (K104 hE (by omega) (by omega) (by omega) (by omega) (by omega) (by omega)) (k106 hE (L := 4096) (by decide) ha3) (k106 hE (L := 4096) (by decide) hb3) (K105 hE (by unfold Sm; omega) (by unfold Sm; omega) (by unfold Sm; omega) (by unfold Sm; omega) (by omega) (by omega)) (K104 hE (by omega) (by omega) (by omega) (by omega) (by omega) (by omega)) ho j
theorem t37_3 (hE : EnvOk E) {a0 b0 : Nat} {a1 b1 : Nat} {a2 b2 : Nat} {a3 b3 : Nat} (ha0 : chkW 4096 a0 = 0) (hb0 : chkW 4096 b0 = 0) (ha1 : chkW 4096 a1 = 0) (hb1 : chkW 4096 b1 = 0) (ha2 : chkW 4096 a2 = 0) (hb2 : chkW 4096 b2 = 0) (ha3 : chkW 4096 a3 = 0) (hb3 : chkW 4096 b3 = 0) (s3 : Nat) (q e : Int) (g : Bool) (j : Nat → Value) : OutK E 0 0 (q37_3 a0 b0 a1 b1 a2 b2 a3 b3 (intW a0) (intW b0) (intW a1) (intW b1) (intW a2) (intW b2) (intW a3) (intW b3) (sq0 a0 b0 a1 b1 a2 b2 a3 b3) (sq1 a0 b0 a1 b1 a2 b2 a3 b3) (sq2 a0 b0 a1 b1 a2 b2 a3 b3) s3 q e g j) (Go.Ev.Ends E Tryz.f37 (.tup [.agg (unR (oq3 a0 b0 a1 b1 a2 b2 a3 b3 && true) a0 b0 a1 b1 a2 b2 a3 b3), .one (.v (.int .i64 (unE (oq3 a0 b0 a1 b1 a2 b2 a3 b3 && true))))]) [some ⟨unR (oq3 a0 b0 a1 b1 a2 b2 a3 b3 && true) a0 b0 a1 b1 a2 b2 a3 b3, 4, 56, true, .cells⟩]) := by
 have ga0 := (chk_zero ha0).2.2
 have gb0 := (chk_zero hb0).2.2
 have ga1 := (chk_zero ha1).2.2
 have gb1 := (chk_zero hb1).2.2
 have ga2 := (chk_zero ha2).2.2
 have gb2 := (chk_zero hb2).2.2
 have ga3 := (chk_zero ha3).2.2
 have gb3 := (chk_zero hb3).2.2
 have hq : ((((((intW a0) + (intW b1)) + (-(intW a2))) + (-(intW b3)))).tdiv 4).natAbs ≤ 2 ^ 40 := tdiv4 (by omega)
 by_cases c1 : ((((intW b0) + (-(intW a1))) + (-(intW b2))) + (intW a3)) = 0
 ·by_cases c2 : (((((intW a0) + (intW b1)) + (-(intW a2))) + (-(intW b3)))).tmod 4 = 0
  ·by_cases c3 : (rngI (-16384) 16384 ((((((intW a0) + (intW b1)) + (-(intW a2))) + (-(intW b3)))).tdiv 4)) = 0
   ·have hok : oq3 a0 b0 a1 b1 a2 b2 a3 b3 = true := okU_t c1 c2 c3
    have hs : ((((((intW a0) + (intW b1)) + (-(intW a2))) + (-(intW b3)))).tdiv 4).natAbs < 2 ^ 24 := by
     unfold rngI at c3
     split at c3
     ·omega
     ·omega
    rw [hok, Bool.true_and]
    refine A37_3 hE ha0 hb0 ha1 hb1 ha2 hb2 ha3 hb3 (sq0 a0 b0 a1 b1 a2 b2 a3 b3) (sq1 a0 b0 a1 b1 a2 b2 a3 b3) (sq2 a0 b0 a1 b1 a2 b2 a3 b3) (smpW ((((((intW a0) + (intW b1)) + (-(intW a2))) + (-(intW b3)))).tdiv 4)) ((((((intW a0) + (intW b1)) + (-(intW a2))) + (-(intW b3)))).tdiv 4) (rngI (-16384) 16384 ((((((intW a0) + (intW b1)) + (-(intW a2))) + (-(intW b3)))).tdiv 4)) g (fun j => ?_) j
    exact p37p_3 hE a0 b0 a1 b1 a2 b2 a3 b3 (intW a0) (intW b0) (intW a1) (intW b1) (intW a2) (intW b2) (intW a3) (intW b3) (sq0 a0 b0 a1 b1 a2 b2 a3 b3) (sq1 a0 b0 a1 b1 a2 b2 a3 b3) (sq2 a0 b0 a1 b1 a2 b2 a3 b3) (smpW ((((((intW a0) + (intW b1)) + (-(intW a2))) + (-(intW b3)))).tdiv 4)) ((((((intW a0) + (intW b1)) + (-(intW a2))) + (-(intW b3)))).tdiv 4) (rngI (-16384) 16384 ((((((intW a0) + (intW b1)) + (-(intW a2))) + (-(intW b3)))).tdiv 4)) g (eqFt (neF c1)) (eqFt (neF c1)) (eqFt (neF c1)) (eqFt (neF c1)) (neF c1) (eqFt (neF c2)) (eqFt (neF c2)) (eqFt (neF c2)) (iIe (wr (by omega))) (eqFt (neF c2)) (K80 hE _ _ _) (eqFt (neF c2)) (neF c2) (neF c3) (iIe (wr (by omega))) (k101 hE hs) (t37_4 hE ha0 hb0 ha1 hb1 ha2 hb2 ha3 hb3  0 0 false) j
   ·have hok : oq3 a0 b0 a1 b1 a2 b2 a3 b3 = false := okU_f fun h => c3 h.2.2
    rw [hok, Bool.false_and]
    refine A37_3 hE ha0 hb0 ha1 hb1 ha2 hb2 ha3 hb3 (sq0 a0 b0 a1 b1 a2 b2 a3 b3) (sq1 a0 b0 a1 b1 a2 b2 a3 b3) (sq2 a0 b0 a1 b1 a2 b2 a3 b3) s3 ((((((intW a0) + (intW b1)) + (-(intW a2))) + (-(intW b3)))).tdiv 4) (rngI (-16384) 16384 ((((((intW a0) + (intW b1)) + (-(intW a2))) + (-(intW b3)))).tdiv 4)) g (fun j => ?_) j
    exact p37w_3 hE a0 b0 a1 b1 a2 b2 a3 b3 (intW a0) (intW b0) (intW a1) (intW b1) (intW a2) (intW b2) (intW a3) (intW b3) (sq0 a0 b0 a1 b1 a2 b2 a3 b3) (sq1 a0 b0 a1 b1 a2 b2 a3 b3) (sq2 a0 b0 a1 b1 a2 b2 a3 b3) s3 ((((((intW a0) + (intW b1)) + (-(intW a2))) + (-(intW b3)))).tdiv 4) (rngI (-16384) 16384 ((((((intW a0) + (intW b1)) + (-(intW a2))) + (-(intW b3)))).tdiv 4)) g (eqFt (neF c1)) (eqFt (neF c1)) (eqFt (neF c1)) (eqFt (neF c1)) (neF c1) (eqFt (neF c2)) (eqFt (neF c2)) (eqFt (neF c2)) (iIe (wr (by omega))) (eqFt (neF c2)) (K80 hE _ _ _) (eqFt (neF c2)) (neF c2) (neT c3) (fun j => outK_ret (ends_ret (by kernel_rfl))) j
  ·have hok : oq3 a0 b0 a1 b1 a2 b2 a3 b3 = false := okU_f fun h => c2 h.2.1
   rw [hok, Bool.false_and]
   refine A37_3 hE ha0 hb0 ha1 hb1 ha2 hb2 ha3 hb3 (sq0 a0 b0 a1 b1 a2 b2 a3 b3) (sq1 a0 b0 a1 b1 a2 b2 a3 b3) (sq2 a0 b0 a1 b1 a2 b2 a3 b3) s3 ((((((intW a0) + (intW b1)) + (-(intW a2))) + (-(intW b3)))).tdiv 4) (rngI (-16384) 16384 ((((((intW a0) + (intW b1)) + (-(intW a2))) + (-(intW b3)))).tdiv 4)) g (fun j => ?_) j
   exact p37r_3 hE a0 b0 a1 b1 a2 b2 a3 b3 (intW a0) (intW b0) (intW a1) (intW b1) (intW a2) (intW b2) (intW a3) (intW b3) (sq0 a0 b0 a1 b1 a2 b2 a3 b3) (sq1 a0 b0 a1 b1 a2 b2 a3 b3) (sq2 a0 b0 a1 b1 a2 b2 a3 b3) s3 ((((((intW a0) + (intW b1)) + (-(intW a2))) + (-(intW b3)))).tdiv 4) (rngI (-16384) 16384 ((((((intW a0) + (intW b1)) + (-(intW a2))) + (-(intW b3)))).tdiv 4)) g (eqFt (neF c1)) (eqFt (neF c1)) (eqFt (neF c1)) (eqFt (neF c1)) (neF c1) (eqTf (neT c2)) (eqTf (neT c2)) (eqTf (neT c2)) (eqTf (neT c2)) (eqTf (neT c2)) (neT c2) (fun j => outK_ret (ends_ret (by kernel_rfl))) j
 ·have hok : oq3 a0 b0 a1 b1 a2 b2 a3 b3 = false := okU_f fun h => c1 h.1
  rw [hok, Bool.false_and]
  refine A37_3 hE ha0 hb0 ha1 hb1 ha2 hb2 ha3 hb3 (sq0 a0 b0 a1 b1 a2 b2 a3 b3) (sq1 a0 b0 a1 b1 a2 b2 a3 b3) (sq2 a0 b0 a1 b1 a2 b2 a3 b3) s3 ((((((intW a0) + (intW b1)) + (-(intW a2))) + (-(intW b3)))).tdiv 4) (rngI (-16384) 16384 ((((((intW a0) + (intW b1)) + (-(intW a2))) + (-(intW b3)))).tdiv 4)) g (fun j => ?_) j
  exact p37i_3 hE a0 b0 a1 b1 a2 b2 a3 b3 (intW a0) (intW b0) (intW a1) (intW b1) (intW a2) (intW b2) (intW a3) (intW b3) (sq0 a0 b0 a1 b1 a2 b2 a3 b3) (sq1 a0 b0 a1 b1 a2 b2 a3 b3) (sq2 a0 b0 a1 b1 a2 b2 a3 b3) s3 ((((((intW a0) + (intW b1)) + (-(intW a2))) + (-(intW b3)))).tdiv 4) (rngI (-16384) 16384 ((((((intW a0) + (intW b1)) + (-(intW a2))) + (-(intW b3)))).tdiv 4)) g (eqTf (neT c1)) (eqTf (neT c1)) (eqTf (neT c1)) (eqTf (neT c1)) (neT c1) (fun j => outK_ret (ends_ret (by kernel_rfl))) j
theorem A37_2 (hE : EnvOk E) {a0 b0 : Nat} {a1 b1 : Nat} {a2 b2 : Nat} {a3 b3 : Nat} (ha0 : chkW 4096 a0 = 0) (hb0 : chkW 4096 b0 = 0) (ha1 : chkW 4096 a1 = 0) (hb1 : chkW 4096 b1 = 0) (ha2 : chkW 4096 a2 = 0) (hb2 : chkW 4096 b2 = 0) (ha3 : chkW 4096 a3 = 0) (hb3 : chkW 4096 b3 = 0) (s0 s1 s2 s3 : Nat) (q e : Int) (g : Bool) {Φ : Res → Prop} (ho : ∀ j, OutK E 0 0 (r37_2 a0 b0 a1 b1 a2 b2 a3 b3 (intW a0) (intW b0) (intW a1) (intW b1) (intW a2) (intW b2) (intW a3) (intW b3) s0 s1 s2 s3 q e g j) Φ) (j : Nat → Value) : OutK E 0 0 (q37_2 a0 b0 a1 b1 a2 b2 a3 b3 (intW a0) (intW b0) (intW a1) (intW b1) (intW a2) (intW b2) (intW a3) (intW b3) s0 s1 s2 s3 q e g j) Φ := by
 have ga0 := (chk_zero ha0).2.2
 have gb0 := (chk_zero hb0).2.2
 have ga1 := (chk_zero ha1).2.2
 have gb1 := (chk_zero hb1).2.2
 have ga2 := (chk_zero ha2).2.2
 have gb2 := (chk_zero hb2).2.2
 have ga3 := (chk_zero ha3).2.2
 have gb3 := (chk_zero hb3).2.2
 exact p37A_2 hE a0 b0 a1 b1 a2 b2 a3 b3 (intW a0) (intW b0) (intW a1) (intW b1) (intW a2) (intW b2) (intW a3) (intW b3) s0 s1 s2 s3 q e g (k106 hE (L := 4096) (by decide) ha0) (k106 hE (L := 4096) (by decide) hb0) (K105 hE (by unfold Sm; omega) (by unfold Sm; omega) (by unfold Sm; omega) (by unfold Sm; omega) (by omega) (by omega)) (K104 hE (by omega) (by omega) (by omega) (by omega) (by omega) (by omega)) (k106 hE (L := 4096) (by decide) ha1) (k106 hE (L := 4096) (by decide) hb1) (K105 hE (by unfold Sm; omega) (by unfold Sm; omega) (by unfold Sm; omega) (by unfold Sm; omega) (by omega) (by omega)) (K104 hE (by omega) (by omega) (by omega) (by omega) (by omega) (by omega)) (k106 hE (L := 4096) (by decide) ha2) (k106 hE (L := 4096) (by decide) hb2) (K105 hE (by unfold Sm; omega) (by unfold Sm; omega) (by unfold Sm; omega) (by unfold Sm; omega) (by omega) (by omega)) (K104 hE (by omega) (by omega) (by omega) (by omega) (by omega) (by omega)) (k106 hE (L := 4096) (by decide) ha3) (k106 hE (L := 4096) (by decide) hb3) (K105 hE (by unfold Sm; omega) (by unfold Sm; omega) (by unfold Sm; omega) (by unfold Sm; omega) (by omega) (by omega)) (K104 hE (by omega) (by omega) (by omega) (by omega) (by omega) (by omega)) ho j
theorem t37_2 (hE : EnvOk E) {a0 b0 : Nat} {a1 b1 : Nat} {a2 b2 : Nat} {a3 b3 : Nat} (ha0 : chkW 4096 a0 = 0) (hb0 : chkW 4096 b0 = 0) (ha1 : chkW 4096 a1 = 0) (hb1 : chkW 4096 b1 = 0) (ha2 : chkW 4096 a2 = 0) (hb2 : chkW 4096 b2 = 0) (ha3 : chkW 4096 a3 = 0) (hb3 : chkW 4096 b3 = 0) (s2 s3 : Nat) (q e : Int) (g : Bool) (j : Nat → Value) : OutK E 0 0 (q37_2 a0 b0 a1 b1 a2 b2 a3 b3 (intW a0) (intW b0) (intW a1) (intW b1) (intW a2) (intW b2) (intW a3) (intW b3) (sq0 a0 b0 a1 b1 a2 b2 a3 b3) (sq1 a0 b0 a1 b1 a2 b2 a3 b3) s2 s3 q e g j) (Go.Ev.Ends E Tryz.f37 (.tup [.agg (unR (oq2 a0 b0 a1 b1 a2 b2 a3 b3 && (oq3 a0 b0 a1 b1 a2 b2 a3 b3 && true)) a0 b0 a1 b1 a2 b2 a3 b3), .one (.v (.int .i64 (unE (oq2 a0 b0 a1 b1 a2 b2 a3 b3 && (oq3 a0 b0 a1 b1 a2 b2 a3 b3 && true)))))]) [some ⟨unR (oq2 a0 b0 a1 b1 a2 b2 a3 b3 && (oq3 a0 b0 a1 b1 a2 b2 a3 b3 && true)) a0 b0 a1 b1 a2 b2 a3 b3, 4, 56, true, .cells⟩]) := by
 have ga0 := (chk_zero ha0).2.2
 have gb0 := (chk_zero hb0).2.2
 have ga1 := (chk_zero ha1).2.2
 have gb1 := (chk_zero hb1).2.2
 have ga2 := (chk_zero ha2).2.2
 have gb2 := (chk_zero hb2).2.2
 have ga3 := (chk_zero ha3).2.2
 have gb3 := (chk_zero hb3).2.2
 have hq : ((((((intW a0) + (-(intW a1))) + (intW a2)) + (-(intW a3)))).tdiv 4).natAbs ≤ 2 ^ 40 := tdiv4 (by omega)
 by_cases c1 : ((((intW b0) + (-(intW b1))) + (intW b2)) + (-(intW b3))) = 0
 ·by_cases c2 : (((((intW a0) + (-(intW a1))) + (intW a2)) + (-(intW a3)))).tmod 4 = 0
  ·by_cases c3 : (rngI (-16384) 16384 ((((((intW a0) + (-(intW a1))) + (intW a2)) + (-(intW a3)))).tdiv 4)) = 0
   ·have hok : oq2 a0 b0 a1 b1 a2 b2 a3 b3 = true := okU_t c1 c2 c3
    have hs : ((((((intW a0) + (-(intW a1))) + (intW a2)) + (-(intW a3)))).tdiv 4).natAbs < 2 ^ 24 := by
     unfold rngI at c3
     split at c3
     ·omega
     ·omega
    rw [hok, Bool.true_and]
    refine A37_2 hE ha0 hb0 ha1 hb1 ha2 hb2 ha3 hb3 (sq0 a0 b0 a1 b1 a2 b2 a3 b3) (sq1 a0 b0 a1 b1 a2 b2 a3 b3) (smpW ((((((intW a0) + (-(intW a1))) + (intW a2)) + (-(intW a3)))).tdiv 4)) s3 ((((((intW a0) + (-(intW a1))) + (intW a2)) + (-(intW a3)))).tdiv 4) (rngI (-16384) 16384 ((((((intW a0) + (-(intW a1))) + (intW a2)) + (-(intW a3)))).tdiv 4)) g (fun j => ?_) j
    exact p37p_2 hE a0 b0 a1 b1 a2 b2 a3 b3 (intW a0) (intW b0) (intW a1) (intW b1) (intW a2) (intW b2) (intW a3) (intW b3) (sq0 a0 b0 a1 b1 a2 b2 a3 b3) (sq1 a0 b0 a1 b1 a2 b2 a3 b3) (smpW ((((((intW a0) + (-(intW a1))) + (intW a2)) + (-(intW a3)))).tdiv 4)) s3 ((((((intW a0) + (-(intW a1))) + (intW a2)) + (-(intW a3)))).tdiv 4) (rngI (-16384) 16384 ((((((intW a0) + (-(intW a1))) + (intW a2)) + (-(intW a3)))).tdiv 4)) g (eqFt (neF c1)) (eqFt (neF c1)) (eqFt (neF c1)) (eqFt (neF c1)) (neF c1) (eqFt (neF c2)) (eqFt (neF c2)) (eqFt (neF c2)) (iIe (wr (by omega))) (eqFt (neF c2)) (K80 hE _ _ _) (eqFt (neF c2)) (neF c2) (neF c3) (iIe (wr (by omega))) (k101 hE hs) (t37_3 hE ha0 hb0 ha1 hb1 ha2 hb2 ha3 hb3 s3 0 0 false) j
   ·have hok : oq2 a0 b0 a1 b1 a2 b2 a3 b3 = false := okU_f fun h => c3 h.2.2
    rw [hok, Bool.false_and]
    refine A37_2 hE ha0 hb0 ha1 hb1 ha2 hb2 ha3 hb3 (sq0 a0 b0 a1 b1 a2 b2 a3 b3) (sq1 a0 b0 a1 b1 a2 b2 a3 b3) s2 s3 ((((((intW a0) + (-(intW a1))) + (intW a2)) + (-(intW a3)))).tdiv 4) (rngI (-16384) 16384 ((((((intW a0) + (-(intW a1))) + (intW a2)) + (-(intW a3)))).tdiv 4)) g (fun j => ?_) j
    exact p37w_2 hE a0 b0 a1 b1 a2 b2 a3 b3 (intW a0) (intW b0) (intW a1) (intW b1) (intW a2) (intW b2) (intW a3) (intW b3) (sq0 a0 b0 a1 b1 a2 b2 a3 b3) (sq1 a0 b0 a1 b1 a2 b2 a3 b3) s2 s3 ((((((intW a0) + (-(intW a1))) + (intW a2)) + (-(intW a3)))).tdiv 4) (rngI (-16384) 16384 ((((((intW a0) + (-(intW a1))) + (intW a2)) + (-(intW a3)))).tdiv 4)) g (eqFt (neF c1)) (eqFt (neF c1)) (eqFt (neF c1)) (eqFt (neF c1)) (neF c1) (eqFt (neF c2)) (eqFt (neF c2)) (eqFt (neF c2)) (iIe (wr (by omega))) (eqFt (neF c2)) (K80 hE _ _ _) (eqFt (neF c2)) (neF c2) (neT c3) (fun j => outK_ret (ends_ret (by kernel_rfl))) j
  ·have hok : oq2 a0 b0 a1 b1 a2 b2 a3 b3 = false := okU_f fun h => c2 h.2.1
   rw [hok, Bool.false_and]
   refine A37_2 hE ha0 hb0 ha1 hb1 ha2 hb2 ha3 hb3 (sq0 a0 b0 a1 b1 a2 b2 a3 b3) (sq1 a0 b0 a1 b1 a2 b2 a3 b3) s2 s3 ((((((intW a0) + (-(intW a1))) + (intW a2)) + (-(intW a3)))).tdiv 4) (rngI (-16384) 16384 ((((((intW a0) + (-(intW a1))) + (intW a2)) + (-(intW a3)))).tdiv 4)) g (fun j => ?_) j
   exact p37r_2 hE a0 b0 a1 b1 a2 b2 a3 b3 (intW a0) (intW b0) (intW a1) (intW b1) (intW a2) (intW b2) (intW a3) (intW b3) (sq0 a0 b0 a1 b1 a2 b2 a3 b3) (sq1 a0 b0 a1 b1 a2 b2 a3 b3) s2 s3 ((((((intW a0) + (-(intW a1))) + (intW a2)) + (-(intW a3)))).tdiv 4) (rngI (-16384) 16384 ((((((intW a0) + (-(intW a1))) + (intW a2)) + (-(intW a3)))).tdiv 4)) g (eqFt (neF c1)) (eqFt (neF c1)) (eqFt (neF c1)) (eqFt (neF c1)) (neF c1) (eqTf (neT c2)) (eqTf (neT c2)) (eqTf (neT c2)) (eqTf (neT c2)) (eqTf (neT c2)) (neT c2) (fun j => outK_ret (ends_ret (by kernel_rfl))) j
 ·have hok : oq2 a0 b0 a1 b1 a2 b2 a3 b3 = false := okU_f fun h => c1 h.1
  rw [hok, Bool.false_and]
  refine A37_2 hE ha0 hb0 ha1 hb1 ha2 hb2 ha3 hb3 (sq0 a0 b0 a1 b1 a2 b2 a3 b3) (sq1 a0 b0 a1 b1 a2 b2 a3 b3) s2 s3 ((((((intW a0) + (-(intW a1))) + (intW a2)) + (-(intW a3)))).tdiv 4) (rngI (-16384) 16384 ((((((intW a0) + (-(intW a1))) + (intW a2)) + (-(intW a3)))).tdiv 4)) g (fun j => ?_) j
  exact p37i_2 hE a0 b0 a1 b1 a2 b2 a3 b3 (intW a0) (intW b0) (intW a1) (intW b1) (intW a2) (intW b2) (intW a3) (intW b3) (sq0 a0 b0 a1 b1 a2 b2 a3 b3) (sq1 a0 b0 a1 b1 a2 b2 a3 b3) s2 s3 ((((((intW a0) + (-(intW a1))) + (intW a2)) + (-(intW a3)))).tdiv 4) (rngI (-16384) 16384 ((((((intW a0) + (-(intW a1))) + (intW a2)) + (-(intW a3)))).tdiv 4)) g (eqTf (neT c1)) (eqTf (neT c1)) (eqTf (neT c1)) (eqTf (neT c1)) (neT c1) (fun j => outK_ret (ends_ret (by kernel_rfl))) j
theorem A37_1 (hE : EnvOk E) {a0 b0 : Nat} {a1 b1 : Nat} {a2 b2 : Nat} {a3 b3 : Nat} (ha0 : chkW 4096 a0 = 0) (hb0 : chkW 4096 b0 = 0) (ha1 : chkW 4096 a1 = 0) (hb1 : chkW 4096 b1 = 0) (ha2 : chkW 4096 a2 = 0) (hb2 : chkW 4096 b2 = 0) (ha3 : chkW 4096 a3 = 0) (hb3 : chkW 4096 b3 = 0) (s0 s1 s2 s3 : Nat) (q e : Int) (g : Bool) {Φ : Res → Prop} (ho : ∀ j, OutK E 0 0 (r37_1 a0 b0 a1 b1 a2 b2 a3 b3 (intW a0) (intW b0) (intW a1) (intW b1) (intW a2) (intW b2) (intW a3) (intW b3) s0 s1 s2 s3 q e g j) Φ) (j : Nat → Value) : OutK E 0 0 (q37_1 a0 b0 a1 b1 a2 b2 a3 b3 (intW a0) (intW b0) (intW a1) (intW b1) (intW a2) (intW b2) (intW a3) (intW b3) s0 s1 s2 s3 q e g j) Φ := by
 have ga0 := (chk_zero ha0).2.2
 have gb0 := (chk_zero hb0).2.2
 have ga1 := (chk_zero ha1).2.2
 have gb1 := (chk_zero hb1).2.2
 have ga2 := (chk_zero ha2).2.2
 have gb2 := (chk_zero hb2).2.2
 have ga3 := (chk_zero ha3).2.2
 have gb3 := (chk_zero hb3).2.2
 exact p37A_1 hE a0 b0 a1 b1 a2 b2 a3 b3 (intW a0) (intW b0) (intW a1) (intW b1) (intW a2) (intW b2) (intW a3) (intW b3) s0 s1 s2 s3 q e g (k106 hE (L := 4096) (by decide) ha0) (k106 hE (L := 4096) (by decide) hb0) (K105 hE (by unfold Sm; omega) (by unfold Sm; omega) (by unfold Sm; omega) (by unfold Sm; omega) (by omega) (by omega)) (K104 hE (by omega) (by omega) (by omega) (by omega) (by omega) (by omega)) (k106 hE (L := 4096) (by decide) ha1) (k106 hE (L := 4096) (by decide) hb1) (K105 hE (by unfold Sm; omega) (by unfold Sm; omega) (by unfold Sm; omega) (by unfold Sm; omega) (by omega) (by omega)) (K104 hE (by omega) (by omega) (by omega) (by omega) (by omega) (by omega)) (k106 hE (L := 4096) (by decide) ha2) (k106 hE (L := 4096) (by decide) hb2) (K105 hE (by unfold Sm; omega) (by unfold Sm; omega) (by unfold Sm; omega) (by unfold Sm; omega) (by omega) (by omega)) (K104 hE (by omega) (by omega) (by omega) (by omega) (by omega) (by omega)) (k106 hE (L := 4096) (by decide) ha3) (k106 hE (L := 4096) (by decide) hb3) (K105 hE (by unfold Sm; omega) (by unfold Sm; omega) (by unfold Sm; omega) (by unfold Sm; omega) (by omega) (by omega)) (K104 hE (by omega) (by omega) (by omega) (by omega) (by omega) (by omega)) ho j
theorem t37_1 (hE : EnvOk E) {a0 b0 : Nat} {a1 b1 : Nat} {a2 b2 : Nat} {a3 b3 : Nat} (ha0 : chkW 4096 a0 = 0) (hb0 : chkW 4096 b0 = 0) (ha1 : chkW 4096 a1 = 0) (hb1 : chkW 4096 b1 = 0) (ha2 : chkW 4096 a2 = 0) (hb2 : chkW 4096 b2 = 0) (ha3 : chkW 4096 a3 = 0) (hb3 : chkW 4096 b3 = 0) (s1 s2 s3 : Nat) (q e : Int) (g : Bool) (j : Nat → Value) : OutK E 0 0 (q37_1 a0 b0 a1 b1 a2 b2 a3 b3 (intW a0) (intW b0) (intW a1) (intW b1) (intW a2) (intW b2) (intW a3) (intW b3) (sq0 a0 b0 a1 b1 a2 b2 a3 b3) s1 s2 s3 q e g j) (Go.Ev.Ends E Tryz.f37 (.tup [.agg (unR (oq1 a0 b0 a1 b1 a2 b2 a3 b3 && (oq2 a0 b0 a1 b1 a2 b2 a3 b3 && (oq3 a0 b0 a1 b1 a2 b2 a3 b3 && true))) a0 b0 a1 b1 a2 b2 a3 b3), .one (.v (.int .i64 (unE (oq1 a0 b0 a1 b1 a2 b2 a3 b3 && (oq2 a0 b0 a1 b1 a2 b2 a3 b3 && (oq3 a0 b0 a1 b1 a2 b2 a3 b3 && true))))))]) [some ⟨unR (oq1 a0 b0 a1 b1 a2 b2 a3 b3 && (oq2 a0 b0 a1 b1 a2 b2 a3 b3 && (oq3 a0 b0 a1 b1 a2 b2 a3 b3 && true))) a0 b0 a1 b1 a2 b2 a3 b3, 4, 56, true, .cells⟩]) := by
 have ga0 := (chk_zero ha0).2.2
 have gb0 := (chk_zero hb0).2.2
 have ga1 := (chk_zero ha1).2.2
 have gb1 := (chk_zero hb1).2.2
 have ga2 := (chk_zero ha2).2.2
 have gb2 := (chk_zero hb2).2.2
 have ga3 := (chk_zero ha3).2.2
 have gb3 := (chk_zero hb3).2.2
 have hq : ((((((intW a0) + (-(intW b1))) + (-(intW a2))) + (intW b3))).tdiv 4).natAbs ≤ 2 ^ 40 := tdiv4 (by omega)
 by_cases c1 : ((((intW b0) + (intW a1)) + (-(intW b2))) + (-(intW a3))) = 0
 ·by_cases c2 : (((((intW a0) + (-(intW b1))) + (-(intW a2))) + (intW b3))).tmod 4 = 0
  ·by_cases c3 : (rngI (-16384) 16384 ((((((intW a0) + (-(intW b1))) + (-(intW a2))) + (intW b3))).tdiv 4)) = 0
   ·have hok : oq1 a0 b0 a1 b1 a2 b2 a3 b3 = true := okU_t c1 c2 c3
    have hs : ((((((intW a0) + (-(intW b1))) + (-(intW a2))) + (intW b3))).tdiv 4).natAbs < 2 ^ 24 := by
     unfold rngI at c3
     split at c3
     ·omega
     ·omega
    rw [hok, Bool.true_and]
    refine A37_1 hE ha0 hb0 ha1 hb1 ha2 hb2 ha3 hb3 (sq0 a0 b0 a1 b1 a2 b2 a3 b3) (smpW ((((((intW a0) + (-(intW b1))) + (-(intW a2))) + (intW b3))).tdiv 4)) s2 s3 ((((((intW a0) + (-(intW b1))) + (-(intW a2))) + (intW b3))).tdiv 4) (rngI (-16384) 16384 ((((((intW a0) + (-(intW b1))) + (-(intW a2))) + (intW b3))).tdiv 4)) g (fun j => ?_) j
    exact p37p_1 hE a0 b0 a1 b1 a2 b2 a3 b3 (intW a0) (intW b0) (intW a1) (intW b1) (intW a2) (intW b2) (intW a3) (intW b3) (sq0 a0 b0 a1 b1 a2 b2 a3 b3) (smpW ((((((intW a0) + (-(intW b1))) + (-(intW a2))) + (intW b3))).tdiv 4)) s2 s3 ((((((intW a0) + (-(intW b1))) + (-(intW a2))) + (intW b3))).tdiv 4) (rngI (-16384) 16384 ((((((intW a0) + (-(intW b1))) + (-(intW a2))) + (intW b3))).tdiv 4)) g (eqFt (neF c1)) (eqFt (neF c1)) (eqFt (neF c1)) (eqFt (neF c1)) (neF c1) (eqFt (neF c2)) (eqFt (neF c2)) (eqFt (neF c2)) (iIe (wr (by omega))) (eqFt (neF c2)) (K80 hE _ _ _) (eqFt (neF c2)) (neF c2) (neF c3) (iIe (wr (by omega))) (k101 hE hs) (t37_2 hE ha0 hb0 ha1 hb1 ha2 hb2 ha3 hb3 s2 s3 0 0 false) j
   ·have hok : oq1 a0 b0 a1 b1 a2 b2 a3 b3 = false := okU_f fun h => c3 h.2.2
    rw [hok, Bool.false_and]
    refine A37_1 hE ha0 hb0 ha1 hb1 ha2 hb2 ha3 hb3 (sq0 a0 b0 a1 b1 a2 b2 a3 b3) s1 s2 s3 ((((((intW a0) + (-(intW b1))) + (-(intW a2))) + (intW b3))).tdiv 4) (rngI (-16384) 16384 ((((((intW a0) + (-(intW b1))) + (-(intW a2))) + (intW b3))).tdiv 4)) g (fun j => ?_) j
    exact p37w_1 hE a0 b0 a1 b1 a2 b2 a3 b3 (intW a0) (intW b0) (intW a1) (intW b1) (intW a2) (intW b2) (intW a3) (intW b3) (sq0 a0 b0 a1 b1 a2 b2 a3 b3) s1 s2 s3 ((((((intW a0) + (-(intW b1))) + (-(intW a2))) + (intW b3))).tdiv 4) (rngI (-16384) 16384 ((((((intW a0) + (-(intW b1))) + (-(intW a2))) + (intW b3))).tdiv 4)) g (eqFt (neF c1)) (eqFt (neF c1)) (eqFt (neF c1)) (eqFt (neF c1)) (neF c1) (eqFt (neF c2)) (eqFt (neF c2)) (eqFt (neF c2)) (iIe (wr (by omega))) (eqFt (neF c2)) (K80 hE _ _ _) (eqFt (neF c2)) (neF c2) (neT c3) (fun j => outK_ret (ends_ret (by kernel_rfl))) j
  ·have hok : oq1 a0 b0 a1 b1 a2 b2 a3 b3 = false := okU_f fun h => c2 h.2.1
   rw [hok, Bool.false_and]
   refine A37_1 hE ha0 hb0 ha1 hb1 ha2 hb2 ha3 hb3 (sq0 a0 b0 a1 b1 a2 b2 a3 b3) s1 s2 s3 ((((((intW a0) + (-(intW b1))) + (-(intW a2))) + (intW b3))).tdiv 4) (rngI (-16384) 16384 ((((((intW a0) + (-(intW b1))) + (-(intW a2))) + (intW b3))).tdiv 4)) g (fun j => ?_) j
   exact p37r_1 hE a0 b0 a1 b1 a2 b2 a3 b3 (intW a0) (intW b0) (intW a1) (intW b1) (intW a2) (intW b2) (intW a3) (intW b3) (sq0 a0 b0 a1 b1 a2 b2 a3 b3) s1 s2 s3 ((((((intW a0) + (-(intW b1))) + (-(intW a2))) + (intW b3))).tdiv 4) (rngI (-16384) 16384 ((((((intW a0) + (-(intW b1))) + (-(intW a2))) + (intW b3))).tdiv 4)) g (eqFt (neF c1)) (eqFt (neF c1)) (eqFt (neF c1)) (eqFt (neF c1)) (neF c1) (eqTf (neT c2)) (eqTf (neT c2)) (eqTf (neT c2)) (eqTf (neT c2)) (eqTf (neT c2)) (neT c2) (fun j => outK_ret (ends_ret (by kernel_rfl))) j
 ·have hok : oq1 a0 b0 a1 b1 a2 b2 a3 b3 = false := okU_f fun h => c1 h.1
  rw [hok, Bool.false_and]
  refine A37_1 hE ha0 hb0 ha1 hb1 ha2 hb2 ha3 hb3 (sq0 a0 b0 a1 b1 a2 b2 a3 b3) s1 s2 s3 ((((((intW a0) + (-(intW b1))) + (-(intW a2))) + (intW b3))).tdiv 4) (rngI (-16384) 16384 ((((((intW a0) + (-(intW b1))) + (-(intW a2))) + (intW b3))).tdiv 4)) g (fun j => ?_) j
  exact p37i_1 hE a0 b0 a1 b1 a2 b2 a3 b3 (intW a0) (intW b0) (intW a1) (intW b1) (intW a2) (intW b2) (intW a3) (intW b3) (sq0 a0 b0 a1 b1 a2 b2 a3 b3) s1 s2 s3 ((((((intW a0) + (-(intW b1))) + (-(intW a2))) + (intW b3))).tdiv 4) (rngI (-16384) 16384 ((((((intW a0) + (-(intW b1))) + (-(intW a2))) + (intW b3))).tdiv 4)) g (eqTf (neT c1)) (eqTf (neT c1)) (eqTf (neT c1)) (eqTf (neT c1)) (neT c1) (fun j => outK_ret (ends_ret (by kernel_rfl))) j
theorem A37_0 (hE : EnvOk E) {a0 b0 : Nat} {a1 b1 : Nat} {a2 b2 : Nat} {a3 b3 : Nat} (ha0 : chkW 4096 a0 = 0) (hb0 : chkW 4096 b0 = 0) (ha1 : chkW 4096 a1 = 0) (hb1 : chkW 4096 b1 = 0) (ha2 : chkW 4096 a2 = 0) (hb2 : chkW 4096 b2 = 0) (ha3 : chkW 4096 a3 = 0) (hb3 : chkW 4096 b3 = 0) (s0 s1 s2 s3 : Nat) (q e : Int) (g : Bool) {Φ : Res → Prop} (ho : ∀ j, OutK E 0 0 (r37_0 a0 b0 a1 b1 a2 b2 a3 b3 (intW a0) (intW b0) (intW a1) (intW b1) (intW a2) (intW b2) (intW a3) (intW b3) s0 s1 s2 s3 q e g j) Φ) (j : Nat → Value) : OutK E 0 0 (q37_0 a0 b0 a1 b1 a2 b2 a3 b3 (intW a0) (intW b0) (intW a1) (intW b1) (intW a2) (intW b2) (intW a3) (intW b3) s0 s1 s2 s3 q e g j) Φ := by
 have ga0 := (chk_zero ha0).2.2
 have gb0 := (chk_zero hb0).2.2
 have ga1 := (chk_zero ha1).2.2
 have gb1 := (chk_zero hb1).2.2
 have ga2 := (chk_zero ha2).2.2
 have gb2 := (chk_zero hb2).2.2
 have ga3 := (chk_zero ha3).2.2
 have gb3 := (chk_zero hb3).2.2
 exact p37A_0 hE a0 b0 a1 b1 a2 b2 a3 b3 (intW a0) (intW b0) (intW a1) (intW b1) (intW a2) (intW b2) (intW a3) (intW b3) s0 s1 s2 s3 q e g (k106 hE (L := 4096) (by decide) ha0) (k106 hE (L := 4096) (by decide) hb0) (K105 hE (by unfold Sm; omega) (by unfold Sm; omega) (by unfold Sm; omega) (by unfold Sm; omega) (by omega) (by omega)) (K104 hE (by omega) (by omega) (by omega) (by omega) (by omega) (by omega)) (k106 hE (L := 4096) (by decide) ha1) (k106 hE (L := 4096) (by decide) hb1) (K105 hE (by unfold Sm; omega) (by unfold Sm; omega) (by unfold Sm; omega) (by unfold Sm; omega) (by omega) (by omega)) (K104 hE (by omega) (by omega) (by omega) (by omega) (by omega) (by omega)) (k106 hE (L := 4096) (by decide) ha2) (k106 hE (L := 4096) (by decide) hb2) (K105 hE (by unfold Sm; omega) (by unfold Sm; omega) (by unfold Sm; omega) (by unfold Sm; omega) (by omega) (by omega)) (K104 hE (by omega) (by omega) (by omega) (by omega) (by omega) (by omega)) (k106 hE (L := 4096) (by decide) ha3) (k106 hE (L := 4096) (by decide) hb3) (K105 hE (by unfold Sm; omega) (by unfold Sm; omega) (by unfold Sm; omega) (by unfold Sm; omega) (by omega) (by omega)) (K104 hE (by omega) (by omega) (by omega) (by omega) (by omega) (by omega)) ho j
theorem t37_0 (hE : EnvOk E) {a0 b0 : Nat} {a1 b1 : Nat} {a2 b2 : Nat} {a3 b3 : Nat} (ha0 : chkW 4096 a0 = 0) (hb0 : chkW 4096 b0 = 0) (ha1 : chkW 4096 a1 = 0) (hb1 : chkW 4096 b1 = 0) (ha2 : chkW 4096 a2 = 0) (hb2 : chkW 4096 b2 = 0) (ha3 : chkW 4096 a3 = 0) (hb3 : chkW 4096 b3 = 0) (s0 s1 s2 s3 : Nat) (q e : Int) (g : Bool) (j : Nat → Value) : OutK E 0 0 (q37_0 a0 b0 a1 b1 a2 b2 a3 b3 (intW a0) (intW b0) (intW a1) (intW b1) (intW a2) (intW b2) (intW a3) (intW b3) s0 s1 s2 s3 q e g j) (Go.Ev.Ends E Tryz.f37 (.tup [.agg (unR (oq0 a0 b0 a1 b1 a2 b2 a3 b3 && (oq1 a0 b0 a1 b1 a2 b2 a3 b3 && (oq2 a0 b0 a1 b1 a2 b2 a3 b3 && (oq3 a0 b0 a1 b1 a2 b2 a3 b3 && true)))) a0 b0 a1 b1 a2 b2 a3 b3), .one (.v (.int .i64 (unE (oq0 a0 b0 a1 b1 a2 b2 a3 b3 && (oq1 a0 b0 a1 b1 a2 b2 a3 b3 && (oq2 a0 b0 a1 b1 a2 b2 a3 b3 && (oq3 a0 b0 a1 b1 a2 b2 a3 b3 && true)))))))]) [some ⟨unR (oq0 a0 b0 a1 b1 a2 b2 a3 b3 && (oq1 a0 b0 a1 b1 a2 b2 a3 b3 && (oq2 a0 b0 a1 b1 a2 b2 a3 b3 && (oq3 a0 b0 a1 b1 a2 b2 a3 b3 && true)))) a0 b0 a1 b1 a2 b2 a3 b3, 4, 56, true, .cells⟩]) := by
 have ga0 := (chk_zero ha0).2.2
 have gb0 := (chk_zero hb0).2.2
 have ga1 := (chk_zero ha1).2.2
 have gb1 := (chk_zero hb1).2.2
 have ga2 := (chk_zero ha2).2.2
 have gb2 := (chk_zero hb2).2.2
 have ga3 := (chk_zero ha3).2.2
 have gb3 := (chk_zero hb3).2.2
 have hq : ((((((intW a0) + (intW a1)) + (intW a2)) + (intW a3))).tdiv 4).natAbs ≤ 2 ^ 40 := tdiv4 (by omega)
 by_cases c1 : ((((intW b0) + (intW b1)) + (intW b2)) + (intW b3)) = 0
 ·by_cases c2 : (((((intW a0) + (intW a1)) + (intW a2)) + (intW a3))).tmod 4 = 0
  ·by_cases c3 : (rngI (-16384) 16384 ((((((intW a0) + (intW a1)) + (intW a2)) + (intW a3))).tdiv 4)) = 0
   ·have hok : oq0 a0 b0 a1 b1 a2 b2 a3 b3 = true := okU_t c1 c2 c3
    have hs : ((((((intW a0) + (intW a1)) + (intW a2)) + (intW a3))).tdiv 4).natAbs < 2 ^ 24 := by
     unfold rngI at c3
     split at c3
     ·omega
     ·omega
    rw [hok, Bool.true_and]
    refine A37_0 hE ha0 hb0 ha1 hb1 ha2 hb2 ha3 hb3 (smpW ((((((intW a0) + (intW a1)) + (intW a2)) + (intW a3))).tdiv 4)) s1 s2 s3 ((((((intW a0) + (intW a1)) + (intW a2)) + (intW a3))).tdiv 4) (rngI (-16384) 16384 ((((((intW a0) + (intW a1)) + (intW a2)) + (intW a3))).tdiv 4)) g (fun j => ?_) j
    exact p37p_0 hE a0 b0 a1 b1 a2 b2 a3 b3 (intW a0) (intW b0) (intW a1) (intW b1) (intW a2) (intW b2) (intW a3) (intW b3) (smpW ((((((intW a0) + (intW a1)) + (intW a2)) + (intW a3))).tdiv 4)) s1 s2 s3 ((((((intW a0) + (intW a1)) + (intW a2)) + (intW a3))).tdiv 4) (rngI (-16384) 16384 ((((((intW a0) + (intW a1)) + (intW a2)) + (intW a3))).tdiv 4)) g (eqFt (neF c1)) (eqFt (neF c1)) (eqFt (neF c1)) (eqFt (neF c1)) (neF c1) (eqFt (neF c2)) (eqFt (neF c2)) (eqFt (neF c2)) (iIe (wr (by omega))) (eqFt (neF c2)) (K80 hE _ _ _) (eqFt (neF c2)) (neF c2) (neF c3) (iIe (wr (by omega))) (k101 hE hs) (t37_1 hE ha0 hb0 ha1 hb1 ha2 hb2 ha3 hb3 s1 s2 s3 0 0 false) j
   ·have hok : oq0 a0 b0 a1 b1 a2 b2 a3 b3 = false := okU_f fun h => c3 h.2.2
    rw [hok, Bool.false_and]
    refine A37_0 hE ha0 hb0 ha1 hb1 ha2 hb2 ha3 hb3 s0 s1 s2 s3 ((((((intW a0) + (intW a1)) + (intW a2)) + (intW a3))).tdiv 4) (rngI (-16384) 16384 ((((((intW a0) + (intW a1)) + (intW a2)) + (intW a3))).tdiv 4)) g (fun j => ?_) j
    exact p37w_0 hE a0 b0 a1 b1 a2 b2 a3 b3 (intW a0) (intW b0) (intW a1) (intW b1) (intW a2) (intW b2) (intW a3) (intW b3) s0 s1 s2 s3 ((((((intW a0) + (intW a1)) + (intW a2)) + (intW a3))).tdiv 4) (rngI (-16384) 16384 ((((((intW a0) + (intW a1)) + (intW a2)) + (intW a3))).tdiv 4)) g (eqFt (neF c1)) (eqFt (neF c1)) (eqFt (neF c1)) (eqFt (neF c1)) (neF c1) (eqFt (neF c2)) (eqFt (neF c2)) (eqFt (neF c2)) (iIe (wr (by omega))) (eqFt (neF c2)) (K80 hE _ _ _) (eqFt (neF c2)) (neF c2) (neT c3) (fun j => outK_ret (ends_ret (by kernel_rfl))) j
  ·have hok : oq0 a0 b0 a1 b1 a2 b2 a3 b3 = false := okU_f fun h => c2 h.2.1
   rw [hok, Bool.false_and]
   refine A37_0 hE ha0 hb0 ha1 hb1 ha2 hb2 ha3 hb3 s0 s1 s2 s3 ((((((intW a0) + (intW a1)) + (intW a2)) + (intW a3))).tdiv 4) (rngI (-16384) 16384 ((((((intW a0) + (intW a1)) + (intW a2)) + (intW a3))).tdiv 4)) g (fun j => ?_) j
   exact p37r_0 hE a0 b0 a1 b1 a2 b2 a3 b3 (intW a0) (intW b0) (intW a1) (intW b1) (intW a2) (intW b2) (intW a3) (intW b3) s0 s1 s2 s3 ((((((intW a0) + (intW a1)) + (intW a2)) + (intW a3))).tdiv 4) (rngI (-16384) 16384 ((((((intW a0) + (intW a1)) + (intW a2)) + (intW a3))).tdiv 4)) g (eqFt (neF c1)) (eqFt (neF c1)) (eqFt (neF c1)) (eqFt (neF c1)) (neF c1) (eqTf (neT c2)) (eqTf (neT c2)) (eqTf (neT c2)) (eqTf (neT c2)) (eqTf (neT c2)) (neT c2) (fun j => outK_ret (ends_ret (by kernel_rfl))) j
 ·have hok : oq0 a0 b0 a1 b1 a2 b2 a3 b3 = false := okU_f fun h => c1 h.1
  rw [hok, Bool.false_and]
  refine A37_0 hE ha0 hb0 ha1 hb1 ha2 hb2 ha3 hb3 s0 s1 s2 s3 ((((((intW a0) + (intW a1)) + (intW a2)) + (intW a3))).tdiv 4) (rngI (-16384) 16384 ((((((intW a0) + (intW a1)) + (intW a2)) + (intW a3))).tdiv 4)) g (fun j => ?_) j
  exact p37i_0 hE a0 b0 a1 b1 a2 b2 a3 b3 (intW a0) (intW b0) (intW a1) (intW b1) (intW a2) (intW b2) (intW a3) (intW b3) s0 s1 s2 s3 ((((((intW a0) + (intW a1)) + (intW a2)) + (intW a3))).tdiv 4) (rngI (-16384) 16384 ((((((intW a0) + (intW a1)) + (intW a2)) + (intW a3))).tdiv 4)) g (eqTf (neT c1)) (eqTf (neT c1)) (eqTf (neT c1)) (eqTf (neT c1)) (neT c1) (fun j => outK_ret (ends_ret (by kernel_rfl))) j
theorem chkZ4 {a0 b0 : Nat} {a1 b1 : Nat} {a2 b2 : Nat} {a3 b3 : Nat} (h : chkZL [(a0, b0),(a1, b1),(a2, b2),(a3, b3)] = 0) : chkW 4096 a0 = 0 ∧ chkW 4096 b0 = 0 ∧ chkW 4096 a1 = 0 ∧ chkW 4096 b1 = 0 ∧ chkW 4096 a2 = 0 ∧ chkW 4096 b2 = 0 ∧ chkW 4096 a3 = 0 ∧ chkW 4096 b3 = 0 := by
 have key : ∀ a b, chkZ (a, b) = 0 → chkW 4096 a = 0 ∧ chkW 4096 b = 0 := by
  intro a b h
  rw [← pan_eq] at h
  unfold pan at h
  by_cases h1 : chkW 4096 a = 0
  ·by_cases h2 : chkW 4096 b = 0
   ·exact ⟨h1, h2⟩
   ·by_cases h3 : chkW 4096 b = 1 <;> simp [h1, h2, h3] at h
  ·by_cases h3 : chkW 4096 a = 1
   ·simp [h3] at h
   ·by_cases h4 : chkW 4096 b = 1 <;> simp [h1, h3, h4] at h
 unfold chkZL at h
 simp only [List.map_cons, List.map_nil, firstI] at h
 by_cases h0 : chkZ (a0, b0) = 0
 ·by_cases h1 : chkZ (a1, b1) = 0
  ·by_cases h2 : chkZ (a2, b2) = 0
   ·by_cases h3 : chkZ (a3, b3) = 0
    ·exact ⟨(key _ _ h0).1, (key _ _ h0).2, (key _ _ h1).1, (key _ _ h1).2, (key _ _ h2).1, (key _ _ h2).2, key _ _ h3⟩
    ·simp [h0, h1, h2, h3] at h
   ·simp [h0, h1, h2] at h
  ·simp [h0, h1] at h
 ·simp [h0] at h
def okA (a0 b0 a1 b1 a2 b2 a3 b3 : Nat) : Bool := (oq0 a0 b0 a1 b1 a2 b2 a3 b3 && (oq1 a0 b0 a1 b1 a2 b2 a3 b3 && (oq2 a0 b0 a1 b1 a2 b2 a3 b3 && (oq3 a0 b0 a1 b1 a2 b2 a3 b3 && true))))
theorem lendZ (lv : Nat) (hE : EnvOk E) (a0 b0 a1 b1 a2 b2 a3 b3 : Nat) (h : Heap) (hh : getL h 0 = some (some ⟨([.v (.complex .f32 a0 b0), .v (.complex .f32 a1 b1), .v (.complex .f32 a2 b2), .v (.complex .f32 a3 b3)] : List DT).map DT.ac, 4, 59, true, .cells⟩)) : COut E lv h 102 [.e (.one (.slc 0 0 4 1 4 true)), .e (.one (.v (.func (.func 103) #[] #[])))] (iI (chkZL [(a0, b0),(a1, b1),(a2, b2),(a3, b3)])) h :=
 cOut_lend h (K102 hE [(a0, b0),(a1, b1),(a2, b2),(a3, b3)] (by simp)) ⟨lend1 hh rfl, .inl ⟨rfl, rfl⟩, trivial⟩ rfl rfl
def unfE (a0 b0 a1 b1 a2 b2 a3 b3 : Nat) : Int := if chkZL [(a0, b0),(a1, b1),(a2, b2),(a3, b3)] = 0 then unE (okA a0 b0 a1 b1 a2 b2 a3 b3) else chkZL [(a0, b0),(a1, b1),(a2, b2),(a3, b3)]
def unfL (a0 b0 a1 b1 a2 b2 a3 b3 : Nat) : List AC := unR (decide (chkZL [(a0, b0),(a1, b1),(a2, b2),(a3, b3)] = 0) && okA a0 b0 a1 b1 a2 b2 a3 b3) a0 b0 a1 b1 a2 b2 a3 b3
theorem K37 (hE : EnvOk E) (a0 b0 a1 b1 a2 b2 a3 b3 : Nat) : COut E 0 [] 37 [.e (.agg (zL a0 b0 a1 b1 a2 b2 a3 b3))] (.tup [.agg (unfL a0 b0 a1 b1 a2 b2 a3 b3), .one (.v (.int .i64 (unfE a0 b0 a1 b1 a2 b2 a3 b3)))]) [] := by
 unfold unfL unfE
 by_cases h : chkZL [(a0, b0),(a1, b1),(a2, b2),(a3, b3)] = 0
 ·obtain ⟨ha0, hb0, ha1, hb1, ha2, hb2, ha3, hb3⟩ := chkZ4 h
  rw [if_pos h, decide_eq_true h, Bool.true_and]
  exact cOut_clear (cOut_start Tryz.func37 rfl (p37a hE a0 b0 a1 b1 a2 b2 a3 b3 _ (lendZ _ hE a0 b0 a1 b1 a2 b2 a3 b3 _ rfl) (by simpa using h) (t37_0 hE ha0 hb0 ha1 hb1 ha2 hb2 ha3 hb3 0 0 0 0 0 0 false) fun _ => undef)) (by cases okA a0 b0 a1 b1 a2 b2 a3 b3 <;> rfl)
 ·rw [if_neg h, decide_eq_false h, Bool.false_and]
  exact cOut_clear (cOut_start Tryz.func37 rfl (p37e hE a0 b0 a1 b1 a2 b2 a3 b3 _ (lendZ _ hE a0 b0 a1 b1 a2 b2 a3 b3 _ rfl) (by simpa using h) (fun j => outK_ret (ends_ret (by kernel_rfl))) fun _ => undef)) rfl
end
end Go.Proofs.YtbmcfhkedgpldaaGreatDoor
end

/-! SeFf -/
section
open Go Go.Ev
namespace Go.Proofs.YtbmcfhkedgpldaaGreatDoor
noncomputable section
set_option maxRecDepth 100000
set_option maxHeartbeats 20000000
def s5 (l0 l1 l2 l3 p0 p1 p2 p3 p4 p5 p6 p7 : Nat) (_e _f : Int) (_u0 _v0 _u1 _v1 _u2 _v2 _u3 _v3 _s0 _s1 _s2 _s3 : Nat) (_f2 : Int) (_j : Nat → Value) : St := startK Tryz.f5 [] [.e (.agg [fC l0, fC l1, fC l2, fC l3]), .e (.agg [fC p0, fC p1, fC p2, fC p3, fC p4, fC p5, fC p6, fC p7])]
open Ieee
end
end Go.Proofs.YtbmcfhkedgpldaaGreatDoor
end

/-! SePlF -/
section
open Ieee
set_option autoImplicit false
namespace Ieee
theorem Num.mul2 {f : Format} (hf : Fit f) (hE : 3 ≤ 2 ^ f.exponentBits) {c x : Nat} {V : Int} (hc : f.read c = .number false (2 ^ f.fractionBits) (1 - f.fractionBits)) (hF : f.fractionBits ≤ 100) (hx : Num f x V) {n : Nat} (hb : V.natAbs < 2 ^ n) (hn : (n : Int) ≤ 1297 + f.top + f.fractionBits) :
  ∃ r, f.mul c x = some r ∧ Num f r (2 * V) := by
 obtain ⟨s, m, e, h2, h3, h4, rfl⟩ := hx
 have hlo := hf.lo
 have hX := EX_eq
 unfold Format.mul Datum.product
 rw [hc, h2]
 simp only [Option.map_some, Format.write, Bool.false_xor]
 refine ⟨_, rfl, ?_⟩
 rw [Nat.mul_comm (2 ^ f.fractionBits) m]
 by_cases hm : m = 0
 ·subst hm
  have := num_zero hf hE s (1 - f.fractionBits + e)
  simpa [sg] using this
 ·rw [sg_natAbs] at hb
  have hl := mag_lt hm (by omega) hb
  have hk := num_nearest hf hE s (a := m) (k := f.fractionBits) (e := 1 - f.fractionBits + e) h4 (by omega) (by omega) (.inr (by omega))
  have e1 : sg s (m * 2 ^ f.fractionBits * 2 ^ (1 - (f.fractionBits : Int) + e + EX).toNat) = 2 * sg s (m * 2 ^ (e + EX).toNat) := by
   rw [Nat.mul_assoc, ← Nat.pow_add, show f.fractionBits + (1 - (f.fractionBits : Int) + e + EX).toNat = (e + EX).toNat + 1 by omega, Nat.pow_add, ← Nat.mul_assoc, sg_mul, Int.mul_comm]
   rfl
  rw [e1] at hk
  exact hk
theorem c2_single : single.read 1073741824 = .number false (2 ^ single.fractionBits) (1 - single.fractionBits) := by decide
theorem chk_of {b : Nat} {V n : Int} {L : Nat} (hV : Num single b V) (h1 : 16 * V = n * KK) (hn : n.natAbs ≤ 16 * L) : chkW L b = 0 ∧ intW b = n := by
 obtain ⟨e1, e2⟩ := finW_num hV
 have hk := KK_pos
 have hi : intW b = n := by
  unfold intW
  rw [e2, h1, Int.mul_tdiv_cancel _ (by omega)]
 refine ⟨?_, hi⟩
 unfold chkW mulW
 rw [if_pos e1, if_pos]
 refine ⟨e1, ?_, ?_⟩
 ·rw [e2, h1]; exact Int.mul_emod_left _ _
 ·rw [e2]
  have e : 16 * V.natAbs = n.natAbs * KK := by
   have := congrArg Int.natAbs h1
   rw [Int.natAbs_mul, Int.natAbs_mul] at this
   simpa using this
  have := Nat.mul_le_mul_right KK hn
  rw [Nat.mul_assoc] at this
  omega
theorem order_chk {a b : Nat} {L M : Nat} (ha : chkW L a = 0) (hb : chkW M b = 0) : single.order a b = some (compare (intW a) (intW b)) := by
 obtain ⟨h1, h2, _⟩ := chk_zero ha
 obtain ⟨k1, k2, _⟩ := chk_zero hb
 have hk := KK_pos
 rw [h1.order fit_single k1]
 congr 1
 rw [← compare_mul (valW a) (valW b) (c := 16) (by omega), Int.mul_comm (valW a), Int.mul_comm (valW b), h2, k2, compare_mul _ _ (by omega)]
theorem chk500 : chkW 1024 1140457472 = 0 ∧ intW 1140457472 = 8000 := by decide +kernel
theorem chkm500 : chkW 1024 3287941120 = 0 ∧ intW 3287941120 = -8000 := by decide +kernel
theorem gt500 {b : Nat} (hb : chkW 1024 b = 0) : (single.order b 1140457472 == some .gt) = decide (intW b > 8000) := by
 rw [order_chk hb chk500.1, chk500.2]
 by_cases h : intW b > 8000
 ·rw [decide_eq_true h, show compare (intW b) 8000 = .gt from Int.compare_eq_gt.2 h]; rfl
 ·rw [decide_eq_false h]
  have : compare (intW b) 8000 ≠ .gt := fun e => h (Int.compare_eq_gt.1 e)
  revert this
  cases compare (intW b) 8000 <;> simp
theorem lt500 {b : Nat} (hb : chkW 1024 b = 0) : (single.order b 3287941120 == some .lt) = decide (intW b < -8000) := by
 rw [order_chk hb chkm500.1, chkm500.2]
 by_cases h : intW b < -8000
 ·rw [decide_eq_true h, show compare (intW b) (-8000) = .lt from Int.compare_eq_lt.2 h]; rfl
 ·rw [decide_eq_false h]
  have : compare (intW b) (-8000) ≠ .lt := fun e => h (Int.compare_eq_lt.1 e)
  revert this
  cases compare (intW b) (-8000) <;> simp
def dblW (b : Nat) : Nat := (single.mul 1073741824 b).getD 0
theorem dbl_ok {b : Nat} (hb : chkW 1024 b = 0) (h : (intW b).natAbs ≤ 8000) : single.mul 1073741824 b = some (dblW b) ∧ chkW 1024 (dblW b) = 0 ∧ intW (dblW b) = 2 * intW b := by
 obtain ⟨h1, h2, h3⟩ := chk_zero hb
 have hX := EX_eq
 have hlt : (valW b).natAbs < 2 ^ (25 + EX) := by
  have e : 16 * (valW b).natAbs = (intW b).natAbs * KK := by
   have := congrArg Int.natAbs h2
   rw [Int.natAbs_mul, Int.natAbs_mul] at this
   simpa using this
  have := KK_pow (intW b).natAbs (e := 25) (by omega)
  omega
 obtain ⟨r, hr, hn⟩ := h1.mul2 fit_single (by decide) c2_single (by decide) hlt (by rw [top_single, hX]; decide)
 have e : dblW b = r := by unfold dblW; rw [hr]; rfl
 rw [e]
 exact ⟨hr, chk_of hn (n := 2 * intW b) (by rw [Int.mul_assoc, ← h2]; omega) (by omega)⟩
theorem Num.neg {f : Format} {b : Nat} {V : Int} (h : Num f b V) : Num f (b ^^^ f.signWeight) (-V) := by
 obtain ⟨s, m, e, h1, h2, h3, rfl⟩ := h
 refine ⟨!s, m, e, ?_, h2, h3, by cases s <;> simp [sg]⟩
 have e1 : (b ^^^ f.signWeight) % f.signWeight = b % f.signWeight := by
  unfold Format.signWeight
  rw [Nat.xor_mod_two_pow, Nat.mod_self, Nat.xor_zero]
 have e2 : (b ^^^ f.signWeight) / f.signWeight = (b / f.signWeight) ^^^ 1 := by
  unfold Format.signWeight
  rw [Nat.xor_div_two_pow, Nat.div_self (pow_pos2 _)]
 have e3 : ∀ x : Nat, ((x ^^^ 1) % 2 == 1) = !(x % 2 == 1) := by
  intro x
  rw [show (x ^^^ 1) % 2 = (x % 2) ^^^ (1 % 2) from Nat.xor_mod_two_pow (n := 1)]
  rcases Nat.mod_two_eq_zero_or_one x with h | h <;> rw [h] <;> rfl
 unfold Format.read at h1 ⊢
 simp only [e1, e2, e3] at h1 ⊢
 split at h1
 ·rename_i hr
  rw [if_pos hr]
  simp only [Datum.number.injEq] at h1 ⊢
  exact ⟨by rw [h1.1], h1.2⟩
 ·rename_i hr
  rw [if_neg hr]
  split at h1
  ·rename_i hr2
   rw [if_pos hr2]
   simp only [Datum.number.injEq] at h1 ⊢
   exact ⟨by rw [h1.1], h1.2⟩
  ·split at h1 <;> simp at h1
theorem neg_ok {L b : Nat} (hb : chkW L b = 0) : chkW L (b ^^^ single.signWeight) = 0 ∧ intW (b ^^^ single.signWeight) = -intW b := by
 obtain ⟨h1, h2, h3⟩ := chk_zero hb
 exact chk_of h1.neg (n := -intW b) (by rw [Int.mul_neg, h2, Int.neg_mul]) (by omega)
theorem add_cancel {x y : Nat} {V : Int} (hx : Num single x V) (hy : Num single y (-V)) (h0 : V ≠ 0) : single.add x y = some 0 := by
 obtain ⟨s, m, i, h1, g1, _, e1⟩ := hx
 obtain ⟨t, n, j, h2, g2, _, e2⟩ := hy
 have hX := EX_eq
 have hlo : single.leastPlace = -149 := by decide
 unfold Format.add Datum.sum
 rw [h1, h2]
 simp only [Option.map_some, Format.write, signed_eq]
 have key : sg s (m * 2 ^ (i - min i j).toNat) + sg t (n * 2 ^ (j - min i j).toNat) = 0 := by
  have hp : 0 < (2 ^ (min i j + EX).toNat : Nat) := pow_pos2 _
  have k1 : sg s (m * 2 ^ (i + EX).toNat) = sg s (m * 2 ^ (i - min i j).toNat) * (2 ^ (min i j + EX).toNat : Nat) := by
   rw [← sg_mul, Nat.mul_assoc, ← Nat.pow_add]
   congr 3; omega
  have k2 : sg t (n * 2 ^ (j + EX).toNat) = sg t (n * 2 ^ (j - min i j).toNat) * (2 ^ (min i j + EX).toNat : Nat) := by
   rw [← sg_mul, Nat.mul_assoc, ← Nat.pow_add]
   congr 3; omega
  have k3 : (sg s (m * 2 ^ (i - min i j).toNat) + sg t (n * 2 ^ (j - min i j).toNat)) * (2 ^ (min i j + EX).toNat : Nat) = 0 := by
   rw [Int.add_mul, ← k1, ← k2, ← e1, ← e2]; omega
  rcases Int.mul_eq_zero.1 k3 with h | h
  ·exact h
  ·omega
 rw [key, if_pos rfl]
 have hst : (s && t) = false := by
  cases s with
  | false => rfl
  | true =>
   cases t with
   | false => rfl
   | true =>
    exfalso
    have e1' : V = -((m * 2 ^ (i + EX).toNat : Nat) : Int) := e1
    have e2' : -V = -((n * 2 ^ (j + EX).toNat : Nat) : Int) := e2
    generalize m * 2 ^ (i + EX).toNat = A at e1'
    generalize n * 2 ^ (j + EX).toNat = B at e2'
    omega
 rw [hst]
 rfl
theorem smp0 : smpW 0 = 0 := by decide +kernel
theorem add_zero : single.add 0 0 = some 0 := by decide +kernel
theorem add_smp {n : Int} (hn : n.natAbs < 2 ^ 24) : single.add (smpW n) (smpW (-n)) = some 0 := by
 by_cases c : n = 0
 ·subst c
  rw [show -(0 : Int) = 0 from rfl, smp0]
  exact add_zero
 ·obtain ⟨V, h1, _, h2⟩ := smp_num hn
  obtain ⟨W, k1, _, k2⟩ := smp_num (n := -n) (by omega)
  have hk := KK_pos
  have e : W = -V := by
   have : 16 * W = 16 * -V := by rw [k1, Int.neg_mul, ← h1]; omega
   omega
  rw [e] at k2
  refine add_cancel h2 k2 fun h => ?_
  rw [h] at h1
  rcases Int.mul_eq_zero.1 (show n * (KK : Int) = 0 by omega) with h | h
  ·exact c h
  ·omega
theorem eq_smp {b : Nat} (hb : chkW 1024 b = 0) : single.order (smpW (intW b)) b = some .eq := by
 obtain ⟨_, _, h3⟩ := chk_zero hb
 have := smp_chk (n := intW b) (L := 1024) (by omega) (by decide)
 rw [order_chk this.1 hb, this.2]
 simp
end Ieee
end

/-! SePlM -/
section
open Go Go.Ev
namespace Go.Proofs.YtbmcfhkedgpldaaGreatDoor
noncomputable section
set_option maxRecDepth 100000
set_option maxHeartbeats 20000000
open Ieee
def Su (f : Nat → Int) : Nat → Int
 | 0 => 0
 | n + 1 => Su f n + f n
theorem Su_congr {f g : Nat → Int} : ∀ n, (∀ k, k < n → f k = g k) → Su f n = Su g n
 | 0, _ => rfl
 | n + 1, h => by rw [Su, Su, Su_congr n fun k hk => h k (by omega), h n (by omega)]
theorem Su_nonneg {f : Nat → Int} : ∀ n, (∀ k, k < n → 0 ≤ f k) → 0 ≤ Su f n
 | 0, _ => Int.le_refl _
 | n + 1, h => by have := Su_nonneg n fun k hk => h k (by omega); have := h n (by omega); rw [Su]; omega
theorem Su_zero {f : Nat → Int} : ∀ n, (∀ k, k < n → 0 ≤ f k) → Su f n = 0 → ∀ k, k < n → f k = 0
 | 0, _, _, k, hk => by omega
 | n + 1, h, e, k, hk => by
  have h1 := Su_nonneg n fun k hk => h k (by omega)
  have h2 := h n (by omega)
  rw [Su] at e
  by_cases c : k = n
  ·subst c; omega
  ·exact Su_zero n (fun k hk => h k (by omega)) (by omega) k (by omega)
theorem Su_add (f : Nat → Int) (a : Nat) : ∀ n, Su f (a + n) = Su f a + Su (fun k => f (a + k)) n
 | 0 => by simp [Su]
 | n + 1 => by rw [← Nat.add_assoc, Su, Su_add f a n, Su, Int.add_assoc]
theorem Su_sq (f g : Nat → Int) : ∀ n, 2 * Su (fun k => f k * g k) n = Su (fun k => f k * f k) n + Su (fun k => g k * g k) n - Su (fun k => (f k - g k) * (f k - g k)) n
 | 0 => rfl
 | n + 1 => by
  have e : (f n - g n) * (f n - g n) = f n * f n - 2 * (f n * g n) + g n * g n := by
   rw [Int.sub_mul, Int.mul_sub, Int.mul_sub, Int.mul_comm (g n) (f n)]; omega
  have := Su_sq f g n
  rw [Su, Su, Su, Su, e]; omega
theorem Su_lt_zero (f : Nat → Int) : ∀ n, (∀ k, k < n → f k = 0) → Su f n = 0
 | 0, _ => rfl
 | n + 1, h => by rw [Su, Su_lt_zero f n fun k hk => h k (by omega), h n (by omega)]; rfl
theorem sq_nn (x : Int) : 0 ≤ x * x := by
 by_cases c : 0 ≤ x
 ·exact Int.mul_nonneg c c
 ·have := Int.mul_nonneg (show 0 ≤ -x by omega) (show 0 ≤ -x by omega)
  rw [Int.neg_mul_neg] at this; exact this
theorem sq_zero {x : Int} (h : x * x = 0) : x = 0 := by
 rcases Int.mul_eq_zero.1 h with h | h <;> exact h
def pz (P : Nat → Int) (m k : Nat) : Int := if k < m then P k else 0
def pl (P : Nat → Int) (m b k : Nat) : Int := if b ≤ k then pz P m (k - b) else 0
theorem Su_pz (P : Nat → Int) (m n : Nat) : Su (fun k => pz P m k * pz P m k) (m + n) = Su (fun k => P k * P k) m := by
 rw [Su_add, Su_lt_zero (fun k => _) n (fun k _ => by simp [pz, show ¬ m + k < m by omega]), Int.add_zero]
 exact Su_congr m fun k hk => by simp [pz, hk]
theorem win_le (P : Nat → Int) (m b i : Nat) : Su (fun k => pl P m b (i + k) * pl P m b (i + k)) m ≤ Su (fun k => P k * P k) m := by
 have key : Su (fun k => pl P m b k * pl P m b k) (b + (m + i)) = Su (fun k => P k * P k) m := by
  rw [Su_add, Su_lt_zero (fun k => _) b (fun k hk => by simp [pl, show ¬ b ≤ k by omega]), Int.zero_add, ← Su_pz P m i]
  exact Su_congr _ fun k _ => by simp [pl]
 have h1 := Su_add (fun k => pl P m b k * pl P m b k) i m
 have h2 := Su_nonneg (f := fun k => pl P m b k * pl P m b k) i fun k _ => sq_nn _
 have h3 := Su_add (fun k => pl P m b k * pl P m b k) (i + m) b
 have h4 := Su_nonneg (f := fun k => pl P m b (i + m + k) * pl P m b (i + m + k)) b fun k _ => sq_nn _
 rw [show b + (m + i) = i + m + b by omega] at key
 omega
def co (P : Nat → Int) (m b i : Nat) : Int := Su (fun k => pl P m b (i + k) * P k) m
theorem co_at (P : Nat → Int) (m b : Nat) : co P m b b = Su (fun k => P k * P k) m :=
 Su_congr m fun k hk => by simp [pl, pz, hk]
theorem co_le (P : Nat → Int) (m b i : Nat) : co P m b i ≤ Su (fun k => P k * P k) m := by
 have h1 := Su_sq (fun k => pl P m b (i + k)) P m
 have h2 := win_le P m b i
 have h3 := Su_nonneg (f := fun k => (pl P m b (i + k) - P k) * (pl P m b (i + k) - P k)) m fun k _ => sq_nn _
 have h4 : co P m b i = Su (fun k => pl P m b (i + k) * P k) m := rfl
 omega
theorem co_eq {P : Nat → Int} {m b i : Nat} (hi : i ≠ b) (h : co P m b i = Su (fun k => P k * P k) m) : ∀ k, k < m → P k = 0 := by
 have h1 := Su_sq (fun k => pl P m b (i + k)) P m
 have h2 := win_le P m b i
 have h3 := Su_nonneg (f := fun k => (pl P m b (i + k) - P k) * (pl P m b (i + k) - P k)) m fun k _ => sq_nn _
 have h4 : co P m b i = Su (fun k => pl P m b (i + k) * P k) m := rfl
 have h5 := Su_zero (f := fun k => (pl P m b (i + k) - P k) * (pl P m b (i + k) - P k)) m (fun k _ => sq_nn _) (by omega)
 have h6 : ∀ k, k < m → pl P m b (i + k) = P k := fun k hk => by have := sq_zero (h5 k hk); omega
 by_cases c : i < b
 ·intro k
  induction k using Nat.strongRecOn with
  | _ k ih =>
   intro hk
   have e := h6 k hk
   by_cases c2 : b ≤ i + k
   ·rw [pl, if_pos c2, pz, if_pos (by omega)] at e
    rw [← e]; exact ih _ (by omega) (by omega)
   ·rw [pl, if_neg c2] at e; exact e.symm
 ·have : ∀ n k, n + k = m → k < m → P k = 0 := by
   intro n
   induction n using Nat.strongRecOn with
   | _ n ih =>
    intro k hk hm
    have e := h6 k hm
    rw [pl, if_pos (by omega), pz] at e
    by_cases c2 : i + k - b < m
    ·rw [if_pos c2] at e
     rw [← e]; exact ih (m - (i + k - b)) (by omega) _ (by omega) c2
    ·rw [if_neg c2] at e; exact e.symm
  exact fun k hk => this (m - k) k (by omega) hk
theorem co_lt {P : Nat → Int} {m b i : Nat} (hi : i ≠ b) (h : 0 < Su (fun k => P k * P k) m) : co P m b i < Su (fun k => P k * P k) m := by
 have h1 := co_le P m b i
 by_cases c : co P m b i = Su (fun k => P k * P k) m
 ·have h2 := co_eq hi c
  have := Su_lt_zero (fun k => P k * P k) m fun k hk => by simp [h2 k hk]
  omega
 ·omega
theorem co_nil {P : Nat → Int} {m : Nat} (h : Su (fun k => P k * P k) m = 0) (b i : Nat) : co P m b i = 0 := by
 have h1 : ∀ k, k < m → P k = 0 := fun k hk => sq_zero (Su_zero (f := fun k => P k * P k) m (fun k _ => sq_nn _) h k hk)
 exact Su_lt_zero _ m fun k hk => by simp [h1 k hk]
theorem Fnd.two {C D : Nat → Int} {N a : Nat} {M X : Int} (h : Fnd C N a M X) (hD : ∀ j, j < N → D j = 2 * C j) : Fnd D N a (2 * M) (2 * X) where
 lt := h.lt
 eq := by rw [hD _ h.lt, h.eq]
 le j hj := by have := h.le j hj; rw [hD j hj]; omega
 fst j hj := by have := h.fst j hj; have := h.lt; rw [hD j (by omega)]; omega
 ex := by obtain ⟨j, a, b, c⟩ := h.ex; exact ⟨j, a, b, by rw [hD j a, c]⟩
 le2 j hj hn := by have := h.le2 j hj hn; rw [hD j hj]; omega
theorem Fnd.cong {C D : Nat → Int} {N a : Nat} {M X : Int} (h : Fnd C N a M X) (hD : ∀ j, j < N → D j = C j) : Fnd D N a M X where
 lt := h.lt
 eq := by rw [hD _ h.lt, h.eq]
 le j hj := by rw [hD j hj]; exact h.le j hj
 fst j hj := by have := h.lt; rw [hD j (by omega)]; exact h.fst j hj
 ex := by obtain ⟨j, a, b, c⟩ := h.ex; exact ⟨j, a, b, by rw [hD j a, c]⟩
 le2 j hj hn := by rw [hD j hj]; exact h.le2 j hj hn
theorem Fnd.pilot {P : Nat → Int} {m b N a : Nat} {M X : Int} (h : Fnd (co P m b) N a M X) (hb : b < N) : M = Su (fun k => P k * P k) m ∧ X ≤ M ∧ (0 < Su (fun k => P k * P k) m → a = b) ∧ (Su (fun k => P k * P k) m = 0 → a = 0) := by
 have h1 := h.le b hb
 rw [co_at] at h1
 have h2 := co_le P m b a
 rw [h.eq] at h2
 have hM : M = Su (fun k => P k * P k) m := by omega
 refine ⟨hM, ?_, fun hp => ?_, fun hz => ?_⟩
 ·obtain ⟨j, g1, _, g2⟩ := h.ex
  have := h.le j g1; omega
 ·by_cases c : a = b
  ·exact c
  ·have := co_lt c hp; rw [h.eq] at this; omega
 ·by_cases c : a = 0
  ·exact c
  ·have := h.fst 0 (by omega); rw [co_nil hz, hM, hz] at this; omega
def lst (F : Nat → Nat) : Nat → List Nat
 | 0 => []
 | n + 1 => lst F n ++ [F n]
theorem lst_len (F : Nat → Nat) : ∀ n, (lst F n).length = n
 | 0 => rfl
 | n + 1 => by rw [lst, List.length_append, lst_len F n]; rfl
theorem lst_get (F : Nat → Nat) : ∀ n i, i < n → (lst F n)[i]? = some (F i)
 | n + 1, i, h => by
  rw [lst]
  by_cases c : i < n
  ·rw [List.getElem?_append_left (by rw [lst_len]; exact c)]; exact lst_get F n i c
  ·have : i = n := by omega
   subst this
   rw [List.getElem?_append_right (by rw [lst_len]; exact Nat.le_refl _), lst_len, Nat.sub_self]; rfl
theorem lst_mem (F : Nat → Nat) : ∀ n b, b ∈ lst F n → ∃ i, i < n ∧ b = F i
 | n + 1, b, h => by
  rw [lst, List.mem_append] at h
  rcases h with h | h
  ·obtain ⟨i, h1, h2⟩ := lst_mem F n b h; exact ⟨i, by omega, h2⟩
  ·exact ⟨n, by omega, by simpa using h⟩
theorem lst_nb (F : Nat → Nat) (n i : Nat) (h : i < n) : nb (lst F n) i = F i := by rw [nb, lst_get F n i h]; rfl
def sil (z : Nat) (G : Nat → Nat) (ps : List Nat) (a k : Nat) : Nat := if a ≤ k ∧ k < a + ps.length then G (nb ps (k - a)) else z
def piW (ps : List Nat) (k : Nat) : Int := intW (nb ps k)
def Pil (ps : List Nat) : Prop := ∀ k, k < ps.length → chkW 1024 (nb ps k) = 0 ∧ (intW (nb ps k)).natAbs ≤ 8000
theorem sil_chk {z : Nat} {G : Nat → Nat} {ps : List Nat} {a k : Nat} (c : Int) (hz : chkW 1024 z = 0 ∧ intW z = 0) (hG : ∀ k, k < ps.length → chkW 1024 (G (nb ps k)) = 0 ∧ intW (G (nb ps k)) = c * intW (nb ps k)) : chkW 1024 (sil z G ps a k) = 0 ∧ intW (sil z G ps a k) = c * pl (piW ps) ps.length a k := by
 unfold sil pl pz
 by_cases h : a ≤ k
 ·by_cases h2 : k < a + ps.length
  ·rw [if_pos ⟨h, h2⟩, if_pos h, if_pos (by omega)]
   exact hG _ (by omega)
  ·rw [if_neg (fun e => h2 e.2), if_pos h, if_neg (by omega), Int.mul_zero]; exact hz
 ·rw [if_neg (fun e => h e.1), if_neg h, Int.mul_zero]; exact hz
theorem zW : chkW 1024 0 = 0 ∧ intW 0 = 0 := by decide +kernel
theorem zN : chkW 1024 2147483648 = 0 ∧ intW 2147483648 = 0 := by decide +kernel
abbrev oneW (ps : List Nat) (a k : Nat) : Nat := sil 0 (fun b => b) ps a k
abbrev twoW (ps : List Nat) (a k : Nat) : Nat := sil 0 dblW ps a k
abbrev negW (ps : List Nat) (a k : Nat) : Nat := sil 2147483648 (Op.negFloat .f32) ps a k
theorem oneW_chk {ps : List Nat} (h : Pil ps) (a k : Nat) : chkW 1024 (oneW ps a k) = 0 ∧ intW (oneW ps a k) = pl (piW ps) ps.length a k := by
 have := sil_chk (G := fun b => b) (a := a) (k := k) 1 zW fun k hk => ⟨(h k hk).1, (Int.one_mul _).symm⟩
 rwa [Int.one_mul] at this
theorem twoW_chk {ps : List Nat} (h : Pil ps) (a k : Nat) : chkW 1024 (twoW ps a k) = 0 ∧ intW (twoW ps a k) = 2 * pl (piW ps) ps.length a k :=
 sil_chk 2 zW fun k hk => (dbl_ok (h k hk).1 (h k hk).2).2
theorem negW_chk {ps : List Nat} (h : Pil ps) (a k : Nat) : chkW 1024 (negW ps a k) = 0 ∧ intW (negW ps a k) = -1 * pl (piW ps) ps.length a k :=
 sil_chk (-1) zN fun k hk => by
  have := neg_ok (h k hk).1
  rw [show -1 * intW (nb ps k) = -intW (nb ps k) by omega]
  exact this
theorem chkL0 : ∀ {ws : List Nat}, (∀ b ∈ ws, chkW 1024 b = 0) → chkL ws = 0
 | [], _ => rfl
 | b :: l, h => by
  unfold chkL
  rw [List.map_cons]
  show (if chkW 1024 b = 0 then firstI (l.map (chkW 1024)) else chkW 1024 b) = 0
  rw [if_pos (h b List.mem_cons_self)]
  exact chkL0 fun c hc => h c (List.mem_cons_of_mem _ hc)
theorem pl_b {ps : List Nat} (h : Pil ps) (a k : Nat) : (pl (piW ps) ps.length a k).natAbs ≤ 8000 := by
 unfold pl pz
 split
 ·split
  ·exact (h _ (by assumption)).2
  ·decide
 ·decide
theorem mul_nb {x y : Int} {A B : Nat} (hx : x.natAbs ≤ A) (hy : y.natAbs ≤ B) : (x * y).natAbs ≤ A * B := by
 rw [Int.natAbs_mul]; exact Nat.mul_le_mul hx hy
theorem cr_su {ws ps : List Nat} {a : Nat} {Q : Nat → Int} (hp : ∀ k, (intW (nb ps k)).natAbs ≤ 16384) : ∀ m i s, (∀ k, k < i + m → intW (nb ws (a + k)) = Q k) → (∀ k, (Q k).natAbs ≤ 16384) → s.natAbs + m * 268435456 ≤ 100000000000 → cr ws ps a m i s = s + Su (fun k => Q (i + k) * intW (nb ps (i + k))) m
 | 0, i, s, _, _, _ => (Int.add_zero s).symm
 | m + 1, i, s, hq, hQ, hs => by
  have hb := mul_nb (hp i) (hQ i)
  have hw := hq i (by omega)
  rw [cr, hw]
  have e1 : wrapF .i64 (intW (nb ps i) * Q i) = intW (nb ps i) * Q i := wrap_id (by omega) (by omega)
  rw [e1]
  have e2 : wrapF .i64 (s + intW (nb ps i) * Q i) = s + intW (nb ps i) * Q i := wrap_id (by omega) (by omega)
  rw [e2, cr_su hp m (i + 1) _ (fun k hk => hq k (by omega)) hQ (by omega), Int.add_assoc, Nat.add_comm m 1, Su_add]
  have e3 : Su (fun k => Q (i + k) * intW (nb ps (i + k))) 1 = intW (nb ps i) * Q i := by
   show (0 : Int) + Q (i + 0) * intW (nb ps (i + 0)) = _
   rw [Nat.add_zero, Int.zero_add, Int.mul_comm]
  rw [e3]
  congr 2
  exact Su_congr m fun k _ => by rw [Nat.add_assoc]
theorem piW_b {ps : List Nat} (h : Pil ps) (k : Nat) : (intW (nb ps k)).natAbs ≤ 16384 := by
 by_cases c : k < ps.length
 ·have := (h k c).2; omega
 ·rw [nb, List.getElem?_eq_none (by omega)]
  show (intW 0).natAbs ≤ 16384
  rw [zW.2]; decide
theorem cor_co {ps : List Nat} (h : Pil ps) (hp : ps.length ≤ 12) (c : Int) (hc : c.natAbs ≤ 2) {F : Nat → Nat} {a n : Nat} (hF : ∀ k, intW (F k) = c * pl (piW ps) ps.length a k) (i : Nat) (hi : i + ps.length ≤ n) : cor (lst F n) ps i = c * co (piW ps) ps.length a i := by
 unfold cor
 rw [cr_su (Q := fun k => c * pl (piW ps) ps.length a (i + k)) (piW_b h) ps.length 0 0 (fun k hk => by rw [lst_nb F n _ (by omega), hF]) (fun k => by
  have := mul_nb hc (pl_b h a (i + k)); omega) (by simp only [Int.natAbs_zero]; omega)]
 rw [Int.zero_add]
 have key : ∀ m, Su (fun k => c * pl (piW ps) ps.length a (i + (0 + k)) * intW (nb ps (0 + k))) m = c * Su (fun k => pl (piW ps) ps.length a (i + k) * piW ps k) m := by
  intro m
  induction m with
  | zero => simp [Su]
  | succ m ih =>
   rw [Su, Su, ih, Int.mul_add, Nat.zero_add, Int.mul_assoc]; rfl
 exact key _
theorem Su_b (f : Nat → Int) (B : Nat) : ∀ n, (∀ k, (f k).natAbs ≤ B) → (Su f n).natAbs ≤ n * B
 | 0, _ => by simp [Su]
 | n + 1, h => by
  have := Su_b f B n h
  have := h n
  rw [Su, Nat.add_mul]; omega
theorem co_b {ps : List Nat} (h : Pil ps) (hp : ps.length ≤ 12) (a i : Nat) : (co (piW ps) ps.length a i).natAbs ≤ 2000000000 := by
 have h1 : ∀ k, (pl (piW ps) ps.length a (i + k) * piW ps k).natAbs ≤ 8000 * 16384 := fun k => mul_nb (pl_b h a _) (piW_b h k)
 have h2 := Su_b _ _ ps.length h1
 have : ps.length * (8000 * 16384) ≤ 12 * (8000 * 16384) := Nat.mul_le_mul_right _ hp
 show (Su (fun k => pl (piW ps) ps.length a (i + k) * piW ps k) ps.length).natAbs ≤ _
 omega
theorem fnd_facts {ps : List Nat} (h : Pil ps) (h0 : 0 < ps.length) (hp : ps.length ≤ 12) (a t n : Nat) (ht : 1 ≤ t) (hn : n = a + ps.length + t) : ∃ m M X, Fnd (cor (lst (oneW ps a) n) ps) (n - ps.length + 1) m M X ∧ Fnd (cor (lst (twoW ps a) n) ps) (n - ps.length + 1) m (2 * M) (2 * X) ∧ M = Su (fun k => piW ps k * piW ps k) ps.length ∧ X ≤ M ∧ (0 < M → m = a) ∧ (M = 0 → m = 0) ∧ M.natAbs ≤ 2000000000 ∧ X.natAbs ≤ 2000000000 := by
 have hF := fnd_code (co (piW ps) ps.length a) (N := n - ps.length + 1) (by omega)
 generalize idx (co (piW ps) ps.length a) (mx (corL (co (piW ps) ps.length a) (n - ps.length + 1))) (n - ps.length + 1) 0 = m at hF
 generalize mx (oth (corL (co (piW ps) ps.length a) (n - ps.length + 1)) m) = X at hF
 generalize mx (corL (co (piW ps) ps.length a) (n - ps.length + 1)) = M at hF
 obtain ⟨e1, e2, e3, e4⟩ := hF.pilot (by omega)
 refine ⟨m, M, X, hF.cong fun j hj => ?_, hF.two fun j hj => ?_, e1, e2, fun k => e3 (e1 ▸ k), fun k => e4 (e1 ▸ k), ?_, ?_⟩
 ·have := cor_co h hp 1 (by decide) (F := oneW ps a) (a := a) (n := n) (fun k => by rw [(oneW_chk h a k).2, Int.one_mul]) j (by omega)
  rw [this, Int.one_mul]
 ·exact cor_co h hp 2 (by decide) (F := twoW ps a) (a := a) (n := n) (fun k => (twoW_chk h a k).2) j (by omega)
 ·rw [← hF.eq]; exact co_b h hp a m
 ·obtain ⟨j, _, _, e⟩ := hF.ex
  rw [← e]; exact co_b h hp a j
theorem dF_lst (F : Nat → Nat) (n : Nat) : (dF (lst F n)).ac = .dp (.s (fDT (lst F n)) n 1) := by
 show AC.dp (.s (fDT (lst F n)) (lst F n).length 1) = _
 rw [lst_len]
theorem chkF_lst {F : Nat → Nat} {ps : List Nat} {n : Nat} (hF : ∀ k, chkW 1024 (F k) = 0) (hps : chkPi ps = 0) (hn : n ≤ 4096) (hp : ps.length < n) : chkF (lst F n) ps = 0 := by
 have h1 : chkS (lst F n) = 0 := by
  unfold chkS
  rw [lst_len, if_neg (by omega)]
  exact chkL0 fun b hb => by obtain ⟨i, _, rfl⟩ := lst_mem F n b hb; exact hF i
 unfold chkF
 rw [h1, hps, lst_len, if_neg (by omega)]; rfl
theorem chk4 {b : Nat} {n : Int} (e : b = smpW n) (hn : n.natAbs ≤ 65536) : chkW 4096 b = 0 ∧ intW b = n := by
 subst e; exact smp_chk (by omega) (by decide)
theorem chkZ_ok {a b : Nat} (ha : chkW 4096 a = 0) (hb : chkW 4096 b = 0) : chkZ (a, b) = 0 := by rw [← pan_eq, ha, hb]; rfl
theorem K36o (hE : EnvOk E) {b0 b1 b2 b3 : Nat} (h0 : chkW 1024 b0 = 0) (h1 : chkW 1024 b1 = 0) (h2 : chkW 1024 b2 = 0) (h3 : chkW 1024 b3 = 0) : COut E 0 [] 36 [.e (.agg (fL b0 b1 b2 b3))] (.tup [.agg (trC (intW b0) (intW b1) (intW b2) (intW b3)), .one (.v (.int .i64 0))]) [] := by
 have e : chkL [b0, b1, b2, b3] = 0 := by unfold chkL; simp [h0, h1, h2, h3, firstI]
 have := K36 hE b0 b1 b2 b3
 unfold fourR at this
 rwa [e] at this
theorem rng0 {z : Int} (h : z.natAbs ≤ 16384) : rngI (-16384) 16384 z = 0 := by unfold rngI; rw [if_neg (by omega)]
theorem okU4 {im re w : Int} (h1 : im = 0) (h2 : re = 4 * w) (h : w.natAbs ≤ 16384) : okU im re = true ∧ re.tdiv 4 = w := by
 have e : re.tdiv 4 = w := by rw [h2]; exact Int.mul_tdiv_cancel_left _ (by decide)
 exact ⟨okU_t h1 (by rw [h2]; exact Int.mul_tmod_right _ _) (by rw [e]; exact rng0 h), e⟩
theorem K37o (hE : EnvOk E) {w0 w1 w2 w3 : Int} (h0 : w0.natAbs ≤ 16384) (h1 : w1.natAbs ≤ 16384) (h2 : w2.natAbs ≤ 16384) (h3 : w3.natAbs ≤ 16384) : COut E 0 [] 37 [.e (.agg (trC w0 w1 w2 w3))] (.tup [.agg (fL (smpW w0) (smpW w1) (smpW w2) (smpW w3)), .one (.v (.int .i64 0))]) [] := by
 obtain ⟨A0, a0⟩ : ∃ A, A = smpW (((w0 + w1) + w2) + w3) := ⟨_, rfl⟩
 obtain ⟨B0, b0⟩ : ∃ A, A = smpW 0 := ⟨_, rfl⟩
 obtain ⟨A1, a1⟩ : ∃ A, A = smpW (w0 + (-w2)) := ⟨_, rfl⟩
 obtain ⟨B1, b1⟩ : ∃ A, A = smpW ((-w1) + w3) := ⟨_, rfl⟩
 obtain ⟨A2, a2⟩ : ∃ A, A = smpW (((w0 + (-w1)) + w2) + (-w3)) := ⟨_, rfl⟩
 obtain ⟨B3, b3⟩ : ∃ A, A = smpW (w1 + (-w3)) := ⟨_, rfl⟩
 obtain ⟨ca0, ia0⟩ := chk4 a0 (by omega)
 obtain ⟨cb0, ib0⟩ := chk4 b0 (by omega)
 obtain ⟨ca1, ia1⟩ := chk4 a1 (by omega)
 obtain ⟨cb1, ib1⟩ := chk4 b1 (by omega)
 obtain ⟨ca2, ia2⟩ := chk4 a2 (by omega)
 obtain ⟨cb3, ib3⟩ := chk4 b3 (by omega)
 have k := K37 hE A0 B0 A1 B1 A2 B0 A1 B3
 have hz : chkZL [(A0, B0), (A1, B1), (A2, B0), (A1, B3)] = 0 := by
  unfold chkZL
  simp only [List.map_cons, List.map_nil, chkZ_ok ca0 cb0, chkZ_ok ca1 cb1, chkZ_ok ca2 cb0, chkZ_ok ca1 cb3]
  rfl
 obtain ⟨o0, e0⟩ := okU4 (im := im0 A0 B0 A1 B1 A2 B0 A1 B3) (re := re0 A0 B0 A1 B1 A2 B0 A1 B3) (w := w0) (by unfold im0; omega) (by unfold re0; omega) h0
 obtain ⟨o1, e1⟩ := okU4 (im := im1 A0 B0 A1 B1 A2 B0 A1 B3) (re := re1 A0 B0 A1 B1 A2 B0 A1 B3) (w := w1) (by unfold im1; omega) (by unfold re1; omega) h1
 obtain ⟨o2, e2⟩ := okU4 (im := im2 A0 B0 A1 B1 A2 B0 A1 B3) (re := re2 A0 B0 A1 B1 A2 B0 A1 B3) (w := w2) (by unfold im2; omega) (by unfold re2; omega) h2
 obtain ⟨o3, e3⟩ := okU4 (im := im3 A0 B0 A1 B1 A2 B0 A1 B3) (re := re3 A0 B0 A1 B1 A2 B0 A1 B3) (w := w3) (by unfold im3; omega) (by unfold re3; omega) h3
 have hok : okA A0 B0 A1 B1 A2 B0 A1 B3 = true := by
  unfold okA oq0 oq1 oq2 oq3
  rw [o0, o1, o2, o3]; rfl
 unfold unfL unfE at k
 rw [if_pos hz, hz, hok] at k
 have hl : unR (decide ((0 : Int) = 0) && true) A0 B0 A1 B1 A2 B0 A1 B3 = fL (smpW w0) (smpW w1) (smpW w2) (smpW w3) := by
  show [fC (sq0 A0 B0 A1 B1 A2 B0 A1 B3), fC (sq1 A0 B0 A1 B1 A2 B0 A1 B3), fC (sq2 A0 B0 A1 B1 A2 B0 A1 B3), fC (sq3 A0 B0 A1 B1 A2 B0 A1 B3)] = _
  unfold sq0 sq1 sq2 sq3
  rw [e0, e1, e2, e3]
 rw [hl] at k
 subst a0 b0 a1 b1 a2 b3
 exact k
theorem eqS56 {b0 b1 b2 b3 : Nat} (h0 : chkW 1024 b0 = 0) (h1 : chkW 1024 b1 = 0) (h2 : chkW 1024 b2 = 0) (h3 : chkW 1024 b3 = 0) : EqOk E 56 [fC (smpW (intW b0)), fC (smpW (intW b1)), fC (smpW (intW b2)), fC (smpW (intW b3))] [fC b0, fC b1, fC b2, fC b3] true :=
 eqArr (t := 56) (e := 23) (n := 4) (u := .float .f32) rfl (by kernel_rfl) (by kernel_rfl) (by kernel_rfl) (xs := [.float .f32 (smpW (intW b0)), .float .f32 (smpW (intW b1)), .float .f32 (smpW (intW b2)), .float .f32 (smpW (intW b3))]) (ys := [.float .f32 b0, .float .f32 b1, .float .f32 b2, .float .f32 b3]) rfl rfl (fun _ => true) (fun w i x y hx hy => by
  rw [show (9999 : Nat) = 9998 + 1 from rfl]
  have : ∃ b, x = .float .f32 (smpW (intW b)) ∧ y = .float .f32 b ∧ chkW 1024 b = 0 := by
   match i, hx, hy with
   | 0, hx, hy => simp at hx hy; exact ⟨_, hx.symm, hy.symm, h0⟩
   | 1, hx, hy => simp at hx hy; exact ⟨_, hx.symm, hy.symm, h1⟩
   | 2, hx, hy => simp at hx hy; exact ⟨_, hx.symm, hy.symm, h2⟩
   | 3, hx, hy => simp at hx hy; exact ⟨_, hx.symm, hy.symm, h3⟩
   | i + 4, hx, hy => simp at hx
  obtain ⟨b, rfl, rfl, hb⟩ := this
  rw [run_equalIn_float w 9998 (by kernel_rfl)]
  have : Op.floatEq .f32 (smpW (intW b)) b = true := by
   show (single.order (smpW (intW b)) b == some .eq) = true
   rw [eq_smp hb]; rfl
  rw [this])
theorem addC_ok {P : Program} {t : TypeId} {x z : Operand} {a b c d p q : Nat} (h1 : single.add a c = some p) (h2 : single.add b d = some q) : BinOk P .add t x z (.v (.complex .f32 a b)) (.v (.complex .f32 c d)) (.v (.complex .f32 p q)) := by
 intro m x' y' w hp hq
 obtain rfl : x' = .complex .f32 a b := hp
 obtain rfl : y' = .complex .f32 c d := hq
 refine ⟨_, w.drawn, ?_, rfl⟩
 have e : (do eqGuard .add t x z (.complex .f32 a b) (.complex .f32 c d); binOp .add t (.complex .f32 a b) (.complex .f32 c d) : Sem Value).run P w = (Op.complexOp .add .f32 a b c d).run P w := by simp [eqGuard, binOp]
 rw [e]
 have g1 : FloatKind.f32.format.add a c = some p := h1
 have g2 : FloatKind.f32.format.add b d = some q := h2
 simp only [Op.complexOp, Op.Complex.arith, Op.floatArith, pure_bind, g1, g2]
 rfl
end
end Go.Proofs.YtbmcfhkedgpldaaGreatDoor
end

/-! SePm -/
section
open Go Go.Ev
namespace Go.Proofs.YtbmcfhkedgpldaaGreatDoor
noncomputable section
set_option maxRecDepth 100000
set_option maxHeartbeats 20000000
def qE (_l0 _l1 _l2 _l3 _m0 _m1 _m2 _m3 _s0 _s1 _s2 _s3 _u0 _u1 _u2 _u3 _u4 _u5 _u6 _u7 _v0 _v1 _v2 _v3 _v4 _v5 _v6 _v7 _w0 _w1 _w2 _w3 _w4 _w5 _w6 _w7 : Nat) (_P W _Y Z _C _A _B _K1 _K2 : List DT) (_p n _m i _a _N _t _b _b2 _b3 : Nat) (_x _y _s _e _f _g _h _u _v _w _z _o _q : Int) (_c : Bool) (_D _D2 _D3 _X _X2 _X3 : List AC) (j : Nat → Value) : St := ⟨[], [(.code (atC [1, 1, 1, 1, 1, 1, 1, 1, 1, 1, 0, 1, 0, 0] (bodyOf Tryz.f11))), (.inLoop (atC [1, 1, 1, 1, 1, 1, 1, 1, 1, 1, 0, 1, 0, 0] (bodyOf Tryz.f11))), (.inBlock 4), (.code (atC [1, 1, 1, 1, 1, 1, 1, 1, 1, 1, 1] (bodyOf Tryz.f11)))], mkT j [(10, (.e (.one (.dp (.s (W) (n) 1))))), (12, (.e (.one (.dp (.s (Z) (n) 1))))), (21, (iI (Int.ofNat i)))] 250 0⟩
def p11q_end (_l0 _l1 _l2 _l3 _m0 _m1 _m2 _m3 _s0 _s1 _s2 _s3 _u0 _u1 _u2 _u3 _u4 _u5 _u6 _u7 _v0 _v1 _v2 _v3 _v4 _v5 _v6 _v7 _w0 _w1 _w2 _w3 _w4 _w5 _w6 _w7 : Nat) (_P : List DT) (W : List DT) (_Y : List DT) (Z : List DT) (_C : List DT) (_A : List DT) (_B : List DT) (_K1 : List DT) (_K2 : List DT) (_p n _m i _a _N _t _b _b2 _b3 : Nat) (_x _y _s _e _f _g _h _u _v _w _z _o _q : Int) (_c : Bool) (_D _D2 _D3 _X _X2 _X3 : List AC) (j : Nat → Value) : St := ⟨[], [(.code (atC [1, 1, 1, 1, 1, 1, 1, 1, 1, 1, 0, 1, 0, 0] (bodyOf Tryz.f11))), (.inLoop (atC [1, 1, 1, 1, 1, 1, 1, 1, 1, 1, 0, 1, 0, 0] (bodyOf Tryz.f11))), (.inBlock 4), (.code (atC [1, 1, 1, 1, 1, 1, 1, 1, 1, 1, 1] (bodyOf Tryz.f11)))], mkT j [(10, (.e (.one (.dp (.s (W) (n) 1))))), (12, (.e (.one (.dp (.s (Z) (n) 1))))), (21, (iI (wrapF IntKind.i64 (Int.ofNat i + (4 : Int)))))] 250 0⟩
theorem p11q (hE : EnvOk E) (l0 l1 l2 l3 m0 m1 m2 m3 s0 s1 s2 s3 u0 u1 u2 u3 u4 u5 u6 u7 v0 v1 v2 v3 v4 v5 v6 v7 w0 w1 w2 w3 w4 w5 w6 w7 : Nat) (P : List DT) (W : List DT) (Y : List DT) (Z : List DT) (C : List DT) (A : List DT) (B : List DT) (K1 : List DT) (K2 : List DT) (p n m i a N t b b2 b3 : Nat) (x y s e f g h u v w z o q : Int) (c : Bool) (D D2 D3 X X2 X3 : List AC) (h0 : (decide (wrapF IntKind.i64 (Int.ofNat i + (4 : Int)) ≤ (↑n : Int)) : Bool) = true) (h1 : ((iI (wrapF IntKind.i64 (Int.ofNat i + (4 : Int)))) : AV) = (iI (Int.ofNat (i + 4)))) (h4 : i ≤ i + 4 ∧ i + 4 ≤ n) (h5 : (takeL (dropL W (i * nat_lit 1)) ((i + 4 - i) * nat_lit 1) : Option (List DT)) = (.some (A))) (h6 : (4 : Nat) ≤ i + 4 - i) (h7 : (takeL (dropL A (0 : Nat)) (4 : Nat) : Option (List DT)) = (.some [(.v (.float .f32 (l0))), (.v (.float .f32 (l1))), (.v (.float .f32 (l2))), (.v (.float .f32 (l3)))])) (h8 : COut E 0 [] 36 [(.e (.agg [(.v (.float .f32 (l0))), (.v (.float .f32 (l1))), (.v (.float .f32 (l2))), (.v (.float .f32 (l3)))]))] (.tup [(.agg [(.v (.complex .f32 (u0) (u4))), (.v (.complex .f32 (u1) (u5))), (.v (.complex .f32 (u2) (u6))), (.v (.complex .f32 (u3) (u7)))]), (.one (.v (.int .i64 0)))]) []) (h10 : ((iI (wrapF IntKind.i64 (Int.ofNat i + (4 : Int)))) : AV) = (iI (Int.ofNat (i + 4)))) (h13 : i ≤ i + 4 ∧ i + 4 ≤ n) (h14 : (takeL (dropL Z (i * nat_lit 1)) ((i + 4 - i) * nat_lit 1) : Option (List DT)) = (.some (B))) (h15 : (4 : Nat) ≤ i + 4 - i) (h16 : (takeL (dropL B (0 : Nat)) (4 : Nat) : Option (List DT)) = (.some [(.v (.float .f32 (m0))), (.v (.float .f32 (m1))), (.v (.float .f32 (m2))), (.v (.float .f32 (m3)))])) (h17 : COut E 0 [] 36 [(.e (.agg [(.v (.float .f32 (m0))), (.v (.float .f32 (m1))), (.v (.float .f32 (m2))), (.v (.float .f32 (m3)))]))] (.tup [(.agg [(.v (.complex .f32 (v0) (v4))), (.v (.complex .f32 (v1) (v5))), (.v (.complex .f32 (v2) (v6))), (.v (.complex .f32 (v3) (v7)))]), (.one (.v (.int .i64 0)))]) []) (h19 : COut E 0 [] 37 [(.e (.agg [(.v (.complex .f32 (u0) (u4))), (.v (.complex .f32 (u1) (u5))), (.v (.complex .f32 (u2) (u6))), (.v (.complex .f32 (u3) (u7)))]))] (.tup [(.agg [(.v (.float .f32 (s0))), (.v (.float .f32 (s1))), (.v (.float .f32 (s2))), (.v (.float .f32 (s3)))]), (.one (.v (.int .i64 0)))]) []) (h26 : ((iI (wrapF IntKind.i64 (Int.ofNat i + (4 : Int)))) : AV) = (iI (Int.ofNat (i + 4)))) (h30 : i ≤ i + 4 ∧ i + 4 ≤ n) (h31 : (takeL (dropL W (i * nat_lit 1)) ((i + 4 - i) * nat_lit 1) : Option (List DT)) = (.some (A))) (h33 : (4 : Nat) ≤ i + 4 - i) (h35 : (takeL (dropL A (0 : Nat)) (4 : Nat) : Option (List DT)) = (.some [(.v (.float .f32 (l0))), (.v (.float .f32 (l1))), (.v (.float .f32 (l2))), (.v (.float .f32 (l3)))])) (h38 : EqOk E 56 [(.v (.float .f32 (s0))), (.v (.float .f32 (s1))), (.v (.float .f32 (s2))), (.v (.float .f32 (s3)))] [(.v (.float .f32 (l0))), (.v (.float .f32 (l1))), (.v (.float .f32 (l2))), (.v (.float .f32 (l3)))] true) (h41 : BinOk E.P BinOp.add (58 : Nat) (Operand.tmp (242 : Nat)) (Operand.tmp (245 : Nat)) (AC.v (Value.complex FloatKind.f32 u0 u4)) (AC.v (Value.complex FloatKind.f32 v0 v4)) (AC.v (Value.complex FloatKind.f32 (0 : Nat) (0 : Nat)))) (h43 : BinOk E.P BinOp.add (58 : Nat) (Operand.tmp (242 : Nat)) (Operand.tmp (245 : Nat)) (AC.v (Value.complex FloatKind.f32 u1 u5)) (AC.v (Value.complex FloatKind.f32 v1 v5)) (AC.v (Value.complex FloatKind.f32 (0 : Nat) (0 : Nat)))) (h45 : BinOk E.P BinOp.add (58 : Nat) (Operand.tmp (242 : Nat)) (Operand.tmp (245 : Nat)) (AC.v (Value.complex FloatKind.f32 u2 u6)) (AC.v (Value.complex FloatKind.f32 v2 v6)) (AC.v (Value.complex FloatKind.f32 (0 : Nat) (0 : Nat)))) (h47 : BinOk E.P BinOp.add (58 : Nat) (Operand.tmp (242 : Nat)) (Operand.tmp (245 : Nat)) (AC.v (Value.complex FloatKind.f32 u3 u7)) (AC.v (Value.complex FloatKind.f32 v3 v7)) (AC.v (Value.complex FloatKind.f32 (0 : Nat) (0 : Nat)))) {Φ : Res → Prop} (ho : ∀ j, OutK E 0 0 (p11q_end l0 l1 l2 l3 m0 m1 m2 m3 s0 s1 s2 s3 u0 u1 u2 u3 u4 u5 u6 u7 v0 v1 v2 v3 v4 v5 v6 v7 w0 w1 w2 w3 w4 w5 w6 w7 P W Y Z C A B K1 K2 p n m i a N t b b2 b3 x y s e f g h u v w z o q c D D2 D3 X X2 X3 j) Φ) (j : Nat → Value) : OutK E 0 0 (qE l0 l1 l2 l3 m0 m1 m2 m3 s0 s1 s2 s3 u0 u1 u2 u3 u4 u5 u6 u7 v0 v1 v2 v3 v4 v5 v6 v7 w0 w1 w2 w3 w4 w5 w6 w7 P W Y Z C A B K1 K2 p n m i a N t b b2 b3 x y s e f g h u v w z o q c D D2 D3 X X2 X3 j) Φ :=
 outK_seg hE (R0_ok hE) [.run 2, (.ops [(3, (.d .len))] []), (.cond true), .run 4, (.ops [(3, (.rn (iI (Int.ofNat (i + 4))))), (4, (.d (.sl (i) (i + 4) (A)))), (5, (.d .sp)), (6, (.d (.ldn [(.v (.float .f32 (l0))), (.v (.float .f32 (l1))), (.v (.float .f32 (l2))), (.v (.float .f32 (l3)))]))), (7, (.c0 (.tup [(.agg [(.v (.complex .f32 (u0) (u4))), (.v (.complex .f32 (u1) (u5))), (.v (.complex .f32 (u2) (u6))), (.v (.complex .f32 (u3) (u7)))]), (.one (.v (.int .i64 0)))])))] []), .run 1, (.ops [(3, (.rn (iI (Int.ofNat (i + 4))))), (4, (.d (.sl (i) (i + 4) (B)))), (5, (.d .sp)), (6, (.d (.ldn [(.v (.float .f32 (m0))), (.v (.float .f32 (m1))), (.v (.float .f32 (m2))), (.v (.float .f32 (m3)))]))), (7, (.c0 (.tup [(.agg [(.v (.complex .f32 (v0) (v4))), (.v (.complex .f32 (v1) (v5))), (.v (.complex .f32 (v2) (v6))), (.v (.complex .f32 (v3) (v7)))]), (.one (.v (.int .i64 0)))])))] []), .run 1, (.ops [(1, (.c0 (.tup [(.agg [(.v (.float .f32 (s0))), (.v (.float .f32 (s1))), (.v (.float .f32 (s2))), (.v (.float .f32 (s3)))]), (.one (.v (.int .i64 0)))])))] []), .run 2, (.ops [(11, (.rn (iI (Int.ofNat (i + 4))))), (12, (.d (.sl (i) (i + 4) (A)))), (13, (.d .sp)), (14, (.d (.ldn [(.v (.float .f32 (l0))), (.v (.float .f32 (l1))), (.v (.float .f32 (l2))), (.v (.float .f32 (l3)))]))), (15, (.eqs false)), (16, (.pk false))] [(7, true), (8, true), (9, true), (10, true), (11, true), (12, true), (13, true), (14, true), (15, true)]), .run 16, (.ops [(6, (.fb (.v (.complex .f32 0 0))))] []), .run 15, (.ops [(6, (.fb (.v (.complex .f32 0 0))))] []), .run 15, (.ops [(6, (.fb (.v (.complex .f32 0 0))))] []), .run 15, (.ops [(6, (.fb (.v (.complex .f32 0 0))))] []), .run 13] [10, 12, 21] (s' := fun j => ⟨[(.some ⟨[(.v (.complex .f32 (u0) (u4))), (.v (.complex .f32 (u1) (u5))), (.v (.complex .f32 (u2) (u6))), (.v (.complex .f32 (u3) (u7)))], 4, 59, true, .cells⟩), (.some ⟨[(.v (.complex .f32 (v0) (v4))), (.v (.complex .f32 (v1) (v5))), (.v (.complex .f32 (v2) (v6))), (.v (.complex .f32 (v3) (v7)))], 4, 59, true, .cells⟩), (.some ⟨[(.v (.float .f32 (s0))), (.v (.float .f32 (s1))), (.v (.float .f32 (s2))), (.v (.float .f32 (s3)))], 4, 56, true, .cells⟩)], [(.code (atC [1, 1, 1, 1, 1, 1, 1, 1, 1, 1, 0, 1, 0, 0] (bodyOf Tryz.f11))), (.inLoop (atC [1, 1, 1, 1, 1, 1, 1, 1, 1, 1, 0, 1, 0, 0] (bodyOf Tryz.f11))), (.inBlock 4), (.code (atC [1, 1, 1, 1, 1, 1, 1, 1, 1, 1, 1] (bodyOf Tryz.f11)))], mkT j [(10, (.e (.one (.dp (.s (W) (n) 1))))), (12, (.e (.one (.dp (.s (Z) (n) 1))))), (21, (iI (wrapF IntKind.i64 (Int.ofNat i + (4 : Int)))))] 250 0⟩) (fun j => by kernel_rfl) (aP h0 <| aP h1 <| aP (rfl : (Int.ofNat i : Int) = Int.ofNat i) <| aP (rfl : (Int.ofNat (i + 4) : Int) = Int.ofNat (i + 4)) <| aP h4 <| aP h5 <| aP h6 <| aP h7 <| aP h8 <| aN <| aP h10 <| aP (rfl : (Int.ofNat i : Int) = Int.ofNat i) <| aP (rfl : (Int.ofNat (i + 4) : Int) = Int.ofNat (i + 4)) <| aP h13 <| aP h14 <| aP h15 <| aP h16 <| aP h17 <| aN <| aP h19 <| aN <| aP (rfl : (true : Bool) = true) <| aP (rfl : (true : Bool) = true) <| aP (rfl : (true : Bool) = true) <| aP (rfl : (true : Bool) = true) <| aP (rfl : (true : Bool) = true) <| aP h26 <| aP (rfl : (true : Bool) = true) <| aP (rfl : (Int.ofNat i : Int) = Int.ofNat i) <| aP (rfl : (Int.ofNat (i + 4) : Int) = Int.ofNat (i + 4)) <| aP h30 <| aP h31 <| aP (rfl : (true : Bool) = true) <| aP h33 <| aP (rfl : (true : Bool) = true) <| aP h35 <| aP (rfl : (true : Bool) = true) <| aP (rfl : (true : Bool) = true) <| aP h38 <| aP (rfl : (false : Bool) = false) <| aP (rfl : (true : Bool) = true) <| aP h41 <| aP (rfl : (true : Bool) = true) <| aP h43 <| aP (rfl : (true : Bool) = true) <| aP h45 <| aP (rfl : (true : Bool) = true) <| aP h47 <| aZ)
  fun j => outK_gc [] (by decide) (by kernel_rfl) (by kernel_rfl) (by kernel_rfl) (ho j)
def p11r_end (_l0 _l1 _l2 _l3 _m0 _m1 _m2 _m3 _s0 _s1 _s2 _s3 _u0 _u1 _u2 _u3 _u4 _u5 _u6 _u7 _v0 _v1 _v2 _v3 _v4 _v5 _v6 _v7 _w0 _w1 _w2 _w3 _w4 _w5 _w6 _w7 : Nat) (_P : List DT) (_W : List DT) (_Y : List DT) (_Z : List DT) (_C : List DT) (_A : List DT) (_B : List DT) (_K1 : List DT) (_K2 : List DT) (_p _n _m _i _a _N _t _b _b2 _b3 : Nat) (_x _y _s _e _f _g _h _u _v _w _z _o _q : Int) (_c : Bool) (_D _D2 _D3 _X _X2 _X3 : List AC) (j : Nat → Value) : St := ⟨[], [(.code .ret)], mkT j [(4, (iB true))] 250 0⟩
theorem p11r (hE : EnvOk E) (l0 l1 l2 l3 m0 m1 m2 m3 s0 s1 s2 s3 u0 u1 u2 u3 u4 u5 u6 u7 v0 v1 v2 v3 v4 v5 v6 v7 w0 w1 w2 w3 w4 w5 w6 w7 : Nat) (P : List DT) (W : List DT) (Y : List DT) (Z : List DT) (C : List DT) (A : List DT) (B : List DT) (K1 : List DT) (K2 : List DT) (p n m i a N t b b2 b3 : Nat) (x y s e f g h u v w z o q : Int) (c : Bool) (D D2 D3 X X2 X3 : List AC) (h0 : (decide (wrapF IntKind.i64 (Int.ofNat i + (4 : Int)) ≤ (↑n : Int)) : Bool) = false) (h1 : COut E 0 [] 13 [] (iB true) []) {Φ : Res → Prop} (ho : ∀ j, OutK E 0 0 (p11r_end l0 l1 l2 l3 m0 m1 m2 m3 s0 s1 s2 s3 u0 u1 u2 u3 u4 u5 u6 u7 v0 v1 v2 v3 v4 v5 v6 v7 w0 w1 w2 w3 w4 w5 w6 w7 P W Y Z C A B K1 K2 p n m i a N t b b2 b3 x y s e f g h u v w z o q c D D2 D3 X X2 X3 j) Φ) (j : Nat → Value) : OutK E 0 0 (qE l0 l1 l2 l3 m0 m1 m2 m3 s0 s1 s2 s3 u0 u1 u2 u3 u4 u5 u6 u7 v0 v1 v2 v3 v4 v5 v6 v7 w0 w1 w2 w3 w4 w5 w6 w7 P W Y Z C A B K1 K2 p n m i a N t b b2 b3 x y s e f g h u v w z o q c D D2 D3 X X2 X3 j) Φ :=
 outK_seg hE (R0_ok hE) [.run 2, (.ops [(3, (.d .len))] []), (.cond false), .run 2, (.ops [(0, (.c0 (iB true)))] [])] [4] (fun j => by kernel_rfl) (aP h0 <| aP h1 <| aN <| aZ)
  ho
open Ieee
theorem tk4 (F : Nat → Nat) (n i : Nat) (h : i + 4 ≤ n) : takeL (dropL (fDT (lst F n)) (i * 1)) ((i + 4 - i) * 1) = some (fDT [F i, F (i + 1), F (i + 2), F (i + 3)]) := by
 have hl := lst_len F n
 rw [takeL_eq, dropL_eq, Nat.mul_one, Nat.mul_one, Nat.add_sub_cancel_left, if_pos (by simp; omega)]
 simp only [fDT, ← List.map_drop, ← List.map_take]
 congr 2
 apply List.ext_getElem?
 intro k
 rw [List.getElem?_take]
 by_cases c : k < 4
 ·rw [if_pos c, List.getElem?_drop, lst_get F n _ (by omega)]
  match k, c with
  | 0, _ => rfl
  | 1, _ => rfl
  | 2, _ => rfl
  | 3, _ => rfl
 ·rw [if_neg c, List.getElem?_eq_none (by simp; omega)]
theorem addO {x y : Int} (h : y = -x) (hx : x.natAbs < 16777216) : single.add (smpW x) (smpW y) = some 0 := by
 subst h; exact add_smp hx
theorem a0s : single.add (smpW 0) (smpW 0) = some 0 := by rw [smp0]; exact add_zero
theorem w_b {ps : List Nat} (h : Pil ps) (a k : Nat) : chkW 1024 (oneW ps a k) = 0 ∧ chkW 1024 (negW ps a k) = 0 ∧ (intW (oneW ps a k)).natAbs ≤ 8000 ∧ intW (negW ps a k) = -intW (oneW ps a k) := by
 obtain ⟨h1, e1⟩ := oneW_chk h a k
 obtain ⟨h2, e2⟩ := negW_chk h a k
 have := pl_b h a k
 exact ⟨h1, h2, by rw [e1]; exact this, by rw [e1, e2]; omega⟩
theorem l11E (hE : EnvOk E) (hA : COut E 0 [] 13 [] (iB true) []) {ps : List Nat} (h : Pil ps) (a n : Nat) (hn : n ≤ 1000) : ∀ m i, n < i + 4 * m + 4 → i ≤ n → ∀ j, OutK E 0 0 (qE 0 0 0 0 0 0 0 0 0 0 0 0 0 0 0 0 0 0 0 0 0 0 0 0 0 0 0 0 0 0 0 0 0 0 0 0 [] (fDT (lst (oneW ps a) n)) [] (fDT (lst (negW ps a) n)) [] [] [] [] [] 0 (n) 0 (i) 0 0 0 0 0 0 0 0 0 0 0 0 0 0 0 0 0 0 0 false [] [] [] [] [] [] j) (Go.Ev.Ends E Tryz.f11 (iB true) [])
 | 0, i, hk, hi, j => p11r hE 0 0 0 0 0 0 0 0 0 0 0 0 0 0 0 0 0 0 0 0 0 0 0 0 0 0 0 0 0 0 0 0 0 0 0 0 [] (fDT (lst (oneW ps a) n)) [] (fDT (lst (negW ps a) n)) [] [] [] [] [] 0 (n) 0 (i) 0 0 0 0 0 0 0 0 0 0 0 0 0 0 0 0 0 0 0 false [] [] [] [] [] [] (decide_eq_false (by simp only [Int.ofNat_eq_natCast]; rw [wrap_id (by omega) (by omega)]; omega)) hA (fun j => outK_ret (ends_ret (by kernel_rfl))) j
 | m + 1, i, hk, hi, j => by
  by_cases c : i + 4 ≤ n
  ·obtain ⟨c0, d0, g0, e0⟩ := w_b h a i
   obtain ⟨c1, d1, g1, e1⟩ := w_b h a (i + 1)
   obtain ⟨c2, d2, g2, e2⟩ := w_b h a (i + 2)
   obtain ⟨c3, d3, g3, e3⟩ := w_b h a (i + 3)
   have k36 := K36o hE c0 c1 c2 c3
   have k36m := K36o hE d0 d1 d2 d3
   have k37 := K37o hE (w0 := (intW (oneW ps a i))) (w1 := (intW (oneW ps a (i + 1)))) (w2 := (intW (oneW ps a (i + 2)))) (w3 := (intW (oneW ps a (i + 3)))) (by omega) (by omega) (by omega) (by omega)
   have ke := eqS56 c0 c1 c2 c3
   refine p11q hE (oneW ps a i) (oneW ps a (i + 1)) (oneW ps a (i + 2)) (oneW ps a (i + 3)) (negW ps a i) (negW ps a (i + 1)) (negW ps a (i + 2)) (negW ps a (i + 3)) (smpW (intW (oneW ps a i))) (smpW (intW (oneW ps a (i + 1)))) (smpW (intW (oneW ps a (i + 2)))) (smpW (intW (oneW ps a (i + 3)))) (smpW ((((intW (oneW ps a i)) + (intW (oneW ps a (i + 1)))) + (intW (oneW ps a (i + 2)))) + (intW (oneW ps a (i + 3))))) (smpW ((intW (oneW ps a i)) + (-(intW (oneW ps a (i + 2)))))) (smpW ((((intW (oneW ps a i)) + (-(intW (oneW ps a (i + 1))))) + (intW (oneW ps a (i + 2)))) + (-(intW (oneW ps a (i + 3)))))) (smpW ((intW (oneW ps a i)) + (-(intW (oneW ps a (i + 2)))))) (smpW 0) (smpW ((-(intW (oneW ps a (i + 1)))) + (intW (oneW ps a (i + 3))))) (smpW 0) (smpW ((intW (oneW ps a (i + 1))) + (-(intW (oneW ps a (i + 3)))))) (smpW ((((intW (negW ps a i)) + (intW (negW ps a (i + 1)))) + (intW (negW ps a (i + 2)))) + (intW (negW ps a (i + 3))))) (smpW ((intW (negW ps a i)) + (-(intW (negW ps a (i + 2)))))) (smpW ((((intW (negW ps a i)) + (-(intW (negW ps a (i + 1))))) + (intW (negW ps a (i + 2)))) + (-(intW (negW ps a (i + 3)))))) (smpW ((intW (negW ps a i)) + (-(intW (negW ps a (i + 2)))))) (smpW 0) (smpW ((-(intW (negW ps a (i + 1)))) + (intW (negW ps a (i + 3))))) (smpW 0) (smpW ((intW (negW ps a (i + 1))) + (-(intW (negW ps a (i + 3)))))) 0 0 0 0 0 0 0 0 [] (fDT (lst (oneW ps a) n)) [] (fDT (lst (negW ps a) n)) [] (fDT [oneW ps a i, oneW ps a (i + 1), oneW ps a (i + 2), oneW ps a (i + 3)]) (fDT [negW ps a i, negW ps a (i + 1), negW ps a (i + 2), negW ps a (i + 3)]) [] [] 0 (n) 0 (i) 0 0 0 0 0 0 0 0 0 0 0 0 0 0 0 0 0 0 0 false [] [] [] [] [] [] (decide_eq_true (by simp only [Int.ofNat_eq_natCast]; rw [wrap_id (by omega) (by omega)]; omega)) (iIe (by (try simp only [Int.ofNat_eq_natCast]); rw [wrap_id (by omega) (by omega)]; try omega)) ⟨by omega, by omega⟩ (tk4 _ n i (by omega)) (by omega) rfl k36 (iIe (by (try simp only [Int.ofNat_eq_natCast]); rw [wrap_id (by omega) (by omega)]; try omega)) ⟨by omega, by omega⟩ (tk4 _ n i (by omega)) (by omega) rfl k36m k37 (iIe (by (try simp only [Int.ofNat_eq_natCast]); rw [wrap_id (by omega) (by omega)]; try omega)) ⟨by omega, by omega⟩ (tk4 _ n i (by omega)) (by omega) rfl ke (addC_ok (addO (by omega) (by omega)) a0s) (addC_ok (addO (by omega) (by omega)) (addO (by omega) (by omega))) (addC_ok (addO (by omega) (by omega)) a0s) (addC_ok (addO (by omega) (by omega)) (addO (by omega) (by omega))) (fun j => ?_) j
   have e := l11E hE hA h a n hn m (i + 4) (by omega) (by omega) j
   have hw : wrapF IntKind.i64 (Int.ofNat i + 4) = Int.ofNat (i + 4) := by rw [wrap_id (by simp only [Int.ofNat_eq_natCast]; omega) (by simp only [Int.ofNat_eq_natCast]; omega)]; rfl
   unfold p11q_end
   rw [hw]
   exact e
  ·exact p11r hE 0 0 0 0 0 0 0 0 0 0 0 0 0 0 0 0 0 0 0 0 0 0 0 0 0 0 0 0 0 0 0 0 0 0 0 0 [] (fDT (lst (oneW ps a) n)) [] (fDT (lst (negW ps a) n)) [] [] [] [] [] 0 (n) 0 (i) 0 0 0 0 0 0 0 0 0 0 0 0 0 0 0 0 0 0 0 false [] [] [] [] [] [] (decide_eq_false (by simp only [Int.ofNat_eq_natCast]; rw [wrap_id (by omega) (by omega)]; omega)) hA (fun j => outK_ret (ends_ret (by kernel_rfl))) j
end
end Go.Proofs.YtbmcfhkedgpldaaGreatDoor
end
