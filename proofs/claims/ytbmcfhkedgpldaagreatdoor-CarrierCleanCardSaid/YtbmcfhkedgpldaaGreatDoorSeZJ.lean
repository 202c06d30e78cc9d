/-
  Part of the proof: SeMc, SeMd, SeMe.
-/
import Derived.Test.YtbmcfhkedgpldaaGreatDoorSeZI

/-! SeMc -/
section
open Go Go.Ev
namespace Go.Proofs.YtbmcfhkedgpldaaGreatDoor
noncomputable section
set_option maxRecDepth 100000
set_option maxHeartbeats 20000000
open Ieee
def gv (a b : Int) (k : Nat) : Int := match k with | 0 => a | 1 => b | 2 => -a | _ => -b
def am (f : Nat → Int) : Nat → Nat
 | 0 => 0
 | k + 1 => if f k > f (am f k) then k else am f k
def cn (f : Nat → Int) (p : Nat) : Nat → Nat
 | 0 => 0
 | k + 1 => if f k = f p then cn f p k + 1 else cn f p k
theorem tri (x y : Int) : x < y ∨ x = y ∨ x > y := by omega
theorem am4 (a b : Int) : ∃ p : Nat, am (gv a b) 4 = p ∧ p < 4 ∧ phQ a b = (Int.ofNat p, gv a b p, decide (cn (gv a b) p 4 ≤ 1)) := by
 have e0 : am (gv a b) 1 = 0 := by simp [am]
 rcases tri b a with c1 | c1 | c1
 ·have e1 : am (gv a b) 2 = 0 := by rw [am, e0]; exact if_neg (show ¬ b > a by omega)
  have q1 : phS 1 b (0, a, true) = (0, a, true) := by rw [phS, if_neg (by simp only; omega), if_neg (by simp only; omega)]
  rcases tri (-a) a with c2 | c2 | c2
  ·have e2 : am (gv a b) 3 = 0 := by rw [am, e1]; exact if_neg (show ¬ (-a) > a by omega)
   have q2 : phS 2 (-a) (0, a, true) = (0, a, true) := by rw [phS, if_neg (by simp only; omega), if_neg (by simp only; omega)]
   rcases tri (-b) a with c3 | c3 | c3
   ·have e3 : am (gv a b) 4 = 0 := by rw [am, e2]; exact if_neg (show ¬ (-b) > a by omega)
    have q3 : phS 3 (-b) (0, a, true) = (0, a, true) := by rw [phS, if_neg (by simp only; omega), if_neg (by simp only; omega)]
    refine ⟨0, e3, by decide, ?_⟩
    unfold phQ
    rw [q1, q2, q3]
    refine Prod.ext rfl (Prod.ext rfl ?_)
    show true = decide (cn (gv a b) 0 4 ≤ 1)
    simp only [cn, gv]
    repeat' split
    all_goals first | rfl | (exfalso; omega) | (exfalso; simp_all; done)
   ·have e3 : am (gv a b) 4 = 0 := by rw [am, e2]; exact if_neg (show ¬ (-b) > a by omega)
    have q3 : phS 3 (-b) (0, a, true) = (0, a, false) := by rw [phS, if_pos c3]
    refine ⟨0, e3, by decide, ?_⟩
    unfold phQ
    rw [q1, q2, q3]
    refine Prod.ext rfl (Prod.ext rfl ?_)
    show false = decide (cn (gv a b) 0 4 ≤ 1)
    simp only [cn, gv]
    repeat' split
    all_goals first | rfl | (exfalso; omega) | (exfalso; simp_all; done)
   ·have e3 : am (gv a b) 4 = 3 := by rw [am, e2]; exact if_pos (show (-b) > a by omega)
    have q3 : phS 3 (-b) (0, a, true) = (3, (-b), true) := by rw [phS, if_neg (by simp only; omega), if_pos (by simp only; omega)]
    refine ⟨3, e3, by decide, ?_⟩
    unfold phQ
    rw [q1, q2, q3]
    refine Prod.ext rfl (Prod.ext rfl ?_)
    show true = decide (cn (gv a b) 3 4 ≤ 1)
    simp only [cn, gv]
    repeat' split
    all_goals first | rfl | (exfalso; omega) | (exfalso; simp_all; done)
  ·have e2 : am (gv a b) 3 = 0 := by rw [am, e1]; exact if_neg (show ¬ (-a) > a by omega)
   have q2 : phS 2 (-a) (0, a, true) = (0, a, false) := by rw [phS, if_pos c2]
   rcases tri (-b) a with c3 | c3 | c3
   ·have e3 : am (gv a b) 4 = 0 := by rw [am, e2]; exact if_neg (show ¬ (-b) > a by omega)
    have q3 : phS 3 (-b) (0, a, false) = (0, a, false) := by rw [phS, if_neg (by simp only; omega), if_neg (by simp only; omega)]
    refine ⟨0, e3, by decide, ?_⟩
    unfold phQ
    rw [q1, q2, q3]
    refine Prod.ext rfl (Prod.ext rfl ?_)
    show false = decide (cn (gv a b) 0 4 ≤ 1)
    simp only [cn, gv]
    repeat' split
    all_goals first | rfl | (exfalso; omega) | (exfalso; simp_all; done)
   ·have e3 : am (gv a b) 4 = 0 := by rw [am, e2]; exact if_neg (show ¬ (-b) > a by omega)
    have q3 : phS 3 (-b) (0, a, false) = (0, a, false) := by rw [phS, if_pos c3]
    refine ⟨0, e3, by decide, ?_⟩
    unfold phQ
    rw [q1, q2, q3]
    refine Prod.ext rfl (Prod.ext rfl ?_)
    show false = decide (cn (gv a b) 0 4 ≤ 1)
    simp only [cn, gv]
    repeat' split
    all_goals first | rfl | (exfalso; omega) | (exfalso; simp_all; done)
   ·have e3 : am (gv a b) 4 = 3 := by rw [am, e2]; exact if_pos (show (-b) > a by omega)
    have q3 : phS 3 (-b) (0, a, false) = (3, (-b), true) := by rw [phS, if_neg (by simp only; omega), if_pos (by simp only; omega)]
    refine ⟨3, e3, by decide, ?_⟩
    unfold phQ
    rw [q1, q2, q3]
    refine Prod.ext rfl (Prod.ext rfl ?_)
    show true = decide (cn (gv a b) 3 4 ≤ 1)
    simp only [cn, gv]
    repeat' split
    all_goals first | rfl | (exfalso; omega) | (exfalso; simp_all; done)
  ·have e2 : am (gv a b) 3 = 2 := by rw [am, e1]; exact if_pos (show (-a) > a by omega)
   have q2 : phS 2 (-a) (0, a, true) = (2, (-a), true) := by rw [phS, if_neg (by simp only; omega), if_pos (by simp only; omega)]
   rcases tri (-b) (-a) with c3 | c3 | c3
   ·have e3 : am (gv a b) 4 = 2 := by rw [am, e2]; exact if_neg (show ¬ (-b) > (-a) by omega)
    have q3 : phS 3 (-b) (2, (-a), true) = (2, (-a), true) := by rw [phS, if_neg (by simp only; omega), if_neg (by simp only; omega)]
    refine ⟨2, e3, by decide, ?_⟩
    unfold phQ
    rw [q1, q2, q3]
    refine Prod.ext rfl (Prod.ext rfl ?_)
    show true = decide (cn (gv a b) 2 4 ≤ 1)
    simp only [cn, gv]
    repeat' split
    all_goals first | rfl | (exfalso; omega) | (exfalso; simp_all; done)
   ·have e3 : am (gv a b) 4 = 2 := by rw [am, e2]; exact if_neg (show ¬ (-b) > (-a) by omega)
    have q3 : phS 3 (-b) (2, (-a), true) = (2, (-a), false) := by rw [phS, if_pos c3]
    refine ⟨2, e3, by decide, ?_⟩
    unfold phQ
    rw [q1, q2, q3]
    refine Prod.ext rfl (Prod.ext rfl ?_)
    show false = decide (cn (gv a b) 2 4 ≤ 1)
    simp only [cn, gv]
    repeat' split
    all_goals first | rfl | (exfalso; omega) | (exfalso; simp_all; done)
   ·have e3 : am (gv a b) 4 = 3 := by rw [am, e2]; exact if_pos (show (-b) > (-a) by omega)
    have q3 : phS 3 (-b) (2, (-a), true) = (3, (-b), true) := by rw [phS, if_neg (by simp only; omega), if_pos (by simp only; omega)]
    refine ⟨3, e3, by decide, ?_⟩
    unfold phQ
    rw [q1, q2, q3]
    refine Prod.ext rfl (Prod.ext rfl ?_)
    show true = decide (cn (gv a b) 3 4 ≤ 1)
    simp only [cn, gv]
    repeat' split
    all_goals first | rfl | (exfalso; omega) | (exfalso; simp_all; done)
 ·have e1 : am (gv a b) 2 = 0 := by rw [am, e0]; exact if_neg (show ¬ b > a by omega)
  have q1 : phS 1 b (0, a, true) = (0, a, false) := by rw [phS, if_pos c1]
  rcases tri (-a) a with c2 | c2 | c2
  ·have e2 : am (gv a b) 3 = 0 := by rw [am, e1]; exact if_neg (show ¬ (-a) > a by omega)
   have q2 : phS 2 (-a) (0, a, false) = (0, a, false) := by rw [phS, if_neg (by simp only; omega), if_neg (by simp only; omega)]
   rcases tri (-b) a with c3 | c3 | c3
   ·have e3 : am (gv a b) 4 = 0 := by rw [am, e2]; exact if_neg (show ¬ (-b) > a by omega)
    have q3 : phS 3 (-b) (0, a, false) = (0, a, false) := by rw [phS, if_neg (by simp only; omega), if_neg (by simp only; omega)]
    refine ⟨0, e3, by decide, ?_⟩
    unfold phQ
    rw [q1, q2, q3]
    refine Prod.ext rfl (Prod.ext rfl ?_)
    show false = decide (cn (gv a b) 0 4 ≤ 1)
    simp only [cn, gv]
    repeat' split
    all_goals first | rfl | (exfalso; omega) | (exfalso; simp_all; done)
   ·have e3 : am (gv a b) 4 = 0 := by rw [am, e2]; exact if_neg (show ¬ (-b) > a by omega)
    have q3 : phS 3 (-b) (0, a, false) = (0, a, false) := by rw [phS, if_pos c3]
    refine ⟨0, e3, by decide, ?_⟩
    unfold phQ
    rw [q1, q2, q3]
    refine Prod.ext rfl (Prod.ext rfl ?_)
    show false = decide (cn (gv a b) 0 4 ≤ 1)
    simp only [cn, gv]
    repeat' split
    all_goals first | rfl | (exfalso; omega) | (exfalso; simp_all; done)
   ·have e3 : am (gv a b) 4 = 3 := by rw [am, e2]; exact if_pos (show (-b) > a by omega)
    have q3 : phS 3 (-b) (0, a, false) = (3, (-b), true) := by rw [phS, if_neg (by simp only; omega), if_pos (by simp only; omega)]
    refine ⟨3, e3, by decide, ?_⟩
    unfold phQ
    rw [q1, q2, q3]
    refine Prod.ext rfl (Prod.ext rfl ?_)
    show true = decide (cn (gv a b) 3 4 ≤ 1)
    simp only [cn, gv]
    repeat' split
    all_goals first | rfl | (exfalso; omega) | (exfalso; simp_all; done)
  ·have e2 : am (gv a b) 3 = 0 := by rw [am, e1]; exact if_neg (show ¬ (-a) > a by omega)
   have q2 : phS 2 (-a) (0, a, false) = (0, a, false) := by rw [phS, if_pos c2]
   rcases tri (-b) a with c3 | c3 | c3
   ·have e3 : am (gv a b) 4 = 0 := by rw [am, e2]; exact if_neg (show ¬ (-b) > a by omega)
    have q3 : phS 3 (-b) (0, a, false) = (0, a, false) := by rw [phS, if_neg (by simp only; omega), if_neg (by simp only; omega)]
    refine ⟨0, e3, by decide, ?_⟩
    unfold phQ
    rw [q1, q2, q3]
    refine Prod.ext rfl (Prod.ext rfl ?_)
    show false = decide (cn (gv a b) 0 4 ≤ 1)
    simp only [cn, gv]
    repeat' split
    all_goals first | rfl | (exfalso; omega) | (exfalso; simp_all; done)
   ·have e3 : am (gv a b) 4 = 0 := by rw [am, e2]; exact if_neg (show ¬ (-b) > a by omega)
    have q3 : phS 3 (-b) (0, a, false) = (0, a, false) := by rw [phS, if_pos c3]
    refine ⟨0, e3, by decide, ?_⟩
    unfold phQ
    rw [q1, q2, q3]
    refine Prod.ext rfl (Prod.ext rfl ?_)
    show false = decide (cn (gv a b) 0 4 ≤ 1)
    simp only [cn, gv]
    repeat' split
    all_goals first | rfl | (exfalso; omega) | (exfalso; simp_all; done)
   ·have e3 : am (gv a b) 4 = 3 := by rw [am, e2]; exact if_pos (show (-b) > a by omega)
    have q3 : phS 3 (-b) (0, a, false) = (3, (-b), true) := by rw [phS, if_neg (by simp only; omega), if_pos (by simp only; omega)]
    refine ⟨3, e3, by decide, ?_⟩
    unfold phQ
    rw [q1, q2, q3]
    refine Prod.ext rfl (Prod.ext rfl ?_)
    show true = decide (cn (gv a b) 3 4 ≤ 1)
    simp only [cn, gv]
    repeat' split
    all_goals first | rfl | (exfalso; omega) | (exfalso; simp_all; done)
  ·have e2 : am (gv a b) 3 = 2 := by rw [am, e1]; exact if_pos (show (-a) > a by omega)
   have q2 : phS 2 (-a) (0, a, false) = (2, (-a), true) := by rw [phS, if_neg (by simp only; omega), if_pos (by simp only; omega)]
   rcases tri (-b) (-a) with c3 | c3 | c3
   ·have e3 : am (gv a b) 4 = 2 := by rw [am, e2]; exact if_neg (show ¬ (-b) > (-a) by omega)
    have q3 : phS 3 (-b) (2, (-a), true) = (2, (-a), true) := by rw [phS, if_neg (by simp only; omega), if_neg (by simp only; omega)]
    refine ⟨2, e3, by decide, ?_⟩
    unfold phQ
    rw [q1, q2, q3]
    refine Prod.ext rfl (Prod.ext rfl ?_)
    show true = decide (cn (gv a b) 2 4 ≤ 1)
    simp only [cn, gv]
    repeat' split
    all_goals first | rfl | (exfalso; omega) | (exfalso; simp_all; done)
   ·have e3 : am (gv a b) 4 = 2 := by rw [am, e2]; exact if_neg (show ¬ (-b) > (-a) by omega)
    have q3 : phS 3 (-b) (2, (-a), true) = (2, (-a), false) := by rw [phS, if_pos c3]
    refine ⟨2, e3, by decide, ?_⟩
    unfold phQ
    rw [q1, q2, q3]
    refine Prod.ext rfl (Prod.ext rfl ?_)
    show false = decide (cn (gv a b) 2 4 ≤ 1)
    simp only [cn, gv]
    repeat' split
    all_goals first | rfl | (exfalso; omega) | (exfalso; simp_all; done)
   ·have e3 : am (gv a b) 4 = 3 := by rw [am, e2]; exact if_pos (show (-b) > (-a) by omega)
    have q3 : phS 3 (-b) (2, (-a), true) = (3, (-b), true) := by rw [phS, if_neg (by simp only; omega), if_pos (by simp only; omega)]
    refine ⟨3, e3, by decide, ?_⟩
    unfold phQ
    rw [q1, q2, q3]
    refine Prod.ext rfl (Prod.ext rfl ?_)
    show true = decide (cn (gv a b) 3 4 ≤ 1)
    simp only [cn, gv]
    repeat' split
    all_goals first | rfl | (exfalso; omega) | (exfalso; simp_all; done)
 ·have e1 : am (gv a b) 2 = 1 := by rw [am, e0]; exact if_pos (show b > a by omega)
  have q1 : phS 1 b (0, a, true) = (1, b, true) := by rw [phS, if_neg (by simp only; omega), if_pos (by simp only; omega)]
  rcases tri (-a) b with c2 | c2 | c2
  ·have e2 : am (gv a b) 3 = 1 := by rw [am, e1]; exact if_neg (show ¬ (-a) > b by omega)
   have q2 : phS 2 (-a) (1, b, true) = (1, b, true) := by rw [phS, if_neg (by simp only; omega), if_neg (by simp only; omega)]
   rcases tri (-b) b with c3 | c3 | c3
   ·have e3 : am (gv a b) 4 = 1 := by rw [am, e2]; exact if_neg (show ¬ (-b) > b by omega)
    have q3 : phS 3 (-b) (1, b, true) = (1, b, true) := by rw [phS, if_neg (by simp only; omega), if_neg (by simp only; omega)]
    refine ⟨1, e3, by decide, ?_⟩
    unfold phQ
    rw [q1, q2, q3]
    refine Prod.ext rfl (Prod.ext rfl ?_)
    show true = decide (cn (gv a b) 1 4 ≤ 1)
    simp only [cn, gv]
    repeat' split
    all_goals first | rfl | (exfalso; omega) | (exfalso; simp_all; done)
   ·have e3 : am (gv a b) 4 = 1 := by rw [am, e2]; exact if_neg (show ¬ (-b) > b by omega)
    have q3 : phS 3 (-b) (1, b, true) = (1, b, false) := by rw [phS, if_pos c3]
    refine ⟨1, e3, by decide, ?_⟩
    unfold phQ
    rw [q1, q2, q3]
    refine Prod.ext rfl (Prod.ext rfl ?_)
    show false = decide (cn (gv a b) 1 4 ≤ 1)
    simp only [cn, gv]
    repeat' split
    all_goals first | rfl | (exfalso; omega) | (exfalso; simp_all; done)
   ·have e3 : am (gv a b) 4 = 3 := by rw [am, e2]; exact if_pos (show (-b) > b by omega)
    have q3 : phS 3 (-b) (1, b, true) = (3, (-b), true) := by rw [phS, if_neg (by simp only; omega), if_pos (by simp only; omega)]
    refine ⟨3, e3, by decide, ?_⟩
    unfold phQ
    rw [q1, q2, q3]
    refine Prod.ext rfl (Prod.ext rfl ?_)
    show true = decide (cn (gv a b) 3 4 ≤ 1)
    simp only [cn, gv]
    repeat' split
    all_goals first | rfl | (exfalso; omega) | (exfalso; simp_all; done)
  ·have e2 : am (gv a b) 3 = 1 := by rw [am, e1]; exact if_neg (show ¬ (-a) > b by omega)
   have q2 : phS 2 (-a) (1, b, true) = (1, b, false) := by rw [phS, if_pos c2]
   rcases tri (-b) b with c3 | c3 | c3
   ·have e3 : am (gv a b) 4 = 1 := by rw [am, e2]; exact if_neg (show ¬ (-b) > b by omega)
    have q3 : phS 3 (-b) (1, b, false) = (1, b, false) := by rw [phS, if_neg (by simp only; omega), if_neg (by simp only; omega)]
    refine ⟨1, e3, by decide, ?_⟩
    unfold phQ
    rw [q1, q2, q3]
    refine Prod.ext rfl (Prod.ext rfl ?_)
    show false = decide (cn (gv a b) 1 4 ≤ 1)
    simp only [cn, gv]
    repeat' split
    all_goals first | rfl | (exfalso; omega) | (exfalso; simp_all; done)
   ·have e3 : am (gv a b) 4 = 1 := by rw [am, e2]; exact if_neg (show ¬ (-b) > b by omega)
    have q3 : phS 3 (-b) (1, b, false) = (1, b, false) := by rw [phS, if_pos c3]
    refine ⟨1, e3, by decide, ?_⟩
    unfold phQ
    rw [q1, q2, q3]
    refine Prod.ext rfl (Prod.ext rfl ?_)
    show false = decide (cn (gv a b) 1 4 ≤ 1)
    simp only [cn, gv]
    repeat' split
    all_goals first | rfl | (exfalso; omega) | (exfalso; simp_all; done)
   ·have e3 : am (gv a b) 4 = 3 := by rw [am, e2]; exact if_pos (show (-b) > b by omega)
    have q3 : phS 3 (-b) (1, b, false) = (3, (-b), true) := by rw [phS, if_neg (by simp only; omega), if_pos (by simp only; omega)]
    refine ⟨3, e3, by decide, ?_⟩
    unfold phQ
    rw [q1, q2, q3]
    refine Prod.ext rfl (Prod.ext rfl ?_)
    show true = decide (cn (gv a b) 3 4 ≤ 1)
    simp only [cn, gv]
    repeat' split
    all_goals first | rfl | (exfalso; omega) | (exfalso; simp_all; done)
  ·have e2 : am (gv a b) 3 = 2 := by rw [am, e1]; exact if_pos (show (-a) > b by omega)
   have q2 : phS 2 (-a) (1, b, true) = (2, (-a), true) := by rw [phS, if_neg (by simp only; omega), if_pos (by simp only; omega)]
   rcases tri (-b) (-a) with c3 | c3 | c3
   ·have e3 : am (gv a b) 4 = 2 := by rw [am, e2]; exact if_neg (show ¬ (-b) > (-a) by omega)
    have q3 : phS 3 (-b) (2, (-a), true) = (2, (-a), true) := by rw [phS, if_neg (by simp only; omega), if_neg (by simp only; omega)]
    refine ⟨2, e3, by decide, ?_⟩
    unfold phQ
    rw [q1, q2, q3]
    refine Prod.ext rfl (Prod.ext rfl ?_)
    show true = decide (cn (gv a b) 2 4 ≤ 1)
    simp only [cn, gv]
    repeat' split
    all_goals first | rfl | (exfalso; omega) | (exfalso; simp_all; done)
   ·have e3 : am (gv a b) 4 = 2 := by rw [am, e2]; exact if_neg (show ¬ (-b) > (-a) by omega)
    have q3 : phS 3 (-b) (2, (-a), true) = (2, (-a), false) := by rw [phS, if_pos c3]
    refine ⟨2, e3, by decide, ?_⟩
    unfold phQ
    rw [q1, q2, q3]
    refine Prod.ext rfl (Prod.ext rfl ?_)
    show false = decide (cn (gv a b) 2 4 ≤ 1)
    simp only [cn, gv]
    repeat' split
    all_goals first | rfl | (exfalso; omega) | (exfalso; simp_all; done)
   ·have e3 : am (gv a b) 4 = 3 := by rw [am, e2]; exact if_pos (show (-b) > (-a) by omega)
    have q3 : phS 3 (-b) (2, (-a), true) = (3, (-b), true) := by rw [phS, if_neg (by simp only; omega), if_pos (by simp only; omega)]
    refine ⟨3, e3, by decide, ?_⟩
    unfold phQ
    rw [q1, q2, q3]
    refine Prod.ext rfl (Prod.ext rfl ?_)
    show true = decide (cn (gv a b) 3 4 ≤ 1)
    simp only [cn, gv]
    repeat' split
    all_goals first | rfl | (exfalso; omega) | (exfalso; simp_all; done)
def er (ws : List Nat) (i : Nat) : Int := ww ws (4 * i) + (-ww ws (4 * i + 2))
def ei (ws : List Nat) (i : Nat) : Int := (-ww ws (4 * i + 1)) + ww ws (4 * i + 3)
def za (ws : List Nat) (i : Nat) : Int := er ws (i + 1) * er ws i - ei ws (i + 1) * (-ei ws i)
def zb (ws : List Nat) (i : Nat) : Int := er ws (i + 1) * (-ei ws i) + ei ws (i + 1) * er ws i
def phN (ws : List Nat) (i : Nat) : Nat := am (gv (za ws i) (zb ws i)) 4
def dbN (ws : List Nat) (i : Nat) : Bool := decide (1 < cn (gv (za ws i) (zb ws i)) (phN ws i) 4)
def demP (ws : List Nat) : Nat → List Int
 | 0 => []
 | i + 1 => demP ws i ++ [Int.ofNat (phN ws i)]
def demD (ws : List Nat) : Nat → List Int
 | 0 => []
 | i + 1 => bif dbN ws i then demD ws i ++ [Int.ofNat i] else demD ws i
theorem demP_len (ws : List Nat) : ∀ k, (demP ws k).length = k
 | 0 => rfl
 | k + 1 => by simp [demP, demP_len ws k]
theorem er_bnd {ws : List Nat} {i : Nat} (hc : ∀ b ∈ ws, chkW 1024 b = 0) (h : 4 * i + 4 ≤ ws.length) : (er ws i).natAbs ≤ 32768 ∧ (ei ws i).natAbs ≤ 32768 := by
 have h0 := bnd hc (k := 4 * i) (by omega)
 have h1 := bnd hc (k := 4 * i + 1) (by omega)
 have h2 := bnd hc (k := 4 * i + 2) (by omega)
 have h3 := bnd hc (k := 4 * i + 3) (by omega)
 unfold er ei
 omega
theorem mul_bnd {a b : Int} (h : a.natAbs ≤ 32768) (g : b.natAbs ≤ 32768) : (a * b).natAbs ≤ 2 ^ 30 := by
 rw [Int.natAbs_mul]
 exact Nat.le_trans (Nat.mul_le_mul h g) (by decide)
theorem z_bnd {ws : List Nat} {i : Nat} (hc : ∀ b ∈ ws, chkW 1024 b = 0) (h : 4 * (i + 1) + 4 ≤ ws.length) : (za ws i).natAbs ≤ 2 ^ 31 ∧ (zb ws i).natAbs ≤ 2 ^ 31 := by
 obtain ⟨a1, b1⟩ := er_bnd hc h
 obtain ⟨a0, b0⟩ := er_bnd (i := i) hc (by omega)
 have h1 := mul_bnd a1 a0
 have h2 := mul_bnd b1 (b := -ei ws i) (by omega)
 have h3 := mul_bnd a1 (b := -ei ws i) (by omega)
 have h4 := mul_bnd b1 a0
 unfold za zb
 omega
end
end Go.Proofs.YtbmcfhkedgpldaaGreatDoor
end

/-! SeMd -/
section
open Go Go.Ev
namespace Go.Proofs.YtbmcfhkedgpldaaGreatDoor
noncomputable section
set_option maxRecDepth 100000
set_option maxHeartbeats 20000000
open Ieee
theorem cOut_weak {f : FuncId} {args : List AV} {h : Heap} {v v' : AV} (hc : COut E 0 [] f args v h) (hw : ∀ (m : M) (y : Value), VR m v y → VR m v' y) : COut E 0 [] f args v' h := by
 intro m base w argsC ha H G
 exact (hc m base w argsC ha H G).mono fun en w' ⟨y, hy, m1, hp⟩ => ⟨y, hy, m1, hp.le, hw _ _ hp.val, hp.heap, hp.below⟩
theorem nil_32 {x z : AE} {p : Option Addr} {c : Nat} (sz : Nat) (m : M) (y : Value) (h : VR m (.tup [x, .one (.v (.slice p 0 c)), z]) y) : VR m (.tup [x, .one (.dp (.s [] 0 sz)), z]) y := by
 obtain ⟨vs, e, hv⟩ := h
 refine ⟨vs, e, ?_⟩
 revert hv
 generalize vs.toList = l
 intro hv
 match l, hv with
 | [a, b, d], hv => exact ⟨hv.1, .inl ⟨rfl, p, c, hv.2.1⟩, hv.2.2.1, trivial⟩
abbrev demR (P : List Int) (K : Nat) (Q : List Int) : AV := .tup [.one (.dp (.s (iD P) K 1)), .one (.dp (.s (iD Q) Q.length 1)), .one (.v (.int .i64 0))]
end
end Go.Proofs.YtbmcfhkedgpldaaGreatDoor
end

/-! SeMe -/
section
open Go Go.Ev
namespace Go.Proofs.YtbmcfhkedgpldaaGreatDoor
noncomputable section
set_option maxRecDepth 100000
set_option maxHeartbeats 20000000
def s44 (C : List DT) (n : Nat) (_e _f _g : Int) (_j : Nat → Value) : St := startK Tryz.f44 [] [(.e (.one (.dp (.s C n 1))))]
abbrev T44 (z : Nat → Value) : Tm := mkT z [(6, .e (.one (.ptr 0 0))), (7, .e (.one (.ptr 1 0))), (8, .e (.one (.ptr 2 0))), (9, .tup []), (10, .tup []), (26, .e (.one (.clo 155 [] [(.one (.ptr 3 0))]))), (27, .tup []), (28, .tup [])] 56 0
def asg44 : Code := atC [1, 1, 1, 1, 0, 1, 0, 0] (bodyOf Tryz.f44)
def bod44 : Code := atC [1, 1, 1, 1, 0, 1, 0, 1] (bodyOf Tryz.f44)
abbrev lp44 (st : LoopState) (z : Nat → Value) : Option AB := some (loopEnt st none (T44 z) #[27, 28] asg44 bod44)
def sR44n (z : Nat → Value) (C : List DT) (n i _q _m _N _N2 _m7 _N7 _M7 : Nat) (w0 w1 w2 w3 _x0 _y0 _x1 _y1 _x2 _y2 _x3 _y3 c d _d' _a _b _ph : Int) (_u : Bool) (_D _D2 _D7 _E7 : List AC) (_j : Nat → Value) : St := ⟨[some ⟨[.v (.slice none 0 0)], 1, 25, true, .cells⟩, some ⟨[.v (.slice none 0 0)], 1, 25, true, .cells⟩, some ⟨[.v (.int .i64 c), .v (.int .i64 d)], 2, 160, true, .cells⟩, some ⟨[.dp (.s C n 1)], 1, 42, true, .cells⟩, some markEnt, lp44 .ready z], [.code asg44, .beginRound, .code bod44], mkT z [(6, .e (.one (.ptr 0 0))), (7, .e (.one (.ptr 1 0))), (8, .e (.one (.ptr 2 0))), (9, .tup []), (10, .tup []), (26, .e (.one (.clo 155 [] [(.one (.ptr 3 0))]))), (27, (iI (Int.ofNat i))), (28, .e (.agg [.v (.int .i64 w0), .v (.int .i64 w1), .v (.int .i64 w2), .v (.int .i64 w3)]))] 56 0⟩
def sB44n (z : Nat → Value) (C : List DT) (n i _q _m _N _N2 _m7 _N7 _M7 : Nat) (w0 w1 w2 w3 _x0 _y0 _x1 _y1 _x2 _y2 _x3 _y3 c d _d' _a _b _ph : Int) (_u : Bool) (_D _D2 _D7 _E7 : List AC) (j : Nat → Value) : St := ⟨[some ⟨[.v (.slice none 0 0)], 1, 25, true, .cells⟩, some ⟨[.v (.slice none 0 0)], 1, 25, true, .cells⟩, some ⟨[.v (.int .i64 c), .v (.int .i64 d)], 2, 160, true, .cells⟩, some ⟨[.dp (.s C n 1)], 1, 42, true, .cells⟩, some markEnt, lp44 .busy z, some ⟨[.v (.int .i64 w0), .v (.int .i64 w1), .v (.int .i64 w2), .v (.int .i64 w3)], 4, 22, true, .cells⟩], [.code bod44], mkT j [(2, .e (.one (.v (z 2)))), (3, .e (.one (.v (z 3)))), (4, .e (.one (.v (z 4)))), (6, .e (.one (.ptr 0 0))), (7, .e (.one (.ptr 1 0))), (8, .e (.one (.ptr 2 0))), (9, (iI (Int.ofNat i))), (10, .e (.one (.ptr 6 0)))] 56 0⟩
def sR44i (z : Nat → Value) (C : List DT) (n i _q m N _N2 _m7 _N7 _M7 : Nat) (w0 w1 w2 w3 _x0 _y0 _x1 _y1 _x2 _y2 _x3 _y3 c d _d' _a _b _ph : Int) (_u : Bool) (D _D2 _D7 _E7 : List AC) (_j : Nat → Value) : St := ⟨[some ⟨[.slc 6 0 m 1 m false], 1, 25, true, .cells⟩, some ⟨[.v (.slice none 0 0)], 1, 25, true, .cells⟩, some ⟨[.v (.int .i64 c), .v (.int .i64 d)], 2, 160, true, .cells⟩, some ⟨[.dp (.s C n 1)], 1, 42, true, .cells⟩, some markEnt, lp44 .ready z, some ⟨D, N, 3, false, .cells⟩], [.code asg44, .beginRound, .code bod44], mkT z [(6, .e (.one (.ptr 0 0))), (7, .e (.one (.ptr 1 0))), (8, .e (.one (.ptr 2 0))), (9, .tup []), (10, .tup []), (26, .e (.one (.clo 155 [] [(.one (.ptr 3 0))]))), (27, (iI (Int.ofNat i))), (28, .e (.agg [.v (.int .i64 w0), .v (.int .i64 w1), .v (.int .i64 w2), .v (.int .i64 w3)]))] 56 0⟩
def sB44i (z : Nat → Value) (C : List DT) (n i _q m N _N2 _m7 _N7 _M7 : Nat) (w0 w1 w2 w3 _x0 _y0 _x1 _y1 _x2 _y2 _x3 _y3 c d _d' _a _b _ph : Int) (_u : Bool) (D _D2 _D7 _E7 : List AC) (j : Nat → Value) : St := ⟨[some ⟨[.slc 6 0 m 1 m false], 1, 25, true, .cells⟩, some ⟨[.v (.slice none 0 0)], 1, 25, true, .cells⟩, some ⟨[.v (.int .i64 c), .v (.int .i64 d)], 2, 160, true, .cells⟩, some ⟨[.dp (.s C n 1)], 1, 42, true, .cells⟩, some markEnt, lp44 .busy z, some ⟨D, N, 3, false, .cells⟩, some ⟨[.v (.int .i64 w0), .v (.int .i64 w1), .v (.int .i64 w2), .v (.int .i64 w3)], 4, 22, true, .cells⟩], [.code bod44], mkT j [(2, .e (.one (.v (z 2)))), (3, .e (.one (.v (z 3)))), (4, .e (.one (.v (z 4)))), (6, .e (.one (.ptr 0 0))), (7, .e (.one (.ptr 1 0))), (8, .e (.one (.ptr 2 0))), (9, (iI (Int.ofNat i))), (10, .e (.one (.ptr 7 0)))] 56 0⟩
def sE44i (z : Nat → Value) (C : List DT) (n _i _q m N _N2 _m7 _N7 _M7 : Nat) (_w0 _w1 _w2 _w3 _x0 _y0 _x1 _y1 _x2 _y2 _x3 _y3 c d _d' _a _b _ph : Int) (_u : Bool) (D _D2 _D7 _E7 : List AC) (j : Nat → Value) : St := ⟨[some ⟨[.slc 6 0 m 1 m false], 1, 25, true, .cells⟩, some ⟨[.v (.slice none 0 0)], 1, 25, true, .cells⟩, some ⟨[.v (.int .i64 c), .v (.int .i64 d)], 2, 160, true, .cells⟩, some ⟨[.dp (.s C n 1)], 1, 42, true, .cells⟩, some markEnt, lp44 .exhausted z, some ⟨D, N, 3, false, .cells⟩], [.inBlock 0, .code (atC [1, 1, 1, 1, 1] (bodyOf Tryz.f44))], T44 j⟩
def sR44d (z : Nat → Value) (C : List DT) (n i _q m N _N2 m7 N7 _M7 : Nat) (w0 w1 w2 w3 _x0 _y0 _x1 _y1 _x2 _y2 _x3 _y3 c d _d' _a _b _ph : Int) (_u : Bool) (D _D2 D7 _E7 : List AC) (_j : Nat → Value) : St := ⟨[some ⟨[.slc 6 0 m 1 m false], 1, 25, true, .cells⟩, some ⟨[.slc 7 0 m7 1 m7 false], 1, 25, true, .cells⟩, some ⟨[.v (.int .i64 c), .v (.int .i64 d)], 2, 160, true, .cells⟩, some ⟨[.dp (.s C n 1)], 1, 42, true, .cells⟩, some markEnt, lp44 .ready z, some ⟨D, N, 3, false, .cells⟩, some ⟨D7, N7, 3, false, .cells⟩], [.code asg44, .beginRound, .code bod44], mkT z [(6, .e (.one (.ptr 0 0))), (7, .e (.one (.ptr 1 0))), (8, .e (.one (.ptr 2 0))), (9, .tup []), (10, .tup []), (26, .e (.one (.clo 155 [] [(.one (.ptr 3 0))]))), (27, (iI (Int.ofNat i))), (28, .e (.agg [.v (.int .i64 w0), .v (.int .i64 w1), .v (.int .i64 w2), .v (.int .i64 w3)]))] 56 0⟩
def sB44d (z : Nat → Value) (C : List DT) (n i _q m N _N2 m7 N7 _M7 : Nat) (w0 w1 w2 w3 _x0 _y0 _x1 _y1 _x2 _y2 _x3 _y3 c d _d' _a _b _ph : Int) (_u : Bool) (D _D2 D7 _E7 : List AC) (j : Nat → Value) : St := ⟨[some ⟨[.slc 6 0 m 1 m false], 1, 25, true, .cells⟩, some ⟨[.slc 7 0 m7 1 m7 false], 1, 25, true, .cells⟩, some ⟨[.v (.int .i64 c), .v (.int .i64 d)], 2, 160, true, .cells⟩, some ⟨[.dp (.s C n 1)], 1, 42, true, .cells⟩, some markEnt, lp44 .busy z, some ⟨D, N, 3, false, .cells⟩, some ⟨D7, N7, 3, false, .cells⟩, some ⟨[.v (.int .i64 w0), .v (.int .i64 w1), .v (.int .i64 w2), .v (.int .i64 w3)], 4, 22, true, .cells⟩], [.code bod44], mkT j [(2, .e (.one (.v (z 2)))), (3, .e (.one (.v (z 3)))), (4, .e (.one (.v (z 4)))), (6, .e (.one (.ptr 0 0))), (7, .e (.one (.ptr 1 0))), (8, .e (.one (.ptr 2 0))), (9, (iI (Int.ofNat i))), (10, .e (.one (.ptr 8 0)))] 56 0⟩
def sE44d (z : Nat → Value) (C : List DT) (n _i _q m N _N2 m7 N7 _M7 : Nat) (_w0 _w1 _w2 _w3 _x0 _y0 _x1 _y1 _x2 _y2 _x3 _y3 c d _d' _a _b _ph : Int) (_u : Bool) (D _D2 D7 _E7 : List AC) (j : Nat → Value) : St := ⟨[some ⟨[.slc 6 0 m 1 m false], 1, 25, true, .cells⟩, some ⟨[.slc 7 0 m7 1 m7 false], 1, 25, true, .cells⟩, some ⟨[.v (.int .i64 c), .v (.int .i64 d)], 2, 160, true, .cells⟩, some ⟨[.dp (.s C n 1)], 1, 42, true, .cells⟩, some markEnt, lp44 .exhausted z, some ⟨D, N, 3, false, .cells⟩, some ⟨D7, N7, 3, false, .cells⟩], [.inBlock 0, .code (atC [1, 1, 1, 1, 1] (bodyOf Tryz.f44))], T44 j⟩
def p44a_end (C : List DT) (n : Nat) (_e _f _g : Int) (j : Nat → Value) : St := ⟨[(.some ⟨[(.v (.slice none 0 0))], 1, 25, true, .cells⟩), (.some ⟨[(.v (.slice none 0 0))], 1, 25, true, .cells⟩), (.some ⟨[(.v (.int .i64 0)), (.v (.int .i64 0))], 2, 160, true, .cells⟩), (.some ⟨[(.dp (.s (C) (n) 1))], 1, 42, true, .cells⟩)], [(.code (atC [1, 1, 1, 1, 0, 1, 0] (bodyOf Tryz.f44))), (.inBlock 0), (.code (atC [1, 1, 1, 1, 1] (bodyOf Tryz.f44)))], mkT j [(6, (.e (.one (.ptr 0 0)))), (7, (.e (.one (.ptr 1 0)))), (8, (.e (.one (.ptr 2 0)))), (9, (.tup [])), (10, (.tup [])), (26, (.e (.one (.clo 155 [] [(.one (.ptr 3 0))])))), (27, (.tup [])), (28, (.tup []))] 56 0⟩
theorem p44a (hE : EnvOk E) (C : List DT) (n : Nat) (e f g : Int) (h0 : COut E 0 [] 91 [(.e (.one (.dp (.s (C) (n) 1))))] (iI (e)) []) (h2 : COut E 0 [] 85 [(iB (decide ((↑n : Int) < (8 : Int)))), (iI 16)] (iI (f)) []) (h4 : COut E 1 [(.some ⟨[(.v (.int .i64 (e))), (.v (.int .i64 (f)))], 2, 26, true, .cells⟩)] 79 [(.e (.one (.slc 0 0 2 1 2 true)))] (iI (g)) [(.some ⟨[(.v (.int .i64 (e))), (.v (.int .i64 (f)))], 2, 26, true, .cells⟩)]) (h6 : (g != (0 : Int) : Bool) = false) (h7 : COut E 0 [] 92 [(.e (.one (.dp (.s (C) (n) 1))))] (.e (.one (.clo 155 [] [(.one (.ptr 0 0))]))) [(.some ⟨[(.dp (.s (C) (n) 1))], 1, 42, true, .cells⟩)]) (h10 : True) (h12 : True) {Φ : Res → Prop} (ho : ∀ j, OutK E 0 0 (p44a_end C n e f g j) Φ) (j : Nat → Value) : OutK E 0 0 (s44 C n e f g j) Φ :=
 outK_seg hE (R0_ok hE) [.run 4, (.ops [(1, (.c0 (iI (e)))), (5, (.c0 (iI (f)))), (7, (.d (.c1 (iI (g))))), (3, (.d .len))] []), .run 2, (.cond false), .run 7, (.ops [(1, (.cl [] [] [(.e (.one (.dp (.s (C) (n) 1))))] [] (.e (.one (.clo 155 [] [(.one (.ptr 0 0))]))) [(.some ⟨[(.dp (.s (C) (n) 1))], 1, 42, true, .cells⟩)] (.e (.one (.clo 155 [] [(.one (.ptr 4 0))]))) [false] [(.some ⟨[(.dp (.s (C) (n) 1))], 1, 42, true, .cells⟩)]))] []), .run 1] [6, 7, 8, 9, 10, 26, 27, 28] (s' := fun j => ⟨[(.some ⟨[(.v (.int .i64 (e))), (.v (.int .i64 (f)))], 2, 26, true, .cells⟩), (.some ⟨[(.v (.slice none 0 0))], 1, 25, true, .cells⟩), (.some ⟨[(.v (.slice none 0 0))], 1, 25, true, .cells⟩), (.some ⟨[(.v (.int .i64 0)), (.v (.int .i64 0))], 2, 160, true, .cells⟩), (.some ⟨[(.dp (.s (C) (n) 1))], 1, 42, true, .cells⟩)], [(.code (atC [1, 1, 1, 1, 0, 1, 0] (bodyOf Tryz.f44))), (.inBlock 0), (.code (atC [1, 1, 1, 1, 1] (bodyOf Tryz.f44)))], mkT j [(6, (.e (.one (.ptr 1 0)))), (7, (.e (.one (.ptr 2 0)))), (8, (.e (.one (.ptr 3 0)))), (9, (.tup [])), (10, (.tup [])), (26, (.e (.one (.clo 155 [] [(.one (.ptr 4 0))])))), (27, (.tup [])), (28, (.tup []))] 56 0⟩) (fun j => by kernel_rfl) (aP h0 <| aN <| aP h2 <| aN <| aP h4 <| aN <| aP h6 <| aP h7 <| aP (rfl : ([(.e (.one (.dp (.s (C) (n) 1))))] : List AV) = [(.e (.one (.dp (.s (C) (n) 1))))]) <| aP (rfl : ([] : List (Option (Option AB))) = []) <| aP h10 <| aP (rfl : ([(.some (.some ⟨[(.dp (.s (C) (n) 1))], 1, 42, true, .cells⟩))] : List (Option (Option AB))) = [(.some (.some ⟨[(.dp (.s (C) (n) 1))], 1, 42, true, .cells⟩))]) <| aP h12 <| aP (rfl : ((.e (.one (.clo 155 [] [(.one (.ptr 4 0))]))) : AV) = (.e (.one (.clo 155 [] [(.one (.ptr 4 0))])))) <| aZ)
  fun j => outK_gc [1, 2, 3, 4] (by decide) (by kernel_rfl) (by kernel_rfl) (by kernel_rfl) (ho j)
def pR44n_end (z : Nat → Value) (C : List DT) (n i _q _m _N _N2 _m7 _N7 _M7 : Nat) (w0 w1 w2 w3 _x0 _y0 _x1 _y1 _x2 _y2 _x3 _y3 c d _d' _a _b _ph : Int) (_u : Bool) (_D _D2 _D7 _E7 : List AC) (j : Nat → Value) : St := ⟨[(.some ⟨[(.v (.slice none 0 0))], 1, 25, true, .cells⟩), (.some ⟨[(.v (.slice none 0 0))], 1, 25, true, .cells⟩), (.some ⟨[(.v (.int .i64 (c))), (.v (.int .i64 (d)))], 2, 160, true, .cells⟩), (.some ⟨[(.dp (.s (C) (n) 1))], 1, 42, true, .cells⟩), (.some ⟨[], 0, 0, false, .mark⟩), (.some ⟨[], 0, 0, false, (.loop .ready none (T44 z) #[27, 28] asg44 bod44)⟩), (.some ⟨[(.v (.int .i64 (w0))), (.v (.int .i64 (w1))), (.v (.int .i64 (w2))), (.v (.int .i64 (w3)))], 4, 22, true, .cells⟩)], [.beginRound, (.code (atC [1, 1, 1, 1, 0, 1, 0, 1] (bodyOf Tryz.f44)))], mkT j [(2, (.e (.one (.v (z (2 : Nat)))))), (3, (.e (.one (.v (z (3 : Nat)))))), (4, (.e (.one (.v (z (4 : Nat)))))), (6, (.e (.one (.ptr 0 0)))), (7, (.e (.one (.ptr 1 0)))), (8, (.e (.one (.ptr 2 0)))), (9, (iI (Int.ofNat i))), (10, (.e (.one (.ptr 6 0))))] 56 0⟩
theorem pR44n (hE : EnvOk E) (z : Nat → Value) (C : List DT) (n i q m N N2 m7 N7 M7 : Nat) (w0 w1 w2 w3 x0 y0 x1 y1 x2 y2 x3 y3 c d d' a b ph : Int) (u : Bool) (D D2 D7 E7 : List AC)  {Φ : Res → Prop} (ho : ∀ j, OutK E 0 6 (pR44n_end z C n i q m N N2 m7 N7 M7 w0 w1 w2 w3 x0 y0 x1 y1 x2 y2 x3 y3 c d d' a b ph u D D2 D7 E7 j) Φ (some 5)) (j : Nat → Value) : OutK E 0 6 (sR44n z C n i q m N N2 m7 N7 M7 w0 w1 w2 w3 x0 y0 x1 y1 x2 y2 x3 y3 c d d' a b ph u D D2 D7 E7 j) Φ (some 5) :=
 outK_seg hE (R0_ok hE) [.run 3] [2, 3, 4, 6, 7, 8, 9, 10] (ps := []) (fun j => by kernel_rfl) trivial
  ho
def pB440_end (z : Nat → Value) (C : List DT) (n _i _q _m _N _N2 _m7 _N7 _M7 : Nat) (_w0 _w1 _w2 _w3 _x0 _y0 x1 y1 _x2 _y2 _x3 _y3 _c _d _d' _a _b _ph : Int) (_u : Bool) (_D _D2 _D7 _E7 : List AC) (j : Nat → Value) : St := ⟨[(.some ⟨[(.v (.slice none 0 0))], 1, 25, true, .cells⟩), (.some ⟨[(.v (.slice none 0 0))], 1, 25, true, .cells⟩), (.some ⟨[(.v (.int .i64 (x1))), (.v (.int .i64 (y1)))], 2, 160, true, .cells⟩), (.some ⟨[(.dp (.s (C) (n) 1))], 1, 42, true, .cells⟩), (.some ⟨[], 0, 0, false, .mark⟩), (.some ⟨[], 0, 0, false, (.loop .busy none (T44 z) #[27, 28] asg44 bod44)⟩)], [], mkT j [(2, (.e (.one (.v (z (2 : Nat)))))), (3, (.e (.one (.v (z (3 : Nat)))))), (4, (.e (.one (.v (z (4 : Nat))))))] 56 0⟩
theorem pB440 (hE : EnvOk E) (z : Nat → Value) (C : List DT) (n i q m N N2 m7 N7 M7 : Nat) (w0 w1 w2 w3 x0 y0 x1 y1 x2 y2 x3 y3 c d d' a b ph : Int) (u : Bool) (D D2 D7 E7 : List AC) (h0 : COut E 0 [] 99 [(.e (.agg [(.v (.int .i64 (w0))), (.v (.int .i64 (w1))), (.v (.int .i64 (w2))), (.v (.int .i64 (w3)))]))] (.e (.agg [(.v (.int .i64 (x0))), (.v (.int .i64 (y0))), (.v (.int .i64 (x1))), (.v (.int .i64 (y1))), (.v (.int .i64 (x2))), (.v (.int .i64 (y2))), (.v (.int .i64 (x3))), (.v (.int .i64 (y3)))])) []) (h2 : (decide (Int.ofNat i > (0 : Int)) : Bool) = false) {Φ : Res → Prop} (ho : ∀ j, OutK E 0 6 (pB440_end z C n i q m N N2 m7 N7 M7 w0 w1 w2 w3 x0 y0 x1 y1 x2 y2 x3 y3 c d d' a b ph u D D2 D7 E7 j) Φ (some 5)) (j : Nat → Value) : OutK E 0 6 (sB44n z C n i q m N N2 m7 N7 M7 w0 w1 w2 w3 x0 y0 x1 y1 x2 y2 x3 y3 c d d' a b ph u D D2 D7 E7 j) Φ (some 5) :=
 outK_seg hE (R0_ok hE) [.run 2, (.ops [(1, (.c0 (.e (.agg [(.v (.int .i64 (x0))), (.v (.int .i64 (y0))), (.v (.int .i64 (x1))), (.v (.int .i64 (y1))), (.v (.int .i64 (x2))), (.v (.int .i64 (y2))), (.v (.int .i64 (x3))), (.v (.int .i64 (y3)))]))))] []), .run 3, (.cond false), .run 3] [2, 3, 4] (s' := fun j => ⟨[(.some ⟨[(.v (.slice none 0 0))], 1, 25, true, .cells⟩), (.some ⟨[(.v (.slice none 0 0))], 1, 25, true, .cells⟩), (.some ⟨[(.v (.int .i64 (x1))), (.v (.int .i64 (y1)))], 2, 160, true, .cells⟩), (.some ⟨[(.dp (.s (C) (n) 1))], 1, 42, true, .cells⟩), (.some ⟨[], 0, 0, false, .mark⟩), (.some ⟨[], 0, 0, false, (.loop .busy none (T44 z) #[27, 28] asg44 bod44)⟩), (.some ⟨[(.v (.int .i64 (w0))), (.v (.int .i64 (w1))), (.v (.int .i64 (w2))), (.v (.int .i64 (w3)))], 4, 22, true, .cells⟩), (.some ⟨[(.v (.int .i64 (x1))), (.v (.int .i64 (y1)))], 2, 160, true, .cells⟩)], [], mkT j [(2, (.e (.one (.v (z (2 : Nat)))))), (3, (.e (.one (.v (z (3 : Nat)))))), (4, (.e (.one (.v (z (4 : Nat))))))] 56 0⟩) (fun j => by kernel_rfl) (aP h0 <| aN <| aP h2 <| aZ)
  fun j => outK_gc [0, 1, 2, 3, 4, 5] (by decide) (by kernel_rfl) (by kernel_rfl) (by kernel_rfl) (ho j)
def pB44nf_end (z : Nat → Value) (C : List DT) (n _i _q _m _N _N2 _m7 _N7 _M7 : Nat) (_w0 _w1 _w2 _w3 _x0 _y0 x1 y1 _x2 _y2 _x3 _y3 _c _d _d' _a _b ph : Int) (_u : Bool) (_D _D2 _D7 _E7 : List AC) (j : Nat → Value) : St := ⟨[(.some ⟨[(.slc 6 0 1 1 1 false)], 1, 25, true, .cells⟩), (.some ⟨[(.v (.slice none 0 0))], 1, 25, true, .cells⟩), (.some ⟨[(.v (.int .i64 (x1))), (.v (.int .i64 (y1)))], 2, 160, true, .cells⟩), (.some ⟨[(.dp (.s (C) (n) 1))], 1, 42, true, .cells⟩), (.some ⟨[], 0, 0, false, .mark⟩), (.some ⟨[], 0, 0, false, (.loop .busy none (T44 z) #[27, 28] asg44 bod44)⟩), (.some ⟨[(.v (.int .i64 (ph)))], 1, 3, false, .cells⟩)], [], mkT j [(2, (.e (.one (.v (z (2 : Nat)))))), (3, (.e (.one (.v (z (3 : Nat)))))), (4, (.e (.one (.v (z (4 : Nat))))))] 56 0⟩
theorem pB44nf (hE : EnvOk E) (z : Nat → Value) (C : List DT) (n i q m N N2 m7 N7 M7 : Nat) (w0 w1 w2 w3 x0 y0 x1 y1 x2 y2 x3 y3 c d d' a b ph : Int) (u : Bool) (D D2 D7 E7 : List AC) (h0 : COut E 0 [] 99 [(.e (.agg [(.v (.int .i64 (w0))), (.v (.int .i64 (w1))), (.v (.int .i64 (w2))), (.v (.int .i64 (w3)))]))] (.e (.agg [(.v (.int .i64 (x0))), (.v (.int .i64 (y0))), (.v (.int .i64 (x1))), (.v (.int .i64 (y1))), (.v (.int .i64 (x2))), (.v (.int .i64 (y2))), (.v (.int .i64 (x3))), (.v (.int .i64 (y3)))])) []) (h2 : (decide (Int.ofNat i > (0 : Int)) : Bool) = true) (h3 : COut E 0 [] 114 [(.e (.agg [(.v (.int .i64 (c))), (.v (.int .i64 (d)))]))] (.e (.agg [(.v (.int .i64 (c))), (.v (.int .i64 (d')))])) []) (h5 : COut E 0 [] 105 [(.e (.agg [(.v (.int .i64 (x1))), (.v (.int .i64 (y1)))])), (.e (.agg [(.v (.int .i64 (c))), (.v (.int .i64 (d')))]))] (.e (.agg [(.v (.int .i64 (a))), (.v (.int .i64 (b)))])) []) (h7 : COut E 0 [] 113 [(.e (.agg [(.v (.int .i64 (a))), (.v (.int .i64 (b)))]))] (.tup [(.one (.v (.int .i64 (ph)))), (.one (.v (.bool (u))))]) []) (h10 : (!u : Bool) = false) {Φ : Res → Prop} (ho : ∀ j, OutK E 0 6 (pB44nf_end z C n i q m N N2 m7 N7 M7 w0 w1 w2 w3 x0 y0 x1 y1 x2 y2 x3 y3 c d d' a b ph u D D2 D7 E7 j) Φ (some 5)) (j : Nat → Value) : OutK E 0 6 (sB44n z C n i q m N N2 m7 N7 M7 w0 w1 w2 w3 x0 y0 x1 y1 x2 y2 x3 y3 c d d' a b ph u D D2 D7 E7 j) Φ (some 5) :=
 outK_seg hE (R0_ok hE) [.run 2, (.ops [(1, (.c0 (.e (.agg [(.v (.int .i64 (x0))), (.v (.int .i64 (y0))), (.v (.int .i64 (x1))), (.v (.int .i64 (y1))), (.v (.int .i64 (x2))), (.v (.int .i64 (y2))), (.v (.int .i64 (x3))), (.v (.int .i64 (y3)))]))))] []), .run 3, (.cond true), .run 1, (.ops [(2, (.c0 (.e (.agg [(.v (.int .i64 (c))), (.v (.int .i64 (d')))])))), (3, (.c0 (.e (.agg [(.v (.int .i64 (a))), (.v (.int .i64 (b)))])))), (4, (.c0 (.tup [(.one (.v (.int .i64 (ph)))), (.one (.v (.bool (u))))])))] []), .run 4, (.cond false), .run 3] [2, 3, 4] (s' := fun j => ⟨[(.some ⟨[(.slc 9 0 1 1 1 false)], 1, 25, true, .cells⟩), (.some ⟨[(.v (.slice none 0 0))], 1, 25, true, .cells⟩), (.some ⟨[(.v (.int .i64 (x1))), (.v (.int .i64 (y1)))], 2, 160, true, .cells⟩), (.some ⟨[(.dp (.s (C) (n) 1))], 1, 42, true, .cells⟩), (.some ⟨[], 0, 0, false, .mark⟩), (.some ⟨[], 0, 0, false, (.loop .busy none (T44 z) #[27, 28] asg44 bod44)⟩), (.some ⟨[(.v (.int .i64 (w0))), (.v (.int .i64 (w1))), (.v (.int .i64 (w2))), (.v (.int .i64 (w3)))], 4, 22, true, .cells⟩), (.some ⟨[(.v (.int .i64 (x1))), (.v (.int .i64 (y1)))], 2, 160, true, .cells⟩), (.some ⟨[(.v (.int .i64 (ph)))], 1, 3, true, .cells⟩), (.some ⟨[(.v (.int .i64 (ph)))], 1, 3, false, .cells⟩)], [], mkT j [(2, (.e (.one (.v (z (2 : Nat)))))), (3, (.e (.one (.v (z (3 : Nat)))))), (4, (.e (.one (.v (z (4 : Nat))))))] 56 0⟩) (fun j => by kernel_rfl) (aP h0 <| aN <| aP h2 <| aP h3 <| aN <| aP h5 <| aN <| aP h7 <| aN <| aP (rfl : (true : Bool) = true) <| aP h10 <| aZ)
  fun j => outK_gc [0, 1, 2, 3, 4, 5, 9] (by decide) (by kernel_rfl) (by kernel_rfl) (by kernel_rfl) (ho j)
def pB44nt_end (z : Nat → Value) (C : List DT) (n _i q _m _N _N2 _m7 _N7 _M7 : Nat) (_w0 _w1 _w2 _w3 _x0 _y0 x1 y1 _x2 _y2 _x3 _y3 _c _d _d' _a _b ph : Int) (_u : Bool) (_D _D2 _D7 _E7 : List AC) (j : Nat → Value) : St := ⟨[(.some ⟨[(.slc 6 0 1 1 1 false)], 1, 25, true, .cells⟩), (.some ⟨[(.slc 7 0 1 1 1 false)], 1, 25, true, .cells⟩), (.some ⟨[(.v (.int .i64 (x1))), (.v (.int .i64 (y1)))], 2, 160, true, .cells⟩), (.some ⟨[(.dp (.s (C) (n) 1))], 1, 42, true, .cells⟩), (.some ⟨[], 0, 0, false, .mark⟩), (.some ⟨[], 0, 0, false, (.loop .busy none (T44 z) #[27, 28] asg44 bod44)⟩), (.some ⟨[(.v (.int .i64 (ph)))], 1, 3, false, .cells⟩), (.some ⟨[(.v (.int .i64 (Int.ofNat q)))], 1, 3, false, .cells⟩)], [], mkT j [(2, (.e (.one (.v (z (2 : Nat)))))), (3, (.e (.one (.v (z (3 : Nat)))))), (4, (.e (.one (.v (z (4 : Nat))))))] 56 0⟩
theorem pB44nt (hE : EnvOk E) (z : Nat → Value) (C : List DT) (n i q m N N2 m7 N7 M7 : Nat) (w0 w1 w2 w3 x0 y0 x1 y1 x2 y2 x3 y3 c d d' a b ph : Int) (u : Bool) (D D2 D7 E7 : List AC) (h0 : COut E 0 [] 99 [(.e (.agg [(.v (.int .i64 (w0))), (.v (.int .i64 (w1))), (.v (.int .i64 (w2))), (.v (.int .i64 (w3)))]))] (.e (.agg [(.v (.int .i64 (x0))), (.v (.int .i64 (y0))), (.v (.int .i64 (x1))), (.v (.int .i64 (y1))), (.v (.int .i64 (x2))), (.v (.int .i64 (y2))), (.v (.int .i64 (x3))), (.v (.int .i64 (y3)))])) []) (h2 : (decide (Int.ofNat i > (0 : Int)) : Bool) = true) (h3 : COut E 0 [] 114 [(.e (.agg [(.v (.int .i64 (c))), (.v (.int .i64 (d)))]))] (.e (.agg [(.v (.int .i64 (c))), (.v (.int .i64 (d')))])) []) (h5 : COut E 0 [] 105 [(.e (.agg [(.v (.int .i64 (x1))), (.v (.int .i64 (y1)))])), (.e (.agg [(.v (.int .i64 (c))), (.v (.int .i64 (d')))]))] (.e (.agg [(.v (.int .i64 (a))), (.v (.int .i64 (b)))])) []) (h7 : COut E 0 [] 113 [(.e (.agg [(.v (.int .i64 (a))), (.v (.int .i64 (b)))]))] (.tup [(.one (.v (.int .i64 (ph)))), (.one (.v (.bool (u))))]) []) (h10 : (!u : Bool) = true) (h11 : ((iI (wrapF IntKind.i64 (Int.ofNat i - (1 : Int)))) : AV) = (iI (Int.ofNat q))) {Φ : Res → Prop} (ho : ∀ j, OutK E 0 6 (pB44nt_end z C n i q m N N2 m7 N7 M7 w0 w1 w2 w3 x0 y0 x1 y1 x2 y2 x3 y3 c d d' a b ph u D D2 D7 E7 j) Φ (some 5)) (j : Nat → Value) : OutK E 0 6 (sB44n z C n i q m N N2 m7 N7 M7 w0 w1 w2 w3 x0 y0 x1 y1 x2 y2 x3 y3 c d d' a b ph u D D2 D7 E7 j) Φ (some 5) :=
 outK_seg hE (R0_ok hE) [.run 2, (.ops [(1, (.c0 (.e (.agg [(.v (.int .i64 (x0))), (.v (.int .i64 (y0))), (.v (.int .i64 (x1))), (.v (.int .i64 (y1))), (.v (.int .i64 (x2))), (.v (.int .i64 (y2))), (.v (.int .i64 (x3))), (.v (.int .i64 (y3)))]))))] []), .run 3, (.cond true), .run 1, (.ops [(2, (.c0 (.e (.agg [(.v (.int .i64 (c))), (.v (.int .i64 (d')))])))), (3, (.c0 (.e (.agg [(.v (.int .i64 (a))), (.v (.int .i64 (b)))])))), (4, (.c0 (.tup [(.one (.v (.int .i64 (ph)))), (.one (.v (.bool (u))))])))] []), .run 4, (.cond true), (.ops [(2, (.rn (iI (Int.ofNat q))))] []), .run 2] [2, 3, 4] (s' := fun j => ⟨[(.some ⟨[(.slc 9 0 1 1 1 false)], 1, 25, true, .cells⟩), (.some ⟨[(.slc 11 0 1 1 1 false)], 1, 25, true, .cells⟩), (.some ⟨[(.v (.int .i64 (x1))), (.v (.int .i64 (y1)))], 2, 160, true, .cells⟩), (.some ⟨[(.dp (.s (C) (n) 1))], 1, 42, true, .cells⟩), (.some ⟨[], 0, 0, false, .mark⟩), (.some ⟨[], 0, 0, false, (.loop .busy none (T44 z) #[27, 28] asg44 bod44)⟩), (.some ⟨[(.v (.int .i64 (w0))), (.v (.int .i64 (w1))), (.v (.int .i64 (w2))), (.v (.int .i64 (w3)))], 4, 22, true, .cells⟩), (.some ⟨[(.v (.int .i64 (x1))), (.v (.int .i64 (y1)))], 2, 160, true, .cells⟩), (.some ⟨[(.v (.int .i64 (ph)))], 1, 3, true, .cells⟩), (.some ⟨[(.v (.int .i64 (ph)))], 1, 3, false, .cells⟩), (.some ⟨[(.v (.int .i64 (Int.ofNat q)))], 1, 3, true, .cells⟩), (.some ⟨[(.v (.int .i64 (Int.ofNat q)))], 1, 3, false, .cells⟩)], [], mkT j [(2, (.e (.one (.v (z (2 : Nat)))))), (3, (.e (.one (.v (z (3 : Nat)))))), (4, (.e (.one (.v (z (4 : Nat))))))] 56 0⟩) (fun j => by kernel_rfl) (aP h0 <| aN <| aP h2 <| aP h3 <| aN <| aP h5 <| aN <| aP h7 <| aN <| aP (rfl : (true : Bool) = true) <| aP h10 <| aP h11 <| aZ)
  fun j => outK_gc [0, 1, 2, 3, 4, 5, 9, 11] (by decide) (by kernel_rfl) (by kernel_rfl) (by kernel_rfl) (ho j)
def pR44i_end (z : Nat → Value) (C : List DT) (n i _q m N _N2 _m7 _N7 _M7 : Nat) (w0 w1 w2 w3 _x0 _y0 _x1 _y1 _x2 _y2 _x3 _y3 c d _d' _a _b _ph : Int) (_u : Bool) (D _D2 _D7 _E7 : List AC) (j : Nat → Value) : St := ⟨[(.some ⟨[(.slc 6 0 (m) 1 (m) false)], 1, 25, true, .cells⟩), (.some ⟨[(.v (.slice none 0 0))], 1, 25, true, .cells⟩), (.some ⟨[(.v (.int .i64 (c))), (.v (.int .i64 (d)))], 2, 160, true, .cells⟩), (.some ⟨[(.dp (.s (C) (n) 1))], 1, 42, true, .cells⟩), (.some ⟨[], 0, 0, false, .mark⟩), (.some ⟨[], 0, 0, false, (.loop .ready none (T44 z) #[27, 28] asg44 bod44)⟩), (.some ⟨(D), (N), 3, false, .cells⟩), (.some ⟨[(.v (.int .i64 (w0))), (.v (.int .i64 (w1))), (.v (.int .i64 (w2))), (.v (.int .i64 (w3)))], 4, 22, true, .cells⟩)], [.beginRound, (.code (atC [1, 1, 1, 1, 0, 1, 0, 1] (bodyOf Tryz.f44)))], mkT j [(2, (.e (.one (.v (z (2 : Nat)))))), (3, (.e (.one (.v (z (3 : Nat)))))), (4, (.e (.one (.v (z (4 : Nat)))))), (6, (.e (.one (.ptr 0 0)))), (7, (.e (.one (.ptr 1 0)))), (8, (.e (.one (.ptr 2 0)))), (9, (iI (Int.ofNat i))), (10, (.e (.one (.ptr 7 0))))] 56 0⟩
theorem pR44i (hE : EnvOk E) (z : Nat → Value) (C : List DT) (n i q m N N2 m7 N7 M7 : Nat) (w0 w1 w2 w3 x0 y0 x1 y1 x2 y2 x3 y3 c d d' a b ph : Int) (u : Bool) (D D2 D7 E7 : List AC)  {Φ : Res → Prop} (ho : ∀ j, OutK E 0 7 (pR44i_end z C n i q m N N2 m7 N7 M7 w0 w1 w2 w3 x0 y0 x1 y1 x2 y2 x3 y3 c d d' a b ph u D D2 D7 E7 j) Φ (some 5)) (j : Nat → Value) : OutK E 0 7 (sR44i z C n i q m N N2 m7 N7 M7 w0 w1 w2 w3 x0 y0 x1 y1 x2 y2 x3 y3 c d d' a b ph u D D2 D7 E7 j) Φ (some 5) :=
 outK_seg hE (R0_ok hE) [.run 3] [2, 3, 4, 6, 7, 8, 9, 10] (ps := []) (fun j => by kernel_rfl) trivial
  ho
def pB44if_end (z : Nat → Value) (C : List DT) (n _i _q m _N N2 _m7 _N7 _M7 : Nat) (_w0 _w1 _w2 _w3 _x0 _y0 x1 y1 _x2 _y2 _x3 _y3 _c _d _d' _a _b _ph : Int) (_u : Bool) (_D D2 _D7 _E7 : List AC) (j : Nat → Value) : St := ⟨[(.some ⟨[(.slc 7 0 (m + 1) 1 (m + 1) false)], 1, 25, true, .cells⟩), (.some ⟨[(.v (.slice none 0 0))], 1, 25, true, .cells⟩), (.some ⟨[(.v (.int .i64 (x1))), (.v (.int .i64 (y1)))], 2, 160, true, .cells⟩), (.some ⟨[(.dp (.s (C) (n) 1))], 1, 42, true, .cells⟩), (.some ⟨[], 0, 0, false, .mark⟩), (.some ⟨[], 0, 0, false, (.loop .busy none (T44 z) #[27, 28] asg44 bod44)⟩), none, (.some ⟨(D2), (N2), 3, false, .cells⟩)], [], mkT j [(2, (.e (.one (.v (z (2 : Nat)))))), (3, (.e (.one (.v (z (3 : Nat)))))), (4, (.e (.one (.v (z (4 : Nat))))))] 56 0⟩
theorem pB44if (hE : EnvOk E) (z : Nat → Value) (C : List DT) (n i q m N N2 m7 N7 M7 : Nat) (w0 w1 w2 w3 x0 y0 x1 y1 x2 y2 x3 y3 c d d' a b ph : Int) (u : Bool) (D D2 D7 E7 : List AC) (h0 : COut E 0 [] 99 [(.e (.agg [(.v (.int .i64 (w0))), (.v (.int .i64 (w1))), (.v (.int .i64 (w2))), (.v (.int .i64 (w3)))]))] (.e (.agg [(.v (.int .i64 (x0))), (.v (.int .i64 (y0))), (.v (.int .i64 (x1))), (.v (.int .i64 (y1))), (.v (.int .i64 (x2))), (.v (.int .i64 (y2))), (.v (.int .i64 (x3))), (.v (.int .i64 (y3)))])) []) (h2 : (decide (Int.ofNat i > (0 : Int)) : Bool) = true) (h3 : COut E 0 [] 114 [(.e (.agg [(.v (.int .i64 (c))), (.v (.int .i64 (d)))]))] (.e (.agg [(.v (.int .i64 (c))), (.v (.int .i64 (d')))])) []) (h5 : COut E 0 [] 105 [(.e (.agg [(.v (.int .i64 (x1))), (.v (.int .i64 (y1)))])), (.e (.agg [(.v (.int .i64 (c))), (.v (.int .i64 (d')))]))] (.e (.agg [(.v (.int .i64 (a))), (.v (.int .i64 (b)))])) []) (h7 : COut E 0 [] 113 [(.e (.agg [(.v (.int .i64 (a))), (.v (.int .i64 (b)))]))] (.tup [(.one (.v (.int .i64 (ph)))), (.one (.v (.bool (u))))]) []) (h10 : ¬m + 1 ≤ m) (h11 : (small (m + 1) (1 : Nat) (8 : Nat) : Bool) = true) (h12 : (N : Nat) = m * nat_lit 1) (h13 : (appL D ((fun x => AC.v (Value.int IntKind.i64 ph) :: x) []) : List AC) = D2) (h15 : ((m + 1) * nat_lit 1 : Nat) = N2) (h16 : (!u : Bool) = false) (g0 : FlatC (D2)) {Φ : Res → Prop} (ho : ∀ j, OutK E 0 7 (pB44if_end z C n i q m N N2 m7 N7 M7 w0 w1 w2 w3 x0 y0 x1 y1 x2 y2 x3 y3 c d d' a b ph u D D2 D7 E7 j) Φ (some 5)) (j : Nat → Value) : OutK E 0 7 (sB44i z C n i q m N N2 m7 N7 M7 w0 w1 w2 w3 x0 y0 x1 y1 x2 y2 x3 y3 c d d' a b ph u D D2 D7 E7 j) Φ (some 5) :=
 outK_seg hE (R0_ok hE) [.run 2, (.ops [(1, (.c0 (.e (.agg [(.v (.int .i64 (x0))), (.v (.int .i64 (y0))), (.v (.int .i64 (x1))), (.v (.int .i64 (y1))), (.v (.int .i64 (x2))), (.v (.int .i64 (y2))), (.v (.int .i64 (x3))), (.v (.int .i64 (y3)))]))))] []), .run 3, (.cond true), .run 1, (.ops [(2, (.c0 (.e (.agg [(.v (.int .i64 (c))), (.v (.int .i64 (d')))])))), (3, (.c0 (.e (.agg [(.v (.int .i64 (a))), (.v (.int .i64 (b)))])))), (4, (.c0 (.tup [(.one (.v (.int .i64 (ph)))), (.one (.v (.bool (u))))])))] []), .run 1, (.ops [(3, (.app (m + 1) (N2) (D2)))] []), .run 2, (.cond false), .run 3] [2, 3, 4] (s' := fun j => ⟨[(.some ⟨[(.slc 10 0 (m + 1) 1 (m + 1) false)], 1, 25, true, .cells⟩), (.some ⟨[(.v (.slice none 0 0))], 1, 25, true, .cells⟩), (.some ⟨[(.v (.int .i64 (x1))), (.v (.int .i64 (y1)))], 2, 160, true, .cells⟩), (.some ⟨[(.dp (.s (C) (n) 1))], 1, 42, true, .cells⟩), (.some ⟨[], 0, 0, false, .mark⟩), (.some ⟨[], 0, 0, false, (.loop .busy none (T44 z) #[27, 28] asg44 bod44)⟩), none, (.some ⟨[(.v (.int .i64 (w0))), (.v (.int .i64 (w1))), (.v (.int .i64 (w2))), (.v (.int .i64 (w3)))], 4, 22, true, .cells⟩), (.some ⟨[(.v (.int .i64 (x1))), (.v (.int .i64 (y1)))], 2, 160, true, .cells⟩), (.some ⟨[(.v (.int .i64 (ph)))], 1, 3, true, .cells⟩), (.some ⟨(D2), (N2), 3, false, .cells⟩)], [], mkT j [(2, (.e (.one (.v (z (2 : Nat)))))), (3, (.e (.one (.v (z (3 : Nat)))))), (4, (.e (.one (.v (z (4 : Nat))))))] 56 0⟩) (fun j => by kernel_rfl) (aP h0 <| aN <| aP h2 <| aP h3 <| aN <| aP h5 <| aN <| aP h7 <| aN <| aP (rfl : (true : Bool) = true) <| aP h10 <| aP h11 <| aP h12 <| aP h13 <| aP (rfl : (m + 1 : Nat) = m + 1) <| aP h15 <| aP h16 <| aZ)
  fun j => outK_gcF [0, 1, 2, 3, 4, 5, 6, 10] [false, false, false, false, false, false, false, true] (h' := [(.some ⟨[(.slc 7 0 (m + 1) 1 (m + 1) false)], 1, 25, true, .cells⟩), (.some ⟨[(.v (.slice none 0 0))], 1, 25, true, .cells⟩), (.some ⟨[(.v (.int .i64 (x1))), (.v (.int .i64 (y1)))], 2, 160, true, .cells⟩), (.some ⟨[(.dp (.s (C) (n) 1))], 1, 42, true, .cells⟩), (.some ⟨[], 0, 0, false, .mark⟩), (.some ⟨[], 0, 0, false, (.loop .busy none (T44 z) #[27, 28] asg44 bod44)⟩), none, (.some ⟨(D2), (N2), 3, false, .cells⟩)]) (by decide) (by kernel_rfl) (by kernel_rfl) ⟨g0, trivial⟩ (by kernel_rfl) (ho j)
def pB44it_end (z : Nat → Value) (C : List DT) (n _i q m _N N2 _m7 _N7 _M7 : Nat) (_w0 _w1 _w2 _w3 _x0 _y0 x1 y1 _x2 _y2 _x3 _y3 _c _d _d' _a _b _ph : Int) (_u : Bool) (_D D2 _D7 _E7 : List AC) (j : Nat → Value) : St := ⟨[(.some ⟨[(.slc 7 0 (m + 1) 1 (m + 1) false)], 1, 25, true, .cells⟩), (.some ⟨[(.slc 8 0 1 1 1 false)], 1, 25, true, .cells⟩), (.some ⟨[(.v (.int .i64 (x1))), (.v (.int .i64 (y1)))], 2, 160, true, .cells⟩), (.some ⟨[(.dp (.s (C) (n) 1))], 1, 42, true, .cells⟩), (.some ⟨[], 0, 0, false, .mark⟩), (.some ⟨[], 0, 0, false, (.loop .busy none (T44 z) #[27, 28] asg44 bod44)⟩), none, (.some ⟨(D2), (N2), 3, false, .cells⟩), (.some ⟨[(.v (.int .i64 (Int.ofNat q)))], 1, 3, false, .cells⟩)], [], mkT j [(2, (.e (.one (.v (z (2 : Nat)))))), (3, (.e (.one (.v (z (3 : Nat)))))), (4, (.e (.one (.v (z (4 : Nat))))))] 56 0⟩
theorem pB44it (hE : EnvOk E) (z : Nat → Value) (C : List DT) (n i q m N N2 m7 N7 M7 : Nat) (w0 w1 w2 w3 x0 y0 x1 y1 x2 y2 x3 y3 c d d' a b ph : Int) (u : Bool) (D D2 D7 E7 : List AC) (h0 : COut E 0 [] 99 [(.e (.agg [(.v (.int .i64 (w0))), (.v (.int .i64 (w1))), (.v (.int .i64 (w2))), (.v (.int .i64 (w3)))]))] (.e (.agg [(.v (.int .i64 (x0))), (.v (.int .i64 (y0))), (.v (.int .i64 (x1))), (.v (.int .i64 (y1))), (.v (.int .i64 (x2))), (.v (.int .i64 (y2))), (.v (.int .i64 (x3))), (.v (.int .i64 (y3)))])) []) (h2 : (decide (Int.ofNat i > (0 : Int)) : Bool) = true) (h3 : COut E 0 [] 114 [(.e (.agg [(.v (.int .i64 (c))), (.v (.int .i64 (d)))]))] (.e (.agg [(.v (.int .i64 (c))), (.v (.int .i64 (d')))])) []) (h5 : COut E 0 [] 105 [(.e (.agg [(.v (.int .i64 (x1))), (.v (.int .i64 (y1)))])), (.e (.agg [(.v (.int .i64 (c))), (.v (.int .i64 (d')))]))] (.e (.agg [(.v (.int .i64 (a))), (.v (.int .i64 (b)))])) []) (h7 : COut E 0 [] 113 [(.e (.agg [(.v (.int .i64 (a))), (.v (.int .i64 (b)))]))] (.tup [(.one (.v (.int .i64 (ph)))), (.one (.v (.bool (u))))]) []) (h10 : ¬m + 1 ≤ m) (h11 : (small (m + 1) (1 : Nat) (8 : Nat) : Bool) = true) (h12 : (N : Nat) = m * nat_lit 1) (h13 : (appL D ((fun x => AC.v (Value.int IntKind.i64 ph) :: x) []) : List AC) = D2) (h15 : ((m + 1) * nat_lit 1 : Nat) = N2) (h16 : (!u : Bool) = true) (h17 : ((iI (wrapF IntKind.i64 (Int.ofNat i - (1 : Int)))) : AV) = (iI (Int.ofNat q))) (g0 : FlatC (D2)) {Φ : Res → Prop} (ho : ∀ j, OutK E 0 7 (pB44it_end z C n i q m N N2 m7 N7 M7 w0 w1 w2 w3 x0 y0 x1 y1 x2 y2 x3 y3 c d d' a b ph u D D2 D7 E7 j) Φ (some 5)) (j : Nat → Value) : OutK E 0 7 (sB44i z C n i q m N N2 m7 N7 M7 w0 w1 w2 w3 x0 y0 x1 y1 x2 y2 x3 y3 c d d' a b ph u D D2 D7 E7 j) Φ (some 5) :=
 outK_seg hE (R0_ok hE) [.run 2, (.ops [(1, (.c0 (.e (.agg [(.v (.int .i64 (x0))), (.v (.int .i64 (y0))), (.v (.int .i64 (x1))), (.v (.int .i64 (y1))), (.v (.int .i64 (x2))), (.v (.int .i64 (y2))), (.v (.int .i64 (x3))), (.v (.int .i64 (y3)))]))))] []), .run 3, (.cond true), .run 1, (.ops [(2, (.c0 (.e (.agg [(.v (.int .i64 (c))), (.v (.int .i64 (d')))])))), (3, (.c0 (.e (.agg [(.v (.int .i64 (a))), (.v (.int .i64 (b)))])))), (4, (.c0 (.tup [(.one (.v (.int .i64 (ph)))), (.one (.v (.bool (u))))])))] []), .run 1, (.ops [(3, (.app (m + 1) (N2) (D2)))] []), .run 2, (.cond true), (.ops [(2, (.rn (iI (Int.ofNat q))))] []), .run 2] [2, 3, 4] (s' := fun j => ⟨[(.some ⟨[(.slc 10 0 (m + 1) 1 (m + 1) false)], 1, 25, true, .cells⟩), (.some ⟨[(.slc 12 0 1 1 1 false)], 1, 25, true, .cells⟩), (.some ⟨[(.v (.int .i64 (x1))), (.v (.int .i64 (y1)))], 2, 160, true, .cells⟩), (.some ⟨[(.dp (.s (C) (n) 1))], 1, 42, true, .cells⟩), (.some ⟨[], 0, 0, false, .mark⟩), (.some ⟨[], 0, 0, false, (.loop .busy none (T44 z) #[27, 28] asg44 bod44)⟩), none, (.some ⟨[(.v (.int .i64 (w0))), (.v (.int .i64 (w1))), (.v (.int .i64 (w2))), (.v (.int .i64 (w3)))], 4, 22, true, .cells⟩), (.some ⟨[(.v (.int .i64 (x1))), (.v (.int .i64 (y1)))], 2, 160, true, .cells⟩), (.some ⟨[(.v (.int .i64 (ph)))], 1, 3, true, .cells⟩), (.some ⟨(D2), (N2), 3, false, .cells⟩), (.some ⟨[(.v (.int .i64 (Int.ofNat q)))], 1, 3, true, .cells⟩), (.some ⟨[(.v (.int .i64 (Int.ofNat q)))], 1, 3, false, .cells⟩)], [], mkT j [(2, (.e (.one (.v (z (2 : Nat)))))), (3, (.e (.one (.v (z (3 : Nat)))))), (4, (.e (.one (.v (z (4 : Nat))))))] 56 0⟩) (fun j => by kernel_rfl) (aP h0 <| aN <| aP h2 <| aP h3 <| aN <| aP h5 <| aN <| aP h7 <| aN <| aP (rfl : (true : Bool) = true) <| aP h10 <| aP h11 <| aP h12 <| aP h13 <| aP (rfl : (m + 1 : Nat) = m + 1) <| aP h15 <| aP h16 <| aP h17 <| aZ)
  fun j => outK_gcF [0, 1, 2, 3, 4, 5, 6, 10, 12] [false, false, false, false, false, false, false, true, false] (h' := [(.some ⟨[(.slc 7 0 (m + 1) 1 (m + 1) false)], 1, 25, true, .cells⟩), (.some ⟨[(.slc 8 0 1 1 1 false)], 1, 25, true, .cells⟩), (.some ⟨[(.v (.int .i64 (x1))), (.v (.int .i64 (y1)))], 2, 160, true, .cells⟩), (.some ⟨[(.dp (.s (C) (n) 1))], 1, 42, true, .cells⟩), (.some ⟨[], 0, 0, false, .mark⟩), (.some ⟨[], 0, 0, false, (.loop .busy none (T44 z) #[27, 28] asg44 bod44)⟩), none, (.some ⟨(D2), (N2), 3, false, .cells⟩), (.some ⟨[(.v (.int .i64 (Int.ofNat q)))], 1, 3, false, .cells⟩)]) (by decide) (by kernel_rfl) (by kernel_rfl) ⟨g0, trivial⟩ (by kernel_rfl) (ho j)
def pE44i_end (_z : Nat → Value) (C : List DT) (n _i _q m N _N2 _m7 _N7 _M7 : Nat) (_w0 _w1 _w2 _w3 _x0 _y0 _x1 _y1 _x2 _y2 _x3 _y3 c d _d' _a _b _ph : Int) (_u : Bool) (D _D2 _D7 _E7 : List AC) (j : Nat → Value) : St := ⟨[(.some ⟨[(.slc 5 0 (m) 1 (m) false)], 1, 25, true, .cells⟩), (.some ⟨[(.v (.slice none 0 0))], 1, 25, true, .cells⟩), (.some ⟨[(.v (.int .i64 (c))), (.v (.int .i64 (d)))], 2, 160, true, .cells⟩), (.some ⟨[(.dp (.s (C) (n) 1))], 1, 42, true, .cells⟩), (.some ⟨[], 0, 0, false, .mark⟩), (.some ⟨(D), (N), 3, false, .cells⟩)], [(.code .ret)], mkT j [(2, (.e (.one (.slc 5 0 (m) 1 (m) false)))), (3, (.e (.one (.v (.slice none 0 0))))), (4, (iI 0))] 56 0⟩
theorem pE44i (hE : EnvOk E) (z : Nat → Value) (C : List DT) (n i q m N N2 m7 N7 M7 : Nat) (w0 w1 w2 w3 x0 y0 x1 y1 x2 y2 x3 y3 c d d' a b ph : Int) (u : Bool) (D D2 D7 E7 : List AC) (g0 : FlatC (D)) {Φ : Res → Prop} (ho : ∀ j, OutK E 0 5 (pE44i_end z C n i q m N N2 m7 N7 M7 w0 w1 w2 w3 x0 y0 x1 y1 x2 y2 x3 y3 c d d' a b ph u D D2 D7 E7 j) Φ) (j : Nat → Value) : OutK E 0 5 (sE44i z C n i q m N N2 m7 N7 M7 w0 w1 w2 w3 x0 y0 x1 y1 x2 y2 x3 y3 c d d' a b ph u D D2 D7 E7 j) Φ :=
 outK_seg hE (R0_ok hE) [.run 3] [2, 3, 4] (s' := fun j => ⟨[(.some ⟨[(.slc 6 0 (m) 1 (m) false)], 1, 25, true, .cells⟩), (.some ⟨[(.v (.slice none 0 0))], 1, 25, true, .cells⟩), (.some ⟨[(.v (.int .i64 (c))), (.v (.int .i64 (d)))], 2, 160, true, .cells⟩), (.some ⟨[(.dp (.s (C) (n) 1))], 1, 42, true, .cells⟩), (.some ⟨[], 0, 0, false, .mark⟩), (.some ⟨[], 0, 0, false, (.loop .exhausted none (T44 z) #[27, 28] asg44 bod44)⟩), (.some ⟨(D), (N), 3, false, .cells⟩)], [(.code .ret)], mkT j [(2, (.e (.one (.slc 6 0 (m) 1 (m) false)))), (3, (.e (.one (.v (.slice none 0 0))))), (4, (iI 0))] 56 0⟩) (ps := []) (fun j => by kernel_rfl) trivial
  fun j => outK_gcF [0, 1, 2, 3, 4, 6] [false, false, false, false, false, true] (h' := [(.some ⟨[(.slc 5 0 (m) 1 (m) false)], 1, 25, true, .cells⟩), (.some ⟨[(.v (.slice none 0 0))], 1, 25, true, .cells⟩), (.some ⟨[(.v (.int .i64 (c))), (.v (.int .i64 (d)))], 2, 160, true, .cells⟩), (.some ⟨[(.dp (.s (C) (n) 1))], 1, 42, true, .cells⟩), (.some ⟨[], 0, 0, false, .mark⟩), (.some ⟨(D), (N), 3, false, .cells⟩)]) (by decide) (by kernel_rfl) (by kernel_rfl) ⟨g0, trivial⟩ (by kernel_rfl) (ho j)
def pR44d_end (z : Nat → Value) (C : List DT) (n i _q m N _N2 m7 N7 _M7 : Nat) (w0 w1 w2 w3 _x0 _y0 _x1 _y1 _x2 _y2 _x3 _y3 c d _d' _a _b _ph : Int) (_u : Bool) (D _D2 D7 _E7 : List AC) (j : Nat → Value) : St := ⟨[(.some ⟨[(.slc 6 0 (m) 1 (m) false)], 1, 25, true, .cells⟩), (.some ⟨[(.slc 7 0 (m7) 1 (m7) false)], 1, 25, true, .cells⟩), (.some ⟨[(.v (.int .i64 (c))), (.v (.int .i64 (d)))], 2, 160, true, .cells⟩), (.some ⟨[(.dp (.s (C) (n) 1))], 1, 42, true, .cells⟩), (.some ⟨[], 0, 0, false, .mark⟩), (.some ⟨[], 0, 0, false, (.loop .ready none (T44 z) #[27, 28] asg44 bod44)⟩), (.some ⟨(D), (N), 3, false, .cells⟩), (.some ⟨(D7), (N7), 3, false, .cells⟩), (.some ⟨[(.v (.int .i64 (w0))), (.v (.int .i64 (w1))), (.v (.int .i64 (w2))), (.v (.int .i64 (w3)))], 4, 22, true, .cells⟩)], [.beginRound, (.code (atC [1, 1, 1, 1, 0, 1, 0, 1] (bodyOf Tryz.f44)))], mkT j [(2, (.e (.one (.v (z (2 : Nat)))))), (3, (.e (.one (.v (z (3 : Nat)))))), (4, (.e (.one (.v (z (4 : Nat)))))), (6, (.e (.one (.ptr 0 0)))), (7, (.e (.one (.ptr 1 0)))), (8, (.e (.one (.ptr 2 0)))), (9, (iI (Int.ofNat i))), (10, (.e (.one (.ptr 8 0))))] 56 0⟩
theorem pR44d (hE : EnvOk E) (z : Nat → Value) (C : List DT) (n i q m N N2 m7 N7 M7 : Nat) (w0 w1 w2 w3 x0 y0 x1 y1 x2 y2 x3 y3 c d d' a b ph : Int) (u : Bool) (D D2 D7 E7 : List AC)  {Φ : Res → Prop} (ho : ∀ j, OutK E 0 8 (pR44d_end z C n i q m N N2 m7 N7 M7 w0 w1 w2 w3 x0 y0 x1 y1 x2 y2 x3 y3 c d d' a b ph u D D2 D7 E7 j) Φ (some 5)) (j : Nat → Value) : OutK E 0 8 (sR44d z C n i q m N N2 m7 N7 M7 w0 w1 w2 w3 x0 y0 x1 y1 x2 y2 x3 y3 c d d' a b ph u D D2 D7 E7 j) Φ (some 5) :=
 outK_seg hE (R0_ok hE) [.run 3] [2, 3, 4, 6, 7, 8, 9, 10] (ps := []) (fun j => by kernel_rfl) trivial
  ho
def pB44df_end (z : Nat → Value) (C : List DT) (n _i _q m _N N2 m7 N7 _M7 : Nat) (_w0 _w1 _w2 _w3 _x0 _y0 x1 y1 _x2 _y2 _x3 _y3 _c _d _d' _a _b _ph : Int) (_u : Bool) (_D D2 D7 _E7 : List AC) (j : Nat → Value) : St := ⟨[(.some ⟨[(.slc 8 0 (m + 1) 1 (m + 1) false)], 1, 25, true, .cells⟩), (.some ⟨[(.slc 7 0 (m7) 1 (m7) false)], 1, 25, true, .cells⟩), (.some ⟨[(.v (.int .i64 (x1))), (.v (.int .i64 (y1)))], 2, 160, true, .cells⟩), (.some ⟨[(.dp (.s (C) (n) 1))], 1, 42, true, .cells⟩), (.some ⟨[], 0, 0, false, .mark⟩), (.some ⟨[], 0, 0, false, (.loop .busy none (T44 z) #[27, 28] asg44 bod44)⟩), none, (.some ⟨(D7), (N7), 3, false, .cells⟩), (.some ⟨(D2), (N2), 3, false, .cells⟩)], [], mkT j [(2, (.e (.one (.v (z (2 : Nat)))))), (3, (.e (.one (.v (z (3 : Nat)))))), (4, (.e (.one (.v (z (4 : Nat))))))] 56 0⟩
theorem pB44df (hE : EnvOk E) (z : Nat → Value) (C : List DT) (n i q m N N2 m7 N7 M7 : Nat) (w0 w1 w2 w3 x0 y0 x1 y1 x2 y2 x3 y3 c d d' a b ph : Int) (u : Bool) (D D2 D7 E7 : List AC) (h0 : COut E 0 [] 99 [(.e (.agg [(.v (.int .i64 (w0))), (.v (.int .i64 (w1))), (.v (.int .i64 (w2))), (.v (.int .i64 (w3)))]))] (.e (.agg [(.v (.int .i64 (x0))), (.v (.int .i64 (y0))), (.v (.int .i64 (x1))), (.v (.int .i64 (y1))), (.v (.int .i64 (x2))), (.v (.int .i64 (y2))), (.v (.int .i64 (x3))), (.v (.int .i64 (y3)))])) []) (h2 : (decide (Int.ofNat i > (0 : Int)) : Bool) = true) (h3 : COut E 0 [] 114 [(.e (.agg [(.v (.int .i64 (c))), (.v (.int .i64 (d)))]))] (.e (.agg [(.v (.int .i64 (c))), (.v (.int .i64 (d')))])) []) (h5 : COut E 0 [] 105 [(.e (.agg [(.v (.int .i64 (x1))), (.v (.int .i64 (y1)))])), (.e (.agg [(.v (.int .i64 (c))), (.v (.int .i64 (d')))]))] (.e (.agg [(.v (.int .i64 (a))), (.v (.int .i64 (b)))])) []) (h7 : COut E 0 [] 113 [(.e (.agg [(.v (.int .i64 (a))), (.v (.int .i64 (b)))]))] (.tup [(.one (.v (.int .i64 (ph)))), (.one (.v (.bool (u))))]) []) (h10 : ¬m + 1 ≤ m) (h11 : (small (m + 1) (1 : Nat) (8 : Nat) : Bool) = true) (h12 : (N : Nat) = m * nat_lit 1) (h13 : (appL D ((fun x => AC.v (Value.int IntKind.i64 ph) :: x) []) : List AC) = D2) (h15 : ((m + 1) * nat_lit 1 : Nat) = N2) (h16 : (!u : Bool) = false) (g0 : FlatC (D7)) (g1 : FlatC (D2)) {Φ : Res → Prop} (ho : ∀ j, OutK E 0 8 (pB44df_end z C n i q m N N2 m7 N7 M7 w0 w1 w2 w3 x0 y0 x1 y1 x2 y2 x3 y3 c d d' a b ph u D D2 D7 E7 j) Φ (some 5)) (j : Nat → Value) : OutK E 0 8 (sB44d z C n i q m N N2 m7 N7 M7 w0 w1 w2 w3 x0 y0 x1 y1 x2 y2 x3 y3 c d d' a b ph u D D2 D7 E7 j) Φ (some 5) :=
 outK_seg hE (R0_ok hE) [.run 2, (.ops [(1, (.c0 (.e (.agg [(.v (.int .i64 (x0))), (.v (.int .i64 (y0))), (.v (.int .i64 (x1))), (.v (.int .i64 (y1))), (.v (.int .i64 (x2))), (.v (.int .i64 (y2))), (.v (.int .i64 (x3))), (.v (.int .i64 (y3)))]))))] []), .run 3, (.cond true), .run 1, (.ops [(2, (.c0 (.e (.agg [(.v (.int .i64 (c))), (.v (.int .i64 (d')))])))), (3, (.c0 (.e (.agg [(.v (.int .i64 (a))), (.v (.int .i64 (b)))])))), (4, (.c0 (.tup [(.one (.v (.int .i64 (ph)))), (.one (.v (.bool (u))))])))] []), .run 1, (.ops [(3, (.app (m + 1) (N2) (D2)))] []), .run 2, (.cond false), .run 3] [2, 3, 4] (s' := fun j => ⟨[(.some ⟨[(.slc 11 0 (m + 1) 1 (m + 1) false)], 1, 25, true, .cells⟩), (.some ⟨[(.slc 7 0 (m7) 1 (m7) false)], 1, 25, true, .cells⟩), (.some ⟨[(.v (.int .i64 (x1))), (.v (.int .i64 (y1)))], 2, 160, true, .cells⟩), (.some ⟨[(.dp (.s (C) (n) 1))], 1, 42, true, .cells⟩), (.some ⟨[], 0, 0, false, .mark⟩), (.some ⟨[], 0, 0, false, (.loop .busy none (T44 z) #[27, 28] asg44 bod44)⟩), none, (.some ⟨(D7), (N7), 3, false, .cells⟩), (.some ⟨[(.v (.int .i64 (w0))), (.v (.int .i64 (w1))), (.v (.int .i64 (w2))), (.v (.int .i64 (w3)))], 4, 22, true, .cells⟩), (.some ⟨[(.v (.int .i64 (x1))), (.v (.int .i64 (y1)))], 2, 160, true, .cells⟩), (.some ⟨[(.v (.int .i64 (ph)))], 1, 3, true, .cells⟩), (.some ⟨(D2), (N2), 3, false, .cells⟩)], [], mkT j [(2, (.e (.one (.v (z (2 : Nat)))))), (3, (.e (.one (.v (z (3 : Nat)))))), (4, (.e (.one (.v (z (4 : Nat))))))] 56 0⟩) (fun j => by kernel_rfl) (aP h0 <| aN <| aP h2 <| aP h3 <| aN <| aP h5 <| aN <| aP h7 <| aN <| aP (rfl : (true : Bool) = true) <| aP h10 <| aP h11 <| aP h12 <| aP h13 <| aP (rfl : (m + 1 : Nat) = m + 1) <| aP h15 <| aP h16 <| aZ)
  fun j => outK_gcF [0, 1, 2, 3, 4, 5, 6, 7, 11] [false, false, false, false, false, false, false, true, true] (h' := [(.some ⟨[(.slc 8 0 (m + 1) 1 (m + 1) false)], 1, 25, true, .cells⟩), (.some ⟨[(.slc 7 0 (m7) 1 (m7) false)], 1, 25, true, .cells⟩), (.some ⟨[(.v (.int .i64 (x1))), (.v (.int .i64 (y1)))], 2, 160, true, .cells⟩), (.some ⟨[(.dp (.s (C) (n) 1))], 1, 42, true, .cells⟩), (.some ⟨[], 0, 0, false, .mark⟩), (.some ⟨[], 0, 0, false, (.loop .busy none (T44 z) #[27, 28] asg44 bod44)⟩), none, (.some ⟨(D7), (N7), 3, false, .cells⟩), (.some ⟨(D2), (N2), 3, false, .cells⟩)]) (by decide) (by kernel_rfl) (by kernel_rfl) ⟨g0, g1, trivial⟩ (by kernel_rfl) (ho j)
def pB44dt_end (z : Nat → Value) (C : List DT) (n _i _q m _N N2 m7 _N7 M7 : Nat) (_w0 _w1 _w2 _w3 _x0 _y0 x1 y1 _x2 _y2 _x3 _y3 _c _d _d' _a _b _ph : Int) (_u : Bool) (_D D2 _D7 E7 : List AC) (j : Nat → Value) : St := ⟨[(.some ⟨[(.slc 8 0 (m + 1) 1 (m + 1) false)], 1, 25, true, .cells⟩), (.some ⟨[(.slc 9 0 (m7 + 1) 1 (m7 + 1) false)], 1, 25, true, .cells⟩), (.some ⟨[(.v (.int .i64 (x1))), (.v (.int .i64 (y1)))], 2, 160, true, .cells⟩), (.some ⟨[(.dp (.s (C) (n) 1))], 1, 42, true, .cells⟩), (.some ⟨[], 0, 0, false, .mark⟩), (.some ⟨[], 0, 0, false, (.loop .busy none (T44 z) #[27, 28] asg44 bod44)⟩), none, none, (.some ⟨(D2), (N2), 3, false, .cells⟩), (.some ⟨(E7), (M7), 3, false, .cells⟩)], [], mkT j [(2, (.e (.one (.v (z (2 : Nat)))))), (3, (.e (.one (.v (z (3 : Nat)))))), (4, (.e (.one (.v (z (4 : Nat))))))] 56 0⟩
theorem pB44dt (hE : EnvOk E) (z : Nat → Value) (C : List DT) (n i q m N N2 m7 N7 M7 : Nat) (w0 w1 w2 w3 x0 y0 x1 y1 x2 y2 x3 y3 c d d' a b ph : Int) (u : Bool) (D D2 D7 E7 : List AC) (h0 : COut E 0 [] 99 [(.e (.agg [(.v (.int .i64 (w0))), (.v (.int .i64 (w1))), (.v (.int .i64 (w2))), (.v (.int .i64 (w3)))]))] (.e (.agg [(.v (.int .i64 (x0))), (.v (.int .i64 (y0))), (.v (.int .i64 (x1))), (.v (.int .i64 (y1))), (.v (.int .i64 (x2))), (.v (.int .i64 (y2))), (.v (.int .i64 (x3))), (.v (.int .i64 (y3)))])) []) (h2 : (decide (Int.ofNat i > (0 : Int)) : Bool) = true) (h3 : COut E 0 [] 114 [(.e (.agg [(.v (.int .i64 (c))), (.v (.int .i64 (d)))]))] (.e (.agg [(.v (.int .i64 (c))), (.v (.int .i64 (d')))])) []) (h5 : COut E 0 [] 105 [(.e (.agg [(.v (.int .i64 (x1))), (.v (.int .i64 (y1)))])), (.e (.agg [(.v (.int .i64 (c))), (.v (.int .i64 (d')))]))] (.e (.agg [(.v (.int .i64 (a))), (.v (.int .i64 (b)))])) []) (h7 : COut E 0 [] 113 [(.e (.agg [(.v (.int .i64 (a))), (.v (.int .i64 (b)))]))] (.tup [(.one (.v (.int .i64 (ph)))), (.one (.v (.bool (u))))]) []) (h10 : ¬m + 1 ≤ m) (h11 : (small (m + 1) (1 : Nat) (8 : Nat) : Bool) = true) (h12 : (N : Nat) = m * nat_lit 1) (h13 : (appL D ((fun x => AC.v (Value.int IntKind.i64 ph) :: x) []) : List AC) = D2) (h15 : ((m + 1) * nat_lit 1 : Nat) = N2) (h16 : (!u : Bool) = true) (h17 : ((iI (wrapF IntKind.i64 (Int.ofNat i - (1 : Int)))) : AV) = (iI (Int.ofNat q))) (h18 : ¬m7 + 1 ≤ m7) (h19 : (small (m7 + 1) (1 : Nat) (8 : Nat) : Bool) = true) (h20 : (N7 : Nat) = m7 * nat_lit 1) (h21 : (appL D7 ((fun x => AC.v (Value.int IntKind.i64 (Int.ofNat q)) :: x) []) : List AC) = E7) (h23 : ((m7 + 1) * nat_lit 1 : Nat) = M7) (g0 : FlatC (D2)) (g1 : FlatC (E7)) {Φ : Res → Prop} (ho : ∀ j, OutK E 0 8 (pB44dt_end z C n i q m N N2 m7 N7 M7 w0 w1 w2 w3 x0 y0 x1 y1 x2 y2 x3 y3 c d d' a b ph u D D2 D7 E7 j) Φ (some 5)) (j : Nat → Value) : OutK E 0 8 (sB44d z C n i q m N N2 m7 N7 M7 w0 w1 w2 w3 x0 y0 x1 y1 x2 y2 x3 y3 c d d' a b ph u D D2 D7 E7 j) Φ (some 5) :=
 outK_seg hE (R0_ok hE) [.run 2, (.ops [(1, (.c0 (.e (.agg [(.v (.int .i64 (x0))), (.v (.int .i64 (y0))), (.v (.int .i64 (x1))), (.v (.int .i64 (y1))), (.v (.int .i64 (x2))), (.v (.int .i64 (y2))), (.v (.int .i64 (x3))), (.v (.int .i64 (y3)))]))))] []), .run 3, (.cond true), .run 1, (.ops [(2, (.c0 (.e (.agg [(.v (.int .i64 (c))), (.v (.int .i64 (d')))])))), (3, (.c0 (.e (.agg [(.v (.int .i64 (a))), (.v (.int .i64 (b)))])))), (4, (.c0 (.tup [(.one (.v (.int .i64 (ph)))), (.one (.v (.bool (u))))])))] []), .run 1, (.ops [(3, (.app (m + 1) (N2) (D2)))] []), .run 2, (.cond true), (.ops [(2, (.rn (iI (Int.ofNat q)))), (4, (.app (m7 + 1) (M7) (E7)))] []), .run 2] [2, 3, 4] (s' := fun j => ⟨[(.some ⟨[(.slc 11 0 (m + 1) 1 (m + 1) false)], 1, 25, true, .cells⟩), (.some ⟨[(.slc 13 0 (m7 + 1) 1 (m7 + 1) false)], 1, 25, true, .cells⟩), (.some ⟨[(.v (.int .i64 (x1))), (.v (.int .i64 (y1)))], 2, 160, true, .cells⟩), (.some ⟨[(.dp (.s (C) (n) 1))], 1, 42, true, .cells⟩), (.some ⟨[], 0, 0, false, .mark⟩), (.some ⟨[], 0, 0, false, (.loop .busy none (T44 z) #[27, 28] asg44 bod44)⟩), none, none, (.some ⟨[(.v (.int .i64 (w0))), (.v (.int .i64 (w1))), (.v (.int .i64 (w2))), (.v (.int .i64 (w3)))], 4, 22, true, .cells⟩), (.some ⟨[(.v (.int .i64 (x1))), (.v (.int .i64 (y1)))], 2, 160, true, .cells⟩), (.some ⟨[(.v (.int .i64 (ph)))], 1, 3, true, .cells⟩), (.some ⟨(D2), (N2), 3, false, .cells⟩), (.some ⟨[(.v (.int .i64 (Int.ofNat q)))], 1, 3, true, .cells⟩), (.some ⟨(E7), (M7), 3, false, .cells⟩)], [], mkT j [(2, (.e (.one (.v (z (2 : Nat)))))), (3, (.e (.one (.v (z (3 : Nat)))))), (4, (.e (.one (.v (z (4 : Nat))))))] 56 0⟩) (fun j => by kernel_rfl) (aP h0 <| aN <| aP h2 <| aP h3 <| aN <| aP h5 <| aN <| aP h7 <| aN <| aP (rfl : (true : Bool) = true) <| aP h10 <| aP h11 <| aP h12 <| aP h13 <| aP (rfl : (m + 1 : Nat) = m + 1) <| aP h15 <| aP h16 <| aP h17 <| aP h18 <| aP h19 <| aP h20 <| aP h21 <| aP (rfl : (m7 + 1 : Nat) = m7 + 1) <| aP h23 <| aZ)
  fun j => outK_gcF [0, 1, 2, 3, 4, 5, 6, 7, 11, 13] [false, false, false, false, false, false, false, false, true, true] (h' := [(.some ⟨[(.slc 8 0 (m + 1) 1 (m + 1) false)], 1, 25, true, .cells⟩), (.some ⟨[(.slc 9 0 (m7 + 1) 1 (m7 + 1) false)], 1, 25, true, .cells⟩), (.some ⟨[(.v (.int .i64 (x1))), (.v (.int .i64 (y1)))], 2, 160, true, .cells⟩), (.some ⟨[(.dp (.s (C) (n) 1))], 1, 42, true, .cells⟩), (.some ⟨[], 0, 0, false, .mark⟩), (.some ⟨[], 0, 0, false, (.loop .busy none (T44 z) #[27, 28] asg44 bod44)⟩), none, none, (.some ⟨(D2), (N2), 3, false, .cells⟩), (.some ⟨(E7), (M7), 3, false, .cells⟩)]) (by decide) (by kernel_rfl) (by kernel_rfl) ⟨g0, g1, trivial⟩ (by kernel_rfl) (ho j)
def pE44d_end (_z : Nat → Value) (C : List DT) (n _i _q m N _N2 m7 N7 _M7 : Nat) (_w0 _w1 _w2 _w3 _x0 _y0 _x1 _y1 _x2 _y2 _x3 _y3 c d _d' _a _b _ph : Int) (_u : Bool) (D _D2 D7 _E7 : List AC) (j : Nat → Value) : St := ⟨[(.some ⟨[(.slc 5 0 (m) 1 (m) false)], 1, 25, true, .cells⟩), (.some ⟨[(.slc 6 0 (m7) 1 (m7) false)], 1, 25, true, .cells⟩), (.some ⟨[(.v (.int .i64 (c))), (.v (.int .i64 (d)))], 2, 160, true, .cells⟩), (.some ⟨[(.dp (.s (C) (n) 1))], 1, 42, true, .cells⟩), (.some ⟨[], 0, 0, false, .mark⟩), (.some ⟨(D), (N), 3, false, .cells⟩), (.some ⟨(D7), (N7), 3, false, .cells⟩)], [(.code .ret)], mkT j [(2, (.e (.one (.slc 5 0 (m) 1 (m) false)))), (3, (.e (.one (.slc 6 0 (m7) 1 (m7) false)))), (4, (iI 0))] 56 0⟩
theorem pE44d (hE : EnvOk E) (z : Nat → Value) (C : List DT) (n i q m N N2 m7 N7 M7 : Nat) (w0 w1 w2 w3 x0 y0 x1 y1 x2 y2 x3 y3 c d d' a b ph : Int) (u : Bool) (D D2 D7 E7 : List AC) (g0 : FlatC (D)) (g1 : FlatC (D7)) {Φ : Res → Prop} (ho : ∀ j, OutK E 0 5 (pE44d_end z C n i q m N N2 m7 N7 M7 w0 w1 w2 w3 x0 y0 x1 y1 x2 y2 x3 y3 c d d' a b ph u D D2 D7 E7 j) Φ) (j : Nat → Value) : OutK E 0 5 (sE44d z C n i q m N N2 m7 N7 M7 w0 w1 w2 w3 x0 y0 x1 y1 x2 y2 x3 y3 c d d' a b ph u D D2 D7 E7 j) Φ :=
 outK_seg hE (R0_ok hE) [.run 3] [2, 3, 4] (s' := fun j => ⟨[(.some ⟨[(.slc 6 0 (m) 1 (m) false)], 1, 25, true, .cells⟩), (.some ⟨[(.slc 7 0 (m7) 1 (m7) false)], 1, 25, true, .cells⟩), (.some ⟨[(.v (.int .i64 (c))), (.v (.int .i64 (d)))], 2, 160, true, .cells⟩), (.some ⟨[(.dp (.s (C) (n) 1))], 1, 42, true, .cells⟩), (.some ⟨[], 0, 0, false, .mark⟩), (.some ⟨[], 0, 0, false, (.loop .exhausted none (T44 z) #[27, 28] asg44 bod44)⟩), (.some ⟨(D), (N), 3, false, .cells⟩), (.some ⟨(D7), (N7), 3, false, .cells⟩)], [(.code .ret)], mkT j [(2, (.e (.one (.slc 6 0 (m) 1 (m) false)))), (3, (.e (.one (.slc 7 0 (m7) 1 (m7) false)))), (4, (iI 0))] 56 0⟩) (ps := []) (fun j => by kernel_rfl) trivial
  fun j => outK_gcF [0, 1, 2, 3, 4, 6, 7] [false, false, false, false, false, true, true] (h' := [(.some ⟨[(.slc 5 0 (m) 1 (m) false)], 1, 25, true, .cells⟩), (.some ⟨[(.slc 6 0 (m7) 1 (m7) false)], 1, 25, true, .cells⟩), (.some ⟨[(.v (.int .i64 (c))), (.v (.int .i64 (d)))], 2, 160, true, .cells⟩), (.some ⟨[(.dp (.s (C) (n) 1))], 1, 42, true, .cells⟩), (.some ⟨[], 0, 0, false, .mark⟩), (.some ⟨(D), (N), 3, false, .cells⟩), (.some ⟨(D7), (N7), 3, false, .cells⟩)]) (by decide) (by kernel_rfl) (by kernel_rfl) ⟨g0, g1, trivial⟩ (by kernel_rfl) (ho j)
open Ieee
theorem K113z (hE : EnvOk E) {ws : List Nat} (hc : ∀ b ∈ ws, chkW 1024 b = 0) (t : Nat) (h : 4 * (t + 1) + 4 ≤ ws.length) : COut E 0 [] 113 [gA (za ws t) (zb ws t)] (.tup [.one (.v (.int .i64 (Int.ofNat (phN ws t)))), .one (.v (.bool (!dbN ws t)))]) [] := by
 obtain ⟨h1, h2⟩ := z_bnd hc h
 obtain ⟨p, e, _, hq⟩ := am4 (za ws t) (zb ws t)
 have hk := K113 hE (a := za ws t) (b := zb ws t) (by omega) (by omega)
 rw [hq] at hk
 have e1 : p = phN ws t := e.symm
 subst e1
 have e2 : decide (cn (gv (za ws t) (zb ws t)) (phN ws t) 4 ≤ 1) = !dbN ws t := by
  unfold dbN
  by_cases g : cn (gv (za ws t) (zb ws t)) (phN ws t) 4 ≤ 1
  ·rw [decide_eq_true g, decide_eq_false (by omega)]; rfl
  ·rw [decide_eq_false g, decide_eq_true (by omega)]; rfl
 rw [← e2]
 exact hk
theorem K99w (hE : EnvOk E) {ws : List Nat} (hc : ∀ b ∈ ws, chkW 1024 b = 0) (i : Nat) (h : 4 * i + 4 ≤ ws.length) : COut E 0 [] 99 [wiA ws i] (.e (.agg (trA (ww ws (4 * i)) (ww ws (4 * i + 1)) (ww ws (4 * i + 2)) (ww ws (4 * i + 3))))) [] :=
 K99 hE (bnd hc (by omega)) (bnd hc (by omega)) (bnd hc (by omega)) (bnd hc (by omega))
theorem R44n0 (hE : EnvOk E) (z : Nat → Value) (ws : List Nat) (hc : ∀ b ∈ ws, chkW 1024 b = 0) (h : 4 ≤ ws.length) : RoundK E 0 [some ⟨[.v (.slice none 0 0)], 1, 25, true, .cells⟩, some ⟨[.v (.slice none 0 0)], 1, 25, true, .cells⟩, some ⟨[.v (.int .i64 0), .v (.int .i64 0)], 2, 160, true, .cells⟩, some ⟨[.dp (.s (fDT ws) ws.length 1)], 1, 42, true, .cells⟩, some markEnt, lpV (T44 z) #[27, 28] asg44 bod44] 5 [iI (Int.ofNat 0), wiA ws 0] (iB true) [some ⟨[.v (.slice none 0 0)], 1, 25, true, .cells⟩, some ⟨[.v (.slice none 0 0)], 1, 25, true, .cells⟩, some ⟨[.v (.int .i64 (er ws 0)), .v (.int .i64 (ei ws 0))], 2, 160, true, .cells⟩, some ⟨[.dp (.s (fDT ws) ws.length 1)], 1, 42, true, .cells⟩, some markEnt, lpV (T44 z) #[27, 28] asg44 bod44] := by
 refine roundK_of (a := loopEnt .ready none (T44 z) #[27, 28] asg44 bod44) rfl rfl (by kernel_rfl) ?_
 have e : (⟨[some ⟨[.v (.slice none 0 0)], 1, 25, true, .cells⟩, some ⟨[.v (.slice none 0 0)], 1, 25, true, .cells⟩, some ⟨[.v (.int .i64 0), .v (.int .i64 0)], 2, 160, true, .cells⟩, some ⟨[.dp (.s (fDT ws) ws.length 1)], 1, 42, true, .cells⟩, some markEnt, lpV (T44 z) #[27, 28] asg44 bod44], [.code asg44, .beginRound, .code bod44], setParams (#[27, 28] : Array Tmp).toList [iI (Int.ofNat 0), wiA ws 0] (T44 z)⟩ : St) = sR44n z (fDT ws) ws.length 0 0 0 0 0 0 0 0 (ww ws (4 * 0)) (ww ws (4 * 0 + 1)) (ww ws (4 * 0 + 2)) (ww ws (4 * 0 + 3)) ((ww ws (4 * 0)) + (ww ws (4 * 0 + 1)) + (ww ws (4 * 0 + 2)) + (ww ws (4 * 0 + 3))) 0 ((ww ws (4 * 0)) + (-(ww ws (4 * 0 + 2)))) ((-(ww ws (4 * 0 + 1))) + (ww ws (4 * 0 + 3))) ((ww ws (4 * 0)) + (-(ww ws (4 * 0 + 1))) + (ww ws (4 * 0 + 2)) + (-(ww ws (4 * 0 + 3)))) 0 ((ww ws (4 * 0)) + (-(ww ws (4 * 0 + 2)))) ((ww ws (4 * 0 + 1)) + (-(ww ws (4 * 0 + 3)))) 0 0 0 0 0 0 false [] [] [] [] (fun _ => undef) := by kernel_rfl
 rw [e]
 refine pR44n hE z (fDT ws) ws.length 0 0 0 0 0 0 0 0 (ww ws (4 * 0)) (ww ws (4 * 0 + 1)) (ww ws (4 * 0 + 2)) (ww ws (4 * 0 + 3)) ((ww ws (4 * 0)) + (ww ws (4 * 0 + 1)) + (ww ws (4 * 0 + 2)) + (ww ws (4 * 0 + 3))) 0 ((ww ws (4 * 0)) + (-(ww ws (4 * 0 + 2)))) ((-(ww ws (4 * 0 + 1))) + (ww ws (4 * 0 + 3))) ((ww ws (4 * 0)) + (-(ww ws (4 * 0 + 1))) + (ww ws (4 * 0 + 2)) + (-(ww ws (4 * 0 + 3)))) 0 ((ww ws (4 * 0)) + (-(ww ws (4 * 0 + 2)))) ((ww ws (4 * 0 + 1)) + (-(ww ws (4 * 0 + 3)))) 0 0 0 0 0 0 false [] [] [] [] (fun j => ?_) _
 refine outK_begin (a := loopEnt .ready none (T44 z) #[27, 28] asg44 bod44) rfl rfl rfl ?_
 exact pB440 hE z (fDT ws) ws.length 0 0 0 0 0 0 0 0 (ww ws (4 * 0)) (ww ws (4 * 0 + 1)) (ww ws (4 * 0 + 2)) (ww ws (4 * 0 + 3)) ((ww ws (4 * 0)) + (ww ws (4 * 0 + 1)) + (ww ws (4 * 0 + 2)) + (ww ws (4 * 0 + 3))) 0 ((ww ws (4 * 0)) + (-(ww ws (4 * 0 + 2)))) ((-(ww ws (4 * 0 + 1))) + (ww ws (4 * 0 + 3))) ((ww ws (4 * 0)) + (-(ww ws (4 * 0 + 1))) + (ww ws (4 * 0 + 2)) + (-(ww ws (4 * 0 + 3)))) 0 ((ww ws (4 * 0)) + (-(ww ws (4 * 0 + 2)))) ((ww ws (4 * 0 + 1)) + (-(ww ws (4 * 0 + 3)))) 0 0 0 0 0 0 false [] [] [] [] (K99w hE hc 0 (by omega)) (by decide) (fun j => outK_fell ⟨rfl, _, _, _, _, _, _, _, rfl, rfl, rfl, by kernel_rfl⟩) j
theorem R44nf (hE : EnvOk E) (z : Nat → Value) (ws : List Nat) (hc : ∀ b ∈ ws, chkW 1024 b = 0) (t : Nat) (h : 4 * (t + 1) + 4 ≤ ws.length) (ht : t ≤ 2000) (hd : dbN ws t = false) : RoundK E 0 [some ⟨[.v (.slice none 0 0)], 1, 25, true, .cells⟩, some ⟨[.v (.slice none 0 0)], 1, 25, true, .cells⟩, some ⟨[.v (.int .i64 (er ws t)), .v (.int .i64 (ei ws t))], 2, 160, true, .cells⟩, some ⟨[.dp (.s (fDT ws) ws.length 1)], 1, 42, true, .cells⟩, some markEnt, lpV (T44 z) #[27, 28] asg44 bod44] 5 [iI (Int.ofNat (t + 1)), wiA ws (t + 1)] (iB true) [some ⟨[.slc 6 0 1 1 1 false], 1, 25, true, .cells⟩, some ⟨[.v (.slice none 0 0)], 1, 25, true, .cells⟩, some ⟨[.v (.int .i64 (er ws (t + 1))), .v (.int .i64 (ei ws (t + 1)))], 2, 160, true, .cells⟩, some ⟨[.dp (.s (fDT ws) ws.length 1)], 1, 42, true, .cells⟩, some markEnt, lpV (T44 z) #[27, 28] asg44 bod44, some ⟨[.v (.int .i64 (Int.ofNat (phN ws t)))], 1, 3, false, .cells⟩] := by
 obtain ⟨a1, b1⟩ := er_bnd hc h
 obtain ⟨a0, b0⟩ := er_bnd (i := t) hc (by omega)
 have kq : COut E 0 [] 105 [gA (er ws (t + 1)) (ei ws (t + 1)), gA (er ws t) (-ei ws t)] (gA (za ws t) (zb ws t)) [] := K105 hE (by unfold Sm; omega) (by unfold Sm; omega) (by unfold Sm; omega) (by unfold Sm; omega) rfl rfl
 have kz := K113z hE hc t h
 rw [hd] at kz
 refine roundK_of (a := loopEnt .ready none (T44 z) #[27, 28] asg44 bod44) rfl rfl (by kernel_rfl) ?_
 have e : (⟨[some ⟨[.v (.slice none 0 0)], 1, 25, true, .cells⟩, some ⟨[.v (.slice none 0 0)], 1, 25, true, .cells⟩, some ⟨[.v (.int .i64 (er ws t)), .v (.int .i64 (ei ws t))], 2, 160, true, .cells⟩, some ⟨[.dp (.s (fDT ws) ws.length 1)], 1, 42, true, .cells⟩, some markEnt, lpV (T44 z) #[27, 28] asg44 bod44], [.code asg44, .beginRound, .code bod44], setParams (#[27, 28] : Array Tmp).toList [iI (Int.ofNat (t + 1)), wiA ws (t + 1)] (T44 z)⟩ : St) = sR44n z (fDT ws) ws.length (t + 1) t 0 0 0 0 0 0 (ww ws (4 * (t + 1))) (ww ws (4 * (t + 1) + 1)) (ww ws (4 * (t + 1) + 2)) (ww ws (4 * (t + 1) + 3)) ((ww ws (4 * (t + 1))) + (ww ws (4 * (t + 1) + 1)) + (ww ws (4 * (t + 1) + 2)) + (ww ws (4 * (t + 1) + 3))) 0 ((ww ws (4 * (t + 1))) + (-(ww ws (4 * (t + 1) + 2)))) ((-(ww ws (4 * (t + 1) + 1))) + (ww ws (4 * (t + 1) + 3))) ((ww ws (4 * (t + 1))) + (-(ww ws (4 * (t + 1) + 1))) + (ww ws (4 * (t + 1) + 2)) + (-(ww ws (4 * (t + 1) + 3)))) 0 ((ww ws (4 * (t + 1))) + (-(ww ws (4 * (t + 1) + 2)))) ((ww ws (4 * (t + 1) + 1)) + (-(ww ws (4 * (t + 1) + 3)))) (er ws t) (ei ws t) 0 0 0 0 false [] [] [] [] (fun _ => undef) := by kernel_rfl
 rw [e]
 refine pR44n hE z (fDT ws) ws.length (t + 1) t 0 0 0 0 0 0 (ww ws (4 * (t + 1))) (ww ws (4 * (t + 1) + 1)) (ww ws (4 * (t + 1) + 2)) (ww ws (4 * (t + 1) + 3)) ((ww ws (4 * (t + 1))) + (ww ws (4 * (t + 1) + 1)) + (ww ws (4 * (t + 1) + 2)) + (ww ws (4 * (t + 1) + 3))) 0 ((ww ws (4 * (t + 1))) + (-(ww ws (4 * (t + 1) + 2)))) ((-(ww ws (4 * (t + 1) + 1))) + (ww ws (4 * (t + 1) + 3))) ((ww ws (4 * (t + 1))) + (-(ww ws (4 * (t + 1) + 1))) + (ww ws (4 * (t + 1) + 2)) + (-(ww ws (4 * (t + 1) + 3)))) 0 ((ww ws (4 * (t + 1))) + (-(ww ws (4 * (t + 1) + 2)))) ((ww ws (4 * (t + 1) + 1)) + (-(ww ws (4 * (t + 1) + 3)))) (er ws t) (ei ws t) 0 0 0 0 false [] [] [] [] (fun j => ?_) _
 refine outK_begin (a := loopEnt .ready none (T44 z) #[27, 28] asg44 bod44) rfl rfl rfl ?_
 exact pB44nf hE z (fDT ws) ws.length (t + 1) t 0 0 0 0 0 0 (ww ws (4 * (t + 1))) (ww ws (4 * (t + 1) + 1)) (ww ws (4 * (t + 1) + 2)) (ww ws (4 * (t + 1) + 3)) ((ww ws (4 * (t + 1))) + (ww ws (4 * (t + 1) + 1)) + (ww ws (4 * (t + 1) + 2)) + (ww ws (4 * (t + 1) + 3))) 0 ((ww ws (4 * (t + 1))) + (-(ww ws (4 * (t + 1) + 2)))) ((-(ww ws (4 * (t + 1) + 1))) + (ww ws (4 * (t + 1) + 3))) ((ww ws (4 * (t + 1))) + (-(ww ws (4 * (t + 1) + 1))) + (ww ws (4 * (t + 1) + 2)) + (-(ww ws (4 * (t + 1) + 3)))) 0 ((ww ws (4 * (t + 1))) + (-(ww ws (4 * (t + 1) + 2)))) ((ww ws (4 * (t + 1) + 1)) + (-(ww ws (4 * (t + 1) + 3)))) (er ws t) (ei ws t) (-ei ws t) (za ws t) (zb ws t) (Int.ofNat (phN ws t)) true [] [] [] [] (K99w hE hc (t + 1) (by omega)) (decide_eq_true (by simp only [Int.ofNat_eq_natCast]; omega)) (K114 hE (by omega)) kq kz rfl (fun j => outK_fell ⟨rfl, _, _, _, _, _, _, _, rfl, rfl, rfl, by kernel_rfl⟩) j
theorem R44nt (hE : EnvOk E) (z : Nat → Value) (ws : List Nat) (hc : ∀ b ∈ ws, chkW 1024 b = 0) (t : Nat) (h : 4 * (t + 1) + 4 ≤ ws.length) (ht : t ≤ 2000) (hd : dbN ws t = true) : RoundK E 0 [some ⟨[.v (.slice none 0 0)], 1, 25, true, .cells⟩, some ⟨[.v (.slice none 0 0)], 1, 25, true, .cells⟩, some ⟨[.v (.int .i64 (er ws t)), .v (.int .i64 (ei ws t))], 2, 160, true, .cells⟩, some ⟨[.dp (.s (fDT ws) ws.length 1)], 1, 42, true, .cells⟩, some markEnt, lpV (T44 z) #[27, 28] asg44 bod44] 5 [iI (Int.ofNat (t + 1)), wiA ws (t + 1)] (iB true) [some ⟨[.slc 6 0 1 1 1 false], 1, 25, true, .cells⟩, some ⟨[.slc 7 0 1 1 1 false], 1, 25, true, .cells⟩, some ⟨[.v (.int .i64 (er ws (t + 1))), .v (.int .i64 (ei ws (t + 1)))], 2, 160, true, .cells⟩, some ⟨[.dp (.s (fDT ws) ws.length 1)], 1, 42, true, .cells⟩, some markEnt, lpV (T44 z) #[27, 28] asg44 bod44, some ⟨[.v (.int .i64 (Int.ofNat (phN ws t)))], 1, 3, false, .cells⟩, some ⟨[.v (.int .i64 (Int.ofNat t))], 1, 3, false, .cells⟩] := by
 obtain ⟨a1, b1⟩ := er_bnd hc h
 obtain ⟨a0, b0⟩ := er_bnd (i := t) hc (by omega)
 have kq : COut E 0 [] 105 [gA (er ws (t + 1)) (ei ws (t + 1)), gA (er ws t) (-ei ws t)] (gA (za ws t) (zb ws t)) [] := K105 hE (by unfold Sm; omega) (by unfold Sm; omega) (by unfold Sm; omega) (by unfold Sm; omega) rfl rfl
 have kz := K113z hE hc t h
 rw [hd] at kz
 refine roundK_of (a := loopEnt .ready none (T44 z) #[27, 28] asg44 bod44) rfl rfl (by kernel_rfl) ?_
 have e : (⟨[some ⟨[.v (.slice none 0 0)], 1, 25, true, .cells⟩, some ⟨[.v (.slice none 0 0)], 1, 25, true, .cells⟩, some ⟨[.v (.int .i64 (er ws t)), .v (.int .i64 (ei ws t))], 2, 160, true, .cells⟩, some ⟨[.dp (.s (fDT ws) ws.length 1)], 1, 42, true, .cells⟩, some markEnt, lpV (T44 z) #[27, 28] asg44 bod44], [.code asg44, .beginRound, .code bod44], setParams (#[27, 28] : Array Tmp).toList [iI (Int.ofNat (t + 1)), wiA ws (t + 1)] (T44 z)⟩ : St) = sR44n z (fDT ws) ws.length (t + 1) t 0 0 0 0 0 0 (ww ws (4 * (t + 1))) (ww ws (4 * (t + 1) + 1)) (ww ws (4 * (t + 1) + 2)) (ww ws (4 * (t + 1) + 3)) ((ww ws (4 * (t + 1))) + (ww ws (4 * (t + 1) + 1)) + (ww ws (4 * (t + 1) + 2)) + (ww ws (4 * (t + 1) + 3))) 0 ((ww ws (4 * (t + 1))) + (-(ww ws (4 * (t + 1) + 2)))) ((-(ww ws (4 * (t + 1) + 1))) + (ww ws (4 * (t + 1) + 3))) ((ww ws (4 * (t + 1))) + (-(ww ws (4 * (t + 1) + 1))) + (ww ws (4 * (t + 1) + 2)) + (-(ww ws (4 * (t + 1) + 3)))) 0 ((ww ws (4 * (t + 1))) + (-(ww ws (4 * (t + 1) + 2)))) ((ww ws (4 * (t + 1) + 1)) + (-(ww ws (4 * (t + 1) + 3)))) (er ws t) (ei ws t) 0 0 0 0 false [] [] [] [] (fun _ => undef) := by kernel_rfl
 rw [e]
 refine pR44n hE z (fDT ws) ws.length (t + 1) t 0 0 0 0 0 0 (ww ws (4 * (t + 1))) (ww ws (4 * (t + 1) + 1)) (ww ws (4 * (t + 1) + 2)) (ww ws (4 * (t + 1) + 3)) ((ww ws (4 * (t + 1))) + (ww ws (4 * (t + 1) + 1)) + (ww ws (4 * (t + 1) + 2)) + (ww ws (4 * (t + 1) + 3))) 0 ((ww ws (4 * (t + 1))) + (-(ww ws (4 * (t + 1) + 2)))) ((-(ww ws (4 * (t + 1) + 1))) + (ww ws (4 * (t + 1) + 3))) ((ww ws (4 * (t + 1))) + (-(ww ws (4 * (t + 1) + 1))) + (ww ws (4 * (t + 1) + 2)) + (-(ww ws (4 * (t + 1) + 3)))) 0 ((ww ws (4 * (t + 1))) + (-(ww ws (4 * (t + 1) + 2)))) ((ww ws (4 * (t + 1) + 1)) + (-(ww ws (4 * (t + 1) + 3)))) (er ws t) (ei ws t) 0 0 0 0 false [] [] [] [] (fun j => ?_) _
 refine outK_begin (a := loopEnt .ready none (T44 z) #[27, 28] asg44 bod44) rfl rfl rfl ?_
 exact pB44nt hE z (fDT ws) ws.length (t + 1) t 0 0 0 0 0 0 (ww ws (4 * (t + 1))) (ww ws (4 * (t + 1) + 1)) (ww ws (4 * (t + 1) + 2)) (ww ws (4 * (t + 1) + 3)) ((ww ws (4 * (t + 1))) + (ww ws (4 * (t + 1) + 1)) + (ww ws (4 * (t + 1) + 2)) + (ww ws (4 * (t + 1) + 3))) 0 ((ww ws (4 * (t + 1))) + (-(ww ws (4 * (t + 1) + 2)))) ((-(ww ws (4 * (t + 1) + 1))) + (ww ws (4 * (t + 1) + 3))) ((ww ws (4 * (t + 1))) + (-(ww ws (4 * (t + 1) + 1))) + (ww ws (4 * (t + 1) + 2)) + (-(ww ws (4 * (t + 1) + 3)))) 0 ((ww ws (4 * (t + 1))) + (-(ww ws (4 * (t + 1) + 2)))) ((ww ws (4 * (t + 1) + 1)) + (-(ww ws (4 * (t + 1) + 3)))) (er ws t) (ei ws t) (-ei ws t) (za ws t) (zb ws t) (Int.ofNat (phN ws t)) false [] [] [] [] (K99w hE hc (t + 1) (by omega)) (decide_eq_true (by simp only [Int.ofNat_eq_natCast]; omega)) (K114 hE (by omega)) kq kz rfl (iIe (by rw [wrap_id (by simp only [Int.ofNat_eq_natCast]; omega) (by simp only [Int.ofNat_eq_natCast]; omega)]; simp only [Int.ofNat_eq_natCast]; omega)) (fun j => outK_fell ⟨rfl, _, _, _, _, _, _, _, rfl, rfl, rfl, by kernel_rfl⟩) j
theorem R44if (hE : EnvOk E) (z : Nat → Value) (ws : List Nat) (hc : ∀ b ∈ ws, chkW 1024 b = 0) (t : Nat) (h : 4 * (t + 1) + 4 ≤ ws.length) (ht : t ≤ 2000) (m : Nat) (P : List Int) (hm : m ≤ 3000) (hd : dbN ws t = false) : RoundK E 0 [some ⟨[.slc 6 0 m 1 m false], 1, 25, true, .cells⟩, some ⟨[.v (.slice none 0 0)], 1, 25, true, .cells⟩, some ⟨[.v (.int .i64 (er ws t)), .v (.int .i64 (ei ws t))], 2, 160, true, .cells⟩, some ⟨[.dp (.s (fDT ws) ws.length 1)], 1, 42, true, .cells⟩, some markEnt, lpV (T44 z) #[27, 28] asg44 bod44, some ⟨iC P, m, 3, false, .cells⟩] 5 [iI (Int.ofNat (t + 1)), wiA ws (t + 1)] (iB true) [some ⟨[.slc 7 0 (m + 1) 1 (m + 1) false], 1, 25, true, .cells⟩, some ⟨[.v (.slice none 0 0)], 1, 25, true, .cells⟩, some ⟨[.v (.int .i64 (er ws (t + 1))), .v (.int .i64 (ei ws (t + 1)))], 2, 160, true, .cells⟩, some ⟨[.dp (.s (fDT ws) ws.length 1)], 1, 42, true, .cells⟩, some markEnt, lpV (T44 z) #[27, 28] asg44 bod44, none, some ⟨iC (P ++ [Int.ofNat (phN ws t)]), m + 1, 3, false, .cells⟩] := by
 obtain ⟨a1, b1⟩ := er_bnd hc h
 obtain ⟨a0, b0⟩ := er_bnd (i := t) hc (by omega)
 have kq : COut E 0 [] 105 [gA (er ws (t + 1)) (ei ws (t + 1)), gA (er ws t) (-ei ws t)] (gA (za ws t) (zb ws t)) [] := K105 hE (by unfold Sm; omega) (by unfold Sm; omega) (by unfold Sm; omega) (by unfold Sm; omega) rfl rfl
 have kz := K113z hE hc t h
 rw [hd] at kz
 refine roundK_of (a := loopEnt .ready none (T44 z) #[27, 28] asg44 bod44) rfl rfl (by kernel_rfl) ?_
 have e : (⟨[some ⟨[.slc 6 0 m 1 m false], 1, 25, true, .cells⟩, some ⟨[.v (.slice none 0 0)], 1, 25, true, .cells⟩, some ⟨[.v (.int .i64 (er ws t)), .v (.int .i64 (ei ws t))], 2, 160, true, .cells⟩, some ⟨[.dp (.s (fDT ws) ws.length 1)], 1, 42, true, .cells⟩, some markEnt, lpV (T44 z) #[27, 28] asg44 bod44, some ⟨iC P, m, 3, false, .cells⟩], [.code asg44, .beginRound, .code bod44], setParams (#[27, 28] : Array Tmp).toList [iI (Int.ofNat (t + 1)), wiA ws (t + 1)] (T44 z)⟩ : St) = sR44i z (fDT ws) ws.length (t + 1) t m m 0 0 0 0 (ww ws (4 * (t + 1))) (ww ws (4 * (t + 1) + 1)) (ww ws (4 * (t + 1) + 2)) (ww ws (4 * (t + 1) + 3)) ((ww ws (4 * (t + 1))) + (ww ws (4 * (t + 1) + 1)) + (ww ws (4 * (t + 1) + 2)) + (ww ws (4 * (t + 1) + 3))) 0 ((ww ws (4 * (t + 1))) + (-(ww ws (4 * (t + 1) + 2)))) ((-(ww ws (4 * (t + 1) + 1))) + (ww ws (4 * (t + 1) + 3))) ((ww ws (4 * (t + 1))) + (-(ww ws (4 * (t + 1) + 1))) + (ww ws (4 * (t + 1) + 2)) + (-(ww ws (4 * (t + 1) + 3)))) 0 ((ww ws (4 * (t + 1))) + (-(ww ws (4 * (t + 1) + 2)))) ((ww ws (4 * (t + 1) + 1)) + (-(ww ws (4 * (t + 1) + 3)))) (er ws t) (ei ws t) 0 0 0 0 false (iC P) [] [] [] (fun _ => undef) := by kernel_rfl
 rw [e]
 refine pR44i hE z (fDT ws) ws.length (t + 1) t m m 0 0 0 0 (ww ws (4 * (t + 1))) (ww ws (4 * (t + 1) + 1)) (ww ws (4 * (t + 1) + 2)) (ww ws (4 * (t + 1) + 3)) ((ww ws (4 * (t + 1))) + (ww ws (4 * (t + 1) + 1)) + (ww ws (4 * (t + 1) + 2)) + (ww ws (4 * (t + 1) + 3))) 0 ((ww ws (4 * (t + 1))) + (-(ww ws (4 * (t + 1) + 2)))) ((-(ww ws (4 * (t + 1) + 1))) + (ww ws (4 * (t + 1) + 3))) ((ww ws (4 * (t + 1))) + (-(ww ws (4 * (t + 1) + 1))) + (ww ws (4 * (t + 1) + 2)) + (-(ww ws (4 * (t + 1) + 3)))) 0 ((ww ws (4 * (t + 1))) + (-(ww ws (4 * (t + 1) + 2)))) ((ww ws (4 * (t + 1) + 1)) + (-(ww ws (4 * (t + 1) + 3)))) (er ws t) (ei ws t) 0 0 0 0 false (iC P) [] [] [] (fun j => ?_) _
 refine outK_begin (a := loopEnt .ready none (T44 z) #[27, 28] asg44 bod44) rfl rfl rfl ?_
 exact pB44if hE z (fDT ws) ws.length (t + 1) t m m (m + 1) 0 0 0 (ww ws (4 * (t + 1))) (ww ws (4 * (t + 1) + 1)) (ww ws (4 * (t + 1) + 2)) (ww ws (4 * (t + 1) + 3)) ((ww ws (4 * (t + 1))) + (ww ws (4 * (t + 1) + 1)) + (ww ws (4 * (t + 1) + 2)) + (ww ws (4 * (t + 1) + 3))) 0 ((ww ws (4 * (t + 1))) + (-(ww ws (4 * (t + 1) + 2)))) ((-(ww ws (4 * (t + 1) + 1))) + (ww ws (4 * (t + 1) + 3))) ((ww ws (4 * (t + 1))) + (-(ww ws (4 * (t + 1) + 1))) + (ww ws (4 * (t + 1) + 2)) + (-(ww ws (4 * (t + 1) + 3)))) 0 ((ww ws (4 * (t + 1))) + (-(ww ws (4 * (t + 1) + 2)))) ((ww ws (4 * (t + 1) + 1)) + (-(ww ws (4 * (t + 1) + 3)))) (er ws t) (ei ws t) (-ei ws t) (za ws t) (zb ws t) (Int.ofNat (phN ws t)) true (iC P) (iC (P ++ [Int.ofNat (phN ws t)])) [] [] (K99w hE hc (t + 1) (by omega)) (decide_eq_true (by simp only [Int.ofNat_eq_natCast]; omega)) (K114 hE (by omega)) kq kz (by omega) (sm1 (by omega)) (Nat.mul_one _).symm (iC_app _ [_]) (Nat.mul_one _) rfl (flat_iC _) (fun j => outK_fell ⟨rfl, _, _, _, _, _, _, _, rfl, rfl, rfl, by kernel_rfl⟩) j
theorem R44it (hE : EnvOk E) (z : Nat → Value) (ws : List Nat) (hc : ∀ b ∈ ws, chkW 1024 b = 0) (t : Nat) (h : 4 * (t + 1) + 4 ≤ ws.length) (ht : t ≤ 2000) (m : Nat) (P : List Int) (hm : m ≤ 3000) (hd : dbN ws t = true) : RoundK E 0 [some ⟨[.slc 6 0 m 1 m false], 1, 25, true, .cells⟩, some ⟨[.v (.slice none 0 0)], 1, 25, true, .cells⟩, some ⟨[.v (.int .i64 (er ws t)), .v (.int .i64 (ei ws t))], 2, 160, true, .cells⟩, some ⟨[.dp (.s (fDT ws) ws.length 1)], 1, 42, true, .cells⟩, some markEnt, lpV (T44 z) #[27, 28] asg44 bod44, some ⟨iC P, m, 3, false, .cells⟩] 5 [iI (Int.ofNat (t + 1)), wiA ws (t + 1)] (iB true) [some ⟨[.slc 7 0 (m + 1) 1 (m + 1) false], 1, 25, true, .cells⟩, some ⟨[.slc 8 0 1 1 1 false], 1, 25, true, .cells⟩, some ⟨[.v (.int .i64 (er ws (t + 1))), .v (.int .i64 (ei ws (t + 1)))], 2, 160, true, .cells⟩, some ⟨[.dp (.s (fDT ws) ws.length 1)], 1, 42, true, .cells⟩, some markEnt, lpV (T44 z) #[27, 28] asg44 bod44, none, some ⟨iC (P ++ [Int.ofNat (phN ws t)]), m + 1, 3, false, .cells⟩, some ⟨[.v (.int .i64 (Int.ofNat t))], 1, 3, false, .cells⟩] := by
 obtain ⟨a1, b1⟩ := er_bnd hc h
 obtain ⟨a0, b0⟩ := er_bnd (i := t) hc (by omega)
 have kq : COut E 0 [] 105 [gA (er ws (t + 1)) (ei ws (t + 1)), gA (er ws t) (-ei ws t)] (gA (za ws t) (zb ws t)) [] := K105 hE (by unfold Sm; omega) (by unfold Sm; omega) (by unfold Sm; omega) (by unfold Sm; omega) rfl rfl
 have kz := K113z hE hc t h
 rw [hd] at kz
 refine roundK_of (a := loopEnt .ready none (T44 z) #[27, 28] asg44 bod44) rfl rfl (by kernel_rfl) ?_
 have e : (⟨[some ⟨[.slc 6 0 m 1 m false], 1, 25, true, .cells⟩, some ⟨[.v (.slice none 0 0)], 1, 25, true, .cells⟩, some ⟨[.v (.int .i64 (er ws t)), .v (.int .i64 (ei ws t))], 2, 160, true, .cells⟩, some ⟨[.dp (.s (fDT ws) ws.length 1)], 1, 42, true, .cells⟩, some markEnt, lpV (T44 z) #[27, 28] asg44 bod44, some ⟨iC P, m, 3, false, .cells⟩], [.code asg44, .beginRound, .code bod44], setParams (#[27, 28] : Array Tmp).toList [iI (Int.ofNat (t + 1)), wiA ws (t + 1)] (T44 z)⟩ : St) = sR44i z (fDT ws) ws.length (t + 1) t m m 0 0 0 0 (ww ws (4 * (t + 1))) (ww ws (4 * (t + 1) + 1)) (ww ws (4 * (t + 1) + 2)) (ww ws (4 * (t + 1) + 3)) ((ww ws (4 * (t + 1))) + (ww ws (4 * (t + 1) + 1)) + (ww ws (4 * (t + 1) + 2)) + (ww ws (4 * (t + 1) + 3))) 0 ((ww ws (4 * (t + 1))) + (-(ww ws (4 * (t + 1) + 2)))) ((-(ww ws (4 * (t + 1) + 1))) + (ww ws (4 * (t + 1) + 3))) ((ww ws (4 * (t + 1))) + (-(ww ws (4 * (t + 1) + 1))) + (ww ws (4 * (t + 1) + 2)) + (-(ww ws (4 * (t + 1) + 3)))) 0 ((ww ws (4 * (t + 1))) + (-(ww ws (4 * (t + 1) + 2)))) ((ww ws (4 * (t + 1) + 1)) + (-(ww ws (4 * (t + 1) + 3)))) (er ws t) (ei ws t) 0 0 0 0 false (iC P) [] [] [] (fun _ => undef) := by kernel_rfl
 rw [e]
 refine pR44i hE z (fDT ws) ws.length (t + 1) t m m 0 0 0 0 (ww ws (4 * (t + 1))) (ww ws (4 * (t + 1) + 1)) (ww ws (4 * (t + 1) + 2)) (ww ws (4 * (t + 1) + 3)) ((ww ws (4 * (t + 1))) + (ww ws (4 * (t + 1) + 1)) + (ww ws (4 * (t + 1) + 2)) + (ww ws (4 * (t + 1) + 3))) 0 ((ww ws (4 * (t + 1))) + (-(ww ws (4 * (t + 1) + 2)))) ((-(ww ws (4 * (t + 1) + 1))) + (ww ws (4 * (t + 1) + 3))) ((ww ws (4 * (t + 1))) + (-(ww ws (4 * (t + 1) + 1))) + (ww ws (4 * (t + 1) + 2)) + (-(ww ws (4 * (t + 1) + 3)))) 0 ((ww ws (4 * (t + 1))) + (-(ww ws (4 * (t + 1) + 2)))) ((ww ws (4 * (t + 1) + 1)) + (-(ww ws (4 * (t + 1) + 3)))) (er ws t) (ei ws t) 0 0 0 0 false (iC P) [] [] [] (fun j => ?_) _
 refine outK_begin (a := loopEnt .ready none (T44 z) #[27, 28] asg44 bod44) rfl rfl rfl ?_
 exact pB44it hE z (fDT ws) ws.length (t + 1) t m m (m + 1) 0 0 0 (ww ws (4 * (t + 1))) (ww ws (4 * (t + 1) + 1)) (ww ws (4 * (t + 1) + 2)) (ww ws (4 * (t + 1) + 3)) ((ww ws (4 * (t + 1))) + (ww ws (4 * (t + 1) + 1)) + (ww ws (4 * (t + 1) + 2)) + (ww ws (4 * (t + 1) + 3))) 0 ((ww ws (4 * (t + 1))) + (-(ww ws (4 * (t + 1) + 2)))) ((-(ww ws (4 * (t + 1) + 1))) + (ww ws (4 * (t + 1) + 3))) ((ww ws (4 * (t + 1))) + (-(ww ws (4 * (t + 1) + 1))) + (ww ws (4 * (t + 1) + 2)) + (-(ww ws (4 * (t + 1) + 3)))) 0 ((ww ws (4 * (t + 1))) + (-(ww ws (4 * (t + 1) + 2)))) ((ww ws (4 * (t + 1) + 1)) + (-(ww ws (4 * (t + 1) + 3)))) (er ws t) (ei ws t) (-ei ws t) (za ws t) (zb ws t) (Int.ofNat (phN ws t)) false (iC P) (iC (P ++ [Int.ofNat (phN ws t)])) [] [] (K99w hE hc (t + 1) (by omega)) (decide_eq_true (by simp only [Int.ofNat_eq_natCast]; omega)) (K114 hE (by omega)) kq kz (by omega) (sm1 (by omega)) (Nat.mul_one _).symm (iC_app _ [_]) (Nat.mul_one _) rfl (iIe (by rw [wrap_id (by simp only [Int.ofNat_eq_natCast]; omega) (by simp only [Int.ofNat_eq_natCast]; omega)]; simp only [Int.ofNat_eq_natCast]; omega)) (flat_iC _) (fun j => outK_fell ⟨rfl, _, _, _, _, _, _, _, rfl, rfl, rfl, by kernel_rfl⟩) j
theorem R44df (hE : EnvOk E) (z : Nat → Value) (ws : List Nat) (hc : ∀ b ∈ ws, chkW 1024 b = 0) (t : Nat) (h : 4 * (t + 1) + 4 ≤ ws.length) (ht : t ≤ 2000) (m : Nat) (P : List Int) (hm : m ≤ 3000) (m7 : Nat) (Q : List Int) (_hm7 : m7 ≤ 3000) (hd : dbN ws t = false) : RoundK E 0 [some ⟨[.slc 6 0 m 1 m false], 1, 25, true, .cells⟩, some ⟨[.slc 7 0 m7 1 m7 false], 1, 25, true, .cells⟩, some ⟨[.v (.int .i64 (er ws t)), .v (.int .i64 (ei ws t))], 2, 160, true, .cells⟩, some ⟨[.dp (.s (fDT ws) ws.length 1)], 1, 42, true, .cells⟩, some markEnt, lpV (T44 z) #[27, 28] asg44 bod44, some ⟨iC P, m, 3, false, .cells⟩, some ⟨iC Q, m7, 3, false, .cells⟩] 5 [iI (Int.ofNat (t + 1)), wiA ws (t + 1)] (iB true) [some ⟨[.slc 8 0 (m + 1) 1 (m + 1) false], 1, 25, true, .cells⟩, some ⟨[.slc 7 0 m7 1 m7 false], 1, 25, true, .cells⟩, some ⟨[.v (.int .i64 (er ws (t + 1))), .v (.int .i64 (ei ws (t + 1)))], 2, 160, true, .cells⟩, some ⟨[.dp (.s (fDT ws) ws.length 1)], 1, 42, true, .cells⟩, some markEnt, lpV (T44 z) #[27, 28] asg44 bod44, none, some ⟨iC Q, m7, 3, false, .cells⟩, some ⟨iC (P ++ [Int.ofNat (phN ws t)]), m + 1, 3, false, .cells⟩] := by
 obtain ⟨a1, b1⟩ := er_bnd hc h
 obtain ⟨a0, b0⟩ := er_bnd (i := t) hc (by omega)
 have kq : COut E 0 [] 105 [gA (er ws (t + 1)) (ei ws (t + 1)), gA (er ws t) (-ei ws t)] (gA (za ws t) (zb ws t)) [] := K105 hE (by unfold Sm; omega) (by unfold Sm; omega) (by unfold Sm; omega) (by unfold Sm; omega) rfl rfl
 have kz := K113z hE hc t h
 rw [hd] at kz
 refine roundK_of (a := loopEnt .ready none (T44 z) #[27, 28] asg44 bod44) rfl rfl (by kernel_rfl) ?_
 have e : (⟨[some ⟨[.slc 6 0 m 1 m false], 1, 25, true, .cells⟩, some ⟨[.slc 7 0 m7 1 m7 false], 1, 25, true, .cells⟩, some ⟨[.v (.int .i64 (er ws t)), .v (.int .i64 (ei ws t))], 2, 160, true, .cells⟩, some ⟨[.dp (.s (fDT ws) ws.length 1)], 1, 42, true, .cells⟩, some markEnt, lpV (T44 z) #[27, 28] asg44 bod44, some ⟨iC P, m, 3, false, .cells⟩, some ⟨iC Q, m7, 3, false, .cells⟩], [.code asg44, .beginRound, .code bod44], setParams (#[27, 28] : Array Tmp).toList [iI (Int.ofNat (t + 1)), wiA ws (t + 1)] (T44 z)⟩ : St) = sR44d z (fDT ws) ws.length (t + 1) t m m 0 m7 m7 0 (ww ws (4 * (t + 1))) (ww ws (4 * (t + 1) + 1)) (ww ws (4 * (t + 1) + 2)) (ww ws (4 * (t + 1) + 3)) ((ww ws (4 * (t + 1))) + (ww ws (4 * (t + 1) + 1)) + (ww ws (4 * (t + 1) + 2)) + (ww ws (4 * (t + 1) + 3))) 0 ((ww ws (4 * (t + 1))) + (-(ww ws (4 * (t + 1) + 2)))) ((-(ww ws (4 * (t + 1) + 1))) + (ww ws (4 * (t + 1) + 3))) ((ww ws (4 * (t + 1))) + (-(ww ws (4 * (t + 1) + 1))) + (ww ws (4 * (t + 1) + 2)) + (-(ww ws (4 * (t + 1) + 3)))) 0 ((ww ws (4 * (t + 1))) + (-(ww ws (4 * (t + 1) + 2)))) ((ww ws (4 * (t + 1) + 1)) + (-(ww ws (4 * (t + 1) + 3)))) (er ws t) (ei ws t) 0 0 0 0 false (iC P) [] (iC Q) [] (fun _ => undef) := by kernel_rfl
 rw [e]
 refine pR44d hE z (fDT ws) ws.length (t + 1) t m m 0 m7 m7 0 (ww ws (4 * (t + 1))) (ww ws (4 * (t + 1) + 1)) (ww ws (4 * (t + 1) + 2)) (ww ws (4 * (t + 1) + 3)) ((ww ws (4 * (t + 1))) + (ww ws (4 * (t + 1) + 1)) + (ww ws (4 * (t + 1) + 2)) + (ww ws (4 * (t + 1) + 3))) 0 ((ww ws (4 * (t + 1))) + (-(ww ws (4 * (t + 1) + 2)))) ((-(ww ws (4 * (t + 1) + 1))) + (ww ws (4 * (t + 1) + 3))) ((ww ws (4 * (t + 1))) + (-(ww ws (4 * (t + 1) + 1))) + (ww ws (4 * (t + 1) + 2)) + (-(ww ws (4 * (t + 1) + 3)))) 0 ((ww ws (4 * (t + 1))) + (-(ww ws (4 * (t + 1) + 2)))) ((ww ws (4 * (t + 1) + 1)) + (-(ww ws (4 * (t + 1) + 3)))) (er ws t) (ei ws t) 0 0 0 0 false (iC P) [] (iC Q) [] (fun j => ?_) _
 refine outK_begin (a := loopEnt .ready none (T44 z) #[27, 28] asg44 bod44) rfl rfl rfl ?_
 exact pB44df hE z (fDT ws) ws.length (t + 1) t m m (m + 1) m7 m7 0 (ww ws (4 * (t + 1))) (ww ws (4 * (t + 1) + 1)) (ww ws (4 * (t + 1) + 2)) (ww ws (4 * (t + 1) + 3)) ((ww ws (4 * (t + 1))) + (ww ws (4 * (t + 1) + 1)) + (ww ws (4 * (t + 1) + 2)) + (ww ws (4 * (t + 1) + 3))) 0 ((ww ws (4 * (t + 1))) + (-(ww ws (4 * (t + 1) + 2)))) ((-(ww ws (4 * (t + 1) + 1))) + (ww ws (4 * (t + 1) + 3))) ((ww ws (4 * (t + 1))) + (-(ww ws (4 * (t + 1) + 1))) + (ww ws (4 * (t + 1) + 2)) + (-(ww ws (4 * (t + 1) + 3)))) 0 ((ww ws (4 * (t + 1))) + (-(ww ws (4 * (t + 1) + 2)))) ((ww ws (4 * (t + 1) + 1)) + (-(ww ws (4 * (t + 1) + 3)))) (er ws t) (ei ws t) (-ei ws t) (za ws t) (zb ws t) (Int.ofNat (phN ws t)) true (iC P) (iC (P ++ [Int.ofNat (phN ws t)])) (iC Q) [] (K99w hE hc (t + 1) (by omega)) (decide_eq_true (by simp only [Int.ofNat_eq_natCast]; omega)) (K114 hE (by omega)) kq kz (by omega) (sm1 (by omega)) (Nat.mul_one _).symm (iC_app _ [_]) (Nat.mul_one _) rfl (flat_iC _) (flat_iC _) (fun j => outK_fell ⟨rfl, _, _, _, _, _, _, _, rfl, rfl, rfl, by kernel_rfl⟩) j
theorem R44dt (hE : EnvOk E) (z : Nat → Value) (ws : List Nat) (hc : ∀ b ∈ ws, chkW 1024 b = 0) (t : Nat) (h : 4 * (t + 1) + 4 ≤ ws.length) (ht : t ≤ 2000) (m : Nat) (P : List Int) (hm : m ≤ 3000) (m7 : Nat) (Q : List Int) (hm7 : m7 ≤ 3000) (hd : dbN ws t = true) : RoundK E 0 [some ⟨[.slc 6 0 m 1 m false], 1, 25, true, .cells⟩, some ⟨[.slc 7 0 m7 1 m7 false], 1, 25, true, .cells⟩, some ⟨[.v (.int .i64 (er ws t)), .v (.int .i64 (ei ws t))], 2, 160, true, .cells⟩, some ⟨[.dp (.s (fDT ws) ws.length 1)], 1, 42, true, .cells⟩, some markEnt, lpV (T44 z) #[27, 28] asg44 bod44, some ⟨iC P, m, 3, false, .cells⟩, some ⟨iC Q, m7, 3, false, .cells⟩] 5 [iI (Int.ofNat (t + 1)), wiA ws (t + 1)] (iB true) [some ⟨[.slc 8 0 (m + 1) 1 (m + 1) false], 1, 25, true, .cells⟩, some ⟨[.slc 9 0 (m7 + 1) 1 (m7 + 1) false], 1, 25, true, .cells⟩, some ⟨[.v (.int .i64 (er ws (t + 1))), .v (.int .i64 (ei ws (t + 1)))], 2, 160, true, .cells⟩, some ⟨[.dp (.s (fDT ws) ws.length 1)], 1, 42, true, .cells⟩, some markEnt, lpV (T44 z) #[27, 28] asg44 bod44, none, none, some ⟨iC (P ++ [Int.ofNat (phN ws t)]), m + 1, 3, false, .cells⟩, some ⟨iC (Q ++ [Int.ofNat t]), m7 + 1, 3, false, .cells⟩] := by
 obtain ⟨a1, b1⟩ := er_bnd hc h
 obtain ⟨a0, b0⟩ := er_bnd (i := t) hc (by omega)
 have kq : COut E 0 [] 105 [gA (er ws (t + 1)) (ei ws (t + 1)), gA (er ws t) (-ei ws t)] (gA (za ws t) (zb ws t)) [] := K105 hE (by unfold Sm; omega) (by unfold Sm; omega) (by unfold Sm; omega) (by unfold Sm; omega) rfl rfl
 have kz := K113z hE hc t h
 rw [hd] at kz
 refine roundK_of (a := loopEnt .ready none (T44 z) #[27, 28] asg44 bod44) rfl rfl (by kernel_rfl) ?_
 have e : (⟨[some ⟨[.slc 6 0 m 1 m false], 1, 25, true, .cells⟩, some ⟨[.slc 7 0 m7 1 m7 false], 1, 25, true, .cells⟩, some ⟨[.v (.int .i64 (er ws t)), .v (.int .i64 (ei ws t))], 2, 160, true, .cells⟩, some ⟨[.dp (.s (fDT ws) ws.length 1)], 1, 42, true, .cells⟩, some markEnt, lpV (T44 z) #[27, 28] asg44 bod44, some ⟨iC P, m, 3, false, .cells⟩, some ⟨iC Q, m7, 3, false, .cells⟩], [.code asg44, .beginRound, .code bod44], setParams (#[27, 28] : Array Tmp).toList [iI (Int.ofNat (t + 1)), wiA ws (t + 1)] (T44 z)⟩ : St) = sR44d z (fDT ws) ws.length (t + 1) t m m 0 m7 m7 0 (ww ws (4 * (t + 1))) (ww ws (4 * (t + 1) + 1)) (ww ws (4 * (t + 1) + 2)) (ww ws (4 * (t + 1) + 3)) ((ww ws (4 * (t + 1))) + (ww ws (4 * (t + 1) + 1)) + (ww ws (4 * (t + 1) + 2)) + (ww ws (4 * (t + 1) + 3))) 0 ((ww ws (4 * (t + 1))) + (-(ww ws (4 * (t + 1) + 2)))) ((-(ww ws (4 * (t + 1) + 1))) + (ww ws (4 * (t + 1) + 3))) ((ww ws (4 * (t + 1))) + (-(ww ws (4 * (t + 1) + 1))) + (ww ws (4 * (t + 1) + 2)) + (-(ww ws (4 * (t + 1) + 3)))) 0 ((ww ws (4 * (t + 1))) + (-(ww ws (4 * (t + 1) + 2)))) ((ww ws (4 * (t + 1) + 1)) + (-(ww ws (4 * (t + 1) + 3)))) (er ws t) (ei ws t) 0 0 0 0 false (iC P) [] (iC Q) [] (fun _ => undef) := by kernel_rfl
 rw [e]
 refine pR44d hE z (fDT ws) ws.length (t + 1) t m m 0 m7 m7 0 (ww ws (4 * (t + 1))) (ww ws (4 * (t + 1) + 1)) (ww ws (4 * (t + 1) + 2)) (ww ws (4 * (t + 1) + 3)) ((ww ws (4 * (t + 1))) + (ww ws (4 * (t + 1) + 1)) + (ww ws (4 * (t + 1) + 2)) + (ww ws (4 * (t + 1) + 3))) 0 ((ww ws (4 * (t + 1))) + (-(ww ws (4 * (t + 1) + 2)))) ((-(ww ws (4 * (t + 1) + 1))) + (ww ws (4 * (t + 1) + 3))) ((ww ws (4 * (t + 1))) + (-(ww ws (4 * (t + 1) + 1))) + (ww ws (4 * (t + 1) + 2)) + (-(ww ws (4 * (t + 1) + 3)))) 0 ((ww ws (4 * (t + 1))) + (-(ww ws (4 * (t + 1) + 2)))) ((ww ws (4 * (t + 1) + 1)) + (-(ww ws (4 * (t + 1) + 3)))) (er ws t) (ei ws t) 0 0 0 0 false (iC P) [] (iC Q) [] (fun j => ?_) _
 refine outK_begin (a := loopEnt .ready none (T44 z) #[27, 28] asg44 bod44) rfl rfl rfl ?_
 exact pB44dt hE z (fDT ws) ws.length (t + 1) t m m (m + 1) m7 m7 (m7 + 1) (ww ws (4 * (t + 1))) (ww ws (4 * (t + 1) + 1)) (ww ws (4 * (t + 1) + 2)) (ww ws (4 * (t + 1) + 3)) ((ww ws (4 * (t + 1))) + (ww ws (4 * (t + 1) + 1)) + (ww ws (4 * (t + 1) + 2)) + (ww ws (4 * (t + 1) + 3))) 0 ((ww ws (4 * (t + 1))) + (-(ww ws (4 * (t + 1) + 2)))) ((-(ww ws (4 * (t + 1) + 1))) + (ww ws (4 * (t + 1) + 3))) ((ww ws (4 * (t + 1))) + (-(ww ws (4 * (t + 1) + 1))) + (ww ws (4 * (t + 1) + 2)) + (-(ww ws (4 * (t + 1) + 3)))) 0 ((ww ws (4 * (t + 1))) + (-(ww ws (4 * (t + 1) + 2)))) ((ww ws (4 * (t + 1) + 1)) + (-(ww ws (4 * (t + 1) + 3)))) (er ws t) (ei ws t) (-ei ws t) (za ws t) (zb ws t) (Int.ofNat (phN ws t)) false (iC P) (iC (P ++ [Int.ofNat (phN ws t)])) (iC Q) (iC (Q ++ [Int.ofNat t])) (K99w hE hc (t + 1) (by omega)) (decide_eq_true (by simp only [Int.ofNat_eq_natCast]; omega)) (K114 hE (by omega)) kq kz (by omega) (sm1 (by omega)) (Nat.mul_one _).symm (iC_app _ [_]) (Nat.mul_one _) rfl (iIe (by rw [wrap_id (by simp only [Int.ofNat_eq_natCast]; omega) (by simp only [Int.ofNat_eq_natCast]; omega)]; simp only [Int.ofNat_eq_natCast]; omega)) (by omega) (sm1 (by omega)) (Nat.mul_one _).symm (iC_app _ [_]) (Nat.mul_one _) (flat_iC _) (flat_iC _) (fun j => outK_fell ⟨rfl, _, _, _, _, _, _, _, rfl, rfl, rfl, by kernel_rfl⟩) j
end
end Go.Proofs.YtbmcfhkedgpldaaGreatDoor
end
