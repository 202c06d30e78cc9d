/-
  Part of the proof: SeBd, SeBe, SeEqT, SeBg, SeEqU, SeTb, SySort, SeSo, SeTc, SyIns.
-/
import Derived.Test.YtpnkginbmoniiaaGreatDoorSeZH
import Derived.Shelf.Sort.Plain
import Derived.Sort.Grow
import Derived.Sort.Row

/-! SeBd -/
section
open Go Go.Ev
namespace Go.Proofs.YtpnkginbmoniiaaGreatDoor
noncomputable section
set_option maxRecDepth 100000
set_option maxHeartbeats 20000000
def s91 (_V : AccP) (_U : List DT) (_un : Nat) (_ac _a : Bool) (t m _e _f _g _h _z _w s0 s1 s2 s3 s4 s5 s6 s7 _x0 _x1 _x2 _x3 _x4 _x5 _x6 _x7 _y0 _y1 _y2 _y3 _y4 _y5 _y6 _y7 _q0 _q1 _q2 _q3 _q4 _q5 _q6 _q7 : Int) (_j : Nat → Value) : St := startK Tryz.f91 [] [(.e (.agg (zTk t m s0 s1 s2 s3 s4 s5 s6 s7)))]
def s26 (_V : AccP) (_U : List DT) (_un : Nat) (_ac _a : Bool) (t m _e _f _g _h _z _w s0 s1 s2 s3 s4 s5 s6 s7 _x0 _x1 _x2 _x3 _x4 _x5 _x6 _x7 _y0 _y1 _y2 _y3 _y4 _y5 _y6 _y7 _q0 _q1 _q2 _q3 _q4 _q5 _q6 _q7 : Int) (_j : Nat → Value) : St := startK Tryz.f26 [] [(.e (.agg (zTk t m s0 s1 s2 s3 s4 s5 s6 s7)))]
def s101 (_V : AccP) (_U : List DT) (_un : Nat) (_ac _a : Bool) (t m _e _f _g _h _z _w s0 s1 s2 s3 s4 s5 s6 s7 _x0 _x1 _x2 _x3 _x4 _x5 _x6 _x7 _y0 _y1 _y2 _y3 _y4 _y5 _y6 _y7 _q0 _q1 _q2 _q3 _q4 _q5 _q6 _q7 : Int) (_j : Nat → Value) : St := startK Tryz.f101 [] [(.e (.agg (zTk t m s0 s1 s2 s3 s4 s5 s6 s7)))]
def s97 (_V : AccP) (_U : List DT) (_un : Nat) (_ac _a : Bool) (_t m _e _f _g _h _z _w _s0 _s1 _s2 _s3 _s4 _s5 _s6 _s7 _x0 _x1 _x2 _x3 _x4 _x5 _x6 _x7 _y0 _y1 _y2 _y3 _y4 _y5 _y6 _y7 _q0 _q1 _q2 _q3 _q4 _q5 _q6 _q7 : Int) (_j : Nat → Value) : St := startK Tryz.f97 [] [iI m]
def p97_end (_V : AccP) (_U : List DT) (_un : Nat) (_ac _a : Bool) (_t _m e _f _g _h _z _w _s0 _s1 _s2 _s3 _s4 _s5 _s6 _s7 _x0 _x1 _x2 _x3 _x4 _x5 _x6 _x7 _y0 _y1 _y2 _y3 _y4 _y5 _y6 _y7 _q0 _q1 _q2 _q3 _q4 _q5 _q6 _q7 : Int) (j : Nat → Value) : St := ⟨[], [(.code .ret)], mkT j [(2, (iI (e)))] 5 0⟩
theorem p97 (hE : EnvOk E) (V : AccP) (U : List DT) (un : Nat) (ac a : Bool) (t m e f g h z w s0 s1 s2 s3 s4 s5 s6 s7 x0 x1 x2 x3 x4 x5 x6 x7 y0 y1 y2 y3 y4 y5 y6 y7 q0 q1 q2 q3 q4 q5 q6 q7 : Int) (h0 : COut E 0 [] 17 [(iI (m)), (iI 1), (iI 100000000)] (iI (e)) []) : Sg 0 0 (s97 V U un ac a t m e f g h z w s0 s1 s2 s3 s4 s5 s6 s7 x0 x1 x2 x3 x4 x5 x6 x7 y0 y1 y2 y3 y4 y5 y6 y7 q0 q1 q2 q3 q4 q5 q6 q7) (p97_end V U un ac a t m e f g h z w s0 s1 s2 s3 s4 s5 s6 s7 x0 x1 x2 x3 x4 x5 x6 x7 y0 y1 y2 y3 y4 y5 y6 y7 q0 q1 q2 q3 q4 q5 q6 q7) := fun ho j =>
 outK_seg hE (R0_ok hE) [.run 3, (.ops [(1, (.c0 (iI (e))))] [])] [2] (fun j => by kernel_rfl) (aP h0 <| aN <| aZ)
  ho
def p91_end (_V : AccP) (_U : List DT) (_un : Nat) (_ac _a : Bool) (_t _m e _f _g _h _z _w _s0 _s1 _s2 _s3 _s4 _s5 _s6 _s7 _x0 _x1 _x2 _x3 _x4 _x5 _x6 _x7 _y0 _y1 _y2 _y3 _y4 _y5 _y6 _y7 _q0 _q1 _q2 _q3 _q4 _q5 _q6 _q7 : Int) (j : Nat → Value) : St := ⟨[], [(.code .ret)], mkT j [(2, (iI (e)))] 11 0⟩
theorem p91 (hE : EnvOk E) (V : AccP) (U : List DT) (un : Nat) (ac a : Bool) (t m e f g h z w s0 s1 s2 s3 s4 s5 s6 s7 x0 x1 x2 x3 x4 x5 x6 x7 y0 y1 y2 y3 y4 y5 y6 y7 q0 q1 q2 q3 q4 q5 q6 q7 : Int) (h0 : COut E 0 [] 88 [(iI (t))] (iI (f)) []) (h3 : COut E 0 [] 77 [(iI (m)), (iI 1), (iI 100000000)] (iI (g)) []) (h5 : COut E 2 [(zBk (zTk t m s0 s1 s2 s3 s4 s5 s6 s7) 10 51), (zBk (zI2 f g) 2 30)] 76 [(.e (.one (.slc 1 0 2 1 2 true)))] (iI (e)) [(zBk (zTk t m s0 s1 s2 s3 s4 s5 s6 s7) 10 51), (zBk (zI2 f g) 2 30)]) : Sg 0 0 (s91 V U un ac a t m e f g h z w s0 s1 s2 s3 s4 s5 s6 s7 x0 x1 x2 x3 x4 x5 x6 x7 y0 y1 y2 y3 y4 y5 y6 y7 q0 q1 q2 q3 q4 q5 q6 q7) (p91_end V U un ac a t m e f g h z w s0 s1 s2 s3 s4 s5 s6 s7 x0 x1 x2 x3 x4 x5 x6 x7 y0 y1 y2 y3 y4 y5 y6 y7 q0 q1 q2 q3 q4 q5 q6 q7) := fun ho j =>
 outK_seg hE (R0_ok hE) [.run 3, (.ops [(2, (.c0 (iI (f)))), (5, (.c0 (iI (g)))), (7, (.d (.c1 (iI (e)))))] [])] [2] (s' := fun j => ⟨[(zBk (zTk t m s0 s1 s2 s3 s4 s5 s6 s7) 10 51), (zBk (zI2 f g) 2 30)], [(.code .ret)], mkT j [(2, (iI (e)))] 11 0⟩) (fun j => by kernel_rfl) (aP h0 <| aN <| aP (rfl : (true : Bool) = true) <| aP h3 <| aN <| aP h5 <| aN <| aZ)
  fun j => outK_gc [] (by decide) (by kernel_rfl) (by kernel_rfl) (by kernel_rfl) (ho j)
def p26_end (_V : AccP) (_U : List DT) (_un : Nat) (_ac _a : Bool) (_t _m e _f _g _h _z _w _s0 _s1 _s2 _s3 _s4 _s5 _s6 _s7 _x0 _x1 _x2 _x3 _x4 _x5 _x6 _x7 _y0 _y1 _y2 _y3 _y4 _y5 _y6 _y7 _q0 _q1 _q2 _q3 _q4 _q5 _q6 _q7 : Int) (j : Nat → Value) : St := ⟨[], [(.code .ret)], mkT j [(2, (iI (e)))] 11 0⟩
theorem p26 (hE : EnvOk E) (V : AccP) (U : List DT) (un : Nat) (ac a : Bool) (t m e f g h z w s0 s1 s2 s3 s4 s5 s6 s7 x0 x1 x2 x3 x4 x5 x6 x7 y0 y1 y2 y3 y4 y5 y6 y7 q0 q1 q2 q3 q4 q5 q6 q7 : Int) (h0 : COut E 0 [] 84 [(iI (t))] (iI (f)) []) (h3 : COut E 0 [] 97 [(iI (m))] (iI (g)) []) (h5 : COut E 2 [(zBk (zTk t m s0 s1 s2 s3 s4 s5 s6 s7) 10 48), (zBk (zI2 f g) 2 3)] 82 [(.e (.one (.slc 1 0 2 1 2 true)))] (iI (e)) [(zBk (zTk t m s0 s1 s2 s3 s4 s5 s6 s7) 10 48), (zBk (zI2 f g) 2 3)]) : Sg 0 0 (s26 V U un ac a t m e f g h z w s0 s1 s2 s3 s4 s5 s6 s7 x0 x1 x2 x3 x4 x5 x6 x7 y0 y1 y2 y3 y4 y5 y6 y7 q0 q1 q2 q3 q4 q5 q6 q7) (p26_end V U un ac a t m e f g h z w s0 s1 s2 s3 s4 s5 s6 s7 x0 x1 x2 x3 x4 x5 x6 x7 y0 y1 y2 y3 y4 y5 y6 y7 q0 q1 q2 q3 q4 q5 q6 q7) := fun ho j =>
 outK_seg hE (R0_ok hE) [.run 3, (.ops [(2, (.c0 (iI (f)))), (5, (.c0 (iI (g)))), (7, (.d (.c1 (iI (e)))))] [])] [2] (s' := fun j => ⟨[(zBk (zTk t m s0 s1 s2 s3 s4 s5 s6 s7) 10 48), (zBk (zI2 f g) 2 3)], [(.code .ret)], mkT j [(2, (iI (e)))] 11 0⟩) (fun j => by kernel_rfl) (aP h0 <| aN <| aP (rfl : (true : Bool) = true) <| aP h3 <| aN <| aP h5 <| aN <| aZ)
  fun j => outK_gc [] (by decide) (by kernel_rfl) (by kernel_rfl) (by kernel_rfl) (ho j)
def p101_end (_V : AccP) (_U : List DT) (_un : Nat) (_ac _a : Bool) (_t _m _e _f _g _h _z _w s0 s1 s2 s3 s4 s5 s6 s7 x0 x1 x2 x3 x4 x5 x6 x7 _y0 _y1 _y2 _y3 _y4 _y5 _y6 _y7 _q0 _q1 _q2 _q3 _q4 _q5 _q6 _q7 : Int) (j : Nat → Value) : St := ⟨[(zBk [.v (.int .u8 x0), .v (.int .u8 x1), .v (.int .u8 x2), .v (.int .u8 x3), .v (.int .u8 x4), .v (.int .u8 x5), .v (.int .u8 x6), .v (.int .u8 x7), .v (.int .u8 s0), .v (.int .u8 s1), .v (.int .u8 s2), .v (.int .u8 s3), .v (.int .u8 s4), .v (.int .u8 s5), .v (.int .u8 s6), .v (.int .u8 s7)] 16 64)], [(.code .ret)], mkT j [(2, (.e (.one (.ptr 0 0))))] 33 0⟩
theorem p101 (hE : EnvOk E) (V : AccP) (U : List DT) (un : Nat) (ac a : Bool) (t m e f g h z w s0 s1 s2 s3 s4 s5 s6 s7 x0 x1 x2 x3 x4 x5 x6 x7 y0 y1 y2 y3 y4 y5 y6 y7 q0 q1 q2 q3 q4 q5 q6 q7 : Int) (h0 : ((iI (t.fdiv ((2 : Int) ^ (24 : Nat)))) : AV) = (iI (y0))) (h1 : ((iU (IntKind.u8.wrap y0)) : AV) = (iU (x0))) (h2 : ((iI (m.fdiv ((2 : Int) ^ (24 : Nat)))) : AV) = (iI (y4))) (h3 : ((iU (IntKind.u8.wrap y4)) : AV) = (iU (x4))) (h4 : ((iI (t.fdiv ((2 : Int) ^ (16 : Nat)))) : AV) = (iI (y1))) (h5 : ((iU (IntKind.u8.wrap y1)) : AV) = (iU (x1))) (h6 : ((iI (m.fdiv ((2 : Int) ^ (16 : Nat)))) : AV) = (iI (y5))) (h7 : ((iU (IntKind.u8.wrap y5)) : AV) = (iU (x5))) (h8 : ((iI (t.fdiv ((2 : Int) ^ (8 : Nat)))) : AV) = (iI (y2))) (h9 : ((iU (IntKind.u8.wrap y2)) : AV) = (iU (x2))) (h10 : ((iI (m.fdiv ((2 : Int) ^ (8 : Nat)))) : AV) = (iI (y6))) (h11 : ((iU (IntKind.u8.wrap y6)) : AV) = (iU (x6))) (h12 : ((iI (t.fdiv ((2 : Int) ^ (0 : Nat)))) : AV) = (iI (y3))) (h13 : ((iU (IntKind.u8.wrap y3)) : AV) = (iU (x3))) (h14 : ((iI (m.fdiv ((2 : Int) ^ (0 : Nat)))) : AV) = (iI (y7))) (h15 : ((iU (IntKind.u8.wrap y7)) : AV) = (iU (x7))) : Sg 0 0 (s101 V U un ac a t m e f g h z w s0 s1 s2 s3 s4 s5 s6 s7 x0 x1 x2 x3 x4 x5 x6 x7 y0 y1 y2 y3 y4 y5 y6 y7 q0 q1 q2 q3 q4 q5 q6 q7) (p101_end V U un ac a t m e f g h z w s0 s1 s2 s3 s4 s5 s6 s7 x0 x1 x2 x3 x4 x5 x6 x7 y0 y1 y2 y3 y4 y5 y6 y7 q0 q1 q2 q3 q4 q5 q6 q7) := fun ho j =>
 outK_seg hE (R0_ok hE) [.run 21, (.ops [(4, (.rn (iI (y0)))), (5, (.rn (iU (x0))))] []), (.ops [(5, (.rn (iI (y4)))), (6, (.rn (iU (x4))))] []), .run 15, (.ops [(4, (.rn (iI (y1)))), (5, (.rn (iU (x1))))] []), (.ops [(5, (.rn (iI (y5)))), (6, (.rn (iU (x5))))] []), .run 15, (.ops [(4, (.rn (iI (y2)))), (5, (.rn (iU (x2))))] []), (.ops [(5, (.rn (iI (y6)))), (6, (.rn (iU (x6))))] []), .run 15, (.ops [(4, (.rn (iI (y3)))), (5, (.rn (iU (x3))))] []), (.ops [(5, (.rn (iI (y7)))), (6, (.rn (iU (x7))))] []), .run 12] [2] (s' := fun j => ⟨[(zBk (zTk t m s0 s1 s2 s3 s4 s5 s6 s7) 10 51), (zBk [.v (.int .u8 x0), .v (.int .u8 x1), .v (.int .u8 x2), .v (.int .u8 x3), .v (.int .u8 x4), .v (.int .u8 x5), .v (.int .u8 x6), .v (.int .u8 x7), .v (.int .u8 s0), .v (.int .u8 s1), .v (.int .u8 s2), .v (.int .u8 s3), .v (.int .u8 s4), .v (.int .u8 s5), .v (.int .u8 s6), .v (.int .u8 s7)] 16 64), (zBk [.v (.int .u8 x0), .v (.int .u8 x1), .v (.int .u8 x2), .v (.int .u8 x3), .v (.int .u8 x4), .v (.int .u8 x5), .v (.int .u8 x6), .v (.int .u8 x7), .v (.int .u8 s0), .v (.int .u8 s1), .v (.int .u8 s2), .v (.int .u8 s3), .v (.int .u8 s4), .v (.int .u8 s5), .v (.int .u8 s6), .v (.int .u8 s7)] 16 64)], [(.code .ret)], mkT j [(2, (.e (.one (.ptr 1 0))))] 33 0⟩) (fun j => by kernel_rfl) (aP h0 <| aP h1 <| aP h2 <| aP h3 <| aP h4 <| aP h5 <| aP h6 <| aP h7 <| aP h8 <| aP h9 <| aP h10 <| aP h11 <| aP h12 <| aP h13 <| aP h14 <| aP h15 <| aZ)
  fun j => outK_gc [1] (by decide) (by kernel_rfl) (by kernel_rfl) (by kernel_rfl) (ho j)
abbrev tokA (t m s0 s1 s2 s3 s4 s5 s6 s7 : Int) : AV := .e (.agg (zTk t m s0 s1 s2 s3 s4 s5 s6 s7))
abbrev blkA (x0 x1 x2 x3 x4 x5 x6 x7 s0 s1 s2 s3 s4 s5 s6 s7 : Int) : AV := .e (.agg [.v (.int .u8 x0), .v (.int .u8 x1), .v (.int .u8 x2), .v (.int .u8 x3), .v (.int .u8 x4), .v (.int .u8 x5), .v (.int .u8 x6), .v (.int .u8 x7), .v (.int .u8 s0), .v (.int .u8 s1), .v (.int .u8 s2), .v (.int .u8 s3), .v (.int .u8 s4), .v (.int .u8 s5), .v (.int .u8 s6), .v (.int .u8 s7)])
def amt (m : Int) : Int := rngI 1 100000000 m
def chkT (t m : Int) : Int := firstI [num t, amt m]
theorem K97 (hE : EnvOk E) (m : Int) : COut E 0 [] 97 [iI m] (iI (amt m)) [] :=
 cOut_start Tryz.func97 rfl (p97 hE (vZ) [] 0 false false 0 (m) (amt m) 0 0 0 0 0 0 0 0 0 0 0 0 0 0 0 0 0 0 0 0 0 0 0 0 0 0 0 0 0 0 0 0 0 0 0 0 0 (K17 hE m 1 100000000) (fun j => outK_ret (ends_ret (by kernel_rfl))) fun _ => undef)
theorem K91 (hE : EnvOk E) (t m s0 s1 s2 s3 s4 s5 s6 s7 : Int) : COut E 0 [] 91 [tokA t m s0 s1 s2 s3 s4 s5 s6 s7] (iI (chkT t m)) [] :=
 cOut_clear (cOut_start Tryz.func91 rfl (p91 hE (vZ) [] 0 false false (t) (m) (chkT t m) (num t) (amt m) 0 0 0 (s0) (s1) (s2) (s3) (s4) (s5) (s6) (s7) (0) (0) (0) (0) (0) (0) (0) (0) 0 0 0 0 0 0 0 0 0 0 0 0 0 0 0 0 (K88 hE t) (K77 hE m 1 100000000) (lend2 _ hE 76 [num t, amt m] _ 30 true (K76 hE _ (by simp)) _ 1 rfl) (fun j => outK_ret (ends_ret (by kernel_rfl))) fun _ => undef)) rfl
theorem K26 (hE : EnvOk E) (t m s0 s1 s2 s3 s4 s5 s6 s7 : Int) : COut E 0 [] 26 [tokA t m s0 s1 s2 s3 s4 s5 s6 s7] (iI (chkT t m)) [] :=
 cOut_clear (cOut_start Tryz.func26 rfl (p26 hE (vZ) [] 0 false false (t) (m) (chkT t m) (num t) (amt m) 0 0 0 (s0) (s1) (s2) (s3) (s4) (s5) (s6) (s7) (0) (0) (0) (0) (0) (0) (0) (0) 0 0 0 0 0 0 0 0 0 0 0 0 0 0 0 0 (K84 hE t) (K97 hE m) (lend2 _ hE 82 [num t, amt m] _ 3 true (K82 hE _ (by simp)) _ 1 rfl) (fun j => outK_ret (ends_ret (by kernel_rfl))) fun _ => undef)) rfl
def oct3 (t : Int) : Int := t / 16777216 % 256
def oct2 (t : Int) : Int := t / 65536 % 256
def oct1 (t : Int) : Int := t / 256 % 256
def oct0 (t : Int) : Int := t % 256
theorem wfd (t : Int) (k : Nat) : IntKind.u8.wrap (t.fdiv (2 ^ k)) = t / 2 ^ k % 256 := by
 rw [← wrapF_eq, wrap_u8, Int.fdiv_eq_ediv_of_nonneg _ (Int.pow_nonneg (by decide))]
theorem w24 (t : Int) : IntKind.u8.wrap (t.fdiv (2 ^ 24)) = oct3 t := wfd t 24
theorem w16 (t : Int) : IntKind.u8.wrap (t.fdiv (2 ^ 16)) = oct2 t := wfd t 16
theorem w8b (t : Int) : IntKind.u8.wrap (t.fdiv (2 ^ 8)) = oct1 t := wfd t 8
theorem w0 (t : Int) : IntKind.u8.wrap (t.fdiv (2 ^ 0)) = oct0 t := (wfd t 0).trans (by show t / 1 % 256 = _; rw [Int.ediv_one]; rfl)
theorem K101 (hE : EnvOk E) (t m s0 s1 s2 s3 s4 s5 s6 s7 : Int) : COut E 0 [] 101 [tokA t m s0 s1 s2 s3 s4 s5 s6 s7] (blkA (oct3 t) (oct2 t) (oct1 t) (oct0 t) (oct3 m) (oct2 m) (oct1 m) (oct0 m) (s0) (s1) (s2) (s3) (s4) (s5) (s6) (s7)) [] :=
 cOut_clear (cOut_start Tryz.func101 rfl (p101 hE (vZ) [] 0 false false (t) (m) 0 0 0 0 0 0 (s0) (s1) (s2) (s3) (s4) (s5) (s6) (s7) (oct3 t) (oct2 t) (oct1 t) (oct0 t) (oct3 m) (oct2 m) (oct1 m) (oct0 m) (t.fdiv (2 ^ 24)) (t.fdiv (2 ^ 16)) (t.fdiv (2 ^ 8)) (t.fdiv (2 ^ 0)) (m.fdiv (2 ^ 24)) (m.fdiv (2 ^ 16)) (m.fdiv (2 ^ 8)) (m.fdiv (2 ^ 0)) 0 0 0 0 0 0 0 0 rfl (iUe (w24 _)) rfl (iUe (w24 _)) rfl (iUe (w16 _)) rfl (iUe (w16 _)) rfl (iUe (w8b _)) rfl (iUe (w8b _)) rfl (iUe (w0 _)) rfl (iUe (w0 _)) (fun j => outK_ret (ends_ret (by kernel_rfl))) fun _ => undef)) rfl
end
end Go.Proofs.YtpnkginbmoniiaaGreatDoor
end

/-! SeBe -/
section
open Go Go.Ev
namespace Go.Proofs.YtpnkginbmoniiaaGreatDoor
noncomputable section
set_option maxRecDepth 100000
set_option maxHeartbeats 20000000
def s104 (_V : AccP) (_U : List DT) (_un : Nat) (_ac _a : Bool) (t _m _e _f _g _h _z _w _s0 _s1 _s2 _s3 _s4 _s5 _s6 _s7 _x0 _x1 _x2 _x3 _x4 _x5 _x6 _x7 _y0 _y1 _y2 _y3 _y4 _y5 _y6 _y7 _q0 _q1 _q2 _q3 _q4 _q5 _q6 _q7 : Int) (_j : Nat → Value) : St := startK Tryz.f104 [] [iI t, iI 4]
def p104_end (_V : AccP) (_U : List DT) (_un : Nat) (_ac _a : Bool) (_t _m _e _f _g _h _z _w _s0 _s1 _s2 _s3 _s4 _s5 _s6 _s7 x0 x1 x2 x3 _x4 _x5 _x6 _x7 _y0 _y1 _y2 _y3 _y4 _y5 _y6 _y7 _q0 _q1 _q2 _q3 _q4 _q5 _q6 _q7 : Int) (j : Nat → Value) : St := ⟨[(zBf [(.v (.int .u8 x3)), (.v (.int .u8 x2)), (.v (.int .u8 x1)), (.v (.int .u8 x0))] 4 5)], [(.code .ret)], mkT j [(4, (.e (.one (.slc 0 0 4 1 4 false))))] 30 0⟩
theorem p104 (hE : EnvOk E) (V : AccP) (U : List DT) (un : Nat) (ac a : Bool) (t m e f g h z w s0 s1 s2 s3 s4 s5 s6 s7 x0 x1 x2 x3 x4 x5 x6 x7 y0 y1 y2 y3 y4 y5 y6 y7 q0 q1 q2 q3 q4 q5 q6 q7 : Int) (h0 : ((256 : Int) : Int) ≠ (0 : Int)) (h1 : (wrapF IntKind.i64 (t.tdiv (256 : Int)) : Int) = y1) (h2 : ((256 : Int) : Int) ≠ (0 : Int)) (h3 : (wrapF IntKind.i64 (y1.tdiv (256 : Int)) : Int) = y2) (h4 : ((256 : Int) : Int) ≠ (0 : Int)) (h5 : (wrapF IntKind.i64 (y2.tdiv (256 : Int)) : Int) = y3) (h6 : ((iI (y3.tmod (256 : Int))) : AV) = (iI (q3))) (h7 : ((iU (IntKind.u8.wrap q3)) : AV) = (iU (x3))) (h8 : ((256 : Int) : Int) ≠ (0 : Int)) (h9 : (wrapF IntKind.i64 (t.tdiv (256 : Int)) : Int) = y1) (h10 : ((256 : Int) : Int) ≠ (0 : Int)) (h11 : (wrapF IntKind.i64 (y1.tdiv (256 : Int)) : Int) = y2) (h12 : ((iI (y2.tmod (256 : Int))) : AV) = (iI (q2))) (h13 : ((iU (IntKind.u8.wrap q2)) : AV) = (iU (x2))) (h14 : ((256 : Int) : Int) ≠ (0 : Int)) (h15 : (wrapF IntKind.i64 (t.tdiv (256 : Int)) : Int) = y1) (h16 : ((iI (y1.tmod (256 : Int))) : AV) = (iI (q1))) (h17 : ((iU (IntKind.u8.wrap q1)) : AV) = (iU (x1))) (h18 : ((iI (t.tmod (256 : Int))) : AV) = (iI (q0))) (h19 : ((iU (IntKind.u8.wrap q0)) : AV) = (iU (x0))) : Sg 0 0 (s104 V U un ac a t m e f g h z w s0 s1 s2 s3 s4 s5 s6 s7 x0 x1 x2 x3 x4 x5 x6 x7 y0 y1 y2 y3 y4 y5 y6 y7 q0 q1 q2 q3 q4 q5 q6 q7) (p104_end V U un ac a t m e f g h z w s0 s1 s2 s3 s4 s5 s6 s7 x0 x1 x2 x3 x4 x5 x6 x7 y0 y1 y2 y3 y4 y5 y6 y7 q0 q1 q2 q3 q4 q5 q6 q7) := fun ho j =>
 outK_seg hE (R0_ok hE) [.run 30, (.ops [(1, (.quo (y1)))] []), .run 10, (.ops [(1, (.quo (y2)))] []), .run 10, (.ops [(1, (.quo (y3)))] []), .run 8, (.ops [(2, (.rn (iI (q3)))), (3, (.rn (iU (x3))))] []), .run 24, (.ops [(1, (.quo (y1)))] []), .run 10, (.ops [(1, (.quo (y2)))] []), .run 8, (.ops [(2, (.rn (iI (q2)))), (3, (.rn (iU (x2))))] []), .run 24, (.ops [(1, (.quo (y1)))] []), .run 8, (.ops [(2, (.rn (iI (q1)))), (3, (.rn (iU (x1))))] []), .run 22, (.ops [(2, (.rn (iI (q0)))), (3, (.rn (iU (x0))))] []), .run 10] [4] (s' := fun j => ⟨[(zBk [(.v (.int .u8 x3))] 1 5), none, (zBk [(.v (.int .u8 x2))] 1 5), none, (zBk [(.v (.int .u8 x1))] 1 5), none, (zBk [(.v (.int .u8 x0))] 1 5), (zBf [(.v (.int .u8 x3)), (.v (.int .u8 x2)), (.v (.int .u8 x1)), (.v (.int .u8 x0))] 4 5)], [(.code .ret)], mkT j [(4, (.e (.one (.slc 7 0 4 1 4 false))))] 30 0⟩) (fun j => by kernel_rfl) (aP h0 <| aP h1 <| aP h2 <| aP h3 <| aP h4 <| aP h5 <| aP h6 <| aP h7 <| aP h8 <| aP h9 <| aP h10 <| aP h11 <| aP h12 <| aP h13 <| aP h14 <| aP h15 <| aP h16 <| aP h17 <| aP h18 <| aP h19 <| aZ)
  fun j => outK_gc [7] (by decide) (by kernel_rfl) (by kernel_rfl) (by kernel_rfl) (ho j)
theorem K104 (hE : EnvOk E) (t : Int) (h0 : 0 ≤ t) (h1 : t < 1099511627776) : COut E 0 [] 104 [iI t, iI 4] (.e (.one (.slc 0 0 4 1 4 false))) [.some ⟨[.v (.int .u8 (oct3 t)), .v (.int .u8 (oct2 t)), .v (.int .u8 (oct1 t)), .v (.int .u8 (oct0 t))], 4, 5, false, .cells⟩] :=
 cOut_start Tryz.func104 rfl (p104 hE (vZ) [] 0 false false (t) 0 0 0 0 0 0 0 0 0 0 0 0 0 0 0 (oct0 t) (oct1 t) (oct2 t) (oct3 t) 0 0 0 0 0 (t / 256) (t / 256 / 256) (t / 256 / 256 / 256) 0 0 0 0 (t % 256) (t / 256 % 256) (t / 256 / 256 % 256) (t / 256 / 256 / 256 % 256) 0 0 0 0 (by decide) (by rw [Int.tdiv_eq_ediv_of_nonneg (by omega), wrap_id (by omega) (by omega)]) (by decide) (by rw [Int.tdiv_eq_ediv_of_nonneg (by omega), wrap_id (by omega) (by omega)]) (by decide) (by rw [Int.tdiv_eq_ediv_of_nonneg (by omega), wrap_id (by omega) (by omega)]) (iIe (Int.tmod_eq_emod_of_nonneg (by omega))) (iUe (by rw [wrap_u8' (by omega) (by omega)]; unfold oct3; omega)) (by decide) (by rw [Int.tdiv_eq_ediv_of_nonneg (by omega), wrap_id (by omega) (by omega)]) (by decide) (by rw [Int.tdiv_eq_ediv_of_nonneg (by omega), wrap_id (by omega) (by omega)]) (iIe (Int.tmod_eq_emod_of_nonneg (by omega))) (iUe (by rw [wrap_u8' (by omega) (by omega)]; unfold oct2; omega)) (by decide) (by rw [Int.tdiv_eq_ediv_of_nonneg (by omega), wrap_id (by omega) (by omega)]) (iIe (Int.tmod_eq_emod_of_nonneg (by omega))) (iUe (by rw [wrap_u8' (by omega) (by omega)]; unfold oct1; omega)) (iIe (Int.tmod_eq_emod_of_nonneg (by omega))) (iUe (by rw [wrap_u8' (by omega) (by omega)]; unfold oct0; omega)) (fun j => outK_ret (ends_ret (by kernel_rfl))) fun _ => undef)
end
end Go.Proofs.YtpnkginbmoniiaaGreatDoor
end

/-! SeEqT -/
section
open Go Go.Ev Go.RowKit
open Extern.Stop
namespace Go.Proofs.YtpnkginbmoniiaaGreatDoor
noncomputable section
set_option maxRecDepth 100000
theorem u48_ : Tryz.prog.underlying 48 = some (.struct (Tryz.prog.fieldsOf 48)) := by kernel_rfl
abbrev tokV (t m s0 s1 s2 s3 s4 s5 s6 s7 : Int) : List Value := [.int .i64 t, .int .i64 m, .int .u8 s0, .int .u8 s1, .int .u8 s2, .int .u8 s3, .int .u8 s4, .int .u8 s5, .int .u8 s6, .int .u8 s7]
end
end Go.Proofs.YtpnkginbmoniiaaGreatDoor
end

/-! SeBg -/
section
open Go Go.Ev
namespace Go.Proofs.YtpnkginbmoniiaaGreatDoor
noncomputable section
set_option maxRecDepth 100000
set_option maxHeartbeats 20000000
def s143 (C : List DT) (n : Nat) (_t _m _e _f _g _h _z _w s0 s1 s2 s3 s4 s5 s6 s7 _x0 _x1 _x2 _x3 _x4 _x5 _x6 _x7 _y0 _y1 _y2 _y3 _y4 _y5 _y6 _y7 _q0 _q1 _q2 _q3 _q4 _q5 _q6 _q7 : Int) (_j : Nat → Value) : St := startK Tryz.f143 [] [(.e (.agg (zB8 s0 s1 s2 s3 s4 s5 s6 s7))), (.e (.one (.dp (.s C n 1))))]
def s100 (_C : List DT) (_n : Nat) (t m _e _f _g _h _z _w s0 s1 s2 s3 s4 s5 s6 s7 _x0 _x1 _x2 _x3 _x4 _x5 _x6 _x7 _y0 _y1 _y2 _y3 _y4 _y5 _y6 _y7 _q0 _q1 _q2 _q3 _q4 _q5 _q6 _q7 : Int) (_j : Nat → Value) : St := startK Tryz.f100 [] [(.e (.agg (zB8 s0 s1 s2 s3 s4 s5 s6 s7))), iI t, iI m]
def s103 (_C : List DT) (_n : Nat) (t m _e _f _g _h _z _w s0 s1 s2 s3 s4 s5 s6 s7 _x0 _x1 _x2 _x3 _x4 _x5 _x6 _x7 _y0 _y1 _y2 _y3 _y4 _y5 _y6 _y7 _q0 _q1 _q2 _q3 _q4 _q5 _q6 _q7 : Int) (_j : Nat → Value) : St := startK Tryz.f103 [] [(.e (.agg (zB8 s0 s1 s2 s3 s4 s5 s6 s7))), iI t, iI m]
def p143_end (_C : List DT) (_n : Nat) (_t _m _e _f _g _h _z _w _s0 _s1 _s2 _s3 _s4 _s5 _s6 _s7 _x0 _x1 _x2 _x3 _x4 _x5 _x6 _x7 y0 y1 y2 y3 y4 y5 y6 y7 _q0 _q1 _q2 _q3 _q4 _q5 _q6 _q7 : Int) (j : Nat → Value) : St := ⟨[(zBk (zB8 y0 y1 y2 y3 y4 y5 y6 y7) 8 23)], [(.code .ret)], mkT j [(4, (.e (.one (.ptr 0 0)))), (5, (iI 0))] 13 0⟩
theorem p143 (hE : EnvOk E) (C : List DT) (n : Nat) (t m e f g h z w s0 s1 s2 s3 s4 s5 s6 s7 x0 x1 x2 x3 x4 x5 x6 x7 y0 y1 y2 y3 y4 y5 y6 y7 q0 q1 q2 q3 q4 q5 q6 q7 : Int) (h0 : (decide ((↑n : Int) > (400000 : Int)) : Bool) = false) (h1 : COut E 0 [] 163 [(.e (.agg (zB8 s0 s1 s2 s3 s4 s5 s6 s7))), (.e (.one (.dp (.s (C) (n) 1))))] (.e (.agg (zB8 y0 y1 y2 y3 y4 y5 y6 y7))) []) : Sg 0 0 (s143 C n t m e f g h z w s0 s1 s2 s3 s4 s5 s6 s7 x0 x1 x2 x3 x4 x5 x6 x7 y0 y1 y2 y3 y4 y5 y6 y7 q0 q1 q2 q3 q4 q5 q6 q7) (p143_end C n t m e f g h z w s0 s1 s2 s3 s4 s5 s6 s7 x0 x1 x2 x3 x4 x5 x6 x7 y0 y1 y2 y3 y4 y5 y6 y7 q0 q1 q2 q3 q4 q5 q6 q7) := fun ho j =>
 outK_seg hE (R0_ok hE) [.run 4, (.ops [(1, (.d .len))] []), (.cond false), .run 2, (.ops [(2, (.c0 (.e (.agg (zB8 y0 y1 y2 y3 y4 y5 y6 y7)))))] [])] [4, 5] (s' := fun j => ⟨[(zBk (zB8 s0 s1 s2 s3 s4 s5 s6 s7) 8 23), (zBk (zB8 y0 y1 y2 y3 y4 y5 y6 y7) 8 23)], [(.code .ret)], mkT j [(4, (.e (.one (.ptr 1 0)))), (5, (iI 0))] 13 0⟩) (fun j => by kernel_rfl) (aP h0 <| aP h1 <| aN <| aZ)
  fun j => outK_gc [1] (by decide) (by kernel_rfl) (by kernel_rfl) (by kernel_rfl) (ho j)
def p100_end (_C : List DT) (_n : Nat) (t m _e _f _g _h _z _w _s0 _s1 _s2 _s3 _s4 _s5 _s6 _s7 _x0 _x1 _x2 _x3 _x4 _x5 _x6 _x7 y0 y1 y2 y3 y4 y5 y6 y7 _q0 _q1 _q2 _q3 _q4 _q5 _q6 _q7 : Int) (j : Nat → Value) : St := ⟨[(zBk (zTk t m y0 y1 y2 y3 y4 y5 y6 y7) 10 51)], [(.code .ret)], mkT j [(6, (.e (.one (.ptr 0 0))))] 22 0⟩
theorem p100 (hE : EnvOk E) (C : List DT) (n : Nat) (t m e f g h z w s0 s1 s2 s3 s4 s5 s6 s7 x0 x1 x2 x3 x4 x5 x6 x7 y0 y1 y2 y3 y4 y5 y6 y7 q0 q1 q2 q3 q4 q5 q6 q7 : Int) (h0 : COut E 0 [] 101 [(.e (.agg (zTk t m 0 0 0 0 0 0 0 0)))] (.e (.agg [(.v (.int .u8 x0)), (.v (.int .u8 x1)), (.v (.int .u8 x2)), (.v (.int .u8 x3)), (.v (.int .u8 x4)), (.v (.int .u8 x5)), (.v (.int .u8 x6)), (.v (.int .u8 x7)), (.v (.int .u8 0)), (.v (.int .u8 0)), (.v (.int .u8 0)), (.v (.int .u8 0)), (.v (.int .u8 0)), (.v (.int .u8 0)), (.v (.int .u8 0)), (.v (.int .u8 0))])) []) (h2 : COut E 4 [(zBk (zB8 s0 s1 s2 s3 s4 s5 s6 s7) 8 23), (zBk (zTk 0 0 0 0 0 0 0 0 0 0) 10 51), (zBk (zTk t m 0 0 0 0 0 0 0 0) 10 51), (zBk [(.v (.int .u8 x0)), (.v (.int .u8 x1)), (.v (.int .u8 x2)), (.v (.int .u8 x3)), (.v (.int .u8 x4)), (.v (.int .u8 x5)), (.v (.int .u8 x6)), (.v (.int .u8 x7)), (.v (.int .u8 0)), (.v (.int .u8 0)), (.v (.int .u8 0)), (.v (.int .u8 0)), (.v (.int .u8 0)), (.v (.int .u8 0)), (.v (.int .u8 0)), (.v (.int .u8 0))] 16 64)] 143 [(.e (.agg (zB8 s0 s1 s2 s3 s4 s5 s6 s7))), (.e (.one (.slc 3 0 8 1 16 true)))] (.tup [(.agg (zB8 y0 y1 y2 y3 y4 y5 y6 y7)), (.one (.v (.int .i64 0)))]) [(zBk (zB8 s0 s1 s2 s3 s4 s5 s6 s7) 8 23), (zBk (zTk 0 0 0 0 0 0 0 0 0 0) 10 51), (zBk (zTk t m 0 0 0 0 0 0 0 0) 10 51), (zBk [(.v (.int .u8 x0)), (.v (.int .u8 x1)), (.v (.int .u8 x2)), (.v (.int .u8 x3)), (.v (.int .u8 x4)), (.v (.int .u8 x5)), (.v (.int .u8 x6)), (.v (.int .u8 x7)), (.v (.int .u8 0)), (.v (.int .u8 0)), (.v (.int .u8 0)), (.v (.int .u8 0)), (.v (.int .u8 0)), (.v (.int .u8 0)), (.v (.int .u8 0)), (.v (.int .u8 0))] 16 64)]) : Sg 0 0 (s100 C n t m e f g h z w s0 s1 s2 s3 s4 s5 s6 s7 x0 x1 x2 x3 x4 x5 x6 x7 y0 y1 y2 y3 y4 y5 y6 y7 q0 q1 q2 q3 q4 q5 q6 q7) (p100_end C n t m e f g h z w s0 s1 s2 s3 s4 s5 s6 s7 x0 x1 x2 x3 x4 x5 x6 x7 y0 y1 y2 y3 y4 y5 y6 y7 q0 q1 q2 q3 q4 q5 q6 q7) := fun ho j =>
 outK_seg hE (R0_ok hE) [.run 5, (.ops [(1, (.c0 (.e (.agg [(.v (.int .u8 x0)), (.v (.int .u8 x1)), (.v (.int .u8 x2)), (.v (.int .u8 x3)), (.v (.int .u8 x4)), (.v (.int .u8 x5)), (.v (.int .u8 x6)), (.v (.int .u8 x7)), (.v (.int .u8 0)), (.v (.int .u8 0)), (.v (.int .u8 0)), (.v (.int .u8 0)), (.v (.int .u8 0)), (.v (.int .u8 0)), (.v (.int .u8 0)), (.v (.int .u8 0))]))))] []), .run 1, (.ops [(2, (.d (.c1 (.tup [(.agg (zB8 y0 y1 y2 y3 y4 y5 y6 y7)), (.one (.v (.int .i64 0)))]))))] []), .run 2] [6] (s' := fun j => ⟨[(zBk (zB8 s0 s1 s2 s3 s4 s5 s6 s7) 8 23), (zBk (zTk t m y0 y1 y2 y3 y4 y5 y6 y7) 10 51), (zBk (zTk t m y0 y1 y2 y3 y4 y5 y6 y7) 10 51), (zBk [(.v (.int .u8 x0)), (.v (.int .u8 x1)), (.v (.int .u8 x2)), (.v (.int .u8 x3)), (.v (.int .u8 x4)), (.v (.int .u8 x5)), (.v (.int .u8 x6)), (.v (.int .u8 x7)), (.v (.int .u8 0)), (.v (.int .u8 0)), (.v (.int .u8 0)), (.v (.int .u8 0)), (.v (.int .u8 0)), (.v (.int .u8 0)), (.v (.int .u8 0)), (.v (.int .u8 0))] 16 64)], [(.code .ret)], mkT j [(6, (.e (.one (.ptr 1 0))))] 22 0⟩) (fun j => by kernel_rfl) (aP h0 <| aN <| aP h2 <| aN <| aP (rfl : (true : Bool) = true) <| aZ)
  fun j => outK_gc [1] (by decide) (by kernel_rfl) (by kernel_rfl) (by kernel_rfl) (ho j)
def p103_end (_C : List DT) (_n : Nat) (_t _m _e _f _g _h _z _w _s0 _s1 _s2 _s3 _s4 _s5 _s6 _s7 _x0 _x1 _x2 _x3 _x4 _x5 _x6 _x7 y0 y1 y2 y3 y4 y5 y6 y7 _q0 _q1 _q2 _q3 _q4 _q5 _q6 _q7 : Int) (j : Nat → Value) : St := ⟨[(zBk (zB8 y0 y1 y2 y3 y4 y5 y6 y7) 8 23)], [(.code .ret)], mkT j [(6, (.e (.one (.ptr 0 0))))] 14 0⟩
theorem p103 (hE : EnvOk E) (C : List DT) (n : Nat) (t m e f g h z w s0 s1 s2 s3 s4 s5 s6 s7 x0 x1 x2 x3 x4 x5 x6 x7 y0 y1 y2 y3 y4 y5 y6 y7 q0 q1 q2 q3 q4 q5 q6 q7 : Int) (h0 : COut E 0 [] 104 [(iI (t)), (iI 4)] (.e (.one (.slc 0 0 4 1 4 false))) [(zBf [(.v (.int .u8 x0)), (.v (.int .u8 x1)), (.v (.int .u8 x2)), (.v (.int .u8 x3))] 4 5)]) (h3 : True) (h5 : True) (h7 : COut E 0 [] 104 [(iI (m)), (iI 4)] (.e (.one (.slc 0 0 4 1 4 false))) [(zBf [(.v (.int .u8 x4)), (.v (.int .u8 x5)), (.v (.int .u8 x6)), (.v (.int .u8 x7))] 4 5)]) (h10 : True) (h12 : True) (h15 : COut E 5 [(zBk (zB8 s0 s1 s2 s3 s4 s5 s6 s7) 8 23), (zBk (zB8 0 0 0 0 0 0 0 0) 8 23), none, (zBf [(.v (.int .u8 x4)), (.v (.int .u8 x5)), (.v (.int .u8 x6)), (.v (.int .u8 x7))] 4 5), (zBf (zB8 x0 x1 x2 x3 x4 x5 x6 x7) 8 5)] 144 [(.e (.agg (zB8 s0 s1 s2 s3 s4 s5 s6 s7))), (.e (.one (.slc 4 0 8 1 8 false)))] (.e (.agg (zB8 y0 y1 y2 y3 y4 y5 y6 y7))) [(zBk (zB8 s0 s1 s2 s3 s4 s5 s6 s7) 8 23), (zBk (zB8 0 0 0 0 0 0 0 0) 8 23), none, (zBf [(.v (.int .u8 x4)), (.v (.int .u8 x5)), (.v (.int .u8 x6)), (.v (.int .u8 x7))] 4 5), (zBf (zB8 x0 x1 x2 x3 x4 x5 x6 x7) 8 5)]) : Sg 0 0 (s103 C n t m e f g h z w s0 s1 s2 s3 s4 s5 s6 s7 x0 x1 x2 x3 x4 x5 x6 x7 y0 y1 y2 y3 y4 y5 y6 y7 q0 q1 q2 q3 q4 q5 q6 q7) (p103_end C n t m e f g h z w s0 s1 s2 s3 s4 s5 s6 s7 x0 x1 x2 x3 x4 x5 x6 x7 y0 y1 y2 y3 y4 y5 y6 y7 q0 q1 q2 q3 q4 q5 q6 q7) := fun ho j =>
 outK_seg hE (R0_ok hE) [.run 3, (.ops [(2, (.cl [] [] [(iI (t)), (iI 4)] [] (.e (.one (.slc 0 0 4 1 4 false))) [(zBf [(.v (.int .u8 x0)), (.v (.int .u8 x1)), (.v (.int .u8 x2)), (.v (.int .u8 x3))] 4 5)] (.e (.one (.slc 2 0 4 1 4 false))) [false] [(zBf [(.v (.int .u8 x0)), (.v (.int .u8 x1)), (.v (.int .u8 x2)), (.v (.int .u8 x3))] 4 5)])), (4, (.cl [] [] [(iI (m)), (iI 4)] [] (.e (.one (.slc 0 0 4 1 4 false))) [(zBf [(.v (.int .u8 x4)), (.v (.int .u8 x5)), (.v (.int .u8 x6)), (.v (.int .u8 x7))] 4 5)] (.e (.one (.slc 3 0 4 1 4 false))) [false] [(zBf [(.v (.int .u8 x4)), (.v (.int .u8 x5)), (.v (.int .u8 x6)), (.v (.int .u8 x7))] 4 5)])), (6, (.d (.c1 (.e (.agg (zB8 y0 y1 y2 y3 y4 y5 y6 y7))))))] [])] [6] (s' := fun j => ⟨[(zBk (zB8 s0 s1 s2 s3 s4 s5 s6 s7) 8 23), (zBk (zB8 y0 y1 y2 y3 y4 y5 y6 y7) 8 23), none, (zBf [(.v (.int .u8 x4)), (.v (.int .u8 x5)), (.v (.int .u8 x6)), (.v (.int .u8 x7))] 4 5), (zBf (zB8 x0 x1 x2 x3 x4 x5 x6 x7) 8 5)], [(.code .ret)], mkT j [(6, (.e (.one (.ptr 1 0))))] 14 0⟩) (fun j => by kernel_rfl) (aP h0 <| aP (rfl : ([(iI (t)), (iI 4)] : List AV) = [(iI (t)), (iI 4)]) <| aP (rfl : ([] : List (Option (Option AB))) = []) <| aP h3 <| aP (rfl : ([(.some (zBf [(.v (.int .u8 x0)), (.v (.int .u8 x1)), (.v (.int .u8 x2)), (.v (.int .u8 x3))] 4 5))] : List (Option (Option AB))) = [(.some (zBf [(.v (.int .u8 x0)), (.v (.int .u8 x1)), (.v (.int .u8 x2)), (.v (.int .u8 x3))] 4 5))]) <| aP h5 <| aP (rfl : ((.e (.one (.slc 2 0 4 1 4 false))) : AV) = (.e (.one (.slc 2 0 4 1 4 false)))) <| aP h7 <| aP (rfl : ([(iI (m)), (iI 4)] : List AV) = [(iI (m)), (iI 4)]) <| aP (rfl : ([] : List (Option (Option AB))) = []) <| aP h10 <| aP (rfl : ([(.some (zBf [(.v (.int .u8 x4)), (.v (.int .u8 x5)), (.v (.int .u8 x6)), (.v (.int .u8 x7))] 4 5))] : List (Option (Option AB))) = [(.some (zBf [(.v (.int .u8 x4)), (.v (.int .u8 x5)), (.v (.int .u8 x6)), (.v (.int .u8 x7))] 4 5))]) <| aP h12 <| aP (rfl : ((.e (.one (.slc 3 0 4 1 4 false))) : AV) = (.e (.one (.slc 3 0 4 1 4 false)))) <| aP (rfl : (true : Bool) = true) <| aP h15 <| aN <| aZ)
  fun j => outK_gc [1] (by decide) (by kernel_rfl) (by kernel_rfl) (by kernel_rfl) (ho j)
theorem oct_b (t m : Int) : ∀ x ∈ [oct3 t, oct2 t, oct1 t, oct0 t, oct3 m, oct2 m, oct1 m, oct0 m], 0 ≤ x ∧ x < 256 := by
 intro x hx
 simp only [List.mem_cons, List.mem_nil_iff, or_false] at hx
 unfold oct3 oct2 oct1 oct0 at hx
 rcases hx with h | h | h | h | h | h | h | h <;> omega
theorem K143 (hE : EnvOk E) (s0 s1 s2 s3 s4 s5 s6 s7 : Int) (g0 : 0 ≤ s0 ∧ s0 < 256) (g1 : 0 ≤ s1 ∧ s1 < 256) (g2 : 0 ≤ s2 ∧ s2 < 256) (g3 : 0 ≤ s3 ∧ s3 < 256) (g4 : 0 ≤ s4 ∧ s4 < 256) (g5 : 0 ≤ s5 ∧ s5 < 256) (g6 : 0 ≤ s6 ∧ s6 < 256) (g7 : 0 ≤ s7 ∧ s7 < 256) (xs : List Int) (n : Nat) (hn : xs.length = n) (hm : n ≤ 400000) (hxs : ∀ x ∈ xs, 0 ≤ x ∧ x < 256) : COut E 0 [] 143 [(keyA s0 s1 s2 s3 s4 s5 s6 s7), .e (.one (.dp (.s (bD xs) n 1)))] (.tup [.agg (sealC s0 s1 s2 s3 s4 s5 s6 s7 xs), .one (.v (.int .i64 0))]) [] :=
 cOut_clear (cOut_start Tryz.func143 rfl (p143 hE (bD xs) (n) 0 0 0 0 0 0 0 0 (s0) (s1) (s2) (s3) (s4) (s5) (s6) (s7) 0 0 0 0 0 0 0 0 (sealB 0 s0 xs) (sealB 1 s1 xs) (sealB 2 s2 xs) (sealB 3 s3 xs) (sealB 4 s4 xs) (sealB 5 s5 xs) (sealB 6 s6 xs) (sealB 7 s7 xs) 0 0 0 0 0 0 0 0 (decide_eq_false (by (try simp only [Int.ofNat_eq_natCast]); omega)) (K163 hE s0 s1 s2 s3 s4 s5 s6 s7 g0 g1 g2 g3 g4 g5 g6 g7 xs n hn hm hxs) (fun j => outK_ret (ends_ret (by kernel_rfl))) fun _ => undef)) rfl
theorem K100 (hE : EnvOk E) (t m s0 s1 s2 s3 s4 s5 s6 s7 : Int) (g0 : 0 ≤ s0 ∧ s0 < 256) (g1 : 0 ≤ s1 ∧ s1 < 256) (g2 : 0 ≤ s2 ∧ s2 < 256) (g3 : 0 ≤ s3 ∧ s3 < 256) (g4 : 0 ≤ s4 ∧ s4 < 256) (g5 : 0 ≤ s5 ∧ s5 < 256) (g6 : 0 ≤ s6 ∧ s6 < 256) (g7 : 0 ≤ s7 ∧ s7 < 256) : COut E 0 [] 100 [(keyA s0 s1 s2 s3 s4 s5 s6 s7), iI t, iI m] (tokA (t) (m) (sealB 0 s0 [oct3 t, oct2 t, oct1 t, oct0 t, oct3 m, oct2 m, oct1 m, oct0 m]) (sealB 1 s1 [oct3 t, oct2 t, oct1 t, oct0 t, oct3 m, oct2 m, oct1 m, oct0 m]) (sealB 2 s2 [oct3 t, oct2 t, oct1 t, oct0 t, oct3 m, oct2 m, oct1 m, oct0 m]) (sealB 3 s3 [oct3 t, oct2 t, oct1 t, oct0 t, oct3 m, oct2 m, oct1 m, oct0 m]) (sealB 4 s4 [oct3 t, oct2 t, oct1 t, oct0 t, oct3 m, oct2 m, oct1 m, oct0 m]) (sealB 5 s5 [oct3 t, oct2 t, oct1 t, oct0 t, oct3 m, oct2 m, oct1 m, oct0 m]) (sealB 6 s6 [oct3 t, oct2 t, oct1 t, oct0 t, oct3 m, oct2 m, oct1 m, oct0 m]) (sealB 7 s7 [oct3 t, oct2 t, oct1 t, oct0 t, oct3 m, oct2 m, oct1 m, oct0 m])) [] := by
 have k := K143 hE s0 s1 s2 s3 s4 s5 s6 s7 g0 g1 g2 g3 g4 g5 g6 g7 [oct3 t, oct2 t, oct1 t, oct0 t, oct3 m, oct2 m, oct1 m, oct0 m] 8 rfl (by decide) (oct_b t m)
 exact cOut_clear (cOut_start Tryz.func100 rfl (p100 hE [] 0 (t) (m) 0 0 0 0 0 0 (s0) (s1) (s2) (s3) (s4) (s5) (s6) (s7) (oct3 t) (oct2 t) (oct1 t) (oct0 t) (oct3 m) (oct2 m) (oct1 m) (oct0 m) (sealB 0 s0 [oct3 t, oct2 t, oct1 t, oct0 t, oct3 m, oct2 m, oct1 m, oct0 m]) (sealB 1 s1 [oct3 t, oct2 t, oct1 t, oct0 t, oct3 m, oct2 m, oct1 m, oct0 m]) (sealB 2 s2 [oct3 t, oct2 t, oct1 t, oct0 t, oct3 m, oct2 m, oct1 m, oct0 m]) (sealB 3 s3 [oct3 t, oct2 t, oct1 t, oct0 t, oct3 m, oct2 m, oct1 m, oct0 m]) (sealB 4 s4 [oct3 t, oct2 t, oct1 t, oct0 t, oct3 m, oct2 m, oct1 m, oct0 m]) (sealB 5 s5 [oct3 t, oct2 t, oct1 t, oct0 t, oct3 m, oct2 m, oct1 m, oct0 m]) (sealB 6 s6 [oct3 t, oct2 t, oct1 t, oct0 t, oct3 m, oct2 m, oct1 m, oct0 m]) (sealB 7 s7 [oct3 t, oct2 t, oct1 t, oct0 t, oct3 m, oct2 m, oct1 m, oct0 m]) 0 0 0 0 0 0 0 0 (K101 hE t m 0 0 0 0 0 0 0 0) (cOut_lend _ k ⟨⟨.inl ⟨rfl, rfl⟩, .inl ⟨rfl, rfl⟩, .inl ⟨rfl, rfl⟩, .inl ⟨rfl, rfl⟩, .inl ⟨rfl, rfl⟩, .inl ⟨rfl, rfl⟩, .inl ⟨rfl, rfl⟩, .inl ⟨rfl, rfl⟩, trivial⟩, .inr ⟨3, 0, 8, 1, 16, true, bD [oct3 t, oct2 t, oct1 t, oct0 t, oct3 m, oct2 m, oct1 m, oct0 m], bD ([oct3 t, oct2 t, oct1 t, oct0 t, oct3 m, oct2 m, oct1 m, oct0 m] ++ [0, 0, 0, 0, 0, 0, 0, 0]), 16, 64, true, rfl, rfl, rfl, rfl⟩, trivial⟩ rfl rfl) (fun j => outK_ret (ends_ret (by kernel_rfl))) fun _ => undef)) rfl
theorem K103 (hE : EnvOk E) (t m : Int) (ht : 0 ≤ t ∧ t < 1099511627776) (hm : 0 ≤ m ∧ m < 1099511627776) (s0 s1 s2 s3 s4 s5 s6 s7 : Int) (g0 : 0 ≤ s0 ∧ s0 < 256) (g1 : 0 ≤ s1 ∧ s1 < 256) (g2 : 0 ≤ s2 ∧ s2 < 256) (g3 : 0 ≤ s3 ∧ s3 < 256) (g4 : 0 ≤ s4 ∧ s4 < 256) (g5 : 0 ≤ s5 ∧ s5 < 256) (g6 : 0 ≤ s6 ∧ s6 < 256) (g7 : 0 ≤ s7 ∧ s7 < 256) : COut E 0 [] 103 [(keyA s0 s1 s2 s3 s4 s5 s6 s7), iI t, iI m] (keyA (sealB 0 s0 [oct3 t, oct2 t, oct1 t, oct0 t, oct3 m, oct2 m, oct1 m, oct0 m]) (sealB 1 s1 [oct3 t, oct2 t, oct1 t, oct0 t, oct3 m, oct2 m, oct1 m, oct0 m]) (sealB 2 s2 [oct3 t, oct2 t, oct1 t, oct0 t, oct3 m, oct2 m, oct1 m, oct0 m]) (sealB 3 s3 [oct3 t, oct2 t, oct1 t, oct0 t, oct3 m, oct2 m, oct1 m, oct0 m]) (sealB 4 s4 [oct3 t, oct2 t, oct1 t, oct0 t, oct3 m, oct2 m, oct1 m, oct0 m]) (sealB 5 s5 [oct3 t, oct2 t, oct1 t, oct0 t, oct3 m, oct2 m, oct1 m, oct0 m]) (sealB 6 s6 [oct3 t, oct2 t, oct1 t, oct0 t, oct3 m, oct2 m, oct1 m, oct0 m]) (sealB 7 s7 [oct3 t, oct2 t, oct1 t, oct0 t, oct3 m, oct2 m, oct1 m, oct0 m])) [] := by
 have k := K144 hE s0 s1 s2 s3 s4 s5 s6 s7 g0 g1 g2 g3 g4 g5 g6 g7 [oct3 t, oct2 t, oct1 t, oct0 t, oct3 m, oct2 m, oct1 m, oct0 m] 8 rfl (by decide) (oct_b t m)
 exact cOut_clear (cOut_start Tryz.func103 rfl (p103 hE [] 0 (t) (m) 0 0 0 0 0 0 (s0) (s1) (s2) (s3) (s4) (s5) (s6) (s7) (oct3 t) (oct2 t) (oct1 t) (oct0 t) (oct3 m) (oct2 m) (oct1 m) (oct0 m) (sealB 0 s0 [oct3 t, oct2 t, oct1 t, oct0 t, oct3 m, oct2 m, oct1 m, oct0 m]) (sealB 1 s1 [oct3 t, oct2 t, oct1 t, oct0 t, oct3 m, oct2 m, oct1 m, oct0 m]) (sealB 2 s2 [oct3 t, oct2 t, oct1 t, oct0 t, oct3 m, oct2 m, oct1 m, oct0 m]) (sealB 3 s3 [oct3 t, oct2 t, oct1 t, oct0 t, oct3 m, oct2 m, oct1 m, oct0 m]) (sealB 4 s4 [oct3 t, oct2 t, oct1 t, oct0 t, oct3 m, oct2 m, oct1 m, oct0 m]) (sealB 5 s5 [oct3 t, oct2 t, oct1 t, oct0 t, oct3 m, oct2 m, oct1 m, oct0 m]) (sealB 6 s6 [oct3 t, oct2 t, oct1 t, oct0 t, oct3 m, oct2 m, oct1 m, oct0 m]) (sealB 7 s7 [oct3 t, oct2 t, oct1 t, oct0 t, oct3 m, oct2 m, oct1 m, oct0 m]) 0 0 0 0 0 0 0 0 (K104 hE t ht.1 ht.2) trivial trivial (K104 hE m hm.1 hm.2) trivial trivial (cOut_lend _ k ⟨⟨.inl ⟨rfl, rfl⟩, .inl ⟨rfl, rfl⟩, .inl ⟨rfl, rfl⟩, .inl ⟨rfl, rfl⟩, .inl ⟨rfl, rfl⟩, .inl ⟨rfl, rfl⟩, .inl ⟨rfl, rfl⟩, .inl ⟨rfl, rfl⟩, trivial⟩, .inr ⟨4, 0, 8, 1, 8, false, bD [oct3 t, oct2 t, oct1 t, oct0 t, oct3 m, oct2 m, oct1 m, oct0 m], bD [oct3 t, oct2 t, oct1 t, oct0 t, oct3 m, oct2 m, oct1 m, oct0 m], 8, 5, false, rfl, rfl, rfl, rfl⟩, trivial⟩ rfl rfl) (fun j => outK_ret (ends_ret (by kernel_rfl))) fun _ => undef)) rfl
end
end Go.Proofs.YtpnkginbmoniiaaGreatDoor
end

/-! SeEqU -/
section
open Go Go.Ev Go.RowKit
open Extern.Stop
namespace Go.Proofs.YtpnkginbmoniiaaGreatDoor
noncomputable section
set_option maxRecDepth 100000
theorem u51_ : Tryz.prog.underlying 51 = some (.struct (Tryz.prog.fieldsOf 51)) := by kernel_rfl
theorem two23 (w : World) (l l' : List Int) (h : l.length = 8) (h' : l'.length = 8) : (Op.equalIn 9999 23 (.agg (l.map (Value.int .u8)).toArray) (.agg (l'.map (Value.int .u8)).toArray)).run Tryz.prog w = .ok (sameK l l') w := by
 have := run_equalIn_cells (P := Tryz.prog) w 9997 23 5 8 (u := .int .u8) rfl u23_ u5_ (fun w => size1 (by kernel_rfl) w) (l.map (Value.int .u8)) (l'.map (Value.int .u8)) (by simp [h]) (by simp [h']) (fun i => (l[i]?.getD 0) == (l'[i]?.getD 0)) (fun i x y hx hy => by
  rw [List.getElem?_map] at hx hy
  cases e1 : l[i]? with
  | none => rw [e1] at hx; simp at hx
  | some a =>
   cases e2 : l'[i]? with
   | none => rw [e2] at hy; simp at hy
   | some b =>
    rw [e1] at hx; rw [e2] at hy
    simp only [Option.map_some, Option.some.injEq] at hx hy
    subst hx hy
    exact run_equalIn_int w 9997 5 .u8 .u8 a b u5_)
 exact this
theorem eqTok2 (t m s0 s1 s2 s3 s4 s5 s6 s7 y0 y1 y2 y3 y4 y5 y6 y7 : Int) : EqOk E 51 ((tokV t m s0 s1 s2 s3 s4 s5 s6 s7).map AC.v) ((tokV t m y0 y1 y2 y3 y4 y5 y6 y7).map AC.v) (sameK [s0, s1, s2, s3, s4, s5, s6, s7] [y0, y1, y2, y3, y4, y5, y6, y7]) := by
 intro mm c1 c2 w g1 g2
 have e1 : c1 = (tokV t m s0 s1 s2 s3 s4 s5 s6 s7).toArray := by rw [← Array.toList_inj]; exact cells_of g1
 have e2 : c2 = (tokV t m y0 y1 y2 y3 y4 y5 y6 y7).toArray := by rw [← Array.toList_inj]; exact cells_of g2
 subst e1 e2
 show (Op.equalIn 10000 51 _ _).run Tryz.prog w = _
 rw [show (10000 : Nat) = 9999 + 1 from rfl, run_equalIn_struct w 9999 51 _ _ u51_ (by kernel_rfl)]
 have hfs : (Tryz.prog.fieldsOf 51).toList.map (fun f => (f.name == "_", f.type, f.offset)) = [(false, 3, 0), (false, 3, 1), (false, 23, 2)] := by kernel_rfl
 generalize (Tryz.prog.fieldsOf 51).toList = fs at hfs
 rcases fs with _ | ⟨f0, _ | ⟨f1, _ | ⟨f2, _ | ⟨f3, r⟩⟩⟩⟩
 ·simp at hfs
 ·simp at hfs
 ·simp at hfs
 ·simp only [List.map_cons, List.map_nil, List.cons.injEq, Prod.mk.injEq, and_true] at hfs
  obtain ⟨⟨a0, a1, a2⟩, ⟨b0, b1, b2⟩, c0, c1, c2⟩ := hfs
  have p0 : ∀ x0 x1 x2 x3 x4 x5 x6 x7, (part 3 (tokV t m x0 x1 x2 x3 x4 x5 x6 x7).toArray 0).run Tryz.prog w = .ok (.int .i64 t) w := fun _ _ _ _ _ _ _ _ => by simp [part, isAgg, run_underlying u3_]
  have p1 : ∀ x0 x1 x2 x3 x4 x5 x6 x7, (part 3 (tokV t m x0 x1 x2 x3 x4 x5 x6 x7).toArray 1).run Tryz.prog w = .ok (.int .i64 m) w := fun _ _ _ _ _ _ _ _ => by simp [part, isAgg, run_underlying u3_]
  have p2 : ∀ x0 x1 x2 x3 x4 x5 x6 x7, (part 23 (tokV t m x0 x1 x2 x3 x4 x5 x6 x7).toArray 2).run Tryz.prog w = .ok (.agg ([x0, x1, x2, x3, x4, x5, x6, x7].map (Value.int .u8)).toArray) w := fun _ _ _ _ _ _ _ _ => by simp [part, isAgg, run_underlying u23_]
  rw [eq_step Tryz.prog w (by simpa using a0) a1 a2 (p0 ..) (p0 ..) (q3_ w t t), beq_self_eq_true, if_pos rfl, eq_step Tryz.prog w (by simpa using b0) b1 b2 (p1 ..) (p1 ..) (q3_ w m m), beq_self_eq_true, if_pos rfl, eq_step Tryz.prog w (by simpa using c0) c1 c2 (p2 ..) (p2 ..) (two23 w _ _ rfl rfl)]
  generalize sameK _ _ = b
  cases b
  ·rfl
  ·rw [if_pos rfl, eq_nil]
 ·simp at hfs
end
end Go.Proofs.YtpnkginbmoniiaaGreatDoor
end

/-! SeTb -/
section
open Go Go.Ev
namespace Go.Proofs.YtpnkginbmoniiaaGreatDoor
noncomputable section
set_option maxRecDepth 100000
set_option maxHeartbeats 20000000
abbrev ztTb0 : List Item := [(.code (atC [1, 0, 1, 0, 0] (bodyOf Tryz.f99))), (.inLoop (atC [1, 0, 1, 0, 0] (bodyOf Tryz.f99))), (.inBlock 0), (.code (atC [1, 1] (bodyOf Tryz.f99)))]
def s140 (V : AccP) (_C U : List DT) (un _n _i : Nat) (ac _a _b _c : Bool) (_t m _e _f _g _h _k _z _w _p _q _s0 _s1 _s2 _s3 _s4 _s5 _s6 _s7 _x0 _x1 _x2 _x3 _x4 _x5 _x6 _x7 _y0 _y1 _y2 _y3 _y4 _y5 _y6 _y7 : Int) (_j : Nat → Value) : St := startK Tryz.f140 [] [(.e (.agg (zAc V ac U un))), iI m]
def s160 (_V : AccP) (_C _U : List DT) (_un _n _i : Nat) (_ac _a _b _c : Bool) (t m _e _f _g _h _k _z _w _p _q s0 s1 s2 s3 s4 s5 s6 s7 x0 x1 x2 x3 x4 x5 x6 x7 _y0 _y1 _y2 _y3 _y4 _y5 _y6 _y7 : Int) (_j : Nat → Value) : St := startK Tryz.f160 [] [(.e (.agg (zTk t m s0 s1 s2 s3 s4 s5 s6 s7))), (.e (.agg (zB8 x0 x1 x2 x3 x4 x5 x6 x7)))]
def s138 (V : AccP) (_C U : List DT) (un _n _i : Nat) (ac _a _b _c : Bool) (t m _e _f _g _h _k _z _w _p _q s0 s1 s2 s3 s4 s5 s6 s7 _x0 _x1 _x2 _x3 _x4 _x5 _x6 _x7 _y0 _y1 _y2 _y3 _y4 _y5 _y6 _y7 : Int) (_j : Nat → Value) : St := startK Tryz.f138 [] [(.e (.agg (zAc V ac U un))), (.e (.agg (zTk t m s0 s1 s2 s3 s4 s5 s6 s7)))]
def s98 (V : AccP) (_C U : List DT) (un _n _i : Nat) (ac _a _b _c : Bool) (t m _e _f _g _h _k _z _w _p _q s0 s1 s2 s3 s4 s5 s6 s7 _x0 _x1 _x2 _x3 _x4 _x5 _x6 _x7 _y0 _y1 _y2 _y3 _y4 _y5 _y6 _y7 : Int) (_j : Nat → Value) : St := startK Tryz.f98 [] [(.e (.agg (zAc V ac U un))), (.e (.agg (zTk t m s0 s1 s2 s3 s4 s5 s6 s7)))]
def s99 (_V : AccP) (C _U : List DT) (_un n _i : Nat) (_ac _a _b _c : Bool) (_t _m _e _f _g _h _k z _w _p _q _s0 _s1 _s2 _s3 _s4 _s5 _s6 _s7 _x0 _x1 _x2 _x3 _x4 _x5 _x6 _x7 _y0 _y1 _y2 _y3 _y4 _y5 _y6 _y7 : Int) (_j : Nat → Value) : St := startK Tryz.f99 [] [(.e (.one (.dp (.s C n 1)))), iI z]
def s92 (V : AccP) (_C U : List DT) (un _n _i : Nat) (ac _a _b _c : Bool) (t m _e _f _g _h _k _z _w _p _q s0 s1 s2 s3 s4 s5 s6 s7 _x0 _x1 _x2 _x3 _x4 _x5 _x6 _x7 _y0 _y1 _y2 _y3 _y4 _y5 _y6 _y7 : Int) (_j : Nat → Value) : St := startK Tryz.f92 [] [(.e (.agg (zAc V ac U un))), (.e (.agg (zTk t m s0 s1 s2 s3 s4 s5 s6 s7)))]
def q99 (_V : AccP) (C _U : List DT) (_un n i : Nat) (_ac _a _b _c : Bool) (_t _m _e _f _g _h _k z _w _p _q _s0 _s1 _s2 _s3 _s4 _s5 _s6 _s7 _x0 _x1 _x2 _x3 _x4 _x5 _x6 _x7 _y0 _y1 _y2 _y3 _y4 _y5 _y6 _y7 : Int) (j : Nat → Value) : St := ⟨[], ztTb0, mkT j [(0, (.e (.one (.dp (.s (C) (n) 1))))), (1, (iI (z))), (5, (iI (Int.ofNat i)))] 18 0⟩
def p140_end (_V : AccP) (_C : List DT) (_U : List DT) (_un _n _i : Nat) (_ac _a _b _c : Bool) (_t _m e _f _g _h _k _z _w _p _q _s0 _s1 _s2 _s3 _s4 _s5 _s6 _s7 _x0 _x1 _x2 _x3 _x4 _x5 _x6 _x7 _y0 _y1 _y2 _y3 _y4 _y5 _y6 _y7 : Int) (j : Nat → Value) : St := ⟨[], [(.code .ret)], mkT j [(4, (iI (e)))] 13 0⟩
theorem p140 (hE : EnvOk E) (V : AccP) (C : List DT) (U : List DT) (un n i : Nat) (ac a b c : Bool) (t m e f g h k z w p q s0 s1 s2 s3 s4 s5 s6 s7 x0 x1 x2 x3 x4 x5 x6 x7 y0 y1 y2 y3 y4 y5 y6 y7 : Int) (h0 : ((iI (wrapF IntKind.i64 (m * V.s))) : AV) = (iI (p))) (h1 : ((100 : Int) : Int) ≠ (0 : Int)) (h2 : (wrapF IntKind.i64 (p.tdiv (100 : Int)) : Int) = q) (h3 : ((iI (if q < V.d then q else V.d)) : AV) = (iI (e))) : Sg 0 0 (s140 V C U un n i ac a b c t m e f g h k z w p q s0 s1 s2 s3 s4 s5 s6 s7 x0 x1 x2 x3 x4 x5 x6 x7 y0 y1 y2 y3 y4 y5 y6 y7) (p140_end V C U un n i ac a b c t m e f g h k z w p q s0 s1 s2 s3 s4 s5 s6 s7 x0 x1 x2 x3 x4 x5 x6 x7 y0 y1 y2 y3 y4 y5 y6 y7) := fun ho j =>
 outK_seg hE (R0_ok hE) [.run 3, (.ops [(5, (.rn (iI (p)))), (6, (.quo (q))), (7, (.rn (iI (e))))] [])] [4] (s' := fun j => ⟨[(zBk (zAc V ac U un) 22 29)], [(.code .ret)], mkT j [(4, (iI (e)))] 13 0⟩) (fun j => by kernel_rfl) (aP h0 <| aP h1 <| aP h2 <| aP h3 <| aZ)
  fun j => outK_gc [] (by decide) (by kernel_rfl) (by kernel_rfl) (by kernel_rfl) (ho j)
def p160_end (_V : AccP) (_C : List DT) (_U : List DT) (_un _n _i : Nat) (_ac a _b _c : Bool) (_t _m _e _f _g _h _k _z _w _p _q _s0 _s1 _s2 _s3 _s4 _s5 _s6 _s7 _x0 _x1 _x2 _x3 _x4 _x5 _x6 _x7 _y0 _y1 _y2 _y3 _y4 _y5 _y6 _y7 : Int) (j : Nat → Value) : St := ⟨[], [(.code .ret)], mkT j [(4, (iB (a)))] 13 0⟩
theorem p160 (hE : EnvOk E) (V : AccP) (C : List DT) (U : List DT) (un n i : Nat) (ac a b c : Bool) (t m e f g h k z w p q s0 s1 s2 s3 s4 s5 s6 s7 x0 x1 x2 x3 x4 x5 x6 x7 y0 y1 y2 y3 y4 y5 y6 y7 : Int) (h0 : COut E 0 [] 100 [(.e (.agg (zB8 x0 x1 x2 x3 x4 x5 x6 x7))), (iI (t)), (iI (m))] (.e (.agg (zTk t m y0 y1 y2 y3 y4 y5 y6 y7))) []) (h3 : EqOk E 51 (zTk t m s0 s1 s2 s3 s4 s5 s6 s7) (zTk t m y0 y1 y2 y3 y4 y5 y6 y7) a) : Sg 0 0 (s160 V C U un n i ac a b c t m e f g h k z w p q s0 s1 s2 s3 s4 s5 s6 s7 x0 x1 x2 x3 x4 x5 x6 x7 y0 y1 y2 y3 y4 y5 y6 y7) (p160_end V C U un n i ac a b c t m e f g h k z w p q s0 s1 s2 s3 s4 s5 s6 s7 x0 x1 x2 x3 x4 x5 x6 x7 y0 y1 y2 y3 y4 y5 y6 y7) := fun ho j =>
 outK_seg hE (R0_ok hE) [.run 3, (.ops [(6, (.c0 (.e (.agg (zTk t m y0 y1 y2 y3 y4 y5 y6 y7))))), (7, (.eqs (a)))] [])] [4] (s' := fun j => ⟨[(zBk (zTk t m s0 s1 s2 s3 s4 s5 s6 s7) 10 51), (zBk (zB8 x0 x1 x2 x3 x4 x5 x6 x7) 8 23)], [(.code .ret)], mkT j [(4, (iB (a)))] 13 0⟩) (fun j => by kernel_rfl) (aP h0 <| aN <| aP (rfl : (true : Bool) = true) <| aP h3 <| aZ)
  fun j => outK_gc [] (by decide) (by kernel_rfl) (by kernel_rfl) (by kernel_rfl) (ho j)
def p138t_end (_V : AccP) (_C : List DT) (_U : List DT) (_un _n _i : Nat) (_ac _a _b _c : Bool) (_t _m _e _f _g _h _k _z _w _p _q _s0 _s1 _s2 _s3 _s4 _s5 _s6 _s7 _x0 _x1 _x2 _x3 _x4 _x5 _x6 _x7 _y0 _y1 _y2 _y3 _y4 _y5 _y6 _y7 : Int) (j : Nat → Value) : St := ⟨[], [(.code .ret)], mkT j [(4, (iB true))] 19 0⟩
theorem p138t (hE : EnvOk E) (V : AccP) (C : List DT) (U : List DT) (un n i : Nat) (ac a b c : Bool) (t m e f g h k z w p q s0 s1 s2 s3 s4 s5 s6 s7 x0 x1 x2 x3 x4 x5 x6 x7 y0 y1 y2 y3 y4 y5 y6 y7 : Int) (h0 : COut E 0 [] 160 [(.e (.agg (zTk t m s0 s1 s2 s3 s4 s5 s6 s7))), (.e (.agg (zB8 V.k0 V.k1 V.k2 V.k3 V.k4 V.k5 V.k6 V.k7)))] (iB (a)) []) (h2 : (a == false : Bool) = (nat_lit 5, false).snd) (h3 : (a == false : Bool) = (nat_lit 6, false).snd) (h4 : (a == false : Bool) = (nat_lit 7, false).snd) (h5 : (a == false : Bool) = (nat_lit 12, false).snd) (h6 : (a : Bool) = true) : Sg 0 0 (s138 V C U un n i ac a b c t m e f g h k z w p q s0 s1 s2 s3 s4 s5 s6 s7 x0 x1 x2 x3 x4 x5 x6 x7 y0 y1 y2 y3 y4 y5 y6 y7) (p138t_end V C U un n i ac a b c t m e f g h k z w p q s0 s1 s2 s3 s4 s5 s6 s7 x0 x1 x2 x3 x4 x5 x6 x7 y0 y1 y2 y3 y4 y5 y6 y7) := fun ho j =>
 outK_seg hE (R0_ok hE) [.run 3, (.ops [(3, (.c0 (iB (a)))), (11, (.c0 (iB (b)))), (13, (.pk true))] [(5, false), (6, false), (7, false), (12, false)])] [4] (s' := fun j => ⟨[(zBk (zAc V ac U un) 22 29), (zBk (zTk t m s0 s1 s2 s3 s4 s5 s6 s7) 10 51)], [(.code .ret)], mkT j [(4, (iB true))] 19 0⟩) (fun j => by kernel_rfl) (aP h0 <| aN <| aP h2 <| aP h3 <| aP h4 <| aP h5 <| aP h6 <| aZ)
  fun j => outK_gc [] (by decide) (by kernel_rfl) (by kernel_rfl) (by kernel_rfl) (ho j)
def p138f_end (_V : AccP) (_C : List DT) (_U : List DT) (_un _n _i : Nat) (_ac _a _b _c : Bool) (_t _m _e _f _g _h _k _z _w _p _q _s0 _s1 _s2 _s3 _s4 _s5 _s6 _s7 _x0 _x1 _x2 _x3 _x4 _x5 _x6 _x7 _y0 _y1 _y2 _y3 _y4 _y5 _y6 _y7 : Int) (j : Nat → Value) : St := ⟨[], [(.code .ret)], mkT j [(4, (iB false))] 19 0⟩
theorem p138f (hE : EnvOk E) (V : AccP) (C : List DT) (U : List DT) (un n i : Nat) (ac a b c : Bool) (t m e f g h k z w p q s0 s1 s2 s3 s4 s5 s6 s7 x0 x1 x2 x3 x4 x5 x6 x7 y0 y1 y2 y3 y4 y5 y6 y7 : Int) (h0 : COut E 0 [] 160 [(.e (.agg (zTk t m s0 s1 s2 s3 s4 s5 s6 s7))), (.e (.agg (zB8 V.k0 V.k1 V.k2 V.k3 V.k4 V.k5 V.k6 V.k7)))] (iB (a)) []) (h2 : (a == false : Bool) = (nat_lit 5, true).snd) (h3 : (a == false : Bool) = (nat_lit 6, true).snd) (h4 : (a == false : Bool) = (nat_lit 7, true).snd) (h5 : (ac == true : Bool) = (nat_lit 8, false).snd) (h6 : (ac == true : Bool) = (nat_lit 9, false).snd) (h7 : (ac == true : Bool) = (nat_lit 10, false).snd) (h8 : (ac == true : Bool) = (nat_lit 11, false).snd) (h9 : (a == false : Bool) = (nat_lit 12, true).snd) (h10 : (ac : Bool) = false) (h11 : (a : Bool) = false) : Sg 0 0 (s138 V C U un n i ac a b c t m e f g h k z w p q s0 s1 s2 s3 s4 s5 s6 s7 x0 x1 x2 x3 x4 x5 x6 x7 y0 y1 y2 y3 y4 y5 y6 y7) (p138f_end V C U un n i ac a b c t m e f g h k z w p q s0 s1 s2 s3 s4 s5 s6 s7 x0 x1 x2 x3 x4 x5 x6 x7 y0 y1 y2 y3 y4 y5 y6 y7) := fun ho j =>
 outK_seg hE (R0_ok hE) [.run 3, (.ops [(3, (.c0 (iB (a)))), (11, (.c0 (iB (b)))), (12, (.pk false)), (13, (.pk false))] [(5, true), (6, true), (7, true), (8, false), (9, false), (10, false), (11, false), (12, true)])] [4] (s' := fun j => ⟨[(zBk (zAc V ac U un) 22 29), (zBk (zTk t m s0 s1 s2 s3 s4 s5 s6 s7) 10 51)], [(.code .ret)], mkT j [(4, (iB false))] 19 0⟩) (fun j => by kernel_rfl) (aP h0 <| aN <| aP h2 <| aP h3 <| aP h4 <| aP h5 <| aP h6 <| aP h7 <| aP h8 <| aP h9 <| aP h10 <| aP h11 <| aZ)
  fun j => outK_gc [] (by decide) (by kernel_rfl) (by kernel_rfl) (by kernel_rfl) (ho j)
def p138c_end (_V : AccP) (_C : List DT) (_U : List DT) (_un _n _i : Nat) (_ac _a b _c : Bool) (_t _m _e _f _g _h _k _z _w _p _q _s0 _s1 _s2 _s3 _s4 _s5 _s6 _s7 _x0 _x1 _x2 _x3 _x4 _x5 _x6 _x7 _y0 _y1 _y2 _y3 _y4 _y5 _y6 _y7 : Int) (j : Nat → Value) : St := ⟨[], [(.code .ret)], mkT j [(4, (iB (b)))] 19 0⟩
theorem p138c (hE : EnvOk E) (V : AccP) (C : List DT) (U : List DT) (un n i : Nat) (ac a b c : Bool) (t m e f g h k z w p q s0 s1 s2 s3 s4 s5 s6 s7 x0 x1 x2 x3 x4 x5 x6 x7 y0 y1 y2 y3 y4 y5 y6 y7 : Int) (h0 : COut E 0 [] 160 [(.e (.agg (zTk t m s0 s1 s2 s3 s4 s5 s6 s7))), (.e (.agg (zB8 V.k0 V.k1 V.k2 V.k3 V.k4 V.k5 V.k6 V.k7)))] (iB (a)) []) (h2 : (a == false : Bool) = (nat_lit 5, true).snd) (h3 : (a == false : Bool) = (nat_lit 6, true).snd) (h4 : (a == false : Bool) = (nat_lit 7, true).snd) (h5 : (ac == true : Bool) = (nat_lit 8, true).snd) (h6 : (ac == true : Bool) = (nat_lit 9, true).snd) (h7 : (ac == true : Bool) = (nat_lit 10, true).snd) (h8 : (ac == true : Bool) = (nat_lit 11, true).snd) (h9 : COut E 0 [] 160 [(.e (.agg (zTk t m s0 s1 s2 s3 s4 s5 s6 s7))), (.e (.agg (zB8 V.m0 V.m1 V.m2 V.m3 V.m4 V.m5 V.m6 V.m7)))] (iB (b)) []) (h11 : (a == false : Bool) = (nat_lit 12, true).snd) (h12 : (ac : Bool) = true) (h13 : (a : Bool) = false) : Sg 0 0 (s138 V C U un n i ac a b c t m e f g h k z w p q s0 s1 s2 s3 s4 s5 s6 s7 x0 x1 x2 x3 x4 x5 x6 x7 y0 y1 y2 y3 y4 y5 y6 y7) (p138c_end V C U un n i ac a b c t m e f g h k z w p q s0 s1 s2 s3 s4 s5 s6 s7 x0 x1 x2 x3 x4 x5 x6 x7 y0 y1 y2 y3 y4 y5 y6 y7) := fun ho j =>
 outK_seg hE (R0_ok hE) [.run 3, (.ops [(3, (.c0 (iB (a)))), (11, (.c0 (iB (b)))), (12, (.pk true)), (13, (.pk false))] [(5, true), (6, true), (7, true), (8, true), (9, true), (10, true), (11, true), (12, true)])] [4] (s' := fun j => ⟨[(zBk (zAc V ac U un) 22 29), (zBk (zTk t m s0 s1 s2 s3 s4 s5 s6 s7) 10 51)], [(.code .ret)], mkT j [(4, (iB (b)))] 19 0⟩) (fun j => by kernel_rfl) (aP h0 <| aN <| aP h2 <| aP h3 <| aP h4 <| aP h5 <| aP h6 <| aP h7 <| aP h8 <| aP h9 <| aN <| aP h11 <| aP h12 <| aP h13 <| aZ)
  fun j => outK_gc [] (by decide) (by kernel_rfl) (by kernel_rfl) (by kernel_rfl) (ho j)
def p98t_end (_V : AccP) (_C : List DT) (_U : List DT) (_un _n _i : Nat) (_ac _a _b _c : Bool) (_t _m _e _f _g _h _k _z _w _p _q _s0 _s1 _s2 _s3 _s4 _s5 _s6 _s7 _x0 _x1 _x2 _x3 _x4 _x5 _x6 _x7 _y0 _y1 _y2 _y3 _y4 _y5 _y6 _y7 : Int) (j : Nat → Value) : St := ⟨[], [(.code .ret)], mkT j [(4, (iB true))] 31 0⟩
theorem p98t (hE : EnvOk E) (V : AccP) (C : List DT) (U : List DT) (un n i : Nat) (ac a b c : Bool) (t m e f g h k z w p q s0 s1 s2 s3 s4 s5 s6 s7 x0 x1 x2 x3 x4 x5 x6 x7 y0 y1 y2 y3 y4 y5 y6 y7 : Int) (h0 : COut E 0 [] 103 [(.e (.agg (zB8 V.k0 V.k1 V.k2 V.k3 V.k4 V.k5 V.k6 V.k7))), (iI (t)), (iI (m))] (.e (.agg (zB8 y0 y1 y2 y3 y4 y5 y6 y7))) []) (h2 : EqOk E 23 (zB8 s0 s1 s2 s3 s4 s5 s6 s7) (zB8 y0 y1 y2 y3 y4 y5 y6 y7) a) (h3 : (a == false : Bool) = (nat_lit 11, false).snd) (h4 : (a == false : Bool) = (nat_lit 12, false).snd) (h5 : (a == false : Bool) = (nat_lit 13, false).snd) (h7 : (a == false : Bool) = (nat_lit 24, false).snd) (h8 : (a : Bool) = true) : Sg 0 0 (s98 V C U un n i ac a b c t m e f g h k z w p q s0 s1 s2 s3 s4 s5 s6 s7 x0 x1 x2 x3 x4 x5 x6 x7 y0 y1 y2 y3 y4 y5 y6 y7) (p98t_end V C U un n i ac a b c t m e f g h k z w p q s0 s1 s2 s3 s4 s5 s6 s7 x0 x1 x2 x3 x4 x5 x6 x7 y0 y1 y2 y3 y4 y5 y6 y7) := fun ho j =>
 outK_seg hE (R0_ok hE) [.run 3, (.ops [(8, (.c0 (.e (.agg (zB8 y0 y1 y2 y3 y4 y5 y6 y7))))), (9, (.eqs (a))), (22, (.c0 (.e (.agg (zB8 x0 x1 x2 x3 x4 x5 x6 x7))))), (23, (.eqs (b))), (25, (.pk true))] [(11, false), (12, false), (13, false), (24, false)])] [4] (s' := fun j => ⟨[(zBk (zAc V ac U un) 22 26), (zBk (zTk t m s0 s1 s2 s3 s4 s5 s6 s7) 10 48)], [(.code .ret)], mkT j [(4, (iB true))] 31 0⟩) (fun j => by kernel_rfl) (aP h0 <| aN <| aP h2 <| aP h3 <| aP h4 <| aP h5 <| aP (rfl : (true : Bool) = true) <| aP h7 <| aP h8 <| aZ)
  fun j => outK_gc [] (by decide) (by kernel_rfl) (by kernel_rfl) (by kernel_rfl) (ho j)
def p98f_end (_V : AccP) (_C : List DT) (_U : List DT) (_un _n _i : Nat) (_ac _a _b _c : Bool) (_t _m _e _f _g _h _k _z _w _p _q _s0 _s1 _s2 _s3 _s4 _s5 _s6 _s7 _x0 _x1 _x2 _x3 _x4 _x5 _x6 _x7 _y0 _y1 _y2 _y3 _y4 _y5 _y6 _y7 : Int) (j : Nat → Value) : St := ⟨[], [(.code .ret)], mkT j [(4, (iB false))] 31 0⟩
theorem p98f (hE : EnvOk E) (V : AccP) (C : List DT) (U : List DT) (un n i : Nat) (ac a b c : Bool) (t m e f g h k z w p q s0 s1 s2 s3 s4 s5 s6 s7 x0 x1 x2 x3 x4 x5 x6 x7 y0 y1 y2 y3 y4 y5 y6 y7 : Int) (h0 : COut E 0 [] 103 [(.e (.agg (zB8 V.k0 V.k1 V.k2 V.k3 V.k4 V.k5 V.k6 V.k7))), (iI (t)), (iI (m))] (.e (.agg (zB8 y0 y1 y2 y3 y4 y5 y6 y7))) []) (h2 : EqOk E 23 (zB8 s0 s1 s2 s3 s4 s5 s6 s7) (zB8 y0 y1 y2 y3 y4 y5 y6 y7) a) (h3 : (a == false : Bool) = (nat_lit 11, true).snd) (h4 : (a == false : Bool) = (nat_lit 12, true).snd) (h5 : (a == false : Bool) = (nat_lit 13, true).snd) (h6 : (ac == true : Bool) = (nat_lit 14, false).snd) (h7 : (ac == true : Bool) = (nat_lit 15, false).snd) (h8 : (ac == true : Bool) = (nat_lit 16, false).snd) (h9 : (ac == true : Bool) = (nat_lit 17, false).snd) (h10 : (ac == true : Bool) = (nat_lit 18, false).snd) (h11 : (ac == true : Bool) = (nat_lit 19, false).snd) (h12 : (ac == true : Bool) = (nat_lit 20, false).snd) (h13 : (ac == true : Bool) = (nat_lit 21, false).snd) (h14 : (ac == true : Bool) = (nat_lit 22, false).snd) (h16 : (ac == true : Bool) = (nat_lit 23, false).snd) (h17 : (a == false : Bool) = (nat_lit 24, true).snd) (h18 : (ac : Bool) = false) (h19 : (a : Bool) = false) : Sg 0 0 (s98 V C U un n i ac a b c t m e f g h k z w p q s0 s1 s2 s3 s4 s5 s6 s7 x0 x1 x2 x3 x4 x5 x6 x7 y0 y1 y2 y3 y4 y5 y6 y7) (p98f_end V C U un n i ac a b c t m e f g h k z w p q s0 s1 s2 s3 s4 s5 s6 s7 x0 x1 x2 x3 x4 x5 x6 x7 y0 y1 y2 y3 y4 y5 y6 y7) := fun ho j =>
 outK_seg hE (R0_ok hE) [.run 3, (.ops [(8, (.c0 (.e (.agg (zB8 y0 y1 y2 y3 y4 y5 y6 y7))))), (9, (.eqs (a))), (22, (.c0 (.e (.agg (zB8 x0 x1 x2 x3 x4 x5 x6 x7))))), (23, (.eqs (b))), (24, (.pk false)), (25, (.pk false))] [(11, true), (12, true), (13, true), (14, false), (15, false), (16, false), (17, false), (18, false), (19, false), (20, false), (21, false), (22, false), (23, false), (24, true)])] [4] (s' := fun j => ⟨[(zBk (zAc V ac U un) 22 26), (zBk (zTk t m s0 s1 s2 s3 s4 s5 s6 s7) 10 48)], [(.code .ret)], mkT j [(4, (iB false))] 31 0⟩) (fun j => by kernel_rfl) (aP h0 <| aN <| aP h2 <| aP h3 <| aP h4 <| aP h5 <| aP h6 <| aP h7 <| aP h8 <| aP h9 <| aP h10 <| aP h11 <| aP h12 <| aP h13 <| aP h14 <| aP (rfl : (true : Bool) = true) <| aP h16 <| aP h17 <| aP h18 <| aP h19 <| aZ)
  fun j => outK_gc [] (by decide) (by kernel_rfl) (by kernel_rfl) (by kernel_rfl) (ho j)
def p98c_end (_V : AccP) (_C : List DT) (_U : List DT) (_un _n _i : Nat) (_ac _a b _c : Bool) (_t _m _e _f _g _h _k _z _w _p _q _s0 _s1 _s2 _s3 _s4 _s5 _s6 _s7 _x0 _x1 _x2 _x3 _x4 _x5 _x6 _x7 _y0 _y1 _y2 _y3 _y4 _y5 _y6 _y7 : Int) (j : Nat → Value) : St := ⟨[], [(.code .ret)], mkT j [(4, (iB (b)))] 31 0⟩
theorem p98c (hE : EnvOk E) (V : AccP) (C : List DT) (U : List DT) (un n i : Nat) (ac a b c : Bool) (t m e f g h k z w p q s0 s1 s2 s3 s4 s5 s6 s7 x0 x1 x2 x3 x4 x5 x6 x7 y0 y1 y2 y3 y4 y5 y6 y7 : Int) (h0 : COut E 0 [] 103 [(.e (.agg (zB8 V.k0 V.k1 V.k2 V.k3 V.k4 V.k5 V.k6 V.k7))), (iI (t)), (iI (m))] (.e (.agg (zB8 y0 y1 y2 y3 y4 y5 y6 y7))) []) (h2 : EqOk E 23 (zB8 s0 s1 s2 s3 s4 s5 s6 s7) (zB8 y0 y1 y2 y3 y4 y5 y6 y7) a) (h3 : (a == false : Bool) = (nat_lit 11, true).snd) (h4 : (a == false : Bool) = (nat_lit 12, true).snd) (h5 : (a == false : Bool) = (nat_lit 13, true).snd) (h6 : (ac == true : Bool) = (nat_lit 14, true).snd) (h7 : (ac == true : Bool) = (nat_lit 15, true).snd) (h8 : (ac == true : Bool) = (nat_lit 16, true).snd) (h9 : (ac == true : Bool) = (nat_lit 17, true).snd) (h10 : (ac == true : Bool) = (nat_lit 18, true).snd) (h11 : (ac == true : Bool) = (nat_lit 19, true).snd) (h12 : (ac == true : Bool) = (nat_lit 20, true).snd) (h13 : (ac == true : Bool) = (nat_lit 21, true).snd) (h14 : (ac == true : Bool) = (nat_lit 22, true).snd) (h15 : COut E 0 [] 103 [(.e (.agg (zB8 V.m0 V.m1 V.m2 V.m3 V.m4 V.m5 V.m6 V.m7))), (iI (t)), (iI (m))] (.e (.agg (zB8 x0 x1 x2 x3 x4 x5 x6 x7))) []) (h18 : (ac == true : Bool) = (nat_lit 23, true).snd) (h19 : EqOk E 23 (zB8 s0 s1 s2 s3 s4 s5 s6 s7) (zB8 x0 x1 x2 x3 x4 x5 x6 x7) b) (h20 : (a == false : Bool) = (nat_lit 24, true).snd) (h21 : (ac : Bool) = true) (h22 : (a : Bool) = false) : Sg 0 0 (s98 V C U un n i ac a b c t m e f g h k z w p q s0 s1 s2 s3 s4 s5 s6 s7 x0 x1 x2 x3 x4 x5 x6 x7 y0 y1 y2 y3 y4 y5 y6 y7) (p98c_end V C U un n i ac a b c t m e f g h k z w p q s0 s1 s2 s3 s4 s5 s6 s7 x0 x1 x2 x3 x4 x5 x6 x7 y0 y1 y2 y3 y4 y5 y6 y7) := fun ho j =>
 outK_seg hE (R0_ok hE) [.run 3, (.ops [(8, (.c0 (.e (.agg (zB8 y0 y1 y2 y3 y4 y5 y6 y7))))), (9, (.eqs (a))), (22, (.c0 (.e (.agg (zB8 x0 x1 x2 x3 x4 x5 x6 x7))))), (23, (.eqs (b))), (24, (.pk true)), (25, (.pk false))] [(11, true), (12, true), (13, true), (14, true), (15, true), (16, true), (17, true), (18, true), (19, true), (20, true), (21, true), (22, true), (23, true), (24, true)])] [4] (s' := fun j => ⟨[(zBk (zAc V ac U un) 22 26), (zBk (zTk t m s0 s1 s2 s3 s4 s5 s6 s7) 10 48)], [(.code .ret)], mkT j [(4, (iB (b)))] 31 0⟩) (fun j => by kernel_rfl) (aP h0 <| aN <| aP h2 <| aP h3 <| aP h4 <| aP h5 <| aP h6 <| aP h7 <| aP h8 <| aP h9 <| aP h10 <| aP h11 <| aP h12 <| aP h13 <| aP h14 <| aP h15 <| aN <| aP (rfl : (true : Bool) = true) <| aP h18 <| aP h19 <| aP h20 <| aP h21 <| aP h22 <| aZ)
  fun j => outK_gc [] (by decide) (by kernel_rfl) (by kernel_rfl) (by kernel_rfl) (ho j)
def p99a_end (_V : AccP) (C : List DT) (_U : List DT) (_un n _i : Nat) (_ac _a _b _c : Bool) (_t _m _e _f _g _h _k z _w _p _q _s0 _s1 _s2 _s3 _s4 _s5 _s6 _s7 _x0 _x1 _x2 _x3 _x4 _x5 _x6 _x7 _y0 _y1 _y2 _y3 _y4 _y5 _y6 _y7 : Int) (j : Nat → Value) : St := ⟨[], ztTb0, mkT j [(0, (.e (.one (.dp (.s (C) (n) 1))))), (1, (iI (z))), (5, (iI 0))] 18 0⟩
theorem p99a (hE : EnvOk E) (V : AccP) (C : List DT) (U : List DT) (un n i : Nat) (ac a b c : Bool) (t m e f g h k z w p q s0 s1 s2 s3 s4 s5 s6 s7 x0 x1 x2 x3 x4 x5 x6 x7 y0 y1 y2 y3 y4 y5 y6 y7 : Int) : Sg 0 0 (s99 V C U un n i ac a b c t m e f g h k z w p q s0 s1 s2 s3 s4 s5 s6 s7 x0 x1 x2 x3 x4 x5 x6 x7 y0 y1 y2 y3 y4 y5 y6 y7) (p99a_end V C U un n i ac a b c t m e f g h k z w p q s0 s1 s2 s3 s4 s5 s6 s7 x0 x1 x2 x3 x4 x5 x6 x7 y0 y1 y2 y3 y4 y5 y6 y7) := fun ho j =>
 outK_seg hE (R0_ok hE) [.run 7] [0, 1, 5] (ps := []) (fun j => by kernel_rfl) trivial
  ho
def p99s_end (_V : AccP) (C : List DT) (_U : List DT) (_un n i : Nat) (_ac _a _b _c : Bool) (_t _m _e _f _g _h _k z _w _p _q _s0 _s1 _s2 _s3 _s4 _s5 _s6 _s7 _x0 _x1 _x2 _x3 _x4 _x5 _x6 _x7 _y0 _y1 _y2 _y3 _y4 _y5 _y6 _y7 : Int) (j : Nat → Value) : St := ⟨[], ztTb0, mkT j [(0, (.e (.one (.dp (.s (C) (n) 1))))), (1, (iI (z))), (5, (iI (Int.ofNat (i + 1))))] 18 0⟩
theorem p99s (hE : EnvOk E) (V : AccP) (C : List DT) (U : List DT) (un n i : Nat) (ac a b c : Bool) (t m e f g h k z w p q s0 s1 s2 s3 s4 s5 s6 s7 x0 x1 x2 x3 x4 x5 x6 x7 y0 y1 y2 y3 y4 y5 y6 y7 : Int) (h0 : (decide (Int.ofNat i < (↑n : Int)) : Bool) = true) (h1 : (0 : Int) ≤ Int.ofNat i ∧ Int.ofNat i < (↑n : Int)) (h2 : ((Int.ofNat i).toNat * nat_lit 1 : Nat) = i) (h3 : (getL C i : Option DT) = (.some (.v (.int .i64 w)))) (h4 : (w == z : Bool) = false) (h5 : ((iI (wrapF IntKind.i64 (Int.ofNat i + (1 : Int)))) : AV) = (iI (Int.ofNat (i + 1)))) : Sg 0 0 (q99 V C U un n i ac a b c t m e f g h k z w p q s0 s1 s2 s3 s4 s5 s6 s7 x0 x1 x2 x3 x4 x5 x6 x7 y0 y1 y2 y3 y4 y5 y6 y7) (p99s_end V C U un n i ac a b c t m e f g h k z w p q s0 s1 s2 s3 s4 s5 s6 s7 x0 x1 x2 x3 x4 x5 x6 x7 y0 y1 y2 y3 y4 y5 y6 y7) := fun ho j =>
 outK_seg hE (R0_ok hE) [.run 2, (.ops [(2, (.d .len))] []), (.cond true), .run 4, (.ops [(3, (.d (.ld (.v (.int .i64 w))))), (2, (.d (.ix (i))))] []), (.cond false), .run 2, (.ops [(1, (.rn (iI (Int.ofNat (i + 1)))))] []), .run 1] [0, 1, 5] (fun j => by kernel_rfl) (aP h0 <| aP h1 <| aP h2 <| aP h3 <| aP h4 <| aP h5 <| aZ)
  ho
def p99f_end (_V : AccP) (_C : List DT) (_U : List DT) (_un _n _i : Nat) (_ac _a _b _c : Bool) (_t _m _e _f _g _h _k _z _w _p _q _s0 _s1 _s2 _s3 _s4 _s5 _s6 _s7 _x0 _x1 _x2 _x3 _x4 _x5 _x6 _x7 _y0 _y1 _y2 _y3 _y4 _y5 _y6 _y7 : Int) (j : Nat → Value) : St := ⟨[], [(.code .ret), (.inBlock 1), (.code (atC [1, 0, 1, 0, 0, 1, 1] (bodyOf Tryz.f99))), (.inLoop (atC [1, 0, 1, 0, 0] (bodyOf Tryz.f99))), (.inBlock 0), (.code (atC [1, 1] (bodyOf Tryz.f99)))], mkT j [(4, (iB true))] 18 0⟩
theorem p99f (hE : EnvOk E) (V : AccP) (C : List DT) (U : List DT) (un n i : Nat) (ac a b c : Bool) (t m e f g h k z w p q s0 s1 s2 s3 s4 s5 s6 s7 x0 x1 x2 x3 x4 x5 x6 x7 y0 y1 y2 y3 y4 y5 y6 y7 : Int) (h0 : (decide (Int.ofNat i < (↑n : Int)) : Bool) = true) (h1 : (0 : Int) ≤ Int.ofNat i ∧ Int.ofNat i < (↑n : Int)) (h2 : ((Int.ofNat i).toNat * nat_lit 1 : Nat) = i) (h3 : (getL C i : Option DT) = (.some (.v (.int .i64 w)))) (h4 : (w == z : Bool) = true) : Sg 0 0 (q99 V C U un n i ac a b c t m e f g h k z w p q s0 s1 s2 s3 s4 s5 s6 s7 x0 x1 x2 x3 x4 x5 x6 x7 y0 y1 y2 y3 y4 y5 y6 y7) (p99f_end V C U un n i ac a b c t m e f g h k z w p q s0 s1 s2 s3 s4 s5 s6 s7 x0 x1 x2 x3 x4 x5 x6 x7 y0 y1 y2 y3 y4 y5 y6 y7) := fun ho j =>
 outK_seg hE (R0_ok hE) [.run 2, (.ops [(2, (.d .len))] []), (.cond true), .run 4, (.ops [(3, (.d (.ld (.v (.int .i64 w))))), (2, (.d (.ix (i))))] []), (.cond true), .run 2] [4] (fun j => by kernel_rfl) (aP h0 <| aP h1 <| aP h2 <| aP h3 <| aP h4 <| aZ)
  ho
def p99x_end (_V : AccP) (_C : List DT) (_U : List DT) (_un _n _i : Nat) (_ac _a _b _c : Bool) (_t _m _e _f _g _h _k _z _w _p _q _s0 _s1 _s2 _s3 _s4 _s5 _s6 _s7 _x0 _x1 _x2 _x3 _x4 _x5 _x6 _x7 _y0 _y1 _y2 _y3 _y4 _y5 _y6 _y7 : Int) (j : Nat → Value) : St := ⟨[], [(.code .ret)], mkT j [(4, (iB false))] 18 0⟩
theorem p99x (hE : EnvOk E) (V : AccP) (C : List DT) (U : List DT) (un n i : Nat) (ac a b c : Bool) (t m e f g h k z w p q s0 s1 s2 s3 s4 s5 s6 s7 x0 x1 x2 x3 x4 x5 x6 x7 y0 y1 y2 y3 y4 y5 y6 y7 : Int) (h0 : (decide (Int.ofNat i < (↑n : Int)) : Bool) = false) : Sg 0 0 (q99 V C U un n i ac a b c t m e f g h k z w p q s0 s1 s2 s3 s4 s5 s6 s7 x0 x1 x2 x3 x4 x5 x6 x7 y0 y1 y2 y3 y4 y5 y6 y7) (p99x_end V C U un n i ac a b c t m e f g h k z w p q s0 s1 s2 s3 s4 s5 s6 s7 x0 x1 x2 x3 x4 x5 x6 x7 y0 y1 y2 y3 y4 y5 y6 y7) := fun ho j =>
 outK_seg hE (R0_ok hE) [.run 2, (.ops [(2, (.d .len))] []), (.cond false), .run 3] [4] (fun j => by kernel_rfl) (aP h0 <| aZ)
  ho
def p92_end (_V : AccP) (_C : List DT) (_U : List DT) (_un _n _i : Nat) (_ac _a _b _c : Bool) (_t _m _e _f _g _h k _z _w _p _q _s0 _s1 _s2 _s3 _s4 _s5 _s6 _s7 _x0 _x1 _x2 _x3 _x4 _x5 _x6 _x7 _y0 _y1 _y2 _y3 _y4 _y5 _y6 _y7 : Int) (j : Nat → Value) : St := ⟨[], [(.code .ret)], mkT j [(4, (iI (k)))] 34 0⟩
theorem p92 (hE : EnvOk E) (V : AccP) (C : List DT) (U : List DT) (un n i : Nat) (ac a b c : Bool) (t m e f g h k z w p q s0 s1 s2 s3 s4 s5 s6 s7 x0 x1 x2 x3 x4 x5 x6 x7 y0 y1 y2 y3 y4 y5 y6 y7 : Int) (h0 : COut E 0 [] 138 [(.e (.agg (zAc V ac U un))), (.e (.agg (zTk t m s0 s1 s2 s3 s4 s5 s6 s7)))] (iB (a)) []) (h2 : COut E 0 [] 78 [(iB (!a)), (iI 27)] (iI (e)) []) (h4 : COut E 0 [] 139 [(.e (.agg (zAc V ac U un))), (iI (t))] (iB (b)) []) (h6 : COut E 0 [] 78 [(iB (b)), (iI 9)] (iI (f)) []) (h8 : COut E 0 [] 78 [(iB (decide ((↑un : Int) ≥ (256 : Int)))), (iI 5)] (iI (g)) []) (h10 : ((iI (wrapF IntKind.i64 (V.b + m))) : AV) = (iI (p))) (h11 : COut E 0 [] 140 [(.e (.agg (zAc V ac U un))), (iI (m))] (iI (q)) []) (h14 : ((iI (wrapF IntKind.i64 (p - q))) : AV) = (iI (w))) (h15 : COut E 0 [] 78 [(iB (decide (w > (1000000000000 : Int)))), (iI 4)] (iI (h)) []) (h17 : COut E 3 [(zBk (zAc V ac U un) 22 29), (zBk (zTk t m s0 s1 s2 s3 s4 s5 s6 s7) 10 51), (zBk [.v (.int .i64 e), .v (.int .i64 f), .v (.int .i64 g), .v (.int .i64 h)] 4 30)] 76 [(.e (.one (.slc 2 0 4 1 4 true)))] (iI (k)) [(zBk (zAc V ac U un) 22 29), (zBk (zTk t m s0 s1 s2 s3 s4 s5 s6 s7) 10 51), (zBk [.v (.int .i64 e), .v (.int .i64 f), .v (.int .i64 g), .v (.int .i64 h)] 4 30)]) : Sg 0 0 (s92 V C U un n i ac a b c t m e f g h k z w p q s0 s1 s2 s3 s4 s5 s6 s7 x0 x1 x2 x3 x4 x5 x6 x7 y0 y1 y2 y3 y4 y5 y6 y7) (p92_end V C U un n i ac a b c t m e f g h k z w p q s0 s1 s2 s3 s4 s5 s6 s7 x0 x1 x2 x3 x4 x5 x6 x7 y0 y1 y2 y3 y4 y5 y6 y7) := fun ho j =>
 outK_seg hE (R0_ok hE) [.run 3, (.ops [(2, (.c0 (iB (a)))), (4, (.c0 (iI (e)))), (8, (.c0 (iB (b)))), (9, (.c0 (iI (f)))), (14, (.c0 (iI (g)))), (19, (.rn (iI (p)))), (23, (.c0 (iI (q)))), (24, (.rn (iI (w)))), (26, (.c0 (iI (h)))), (28, (.d (.c1 (iI (k))))), (12, (.d .len))] [])] [4] (s' := fun j => ⟨[(zBk (zAc V ac U un) 22 29), (zBk (zTk t m s0 s1 s2 s3 s4 s5 s6 s7) 10 51), (zBk [.v (.int .i64 e), .v (.int .i64 f), .v (.int .i64 g), .v (.int .i64 h)] 4 30)], [(.code .ret)], mkT j [(4, (iI (k)))] 34 0⟩) (fun j => by kernel_rfl) (aP h0 <| aN <| aP h2 <| aN <| aP h4 <| aN <| aP h6 <| aN <| aP h8 <| aN <| aP h10 <| aP h11 <| aN <| aP (rfl : (true : Bool) = true) <| aP h14 <| aP h15 <| aN <| aP h17 <| aN <| aZ)
  fun j => outK_gc [] (by decide) (by kernel_rfl) (by kernel_rfl) (by kernel_rfl) (ho j)
abbrev sb (j x t m : Int) : Int := sealB j x [oct3 t, oct2 t, oct1 t, oct0 t, oct3 m, oct2 m, oct1 m, oct0 m]
def sls (x0 x1 x2 x3 x4 x5 x6 x7 t m : Int) : List Int := [sb 0 x0 t m, sb 1 x1 t m, sb 2 x2 t m, sb 3 x3 t m, sb 4 x4 t m, sb 5 x5 t m, sb 6 x6 t m, sb 7 x7 t m]
structure KeyB (V : AccP) : Prop where
 k0 : 0 ≤ V.k0 ∧ V.k0 < 256
 k1 : 0 ≤ V.k1 ∧ V.k1 < 256
 k2 : 0 ≤ V.k2 ∧ V.k2 < 256
 k3 : 0 ≤ V.k3 ∧ V.k3 < 256
 k4 : 0 ≤ V.k4 ∧ V.k4 < 256
 k5 : 0 ≤ V.k5 ∧ V.k5 < 256
 k6 : 0 ≤ V.k6 ∧ V.k6 < 256
 k7 : 0 ≤ V.k7 ∧ V.k7 < 256
 m0 : 0 ≤ V.m0 ∧ V.m0 < 256
 m1 : 0 ≤ V.m1 ∧ V.m1 < 256
 m2 : 0 ≤ V.m2 ∧ V.m2 < 256
 m3 : 0 ≤ V.m3 ∧ V.m3 < 256
 m4 : 0 ≤ V.m4 ∧ V.m4 < 256
 m5 : 0 ≤ V.m5 ∧ V.m5 < 256
 m6 : 0 ≤ V.m6 ∧ V.m6 < 256
 m7 : 0 ≤ V.m7 ∧ V.m7 < 256
theorem K160 (hE : EnvOk E) (t m s0 s1 s2 s3 s4 s5 s6 s7 x0 x1 x2 x3 x4 x5 x6 x7 : Int) (g0 : 0 ≤ x0 ∧ x0 < 256) (g1 : 0 ≤ x1 ∧ x1 < 256) (g2 : 0 ≤ x2 ∧ x2 < 256) (g3 : 0 ≤ x3 ∧ x3 < 256) (g4 : 0 ≤ x4 ∧ x4 < 256) (g5 : 0 ≤ x5 ∧ x5 < 256) (g6 : 0 ≤ x6 ∧ x6 < 256) (g7 : 0 ≤ x7 ∧ x7 < 256) : COut E 0 [] 160 [tokA t m s0 s1 s2 s3 s4 s5 s6 s7, keyA x0 x1 x2 x3 x4 x5 x6 x7] (iB (sameK [s0, s1, s2, s3, s4, s5, s6, s7] (sls x0 x1 x2 x3 x4 x5 x6 x7 t m))) [] :=
 cOut_start Tryz.func160 rfl (p160 hE vZ [] [] 0 0 0 false (sameK [s0, s1, s2, s3, s4, s5, s6, s7] (sls x0 x1 x2 x3 x4 x5 x6 x7 t m)) false false (t) (m) 0 0 0 0 0 0 0 0 0 (s0) (s1) (s2) (s3) (s4) (s5) (s6) (s7) (x0) (x1) (x2) (x3) (x4) (x5) (x6) (x7) (sb 0 x0 t m) (sb 1 x1 t m) (sb 2 x2 t m) (sb 3 x3 t m) (sb 4 x4 t m) (sb 5 x5 t m) (sb 6 x6 t m) (sb 7 x7 t m) (K100 hE t m x0 x1 x2 x3 x4 x5 x6 x7 g0 g1 g2 g3 g4 g5 g6 g7) (eqTok2 t m s0 s1 s2 s3 s4 s5 s6 s7 (sb 0 x0 t m) (sb 1 x1 t m) (sb 2 x2 t m) (sb 3 x3 t m) (sb 4 x4 t m) (sb 5 x5 t m) (sb 6 x6 t m) (sb 7 x7 t m)) (fun j => outK_ret (ends_ret (by kernel_rfl))) fun _ => undef)
def validB (V : AccP) (c : Bool) (t m : Int) (s : List Int) : Bool := sameK s (sls V.k0 V.k1 V.k2 V.k3 V.k4 V.k5 V.k6 V.k7 t m) || (c && sameK s (sls V.m0 V.m1 V.m2 V.m3 V.m4 V.m5 V.m6 V.m7 t m))
theorem K138 (hE : EnvOk E) (V : AccP) (hV : KeyB V) (us : List Int) (n : Nat) (c : Bool) (t m s0 s1 s2 s3 s4 s5 s6 s7 : Int) : COut E 0 [] 138 [accA V us n c, tokA t m s0 s1 s2 s3 s4 s5 s6 s7] (iB (validB V c t m [s0, s1, s2, s3, s4, s5, s6, s7])) [] := by
 have k1 := K160 hE t m s0 s1 s2 s3 s4 s5 s6 s7 V.k0 V.k1 V.k2 V.k3 V.k4 V.k5 V.k6 V.k7 hV.k0 hV.k1 hV.k2 hV.k3 hV.k4 hV.k5 hV.k6 hV.k7
 have k2 := K160 hE t m s0 s1 s2 s3 s4 s5 s6 s7 V.m0 V.m1 V.m2 V.m3 V.m4 V.m5 V.m6 V.m7 hV.m0 hV.m1 hV.m2 hV.m3 hV.m4 hV.m5 hV.m6 hV.m7
 unfold validB
 generalize sameK [s0, s1, s2, s3, s4, s5, s6, s7] (sls V.k0 V.k1 V.k2 V.k3 V.k4 V.k5 V.k6 V.k7 t m) = a at k1
 generalize sameK [s0, s1, s2, s3, s4, s5, s6, s7] (sls V.m0 V.m1 V.m2 V.m3 V.m4 V.m5 V.m6 V.m7 t m) = b at k2
 cases a
 ·cases c
  ·exact cOut_start Tryz.func138 rfl (p138f hE (V) [] (iD us) (n) 0 0 (false) (false) (b) false (t) (m) 0 0 0 0 0 0 0 0 0 (s0) (s1) (s2) (s3) (s4) (s5) (s6) (s7) 0 0 0 0 0 0 0 0 0 0 0 0 0 0 0 0 k1 rfl rfl rfl rfl rfl rfl rfl rfl rfl rfl (fun j => outK_ret (ends_ret (by kernel_rfl))) fun _ => undef)
  ·exact cOut_start Tryz.func138 rfl (p138c hE (V) [] (iD us) (n) 0 0 (true) (false) (b) false (t) (m) 0 0 0 0 0 0 0 0 0 (s0) (s1) (s2) (s3) (s4) (s5) (s6) (s7) 0 0 0 0 0 0 0 0 0 0 0 0 0 0 0 0 k1 rfl rfl rfl rfl rfl rfl rfl k2 rfl rfl rfl (fun j => outK_ret (ends_ret (by kernel_rfl))) fun _ => undef)
 ·exact cOut_start Tryz.func138 rfl (p138t hE (V) [] (iD us) (n) 0 0 (c) (true) (b) false (t) (m) 0 0 0 0 0 0 0 0 0 (s0) (s1) (s2) (s3) (s4) (s5) (s6) (s7) 0 0 0 0 0 0 0 0 0 0 0 0 0 0 0 0 k1 rfl rfl rfl rfl rfl (fun j => outK_ret (ends_ret (by kernel_rfl))) fun _ => undef)
theorem K98 (hE : EnvOk E) (V : AccP) (hV : KeyB V) (us : List Int) (n : Nat) (c : Bool) (t m s0 s1 s2 s3 s4 s5 s6 s7 : Int) (ht : 0 ≤ t ∧ t < 1099511627776) (hm : 0 ≤ m ∧ m < 1099511627776) : COut E 0 [] 98 [accA V us n c, tokA t m s0 s1 s2 s3 s4 s5 s6 s7] (iB (validB V c t m [s0, s1, s2, s3, s4, s5, s6, s7])) [] := by
 have k1 := K103 hE t m ht hm V.k0 V.k1 V.k2 V.k3 V.k4 V.k5 V.k6 V.k7 hV.k0 hV.k1 hV.k2 hV.k3 hV.k4 hV.k5 hV.k6 hV.k7
 have k2 := K103 hE t m ht hm V.m0 V.m1 V.m2 V.m3 V.m4 V.m5 V.m6 V.m7 hV.m0 hV.m1 hV.m2 hV.m3 hV.m4 hV.m5 hV.m6 hV.m7
 have e1 := eqK [s0, s1, s2, s3, s4, s5, s6, s7] (sls V.k0 V.k1 V.k2 V.k3 V.k4 V.k5 V.k6 V.k7 t m) rfl rfl
 have e2 := eqK [s0, s1, s2, s3, s4, s5, s6, s7] (sls V.m0 V.m1 V.m2 V.m3 V.m4 V.m5 V.m6 V.m7 t m) rfl rfl
 unfold validB
 generalize sameK [s0, s1, s2, s3, s4, s5, s6, s7] (sls V.k0 V.k1 V.k2 V.k3 V.k4 V.k5 V.k6 V.k7 t m) = a at e1
 generalize sameK [s0, s1, s2, s3, s4, s5, s6, s7] (sls V.m0 V.m1 V.m2 V.m3 V.m4 V.m5 V.m6 V.m7 t m) = b at e2
 cases a
 ·cases c
  ·exact cOut_start Tryz.func98 rfl (p98f hE (V) [] (iD us) (n) 0 0 (false) (false) (b) false (t) (m) 0 0 0 0 0 0 0 0 0 (s0) (s1) (s2) (s3) (s4) (s5) (s6) (s7) (sb 0 V.m0 t m) (sb 1 V.m1 t m) (sb 2 V.m2 t m) (sb 3 V.m3 t m) (sb 4 V.m4 t m) (sb 5 V.m5 t m) (sb 6 V.m6 t m) (sb 7 V.m7 t m) (sb 0 V.k0 t m) (sb 1 V.k1 t m) (sb 2 V.k2 t m) (sb 3 V.k3 t m) (sb 4 V.k4 t m) (sb 5 V.k5 t m) (sb 6 V.k6 t m) (sb 7 V.k7 t m) k1 e1 rfl rfl rfl rfl rfl rfl rfl rfl rfl rfl rfl rfl rfl rfl rfl rfl (fun j => outK_ret (ends_ret (by kernel_rfl))) fun _ => undef)
  ·exact cOut_start Tryz.func98 rfl (p98c hE (V) [] (iD us) (n) 0 0 (true) (false) (b) false (t) (m) 0 0 0 0 0 0 0 0 0 (s0) (s1) (s2) (s3) (s4) (s5) (s6) (s7) (sb 0 V.m0 t m) (sb 1 V.m1 t m) (sb 2 V.m2 t m) (sb 3 V.m3 t m) (sb 4 V.m4 t m) (sb 5 V.m5 t m) (sb 6 V.m6 t m) (sb 7 V.m7 t m) (sb 0 V.k0 t m) (sb 1 V.k1 t m) (sb 2 V.k2 t m) (sb 3 V.k3 t m) (sb 4 V.k4 t m) (sb 5 V.k5 t m) (sb 6 V.k6 t m) (sb 7 V.k7 t m) k1 e1 rfl rfl rfl rfl rfl rfl rfl rfl rfl rfl rfl rfl k2 rfl e2 rfl rfl rfl (fun j => outK_ret (ends_ret (by kernel_rfl))) fun _ => undef)
 ·exact cOut_start Tryz.func98 rfl (p98t hE (V) [] (iD us) (n) 0 0 (c) (true) (b) false (t) (m) 0 0 0 0 0 0 0 0 0 (s0) (s1) (s2) (s3) (s4) (s5) (s6) (s7) (sb 0 V.m0 t m) (sb 1 V.m1 t m) (sb 2 V.m2 t m) (sb 3 V.m3 t m) (sb 4 V.m4 t m) (sb 5 V.m5 t m) (sb 6 V.m6 t m) (sb 7 V.m7 t m) (sb 0 V.k0 t m) (sb 1 V.k1 t m) (sb 2 V.k2 t m) (sb 3 V.k3 t m) (sb 4 V.k4 t m) (sb 5 V.k5 t m) (sb 6 V.k6 t m) (sb 7 V.k7 t m) k1 e1 rfl rfl rfl rfl rfl (fun j => outK_ret (ends_ret (by kernel_rfl))) fun _ => undef)
def paidI (V : AccP) (m : Int) : Int := if wrapF .i64 ((wrapF .i64 (m * V.s)).tdiv 100) < V.d then wrapF .i64 ((wrapF .i64 (m * V.s)).tdiv 100) else V.d
theorem K140 (hE : EnvOk E) (V : AccP) (us : List Int) (n : Nat) (c : Bool) (m : Int) : COut E 0 [] 140 [accA V us n c, iI m] (iI (paidI V m)) [] :=
 cOut_start Tryz.func140 rfl (p140 hE (V) [] (iD us) (n) 0 0 (c) false false false 0 (m) (paidI V m) 0 0 0 0 0 0 (wrapF .i64 (m * V.s)) (wrapF .i64 ((wrapF .i64 (m * V.s)).tdiv 100)) 0 0 0 0 0 0 0 0 0 0 0 0 0 0 0 0 0 0 0 0 0 0 0 0 rfl (by decide) rfl rfl (fun j => outK_ret (ends_ret (by kernel_rfl))) fun _ => undef)
theorem l99 (hE : EnvOk E) (xs : List Int) (n : Nat) (hn : xs.length = n) (hm : n ≤ 4000000) (z : Int) : ∀ k i, k + i = n → ∀ j, OutK E 0 0 (q99 vZ (iD xs) [] 0 (n) (i) false false false false 0 0 0 0 0 0 0 (z) 0 0 0 0 0 0 0 0 0 0 0 0 0 0 0 0 0 0 0 0 0 0 0 0 0 0 0 j) (Go.Ev.Ends E Tryz.f99 (iB (decide (z ∈ xs.drop i))) [])
 | 0, i, hk, j => by
  rw [List.drop_eq_nil_of_le (by omega)]
  exact p99x hE vZ (iD xs) [] 0 (n) (i) false false false false 0 0 0 0 0 0 0 (z) 0 0 0 0 0 0 0 0 0 0 0 0 0 0 0 0 0 0 0 0 0 0 0 0 0 0 0 (decide_eq_false (by (try simp only [Int.ofNat_eq_natCast]); omega)) (fun j => outK_ret (ends_ret (by kernel_rfl))) j
 | k + 1, i, hk, j => by
  have hl : i < xs.length := by omega
  have hx : xs[i]? = some xs[i] := List.getElem?_eq_getElem hl
  rw [List.drop_eq_getElem_cons hl]
  generalize xs[i] = w at hx
  by_cases h : w = z
  ·have e : decide (z ∈ w :: xs.drop (i + 1)) = true := decide_eq_true (by simp [h])
   rw [e]
   exact p99f hE vZ (iD xs) [] 0 (n) (i) false false false false 0 0 0 0 0 0 0 (z) (w) 0 0 0 0 0 0 0 0 0 0 0 0 0 0 0 0 0 0 0 0 0 0 0 0 0 0 (decide_eq_true (by (try simp only [Int.ofNat_eq_natCast]); omega)) ⟨by (try simp only [Int.ofNat_eq_natCast]); omega, by (try simp only [Int.ofNat_eq_natCast]); omega⟩ (Nat.mul_one _) (getI hx) (by rw [h]; exact beq_self_eq_true z) (fun j => outK_ret (ends_ret (by kernel_rfl))) j
  ·have e : decide (z ∈ w :: xs.drop (i + 1)) = decide (z ∈ xs.drop (i + 1)) := decide_eq_decide.2 ⟨fun hh => (List.mem_cons.1 hh).resolve_left fun e => h e.symm, fun hh => List.mem_cons_of_mem _ hh⟩
   rw [e]
   exact p99s hE vZ (iD xs) [] 0 (n) (i) false false false false 0 0 0 0 0 0 0 (z) (w) 0 0 0 0 0 0 0 0 0 0 0 0 0 0 0 0 0 0 0 0 0 0 0 0 0 0 (decide_eq_true (by (try simp only [Int.ofNat_eq_natCast]); omega)) ⟨by (try simp only [Int.ofNat_eq_natCast]); omega, by (try simp only [Int.ofNat_eq_natCast]); omega⟩ (Nat.mul_one _) (getI hx) (beq_eq_false_iff_ne.2 h) (iIe (by (try simp only [Int.ofNat_eq_natCast]); rw [wrap_id (by omega) (by omega)]; try omega)) (l99 hE xs n hn hm z k (i + 1) (by omega)) j
theorem K99 (hE : EnvOk E) (xs : List Int) (n : Nat) (hn : xs.length = n) (hm : n ≤ 4000000) (z : Int) : COut E 0 [] 99 [.e (.one (.dp (.s (iD xs) n 1))), iI z] (iB (decide (z ∈ xs))) [] :=
 cOut_start Tryz.func99 rfl (p99a hE vZ (iD xs) [] 0 (n) 0 false false false false 0 0 0 0 0 0 0 (z) 0 0 0 0 0 0 0 0 0 0 0 0 0 0 0 0 0 0 0 0 0 0 0 0 0 0 0  (l99 hE xs n hn hm z n 0 rfl) fun _ => undef)
def crL (V : AccP) (c : Bool) (us : List Int) (n : Nat) (t m : Int) (s : List Int) : List Int := [if (!validB V c t m s) = true then 27 else 0, if decide (t ∈ us) = true then 9 else 0, if decide ((n : Int) ≥ 256) = true then 5 else 0, if decide (wrapF .i64 (wrapF .i64 (V.b + m) - paidI V m) > 1000000000000) = true then 4 else 0]
def crI (V : AccP) (c : Bool) (us : List Int) (n : Nat) (t m : Int) (s : List Int) : Int := firstI (crL V c us n t m s)
theorem K92 (hE : EnvOk E) (V : AccP) (hV : KeyB V) (us : List Int) (n : Nat) (c : Bool) (hn : us.length = n) (hm : n ≤ 4000000) (t m s0 s1 s2 s3 s4 s5 s6 s7 : Int) : COut E 0 [] 92 [accA V us n c, tokA t m s0 s1 s2 s3 s4 s5 s6 s7] (iI (crI V c us n t m [s0, s1, s2, s3, s4, s5, s6, s7])) [] :=
 cOut_start Tryz.func92 rfl (p92 hE (V) [] (iD us) (n) 0 0 (c) (validB V c t m [s0, s1, s2, s3, s4, s5, s6, s7]) (decide (t ∈ us)) false (t) (m) (if (!validB V c t m [s0, s1, s2, s3, s4, s5, s6, s7]) = true then 27 else 0) (if decide (t ∈ us) = true then 9 else 0) (if decide ((n : Int) ≥ 256) = true then 5 else 0) (if decide (wrapF .i64 (wrapF .i64 (V.b + m) - paidI V m) > 1000000000000) = true then 4 else 0) (crI V c us n t m [s0, s1, s2, s3, s4, s5, s6, s7]) 0 (wrapF .i64 (wrapF .i64 (V.b + m) - paidI V m)) (wrapF .i64 (V.b + m)) (paidI V m) (s0) (s1) (s2) (s3) (s4) (s5) (s6) (s7) 0 0 0 0 0 0 0 0 0 0 0 0 0 0 0 0 (K138 hE V hV us n c t m s0 s1 s2 s3 s4 s5 s6 s7) (K78 hE _ _) (K139 hE V us n c hn hm t) (K78 hE _ _) (K78 hE _ _) rfl (K140 hE V us n c m) rfl (K78 hE _ _) (lend2 3 hE 76 (crL V c us n t m [s0, s1, s2, s3, s4, s5, s6, s7]) _ 30 true (K76 hE _ (by simp [crL])) _ 2 rfl) (fun j => outK_ret (ends_ret (by kernel_rfl))) fun _ => undef)
end
end Go.Proofs.YtpnkginbmoniiaaGreatDoor
end

/-! SySort -/
section
open Go Go.Ev Go.RowKit
namespace Go.Ev
def Sorts (P : Program) (f : FuncId) : Prop := ∀ (blk off cap : Nat) (zs : List Int) (w : World), Go.Sort.Holds (Value.int .i64) w blk off zs.toArray → blk < w.heap.size → zs.length < 4611686018427387904 →
 Calls P f #[.slice (some ⟨blk, off, none⟩) zs.length cap] w fun e w' => e = .returned (.tuple #[]) ∧ ∃ n os, w' = Go.Sort.grow (Go.Sort.putRow (Value.int .i64) (Go.Sort.ahead w n) blk off (zs.mergeSort fun x y => decide (x ≤ y)).toArray) os
theorem all2_ints {m : M} : ∀ {l : List Int} {vs : List Value}, All2 (CR m) (l.map fun z => AC.v (.int .i64 z)) vs → vs = l.map (Value.int .i64)
 | [], [], _ => rfl
 | _ :: _, _ :: _, ⟨h, ht⟩ => by rw [all2_ints ht]; exact congrArg (· :: _) h
 | [], _ :: _, h => h.elim
 | _ :: _, [], h => h.elim
theorem ints_all2 {m : M} : ∀ {l : List Int}, All2 (CR m) (l.map fun z => AC.v (.int .i64 z)) (l.map (Value.int .i64))
 | [] => trivial
 | _ :: _ => ⟨rfl, ints_all2⟩
theorem sort_bridge {E : Env} {f : FuncId} (hS : Sorts E.P f) (xs : List Int) (n cap el lvl i : Nat) (h : Heap) (fl ex : Bool) (hn : xs.length = n) (h0 : 0 < n) (hm : n ≤ 4000000) (hi : h[i]? = some (some ⟨xs.map fun z => AC.v (.int .i64 z), n, el, fl, .cells⟩)) (hlv : lvl ≤ i) :
  COut E lvl h f [.e (.one (.slc i 0 n 1 cap ex))] (.tup []) (h.set i (some ⟨(xs.mergeSort fun x y => decide (x ≤ y)).map fun z => AC.v (.int .i64 z), n, el, fl, .cells⟩)) := by
 intro m base w argsC ha H G
 obtain ⟨y, hy, hR⟩ : ∃ y, argsC.toList = [y] ∧ VR m (.e (.one (.slc i 0 n 1 cap ex))) y := by
  generalize argsC.toList = l at ha
  match l, ha with
  | [y], hh => exact ⟨y, rfl, hh.1⟩
  | [], hh => exact hh.elim
  | _ :: _ :: _, hh => exact hh.2.elim
 have e : argsC = #[y] := by rw [← Array.toList_inj, hy]
 subst e
 obtain ⟨hb, c', o', rfl, ho', hlc, hcc, _, hk, _⟩ := hR
 have hc0 : o' = 0 := by
  rcases ho' with h | h
  ·exact h
  ·omega
 subst hc0
 have B := H.blk i _ hi rfl
 obtain ⟨c, fz, hc, hsz, hfz, hle, hr⟩ := B.at_
 have hr := all2_ints hr
 have hlt : m.ρ i < w.heap.size := (Array.getElem?_eq_some_iff.1 hc).1
 have hcell : ∀ j, j < n → c[j]? = some (.int .i64 (xs.getD j 0)) := fun j hj => by
  have h1 : (c.toList.take n)[j]? = (xs.map (Value.int .i64))[j]? := by rw [← hr]
  rw [List.getElem?_take, if_pos hj, List.getElem?_map, List.getElem?_eq_getElem (show j < xs.length by omega)] at h1
  rw [← Array.getElem?_toList, h1, List.getD_eq_getElem?_getD, List.getElem?_eq_getElem (show j < xs.length by omega)]; rfl
 have hlo : m.lo ≤ i := Nat.le_trans H.lo hlv
 have hH : Go.Sort.Holds (Value.int .i64) w (m.ρ i) 0 xs.toArray := fun j hj => by
  have hj : j < xs.length := by simpa using hj
  have hfree := (hfz hlo).free j (by rw [hsz]; have : n ≤ c.size := hle; omega)
  constructor
  ·simp only [World.cell?, hc, Nat.zero_add, Option.isSome_none, Bool.false_eq_true, if_false]
   rw [hcell j (by omega)]
   simp [List.getD_eq_getElem?_getD, hj]
  ·simp only [World.frozen?, hc, Nat.zero_add]
   obtain ⟨lo, hi⟩ := fz
   simpa using hfree
 subst hn
 refine (hS (m.ρ i) 0 c' xs w hH hlt (by omega)).mono fun e w' ⟨he, k, os, hw⟩ => ?_
 subst he hw
 generalize hzs : (xs.mergeSort fun x y => decide (x ≤ y)) = zs
 have hlen : zs.length = xs.length := by rw [← hzs, List.length_mergeSort]
 let c2 : Array Value := Go.Sort.putCells (Value.int .i64) 0 zs.toArray c
 have hc2 : c2.size = c.size := by simp [c2, Go.Sort.putCells]
 have htake : c2.toList.take xs.length = zs.map (Value.int .i64) := by
  apply List.ext_getElem?
  intro q
  rw [List.getElem?_take]
  by_cases hi : q < xs.length
  ·have hic : q < c.size := by have : xs.length ≤ c.size := hle; omega
   rw [if_pos hi, Array.getElem?_toList, List.getElem?_map, List.getElem?_eq_getElem (show q < zs.length by omega)]
   simp only [c2, Go.Sort.putCells, Array.getElem?_mapIdx, Array.getElem?_eq_getElem hic, Option.map_some]
   rw [if_pos ⟨Nat.zero_le _, by simpa using (show q < zs.length by omega)⟩]
   simp [show q < zs.length by omega]
  ·rw [if_neg hi, List.getElem?_eq_none (by simp; omega)]
 have HP := H.put (b := i) hi hlv rfl hc (fun h => hfz h) hc2 hsz hle (cells := zs.map fun z => AC.v (.int .i64 z)) (by simp [hlen]) (by rw [htake]; exact ints_all2)
 have hheap : ∀ b, b < w.heap.size → (Go.Sort.grow (Go.Sort.putRow (Value.int .i64) (Go.Sort.ahead w k) (m.ρ i) 0 zs.toArray) os).heap[b]? = (w.setRow (m.ρ i) c2).heap[b]? := fun b hb => by
  have h1 : b < (w.heap.modify (m.ρ i) (Go.Sort.onCells (Go.Sort.putCells (Value.int .i64) 0 zs.toArray))).size := by simpa using hb
  show (w.heap.modify (m.ρ i) (Go.Sort.onCells (Go.Sort.putCells (Value.int .i64) 0 zs.toArray)) ++ os)[b]? = _
  rw [Array.getElem?_append_left h1, World.setRow, Array.getElem?_modify, Array.getElem?_modify]
  by_cases hb0 : m.ρ i = b
  ·subst hb0
   simp only [if_true, hc, Option.map_some, Go.Sort.onCells]; rfl
  ·simp only [if_neg hb0]
 refine ⟨_, rfl, m, M.leG.refl _ m, ⟨#[], rfl, trivial⟩, HP.world ?_ ?_, ?_⟩
 ·simp [World.setRow, Go.Sort.grow, Go.Sort.putRow, Go.Sort.mapBlock, Go.Sort.ahead]
 ·intro b hb
  exact hheap b (by simpa [World.setRow] using hb)
 ·refine ⟨rfl, rfl, rfl, by simp [Go.Sort.grow, Go.Sort.putRow, Go.Sort.mapBlock, Go.Sort.ahead], fun b hb => ?_⟩
  rw [hheap b (Nat.lt_of_lt_of_le hb H.baseLe)]
  exact setRow_other w _ _ _ (fun h => by have := H.own i hlv (List.getElem?_eq_some_iff.1 hi).1; omega)
end Go.Ev
end

/-! SeSo -/
section
open Go Go.Shelf Go.Sort Go.Ev Go.RowKit Go.Lib Go.Proofs
namespace Go.Proofs.YtpnkginbmoniiaaGreatDoor
set_option maxRecDepth 100000
def laysS_ren : Go.Shelf.Ren := ⟨fun | 189 => 141 | 125 => 162 | 257 => 161 | 128 => 184 | 129 => 185 | 294 => 175 | 295 => 176 | 296 => 177 | 297 => 178 | 298 => 179 | 299 => 180 | 216 => 181 | 300 => 182 | 301 => 183 | 328 => 191 | 329 => 192 | 330 => 193 | 331 => 194 | 332 => 195 | 215 => 196 | 343 => 201 | n => n, fun | 28 => 24 | 3 => 3 | 46 => 213 | 0 => 0 | 51 => 254 | 53 => 256 | 4 => 4 | 183 => 246 | 182 => 245 | 131 => 251 | 5 => 5 | 9 => 9 | 218 => 263 | 222 => 267 | 228 => 273 | 229 => 91 | n => n, fun | n => n⟩
theorem laysS : Go.Proofs.Lays.n189 Tryz.prog laysS_ren := {
 mixed := by kernel_rfl
 f125 := Tryz.func162.trans (congrArg some (by kernel_rfl))
 f128 := Tryz.func184.trans (congrArg some (by kernel_rfl))
 f129 := Tryz.func185.trans (congrArg some (by kernel_rfl))
 f189 := Tryz.func141.trans (congrArg some (by kernel_rfl))
 f215 := Tryz.func196.trans (congrArg some (by kernel_rfl))
 f216 := Tryz.func181.trans (congrArg some (by kernel_rfl))
 f257 := Tryz.func161.trans (congrArg some (by kernel_rfl))
 f294 := Tryz.func175.trans (congrArg some (by kernel_rfl))
 f295 := Tryz.func176.trans (congrArg some (by kernel_rfl))
 f296 := Tryz.func177.trans (congrArg some (by kernel_rfl))
 f297 := Tryz.func178.trans (congrArg some (by kernel_rfl))
 f298 := Tryz.func179.trans (congrArg some (by kernel_rfl))
 f299 := Tryz.func180.trans (congrArg some (by kernel_rfl))
 f300 := Tryz.func182.trans (congrArg some (by kernel_rfl))
 f301 := Tryz.func183.trans (congrArg some (by kernel_rfl))
 f328 := Tryz.func191.trans (congrArg some (by kernel_rfl))
 f329 := Tryz.func192.trans (congrArg some (by kernel_rfl))
 f330 := Tryz.func193.trans (congrArg some (by kernel_rfl))
 f331 := Tryz.func194.trans (congrArg some (by kernel_rfl))
 f332 := Tryz.func195.trans (congrArg some (by kernel_rfl))
 f343 := Tryz.func201.trans (congrArg some (by kernel_rfl))
 t0 := Tryz.underlying0
 a0 := Tryz.isAgg0
 z0 := Tryz.sizeOf0
 v0 := Tryz.zeroValue0
 t3 := Tryz.underlying3
 a3 := Tryz.isAgg3
 z3 := Tryz.sizeOf3
 v3 := Tryz.zeroValue3
 t4 := Tryz.underlying4
 a4 := Tryz.isAgg4
 z4 := Tryz.sizeOf4
 v4 := Tryz.zeroValue4
 t5 := Tryz.underlying5
 a5 := Tryz.isAgg5
 z5 := Tryz.sizeOf5
 v5 := Tryz.zeroValue5
 t9 := Tryz.underlying9
 a9 := Tryz.isAgg9
 z9 := Tryz.sizeOf9
 v9 := Tryz.zeroValue9
 t28 := Tryz.underlying24
 a28 := Tryz.isAgg24
 z28 := Tryz.sizeOf24
 v28 := Tryz.zeroValue24
 t46 := Tryz.underlying213
 a46 := Tryz.isAgg213
 z46 := Tryz.sizeOf213
 v46 := Tryz.zeroValue213
 t51 := Tryz.underlying254
 a51 := Tryz.isAgg254
 z51 := Tryz.sizeOf254
 v51 := Tryz.zeroValue254
 t53 := Tryz.underlying256
 a53 := Tryz.isAgg256
 z53 := Tryz.sizeOf256
 v53 := Tryz.zeroValue256
 t131 := Tryz.underlying251
 a131 := Tryz.isAgg251
 z131 := Tryz.sizeOf251
 v131 := Tryz.zeroValue251
 t182 := Tryz.underlying245
 a182 := Tryz.isAgg245
 z182 := Tryz.sizeOf245
 v182 := Tryz.zeroValue245
 t183 := Tryz.underlying246
 a183 := Tryz.isAgg246
 z183 := Tryz.sizeOf246
 v183 := Tryz.zeroValue246
 t218 := Tryz.underlying263
 a218 := Tryz.isAgg263
 z218 := Tryz.sizeOf263
 v218 := Tryz.zeroValue263
 t222 := Tryz.underlying267
 a222 := Tryz.isAgg267
 z222 := Tryz.sizeOf267
 v222 := Tryz.zeroValue267
 t228 := Tryz.underlying273
 a228 := Tryz.isAgg273
 z228 := Tryz.sizeOf273
 v228 := Tryz.zeroValue273
 t229 := Tryz.underlying91
 a229 := Tryz.isAgg91
 z229 := Tryz.sizeOf91
 v229 := Tryz.zeroValue91 }
open Go.Sort Go.RowKit in
theorem sort_int (blk off cap : Nat) (zs : List Int) (w : World) (hH : Holds (Value.int .i64) w blk off zs.toArray) (hblk : blk < w.heap.size) (hsz : zs.length < 4611686018427387904) :
  Calls Tryz.prog 141 #[.slice (some ⟨blk, off, none⟩) zs.length cap] w fun e w' =>
   e = .returned (.tuple #[]) ∧ ∃ n os, w' = grow (putRow (Value.int .i64) (Sort.ahead w n) blk off (zs.mergeSort fun x y => decide (x ≤ y)).toArray) os := Any.slices_Sort_int laysS blk off cap zs w hH hblk hsz
theorem sortsE : Sorts E.P 141 := fun blk off cap zs w hH hb hs => sort_int blk off cap zs w hH hb hs
theorem K141 (xs : List Int) (n cap el lvl i : Nat) (h : Heap) (fl ex : Bool) (hn : xs.length = n) (h0 : 0 < n) (hm : n ≤ 4000000) (hi : h[i]? = some (some ⟨xs.map fun z => AC.v (.int .i64 z), n, el, fl, .cells⟩)) (hlv : lvl ≤ i) : COut E lvl h 141 [.e (.one (.slc i 0 n 1 cap ex))] (.tup []) (h.set i (some ⟨(xs.mergeSort fun x y => decide (x ≤ y)).map fun z => AC.v (.int .i64 z), n, el, fl, .cells⟩)) := sort_bridge sortsE xs n cap el lvl i h fl ex hn h0 hm hi hlv
end Go.Proofs.YtpnkginbmoniiaaGreatDoor
end

/-! SeTc -/
section
open Go Go.Ev
namespace Go.Proofs.YtpnkginbmoniiaaGreatDoor
noncomputable section
set_option maxRecDepth 100000
set_option maxHeartbeats 20000000
def s79o (V : AccP) (_C U : List DT) (un _n _N : Nat) (ac : Bool) (_t _m _e _f _g _h _k _z _w _p _q : Int) (_D _X _Y : List AC) (_j : Nat → Value) : St := startK Tryz.f79 [] [(.e (.agg (zAc V ac U un)))]
def s93 (V : AccP) (_C U : List DT) (un _n _N : Nat) (ac : Bool) (t m _e _f _g _h _k _z _w _p _q : Int) (_D _X _Y : List AC) (_j : Nat → Value) : St := startK Tryz.f93 [] [(.e (.agg (zAc V ac U un))), iI t, iI m]
def p79o_end (V : AccP) (_C : List DT) (_U : List DT) (un _n _N : Nat) (ac : Bool) (_t _m _e _f _g _h _k _z _w _p _q : Int) (_D X _Y : List AC) (j : Nat → Value) : St := ⟨[(zBk (accN V [(.v (.bool (ac))), (.slc 1 0 (un) 1 (un) false)]) 22 29), (zBf (X) (un) 3)], [(.code .ret)], mkT j [(2, (.e (.one (.ptr 0 0))))] 8 0⟩
theorem p79o (hE : EnvOk E) (V : AccP) (C : List DT) (U : List DT) (un n N : Nat) (ac : Bool) (t m e f g h k z w p q : Int) (D X Y : List AC) (h0 : COut E 0 [] 135 [(.e (.one (.dp (.s (U) (un) 1))))] (.e (.one (.slc 0 0 (un) 1 (un) false))) [(zBf (X) (un) 3)]) (h3 : True) (h5 : FlatB (some { cells := X, n := un, elem := (3 : TypeId), full := false, ext := AX.cells : AB }) ∧ True) (g0 : FlatC (X)) : Sg 0 0 (s79o V C U un n N ac t m e f g h k z w p q D X Y) (p79o_end V C U un n N ac t m e f g h k z w p q D X Y) := fun ho j =>
 outK_seg hE (R0_ok hE) [.run 3, (.ops [(2, (.cl [] [] [(.e (.one (.dp (.s (U) (un) 1))))] [] (.e (.one (.slc 0 0 (un) 1 (un) false))) [(zBf (X) (un) 3)] (.e (.one (.slc 2 0 (un) 1 (un) false))) [true] [(zBf (X) (un) 3)]))] []), .run 2] [2] (s' := fun j => ⟨[(zBk (accN V [(.v (.bool (ac))), (.slc 2 0 (un) 1 (un) false)]) 22 29), (zBk (accN V [(.v (.bool (ac))), (.slc 2 0 (un) 1 (un) false)]) 22 29), (zBf (X) (un) 3)], [(.code .ret)], mkT j [(2, (.e (.one (.ptr 1 0))))] 8 0⟩) (fun j => by kernel_rfl) (aP h0 <| aP (rfl : ([(.e (.one (.dp (.s (U) (un) 1))))] : List AV) = [(.e (.one (.dp (.s (U) (un) 1))))]) <| aP (rfl : ([] : List (Option (Option AB))) = []) <| aP h3 <| aP (rfl : ([(.some (zBf (X) (un) 3))] : List (Option (Option AB))) = [(.some (zBf (X) (un) 3))]) <| aP h5 <| aP (rfl : ((.e (.one (.slc 2 0 (un) 1 (un) false))) : AV) = (.e (.one (.slc 2 0 (un) 1 (un) false)))) <| aZ)
  fun j => outK_gcF [1, 2] [false, true] (h' := [(zBk (accN V [(.v (.bool (ac))), (.slc 1 0 (un) 1 (un) false)]) 22 29), (zBf (X) (un) 3)]) (by decide) (by kernel_rfl) (by kernel_rfl) ⟨g0, trivial⟩ (by kernel_rfl) (ho j)
def p93_end (V : AccP) (_C : List DT) (_U : List DT) (_un _n N : Nat) (ac : Bool) (_t _m e _f g _h _k _z _w _p _q : Int) (D _X _Y : List AC) (j : Nat → Value) : St := ⟨[(zBk [.v (.int .i64 g), .v (.int .i64 e), (.v (.int .i64 (V.s))), (.v (.int .i64 (V.e))), (.v (.int .u8 (V.k0))), (.v (.int .u8 (V.k1))), (.v (.int .u8 (V.k2))), (.v (.int .u8 (V.k3))), (.v (.int .u8 (V.k4))), (.v (.int .u8 (V.k5))), (.v (.int .u8 (V.k6))), (.v (.int .u8 (V.k7))), (.v (.int .u8 (V.m0))), (.v (.int .u8 (V.m1))), (.v (.int .u8 (V.m2))), (.v (.int .u8 (V.m3))), (.v (.int .u8 (V.m4))), (.v (.int .u8 (V.m5))), (.v (.int .u8 (V.m6))), (.v (.int .u8 (V.m7))), (.v (.bool (ac))), (.slc 1 0 (N) 1 (N) false)] 22 29), (zBf (D) (N) 3)], [(.code .ret)], mkT j [(6, (.e (.one (.ptr 0 0))))] 36 0⟩
theorem p93 (hE : EnvOk E) (V : AccP) (C : List DT) (U : List DT) (un n N : Nat) (ac : Bool) (t m e f g h k z w p q : Int) (D X Y : List AC) (h0 : COut E 0 [] 140 [(.e (.agg (zAc V ac U un))), (iI (m))] (iI (q)) []) (h2 : COut E 0 [] 79 [(.e (.agg (zAc V ac U un)))] (.e (.agg (accN V [(.v (.bool (ac))), (.slc 0 0 (un) 1 (un) false)]))) [(zBf (X) (un) 3)]) (h5 : True) (h7 : FlatB (some { cells := X, n := un, elem := (3 : TypeId), full := false, ext := AX.cells : AB }) ∧ True) (h9 : ((iI (wrapF IntKind.i64 (V.d - q))) : AV) = (iI (e))) (h10 : ((iI (wrapF IntKind.i64 (m - q))) : AV) = (iI (f))) (h11 : ((iI (wrapF IntKind.i64 (V.b + f))) : AV) = (iI (g))) (h12 : ¬un + 1 ≤ un) (h13 : (small (un + 1) (1 : Nat) (8 : Nat) : Bool) = true) (h14 : (un : Nat) = un * nat_lit 1) (h15 : (appL X ((fun x => AC.v (Value.int IntKind.i64 t) :: x) []) : List AC) = Y) (h16 : (un + 1 : Nat) = N) (h17 : (N * nat_lit 1 : Nat) = N) (h18 : COut E 0 [(zBk (zAc V ac U un) 22 29), (zBk zAz 22 29), none, (zBk [.v (.int .i64 g), .v (.int .i64 e), (.v (.int .i64 (V.s))), (.v (.int .i64 (V.e))), (.v (.int .u8 (V.k0))), (.v (.int .u8 (V.k1))), (.v (.int .u8 (V.k2))), (.v (.int .u8 (V.k3))), (.v (.int .u8 (V.k4))), (.v (.int .u8 (V.k5))), (.v (.int .u8 (V.k6))), (.v (.int .u8 (V.k7))), (.v (.int .u8 (V.m0))), (.v (.int .u8 (V.m1))), (.v (.int .u8 (V.m2))), (.v (.int .u8 (V.m3))), (.v (.int .u8 (V.m4))), (.v (.int .u8 (V.m5))), (.v (.int .u8 (V.m6))), (.v (.int .u8 (V.m7))), (.v (.bool (ac))), (.slc 5 0 (N) 1 (N) false)] 22 29), (zBk [.v (.int .i64 t)] 1 3), (zBf (Y) (N) 3)] 141 [(.e (.one (.slc 5 0 (N) 1 (N) false)))] (.tup []) [(zBk (zAc V ac U un) 22 29), (zBk zAz 22 29), none, (zBk [.v (.int .i64 g), .v (.int .i64 e), (.v (.int .i64 (V.s))), (.v (.int .i64 (V.e))), (.v (.int .u8 (V.k0))), (.v (.int .u8 (V.k1))), (.v (.int .u8 (V.k2))), (.v (.int .u8 (V.k3))), (.v (.int .u8 (V.k4))), (.v (.int .u8 (V.k5))), (.v (.int .u8 (V.k6))), (.v (.int .u8 (V.k7))), (.v (.int .u8 (V.m0))), (.v (.int .u8 (V.m1))), (.v (.int .u8 (V.m2))), (.v (.int .u8 (V.m3))), (.v (.int .u8 (V.m4))), (.v (.int .u8 (V.m5))), (.v (.int .u8 (V.m6))), (.v (.int .u8 (V.m7))), (.v (.bool (ac))), (.slc 5 0 (N) 1 (N) false)] 22 29), (zBk [.v (.int .i64 t)] 1 3), (zBf (D) (N) 3)]) (g0 : FlatC (D)) : Sg 0 0 (s93 V C U un n N ac t m e f g h k z w p q D X Y) (p93_end V C U un n N ac t m e f g h k z w p q D X Y) := fun ho j =>
 outK_seg hE (R0_ok hE) [.run 3, (.ops [(2, (.c0 (iI (q))))] []), .run 1, (.ops [(1, (.cl [] [] [(.e (.agg (zAc V ac U un)))] [] (.e (.agg (accN V [(.v (.bool (ac))), (.slc 0 0 (un) 1 (un) false)]))) [(zBf (X) (un) 3)] (.e (.agg (accN V [(.v (.bool (ac))), (.slc 2 0 (un) 1 (un) false)]))) [true] [(zBf (X) (un) 3)]))] []), .run 1, (.ops [(3, (.rn (iI (e))))] []), .run 1, (.ops [(4, (.rn (iI (f)))), (5, (.rn (iI (g))))] []), .run 1, (.ops [(4, (.app (N) (N) (Y)))] []), .run 1, (.ops [(2, (.cw (.tup []) [(zBk (zAc V ac U un) 22 29), (zBk zAz 22 29), none, (zBk [.v (.int .i64 g), .v (.int .i64 e), (.v (.int .i64 (V.s))), (.v (.int .i64 (V.e))), (.v (.int .u8 (V.k0))), (.v (.int .u8 (V.k1))), (.v (.int .u8 (V.k2))), (.v (.int .u8 (V.k3))), (.v (.int .u8 (V.k4))), (.v (.int .u8 (V.k5))), (.v (.int .u8 (V.k6))), (.v (.int .u8 (V.k7))), (.v (.int .u8 (V.m0))), (.v (.int .u8 (V.m1))), (.v (.int .u8 (V.m2))), (.v (.int .u8 (V.m3))), (.v (.int .u8 (V.m4))), (.v (.int .u8 (V.m5))), (.v (.int .u8 (V.m6))), (.v (.int .u8 (V.m7))), (.v (.bool (ac))), (.slc 5 0 (N) 1 (N) false)] 22 29), (zBk [.v (.int .i64 t)] 1 3), (zBf (D) (N) 3)]))] []), .run 2] [6] (s' := fun j => ⟨[(zBk (zAc V ac U un) 22 29), (zBk [.v (.int .i64 g), .v (.int .i64 e), (.v (.int .i64 (V.s))), (.v (.int .i64 (V.e))), (.v (.int .u8 (V.k0))), (.v (.int .u8 (V.k1))), (.v (.int .u8 (V.k2))), (.v (.int .u8 (V.k3))), (.v (.int .u8 (V.k4))), (.v (.int .u8 (V.k5))), (.v (.int .u8 (V.k6))), (.v (.int .u8 (V.k7))), (.v (.int .u8 (V.m0))), (.v (.int .u8 (V.m1))), (.v (.int .u8 (V.m2))), (.v (.int .u8 (V.m3))), (.v (.int .u8 (V.m4))), (.v (.int .u8 (V.m5))), (.v (.int .u8 (V.m6))), (.v (.int .u8 (V.m7))), (.v (.bool (ac))), (.slc 5 0 (N) 1 (N) false)] 22 29), none, (zBk [.v (.int .i64 g), .v (.int .i64 e), (.v (.int .i64 (V.s))), (.v (.int .i64 (V.e))), (.v (.int .u8 (V.k0))), (.v (.int .u8 (V.k1))), (.v (.int .u8 (V.k2))), (.v (.int .u8 (V.k3))), (.v (.int .u8 (V.k4))), (.v (.int .u8 (V.k5))), (.v (.int .u8 (V.k6))), (.v (.int .u8 (V.k7))), (.v (.int .u8 (V.m0))), (.v (.int .u8 (V.m1))), (.v (.int .u8 (V.m2))), (.v (.int .u8 (V.m3))), (.v (.int .u8 (V.m4))), (.v (.int .u8 (V.m5))), (.v (.int .u8 (V.m6))), (.v (.int .u8 (V.m7))), (.v (.bool (ac))), (.slc 5 0 (N) 1 (N) false)] 22 29), (zBk [.v (.int .i64 t)] 1 3), (zBf (D) (N) 3)], [(.code .ret)], mkT j [(6, (.e (.one (.ptr 1 0))))] 36 0⟩) (fun j => by kernel_rfl) (aP h0 <| aN <| aP h2 <| aP (rfl : ([(.e (.agg (zAc V ac U un)))] : List AV) = [(.e (.agg (zAc V ac U un)))]) <| aP (rfl : ([] : List (Option (Option AB))) = []) <| aP h5 <| aP (rfl : ([(.some (zBf (X) (un) 3))] : List (Option (Option AB))) = [(.some (zBf (X) (un) 3))]) <| aP h7 <| aP (rfl : ((.e (.agg (accN V [(.v (.bool (ac))), (.slc 2 0 (un) 1 (un) false)]))) : AV) = (.e (.agg (accN V [(.v (.bool (ac))), (.slc 2 0 (un) 1 (un) false)])))) <| aP h9 <| aP h10 <| aP h11 <| aP h12 <| aP h13 <| aP h14 <| aP h15 <| aP h16 <| aP h17 <| aP h18 <| aZ)
  fun j => outK_gcF [1, 5] [false, true] (h' := [(zBk [.v (.int .i64 g), .v (.int .i64 e), (.v (.int .i64 (V.s))), (.v (.int .i64 (V.e))), (.v (.int .u8 (V.k0))), (.v (.int .u8 (V.k1))), (.v (.int .u8 (V.k2))), (.v (.int .u8 (V.k3))), (.v (.int .u8 (V.k4))), (.v (.int .u8 (V.k5))), (.v (.int .u8 (V.k6))), (.v (.int .u8 (V.k7))), (.v (.int .u8 (V.m0))), (.v (.int .u8 (V.m1))), (.v (.int .u8 (V.m2))), (.v (.int .u8 (V.m3))), (.v (.int .u8 (V.m4))), (.v (.int .u8 (V.m5))), (.v (.int .u8 (V.m6))), (.v (.int .u8 (V.m7))), (.v (.bool (ac))), (.slc 1 0 (N) 1 (N) false)] 22 29), (zBf (D) (N) 3)]) (by decide) (by kernel_rfl) (by kernel_rfl) ⟨g0, trivial⟩ (by kernel_rfl) (ho j)
theorem K79o (hE : EnvOk E) (V : AccP) (us : List Int) (n : Nat) (c : Bool) (hn : us.length = n) (h0 : 0 < n) (hm : n ≤ 1000) : COut E 0 [] 79 [accA V us n c] (.e (.agg (accN V [.v (.bool c), .slc 0 0 n 1 n false]))) [some ⟨iC us, n, 3, false, .cells⟩] := by
 have hc : COut E 0 [] 79 [accA V us n c] (.e (.agg (accN V [.v (.bool c), .slc 1 0 n 1 n false]))) [some ⟨accN V [.v (.bool c), .slc 1 0 n 1 n false], 22, 29, true, .cells⟩, some ⟨iC us, n, 3, false, .cells⟩] := cOut_start Tryz.func79 rfl (p79o hE (V) [] (iD us) (n) 0 0 (c) 0 0 0 0 0 0 0 0 0 0 0 [] (iC us) [] (K135n hE us n hn h0 (by omega)) (by first | rfl | trivial | exact flat_iC us | exact ⟨flat_iC us, trivial⟩) (by first | rfl | trivial | exact flat_iC us | exact ⟨flat_iC us, trivial⟩) (flat_iC us) (fun j => outK_ret (ends_ret (by kernel_rfl))) fun _ => undef)
 exact cOut_gcF [1] [true] (h' := [some ⟨iC us, n, 3, false, .cells⟩]) (Nat.le_refl _) hc (by kernel_rfl) (by rfl) (by exact ⟨flat_iC us, trivial⟩) (by rfl)
def credV (V : AccP) (m : Int) : AccP := { V with b := (wrapF .i64 (V.b + wrapF .i64 (m - paidI V m))), d := (wrapF .i64 (V.d - paidI V m)) }
def insI (us : List Int) (t : Int) : List Int := (us ++ [t]).mergeSort fun x y => decide (x ≤ y)
theorem insI_len (us : List Int) (t : Int) : (insI us t).length = us.length + 1 := by simp [insI]
theorem iC_eq (l : List Int) : iC l = l.map fun z => AC.v (.int .i64 z) := by simp [iD, DT.ac]
theorem K141c (us : List Int) (t : Int) (n cap el lvl i : Nat) (h : Heap) (fl ex : Bool) (hn : us.length + 1 = n) (hm : n ≤ 4000000) (hi : h[i]? = some (some ⟨iC (us ++ [t]), n, el, fl, .cells⟩)) (hlv : lvl ≤ i) : COut E lvl h 141 [.e (.one (.slc i 0 n 1 cap ex))] (.tup []) (h.set i (some ⟨iC (insI us t), n, el, fl, .cells⟩)) := by
 rw [iC_eq] at hi ⊢
 exact K141 (us ++ [t]) n cap el lvl i h fl ex (by simp [hn]) (by omega) hm hi hlv
theorem K93n (hE : EnvOk E) (V : AccP) (us : List Int) (n : Nat) (c : Bool) (hn : us.length = n) (h0 : 0 < n) (hm : n ≤ 1000) (t m : Int) : COut E 0 [] 93 [accA V us n c, iI t, iI m] (accA (credV V m) (insI us t) (n + 1) c) [] := by
 have hc : COut E 0 [] 93 [accA V us n c, iI t, iI m] (.e (.agg (accN (credV V m) [.v (.bool c), .slc 1 0 (n + 1) 1 (n + 1) false]))) [some ⟨accN (credV V m) [.v (.bool c), .slc 1 0 (n + 1) 1 (n + 1) false], 22, 29, true, .cells⟩, some ⟨iC (insI us t), n + 1, 3, false, .cells⟩] := cOut_start Tryz.func93 rfl (p93 hE (V) [] (iD us) (n) 0 (n + 1) (c) (t) (m) ((wrapF .i64 (V.d - paidI V m))) (wrapF .i64 (m - paidI V m)) ((wrapF .i64 (V.b + wrapF .i64 (m - paidI V m)))) 0 0 0 0 0 (paidI V m) (iC (insI us t)) (iC us) (iC (us ++ [t])) (K140 hE V us n c m) (K79o hE V us n c hn h0 hm) (by first | rfl | trivial | exact flat_iC us | exact ⟨flat_iC us, trivial⟩ | simp) (by first | rfl | trivial | exact flat_iC us | exact ⟨flat_iC us, trivial⟩ | simp) (by first | rfl | trivial | exact flat_iC us | exact ⟨flat_iC us, trivial⟩ | simp) (by first | rfl | trivial | exact flat_iC us | exact ⟨flat_iC us, trivial⟩ | simp) (by first | rfl | trivial | exact flat_iC us | exact ⟨flat_iC us, trivial⟩ | simp) (by omega) (by simp [small]; omega) (by first | rfl | trivial | exact flat_iC us | exact ⟨flat_iC us, trivial⟩ | simp) (by rw [appL_eq, iC_eq, iC_eq, List.map_append]; rfl) (by first | rfl | trivial | exact flat_iC us | exact ⟨flat_iC us, trivial⟩ | simp) (by first | rfl | trivial | exact flat_iC us | exact ⟨flat_iC us, trivial⟩ | simp) (K141c us t (n + 1) (n + 1) 3 0 5 _ false false (by omega) (by omega) rfl (by omega)) (flat_iC _) (fun j => outK_ret (ends_ret (by kernel_rfl))) fun _ => undef)
 exact cOut_clear (cOut_freeze 1 hc rfl (Nat.zero_le _) (ds := iD (insI us t)) ⟨.inl rfl, .inl rfl, .inl rfl, .inl rfl, .inl rfl, .inl rfl, .inl rfl, .inl rfl, .inl rfl, .inl rfl, .inl rfl, .inl rfl, .inl rfl, .inl rfl, .inl rfl, .inl rfl, .inl rfl, .inl rfl, .inl rfl, .inl rfl, .inl rfl, .inr ⟨0, n + 1, 1, n + 1, false, iD (insI us t), rfl, rfl, by rw [takeL_eq, dropL_eq, List.drop_zero, if_pos (by simp [insI_len, hn]), List.take_of_length_le (by simp [insI_len, hn])]⟩, trivial⟩) rfl
end
end Go.Proofs.YtpnkginbmoniiaaGreatDoor
end

/-! SyIns -/
section
namespace Go.Ev
def insG (t : Int) : List Int → List Int
 | [] => [t]
 | x :: l => if x > t then t :: x :: l else x :: insG t l
theorem insG_perm (t : Int) : ∀ l, (insG t l).Perm (l ++ [t])
 | [] => List.Perm.refl _
 | x :: l => by
  unfold insG
  split
  ·exact (List.perm_append_singleton t (x :: l)).symm
  ·exact List.Perm.cons x (insG_perm t l)
theorem insG_mem (t y : Int) (l : List Int) : y ∈ insG t l ↔ y ∈ l ∨ y = t := by
 rw [(insG_perm t l).mem_iff]; simp
theorem insG_sorted (t : Int) : ∀ l, l.Pairwise (· ≤ ·) → (insG t l).Pairwise (· ≤ ·)
 | [], _ => by simp [insG]
 | x :: l, h => by
  obtain ⟨h1, h2⟩ := List.pairwise_cons.1 h
  unfold insG
  split
  ·rename_i hx
   refine List.pairwise_cons.2 ⟨fun y hy => ?_, h⟩
   rcases List.mem_cons.1 hy with rfl | hy
   ·omega
   ·have := h1 y hy; omega
  ·rename_i hx
   refine List.pairwise_cons.2 ⟨fun y hy => ?_, insG_sorted t l h2⟩
   rcases (insG_mem t y l).1 hy with hy | rfl
   ·exact h1 y hy
   ·omega
theorem perm_sorted_eq : ∀ {a b : List Int}, a.Perm b → a.Pairwise (· ≤ ·) → b.Pairwise (· ≤ ·) → a = b
 | [], b, h, _, _ => h.nil_eq
 | x :: a, [], h, _, _ => absurd h.length_eq (by simp)
 | x :: a, y :: b, h, ha, hb => by
  obtain ⟨a1, a2⟩ := List.pairwise_cons.1 ha
  obtain ⟨b1, b2⟩ := List.pairwise_cons.1 hb
  have hx : x ∈ y :: b := h.mem_iff.1 List.mem_cons_self
  have hy : y ∈ x :: a := h.mem_iff.2 List.mem_cons_self
  have e : x = y := by
   rcases List.mem_cons.1 hx with e | hx
   ·exact e
   ·rcases List.mem_cons.1 hy with e | hy
    ·exact e.symm
    ·have := b1 x hx; have := a1 y hy; omega
  subst e
  rw [perm_sorted_eq (List.Perm.cons_inv h) a2 b2]
theorem insG_sort (t : Int) (l : List Int) (h : l.Pairwise (· ≤ ·)) : (l ++ [t]).mergeSort (fun x y => decide (x ≤ y)) = insG t l := by
 refine perm_sorted_eq ((List.mergeSort_perm _ _).trans (insG_perm t l).symm) ?_ (insG_sorted t l h)
 have := List.pairwise_mergeSort (le := fun x y : Int => decide (x ≤ y)) (fun a b c => by simp only [decide_eq_true_eq]; omega) (fun a b => by simp only [Bool.or_eq_true, decide_eq_true_eq]; omega) (l ++ [t])
 exact this.imp fun h => by simpa using h
end Go.Ev
end
