/-
  Part of the proof: SeTC.
-/
import Derived.Test.YtaaioijpbkcmdaaDoorSeTB
open Go Go.Ev
namespace Go.Proofs.YtaaioijpbkcmdaaDoor
noncomputable section
set_option maxRecDepth 100000
set_option maxHeartbeats 20000000
def c79_end (_k0 _k1 _k2 _k3 _k4 _k5 _k6 _k7 p0 p1 p2 p3 p4 p5 p6 p7 p8 p9 p10 p11 p12 p13 p14 p15 g0 g1 g2 g3 g4 g5 g6 g7 f1 f2 f3 f4 f5 q0 q1 : UInt8) (_s _c _d : Int) (j : Nat → Value) : St := ⟨[(.some ⟨[(.v (.int .u8 105)), u8c f1, u8c f2, u8c f3, u8c f4, u8c f5, u8c p0, u8c p1, u8c p2, u8c p3, u8c p4, u8c p5, u8c p6, u8c p7, u8c p8, u8c p9, u8c p10, u8c p11, u8c p12, u8c p13, u8c p14, u8c p15, u8c q0, u8c q1, u8c g0, u8c g1, u8c g2, u8c g3, u8c g4, u8c g5, u8c g6, u8c g7], 32, 41, true, .cells⟩)], [(.code .ret)], mkT j [(4, (.e (.one (.ptr 0 0))))] 57 0⟩
def c150a_end (_k0 _k1 _k2 _k3 _k4 _k5 _k6 _k7 : UInt8) (C : List AC) (N ty _o _n _cap : Nat) (fl _ex : Bool) (_b0 _b1 _b2 _b3 _b4 _b5 _b6 _b7 _b8 _b9 _b10 _b11 _b12 _b13 _b14 _b15 _b16 _b17 _b18 _b19 _b20 _b21 _b22 _b23 _b24 _b25 _b26 _b27 _b28 _b29 _b30 _b31 p0 p1 p2 p3 p4 p5 p6 p7 p8 p9 p10 p11 p12 p13 p14 p15 : UInt8) (s c d _e : Int) (t : Bool) (j : Nat → Value) : St := ⟨[(.some ⟨(C), (N), (ty), (fl), .cells⟩), (.some ⟨[(.v (.int .i64 (s))), (.v (.int .i64 (c))), (.v (.int .i64 (d))), u8c p0, u8c p1, u8c p2, u8c p3, u8c p4, u8c p5, u8c p6, u8c p7, u8c p8, u8c p9, u8c p10, u8c p11, u8c p12, u8c p13, u8c p14, u8c p15], 19, 40, true, .cells⟩)], [(.code .ret)], mkT j [(4, (.e (.one (.ptr 1 0)))), (5, (iB (t)))] 23 0⟩
def c82x_end (C C' : List AC) (N ty _o _n _cap N' ty' _o' _m _cap' : Nat) (fl _ex fl' _ex' : Bool) (_i : Nat) (j : Nat → Value) : St := ⟨[(.some ⟨(C), (N), (ty), (fl), .cells⟩), (.some ⟨(C'), (N'), (ty'), (fl'), .cells⟩)], [(.code .ret)], mkT j [(4, (iB true))] 26 0⟩
def c83x_end (C C' : List AC) (N ty _o _n _cap N' ty' _o' _m _cap' : Nat) (fl _ex fl' _ex' : Bool) (_i : Nat) (j : Nat → Value) : St := ⟨[(.some ⟨(C), (N), (ty), (fl), .cells⟩), (.some ⟨(C'), (N'), (ty'), (fl'), .cells⟩)], [(.code .ret)], mkT j [(4, (iB true))] 26 0⟩
def decOk (ks bs : List UInt8) : Bool := (nthB bs 0 == 105) && (backL ks bs == bs)
/-- the cells of the telegram that is decoded -/
def decT (ks bs : List UInt8) : List AC := if decOk ks bs then telC (telS bs) (telO bs) (telD bs) (telP bs) else zTel
def decE (ks bs : List UInt8) : Int := if nthB bs 0 == 105 then (if backL ks bs == bs then 0 else 27) else 1
theorem k76 (hE : EnvOk E) {ks bs : List UInt8} (hk : ks.length = 8) (hb : bs.length = 32) : COut E 0 [] 10 [.e (.agg (ks.map u8c)), .e (.agg (bs.map u8c))] (.tup [.agg (decT ks bs), .one (.v (.int .i64 (decE ks bs)))]) [] := by
  unfold decT decE decOk
  cases h : (nthB bs 0 == 105) with
  | false => exact k76f hE hk hb h
  | true =>
    cases h2 : (backL ks bs == bs) with
    | false => exact k76e hE hk hb h h2
    | true => exact k76a hE hk hb h h2
theorem decE_zero (ks bs : List UInt8) : (decE ks bs == 0) = decOk ks bs := by
  unfold decE decOk
  cases nthB bs 0 == 105 <;> cases backL ks bs == bs <;> rfl
theorem decT_tel {ks bs : List UInt8} (hb : bs.length = 32) : ∃ s c d ps, ps.length = 16 ∧ decT ks bs = telC s c d ps := by
  unfold decT
  split
  · exact ⟨_, _, _, _, telP_len hb, rfl⟩
  · exact ⟨0, 0, 0, [0, 0, 0, 0, 0, 0, 0, 0, 0, 0, 0, 0, 0, 0, 0, 0], rfl, rfl⟩
/-- the rows of a block -/
def RowsAt (C : List AC) (o sz : Nat) (l : List (List AC)) : Prop := ∀ i r, l[i]? = some r → takeL (dropL C (o + i * sz)) sz = some r
def isTel (r : List AC) : Prop := ∃ s c d ps, ps.length = 16 ∧ r = telC s c d ps
def isSpan (r : List AC) : Prop := ∃ a b, r = [icA a, icA b]
end
end Go.Proofs.YtaaioijpbkcmdaaDoor
