/-
  The run of the law CarrierBits, out of its pieces.
-/
import Derived.Test.YthjgejgnaicdpaaGreatDoorSeBZ
import Derived.Test.YthjgejgnaicdpaaGreatDoorSeAw
open Go Go.Ev
namespace Go.Proofs.YthjgejgnaicdpaaGreatDoor
noncomputable section
set_option maxRecDepth 100000
set_option maxHeartbeats 20000000

theorem phasesI_length : ∀ (m : Nat) (zs : List Int), zs.length = m * 2 → (phasesI zs).length = m
  | 0, zs, h => by
    obtain rfl : zs = [] := List.eq_nil_of_length_eq_zero (by omega)
    rfl
  | m + 1, zs, h => by
    obtain ⟨x0, x1, r, rfl⟩ := two_of (l := zs) (by omega)
    have := phasesI_length m r (by simp only [List.length_cons] at h; omega)
    rw [phasesI, List.length_cons, this]
theorem ren01 {b n : Nat} {C cs : List AC} {x : AC} (h : S1 b C x n cs) (hb : b < 2) (L : Nat) : AC.ren (nthE [0, 1] L 2) x = x := by
  obtain ⟨_, ⟨_, p, c, rfl⟩ | ⟨_, o, cap, ex, rfl, _⟩⟩ := h
  · rfl
  · have : b = 0 ∨ b = 1 := by omega
    rcases this with rfl | rfl <;> rfl
/-- k55 for a slice of cells -/
theorem k55s (hE : EnvOk E) {C : List AC} {N ty n : Nat} {fl : Bool} {x : AC} (hC : FlatC C) (bs : List UInt8) (hs : S1 0 C x n (bs.map u8c)) (hm : n ≤ 2000000) :
    COut E 1 [some ⟨C, N, ty, fl, .cells⟩] 55 [.e (.one x)] (.e (.one (.slc 1 0 n 1 n (decide (n = 0))))) [some ⟨C, N, ty, fl, .cells⟩, some ⟨bs.map u8c, n, 5, decide (n = 0), .cells⟩] := by
  obtain ⟨hl, ⟨rfl, p, c, rfl⟩ | ⟨h0, o, cap, ex, rfl, ht⟩⟩ := hs
  · obtain rfl : bs = [] := List.eq_nil_of_length_eq_zero (by simpa using hl)
    exact cOut_start Tryz.func55 rfl (c55z hE C N ty fl p c (fun j => outK_ret (ends_ret (by kernel_rfl))) fun _ => undef)
  · rw [decide_eq_false (by omega : ¬ n = 0)]
    exact k55 hE h0 hm ht (all_isOne _) hC (flat_u8c _)

theorem core8 (hE : EnvOk E) {SC BC XC : List AC} {SN BN XN Sy By Xy : Nat} {Sf Bf Xf : Bool} (hS : FlatC SC) (hB : FlatC BC) (hX : FlatC XC) {x0 x1 x2 : AC} {n0 n1 n2 : Nat} (bs cs : List UInt8) (zs : List Int) (h0 : S1 0 SC x0 n0 (bs.map u8c)) (h1 : S1 1 BC x1 n1 (cs.map u8c)) (h2 : S1 2 XC x2 n2 (zs.map i64c)) (m0 : n0 ≤ 257) (m1 : n1 ≤ 257) (m2 : n2 ≤ 2049) : ∃ H : Heap, ∀ j, OutK E 3 3 (c8p000_end SC BC XC SN BN XN Sy By Xy Sf Bf Xf x0 x1 x2 n0 n1 n2 j) (Go.Ev.Ends E Tryz.f8 (iB true) ([some ⟨SC, SN, Sy, Sf, .cells⟩, some ⟨BC, BN, By, Bf, .cells⟩, some ⟨XC, XN, Xy, Xf, .cells⟩] ++ H)) := by
  have hl0 : bs.length = n0 := by have := h0.1; simpa using this
  have hl2 : zs.length = n2 := by have := h2.1; simpa using this
  obtain ⟨y1, hy1, ry1⟩ := S1.low h1
  obtain ⟨y2, hy2, ry2⟩ := S1.low h2
  have K15 := k15 hE
  obtain ⟨a1, o1, c1, w1, K54, K62, N62, P1⟩ := item1 hE (SN := SN) (Sy := Sy) (Sf := Sf) (b0 := (decide (n0 = 0))) hS bs h0
  obtain ⟨a2, o2, c2, w2, K56, K63, N63, P2⟩ := item2 hE (XN := XN) (Xy := Xy) (Xf := Xf) (b2 := (decide (n2 = 0))) hX (by omega) zs hy2
  obtain ⟨a3, o3, c3, w3, K57, K64, N64, P3⟩ := item3 hE (XN := XN) (Xy := Xy) (Xf := Xf) (b2 := (decide (n2 = 0))) hX (by omega) zs hy2
  obtain ⟨a4, o4, c4, w4, K58, K65, N65, P4⟩ := item4 hE (XN := XN) (Xy := Xy) (Xf := Xf) (b2 := (decide (n2 = 0))) hX (by omega) zs hy2
  obtain ⟨dd, K59, D59, K66⟩ := item5 hE (SN := SN) (Sy := Sy) (Sf := Sf) (BN := BN) (By := By) (Bf := Bf) (b0 := (decide (n0 = 0))) (b1 := (decide (n1 = 0))) hS hB bs cs h0 h1
  have K61 := k61 hE (N := XN) (ty := Xy) (fl := Xf) (by omega) zs hy2
  have K47 := k47 hE (N := XN) (ty := Xy) (fl := Xf) (by omega) zs hy2
  obtain ⟨p1, q1, Q1, R1⟩ := pair23 hE P1 (fun _ => by rw [bitsI_length, hl0]) (by omega)
  obtain ⟨p2, q2, Q2, R2⟩ := pair67 hE (bs := bytesB zs) P2 (flat_u8i _) (fun he => by
    obtain ⟨_, g2, g3⟩ := bytesE_zero he
    exact bytesB_cells (n2 / 8) zs (by omega) g3)
  obtain ⟨p3, q3, Q3, R3⟩ := pair23 hE P3 (fun he => by
    obtain ⟨_, g2, _⟩ := phasesE_zero he
    exact phasesI_length (n2 / 2) zs (by omega)) (by omega)
  obtain ⟨p4, q4, Q4, R4⟩ := pair23 hE P4 (fun _ => by rw [unI_length, hl2]) (by omega)
  have K68 : ∀ d2 : Int, (distE n0 n1 = 0 → d2 = dd) → COut E 0 [] 68 [iI dd, iI (distE n0 n1), iI (distE n0 n1), iI d2] (iB true) [] := fun d2 hd => k68 hE dd (distE n0 n1) D59 d2 hd
  obtain ⟨f1, hf1⟩ : ∃ f, f = (if decide ((n1 : Int) > (256 : Int)) then (5 : Int) else 0) := ⟨_, rfl⟩
  obtain ⟨f2, hf2⟩ : ∃ f, f = (if ((n0 : Int) != (n1 : Int)) then (2 : Int) else 0) := ⟨_, rfl⟩
  have Y1 := hk6 hE (decide ((n1 : Int) > (256 : Int))) 5
  have Y2 := hk6 hE ((n0 : Int) != (n1 : Int)) 2
  have Y0 : COut E 0 [] 60 [iB (decide ((n0 : Int) > (256 : Int))), iI 5] (iI (E1 n0)) [] := hk6 hE (decide ((n0 : Int) > (256 : Int))) 5
  rw [← hf1] at Y1
  rw [← hf2] at Y2
  have Y3 := hk7 hE (E1 n0) f1 f2
  have hY : firstI [E1 n0, f1, f2] = distE n0 n1 := by rw [hf1, hf2]; rfl
  rw [hY] at Y3
  have hT2 : ∀ t, t = chkE 2048 1 n2 zs → t = chkE 2048 1 n2 zs := fun _ h => h
  have FS : FlatB (some ⟨SC, SN, Sy, Sf, .cells⟩) := hS
  have FB : FlatB (some ⟨BC, BN, By, Bf, .cells⟩) := hB
  have FX : FlatB (some ⟨XC, XN, Xy, Xf, .cells⟩) := hX
  have F0 : FlatB (some ⟨(bs.map u8c), n0, 5, (decide (n0 = 0)), .cells⟩) := flat_u8c bs
  have F1 : FlatB (some ⟨(cs.map u8c), n1, 5, (decide (n1 = 0)), .cells⟩) := flat_u8c cs
  have F2 : FlatB (some ⟨(zs.map i64c), n2, 3, (decide (n2 = 0)), .cells⟩) := flat_i64c zs
  have O1 := P1.fo (flat_i64c _)
  have O2 := P2.fo (flat_u8i _)
  have O3 := P3.fo (flat_i64c _)
  have O4 := P4.fo (flat_i64c _)
  have W1 := P1.fw (flat_i64c _)
  have W2 := P2.fw (flat_u8i _)
  have W3 := P3.fw (flat_i64c _)
  have W4 := P4.fw (flat_i64c _)
  have po1 := P1.po
  have po2 := P2.po
  have po3 := P3.po
  have po4 := P4.po
  have pw1 := P1.pw
  have pw2 := P2.pw
  have pw3 := P3.pw
  have pw4 := P4.pw
  have A1 := fun k => P1.ra k 4
  have A2 := fun k => P2.ra k 6
  have A3 := fun k => P3.ra k 8
  have A4 := fun k => P4.ra k 10
  have U1 := fun k => P1.rc k 14
  have U2 := fun k => P2.rc k 15
  have U3 := fun k => P3.rc k 16
  have U4 := fun k => P4.rc k 17
  have X0 := fun L => h0.ren0 L
  have L0 := h0.lenIs
  have L1 := h1.lenIs
  have K55a := k55s hE (N := SN) (ty := Sy) (fl := Sf) hS bs h0 (by omega)
  have K55b := k55s hE (N := BN) (ty := By) (fl := Bf) hB cs hy1 (by omega)
  have K45 := k45 hE (N := XN) (ty := Xy) (fl := Xf) hX hy2 (flat_i64c zs) (one_i64c zs) (by omega) rfl
  clear hy1 hy2
  obtain ⟨e1, he1⟩ : ∃ e, e = E1 n0 := ⟨_, rfl⟩
  obtain ⟨e2, he2⟩ : ∃ e, e = bytesE n2 zs := ⟨_, rfl⟩
  obtain ⟨e3, he3⟩ : ∃ e, e = phasesE n2 zs := ⟨_, rfl⟩
  obtain ⟨e4, he4⟩ : ∃ e, e = chkE 256 3 n2 zs := ⟨_, rfl⟩
  obtain ⟨e5, he5⟩ : ∃ e, e = distE n0 n1 := ⟨_, rfl⟩
  obtain ⟨t2, ht2⟩ : ∃ e, e = chkE 2048 1 n2 zs := ⟨_, rfl⟩
  rw [← he1] at K54 K62 N62 Q1 Y0 Y3
  rw [← he2] at K56 K63 N63
  rw [← he3] at K57 K64 N64 Q3
  rw [← he4] at K58 K65 N65 Q4 K47
  rw [← he5] at K59 K66 K68 Y3 D59
  rw [← ht2] at K61 K63 N63 K64 N64
  clear P1 P2 P3 P4
  refine ⟨[some ⟨(bs.map u8c), n0, 5, (decide (n0 = 0)), .cells⟩, o1, some ⟨(zs.map i64c), n2, 3, (decide (n2 = 0)), .cells⟩, o2, some ⟨(zs.map i64c), n2, 3, (decide (n2 = 0)), .cells⟩, o3, some ⟨(zs.map i64c), n2, 3, (decide (n2 = 0)), .cells⟩, o4, some ⟨(bs.map u8c), n0, 5, (decide (n0 = 0)), .cells⟩, some ⟨(cs.map u8c), n1, 5, (decide (n1 = 0)), .cells⟩, some ⟨[.v (.int .i64 e1), .v (.int .i64 f1), .v (.int .i64 f2)], 3, 3, true, .cells⟩, w1, w2, w3, w4], ?_⟩
  -- the comparisons
  have stK : ∀ d2 : Int, (e5 = 0 → d2 = dd) → ∀ j, OutK E 3 3 (s8k SC BC XC SN BN XN Sy By Xy Sf Bf Xf x0 x1 x2 n0 n1 n2 (bs.map u8c) (cs.map u8c) (zs.map i64c) (decide (n0 = 0)) (decide (n1 = 0)) (decide (n2 = 0)) y1 y2 a1 a2 a3 a4 (AC.ren (fun _ => 4) a1) (AC.ren (fun _ => 6) a2) (AC.ren (fun _ => 8) a3) (AC.ren (fun _ => 10) a4) c1 c2 c3 c4 (AC.ren (fun _ => 14) c1) (AC.ren (fun _ => 15) c2) (AC.ren (fun _ => 16) c3) (AC.ren (fun _ => 17) c4) o1 o2 o3 o4 w1 w2 w3 w4 e1 e2 e3 e4 e5 t2 f1 f2 dd d2 p1 p2 p3 p4 q1 q2 q3 q4 j) (Go.Ev.Ends E Tryz.f8 (iB true) ([some ⟨SC, SN, Sy, Sf, .cells⟩, some ⟨BC, BN, By, Bf, .cells⟩, some ⟨XC, XN, Xy, Xf, .cells⟩] ++ [some ⟨(bs.map u8c), n0, 5, (decide (n0 = 0)), .cells⟩, o1, some ⟨(zs.map i64c), n2, 3, (decide (n2 = 0)), .cells⟩, o2, some ⟨(zs.map i64c), n2, 3, (decide (n2 = 0)), .cells⟩, o3, some ⟨(zs.map i64c), n2, 3, (decide (n2 = 0)), .cells⟩, o4, some ⟨(bs.map u8c), n0, 5, (decide (n0 = 0)), .cells⟩, some ⟨(cs.map u8c), n1, 5, (decide (n1 = 0)), .cells⟩, some ⟨[.v (.int .i64 e1), .v (.int .i64 f1), .v (.int .i64 f2)], 3, 3, true, .cells⟩, w1, w2, w3, w4])) := fun d2 hd j => by
    have K68' := K68 d2 hd
    have hee : (iB (e2 == e2) : AV) = iB true := by rw [beq_self_eq_true]
    apply c8k hE SC BC XC SN BN XN Sy By Xy Sf Bf Xf x0 x1 x2 n0 n1 n2 (bs.map u8c) (cs.map u8c) (zs.map i64c) (decide (n0 = 0)) (decide (n1 = 0)) (decide (n2 = 0)) y1 y2 a1 a2 a3 a4 (AC.ren (fun _ => 4) a1) (AC.ren (fun _ => 6) a2) (AC.ren (fun _ => 8) a3) (AC.ren (fun _ => 10) a4) c1 c2 c3 c4 (AC.ren (fun _ => 14) c1) (AC.ren (fun _ => 15) c2) (AC.ren (fun _ => 16) c3) (AC.ren (fun _ => 17) c4) o1 o2 o3 o4 w1 w2 w3 w4 e1 e2 e3 e4 e5 t2 f1 f2 dd d2 p1 p2 p3 p4 q1 q2 q3 q4 <;> first
      | exact Q1 | exact Q2 | exact Q3 | exact Q4 | exact K68' | exact K15 | exact hee | exact trivial
      | (rw [(R1 4 14 18).1, (R1 4 14 18).2]) | (rw [(R2 6 15 18).1, (R2 6 15 18).2]) | (rw [(R3 8 16 18).1, (R3 8 16 18).2]) | (rw [(R4 10 17 18).1, (R4 10 17 18).2])
      | exact ⟨O1, W1, trivial⟩ | exact ⟨O2, W2, trivial⟩ | exact ⟨O3, W3, trivial⟩ | exact ⟨O4, W4, trivial⟩
      | exact ⟨po1, pw1, trivial⟩ | exact ⟨po2, pw2, trivial⟩ | exact ⟨po3, pw3, trivial⟩ | exact ⟨po4, pw4, trivial⟩
      | exact fun j => outK_ret (ends_ret (by kernel_rfl))
  have stJ : ∀ j, OutK E 3 3 (s8j SC BC XC SN BN XN Sy By Xy Sf Bf Xf x0 x1 x2 n0 n1 n2 (bs.map u8c) (cs.map u8c) (zs.map i64c) (decide (n0 = 0)) (decide (n1 = 0)) (decide (n2 = 0)) y1 y2 a1 a2 a3 a4 (AC.ren (fun _ => 4) a1) (AC.ren (fun _ => 6) a2) (AC.ren (fun _ => 8) a3) (AC.ren (fun _ => 10) a4) c1 c2 c3 c4 (AC.ren (fun _ => 14) c1) (AC.ren (fun _ => 15) c2) (AC.ren (fun _ => 16) c3) (AC.ren (fun _ => 17) c4) o1 o2 o3 o4 w1 w2 w3 w4 e1 e2 e3 e4 e5 t2 f1 f2 dd dd j) (Go.Ev.Ends E Tryz.f8 (iB true) ([some ⟨SC, SN, Sy, Sf, .cells⟩, some ⟨BC, BN, By, Bf, .cells⟩, some ⟨XC, XN, Xy, Xf, .cells⟩] ++ [some ⟨(bs.map u8c), n0, 5, (decide (n0 = 0)), .cells⟩, o1, some ⟨(zs.map i64c), n2, 3, (decide (n2 = 0)), .cells⟩, o2, some ⟨(zs.map i64c), n2, 3, (decide (n2 = 0)), .cells⟩, o3, some ⟨(zs.map i64c), n2, 3, (decide (n2 = 0)), .cells⟩, o4, some ⟨(bs.map u8c), n0, 5, (decide (n0 = 0)), .cells⟩, some ⟨(cs.map u8c), n1, 5, (decide (n1 = 0)), .cells⟩, some ⟨[.v (.int .i64 e1), .v (.int .i64 f1), .v (.int .i64 f2)], 3, 3, true, .cells⟩, w1, w2, w3, w4])) := fun j => by
    by_cases h5 : e5 = 0
    · have hb : (e5 == (0 : Int)) = true := by rw [h5]; rfl
      have K66' := K66 h5
      have nx := stK dd (fun _ => rfl)
      have xx : AC.ren (nthE [0, 1] 18 2) x0 = x0 := ren01 h0 (by omega) 18
      have xy : AC.ren (nthE [0, 1] 18 2) x1 = x1 := ren01 h1 (by omega) 18
      apply c8jA hE SC BC XC SN BN XN Sy By Xy Sf Bf Xf x0 x1 x2 n0 n1 n2 (bs.map u8c) (cs.map u8c) (zs.map i64c) (decide (n0 = 0)) (decide (n1 = 0)) (decide (n2 = 0)) y1 y2 a1 a2 a3 a4 (AC.ren (fun _ => 4) a1) (AC.ren (fun _ => 6) a2) (AC.ren (fun _ => 8) a3) (AC.ren (fun _ => 10) a4) c1 c2 c3 c4 (AC.ren (fun _ => 14) c1) (AC.ren (fun _ => 15) c2) (AC.ren (fun _ => 16) c3) (AC.ren (fun _ => 17) c4) o1 o2 o3 o4 w1 w2 w3 w4 e1 e2 e3 e4 e5 t2 f1 f2 dd dd <;> first | exact hb | exact K66' | exact nx | (rw [xx, xy]) | exact ⟨FS, FB, trivial⟩ | exact trivial
    · have hb : (e5 == (0 : Int)) = false := by rw [beq_eq_false_iff_ne]; exact h5
      exact c8jB hE SC BC XC SN BN XN Sy By Xy Sf Bf Xf x0 x1 x2 n0 n1 n2 (bs.map u8c) (cs.map u8c) (zs.map i64c) (decide (n0 = 0)) (decide (n1 = 0)) (decide (n2 = 0)) y1 y2 a1 a2 a3 a4 (AC.ren (fun _ => 4) a1) (AC.ren (fun _ => 6) a2) (AC.ren (fun _ => 8) a3) (AC.ren (fun _ => 10) a4) c1 c2 c3 c4 (AC.ren (fun _ => 14) c1) (AC.ren (fun _ => 15) c2) (AC.ren (fun _ => 16) c3) (AC.ren (fun _ => 17) c4) o1 o2 o3 o4 w1 w2 w3 w4 e1 e2 e3 e4 e5 t2 f1 f2 dd dd hb (stK 0 (fun h => absurd h h5)) j
  have stI : ∀ j, OutK E 3 3 (s8i SC BC XC SN BN XN Sy By Xy Sf Bf Xf x0 x1 x2 n0 n1 n2 (bs.map u8c) (cs.map u8c) (zs.map i64c) (decide (n0 = 0)) (decide (n1 = 0)) (decide (n2 = 0)) y1 y2 a1 a2 a3 a4 (AC.ren (fun _ => 4) a1) (AC.ren (fun _ => 6) a2) (AC.ren (fun _ => 8) a3) (AC.ren (fun _ => 10) a4) c1 c2 c3 c4 (AC.ren (fun _ => 14) c1) (AC.ren (fun _ => 15) c2) (AC.ren (fun _ => 16) c3) (AC.ren (fun _ => 17) c4) o1 o2 o3 o4 w1 w2 w3 w4 e1 e2 e3 e4 e5 t2 f1 f2 dd dd j) (Go.Ev.Ends E Tryz.f8 (iB true) ([some ⟨SC, SN, Sy, Sf, .cells⟩, some ⟨BC, BN, By, Bf, .cells⟩, some ⟨XC, XN, Xy, Xf, .cells⟩] ++ [some ⟨(bs.map u8c), n0, 5, (decide (n0 = 0)), .cells⟩, o1, some ⟨(zs.map i64c), n2, 3, (decide (n2 = 0)), .cells⟩, o2, some ⟨(zs.map i64c), n2, 3, (decide (n2 = 0)), .cells⟩, o3, some ⟨(zs.map i64c), n2, 3, (decide (n2 = 0)), .cells⟩, o4, some ⟨(bs.map u8c), n0, 5, (decide (n0 = 0)), .cells⟩, some ⟨(cs.map u8c), n1, 5, (decide (n1 = 0)), .cells⟩, some ⟨[.v (.int .i64 e1), .v (.int .i64 f1), .v (.int .i64 f2)], 3, 3, true, .cells⟩, w1, w2, w3, w4])) := fun j => by
    by_cases h4 : e4 = 0
    · have hb : (e4 == (0 : Int)) = true := by rw [h4]; rfl
      have K65' := K65 h4
      apply c8iA hE SC BC XC SN BN XN Sy By Xy Sf Bf Xf x0 x1 x2 n0 n1 n2 (bs.map u8c) (cs.map u8c) (zs.map i64c) (decide (n0 = 0)) (decide (n1 = 0)) (decide (n2 = 0)) y1 y2 a1 a2 a3 a4 (AC.ren (fun _ => 4) a1) (AC.ren (fun _ => 6) a2) (AC.ren (fun _ => 8) a3) (AC.ren (fun _ => 10) a4) c1 c2 c3 c4 (AC.ren (fun _ => 14) c1) (AC.ren (fun _ => 15) c2) (AC.ren (fun _ => 16) c3) (AC.ren (fun _ => 17) c4) o1 o2 o3 o4 w1 w2 w3 w4 e1 e2 e3 e4 e5 t2 f1 f2 dd dd <;> first | exact hb | exact K65' | exact stJ | (rw [ry2]) | (rw [U4]) | exact ⟨FX, trivial⟩ | exact ⟨W4, trivial⟩ | exact ⟨rfl, trivial⟩ | exact ⟨pw4, trivial⟩ | exact trivial
    · have hb : (e4 == (0 : Int)) = false := by rw [beq_eq_false_iff_ne]; exact h4
      obtain ⟨rfl, rfl⟩ := N65 h4
      exact outK_pad (c8iB hE SC BC XC SN BN XN Sy By Xy Sf Bf Xf x0 x1 x2 n0 n1 n2 (bs.map u8c) (cs.map u8c) (zs.map i64c) (decide (n0 = 0)) (decide (n1 = 0)) (decide (n2 = 0)) y1 y2 a1 a2 a3 a4 (AC.ren (fun _ => 4) a1) (AC.ren (fun _ => 6) a2) (AC.ren (fun _ => 8) a3) (AC.ren (fun _ => 10) a4) c1 c2 c3 (.v (.slice none 0 0)) (AC.ren (fun _ => 14) c1) (AC.ren (fun _ => 15) c2) (AC.ren (fun _ => 16) c3) (AC.ren (fun _ => 17) (.v (.slice none 0 0))) o1 o2 o3 o4 w1 w2 w3 none e1 e2 e3 e4 e5 t2 f1 f2 dd dd hb stJ j)
  have stG : ∀ j, OutK E 3 3 (s8g SC BC XC SN BN XN Sy By Xy Sf Bf Xf x0 x1 x2 n0 n1 n2 (bs.map u8c) (cs.map u8c) (zs.map i64c) (decide (n0 = 0)) (decide (n1 = 0)) (decide (n2 = 0)) y1 y2 a1 a2 a3 a4 (AC.ren (fun _ => 4) a1) (AC.ren (fun _ => 6) a2) (AC.ren (fun _ => 8) a3) (AC.ren (fun _ => 10) a4) c1 c2 c3 c4 (AC.ren (fun _ => 14) c1) (AC.ren (fun _ => 15) c2) (AC.ren (fun _ => 16) c3) (AC.ren (fun _ => 17) c4) o1 o2 o3 o4 w1 w2 w3 w4 e1 e2 e3 e4 e5 t2 f1 f2 dd dd j) (Go.Ev.Ends E Tryz.f8 (iB true) ([some ⟨SC, SN, Sy, Sf, .cells⟩, some ⟨BC, BN, By, Bf, .cells⟩, some ⟨XC, XN, Xy, Xf, .cells⟩] ++ [some ⟨(bs.map u8c), n0, 5, (decide (n0 = 0)), .cells⟩, o1, some ⟨(zs.map i64c), n2, 3, (decide (n2 = 0)), .cells⟩, o2, some ⟨(zs.map i64c), n2, 3, (decide (n2 = 0)), .cells⟩, o3, some ⟨(zs.map i64c), n2, 3, (decide (n2 = 0)), .cells⟩, o4, some ⟨(bs.map u8c), n0, 5, (decide (n0 = 0)), .cells⟩, some ⟨(cs.map u8c), n1, 5, (decide (n1 = 0)), .cells⟩, some ⟨[.v (.int .i64 e1), .v (.int .i64 f1), .v (.int .i64 f2)], 3, 3, true, .cells⟩, w1, w2, w3, w4])) := fun j => by
    by_cases h2' : t2 = 0
    · have hb : (t2 == (0 : Int)) = true := by rw [h2']; rfl
      have K63' := K63 h2'
      have K64' := K64 h2'
      have stH : ∀ j, OutK E 3 3 (s8h SC BC XC SN BN XN Sy By Xy Sf Bf Xf x0 x1 x2 n0 n1 n2 (bs.map u8c) (cs.map u8c) (zs.map i64c) (decide (n0 = 0)) (decide (n1 = 0)) (decide (n2 = 0)) y1 y2 a1 a2 a3 a4 (AC.ren (fun _ => 4) a1) (AC.ren (fun _ => 6) a2) (AC.ren (fun _ => 8) a3) (AC.ren (fun _ => 10) a4) c1 c2 c3 c4 (AC.ren (fun _ => 14) c1) (AC.ren (fun _ => 15) c2) (AC.ren (fun _ => 16) c3) (AC.ren (fun _ => 17) c4) o1 o2 o3 o4 w1 w2 w3 w4 e1 e2 e3 e4 e5 t2 f1 f2 dd dd j) (Go.Ev.Ends E Tryz.f8 (iB true) ([some ⟨SC, SN, Sy, Sf, .cells⟩, some ⟨BC, BN, By, Bf, .cells⟩, some ⟨XC, XN, Xy, Xf, .cells⟩] ++ [some ⟨(bs.map u8c), n0, 5, (decide (n0 = 0)), .cells⟩, o1, some ⟨(zs.map i64c), n2, 3, (decide (n2 = 0)), .cells⟩, o2, some ⟨(zs.map i64c), n2, 3, (decide (n2 = 0)), .cells⟩, o3, some ⟨(zs.map i64c), n2, 3, (decide (n2 = 0)), .cells⟩, o4, some ⟨(bs.map u8c), n0, 5, (decide (n0 = 0)), .cells⟩, some ⟨(cs.map u8c), n1, 5, (decide (n1 = 0)), .cells⟩, some ⟨[.v (.int .i64 e1), .v (.int .i64 f1), .v (.int .i64 f2)], 3, 3, true, .cells⟩, w1, w2, w3, w4])) := fun j => by
        apply c8hA hE SC BC XC SN BN XN Sy By Xy Sf Bf Xf x0 x1 x2 n0 n1 n2 (bs.map u8c) (cs.map u8c) (zs.map i64c) (decide (n0 = 0)) (decide (n1 = 0)) (decide (n2 = 0)) y1 y2 a1 a2 a3 a4 (AC.ren (fun _ => 4) a1) (AC.ren (fun _ => 6) a2) (AC.ren (fun _ => 8) a3) (AC.ren (fun _ => 10) a4) c1 c2 c3 c4 (AC.ren (fun _ => 14) c1) (AC.ren (fun _ => 15) c2) (AC.ren (fun _ => 16) c3) (AC.ren (fun _ => 17) c4) o1 o2 o3 o4 w1 w2 w3 w4 e1 e2 e3 e4 e5 t2 f1 f2 dd dd <;> first | exact hb | exact K64' | exact stI | (rw [ry2]) | (rw [U3]) | exact ⟨FX, trivial⟩ | exact ⟨W3, trivial⟩ | exact ⟨rfl, trivial⟩ | exact ⟨pw3, trivial⟩ | exact trivial
      apply c8gA hE SC BC XC SN BN XN Sy By Xy Sf Bf Xf x0 x1 x2 n0 n1 n2 (bs.map u8c) (cs.map u8c) (zs.map i64c) (decide (n0 = 0)) (decide (n1 = 0)) (decide (n2 = 0)) y1 y2 a1 a2 a3 a4 (AC.ren (fun _ => 4) a1) (AC.ren (fun _ => 6) a2) (AC.ren (fun _ => 8) a3) (AC.ren (fun _ => 10) a4) c1 c2 c3 c4 (AC.ren (fun _ => 14) c1) (AC.ren (fun _ => 15) c2) (AC.ren (fun _ => 16) c3) (AC.ren (fun _ => 17) c4) o1 o2 o3 o4 w1 w2 w3 w4 e1 e2 e3 e4 e5 t2 f1 f2 dd dd <;> first | exact hb | exact K63' | exact stH | (rw [ry2]) | (rw [U2]) | exact ⟨FX, trivial⟩ | exact ⟨W2, trivial⟩ | exact ⟨rfl, trivial⟩ | exact ⟨pw2, trivial⟩ | exact trivial
    · have hb : (t2 == (0 : Int)) = false := by rw [beq_eq_false_iff_ne]; exact h2'
      obtain ⟨rfl, rfl, g2⟩ := N63 h2'
      obtain ⟨rfl, rfl, g3⟩ := N64 h2'
      subst g2 g3
      exact outK_pad (outK_pad (c8gB hE SC BC XC SN BN XN Sy By Xy Sf Bf Xf x0 x1 x2 n0 n1 n2 (bs.map u8c) (cs.map u8c) (zs.map i64c) (decide (n0 = 0)) (decide (n1 = 0)) (decide (n2 = 0)) y1 y2 a1 a2 a3 a4 (AC.ren (fun _ => 4) a1) (AC.ren (fun _ => 6) a2) (AC.ren (fun _ => 8) a3) (AC.ren (fun _ => 10) a4) c1 (.v (.slice none 0 0)) (.v (.slice none 0 0)) c4 (AC.ren (fun _ => 14) c1) (AC.ren (fun _ => 15) (.v (.slice none 0 0))) (AC.ren (fun _ => 16) (.v (.slice none 0 0))) (AC.ren (fun _ => 17) c4) o1 o2 o3 o4 w1 none none w4 e1 e3 e3 e4 e5 e3 f1 f2 dd dd hb hb stI j))
  have stE : ∀ j, OutK E 3 3 (s8e SC BC XC SN BN XN Sy By Xy Sf Bf Xf x0 x1 x2 n0 n1 n2 (bs.map u8c) (cs.map u8c) (zs.map i64c) (decide (n0 = 0)) (decide (n1 = 0)) (decide (n2 = 0)) y1 y2 a1 a2 a3 a4 (AC.ren (fun _ => 4) a1) (AC.ren (fun _ => 6) a2) (AC.ren (fun _ => 8) a3) (AC.ren (fun _ => 10) a4) c1 c2 c3 c4 (AC.ren (fun _ => 14) c1) (AC.ren (fun _ => 15) c2) (AC.ren (fun _ => 16) c3) (AC.ren (fun _ => 17) c4) o1 o2 o3 o4 w1 w2 w3 w4 e1 e2 e3 e4 e5 t2 f1 f2 dd dd j) (Go.Ev.Ends E Tryz.f8 (iB true) ([some ⟨SC, SN, Sy, Sf, .cells⟩, some ⟨BC, BN, By, Bf, .cells⟩, some ⟨XC, XN, Xy, Xf, .cells⟩] ++ [some ⟨(bs.map u8c), n0, 5, (decide (n0 = 0)), .cells⟩, o1, some ⟨(zs.map i64c), n2, 3, (decide (n2 = 0)), .cells⟩, o2, some ⟨(zs.map i64c), n2, 3, (decide (n2 = 0)), .cells⟩, o3, some ⟨(zs.map i64c), n2, 3, (decide (n2 = 0)), .cells⟩, o4, some ⟨(bs.map u8c), n0, 5, (decide (n0 = 0)), .cells⟩, some ⟨(cs.map u8c), n1, 5, (decide (n1 = 0)), .cells⟩, some ⟨[.v (.int .i64 e1), .v (.int .i64 f1), .v (.int .i64 f2)], 3, 3, true, .cells⟩, w1, w2, w3, w4])) := fun j => by
    by_cases h1' : e1 = 0
    · have hb : (e1 == (0 : Int)) = true := by rw [h1']; rfl
      have K62' := K62 h1'
      apply c8eA hE SC BC XC SN BN XN Sy By Xy Sf Bf Xf x0 x1 x2 n0 n1 n2 (bs.map u8c) (cs.map u8c) (zs.map i64c) (decide (n0 = 0)) (decide (n1 = 0)) (decide (n2 = 0)) y1 y2 a1 a2 a3 a4 (AC.ren (fun _ => 4) a1) (AC.ren (fun _ => 6) a2) (AC.ren (fun _ => 8) a3) (AC.ren (fun _ => 10) a4) c1 c2 c3 c4 (AC.ren (fun _ => 14) c1) (AC.ren (fun _ => 15) c2) (AC.ren (fun _ => 16) c3) (AC.ren (fun _ => 17) c4) o1 o2 o3 o4 w1 w2 w3 w4 e1 e2 e3 e4 e5 t2 f1 f2 dd dd <;> first | exact hb | exact K62' | exact stG | (rw [X0]) | (rw [U1]) | exact ⟨FS, trivial⟩ | exact ⟨W1, trivial⟩ | exact ⟨rfl, trivial⟩ | exact ⟨pw1, trivial⟩ | exact trivial
    · have hb : (e1 == (0 : Int)) = false := by rw [beq_eq_false_iff_ne]; exact h1'
      obtain ⟨rfl, rfl⟩ := N62 h1'
      exact outK_pad (c8eB hE SC BC XC SN BN XN Sy By Xy Sf Bf Xf x0 x1 x2 n0 n1 n2 (bs.map u8c) (cs.map u8c) (zs.map i64c) (decide (n0 = 0)) (decide (n1 = 0)) (decide (n2 = 0)) y1 y2 a1 a2 a3 a4 (AC.ren (fun _ => 4) a1) (AC.ren (fun _ => 6) a2) (AC.ren (fun _ => 8) a3) (AC.ren (fun _ => 10) a4) (.v (.slice none 0 0)) c2 c3 c4 (AC.ren (fun _ => 14) (.v (.slice none 0 0))) (AC.ren (fun _ => 15) c2) (AC.ren (fun _ => 16) c3) (AC.ren (fun _ => 17) c4) o1 o2 o3 o4 none w2 w3 w4 e1 e2 e3 e4 e5 t2 f1 f2 dd dd hb stG j)
  have stD : ∀ j, OutK E 3 3 (s8d SC BC XC SN BN XN Sy By Xy Sf Bf Xf x0 x1 x2 n0 n1 n2 (bs.map u8c) (cs.map u8c) (zs.map i64c) (decide (n0 = 0)) (decide (n1 = 0)) (decide (n2 = 0)) y1 y2 a1 a2 a3 a4 (AC.ren (fun _ => 4) a1) (AC.ren (fun _ => 6) a2) (AC.ren (fun _ => 8) a3) (AC.ren (fun _ => 10) a4) c1 c2 c3 c4 (AC.ren (fun _ => 14) c1) (AC.ren (fun _ => 15) c2) (AC.ren (fun _ => 16) c3) (AC.ren (fun _ => 17) c4) o1 o2 o3 o4 w1 w2 w3 w4 e1 e2 e3 e4 e5 t2 f1 f2 dd dd j) (Go.Ev.Ends E Tryz.f8 (iB true) ([some ⟨SC, SN, Sy, Sf, .cells⟩, some ⟨BC, BN, By, Bf, .cells⟩, some ⟨XC, XN, Xy, Xf, .cells⟩] ++ [some ⟨(bs.map u8c), n0, 5, (decide (n0 = 0)), .cells⟩, o1, some ⟨(zs.map i64c), n2, 3, (decide (n2 = 0)), .cells⟩, o2, some ⟨(zs.map i64c), n2, 3, (decide (n2 = 0)), .cells⟩, o3, some ⟨(zs.map i64c), n2, 3, (decide (n2 = 0)), .cells⟩, o4, some ⟨(bs.map u8c), n0, 5, (decide (n0 = 0)), .cells⟩, some ⟨(cs.map u8c), n1, 5, (decide (n1 = 0)), .cells⟩, some ⟨[.v (.int .i64 e1), .v (.int .i64 f1), .v (.int .i64 f2)], 3, 3, true, .cells⟩, w1, w2, w3, w4])) := fun j => by
    apply c8d hE SC BC XC SN BN XN Sy By Xy Sf Bf Xf x0 x1 x2 n0 n1 n2 (bs.map u8c) (cs.map u8c) (zs.map i64c) (decide (n0 = 0)) (decide (n1 = 0)) (decide (n2 = 0)) y1 y2 a1 a2 a3 a4 (AC.ren (fun _ => 4) a1) (AC.ren (fun _ => 6) a2) (AC.ren (fun _ => 8) a3) (AC.ren (fun _ => 10) a4) c1 c2 c3 c4 (AC.ren (fun _ => 14) c1) (AC.ren (fun _ => 15) c2) (AC.ren (fun _ => 16) c3) (AC.ren (fun _ => 17) c4) o1 o2 o3 o4 w1 w2 w3 w4 e1 e2 e3 e4 e5 t2 f1 f2 dd dd <;> first | exact K55a | exact K55b | exact K59 | exact Y0 | exact K61 | exact K47 | exact L0 | exact L1 | exact Y1 | exact Y2 | exact Y3 | exact stE | (rw [X0]) | (rw [ry1]) | (rw [ry2]) | exact ⟨FS, trivial⟩ | exact ⟨FX, trivial⟩ | exact ⟨FB, trivial⟩ | exact ⟨F0, trivial⟩ | exact ⟨F1, trivial⟩ | exact ⟨F2, trivial⟩ | exact trivial | exact ⟨rfl, trivial⟩ | exact ⟨F0, F1, trivial⟩
  have stC : ∀ j, OutK E 3 3 (s8c SC BC XC SN BN XN Sy By Xy Sf Bf Xf x0 x1 x2 n0 n1 n2 (bs.map u8c) (cs.map u8c) (zs.map i64c) (decide (n0 = 0)) (decide (n1 = 0)) (decide (n2 = 0)) y1 y2 a1 a2 a3 a4 (AC.ren (fun _ => 4) a1) (AC.ren (fun _ => 6) a2) (AC.ren (fun _ => 8) a3) (AC.ren (fun _ => 10) a4) c1 c2 c3 c4 (AC.ren (fun _ => 14) c1) (AC.ren (fun _ => 15) c2) (AC.ren (fun _ => 16) c3) (AC.ren (fun _ => 17) c4) o1 o2 o3 o4 w1 w2 w3 w4 e1 e2 e3 e4 e5 t2 f1 f2 dd dd j) (Go.Ev.Ends E Tryz.f8 (iB true) ([some ⟨SC, SN, Sy, Sf, .cells⟩, some ⟨BC, BN, By, Bf, .cells⟩, some ⟨XC, XN, Xy, Xf, .cells⟩] ++ [some ⟨(bs.map u8c), n0, 5, (decide (n0 = 0)), .cells⟩, o1, some ⟨(zs.map i64c), n2, 3, (decide (n2 = 0)), .cells⟩, o2, some ⟨(zs.map i64c), n2, 3, (decide (n2 = 0)), .cells⟩, o3, some ⟨(zs.map i64c), n2, 3, (decide (n2 = 0)), .cells⟩, o4, some ⟨(bs.map u8c), n0, 5, (decide (n0 = 0)), .cells⟩, some ⟨(cs.map u8c), n1, 5, (decide (n1 = 0)), .cells⟩, some ⟨[.v (.int .i64 e1), .v (.int .i64 f1), .v (.int .i64 f2)], 3, 3, true, .cells⟩, w1, w2, w3, w4])) := fun j => by
    apply c8c hE SC BC XC SN BN XN Sy By Xy Sf Bf Xf x0 x1 x2 n0 n1 n2 (bs.map u8c) (cs.map u8c) (zs.map i64c) (decide (n0 = 0)) (decide (n1 = 0)) (decide (n2 = 0)) y1 y2 a1 a2 a3 a4 (AC.ren (fun _ => 4) a1) (AC.ren (fun _ => 6) a2) (AC.ren (fun _ => 8) a3) (AC.ren (fun _ => 10) a4) c1 c2 c3 c4 (AC.ren (fun _ => 14) c1) (AC.ren (fun _ => 15) c2) (AC.ren (fun _ => 16) c3) (AC.ren (fun _ => 17) c4) o1 o2 o3 o4 w1 w2 w3 w4 e1 e2 e3 e4 e5 t2 f1 f2 dd dd <;> first | exact K45 | exact K56 | exact K57 | exact K58 | exact stD | (rw [ry2]) | (rw [A2]) | (rw [A3]) | (rw [A4]) | exact ⟨FS, trivial⟩ | exact ⟨FX, trivial⟩ | exact ⟨FB, trivial⟩ | exact ⟨F0, trivial⟩ | exact ⟨F1, trivial⟩ | exact ⟨F2, trivial⟩ | exact trivial | exact ⟨rfl, trivial⟩ | exact ⟨O2, trivial⟩ | exact ⟨O3, trivial⟩ | exact ⟨O4, trivial⟩ | exact ⟨po2, trivial⟩ | exact ⟨po3, trivial⟩ | exact ⟨po4, trivial⟩
  intro j
  show OutK E 3 3 (s8b SC BC XC SN BN XN Sy By Xy Sf Bf Xf x0 x1 x2 n0 n1 n2 (bs.map u8c) (cs.map u8c) (zs.map i64c) (decide (n0 = 0)) (decide (n1 = 0)) (decide (n2 = 0)) y1 y2 a1 a2 a3 a4 (AC.ren (fun _ => 4) a1) (AC.ren (fun _ => 6) a2) (AC.ren (fun _ => 8) a3) (AC.ren (fun _ => 10) a4) c1 c2 c3 c4 (AC.ren (fun _ => 14) c1) (AC.ren (fun _ => 15) c2) (AC.ren (fun _ => 16) c3) (AC.ren (fun _ => 17) c4) o1 o2 o3 o4 w1 w2 w3 w4 e1 e2 e3 e4 e5 t2 f1 f2 dd dd j) _
  apply c8b hE SC BC XC SN BN XN Sy By Xy Sf Bf Xf x0 x1 x2 n0 n1 n2 (bs.map u8c) (cs.map u8c) (zs.map i64c) (decide (n0 = 0)) (decide (n1 = 0)) (decide (n2 = 0)) y1 y2 a1 a2 a3 a4 (AC.ren (fun _ => 4) a1) (AC.ren (fun _ => 6) a2) (AC.ren (fun _ => 8) a3) (AC.ren (fun _ => 10) a4) c1 c2 c3 c4 (AC.ren (fun _ => 14) c1) (AC.ren (fun _ => 15) c2) (AC.ren (fun _ => 16) c3) (AC.ren (fun _ => 17) c4) o1 o2 o3 o4 w1 w2 w3 w4 e1 e2 e3 e4 e5 t2 f1 f2 dd dd <;> first | exact K55a | exact K54 | exact stC | (rw [X0]) | (rw [A1]) | exact ⟨FS, trivial⟩ | exact ⟨FX, trivial⟩ | exact ⟨FB, trivial⟩ | exact ⟨F0, trivial⟩ | exact ⟨F1, trivial⟩ | exact ⟨F2, trivial⟩ | exact trivial | exact ⟨rfl, trivial⟩ | exact ⟨O1, trivial⟩ | exact ⟨po1, trivial⟩

theorem cOut_drop {f : FuncId} {args : List AV} {SC BC XC : List AC} {SN BN XN Sy By Xy : Nat} {Sf Bf Xf : Bool} (hS : FlatC SC) (hB : FlatC BC) (hX : FlatC XC) {b : Bool} (H : Heap) (hc : COut E 3 [some ⟨SC, SN, Sy, Sf, .cells⟩, some ⟨BC, BN, By, Bf, .cells⟩, some ⟨XC, XN, Xy, Xf, .cells⟩] f args (iB b) ([some ⟨SC, SN, Sy, Sf, .cells⟩, some ⟨BC, BN, By, Bf, .cells⟩, some ⟨XC, XN, Xy, Xf, .cells⟩] ++ H)) : COut E 3 [some ⟨SC, SN, Sy, Sf, .cells⟩, some ⟨BC, BN, By, Bf, .cells⟩, some ⟨XC, XN, Xy, Xf, .cells⟩] f args (iB b) [some ⟨SC, SN, Sy, Sf, .cells⟩, some ⟨BC, BN, By, Bf, .cells⟩, some ⟨XC, XN, Xy, Xf, .cells⟩] :=
  cOut_gcF (v' := iB b) (h' := [some ⟨SC, SN, Sy, Sf, .cells⟩, some ⟨BC, BN, By, Bf, .cells⟩, some ⟨XC, XN, Xy, Xf, .cells⟩]) [0, 1, 2] [true, true, true] (by simp) hc (by kernel_rfl) (by kernel_rfl) ⟨hS, hB, hX, trivial⟩ (by kernel_rfl)

/-- the law -/
theorem k8 (hE : EnvOk E) {SC BC XC : List AC} {SN BN XN Sy By Xy : Nat} {Sf Bf Xf : Bool} (hS : FlatC SC) (hB : FlatC BC) (hX : FlatC XC) {x0 x1 x2 : AC} {n0 n1 n2 : Nat} (bs cs : List UInt8) (zs : List Int) (h0 : S1 0 SC x0 n0 (bs.map u8c)) (h1 : S1 1 BC x1 n1 (cs.map u8c)) (h2 : S1 2 XC x2 n2 (zs.map i64c)) : COut E 3 [some ⟨SC, SN, Sy, Sf, .cells⟩, some ⟨BC, BN, By, Bf, .cells⟩, some ⟨XC, XN, Xy, Xf, .cells⟩] 8 [.e (.one x0), .e (.one x1), .e (.one x2)] (iB true) [some ⟨SC, SN, Sy, Sf, .cells⟩, some ⟨BC, BN, By, Bf, .cells⟩, some ⟨XC, XN, Xy, Xf, .cells⟩] := by
  have L0 := h0.lenIs
  have L1 := h1.lenIs
  have L2 := h2.lenIs
  have K15 := k15 hE
  have hend : ∀ j : Nat → Value, OutK E 3 3 (c8f_end SC BC XC SN BN XN Sy By Xy Sf Bf Xf x0 x1 x2 n0 n1 n2 j) (Go.Ev.Ends E Tryz.f8 (iB true) [some ⟨SC, SN, Sy, Sf, .cells⟩, some ⟨BC, BN, By, Bf, .cells⟩, some ⟨XC, XN, Xy, Xf, .cells⟩]) := (fun j => outK_ret (ends_ret (by kernel_rfl)))
  have fail : OutK E 3 3 (st8 SC BC XC SN BN XN Sy By Xy Sf Bf Xf x0 x1 x2 n0 n1 n2 (fun _ => undef)) (Go.Ev.Ends E Tryz.f8 (iB true) [some ⟨SC, SN, Sy, Sf, .cells⟩, some ⟨BC, BN, By, Bf, .cells⟩, some ⟨XC, XN, Xy, Xf, .cells⟩]) → COut E 3 [some ⟨SC, SN, Sy, Sf, .cells⟩, some ⟨BC, BN, By, Bf, .cells⟩, some ⟨XC, XN, Xy, Xf, .cells⟩] 8 [.e (.one x0), .e (.one x1), .e (.one x2)] (iB true) [some ⟨SC, SN, Sy, Sf, .cells⟩, some ⟨BC, BN, By, Bf, .cells⟩, some ⟨XC, XN, Xy, Xf, .cells⟩] := fun h => cOut_start Tryz.func8 rfl h
  have pass : n0 ≤ 257 → n1 ≤ 257 → n2 ≤ 2049 → (∀ H : Heap, (∀ j, OutK E 3 3 (c8p000_end SC BC XC SN BN XN Sy By Xy Sf Bf Xf x0 x1 x2 n0 n1 n2 j) (Go.Ev.Ends E Tryz.f8 (iB true) ([some ⟨SC, SN, Sy, Sf, .cells⟩, some ⟨BC, BN, By, Bf, .cells⟩, some ⟨XC, XN, Xy, Xf, .cells⟩] ++ H))) → OutK E 3 3 (st8 SC BC XC SN BN XN Sy By Xy Sf Bf Xf x0 x1 x2 n0 n1 n2 (fun _ => undef)) (Go.Ev.Ends E Tryz.f8 (iB true) ([some ⟨SC, SN, Sy, Sf, .cells⟩, some ⟨BC, BN, By, Bf, .cells⟩, some ⟨XC, XN, Xy, Xf, .cells⟩] ++ H))) → COut E 3 [some ⟨SC, SN, Sy, Sf, .cells⟩, some ⟨BC, BN, By, Bf, .cells⟩, some ⟨XC, XN, Xy, Xf, .cells⟩] 8 [.e (.one x0), .e (.one x1), .e (.one x2)] (iB true) [some ⟨SC, SN, Sy, Sf, .cells⟩, some ⟨BC, BN, By, Bf, .cells⟩, some ⟨XC, XN, Xy, Xf, .cells⟩] := fun m0 m1 m2 h => by
    obtain ⟨H, hH⟩ := core8 hE (SN := SN) (BN := BN) (XN := XN) (Sy := Sy) (By := By) (Xy := Xy) (Sf := Sf) (Bf := Bf) (Xf := Xf) hS hB hX bs cs zs h0 h1 h2 m0 m1 m2
    exact cOut_drop hS hB hX H (cOut_start Tryz.func8 rfl (h H hH))
  by_cases g00 : n0 ≤ 40
  · by_cases g10 : n1 ≤ 40
    · by_cases g20 : n2 ≤ 80
      · refine pass (by omega) (by omega) (by omega) fun H hH => ?_; (apply c8p000 hE <;> first | exact L0 | exact L1 | exact L2 | exact K15 | exact hH | (simp; done) | (simp; omega))
      by_cases g21 : n2 = 257
      · refine pass (by omega) (by omega) (by omega) fun H hH => ?_; (apply c8p001 hE <;> first | exact L0 | exact L1 | exact L2 | exact K15 | exact hH | (simp; done) | (simp; omega))
      by_cases g22 : n2 = 514
      · refine pass (by omega) (by omega) (by omega) fun H hH => ?_; (apply c8p002 hE <;> first | exact L0 | exact L1 | exact L2 | exact K15 | exact hH | (simp; done) | (simp; omega))
      by_cases g23 : n2 = 2049
      · refine pass (by omega) (by omega) (by omega) fun H hH => ?_; (apply c8p003 hE <;> first | exact L0 | exact L1 | exact L2 | exact K15 | exact hH | (simp; done) | (simp; omega))
      refine fail ?_; (apply c8f00 hE <;> first | exact L0 | exact L1 | exact L2 | exact K15 | exact hend | (simp; done) | (simp; omega))
    by_cases g11 : n1 = 257
    · by_cases g20 : n2 ≤ 80
      · refine pass (by omega) (by omega) (by omega) fun H hH => ?_; (apply c8p010 hE <;> first | exact L0 | exact L1 | exact L2 | exact K15 | exact hH | (simp; done) | (simp; omega))
      by_cases g21 : n2 = 257
      · refine pass (by omega) (by omega) (by omega) fun H hH => ?_; (apply c8p011 hE <;> first | exact L0 | exact L1 | exact L2 | exact K15 | exact hH | (simp; done) | (simp; omega))
      by_cases g22 : n2 = 514
      · refine pass (by omega) (by omega) (by omega) fun H hH => ?_; (apply c8p012 hE <;> first | exact L0 | exact L1 | exact L2 | exact K15 | exact hH | (simp; done) | (simp; omega))
      by_cases g23 : n2 = 2049
      · refine pass (by omega) (by omega) (by omega) fun H hH => ?_; (apply c8p013 hE <;> first | exact L0 | exact L1 | exact L2 | exact K15 | exact hH | (simp; done) | (simp; omega))
      refine fail ?_; (apply c8f01 hE <;> first | exact L0 | exact L1 | exact L2 | exact K15 | exact hend | (simp; done) | (simp; omega))
    refine fail ?_; (apply c8f0 hE <;> first | exact L0 | exact L1 | exact L2 | exact K15 | exact hend | (simp; done) | (simp; omega))
  by_cases g01 : n0 = 257
  · by_cases g10 : n1 ≤ 40
    · by_cases g20 : n2 ≤ 80
      · refine pass (by omega) (by omega) (by omega) fun H hH => ?_; (apply c8p100 hE <;> first | exact L0 | exact L1 | exact L2 | exact K15 | exact hH | (simp; done) | (simp; omega))
      by_cases g21 : n2 = 257
      · refine pass (by omega) (by omega) (by omega) fun H hH => ?_; (apply c8p101 hE <;> first | exact L0 | exact L1 | exact L2 | exact K15 | exact hH | (simp; done) | (simp; omega))
      by_cases g22 : n2 = 514
      · refine pass (by omega) (by omega) (by omega) fun H hH => ?_; (apply c8p102 hE <;> first | exact L0 | exact L1 | exact L2 | exact K15 | exact hH | (simp; done) | (simp; omega))
      by_cases g23 : n2 = 2049
      · refine pass (by omega) (by omega) (by omega) fun H hH => ?_; (apply c8p103 hE <;> first | exact L0 | exact L1 | exact L2 | exact K15 | exact hH | (simp; done) | (simp; omega))
      refine fail ?_; (apply c8f10 hE <;> first | exact L0 | exact L1 | exact L2 | exact K15 | exact hend | (simp; done) | (simp; omega))
    by_cases g11 : n1 = 257
    · by_cases g20 : n2 ≤ 80
      · refine pass (by omega) (by omega) (by omega) fun H hH => ?_; (apply c8p110 hE <;> first | exact L0 | exact L1 | exact L2 | exact K15 | exact hH | (simp; done) | (simp; omega))
      by_cases g21 : n2 = 257
      · refine pass (by omega) (by omega) (by omega) fun H hH => ?_; (apply c8p111 hE <;> first | exact L0 | exact L1 | exact L2 | exact K15 | exact hH | (simp; done) | (simp; omega))
      by_cases g22 : n2 = 514
      · refine pass (by omega) (by omega) (by omega) fun H hH => ?_; (apply c8p112 hE <;> first | exact L0 | exact L1 | exact L2 | exact K15 | exact hH | (simp; done) | (simp; omega))
      by_cases g23 : n2 = 2049
      · refine pass (by omega) (by omega) (by omega) fun H hH => ?_; (apply c8p113 hE <;> first | exact L0 | exact L1 | exact L2 | exact K15 | exact hH | (simp; done) | (simp; omega))
      refine fail ?_; (apply c8f11 hE <;> first | exact L0 | exact L1 | exact L2 | exact K15 | exact hend | (simp; done) | (simp; omega))
    refine fail ?_; (apply c8f1 hE <;> first | exact L0 | exact L1 | exact L2 | exact K15 | exact hend | (simp; done) | (simp; omega))
  refine fail ?_; (apply c8f hE <;> first | exact L0 | exact L1 | exact L2 | exact K15 | exact hend | (simp; done) | (simp; omega))
end
end Go.Proofs.YthjgejgnaicdpaaGreatDoor
