/-
  The run of the law CarrierSeals, out of its pieces.
-/
import Derived.Test.YthjgejgnaicdpaaGreatDoorSeS
import Derived.Test.YthjgejgnaicdpaaGreatDoorSeAw
import Derived.Test.YthjgejgnaicdpaaGreatDoorSyArg
open Go Go.Ev
namespace Go.Proofs.YthjgejgnaicdpaaGreatDoor
noncomputable section
set_option maxRecDepth 100000

theorem bytes_of {b n : Nat} {C : List AC} {x : AC} {xs : List (List UInt8)} (h : SlOk b 1 C x n xs) : xs.flatten.length = n ∧ ((n = 0 ∧ xs.flatten = [] ∧ ∃ p c, x = .v (.slice p 0 c)) ∨
    (0 < n ∧ ∃ o cap ex, x = .slc b o n 1 cap ex ∧ takeL (dropL C o) n = some (xs.flatten.map u8c) ∧ ∀ k y, xs.flatten[k]? = some y → getL C (o + k) = some (u8c y))) := by
  obtain ⟨hl, hw, h⟩ := h
  have hfl : xs.flatten.length = n := by rw [flatten_length xs hw, Nat.mul_one, hl]
  refine ⟨hfl, ?_⟩
  rcases h with ⟨h0, hp⟩ | ⟨h0, o, cap, ex, rfl, hC⟩
  · exact .inl ⟨h0, List.eq_nil_of_length_eq_zero (by omega), hp⟩
  · have ht := elems_take hC (.inl (by intro e; subst e; simp at hl; omega))
    rw [hl, Nat.mul_one] at ht
    refine .inr ⟨h0, o, cap, ex, rfl, ht, fun k y hk => ?_⟩
    have hkn : k < n := by have := (List.getElem?_eq_some_iff.1 hk).1; omega
    rw [takeL_eq, dropL_eq] at ht
    split at ht
    · simp only [Option.some.injEq] at ht
      have e := congrArg (fun l => l[k]?) ht
      simp only [List.getElem?_take, if_pos hkn, List.getElem?_drop, List.getElem?_map, hk, Option.map_some] at e
      rw [getL_eq]; exact e
    · simp at ht

theorem sealK_nil (ks : List UInt8) : sealK ks [] = ks := by
  unfold sealK
  apply List.ext_getElem?
  intro i
  rw [List.getElem?_mapIdx]
  cases ks[i]? <;> rfl

theorem wrap_byte (x : UInt8) : IntKind.u8.wrap (IntKind.i64.wrap (Int.ofNat x.toNat)) = Int.ofNat x.toNat := by
  have := u8_lt x
  rw [IntWalk.i64_in _ (by simp only [Int.ofNat_eq_natCast]; omega), IntKind.wrap_u8]
  simp only [Int.ofNat_eq_natCast]
  omega

/-- ref.Seal of no bytes -/
theorem k72e (hE : EnvOk E) {SC : List AC} {SN Sy : Nat} {Sf : Bool} (hS : FlatC SC) (ks : List UInt8) (hk : ks.length = 8) (p : Option Addr) (c : Nat) :
    COut E 1 [some ⟨SC, SN, Sy, Sf, .cells⟩] 72 [.e (.agg (ks.map u8c)), .e (.one (.v (.slice p 0 c)))] (.e (.agg ((sealK ks []).map u8c))) [some ⟨SC, SN, Sy, Sf, .cells⟩] := by
  rw [sealK_nil]
  obtain ⟨a0, a1, a2, a3, a4, a5, a6, a7, rfl⟩ := len8 hk
  have ho : COut E 1 [some ⟨SC, SN, Sy, Sf, .cells⟩] 72 [.e (.agg ([a0, a1, a2, a3, a4, a5, a6, a7].map u8c)), .e (.one (.v (.slice p 0 c)))] (.e (.agg ([a0, a1, a2, a3, a4, a5, a6, a7].map u8c))) [some ⟨SC, SN, Sy, Sf, .cells⟩, some ⟨[a0, a1, a2, a3, a4, a5, a6, a7].map u8c, 8, 105, true, .cells⟩] :=
    cOut_start Tryz.func72 rfl (c72e hE a0 a1 a2 a3 a4 a5 a6 a7 SC SN Sy Sf p c hS (fun j => by
      unfold c72e_end
      simp only [wrap_byte]
      exact outK_ret (ends_ret (by kernel_rfl))) fun _ => undef)
  exact cOut_gcF (v' := .e (.agg ([a0, a1, a2, a3, a4, a5, a6, a7].map u8c))) (h' := [some ⟨SC, SN, Sy, Sf, .cells⟩]) [0] [true] (by simp) ho (by kernel_rfl) (by kernel_rfl) ⟨hS, trivial⟩ (by kernel_rfl)

def resR (ks bs : List UInt8) (n : Nat) : List UInt8 := if n ≤ 400000 then sealK ks bs else List.replicate 8 0
def resE (n : Nat) : Int := if n ≤ 400000 then 0 else 26

theorem k55x (hE : EnvOk E) {SC : List AC} {SN Sy : Nat} {Sf : Bool} (hS : FlatC SC) {x0 : AC} {n0 : Nat} {xs : List (List UInt8)} (h : SlOk 0 1 SC x0 n0 xs) (hm : n0 ≤ 400001) {b0 : Bool} (hb : b0 = decide (n0 = 0)) :
    COut E 1 [some ⟨SC, SN, Sy, Sf, .cells⟩] 55 [.e (.one x0)] (.e (.one (.slc 1 0 n0 1 n0 b0))) [some ⟨SC, SN, Sy, Sf, .cells⟩, some ⟨xs.flatten.map u8c, n0, 5, b0, .cells⟩] := by
  obtain ⟨hl, ⟨rfl, he, p, c, rfl⟩ | ⟨h0, o, cap, ex, rfl, ht, _⟩⟩ := bytes_of h
  · obtain rfl : b0 = true := by rw [hb]; rfl
    rw [he]
    exact cOut_start Tryz.func55 rfl (c55o hE SC SN Sy Sf p c (fun j => outK_ret (ends_ret (by kernel_rfl))) fun _ => undef)
  · obtain rfl : b0 = false := by rw [hb]; exact decide_eq_false (by omega)
    exact k55 hE h0 (by omega) ht (all_isOne _) hS (flat_u8c _)

theorem k69x (hE : EnvOk E) {n0 : Nat} {b0 : Bool} (ks bs : List UInt8) (hk : ks.length = 8) (hl : bs.length = n0) :
    COut E 1 [some ⟨bs.map u8c, n0, 5, b0, .cells⟩] 69 [.e (.agg (ks.map u8c)), .e (.one (.slc 0 0 n0 1 n0 b0))] (.tup [.agg ((resR ks bs n0).map u8c), .one (.v (.int .i64 (resE n0)))]) [some ⟨bs.map u8c, n0, 5, b0, .cells⟩] := by
  unfold resR resE
  by_cases hn : n0 ≤ 400000
  · rw [if_pos hn, if_pos hn]
    exact k69 hE ks bs hk hl hn (u8c_get bs) (flat_u8c bs)
  · rw [if_neg hn, if_neg hn]
    exact k69l hE ks hk (by omega) (flat_u8c bs)

theorem k72x (hE : EnvOk E) {SC : List AC} {SN Sy : Nat} {Sf : Bool} (hS : FlatC SC) {x0 : AC} {n0 : Nat} {xs : List (List UInt8)} (h : SlOk 0 1 SC x0 n0 xs) (ks : List UInt8) (hk : ks.length = 8) (hm : n0 ≤ 400000) :
    COut E 1 [some ⟨SC, SN, Sy, Sf, .cells⟩] 72 [.e (.agg (ks.map u8c)), .e (.one x0)] (.e (.agg ((sealK ks xs.flatten).map u8c))) [some ⟨SC, SN, Sy, Sf, .cells⟩] := by
  obtain ⟨hl, ⟨rfl, he, p, c, rfl⟩ | ⟨h0, o, cap, ex, rfl, _, hC⟩⟩ := bytes_of h
  · rw [he]; exact k72e hE hS ks hk p c
  · exact k72 hE ks _ hk hl (by omega) hC hS

theorem ren0 {x : AC} {n : Nat} {C : List AC} {xs : List (List UInt8)} (h : SlOk 0 1 C x n xs) (l : Nat) : AC.ren (nthE [0] l 1) x = x := by
  obtain ⟨_, _, ⟨rfl, p, c, rfl⟩ | ⟨_, o, cap, ex, rfl, _⟩⟩ := h <;> rfl

/-- the loop over the seals -/
theorem l9 (hE : EnvOk E) {SC BC XC : List AC} {SN BN XN Sy By Xy : Nat} {Sf Bf Xf : Bool} (hS : FlatC SC) (hB : FlatC BC) (hX : FlatC XC) (a0 a1 a2 a3 a4 a5 a6 a7 : UInt8) {x0 x1 : AC} {n0 n1 p k cap2 : Nat} {ex2 : Bool} (r0 r1 r2 r3 r4 r5 r6 r7 : UInt8) {e1 at_ e3 : Int} {all : List (List UInt8)} (hall : all.length = n1) (hw8 : ∀ x ∈ all, x.length = 8) (hm : n1 ≤ 200000) (hnk : n1 = k) :
    ∀ (fs ss : List (List UInt8)) (i : Nat), Go.Ev.ElemsAt (all.flatten.map u8c) (i * 8) 8 fs → Go.Ev.ElemsAt XC (p + i * 8) 8 ss → i + fs.length = n1 → i + ss.length = n1 → at_ = (cmpR i fs ss).1 → e3 = (cmpR i fs ss).2 → ∀ j,
      OutK E 3 3 (h9 a0 a1 a2 a3 a4 a5 a6 a7 SC BC XC SN BN XN Sy By Xy Sf Bf Xf x0 x1 n0 n1 p k cap2 ex2 r0 r1 r2 r3 r4 r5 r6 r7 e1 at_ e3 (all.flatten.map u8c) i j) (Go.Ev.Ends E Tryz.f9 (iB true) [some ⟨SC, SN, Sy, Sf, .cells⟩, some ⟨BC, BN, By, Bf, .cells⟩, some ⟨XC, XN, Xy, Xf, .cells⟩])
  | [], ss, i, hf, hs, h1, h2, ha, he, j => by
    have e : i = n1 := by simpa using h1
    subst e
    obtain rfl : at_ = 0 := by rw [ha]; rfl
    obtain rfl : e3 = 0 := by rw [he]; rfl
    exact c9x hE a0 a1 a2 a3 a4 a5 a6 a7 SC BC XC SN BN XN Sy By Xy Sf Bf Xf x0 x1 n0 i p k cap2 ex2 r0 r1 r2 r3 r4 r5 r6 r7 e1 _ i (decide_eq_false (by simp)) (by simp) (by simp) (by simp) (by simp) (k74 hE hm all hall hw8) ⟨flat_u8c _, flat_u8c _, trivial⟩ trivial (by simp) (k15 hE) hS hB hX (fun j => outK_ret (ends_ret (by kernel_rfl))) j
  | f :: fs, [], i, hf, hs, h1, h2, ha, he, j => by simp at h1 h2; omega
  | f :: fs, s :: ss, i, hf, hs, h1, h2, ha, he, j => by
    obtain ⟨hf1, hf2⟩ := hf 0 f rfl
    obtain ⟨hs1, hs2⟩ := hs 0 s rfl
    have h1' : i + (fs.length + 1) = n1 := by simpa using h1
    have h2' : i + (ss.length + 1) = n1 := by simpa using h2
    obtain ⟨c0, c1, c2, c3, c4, c5, c6, c7, rfl⟩ := len8 hf1
    obtain ⟨d0, d1, d2, d3, d4, d5, d6, d7, rfl⟩ := len8 hs1
    rw [Nat.zero_mul, Nat.add_zero] at hf2 hs2
    have hd : decide (Int.ofNat i < Int.ofNat n1) = true := decide_eq_true (by simp only [Int.ofNat_eq_natCast]; omega)
    have b1 : (0 : Int) ≤ Int.ofNat i ∧ Int.ofNat i < (n1 : Int) := by simp only [Int.ofNat_eq_natCast]; omega
    have b2 : (0 : Int) ≤ Int.ofNat i ∧ Int.ofNat i < (k : Int) := by simp only [Int.ofNat_eq_natCast]; omega
    by_cases hc : [c0, c1, c2, c3, c4, c5, c6, c7] = [d0, d1, d2, d3, d4, d5, d6, d7]
    · have er : cmpR i ([c0, c1, c2, c3, c4, c5, c6, c7] :: fs) ([d0, d1, d2, d3, d4, d5, d6, d7] :: ss) = cmpR (i + 1) fs ss := by simp [cmpR, hc]
      rw [er] at ha he
      exact c9s hE c0 c1 c2 c3 c4 c5 c6 c7 d0 d1 d2 d3 d4 d5 d6 d7 a0 a1 a2 a3 a4 a5 a6 a7 SC BC XC SN BN XN Sy By Xy Sf Bf Xf x0 x1 n0 n1 p k cap2 ex2 r0 r1 r2 r3 r4 r5 r6 r7 e1 at_ e3 _ i hd b1 (by simp) hf2 b2 (by simp) hs2 (by simp [hc]) (iIn i (by omega))
        (l9 (x0 := x0) (n0 := n0) hE hS hB hX a0 a1 a2 a3 a4 a5 a6 a7 r0 r1 r2 r3 r4 r5 r6 r7 hall hw8 hm hnk fs ss (i + 1) (fun q x hx => by
        have := hf (q + 1) x (by simpa using hx)
        rwa [show i * 8 + (q + 1) * 8 = (i + 1) * 8 + q * 8 by omega] at this) (fun q x hx => by
        have := hs (q + 1) x (by simpa using hx)
        rwa [show p + i * 8 + (q + 1) * 8 = p + (i + 1) * 8 + q * 8 by omega] at this) (by omega) (by omega) ha he) j
    · have er : cmpR i ([c0, c1, c2, c3, c4, c5, c6, c7] :: fs) ([d0, d1, d2, d3, d4, d5, d6, d7] :: ss) = ((i : Int), 27) := by
        unfold cmpR
        rw [if_neg (by simpa using hc)]
      rw [er] at ha he
      obtain rfl : at_ = Int.ofNat i := ha
      obtain rfl : e3 = 27 := he
      exact c9df hE c0 c1 c2 c3 c4 c5 c6 c7 d0 d1 d2 d3 d4 d5 d6 d7 a0 a1 a2 a3 a4 a5 a6 a7 SC BC XC SN BN XN Sy By Xy Sf Bf Xf x0 x1 n0 n1 p k cap2 ex2 r0 r1 r2 r3 r4 r5 r6 r7 e1 _ i hd b1 (by simp) hf2 b2 (by simp) hs2 (by rw [Bool.not_eq_true', beq_eq_false_iff_ne]; exact hc) (by simp) (by simp) (by simp) (by simp) (k74 hE hm all hall hw8) ⟨flat_u8c _, flat_u8c _, trivial⟩ trivial (by simp) (by simp) (by simp) (by simp) (by simp) (k15 hE) hS hB hX (fun j => outK_ret (ends_ret (by kernel_rfl))) j

/-- too many blocks -/
theorem t_lf (hE : EnvOk E) {SC BC XC : List AC} {SN BN XN Sy By Xy : Nat} {Sf Bf Xf : Bool} (hS : FlatC SC) (hB : FlatC BC) (hX : FlatC XC) (a0 a1 a2 a3 a4 a5 a6 a7 : UInt8) {x0 x1 x2 : AC} {n0 n1 n2 : Nat} (r0 r1 r2 r3 r4 r5 r6 r7 : UInt8) {e1 pv qv th : Int} (hth : th ≠ 0) (j : Nat → Value) : OutK E 3 3 (s9lf a0 a1 a2 a3 a4 a5 a6 a7 SC BC XC SN BN XN Sy By Xy Sf Bf Xf x0 x1 x2 n0 n1 n2 r0 r1 r2 r3 r4 r5 r6 r7 e1 pv qv th j) (Go.Ev.Ends E Tryz.f9 (iB true) [some ⟨SC, SN, Sy, Sf, .cells⟩, some ⟨BC, BN, By, Bf, .cells⟩, some ⟨XC, XN, Xy, Xf, .cells⟩]) :=
  c9lf hE a0 a1 a2 a3 a4 a5 a6 a7 SC BC XC SN BN XN Sy By Xy Sf Bf Xf x0 x1 x2 n0 n1 n2 r0 r1 r2 r3 r4 r5 r6 r7 e1 pv qv th (by simpa using hth) (by simp) (by simp) (by simp) (by simp) (k74n hE) (by simp) (by simp) (k15 hE) (by simp) hS hB hX (fun j => outK_ret (ends_ret (by kernel_rfl))) j

/-- no blocks -/
theorem t_ef (hE : EnvOk E) {SC BC XC : List AC} {SN BN XN Sy By Xy : Nat} {Sf Bf Xf : Bool} (hS : FlatC SC) (hB : FlatC BC) (hX : FlatC XC) (a0 a1 a2 a3 a4 a5 a6 a7 : UInt8) {x0 x2 : AC} {n0 n2 : Nat} (pa : Option Addr) (ca : Nat) (r0 r1 r2 r3 r4 r5 r6 r7 : UInt8) {e1 pv qv th : Int} (j : Nat → Value) :
    OutK E 3 3 (s9ef a0 a1 a2 a3 a4 a5 a6 a7 SC BC XC SN BN XN Sy By Xy Sf Bf Xf x0 (.v (.slice pa 0 ca)) x2 n0 0 n2 r0 r1 r2 r3 r4 r5 r6 r7 e1 (.v (.slice pa 0 ca)) pv qv th j) (Go.Ev.Ends E Tryz.f9 (iB true) [some ⟨SC, SN, Sy, Sf, .cells⟩, some ⟨BC, BN, By, Bf, .cells⟩, some ⟨XC, XN, Xy, Xf, .cells⟩]) := by
  have h73 := k73e hE (LC := BC) (LN := BN) (Lt := By) (Lf := Bf) (p := pa) (cp := ca) hB [a0, a1, a2, a3, a4, a5, a6, a7] rfl
  by_cases hth : th = 0
  · exact c9efz hE a0 a1 a2 a3 a4 a5 a6 a7 SC BC XC SN BN XN Sy By Xy Sf Bf Xf x0 _ x2 n0 0 n2 r0 r1 r2 r3 r4 r5 r6 r7 e1 (.v (.slice pa 0 ca)) pv qv th h73 rfl ⟨hB, trivial⟩ trivial (by simpa using hth) (by simp) (by simp) (by simp) (by simp) (k74e hE) trivial trivial (by simp) (by simp) (k15 hE) (by simp) hS hB hX (fun j => outK_ret (ends_ret (by kernel_rfl))) j
  · exact c9efy hE a0 a1 a2 a3 a4 a5 a6 a7 SC BC XC SN BN XN Sy By Xy Sf Bf Xf x0 _ x2 n0 0 n2 r0 r1 r2 r3 r4 r5 r6 r7 e1 (.v (.slice pa 0 ca)) pv qv th h73 rfl ⟨hB, trivial⟩ trivial (by simpa using hth) (by simp) (by simp) (by simp) (by simp) (k74e hE) trivial trivial (by simp) (by simp) (k15 hE) (by simp) hS hB hX (fun j => outK_ret (ends_ret (by kernel_rfl))) j

/-- some blocks -/
theorem t_mid (hE : EnvOk E) {SC BC XC : List AC} {SN BN XN Sy By Xy : Nat} {Sf Bf Xf : Bool} (hS : FlatC SC) (hB : FlatC BC) (hX : FlatC XC) (a0 a1 a2 a3 a4 a5 a6 a7 : UInt8) {x0 x2 : AC} {n0 n1 n2 : Nat} {o cap : Nat} {ex : Bool} (r0 r1 r2 r3 r4 r5 r6 r7 : UInt8) {e1 pv qv : Int} (bss ss : List (List UInt8)) (h0 : 0 < n1) (hm : n1 ≤ 256) (hn : bss.length = n1) (hC : Go.Ev.ElemsAt BC o 16 bss) (h2 : SlOk 2 8 XC x2 n2 ss)
    {at_ e3 th : Int} (hth : th = errSeals n1 n2) (hat : at_ = (checkR n1 n2 (chainK [a0, a1, a2, a3, a4, a5, a6, a7] bss) ss).1) (he3 : e3 = (checkR n1 n2 (chainK [a0, a1, a2, a3, a4, a5, a6, a7] bss) ss).2) (j : Nat → Value) :
    OutK E 3 3 (s9mk a0 a1 a2 a3 a4 a5 a6 a7 SC BC XC SN BN XN Sy By Xy Sf Bf Xf x0 (.slc 1 o n1 16 cap ex) x2 n0 n1 n2 r0 r1 r2 r3 r4 r5 r6 r7 e1 at_ e3 th pv qv (.slc 0 o n1 16 cap ex) ((chainK [a0, a1, a2, a3, a4, a5, a6, a7] bss).flatten.map u8c) j) (Go.Ev.Ends E Tryz.f9 (iB true) [some ⟨SC, SN, Sy, Sf, .cells⟩, some ⟨BC, BN, By, Bf, .cells⟩, some ⟨XC, XN, Xy, Xf, .cells⟩]) := by
  have h73 := k73 hE (LN := BN) (Lt := By) (Lf := Bf) (cap := cap) (ex := ex) h0 (by omega) hB [a0, a1, a2, a3, a4, a5, a6, a7] bss rfl hn hC
  have hlen : (chainK [a0, a1, a2, a3, a4, a5, a6, a7] bss).length = n1 := by rw [chainK_length, hn]
  have hw8 : ∀ x ∈ chainK [a0, a1, a2, a3, a4, a5, a6, a7] bss, x.length = 8 := fun x hx => by rw [chainK_wide _ _ x hx]; rfl
  have hq1 : OpqC 3 (.slc 1 o n1 16 cap ex) := fun k hk => by simp [AC.refs] at hk; omega
  refine c9mk hE a0 a1 a2 a3 a4 a5 a6 a7 SC BC XC SN BN XN Sy By Xy Sf Bf Xf x0 (.slc 1 o n1 16 cap ex) x2 n0 n1 n2 r0 r1 r2 r3 r4 r5 r6 r7 e1 at_ e3 th pv qv (.slc 0 o n1 16 cap ex) ((chainK [a0, a1, a2, a3, a4, a5, a6, a7] bss).flatten.map u8c) h73 rfl ⟨hB, trivial⟩ ⟨flat_u8c _, trivial⟩ hS hB hX (flat_u8c _) (flat_u8c _) hq1 (h2.opq (by omega)) (fun j => ?_) j
  by_cases hz : th = 0
  · obtain ⟨hnk, _⟩ := errSeals_zero (hth.symm.trans hz)
    have hr : checkR n1 n2 (chainK [a0, a1, a2, a3, a4, a5, a6, a7] bss) ss = cmpR 0 (chainK [a0, a1, a2, a3, a4, a5, a6, a7] bss) ss := by simp [checkR, hth.symm.trans hz]
    rw [hr] at hat he3
    obtain ⟨hs1, hs2, ⟨hs0, _⟩ | ⟨_, p, cap2, ex2, rfl, hC2⟩⟩ := h2
    · omega
    subst hz
    exact c9mz hE a0 a1 a2 a3 a4 a5 a6 a7 SC BC XC SN BN XN Sy By Xy Sf Bf Xf x0 (.slc 1 o n1 16 cap ex) n0 n1 p n2 cap2 ex2 r0 r1 r2 r3 r4 r5 r6 r7 e1 at_ e3 pv qv ((chainK [a0, a1, a2, a3, a4, a5, a6, a7] bss).flatten.map u8c)
      (l9 (x0 := x0) (n0 := n0) hE hS hB hX a0 a1 a2 a3 a4 a5 a6 a7 r0 r1 r2 r3 r4 r5 r6 r7 hlen hw8 (by omega) hnk (chainK [a0, a1, a2, a3, a4, a5, a6, a7] bss) ss 0 (show Go.Ev.ElemsAt _ (0 * 8) 8 _ from elems_all _ hw8) hC2 (by omega) (by omega) hat he3) j
  · have hr : checkR n1 n2 (chainK [a0, a1, a2, a3, a4, a5, a6, a7] bss) ss = (0, th) := by
      unfold checkR
      rw [if_neg (by rw [← hth]; exact hz), hth]
    rw [hr] at hat he3
    obtain rfl : at_ = 0 := hat
    obtain rfl : e3 = th := he3
    exact c9my hE a0 a1 a2 a3 a4 a5 a6 a7 SC BC XC SN BN XN Sy By Xy Sf Bf Xf x0 (.slc 1 o n1 16 cap ex) x2 n0 n1 n2 r0 r1 r2 r3 r4 r5 r6 r7 e1 e3 pv qv _ (by simpa using hz) (by simp) (by simp) (by simp) (by simp) (k74 hE (by omega) _ hlen hw8) ⟨flat_u8c _, flat_u8c _, trivial⟩ trivial (by simp) (by simp) (k15 hE) (by simp) hS hB hX (fun j => outK_ret (ends_ret (by kernel_rfl))) j

theorem hk60 (hE : EnvOk E) {b : Bool} {e v : Int} (h : (if b then e else 0) = v) : COut E 0 [] 60 [iB b, iI e] (iI v) [] := h ▸ k60 hE b e
theorem hk17 (hE : EnvOk E) (a b c : Int) {v : Int} (h : firstI [a, b, c] = v) : COut E 1 [some ⟨[.v (.int .i64 a), .v (.int .i64 b), .v (.int .i64 c)], 3, 3, true, .cells⟩] 17 [.e (.one (.slc 0 0 3 1 3 true))] (iI v) [some ⟨[.v (.int .i64 a), .v (.int .i64 b), .v (.int .i64 c)], 3, 3, true, .cells⟩] := by
  subst h
  refine k17 hE [a, b, c] rfl (by omega) (fun k v h => ?_)
  rw [getL_eq, Nat.zero_add]
  rcases k with _ | _ | _ | k
  · simp at h ⊢; exact h
  · simp at h ⊢; exact h
  · simp at h ⊢; exact h
  · simp at h
theorem eight {r0 r1 r2 r3 r4 r5 r6 r7 : UInt8} (h : [r0, r1, r2, r3, r4, r5, r6, r7] = List.replicate 8 0) : r0 = 0 ∧ r1 = 0 ∧ r2 = 0 ∧ r3 = 0 ∧ r4 = 0 ∧ r5 = 0 ∧ r6 = 0 ∧ r7 = 0 := by
  simpa [List.replicate] using h
theorem checkR_nil {n : Nat} {ss : List (List UInt8)} (ks : List UInt8) : checkR 0 n (chainK ks []) ss = (0, errSeals 0 n) := by
  unfold checkR
  by_cases h : errSeals 0 n = 0
  · rw [if_pos h, h]; rfl
  · rw [if_neg h]

/-- what is behind the reference's seal, where there are not too many blocks -/
theorem t_ee (hE : EnvOk E) {SC BC XC : List AC} {SN BN XN Sy By Xy : Nat} {Sf Bf Xf : Bool} (hS : FlatC SC) (hB : FlatC BC) (hX : FlatC XC) (a0 a1 a2 a3 a4 a5 a6 a7 : UInt8) {x0 x1 x2 : AC} {n0 n1 n2 : Nat} (r0 r1 r2 r3 r4 r5 r6 r7 : UInt8) (xs bss ss : List (List UInt8)) (h0 : SlOk 0 1 SC x0 n0 xs) (h1 : SlOk 1 16 BC x1 n1 bss) (h2 : SlOk 2 8 XC x2 n2 ss) (m0 : n0 ≤ 400001) (m2 : n2 ≤ 257) (m1 : n1 ≤ 256) {e1 at_ e3 : Int} (hat : at_ = (checkR n1 n2 (chainK [a0, a1, a2, a3, a4, a5, a6, a7] bss) ss).1) (he3 : e3 = (checkR n1 n2 (chainK [a0, a1, a2, a3, a4, a5, a6, a7] bss) ss).2) {th : Int} (hth : th = errSeals n1 n2) (pv qv : Int) (j : Nat → Value) :
    OutK E 3 3 (c9ez_end a0 a1 a2 a3 a4 a5 a6 a7 SC BC XC SN BN XN Sy By Xy Sf Bf Xf x0 x1 x2 n0 n1 n2 r0 r1 r2 r3 r4 r5 r6 r7 e1 at_ e3 e1 0 pv qv th r0 r1 r2 r3 r4 r5 r6 r7 ((chainK [a0, a1, a2, a3, a4, a5, a6, a7] bss).flatten.map u8c) j) (Go.Ev.Ends E Tryz.f9 (iB true) [some ⟨SC, SN, Sy, Sf, .cells⟩, some ⟨BC, BN, By, Bf, .cells⟩, some ⟨XC, XN, Xy, Xf, .cells⟩]) := by
  obtain ⟨hl, hw, ⟨rfl, p, c, rfl⟩ | ⟨hp, o, cap, ex, rfl, hC⟩⟩ := h1
  · obtain rfl : bss = [] := List.eq_nil_of_length_eq_zero hl
    rw [checkR_nil] at hat he3
    obtain rfl : at_ = 0 := hat
    obtain rfl : e3 = th := by rw [he3, hth]
    exact t_ef hE hS hB hX a0 a1 a2 a3 a4 a5 a6 a7 p c r0 r1 r2 r3 r4 r5 r6 r7 j
  · exact t_mid hE hS hB hX a0 a1 a2 a3 a4 a5 a6 a7 r0 r1 r2 r3 r4 r5 r6 r7 bss ss hp m1 hl hC h2 hth hat he3 j

theorem t_e (hE : EnvOk E) {SC BC XC : List AC} {SN BN XN Sy By Xy : Nat} {Sf Bf Xf : Bool} (hS : FlatC SC) (hB : FlatC BC) (hX : FlatC XC) (a0 a1 a2 a3 a4 a5 a6 a7 : UInt8) {x0 x1 x2 : AC} {n0 n1 n2 : Nat} (r0 r1 r2 r3 r4 r5 r6 r7 : UInt8) (xs bss ss : List (List UInt8)) (h0 : SlOk 0 1 SC x0 n0 xs) (h1 : SlOk 1 16 BC x1 n1 bss) (h2 : SlOk 2 8 XC x2 n2 ss) (m0 : n0 ≤ 400001) (m2 : n2 ≤ 257) (m1 : n1 ≤ 256) {e1 at_ e3 : Int} (hr : [r0, r1, r2, r3, r4, r5, r6, r7] = resR [a0, a1, a2, a3, a4, a5, a6, a7] xs.flatten n0) (he : e1 = resE n0) (hat : at_ = (checkR n1 n2 (chainK [a0, a1, a2, a3, a4, a5, a6, a7] bss) ss).1) (he3 : e3 = (checkR n1 n2 (chainK [a0, a1, a2, a3, a4, a5, a6, a7] bss) ss).2) (j : Nat → Value) :
    OutK E 3 3 (c9d_end a0 a1 a2 a3 a4 a5 a6 a7 SC BC XC SN BN XN Sy By Xy Sf Bf Xf x0 x1 x2 n0 n1 n2 r0 r1 r2 r3 r4 r5 r6 r7 e1 at_ e3 ((chainK [a0, a1, a2, a3, a4, a5, a6, a7] bss).flatten.map u8c) [] [] true true j) (Go.Ev.Ends E Tryz.f9 (iB true) [some ⟨SC, SN, Sy, Sf, .cells⟩, some ⟨BC, BN, By, Bf, .cells⟩, some ⟨XC, XN, Xy, Xf, .cells⟩]) := by
  obtain ⟨th, hth⟩ : ∃ th, th = errSeals n1 n2 := ⟨_, rfl⟩
  have ho2 : (if decide ((n1 : Int) > (256 : Int)) then (5 : Int) else 0) = 0 := by rw [decide_eq_false (by omega)]; rfl
  have hth' : firstI [0, (if decide ((n2 : Int) > (256 : Int)) then 5 else 0), (if ((n1 : Int) != (n2 : Int)) then 2 else 0)] = th := by rw [hth, errSeals, ho2]
  by_cases hn : n0 ≤ 400000
  · have ho1 : (if decide ((n0 : Int) > (400000 : Int)) then (26 : Int) else 0) = e1 := by rw [he, resE, if_pos hn, decide_eq_false (by omega)]; rfl
    have h72 := k72x hE (SN := SN) (Sy := Sy) (Sf := Sf) hS h0 [a0, a1, a2, a3, a4, a5, a6, a7] rfl hn
    rw [resR, if_pos hn] at hr
    rw [← hr] at h72
    have hth0 := hth
    have hth := hth'.symm
    exact c9ez hE a0 a1 a2 a3 a4 a5 a6 a7 SC BC XC SN BN XN Sy By Xy Sf Bf Xf x0 x1 x2 n0 n1 n2 r0 r1 r2 r3 r4 r5 r6 r7 e1 at_ e3 e1 0 (if decide ((n2 : Int) > (256 : Int)) then 5 else 0) (if ((n1 : Int) != (n2 : Int)) then 2 else 0) th r0 r1 r2 r3 r4 r5 r6 r7 ((chainK [a0, a1, a2, a3, a4, a5, a6, a7] bss).flatten.map u8c) h0.lenIs (hk60 hE ho1) h1.lenIs (hk60 hE ho2) (h2.below (by omega)) h2.lenIs (hk60 hE rfl) (h1.below (by omega)) h1.lenIs (h2.below (by omega)) h2.lenIs (hk60 hE rfl) (hk17 hE _ _ _ hth.symm) trivial trivial (by rw [he, resE, if_pos hn]; rfl) h72 (by rw [ren0 h0]) ⟨hS, trivial⟩ trivial hS hB hX (flat_u8c _) (h1.opq (by omega)) (h2.opq (by omega))
      (fun j => t_ee hE hS hB hX a0 a1 a2 a3 a4 a5 a6 a7 r0 r1 r2 r3 r4 r5 r6 r7 xs bss ss h0 h1 h2 m0 m2 m1 hat he3 hth0 (if decide ((n2 : Int) > (256 : Int)) then 5 else 0) (if ((n1 : Int) != (n2 : Int)) then 2 else 0) j) j
  · have ho1 : (if decide ((n0 : Int) > (400000 : Int)) then (26 : Int) else 0) = e1 := by rw [he, resE, if_neg hn, decide_eq_true (by omega)]; rfl
    rw [resR, if_neg hn] at hr
    obtain ⟨rfl, rfl, rfl, rfl, rfl, rfl, rfl, rfl⟩ := eight hr
    have hth0 := hth
    have hth := hth'.symm
    exact c9ey hE a0 a1 a2 a3 a4 a5 a6 a7 SC BC XC SN BN XN Sy By Xy Sf Bf Xf x0 x1 x2 n0 n1 n2 0 0 0 0 0 0 0 0 e1 at_ e3 e1 0 (if decide ((n2 : Int) > (256 : Int)) then 5 else 0) (if ((n1 : Int) != (n2 : Int)) then 2 else 0) th 0 0 0 0 0 0 0 0 ((chainK [a0, a1, a2, a3, a4, a5, a6, a7] bss).flatten.map u8c) h0.lenIs (hk60 hE ho1) h1.lenIs (hk60 hE ho2) (h2.below (by omega)) h2.lenIs (hk60 hE rfl) (h1.below (by omega)) h1.lenIs (h2.below (by omega)) h2.lenIs (hk60 hE rfl) (hk17 hE _ _ _ hth.symm) trivial trivial (by rw [he, resE, if_neg hn]; rfl) hS hB hX (flat_u8c _) (h1.opq (by omega)) (h2.opq (by omega))
      (fun j => t_ee hE hS hB hX a0 a1 a2 a3 a4 a5 a6 a7 0 0 0 0 0 0 0 0 xs bss ss h0 h1 h2 m0 m2 m1 hat he3 hth0 (if decide ((n2 : Int) > (256 : Int)) then 5 else 0) (if ((n1 : Int) != (n2 : Int)) then 2 else 0) j) j

theorem t_n (hE : EnvOk E) {SC BC XC : List AC} {SN BN XN Sy By Xy : Nat} {Sf Bf Xf : Bool} (hS : FlatC SC) (hB : FlatC BC) (hX : FlatC XC) (a0 a1 a2 a3 a4 a5 a6 a7 : UInt8) {x0 x1 x2 : AC} {n0 n1 n2 : Nat} (r0 r1 r2 r3 r4 r5 r6 r7 : UInt8) (xs bss ss : List (List UInt8)) (h0 : SlOk 0 1 SC x0 n0 xs) (h1 : SlOk 1 16 BC x1 n1 bss) (h2 : SlOk 2 8 XC x2 n2 ss) (m0 : n0 ≤ 400001) (m2 : n2 ≤ 257) (m1 : n1 = 257) {e1 at_ e3 : Int} (hr : [r0, r1, r2, r3, r4, r5, r6, r7] = resR [a0, a1, a2, a3, a4, a5, a6, a7] xs.flatten n0) (he : e1 = resE n0) (hat : at_ = (checkR n1 n2 (chainK [a0, a1, a2, a3, a4, a5, a6, a7] bss) ss).1) (he3 : e3 = (checkR n1 n2 (chainK [a0, a1, a2, a3, a4, a5, a6, a7] bss) ss).2) (j : Nat → Value) :
    OutK E 3 3 (c9m_end a0 a1 a2 a3 a4 a5 a6 a7 SC BC XC SN BN XN Sy By Xy Sf Bf Xf x0 x1 x2 n0 n1 n2 r0 r1 r2 r3 r4 r5 r6 r7 e1 at_ e3 [] [] [] true true j) (Go.Ev.Ends E Tryz.f9 (iB true) [some ⟨SC, SN, Sy, Sf, .cells⟩, some ⟨BC, BN, By, Bf, .cells⟩, some ⟨XC, XN, Xy, Xf, .cells⟩]) := by
  have ho2 : (if decide ((n1 : Int) > (256 : Int)) then (5 : Int) else 0) = 5 := by rw [decide_eq_true (by omega)]; rfl
  have h5 : errSeals n1 n2 = 5 := by rw [errSeals, ho2]; rfl
  have hth : (5 : Int) = firstI [5, (if decide ((n2 : Int) > (256 : Int)) then 5 else 0), (if ((n1 : Int) != (n2 : Int)) then 2 else 0)] := rfl
  have hc : checkR n1 n2 (chainK [a0, a1, a2, a3, a4, a5, a6, a7] bss) ss = (0, 5) := by rw [checkR, h5]; rfl
  rw [hc] at hat he3
  obtain rfl : at_ = 0 := hat
  obtain rfl : e3 = 5 := he3
  by_cases hn : n0 ≤ 400000
  · have ho1 : (if decide ((n0 : Int) > (400000 : Int)) then (26 : Int) else 0) = e1 := by rw [he, resE, if_pos hn, decide_eq_false (by omega)]; rfl
    have h72 := k72x hE (SN := SN) (Sy := Sy) (Sf := Sf) hS h0 [a0, a1, a2, a3, a4, a5, a6, a7] rfl hn
    rw [resR, if_pos hn] at hr
    rw [← hr] at h72
    exact c9nz hE a0 a1 a2 a3 a4 a5 a6 a7 SC BC XC SN BN XN Sy By Xy Sf Bf Xf x0 x1 x2 n0 n1 n2 r0 r1 r2 r3 r4 r5 r6 r7 e1 0 5 e1 5 (if decide ((n2 : Int) > (256 : Int)) then 5 else 0) (if ((n1 : Int) != (n2 : Int)) then 2 else 0) 5 r0 r1 r2 r3 r4 r5 r6 r7 [] h0.lenIs (hk60 hE ho1) h1.lenIs (hk60 hE ho2) (h2.below (by omega)) h2.lenIs (hk60 hE rfl) (h1.below (by omega)) h1.lenIs (h2.below (by omega)) h2.lenIs (hk60 hE rfl) (hk17 hE _ _ _ hth.symm) trivial trivial (by rw [he, resE, if_pos hn]; rfl) h72 (by rw [ren0 h0]) ⟨hS, trivial⟩ trivial hS hB hX (h1.opq (by omega)) (h2.opq (by omega))
      (fun j => t_lf (x0 := x0) (x1 := x1) (x2 := x2) (n0 := n0) (n1 := n1) (n2 := n2) (pv := (if decide ((n2 : Int) > (256 : Int)) then 5 else 0)) (qv := (if ((n1 : Int) != (n2 : Int)) then 2 else 0)) hE hS hB hX a0 a1 a2 a3 a4 a5 a6 a7 r0 r1 r2 r3 r4 r5 r6 r7 (by decide) j) j
  · have ho1 : (if decide ((n0 : Int) > (400000 : Int)) then (26 : Int) else 0) = e1 := by rw [he, resE, if_neg hn, decide_eq_true (by omega)]; rfl
    rw [resR, if_neg hn] at hr
    obtain ⟨rfl, rfl, rfl, rfl, rfl, rfl, rfl, rfl⟩ := eight hr
    exact c9ny hE a0 a1 a2 a3 a4 a5 a6 a7 SC BC XC SN BN XN Sy By Xy Sf Bf Xf x0 x1 x2 n0 n1 n2 0 0 0 0 0 0 0 0 e1 0 5 e1 5 (if decide ((n2 : Int) > (256 : Int)) then 5 else 0) (if ((n1 : Int) != (n2 : Int)) then 2 else 0) 5 0 0 0 0 0 0 0 0 [] h0.lenIs (hk60 hE ho1) h1.lenIs (hk60 hE ho2) (h2.below (by omega)) h2.lenIs (hk60 hE rfl) (h1.below (by omega)) h1.lenIs (h2.below (by omega)) h2.lenIs (hk60 hE rfl) (hk17 hE _ _ _ hth.symm) trivial trivial (by rw [he, resE, if_neg hn]; rfl) hS hB hX (h1.opq (by omega)) (h2.opq (by omega))
      (fun j => t_lf (x0 := x0) (x1 := x1) (x2 := x2) (n0 := n0) (n1 := n1) (n2 := n2) (pv := (if decide ((n2 : Int) > (256 : Int)) then 5 else 0)) (qv := (if ((n1 : Int) != (n2 : Int)) then 2 else 0)) hE hS hB hX a0 a1 a2 a3 a4 a5 a6 a7 0 0 0 0 0 0 0 0 (by decide) j) j

/-- the calls of the program, and what is behind them -/
theorem t_core (hE : EnvOk E) {SC BC XC : List AC} {SN BN XN Sy By Xy : Nat} {Sf Bf Xf : Bool} (hS : FlatC SC) (hB : FlatC BC) (hX : FlatC XC) (a0 a1 a2 a3 a4 a5 a6 a7 : UInt8) {x0 x1 x2 : AC} {n0 n1 n2 : Nat} (xs bss ss : List (List UInt8)) (h0 : SlOk 0 1 SC x0 n0 xs) (h1 : SlOk 1 16 BC x1 n1 bss) (h2 : SlOk 2 8 XC x2 n2 ss) (m0 : n0 ≤ 400001) (m2 : n2 ≤ 257) (m1 : n1 ≤ 256 ∨ n1 = 257) (j : Nat → Value) :
    OutK E 3 3 (c9p000_end a0 a1 a2 a3 a4 a5 a6 a7 SC BC XC SN BN XN Sy By Xy Sf Bf Xf x0 x1 x2 n0 n1 n2 j) (Go.Ev.Ends E Tryz.f9 (iB true) [some ⟨SC, SN, Sy, Sf, .cells⟩, some ⟨BC, BN, By, Bf, .cells⟩, some ⟨XC, XN, Xy, Xf, .cells⟩]) := by
  have hfl := (bytes_of h0).1
  have h55 := k55x hE (SN := SN) (Sy := Sy) (Sf := Sf) hS h0 m0 rfl
  have h69 := k69x hE (b0 := decide (n0 = 0)) [a0, a1, a2, a3, a4, a5, a6, a7] xs.flatten rfl hfl
  have hrl : (resR [a0, a1, a2, a3, a4, a5, a6, a7] xs.flatten n0).length = 8 := by
    unfold resR
    split
    · rw [sealK_length]; rfl
    · rfl
  obtain ⟨rs, hrs⟩ : ∃ rs, rs = resR [a0, a1, a2, a3, a4, a5, a6, a7] xs.flatten n0 := ⟨_, rfl⟩
  rw [← hrs] at h69 hrl
  obtain ⟨r0, r1, r2, r3, r4, r5, r6, r7, rfl⟩ := len8 hrl
  have h71 := k71 hE (LN := n1 * 16) (Lt := 120) (o := 0) (n := n1) (cap := n1) (SN := n2 * 8) (Su := 105) (p := 0) (k := n2) (cap2 := n2) (Lf := decide (n1 = 0)) (ex := decide (n1 = 0)) (Sf := decide (n2 = 0)) (ex2 := decide (n2 = 0)) (flat_u8c bss.flatten) (flat_u8c ss.flatten) [a0, a1, a2, a3, a4, a5, a6, a7] bss ss rfl h1.1 h2.1 (elems_all bss h1.2.1) (elems_all ss h2.2.1)
  obtain ⟨at_, hat⟩ : ∃ a, a = (checkR n1 n2 (chainK [a0, a1, a2, a3, a4, a5, a6, a7] bss) ss).1 := ⟨_, rfl⟩
  obtain ⟨e3, he3⟩ : ∃ a, a = (checkR n1 n2 (chainK [a0, a1, a2, a3, a4, a5, a6, a7] bss) ss).2 := ⟨_, rfl⟩
  rw [← hat, ← he3] at h71
  refine c9b hE a0 a1 a2 a3 a4 a5 a6 a7 SC BC XC SN BN XN Sy By Xy Sf Bf Xf x0 x1 x2 n0 n1 n2 r0 r1 r2 r3 r4 r5 r6 r7 (resE n0) (xs.flatten.map u8c) (decide (n0 = 0)) (h0.below (by omega)) h55 (by rw [ren0 h0]) ⟨hS, trivial⟩ ⟨flat_u8c _, trivial⟩ h69 ⟨flat_u8c _, trivial⟩ trivial hS hB hX (h1.opq (by omega)) (h2.opq (by omega)) (h0.opq (by omega)) (h0.below (by omega)) h55 (by rw [ren0 h0]) ⟨hS, trivial⟩ ⟨flat_u8c _, trivial⟩ h69 ⟨flat_u8c _, trivial⟩ trivial (h0.below (by omega)) h55 (by rw [ren0 h0]) ⟨hS, trivial⟩ ⟨flat_u8c _, trivial⟩ h69 ⟨flat_u8c _, trivial⟩ trivial (fun j => ?_) j
  rcases m1 with m1 | m1
  · have h70 := k70 hE (LN := n1 * 16) (Lt := 120) (Lf := decide (n1 = 0)) (o := 0) (cap := n1) (ex := decide (n1 = 0)) m1 (flat_u8c bss.flatten) [a0, a1, a2, a3, a4, a5, a6, a7] bss rfl h1.1 (elems_all bss h1.2.1)
    refine c9c hE a0 a1 a2 a3 a4 a5 a6 a7 SC BC XC SN BN XN Sy By Xy Sf Bf Xf x0 x1 x2 n0 n1 n2 r0 r1 r2 r3 r4 r5 r6 r7 (resE n0) ((chainK [a0, a1, a2, a3, a4, a5, a6, a7] bss).flatten.map u8c) (bss.flatten.map u8c) (decide (n1 = 0)) (h1.below (by omega)) (h1.copy rfl (by simp [small]; omega)) rfl h70 ⟨flat_u8c _, trivial⟩ ⟨flat_u8c _, trivial⟩ hS hB hX (flat_u8c _) (h1.opq (by omega)) (h2.opq (by omega)) (h0.opq (by omega)) (fun j => ?_) j
    refine c9d hE a0 a1 a2 a3 a4 a5 a6 a7 SC BC XC SN BN XN Sy By Xy Sf Bf Xf x0 x1 x2 n0 n1 n2 r0 r1 r2 r3 r4 r5 r6 r7 (resE n0) at_ e3 ((chainK [a0, a1, a2, a3, a4, a5, a6, a7] bss).flatten.map u8c) (bss.flatten.map u8c) (ss.flatten.map u8c) (decide (n1 = 0)) (decide (n2 = 0)) (h1.below (by omega)) (h2.below (by omega)) (h1.copy rfl (by simp [small]; omega)) rfl (h2.copy rfl (by simp [small]; omega)) rfl h71 ⟨flat_u8c _, flat_u8c _, trivial⟩ trivial hS hB hX (flat_u8c _) (h1.opq (by omega)) (h2.opq (by omega)) (h0.opq (by omega)) (h1.below (by omega)) (h2.below (by omega)) (h1.copy rfl (by simp [small]; omega)) rfl (h2.copy rfl (by simp [small]; omega)) rfl h71 ⟨flat_u8c _, flat_u8c _, trivial⟩ trivial (h1.below (by omega)) (h2.below (by omega)) (h1.copy rfl (by simp [small]; omega)) rfl (h2.copy rfl (by simp [small]; omega)) rfl h71 ⟨flat_u8c _, flat_u8c _, trivial⟩ trivial (fun j => ?_) j
    exact t_e hE hS hB hX a0 a1 a2 a3 a4 a5 a6 a7 r0 r1 r2 r3 r4 r5 r6 r7 xs bss ss h0 h1 h2 m0 m2 m1 hrs rfl hat he3 j
  · have h70 := k70l hE (LN := n1 * 16) (Lt := 120) (Lf := decide (n1 = 0)) (o := 0) (n := n1) (cap := n1) (ex := decide (n1 = 0)) (by omega) (flat_u8c bss.flatten) [a0, a1, a2, a3, a4, a5, a6, a7] rfl
    refine c9l hE a0 a1 a2 a3 a4 a5 a6 a7 SC BC XC SN BN XN Sy By Xy Sf Bf Xf x0 x1 x2 n0 n1 n2 r0 r1 r2 r3 r4 r5 r6 r7 (resE n0) [] (bss.flatten.map u8c) (decide (n1 = 0)) (h1.below (by omega)) (h1.copy rfl (by simp [small]; omega)) rfl h70 ⟨flat_u8c _, trivial⟩ trivial hS hB hX (h1.opq (by omega)) (h2.opq (by omega)) (h0.opq (by omega)) (fun j => ?_) j
    refine c9m hE a0 a1 a2 a3 a4 a5 a6 a7 SC BC XC SN BN XN Sy By Xy Sf Bf Xf x0 x1 x2 n0 n1 n2 r0 r1 r2 r3 r4 r5 r6 r7 (resE n0) at_ e3 [] (bss.flatten.map u8c) (ss.flatten.map u8c) (decide (n1 = 0)) (decide (n2 = 0)) (h1.below (by omega)) (h2.below (by omega)) (h1.copy rfl (by simp [small]; omega)) rfl (h2.copy rfl (by simp [small]; omega)) rfl h71 ⟨flat_u8c _, flat_u8c _, trivial⟩ trivial hS hB hX (h1.opq (by omega)) (h2.opq (by omega)) (h0.opq (by omega)) (h1.below (by omega)) (h2.below (by omega)) (h1.copy rfl (by simp [small]; omega)) rfl (h2.copy rfl (by simp [small]; omega)) rfl h71 ⟨flat_u8c _, flat_u8c _, trivial⟩ trivial (h1.below (by omega)) (h2.below (by omega)) (h1.copy rfl (by simp [small]; omega)) rfl (h2.copy rfl (by simp [small]; omega)) rfl h71 ⟨flat_u8c _, flat_u8c _, trivial⟩ trivial (fun j => ?_) j
    exact t_n hE hS hB hX a0 a1 a2 a3 a4 a5 a6 a7 r0 r1 r2 r3 r4 r5 r6 r7 xs bss ss h0 h1 h2 m0 m2 m1 hrs rfl hat he3 j

/-- the law -/
theorem k9 (hE : EnvOk E) {SC BC XC : List AC} {SN BN XN Sy By Xy : Nat} {Sf Bf Xf : Bool} (hS : FlatC SC) (hB : FlatC BC) (hX : FlatC XC) (ks : List UInt8) (hk : ks.length = 8) {x0 x1 x2 : AC} {n0 n1 n2 : Nat} (xs bss ss : List (List UInt8)) (h0 : SlOk 0 1 SC x0 n0 xs) (h1 : SlOk 1 16 BC x1 n1 bss) (h2 : SlOk 2 8 XC x2 n2 ss) :
    COut E 3 [some ⟨SC, SN, Sy, Sf, .cells⟩, some ⟨BC, BN, By, Bf, .cells⟩, some ⟨XC, XN, Xy, Xf, .cells⟩] 9 [.e (.agg (ks.map u8c)), .e (.one x0), .e (.agg [x1, x2])] (iB true) [some ⟨SC, SN, Sy, Sf, .cells⟩, some ⟨BC, BN, By, Bf, .cells⟩, some ⟨XC, XN, Xy, Xf, .cells⟩] := by
  obtain ⟨a0, a1, a2, a3, a4, a5, a6, a7, rfl⟩ := len8 hk
  refine cOut_start Tryz.func9 rfl ?_
  show OutK E 3 3 (st9 a0 a1 a2 a3 a4 a5 a6 a7 SC BC XC SN BN XN Sy By Xy Sf Bf Xf x0 x1 x2 n0 n1 n2 (fun _ => undef)) (Go.Ev.Ends E Tryz.f9 (iB true) [some ⟨SC, SN, Sy, Sf, .cells⟩, some ⟨BC, BN, By, Bf, .cells⟩, some ⟨XC, XN, Xy, Xf, .cells⟩])
  have L0 := h0.lenIs
  have L1 := h1.lenIs
  have L2 := h2.lenIs
  have hend : ∀ j : Nat → Value, OutK E 3 3 (c9f_end a0 a1 a2 a3 a4 a5 a6 a7 SC BC XC SN BN XN Sy By Xy Sf Bf Xf x0 x1 x2 n0 n1 n2 j) (Go.Ev.Ends E Tryz.f9 (iB true) [some ⟨SC, SN, Sy, Sf, .cells⟩, some ⟨BC, BN, By, Bf, .cells⟩, some ⟨XC, XN, Xy, Xf, .cells⟩]) := (fun j => outK_ret (ends_ret (by kernel_rfl)))
  have core : n0 ≤ 400001 → n2 ≤ 257 → (n1 ≤ 256 ∨ n1 = 257) → ∀ j, OutK E 3 3 (c9p000_end a0 a1 a2 a3 a4 a5 a6 a7 SC BC XC SN BN XN Sy By Xy Sf Bf Xf x0 x1 x2 n0 n1 n2 j) (Go.Ev.Ends E Tryz.f9 (iB true) [some ⟨SC, SN, Sy, Sf, .cells⟩, some ⟨BC, BN, By, Bf, .cells⟩, some ⟨XC, XN, Xy, Xf, .cells⟩]) := fun m0 m2 m1 j => t_core hE hS hB hX a0 a1 a2 a3 a4 a5 a6 a7 xs bss ss h0 h1 h2 m0 m2 m1 j
  have hk15 := k15 hE
  rcases Nat.lt_or_ge 60 n0 with g0 | g0
  · by_cases g0' : n0 = 400001
    · rcases Nat.lt_or_ge 12 n1 with g1 | g1
      · by_cases g1' : n1 = 257
        · rcases Nat.lt_or_ge 12 n2 with g2 | g2
          · by_cases g2' : n2 = 257
            · (apply c9p111 hE <;> first | exact L0 | exact L1 | exact L2 | exact hk15 | exact hS | exact hB | exact hX | exact (core (by omega) (by omega) (by omega)) | (simp; done) | (simp; omega))
            · (apply c9f11 hE <;> first | exact L0 | exact L1 | exact L2 | exact hk15 | exact hS | exact hB | exact hX | exact hend | (simp; done) | (simp; omega))
          · (apply c9p110 hE <;> first | exact L0 | exact L1 | exact L2 | exact hk15 | exact hS | exact hB | exact hX | exact (core (by omega) (by omega) (by omega)) | (simp; done) | (simp; omega))
        · (apply c9f1 hE <;> first | exact L0 | exact L1 | exact L2 | exact hk15 | exact hS | exact hB | exact hX | exact hend | (simp; done) | (simp; omega))
      · rcases Nat.lt_or_ge 12 n2 with g2 | g2
        · by_cases g2' : n2 = 257
          · (apply c9p101 hE <;> first | exact L0 | exact L1 | exact L2 | exact hk15 | exact hS | exact hB | exact hX | exact (core (by omega) (by omega) (by omega)) | (simp; done) | (simp; omega))
          · (apply c9f10 hE <;> first | exact L0 | exact L1 | exact L2 | exact hk15 | exact hS | exact hB | exact hX | exact hend | (simp; done) | (simp; omega))
        · (apply c9p100 hE <;> first | exact L0 | exact L1 | exact L2 | exact hk15 | exact hS | exact hB | exact hX | exact (core (by omega) (by omega) (by omega)) | (simp; done) | (simp; omega))
    · (apply c9f hE <;> first | exact L0 | exact L1 | exact L2 | exact hk15 | exact hS | exact hB | exact hX | exact hend | (simp; done) | (simp; omega))
  · rcases Nat.lt_or_ge 12 n1 with g1 | g1
    · by_cases g1' : n1 = 257
      · rcases Nat.lt_or_ge 12 n2 with g2 | g2
        · by_cases g2' : n2 = 257
          · (apply c9p011 hE <;> first | exact L0 | exact L1 | exact L2 | exact hk15 | exact hS | exact hB | exact hX | exact (core (by omega) (by omega) (by omega)) | (simp; done) | (simp; omega))
          · (apply c9f01 hE <;> first | exact L0 | exact L1 | exact L2 | exact hk15 | exact hS | exact hB | exact hX | exact hend | (simp; done) | (simp; omega))
        · (apply c9p010 hE <;> first | exact L0 | exact L1 | exact L2 | exact hk15 | exact hS | exact hB | exact hX | exact (core (by omega) (by omega) (by omega)) | (simp; done) | (simp; omega))
      · (apply c9f0 hE <;> first | exact L0 | exact L1 | exact L2 | exact hk15 | exact hS | exact hB | exact hX | exact hend | (simp; done) | (simp; omega))
    · rcases Nat.lt_or_ge 12 n2 with g2 | g2
      · by_cases g2' : n2 = 257
        · (apply c9p001 hE <;> first | exact L0 | exact L1 | exact L2 | exact hk15 | exact hS | exact hB | exact hX | exact (core (by omega) (by omega) (by omega)) | (simp; done) | (simp; omega))
        · (apply c9f00 hE <;> first | exact L0 | exact L1 | exact L2 | exact hk15 | exact hS | exact hB | exact hX | exact hend | (simp; done) | (simp; omega))
      · (apply c9p000 hE <;> first | exact L0 | exact L1 | exact L2 | exact hk15 | exact hS | exact hB | exact hX | exact (core (by omega) (by omega) (by omega)) | (simp; done) | (simp; omega))
end
end Go.Proofs.YthjgejgnaicdpaaGreatDoor
