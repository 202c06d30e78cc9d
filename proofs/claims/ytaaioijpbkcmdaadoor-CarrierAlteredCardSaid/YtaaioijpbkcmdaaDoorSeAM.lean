/-
  The run of CarrierAltered, out of its pieces.
-/
import Derived.Test.YtaaioijpbkcmdaaDoorSeALb
import Derived.Test.YtaaioijpbkcmdaaDoorSyArg
open Go Go.Ev
namespace Go.Proofs.YtaaioijpbkcmdaaDoor
noncomputable section
set_option maxRecDepth 100000
set_option maxHeartbeats 20000000

theorem wrB (x : UInt8) : IntKind.i64.wrap (Int.ofNat x.toNat) = Int.ofNat x.toNat := by
  have := u8_lt x
  exact IntWalk.i64_in _ (by simp only [Int.ofNat_eq_natCast]; omega)
theorem addU (x y : UInt8) : (iU (Int.ofNat ((x.toNat + y.toNat) % 256)) : AV) = iU (Int.ofNat (x + y).toNat) := by rw [UInt8.toNat_add]
theorem part_at {α : Type} {l : List α} {i : Nat} (h : i < l.length) : ∃ A x B, l = A ++ x :: B ∧ A.length = i :=
  ⟨l.take i, l[i], l.drop (i + 1), by rw [List.getElem_cons_drop, List.take_append_drop], by rw [List.length_take]; omega⟩
theorem get_mid (A : List UInt8) (x : UInt8) (B : List UInt8) {i : Nat} (h : A.length = i) : getL ((A ++ x :: B).map u8c) i = some (u8c x) := by
  subst h
  rw [getL_eq, List.getElem?_map, List.getElem?_append_right (Nat.le_refl _)]
  simp
theorem over_mid0 (A : List AC) (x y : AC) (B : List AC) : overL [y] (A ++ x :: B) A.length = A ++ y :: B := by
  rw [overL_eq _ _ _ (by simp)]
  have e2 : (A ++ x :: B).drop (A.length + [y].length) = B := by
    have : A ++ x :: B = (A ++ [x]) ++ B := by simp
    rw [this, List.drop_left' (by simp)]
  rw [e2, List.take_left' rfl]
  simp
theorem over_mid (A : List UInt8) (x y : UInt8) (B : List UInt8) {i : Nat} (h : A.length = i) : overL [u8c y] ((A ++ x :: B).map u8c) i = (A ++ y :: B).map u8c := by
  subst h
  have := over_mid0 (A.map u8c) (u8c x) (u8c y) (B.map u8c)
  rw [List.length_map] at this
  simpa using this
theorem add_ne (x : UInt8) {y : UInt8} (h : 0 < y.toNat) : x ≠ x + y := by
  intro e
  have h1 := congrArg UInt8.toNat e
  rw [UInt8.toNat_add] at h1
  have := u8_lt x
  have := u8_lt y
  omega
theorem flat_mid (P : List (List UInt8)) (X : List UInt8) (x : UInt8) (Y : List UInt8) (R : List (List UInt8)) : (P ++ (X ++ x :: Y) :: R).flatten = (P.flatten ++ X) ++ x :: (Y ++ R.flatten) := by
  simp [List.flatten_append, List.append_assoc]
theorem row_take {w i : Nat} (rows : List (List UInt8)) (hw : ∀ r ∈ rows, r.length = w) {r : List UInt8} (h : rows[i]? = some r) : takeL (dropL (rows.flatten.map u8c) (i * w)) w = some (r.map u8c) := by
  have := (elems_all rows hw i r h).2
  rwa [Nat.zero_add] at this
theorem take_get {C : List AC} {o : Nat} {bs : List UInt8} {m : Nat} (hm : bs.length = m) (h : takeL (dropL C o) m = some (bs.map u8c)) : ∀ k x, bs[k]? = some x → getL C (o + k) = some (u8c x) := by
  intro k x hk
  subst hm
  have hkn := (List.getElem?_eq_some_iff.1 hk).1
  rw [takeL_eq, dropL_eq] at h
  split at h
  · simp only [Option.some.injEq] at h
    have e := congrArg (fun l => l[k]?) h
    simp only [List.getElem?_take, if_pos hkn, List.getElem?_drop, List.getElem?_map, hk, Option.map_some] at e
    rw [getL_eq]; exact e
  · simp at h
theorem checkR_le {n : Nat} (h : n ≤ 256) (fs ss : List (List UInt8)) : checkR n n fs ss = cmpR 0 fs ss := by
  unfold checkR
  rw [if_pos]
  unfold errSeals
  rw [decide_eq_false (by omega)]
  simp [firstI]
theorem small16 {x : UInt8} : Int.ofNat x.toNat = (x.toNat : Int) := rfl

theorem main3 (hE : EnvOk E) {C : List AC} {N ty o n cap : Nat} {fl ex : Bool} (hC : FlatC C) (hN : C.length = N) {ks : List UInt8} (hk : ks.length = 8) {rows : List (List UInt8)} (hl : rows.length = n) (hw : ∀ r ∈ rows, r.length = 16) (h0n : 0 < n) (hn8 : n ≤ 8) (hel : Go.Ev.ElemsAt C o 16 rows) (a b c d : UInt8) (K4 : COut E 0 [] 4 [] (iB true) []) :
    ∃ H : Heap, COut E 1 [some ⟨C, N, ty, fl, .cells⟩] 3 [.e (.agg (ks.map u8c)), .e (.one (.slc 0 o n 16 cap ex)), .e (.agg [u8c a, u8c b, u8c c, u8c d])] (iB true) H := by
  have hua := u8_lt a
  have hub := u8_lt b
  have huc := u8_lt c
  have hud := u8_lt d
  have tL1 := elems_take hel (.inl (by intro e; subst e; simp at hl; omega))
  rw [hl] at tL1
  have hlen := (takeL_some tL1).1
  rw [dropL_eq, List.length_drop] at hlen
  -- the numbers
  obtain ⟨kk, hkv⟩ : ∃ kk, kk = a.toNat % n := ⟨_, rfl⟩
  obtain ⟨dd, hdv⟩ : ∃ dd, dd = d.toNat % 8 := ⟨_, rfl⟩
  have hkn : kk < n := by rw [hkv]; exact Nat.mod_lt _ h0n
  have hmod : ((Int.ofNat a.toNat).tmod (n : Int) : Int) = Int.ofNat kk := by
    rw [hkv]; exact (Int.ofNat_tmod a.toNat n).symm
  have hd8 : ((iI ((Int.ofNat d.toNat).tmod (8 : Int))) : AV) = iI (Int.ofNat dd) := by
    rw [hdv]; exact congrArg iI (Int.ofNat_tmod d.toNat 8).symm
  obtain ⟨by_, hbv⟩ : ∃ y : UInt8, y.toNat = 1 + c.toNat % 255 := ⟨UInt8.ofNat (1 + c.toNat % 255), by rw [UInt8.toNat_ofNat']; omega⟩
  have hby : ((iU (Int.ofNat ((1 + c.toNat % 255) % 256))) : AV) = iU (Int.ofNat by_.toNat) := by rw [hbv, Nat.mod_eq_of_lt (by omega)]
  have hb0 : 0 < by_.toNat := by omega
  have hkk : (0 : Int) ≤ Int.ofNat kk ∧ Int.ofNat kk < (n : Int) := by simp only [Int.ofNat_eq_natCast]; omega
  have hdd : (0 : Int) ≤ Int.ofNat dd ∧ Int.ofNat dd < ((8 : Nat) : Int) := by simp only [Int.ofNat_eq_natCast]; omega
  have hmm : (0 : Int) ≤ Int.ofNat (b.toNat % 32) ∧ Int.ofNat (b.toNat % 32) < ((32 : Nat) : Int) := by simp only [Int.ofNat_eq_natCast]; omega
  have hat : (0 : Int) ≤ Int.ofNat (b.toNat % 16) ∧ Int.ofNat (b.toNat % 16) < ((16 : Nat) : Int) := by simp only [Int.ofNat_eq_natCast]; omega
  have hd1 : dd + 1 ≤ 8 := by omega
  have hm1 : b.toNat % 32 + 1 ≤ 32 := by omega
  have hk16 : kk * 16 + 16 ≤ n * 16 := by omega
  have hka : kk * 16 + b.toNat % 16 + 1 ≤ n * 16 := by omega
  have hkd : kk * 8 + dd + 1 ≤ n * 8 := by omega
  have hoN : o + kk * 16 + 16 ≤ N := by omega
  have d1 : decide ((n : Int) < (1 : Int)) = false := decide_eq_false (by omega)
  have d8 : decide ((n : Int) > (8 : Int)) = false := decide_eq_false (by omega)
  obtain ⟨s, hsv⟩ : ∃ s : Int, s = (a.toNat : Int) + 256 * (b.toNat : Int) := ⟨_, rfl⟩
  have hs : ((iI (wrapF IntKind.i64 (Int.ofNat a.toNat + wrapF IntKind.i64 ((256 : Int) * Int.ofNat b.toNat)))) : AV) = iI s := by
    simp only [Int.ofNat_eq_natCast, wrapF_eq]
    rw [IntWalk.i64_in (256 * (b.toNat : Int)) (by omega), IntWalk.i64_in _ (by omega), hsv]
  -- the row, and the rows changed
  obtain ⟨P, row, R, hrows, hP⟩ := part_at (l := rows) (i := kk) (by omega)
  have hrl : row.length = 16 := hw row (by rw [hrows]; simp)
  obtain ⟨X, x, Y, hrow, hX⟩ := part_at (l := row) (i := b.toNat % 16) (by omega)
  have hne := add_ne x hb0
  have hPw : ∀ r ∈ P, r.length = 16 := fun r hr => hw r (by rw [hrows]; simp [hr])
  have hRw : ∀ r ∈ R, r.length = 16 := fun r hr => hw r (by rw [hrows]; simp [hr])
  have hrl' : (X ++ (x + by_) :: Y).length = 16 := by rw [hrow] at hrl; simpa using hrl
  have hw' : ∀ r ∈ P ++ (X ++ (x + by_) :: Y) :: R, r.length = 16 := by
    intro r hr
    simp only [List.mem_append, List.mem_cons] at hr
    rcases hr with hr | rfl | hr
    · exact hPw r hr
    · exact hrl'
    · exact hRw r hr
  have hl' : (P ++ (X ++ (x + by_) :: Y) :: R).length = n := by rw [hrows] at hl; simpa using hl
  have hPf : (P.flatten ++ X).length = kk * 16 + b.toNat % 16 := by rw [List.length_append, flatten_length P hPw, hP, hX]
  have gL : getL (rows.flatten.map u8c) (kk * 16 + b.toNat % 16) = some (u8c x) := by
    rw [hrows, hrow, flat_mid]; exact get_mid _ _ _ hPf
  have oL : overL [u8c (x + by_)] (rows.flatten.map u8c) (kk * 16 + b.toNat % 16) = (P ++ (X ++ (x + by_) :: Y) :: R).flatten.map u8c := by
    rw [hrows, hrow, flat_mid, flat_mid]; exact over_mid _ _ _ _ hPf
  have hgr : rows[kk]? = some row := by rw [hrows, ← hP]; simp
  have hgr' : (P ++ (X ++ (x + by_) :: Y) :: R)[kk]? = some (X ++ (x + by_) :: Y) := by rw [← hP]; simp
  have tRow := (hel kk row hgr).2
  have tRow' := row_take _ hw' hgr'
  -- the key changed
  obtain ⟨XK, z, YK, hks, hXK⟩ := part_at (l := ks) (i := dd) (by omega)
  have hos : (XK ++ (z + by_) :: YK).length = 8 := by rw [hks] at hk; simpa using hk
  have gK : getL (ks.map u8c) dd = some (u8c z) := by rw [hks]; exact get_mid _ _ _ hXK
  have oK : overL [u8c (z + by_)] (ks.map u8c) dd = (XK ++ (z + by_) :: YK).map u8c := by rw [hks]; exact over_mid _ _ _ _ hXK
  have hkne : ks ≠ XK ++ (z + by_) :: YK := by
    rw [hks]; intro e
    have e := List.append_cancel_left e
    simp only [List.cons.injEq, and_true] at e
    exact add_ne z hb0 e
  -- the chain, and its seals changed
  have hcw := chainK_wide rows ks
  rw [hk] at hcw
  have hcl := (chainK_length rows ks).trans hl
  have hcw' : ∀ f ∈ chainK ks rows, f.length = 8 := hcw
  obtain ⟨P', f, S', hch, hP'⟩ := part_at (l := chainK ks rows) (i := kk) (by omega)
  have hfl : f.length = 8 := hcw' f (by rw [hch]; simp)
  obtain ⟨X', w, Y', hf, hX'⟩ := part_at (l := f) (i := dd) (by omega)
  have hPw' : ∀ r ∈ P', r.length = 8 := fun r hr => hcw' r (by rw [hch]; simp [hr])
  have hSw' : ∀ r ∈ S', r.length = 8 := fun r hr => hcw' r (by rw [hch]; simp [hr])
  have hfl' : (X' ++ (w + by_) :: Y').length = 8 := by rw [hf] at hfl; simpa using hfl
  have hsw : ∀ r ∈ P' ++ (X' ++ (w + by_) :: Y') :: S', r.length = 8 := by
    intro r hr
    simp only [List.mem_append, List.mem_cons] at hr
    rcases hr with hr | rfl | hr
    · exact hPw' r hr
    · exact hfl'
    · exact hSw' r hr
  have hsl : (P' ++ (X' ++ (w + by_) :: Y') :: S').length = n := by rw [hch] at hcl; simpa using hcl
  have hPf' : (P'.flatten ++ X').length = kk * 8 + dd := by rw [List.length_append, flatten_length P' hPw', hP', hX']
  have gC : getL ((chainK ks rows).flatten.map u8c) (kk * 8 + dd) = some (u8c w) := by
    rw [hch, hf, flat_mid]; exact get_mid _ _ _ hPf'
  have oC : overL [u8c (w + by_)] ((chainK ks rows).flatten.map u8c) (kk * 8 + dd) = (P' ++ (X' ++ (w + by_) :: Y') :: S').flatten.map u8c := by
    rw [hch, hf, flat_mid, flat_mid]; exact over_mid _ _ _ _ hPf'
  have hfne : f ≠ X' ++ (w + by_) :: Y' := by
    rw [hf]; intro e
    have e := List.append_cancel_left e
    simp only [List.cons.injEq, and_true] at e
    exact add_ne w hb0 e
  -- what the functions give
  have K5 := k70 hE (LN := n * 16) (Lt := 32) (cap := n) (Lf := false) (ex := false) (by omega) (flat_u8c rows.flatten) ks rows hk hl (elems_all rows hw)
  have K8a := k71 hE (LN := n * 16) (Lt := 32) (cap := n) (Lf := false) (ex := false) (SN := n * 8) (Su := 23) (cap2 := n) (Sf := false) (ex2 := false) (flat_u8c rows.flatten) (flat_u8c (chainK ks rows).flatten) ks rows (chainK ks rows) hk hl hcl (elems_all rows hw) (elems_all _ hcw')
  have K8b := k71 hE (LN := n * 16) (Lt := 32) (cap := n) (Lf := false) (ex := false) (SN := n * 8) (Su := 23) (cap2 := n) (Sf := false) (ex2 := false) (flat_u8c _) (flat_u8c (chainK ks rows).flatten) ks _ (chainK ks rows) hk hl' hcl (elems_all _ hw') (elems_all _ hcw')
  have K8c := k71 hE (LN := n * 16) (Lt := 32) (cap := n) (Lf := false) (ex := false) (SN := n * 8) (Su := 23) (cap2 := n) (Sf := false) (ex2 := false) (flat_u8c rows.flatten) (flat_u8c _) ks rows _ hk hl hsl (elems_all rows hw) (elems_all _ hsw)
  rw [checkR_le (by omega), cmpR_same] at K8a
  have e8b : cmpR 0 (chainK ks (P ++ (X ++ (x + by_) :: Y) :: R)) (chainK ks rows) = ((kk : Int), 27) := by
    rw [hrows, hrow, ← hP]; exact chain_changed hk P R [] X Y hne 0
  have e8c : cmpR 0 (chainK ks rows) (P' ++ (X' ++ (w + by_) :: Y') :: S') = ((kk : Int), 27) := by
    rw [hch, ← hP']; exact chain_seal P' S' hfne
  rw [checkR_le (by omega), e8b] at K8b
  rw [checkR_le (by omega), e8c] at K8c
  have K7a := k55 hE (C := C) (N := N) (ty := ty) (cap := 1 * 16) (fl := fl) (ex := true) (o := o + kk * 16) (n := 16) (by omega) (by omega) tRow (all_isOne row) hC (flat_u8c row)
  have K7b := k55 hE (C := (P ++ (X ++ (x + by_) :: Y) :: R).flatten.map u8c) (N := n * 16) (ty := 32) (cap := 1 * 16) (fl := false) (ex := true) (o := kk * 16) (n := 16) (by omega) (by omega) tRow' (all_isOne _) (flat_u8c _) (flat_u8c _)
  have K6a := k69 hE (C := row.map u8c) (N := 16) (ty := 5) (o := 0) (n := 16) (cap := 16) (fl := false) (ex := false) ks row hk hrl (by omega) (u8c_get row) (flat_u8c row)
  have K6b := k69 hE (C := (X ++ (x + by_) :: Y).map u8c) (N := 16) (ty := 5) (o := 0) (n := 16) (cap := 16) (fl := false) (ex := false) ks _ hk hrl' (by omega) (u8c_get _) (flat_u8c _)
  have K6c := k69 hE (C := row.map u8c) (N := 16) (ty := 5) (o := 0) (n := 16) (cap := 16) (fl := false) (ex := false) _ row hos hrl (by omega) (u8c_get row) (flat_u8c row)
  have nAB : (sealK ks row == sealK ks (X ++ (x + by_) :: Y)) = false := by
    have : sealK ks row ≠ sealK ks (X ++ (x + by_) :: Y) := by rw [hrow]; exact sealK_byte hk X Y hne
    simpa using this
  have nAC : (sealK ks row == sealK (XK ++ (z + by_) :: YK) row) = false := by
    have := sealK_key hk hos row hkne
    simpa using this
  have hga := (sealK_length ks row).trans hk
  have hgb := (sealK_length ks (X ++ (x + by_) :: Y)).trans hk
  have hgc := (sealK_length (XK ++ (z + by_) :: YK) row).trans hos
  -- the frame
  have hsr : 0 ≤ s ∧ s ≤ 65535 := by omega
  have hcr : 0 ≤ Int.ofNat c.toNat ∧ Int.ofNat c.toNat ≤ 65535 := by simp only [Int.ofNat_eq_natCast]; omega
  have hdr : 0 ≤ Int.ofNat d.toNat ∧ Int.ofNat d.toNat ≤ 255 := by simp only [Int.ofNat_eq_natCast]; omega
  have hte : telE s (Int.ofNat c.toNat) (Int.ofNat d.toNat) = 0 := by
    unfold telE
    rw [Int.emod_eq_of_lt hsr.1 (by omega), Int.emod_eq_of_lt hcr.1 (by omega), Int.emod_eq_of_lt hdr.1 (by omega)]
    simp
  have K9 := k75a hE hk hrl s (Int.ofNat c.toNat) (Int.ofNat d.toNat) hte
  have hfl : (frameL ks s (Int.ofNat c.toNat) (Int.ofNat d.toNat) row).length = 32 := frameL_len _ _ _ hk hrl
  have K10 := k76 hE hk hfl
  have hown := decE_own ks hrl hsr hcr hdr
  have hdt : decT ks (frameL ks s (Int.ofNat c.toNat) (Int.ofNat d.toNat) row) = telC s (Int.ofNat c.toNat) (Int.ofNat d.toNat) row := by
    have hz := decE_zero ks (frameL ks s (Int.ofNat c.toNat) (Int.ofNat d.toNat) row)
    rw [hown] at hz
    unfold decT
    rw [← hz, if_pos (show ((0 : Int) == 0) = true from rfl), telS_frame, telO_frame, telD_frame, telP_frame _ _ _ _ hrl, Int.emod_eq_of_lt hsr.1 (by omega), Int.emod_eq_of_lt hcr.1 (by omega), Int.emod_eq_of_lt hdr.1 (by omega)]
  rw [hown, hdt] at K10
  have K10o := k76 hE hos hfl
  rw [decE_other hk hos hkne hrl hsr hcr hdr] at K10o
  obtain ⟨us, uc, ud, us_, husl, hue⟩ := decT_tel (ks := XK ++ (z + by_) :: YK) hfl
  rw [hue] at K10o
  obtain ⟨XF, v, YF, hfr, hXF⟩ := part_at (l := frameL ks s (Int.ofNat c.toNat) (Int.ofNat d.toNat) row) (i := b.toNat % 32) (by omega)
  have hbl : (XF ++ (v + by_) :: YF).length = 32 := by rw [hfr] at hfl; simpa using hfl
  have gF : getL ((frameL ks s (Int.ofNat c.toNat) (Int.ofNat d.toNat) row).map u8c) (b.toNat % 32) = some (u8c v) := by rw [hfr]; exact get_mid _ _ _ hXF
  have oF : overL [u8c (v + by_)] ((frameL ks s (Int.ofNat c.toNat) (Int.ofNat d.toNat) row).map u8c) (b.toNat % 32) = (XF ++ (v + by_) :: YF).map u8c := by rw [hfr]; exact over_mid _ _ _ _ hXF
  have K10b := k76 hE hk hbl
  have hbr := decE_broken hk hrl XF YF hfr (add_ne v hb0)
  obtain ⟨ts, tc, td, ts_, htsl, hte2⟩ := decT_tel (ks := ks) hbl
  rw [hte2] at K10b
  have HQ : EqOk E 40 (telC s (Int.ofNat c.toNat) (Int.ofNat d.toNat) row) (telC s (Int.ofNat c.toNat) (Int.ofNat d.toNat) row) true := by
    have := eqTel128 s (Int.ofNat c.toNat) (Int.ofNat d.toNat) s (Int.ofNat c.toNat) (Int.ofNat d.toNat) row row hrl hrl
    simpa using this
  -- names for what is open
  have tL2 := takeL_self ((P ++ (X ++ (x + by_) :: Y) :: R).flatten.map u8c)
  rw [List.length_map, flatten_length _ hw', hl'] at tL2
  have tCC := takeL_self ((chainK ks rows).flatten.map u8c)
  rw [List.length_map, flatten_length _ hcw', hcl] at tCC
  have aL1 := all_isOne rows.flatten
  have aL2 := all_isOne (P ++ (X ++ (x + by_) :: Y) :: R).flatten
  have aCC := all_isOne (chainK ks rows).flatten
  have fL1 := flat_u8c rows.flatten
  have fL2 := flat_u8c (P ++ (X ++ (x + by_) :: Y) :: R).flatten
  have fCC := flat_u8c (chainK ks rows).flatten
  have fC2 := flat_u8c (P' ++ (X' ++ (w + by_) :: Y') :: S').flatten
  have fB1 := flat_u8c row
  have fB3 := fB1
  have fB2 := flat_u8c (X ++ (x + by_) :: Y)
  clear hrows hrow hks hch hf hte hown hdt hue hte2
  generalize (P ++ (X ++ (x + by_) :: Y) :: R).flatten.map u8c = L2 at *
  generalize rows.flatten.map u8c = L1 at *
  generalize (chainK ks rows).flatten.map u8c = CC at *
  generalize (P' ++ (X' ++ (w + by_) :: Y') :: S').flatten.map u8c = C2 at *
  generalize decE ks (XF ++ (v + by_) :: YF) = eb at K10b hbr
  generalize XF ++ (v + by_) :: YF = brk at *
  generalize frameL ks s (Int.ofNat c.toNat) (Int.ofNat d.toNat) row = frm at *
  generalize sealK ks row = gal at *
  generalize sealK ks (X ++ (x + by_) :: Y) = gbl at *
  generalize sealK (XK ++ (z + by_) :: YK) row = gcl at *
  generalize XK ++ (z + by_) :: YK = osl at *
  generalize hB1 : row.map u8c = BC1 at K7a K6a K6c fB1 fB3
  generalize (X ++ (x + by_) :: Y).map u8c = BC1' at K7b K6b fB2
  obtain ⟨k0, k1, k2, k3, k4, k5, k6, k7, rfl⟩ := len8 hk
  obtain ⟨oo0, oo1, oo2, oo3, oo4, oo5, oo6, oo7, rfl⟩ := len8 hos
  obtain ⟨ga0, ga1, ga2, ga3, ga4, ga5, ga6, ga7, rfl⟩ := len8 hga
  obtain ⟨gb0, gb1, gb2, gb3, gb4, gb5, gb6, gb7, rfl⟩ := len8 hgb
  obtain ⟨gc0, gc1, gc2, gc3, gc4, gc5, gc6, gc7, rfl⟩ := len8 hgc
  obtain ⟨q0, q1, q2, q3, q4, q5, q6, q7, q8, q9, q10, q11, q12, q13, q14, q15, rfl⟩ := len16 hrl
  obtain ⟨f0, f1, f2, f3, f4, f5, f6, f7, f8, f9, f10, f11, f12, f13, f14, f15, f16, f17, f18, f19, f20, f21, f22, f23, f24, f25, f26, f27, f28, f29, f30, f31, rfl⟩ := len32 hfl
  obtain ⟨ee0, ee1, ee2, ee3, ee4, ee5, ee6, ee7, ee8, ee9, ee10, ee11, ee12, ee13, ee14, ee15, ee16, ee17, ee18, ee19, ee20, ee21, ee22, ee23, ee24, ee25, ee26, ee27, ee28, ee29, ee30, ee31, rfl⟩ := len32 hbl
  obtain ⟨u0, u1, u2, u3, u4, u5, u6, u7, u8, u9, u10, u11, u12, u13, u14, u15, rfl⟩ := len16 husl
  obtain ⟨t0, t1, t2, t3, t4, t5, t6, t7, t8, t9, t10, t11, t12, t13, t14, t15, rfl⟩ := len16 htsl
  have fOL := flat_u8c [oo0, oo1, oo2, oo3, oo4, oo5, oo6, oo7]
  rcases hbr with rfl | rfl
  · exact run3z hE k0 k1 k2 k3 k4 k5 k6 k7 C N ty o n cap fl ex a b c d kk (b.toNat % 16) dd (b.toNat % 32) by_ L1 L2 CC ([oo0, oo1, oo2, oo3, oo4, oo5, oo6, oo7].map u8c) C2 ([ee0, ee1, ee2, ee3, ee4, ee5, ee6, ee7, ee8, ee9, ee10, ee11, ee12, ee13, ee14, ee15, ee16, ee17, ee18, ee19, ee20, ee21, ee22, ee23, ee24, ee25, ee26, ee27, ee28, ee29, ee30, ee31].map u8c) BC1 BC1' BC1 x (x + by_) z (z + by_) w (w + by_) v (v + by_) oo0 oo1 oo2 oo3 oo4 oo5 oo6 oo7 ga0 ga1 ga2 ga3 ga4 ga5 ga6 ga7 gb0 gb1 gb2 gb3 gb4 gb5 gb6 gb7 gc0 gc1 gc2 gc3 gc4 gc5 gc6 gc7 q0 q1 q2 q3 q4 q5 q6 q7 q8 q9 q10 q11 q12 q13 q14 q15 f0 f1 f2 f3 f4 f5 f6 f7 f8 f9 f10 f11 f12 f13 f14 f15 f16 f17 f18 f19 f20 f21 f22 f23 f24 f25 f26 f27 f28 f29 f30 f31 ee0 ee1 ee2 ee3 ee4 ee5 ee6 ee7 ee8 ee9 ee10 ee11 ee12 ee13 ee14 ee15 ee16 ee17 ee18 ee19 ee20 ee21 ee22 ee23 ee24 ee25 ee26 ee27 ee28 ee29 ee30 ee31 u0 u1 u2 u3 u4 u5 u6 u7 u8 u9 u10 u11 u12 u13 u14 u15 t0 t1 t2 t3 t4 t5 t6 t7 t8 t9 t10 t11 t12 t13 t14 t15 s (Int.ofNat c.toNat) (Int.ofNat d.toNat) us uc ud ts tc td K9 K10 rfl K10o (congrArg iI (wrB b)) rfl hmm gF (addU v by_) hm1 oF rfl K10b HQ K4 (congrArg iI (wrB a)) hs (congrArg iI (wrB c)) (congrArg iI (wrB d)) hkk tRow nAB nAC (by simp) hC fOL h0n (by simp [small]; omega) tCC aCC hd8 hdd gC (addU w by_) hkd oC (by simp [small]; omega) tL1 aL1 K8c rfl ⟨fL1, fC2, trivial⟩ tL2 aL2 K8b ⟨fL2, fCC, trivial⟩ fCC K8a ⟨fL1, fCC, trivial⟩ fL2 hoN K7a ⟨hC, trivial⟩ ⟨fB3, trivial⟩ K6c gK (addU z by_) hd1 oK hk16 K7b ⟨fL2, trivial⟩ ⟨fB2, trivial⟩ K6b K7a ⟨fB1, trivial⟩ K6a (by rw [d1]; rfl) (by rw [d1]; rfl) (by rw [d1]; rfl) d1 d8 (by omega) hmod rfl hby K5 ⟨fL1, trivial⟩ ⟨fCC, trivial⟩ (by simp) hat gL (addU x by_) hka oL
  · exact run3y hE k0 k1 k2 k3 k4 k5 k6 k7 C N ty o n cap fl ex a b c d kk (b.toNat % 16) dd (b.toNat % 32) by_ L1 L2 CC ([oo0, oo1, oo2, oo3, oo4, oo5, oo6, oo7].map u8c) C2 ([ee0, ee1, ee2, ee3, ee4, ee5, ee6, ee7, ee8, ee9, ee10, ee11, ee12, ee13, ee14, ee15, ee16, ee17, ee18, ee19, ee20, ee21, ee22, ee23, ee24, ee25, ee26, ee27, ee28, ee29, ee30, ee31].map u8c) BC1 BC1' BC1 x (x + by_) z (z + by_) w (w + by_) v (v + by_) oo0 oo1 oo2 oo3 oo4 oo5 oo6 oo7 ga0 ga1 ga2 ga3 ga4 ga5 ga6 ga7 gb0 gb1 gb2 gb3 gb4 gb5 gb6 gb7 gc0 gc1 gc2 gc3 gc4 gc5 gc6 gc7 q0 q1 q2 q3 q4 q5 q6 q7 q8 q9 q10 q11 q12 q13 q14 q15 f0 f1 f2 f3 f4 f5 f6 f7 f8 f9 f10 f11 f12 f13 f14 f15 f16 f17 f18 f19 f20 f21 f22 f23 f24 f25 f26 f27 f28 f29 f30 f31 ee0 ee1 ee2 ee3 ee4 ee5 ee6 ee7 ee8 ee9 ee10 ee11 ee12 ee13 ee14 ee15 ee16 ee17 ee18 ee19 ee20 ee21 ee22 ee23 ee24 ee25 ee26 ee27 ee28 ee29 ee30 ee31 u0 u1 u2 u3 u4 u5 u6 u7 u8 u9 u10 u11 u12 u13 u14 u15 t0 t1 t2 t3 t4 t5 t6 t7 t8 t9 t10 t11 t12 t13 t14 t15 s (Int.ofNat c.toNat) (Int.ofNat d.toNat) us uc ud ts tc td K9 K10 rfl K10o (congrArg iI (wrB b)) rfl hmm gF (addU v by_) hm1 oF rfl K10b HQ K4 (congrArg iI (wrB a)) hs (congrArg iI (wrB c)) (congrArg iI (wrB d)) hkk tRow nAB nAC (by simp) hC fOL h0n (by simp [small]; omega) tCC aCC hd8 hdd gC (addU w by_) hkd oC (by simp [small]; omega) tL1 aL1 K8c rfl ⟨fL1, fC2, trivial⟩ tL2 aL2 K8b ⟨fL2, fCC, trivial⟩ fCC K8a ⟨fL1, fCC, trivial⟩ fL2 hoN K7a ⟨hC, trivial⟩ ⟨fB3, trivial⟩ K6c gK (addU z by_) hd1 oK hk16 K7b ⟨fL2, trivial⟩ ⟨fB2, trivial⟩ K6b K7a ⟨fB1, trivial⟩ K6a (by rw [d1]; rfl) (by rw [d1]; rfl) (by rw [d1]; rfl) d1 d8 (by omega) hmod rfl hby K5 ⟨fL1, trivial⟩ ⟨fCC, trivial⟩ (by simp) hat gL (addU x by_) hka oL
end
end Go.Proofs.YtaaioijpbkcmdaaDoor
