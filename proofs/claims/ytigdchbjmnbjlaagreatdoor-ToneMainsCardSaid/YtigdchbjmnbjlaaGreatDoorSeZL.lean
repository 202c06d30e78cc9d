/-
  Part of the proof.
-/
import Derived.Test.YtigdchbjmnbjlaaGreatDoorSeZK
set_option maxHeartbeats 20000000
set_option maxRecDepth 100000
section
open Go Go.Ev
namespace Go.Proofs.YtigdchbjmnbjlaaGreatDoor
noncomputable section
def pq12e_end (e : Int) (j : JN) : St := ⟨[], [(.code .ret), (.code (aF [1, 1] Tryz.f12))], mkT j [(6, (.e (.one (.v (.slice none 0 0))))), (7, (iI e))] 21 0⟩
theorem pq12e (hE : EnvOk E) (G C L : List DT) (g n l : Nat) (c x y e : Int) (h0 : COut E 0 [] 69 [(.e (.agg (mQ c G g C n L l))), (iI x), (iI y)] (iI e) []) (h2 : (e != (0 : Int) : Bool) = true) {Φ : Res → Prop} (ho : ∀ j, OutK E 0 0 (pq12e_end e j) Φ) (j : JN) : OutK E 0 0 (sq12 G C L g n l c x y j) Φ :=
 oS hE [.run 4, (.ops [(3, (.c0 (iI e)))] []), .run 2, (.cond true), .run 2] [6, 7] (s' := fun j => ⟨[(bK (mQ c G g C n L l) 4 37)], [(.code .ret), (.code (aF [1, 1] Tryz.f12))], mkT j [(6, (.e (.one (.v (.slice none 0 0))))), (7, (iI e))] 21 0⟩) (aP h0 <| aN <| aP h2 <| aZ)
  fun j => gZ [] (ho j)
def pq12_end (X : List DT) (t : Nat) (j : JN) : St := ⟨[], [(.code .ret)], mkT j [(6, (dQ X t)), (7, (iI 0))] 21 0⟩
theorem pq12 (hE : EnvOk E) (G C L X : List DT) (g n l t : Nat) (c x y : Int) (h0 : COut E 0 [] 69 [(.e (.agg (mQ c G g C n L l))), (iI x), (iI y)] (iI 0) []) (h2 : COut E 0 [] 71 [(.e (.agg (mQ c G g C n L l))), (iI x), (iI y)] (.e (.one (.clo 138 [] [(.one (.ptr 1 0)), (.one (.ptr 2 0)), (.one (.ptr 0 0))]))) [(bK (mQ c G g C n L l) 4 37), (bK [(.v (.int .i64 x))] 1 3), (bK [(.v (.int .i64 y))] 1 3)]) (h5 : True) (h9 : COut E 3 [(bK (mQ c G g C n L l) 4 37), (bK [(.v (.int .i64 x))] 1 3), (bK [(.v (.int .i64 y))] 1 3)] 70 [(.e (.one (.clo 138 [] [(.one (.ptr 1 0)), (.one (.ptr 2 0)), (.one (.ptr 0 0))])))] (dQ X t) [(bK (mQ c G g C n L l) 4 37), (bK [(.v (.int .i64 x))] 1 3), (bK [(.v (.int .i64 y))] 1 3)]) {Φ : Res → Prop} (ho : ∀ j, OutK E 0 0 (pq12_end X t j) Φ) (j : JN) : OutK E 0 0 (sq12 G C L g n l c x y j) Φ :=
 oS hE [.run 4, (.ops [(3, (.c0 (iI 0)))] []), .run 5, (.ops [(3, (.cl [] [] [(.e (.agg (mQ c G g C n L l))), (iI x), (iI y)] [] (.e (.one (.clo 138 [] [(.one (.ptr 1 0)), (.one (.ptr 2 0)), (.one (.ptr 0 0))]))) [(bK (mQ c G g C n L l) 4 37), (bK [(.v (.int .i64 x))] 1 3), (bK [(.v (.int .i64 y))] 1 3)] (.e (.one (.clo 138 [] [(.one (.ptr 2 0)), (.one (.ptr 3 0)), (.one (.ptr 1 0))]))) [false, false, false] [(bK (mQ c G g C n L l) 4 37), (bK [(.v (.int .i64 x))] 1 3), (bK [(.v (.int .i64 y))] 1 3)])), (4, (.cl [1, 2, 3] [false, false, false] [(.e (.one (.clo 138 [] [(.one (.ptr 1 0)), (.one (.ptr 2 0)), (.one (.ptr 0 0))])))] [(bK (mQ c G g C n L l) 4 37), (bK [(.v (.int .i64 x))] 1 3), (bK [(.v (.int .i64 y))] 1 3)] (dQ X t) [(bK (mQ c G g C n L l) 4 37), (bK [(.v (.int .i64 x))] 1 3), (bK [(.v (.int .i64 y))] 1 3)] (dQ X t) [] []))] [])] [6, 7] (s' := fun j => ⟨[(bK (mQ c G g C n L l) 4 37), (bK (mQ c G g C n L l) 4 37), (bK [(.v (.int .i64 x))] 1 3), (bK [(.v (.int .i64 y))] 1 3)], [(.code .ret)], mkT j [(6, (dQ X t)), (7, (iI 0))] 21 0⟩) (aP h0 <| aN <| aP h2 <| aP (rfl : ([(.e (.agg (mQ c G g C n L l))), (iI x), (iI y)] : List AV) = [(.e (.agg (mQ c G g C n L l))), (iI x), (iI y)]) <| aP (rfl : ([] : List (Option (Option AB))) = []) <| aP h5 <| aP (rfl : ([(.some (bK (mQ c G g C n L l) 4 37)), (.some (bK [(.v (.int .i64 x))] 1 3)), (.some (bK [(.v (.int .i64 y))] 1 3))] : List (Option (Option AB))) = [(.some (bK (mQ c G g C n L l) 4 37)), (.some (bK [(.v (.int .i64 x))] 1 3)), (.some (bK [(.v (.int .i64 y))] 1 3))]) <| aP h5 <| aP (rfl : ((.e (.one (.clo 138 [] [(.one (.ptr 2 0)), (.one (.ptr 3 0)), (.one (.ptr 1 0))]))) : AV) = (.e (.one (.clo 138 [] [(.one (.ptr 2 0)), (.one (.ptr 3 0)), (.one (.ptr 1 0))])))) <| aP h9 <| aP (rfl : ([(.e (.one (.clo 138 [] [(.one (.ptr 2 0)), (.one (.ptr 3 0)), (.one (.ptr 1 0))])))] : List AV) = [(.e (.one (.clo 138 [] [(.one (.ptr 2 0)), (.one (.ptr 3 0)), (.one (.ptr 1 0))])))]) <| aP (rfl : ([(.some (bK (mQ c G g C n L l) 4 37)), (.some (bK [(.v (.int .i64 x))] 1 3)), (.some (bK [(.v (.int .i64 y))] 1 3))] : List (Option (Option AB))) = [(.some (bK (mQ c G g C n L l) 4 37)), (.some (bK [(.v (.int .i64 x))] 1 3)), (.some (bK [(.v (.int .i64 y))] 1 3))]) <| aP h5 <| aP (rfl : ([] : List (Option (Option AB))) = []) <| aP h5 <| aP (rfl : ((dQ X t) : AV) = (dQ X t)) <| aZ)
  fun j => gZ [] (ho j)
theorem look_frzp {i : Nat} {ds : List DT} : ∀ (l l' : List (Nat × AV)), All2 (fun p q => p.1 = q.1 ∧ FrzV i ds p.2 q.2) l l' → ∀ k, (lookT l k = none ∧ lookT l' k = none) ∨ ∃ x y, lookT l k = some x ∧ lookT l' k = some y ∧ FrzV i ds x y
 | [], [], _, k => .inl ⟨rfl, rfl⟩
 | p :: l, q :: l', h, k => by
  obtain ⟨⟨h1, h2⟩, h3⟩ := h
  have e1 : lookT (p :: l) k = if Nat.beq p.1 k then some p.2 else lookT l k := rfl
  have e2 : lookT (q :: l') k = if Nat.beq q.1 k then some q.2 else lookT l' k := rfl
  rw [e1, e2, h1]
  by_cases c : Nat.beq q.1 k = true
  ·rw [if_pos c, if_pos c]; exact .inr ⟨_, _, rfl, rfl, h2⟩
  ·rw [if_neg c, if_neg c]; exact look_frzp l l' h3 k
theorem frz2p {i : Nat} {ds : List DT} (j : JN) (l l' : List (Nat × AV)) (h : All2 (fun p q => p.1 = q.1 ∧ FrzV i ds p.2 q.2) l l') : ∀ n k, All2 (FrzV i ds) (mkT j l n k) (mkT j l' n k)
 | 0, _ => trivial
 | n + 1, k => by
  refine ⟨?_, frz2p j l l' h n (k + 1)⟩
  show FrzV i ds (match lookT l k with | some x => x | none => .e (.one (.v (j k)))) (match lookT l' k with | some x => x | none => .e (.one (.v (j k))))
  rcases look_frzp l l' h k with ⟨a, b⟩ | ⟨x, y, a, b, c⟩
  ·rw [a, b]; exact .inl rfl
  ·rw [a, b]; exact c
theorem K139 (hE : EnvOk E) (xs : List Int) : COut E 0 [] 139 [dI xs] (.e (.one (.clo 178 [] [.one (.ptr 0 0)]))) [bK [.dp (.s (iD xs) xs.length 1)] 1 30] :=
 cOut_start Tryz.func139 rfl (pq139 hE (iD xs) xs.length  (fun j => outK_ret (ends_ret (by kernel_rfl))) uD)
theorem last_w {xs : List Int} {m : Nat} (h : xs.length = m + 1) : ∃ w, xs[m]? = some w ∧ xs = xs.take m ++ [w] := by
 have hw := List.getElem?_eq_getElem (show m < xs.length by omega)
 refine ⟨_, hw, ?_⟩
 have e := List.take_add_one (l := xs) (i := m)
 rw [hw, List.take_of_length_le (by omega)] at e
 exact e
theorem K178n (hE : EnvOk E) (z z2 : Nat → Value) (c x y : Int) (g : List Gs) (N : List Nd) (L : List Ld) (xs : List Int) (h0 : 0 < xs.length) (hx : xs.length ≤ 1000) : COut E 3 (hM c g N L x y (.v (.slice none 0 0)) z [bK [.dp (.s (iD xs) xs.length 1)] 1 30, some markEnt, lpE .ready none (T138n z2) #[44, 45] asg138 bod138]) 178 [.e (.one (.yld 9)), .e (.one (.ptr 7 0))] (.tup []) (hM c g N L x y (.slc 10 0 xs.reverse.length 1 xs.reverse.length false) z [bK [.dp (.s (iD xs) xs.length 1)] 1 30, some markEnt, lpE .ready none (T138n z2) #[44, 45] asg138 bod138, some ⟨(iC xs.reverse), xs.reverse.length, 3, false, .cells⟩]) := by
 obtain ⟨m, hm⟩ : ∃ m, xs.length = m + 1 := ⟨xs.length - 1, by omega⟩
 obtain ⟨w, hw, ex⟩ := last_w hm
 have st := l178n hE z z2 c x y g N L xs [] hx m (by omega) [w] (by simp; omega)
 have e : xs.reverse = [w] ++ (xs.take m).reverse := (congrArg List.reverse ex).trans (by simp)
 rw [e]
 refine cOut_start Tryz.func178 rfl (pq178an hE z z2 asg137 bod137 asg138 bod138 (gD g) (ndD N) (ldD L) (iD xs) g.length N.length L.length xs.length c (Int.ofNat m) x y wQ (fun j => ?_) uD)
 exact pq178fn hE z z2 asg137 bod137 asg138 bod138 (gD g) (ndD N) (ldD L) (iD xs) g.length N.length L.length xs.length m c (Int.ofNat m) x y w (Int.ofNat m - 1) dT bP (by simp only [Int.ofNat_eq_natCast]; omega) (iD_get hw) (R2nf hE z z2 c x y g N L xs [] [] (by simp) _ w) (iIe (by (try simp only [Int.ofNat_eq_natCast]); rw [wrap_id (by omega) (by omega)])) st j
theorem K178o (hE : EnvOk E) (z z2 : Nat → Value) (c x y : Int) (g : List Gs) (N : List Nd) (L : List Ld) (xs : List Int) (h0 : 0 < xs.length) (hx : xs.length ≤ 1000) (V : List Int) (hv : V.length ≤ 5000) : COut E 3 (hM c g N L x y (.slc 7 0 V.length 1 V.length false) z [some ⟨(iC V), V.length, 3, false, .cells⟩, bK [.dp (.s (iD xs) xs.length 1)] 1 30, some markEnt, lpE .ready none (T138o z2) #[44, 45] asg138 bod138]) 178 [.e (.one (.yld 10)), .e (.one (.ptr 8 0))] (.tup []) (hM c g N L x y (.slc 11 0 ((V ++ xs.reverse).length) 1 ((V ++ xs.reverse).length) false) z [none, bK [.dp (.s (iD xs) xs.length 1)] 1 30, some markEnt, lpE .ready none (T138o z2) #[44, 45] asg138 bod138, some ⟨(iC (V ++ xs.reverse)), ((V ++ xs.reverse).length), 3, false, .cells⟩]) := by
 obtain ⟨m, hm⟩ : ∃ m, xs.length = m + 1 := ⟨xs.length - 1, by omega⟩
 obtain ⟨w, hw, ex⟩ := last_w hm
 have st := l178o hE z z2 c x y g N L xs [] hx m (by omega) (V ++ [w]) (by simp; omega)
 have e : (V ++ xs.reverse) = (V ++ [w]) ++ (xs.take m).reverse := (congrArg (fun l => V ++ List.reverse l) ex).trans (by simp)
 rw [e]
 refine cOut_start Tryz.func178 rfl (pq178ao hE z z2 asg137 bod137 asg138 bod138 (gD g) (ndD N) (ldD L) (iD xs) g.length N.length L.length V.length xs.length c (Int.ofNat m) x y (iC V) wQ (fun j => ?_) uD)
 exact pq178fo hE z z2 asg137 bod137 asg138 bod138 (gD g) (ndD N) (ldD L) (iD xs) g.length N.length L.length V.length xs.length m c (Int.ofNat m) x y w (Int.ofNat m - 1) (iC V) (iC (V ++ [w])) dT bP (by simp only [Int.ofNat_eq_natCast]; omega) (iD_get hw) (R2of hE z z2 c x y g N L xs [] V (by omega) _ w) (iIe (by (try simp only [Int.ofNat_eq_natCast]); rw [wrap_id (by omega) (by omega)])) (by rw [len1] at st; exact st) j
theorem lBn (hE : EnvOk E) (z _z2 : Nat → Value) (c x y : Int) (g : List Gs) (N : List Nd) (L : List Ld) (xs : List Int) (h0 : 0 < xs.length) (hx : xs.length ≤ 1000) : ∀ j, OutK E 3 6 (zqn z asg137 bod137 (gD g) (ndD N) (ldD L) (iD xs) g.length N.length L.length xs.length c x y j) (EndsM E 3 Tryz.f138 (.tup []) (hM c g N L x y (.slc 9 0 xs.reverse.length 1 xs.reverse.length false) z [bK [.dp (.s (iD xs) xs.length 1)] 1 30, none, some ⟨(iC xs.reverse), xs.reverse.length, 3, false, .cells⟩])) := by
 refine pqBn hE z asg137 bod137 (gD g) (ndD N) (ldD L) (iD xs) g.length N.length L.length xs.length c x y (K139 hE xs) oB (fun j => ?_)
 refine (?_ : OutK E 3 6 ⟨(hM c g N L x y (.v (.slice none 0 0)) z [bK [.dp (.s (iD xs) xs.length 1)] 1 30]), .code (.rangeFunc (.tmp 43) #[44, 45] asg138 bod138) :: [.inBlock 2], T138n j⟩ _)
 refine outK_loop hE (g := 178) (v := .tup []) (h2 := (hM c g N L x y (.slc 10 0 xs.reverse.length 1 xs.reverse.length false) z [bK [.dp (.s (iD xs) xs.length 1)] 1 30, some markEnt, lpE .ready none (T138n j) #[44, 45] asg138 bod138, some ⟨(iC xs.reverse), xs.reverse.length, 3, false, .cells⟩])) (a := loopEnt .ready none (T138n j) #[44, 45] asg138 bod138) rfl Tryz.func178 rfl rfl (K178n hE z j c x y g N L xs h0 hx) (by kernel_rfl) rfl (by intro h; cases h) ?_
 exact pqEn hE z j asg137 bod137 asg138 bod138 (gD g) (ndD N) (ldD L) (iD xs) g.length N.length L.length xs.reverse.length xs.length c x y (iC xs.reverse) (flat_iC _) (fun j => outK_fell ⟨rfl, by kernel_rfl, by kernel_rfl⟩) j
theorem lBo (hE : EnvOk E) (z _z2 : Nat → Value) (c x y : Int) (g : List Gs) (N : List Nd) (L : List Ld) (xs : List Int) (h0 : 0 < xs.length) (hx : xs.length ≤ 1000) (V : List Int) (hv : V.length ≤ 5000) : ∀ j, OutK E 3 6 (zqo z asg137 bod137 (gD g) (ndD N) (ldD L) (iD xs) g.length N.length L.length V.length xs.length c x y (iC V) j) (EndsM E 3 Tryz.f138 (.tup []) (hM c g N L x y (.slc 10 0 ((V ++ xs.reverse).length) 1 ((V ++ xs.reverse).length) false) z [none, bK [.dp (.s (iD xs) xs.length 1)] 1 30, none, some ⟨(iC (V ++ xs.reverse)), ((V ++ xs.reverse).length), 3, false, .cells⟩])) := by
 refine pqBo hE z asg137 bod137 (gD g) (ndD N) (ldD L) (iD xs) g.length N.length L.length V.length xs.length c x y (iC V) (K139 hE xs) oB (fun j => ?_)
 refine (?_ : OutK E 3 6 ⟨(hM c g N L x y (.slc 7 0 V.length 1 V.length false) z [some ⟨(iC V), V.length, 3, false, .cells⟩, bK [.dp (.s (iD xs) xs.length 1)] 1 30]), .code (.rangeFunc (.tmp 43) #[44, 45] asg138 bod138) :: [.inBlock 2], T138o j⟩ _)
 refine outK_loop hE (g := 178) (v := .tup []) (h2 := (hM c g N L x y (.slc 11 0 ((V ++ xs.reverse).length) 1 ((V ++ xs.reverse).length) false) z [none, bK [.dp (.s (iD xs) xs.length 1)] 1 30, some markEnt, lpE .ready none (T138o j) #[44, 45] asg138 bod138, some ⟨(iC (V ++ xs.reverse)), ((V ++ xs.reverse).length), 3, false, .cells⟩])) (a := loopEnt .ready none (T138o j) #[44, 45] asg138 bod138) rfl Tryz.func178 rfl rfl (K178o hE z j c x y g N L xs h0 hx V hv) (by kernel_rfl) rfl (by intro h; cases h) ?_
 exact pqEo hE z j asg137 bod137 asg138 bod138 (gD g) (ndD N) (ldD L) (iD xs) g.length N.length L.length ((V ++ xs.reverse).length) xs.length c x y (iC (V ++ xs.reverse)) (flat_iC _) (fun j => outK_fell ⟨rfl, by kernel_rfl, by kernel_rfl⟩) j
theorem fzn (_hE : EnvOk E) (z _z2 : Nat → Value) (c x y : Int) (g : List Gs) (N : List Nd) (L : List Ld) (D : List Int) (a : Int) {Φ : Res → Prop} (ho : ∀ j, OutK E 3 6 (zqn z asg137 bod137 (gD g) (ndD N) (ldD L) (iD (D ++ [a])) g.length N.length L.length ((D ++ [a]).length) c x y j) Φ) : ∀ j, OutK E 3 6 (pqXdn_end z asg137 bod137 (gD g) (ndD N) (ldD L) g.length N.length L.length D.length c x y (iC (D ++ [a])) j) Φ := fun j => by
 rw [len1] at ho
 exact outK_freeze 7 (ds := iD (D ++ [a])) (N := D.length + 1) (el := 3) (fl := false) (h' := (hM c g N L x y (.v (.slice none 0 0)) z [none])) (tm' := (zqn z asg137 bod137 (gD g) (ndD N) (ldD L) (iD (D ++ [a])) g.length N.length L.length ((D.length + 1)) c x y j).tm) rfl (by decide) ⟨.inl rfl, .inl rfl, .inl rfl, .inl rfl, .inl rfl, .inl rfl, .inl rfl, trivial, trivial⟩ (frz2p j [(4, .e (.one (.ptr 6 0))), (7, (.e (.one (.slc 7 0 (D.length + 1) 1 (D.length + 1) false)))), (9, .tup []), (45, .tup [])] [(4, .e (.one (.ptr 6 0))), (7, (.e (.one (.dp (.s (iD (D ++ [a])) (D.length + 1) 1))))), (9, .tup []), (45, .tup [])] ⟨⟨rfl, .inl rfl⟩, ⟨rfl, frzAll (b := 7) (iD (D ++ [a])) (D.length + 1) 1 (D.length + 1) false (by simp)⟩, ⟨rfl, trivial⟩, ⟨rfl, trivial⟩, trivial⟩ 50 0)
  (outK_gcF [0, 1, 2, 3, 4, 5, 6] [false, false, false, false, false, false, false] (h' := (zqn z asg137 bod137 (gD g) (ndD N) (ldD L) (iD (D ++ [a])) g.length N.length L.length ((D.length + 1)) c x y j).heap) (tm' := (zqn z asg137 bod137 (gD g) (ndD N) (ldD L) (iD (D ++ [a])) g.length N.length L.length ((D.length + 1)) c x y j).tm) (by decide) (by kernel_rfl) (by kernel_rfl) trivial (by kernel_rfl) (ho j))
theorem fzo (_hE : EnvOk E) (z _z2 : Nat → Value) (c x y : Int) (g : List Gs) (N : List Nd) (L : List Ld) (D : List Int) (a : Int) (V : List Int) {Φ : Res → Prop} (ho : ∀ j, OutK E 3 6 (zqo z asg137 bod137 (gD g) (ndD N) (ldD L) (iD (D ++ [a])) g.length N.length L.length V.length ((D ++ [a]).length) c x y (iC V) j) Φ) : ∀ j, OutK E 3 6 (pqXdv_end z asg137 bod137 (gD g) (ndD N) (ldD L) g.length N.length L.length D.length V.length c x y (iC V) (iC (D ++ [a])) j) Φ := fun j => by
 rw [len1] at ho
 exact outK_freeze 8 (ds := iD (D ++ [a])) (N := D.length + 1) (el := 3) (fl := false) (h' := (hM c g N L x y (.slc 7 0 V.length 1 V.length false) z [some ⟨(iC V), V.length, 3, false, .cells⟩, none])) (tm' := (zqo z asg137 bod137 (gD g) (ndD N) (ldD L) (iD (D ++ [a])) g.length N.length L.length V.length ((D.length + 1)) c x y (iC V) j).tm) rfl (by decide) ⟨.inl rfl, .inl rfl, .inl rfl, .inl rfl, .inl rfl, .inl rfl, .inl rfl, .inl rfl, trivial, trivial⟩ (frz2p j [(4, .e (.one (.ptr 6 0))), (7, (.e (.one (.slc 8 0 (D.length + 1) 1 (D.length + 1) false)))), (9, .tup []), (45, .tup [])] [(4, .e (.one (.ptr 6 0))), (7, (.e (.one (.dp (.s (iD (D ++ [a])) (D.length + 1) 1))))), (9, .tup []), (45, .tup [])] ⟨⟨rfl, .inl rfl⟩, ⟨rfl, frzAll (b := 8) (iD (D ++ [a])) (D.length + 1) 1 (D.length + 1) false (by simp)⟩, ⟨rfl, trivial⟩, ⟨rfl, trivial⟩, trivial⟩ 50 0)
  (outK_gcF [0, 1, 2, 3, 4, 5, 6, 7] [false, false, false, false, false, false, false, true] (h' := (zqo z asg137 bod137 (gD g) (ndD N) (ldD L) (iD (D ++ [a])) g.length N.length L.length V.length ((D.length + 1)) c x y (iC V) j).heap) (tm' := (zqo z asg137 bod137 (gD g) (ndD N) (ldD L) (iD (D ++ [a])) g.length N.length L.length V.length ((D.length + 1)) c x y (iC V) j).tm) (by decide) (by kernel_rfl) (by kernel_rfl) ⟨flat_iC _, trivial⟩ (by kernel_rfl) (ho j))
def ul (N : List Nd) : Nat → Nat → Nat → List Int
 | 0, _, _ => []
 | m + 1, a, b => if a = b then [] else if a < b then ul N m a (upN N b) else Int.ofNat a :: ul N m (upN N a) b
def dl (N : List Nd) : Nat → Nat → Nat → List Int
 | 0, a, _ => [Int.ofNat a]
 | m + 1, a, b => if a = b then [Int.ofNat a] else if a < b then Int.ofNat b :: dl N m a (upN N b) else dl N m (upN N a) b
theorem ul_e (N : List Nd) (m a : Nat) : ul N m a a = [] := by cases m <;> simp [ul]
theorem dl_e (N : List Nd) (m a : Nat) : dl N m a a = [Int.ofNat a] := by cases m <;> simp [dl]
theorem up_at {N : List Nd} (h : UpOk N) {i : Nat} (hi : i < N.length) (h0 : 0 < i) : ∃ x, N[i]? = some x ∧ x.u = Int.ofNat (upN N i) ∧ upN N i < i := by
 have hx := List.getElem?_eq_getElem hi
 generalize N[i] = x at hx
 obtain ⟨h1, h2⟩ := h i x hx h0
 refine ⟨x, hx, ?_, ?_⟩
 ·unfold upN; rw [hx]; simp only [Option.map_some, Option.getD_some, Int.ofNat_eq_natCast]; omega
 ·unfold upN; rw [hx]; simp only [Option.map_some, Option.getD_some]; omega
def hq (z : JN) (c x y : Int) (g : List Gs) (N : List Nd) (L : List Ld) (b : Bool) (V xs : List Int) : Heap := cond b (hM c g N L x y (.slc 10 0 ((V ++ xs.reverse).length) 1 ((V ++ xs.reverse).length) false) z [none, bK [.dp (.s (iD xs) xs.length 1)] 1 30, none, some ⟨(iC (V ++ xs.reverse)), ((V ++ xs.reverse).length), 3, false, .cells⟩]) (hM c g N L x y (.slc 9 0 xs.reverse.length 1 xs.reverse.length false) z [bK [.dp (.s (iD xs) xs.length 1)] 1 30, none, some ⟨(iC xs.reverse), xs.reverse.length, 3, false, .cells⟩])
def LW (E : Env) (z _z2 : Nat → Value) (c x y : Int) (g : List Gs) (N : List Nd) (L : List Ld) (m a b : Nat) (D V : List Int) : Prop :=
 (V = [] → D = [] → ∀ j, OutK E 3 6 (wqnn z asg137 bod137 (gD g) (ndD N) (ldD L) g.length N.length L.length a b c x y j) (EndsM E 3 Tryz.f138 (.tup []) (hq z c x y g N L (!(ul N m a b).isEmpty) (ul N m a b) (dl N m a b)))) ∧ (V = [] → ∀ j, OutK E 3 6 (wqdn z asg137 bod137 (gD g) (ndD N) (ldD L) g.length N.length L.length a b D.length c x y (iC D) j) (EndsM E 3 Tryz.f138 (.tup []) (hq z c x y g N L (!(ul N m a b).isEmpty) (ul N m a b) (D ++ dl N m a b)))) ∧ (D = [] → ∀ j, OutK E 3 6 (wqnv z asg137 bod137 (gD g) (ndD N) (ldD L) g.length N.length L.length a b V.length c x y (iC V) j) (EndsM E 3 Tryz.f138 (.tup []) (hq z c x y g N L true (V ++ ul N m a b) (dl N m a b)))) ∧ (∀ j, OutK E 3 6 (wqdv z asg137 bod137 (gD g) (ndD N) (ldD L) g.length N.length L.length a b D.length V.length c x y (iC D) (iC V) j) (EndsM E 3 Tryz.f138 (.tup []) (hq z c x y g N L true (V ++ ul N m a b) (D ++ dl N m a b)))) ∧ (∀ j, OutK E 3 6 (wqvd z asg137 bod137 (gD g) (ndD N) (ldD L) g.length N.length L.length a b D.length V.length c x y (iC D) (iC V) j) (EndsM E 3 Tryz.f138 (.tup []) (hq z c x y g N L true (V ++ ul N m a b) (D ++ dl N m a b))))
theorem lw (hE : EnvOk E) (z z2 : Nat → Value) (c x y : Int) (g : List Gs) (N : List Nd) (L : List Ld) (hN : N.length ≤ 400) (h : UpOk N) : ∀ m a b, a + b ≤ m → a < N.length → b < N.length → ∀ D V : List Int, D.length + V.length + m ≤ 900 → LW E z z2 c x y g N L m a b D V := by
 have eqs : ∀ m a (ha : a < N.length) (D V : List Int), D.length + V.length + m ≤ 900 → LW E z z2 c x y g N L m a a D V := by
  intro m a ha D V hs
  unfold LW
  rw [ul_e, dl_e]
  have ln := fun D : List Int => fun hs : D.length ≤ 900 => lBn hE z z2 c x y g N L (D ++ [Int.ofNat a]) (by simp) (by simp; omega)
  have lo := fun D : List Int => fun hs : D.length ≤ 900 => lBo hE z z2 c x y g N L (D ++ [Int.ofNat a]) (by simp) (by simp; omega) V (by omega)
  have NE : (Int.ofNat a != Int.ofNat a : Bool) = false := bne_self_eq_false' (a := Int.ofNat a)
  refine ⟨?_, ?_, ?_, ?_, ?_⟩
  ·rintro rfl rfl j
   exact pqXnn hE z asg137 bod137 (gD g) (ndD N) (ldD L) g.length N.length L.length a a c x y NE (fzn hE z z2 c x y g N L [] (Int.ofNat a) (ln [] (by simp))) j
  ·rintro rfl j
   exact pqXdn hE z asg137 bod137 (gD g) (ndD N) (ldD L) g.length N.length L.length a a D.length c x y (iC D) (iC (D ++ [Int.ofNat a])) NE oB sQ oB (iC_app _ [_]) oB (flat_iC _) (fzn hE z z2 c x y g N L D (Int.ofNat a) (ln D (by omega))) j
  ·rintro rfl j
   rw [List.append_nil]
   exact pqXnv hE z asg137 bod137 (gD g) (ndD N) (ldD L) g.length N.length L.length a a V.length c x y (iC V) NE (flat_iC _) (fzo hE z z2 c x y g N L [] (Int.ofNat a) V (lo [] (by simp))) j
  ·intro j
   rw [List.append_nil]
   exact pqXdv hE z asg137 bod137 (gD g) (ndD N) (ldD L) g.length N.length L.length a a D.length V.length c x y (iC D) (iC V) (iC (D ++ [Int.ofNat a])) NE oB sQ oB (iC_app _ [_]) oB (flat_iC _) (flat_iC _) (fzo hE z z2 c x y g N L D (Int.ofNat a) V (lo D (by omega))) j
  ·intro j
   rw [List.append_nil]
   exact pqXvd hE z asg137 bod137 (gD g) (ndD N) (ldD L) g.length N.length L.length a a D.length V.length c x y (iC D) (iC V) (iC (D ++ [Int.ofNat a])) NE oB sQ oB (iC_app _ [_]) oB (flat_iC _) (flat_iC _) (fzo hE z z2 c x y g N L D (Int.ofNat a) V (lo D (by omega))) j
 intro m
 induction m with
 | zero =>
  intro a b hm ha hb D V hs
  obtain rfl : a = b := by omega
  exact eqs 0 a ha D V hs
 | succ m ih =>
  intro a b hm ha hb D V hs
  by_cases he : a = b
  ·subst he
   exact eqs (m + 1) a ha D V hs
  ·by_cases hl : a < b
   ·obtain ⟨x', hx, hu, hq'⟩ := up_at h hb (by omega)
    have hg := nd_u hx
    rw [hu] at hg
    have eu : ul N (m + 1) a b = ul N m a (upN N b) := by rw [ul, if_neg he, if_pos hl]
    have ed : dl N (m + 1) a b = Int.ofNat b :: dl N m a (upN N b) := by rw [dl, if_neg he, if_pos hl]
    have i0 := ih a (upN N b) (by omega) ha (by omega)
    generalize upN N b = q at *
    unfold LW at i0 ⊢
    rw [eu, ed]
    refine ⟨?_, ?_, ?_, ?_, ?_⟩
    ·rintro rfl rfl j
     exact pqDnn hE z asg137 bod137 (gD g) (ndD N) (ldD L) g.length N.length L.length a b c (Int.ofNat q) x y (bne_iff_ne.2 (by simp only [Int.ofNat_eq_natCast]; omega)) dT bP rfl hg ((i0 [Int.ofNat b] [] (by simp at hs ⊢; omega)).2.1 rfl) j
    ·rintro rfl j
     have st := (i0 (D ++ [Int.ofNat b]) [] (by rw [len1]; simp at hs ⊢; omega)).2.1 rfl
     rw [List.append_cons]
     rw [len1] at st
     exact pqDdn hE z asg137 bod137 (gD g) (ndD N) (ldD L) g.length N.length L.length a b D.length c (Int.ofNat q) x y (iC D) (iC (D ++ [Int.ofNat b])) (bne_iff_ne.2 (by simp only [Int.ofNat_eq_natCast]; omega)) dT oB sQ oB (iC_app _ [_]) oB bP rfl hg (flat_iC _) st j
    ·rintro rfl j
     exact pqDnv hE z asg137 bod137 (gD g) (ndD N) (ldD L) g.length N.length L.length a b V.length c (Int.ofNat q) x y (iC V) (bne_iff_ne.2 (by simp only [Int.ofNat_eq_natCast]; omega)) dT bP rfl hg (flat_iC _) ((i0 [Int.ofNat b] V (by simp at hs ⊢; omega)).2.2.2.2) j
    ·intro j
     have st := (i0 (D ++ [Int.ofNat b]) V (by rw [len1]; omega)).2.2.2.2
     rw [List.append_cons]
     rw [len1] at st
     exact pqDdv hE z asg137 bod137 (gD g) (ndD N) (ldD L) g.length N.length L.length a b D.length V.length c (Int.ofNat q) x y (iC D) (iC V) (iC (D ++ [Int.ofNat b])) (bne_iff_ne.2 (by simp only [Int.ofNat_eq_natCast]; omega)) dT oB sQ oB (iC_app _ [_]) oB bP rfl hg (flat_iC _) (flat_iC _) st j
    ·intro j
     have st := (i0 (D ++ [Int.ofNat b]) V (by rw [len1]; omega)).2.2.2.2
     rw [List.append_cons]
     rw [len1] at st
     exact pqDvd hE z asg137 bod137 (gD g) (ndD N) (ldD L) g.length N.length L.length a b D.length V.length c (Int.ofNat q) x y (iC D) (iC V) (iC (D ++ [Int.ofNat b])) (bne_iff_ne.2 (by simp only [Int.ofNat_eq_natCast]; omega)) dT oB sQ oB (iC_app _ [_]) oB bP rfl hg (flat_iC _) (flat_iC _) st j
   ·obtain ⟨x', hx, hu, hq'⟩ := up_at h ha (by omega)
    have hg := nd_u hx
    rw [hu] at hg
    have eu : ul N (m + 1) a b = Int.ofNat a :: ul N m (upN N a) b := by rw [ul, if_neg he, if_neg hl]
    have ed : dl N (m + 1) a b = dl N m (upN N a) b := by rw [dl, if_neg he, if_neg hl]
    have i0 := ih (upN N a) b (by omega) (by omega) hb
    generalize upN N a = q at *
    unfold LW at i0 ⊢
    rw [eu, ed]
    refine ⟨?_, ?_, ?_, ?_, ?_⟩
    ·rintro rfl rfl j
     exact pqYnn hE z asg137 bod137 (gD g) (ndD N) (ldD L) g.length N.length L.length a b c (Int.ofNat q) x y (bne_iff_ne.2 (by simp only [Int.ofNat_eq_natCast]; omega)) dF (R5nn hE z z2 c x y g N L [] [] [] (by simp) _) bP rfl hg ((i0 [] [Int.ofNat a] (by simp at hs ⊢; omega)).2.2.1 rfl) j
    ·rintro rfl j
     exact pqYdn hE z asg137 bod137 (gD g) (ndD N) (ldD L) g.length N.length L.length a b D.length c (Int.ofNat q) x y (iC D) (bne_iff_ne.2 (by simp only [Int.ofNat_eq_natCast]; omega)) dF (R5dn hE z z2 c x y g N L [] D [] (by simp) _) bP rfl hg ((i0 D [Int.ofNat a] (by simp at hs ⊢; omega)).2.2.2.1) j
    ·rintro rfl j
     have st := (i0 [] (V ++ [Int.ofNat a]) (by rw [len1]; simp at hs ⊢; omega)).2.2.1 rfl
     rw [List.append_cons]
     rw [len1] at st
     exact pqYnv hE z asg137 bod137 (gD g) (ndD N) (ldD L) g.length N.length L.length a b V.length c (Int.ofNat q) x y (iC V) (iC (V ++ [Int.ofNat a])) (bne_iff_ne.2 (by simp only [Int.ofNat_eq_natCast]; omega)) dF (R5nv hE z z2 c x y g N L [] [] V (by omega) _) bP rfl hg (flat_iC _) st j
    ·intro j
     have st := (i0 D (V ++ [Int.ofNat a]) (by rw [len1]; omega)).2.2.2.1
     rw [List.append_cons]
     rw [len1] at st
     exact pqYdv hE z asg137 bod137 (gD g) (ndD N) (ldD L) g.length N.length L.length a b D.length V.length c (Int.ofNat q) x y (iC D) (iC V) (iC (V ++ [Int.ofNat a])) (bne_iff_ne.2 (by simp only [Int.ofNat_eq_natCast]; omega)) dF (R5dv hE z z2 c x y g N L [] D V (by omega) _) bP rfl hg (flat_iC _) (flat_iC _) st j
    ·intro j
     have st := (i0 D (V ++ [Int.ofNat a]) (by rw [len1]; omega)).2.2.2.1
     rw [List.append_cons]
     rw [len1] at st
     exact pqYvd hE z asg137 bod137 (gD g) (ndD N) (ldD L) g.length N.length L.length a b D.length V.length c (Int.ofNat q) x y (iC D) (iC V) (iC (V ++ [Int.ofNat a])) (bne_iff_ne.2 (by simp only [Int.ofNat_eq_natCast]; omega)) dF (R5vd hE z z2 c x y g N L [] D V (by omega) _) bP rfl hg (flat_iC _) (flat_iC _) st j
def pth (N : List Nd) (a b : Nat) : List Int := ul N (a + b) a b ++ (dl N (a + b) a b).reverse
theorem K138 (hE : EnvOk E) (z : JN) (c : Int) (g : List Gs) (N : List Nd) (L : List Ld) (hN : N.length ≤ 400) (h : UpOk N) (a b : Nat) (ha : a < N.length) (hb : b < N.length) : COut E 3 [bK [.v (.int .i64 c), .dp (.s (gD g) g.length 2), .dp (.s (ndD N) N.length 4), .dp (.s (ldD L) L.length 3)] 4 37, bK [.v (.int .i64 (Int.ofNat a))] 1 3, bK [.v (.int .i64 (Int.ofNat b))] 1 3, bK [.v (.slice none 0 0)] 1 30, some markEnt, lpE .ready none (T137 z) #[7] asg137 bod137] 138 [.e (.one (.yld 5)), .e (.one (.ptr 1 0)), .e (.one (.ptr 2 0)), .e (.one (.ptr 0 0))] (.tup []) [bK [.v (.int .i64 c), .dp (.s (gD g) g.length 2), .dp (.s (ndD N) N.length 4), .dp (.s (ldD L) L.length 3)] 4 37, bK [.v (.int .i64 (Int.ofNat a))] 1 3, bK [.v (.int .i64 (Int.ofNat b))] 1 3, bK [.slc 6 0 ((pth N a b).length) 1 ((pth N a b).length) false] 1 30, some markEnt, lpE .ready none (T137 z) #[7] asg137 bod137, some ⟨(iC (pth N a b)), ((pth N a b).length), 3, false, .cells⟩] := by
 unfold pth
 have st := (lw hE z uD c (Int.ofNat a) (Int.ofNat b) g N L hN h (a + b) a b (Nat.le_refl _) ha hb [] [] (by simp; omega)).1 rfl rfl
 have hc : COut E 3 [bK [.v (.int .i64 c), .dp (.s (gD g) g.length 2), .dp (.s (ndD N) N.length 4), .dp (.s (ldD L) L.length 3)] 4 37, bK [.v (.int .i64 (Int.ofNat a))] 1 3, bK [.v (.int .i64 (Int.ofNat b))] 1 3, bK [.v (.slice none 0 0)] 1 30, some markEnt, lpE .ready none (T137 z) #[7] asg137 bod137] 138 [.e (.one (.yld 5)), .e (.one (.ptr 1 0)), .e (.one (.ptr 2 0)), .e (.one (.ptr 0 0))] (.tup []) (hq z c (Int.ofNat a) (Int.ofNat b) g N L (!(ul N (a + b) a b).isEmpty) (ul N (a + b) a b) (dl N (a + b) a b)) :=
  cOut_startM Tryz.func138 rfl (pq138a hE z asg137 bod137 (gD g) (ndD N) (ldD L) g.length N.length L.length c (Int.ofNat a) (Int.ofNat b) st uD)
 cases hu : ul N (a + b) a b with
 | nil =>
  rw [hu] at hc
  exact cOut_gcF [0, 1, 2, 3, 4, 5, 9] [false, false, false, false, false, false, true] (by simp) hc (by kernel_rfl) (by kernel_rfl) ⟨flat_iC _, trivial⟩ rfl
 | cons v l =>
  rw [hu] at hc
  exact cOut_gcF [0, 1, 2, 3, 4, 5, 10] [false, false, false, false, false, false, true] (by simp) hc (by kernel_rfl) (by kernel_rfl) ⟨flat_iC _, trivial⟩ rfl
theorem K137 (hE : EnvOk E) (c : Int) (g : List Gs) (N : List Nd) (L : List Ld) (hN : N.length ≤ 400) (h : UpOk N) (a b : Nat) (ha : a < N.length) (hb : b < N.length) : COut E 3 [bK [.v (.int .i64 c), .dp (.s (gD g) g.length 2), .dp (.s (ndD N) N.length 4), .dp (.s (ldD L) L.length 3)] 4 37, bK [.v (.int .i64 (Int.ofNat a))] 1 3, bK [.v (.int .i64 (Int.ofNat b))] 1 3] 137 [(.e (.one (.v (.slice none 0 0)))), (.e (.one (.clo 138 [] [.one (.ptr 1 0), .one (.ptr 2 0), .one (.ptr 0 0)])))] (dI (pth N a b)) [bK [.v (.int .i64 c), .dp (.s (gD g) g.length 2), .dp (.s (ndD N) N.length 4), .dp (.s (ldD L) L.length 3)] 4 37, bK [.v (.int .i64 (Int.ofNat a))] 1 3, bK [.v (.int .i64 (Int.ofNat b))] 1 3] := by
 have k138 := fun z => K138 hE z c g N L hN h a b ha hb
 generalize pth N a b = R at k138 ⊢
 have hc : COut E 3 [bK [.v (.int .i64 c), .dp (.s (gD g) g.length 2), .dp (.s (ndD N) N.length 4), .dp (.s (ldD L) L.length 3)] 4 37, bK [.v (.int .i64 (Int.ofNat a))] 1 3, bK [.v (.int .i64 (Int.ofNat b))] 1 3] 137 [(.e (.one (.v (.slice none 0 0)))), (.e (.one (.clo 138 [] [.one (.ptr 1 0), .one (.ptr 2 0), .one (.ptr 0 0)])))] (.e (.one (.slc 5 0 R.length 1 R.length false))) [bK [.v (.int .i64 c), .dp (.s (gD g) g.length 2), .dp (.s (ndD N) N.length 4), .dp (.s (ldD L) L.length 3)] 4 37, bK [.v (.int .i64 (Int.ofNat a))] 1 3, bK [.v (.int .i64 (Int.ofNat b))] 1 3, bK [.slc 5 0 R.length 1 R.length false] 1 30, none, some ⟨(iC R), R.length, 3, false, .cells⟩] := by
  refine cOut_startM Tryz.func137 rfl (pq137a hE (gD g) (ndD N) (ldD L) g.length N.length L.length c (Int.ofNat a) (Int.ofNat b) (fun j => ?_) uD)
  refine (?_ : OutK E 3 3 ⟨[bK [.v (.int .i64 c), .dp (.s (gD g) g.length 2), .dp (.s (ndD N) N.length 4), .dp (.s (ldD L) L.length 3)] 4 37, bK [.v (.int .i64 (Int.ofNat a))] 1 3, bK [.v (.int .i64 (Int.ofNat b))] 1 3, bK [.v (.slice none 0 0)] 1 30], .code (.rangeFunc (.tmp 6) #[7] asg137 bod137) :: [.inBlock 0, .code (aF [1, 1] Tryz.f137)], T137 j⟩ _)
  refine outK_loop hE (g := 138) (v := .tup []) (h2 := [bK [.v (.int .i64 c), .dp (.s (gD g) g.length 2), .dp (.s (ndD N) N.length 4), .dp (.s (ldD L) L.length 3)] 4 37, bK [.v (.int .i64 (Int.ofNat a))] 1 3, bK [.v (.int .i64 (Int.ofNat b))] 1 3, bK [.slc 6 0 R.length 1 R.length false] 1 30, some markEnt, lpE .ready none (T137 j) #[7] asg137 bod137, some ⟨(iC R), R.length, 3, false, .cells⟩]) (a := loopEnt .ready none (T137 j) #[7] asg137 bod137) rfl Tryz.func138 rfl rfl (k138 j) (by kernel_rfl) rfl (by intro h; cases h) ?_
  exact pqE137 hE j asg137 bod137 (gD g) (ndD N) (ldD L) g.length N.length L.length R.length c (Int.ofNat a) (Int.ofNat b) (iC R) (flat_iC _) (fun j => outK_ret ⟨rfl, by kernel_rfl, by kernel_rfl⟩) j
 exact cOut_gcF [0, 1, 2] [false, false, false] (by simp) (cOut_freeze 5 hc rfl (by decide) (ds := iD R) (v' := dI R) (frzAll (b := 5) (iD R) R.length 1 R.length false (by simp))) (by kernel_rfl) (by kernel_rfl) trivial rfl
theorem K70p (hE : EnvOk E) (c : Int) (g : List Gs) (N : List Nd) (L : List Ld) (hN : N.length ≤ 400) (h : UpOk N) (a b : Nat) (ha : a < N.length) (hb : b < N.length) : COut E 3 [bK [.v (.int .i64 c), .dp (.s (gD g) g.length 2), .dp (.s (ndD N) N.length 4), .dp (.s (ldD L) L.length 3)] 4 37, bK [.v (.int .i64 (Int.ofNat a))] 1 3, bK [.v (.int .i64 (Int.ofNat b))] 1 3] 70 [(.e (.one (.clo 138 [] [.one (.ptr 1 0), .one (.ptr 2 0), .one (.ptr 0 0)])))] (dI (pth N a b)) [bK [.v (.int .i64 c), .dp (.s (gD g) g.length 2), .dp (.s (ndD N) N.length 4), .dp (.s (ldD L) L.length 3)] 4 37, bK [.v (.int .i64 (Int.ofNat a))] 1 3, bK [.v (.int .i64 (Int.ofNat b))] 1 3] := by
 have k137 := K137 hE c g N L hN h a b ha hb
 generalize pth N a b = R at k137 ⊢
 exact cOut_start Tryz.func70 rfl (pq70 hE (gD g) (ndD N) (ldD L) (iD R) g.length N.length L.length R.length c (Int.ofNat a) (Int.ofNat b) k137 (fun j => outK_ret (ends_ret (by kernel_rfl))) uD)
theorem K71p (hE : EnvOk E) (c : Int) (g : List Gs) (N : List Nd) (L : List Ld) (a b : Nat) : COut E 0 [] 71 [aM c g N L, iI (Int.ofNat a), iI (Int.ofNat b)] (.e (.one (.clo 138 [] [.one (.ptr 1 0), .one (.ptr 2 0), .one (.ptr 0 0)]))) [bK [.v (.int .i64 c), .dp (.s (gD g) g.length 2), .dp (.s (ndD N) N.length 4), .dp (.s (ldD L) L.length 3)] 4 37, bK [.v (.int .i64 (Int.ofNat a))] 1 3, bK [.v (.int .i64 (Int.ofNat b))] 1 3] :=
 cOut_start Tryz.func71 rfl (pq71 hE (gD g) (ndD N) (ldD L) g.length N.length L.length c (Int.ofNat a) (Int.ofNat b)  (fun j => outK_ret (ends_ret (by kernel_rfl))) uD)
abbrev pT (l : List Int) (e : Int) : AV := .tup [.one (.dp (.s (iD l) l.length 1)), .one (.v (.int .i64 e))]
theorem K12e (hE : EnvOk E) (c : Int) (g : List Gs) (N : List Nd) (L : List Ld) (hg : g.length ≤ 9223372036854775807) (hf : ∀ x ∈ N, x.f.length ≤ 9223372036854775807) (hN : N.length ≤ 9223372036854775806) (hL : L.length ≤ 9223372036854775807) (hl : ∀ x ∈ L, x.f.length ≤ 9223372036854775807) (x y : Int) (h : firstI [manE c g N L, ixE x N.length, ixE y N.length] ≠ 0) : COut E 0 [] 12 [aM c g N L, iI x, iI y] (.tup [.one (.v (.slice none 0 0)), .one (.v (.int .i64 (firstI [manE c g N L, ixE x N.length, ixE y N.length])))]) [] := by
 have k69 := K69e hE c g N L hg hf hN hL hl x y
 exact cOut_clear (cOut_start Tryz.func12 rfl (pq12e hE (gD g) (ndD N) (ldD L) g.length N.length L.length c x y (firstI [manE c g N L, ixE x N.length, ixE y N.length]) k69 (bne_iff_ne.2 h) (fun j => outK_ret (ends_ret (by kernel_rfl))) uD)) rfl
theorem K12o (hE : EnvOk E) (c : Int) (g : List Gs) (N : List Nd) (L : List Ld) (hg : g.length ≤ 9223372036854775807) (hf : ∀ x ∈ N, x.f.length ≤ 9223372036854775807) (hN : N.length ≤ 9223372036854775806) (hL : L.length ≤ 9223372036854775807) (hl : ∀ x ∈ L, x.f.length ≤ 9223372036854775807) (hN4 : N.length ≤ 400) (hu : UpOk N) (a b : Nat) (ha : a < N.length) (hb : b < N.length) (h : firstI [manE c g N L, ixE (Int.ofNat a) N.length, ixE (Int.ofNat b) N.length] = 0) : COut E 0 [] 12 [aM c g N L, iI (Int.ofNat a), iI (Int.ofNat b)] (pT (pth N a b) 0) [] := by
 have k69 := K69e hE c g N L hg hf hN hL hl (Int.ofNat a) (Int.ofNat b)
 rw [h] at k69
 have k70 := K70p hE c g N L hN4 hu a b ha hb
 generalize pth N a b = R at k70 ⊢
 exact cOut_clear (cOut_start Tryz.func12 rfl (pq12 hE (gD g) (ndD N) (ldD L) (iD R) g.length N.length L.length R.length c (Int.ofNat a) (Int.ofNat b) k69 (K71p hE c g N L a b) oB k70 (fun j => outK_ret (ends_ret (by kernel_rfl))) uD)) rfl
theorem rp_cons {b : Int} {B : List Int} : ∀ {A : List Int}, (∀ z ∈ A, z ≠ b) → (∃ z ∈ A, z ∈ B) → rp A (b :: B) = rp A B ++ [b]
 | [], _, hm => by obtain ⟨z, hz, _⟩ := hm; cases hz
 | x :: A, hn, hm => by
  have hx : x ≠ b := hn x List.mem_cons_self
  by_cases h : x ∈ B
  ·rw [rp, rp, if_pos h, if_pos (List.mem_cons_of_mem _ h), List.takeWhile_cons_of_pos (by simpa using fun e => hx e.symm)]
   simp
  ·have h2 : x ∉ b :: B := by simp [hx, h]
   rw [rp, rp, if_neg h, if_neg h2, rp_cons (fun z hz => hn z (List.mem_cons_of_mem _ hz)) ?_]
   ·rfl
   ·obtain ⟨z, hz, hb⟩ := hm
    rcases List.mem_cons.1 hz with rfl | e
    ·exact absurd hb h
    ·exact ⟨z, e, hb⟩
theorem pth_ref (N : List Nd) (h : UpOk N) : ∀ m a b, a + b ≤ m → a < N.length → b < N.length → ul N m a b ++ (dl N m a b).reverse = refP N a b := by
 have eqs : ∀ m a, ul N m a a ++ (dl N m a a).reverse = refP N a a := by
  intro m a
  rw [ul_e, dl_e]
  unfold refP
  rw [abv_hd N a, rp, if_pos List.mem_cons_self, List.takeWhile_cons_of_neg (by simp)]
  rfl
 intro m
 induction m with
 | zero =>
  intro a b hm ha hb
  obtain rfl : a = b := by omega
  exact eqs 0 a
 | succ m ih =>
  intro a b hm ha hb
  by_cases he : a = b
  ·subst he; exact eqs _ a
  ·by_cases hl : a < b
   ·obtain ⟨x, hx, hu, hq⟩ := up_at h hb (by omega)
    rw [ul, dl, if_neg he, if_pos hl, if_neg he, if_pos hl, List.reverse_cons, ← List.append_assoc, ih a (upN N b) (by omega) ha (by omega)]
    unfold refP
    rw [(abv_at h hx (by omega) hu).1, rp_cons]
    ·intro z hz e
     have := abv_le N a z hz
     rw [e] at this
     simp only [Int.ofNat_eq_natCast] at this
     omega
    ·exact ⟨0, abv_end N a, abv_end N _⟩
   ·obtain ⟨x, hx, hu, hq⟩ := up_at h ha (by omega)
    rw [ul, dl, if_neg he, if_neg hl, if_neg he, if_neg hl, List.cons_append, ih (upN N a) b (by omega) (by omega) hb]
    unfold refP
    rw [(abv_at h hx (by omega) hu).1, rp, if_neg ?_]
    intro hz
    have := abv_le N b _ hz
    simp only [Int.ofNat_eq_natCast] at this
    omega
theorem pth_eq {N : List Nd} (h : UpOk N) {a b : Nat} (ha : a < N.length) (hb : b < N.length) : pth N a b = refP N a b := pth_ref N h _ a b (Nat.le_refl _) ha hb
end
end Go.Proofs.YtigdchbjmnbjlaaGreatDoor
end
section
open Go Go.Ev
namespace Go.Proofs.YtigdchbjmnbjlaaGreatDoor
noncomputable section
end
end Go.Proofs.YtigdchbjmnbjlaaGreatDoor
end
section
open Go Go.Ev
namespace Go.Proofs.YtigdchbjmnbjlaaGreatDoor
noncomputable section
end
end Go.Proofs.YtigdchbjmnbjlaaGreatDoor
end
section
open Go Go.Ev
namespace Go.Proofs.YtigdchbjmnbjlaaGreatDoor
noncomputable section
end
end Go.Proofs.YtigdchbjmnbjlaaGreatDoor
end
section
open Go Go.Ev
namespace Go.Proofs.YtigdchbjmnbjlaaGreatDoor
noncomputable section
end
end Go.Proofs.YtigdchbjmnbjlaaGreatDoor
end
section
open Go Go.Ev
namespace Go.Proofs.YtigdchbjmnbjlaaGreatDoor
noncomputable section
end
end Go.Proofs.YtigdchbjmnbjlaaGreatDoor
end
section
open Go Go.Ev
namespace Go.Proofs.YtigdchbjmnbjlaaGreatDoor
noncomputable section
end
end Go.Proofs.YtigdchbjmnbjlaaGreatDoor
end
section
open Go Go.Ev
namespace Go.Proofs.YtigdchbjmnbjlaaGreatDoor
noncomputable section
end
end Go.Proofs.YtigdchbjmnbjlaaGreatDoor
end
section
open Go Go.Ev
namespace Go.Proofs.YtigdchbjmnbjlaaGreatDoor
noncomputable section
end
end Go.Proofs.YtigdchbjmnbjlaaGreatDoor
end
section
open Go Go.Ev
namespace Go.Proofs.YtigdchbjmnbjlaaGreatDoor
noncomputable section
def okM (w : Nat) (x : List Int) : Prop := mapE x = 0 ∧ x.length = w
structure AgOk (w : Nat) (U : List (List Int)) (N B : Nat) (hB : Bool) (As : List Int) : Prop where
 ok : ∀ x ∈ U, okM w x
 n1 : N + 1 ≤ U.length
 n2 : U.length ≤ N + 2
 b1 : B ≤ N
 b2 : N ≤ B + 1
 hb : hB = true → B + 1 < U.length
 nb : N = B + 1 → hB = true
 an : ∀ v ∈ As, ∃ k : Nat, v = Int.ofNat k ∧ k ≤ B + 1 ∧ (k = B + 1 → hB = true)
namespace AgOk
variable {w : Nat} {U : List (List Int)} {N B : Nat} {hB : Bool} {As : List Int}
theorem again (h : AgOk w U N B hB As) : AgOk w U N B hB (As ++ [Int.ofNat B]) where
 ok := h.ok
 n1 := h.n1
 n2 := h.n2
 b1 := h.b1
 b2 := h.b2
 hb := h.hb
 nb := h.nb
 an := fun v hv => (List.mem_append.1 hv).elim (h.an v) fun a => ⟨B, List.mem_singleton.1 a, by omega, fun e => by omega⟩
end AgOk
end
end Go.Proofs.YtigdchbjmnbjlaaGreatDoor
end
section
open Go Go.Ev Go.RowKit
namespace Go.Proofs.YtigdchbjmnbjlaaGreatDoor
noncomputable section
def WkS (x x' : AC) : Prop := ∀ (m : M) (y : Value), CR m x y → CR m x' y
def WkSB : Option AB → Option AB → Prop
 | none, none => True
 | some a, some a' => a.ext = .cells ∧ a'.ext = .cells ∧ a'.n = a.n ∧ a'.elem = a.elem ∧ (a'.full = true → a.full = true) ∧ All2 WkS a.cells a'.cells
 | _, _ => False
theorem outK_wks {lvl K : Nat} {rd : Option Nat} {Φ : Res → Prop} {h h' : Heap} {todo : List Item} {tm : Tm} (hh : All2 WkSB h h') (ho : OutK E lvl K ⟨h', todo, tm⟩ Φ rd) : OutK E lvl K ⟨h, todo, tm⟩ Φ rd := by
 refine .before (s' := ⟨h', todo, tm⟩) (fun fr t cs w m base hT H G => ?_) ho
 have hlen := all2_len hh
 have back : ∀ (b : Nat) (a' : AB), h'[b]? = some (some a') → ∃ a : AB, h[b]? = some (some a) ∧ a.ext = .cells ∧ a'.ext = .cells ∧ a'.n = a.n ∧ a'.elem = a.elem ∧ (a'.full = true → a.full = true) ∧ All2 WkS a.cells a'.cells := by
  intro b a' hb
  obtain ⟨x, hx, hr⟩ := hh.get' hb
  cases x with
  | none => exact hr.elim
  | some a => exact ⟨a, hx, hr⟩
 have H' : HR m base lvl h' w := by
  refine ⟨by rw [H.n, hlen], by rw [← hlen]; exact H.lvlLe, H.baseLe, fun b a' hb => ?_, fun b hb hb2 => H.own b hb (by rw [hlen]; exact hb2), ?_, H.lo, fun p hp => ⟨(H.tab p hp).1, fun b a' hb hb2 => ?_⟩⟩
  ·obtain ⟨a, ha, r1, r2, r3, r4, r5, r6⟩ := back b a' hb
   obtain ⟨B, _⟩ := H.ent b a ha
   obtain ⟨b1, b2, c, fz, b3, b4, b5, b6, b7⟩ := B r1
   refine ⟨fun _ => ⟨by rw [← all2_len r6, b1, r3], fun hf => by rw [r3]; exact b2 (r5 hf), c, fz, by rw [r4]; exact b3, b4, b5, by rw [r3]; exact b6, ?_⟩, by rw [r2]; trivial⟩
   rw [r3]
   exact all2_map (R := CR m) (T := WkS) (S := CR m) (fun x y x' h0 h3 => h0 m y h3) r6 b7
  ·intro b b' hb hb' h1 h2 h3 h4
   refine H.inj b b' (by rw [hlen]; exact hb) (by rw [hlen]; exact hb') ?_ ?_ h3 h4
   ·obtain ⟨a, ha⟩ := h1; obtain ⟨a0, h0, _⟩ := back b a ha; exact ⟨a0, h0⟩
   ·obtain ⟨a, ha⟩ := h2; obtain ⟨a0, h0, _⟩ := back b' a ha; exact ⟨a0, h0⟩
  ·obtain ⟨a, ha0, _⟩ := back b a' hb2
   exact (H.tab p hp).2 b a hb ha0
 exact ⟨t, w, m, .refl _ _, hT, H', .refl _ _, .refl _ _⟩
theorem wkS_r (x : AC) : WkS x x := fun _ _ h => h
theorem wkS_n (sz : Nat) : WkS (.v (.slice none 0 0)) (.dp (.s [] 0 sz)) := fun m y h => wkNc m sz y h
end
end Go.Proofs.YtigdchbjmnbjlaaGreatDoor
end
section
open Go Go.Ev
namespace Go.Proofs.YtigdchbjmnbjlaaGreatDoor
noncomputable section
def sr13 (G C L : List DT) (g n l : Nat) (c : Int) (_j : JN) : St := startK Tryz.f13 [] [.e (.agg (mQ c G g C n L l))]
def sr13b (G C L : List DT) (g n l : Nat) (c : Int) (j : JN) : St := ⟨[(bK (mQ c G g C n L l) 4 26), (bK zzQ 4 37)], [(.code (aF [1, 0] Tryz.f13)), (.code (aF [1, 1] Tryz.f13))], mkT j [(1, (.e (.one (.ptr 0 0)))), (2, (.e (.one (.ptr 1 0))))] 62 0⟩
def sr13c (G C L : List DT) (g n l : Nat) (c : Int) (j : JN) : St := ⟨[bK (mQ c G g C n L l) 4 26, bK [.v (.int .i64 0), .v (.slice none 0 0), .v (.slice none 0 0), .v (.slice none 0 0)] 4 37, bK [.v (.int .i64 c), .dp (.s G g 2), .v (.slice none 0 0), .v (.slice none 0 0)] 4 37], [(.code (aF [1, 1] Tryz.f13))], mkT j [(1, (.e (.one (.ptr 0 0)))), (2, (.e (.one (.ptr 1 0)))), (3, (.e (.one (.ptr 2 0))))] 62 0⟩
def tr13n (G C L : List DT) (g n l i : Nat) (c : Int) (j : JN) : St := ⟨[bK (mQ c G g C n L l) 4 26, bK [.v (.int .i64 0), .v (.slice none 0 0), .v (.slice none 0 0), .v (.slice none 0 0)] 4 37, bK [.v (.int .i64 c), .dp (.s G g 2), .v (.slice none 0 0), .v (.slice none 0 0)] 4 37], [(.code (aF [1, 1, 0, 1, 0, 0] Tryz.f13)), (.inLoop (aF [1, 1, 0, 1, 0, 0] Tryz.f13)), (.inBlock 0), (.code (aF [1, 1, 1] Tryz.f13))], mkT j [(1, (.e (.one (.ptr 0 0)))), (2, (.e (.one (.ptr 1 0)))), (3, (.e (.one (.ptr 2 0)))), (16, (.e (.one (.dp (.s C n 4))))), (17, (iN n)), (18, (iN i))] 62 0⟩
def tr13o (G C L : List DT) (g n l i k : Nat) (c : Int) (Y : List AC) (j : JN) : St := ⟨[bK (mQ c G g C n L l) 4 26, bK [.v (.int .i64 0), .v (.slice none 0 0), .v (.slice none 0 0), .v (.slice none 0 0)] 4 37, bK [.v (.int .i64 c), .dp (.s G g 2), .slc 3 0 k 4 k false, .v (.slice none 0 0)] 4 37, some ⟨Y, (k * 4), 131, false, .cells⟩], [(.code (aF [1, 1, 0, 1, 0, 0] Tryz.f13)), (.inLoop (aF [1, 1, 0, 1, 0, 0] Tryz.f13)), (.inBlock 0), (.code (aF [1, 1, 1] Tryz.f13))], mkT j [(1, (.e (.one (.ptr 0 0)))), (2, (.e (.one (.ptr 1 0)))), (3, (.e (.one (.ptr 2 0)))), (16, (.e (.one (.dp (.s C n 4))))), (17, (iN n)), (18, (iN i))] 62 0⟩
def tr13p (G C L : List DT) (g n l i : Nat) (c : Int) (j : JN) : St := ⟨[bK (mQ c G g C n L l) 4 26, bK [.v (.int .i64 0), .v (.slice none 0 0), .v (.slice none 0 0), .v (.slice none 0 0)] 4 37, bK [.v (.int .i64 c), .dp (.s G g 2), .dp (.s C n 4), .v (.slice none 0 0)] 4 37], [(.code (aF [1, 1, 0, 1, 0, 0] Tryz.f13)), (.inLoop (aF [1, 1, 0, 1, 0, 0] Tryz.f13)), (.inBlock 0), (.code (aF [1, 1, 1] Tryz.f13))], mkT j [(1, (.e (.one (.ptr 0 0)))), (2, (.e (.one (.ptr 1 0)))), (3, (.e (.one (.ptr 2 0)))), (16, (.e (.one (.dp (.s C n 4))))), (17, (iN n)), (18, (iN i))] 62 0⟩
def tr13d (G C L : List DT) (g n l i : Nat) (c : Int) (j : JN) : St := ⟨[bK [.v (.int .i64 0), .v (.slice none 0 0), .v (.slice none 0 0), .v (.slice none 0 0)] 4 37, bK [.v (.int .i64 c), .dp (.s G g 2), .dp (.s C n 4), .v (.slice none 0 0)] 4 37], [(.code (aF [1, 1, 1, 0, 1, 0, 0] Tryz.f13)), (.inLoop (aF [1, 1, 1, 0, 1, 0, 0] Tryz.f13)), (.inBlock 2), (.code (aF [1, 1, 1, 1] Tryz.f13))], mkT j [(2, (.e (.one (.ptr 0 0)))), (3, (.e (.one (.ptr 1 0)))), (40, (.e (.one (.dp (.s L l 3))))), (41, (iN l)), (42, (iN i))] 62 0⟩
def tr13e (G C L : List DT) (g n l i k : Nat) (c : Int) (Y : List AC) (j : JN) : St := ⟨[bK [.v (.int .i64 0), .v (.slice none 0 0), .v (.slice none 0 0), .v (.slice none 0 0)] 4 37, bK [.v (.int .i64 c), .dp (.s G g 2), .dp (.s C n 4), .slc 2 0 k 3 k false] 4 37, some ⟨Y, (k * 3), 132, false, .cells⟩], [(.code (aF [1, 1, 1, 0, 1, 0, 0] Tryz.f13)), (.inLoop (aF [1, 1, 1, 0, 1, 0, 0] Tryz.f13)), (.inBlock 2), (.code (aF [1, 1, 1, 1] Tryz.f13))], mkT j [(2, (.e (.one (.ptr 0 0)))), (3, (.e (.one (.ptr 1 0)))), (40, (.e (.one (.dp (.s L l 3))))), (41, (iN l)), (42, (iN i))] 62 0⟩
def tr13f (G C L : List DT) (g n l i : Nat) (c : Int) (j : JN) : St := ⟨[bK [.v (.int .i64 0), .v (.slice none 0 0), .v (.slice none 0 0), .v (.slice none 0 0)] 4 37, bK (mQ c G g C n L l) 4 37], [(.code (aF [1, 1, 1, 0, 1, 0, 0] Tryz.f13)), (.inLoop (aF [1, 1, 1, 0, 1, 0, 0] Tryz.f13)), (.inBlock 2), (.code (aF [1, 1, 1, 1] Tryz.f13))], mkT j [(2, (.e (.one (.ptr 0 0)))), (3, (.e (.one (.ptr 1 0)))), (40, (.e (.one (.dp (.s L l 3))))), (41, (iN l)), (42, (iN i))] 62 0⟩
def pr13a_end (G C L : List DT) (g n l : Nat) (c : Int) (j : JN) : St := ⟨[(bK (mQ c G g C n L l) 4 26), (bK zzQ 4 37)], [(.code (aF [1, 0] Tryz.f13)), (.code (aF [1, 1] Tryz.f13))], mkT j [(1, (.e (.one (.ptr 0 0)))), (2, (.e (.one (.ptr 1 0))))] 62 0⟩
theorem pr13a (hE : EnvOk E) (G C L : List DT) (g n l : Nat) (c : Int) {Φ : Res → Prop} (ho : ∀ j, OutK E 0 0 (pr13a_end G C L g n l c j) Φ) (j : JN) : OutK E 0 0 (sr13 G C L g n l c j) Φ :=
 oS hE [.run 3] [1, 2] (ps := []) trivial
  ho
def pr13b_end (G C L : List DT) (g n l : Nat) (c : Int) (w : Bool) (D : List AC) (j : JN) : St := ⟨[(bK (mQ c G g C n L l) 4 26), (bK zzQ 4 37), (bK [(.v (.int .i64 c)), (.slc 3 0 g 2 g w), (.v (.slice none 0 0)), (.v (.slice none 0 0))] 4 37), (.some ⟨(D), (g * 2), 47, w, .cells⟩)], [(.code (aF [1, 1] Tryz.f13))], mkT j [(1, (.e (.one (.ptr 0 0)))), (2, (.e (.one (.ptr 1 0)))), (3, (.e (.one (.ptr 2 0))))] 62 0⟩
theorem pr13b (hE : EnvOk E) (G C L : List DT) (g n l : Nat) (c : Int) (w : Bool) (D : List AC) (h1_0 : CopyOk [(bK (mQ c G g C n L l) 4 26), (bK zzQ 4 37), (bK [] 0 47)] 2 16 (.e (.one (.dp (.s G g 2)))) g D w) (h1_1 : (g * 2 : Nat) = g * 2) (g0 : FlatC D) (h3_0 : CopyOk [(bK (mQ c G g C n L l) 4 26), (bK zzQ 4 37), (bK [] 0 47), (bK zzQ 4 37)] 2 16 (.e (.one (.dp (.s G g 2)))) g D w) (h4_0 : CopyOk [(bK (mQ c G g C n L l) 4 26), (bK zzQ 4 37), (bK zzQ 4 37), (bK [] 0 47)] 2 16 (.e (.one (.dp (.s G g 2)))) g D w) {Φ : Res → Prop} (ho : ∀ j, OutK E 0 0 (pr13b_end G C L g n l c w D j) Φ) (j : JN) : OutK E 0 0 (sr13b G C L g n l c j) Φ :=
 outK_draw' hE (h := (sr13b G C L g n l c j).heap) (ops := opsOf (aF [1, 0] Tryz.f13)) (id := idOf (aF [1, 0] Tryz.f13)) (todo := [(.code (aF [1, 1] Tryz.f13))]) (tm := (sr13b G C L g n l c j).tm) (by kernel_rfl) (outR_split 6 7 rfl (outR_seg hE (R0_ok hE) [0, 1, 2, 3, 4, 5, 6, 7, 8] [(5, (.cpu g (g * 2) D w))] [] [1, 2, 3] (s' := fun j => ⟨[(bK (mQ c G g C n L l) 4 26), (bK zzQ 4 37), none, (.some ⟨(D), (g * 2), 47, w, .cells⟩), (bK [(.v (.int .i64 c)), (.slc 3 0 g 2 g w), (.v (.slice none 0 0)), (.v (.slice none 0 0))] 4 37)], [(.code (aF [1, 1] Tryz.f13))], mkT j [(1, (.e (.one (.ptr 0 0)))), (2, (.e (.one (.ptr 1 0)))), (3, (.e (.one (.ptr 4 0))))] 62 0⟩) (ps := [CopyOk [(bK (mQ c G g C n L l) 4 26), (bK zzQ 4 37), (bK [] 0 47)] 2 16 (.e (.one (.dp (.s G g 2)))) g D w, (g * 2 : Nat) = g * 2, (true : Bool) = true]) (by kernel_rfl) (fun j => by kernel_rfl) ⟨h1_0, h1_1, rfl, trivial⟩ (fun j => outK_gcF [0, 1, 4, 3] [false, false, false, true] (h' := [(bK (mQ c G g C n L l) 4 26), (bK zzQ 4 37), (bK [(.v (.int .i64 c)), (.slc 3 0 g 2 g w), (.v (.slice none 0 0)), (.v (.slice none 0 0))] 4 37), (.some ⟨(D), (g * 2), 47, w, .cells⟩)]) (by decide) (by kernel_rfl) (by kernel_rfl) ⟨g0, trivial⟩ (by kernel_rfl) (ho j))) (outR_split 5 7 rfl (outR_seg hE (R0_ok hE) [0, 1, 2, 3, 4, 5, 7, 6, 8] [(5, (.cpu g (g * 2) D w))] [] [1, 2, 3] (s' := fun j => ⟨[(bK (mQ c G g C n L l) 4 26), (bK zzQ 4 37), none, (.some ⟨(D), (g * 2), 47, w, .cells⟩), (bK [(.v (.int .i64 c)), (.slc 3 0 g 2 g w), (.v (.slice none 0 0)), (.v (.slice none 0 0))] 4 37)], [(.code (aF [1, 1] Tryz.f13))], mkT j [(1, (.e (.one (.ptr 0 0)))), (2, (.e (.one (.ptr 1 0)))), (3, (.e (.one (.ptr 4 0))))] 62 0⟩) (ps := [CopyOk [(bK (mQ c G g C n L l) 4 26), (bK zzQ 4 37), (bK [] 0 47)] 2 16 (.e (.one (.dp (.s G g 2)))) g D w, (g * 2 : Nat) = g * 2, (true : Bool) = true]) (by kernel_rfl) (fun j => by kernel_rfl) ⟨h1_0, h1_1, rfl, trivial⟩ (fun j => outK_gcF [0, 1, 4, 3] [false, false, false, true] (h' := [(bK (mQ c G g C n L l) 4 26), (bK zzQ 4 37), (bK [(.v (.int .i64 c)), (.slc 3 0 g 2 g w), (.v (.slice none 0 0)), (.v (.slice none 0 0))] 4 37), (.some ⟨(D), (g * 2), 47, w, .cells⟩)]) (by decide) (by kernel_rfl) (by kernel_rfl) ⟨g0, trivial⟩ (by kernel_rfl) (ho j))) (outR_split 2 7 rfl (outR_seg hE (R0_ok hE) [0, 1, 2, 3, 4, 7, 5, 6, 8] [(6, (.cpu g (g * 2) D w))] [] [1, 2, 3] (s' := fun j => ⟨[(bK (mQ c G g C n L l) 4 26), (bK zzQ 4 37), none, (bK [(.v (.int .i64 c)), (.slc 4 0 g 2 g w), (.v (.slice none 0 0)), (.v (.slice none 0 0))] 4 37), (.some ⟨(D), (g * 2), 47, w, .cells⟩)], [(.code (aF [1, 1] Tryz.f13))], mkT j [(1, (.e (.one (.ptr 0 0)))), (2, (.e (.one (.ptr 1 0)))), (3, (.e (.one (.ptr 3 0))))] 62 0⟩) (ps := [CopyOk [(bK (mQ c G g C n L l) 4 26), (bK zzQ 4 37), (bK [] 0 47), (bK zzQ 4 37)] 2 16 (.e (.one (.dp (.s G g 2)))) g D w, (g * 2 : Nat) = g * 2, (true : Bool) = true]) (by kernel_rfl) (fun j => by kernel_rfl) ⟨h3_0, h1_1, rfl, trivial⟩ (fun j => outK_gcF [0, 1, 3, 4] [false, false, false, true] (h' := [(bK (mQ c G g C n L l) 4 26), (bK zzQ 4 37), (bK [(.v (.int .i64 c)), (.slc 3 0 g 2 g w), (.v (.slice none 0 0)), (.v (.slice none 0 0))] 4 37), (.some ⟨(D), (g * 2), 47, w, .cells⟩)]) (by decide) (by kernel_rfl) (by kernel_rfl) ⟨g0, trivial⟩ (by kernel_rfl) (ho j))) (outR_seg hE (R0_ok hE) [0, 1, 7, 2, 3, 4, 5, 6, 8] [(6, (.cpu g (g * 2) D w))] [] [1, 2, 3] (s' := fun j => ⟨[(bK (mQ c G g C n L l) 4 26), (bK zzQ 4 37), (bK [(.v (.int .i64 c)), (.slc 4 0 g 2 g w), (.v (.slice none 0 0)), (.v (.slice none 0 0))] 4 37), none, (.some ⟨(D), (g * 2), 47, w, .cells⟩)], [(.code (aF [1, 1] Tryz.f13))], mkT j [(1, (.e (.one (.ptr 0 0)))), (2, (.e (.one (.ptr 1 0)))), (3, (.e (.one (.ptr 2 0))))] 62 0⟩) (ps := [CopyOk [(bK (mQ c G g C n L l) 4 26), (bK zzQ 4 37), (bK zzQ 4 37), (bK [] 0 47)] 2 16 (.e (.one (.dp (.s G g 2)))) g D w, (g * 2 : Nat) = g * 2, (true : Bool) = true]) (by kernel_rfl) (fun j => by kernel_rfl) ⟨h4_0, h1_1, rfl, trivial⟩ (fun j => outK_gcF [0, 1, 2, 4] [false, false, false, true] (h' := [(bK (mQ c G g C n L l) 4 26), (bK zzQ 4 37), (bK [(.v (.int .i64 c)), (.slc 3 0 g 2 g w), (.v (.slice none 0 0)), (.v (.slice none 0 0))] 4 37), (.some ⟨(D), (g * 2), 47, w, .cells⟩)]) (by decide) (by kernel_rfl) (by kernel_rfl) ⟨g0, trivial⟩ (by kernel_rfl) (ho j))))))
def pr13c_end (G C L : List DT) (g n l : Nat) (c : Int) (j : JN) : St := ⟨[(bK (mQ c G g C n L l) 4 26), (bK zzQ 4 37), (bK [(.v (.int .i64 c)), (.dp (.s G g 2)), (.v (.slice none 0 0)), (.v (.slice none 0 0))] 4 37)], [(.code (aF [1, 1, 0, 1, 0, 0] Tryz.f13)), (.inLoop (aF [1, 1, 0, 1, 0, 0] Tryz.f13)), (.inBlock 0), (.code (aF [1, 1, 1] Tryz.f13))], mkT j [(1, (.e (.one (.ptr 0 0)))), (2, (.e (.one (.ptr 1 0)))), (3, (.e (.one (.ptr 2 0)))), (16, (.e (.one (.dp (.s C n 4))))), (17, (iN n)), (18, (iI 0))] 62 0⟩
theorem pr13c (hE : EnvOk E) (G C L : List DT) (g n l : Nat) (c : Int) {Φ : Res → Prop} (ho : ∀ j, OutK E 0 0 (pr13c_end G C L g n l c j) Φ) (j : JN) : OutK E 0 0 (sr13c G C L g n l c j) Φ :=
 oS hE [.run 2, (.ops [(2, (.d .len))] []), .run 2] [1, 2, 3, 16, 17, 18] (ps := []) trivial
  ho
def pr13sn_end (G C L F : List DT) (g n l q i : Nat) (c u r : Int) (s : ByteArray) (w : Bool) (D : List AC) (j : JN) : St := ⟨[(bK (mQ c G g C n L l) 4 26), (bK zzQ 4 37), (bK [(.v (.int .i64 c)), (.dp (.s G g 2)), (.slc 7 0 1 4 1 false), (.v (.slice none 0 0))] 4 37), (bK [(.v (.string s)), (.v (.int .i64 u)), (.v (.int .i64 r)), (.dp (.s F q 2))] 4 97), none, (.some ⟨(D), (q * 2), 47, w, .cells⟩), (bK [(.v (.string s)), (.v (.int .i64 u)), (.v (.int .i64 r)), (.slc 5 0 q 2 q w)] 4 131), (.some ⟨[(.v (.string s)), (.v (.int .i64 u)), (.v (.int .i64 r)), (.slc 5 0 q 2 q w)], 4, 131, false, .cells⟩)], [(.code (aF [1, 1, 0, 1, 0, 0] Tryz.f13)), (.inLoop (aF [1, 1, 0, 1, 0, 0] Tryz.f13)), (.inBlock 0), (.code (aF [1, 1, 1] Tryz.f13))], mkT j [(1, (.e (.one (.ptr 0 0)))), (2, (.e (.one (.ptr 1 0)))), (3, (.e (.one (.ptr 2 0)))), (16, (.e (.one (.dp (.s C n 4))))), (17, (iN n)), (18, (iN (i + 1)))] 62 0⟩
theorem pr13sn (hE : EnvOk E) (G C L F : List DT) (g n l q i : Nat) (c u r : Int) (s : ByteArray) (w : Bool) (D : List AC) (h0 : (decide (Int.ofNat i < Int.ofNat n) : Bool) = true) (h1 : (0 : Int) ≤ Int.ofNat i ∧ Int.ofNat i < (↑n : Int)) (h2 : ((Int.ofNat i).toNat * nat_lit 4 : Nat) = i.mul (nat_lit 4)) (h3 : (takeL (dropL C (i.mul (nat_lit 4))) (4 : Nat) : Option (List DT)) = (.some [(.v (.string s)), (.v (.int .i64 u)), (.v (.int .i64 r)), (.s F q 2)])) (h4 : CopyOk [(bK (mQ c G g C n L l) 4 26), (bK zzQ 4 37), (bK [(.v (.int .i64 c)), (.dp (.s G g 2)), (.v (.slice none 0 0)), (.v (.slice none 0 0))] 4 37), (bK [(.v (.string s)), (.v (.int .i64 u)), (.v (.int .i64 r)), (.dp (.s F q 2))] 4 97), (bK [] 0 47)] 2 16 (.e (.one (.dp (.s F q 2)))) q D w) (h5 : (q * 2 : Nat) = q * 2) (h7 : ((iI (wrapF IntKind.i64 (Int.ofNat i + (1 : Int)))) : AV) = (iN (i + 1))) {Φ : Res → Prop} (ho : ∀ j, OutK E 0 0 (pr13sn_end G C L F g n l q i c u r s w D j) Φ) (j : JN) : OutK E 0 0 (tr13n G C L g n l i c j) Φ :=
 oS hE [.run 3, (.cond true), .run 4, (.ops [(1, (.d (.ldn [(.v (.string s)), (.v (.int .i64 u)), (.v (.int .i64 r)), (.s F q 2)]))), (0, (.d (.ix (i.mul (nat_lit 4)))))] []), (.ops [(11, (.cpu q (q * 2) D w))] []), .run 1, (.ops [(0, (.rn (iN (i + 1))))] []), .run 1] [1, 2, 3, 16, 17, 18] (aQ h0 h1 h2 h3 <| aP h4 <| aP h5 <| aV <| aP h7 <| aZ)
  ho
def pr13so_end (G C L F : List DT) (g n l q i k : Nat) (c u r : Int) (s : ByteArray) (w : Bool) (D Z : List AC) (j : JN) : St := ⟨[(bK (mQ c G g C n L l) 4 26), (bK zzQ 4 37), (bK [(.v (.int .i64 c)), (.dp (.s G g 2)), (.slc 8 0 (k + 1) 4 (k + 1) false), (.v (.slice none 0 0))] 4 37), none, (bK [(.v (.string s)), (.v (.int .i64 u)), (.v (.int .i64 r)), (.dp (.s F q 2))] 4 97), none, (.some ⟨(D), (q * 2), 47, w, .cells⟩), (bK [(.v (.string s)), (.v (.int .i64 u)), (.v (.int .i64 r)), (.slc 6 0 q 2 q w)] 4 131), (.some ⟨(Z), ((k + 1) * 4), 131, false, .cells⟩)], [(.code (aF [1, 1, 0, 1, 0, 0] Tryz.f13)), (.inLoop (aF [1, 1, 0, 1, 0, 0] Tryz.f13)), (.inBlock 0), (.code (aF [1, 1, 1] Tryz.f13))], mkT j [(1, (.e (.one (.ptr 0 0)))), (2, (.e (.one (.ptr 1 0)))), (3, (.e (.one (.ptr 2 0)))), (16, (.e (.one (.dp (.s C n 4))))), (17, (iN n)), (18, (iN (i + 1)))] 62 0⟩
theorem pr13so (hE : EnvOk E) (G C L F : List DT) (g n l q i k : Nat) (c u r : Int) (s : ByteArray) (w : Bool) (D Y Z : List AC) (h0 : (decide (Int.ofNat i < Int.ofNat n) : Bool) = true) (h1 : (0 : Int) ≤ Int.ofNat i ∧ Int.ofNat i < (↑n : Int)) (h2 : ((Int.ofNat i).toNat * nat_lit 4 : Nat) = i.mul (nat_lit 4)) (h3 : (takeL (dropL C (i.mul (nat_lit 4))) (4 : Nat) : Option (List DT)) = (.some [(.v (.string s)), (.v (.int .i64 u)), (.v (.int .i64 r)), (.s F q 2)])) (h4 : CopyOk [(bK (mQ c G g C n L l) 4 26), (bK zzQ 4 37), (bK [(.v (.int .i64 c)), (.dp (.s G g 2)), (.slc 3 0 k 4 k false), (.v (.slice none 0 0))] 4 37), (.some ⟨(Y), (k * 4), 131, false, .cells⟩), (bK [(.v (.string s)), (.v (.int .i64 u)), (.v (.int .i64 r)), (.dp (.s F q 2))] 4 97), (bK [] 0 47)] 2 16 (.e (.one (.dp (.s F q 2)))) q D w) (h5 : (q * 2 : Nat) = q * 2) (h7 : ¬k + 1 ≤ k) (h8 : (small (k + 1) (4 : Nat) (56 : Nat) : Bool) = true) (h9 : (k * 4 : Nat) = k * nat_lit 4) (h10 : (appL Y ((fun x => AC.v (Value.string s) :: x) ((fun x => AC.v (Value.int IntKind.i64 u) :: x) ((fun x => AC.v (Value.int IntKind.i64 r) :: x) ((fun x => AC.slc (6 : Nat) (0 : Nat) q (2 : Nat) q w :: x) [])))) : List AC) = Z) (h12 : ((k + 1) * nat_lit 4 : Nat) = (k + 1) * 4) (h13 : ((iI (wrapF IntKind.i64 (Int.ofNat i + (1 : Int)))) : AV) = (iN (i + 1))) {Φ : Res → Prop} (ho : ∀ j, OutK E 0 0 (pr13so_end G C L F g n l q i k c u r s w D Z j) Φ) (j : JN) : OutK E 0 0 (tr13o G C L g n l i k c Y j) Φ :=
 oS hE [.run 3, (.cond true), .run 4, (.ops [(1, (.d (.ldn [(.v (.string s)), (.v (.int .i64 u)), (.v (.int .i64 r)), (.s F q 2)]))), (0, (.d (.ix (i.mul (nat_lit 4)))))] []), (.ops [(11, (.cpu q (q * 2) D w)), (14, (.app (k + 1) ((k + 1) * 4) Z))] []), .run 1, (.ops [(0, (.rn (iN (i + 1))))] []), .run 1] [1, 2, 3, 16, 17, 18] (aQ h0 h1 h2 h3 <| aP h4 <| aP h5 <| aV <| aQ h7 h8 h9 h10 <| aP (rfl : (k + 1 : Nat) = k + 1) <| aP h12 <| aP h13 <| aZ)
  ho
def pr13xp_end (G C L : List DT) (g n l : Nat) (c : Int) (j : JN) : St := ⟨[(bK zzQ 4 37), (bK [(.v (.int .i64 c)), (.dp (.s G g 2)), (.dp (.s C n 4)), (.v (.slice none 0 0))] 4 37)], [(.code (aF [1, 1, 1, 0, 1, 0, 0] Tryz.f13)), (.inLoop (aF [1, 1, 1, 0, 1, 0, 0] Tryz.f13)), (.inBlock 2), (.code (aF [1, 1, 1, 1] Tryz.f13))], mkT j [(2, (.e (.one (.ptr 0 0)))), (3, (.e (.one (.ptr 1 0)))), (40, (.e (.one (.dp (.s L l 3))))), (41, (iN l)), (42, (iI 0))] 62 0⟩
theorem pr13xp (hE : EnvOk E) (G C L : List DT) (g n l i : Nat) (c : Int) (h0 : (decide (Int.ofNat i < Int.ofNat n) : Bool) = false) {Φ : Res → Prop} (ho : ∀ j, OutK E 0 0 (pr13xp_end G C L g n l c j) Φ) (j : JN) : OutK E 0 0 (tr13p G C L g n l i c j) Φ :=
 oS hE [.run 3, (.cond false), .run 3, (.ops [(2, (.d .len))] []), .run 2] [2, 3, 40, 41, 42] (s' := fun j => ⟨[(bK (mQ c G g C n L l) 4 26), (bK zzQ 4 37), (bK [(.v (.int .i64 c)), (.dp (.s G g 2)), (.dp (.s C n 4)), (.v (.slice none 0 0))] 4 37)], [(.code (aF [1, 1, 1, 0, 1, 0, 0] Tryz.f13)), (.inLoop (aF [1, 1, 1, 0, 1, 0, 0] Tryz.f13)), (.inBlock 2), (.code (aF [1, 1, 1, 1] Tryz.f13))], mkT j [(2, (.e (.one (.ptr 1 0)))), (3, (.e (.one (.ptr 2 0)))), (40, (.e (.one (.dp (.s L l 3))))), (41, (iN l)), (42, (iI 0))] 62 0⟩) (aP h0 <| aZ)
  fun j => gZ [1, 2] (ho j)
def pr13xf_end (G C L : List DT) (g n l : Nat) (c : Int) (j : JN) : St := ⟨[(bK (mQ c G g C n L l) 4 37)], [(.code .ret)], mkT j [(2, (.e (.one (.ptr 0 0))))] 62 0⟩
theorem pr13xf (hE : EnvOk E) (G C L : List DT) (g n l i : Nat) (c : Int) (h0 : (decide (Int.ofNat i < Int.ofNat l) : Bool) = false) {Φ : Res → Prop} (ho : ∀ j, OutK E 0 0 (pr13xf_end G C L g n l c j) Φ) (j : JN) : OutK E 0 0 (tr13f G C L g n l i c j) Φ :=
 oS hE [.run 3, (.cond false), .run 3] [2] (s' := fun j => ⟨[(bK (mQ c G g C n L l) 4 37), (bK (mQ c G g C n L l) 4 37)], [(.code .ret)], mkT j [(2, (.e (.one (.ptr 0 0))))] 62 0⟩) (aP h0 <| aZ)
  fun j => gZ [0] (ho j)
def pr13sd_end (G C L F : List DT) (g n l q i : Nat) (c a : Int) (s : ByteArray) (w : Bool) (D : List AC) (j : JN) : St := ⟨[(bK zzQ 4 37), (bK [(.v (.int .i64 c)), (.dp (.s G g 2)), (.dp (.s C n 4)), (.slc 6 0 1 3 1 false)] 4 37), (bK [(.v (.int .i64 a)), (.v (.string s)), (.dp (.s F q 2))] 3 99), none, (.some ⟨(D), (q * 2), 47, w, .cells⟩), (bK [(.v (.int .i64 a)), (.v (.string s)), (.slc 4 0 q 2 q w)] 3 132), (.some ⟨[(.v (.int .i64 a)), (.v (.string s)), (.slc 4 0 q 2 q w)], 3, 132, false, .cells⟩)], [(.code (aF [1, 1, 1, 0, 1, 0, 0] Tryz.f13)), (.inLoop (aF [1, 1, 1, 0, 1, 0, 0] Tryz.f13)), (.inBlock 2), (.code (aF [1, 1, 1, 1] Tryz.f13))], mkT j [(2, (.e (.one (.ptr 0 0)))), (3, (.e (.one (.ptr 1 0)))), (40, (.e (.one (.dp (.s L l 3))))), (41, (iN l)), (42, (iN (i + 1)))] 62 0⟩
theorem pr13sd (hE : EnvOk E) (G C L F : List DT) (g n l q i : Nat) (c a : Int) (s : ByteArray) (w : Bool) (D : List AC) (h0 : (decide (Int.ofNat i < Int.ofNat l) : Bool) = true) (h1 : (0 : Int) ≤ Int.ofNat i ∧ Int.ofNat i < (↑l : Int)) (h2 : ((Int.ofNat i).toNat * nat_lit 3 : Nat) = i.mul (nat_lit 3)) (h3 : (takeL (dropL L (i.mul (nat_lit 3))) (3 : Nat) : Option (List DT)) = (.some [(.v (.int .i64 a)), (.v (.string s)), (.s F q 2)])) (h4 : CopyOk [(bK zzQ 4 37), (bK [(.v (.int .i64 c)), (.dp (.s G g 2)), (.dp (.s C n 4)), (.v (.slice none 0 0))] 4 37), (bK [(.v (.int .i64 a)), (.v (.string s)), (.dp (.s F q 2))] 3 99), (bK [] 0 47)] 2 16 (.e (.one (.dp (.s F q 2)))) q D w) (h5 : (q * 2 : Nat) = q * 2) (h7 : ((iI (wrapF IntKind.i64 (Int.ofNat i + (1 : Int)))) : AV) = (iN (i + 1))) {Φ : Res → Prop} (ho : ∀ j, OutK E 0 0 (pr13sd_end G C L F g n l q i c a s w D j) Φ) (j : JN) : OutK E 0 0 (tr13d G C L g n l i c j) Φ :=
 oS hE [.run 3, (.cond true), .run 4, (.ops [(1, (.d (.ldn [(.v (.int .i64 a)), (.v (.string s)), (.s F q 2)]))), (0, (.d (.ix (i.mul (nat_lit 3)))))] []), (.ops [(9, (.cpu q (q * 2) D w))] []), .run 1, (.ops [(0, (.rn (iN (i + 1))))] []), .run 1] [2, 3, 40, 41, 42] (aQ h0 h1 h2 h3 <| aP h4 <| aP h5 <| aV <| aP h7 <| aZ)
  ho
def pr13se_end (G C L F : List DT) (g n l q i k : Nat) (c a : Int) (s : ByteArray) (w : Bool) (D Z : List AC) (j : JN) : St := ⟨[(bK zzQ 4 37), (bK [(.v (.int .i64 c)), (.dp (.s G g 2)), (.dp (.s C n 4)), (.slc 7 0 (k + 1) 3 (k + 1) false)] 4 37), none, (bK [(.v (.int .i64 a)), (.v (.string s)), (.dp (.s F q 2))] 3 99), none, (.some ⟨(D), (q * 2), 47, w, .cells⟩), (bK [(.v (.int .i64 a)), (.v (.string s)), (.slc 5 0 q 2 q w)] 3 132), (.some ⟨(Z), ((k + 1) * 3), 132, false, .cells⟩)], [(.code (aF [1, 1, 1, 0, 1, 0, 0] Tryz.f13)), (.inLoop (aF [1, 1, 1, 0, 1, 0, 0] Tryz.f13)), (.inBlock 2), (.code (aF [1, 1, 1, 1] Tryz.f13))], mkT j [(2, (.e (.one (.ptr 0 0)))), (3, (.e (.one (.ptr 1 0)))), (40, (.e (.one (.dp (.s L l 3))))), (41, (iN l)), (42, (iN (i + 1)))] 62 0⟩
theorem pr13se (hE : EnvOk E) (G C L F : List DT) (g n l q i k : Nat) (c a : Int) (s : ByteArray) (w : Bool) (D Y Z : List AC) (h0 : (decide (Int.ofNat i < Int.ofNat l) : Bool) = true) (h1 : (0 : Int) ≤ Int.ofNat i ∧ Int.ofNat i < (↑l : Int)) (h2 : ((Int.ofNat i).toNat * nat_lit 3 : Nat) = i.mul (nat_lit 3)) (h3 : (takeL (dropL L (i.mul (nat_lit 3))) (3 : Nat) : Option (List DT)) = (.some [(.v (.int .i64 a)), (.v (.string s)), (.s F q 2)])) (h4 : CopyOk [(bK zzQ 4 37), (bK [(.v (.int .i64 c)), (.dp (.s G g 2)), (.dp (.s C n 4)), (.slc 2 0 k 3 k false)] 4 37), (.some ⟨(Y), (k * 3), 132, false, .cells⟩), (bK [(.v (.int .i64 a)), (.v (.string s)), (.dp (.s F q 2))] 3 99), (bK [] 0 47)] 2 16 (.e (.one (.dp (.s F q 2)))) q D w) (h5 : (q * 2 : Nat) = q * 2) (h7 : ¬k + 1 ≤ k) (h8 : (small (k + 1) (3 : Nat) (48 : Nat) : Bool) = true) (h9 : (k * 3 : Nat) = k * nat_lit 3) (h10 : (appL Y ((fun x => AC.v (Value.int IntKind.i64 a) :: x) ((fun x => AC.v (Value.string s) :: x) ((fun x => AC.slc (5 : Nat) (0 : Nat) q (2 : Nat) q w :: x) []))) : List AC) = Z) (h12 : ((k + 1) * nat_lit 3 : Nat) = (k + 1) * 3) (h13 : ((iI (wrapF IntKind.i64 (Int.ofNat i + (1 : Int)))) : AV) = (iN (i + 1))) {Φ : Res → Prop} (ho : ∀ j, OutK E 0 0 (pr13se_end G C L F g n l q i k c a s w D Z j) Φ) (j : JN) : OutK E 0 0 (tr13e G C L g n l i k c Y j) Φ :=
 oS hE [.run 3, (.cond true), .run 4, (.ops [(1, (.d (.ldn [(.v (.int .i64 a)), (.v (.string s)), (.s F q 2)]))), (0, (.d (.ix (i.mul (nat_lit 3)))))] []), (.ops [(9, (.cpu q (q * 2) D w)), (12, (.app (k + 1) ((k + 1) * 3) Z))] []), .run 1, (.ops [(0, (.rn (iN (i + 1))))] []), .run 1] [2, 3, 40, 41, 42] (aQ h0 h1 h2 h3 <| aP h4 <| aP h5 <| aV <| aQ h7 h8 h9 h10 <| aP (rfl : (k + 1 : Nat) = k + 1) <| aP h12 <| aP h13 <| aZ)
  ho
theorem frzLp {i : Nat} {ds : List DT} : ∀ l : List AC, All2 (FrzC i ds) l l
 | [] => trivial
 | _ :: l => ⟨.inl rfl, frzLp l⟩
theorem frzEp {i : Nat} {ds : List DT} : ∀ x : AE, FrzE i ds x x
 | .one _ => .inl rfl
 | .agg l => frzLp l
theorem frzELp {i : Nat} {ds : List DT} : ∀ l : List AE, All2 (FrzE i ds) l l
 | [] => trivial
 | x :: l => ⟨frzEp x, frzELp l⟩
theorem frzTmp {i : Nat} {ds : List DT} : ∀ tm : Tm, All2 (FrzV i ds) tm tm
 | [] => trivial
 | .e x :: l => ⟨frzEp x, frzTmp l⟩
 | .tup x :: l => ⟨frzELp x, frzTmp l⟩
theorem frz0p {i : Nat} {ds : List DT} {r r' : List AC} (h : All2 (FrzC i ds) r r') : All2 (FrzC i ds) r r' := h
theorem frzAppp {i : Nat} {ds : List DT} {r r' : List AC} (h : All2 (FrzC i ds) r r') : ∀ {A : List AC}, All2 (FrzC i ds) (A ++ r) (A ++ r')
 | [] => h
 | _ :: l => ⟨.inl rfl, frzAppp h (A := l)⟩
abbrev gsC (l : List Gs) : List AC := (gD l).map DT.ac
abbrev nC (l : List Nd) : List AC := (ndD l).map DT.ac
abbrev lC (l : List Ld) : List AC := (ldD l).map DT.ac
theorem gsC_one (l : List Gs) : ∀ c ∈ gsC l, ∃ z, c = .v (.int .i64 z) := by
 intro c hc
 obtain ⟨d, hd, rfl⟩ := List.mem_map.1 hc
 obtain ⟨x, _, hx⟩ := List.mem_flatMap.1 hd
 simp only [gsd, List.mem_cons, List.not_mem_nil, or_false] at hx
 rcases hx with rfl | rfl <;> exact ⟨_, rfl⟩
theorem cpGs (l : List Gs) (hm : l.length ≤ 100000) (h : Heap) : CopyOk h 2 16 (dG l) l.length (gsC l) (decide (l.length = 0)) := by
 by_cases h0 : l.length = 0
 ·obtain rfl := List.length_eq_zero_iff.1 h0
  exact .inl ⟨rfl, rfl, rfl, _, _, rfl⟩
 ·rw [decide_eq_false h0]
  exact .inr (.inl ⟨rfl, by omega, by simp [small]; omega, List.all_eq_true.2 fun c hc => (by obtain ⟨v, rfl⟩ := gsC_one l c hc; rfl), gD l, rfl, rfl, gD_len l⟩)
theorem flat_gsC (l : List Gs) : FlatC (gsC l) := fun c hc => by obtain ⟨v, rfl⟩ := gsC_one l c hc; rfl
theorem flat_nC (l : List Nd) : FlatC (nC l) := fun c hc => by
 obtain ⟨d, hd, rfl⟩ := List.mem_map.1 hc
 obtain ⟨x, _, hx⟩ := List.mem_flatMap.1 hd
 simp only [Nd.d, List.mem_cons, List.not_mem_nil, or_false] at hx
 rcases hx with rfl | rfl | rfl | rfl <;> rfl
theorem flat_lC (l : List Ld) : FlatC (lC l) := fun c hc => by
 obtain ⟨d, hd, rfl⟩ := List.mem_map.1 hc
 obtain ⟨x, _, hx⟩ := List.mem_flatMap.1 hd
 simp only [Ld.d, List.mem_cons, List.not_mem_nil, or_false] at hx
 rcases hx with rfl | rfl | rfl <;> rfl
theorem nCsn (A : List Nd) (x : Nd) : nC (A ++ [x]) = nC A ++ [.v (.string x.s), .v (.int .i64 x.u), .v (.int .i64 x.p), .dp (.s (gD x.f) x.f.length 2)] := by
 show (ndD (A ++ [x])).map DT.ac = _
 unfold ndD
 rw [List.flatMap_append, List.map_append]
 rfl
theorem lCsn (A : List Ld) (x : Ld) : lC (A ++ [x]) = lC A ++ [.v (.int .i64 x.k), .v (.string x.s), .dp (.s (gD x.f) x.f.length 2)] := by
 show (ldD (A ++ [x])).map DT.ac = _
 unfold ldD
 rw [List.flatMap_append, List.map_append]
 rfl
theorem ndD_len (l : List Nd) : (ndD l).length = l.length * 4 := rows_len Nd.len l
theorem ldD_len (l : List Ld) : (ldD l).length = l.length * 3 := rows_len Ld.len l
theorem sn13 {Φ : Res → Prop} (hE : EnvOk E) (c : Int) (g : List Gs) (N : List Nd) (L : List Ld) {x : Nd} (hx : N[0]? = some x) (hq : x.f.length ≤ 100000) (cont : ∀ j, OutK E 0 0 (tr13o (gD g) (ndD N) (ldD L) g.length N.length L.length ((0 + 1)) 1 c ([.v (.string x.s), .v (.int .i64 x.u), .v (.int .i64 x.p), .dp (.s (gD x.f) x.f.length 2)]) j) Φ) : ∀ j, OutK E 0 0 (tr13n (gD g) (ndD N) (ldD L) g.length N.length L.length 0 c j) Φ := fun j => by
 have hi := (List.getElem?_eq_some_iff.1 hx).1
 exact pr13sn hE (gD g) (ndD N) (ldD L) (gD x.f) g.length N.length L.length x.f.length 0 c x.u x.p x.s (decide (x.f.length = 0)) (gsC x.f) dT bP rfl (nd_get hx) (cpGs x.f hq _) oB wQ (fun j => outK_freeze 5 (ds := gD x.f) (N := x.f.length * 2) (el := 47) (fl := decide (x.f.length = 0)) (h' := [bK [(.v (.int .i64 c)), (.dp (.s ((gD g)) (g.length) 2)), (.dp (.s ((ndD N)) (N.length) 4)), (.dp (.s ((ldD L)) (L.length) 3))] 4 26, bK zzQ 4 37, bK [(.v (.int .i64 c)), (.dp (.s ((gD g)) (g.length) 2)), (.slc 7 0 1 4 1 false), (.v (.slice none 0 0))] 4 37, bK [(.v (.string (x.s))), (.v (.int .i64 (x.u))), (.v (.int .i64 (x.p))), (.dp (.s ((gD x.f)) (x.f.length) 2))] 4 97, none, none, bK [.v (.string x.s), .v (.int .i64 x.u), .v (.int .i64 x.p), .dp (.s (gD x.f) x.f.length 2)] 4 131, some ⟨[.v (.string x.s), .v (.int .i64 x.u), .v (.int .i64 x.p), .dp (.s (gD x.f) x.f.length 2)], 4, 131, false, .cells⟩]) (tm' := (pr13sn_end (gD g) (ndD N) (ldD L) (gD x.f) g.length N.length L.length x.f.length 0 c x.u x.p x.s (decide (x.f.length = 0)) (gsC x.f) j).tm) rfl (Nat.zero_le _) ⟨.inl rfl, .inl rfl, .inl rfl, .inl rfl, trivial, trivial, .inr ⟨rfl, rfl, rfl, rfl, rfl, frz0p ⟨.inl rfl, .inl rfl, .inl rfl, frzAll (b := 5) (gD x.f) x.f.length 2 x.f.length _ (gD_len _), trivial⟩⟩, .inr ⟨rfl, rfl, rfl, rfl, rfl, frz0p (i := 5) (ds := gD x.f) (r := [.v (.string x.s), .v (.int .i64 x.u), .v (.int .i64 x.p), .slc 5 0 x.f.length 2 x.f.length (decide (x.f.length = 0))]) (r' := [.v (.string x.s), .v (.int .i64 x.u), .v (.int .i64 x.p), .dp (.s (gD x.f) x.f.length 2)]) ⟨.inl rfl, .inl rfl, .inl rfl, frzAll (b := 5) (gD x.f) x.f.length 2 x.f.length _ (gD_len _), trivial⟩⟩, trivial⟩ (frzTmp _) (outK_gcF [0, 1, 2, 7] [false, false, false, false] (h' := (tr13o (gD g) (ndD N) (ldD L) g.length N.length L.length ((0 + 1)) 1 c ([.v (.string x.s), .v (.int .i64 x.u), .v (.int .i64 x.p), .dp (.s (gD x.f) x.f.length 2)]) j).heap) (tm' := (tr13o (gD g) (ndD N) (ldD L) g.length N.length L.length ((0 + 1)) 1 c ([.v (.string x.s), .v (.int .i64 x.u), .v (.int .i64 x.p), .dp (.s (gD x.f) x.f.length 2)]) j).tm) (Nat.zero_le _) (by kernel_rfl) (by kernel_rfl) trivial (by kernel_rfl) (cont j))) j
theorem so13 {Φ : Res → Prop} (hE : EnvOk E) (c : Int) (g : List Gs) (N : List Nd) (L : List Ld) {i : Nat} {x : Nd} (hx : N[i]? = some x) (hi2 : i ≤ 100000) (hq : x.f.length ≤ 100000) (cont : ∀ j, OutK E 0 0 (tr13o (gD g) (ndD N) (ldD L) g.length N.length L.length ((i + 1)) ((i + 1)) c (nC (N.take i) ++ [.v (.string x.s), .v (.int .i64 x.u), .v (.int .i64 x.p), .dp (.s (gD x.f) x.f.length 2)]) j) Φ) : ∀ j, OutK E 0 0 (tr13o (gD g) (ndD N) (ldD L) g.length N.length L.length i i c (nC (N.take i)) j) Φ := fun j => by
 have hi := (List.getElem?_eq_some_iff.1 hx).1
 exact pr13so hE (gD g) (ndD N) (ldD L) (gD x.f) g.length N.length L.length x.f.length i i c x.u x.p x.s (decide (x.f.length = 0)) (gsC x.f) (nC (N.take i)) (nC (N.take i) ++ [.v (.string x.s), .v (.int .i64 x.u), .v (.int .i64 x.p), .slc 6 0 x.f.length 2 x.f.length (decide (x.f.length = 0))]) dT bP rfl (nd_get hx) (cpGs x.f hq _) oB oB sQ oB (appL_eq _ _) oB wQ (fun j => outK_freeze 6 (ds := gD x.f) (N := x.f.length * 2) (el := 47) (fl := decide (x.f.length = 0)) (h' := [bK [(.v (.int .i64 c)), (.dp (.s ((gD g)) (g.length) 2)), (.dp (.s ((ndD N)) (N.length) 4)), (.dp (.s ((ldD L)) (L.length) 3))] 4 26, bK zzQ 4 37, bK [(.v (.int .i64 c)), (.dp (.s ((gD g)) (g.length) 2)), (.slc 8 0 (i + 1) 4 (i + 1) false), (.v (.slice none 0 0))] 4 37, none, bK [(.v (.string (x.s))), (.v (.int .i64 (x.u))), (.v (.int .i64 (x.p))), (.dp (.s ((gD x.f)) (x.f.length) 2))] 4 97, none, none, bK [.v (.string x.s), .v (.int .i64 x.u), .v (.int .i64 x.p), .dp (.s (gD x.f) x.f.length 2)] 4 131, some ⟨nC (N.take i) ++ [.v (.string x.s), .v (.int .i64 x.u), .v (.int .i64 x.p), .dp (.s (gD x.f) x.f.length 2)], (i + 1) * 4, 131, false, .cells⟩]) (tm' := (pr13so_end (gD g) (ndD N) (ldD L) (gD x.f) g.length N.length L.length x.f.length i i c x.u x.p x.s (decide (x.f.length = 0)) (gsC x.f) (nC (N.take i) ++ [.v (.string x.s), .v (.int .i64 x.u), .v (.int .i64 x.p), .slc 6 0 x.f.length 2 x.f.length (decide (x.f.length = 0))]) j).tm) rfl (Nat.zero_le _) ⟨.inl rfl, .inl rfl, .inl rfl, trivial, .inl rfl, trivial, trivial, .inr ⟨rfl, rfl, rfl, rfl, rfl, frz0p ⟨.inl rfl, .inl rfl, .inl rfl, frzAll (b := 6) (gD x.f) x.f.length 2 x.f.length _ (gD_len _), trivial⟩⟩, .inr ⟨rfl, rfl, rfl, rfl, rfl, frzAppp (i := 6) (ds := gD x.f) (r := [.v (.string x.s), .v (.int .i64 x.u), .v (.int .i64 x.p), .slc 6 0 x.f.length 2 x.f.length (decide (x.f.length = 0))]) (r' := [.v (.string x.s), .v (.int .i64 x.u), .v (.int .i64 x.p), .dp (.s (gD x.f) x.f.length 2)]) ⟨.inl rfl, .inl rfl, .inl rfl, frzAll (b := 6) (gD x.f) x.f.length 2 x.f.length _ (gD_len _), trivial⟩⟩, trivial⟩ (frzTmp _) (outK_gcF [0, 1, 2, 8] [false, false, false, true] (h' := (tr13o (gD g) (ndD N) (ldD L) g.length N.length L.length ((i + 1)) ((i + 1)) c (nC (N.take i) ++ [.v (.string x.s), .v (.int .i64 x.u), .v (.int .i64 x.p), .dp (.s (gD x.f) x.f.length 2)]) j).heap) (tm' := (tr13o (gD g) (ndD N) (ldD L) g.length N.length L.length ((i + 1)) ((i + 1)) c (nC (N.take i) ++ [.v (.string x.s), .v (.int .i64 x.u), .v (.int .i64 x.p), .dp (.s (gD x.f) x.f.length 2)]) j).tm) (Nat.zero_le _) (by kernel_rfl) (by kernel_rfl) ⟨by rw [← nCsn]; exact flat_nC _, trivial⟩ (by kernel_rfl) (cont j))) j
theorem sd13 {Φ : Res → Prop} (hE : EnvOk E) (c : Int) (g : List Gs) (N : List Nd) (L : List Ld) {x : Ld} (hx : L[0]? = some x) (hq : x.f.length ≤ 100000) (cont : ∀ j, OutK E 0 0 (tr13e (gD g) (ndD N) (ldD L) g.length N.length L.length ((0 + 1)) 1 c ([.v (.int .i64 x.k), .v (.string x.s), .dp (.s (gD x.f) x.f.length 2)]) j) Φ) : ∀ j, OutK E 0 0 (tr13d (gD g) (ndD N) (ldD L) g.length N.length L.length 0 c j) Φ := fun j => by
 have hi := (List.getElem?_eq_some_iff.1 hx).1
 exact pr13sd hE (gD g) (ndD N) (ldD L) (gD x.f) g.length N.length L.length x.f.length 0 c x.k x.s (decide (x.f.length = 0)) (gsC x.f) dT bP rfl (ld_get hx) (cpGs x.f hq _) oB wQ (fun j => outK_freeze 4 (ds := gD x.f) (N := x.f.length * 2) (el := 47) (fl := decide (x.f.length = 0)) (h' := [bK zzQ 4 37, bK [(.v (.int .i64 c)), (.dp (.s ((gD g)) (g.length) 2)), (.dp (.s ((ndD N)) (N.length) 4)), (.slc 6 0 1 3 1 false)] 4 37, bK [(.v (.int .i64 (x.k))), (.v (.string (x.s))), (.dp (.s ((gD x.f)) (x.f.length) 2))] 3 99, none, none, bK [.v (.int .i64 x.k), .v (.string x.s), .dp (.s (gD x.f) x.f.length 2)] 3 132, some ⟨[.v (.int .i64 x.k), .v (.string x.s), .dp (.s (gD x.f) x.f.length 2)], 3, 132, false, .cells⟩]) (tm' := (pr13sd_end (gD g) (ndD N) (ldD L) (gD x.f) g.length N.length L.length x.f.length 0 c x.k x.s (decide (x.f.length = 0)) (gsC x.f) j).tm) rfl (Nat.zero_le _) ⟨.inl rfl, .inl rfl, .inl rfl, trivial, trivial, .inr ⟨rfl, rfl, rfl, rfl, rfl, frz0p ⟨.inl rfl, .inl rfl, frzAll (b := 4) (gD x.f) x.f.length 2 x.f.length _ (gD_len _), trivial⟩⟩, .inr ⟨rfl, rfl, rfl, rfl, rfl, frz0p (i := 4) (ds := gD x.f) (r := [.v (.int .i64 x.k), .v (.string x.s), .slc 4 0 x.f.length 2 x.f.length (decide (x.f.length = 0))]) (r' := [.v (.int .i64 x.k), .v (.string x.s), .dp (.s (gD x.f) x.f.length 2)]) ⟨.inl rfl, .inl rfl, frzAll (b := 4) (gD x.f) x.f.length 2 x.f.length _ (gD_len _), trivial⟩⟩, trivial⟩ (frzTmp _) (outK_gcF [0, 1, 6] [false, false, false] (h' := (tr13e (gD g) (ndD N) (ldD L) g.length N.length L.length ((0 + 1)) 1 c ([.v (.int .i64 x.k), .v (.string x.s), .dp (.s (gD x.f) x.f.length 2)]) j).heap) (tm' := (tr13e (gD g) (ndD N) (ldD L) g.length N.length L.length ((0 + 1)) 1 c ([.v (.int .i64 x.k), .v (.string x.s), .dp (.s (gD x.f) x.f.length 2)]) j).tm) (Nat.zero_le _) (by kernel_rfl) (by kernel_rfl) trivial (by kernel_rfl) (cont j))) j
theorem se13 {Φ : Res → Prop} (hE : EnvOk E) (c : Int) (g : List Gs) (N : List Nd) (L : List Ld) {i : Nat} {x : Ld} (hx : L[i]? = some x) (hi2 : i ≤ 100000) (hq : x.f.length ≤ 100000) (cont : ∀ j, OutK E 0 0 (tr13e (gD g) (ndD N) (ldD L) g.length N.length L.length ((i + 1)) ((i + 1)) c (lC (L.take i) ++ [.v (.int .i64 x.k), .v (.string x.s), .dp (.s (gD x.f) x.f.length 2)]) j) Φ) : ∀ j, OutK E 0 0 (tr13e (gD g) (ndD N) (ldD L) g.length N.length L.length i i c (lC (L.take i)) j) Φ := fun j => by
 have hi := (List.getElem?_eq_some_iff.1 hx).1
 exact pr13se hE (gD g) (ndD N) (ldD L) (gD x.f) g.length N.length L.length x.f.length i i c x.k x.s (decide (x.f.length = 0)) (gsC x.f) (lC (L.take i)) (lC (L.take i) ++ [.v (.int .i64 x.k), .v (.string x.s), .slc 5 0 x.f.length 2 x.f.length (decide (x.f.length = 0))]) dT bP rfl (ld_get hx) (cpGs x.f hq _) oB oB sQ oB (appL_eq _ _) oB wQ (fun j => outK_freeze 5 (ds := gD x.f) (N := x.f.length * 2) (el := 47) (fl := decide (x.f.length = 0)) (h' := [bK zzQ 4 37, bK [(.v (.int .i64 c)), (.dp (.s ((gD g)) (g.length) 2)), (.dp (.s ((ndD N)) (N.length) 4)), (.slc 7 0 (i + 1) 3 (i + 1) false)] 4 37, none, bK [(.v (.int .i64 (x.k))), (.v (.string (x.s))), (.dp (.s ((gD x.f)) (x.f.length) 2))] 3 99, none, none, bK [.v (.int .i64 x.k), .v (.string x.s), .dp (.s (gD x.f) x.f.length 2)] 3 132, some ⟨lC (L.take i) ++ [.v (.int .i64 x.k), .v (.string x.s), .dp (.s (gD x.f) x.f.length 2)], (i + 1) * 3, 132, false, .cells⟩]) (tm' := (pr13se_end (gD g) (ndD N) (ldD L) (gD x.f) g.length N.length L.length x.f.length i i c x.k x.s (decide (x.f.length = 0)) (gsC x.f) (lC (L.take i) ++ [.v (.int .i64 x.k), .v (.string x.s), .slc 5 0 x.f.length 2 x.f.length (decide (x.f.length = 0))]) j).tm) rfl (Nat.zero_le _) ⟨.inl rfl, .inl rfl, trivial, .inl rfl, trivial, trivial, .inr ⟨rfl, rfl, rfl, rfl, rfl, frz0p ⟨.inl rfl, .inl rfl, frzAll (b := 5) (gD x.f) x.f.length 2 x.f.length _ (gD_len _), trivial⟩⟩, .inr ⟨rfl, rfl, rfl, rfl, rfl, frzAppp (i := 5) (ds := gD x.f) (r := [.v (.int .i64 x.k), .v (.string x.s), .slc 5 0 x.f.length 2 x.f.length (decide (x.f.length = 0))]) (r' := [.v (.int .i64 x.k), .v (.string x.s), .dp (.s (gD x.f) x.f.length 2)]) ⟨.inl rfl, .inl rfl, frzAll (b := 5) (gD x.f) x.f.length 2 x.f.length _ (gD_len _), trivial⟩⟩, trivial⟩ (frzTmp _) (outK_gcF [0, 1, 7] [false, false, true] (h' := (tr13e (gD g) (ndD N) (ldD L) g.length N.length L.length ((i + 1)) ((i + 1)) c (lC (L.take i) ++ [.v (.int .i64 x.k), .v (.string x.s), .dp (.s (gD x.f) x.f.length 2)]) j).heap) (tm' := (tr13e (gD g) (ndD N) (ldD L) g.length N.length L.length ((i + 1)) ((i + 1)) c (lC (L.take i) ++ [.v (.int .i64 x.k), .v (.string x.s), .dp (.s (gD x.f) x.f.length 2)]) j).tm) (Nat.zero_le _) (by kernel_rfl) (by kernel_rfl) ⟨by rw [← lCsn]; exact flat_lC _, trivial⟩ (by kernel_rfl) (cont j))) j
theorem en13 {Φ : Res → Prop} (_hE : EnvOk E) (c : Int) (g : List Gs) (N : List Nd) (L : List Ld) (cont : ∀ j, OutK E 0 0 (tr13p (gD g) (ndD N) (ldD L) g.length N.length L.length N.length c j) Φ) : ∀ j, OutK E 0 0 (tr13o (gD g) (ndD N) (ldD L) g.length N.length L.length N.length N.length c (nC N) j) Φ := fun j =>
 outK_freeze 3 (ds := ndD N) (N := N.length * 4) (el := 131) (fl := false) (h' := [bK [.v (.int .i64 c), .dp (.s (gD g) g.length 2), .dp (.s (ndD N) N.length 4), .dp (.s (ldD L) L.length 3)] 4 26, bK [.v (.int .i64 0), .v (.slice none 0 0), .v (.slice none 0 0), .v (.slice none 0 0)] 4 37, bK [.v (.int .i64 c), .dp (.s (gD g) g.length 2), .dp (.s (ndD N) N.length 4), .v (.slice none 0 0)] 4 37, none]) (tm' := (tr13o (gD g) (ndD N) (ldD L) g.length N.length L.length N.length N.length c (nC N) j).tm) rfl (Nat.zero_le _) ⟨.inl rfl, .inl rfl, .inr ⟨rfl, rfl, rfl, rfl, rfl, .inl rfl, .inl rfl, frzAll (b := 3) (ndD N) N.length 4 N.length false (ndD_len _), .inl rfl, trivial⟩, trivial, trivial⟩ (frzTmp _) (outK_gcF [0, 1, 2] [false, false, false] (h' := (tr13p (gD g) (ndD N) (ldD L) g.length N.length L.length N.length c j).heap) (tm' := (tr13p (gD g) (ndD N) (ldD L) g.length N.length L.length N.length c j).tm) (Nat.zero_le _) (by kernel_rfl) (by kernel_rfl) trivial (by kernel_rfl) (cont j))
theorem ln13 {Φ : Res → Prop} (hE : EnvOk E) (c : Int) (g : List Gs) (N : List Nd) (L : List Ld) (hm : N.length ≤ 100000) (hf : ∀ x ∈ N, x.f.length ≤ 100000) (cont : ∀ j, OutK E 0 0 (tr13p (gD g) (ndD N) (ldD L) g.length N.length L.length N.length c j) Φ) : ∀ m i, m + i = N.length → ∀ j, OutK E 0 0 (tr13o (gD g) (ndD N) (ldD L) g.length N.length L.length i i c (nC (N.take i)) j) Φ
 | 0, i, hk => by
  obtain rfl : i = N.length := by omega
  rw [List.take_length]
  exact en13 hE c g N L cont
 | m + 1, i, hk => by
  have hi : i < N.length := by omega
  have hx := List.getElem?_eq_getElem hi
  have hq := hf N[i] (List.getElem_mem hi)
  have ih := ln13 hE c g N L hm hf cont m (i + 1) (by omega)
  rw [List.take_add_one, hx] at ih
  generalize N[i] = x at hx hq ih
  rw [show nC (N.take i ++ (some x).toList) = _ from nCsn _ x] at ih
  exact so13 hE c g N L hx (by omega) hq ih
theorem an13 {Φ : Res → Prop} (hE : EnvOk E) (c : Int) (g : List Gs) (N : List Nd) (L : List Ld) (hm : N.length ≤ 100000) (hf : ∀ x ∈ N, x.f.length ≤ 100000) (cont : ∀ j, OutK E 0 0 (tr13p (gD g) (ndD N) (ldD L) g.length N.length L.length N.length c j) Φ) : ∀ j, OutK E 0 0 (tr13n (gD g) (ndD N) (ldD L) g.length N.length L.length 0 c j) Φ := by
 by_cases h0 : N.length = 0
 ·obtain rfl := List.length_eq_zero_iff.1 h0
  intro j
  exact outK_wks (h' := (tr13p (gD g) (ndD ([] : List Nd)) (ldD L) g.length (([] : List Nd).length) L.length 0 c j).heap) ⟨⟨rfl, rfl, rfl, rfl, fun h => h, wkS_r _, wkS_r _, wkS_r _, wkS_r _, trivial⟩, ⟨rfl, rfl, rfl, rfl, fun h => h, wkS_r _, wkS_r _, wkS_r _, wkS_r _, trivial⟩, ⟨rfl, rfl, rfl, rfl, fun h => h, wkS_r _, wkS_r _, wkS_n 4, wkS_r _, trivial⟩, trivial⟩ (cont j)
 ·have hi : 0 < N.length := by omega
  have hx := List.getElem?_eq_getElem hi
  have hq := hf N[0] (List.getElem_mem hi)
  have ih := ln13 hE c g N L hm hf cont (N.length - 1) 1 (by omega)
  rw [show N.take 1 = [] ++ [N[0]] by rw [List.take_add_one, hx]; rfl] at ih
  generalize N[0] = x at hx hq ih
  rw [nCsn] at ih
  exact sn13 hE c g N L hx hq ih
theorem ed13 {Φ : Res → Prop} (_hE : EnvOk E) (c : Int) (g : List Gs) (N : List Nd) (L : List Ld) (cont : ∀ j, OutK E 0 0 (tr13f (gD g) (ndD N) (ldD L) g.length N.length L.length L.length c j) Φ) : ∀ j, OutK E 0 0 (tr13e (gD g) (ndD N) (ldD L) g.length N.length L.length L.length L.length c (lC L) j) Φ := fun j =>
 outK_freeze 2 (ds := ldD L) (N := L.length * 3) (el := 132) (fl := false) (h' := [bK [.v (.int .i64 0), .v (.slice none 0 0), .v (.slice none 0 0), .v (.slice none 0 0)] 4 37, bK [.v (.int .i64 c), .dp (.s (gD g) g.length 2), .dp (.s (ndD N) N.length 4), .dp (.s (ldD L) L.length 3)] 4 37, none]) (tm' := (tr13e (gD g) (ndD N) (ldD L) g.length N.length L.length L.length L.length c (lC L) j).tm) rfl (Nat.zero_le _) ⟨.inl rfl, .inr ⟨rfl, rfl, rfl, rfl, rfl, .inl rfl, .inl rfl, .inl rfl, frzAll (b := 2) (ldD L) L.length 3 L.length false (ldD_len _), trivial⟩, trivial, trivial⟩ (frzTmp _) (outK_gcF [0, 1] [false, false] (h' := (tr13f (gD g) (ndD N) (ldD L) g.length N.length L.length L.length c j).heap) (tm' := (tr13f (gD g) (ndD N) (ldD L) g.length N.length L.length L.length c j).tm) (Nat.zero_le _) (by kernel_rfl) (by kernel_rfl) trivial (by kernel_rfl) (cont j))
theorem ld13 {Φ : Res → Prop} (hE : EnvOk E) (c : Int) (g : List Gs) (N : List Nd) (L : List Ld) (hm : L.length ≤ 100000) (hf : ∀ x ∈ L, x.f.length ≤ 100000) (cont : ∀ j, OutK E 0 0 (tr13f (gD g) (ndD N) (ldD L) g.length N.length L.length L.length c j) Φ) : ∀ m i, m + i = L.length → ∀ j, OutK E 0 0 (tr13e (gD g) (ndD N) (ldD L) g.length N.length L.length i i c (lC (L.take i)) j) Φ
 | 0, i, hk => by
  obtain rfl : i = L.length := by omega
  rw [List.take_length]
  exact ed13 hE c g N L cont
 | m + 1, i, hk => by
  have hi : i < L.length := by omega
  have hx := List.getElem?_eq_getElem hi
  have hq := hf L[i] (List.getElem_mem hi)
  have ih := ld13 hE c g N L hm hf cont m (i + 1) (by omega)
  rw [List.take_add_one, hx] at ih
  generalize L[i] = x at hx hq ih
  rw [show lC (L.take i ++ (some x).toList) = _ from lCsn _ x] at ih
  exact se13 hE c g N L hx (by omega) hq ih
theorem ad13 {Φ : Res → Prop} (hE : EnvOk E) (c : Int) (g : List Gs) (N : List Nd) (L : List Ld) (hm : L.length ≤ 100000) (hf : ∀ x ∈ L, x.f.length ≤ 100000) (cont : ∀ j, OutK E 0 0 (tr13f (gD g) (ndD N) (ldD L) g.length N.length L.length L.length c j) Φ) : ∀ j, OutK E 0 0 (tr13d (gD g) (ndD N) (ldD L) g.length N.length L.length 0 c j) Φ := by
 by_cases h0 : L.length = 0
 ·obtain rfl := List.length_eq_zero_iff.1 h0
  intro j
  exact outK_wks (h' := (tr13f (gD g) (ndD N) (ldD ([] : List Ld)) g.length N.length (([] : List Ld).length) 0 c j).heap) ⟨⟨rfl, rfl, rfl, rfl, fun h => h, wkS_r _, wkS_r _, wkS_r _, wkS_r _, trivial⟩, ⟨rfl, rfl, rfl, rfl, fun h => h, wkS_r _, wkS_r _, wkS_r _, wkS_n 3, trivial⟩, trivial⟩ (cont j)
 ·have hi : 0 < L.length := by omega
  have hx := List.getElem?_eq_getElem hi
  have hq := hf L[0] (List.getElem_mem hi)
  have ih := ld13 hE c g N L hm hf cont (L.length - 1) 1 (by omega)
  rw [show L.take 1 = [] ++ [L[0]] by rw [List.take_add_one, hx]; rfl] at ih
  generalize L[0] = x at hx hq ih
  rw [lCsn] at ih
  exact sd13 hE c g N L hx hq ih
theorem K13m (hE : EnvOk E) (c : Int) (g : List Gs) (N : List Nd) (L : List Ld) (hg : g.length ≤ 100000) (hN : N.length ≤ 100000) (hL : L.length ≤ 100000) (hf : ∀ x ∈ N, x.f.length ≤ 100000) (hl : ∀ x ∈ L, x.f.length ≤ 100000) : COut E 0 [] 13 [aM c g N L] (aM c g N L) [] := by
 have s3 : ∀ j, OutK E 0 0 (sr13c (gD g) (ndD N) (ldD L) g.length N.length L.length c j) (Go.Ev.Ends E Tryz.f13 (aM c g N L) [bK (mnC c g N L) 4 37]) := fun j =>
  pr13c hE (gD g) (ndD N) (ldD L) g.length N.length L.length c (an13 hE c g N L hN hf fun j => pr13xp hE (gD g) (ndD N) (ldD L) g.length N.length L.length N.length c dF (ad13 hE c g N L hL hl fun j => pr13xf hE (gD g) (ndD N) (ldD L) g.length N.length L.length L.length c dF (fun j => outK_ret (ends_ret (by kernel_rfl))) j) j) j
 suffices hc : COut E 0 [] 13 [aM c g N L] (aM c g N L) [bK (mnC c g N L) 4 37] from cOut_clear hc rfl
 refine cOut_start Tryz.func13 rfl (pr13a hE (gD g) (ndD N) (ldD L) g.length N.length L.length c (fun j => ?_) uD)
 refine pr13b hE (gD g) (ndD N) (ldD L) g.length N.length L.length c (decide (g.length = 0)) (gsC g) (cpGs g hg _) oB (flat_gsC _) (cpGs g hg _) (cpGs g hg _) (fun j => ?_) j
 exact outK_freeze 3 (ds := gD g) (N := g.length * 2) (el := 47) (fl := decide (g.length = 0)) (h' := [bK [.v (.int .i64 c), .dp (.s (gD g) g.length 2), .dp (.s (ndD N) N.length 4), .dp (.s (ldD L) L.length 3)] 4 26, bK [.v (.int .i64 0), .v (.slice none 0 0), .v (.slice none 0 0), .v (.slice none 0 0)] 4 37, bK [.v (.int .i64 c), .dp (.s (gD g) g.length 2), .v (.slice none 0 0), .v (.slice none 0 0)] 4 37, none]) (tm' := (pr13b_end (gD g) (ndD N) (ldD L) g.length N.length L.length c (decide (g.length = 0)) (gsC g) j).tm) rfl (Nat.zero_le _) ⟨.inl rfl, .inl rfl, .inr ⟨rfl, rfl, rfl, rfl, rfl, .inl rfl, frzAll (b := 3) (gD g) g.length 2 g.length _ (gD_len _), .inl rfl, .inl rfl, trivial⟩, trivial, trivial⟩ (frzTmp _) (outK_gcF [0, 1, 2] [false, false, false] (h' := (sr13c (gD g) (ndD N) (ldD L) g.length N.length L.length c j).heap) (tm' := (sr13c (gD g) (ndD N) (ldD L) g.length N.length L.length c j).tm) (Nat.zero_le _) (by kernel_rfl) (by kernel_rfl) trivial (by kernel_rfl) (s3 j))
end
end Go.Proofs.YtigdchbjmnbjlaaGreatDoor
end
section
open Go Go.Ev
namespace Go.Proofs.YtigdchbjmnbjlaaGreatDoor
noncomputable section
def shortS (L M : List (List Int)) : Prop := (∀ r ∈ M, r.length ≤ 9) ∧ (L.length ≤ 24 ∨ L.length = 1025)
instance (L M : List (List Int)) : Decidable (shortS L M) := by unfold shortS; infer_instance
end
end Go.Proofs.YtigdchbjmnbjlaaGreatDoor
end
section
open Go Go.Ev Go.Proofs
namespace Go.Proofs.YtigdchbjmnbjlaaGreatDoor
end Go.Proofs.YtigdchbjmnbjlaaGreatDoor
end
section
open Go Go.Ev
namespace Go.Proofs.YtigdchbjmnbjlaaGreatDoor
noncomputable section
end
end Go.Proofs.YtigdchbjmnbjlaaGreatDoor
end
section
open Go Go.Ev
namespace Go.Proofs.YtigdchbjmnbjlaaGreatDoor
noncomputable section
end
end Go.Proofs.YtigdchbjmnbjlaaGreatDoor
end
section
end
section
open Go Go.Ev
namespace Go.Proofs.YtigdchbjmnbjlaaGreatDoor
noncomputable section
theorem xo {P : Program} {op : BinOp} {t : TypeId} {x z : Operand} {a b c : Int} (h : ∀ w : World, (do eqGuard op t x z (.int .i64 a) (.int .i64 b); binOp op t (.int .i64 a) (.int .i64 b) : Sem Value).run P w = .ok (.int .i64 c) w) : BinOk P op t x z (.v (.int .i64 a)) (.v (.int .i64 b)) (.v (.int .i64 c)) := by
 intro m p q w hp hq
 obtain rfl : p = .int .i64 a := hp
 obtain rfl : q = .int .i64 b := hq
 exact ⟨_, w.drawn, h w, rfl⟩
end
end Go.Proofs.YtigdchbjmnbjlaaGreatDoor
end
section
open Go Go.Ev
namespace Go.Proofs.YtigdchbjmnbjlaaGreatDoor
noncomputable section
end
end Go.Proofs.YtigdchbjmnbjlaaGreatDoor
end
section
open Go Go.Ev
namespace Go.Proofs.YtigdchbjmnbjlaaGreatDoor
noncomputable section
def tab {α : Type} (f : Nat → α) : Nat → List α
 | 0 => []
 | n + 1 => tab f n ++ [f n]
structure PartOk (sg : List Int) (ns : List (List Int)) (mg : Int) (p : Nat) (r : List Int) : Prop where
 row : ns[p]? = some r
 len : r.length = sg.length
 mgb : 1 ≤ mg ∧ mg ≤ 100
 rb : ∀ x ∈ r, 1 ≤ x ∧ x ≤ 1000000
 sb : ∀ z ∈ sg, 0 ≤ z ∧ z ≤ 1000000000
 many : 0 < sg.length ∧ sg.length ≤ 8
end
end Go.Proofs.YtigdchbjmnbjlaaGreatDoor
end
section
open Go Go.Ev
namespace Go.Proofs.YtigdchbjmnbjlaaGreatDoor
noncomputable section
structure TonesOk (sg : List Int) (ns : List (List Int)) (mg ms : Int) (nt : List Int) : Prop where
 parts : ∀ p r, ns[p]? = some r → PartOk sg ns mg p r
 some : 0 < ns.length ∧ ns.length ≤ 8
end
end Go.Proofs.YtigdchbjmnbjlaaGreatDoor
end
section
open Go Go.Ev
namespace Go.Proofs.YtigdchbjmnbjlaaGreatDoor
noncomputable section
def mx (a e : Int) : Int := if e > a then e else a
end
end Go.Proofs.YtigdchbjmnbjlaaGreatDoor
end
section
open Go Go.Ev
namespace Go.Proofs.YtigdchbjmnbjlaaGreatDoor
namespace Best
def cmpL : List Int → List Int → Int
 | [], [] => 0
 | [], _ :: _ => -1
 | _ :: _, [] => 1
 | a :: l, b :: r => if a < b then -1 else if b < a then 1 else cmpL l r
def ltL (a b : List Int) : Prop := cmpL a b < 0
theorem cmp_eq : ∀ {l r : List Int}, cmpL l r = 0 → l = r
 | [], [], _ => rfl
 | [], _ :: _, h => by simp [cmpL] at h
 | _ :: _, [], h => by simp [cmpL] at h
 | a :: l, b :: r, h => by
  unfold cmpL at h
  by_cases h1 : a < b
  ·rw [if_pos h1] at h; omega
  ·rw [if_neg h1] at h
   by_cases h2 : b < a
   ·rw [if_pos h2] at h; omega
   ·rw [if_neg h2] at h
    rw [cmp_eq h, show a = b by omega]
theorem lt_trans : ∀ {a b c : List Int}, ltL a b → ltL b c → ltL a c
 | [], [], c, h, _ => by simp [ltL, cmpL] at h
 | [], _ :: _, [], _, h => by simp [ltL, cmpL] at h
 | [], _ :: _, _ :: _, _, _ => by simp [ltL, cmpL]
 | _ :: _, [], c, h, _ => by simp [ltL, cmpL] at h
 | _ :: _, _ :: _, [], _, h => by simp [ltL, cmpL] at h
 | a :: l, b :: r, c :: s, h, g => by
  unfold ltL cmpL at h g ⊢
  by_cases h1 : a < b
  ·by_cases g1 : b < c
   ·rw [if_pos (by omega)]; omega
   ·rw [if_neg g1] at g
    by_cases g2 : c < b
    ·rw [if_pos g2] at g; omega
    ·rw [if_pos (by omega)]; omega
  ·rw [if_neg h1] at h
   by_cases h2 : b < a
   ·rw [if_pos h2] at h; omega
   ·rw [if_neg h2] at h
    obtain rfl : a = b := by omega
    by_cases g1 : a < c
    ·rw [if_pos g1]; omega
    ·rw [if_neg g1] at g ⊢
     by_cases g2 : c < a
     ·rw [if_pos g2] at g; omega
     ·rw [if_neg g2] at g ⊢
      exact lt_trans (a := l) (b := r) (c := s) h g
theorem gt_of : ∀ {a b : List Int}, 0 < cmpL a b → ltL b a
 | [], [], h => by simp [cmpL] at h
 | [], _ :: _, h => by simp [cmpL] at h
 | _ :: _, [], _ => by simp [ltL, cmpL]
 | a :: l, b :: r, h => by
  unfold ltL
  unfold cmpL at h ⊢
  by_cases h1 : a < b
  ·rw [if_pos h1] at h; omega
  ·rw [if_neg h1] at h
   by_cases h2 : b < a
   ·rw [if_pos h2]; omega
   ·rw [if_neg h2] at h ⊢
    rw [if_neg h1]
    exact gt_of h
theorem lt_or (a b : List Int) : ltL a b ∨ a = b ∨ ltL b a := by
 by_cases h : cmpL a b < 0
 ·exact .inl h
 ·by_cases g : cmpL a b = 0
  ·exact .inr (.inl (cmp_eq g))
  ·exact .inr (.inr (gt_of (by omega)))
theorem lt_app : ∀ {a b : List Int} (x y : Int), a.length = b.length → ltL a b → ltL (a ++ [x]) (b ++ [y])
 | [], [], _, _, _, h => by simp [ltL, cmpL] at h
 | a :: l, b :: r, x, y, hl, h => by
  unfold ltL at h ⊢
  rw [List.cons_append, List.cons_append]
  unfold cmpL at h ⊢
  by_cases h1 : a < b
  ·rw [if_pos h1]; omega
  ·rw [if_neg h1] at h ⊢
   by_cases h2 : b < a
   ·rw [if_pos h2] at h; omega
   ·rw [if_neg h2] at h ⊢
    exact lt_app x y (by simpa using hl) h
def leP (p q : List Int × Int) : Prop := p.2 < q.2 ∨ p.2 = q.2 ∧ (p.1 = q.1 ∨ ltL p.1 q.1)
theorem le_refl (p : List Int × Int) : leP p p := .inr ⟨rfl, .inl rfl⟩
theorem le_trans {p q r : List Int × Int} (h : leP p q) (g : leP q r) : leP p r := by
 rcases h with h | ⟨h1, h2⟩ <;> rcases g with g | ⟨g1, g2⟩
 ·exact .inl (by omega)
 ·exact .inl (by omega)
 ·exact .inl (by omega)
 ·refine .inr ⟨by omega, ?_⟩
  rcases h2 with h2 | h2 <;> rcases g2 with g2 | g2
  ·exact .inl (h2.trans g2)
  ·exact .inr (h2 ▸ g2)
  ·exact .inr (g2 ▸ h2)
  ·exact .inr (lt_trans h2 g2)
def befB (x y : List Int × Int) : Bool := decide (x.2 < y.2) || (decide (x.2 = y.2) && decide (cmpL x.1 y.1 < 0))
theorem bef_le {x y : List Int × Int} (h : befB x y = true) : leP x y := by
 unfold befB at h
 rw [Bool.or_eq_true, Bool.and_eq_true, decide_eq_true_eq, decide_eq_true_eq, decide_eq_true_eq] at h
 rcases h with h | ⟨h1, h2⟩
 ·exact .inl h
 ·exact .inr ⟨h1, .inr h2⟩
theorem bef_ge {x y : List Int × Int} (h : befB x y = false) : leP y x := by
 unfold befB at h
 rw [Bool.or_eq_false_iff, Bool.and_eq_false_iff, decide_eq_false_iff_not, decide_eq_false_iff_not, decide_eq_false_iff_not] at h
 by_cases e : x.2 = y.2
 ·refine .inr ⟨e.symm, ?_⟩
  have : ¬ cmpL x.1 y.1 < 0 := h.2.resolve_left (fun a => a e)
  rcases lt_or x.1 y.1 with g | g | g
  ·exact (this g).elim
  ·exact .inl g.symm
  ·exact .inr g
 ·exact .inl (by omega)
theorem le_app {p q : List Int × Int} (hl : p.1.length = q.1.length) (h : leP p q) (b c : Int) : leP (p.1 ++ [b], p.2 + c) (q.1 ++ [b], q.2 + c) := by
 rcases h with h | ⟨h1, h2⟩
 ·exact .inl (show p.2 + c < q.2 + c by omega)
 ·refine .inr ⟨show p.2 + c = q.2 + c by omega, ?_⟩
  rcases h2 with h2 | h2
  ·exact .inl (by rw [h2])
  ·exact .inr (lt_app b b hl h2)
def extM (row : List Int) (out : List (List Int × Int)) : List (List Int × Int) := out.flatMap fun m => (List.range row.length).map fun b => (m.1 ++ [Int.ofNat b], m.2 + (row[b]?).getD 0)
theorem mem_ext {row : List Int} {out : List (List Int × Int)} {x : List Int × Int} : x ∈ extM row out ↔ ∃ m ∈ out, ∃ b, b < row.length ∧ x = (m.1 ++ [Int.ofNat b], m.2 + (row[b]?).getD 0) := by
 unfold extM
 rw [List.mem_flatMap]
 constructor
 ·rintro ⟨m, hm, hx⟩
  obtain ⟨b, hb, rfl⟩ := List.mem_map.1 hx
  exact ⟨m, hm, b, List.mem_range.1 hb, rfl⟩
 ·rintro ⟨m, hm, b, hb, rfl⟩
  exact ⟨m, hm, List.mem_map.2 ⟨b, List.mem_range.2 hb, rfl⟩⟩
theorem ext_len {row : List Int} {out : List (List Int × Int)} {n : Nat} (h : ∀ m ∈ out, m.1.length = n) : ∀ m ∈ extM row out, m.1.length = n + 1 := by
 intro x hx
 obtain ⟨m, hm, b, _, rfl⟩ := mem_ext.1 hx
 simp [h m hm]
def tot : List Int → Int
 | [] => 0
 | x :: r => x + tot r
theorem tot_app (l : List Int) (x : Int) : tot (l ++ [x]) = tot l + x := by
 induction l with
 | nil => simp [tot]
 | cons a l ih => simp only [List.cons_append, tot, ih]; omega
structure BestOf (out best : List (List Int × Int)) : Prop where
 len : ∃ n, ∀ m ∈ out, m.1.length = n
 ne : 0 < best.length
 mem : ∀ k x, best[k]? = some x → x ∈ out ∧ tot x.1 = Int.ofNat k
 all : ∀ m ∈ out, ∃ k x, tot m.1 = Int.ofNat k ∧ best[k]? = some x ∧ leP x m
def putO (o : Option (List Int × Int)) (x : List Int × Int) : Option (List Int × Int) := match o with
 | none => some x
 | some y => if befB x y = true then some x else some y
def setO (l : List (Option (List Int × Int))) (k : Nat) (x : List Int × Int) : List (Option (List Int × Int)) := l.set k (putO ((l[k]?).getD none) x)
def rowO (row : List Int) (head : List Int × Int) (n : Nat) : Nat → List (Option (List Int × Int)) → List (Option (List Int × Int))
 | 0, l => l
 | b + 1, l => setO (rowO row head n b l) (n + b) (head.1 ++ [Int.ofNat b], head.2 + (row[b]?).getD 0)
def headO (row : List Int) (best : List (List Int × Int)) : Nat → List (Option (List Int × Int))
 | 0 => List.replicate (best.length + row.length - 1) none
 | n + 1 => rowO row ((best[n]?).getD ([], 0)) n row.length (headO row best n)
theorem setO_len (l : List (Option (List Int × Int))) (k : Nat) (x : List Int × Int) : (setO l k x).length = l.length := by unfold setO; exact List.length_set
theorem rowO_len (row : List Int) (head : List Int × Int) (n : Nat) (l : List (Option (List Int × Int))) : ∀ b, (rowO row head n b l).length = l.length
 | 0 => rfl
 | b + 1 => by unfold rowO; rw [setO_len, rowO_len row head n l b]
theorem headO_len (row : List Int) (best : List (List Int × Int)) : ∀ n, (headO row best n).length = best.length + row.length - 1
 | 0 => List.length_replicate
 | n + 1 => by unfold headO; rw [rowO_len, headO_len row best n]
def okO (S : Nat → List Int × Int → Prop) (l : List (Option (List Int × Int))) : Prop := ∀ k, k < l.length → (∀ x, l[k]? = some (some x) → S k x) ∧ (∀ x, S k x → ∃ y, l[k]? = some (some y) ∧ leP y x)
theorem setO_ok {S : Nat → List Int × Int → Prop} {l : List (Option (List Int × Int))} (h : okO S l) {k : Nat} (hk : k < l.length) (x : List Int × Int) : okO (fun i y => S i y ∨ i = k ∧ y = x) (setO l k x) := by
 intro i hi
 rw [setO_len] at hi
 have hc : l[k]? = some ((l[k]?).getD none) := by rw [List.getElem?_eq_getElem hk]; rfl
 by_cases e : i = k
 ·subst e
  have hs : (setO l i x)[i]? = some (putO ((l[i]?).getD none) x) := by unfold setO; rw [List.getElem?_set_self hk]
  rw [hs]
  obtain ⟨h1, h2⟩ := h i hk
  generalize (l[i]?).getD none = c at hc
  cases c with
  | none =>
   refine ⟨fun y hy => ?_, fun y hy => ?_⟩
   ·obtain rfl : x = y := by simpa [putO] using hy
    exact .inr ⟨rfl, rfl⟩
   ·rcases hy with hy | ⟨_, rfl⟩
    ·obtain ⟨z, hz, _⟩ := h2 y hy
     rw [hc] at hz; simp at hz
    ·exact ⟨y, rfl, le_refl _⟩
  | some z =>
   have hz := h1 z hc
   by_cases g : befB x z = true
   ·have ep : putO (some z) x = some x := by show (if befB x z = true then some x else some z) = _; rw [if_pos g]
    rw [ep]
    refine ⟨fun y hy => ?_, fun y hy => ?_⟩
    ·obtain rfl : x = y := by simpa using hy
     exact .inr ⟨rfl, rfl⟩
    ·rcases hy with hy | ⟨_, rfl⟩
     ·obtain ⟨w, hw, hl⟩ := h2 y hy
      rw [hc] at hw
      obtain rfl : z = w := by simpa using hw
      exact ⟨x, rfl, le_trans (bef_le g) hl⟩
     ·exact ⟨y, rfl, le_refl _⟩
   ·have ep : putO (some z) x = some z := by show (if befB x z = true then some x else some z) = _; rw [if_neg g]
    rw [ep]
    have g' : befB x z = false := by simpa using g
    refine ⟨fun y hy => ?_, fun y hy => ?_⟩
    ·obtain rfl : z = y := by simpa using hy
     exact .inl hz
    ·rcases hy with hy | ⟨_, rfl⟩
     ·obtain ⟨w, hw, hl⟩ := h2 y hy
      rw [hc] at hw
      obtain rfl : z = w := by simpa using hw
      exact ⟨z, rfl, hl⟩
     ·exact ⟨z, rfl, bef_ge g'⟩
 ·have hs : (setO l k x)[i]? = l[i]? := by unfold setO; rw [List.getElem?_set_ne (fun a => e a.symm)]
  rw [hs]
  obtain ⟨h1, h2⟩ := h i hi
  exact ⟨fun y hy => .inl (h1 y hy), fun y hy => h2 y (hy.resolve_right fun a => e a.1)⟩
theorem okO_congr {S T : Nat → List Int × Int → Prop} {l : List (Option (List Int × Int))} (h : okO S l) (e : ∀ k x, S k x ↔ T k x) : okO T l := fun k hk => by
 obtain ⟨h1, h2⟩ := h k hk
 exact ⟨fun x hx => (e k x).1 (h1 x hx), fun x hx => h2 x ((e k x).2 hx)⟩
theorem rowO_ok {S : Nat → List Int × Int → Prop} (row : List Int) (head : List Int × Int) (n : Nat) {l : List (Option (List Int × Int))} (h : okO S l) : ∀ b, n + b ≤ l.length → okO (fun i y => S i y ∨ ∃ c, c < b ∧ i = n + c ∧ y = (head.1 ++ [Int.ofNat c], head.2 + (row[c]?).getD 0)) (rowO row head n b l)
 | 0, _ => okO_congr h fun k x => ⟨.inl, fun a => a.elim id fun ⟨c, hc, _⟩ => by omega⟩
 | b + 1, hb => by
  have ih := rowO_ok row head n h b (by omega)
  have := setO_ok ih (k := n + b) (by rw [rowO_len]; omega) (head.1 ++ [Int.ofNat b], head.2 + (row[b]?).getD 0)
  refine okO_congr this fun k x => ⟨?_, ?_⟩
  ·rintro ((a | ⟨c, hc, e1, e2⟩) | ⟨e1, e2⟩)
   ·exact .inl a
   ·exact .inr ⟨c, by omega, e1, e2⟩
   ·exact .inr ⟨b, by omega, e1, e2⟩
  ·rintro (a | ⟨c, hc, e1, e2⟩)
   ·exact .inl (.inl a)
   ·by_cases e : c = b
    ·subst e; exact .inr ⟨e1, e2⟩
    ·exact .inl (.inr ⟨c, by omega, e1, e2⟩)
theorem headO_ok (row : List Int) (best : List (List Int × Int)) : ∀ n, n ≤ best.length → okO (fun i y => ∃ m, m < n ∧ ∃ c, c < row.length ∧ i = m + c ∧ y = (((best[m]?).getD ([], 0)).1 ++ [Int.ofNat c], ((best[m]?).getD ([], 0)).2 + (row[c]?).getD 0)) (headO row best n)
 | 0, _ => fun k hk => ⟨fun x hx => by
   unfold headO at hx hk
   rw [List.getElem?_replicate] at hx
   split at hx <;> simp at hx, fun x ⟨m, hm, _⟩ => by omega⟩
 | n + 1, hn => by
  have ih := headO_ok row best n (by omega)
  have := rowO_ok row ((best[n]?).getD ([], 0)) n ih row.length (by rw [headO_len]; omega)
  refine okO_congr this fun k x => ⟨?_, ?_⟩
  ·rintro (⟨m, hm, c, a⟩ | ⟨c, a⟩)
   ·exact ⟨m, by omega, c, a⟩
   ·exact ⟨n, by omega, c, a⟩
  ·rintro ⟨m, hm, c, a⟩
   by_cases e : m = n
   ·subst e; exact .inr ⟨c, a⟩
   ·exact .inl ⟨m, by omega, c, a⟩
theorem step {out best : List (List Int × Int)} (h : BestOf out best) {row : List Int} (hr : 0 < row.length) (res : List (List Int × Int)) (he : headO row best best.length = res.map some) : BestOf (extM row out) res := by
 have hlen : res.length = best.length + row.length - 1 := by rw [← headO_len row best best.length, he, List.length_map]
 have ok := headO_ok row best best.length (Nat.le_refl _)
 rw [he] at ok
 obtain ⟨n, hn⟩ := h.len
 have hb := h.ne
 refine ⟨⟨n + 1, ext_len hn⟩, by omega, fun k x hx => ?_, fun m hm => ?_⟩
 ·have hk : k < res.length := (List.getElem?_eq_some_iff.1 hx).1
  obtain ⟨m, hm, c, hc, e1, e2⟩ := (ok k (by rw [List.length_map]; exact hk)).1 x (by rw [List.getElem?_map, hx]; rfl)
  have hg : best[m]? = some ((best[m]?).getD ([], 0)) := by rw [List.getElem?_eq_getElem hm]; rfl
  obtain ⟨g1, g2⟩ := h.mem m _ hg
  refine ⟨mem_ext.2 ⟨_, g1, c, hc, e2⟩, ?_⟩
  rw [e2, tot_app, g2, e1]
  simp only [Int.ofNat_eq_natCast]; omega
 ·obtain ⟨p, hp, b, hb', rfl⟩ := mem_ext.1 hm
  obtain ⟨k, x, e1, e2, e3⟩ := h.all p hp
  have hk : k < best.length := (List.getElem?_eq_some_iff.1 e2).1
  obtain ⟨y, hy, hl⟩ := (ok (k + b) (by rw [List.length_map]; omega)).2 (x.1 ++ [Int.ofNat b], x.2 + (row[b]?).getD 0) ⟨k, hk, b, hb', rfl, by rw [e2]; rfl⟩
  refine ⟨k + b, y, ?_, ?_, ?_⟩
  ·show tot (p.1 ++ [Int.ofNat b]) = _
   rw [tot_app, e1]; simp only [Int.ofNat_eq_natCast]; omega
  ·rw [List.getElem?_map] at hy
   cases hq : res[k + b]? with
   | none => rw [hq] at hy; simp at hy
   | some w => rw [hq] at hy; simpa using hy
  ·exact le_trans hl (le_app ((hn x (h.mem k x e2).1).trans (hn p hp).symm) e3 _ _)
theorem full {out best : List (List Int × Int)} (h : BestOf out best) {row : List Int} (hr : 0 < row.length) : ∃ res : List (List Int × Int), headO row best best.length = res.map some := by
 have ok := headO_ok row best best.length (Nat.le_refl _)
 have hb := h.ne
 have hl := headO_len row best best.length
 refine ⟨(headO row best best.length).map fun o => o.getD ([], 0), ?_⟩
 rw [List.map_map]
 refine (List.map_id' (headO row best best.length)).symm.trans (List.map_congr_left fun o ho => ?_)
 obtain ⟨k, hk, rfl⟩ := List.getElem_of_mem ho
 have hk' : k < best.length + row.length - 1 := by omega
 -- k = m + c
 obtain ⟨y, hy, _⟩ := (ok k hk).2 _ ⟨min k (best.length - 1), by omega, k - min k (best.length - 1), by omega, by omega, rfl⟩
 rw [List.getElem?_eq_getElem hk] at hy
 have e : (headO row best best.length)[k] = some y := by simpa using hy
 rw [e]; rfl
theorem start : BestOf [(([] : List Int), (0 : Int))] [([], 0)] where
 len := ⟨0, fun m hm => by rw [List.mem_singleton.1 hm]; rfl⟩
 ne := by decide
 mem := fun k x hx => by
  cases k with
  | zero =>
   obtain rfl : (([] : List Int), (0 : Int)) = x := by simpa using hx
   exact ⟨List.mem_singleton.2 rfl, rfl⟩
  | succ k => simp at hx
 all := fun m hm => ⟨0, ([], 0), by rw [List.mem_singleton.1 hm]; rfl, rfl, by rw [List.mem_singleton.1 hm]; exact le_refl _⟩
end Best
noncomputable section
end
end Go.Proofs.YtigdchbjmnbjlaaGreatDoor
end
section
open Go Go.Ev
namespace Go.Proofs.YtigdchbjmnbjlaaGreatDoor
noncomputable section
open Best
end
end Go.Proofs.YtigdchbjmnbjlaaGreatDoor
end
section
open Go Go.Ev
namespace Go.Proofs.YtigdchbjmnbjlaaGreatDoor
noncomputable section
open Best
end
end Go.Proofs.YtigdchbjmnbjlaaGreatDoor
end
section
open Go Go.Ev
namespace Go.Proofs.YtigdchbjmnbjlaaGreatDoor
noncomputable section
open Best
end
end Go.Proofs.YtigdchbjmnbjlaaGreatDoor
end
section
open Go Go.Ev
namespace Go.Proofs.YtigdchbjmnbjlaaGreatDoor
noncomputable section
open Best
end
end Go.Proofs.YtigdchbjmnbjlaaGreatDoor
end
section
open Go Go.Ev
namespace Go.Proofs.YtigdchbjmnbjlaaGreatDoor
noncomputable section
def xq19 (_C _N _O R _G _L _B : List DT) (_s _n _o m _g _l _b : Nat) (_mg _ms _x _y _z _a e _f _bd _d _h _u _v _w _p1 _e1 _bn _p2 _e3 _ls : Int) (_hb _hc _fw : Bool) (_j : JN) : St := startK Tryz.f19 [] [(dQ R m), iI e, iI e, (dQ R m)]
def v5 (C N O G : List DT) (s n o g : Nat) (mg ms x y z a e f p1 : Int) (j : JN) : St := ⟨[(bK (tQ C s N n mg ms O o) 5 71), (bK [(.v (.int .i64 x)), (.dp (.s G g 1)), (.v (.int .i64 y)), (.v (.int .i64 z))] 4 73)], [(.code (aF [1, 1, 1, 1, 0] Tryz.f6)), (.code (aF [1, 1, 1, 1, 1] Tryz.f6))], mkT j [(2, (.e (.one (.ptr 0 0)))), (3, (.e (.one (.ptr 1 0)))), (5, (iI a)), (6, (iI e)), (7, (iI f)), (8, (iI p1))] 176 0⟩
def pn19z_end (j : JN) : St := ⟨[], [(.code .ret)], mkT j [(8, (iB true))] 30 0⟩
theorem pn19z (hE : EnvOk E) (C N O R G L B : List DT) (s n o m g l b : Nat) (mg ms x y z a e f bd d h u v w p1 e1 bn p2 e3 ls : Int) (hb hc fw : Bool) (h0 : ((e == e) == true : Bool) = true) (h1 : ((e == e) == true : Bool) = true) (h2 : ((e == e) == true : Bool) = true) (h3 : ((e != (0 : Int)) == true : Bool) = false) (h4 : ((e != (0 : Int)) == true : Bool) = false) (h5 : ((e != (0 : Int)) == true : Bool) = false) (h6 : ((e == e) == true : Bool) = true) (h7 : (e != (0 : Int) : Bool) = false) (h8 : ((e == e) == true : Bool) = true) (h9 : ((e == (0 : Int)) == true : Bool) = true) (h10 : ((e == (0 : Int)) == true : Bool) = true) (h11 : ((e == (0 : Int)) == true : Bool) = true) (h12 : COut E 0 [] 57 [(dQ R m), (dQ R m)] (iB true) []) (h14 : (e == (0 : Int) : Bool) = true) (h15 : ((e == e) == true : Bool) = true) (h16 : (e == e : Bool) = true) {Φ : Res → Prop} (ho : ∀ j, OutK E 0 0 (pn19z_end j) Φ) (j : JN) : OutK E 0 0 (xq19 C N O R G L B s n o m g l b mg ms x y z a e f bd d h u v w p1 e1 bn p2 e3 ls hb hc fw j) Φ :=
 oS hE [.run 3, (.ops [(17, (.c0 (iB true))), (10, (.pk false)), (18, (.pk true)), (20, (.pk true))] [(4, true), (5, true), (6, true), (7, false), (8, false), (9, false), (10, true), (11, true), (15, true), (16, true), (17, true), (19, true)])] [8] (aQ h0 h1 h2 h3 <| aQ h4 h5 h6 h7 <| aQ h8 h9 h10 h11 <| aP h12 <| aN <| aP h14 <| aP h15 <| aP h16 <| aZ)
  ho
open Best
theorem KL (hE : EnvOk E) (l : List Int) (hm : l.length ≤ 100000) : COut E 0 [] 19 [dI l, iI 0, iI 0, dI l] (iB true) [] := by
 have he : ((0 : Int) != (0 : Int)) = false := rfl
 have k59 := K59 hE l l hm
 rw [decide_eq_true rfl] at k59
 exact cOut_start Tryz.func19 rfl (pn19z hE [] [] [] (iD l) [] [] [] 0 0 0 l.length 0 0 0 0 0 0 0 0 0 0 0 0 0 0 0 0 0 0 0 0 0 0 0 false false false oB oB oB oB oB oB oB oB oB oB oB oB k59 oB oB oB (fun j => outK_ret (ends_ret (by kernel_rfl))) uD)
end
end Go.Proofs.YtigdchbjmnbjlaaGreatDoor
end
