/-
  Part of the proof: SeJa, SeGm.
-/
import Derived.Test.YtneaafigbnjceaaGreatDoorSeZJ

/-! SeJa -/
section
open Go Go.Ev
namespace Go.Proofs.YtneaafigbnjceaaGreatDoor
noncomputable section
set_option maxRecDepth 100000
set_option maxHeartbeats 20000000
def j128_000  (_j : Nat → Value) : St := startK Tryz.f76 [] [.e (.one (.v (.slice none 0 0))), .e (.one (.v (.func (.func 77) #[] #[])))]
def j128_001  (_j : Nat → Value) : St := startK Tryz.f76 [] [.e (.one (.dp (.s [.v (.string wC), .v (.int .i64 30), .v vC] 1 3))), .e (.one (.v (.func (.func 77) #[] #[])))]
def j128_011  (_j : Nat → Value) : St := startK Tryz.f76 [] [.e (.one (.dp (.s [.v (.string wP), .v (.int .i64 31), .v vP, .v (.string wC), .v (.int .i64 30), .v vC] 2 3))), .e (.one (.v (.func (.func 77) #[] #[])))]
def j129 (_C _C2 _H : List DT) (_n _m _i k _N : Nat) (o : ByteArray) (_t _c _e _f _g _h _r x _z _q : Int) (_a _b _w _v _u : Bool) (_D _Y : List AC) (_j : Nat → Value) : St := startK Tryz.f77 [] [.e (.agg [.v (.string o), .v (.int .i64 x), .v (.func (.func k) #[] #[])])]
def j66 (C H : List DT) (n m : Nat) (t c _e _f _z : Int) (a b : Bool) (_j : Nat → Value) : St := startK Tryz.f31 [] [.e (.agg [.v (.bool a), .v (.bool b), .dp (.s C n 2)]), .e (.one (.dp (.s H m 9))), iI t, iI c]
def A129__end (_C : List DT) (_C2 : List DT) (_H : List DT) (_n _m _i _k _N : Nat) (_o : ByteArray) (_t _c _e _f _g _h _r x _z _q : Int) (_a _b _w _v _u : Bool) (_D _Y : List AC) (j : Nat → Value) : St := ⟨[], [.code .ret], mkT j [(2, (iI x))] 5 0⟩
theorem A129_ (hE : EnvOk E) (C : List DT) (C2 : List DT) (H : List DT) (n m i k N : Nat) (o : ByteArray) (t c e f g h r x z q : Int) (a b w v u : Bool) (D Y : List AC) : Sg 0 0 (j129 C C2 H n m i k N o t c e f g h r x z q a b w v u D Y) (A129__end C C2 H n m i k N o t c e f g h r x z q a b w v u D Y) := fun ho j =>
 oS hE [.run 4] [2] (s' := fun j => ⟨[bK [.v (.string o), .v (.int .i64 x), .v (.func (.func k) #[] #[])] 3 147], [.code .ret], mkT j [(2, (iI x))] 5 0⟩) (ps := []) trivial
  fun j => gZ [] (ho j)
theorem A129__c (hE : EnvOk E) (C : List DT) (C2 : List DT) (H : List DT) (n m i k N : Nat) (o : ByteArray) (t c e f g h r x z q : Int) (a b w v u : Bool) (D Y : List AC)   : COut E 0 [] 77 [.e (.agg [.v (.string o), .v (.int .i64 x), .v (.func (.func k) #[] #[])])] (iI x) [] := cOut_start Tryz.func77 rfl (A129_ hE C C2 H n m i k N o t c e f g h r x z q a b w v u D Y   (fun j => outK_ret (ends_ret (by kernel_rfl))) fun _ => undef)
theorem A129_all (hE : EnvOk E) (C : List DT) (C2 : List DT) (H : List DT) (n m i k N : Nat) (o : ByteArray) (t c e f g h r x z q : Int) (a b w v u : Bool) (D Y : List AC) : COut E 0 [] 77 [.e (.agg [.v (.string o), .v (.int .i64 x), .v (.func (.func k) #[] #[])])] (iI x) [] := by
 exact A129__c hE C C2 H n m i k N o t c e f g h r x z q a b w v u D Y  
def p128_000_end  (j : Nat → Value) : St := ⟨[], [.code .ret], mkT j [(4, (iI 0))] 21 0⟩
theorem p128_000 (hE : EnvOk E) : Sg 0 0 j128_000 p128_000_end := fun ho j =>
 oS hE [.run 14] [4] (ps := []) trivial
  ho
def p66_000_end (_C : List DT) (_H : List DT) (_n _m : Nat) (_t _c _e _f z : Int) (_a _b : Bool) (j : Nat → Value) : St := ⟨[(bxZ 76)], [.code .ret], mkT j [(8, .e (.one (.ptr 0 0))), (9, (iI z))] 27 0⟩
theorem p66_000 (hE : EnvOk E) (C : List DT) (H : List DT) (n m : Nat) (t c e f z : Int) (a b : Bool) (h0 : COut E 0 [] 75 [.e (.agg [.v (.bool a), .v (.bool b), .dp (.s C n 2), .dp (.s H m 9), .v (.int .i64 t), .v (.int .i64 c)])] (.tup [.one (.v (.slice none 0 0)), .one (.v (.int .i64 e))]) []) (h2 : COut E 0 [] 76 [.e (.one (.v (.slice none 0 0))), .e (.one (.v (.func (.func 77) #[] #[])))] (iI f) []) (h4 : COut E 3 [(bxS a b C n 76), (bxZ 76), bK [.v (.int .i64 e), .v (.int .i64 f)] 2 36] 53 [.e (.one (.slc 2 0 2 1 2 true))] (iI z) [(bxS a b C n 76), (bxZ 76), bK [.v (.int .i64 e), .v (.int .i64 f)] 2 36]) : Sg 0 0 (j66 C H n m t c e f z a b) (p66_000_end C H n m t c e f z a b) := fun ho j =>
 oS hE [.run 3, .ops [(5, .c0 (.tup [.one (.v (.slice none 0 0)), .one (.v (.int .i64 e))]))] [], .run 1, .ops [(3, .c0 (iI f)), (5, .d (.c1 (iI z)))] []] [8, 9] (s' := fun j => ⟨[(bxS a b C n 76), (bxZ 76), bK [.v (.int .i64 e), .v (.int .i64 f)] 2 36], [.code .ret], mkT j [(8, .e (.one (.ptr 1 0))), (9, (iI z))] 27 0⟩) (aP h0 <| aN <| aP h2 <| aN <| aP h4 <| aN <| aZ)
  fun j => gZ [1] (ho j)
def p128_001_end  (j : Nat → Value) : St := ⟨[], [.code .ret, .inBlock 1, .code (atC [1, 0, 1, 0, 0, 1, 1, 1] (bodyOf Tryz.f76)), .inLoop (atC [1, 0, 1, 0, 0] (bodyOf Tryz.f76)), .inBlock 0, .code (atC [1, 1] (bodyOf Tryz.f76))], mkT j [(4, (iI 30))] 21 0⟩
theorem p128_001 (hE : EnvOk E)  (h0 : (0 : Int) ≤ Int.ofNat (nat_lit 0) ∧ Int.ofNat (nat_lit 0) < (↑(nat_lit 1) : Int)) (h3 : COut E 0 [] 77 [.e (.agg [.v (.string wC), .v (.int .i64 30), .v vC])] (iI 30) []) : Sg 0 0 j128_001 p128_001_end := fun ho j =>
 oS hE [.run 4, .ops [(1, .d .len)] [], .run 10, .ops [(1, .d (.ldn [.v (.string wC), .v (.int .i64 30), .v vC])), (0, .d (.ix 0))] [], .run 1, .ops [(2, .c0 (iI 30))] [], .run 5] [4] (s' := fun j => ⟨[bK [.v (.string wC), .v (.int .i64 30), .v vC] 3 147], [.code .ret, .inBlock 1, .code (atC [1, 0, 1, 0, 0, 1, 1, 1] (bodyOf Tryz.f76)), .inLoop (atC [1, 0, 1, 0, 0] (bodyOf Tryz.f76)), .inBlock 0, .code (atC [1, 1] (bodyOf Tryz.f76))], mkT j [(4, (iI 30))] 21 0⟩) (aP h0 <| aP (rfl : ((0 : Nat) : Nat) = (0 : Nat)) <| aP (rfl : ((.some [.v (.string wC), .v (.int .i64 30), .v vC]) : Option (List DT)) = (.some [.v (.string wC), .v (.int .i64 30), .v vC])) <| aP h3 <| aN <| aZ)
  fun j => gZ [] (ho j)
def p66_001_end (_C : List DT) (_H : List DT) (_n _m : Nat) (_t _c _e _f z : Int) (_a _b : Bool) (j : Nat → Value) : St := ⟨[(bxZ 76)], [.code .ret], mkT j [(8, .e (.one (.ptr 0 0))), (9, (iI z))] 27 0⟩
theorem p66_001 (hE : EnvOk E) (C : List DT) (H : List DT) (n m : Nat) (t c e f z : Int) (a b : Bool) (h0 : COut E 0 [] 75 [.e (.agg [.v (.bool a), .v (.bool b), .dp (.s C n 2), .dp (.s H m 9), .v (.int .i64 t), .v (.int .i64 c)])] (.tup [.one (.dp (.s [.v (.string wC), .v (.int .i64 30), .v vC] 1 3)), .one (.v (.int .i64 e))]) []) (h2 : COut E 0 [] 76 [.e (.one (.dp (.s [.v (.string wC), .v (.int .i64 30), .v vC] 1 3))), .e (.one (.v (.func (.func 77) #[] #[])))] (iI f) []) (h4 : COut E 3 [(bxS a b C n 76), (bxZ 76), bK [.v (.int .i64 e), .v (.int .i64 f)] 2 36] 53 [.e (.one (.slc 2 0 2 1 2 true))] (iI z) [(bxS a b C n 76), (bxZ 76), bK [.v (.int .i64 e), .v (.int .i64 f)] 2 36]) : Sg 0 0 (j66 C H n m t c e f z a b) (p66_001_end C H n m t c e f z a b) := fun ho j =>
 oS hE [.run 3, .ops [(5, .c0 (.tup [.one (.dp (.s [.v (.string wC), .v (.int .i64 30), .v vC] 1 3)), .one (.v (.int .i64 e))]))] [], .run 1, .ops [(3, .c0 (iI f)), (5, .d (.c1 (iI z)))] []] [8, 9] (s' := fun j => ⟨[(bxS a b C n 76), (bxZ 76), bK [.v (.int .i64 e), .v (.int .i64 f)] 2 36], [.code .ret], mkT j [(8, .e (.one (.ptr 1 0))), (9, (iI z))] 27 0⟩) (aP h0 <| aN <| aP h2 <| aN <| aP h4 <| aN <| aZ)
  fun j => gZ [1] (ho j)
def p128_011_end  (j : Nat → Value) : St := ⟨[], [.code .ret, .inBlock 1, .code (atC [1, 0, 1, 0, 0, 1, 1, 1] (bodyOf Tryz.f76)), .inLoop (atC [1, 0, 1, 0, 0] (bodyOf Tryz.f76)), .inBlock 0, .code (atC [1, 1] (bodyOf Tryz.f76))], mkT j [(4, (iI 31))] 21 0⟩
theorem p128_011 (hE : EnvOk E)  (h0 : (0 : Int) ≤ Int.ofNat (nat_lit 0) ∧ Int.ofNat (nat_lit 0) < (↑(nat_lit 2) : Int)) (h3 : COut E 0 [] 77 [.e (.agg [.v (.string wP), .v (.int .i64 31), .v vP])] (iI 31) []) : Sg 0 0 j128_011 p128_011_end := fun ho j =>
 oS hE [.run 4, .ops [(1, .d .len)] [], .run 10, .ops [(1, .d (.ldn [.v (.string wP), .v (.int .i64 31), .v vP])), (0, .d (.ix 0))] [], .run 1, .ops [(2, .c0 (iI 31))] [], .run 5] [4] (s' := fun j => ⟨[bK [.v (.string wP), .v (.int .i64 31), .v vP] 3 147], [.code .ret, .inBlock 1, .code (atC [1, 0, 1, 0, 0, 1, 1, 1] (bodyOf Tryz.f76)), .inLoop (atC [1, 0, 1, 0, 0] (bodyOf Tryz.f76)), .inBlock 0, .code (atC [1, 1] (bodyOf Tryz.f76))], mkT j [(4, (iI 31))] 21 0⟩) (aP h0 <| aP (rfl : ((0 : Nat) : Nat) = (0 : Nat)) <| aP (rfl : ((.some [.v (.string wP), .v (.int .i64 31), .v vP]) : Option (List DT)) = (.some [.v (.string wP), .v (.int .i64 31), .v vP])) <| aP h3 <| aN <| aZ)
  fun j => gZ [] (ho j)
def p66_011_end (_C : List DT) (_H : List DT) (_n _m : Nat) (_t _c _e _f z : Int) (_a _b : Bool) (j : Nat → Value) : St := ⟨[(bxZ 76)], [.code .ret], mkT j [(8, .e (.one (.ptr 0 0))), (9, (iI z))] 27 0⟩
theorem p66_011 (hE : EnvOk E) (C : List DT) (H : List DT) (n m : Nat) (t c e f z : Int) (a b : Bool) (h0 : COut E 0 [] 75 [.e (.agg [.v (.bool a), .v (.bool b), .dp (.s C n 2), .dp (.s H m 9), .v (.int .i64 t), .v (.int .i64 c)])] (.tup [.one (.dp (.s [.v (.string wP), .v (.int .i64 31), .v vP, .v (.string wC), .v (.int .i64 30), .v vC] 2 3)), .one (.v (.int .i64 e))]) []) (h2 : COut E 0 [] 76 [.e (.one (.dp (.s [.v (.string wP), .v (.int .i64 31), .v vP, .v (.string wC), .v (.int .i64 30), .v vC] 2 3))), .e (.one (.v (.func (.func 77) #[] #[])))] (iI f) []) (h4 : COut E 3 [(bxS a b C n 76), (bxZ 76), bK [.v (.int .i64 e), .v (.int .i64 f)] 2 36] 53 [.e (.one (.slc 2 0 2 1 2 true))] (iI z) [(bxS a b C n 76), (bxZ 76), bK [.v (.int .i64 e), .v (.int .i64 f)] 2 36]) : Sg 0 0 (j66 C H n m t c e f z a b) (p66_011_end C H n m t c e f z a b) := fun ho j =>
 oS hE [.run 3, .ops [(5, .c0 (.tup [.one (.dp (.s [.v (.string wP), .v (.int .i64 31), .v vP, .v (.string wC), .v (.int .i64 30), .v vC] 2 3)), .one (.v (.int .i64 e))]))] [], .run 1, .ops [(3, .c0 (iI f)), (5, .d (.c1 (iI z)))] []] [8, 9] (s' := fun j => ⟨[(bxS a b C n 76), (bxZ 76), bK [.v (.int .i64 e), .v (.int .i64 f)] 2 36], [.code .ret], mkT j [(8, .e (.one (.ptr 1 0))), (9, (iI z))] 27 0⟩) (aP h0 <| aN <| aP h2 <| aN <| aP h4 <| aN <| aZ)
  fun j => gZ [1] (ho j)
theorem K129 (hE : EnvOk E) (o : ByteArray) (x : Int) (k : Nat) : COut E 0 [] 77 [.e (.agg [.v (.string o), .v (.int .i64 x), .v (.func (.func k) #[] #[])])] (iI x) [] := A129_all hE [] [] [] 0 0 0 k 0 o 0 0 0 0 0 0 0 x 0 0 false false false false false [] []
theorem K128_000 (hE : EnvOk E) : COut E 0 [] 76 [.e (.one (.v (.slice none 0 0))), .e (.one (.v (.func (.func 77) #[] #[])))] (iI 0) [] := cOut_start Tryz.func76 rfl (p128_000 hE  (fun j => outK_ret (ends_ret (by kernel_rfl))) fun _ => undef)
theorem K66_000 (hE : EnvOk E) (a b : Bool) (L : List Od) (H : List Hr) (t c e : Int) (h : COut E 0 [] 75 [momA a b L H t c] (.tup [.one (.v (.slice none 0 0)), .one (.v (.int .i64 e))]) []) : COut E 0 [] 31 [sw a b L, dHr H, iI t, iI c] (tS false false [] (firstI [e, 0])) [] :=
 tZ (cOut_start Tryz.func31 rfl (p66_000 hE (odD L) (hrD H) (L.length) (H.length) t c e (0) (firstI [e, 0]) a b h (K128_000 hE) (C76w hE (l := [e, 0]) rfl rfl rfl rfl) (fun j => outK_ret (ends_ret (by kernel_rfl))) fun _ => undef))
theorem K128_001 (hE : EnvOk E) : COut E 0 [] 76 [.e (.one (.dp (.s [.v (.string wC), .v (.int .i64 30), .v vC] 1 3))), .e (.one (.v (.func (.func 77) #[] #[])))] (iI 30) [] := cOut_start Tryz.func76 rfl (p128_001 hE ⟨by decide, by decide⟩ (K129 hE _ _ _) (fun j => outK_ret (ends_ret (by kernel_rfl))) fun _ => undef)
theorem K66_001 (hE : EnvOk E) (a b : Bool) (L : List Od) (H : List Hr) (t c e : Int) (h : COut E 0 [] 75 [momA a b L H t c] (.tup [.one (.dp (.s [.v (.string wC), .v (.int .i64 30), .v vC] 1 3)), .one (.v (.int .i64 e))]) []) : COut E 0 [] 31 [sw a b L, dHr H, iI t, iI c] (tS false false [] (firstI [e, 30])) [] :=
 tZ (cOut_start Tryz.func31 rfl (p66_001 hE (odD L) (hrD H) (L.length) (H.length) t c e (30) (firstI [e, 30]) a b h (K128_001 hE) (C76w hE (l := [e, 30]) rfl rfl rfl rfl) (fun j => outK_ret (ends_ret (by kernel_rfl))) fun _ => undef))
theorem K128_011 (hE : EnvOk E) : COut E 0 [] 76 [.e (.one (.dp (.s [.v (.string wP), .v (.int .i64 31), .v vP, .v (.string wC), .v (.int .i64 30), .v vC] 2 3))), .e (.one (.v (.func (.func 77) #[] #[])))] (iI 31) [] := cOut_start Tryz.func76 rfl (p128_011 hE ⟨by decide, by decide⟩ (K129 hE _ _ _) (fun j => outK_ret (ends_ret (by kernel_rfl))) fun _ => undef)
theorem K66_011 (hE : EnvOk E) (a b : Bool) (L : List Od) (H : List Hr) (t c e : Int) (h : COut E 0 [] 75 [momA a b L H t c] (.tup [.one (.dp (.s [.v (.string wP), .v (.int .i64 31), .v vP, .v (.string wC), .v (.int .i64 30), .v vC] 2 3)), .one (.v (.int .i64 e))]) []) : COut E 0 [] 31 [sw a b L, dHr H, iI t, iI c] (tS false false [] (firstI [e, 31])) [] :=
 tZ (cOut_start Tryz.func31 rfl (p66_011 hE (odD L) (hrD H) (L.length) (H.length) t c e (31) (firstI [e, 31]) a b h (K128_011 hE) (C76w hE (l := [e, 31]) rfl rfl rfl rfl) (fun j => outK_ret (ends_ret (by kernel_rfl))) fun _ => undef))
end
end Go.Proofs.YtneaafigbnjceaaGreatDoor
end

/-! SeGm -/
section
open Go Go.Ev
namespace Go.Proofs.YtneaafigbnjceaaGreatDoor
noncomputable section
abbrev gB : ByteArray := ⟨#[103, 114, 105, 100]⟩
abbrev sB : ByteArray := ⟨#[115, 97, 108, 101, 115]⟩
abbrev L1 (t : Int) : List Od := [⟨gB, t⟩]
abbrev L2 (t : Int) : List Od := [⟨gB, t⟩, ⟨sB, t⟩]
theorem nm_g : nmE gB = 0 := by
 have : nameB gB = true := by kernel_rfl
 unfold nmE; rw [this]; rfl
theorem nm_s : nmE sB = 0 := by
 have : nameB sB = true := by kernel_rfl
 unfold nmE; rw [this]; rfl
theorem eq_gg : eqS gB gB = true := by kernel_rfl
theorem eq_gs : eqS gB sB = false := by kernel_rfl
theorem rng_in {x l h : Int} (a : l ≤ x) (b : x ≤ h) : rng x l h = 0 := by
 unfold rng
 rw [if_neg (by omega)]
theorem fI4 {a b c d : Int} (ha : a = 0) (hb : b = 0) (hc : c = 0) (hd : d = 0) : firstI [a, b, c, d] = 0 := by subst ha hb hc hd; rfl
theorem fI6 {a b c d e f : Int} (ha : a = 0) (hb : b = 0) (hc : c = 0) (hd : d = 0) (he : e = 0) (hf : f = 0) : firstI [a, b, c, d, e, f] = 0 := by subst ha hb hc hd he hf; rfl
theorem fI5 {a b c d e : Int} (ha : a = 0) (hb : b = 0) (hc : c = 0) (hd : d = 0) (he : e = 0) : firstI [a, b, c, d, e] = 0 := by subst ha hb hc hd he; rfl
theorem beh1 {t x : Int} (h : t ≤ x) : behE (L1 t) x = 0 := by
 have : behB (L1 t) x = false := decide_eq_false (by show ¬ (x < t); omega)
 unfold behE; rw [this]; rfl
theorem beh2 {t x : Int} (h : t ≤ x) : behE (L2 t) x = 0 := by
 have : behB (L2 t) x = false := decide_eq_false (by show ¬ (x < t); omega)
 unfold behE; rw [this]; rfl
theorem sw0 (a b : Bool) (h : badS a b [] = false) : swE a b [] = 0 := by unfold swE; rw [h]; rfl
theorem ord1 {t : Int} (h0 : 0 ≤ t) (h1 : t ≤ 100000000) : ordE (L1 t) 0 ⟨gB, t⟩ = 0 := fI4 nm_g rfl (rng_in h0 h1) rfl
theorem sw1 {t : Int} (h0 : 0 ≤ t) (h1 : t ≤ 100000000) : swE true false (L1 t) = 0 := by
 show (if false = true then (22 : Int) else (if 8 < 1 then 5 else ordsE (L1 t) 1 0)) = 0
 rw [if_neg (by decide), if_neg (by decide), ordsE_s (x := ⟨gB, t⟩) rfl, if_pos (ord1 h0 h1)]; rfl
theorem sw2 {t : Int} (h0 : 0 ≤ t) (h1 : t ≤ 100000000) : swE true false (L2 t) = 0 := by
 show (if false = true then (22 : Int) else (if 8 < 2 then 5 else ordsE (L2 t) 2 0)) = 0
 have e1 : ordE (L2 t) 0 ⟨gB, t⟩ = 0 := fI4 nm_g rfl (rng_in h0 h1) rfl
 have e2 : ordE (L2 t) 1 ⟨sB, t⟩ = 0 := fI4 nm_s (by
  have : hasO ((L2 t).take 1) sB = false := by show (eqS gB sB || false) = false; rw [eq_gs]; rfl
  show (if hasO ((L2 t).take 1) sB = true then (9 : Int) else 0) = 0
  rw [this]; rfl) (rng_in h0 h1) (beh1 (Int.le_refl t))
 rw [if_neg (by decide), if_neg (by decide), ordsE_s (x := ⟨gB, t⟩) rfl, if_pos e1, ordsE_s (x := ⟨sB, t⟩) rfl, if_pos e2]; rfl
theorem with1 (t : Int) : withO (L1 t) gB = [] := by
 show (match !eqS gB gB with | true => _ | false => _) = _
 rw [eq_gg]; rfl
theorem with2 (t : Int) : withO (L1 t) sB = L1 t := by
 show (match !eqS gB sB with | true => _ | false => _) = _
 rw [eq_gs]; rfl
theorem E52_0 {t : Int} (h0 : 0 ≤ t) (h1 : t ≤ 100000000) : E52 true false [] gB t = 0 := fI6 (sw0 _ _ rfl) nm_g (rng_in h0 h1) rfl rfl rfl
theorem E52_1 {t : Int} (h0 : 0 ≤ t) (h1 : t ≤ 100000000) : E52 true false (L1 t) gB t = 0 := fI6 (sw1 h0 h1) nm_g (rng_in h0 h1) rfl (beh1 (Int.le_refl t)) (by rw [with1]; rfl)
theorem E52_2 {t : Int} (h0 : 0 ≤ t) (h1 : t ≤ 100000000) : E52 true false (L1 t) sB t = 0 := fI6 (sw1 h0 h1) nm_s (rng_in h0 h1) rfl (beh1 (Int.le_refl t)) (by rw [with2]; rfl)
theorem E55_0 : E55 false false [] = 0 := by unfold E55; rw [sw0 _ _ rfl]; rfl
theorem E56_0 : E56 false true [] = 0 := by unfold E56; rw [sw0 _ _ rfl]; rfl
theorem E56_1 : E56 false false [] = 29 := by unfold E56; rw [sw0 _ _ rfl]; rfl
theorem since2 {t c : Int} (h : c ≤ t) : sinceL (L2 t) c = L2 t := by
 show (match decide (t ≥ c) with | true => _ | false => _) = _
 rw [decide_eq_true h]
 show _ :: (match decide (t ≥ c) with | true => _ | false => _) = _
 rw [decide_eq_true h]; rfl
theorem since2n {t c : Int} (h : ¬ c ≤ t) : sinceL (L2 t) c = [] := by
 show (match decide (t ≥ c) with | true => _ | false => _) = _
 rw [decide_eq_false h]
 show (match decide (t ≥ c) with | true => _ | false => _) = _
 rw [decide_eq_false h]; rfl
theorem lack1 (t x c : Int) : lackB (L1 t) x c = true := by
 have h : (sinceL (L1 t) (x - c)).length ≤ 1 := List.length_filter_le _ _
 exact decide_eq_true (by omega)
theorem lack2 {t x c : Int} (h : x - c ≤ t) : lackB (L2 t) x c = false := by unfold lackB; rw [since2 h]; rfl
theorem lack2n {t x c : Int} (h : ¬ x - c ≤ t) : lackB (L2 t) x c = true := by unfold lackB; rw [since2n h]; rfl
theorem lack0 (x c : Int) : lackB [] x c = true := rfl
theorem frR_lt {L : List Hr} (t0 : Int) : ∀ k t r, frR L t0 k t = some r → r < t0 + 691200
 | 0, t, r, h => by simp [frR] at h
 | k + 1, t, r, h => by
  unfold frR at h
  split at h
  ·split at h
   ·exact frR_lt t0 k _ r h
   ·rename_i h1 _
    simp only [Option.some.injEq] at h
    omega
  ·simp at h
theorem frC_lt {L : List Hr} (ho : okH L) {k : Nat} {t r : Int} (hk : 100000000 < t + k) (h : frC L k t = some r) : r < t + 691200 := by
 rw [fr_eq ho hk (m := 691201) (by decide)] at h
 exact frR_lt t _ _ _ h
theorem frC_free {L : List Hr} {k : Nat} {r : Int} (h0 : protB L r = false) (h1 : r ≤ 100000000) (hk : 100000000 < r + k) : frC L k r = some r := by
 cases k with
 | zero => omega
 | succ k =>
  show (if r ≤ 100000000 then (if protB L r = true then _ else some r) else none) = _
  rw [if_pos h1, if_neg (by rw [h0]; decide)]
end
end Go.Proofs.YtneaafigbnjceaaGreatDoor
end
