/-
  Part of the proof: SeFa, SeFb, SeFc, SePa.
-/
import Derived.Test.YtbmcfhkedgpldaaGreatDoorSeZE

/-! SeFa -/
section
open Go Go.Ev
namespace Go.Proofs.YtbmcfhkedgpldaaGreatDoor
noncomputable section
set_option maxRecDepth 100000
set_option maxHeartbeats 20000000
def st151n  (_j : Nat → Value) : St := startK Tryz.f151 [] [.e (.one nanD)]
def st151 (r : Nat) (_e : Bool) (_j : Nat → Value) : St := startK Tryz.f151 [] [.e (.one (dC r))]
def st154 (r _a : Nat) (_j : Nat → Value) : St := startK Tryz.f154 [] [.e (.one (dC r))]
def st152 (r _a : Nat) (_e : Bool) (_j : Nat → Value) : St := startK Tryz.f152 [] [.e (.one (dC r)), iI 0]
def st153 (x _y : AC) (_j : Nat → Value) : St := startK Tryz.f153 [] [.e (.one x)]
def st88 (b _r : Nat) (_e : Int) (_j : Nat → Value) : St := startK Tryz.f88 [] [.e (.one (fC b))]
def st89 (b _r _y _z _a _l : Nat) (L _e : Int) (_j : Nat → Value) : St := startK Tryz.f89 [] [.e (.one (fC b)), iI L]
def st24 (b : Nat) (_f _g _e : Int) (_j : Nat → Value) : St := startK Tryz.f24 [] [.e (.one (fC b))]
def st90_1024 (b _r _q : Nat) (_n _e : Int) (_j : Nat → Value) : St := startK Tryz.f90 [] [.e (.one (fC b)), iI 1024]
def st25 (b : Nat) (_e : Int) (_j : Nat → Value) : St := startK Tryz.f25 [] [.e (.one (fC b))]
def st106 (b _r : Nat) (_n : Int) (_j : Nat → Value) : St := startK Tryz.f106 [] [.e (.one (fC b))]
def st65 (b _r : Nat) (_n : Int) (_j : Nat → Value) : St := startK Tryz.f65 [] [.e (.one (fC b))]
def st101 (n : Int) (_r _q : Nat) (_j : Nat → Value) : St := startK Tryz.f101 [] [iI n]
def st64 (n : Int) (_r _q : Nat) (_j : Nat → Value) : St := startK Tryz.f64 [] [iI n]
def c151n_end  (j : Nat → Value) : St := ⟨[], [(.code .ret)], mkT j [(2, (iB true))] 6 0⟩
theorem c151n (hE : EnvOk E)  (h0 : BinOk E.P BinOp.neq (219 : Nat) (Operand.tmp (3 : Nat)) (Operand.tmp (4 : Nat)) (AC.any (nanP FloatKind.f64)) (AC.any (nanP FloatKind.f64)) (AC.v (Value.bool true))) {Φ : Res → Prop} (ho : ∀ j, OutK E 0 0 (c151n_end  j) Φ) (j : Nat → Value) : OutK E 0 0 (st151n  j) Φ :=
 outK_seg hE (R0_ok hE) [.run 3, (.ops [(2, (.fb (.v (.bool true))))] [])] [2] (fun j => by kernel_rfl) (aP h0 <| aZ)
  ho
def c151_end (_r : Nat) (e : Bool) (j : Nat → Value) : St := ⟨[], [(.code .ret)], mkT j [(2, (iB (e)))] 6 0⟩
theorem c151 (hE : EnvOk E) (r : Nat) (e : Bool) (h0 : ((iB (FloatKind.f64.format.order r r != some Ordering.eq)) : AV) = (iB (e))) {Φ : Res → Prop} (ho : ∀ j, OutK E 0 0 (c151_end r e j) Φ) (j : Nat → Value) : OutK E 0 0 (st151 r e j) Φ :=
 outK_seg hE (R0_ok hE) [.run 3, (.ops [(2, (.rn (iB (e))))] [])] [2] (fun j => by kernel_rfl) (aP h0 <| aZ)
  ho
def c154_end (_r a : Nat) (j : Nat → Value) : St := ⟨[], [(.code .ret)], mkT j [(2, (.e (.one (.v (.float .f64 (a))))))] 7 0⟩
theorem c154 (hE : EnvOk E) (r a : Nat) (h0 : BinOk E.P BinOp.andNot (239 : Nat) (Operand.tmp (4 : Nat)) (Operand.const (Value.int IntKind.u64 (9223372036854775808 : Int))) (AC.v (Value.int IntKind.u64 (↑r : Int))) (AC.v (Value.int IntKind.u64 (9223372036854775808 : Int))) (AC.v (Value.int IntKind.u64 (Int.ofNat a)))) (h1 : ((.e (.one (.v (.float .f64 ((Int.ofNat a).toNat))))) : AV) = (.e (.one (.v (.float .f64 (a)))))) {Φ : Res → Prop} (ho : ∀ j, OutK E 0 0 (c154_end r a j) Φ) (j : Nat → Value) : OutK E 0 0 (st154 r a j) Φ :=
 outK_seg hE (R0_ok hE) [.run 3, (.ops [(2, (.fb (.v (.int .u64 (Int.ofNat a))))), (3, (.rn (.e (.one (.v (.float .f64 (a)))))))] [])] [2] (fun j => by kernel_rfl) (aP h0 <| aP h1 <| aZ)
  ho
def c152_end (_r _a : Nat) (e : Bool) (j : Nat → Value) : St := ⟨[], [(.code .ret)], mkT j [(4, (iB (e)))] 15 0⟩
theorem c152 (hE : EnvOk E) (r a : Nat) (e : Bool) (h0 : COut E 0 [] 154 [(.e (.one (.v (.float .f64 (r)))))] (.e (.one (.v (.float .f64 (a))))) []) (h2 : ((iB (FloatKind.f64.format.order a (9218868437227405311 : Nat) == some Ordering.gt)) : AV) = (iB (e))) {Φ : Res → Prop} (ho : ∀ j, OutK E 0 0 (c152_end r a e j) Φ) (j : Nat → Value) : OutK E 0 0 (st152 r a e j) Φ :=
 outK_seg hE (R0_ok hE) [.run 6, (.ops [(1, (.c0 (.e (.one (.v (.float .f64 (a)))))))] []), .run 1, (.ops [(1, (.rn (iB (e))))] [])] [4] (fun j => by kernel_rfl) (aP h0 <| aN <| aP h2 <| aZ)
  ho
def c153_end (_x y : AC) (j : Nat → Value) : St := ⟨[], [(.code .ret), (.code (atC [1, 1] (bodyOf Tryz.f153)))], mkT j [(2, (.e (.one (y))))] 7 0⟩
theorem c153 (hE : EnvOk E) (x y : AC) (h0 : ExtOk E.P 170 [(.e (.one (x)))] y) {Φ : Res → Prop} (ho : ∀ j, OutK E 0 0 (c153_end x y j) Φ) (j : Nat → Value) : OutK E 0 0 (st153 x y j) Φ :=
 outK_seg hE (R0_ok hE) [.run 5, (.ops [(0, .go), (1, (.fx (y)))] [])] [2] (fun j => by kernel_rfl) (aP h0 <| aZ)
  ho
def c88n_end (_b _r : Nat) (e : Int) (j : Nat → Value) : St := ⟨[], [(.code .ret)], mkT j [(2, (iI (e)))] 13 0⟩
theorem c88n (hE : EnvOk E) (b r : Nat) (e : Int) (h0 : ConvOk E.P (23 : Nat) (219 : Nat) (AC.v (Value.float FloatKind.f32 b)) nanD) (h1 : COut E 0 [] 151 [(.e (.one (.any (nanP FloatKind.f64))))] (iB true) []) (h3 : COut E 0 [] 85 [(iB true), (iI 1)] (iI (e)) []) {Φ : Res → Prop} (ho : ∀ j, OutK E 0 0 (c88n_end b r e j) Φ) (j : Nat → Value) : OutK E 0 0 (st88 b r e j) Φ :=
 outK_seg hE (R0_ok hE) [.run 3, (.ops [(1, (.fc (.any (nanP FloatKind.f64))))] []), .run 1, (.ops [(1, (.c0 (iB true))), (6, (.c0 (iI (e))))] [])] [2] (fun j => by kernel_rfl) (aP h0 <| aP h1 <| aN <| aP h3 <| aN <| aZ)
  ho
def c88f_end (_b _r : Nat) (e : Int) (j : Nat → Value) : St := ⟨[], [(.code .ret)], mkT j [(2, (iI (e)))] 13 0⟩
theorem c88f (hE : EnvOk E) (b r : Nat) (e : Int) (h0 : ConvOk E.P (23 : Nat) (219 : Nat) (AC.v (Value.float FloatKind.f32 b)) (dC r)) (h1 : COut E 0 [] 151 [(.e (.one (.v (.float .f64 (r)))))] (iB false) []) (h3 : COut E 0 [] 152 [(.e (.one (.v (.float .f64 (r))))), (iI 0)] (iB false) []) (h5 : COut E 0 [] 85 [(iB false), (iI 1)] (iI (e)) []) {Φ : Res → Prop} (ho : ∀ j, OutK E 0 0 (c88f_end b r e j) Φ) (j : Nat → Value) : OutK E 0 0 (st88 b r e j) Φ :=
 outK_seg hE (R0_ok hE) [.run 3, (.ops [(1, (.fc (.v (.float .f64 (r)))))] []), .run 1, (.ops [(1, (.c0 (iB false))), (4, (.c0 (iB false))), (6, (.c0 (iI (e))))] [])] [2] (fun j => by kernel_rfl) (aP h0 <| aP h1 <| aN <| aP h3 <| aN <| aP h5 <| aN <| aZ)
  ho
def c88i_end (_b _r : Nat) (e : Int) (j : Nat → Value) : St := ⟨[], [(.code .ret)], mkT j [(2, (iI (e)))] 13 0⟩
theorem c88i (hE : EnvOk E) (b r : Nat) (e : Int) (h0 : ConvOk E.P (23 : Nat) (219 : Nat) (AC.v (Value.float FloatKind.f32 b)) (dC r)) (h1 : COut E 0 [] 151 [(.e (.one (.v (.float .f64 (r)))))] (iB false) []) (h3 : COut E 0 [] 152 [(.e (.one (.v (.float .f64 (r))))), (iI 0)] (iB true) []) (h5 : COut E 0 [] 85 [(iB true), (iI 1)] (iI (e)) []) {Φ : Res → Prop} (ho : ∀ j, OutK E 0 0 (c88i_end b r e j) Φ) (j : Nat → Value) : OutK E 0 0 (st88 b r e j) Φ :=
 outK_seg hE (R0_ok hE) [.run 3, (.ops [(1, (.fc (.v (.float .f64 (r)))))] []), .run 1, (.ops [(1, (.c0 (iB false))), (4, (.c0 (iB true))), (6, (.c0 (iI (e))))] [])] [2] (fun j => by kernel_rfl) (aP h0 <| aP h1 <| aN <| aP h3 <| aN <| aP h5 <| aN <| aZ)
  ho
def c89n_end (_b _r _y _z _a _l : Nat) (_L e : Int) (j : Nat → Value) : St := ⟨[], [(.code .ret)], mkT j [(4, (iI (e)))] 22 0⟩
theorem c89n (hE : EnvOk E) (b r y z a l : Nat) (L e : Int) (h0 : ConvOk E.P (23 : Nat) (219 : Nat) (AC.v (Value.float FloatKind.f32 b)) nanD) (h1 : BinOk E.P BinOp.mul (219 : Nat) (Operand.const (Value.float FloatKind.f64 (4625196817309499392 : Nat))) (Operand.tmp (7 : Nat)) (AC.v (Value.float FloatKind.f64 (4625196817309499392 : Nat))) nanD nanD) (h2 : COut E 0 [] 153 [(.e (.one (.any (nanP FloatKind.f64))))] (.e (.one (.any (nanP FloatKind.f64)))) []) (h4 : BinOk E.P BinOp.neq (219 : Nat) (Operand.tmp (9 : Nat)) (Operand.tmp (11 : Nat)) (AC.any (nanP FloatKind.f64)) nanD (AC.v (Value.bool true))) (h5 : COut E 0 [] 85 [(iB true), (iI 3)] (iI (e)) []) {Φ : Res → Prop} (ho : ∀ j, OutK E 0 0 (c89n_end b r y z a l L e j) Φ) (j : Nat → Value) : OutK E 0 0 (st89 b r y z a l L e j) Φ :=
 outK_seg hE (R0_ok hE) [.run 3, (.ops [(1, (.fc (.any (nanP FloatKind.f64)))), (2, (.fb (.any (nanP FloatKind.f64))))] []), .run 1, (.ops [(2, (.c0 (.e (.one (.any (nanP FloatKind.f64)))))), (3, (.fb (.v (.bool true)))), (12, (.c0 (iI (e))))] [])] [4] (fun j => by kernel_rfl) (aP h0 <| aP h1 <| aP h2 <| aN <| aP h4 <| aP h5 <| aN <| aZ)
  ho
def c89t_end (_b _r _y _z _a _l : Nat) (_L e : Int) (j : Nat → Value) : St := ⟨[], [(.code .ret)], mkT j [(4, (iI (e)))] 22 0⟩
theorem c89t (hE : EnvOk E) (b r y z a l : Nat) (L e : Int) (h0 : ConvOk E.P (23 : Nat) (219 : Nat) (AC.v (Value.float FloatKind.f32 b)) (dC r)) (h1 : BinOk E.P BinOp.mul (219 : Nat) (Operand.const (Value.float FloatKind.f64 (4625196817309499392 : Nat))) (Operand.tmp (7 : Nat)) (AC.v (Value.float FloatKind.f64 (4625196817309499392 : Nat))) (dC r) (dC y)) (h2 : COut E 0 [] 153 [(.e (.one (.v (.float .f64 (y)))))] (.e (.one (.v (.float .f64 (z))))) []) (h4 : ((iB (FloatKind.f64.format.order y z != some Ordering.eq)) : AV) = (iB true)) (h5 : COut E 0 [] 85 [(iB true), (iI 3)] (iI (e)) []) {Φ : Res → Prop} (ho : ∀ j, OutK E 0 0 (c89t_end b r y z a l L e j) Φ) (j : Nat → Value) : OutK E 0 0 (st89 b r y z a l L e j) Φ :=
 outK_seg hE (R0_ok hE) [.run 3, (.ops [(1, (.fc (.v (.float .f64 (r))))), (2, (.fb (.v (.float .f64 (y)))))] []), .run 1, (.ops [(2, (.c0 (.e (.one (.v (.float .f64 (z))))))), (3, (.rn (iB true))), (12, (.c0 (iI (e))))] [])] [4] (fun j => by kernel_rfl) (aP h0 <| aP h1 <| aP h2 <| aN <| aP h4 <| aP h5 <| aN <| aZ)
  ho
def c89f_end (_b _r _y _z _a _l : Nat) (_L e : Int) (j : Nat → Value) : St := ⟨[], [(.code .ret)], mkT j [(4, (iI (e)))] 22 0⟩
theorem c89f (hE : EnvOk E) (b r y z a l : Nat) (L e : Int) (h0 : ConvOk E.P (23 : Nat) (219 : Nat) (AC.v (Value.float FloatKind.f32 b)) (dC r)) (h1 : BinOk E.P BinOp.mul (219 : Nat) (Operand.const (Value.float FloatKind.f64 (4625196817309499392 : Nat))) (Operand.tmp (7 : Nat)) (AC.v (Value.float FloatKind.f64 (4625196817309499392 : Nat))) (dC r) (dC y)) (h2 : COut E 0 [] 153 [(.e (.one (.v (.float .f64 (y)))))] (.e (.one (.v (.float .f64 (z))))) []) (h4 : ((iB (FloatKind.f64.format.order y z != some Ordering.eq)) : AV) = (iB false)) (h5 : COut E 0 [] 154 [(.e (.one (.v (.float .f64 (y)))))] (.e (.one (.v (.float .f64 (a))))) []) (h7 : ((iI (wrapF IntKind.i64 ((16 : Int) * L))) : AV) = (iI ((16 : Int) * L))) (h8 : ConvOk E.P (3 : Nat) (219 : Nat) (AC.v (Value.int IntKind.i64 ((16 : Int) * L))) (dC l)) (h9 : COut E 0 [] 85 [(iB (FloatKind.f64.format.order a l == some Ordering.gt)), (iI 3)] (iI (e)) []) {Φ : Res → Prop} (ho : ∀ j, OutK E 0 0 (c89f_end b r y z a l L e j) Φ) (j : Nat → Value) : OutK E 0 0 (st89 b r y z a l L e j) Φ :=
 outK_seg hE (R0_ok hE) [.run 3, (.ops [(1, (.fc (.v (.float .f64 (r))))), (2, (.fb (.v (.float .f64 (y)))))] []), .run 1, (.ops [(2, (.c0 (.e (.one (.v (.float .f64 (z))))))), (3, (.rn (iB false))), (6, (.c0 (.e (.one (.v (.float .f64 (a))))))), (8, (.rn (iI ((16 : Int) * L)))), (9, (.fc (.v (.float .f64 (l))))), (12, (.c0 (iI (e))))] [])] [4] (fun j => by kernel_rfl) (aP h0 <| aP h1 <| aP h2 <| aN <| aP h4 <| aP h5 <| aN <| aP h7 <| aP h8 <| aP h9 <| aN <| aZ)
  ho
def c24_end (_b : Nat) (_f _g e : Int) (j : Nat → Value) : St := ⟨[], [(.code .ret)], mkT j [(2, (iI (e)))] 9 0⟩
theorem c24 (hE : EnvOk E) (b : Nat) (f g e : Int) (h0 : COut E 0 [] 88 [(.e (.one (.v (.float .f32 (b)))))] (iI (f)) []) (h2 : COut E 0 [] 89 [(.e (.one (.v (.float .f32 (b))))), (iI 1024)] (iI (g)) []) (h4 : COut E 1 [(.some ⟨[(.v (.int .i64 (f))), (.v (.int .i64 (g)))], 2, 26, true, .cells⟩)] 79 [(.e (.one (.slc 0 0 2 1 2 true)))] (iI (e)) [(.some ⟨[(.v (.int .i64 (f))), (.v (.int .i64 (g)))], 2, 26, true, .cells⟩)]) {Φ : Res → Prop} (ho : ∀ j, OutK E 0 0 (c24_end b f g e j) Φ) (j : Nat → Value) : OutK E 0 0 (st24 b f g e j) Φ :=
 outK_seg hE (R0_ok hE) [.run 3, (.ops [(1, (.c0 (iI (f)))), (3, (.c0 (iI (g)))), (5, (.d (.c1 (iI (e)))))] [])] [2] (s' := fun j => ⟨[(.some ⟨[(.v (.int .i64 (f))), (.v (.int .i64 (g)))], 2, 26, true, .cells⟩)], [(.code .ret)], mkT j [(2, (iI (e)))] 9 0⟩) (fun j => by kernel_rfl) (aP h0 <| aN <| aP h2 <| aN <| aP h4 <| aN <| aZ)
  fun j => outK_gc [] (by decide) (by kernel_rfl) (by kernel_rfl) (by kernel_rfl) (ho j)
def c90n_1024_end (_b _r _q : Nat) (_n _e : Int) (j : Nat → Value) : St := ⟨[], [(.code .ret), (.code (atC [1, 1] (bodyOf Tryz.f90)))], mkT j [(4, (iI 1))] 35 0⟩
theorem c90n_1024 (hE : EnvOk E) (b r q : Nat) (n e : Int) (h0 : ((iB (FloatKind.f32.format.order b b != some Ordering.eq)) : AV) = (iB true)) {Φ : Res → Prop} (ho : ∀ j, OutK E 0 0 (c90n_1024_end b r q n e j) Φ) (j : Nat → Value) : OutK E 0 0 (st90_1024 b r q n e j) Φ :=
 outK_seg hE (R0_ok hE) [.run 4, (.ops [(2, (.rn (iB true)))] []), .run 3] [4] (fun j => by kernel_rfl) (aP h0 <| aZ)
  ho
def c90p_1024_end (_b _r _q : Nat) (_n _e : Int) (j : Nat → Value) : St := ⟨[], [(.code .ret), (.code (atC [1, 1] (bodyOf Tryz.f90)))], mkT j [(4, (iI 1))] 35 0⟩
theorem c90p_1024 (hE : EnvOk E) (b r q : Nat) (n e : Int) (h0 : ((iB (FloatKind.f32.format.order b b != some Ordering.eq)) : AV) = (iB false)) (h1 : ((iB (FloatKind.f32.format.order b (2139095039 : Nat) == some Ordering.gt)) : AV) = (iB true)) {Φ : Res → Prop} (ho : ∀ j, OutK E 0 0 (c90p_1024_end b r q n e j) Φ) (j : Nat → Value) : OutK E 0 0 (st90_1024 b r q n e j) Φ :=
 outK_seg hE (R0_ok hE) [.run 4, (.ops [(2, (.rn (iB false))), (5, (.rn (iB true)))] []), .run 3] [4] (fun j => by kernel_rfl) (aP h0 <| aP h1 <| aZ)
  ho
def c90m_1024_end (_b _r _q : Nat) (_n _e : Int) (j : Nat → Value) : St := ⟨[], [(.code .ret), (.code (atC [1, 1] (bodyOf Tryz.f90)))], mkT j [(4, (iI 1))] 35 0⟩
theorem c90m_1024 (hE : EnvOk E) (b r q : Nat) (n e : Int) (h0 : ((iB (FloatKind.f32.format.order b b != some Ordering.eq)) : AV) = (iB false)) (h1 : ((iB (FloatKind.f32.format.order b (2139095039 : Nat) == some Ordering.gt)) : AV) = (iB false)) (h2 : ((iB (FloatKind.f32.format.order b (4286578687 : Nat) == some Ordering.lt)) : AV) = (iB true)) {Φ : Res → Prop} (ho : ∀ j, OutK E 0 0 (c90m_1024_end b r q n e j) Φ) (j : Nat → Value) : OutK E 0 0 (st90_1024 b r q n e j) Φ :=
 outK_seg hE (R0_ok hE) [.run 4, (.ops [(2, (.rn (iB false))), (5, (.rn (iB false))), (9, (.rn (iB true)))] []), .run 3] [4] (fun j => by kernel_rfl) (aP h0 <| aP h1 <| aP h2 <| aZ)
  ho
def c90g_1024_end (_b _r _q : Nat) (_n _e : Int) (j : Nat → Value) : St := ⟨[], [(.code .ret), (.code (atC [1, 1, 1] (bodyOf Tryz.f90)))], mkT j [(4, (iI 3))] 35 0⟩
theorem c90g_1024 (hE : EnvOk E) (b r q : Nat) (n e : Int) (h0 : ((iB (FloatKind.f32.format.order b b != some Ordering.eq)) : AV) = (iB false)) (h1 : ((iB (FloatKind.f32.format.order b (2139095039 : Nat) == some Ordering.gt)) : AV) = (iB false)) (h2 : ((iB (FloatKind.f32.format.order b (4286578687 : Nat) == some Ordering.lt)) : AV) = (iB false)) (h3 : ((iB (FloatKind.f32.format.order b (1149239296 : Nat) == some Ordering.gt)) : AV) = (iB true)) {Φ : Res → Prop} (ho : ∀ j, OutK E 0 0 (c90g_1024_end b r q n e j) Φ) (j : Nat → Value) : OutK E 0 0 (st90_1024 b r q n e j) Φ :=
 outK_seg hE (R0_ok hE) [.run 4, (.ops [(2, (.rn (iB false))), (5, (.rn (iB false))), (9, (.rn (iB false)))] []), .run 4, (.ops [(3, (.rn (iB true)))] []), .run 3] [4] (fun j => by kernel_rfl) (aP h0 <| aP h1 <| aP h2 <| aP h3 <| aZ)
  ho
def c90l_1024_end (_b _r _q : Nat) (_n _e : Int) (j : Nat → Value) : St := ⟨[], [(.code .ret), (.code (atC [1, 1, 1] (bodyOf Tryz.f90)))], mkT j [(4, (iI 3))] 35 0⟩
theorem c90l_1024 (hE : EnvOk E) (b r q : Nat) (n e : Int) (h0 : ((iB (FloatKind.f32.format.order b b != some Ordering.eq)) : AV) = (iB false)) (h1 : ((iB (FloatKind.f32.format.order b (2139095039 : Nat) == some Ordering.gt)) : AV) = (iB false)) (h2 : ((iB (FloatKind.f32.format.order b (4286578687 : Nat) == some Ordering.lt)) : AV) = (iB false)) (h3 : ((iB (FloatKind.f32.format.order b (1149239296 : Nat) == some Ordering.gt)) : AV) = (iB false)) (h4 : ((iB (FloatKind.f32.format.order b (3296722944 : Nat) == some Ordering.lt)) : AV) = (iB true)) {Φ : Res → Prop} (ho : ∀ j, OutK E 0 0 (c90l_1024_end b r q n e j) Φ) (j : Nat → Value) : OutK E 0 0 (st90_1024 b r q n e j) Φ :=
 outK_seg hE (R0_ok hE) [.run 4, (.ops [(2, (.rn (iB false))), (5, (.rn (iB false))), (9, (.rn (iB false)))] []), .run 4, (.ops [(3, (.rn (iB false))), (9, (.rn (iB true)))] []), .run 3] [4] (fun j => by kernel_rfl) (aP h0 <| aP h1 <| aP h2 <| aP h3 <| aP h4 <| aZ)
  ho
def c90f_1024_end (_b _r _q : Nat) (_n e : Int) (j : Nat → Value) : St := ⟨[], [(.code .ret)], mkT j [(4, (iI (e)))] 35 0⟩
theorem c90f_1024 (hE : EnvOk E) (b r q : Nat) (n e : Int) (h0 : ((iB (FloatKind.f32.format.order b b != some Ordering.eq)) : AV) = (iB false)) (h1 : ((iB (FloatKind.f32.format.order b (2139095039 : Nat) == some Ordering.gt)) : AV) = (iB false)) (h2 : ((iB (FloatKind.f32.format.order b (4286578687 : Nat) == some Ordering.lt)) : AV) = (iB false)) (h3 : ((iB (FloatKind.f32.format.order b (1149239296 : Nat) == some Ordering.gt)) : AV) = (iB false)) (h4 : ((iB (FloatKind.f32.format.order b (3296722944 : Nat) == some Ordering.lt)) : AV) = (iB false)) (h5 : BinOk E.P BinOp.mul (23 : Nat) (Operand.const (Value.float FloatKind.f32 (1098907648 : Nat))) (Operand.tmp (27 : Nat)) (AC.v (Value.float FloatKind.f32 (1098907648 : Nat))) (AC.v (Value.float FloatKind.f32 b)) (fC r)) (h6 : ConvOk E.P (23 : Nat) (3 : Nat) (fC r) (AC.v (Value.int IntKind.i64 n))) (h7 : ConvOk E.P (3 : Nat) (23 : Nat) (AC.v (Value.int IntKind.i64 n)) (fC q)) (h8 : BinOk E.P BinOp.mul (23 : Nat) (Operand.const (Value.float FloatKind.f32 (1098907648 : Nat))) (Operand.tmp (31 : Nat)) (AC.v (Value.float FloatKind.f32 (1098907648 : Nat))) (AC.v (Value.float FloatKind.f32 b)) (fC r)) (h9 : COut E 0 [] 82 [(iB (FloatKind.f32.format.order q r != some Ordering.eq)), (iI 3)] (iI (e)) []) {Φ : Res → Prop} (ho : ∀ j, OutK E 0 0 (c90f_1024_end b r q n e j) Φ) (j : Nat → Value) : OutK E 0 0 (st90_1024 b r q n e j) Φ :=
 outK_seg hE (R0_ok hE) [.run 4, (.ops [(2, (.rn (iB false))), (5, (.rn (iB false))), (9, (.rn (iB false)))] []), .run 4, (.ops [(3, (.rn (iB false))), (9, (.rn (iB false)))] []), .run 3, (.ops [(1, (.fb (.v (.float .f32 (r))))), (2, (.fc (.v (.int .i64 (n))))), (3, (.fc (.v (.float .f32 (q))))), (5, (.fb (.v (.float .f32 (r))))), (7, (.c0 (iI (e))))] [])] [4] (fun j => by kernel_rfl) (aP h0 <| aP h1 <| aP h2 <| aP h3 <| aP h4 <| aP h5 <| aP h6 <| aP h7 <| aP h8 <| aP h9 <| aN <| aZ)
  ho
def c25_end (_b : Nat) (e : Int) (j : Nat → Value) : St := ⟨[], [(.code .ret)], mkT j [(2, (iI (e)))] 5 0⟩
theorem c25 (hE : EnvOk E) (b : Nat) (e : Int) (h0 : COut E 0 [] 90 [(.e (.one (.v (.float .f32 (b))))), (iI 1024)] (iI (e)) []) {Φ : Res → Prop} (ho : ∀ j, OutK E 0 0 (c25_end b e j) Φ) (j : Nat → Value) : OutK E 0 0 (st25 b e j) Φ :=
 outK_seg hE (R0_ok hE) [.run 3, (.ops [(1, (.c0 (iI (e))))] [])] [2] (fun j => by kernel_rfl) (aP h0 <| aN <| aZ)
  ho
def c106_end (_b _r : Nat) (n : Int) (j : Nat → Value) : St := ⟨[], [(.code .ret)], mkT j [(2, (iI (n)))] 6 0⟩
theorem c106 (hE : EnvOk E) (b r : Nat) (n : Int) (h0 : BinOk E.P BinOp.mul (23 : Nat) (Operand.const (Value.float FloatKind.f32 (1098907648 : Nat))) (Operand.tmp (3 : Nat)) (AC.v (Value.float FloatKind.f32 (1098907648 : Nat))) (AC.v (Value.float FloatKind.f32 b)) (fC r)) (h1 : ConvOk E.P (23 : Nat) (3 : Nat) (fC r) (AC.v (Value.int IntKind.i64 n))) {Φ : Res → Prop} (ho : ∀ j, OutK E 0 0 (c106_end b r n j) Φ) (j : Nat → Value) : OutK E 0 0 (st106 b r n j) Φ :=
 outK_seg hE (R0_ok hE) [.run 3, (.ops [(1, (.fb (.v (.float .f32 (r))))), (2, (.fc (.v (.int .i64 (n)))))] [])] [2] (fun j => by kernel_rfl) (aP h0 <| aP h1 <| aZ)
  ho
def c65_end (_b _r : Nat) (n : Int) (j : Nat → Value) : St := ⟨[], [(.code .ret)], mkT j [(2, (iI (n)))] 6 0⟩
theorem c65 (hE : EnvOk E) (b r : Nat) (n : Int) (h0 : BinOk E.P BinOp.mul (23 : Nat) (Operand.const (Value.float FloatKind.f32 (1098907648 : Nat))) (Operand.tmp (3 : Nat)) (AC.v (Value.float FloatKind.f32 (1098907648 : Nat))) (AC.v (Value.float FloatKind.f32 b)) (fC r)) (h1 : ConvOk E.P (23 : Nat) (3 : Nat) (fC r) (AC.v (Value.int IntKind.i64 n))) {Φ : Res → Prop} (ho : ∀ j, OutK E 0 0 (c65_end b r n j) Φ) (j : Nat → Value) : OutK E 0 0 (st65 b r n j) Φ :=
 outK_seg hE (R0_ok hE) [.run 3, (.ops [(1, (.fb (.v (.float .f32 (r))))), (2, (.fc (.v (.int .i64 (n)))))] [])] [2] (fun j => by kernel_rfl) (aP h0 <| aP h1 <| aZ)
  ho
def c101_end (_n : Int) (_r q : Nat) (j : Nat → Value) : St := ⟨[], [(.code .ret)], mkT j [(2, (.e (.one (.v (.float .f32 (q))))))] 6 0⟩
theorem c101 (hE : EnvOk E) (n : Int) (r q : Nat) (h0 : ConvOk E.P (3 : Nat) (23 : Nat) (AC.v (Value.int IntKind.i64 n)) (fC r)) (h1 : BinOk E.P BinOp.quo (23 : Nat) (Operand.tmp (4 : Nat)) (Operand.const (Value.float FloatKind.f32 (1098907648 : Nat))) (fC r) (AC.v (Value.float FloatKind.f32 (1098907648 : Nat))) (fC q)) {Φ : Res → Prop} (ho : ∀ j, OutK E 0 0 (c101_end n r q j) Φ) (j : Nat → Value) : OutK E 0 0 (st101 n r q j) Φ :=
 outK_seg hE (R0_ok hE) [.run 3, (.ops [(1, (.fc (.v (.float .f32 (r))))), (2, (.fb (.v (.float .f32 (q)))))] [])] [2] (fun j => by kernel_rfl) (aP h0 <| aP h1 <| aZ)
  ho
def c64_end (_n : Int) (_r q : Nat) (j : Nat → Value) : St := ⟨[], [(.code .ret)], mkT j [(2, (.e (.one (.v (.float .f32 (q))))))] 6 0⟩
theorem c64 (hE : EnvOk E) (n : Int) (r q : Nat) (h0 : ConvOk E.P (3 : Nat) (23 : Nat) (AC.v (Value.int IntKind.i64 n)) (fC r)) (h1 : BinOk E.P BinOp.quo (23 : Nat) (Operand.tmp (4 : Nat)) (Operand.const (Value.float FloatKind.f32 (1098907648 : Nat))) (fC r) (AC.v (Value.float FloatKind.f32 (1098907648 : Nat))) (fC q)) {Φ : Res → Prop} (ho : ∀ j, OutK E 0 0 (c64_end n r q j) Φ) (j : Nat → Value) : OutK E 0 0 (st64 n r q j) Φ :=
 outK_seg hE (R0_ok hE) [.run 3, (.ops [(1, (.fc (.v (.float .f32 (r))))), (2, (.fb (.v (.float .f32 (q)))))] [])] [2] (fun j => by kernel_rfl) (aP h0 <| aP h1 <| aZ)
  ho
open Ieee
theorem iBe {a b : Bool} (h : a = b) : (iB a : AV) = iB b := by rw [h]
theorem u23 : E.P.underlying 23 = some (.float .f32) := by kernel_rfl
theorem u219 : E.P.underlying 219 = some (.float .f64) := by kernel_rfl
theorem u3 : E.P.underlying 3 = some (.int .i64) := by kernel_rfl
theorem cmp_eq (V : Int) : compare V V = .eq := by simp [compare, compareOfLessAndEq]
theorem cmp_eq_iff {V W : Int} : (some (compare V W) == some Ordering.eq) = decide (V = W) := by
 simp only [compare, compareOfLessAndEq]
 by_cases h : V < W
 ·simp [h]; omega
 ·by_cases e : V = W
  ·simp [e]
  ·simp [h, e]
theorem cmp_gt_iff {V W : Int} : (some (compare V W) == some Ordering.gt) = decide (W < V) := by
 simp only [compare, compareOfLessAndEq]
 by_cases h : V < W
 ·simp [h]; omega
 ·by_cases e : V = W
  ·simp [e]
  ·simp [h, e]; omega
theorem cmp_lt_iff {V W : Int} : (some (compare V W) == some Ordering.lt) = decide (V < W) := by
 simp only [compare, compareOfLessAndEq]
 by_cases h : V < W
 ·simp [h]
 ·by_cases e : V = W
  ·simp [e]
  ·simp [h, e]
theorem k151n (hE : EnvOk E) : COut E 0 [] 151 [.e (.one nanD)] (iB true) [] :=
 cOut_start Tryz.func151 rfl (c151n hE neq_nan (fun j => outK_ret (ends_ret (by kernel_rfl))) fun _ => undef)
theorem k151 (hE : EnvOk E) {r : Nat} (h : double.order r r = some .eq) : COut E 0 [] 151 [.e (.one (dC r))] (iB false) [] :=
 cOut_start Tryz.func151 rfl (c151 hE r false (iBe (by show (double.order r r != some Ordering.eq) = false; rw [h]; rfl)) (fun j => outK_ret (ends_ret (by kernel_rfl))) fun _ => undef)
theorem k154 (hE : EnvOk E) {r : Nat} (h : r < 2 ^ 64) : COut E 0 [] 154 [.e (.one (dC r))] (.e (.one (dC (r % 2 ^ 63)))) [] :=
 cOut_start Tryz.func154 rfl (c154 hE r (r % 2 ^ 63) (andNot_ok h) (by rw [show (Int.ofNat (r % 2 ^ 63)).toNat = r % 2 ^ 63 from rfl]) (fun j => outK_ret (ends_ret (by kernel_rfl))) fun _ => undef)
theorem k152 (hE : EnvOk E) {r : Nat} (h : r < 2 ^ 64) {e : Bool} (he : (double.order (r % 2 ^ 63) 9218868437227405311 == some .gt) = e) : COut E 0 [] 152 [.e (.one (dC r)), iI 0] (iB e) [] :=
 cOut_start Tryz.func152 rfl (c152 hE r (r % 2 ^ 63) e (k154 hE h) (iBe he) (fun j => outK_ret (ends_ret (by kernel_rfl))) fun _ => undef)
theorem k153n (hE : EnvOk E) : COut E 0 [] 153 [.e (.one nanD)] (.e (.one nanD)) [] :=
 cOut_start Tryz.func153 rfl (c153 hE nanD nanD trunc_nan (fun j => outK_ret (ends_ret (by kernel_rfl))) fun _ => undef)
theorem k153 (hE : EnvOk E) {r : Nat} (h : (double.read r).isNaN = false) : COut E 0 [] 153 [.e (.one (dC r))] (.e (.one (dC (double.write ((double.read r).integral .zero))))) [] :=
 cOut_start Tryz.func153 rfl (c153 hE (dC r) _ (trunc_ok h) (fun j => outK_ret (ends_ret (by kernel_rfl))) fun _ => undef)
theorem fin_num {b : Nat} (h : Num single b (valW b)) : (valW b).natAbs < 2 ^ (128 + EX) := by
 have h1 := read_bound fit_single (by decide) h
 have hX := EX_eq
 have e1 : (single.top + (EX : Int)).toNat = 104 + EX := by rw [top_single]; omega
 rw [e1] at h1
 refine Nat.lt_of_le_of_lt h1 ?_
 rw [show 128 + EX = 24 + (104 + EX) by omega, Nat.pow_add 2 24]
 exact Nat.mul_lt_mul_of_pos_right (by decide) (pow_pos2 _)
theorem num_max : Num double 9218868437227405311 ((2 ^ 53 - 1 : Nat) * 2 ^ (971 + EX) : Nat) := by
 refine ⟨false, 2 ^ 53 - 1, 971, by decide, by decide, by decide, ?_⟩
 have hX := EX_eq
 have : ((971 : Int) + (EX : Int)).toNat = 971 + EX := by omega
 rw [this]
 rfl
theorem ord_max {r : Nat} {V : Int} (h : Num double r V) (hV : 0 ≤ V) (hb : V.natAbs < 2 ^ (128 + EX)) : (double.order r 9218868437227405311 == some .gt) = false := by
 rw [h.order fit_double num_max, cmp_gt_iff]
 apply decide_eq_false
 have hX := EX_eq
 have h1 : (2 : Nat) ^ (128 + EX) ≤ (2 ^ 53 - 1) * 2 ^ (971 + EX) := by
  refine Nat.le_trans (pow_mono (show 128 + EX ≤ 971 + EX by omega)) ?_
  exact Nat.le_mul_of_pos_left _ (by decide)
 omega
theorem inf_word (u : Bool) : double.word u double.infRung < 2 ^ 64 := by cases u <;> decide
theorem word_lt64 {s : Bool} {m : Nat} {e : Int} : double.nearest s m e < 2 ^ 64 := write_lt double (by decide) (.number s m e)
theorem lt64 {a b r : Nat} (h : double.mul a b = some r) : r < 2 ^ 64 := mul_lt (f := double) (by decide) h
theorem conv_num' {P : Program} {s d : TypeId} (hs : P.underlying s = some (.float .f32)) (hd : P.underlying d = some (.float .f64)) {b : Nat} (h : finW b = 0) : ∃ r, Num double r (valW b) ∧ r < 2 ^ 64 ∧ ConvOk P s d (fC b) (dC r) := by
 have hn := num_finW h
 obtain ⟨u, g, e, h1, h2⟩ := hn.widen fit_single fit_double (by decide) (by decide) (by decide) (fin_num hn) (by rw [EX_eq]; decide)
 refine ⟨_, h2, word_lt64, ?_⟩
 intro m p w hp
 obtain rfl : p = .float .f32 b := hp
 refine ⟨_, w.drawn, ?_, rfl⟩
 rw [run_conv64 hs hd]
 unfold Conv.floatToFloat
 rw [if_neg (by decide), show FloatKind.f32.decode b = .number u g e from h1]
 have hi : (FloatKind.f64.decode (FloatKind.f64.encode (.number u g e))).isInfinity = false := by
  obtain ⟨u', g', e', k1, _⟩ := h2
  show (double.read (double.nearest u g e)).isInfinity = false
  rw [k1]
  rfl
 simp only [hi, if_false, Bool.false_eq_true]
 rfl
theorem not_fin {b : Nat} (h : finW b ≠ 0) : (single.read b).isNaN = true ∨ ∃ u, single.read b = .infinity u := by
 rcases read_cases (f := single) b with ⟨s, t, h1⟩ | ⟨s, h1⟩ | ⟨V, h1⟩
 ·exact .inl (by rw [h1]; rfl)
 ·exact .inr ⟨s, h1⟩
 ·exact absurd (finW_num h1).1 h
theorem finW_one {b : Nat} (h : finW b ≠ 0) : finW b = 1 := (finW_or b).resolve_left h
theorem k88 (hE : EnvOk E) (b : Nat) : COut E 0 [] 88 [.e (.one (fC b))] (iI (finW b)) [] := by
 by_cases h : finW b = 0
 ·obtain ⟨r, hr, hl, hc⟩ := conv_num' (P := E.P) u23 u219 h
  rw [h]
  have ha : Num double (r % 2 ^ 63) (valW b).natAbs := hr.abs
  refine cOut_start Tryz.func88 rfl (c88f hE b r 0 hc (k151 hE (by rw [hr.order fit_double hr, cmp_eq])) (k152 hE hl (ord_max ha (by omega) (by have := fin_num (num_finW h); omega))) (k107 hE false 1) (fun j => outK_ret (ends_ret (by kernel_rfl))) fun _ => undef)
 ·rw [finW_one h]
  rcases not_fin h with h1 | ⟨u, h1⟩
  ·exact cOut_start Tryz.func88 rfl (c88n hE b 0 1 (conv_nan u23 u219 h1) (k151n hE) (k107 hE true 1) (fun j => outK_ret (ends_ret (by kernel_rfl))) fun _ => undef)
  ·refine cOut_start Tryz.func88 rfl (c88i hE b _ 1 (conv_inf u23 u219 h1) (k151 hE (by cases u <;> decide)) (k152 hE (inf_word u) (by cases u <;> decide)) (k107 hE true 1) (fun j => outK_ret (ends_ret (by kernel_rfl))) fun _ => undef)
theorem num_of_int {k : FloatKind} (hf : Fit k.format) (hE : 3 ≤ 2 ^ k.format.exponentBits) (ht : (k.format.fractionBits : Int) ≤ k.format.top) {n : Int} (hn : n.natAbs < 2 ^ (k.format.fractionBits + 1)) : Num k.format (k.nearest n) (n * KK) := num_int hf hE ht n hn
theorem whole_iff {V : Int} : (V = V.tdiv KK * KK) ↔ V % KK = 0 := by
 have hk := KK_pos
 constructor
 ·intro h
  rw [h]
  exact Int.mul_emod_left _ _
 ·intro h
  rw [Int.mul_comm]
  exact (Int.mul_tdiv_cancel' (Int.dvd_of_emod_eq_zero h)).symm
theorem k89 (hE : EnvOk E) (b : Nat) {L : Nat} (hL : L ≤ 65536) : COut E 0 [] 89 [.e (.one (fC b)), iI (Int.ofNat L)] (iI (mulW L b)) [] := by
 by_cases h : finW b = 0
 ·obtain ⟨r, hr, hl, hc⟩ := conv_num' (P := E.P) u23 u219 h
  have hb := fin_num (num_finW h)
  obtain ⟨y, hy, hn⟩ := hr.mul16 fit_double (by decide) (c := 4625196817309499392) c16_double (by decide) hb (by rw [EX_eq]; decide)
  have hyl := lt64 hy
  have hb16 : (16 * valW b).natAbs < 2 ^ (132 + EX) := by
   rw [Int.natAbs_mul, show (2 : Nat) ^ (132 + EX) = 16 * 2 ^ (128 + EX) by rw [show (16 : Nat) = 2 ^ 4 from rfl, ← Nat.pow_add]; congr 1; omega]
   have : (16 : Int).natAbs = 16 := rfl
   rw [this]
   omega
  have hz := hn.whole fit_double (by decide) (by decide) hb16 (by rw [EX_eq]; decide)
  have hzk := k153 hE hn.notNaN
  generalize double.write ((double.read y).integral .zero) = z at hz hzk
  by_cases h0 : (16 * valW b) % KK = 0
  ·have ha : Num double (y % 2 ^ 63) (16 * valW b).natAbs := hn.abs
   have hLn : Num double (FloatKind.f64.nearest (16 * Int.ofNat L)) (16 * Int.ofNat L * KK) := num_of_int (k := .f64) fit_double (by decide) (by decide) (by
    show (16 * Int.ofNat L).natAbs < 2 ^ 53
    simp only [Int.ofNat_eq_natCast]
    omega)
   have hcmp : (FloatKind.f64.format.order (y % 2 ^ 63) (FloatKind.f64.nearest (16 * Int.ofNat L)) == some Ordering.gt) = decide (¬ (valW b).natAbs ≤ L * KK) := by
    show (double.order (y % 2 ^ 63) (FloatKind.f64.nearest (16 * Int.ofNat L)) == some Ordering.gt) = _
    rw [ha.order fit_double hLn, cmp_gt_iff]
    apply decide_eq_decide.2
    rw [Int.natAbs_mul, Int.ofNat_eq_natCast, Int.mul_assoc, show (16 : Int).natAbs = 16 from rfl, ← Int.natCast_mul]
    omega
   have he : mulW L b = if decide (¬ (valW b).natAbs ≤ L * KK) = true then 3 else 0 := by
    unfold mulW
    by_cases h5 : (valW b).natAbs ≤ L * KK
    ·rw [if_pos ⟨h, h0, h5⟩]; simp [h5]
    ·rw [if_neg fun h6 => h5 h6.2.2]; simp [h5]
   rw [he]
   refine cOut_start Tryz.func89 rfl (c89f hE b r y z (y % 2 ^ 63) (FloatKind.f64.nearest (16 * Int.ofNat L)) (Int.ofNat L) _ hc (mul_ok hy) hzk (iBe ?_) (k154 hE hyl) (iIe (wrap_id (by simp only [Int.ofNat_eq_natCast]; omega) (by simp only [Int.ofNat_eq_natCast]; omega))) (conv_int u3 u219 _) (by rw [hcmp]; exact k107 hE _ 3) (fun j => outK_ret (ends_ret (by kernel_rfl))) fun _ => undef)
   show (double.order y z != some Ordering.eq) = false
   rw [hn.order fit_double hz]
   have := @cmp_eq_iff (16 * valW b) ((16 * valW b).tdiv KK * KK)
   rw [bne, this]
   simpa using whole_iff.2 h0
  ·have he : mulW L b = 3 := by unfold mulW; rw [if_neg fun h6 => h0 h6.2.1]
   rw [he]
   refine cOut_start Tryz.func89 rfl (c89t hE b r y z 0 0 (Int.ofNat L) 3 hc (mul_ok hy) hzk (iBe ?_) (k107 hE true 3) (fun j => outK_ret (ends_ret (by kernel_rfl))) fun _ => undef)
   show (double.order y z != some Ordering.eq) = true
   rw [hn.order fit_double hz]
   have := @cmp_eq_iff (16 * valW b) ((16 * valW b).tdiv KK * KK)
   rw [bne, this]
   have h7 : ¬ (16 * valW b = (16 * valW b).tdiv KK * KK) := fun h8 => h0 (whole_iff.1 h8)
   simpa using h7
 ·have he : mulW L b = 3 := by unfold mulW; rw [if_neg fun h6 => h h6.1]
  rw [he]
  rcases not_fin h with h1 | ⟨u, h1⟩
  ·exact cOut_start Tryz.func89 rfl (c89n hE b 0 0 0 0 0 (Int.ofNat L) 3 (conv_nan u23 u219 h1) mul_nan (k153n hE) neq_nan (k107 hE true 3) (fun j => outK_ret (ends_ret (by kernel_rfl))) fun _ => undef)
  ·have hz : double.write ((double.read (double.word u double.infRung)).integral .zero) = double.word u double.infRung := by cases u <;> decide
   have hzk := k153 hE (r := double.word u double.infRung) (by cases u <;> decide)
   rw [hz] at hzk
   have hmul : double.mul 4625196817309499392 (double.word u double.infRung) = some (double.word u double.infRung) := by cases u <;> decide
   have hLn : Num double (FloatKind.f64.nearest (16 * Int.ofNat L)) (16 * Int.ofNat L * KK) := num_of_int (k := .f64) fit_double (by decide) (by decide) (by
    show (16 * Int.ofNat L).natAbs < 2 ^ 53
    simp only [Int.ofNat_eq_natCast]
    omega)
   have hcmp : (FloatKind.f64.format.order (double.word u double.infRung % 2 ^ 63) (FloatKind.f64.nearest (16 * Int.ofNat L)) == some Ordering.gt) = true := by
    have e1 : double.word u double.infRung % 2 ^ 63 = 9218868437227405312 := by cases u <;> decide
    rw [e1]
    obtain ⟨s, m, e, h2, _⟩ := hLn
    show (double.order _ _ == _) = _
    unfold Format.order
    rw [h2, show double.read 9218868437227405312 = .infinity false by decide]
    rfl
   exact cOut_start Tryz.func89 rfl (c89f hE b (double.word u double.infRung) (double.word u double.infRung) (double.word u double.infRung) (double.word u double.infRung % 2 ^ 63) (FloatKind.f64.nearest (16 * Int.ofNat L)) (Int.ofNat L) 3 (conv_inf u23 u219 h1) (mul_ok hmul) hzk (iBe (by cases u <;> decide)) (k154 hE (inf_word u)) (iIe (wrap_id (by simp only [Int.ofNat_eq_natCast]; omega) (by simp only [Int.ofNat_eq_natCast]; omega))) (conv_int u3 u219 _) (by rw [hcmp]; exact k107 hE true 3) (fun j => outK_ret (ends_ret (by kernel_rfl))) fun _ => undef)
theorem firstI2 (f g : Int) : firstI [f, g] = if f = 0 then g else f := by
 unfold firstI firstI firstI
 by_cases h : f = 0
 ·by_cases h2 : g = 0 <;> simp [h, h2]
 ·simp [h]
theorem chk_first (L b : Nat) : chkW L b = firstI [finW b, mulW L b] := by
 rw [firstI2]
 unfold chkW
 rcases finW_or b with h | h <;> simp [h]
theorem get2 {f g : Int} : ∀ (k : Nat) (x : Int), [f, g][k]? = some x → getL [AC.v (.int .i64 f), AC.v (.int .i64 g)] (0 + k) = some (.v (.int .i64 x)) := by
 intro k x h
 match k, h with
 | 0, h => simp at h; subst h; rfl
 | 1, h => simp at h; subst h; rfl
 | k + 2, h => simp at h
theorem k24 (hE : EnvOk E) (b : Nat) : COut E 0 [] 24 [.e (.one (fC b))] (iI (chkW 1024 b)) [] := by
 rw [chk_first]
 exact cOut_start Tryz.func24 rfl (c24 hE b _ _ _ (k88 hE b) (k89 hE b (L := 1024) (by decide)) (k102 hE [finW b, mulW 1024 b] rfl (by decide) get2) (fun j => outK_ret (ends_ret (by kernel_rfl))) fun _ => undef)
theorem num_max1 : Num single 2139095039 ((2 ^ 24 - 1 : Nat) * 2 ^ (104 + EX) : Nat) := by
 refine ⟨false, 2 ^ 24 - 1, 104, by decide, by decide, by decide, ?_⟩
 have hX := EX_eq
 rw [show ((104 : Int) + (EX : Int)).toNat = 104 + EX by omega]
 rfl
theorem num_min1 : Num single 4286578687 (-((2 ^ 24 - 1 : Nat) * 2 ^ (104 + EX) : Nat)) := by
 refine ⟨true, 2 ^ 24 - 1, 104, by decide, by decide, by decide, ?_⟩
 have hX := EX_eq
 rw [show ((104 : Int) + (EX : Int)).toNat = 104 + EX by omega]
 rfl
theorem fin_max {b : Nat} (h : Num single b (valW b)) : (valW b).natAbs ≤ (2 ^ 24 - 1) * 2 ^ (104 + EX) := by
 have h1 := read_bound fit_single (by decide) h
 have hX := EX_eq
 rwa [show (single.top + (EX : Int)).toNat = 104 + EX by rw [top_single]; omega] at h1
theorem fin_tests {b : Nat} (h : finW b = 0) : (FloatKind.f32.format.order b b != some Ordering.eq) = false ∧ (FloatKind.f32.format.order b 2139095039 == some Ordering.gt) = false ∧ (FloatKind.f32.format.order b 4286578687 == some Ordering.lt) = false := by
 have hn := num_finW h
 have hm := fin_max hn
 refine ⟨?_, ?_, ?_⟩
 ·show (single.order b b != some Ordering.eq) = false
  rw [hn.order fit_single hn, cmp_eq]; rfl
 ·show (single.order b 2139095039 == some Ordering.gt) = false
  rw [hn.order fit_single num_max1, cmp_gt_iff]
  exact decide_eq_false (by omega)
 ·show (single.order b 4286578687 == some Ordering.lt) = false
  rw [hn.order fit_single num_min1, cmp_lt_iff]
  exact decide_eq_false (by omega)
theorem val_pow {b L : Nat} (hL : L ≤ 4096) (h : (valW b).natAbs ≤ L * KK) : (valW b).natAbs < 2 ^ (13 + EX) := Nat.lt_of_le_of_lt h (KK_pow L (by omega))
theorem int_bound {b L : Nat} (h : (valW b).natAbs ≤ L * KK) : (intW b).natAbs ≤ 16 * L := by
 unfold intW
 have hk := KK_pos
 rw [Int.natAbs_tdiv, Int.natAbs_mul, show (16 : Int).natAbs = 16 from rfl, show (KK : Int).natAbs = KK from rfl]
 apply Nat.div_le_of_le_mul
 rw [Nat.mul_comm KK, Nat.mul_assoc]
 exact Nat.mul_le_mul_left 16 h
theorem k90_1024 (hE : EnvOk E) (b : Nat) : COut E 0 [] 90 [.e (.one (fC b)), iI 1024] (iI (chkW 1024 b)) [] := by
 by_cases h : finW b = 0
 ·obtain ⟨h1, h2, h3⟩ := fin_tests h
  have hn := num_finW h
  have hk := KK_pos
  have hp : Num single 1149239296 (1024 * KK) := by
   have := num_of_int (k := .f32) fit_single (by decide) (by decide) (n := 1024) (by decide)
   rwa [show FloatKind.f32.nearest 1024 = 1149239296 by decide] at this
  have hm : Num single 3296722944 (-1024 * KK) := by
   have := num_of_int (k := .f32) fit_single (by decide) (by decide) (n := -1024) (by decide)
   rwa [show FloatKind.f32.nearest (-1024) = 3296722944 by decide] at this
  have e1 : (FloatKind.f32.format.order b 1149239296 == some Ordering.gt) = decide (1024 * KK < valW b) := by
   show (single.order b 1149239296 == some Ordering.gt) = _
   rw [hn.order fit_single hp, cmp_gt_iff]
  have e2 : (FloatKind.f32.format.order b 3296722944 == some Ordering.lt) = decide (valW b < -1024 * KK) := by
   show (single.order b 3296722944 == some Ordering.lt) = _
   rw [hn.order fit_single hm, cmp_lt_iff]
  have ec : chkW 1024 b = mulW 1024 b := by unfold chkW; rw [if_pos h]
  by_cases g1 : 1024 * (KK : Int) < valW b
  ·have : chkW 1024 b = 3 := by rw [ec]; unfold mulW; rw [if_neg fun h6 => by have := h6.2.2; omega]
   rw [this]
   exact cOut_start Tryz.func90 rfl (c90g_1024 hE b 0 0 0 0 (iBe h1) (iBe h2) (iBe h3) (iBe (by rw [e1]; exact decide_eq_true g1)) (fun j => outK_ret (ends_ret (by kernel_rfl))) fun _ => undef)
  ·by_cases g2 : valW b < -1024 * (KK : Int)
   ·have : chkW 1024 b = 3 := by rw [ec]; unfold mulW; rw [if_neg fun h6 => by have := h6.2.2; omega]
    rw [this]
    exact cOut_start Tryz.func90 rfl (c90l_1024 hE b 0 0 0 0 (iBe h1) (iBe h2) (iBe h3) (iBe (by rw [e1]; exact decide_eq_false g1)) (iBe (by rw [e2]; exact decide_eq_true g2)) (fun j => outK_ret (ends_ret (by kernel_rfl))) fun _ => undef)
   ·have hab : (valW b).natAbs ≤ 1024 * KK := by omega
    obtain ⟨r, hr, hrn⟩ := hn.mul16 fit_single (by decide) (c := 1098907648) c16_single (by decide) (val_pow (by decide) hab) (by rw [EX_eq]; decide)
    have hi := int_bound hab
    have hq := num_of_int (k := .f32) fit_single (by decide) (by decide) (n := intW b) (by show _ < 2 ^ 24; omega)
    have hto : (single.read r).toInt .zero = some (intW b) := hrn.toInt fit_single
    have ex : (FloatKind.f32.format.order (FloatKind.f32.nearest (intW b)) r != some Ordering.eq) = decide (¬ (16 * valW b) % KK = 0) := by
     show (single.order (FloatKind.f32.nearest (intW b)) r != some Ordering.eq) = _
     rw [show single.order (FloatKind.f32.nearest (intW b)) r = _ from Num.order fit_single hq hrn, bne, cmp_eq_iff]
     have hw := @whole_iff (16 * valW b)
     have : (intW b * (KK : Int) = 16 * valW b) ↔ (16 * valW b) % KK = 0 := ⟨fun e => hw.1 e.symm, fun e => (hw.2 e).symm⟩
     simp [this]
    have he : chkW 1024 b = if decide (¬ (16 * valW b) % KK = 0) = true then 3 else 0 := by
     rw [ec]
     unfold mulW
     by_cases h5 : (16 * valW b) % KK = 0
     ·rw [if_pos ⟨h, h5, hab⟩]; simp [h5]
     ·rw [if_neg fun h6 => h5 h6.2.1]; simp [h5]
    rw [he]
    exact cOut_start Tryz.func90 rfl (c90f_1024 hE b r (FloatKind.f32.nearest (intW b)) (intW b) _ (iBe h1) (iBe h2) (iBe h3) (iBe (by rw [e1]; exact decide_eq_false g1)) (iBe (by rw [e2]; exact decide_eq_false g2)) (mul_ok hr) (conv_toInt u23 u3 hto (by omega) (by omega)) (conv_int u3 u23 _) (mul_ok hr) (by rw [ex]; exact k60 hE _ 3) (fun j => outK_ret (ends_ret (by kernel_rfl))) fun _ => undef)
 ·have : chkW 1024 b = 1 := by unfold chkW; rw [if_neg h]
  rw [this]
  rcases not_fin h with h1 | ⟨u, h1⟩
  ·exact cOut_start Tryz.func90 rfl (c90n_1024 hE b 0 0 0 0 (iBe (by show (single.order b b != some Ordering.eq) = true; rw [isNaN_order h1]; rfl)) (fun j => outK_ret (ends_ret (by kernel_rfl))) fun _ => undef)
  ·have e0 : (FloatKind.f32.format.order b b != some Ordering.eq) = false := by
    show (single.order b b != some Ordering.eq) = false
    unfold Format.order
    rw [h1]
    cases u <;> rfl
   cases u with
   | false => exact cOut_start Tryz.func90 rfl (c90p_1024 hE b 0 0 0 0 (iBe e0) (iBe (by show (single.order b 2139095039 == some Ordering.gt) = true; unfold Format.order; rw [h1, show single.read 2139095039 = .number false 16777215 104 by decide]; rfl)) (fun j => outK_ret (ends_ret (by kernel_rfl))) fun _ => undef)
   | true => exact cOut_start Tryz.func90 rfl (c90m_1024 hE b 0 0 0 0 (iBe e0) (iBe (by show (single.order b 2139095039 == some Ordering.gt) = false; unfold Format.order; rw [h1, show single.read 2139095039 = .number false 16777215 104 by decide]; rfl)) (iBe (by show (single.order b 4286578687 == some Ordering.lt) = true; unfold Format.order; rw [h1, show single.read 4286578687 = .number true 16777215 104 by decide]; rfl)) (fun j => outK_ret (ends_ret (by kernel_rfl))) fun _ => undef)
theorem k25 (hE : EnvOk E) (b : Nat) : COut E 0 [] 25 [.e (.one (fC b))] (iI (chkW 1024 b)) [] :=
 cOut_start Tryz.func25 rfl (c25 hE b _ (k90_1024 hE b) (fun j => outK_ret (ends_ret (by kernel_rfl))) fun _ => undef)
theorem k106 (hE : EnvOk E) {L b : Nat} (hL : L ≤ 4096) (h : chkW L b = 0) : COut E 0 [] 106 [.e (.one (fC b))] (iI (intW b)) [] := by
 obtain ⟨r, hr, ht, _⟩ := mul_int (by omega) h
 have := (chk_zero h).2.2
 exact cOut_start Tryz.func106 rfl (c106 hE b r (intW b) (mul_ok hr) (conv_toInt u23 u3 ht (by omega) (by omega)) (fun j => outK_ret (ends_ret (by kernel_rfl))) fun _ => undef)
theorem k65 (hE : EnvOk E) {L b : Nat} (hL : L ≤ 4096) (h : chkW L b = 0) : COut E 0 [] 65 [.e (.one (fC b))] (iI (intW b)) [] := by
 obtain ⟨r, hr, ht, _⟩ := mul_int (by omega) h
 have := (chk_zero h).2.2
 exact cOut_start Tryz.func65 rfl (c65 hE b r (intW b) (mul_ok hr) (conv_toInt u23 u3 ht (by omega) (by omega)) (fun j => outK_ret (ends_ret (by kernel_rfl))) fun _ => undef)
theorem k101 (hE : EnvOk E) {n : Int} (hn : n.natAbs < 2 ^ 24) : COut E 0 [] 101 [iI n] (.e (.one (fC (smpW n)))) [] := by
 obtain ⟨_, _, hd, _⟩ := smp_num hn
 exact cOut_start Tryz.func101 rfl (c101 hE n (FloatKind.f32.nearest n) (smpW n) (conv_int u3 u23 n) (quo_ok hd) (fun j => outK_ret (ends_ret (by kernel_rfl))) fun _ => undef)
theorem k64 (hE : EnvOk E) {n : Int} (hn : n.natAbs < 2 ^ 24) : COut E 0 [] 64 [iI n] (.e (.one (fC (smpW n)))) [] := by
 obtain ⟨_, _, hd, _⟩ := smp_num hn
 exact cOut_start Tryz.func64 rfl (c64 hE n (FloatKind.f32.nearest n) (smpW n) (conv_int u3 u23 n) (quo_ok hd) (fun j => outK_ret (ends_ret (by kernel_rfl))) fun _ => undef)
end
end Go.Proofs.YtbmcfhkedgpldaaGreatDoor
end

/-! SeFb -/
section
open Go Go.Ev
namespace Go.Proofs.YtbmcfhkedgpldaaGreatDoor
noncomputable section
set_option maxRecDepth 100000
set_option maxHeartbeats 20000000
def s98 (C : List DT) (n : Nat) (_j : Nat → Value) : St := startK Tryz.f98 [] [(.e (.one (.dp (.s C n 1)))), .e (.one (.v (.func (.func 24) #[] #[])))]
def s38 (C : List DT) (n : Nat) (_j : Nat → Value) : St := startK Tryz.f38 [] [(.e (.one (.dp (.s C n 1))))]
def q98 (C : List DT) (n i _b : Nat) (_e : Int) (j : Nat → Value) : St := ⟨[], [(.code (atC [1, 0, 1, 0, 0] (bodyOf Tryz.f98))), (.inLoop (atC [1, 0, 1, 0, 0] (bodyOf Tryz.f98))), (.inBlock 0), (.code (atC [1, 1] (bodyOf Tryz.f98)))], mkT j [(1, (.e (.one (.v (.func (.func 24) #[] #[]))))), (8, (.e (.one (.dp (.s (C) (n) 1))))), (9, (iI (Int.ofNat n))), (10, (iI (Int.ofNat i)))] 21 0⟩
def q38 (C : List DT) (n i _b : Nat) (_e : Int) (j : Nat → Value) : St := ⟨[], [(.code (atC [1, 0, 1, 0, 0] (bodyOf Tryz.f38))), (.inLoop (atC [1, 0, 1, 0, 0] (bodyOf Tryz.f38))), (.inBlock 0), (.code (atC [1, 1] (bodyOf Tryz.f38)))], mkT j [(0, (.e (.one (.dp (.s (C) (n) 1))))), (3, (iI (Int.ofNat i)))] 19 0⟩
def s104 (a b c d _u _v : Int) (_j : Nat → Value) : St := startK Tryz.f104 [] [.e (.agg [.v (.int .i64 (a)), .v (.int .i64 (b))]), .e (.agg [.v (.int .i64 (c)), .v (.int .i64 (d))])]
def s105 (a b c d _ac _bd _u _ad _bc _v : Int) (_j : Nat → Value) : St := startK Tryz.f105 [] [.e (.agg [.v (.int .i64 (a)), .v (.int .i64 (b))]), .e (.agg [.v (.int .i64 (c)), .v (.int .i64 (d))])]
def s80 (n lo hi _e : Int) (_j : Nat → Value) : St := startK Tryz.f80 [] [iI n, iI lo, iI hi]
def p98a_end (C : List DT) (n : Nat) (j : Nat → Value) : St := ⟨[], [(.code (atC [1, 0, 1, 0, 0] (bodyOf Tryz.f98))), (.inLoop (atC [1, 0, 1, 0, 0] (bodyOf Tryz.f98))), (.inBlock 0), (.code (atC [1, 1] (bodyOf Tryz.f98)))], mkT j [(1, (.e (.one (.v (.func (.func 24) #[] #[]))))), (8, (.e (.one (.dp (.s (C) (n) 1))))), (9, (iI (Int.ofNat n))), (10, (iI 0))] 21 0⟩
theorem p98a (hE : EnvOk E) (C : List DT) (n : Nat)  {Φ : Res → Prop} (ho : ∀ j, OutK E 0 0 (p98a_end C n j) Φ) (j : Nat → Value) : OutK E 0 0 (s98 C n j) Φ :=
 outK_seg hE (R0_ok hE) [.run 4, (.ops [(1, (.d .len))] []), .run 2] [1, 8, 9, 10] (ps := []) (fun j => by kernel_rfl) trivial
  ho
def p38a_end (C : List DT) (n : Nat) (j : Nat → Value) : St := ⟨[], [(.code (atC [1, 0, 1, 0, 0] (bodyOf Tryz.f38))), (.inLoop (atC [1, 0, 1, 0, 0] (bodyOf Tryz.f38))), (.inBlock 0), (.code (atC [1, 1] (bodyOf Tryz.f38)))], mkT j [(0, (.e (.one (.dp (.s (C) (n) 1))))), (3, (iI 0))] 19 0⟩
theorem p38a (hE : EnvOk E) (C : List DT) (n : Nat)  {Φ : Res → Prop} (ho : ∀ j, OutK E 0 0 (p38a_end C n j) Φ) (j : Nat → Value) : OutK E 0 0 (s38 C n j) Φ :=
 outK_seg hE (R0_ok hE) [.run 7] [0, 3] (ps := []) (fun j => by kernel_rfl) trivial
  ho
def p98s_end (C : List DT) (n i _b : Nat) (_e : Int) (j : Nat → Value) : St := ⟨[], [(.code (atC [1, 0, 1, 0, 0] (bodyOf Tryz.f98))), (.inLoop (atC [1, 0, 1, 0, 0] (bodyOf Tryz.f98))), (.inBlock 0), (.code (atC [1, 1] (bodyOf Tryz.f98)))], mkT j [(1, (.e (.one (.v (.func (.func 24) #[] #[]))))), (8, (.e (.one (.dp (.s (C) (n) 1))))), (9, (iI (Int.ofNat n))), (10, (iI (Int.ofNat (i + 1))))] 21 0⟩
theorem p98s (hE : EnvOk E) (C : List DT) (n i b : Nat) (e : Int) (h0 : (decide (Int.ofNat i < Int.ofNat n) : Bool) = true) (h1 : (0 : Int) ≤ Int.ofNat i ∧ Int.ofNat i < (↑n : Int)) (h2 : ((Int.ofNat i).toNat * nat_lit 1 : Nat) = i) (h3 : (getL C i : Option DT) = (.some (.v (.float .f32 (b))))) (h4 : COut E 0 [] 24 [(.e (.one (.v (.float .f32 (b)))))] (iI (e)) []) (h6 : (e != (0 : Int) : Bool) = false) (h7 : ((iI (wrapF IntKind.i64 (Int.ofNat i + (1 : Int)))) : AV) = (iI (Int.ofNat (i + 1)))) {Φ : Res → Prop} (ho : ∀ j, OutK E 0 0 (p98s_end C n i b e j) Φ) (j : Nat → Value) : OutK E 0 0 (q98 C n i b e j) Φ :=
 outK_seg hE (R0_ok hE) [.run 3, (.cond true), .run 4, (.ops [(1, (.d (.ld (.v (.float .f32 (b)))))), (0, (.d (.ix (i))))] []), .run 1, (.ops [(2, (.c0 (iI (e))))] []), .run 2, (.cond false), .run 2, (.ops [(0, (.rn (iI (Int.ofNat (i + 1)))))] []), .run 1] [1, 8, 9, 10] (fun j => by kernel_rfl) (aP h0 <| aP h1 <| aP h2 <| aP h3 <| aP h4 <| aN <| aP h6 <| aP h7 <| aZ)
  ho
def p98e_end (_C : List DT) (_n _i _b : Nat) (e : Int) (j : Nat → Value) : St := ⟨[], [(.code .ret), (.inBlock 1), (.code (atC [1, 0, 1, 0, 0, 1, 1, 1] (bodyOf Tryz.f98))), (.inLoop (atC [1, 0, 1, 0, 0] (bodyOf Tryz.f98))), (.inBlock 0), (.code (atC [1, 1] (bodyOf Tryz.f98)))], mkT j [(4, (iI (e)))] 21 0⟩
theorem p98e (hE : EnvOk E) (C : List DT) (n i b : Nat) (e : Int) (h0 : (decide (Int.ofNat i < Int.ofNat n) : Bool) = true) (h1 : (0 : Int) ≤ Int.ofNat i ∧ Int.ofNat i < (↑n : Int)) (h2 : ((Int.ofNat i).toNat * nat_lit 1 : Nat) = i) (h3 : (getL C i : Option DT) = (.some (.v (.float .f32 (b))))) (h4 : COut E 0 [] 24 [(.e (.one (.v (.float .f32 (b)))))] (iI (e)) []) (h6 : (e != (0 : Int) : Bool) = true) {Φ : Res → Prop} (ho : ∀ j, OutK E 0 0 (p98e_end C n i b e j) Φ) (j : Nat → Value) : OutK E 0 0 (q98 C n i b e j) Φ :=
 outK_seg hE (R0_ok hE) [.run 3, (.cond true), .run 4, (.ops [(1, (.d (.ld (.v (.float .f32 (b)))))), (0, (.d (.ix (i))))] []), .run 1, (.ops [(2, (.c0 (iI (e))))] []), .run 2, (.cond true), .run 2] [4] (fun j => by kernel_rfl) (aP h0 <| aP h1 <| aP h2 <| aP h3 <| aP h4 <| aN <| aP h6 <| aZ)
  ho
def p98x_end (_C : List DT) (_n _i _b : Nat) (_e : Int) (j : Nat → Value) : St := ⟨[], [(.code .ret)], mkT j [(4, (iI 0))] 21 0⟩
theorem p98x (hE : EnvOk E) (C : List DT) (n i b : Nat) (e : Int) (h0 : (decide (Int.ofNat i < Int.ofNat n) : Bool) = false) {Φ : Res → Prop} (ho : ∀ j, OutK E 0 0 (p98x_end C n i b e j) Φ) (j : Nat → Value) : OutK E 0 0 (q98 C n i b e j) Φ :=
 outK_seg hE (R0_ok hE) [.run 3, (.cond false), .run 3] [4] (fun j => by kernel_rfl) (aP h0 <| aZ)
  ho
def p38s_end (C : List DT) (n i _b : Nat) (_e : Int) (j : Nat → Value) : St := ⟨[], [(.code (atC [1, 0, 1, 0, 0] (bodyOf Tryz.f38))), (.inLoop (atC [1, 0, 1, 0, 0] (bodyOf Tryz.f38))), (.inBlock 0), (.code (atC [1, 1] (bodyOf Tryz.f38)))], mkT j [(0, (.e (.one (.dp (.s (C) (n) 1))))), (3, (iI (Int.ofNat (i + 1))))] 19 0⟩
theorem p38s (hE : EnvOk E) (C : List DT) (n i b : Nat) (e : Int) (h0 : (decide (Int.ofNat i < (↑n : Int)) : Bool) = true) (h1 : (0 : Int) ≤ Int.ofNat i ∧ Int.ofNat i < (↑n : Int)) (h2 : ((Int.ofNat i).toNat * nat_lit 1 : Nat) = i) (h3 : (getL C i : Option DT) = (.some (.v (.float .f32 (b))))) (h4 : COut E 0 [] 25 [(.e (.one (.v (.float .f32 (b)))))] (iI (e)) []) (h6 : (e != (0 : Int) : Bool) = false) (h7 : ((iI (wrapF IntKind.i64 (Int.ofNat i + (1 : Int)))) : AV) = (iI (Int.ofNat (i + 1)))) {Φ : Res → Prop} (ho : ∀ j, OutK E 0 0 (p38s_end C n i b e j) Φ) (j : Nat → Value) : OutK E 0 0 (q38 C n i b e j) Φ :=
 outK_seg hE (R0_ok hE) [.run 2, (.ops [(2, (.d .len))] []), (.cond true), .run 4, (.ops [(3, (.d (.ld (.v (.float .f32 (b)))))), (4, (.c0 (iI (e)))), (2, (.d (.ix (i))))] []), .run 2, (.cond false), .run 2, (.ops [(1, (.rn (iI (Int.ofNat (i + 1)))))] []), .run 1] [0, 3] (fun j => by kernel_rfl) (aP h0 <| aP h1 <| aP h2 <| aP h3 <| aP h4 <| aN <| aP h6 <| aP h7 <| aZ)
  ho
def p38e_end (_C : List DT) (_n _i _b : Nat) (e : Int) (j : Nat → Value) : St := ⟨[], [(.code .ret), (.inBlock 1), (.code (atC [1, 0, 1, 0, 0, 1, 1] (bodyOf Tryz.f38))), (.inLoop (atC [1, 0, 1, 0, 0] (bodyOf Tryz.f38))), (.inBlock 0), (.code (atC [1, 1] (bodyOf Tryz.f38)))], mkT j [(2, (iI (e)))] 19 0⟩
theorem p38e (hE : EnvOk E) (C : List DT) (n i b : Nat) (e : Int) (h0 : (decide (Int.ofNat i < (↑n : Int)) : Bool) = true) (h1 : (0 : Int) ≤ Int.ofNat i ∧ Int.ofNat i < (↑n : Int)) (h2 : ((Int.ofNat i).toNat * nat_lit 1 : Nat) = i) (h3 : (getL C i : Option DT) = (.some (.v (.float .f32 (b))))) (h4 : COut E 0 [] 25 [(.e (.one (.v (.float .f32 (b)))))] (iI (e)) []) (h6 : (e != (0 : Int) : Bool) = true) {Φ : Res → Prop} (ho : ∀ j, OutK E 0 0 (p38e_end C n i b e j) Φ) (j : Nat → Value) : OutK E 0 0 (q38 C n i b e j) Φ :=
 outK_seg hE (R0_ok hE) [.run 2, (.ops [(2, (.d .len))] []), (.cond true), .run 4, (.ops [(3, (.d (.ld (.v (.float .f32 (b)))))), (4, (.c0 (iI (e)))), (2, (.d (.ix (i))))] []), .run 2, (.cond true), .run 2] [2] (fun j => by kernel_rfl) (aP h0 <| aP h1 <| aP h2 <| aP h3 <| aP h4 <| aN <| aP h6 <| aZ)
  ho
def p38x_end (_C : List DT) (_n _i _b : Nat) (_e : Int) (j : Nat → Value) : St := ⟨[], [(.code .ret)], mkT j [(2, (iI 0))] 19 0⟩
theorem p38x (hE : EnvOk E) (C : List DT) (n i b : Nat) (e : Int) (h0 : (decide (Int.ofNat i < (↑n : Int)) : Bool) = false) {Φ : Res → Prop} (ho : ∀ j, OutK E 0 0 (p38x_end C n i b e j) Φ) (j : Nat → Value) : OutK E 0 0 (q38 C n i b e j) Φ :=
 outK_seg hE (R0_ok hE) [.run 2, (.ops [(2, (.d .len))] []), (.cond false), .run 3] [2] (fun j => by kernel_rfl) (aP h0 <| aZ)
  ho
def p104_end (_a _b _c _d u v : Int) (j : Nat → Value) : St := ⟨[(.some ⟨[(.v (.int .i64 (u))), (.v (.int .i64 (v)))], 2, 160, true, .cells⟩)], [(.code .ret)], mkT j [(4, (.e (.one (.ptr 0 0))))] 16 0⟩
theorem p104 (hE : EnvOk E) (a b c d u v : Int) (h0 : ((iI (wrapF IntKind.i64 (a + c))) : AV) = (iI (u))) (h1 : ((iI (wrapF IntKind.i64 (b + d))) : AV) = (iI (v))) {Φ : Res → Prop} (ho : ∀ j, OutK E 0 0 (p104_end a b c d u v j) Φ) (j : Nat → Value) : OutK E 0 0 (s104 a b c d u v j) Φ :=
 outK_seg hE (R0_ok hE) [.run 3, (.ops [(4, (.rn (iI (u)))), (9, (.rn (iI (v))))] [])] [4] (s' := fun j => ⟨[(.some ⟨[(.v (.int .i64 (a))), (.v (.int .i64 (b)))], 2, 160, true, .cells⟩), (.some ⟨[(.v (.int .i64 (c))), (.v (.int .i64 (d)))], 2, 160, true, .cells⟩), (.some ⟨[(.v (.int .i64 (u))), (.v (.int .i64 (v)))], 2, 160, true, .cells⟩)], [(.code .ret)], mkT j [(4, (.e (.one (.ptr 2 0))))] 16 0⟩) (fun j => by kernel_rfl) (aP h0 <| aP h1 <| aZ)
  fun j => outK_gc [2] (by decide) (by kernel_rfl) (by kernel_rfl) (by kernel_rfl) (ho j)
def p105_end (_a _b _c _d _ac _bd u _ad _bc v : Int) (j : Nat → Value) : St := ⟨[(.some ⟨[(.v (.int .i64 (u))), (.v (.int .i64 (v)))], 2, 160, true, .cells⟩)], [(.code .ret)], mkT j [(4, (.e (.one (.ptr 0 0))))] 28 0⟩
theorem p105 (hE : EnvOk E) (a b c d ac bd u ad bc v : Int) (h0 : ((iI (wrapF IntKind.i64 (a * c))) : AV) = (iI (ac))) (h1 : ((iI (wrapF IntKind.i64 (b * d))) : AV) = (iI (bd))) (h2 : ((iI (wrapF IntKind.i64 (ac - bd))) : AV) = (iI (u))) (h3 : ((iI (wrapF IntKind.i64 (a * d))) : AV) = (iI (ad))) (h4 : ((iI (wrapF IntKind.i64 (b * c))) : AV) = (iI (bc))) (h5 : ((iI (wrapF IntKind.i64 (ad + bc))) : AV) = (iI (v))) {Φ : Res → Prop} (ho : ∀ j, OutK E 0 0 (p105_end a b c d ac bd u ad bc v j) Φ) (j : Nat → Value) : OutK E 0 0 (s105 a b c d ac bd u ad bc v j) Φ :=
 outK_seg hE (R0_ok hE) [.run 3, (.ops [(4, (.rn (iI (ac)))), (9, (.rn (iI (bd)))), (10, (.rn (iI (u)))), (15, (.rn (iI (ad)))), (20, (.rn (iI (bc)))), (21, (.rn (iI (v))))] [])] [4] (s' := fun j => ⟨[(.some ⟨[(.v (.int .i64 (a))), (.v (.int .i64 (b)))], 2, 160, true, .cells⟩), (.some ⟨[(.v (.int .i64 (c))), (.v (.int .i64 (d)))], 2, 160, true, .cells⟩), (.some ⟨[(.v (.int .i64 (u))), (.v (.int .i64 (v)))], 2, 160, true, .cells⟩)], [(.code .ret)], mkT j [(4, (.e (.one (.ptr 2 0))))] 28 0⟩) (fun j => by kernel_rfl) (aP h0 <| aP h1 <| aP h2 <| aP h3 <| aP h4 <| aP h5 <| aZ)
  fun j => outK_gc [2] (by decide) (by kernel_rfl) (by kernel_rfl) (by kernel_rfl) (ho j)
def p80a_end (_n _lo _hi e : Int) (j : Nat → Value) : St := ⟨[], [(.code .ret)], mkT j [(6, (iI (e)))] 16 0⟩
theorem p80a (hE : EnvOk E) (n lo hi e : Int) (h0 : (decide (n < lo) == false : Bool) = (nat_lit 4, false).snd) (h1 : (decide (n < lo) == false : Bool) = (nat_lit 5, false).snd) (h2 : (decide (n < lo) == false : Bool) = (nat_lit 6, false).snd) (h3 : (decide (n < lo) : Bool) = true) (h4 : COut E 0 [] 85 [(iB true), (iI 3)] (iI (e)) []) {Φ : Res → Prop} (ho : ∀ j, OutK E 0 0 (p80a_end n lo hi e j) Φ) (j : Nat → Value) : OutK E 0 0 (s80 n lo hi e j) Φ :=
 outK_seg hE (R0_ok hE) [.run 3, (.ops [(8, (.c0 (iI (e)))), (7, (.pk true))] [(4, false), (5, false), (6, false)])] [6] (fun j => by kernel_rfl) (aP h0 <| aP h1 <| aP h2 <| aP h3 <| aP h4 <| aN <| aZ)
  ho
def p80b_end (_n _lo _hi e : Int) (j : Nat → Value) : St := ⟨[], [(.code .ret)], mkT j [(6, (iI (e)))] 16 0⟩
theorem p80b (hE : EnvOk E) (n lo hi e : Int) (h0 : (decide (n < lo) == false : Bool) = (nat_lit 4, true).snd) (h1 : (decide (n < lo) == false : Bool) = (nat_lit 5, true).snd) (h2 : (decide (n < lo) == false : Bool) = (nat_lit 6, true).snd) (h3 : (decide (n < lo) : Bool) = false) (h4 : COut E 0 [] 85 [(iB (decide (n > hi))), (iI 3)] (iI (e)) []) {Φ : Res → Prop} (ho : ∀ j, OutK E 0 0 (p80b_end n lo hi e j) Φ) (j : Nat → Value) : OutK E 0 0 (s80 n lo hi e j) Φ :=
 outK_seg hE (R0_ok hE) [.run 3, (.ops [(8, (.c0 (iI (e)))), (7, (.pk false))] [(4, true), (5, true), (6, true)])] [6] (fun j => by kernel_rfl) (aP h0 <| aP h1 <| aP h2 <| aP h3 <| aP h4 <| aN <| aZ)
  ho
open Ieee
def dF (ws : List Nat) : DT := .s (ws.map fun b => .v (.float .f32 b)) ws.length 1
def chkL (ws : List Nat) : Int := firstI (ws.map (chkW 1024))
theorem getDF {ws : List Nat} {i b : Nat} (h : ws[i]? = some b) : getL (ws.map fun b => DT.v (.float .f32 b)) i = some (.v (.float .f32 b)) := by rw [getL_eq, List.getElem?_map, h]; rfl
theorem cOut_clear {f : FuncId} {args : List AV} {v : AV} {h : Heap} (hc : COut E 0 [] f args v h) (hv : v.refs = []) : COut E 0 [] f args v [] :=
 cOut_gc (h' := []) [] (Nat.zero_le _) hc rfl rfl (AV.ren_id hv)
theorem l98' (hE : EnvOk E) (ws : List Nat) (hm : ws.length ≤ 4000000) :
  ∀ m i, m + i = ws.length → ∀ b e j, OutK E 0 0 (q98 (ws.map fun b => DT.v (.float .f32 b)) ws.length i b e j) (Go.Ev.Ends E Tryz.f98 (iI (firstI ((ws.drop i).map (chkW 1024)))) [])
 | 0, i, hk, b, e, j => by
  have e1 : ws.drop i = [] := List.drop_eq_nil_of_le (by omega)
  rw [e1]
  exact p98x hE _ _ i b e (decide_eq_false (by simp only [Int.ofNat_eq_natCast]; omega)) (fun j => outK_ret (ends_ret (by kernel_rfl))) j
 | m + 1, i, hk, _, _, j => by
  have hlt : i < ws.length := by omega
  have hx : ws[i]? = some ws[i] := List.getElem?_eq_getElem hlt
  have e1 : ws.drop i = ws[i] :: ws.drop (i + 1) := List.drop_eq_getElem_cons hlt
  rw [e1]
  generalize ws[i] = x at hx e1
  have hd : decide (Int.ofNat i < Int.ofNat ws.length) = true := decide_eq_true (by simp only [Int.ofNat_eq_natCast]; omega)
  have hb : (0 : Int) ≤ Int.ofNat i ∧ Int.ofNat i < (ws.length : Int) := by simp only [Int.ofNat_eq_natCast]; omega
  by_cases h0 : (chkW 1024) x = 0
  ·have e2 : firstI (List.map (chkW 1024) (x :: ws.drop (i + 1))) = firstI (List.map (chkW 1024) (ws.drop (i + 1))) := by simp [firstI, h0]
   rw [e2]
   exact p98s hE _ _ i x _ hd hb (by simp) (getDF hx) (k24 hE x) (by simp [h0]) (iIn i (by omega)) (l98' hE ws hm m (i + 1) (by omega) 0 0) j
  ·have e2 : firstI (List.map (chkW 1024) (x :: ws.drop (i + 1))) = (chkW 1024) x := by simp [firstI, h0]
   rw [e2]
   exact p98e hE _ _ i x _ hd hb (by simp) (getDF hx) (k24 hE x) (by simp [h0]) (fun j => outK_ret (ends_ret (by kernel_rfl))) j
theorem K98 (hE : EnvOk E) (ws : List Nat) (hm : ws.length ≤ 4000000) : COut E 0 [] 98 [.e (.one (dF ws).ac), .e (.one (.v (.func (.func 24) #[] #[])))] (iI (chkL ws)) [] :=
 cOut_start Tryz.func98 rfl (p98a hE _ _ (l98' hE ws hm ws.length 0 (by omega) 0 0) fun _ => undef)
theorem l38' (hE : EnvOk E) (ws : List Nat) (hm : ws.length ≤ 4000000) :
  ∀ m i, m + i = ws.length → ∀ b e j, OutK E 0 0 (q38 (ws.map fun b => DT.v (.float .f32 b)) ws.length i b e j) (Go.Ev.Ends E Tryz.f38 (iI (firstI ((ws.drop i).map (chkW 1024)))) [])
 | 0, i, hk, b, e, j => by
  have e1 : ws.drop i = [] := List.drop_eq_nil_of_le (by omega)
  rw [e1]
  exact p38x hE _ _ i b e (decide_eq_false (by simp only [Int.ofNat_eq_natCast]; omega)) (fun j => outK_ret (ends_ret (by kernel_rfl))) j
 | m + 1, i, hk, _, _, j => by
  have hlt : i < ws.length := by omega
  have hx : ws[i]? = some ws[i] := List.getElem?_eq_getElem hlt
  have e1 : ws.drop i = ws[i] :: ws.drop (i + 1) := List.drop_eq_getElem_cons hlt
  rw [e1]
  generalize ws[i] = x at hx e1
  have hd : decide (Int.ofNat i < (ws.length : Int)) = true := decide_eq_true (by simp only [Int.ofNat_eq_natCast]; omega)
  have hb : (0 : Int) ≤ Int.ofNat i ∧ Int.ofNat i < (ws.length : Int) := by simp only [Int.ofNat_eq_natCast]; omega
  by_cases h0 : (chkW 1024) x = 0
  ·have e2 : firstI (List.map (chkW 1024) (x :: ws.drop (i + 1))) = firstI (List.map (chkW 1024) (ws.drop (i + 1))) := by simp [firstI, h0]
   rw [e2]
   exact p38s hE _ _ i x _ hd hb (by simp) (getDF hx) (k25 hE x) (by simp [h0]) (iIn i (by omega)) (l38' hE ws hm m (i + 1) (by omega) 0 0) j
  ·have e2 : firstI (List.map (chkW 1024) (x :: ws.drop (i + 1))) = (chkW 1024) x := by simp [firstI, h0]
   rw [e2]
   exact p38e hE _ _ i x _ hd hb (by simp) (getDF hx) (k25 hE x) (by simp [h0]) (fun j => outK_ret (ends_ret (by kernel_rfl))) j
theorem K38 (hE : EnvOk E) (ws : List Nat) (hm : ws.length ≤ 4000000) : COut E 0 [] 38 [.e (.one (dF ws).ac)] (iI (chkL ws)) [] :=
 cOut_start Tryz.func38 rfl (p38a hE _ _ (l38' hE ws hm ws.length 0 (by omega) 0 0) fun _ => undef)
abbrev gA (a b : Int) : AV := .e (.agg [.v (.int .i64 a), .v (.int .i64 b)])
def Sm (z : Int) : Prop := z.natAbs ≤ 2 ^ 30
theorem Sm.mul {a b : Int} (h : Sm a) (g : Sm b) : (a * b).natAbs ≤ 2 ^ 60 := by
 unfold Sm at h g
 rw [Int.natAbs_mul]
 exact Nat.le_trans (Nat.mul_le_mul h g) (by decide)
theorem wr {z : Int} (h : z.natAbs ≤ 2 ^ 62) : wrapF .i64 z = z := wrap_id (by omega) (by omega)
theorem K104 (hE : EnvOk E) {a b c d u v : Int} (ha : a.natAbs ≤ 2 ^ 60) (hb : b.natAbs ≤ 2 ^ 60) (hc : c.natAbs ≤ 2 ^ 60) (hd : d.natAbs ≤ 2 ^ 60) (hu : a + c = u) (hv : b + d = v) : COut E 0 [] 104 [gA a b, gA c d] (gA u v) [] := by
 subst hu hv
 exact cOut_clear (cOut_start Tryz.func104 rfl (p104 hE a b c d _ _ (iIe (wr (by omega))) (iIe (wr (by omega))) (fun j => outK_ret (ends_ret (by kernel_rfl))) fun _ => undef)) rfl
theorem K105 (hE : EnvOk E) {a b c d u v : Int} (ha : Sm a) (hb : Sm b) (hc : Sm c) (hd : Sm d) (hu : a * c - b * d = u) (hv : a * d + b * c = v) : COut E 0 [] 105 [gA a b, gA c d] (gA u v) [] := by
 subst hu hv
 have h1 := ha.mul hc
 have h2 := hb.mul hd
 have h3 := ha.mul hd
 have h4 := hb.mul hc
 exact cOut_clear (cOut_start Tryz.func105 rfl (p105 hE a b c d _ _ _ _ _ _ (iIe (wr (by omega))) (iIe (wr (by omega))) (iIe (wr (by omega))) (iIe (wr (by omega))) (iIe (wr (by omega))) (iIe (wr (by omega))) (fun j => outK_ret (ends_ret (by kernel_rfl))) fun _ => undef)) rfl
def rngI (a b z : Int) : Int := if z < a ∨ b < z then 3 else 0
theorem K80 (hE : EnvOk E) (z a b : Int) : COut E 0 [] 80 [iI z, iI a, iI b] (iI (rngI a b z)) [] := by
 by_cases h : z < a
 ·have e : rngI a b z = 3 := by simp [rngI, h]
  rw [e]
  exact cOut_start Tryz.func80 rfl (p80a hE z a b 3 (by simp [h]) (by simp [h]) (by simp [h]) (by simp [h]) (k107 hE true 3) (fun j => outK_ret (ends_ret (by kernel_rfl))) fun _ => undef)
 ·have e : rngI a b z = (if decide (z > b) = true then 3 else 0) := by simp [rngI, h]
  rw [e]
  exact cOut_start Tryz.func80 rfl (p80b hE z a b _ (by simp; omega) (by simp; omega) (by simp; omega) (by simp; omega) (k107 hE _ 3) (fun j => outK_ret (ends_ret (by kernel_rfl))) fun _ => undef)
end
end Go.Proofs.YtbmcfhkedgpldaaGreatDoor
end

/-! SeFc -/
section
open Go Go.Ev
namespace Go.Proofs.YtbmcfhkedgpldaaGreatDoor
noncomputable section
set_option maxRecDepth 100000
set_option maxHeartbeats 20000000
def s100 (b0 b1 b2 b3 : Nat) (_w0 _w1 _w2 _w3 : Int) (_j : Nat → Value) : St := startK Tryz.f100 [] [.e (.agg [fC b0, fC b1, fC b2, fC b3])]
def s99 (w0 w1 w2 w3 : Int) (_j : Nat → Value) : St := startK Tryz.f99 [] [.e (.agg [.v (.int .i64 w0), .v (.int .i64 w1), .v (.int .i64 w2), .v (.int .i64 w3)])]
def p100_end (_b0 _b1 _b2 _b3 : Nat) (w0 w1 w2 w3 : Int) (j : Nat → Value) : St := ⟨[(.some ⟨[(.v (.int .i64 (w0))), (.v (.int .i64 (w1))), (.v (.int .i64 (w2))), (.v (.int .i64 (w3)))], 4, 22, true, .cells⟩)], [(.code .ret)], mkT j [(2, (.e (.one (.ptr 0 0))))] 17 0⟩
theorem p100 (hE : EnvOk E) (b0 b1 b2 b3 : Nat) (w0 w1 w2 w3 : Int) (h0 : COut E 0 [] 106 [(.e (.one (.v (.float .f32 (b0)))))] (iI (w0)) []) (h2 : COut E 0 [] 106 [(.e (.one (.v (.float .f32 (b1)))))] (iI (w1)) []) (h4 : COut E 0 [] 106 [(.e (.one (.v (.float .f32 (b2)))))] (iI (w2)) []) (h6 : COut E 0 [] 106 [(.e (.one (.v (.float .f32 (b3)))))] (iI (w3)) []) {Φ : Res → Prop} (ho : ∀ j, OutK E 0 0 (p100_end b0 b1 b2 b3 w0 w1 w2 w3 j) Φ) (j : Nat → Value) : OutK E 0 0 (s100 b0 b1 b2 b3 w0 w1 w2 w3 j) Φ :=
 outK_seg hE (R0_ok hE) [.run 18, (.ops [(2, (.c0 (iI (w0))))] []), .run 12, (.ops [(2, (.c0 (iI (w1))))] []), .run 12, (.ops [(2, (.c0 (iI (w2))))] []), .run 12, (.ops [(2, (.c0 (iI (w3))))] []), .run 10] [2] (s' := fun j => ⟨[(.some ⟨[(.v (.float .f32 (b0))), (.v (.float .f32 (b1))), (.v (.float .f32 (b2))), (.v (.float .f32 (b3)))], 4, 56, true, .cells⟩), (.some ⟨[(.v (.int .i64 (w0))), (.v (.int .i64 (w1))), (.v (.int .i64 (w2))), (.v (.int .i64 (w3)))], 4, 22, true, .cells⟩), (.some ⟨[(.v (.int .i64 (w0))), (.v (.int .i64 (w1))), (.v (.int .i64 (w2))), (.v (.int .i64 (w3)))], 4, 22, true, .cells⟩)], [(.code .ret)], mkT j [(2, (.e (.one (.ptr 1 0))))] 17 0⟩) (fun j => by kernel_rfl) (aP h0 <| aN <| aP h2 <| aN <| aP h4 <| aN <| aP h6 <| aN <| aZ)
  fun j => outK_gc [1] (by decide) (by kernel_rfl) (by kernel_rfl) (by kernel_rfl) (ho j)
def p99_end (w0 w1 w2 w3 : Int) (j : Nat → Value) : St := ⟨[(.some ⟨[(.v (.int .i64 (w0 + w1 + w2 + w3))), (.v (.int .i64 0)), (.v (.int .i64 (w0 + -w2))), (.v (.int .i64 (-w1 + w3))), (.v (.int .i64 (w0 + -w1 + w2 + -w3))), (.v (.int .i64 0)), (.v (.int .i64 (w0 + -w2))), (.v (.int .i64 (w1 + -w3)))], 8, 164, true, .cells⟩)], [(.code .ret)], mkT j [(2, (.e (.one (.ptr 0 0))))] 34 0⟩
theorem p99 (hE : EnvOk E) (w0 w1 w2 w3 : Int) (h0 : COut E 0 [] 105 [(.e (.agg [(.v (.int .i64 (w0))), (.v (.int .i64 0))])), (.e (.agg [(.v (.int .i64 1)), (.v (.int .i64 0))]))] (.e (.agg [(.v (.int .i64 (w0))), (.v (.int .i64 0))])) []) (h3 : COut E 0 [] 104 [(.e (.agg [(.v (.int .i64 0)), (.v (.int .i64 0))])), (.e (.agg [(.v (.int .i64 (w0))), (.v (.int .i64 0))]))] (.e (.agg [(.v (.int .i64 (w0))), (.v (.int .i64 0))])) []) (h5 : COut E 0 [] 105 [(.e (.agg [(.v (.int .i64 (w1))), (.v (.int .i64 0))])), (.e (.agg [(.v (.int .i64 1)), (.v (.int .i64 0))]))] (.e (.agg [(.v (.int .i64 (w1))), (.v (.int .i64 0))])) []) (h8 : COut E 0 [] 104 [(.e (.agg [(.v (.int .i64 (w0))), (.v (.int .i64 0))])), (.e (.agg [(.v (.int .i64 (w1))), (.v (.int .i64 0))]))] (.e (.agg [(.v (.int .i64 (w0 + w1))), (.v (.int .i64 0))])) []) (h10 : COut E 0 [] 105 [(.e (.agg [(.v (.int .i64 (w2))), (.v (.int .i64 0))])), (.e (.agg [(.v (.int .i64 1)), (.v (.int .i64 0))]))] (.e (.agg [(.v (.int .i64 (w2))), (.v (.int .i64 0))])) []) (h13 : COut E 0 [] 104 [(.e (.agg [(.v (.int .i64 (w0 + w1))), (.v (.int .i64 0))])), (.e (.agg [(.v (.int .i64 (w2))), (.v (.int .i64 0))]))] (.e (.agg [(.v (.int .i64 (w0 + w1 + w2))), (.v (.int .i64 0))])) []) (h15 : COut E 0 [] 105 [(.e (.agg [(.v (.int .i64 (w3))), (.v (.int .i64 0))])), (.e (.agg [(.v (.int .i64 1)), (.v (.int .i64 0))]))] (.e (.agg [(.v (.int .i64 (w3))), (.v (.int .i64 0))])) []) (h18 : COut E 0 [] 104 [(.e (.agg [(.v (.int .i64 (w0 + w1 + w2))), (.v (.int .i64 0))])), (.e (.agg [(.v (.int .i64 (w3))), (.v (.int .i64 0))]))] (.e (.agg [(.v (.int .i64 (w0 + w1 + w2 + w3))), (.v (.int .i64 0))])) []) (h20 : COut E 0 [] 105 [(.e (.agg [(.v (.int .i64 (w0))), (.v (.int .i64 0))])), (.e (.agg [(.v (.int .i64 1)), (.v (.int .i64 0))]))] (.e (.agg [(.v (.int .i64 (w0))), (.v (.int .i64 0))])) []) (h23 : COut E 0 [] 104 [(.e (.agg [(.v (.int .i64 0)), (.v (.int .i64 0))])), (.e (.agg [(.v (.int .i64 (w0))), (.v (.int .i64 0))]))] (.e (.agg [(.v (.int .i64 (w0))), (.v (.int .i64 0))])) []) (h25 : COut E 0 [] 105 [(.e (.agg [(.v (.int .i64 (w1))), (.v (.int .i64 0))])), (.e (.agg [(.v (.int .i64 0)), (.v (.int .i64 (-1)))]))] (.e (.agg [(.v (.int .i64 0)), (.v (.int .i64 (-w1)))])) []) (h28 : COut E 0 [] 104 [(.e (.agg [(.v (.int .i64 (w0))), (.v (.int .i64 0))])), (.e (.agg [(.v (.int .i64 0)), (.v (.int .i64 (-w1)))]))] (.e (.agg [(.v (.int .i64 (w0))), (.v (.int .i64 (-w1)))])) []) (h30 : COut E 0 [] 105 [(.e (.agg [(.v (.int .i64 (w2))), (.v (.int .i64 0))])), (.e (.agg [(.v (.int .i64 (-1))), (.v (.int .i64 0))]))] (.e (.agg [(.v (.int .i64 (-w2))), (.v (.int .i64 0))])) []) (h33 : COut E 0 [] 104 [(.e (.agg [(.v (.int .i64 (w0))), (.v (.int .i64 (-w1)))])), (.e (.agg [(.v (.int .i64 (-w2))), (.v (.int .i64 0))]))] (.e (.agg [(.v (.int .i64 (w0 + -w2))), (.v (.int .i64 (-w1)))])) []) (h35 : COut E 0 [] 105 [(.e (.agg [(.v (.int .i64 (w3))), (.v (.int .i64 0))])), (.e (.agg [(.v (.int .i64 0)), (.v (.int .i64 1))]))] (.e (.agg [(.v (.int .i64 0)), (.v (.int .i64 (w3)))])) []) (h38 : COut E 0 [] 104 [(.e (.agg [(.v (.int .i64 (w0 + -w2))), (.v (.int .i64 (-w1)))])), (.e (.agg [(.v (.int .i64 0)), (.v (.int .i64 (w3)))]))] (.e (.agg [(.v (.int .i64 (w0 + -w2))), (.v (.int .i64 (-w1 + w3)))])) []) (h40 : COut E 0 [] 105 [(.e (.agg [(.v (.int .i64 (w0))), (.v (.int .i64 0))])), (.e (.agg [(.v (.int .i64 1)), (.v (.int .i64 0))]))] (.e (.agg [(.v (.int .i64 (w0))), (.v (.int .i64 0))])) []) (h43 : COut E 0 [] 104 [(.e (.agg [(.v (.int .i64 0)), (.v (.int .i64 0))])), (.e (.agg [(.v (.int .i64 (w0))), (.v (.int .i64 0))]))] (.e (.agg [(.v (.int .i64 (w0))), (.v (.int .i64 0))])) []) (h45 : COut E 0 [] 105 [(.e (.agg [(.v (.int .i64 (w1))), (.v (.int .i64 0))])), (.e (.agg [(.v (.int .i64 (-1))), (.v (.int .i64 0))]))] (.e (.agg [(.v (.int .i64 (-w1))), (.v (.int .i64 0))])) []) (h48 : COut E 0 [] 104 [(.e (.agg [(.v (.int .i64 (w0))), (.v (.int .i64 0))])), (.e (.agg [(.v (.int .i64 (-w1))), (.v (.int .i64 0))]))] (.e (.agg [(.v (.int .i64 (w0 + -w1))), (.v (.int .i64 0))])) []) (h50 : COut E 0 [] 105 [(.e (.agg [(.v (.int .i64 (w2))), (.v (.int .i64 0))])), (.e (.agg [(.v (.int .i64 1)), (.v (.int .i64 0))]))] (.e (.agg [(.v (.int .i64 (w2))), (.v (.int .i64 0))])) []) (h53 : COut E 0 [] 104 [(.e (.agg [(.v (.int .i64 (w0 + -w1))), (.v (.int .i64 0))])), (.e (.agg [(.v (.int .i64 (w2))), (.v (.int .i64 0))]))] (.e (.agg [(.v (.int .i64 (w0 + -w1 + w2))), (.v (.int .i64 0))])) []) (h55 : COut E 0 [] 105 [(.e (.agg [(.v (.int .i64 (w3))), (.v (.int .i64 0))])), (.e (.agg [(.v (.int .i64 (-1))), (.v (.int .i64 0))]))] (.e (.agg [(.v (.int .i64 (-w3))), (.v (.int .i64 0))])) []) (h58 : COut E 0 [] 104 [(.e (.agg [(.v (.int .i64 (w0 + -w1 + w2))), (.v (.int .i64 0))])), (.e (.agg [(.v (.int .i64 (-w3))), (.v (.int .i64 0))]))] (.e (.agg [(.v (.int .i64 (w0 + -w1 + w2 + -w3))), (.v (.int .i64 0))])) []) (h60 : COut E 0 [] 105 [(.e (.agg [(.v (.int .i64 (w0))), (.v (.int .i64 0))])), (.e (.agg [(.v (.int .i64 1)), (.v (.int .i64 0))]))] (.e (.agg [(.v (.int .i64 (w0))), (.v (.int .i64 0))])) []) (h63 : COut E 0 [] 104 [(.e (.agg [(.v (.int .i64 0)), (.v (.int .i64 0))])), (.e (.agg [(.v (.int .i64 (w0))), (.v (.int .i64 0))]))] (.e (.agg [(.v (.int .i64 (w0))), (.v (.int .i64 0))])) []) (h65 : COut E 0 [] 105 [(.e (.agg [(.v (.int .i64 (w1))), (.v (.int .i64 0))])), (.e (.agg [(.v (.int .i64 0)), (.v (.int .i64 1))]))] (.e (.agg [(.v (.int .i64 0)), (.v (.int .i64 (w1)))])) []) (h68 : COut E 0 [] 104 [(.e (.agg [(.v (.int .i64 (w0))), (.v (.int .i64 0))])), (.e (.agg [(.v (.int .i64 0)), (.v (.int .i64 (w1)))]))] (.e (.agg [(.v (.int .i64 (w0))), (.v (.int .i64 (w1)))])) []) (h70 : COut E 0 [] 105 [(.e (.agg [(.v (.int .i64 (w2))), (.v (.int .i64 0))])), (.e (.agg [(.v (.int .i64 (-1))), (.v (.int .i64 0))]))] (.e (.agg [(.v (.int .i64 (-w2))), (.v (.int .i64 0))])) []) (h73 : COut E 0 [] 104 [(.e (.agg [(.v (.int .i64 (w0))), (.v (.int .i64 (w1)))])), (.e (.agg [(.v (.int .i64 (-w2))), (.v (.int .i64 0))]))] (.e (.agg [(.v (.int .i64 (w0 + -w2))), (.v (.int .i64 (w1)))])) []) (h75 : COut E 0 [] 105 [(.e (.agg [(.v (.int .i64 (w3))), (.v (.int .i64 0))])), (.e (.agg [(.v (.int .i64 0)), (.v (.int .i64 (-1)))]))] (.e (.agg [(.v (.int .i64 0)), (.v (.int .i64 (-w3)))])) []) (h78 : COut E 0 [] 104 [(.e (.agg [(.v (.int .i64 (w0 + -w2))), (.v (.int .i64 (w1)))])), (.e (.agg [(.v (.int .i64 0)), (.v (.int .i64 (-w3)))]))] (.e (.agg [(.v (.int .i64 (w0 + -w2))), (.v (.int .i64 (w1 + -w3)))])) []) {Φ : Res → Prop} (ho : ∀ j, OutK E 0 0 (p99_end w0 w1 w2 w3 j) Φ) (j : Nat → Value) : OutK E 0 0 (s99 w0 w1 w2 w3 j) Φ :=
 outK_seg hE (R0_ok hE) [.run 31, (.ops [(13, (.c0 (.e (.agg [(.v (.int .i64 (w0))), (.v (.int .i64 0))])))), (14, (.c0 (.e (.agg [(.v (.int .i64 (w0))), (.v (.int .i64 0))]))))] []), .run 12, (.ops [(13, (.c0 (.e (.agg [(.v (.int .i64 (w1))), (.v (.int .i64 0))])))), (14, (.c0 (.e (.agg [(.v (.int .i64 (w0 + w1))), (.v (.int .i64 0))]))))] []), .run 12, (.ops [(13, (.c0 (.e (.agg [(.v (.int .i64 (w2))), (.v (.int .i64 0))])))), (14, (.c0 (.e (.agg [(.v (.int .i64 (w0 + w1 + w2))), (.v (.int .i64 0))]))))] []), .run 12, (.ops [(13, (.c0 (.e (.agg [(.v (.int .i64 (w3))), (.v (.int .i64 0))])))), (14, (.c0 (.e (.agg [(.v (.int .i64 (w0 + w1 + w2 + w3))), (.v (.int .i64 0))]))))] []), .run 33, (.ops [(13, (.c0 (.e (.agg [(.v (.int .i64 (w0))), (.v (.int .i64 0))])))), (14, (.c0 (.e (.agg [(.v (.int .i64 (w0))), (.v (.int .i64 0))]))))] []), .run 12, (.ops [(13, (.c0 (.e (.agg [(.v (.int .i64 0)), (.v (.int .i64 (-w1)))])))), (14, (.c0 (.e (.agg [(.v (.int .i64 (w0))), (.v (.int .i64 (-w1)))]))))] []), .run 12, (.ops [(13, (.c0 (.e (.agg [(.v (.int .i64 (-w2))), (.v (.int .i64 0))])))), (14, (.c0 (.e (.agg [(.v (.int .i64 (w0 + -w2))), (.v (.int .i64 (-w1)))]))))] []), .run 12, (.ops [(13, (.c0 (.e (.agg [(.v (.int .i64 0)), (.v (.int .i64 (w3)))])))), (14, (.c0 (.e (.agg [(.v (.int .i64 (w0 + -w2))), (.v (.int .i64 (-w1 + w3)))]))))] []), .run 33, (.ops [(13, (.c0 (.e (.agg [(.v (.int .i64 (w0))), (.v (.int .i64 0))])))), (14, (.c0 (.e (.agg [(.v (.int .i64 (w0))), (.v (.int .i64 0))]))))] []), .run 12, (.ops [(13, (.c0 (.e (.agg [(.v (.int .i64 (-w1))), (.v (.int .i64 0))])))), (14, (.c0 (.e (.agg [(.v (.int .i64 (w0 + -w1))), (.v (.int .i64 0))]))))] []), .run 12, (.ops [(13, (.c0 (.e (.agg [(.v (.int .i64 (w2))), (.v (.int .i64 0))])))), (14, (.c0 (.e (.agg [(.v (.int .i64 (w0 + -w1 + w2))), (.v (.int .i64 0))]))))] []), .run 12, (.ops [(13, (.c0 (.e (.agg [(.v (.int .i64 (-w3))), (.v (.int .i64 0))])))), (14, (.c0 (.e (.agg [(.v (.int .i64 (w0 + -w1 + w2 + -w3))), (.v (.int .i64 0))]))))] []), .run 33, (.ops [(13, (.c0 (.e (.agg [(.v (.int .i64 (w0))), (.v (.int .i64 0))])))), (14, (.c0 (.e (.agg [(.v (.int .i64 (w0))), (.v (.int .i64 0))]))))] []), .run 12, (.ops [(13, (.c0 (.e (.agg [(.v (.int .i64 0)), (.v (.int .i64 (w1)))])))), (14, (.c0 (.e (.agg [(.v (.int .i64 (w0))), (.v (.int .i64 (w1)))]))))] []), .run 12, (.ops [(13, (.c0 (.e (.agg [(.v (.int .i64 (-w2))), (.v (.int .i64 0))])))), (14, (.c0 (.e (.agg [(.v (.int .i64 (w0 + -w2))), (.v (.int .i64 (w1)))]))))] []), .run 12, (.ops [(13, (.c0 (.e (.agg [(.v (.int .i64 0)), (.v (.int .i64 (-w3)))])))), (14, (.c0 (.e (.agg [(.v (.int .i64 (w0 + -w2))), (.v (.int .i64 (w1 + -w3)))]))))] []), .run 18] [2] (s' := fun j => ⟨[(.some ⟨[(.v (.int .i64 (w0))), (.v (.int .i64 (w1))), (.v (.int .i64 (w2))), (.v (.int .i64 (w3)))], 4, 22, true, .cells⟩), (.some ⟨[(.v (.int .i64 (w0 + w1 + w2 + w3))), (.v (.int .i64 0)), (.v (.int .i64 (w0 + -w2))), (.v (.int .i64 (-w1 + w3))), (.v (.int .i64 (w0 + -w1 + w2 + -w3))), (.v (.int .i64 0)), (.v (.int .i64 (w0 + -w2))), (.v (.int .i64 (w1 + -w3)))], 8, 164, true, .cells⟩), (.some ⟨[(.v (.int .i64 (w0 + w1 + w2 + w3))), (.v (.int .i64 0)), (.v (.int .i64 (w0 + -w2))), (.v (.int .i64 (-w1 + w3))), (.v (.int .i64 (w0 + -w1 + w2 + -w3))), (.v (.int .i64 0)), (.v (.int .i64 (w0 + -w2))), (.v (.int .i64 (w1 + -w3)))], 8, 164, true, .cells⟩)], [(.code .ret)], mkT j [(2, (.e (.one (.ptr 1 0))))] 34 0⟩) (fun j => by kernel_rfl) (aP h0 <| aN <| aP (rfl : (true : Bool) = true) <| aP h3 <| aN <| aP h5 <| aN <| aP (rfl : (true : Bool) = true) <| aP h8 <| aN <| aP h10 <| aN <| aP (rfl : (true : Bool) = true) <| aP h13 <| aN <| aP h15 <| aN <| aP (rfl : (true : Bool) = true) <| aP h18 <| aN <| aP h20 <| aN <| aP (rfl : (true : Bool) = true) <| aP h23 <| aN <| aP h25 <| aN <| aP (rfl : (true : Bool) = true) <| aP h28 <| aN <| aP h30 <| aN <| aP (rfl : (true : Bool) = true) <| aP h33 <| aN <| aP h35 <| aN <| aP (rfl : (true : Bool) = true) <| aP h38 <| aN <| aP h40 <| aN <| aP (rfl : (true : Bool) = true) <| aP h43 <| aN <| aP h45 <| aN <| aP (rfl : (true : Bool) = true) <| aP h48 <| aN <| aP h50 <| aN <| aP (rfl : (true : Bool) = true) <| aP h53 <| aN <| aP h55 <| aN <| aP (rfl : (true : Bool) = true) <| aP h58 <| aN <| aP h60 <| aN <| aP (rfl : (true : Bool) = true) <| aP h63 <| aN <| aP h65 <| aN <| aP (rfl : (true : Bool) = true) <| aP h68 <| aN <| aP h70 <| aN <| aP (rfl : (true : Bool) = true) <| aP h73 <| aN <| aP h75 <| aN <| aP (rfl : (true : Bool) = true) <| aP h78 <| aN <| aZ)
  fun j => outK_gc [1] (by decide) (by kernel_rfl) (by kernel_rfl) (by kernel_rfl) (ho j)
open Ieee
abbrev fL (b0 b1 b2 b3 : Nat) : List AC := [fC b0, fC b1, fC b2, fC b3]
abbrev iL (w0 w1 w2 w3 : Int) : List AC := [.v (.int .i64 w0), .v (.int .i64 w1), .v (.int .i64 w2), .v (.int .i64 w3)]
abbrev trA (w0 w1 w2 w3 : Int) : List AC := [.v (.int .i64 ((((w0 + w1) + w2) + w3))), .v (.int .i64 (0)), .v (.int .i64 ((w0 + (-w2)))), .v (.int .i64 (((-w1) + w3))), .v (.int .i64 ((((w0 + (-w1)) + w2) + (-w3)))), .v (.int .i64 (0)), .v (.int .i64 ((w0 + (-w2)))), .v (.int .i64 ((w1 + (-w3))))]
theorem K100 (hE : EnvOk E) {b0 b1 b2 b3 : Nat} (hb0 : chkW 1024 b0 = 0) (hb1 : chkW 1024 b1 = 0) (hb2 : chkW 1024 b2 = 0) (hb3 : chkW 1024 b3 = 0) : COut E 0 [] 100 [.e (.agg (fL b0 b1 b2 b3))] (.e (.agg (iL (intW b0) (intW b1) (intW b2) (intW b3)))) [] :=
 cOut_clear (cOut_start Tryz.func100 rfl (p100 hE b0 b1 b2 b3 (intW b0) (intW b1) (intW b2) (intW b3) (k106 hE (L := 1024) (by decide) hb0) (k106 hE (L := 1024) (by decide) hb1) (k106 hE (L := 1024) (by decide) hb2) (k106 hE (L := 1024) (by decide) hb3) (fun j => outK_ret (ends_ret (by kernel_rfl))) fun _ => undef)) rfl
theorem K99 (hE : EnvOk E) {w0 w1 w2 w3 : Int} (h0 : w0.natAbs ≤ 16384) (h1 : w1.natAbs ≤ 16384) (h2 : w2.natAbs ≤ 16384) (h3 : w3.natAbs ≤ 16384) : COut E 0 [] 99 [.e (.agg (iL w0 w1 w2 w3))] (.e (.agg (trA w0 w1 w2 w3))) [] :=
 cOut_clear (cOut_start Tryz.func99 rfl (p99 hE w0 w1 w2 w3 (K105 hE (by unfold Sm; omega) (by unfold Sm; omega) (by unfold Sm; omega) (by unfold Sm; omega) (by omega) (by omega)) (K104 hE (by omega) (by omega) (by omega) (by omega) (by omega) (by omega)) (K105 hE (by unfold Sm; omega) (by unfold Sm; omega) (by unfold Sm; omega) (by unfold Sm; omega) (by omega) (by omega)) (K104 hE (by omega) (by omega) (by omega) (by omega) (by omega) (by omega)) (K105 hE (by unfold Sm; omega) (by unfold Sm; omega) (by unfold Sm; omega) (by unfold Sm; omega) (by omega) (by omega)) (K104 hE (by omega) (by omega) (by omega) (by omega) (by omega) (by omega)) (K105 hE (by unfold Sm; omega) (by unfold Sm; omega) (by unfold Sm; omega) (by unfold Sm; omega) (by omega) (by omega)) (K104 hE (by omega) (by omega) (by omega) (by omega) (by omega) (by omega)) (K105 hE (by unfold Sm; omega) (by unfold Sm; omega) (by unfold Sm; omega) (by unfold Sm; omega) (by omega) (by omega)) (K104 hE (by omega) (by omega) (by omega) (by omega) (by omega) (by omega)) (K105 hE (by unfold Sm; omega) (by unfold Sm; omega) (by unfold Sm; omega) (by unfold Sm; omega) (by omega) (by omega)) (K104 hE (by omega) (by omega) (by omega) (by omega) (by omega) (by omega)) (K105 hE (by unfold Sm; omega) (by unfold Sm; omega) (by unfold Sm; omega) (by unfold Sm; omega) (by omega) (by omega)) (K104 hE (by omega) (by omega) (by omega) (by omega) (by omega) (by omega)) (K105 hE (by unfold Sm; omega) (by unfold Sm; omega) (by unfold Sm; omega) (by unfold Sm; omega) (by omega) (by omega)) (K104 hE (by omega) (by omega) (by omega) (by omega) (by omega) (by omega)) (K105 hE (by unfold Sm; omega) (by unfold Sm; omega) (by unfold Sm; omega) (by unfold Sm; omega) (by omega) (by omega)) (K104 hE (by omega) (by omega) (by omega) (by omega) (by omega) (by omega)) (K105 hE (by unfold Sm; omega) (by unfold Sm; omega) (by unfold Sm; omega) (by unfold Sm; omega) (by omega) (by omega)) (K104 hE (by omega) (by omega) (by omega) (by omega) (by omega) (by omega)) (K105 hE (by unfold Sm; omega) (by unfold Sm; omega) (by unfold Sm; omega) (by unfold Sm; omega) (by omega) (by omega)) (K104 hE (by omega) (by omega) (by omega) (by omega) (by omega) (by omega)) (K105 hE (by unfold Sm; omega) (by unfold Sm; omega) (by unfold Sm; omega) (by unfold Sm; omega) (by omega) (by omega)) (K104 hE (by omega) (by omega) (by omega) (by omega) (by omega) (by omega)) (K105 hE (by unfold Sm; omega) (by unfold Sm; omega) (by unfold Sm; omega) (by unfold Sm; omega) (by omega) (by omega)) (K104 hE (by omega) (by omega) (by omega) (by omega) (by omega) (by omega)) (K105 hE (by unfold Sm; omega) (by unfold Sm; omega) (by unfold Sm; omega) (by unfold Sm; omega) (by omega) (by omega)) (K104 hE (by omega) (by omega) (by omega) (by omega) (by omega) (by omega)) (K105 hE (by unfold Sm; omega) (by unfold Sm; omega) (by unfold Sm; omega) (by unfold Sm; omega) (by omega) (by omega)) (K104 hE (by omega) (by omega) (by omega) (by omega) (by omega) (by omega)) (K105 hE (by unfold Sm; omega) (by unfold Sm; omega) (by unfold Sm; omega) (by unfold Sm; omega) (by omega) (by omega)) (K104 hE (by omega) (by omega) (by omega) (by omega) (by omega) (by omega)) (fun j => outK_ret (ends_ret (by kernel_rfl))) fun _ => undef)) rfl
end
end Go.Proofs.YtbmcfhkedgpldaaGreatDoor
end

/-! SePa -/
section
open Go Go.Ev
namespace Go.Proofs.YtbmcfhkedgpldaaGreatDoor
noncomputable section
set_option maxRecDepth 100000
set_option maxHeartbeats 20000000
def s156 (a b _u _v _s : Int) (_j : Nat → Value) : St := startK Tryz.f156 [] [.e (.agg [.v (.int .i64 a), .v (.int .i64 b)])]
def s93 (w0 w1 w2 w3 _r0 _i0 _r1 _i1 _r2 _i2 _r3 _i3 _q0 _q1 _q2 : Int) (_j : Nat → Value) : St := startK Tryz.f93 [] [.e (.agg [.v (.int .i64 w0), .v (.int .i64 w1), .v (.int .i64 w2), .v (.int .i64 w3)])]
def s92 (C : List DT) (n : Nat) (_j : Nat → Value) : St := startK Tryz.f92 [] [(.e (.one (.dp (.s C n 1))))]
def s97 (C : List DT) (n : Nat) (L _e : Int) (_j : Nat → Value) : St := startK Tryz.f97 [] [(.e (.one (.dp (.s C n 1)))), iI L, .e (.one (.v (.func (.func 24) #[] #[])))]
def s33 (C : List DT) (n : Nat) (_e : Int) (_j : Nat → Value) : St := startK Tryz.f33 [] [(.e (.one (.dp (.s C n 1))))]
def s34 (C : List DT) (n : Nat) (_e : Int) (_j : Nat → Value) : St := startK Tryz.f34 [] [(.e (.one (.dp (.s C n 1))))]
def s91 (C : List DT) (n : Nat) (_e _f _g : Int) (_j : Nat → Value) : St := startK Tryz.f91 [] [(.e (.one (.dp (.s C n 1))))]
def s28 (C : List DT) (n : Nat) (_l : List AC) (_b : Bool) (_j : Nat → Value) : St := startK Tryz.f28 [] [(.e (.one (.dp (.s C n 1))))]
def p156_end (_a _b _u _v s : Int) (j : Nat → Value) : St := ⟨[], [(.code .ret)], mkT j [(2, (iI (s)))] 14 0⟩
theorem p156 (hE : EnvOk E) (a b u v s : Int) (h0 : ((iI (wrapF IntKind.i64 (a * a))) : AV) = (iI (u))) (h1 : ((iI (wrapF IntKind.i64 (b * b))) : AV) = (iI (v))) (h2 : ((iI (wrapF IntKind.i64 (u + v))) : AV) = (iI (s))) {Φ : Res → Prop} (ho : ∀ j, OutK E 0 0 (p156_end a b u v s j) Φ) (j : Nat → Value) : OutK E 0 0 (s156 a b u v s j) Φ :=
 outK_seg hE (R0_ok hE) [.run 3, (.ops [(4, (.rn (iI (u)))), (9, (.rn (iI (v)))), (10, (.rn (iI (s))))] [])] [2] (s' := fun j => ⟨[(.some ⟨[(.v (.int .i64 (a))), (.v (.int .i64 (b)))], 2, 160, true, .cells⟩)], [(.code .ret)], mkT j [(2, (iI (s)))] 14 0⟩) (fun j => by kernel_rfl) (aP h0 <| aP h1 <| aP h2 <| aZ)
  fun j => outK_gc [] (by decide) (by kernel_rfl) (by kernel_rfl) (by kernel_rfl) (ho j)
def p93_end (_w0 _w1 _w2 _w3 _r0 _i0 _r1 _i1 _r2 _i2 _r3 _i3 q0 q1 q2 : Int) (j : Nat → Value) : St := ⟨[(.some ⟨[(.v (.int .i64 (q0))), (.v (.int .i64 (q1))), (.v (.int .i64 (q2)))], 3, 113, true, .cells⟩)], [(.code .ret)], mkT j [(2, (.e (.one (.ptr 0 0))))] 16 0⟩
theorem p93 (hE : EnvOk E) (w0 w1 w2 w3 r0 i0 r1 i1 r2 i2 r3 i3 q0 q1 q2 : Int) (h0 : COut E 0 [] 99 [(.e (.agg [(.v (.int .i64 (w0))), (.v (.int .i64 (w1))), (.v (.int .i64 (w2))), (.v (.int .i64 (w3)))]))] (.e (.agg [(.v (.int .i64 (r0))), (.v (.int .i64 (i0))), (.v (.int .i64 (r1))), (.v (.int .i64 (i1))), (.v (.int .i64 (r2))), (.v (.int .i64 (i2))), (.v (.int .i64 (r3))), (.v (.int .i64 (i3)))])) []) (h2 : COut E 0 [] 156 [(.e (.agg [(.v (.int .i64 (r0))), (.v (.int .i64 (i0)))]))] (iI (q0)) []) (h4 : COut E 0 [] 156 [(.e (.agg [(.v (.int .i64 (r1))), (.v (.int .i64 (i1)))]))] (iI (q1)) []) (h7 : COut E 0 [] 156 [(.e (.agg [(.v (.int .i64 (r2))), (.v (.int .i64 (i2)))]))] (iI (q2)) []) {Φ : Res → Prop} (ho : ∀ j, OutK E 0 0 (p93_end w0 w1 w2 w3 r0 i0 r1 i1 r2 i2 r3 i3 q0 q1 q2 j) Φ) (j : Nat → Value) : OutK E 0 0 (s93 w0 w1 w2 w3 r0 i0 r1 i1 r2 i2 r3 i3 q0 q1 q2 j) Φ :=
 outK_seg hE (R0_ok hE) [.run 3, (.ops [(1, (.c0 (.e (.agg [(.v (.int .i64 (r0))), (.v (.int .i64 (i0))), (.v (.int .i64 (r1))), (.v (.int .i64 (i1))), (.v (.int .i64 (r2))), (.v (.int .i64 (i2))), (.v (.int .i64 (r3))), (.v (.int .i64 (i3)))]))))] []), .run 1, (.ops [(2, (.c0 (iI (q0)))), (5, (.c0 (iI (q1)))), (8, (.c0 (iI (q2))))] [])] [2] (s' := fun j => ⟨[(.some ⟨[(.v (.int .i64 (w0))), (.v (.int .i64 (w1))), (.v (.int .i64 (w2))), (.v (.int .i64 (w3)))], 4, 22, true, .cells⟩), (.some ⟨[(.v (.int .i64 (q0))), (.v (.int .i64 (q1))), (.v (.int .i64 (q2)))], 3, 113, true, .cells⟩), (.some ⟨[(.v (.int .i64 (r0))), (.v (.int .i64 (i0))), (.v (.int .i64 (r1))), (.v (.int .i64 (i1))), (.v (.int .i64 (r2))), (.v (.int .i64 (i2))), (.v (.int .i64 (r3))), (.v (.int .i64 (i3)))], 8, 164, true, .cells⟩)], [(.code .ret)], mkT j [(2, (.e (.one (.ptr 1 0))))] 16 0⟩) (fun j => by kernel_rfl) (aP h0 <| aN <| aP h2 <| aN <| aP h4 <| aN <| aP (rfl : (true : Bool) = true) <| aP h7 <| aN <| aZ)
  fun j => outK_gc [1] (by decide) (by kernel_rfl) (by kernel_rfl) (by kernel_rfl) (ho j)
def p92_end (C : List DT) (n : Nat) (j : Nat → Value) : St := ⟨[(.some ⟨[(.dp (.s (C) (n) 1))], 1, 42, true, .cells⟩)], [(.code .ret)], mkT j [(2, (.e (.one (.clo 155 [] [(.one (.ptr 0 0))]))))] 4 0⟩
theorem p92 (hE : EnvOk E) (C : List DT) (n : Nat)  {Φ : Res → Prop} (ho : ∀ j, OutK E 0 0 (p92_end C n j) Φ) (j : Nat → Value) : OutK E 0 0 (s92 C n j) Φ :=
 outK_seg hE (R0_ok hE) [.run 4] [2] (ps := []) (fun j => by kernel_rfl) trivial
  ho
def p97a_end (_C : List DT) (_n : Nat) (_L _e : Int) (j : Nat → Value) : St := ⟨[], [(.code .ret), (.code (atC [1, 1] (bodyOf Tryz.f97)))], mkT j [(6, (iI 5))] 14 0⟩
theorem p97a (hE : EnvOk E) (C : List DT) (n : Nat) (L e : Int) (h0 : (decide ((↑n : Int) > L) : Bool) = true) {Φ : Res → Prop} (ho : ∀ j, OutK E 0 0 (p97a_end C n L e j) Φ) (j : Nat → Value) : OutK E 0 0 (s97 C n L e j) Φ :=
 outK_seg hE (R0_ok hE) [.run 4, (.ops [(1, (.d .len))] []), (.cond true), .run 2] [6] (fun j => by kernel_rfl) (aP h0 <| aZ)
  ho
def p97b_end (_C : List DT) (_n : Nat) (_L e : Int) (j : Nat → Value) : St := ⟨[], [(.code .ret)], mkT j [(6, (iI (e)))] 14 0⟩
theorem p97b (hE : EnvOk E) (C : List DT) (n : Nat) (L e : Int) (h0 : (decide ((↑n : Int) > L) : Bool) = false) (h1 : COut E 0 [] 98 [(.e (.one (.dp (.s (C) (n) 1)))), (.e (.one (.v (.func (.func 24) #[] #[]))))] (iI (e)) []) {Φ : Res → Prop} (ho : ∀ j, OutK E 0 0 (p97b_end C n L e j) Φ) (j : Nat → Value) : OutK E 0 0 (s97 C n L e j) Φ :=
 outK_seg hE (R0_ok hE) [.run 4, (.ops [(1, (.d .len))] []), (.cond false), .run 2, (.ops [(2, (.c0 (iI (e))))] [])] [6] (fun j => by kernel_rfl) (aP h0 <| aP h1 <| aN <| aZ)
  ho
def p33_end (_C : List DT) (_n : Nat) (e : Int) (j : Nat → Value) : St := ⟨[], [(.code .ret)], mkT j [(2, (iI (e)))] 5 0⟩
theorem p33 (hE : EnvOk E) (C : List DT) (n : Nat) (e : Int) (h0 : COut E 0 [] 97 [(.e (.one (.dp (.s (C) (n) 1)))), (iI 4096), (.e (.one (.v (.func (.func 24) #[] #[]))))] (iI (e)) []) {Φ : Res → Prop} (ho : ∀ j, OutK E 0 0 (p33_end C n e j) Φ) (j : Nat → Value) : OutK E 0 0 (s33 C n e j) Φ :=
 outK_seg hE (R0_ok hE) [.run 3, (.ops [(1, (.c0 (iI (e))))] [])] [2] (fun j => by kernel_rfl) (aP h0 <| aN <| aZ)
  ho
def p34a_end (_C : List DT) (_n : Nat) (_e : Int) (j : Nat → Value) : St := ⟨[], [(.code .ret), (.code (atC [1, 1] (bodyOf Tryz.f34)))], mkT j [(2, (iI 5))] 8 0⟩
theorem p34a (hE : EnvOk E) (C : List DT) (n : Nat) (e : Int) (h0 : (decide ((↑n : Int) > (4096 : Int)) : Bool) = true) {Φ : Res → Prop} (ho : ∀ j, OutK E 0 0 (p34a_end C n e j) Φ) (j : Nat → Value) : OutK E 0 0 (s34 C n e j) Φ :=
 outK_seg hE (R0_ok hE) [.run 4, (.ops [(1, (.d .len))] []), (.cond true), .run 2] [2] (fun j => by kernel_rfl) (aP h0 <| aZ)
  ho
def p34b_end (_C : List DT) (_n : Nat) (e : Int) (j : Nat → Value) : St := ⟨[], [(.code .ret)], mkT j [(2, (iI (e)))] 8 0⟩
theorem p34b (hE : EnvOk E) (C : List DT) (n : Nat) (e : Int) (h0 : (decide ((↑n : Int) > (4096 : Int)) : Bool) = false) (h1 : COut E 0 [] 38 [(.e (.one (.dp (.s (C) (n) 1))))] (iI (e)) []) {Φ : Res → Prop} (ho : ∀ j, OutK E 0 0 (p34b_end C n e j) Φ) (j : Nat → Value) : OutK E 0 0 (s34 C n e j) Φ :=
 outK_seg hE (R0_ok hE) [.run 4, (.ops [(1, (.d .len))] []), (.cond false), .run 2, (.ops [(1, (.c0 (iI (e))))] [])] [2] (fun j => by kernel_rfl) (aP h0 <| aP h1 <| aN <| aZ)
  ho
def p91_end (_C : List DT) (_n : Nat) (_e _f g : Int) (j : Nat → Value) : St := ⟨[], [(.code .ret)], mkT j [(2, (iI (g)))] 12 0⟩
theorem p91 (hE : EnvOk E) (C : List DT) (n : Nat) (e f g : Int) (h0 : COut E 0 [] 33 [(.e (.one (.dp (.s (C) (n) 1))))] (iI (e)) []) (h2 : COut E 0 [] 85 [(iB ((↑n : Int).tmod (4 : Int) != (0 : Int))), (iI 2)] (iI (f)) []) (h4 : COut E 1 [(.some ⟨[(.v (.int .i64 (e))), (.v (.int .i64 (f)))], 2, 26, true, .cells⟩)] 79 [(.e (.one (.slc 0 0 2 1 2 true)))] (iI (g)) [(.some ⟨[(.v (.int .i64 (e))), (.v (.int .i64 (f)))], 2, 26, true, .cells⟩)]) {Φ : Res → Prop} (ho : ∀ j, OutK E 0 0 (p91_end C n e f g j) Φ) (j : Nat → Value) : OutK E 0 0 (s91 C n e f g j) Φ :=
 outK_seg hE (R0_ok hE) [.run 3, (.ops [(1, (.c0 (iI (e)))), (6, (.c0 (iI (f)))), (8, (.d (.c1 (iI (g))))), (3, (.d .len))] [])] [2] (s' := fun j => ⟨[(.some ⟨[(.v (.int .i64 (e))), (.v (.int .i64 (f)))], 2, 26, true, .cells⟩)], [(.code .ret)], mkT j [(2, (iI (g)))] 12 0⟩) (fun j => by kernel_rfl) (aP h0 <| aN <| aP h2 <| aN <| aP h4 <| aN <| aZ)
  fun j => outK_gc [] (by decide) (by kernel_rfl) (by kernel_rfl) (by kernel_rfl) (ho j)
def p28_end (_C : List DT) (n : Nat) (l : List AC) (b : Bool) (j : Nat → Value) : St := ⟨[(.some ⟨(l), (n), 23, (b), .cells⟩)], [(.code .ret)], mkT j [(2, (.e (.one (.slc 0 0 (n) 1 (n) (b)))))] 6 0⟩
theorem p28 (hE : EnvOk E) (C : List DT) (n : Nat) (l : List AC) (b : Bool) (h0 : CopyOk [(.some ⟨[], 0, 23, true, .cells⟩)] 1 4 (.e (.one (.dp (.s (C) (n) 1)))) n l b) (h1 : (n * 1 : Nat) = n) (g0 : FlatC (l)) {Φ : Res → Prop} (ho : ∀ j, OutK E 0 0 (p28_end C n l b j) Φ) (j : Nat → Value) : OutK E 0 0 (s28 C n l b j) Φ :=
 outK_seg hE (R0_ok hE) [.run 3, (.ops [(2, (.cpu (n) (n) (l) (b)))] [])] [2] (s' := fun j => ⟨[none, (.some ⟨(l), (n), 23, (b), .cells⟩)], [(.code .ret)], mkT j [(2, (.e (.one (.slc 1 0 (n) 1 (n) (b)))))] 6 0⟩) (fun j => by kernel_rfl) (aP h0 <| aP h1 <| aZ)
  fun j => outK_gcF [1] [true] (h' := [(.some ⟨(l), (n), 23, (b), .cells⟩)]) (by decide) (by kernel_rfl) (by kernel_rfl) ⟨g0, trivial⟩ (by kernel_rfl) (ho j)
open Ieee
theorem sq_bound {a : Int} (h : a.natAbs ≤ 2 ^ 20) : 0 ≤ a * a ∧ a * a ≤ 2 ^ 40 := by
 have h2 : (a * a).natAbs ≤ 2 ^ 40 := by
  rw [Int.natAbs_mul]
  exact Nat.le_trans (Nat.mul_le_mul h h) (by decide)
 have h3 : 0 ≤ a * a := by
  rcases Int.le_total 0 a with h0 | h0
  ·exact Int.mul_nonneg h0 h0
  ·exact Int.mul_nonneg_of_nonpos_of_nonpos h0 h0
 omega
theorem K156 (hE : EnvOk E) {a b : Int} (ha : a.natAbs ≤ 2 ^ 20) (hb : b.natAbs ≤ 2 ^ 20) : COut E 0 [] 156 [gA a b] (iI (a * a + b * b)) [] := by
 have h1 := sq_bound ha
 have h2 := sq_bound hb
 exact cOut_clear (cOut_start Tryz.func156 rfl (p156 hE a b (a * a) (b * b) (a * a + b * b) (iIe (wrap_id (by omega) (by omega))) (iIe (wrap_id (by omega) (by omega))) (iIe (wrap_id (by omega) (by omega))) (fun j => outK_ret (ends_ret (by kernel_rfl))) fun _ => undef)) rfl
def pw0 (w0 w1 w2 w3 : Int) : Int := (w0 + w1 + w2 + w3) * (w0 + w1 + w2 + w3) + 0 * 0
def pw1 (w0 w1 w2 w3 : Int) : Int := (w0 + (-w2)) * (w0 + (-w2)) + ((-w1) + w3) * ((-w1) + w3)
def pw2 (w0 w1 w2 w3 : Int) : Int := (w0 + (-w1) + w2 + (-w3)) * (w0 + (-w1) + w2 + (-w3)) + 0 * 0
abbrev pwA (w0 w1 w2 w3 : Int) : AV := .e (.agg [.v (.int .i64 (pw0 w0 w1 w2 w3)), .v (.int .i64 (pw1 w0 w1 w2 w3)), .v (.int .i64 (pw2 w0 w1 w2 w3))])
theorem K93 (hE : EnvOk E) {w0 w1 w2 w3 : Int} (h0 : w0.natAbs ≤ 16384) (h1 : w1.natAbs ≤ 16384) (h2 : w2.natAbs ≤ 16384) (h3 : w3.natAbs ≤ 16384) : COut E 0 [] 93 [.e (.agg (iL w0 w1 w2 w3))] (pwA w0 w1 w2 w3) [] :=
 cOut_clear (cOut_start Tryz.func93 rfl (p93 hE w0 w1 w2 w3 _ _ _ _ _ _ _ _ _ _ _ (K99 hE h0 h1 h2 h3) (K156 hE (by omega) (by omega)) (K156 hE (by omega) (by omega)) (K156 hE (by omega) (by omega)) (fun j => outK_ret (ends_ret (by kernel_rfl))) fun _ => undef)) rfl
def chkS (ws : List Nat) : Int := if 4096 < ws.length then 5 else chkL ws
def chkQ (ws : List Nat) : Int := firstI [chkS ws, if ws.length % 4 ≠ 0 then 2 else 0]
theorem K97 (hE : EnvOk E) (ws : List Nat) (hm : ws.length ≤ 4000000) : COut E 0 [] 97 [.e (.one (dF ws).ac), iI 4096, .e (.one (.v (.func (.func 24) #[] #[])))] (iI (chkS ws)) [] := by
 unfold chkS
 by_cases h : 4096 < ws.length
 ·rw [if_pos h]
  exact cOut_start Tryz.func97 rfl (p97a hE _ _ 4096 0 (decide_eq_true (by omega)) (fun j => outK_ret (ends_ret (by kernel_rfl))) fun _ => undef)
 ·rw [if_neg h]
  exact cOut_start Tryz.func97 rfl (p97b hE _ _ 4096 _ (decide_eq_false (by omega)) (K98 hE ws hm) (fun j => outK_ret (ends_ret (by kernel_rfl))) fun _ => undef)
theorem K33 (hE : EnvOk E) (ws : List Nat) (hm : ws.length ≤ 4000000) : COut E 0 [] 33 [.e (.one (dF ws).ac)] (iI (chkS ws)) [] :=
 cOut_start Tryz.func33 rfl (p33 hE _ _ _ (K97 hE ws hm) (fun j => outK_ret (ends_ret (by kernel_rfl))) fun _ => undef)
theorem K34 (hE : EnvOk E) (ws : List Nat) (hm : ws.length ≤ 4000000) : COut E 0 [] 34 [.e (.one (dF ws).ac)] (iI (chkS ws)) [] := by
 unfold chkS
 by_cases h : 4096 < ws.length
 ·rw [if_pos h]
  exact cOut_start Tryz.func34 rfl (p34a hE _ _ 0 (decide_eq_true (by omega)) (fun j => outK_ret (ends_ret (by kernel_rfl))) fun _ => undef)
 ·rw [if_neg h]
  exact cOut_start Tryz.func34 rfl (p34b hE _ _ _ (decide_eq_false (by omega)) (K38 hE ws hm) (fun j => outK_ret (ends_ret (by kernel_rfl))) fun _ => undef)
theorem mod4 (n : Nat) (c d : Int) : (if ((↑n : Int).tmod (4 : Int) != (0 : Int)) = true then c else d) = if n % 4 ≠ 0 then c else d := by
 have e : (↑n : Int).tmod (4 : Int) = ((n % 4 : Nat) : Int) := by rw [Int.tmod_eq_emod_of_nonneg (by omega)]; simp
 by_cases h : n % 4 = 0
 ·simp [e, h]
 ·have h2 : ((n % 4 : Nat) : Int) ≠ 0 := by omega
  rw [e, if_pos (by simpa using h2), if_pos h]
theorem K91 (hE : EnvOk E) (ws : List Nat) (hm : ws.length ≤ 4000000) : COut E 0 [] 91 [.e (.one (dF ws).ac)] (iI (chkQ ws)) [] := by
 have h1 := k107 hE ((↑ws.length : Int).tmod (4 : Int) != (0 : Int)) 2
 rw [mod4] at h1
 exact cOut_clear (cOut_start Tryz.func91 rfl (p91 hE _ _ _ _ _ (K33 hE ws hm) h1 (k102 hE [chkS ws, if ws.length % 4 ≠ 0 then 2 else 0] rfl (by decide) get2) (fun j => outK_ret (ends_ret (by kernel_rfl))) fun _ => undef)) rfl
end
end Go.Proofs.YtbmcfhkedgpldaaGreatDoor
end
