/-
  Part of the proof: SeFa.
-/
import Derived.Test.YtgplabfjldndgaaGreatDoorSeFl
open Go Go.Ev
namespace Go.Proofs.YtgplabfjldndgaaGreatDoor
noncomputable section
set_option maxRecDepth 100000
set_option maxHeartbeats 20000000
def st151n  (_j : Nat → Value) : St := startK Tryz.f151 [] [.e (.one nanD)]
def st151 (r : Nat) (_e : Bool) (_j : Nat → Value) : St := startK Tryz.f151 [] [.e (.one (dC r))]
def st154 (r _a : Nat) (_j : Nat → Value) : St := startK Tryz.f154 [] [.e (.one (dC r))]
def st152 (r _a : Nat) (_e : Bool) (_j : Nat → Value) : St := startK Tryz.f152 [] [.e (.one (dC r)), iI 0]
def st153 (x _y : AC) (_j : Nat → Value) : St := startK Tryz.f153 [] [.e (.one x)]
def st88 (b _r : Nat) (_e : Int) (_j : Nat → Value) : St := startK Tryz.f88 [] [.e (.one (fC b))]
def st89 (b _r _y _z _a _l : Nat) (L _e : Int) (_j : Nat → Value) : St := startK Tryz.f89 [] [.e (.one (fC b)), iI L]
def st24 (b : Nat) (_f _g _e : Int) (_j : Nat → Value) : St := startK Tryz.f24 [] [.e (.one (fC b))]
def st90_1024 (b _r _q : Nat) (_n _e : Int) (_j : Nat → Value) : St := startK Tryz.f90 [] [.e (.one (fC b)), iI 1024]
def st90_4096 (b _r _q : Nat) (_n _e : Int) (_j : Nat → Value) : St := startK Tryz.f90 [] [.e (.one (fC b)), iI 4096]
def st25 (b : Nat) (_e : Int) (_j : Nat → Value) : St := startK Tryz.f25 [] [.e (.one (fC b))]
def st106 (b _r : Nat) (_n : Int) (_j : Nat → Value) : St := startK Tryz.f106 [] [.e (.one (fC b))]
def st65 (b _r : Nat) (_n : Int) (_j : Nat → Value) : St := startK Tryz.f65 [] [.e (.one (fC b))]
def st101 (n : Int) (_r _q : Nat) (_j : Nat → Value) : St := startK Tryz.f101 [] [iI n]
def st64 (n : Int) (_r _q : Nat) (_j : Nat → Value) : St := startK Tryz.f64 [] [iI n]
def c151n_end  (j : Nat → Value) : St := ⟨[], [(.code .ret)], mkT j [(2, (iB true))] 6 0⟩
theorem c151n (hE : EnvOk E)  (h0 : BinOk E.P BinOp.neq (219 : Nat) (Operand.tmp (3 : Nat)) (Operand.tmp (4 : Nat)) (AC.any (nanP FloatKind.f64)) (AC.any (nanP FloatKind.f64)) (AC.v (Value.bool true))) {Φ : Res → Prop} (ho : ∀ j, OutK E 0 0 (c151n_end  j) Φ) (j : Nat → Value) : OutK E 0 0 (st151n  j) Φ :=
  outK_seg hE (R0_ok hE) [.run 3, (.ops [(2, (.fb (.v (.bool true))))] [])] [2] (s' := fun j => ⟨[], [(.code .ret)], mkT j [(2, (iB true))] 6 0⟩) (ps := [BinOk E.P BinOp.neq (219 : Nat) (Operand.tmp (3 : Nat)) (Operand.tmp (4 : Nat)) (AC.any (nanP FloatKind.f64)) (AC.any (nanP FloatKind.f64)) (AC.v (Value.bool true))]) (fun j => by kernel_rfl) ⟨h0, trivial⟩
    ho
def c151_end (_r : Nat) (e : Bool) (j : Nat → Value) : St := ⟨[], [(.code .ret)], mkT j [(2, (iB (e)))] 6 0⟩
theorem c151 (hE : EnvOk E) (r : Nat) (e : Bool) (h0 : ((iB (FloatKind.f64.format.order r r != some Ordering.eq)) : AV) = (iB (e))) {Φ : Res → Prop} (ho : ∀ j, OutK E 0 0 (c151_end r e j) Φ) (j : Nat → Value) : OutK E 0 0 (st151 r e j) Φ :=
  outK_seg hE (R0_ok hE) [.run 3, (.ops [(2, (.rn (iB (e))))] [])] [2] (s' := fun j => ⟨[], [(.code .ret)], mkT j [(2, (iB (e)))] 6 0⟩) (ps := [((iB (FloatKind.f64.format.order r r != some Ordering.eq)) : AV) = (iB (e))]) (fun j => by kernel_rfl) ⟨h0, trivial⟩
    ho
def c154_end (_r a : Nat) (j : Nat → Value) : St := ⟨[], [(.code .ret)], mkT j [(2, (.e (.one (.v (.float .f64 (a))))))] 7 0⟩
theorem c154 (hE : EnvOk E) (r a : Nat) (h0 : BinOk E.P BinOp.andNot (239 : Nat) (Operand.tmp (4 : Nat)) (Operand.const (Value.int IntKind.u64 (9223372036854775808 : Int))) (AC.v (Value.int IntKind.u64 (↑r : Int))) (AC.v (Value.int IntKind.u64 (9223372036854775808 : Int))) (AC.v (Value.int IntKind.u64 (Int.ofNat a)))) (h1 : ((.e (.one (.v (.float .f64 ((Int.ofNat a).toNat))))) : AV) = (.e (.one (.v (.float .f64 (a)))))) {Φ : Res → Prop} (ho : ∀ j, OutK E 0 0 (c154_end r a j) Φ) (j : Nat → Value) : OutK E 0 0 (st154 r a j) Φ :=
  outK_seg hE (R0_ok hE) [.run 3, (.ops [(2, (.fb (.v (.int .u64 (Int.ofNat a))))), (3, (.rn (.e (.one (.v (.float .f64 (a)))))))] [])] [2] (s' := fun j => ⟨[], [(.code .ret)], mkT j [(2, (.e (.one (.v (.float .f64 (a))))))] 7 0⟩) (ps := [BinOk E.P BinOp.andNot (239 : Nat) (Operand.tmp (4 : Nat)) (Operand.const (Value.int IntKind.u64 (9223372036854775808 : Int))) (AC.v (Value.int IntKind.u64 (↑r : Int))) (AC.v (Value.int IntKind.u64 (9223372036854775808 : Int))) (AC.v (Value.int IntKind.u64 (Int.ofNat a))), ((.e (.one (.v (.float .f64 ((Int.ofNat a).toNat))))) : AV) = (.e (.one (.v (.float .f64 (a)))))]) (fun j => by kernel_rfl) ⟨h0, h1, trivial⟩
    ho
def c152_end (_r _a : Nat) (e : Bool) (j : Nat → Value) : St := ⟨[], [(.code .ret)], mkT j [(4, (iB (e)))] 15 0⟩
theorem c152 (hE : EnvOk E) (r a : Nat) (e : Bool) (h0 : COut E 0 [] 154 [(.e (.one (.v (.float .f64 (r)))))] (.e (.one (.v (.float .f64 (a))))) []) (h2 : ((iB (FloatKind.f64.format.order a (9218868437227405311 : Nat) == some Ordering.gt)) : AV) = (iB (e))) {Φ : Res → Prop} (ho : ∀ j, OutK E 0 0 (c152_end r a e j) Φ) (j : Nat → Value) : OutK E 0 0 (st152 r a e j) Φ :=
  outK_seg hE (R0_ok hE) [.run 6, (.ops [(1, (.c0 (.e (.one (.v (.float .f64 (a)))))))] []), .run 1, (.ops [(1, (.rn (iB (e))))] [])] [4] (s' := fun j => ⟨[], [(.code .ret)], mkT j [(4, (iB (e)))] 15 0⟩) (ps := [COut E 0 [] 154 [(.e (.one (.v (.float .f64 (r)))))] (.e (.one (.v (.float .f64 (a))))) [], ([] : List Nat) = [], ((iB (FloatKind.f64.format.order a (9218868437227405311 : Nat) == some Ordering.gt)) : AV) = (iB (e))]) (fun j => by kernel_rfl) ⟨h0, rfl, h2, trivial⟩
    ho
def c153_end (_x y : AC) (j : Nat → Value) : St := ⟨[], [(.code .ret), (.code (atC [1, 1] (bodyOf Tryz.f153)))], mkT j [(2, (.e (.one (y))))] 7 0⟩
theorem c153 (hE : EnvOk E) (x y : AC) (h0 : ExtOk E.P 170 [(.e (.one (x)))] y) {Φ : Res → Prop} (ho : ∀ j, OutK E 0 0 (c153_end x y j) Φ) (j : Nat → Value) : OutK E 0 0 (st153 x y j) Φ :=
  outK_seg hE (R0_ok hE) [.run 5, (.ops [(0, .go), (1, (.fx (y)))] [])] [2] (s' := fun j => ⟨[], [(.code .ret), (.code (atC [1, 1] (bodyOf Tryz.f153)))], mkT j [(2, (.e (.one (y))))] 7 0⟩) (ps := [ExtOk E.P 170 [(.e (.one (x)))] y]) (fun j => by kernel_rfl) ⟨h0, trivial⟩
    ho
def c88n_end (_b _r : Nat) (e : Int) (j : Nat → Value) : St := ⟨[], [(.code .ret)], mkT j [(2, (iI (e)))] 13 0⟩
theorem c88n (hE : EnvOk E) (b r : Nat) (e : Int) (h0 : ConvOk E.P (23 : Nat) (219 : Nat) (AC.v (Value.float FloatKind.f32 b)) nanD) (h1 : COut E 0 [] 151 [(.e (.one (.any (nanP FloatKind.f64))))] (iB true) []) (h3 : COut E 0 [] 85 [(iB true), (iI 1)] (iI (e)) []) {Φ : Res → Prop} (ho : ∀ j, OutK E 0 0 (c88n_end b r e j) Φ) (j : Nat → Value) : OutK E 0 0 (st88 b r e j) Φ :=
  outK_seg hE (R0_ok hE) [.run 3, (.ops [(1, (.fc (.any (nanP FloatKind.f64))))] []), .run 1, (.ops [(1, (.c0 (iB true))), (6, (.c0 (iI (e))))] [])] [2] (s' := fun j => ⟨[], [(.code .ret)], mkT j [(2, (iI (e)))] 13 0⟩) (ps := [ConvOk E.P (23 : Nat) (219 : Nat) (AC.v (Value.float FloatKind.f32 b)) nanD, COut E 0 [] 151 [(.e (.one (.any (nanP FloatKind.f64))))] (iB true) [], ([] : List Nat) = [], COut E 0 [] 85 [(iB true), (iI 1)] (iI (e)) [], ([] : List Nat) = []]) (fun j => by kernel_rfl) ⟨h0, h1, rfl, h3, rfl, trivial⟩
    ho
def c88f_end (_b _r : Nat) (e : Int) (j : Nat → Value) : St := ⟨[], [(.code .ret)], mkT j [(2, (iI (e)))] 13 0⟩
theorem c88f (hE : EnvOk E) (b r : Nat) (e : Int) (h0 : ConvOk E.P (23 : Nat) (219 : Nat) (AC.v (Value.float FloatKind.f32 b)) (dC r)) (h1 : COut E 0 [] 151 [(.e (.one (.v (.float .f64 (r)))))] (iB false) []) (h3 : COut E 0 [] 152 [(.e (.one (.v (.float .f64 (r))))), (iI 0)] (iB false) []) (h5 : COut E 0 [] 85 [(iB false), (iI 1)] (iI (e)) []) {Φ : Res → Prop} (ho : ∀ j, OutK E 0 0 (c88f_end b r e j) Φ) (j : Nat → Value) : OutK E 0 0 (st88 b r e j) Φ :=
  outK_seg hE (R0_ok hE) [.run 3, (.ops [(1, (.fc (.v (.float .f64 (r)))))] []), .run 1, (.ops [(1, (.c0 (iB false))), (4, (.c0 (iB false))), (6, (.c0 (iI (e))))] [])] [2] (s' := fun j => ⟨[], [(.code .ret)], mkT j [(2, (iI (e)))] 13 0⟩) (ps := [ConvOk E.P (23 : Nat) (219 : Nat) (AC.v (Value.float FloatKind.f32 b)) (dC r), COut E 0 [] 151 [(.e (.one (.v (.float .f64 (r)))))] (iB false) [], ([] : List Nat) = [], COut E 0 [] 152 [(.e (.one (.v (.float .f64 (r))))), (iI 0)] (iB false) [], ([] : List Nat) = [], COut E 0 [] 85 [(iB false), (iI 1)] (iI (e)) [], ([] : List Nat) = []]) (fun j => by kernel_rfl) ⟨h0, h1, rfl, h3, rfl, h5, rfl, trivial⟩
    ho
def c88i_end (_b _r : Nat) (e : Int) (j : Nat → Value) : St := ⟨[], [(.code .ret)], mkT j [(2, (iI (e)))] 13 0⟩
theorem c88i (hE : EnvOk E) (b r : Nat) (e : Int) (h0 : ConvOk E.P (23 : Nat) (219 : Nat) (AC.v (Value.float FloatKind.f32 b)) (dC r)) (h1 : COut E 0 [] 151 [(.e (.one (.v (.float .f64 (r)))))] (iB false) []) (h3 : COut E 0 [] 152 [(.e (.one (.v (.float .f64 (r))))), (iI 0)] (iB true) []) (h5 : COut E 0 [] 85 [(iB true), (iI 1)] (iI (e)) []) {Φ : Res → Prop} (ho : ∀ j, OutK E 0 0 (c88i_end b r e j) Φ) (j : Nat → Value) : OutK E 0 0 (st88 b r e j) Φ :=
  outK_seg hE (R0_ok hE) [.run 3, (.ops [(1, (.fc (.v (.float .f64 (r)))))] []), .run 1, (.ops [(1, (.c0 (iB false))), (4, (.c0 (iB true))), (6, (.c0 (iI (e))))] [])] [2] (s' := fun j => ⟨[], [(.code .ret)], mkT j [(2, (iI (e)))] 13 0⟩) (ps := [ConvOk E.P (23 : Nat) (219 : Nat) (AC.v (Value.float FloatKind.f32 b)) (dC r), COut E 0 [] 151 [(.e (.one (.v (.float .f64 (r)))))] (iB false) [], ([] : List Nat) = [], COut E 0 [] 152 [(.e (.one (.v (.float .f64 (r))))), (iI 0)] (iB true) [], ([] : List Nat) = [], COut E 0 [] 85 [(iB true), (iI 1)] (iI (e)) [], ([] : List Nat) = []]) (fun j => by kernel_rfl) ⟨h0, h1, rfl, h3, rfl, h5, rfl, trivial⟩
    ho
def c89n_end (_b _r _y _z _a _l : Nat) (_L e : Int) (j : Nat → Value) : St := ⟨[], [(.code .ret)], mkT j [(4, (iI (e)))] 22 0⟩
theorem c89n (hE : EnvOk E) (b r y z a l : Nat) (L e : Int) (h0 : ConvOk E.P (23 : Nat) (219 : Nat) (AC.v (Value.float FloatKind.f32 b)) nanD) (h1 : BinOk E.P BinOp.mul (219 : Nat) (Operand.const (Value.float FloatKind.f64 (4625196817309499392 : Nat))) (Operand.tmp (7 : Nat)) (AC.v (Value.float FloatKind.f64 (4625196817309499392 : Nat))) nanD nanD) (h2 : COut E 0 [] 153 [(.e (.one (.any (nanP FloatKind.f64))))] (.e (.one (.any (nanP FloatKind.f64)))) []) (h4 : BinOk E.P BinOp.neq (219 : Nat) (Operand.tmp (9 : Nat)) (Operand.tmp (11 : Nat)) (AC.any (nanP FloatKind.f64)) nanD (AC.v (Value.bool true))) (h5 : COut E 0 [] 85 [(iB true), (iI 3)] (iI (e)) []) {Φ : Res → Prop} (ho : ∀ j, OutK E 0 0 (c89n_end b r y z a l L e j) Φ) (j : Nat → Value) : OutK E 0 0 (st89 b r y z a l L e j) Φ :=
  outK_seg hE (R0_ok hE) [.run 3, (.ops [(1, (.fc (.any (nanP FloatKind.f64)))), (2, (.fb (.any (nanP FloatKind.f64))))] []), .run 1, (.ops [(2, (.c0 (.e (.one (.any (nanP FloatKind.f64)))))), (3, (.fb (.v (.bool true)))), (12, (.c0 (iI (e))))] [])] [4] (s' := fun j => ⟨[], [(.code .ret)], mkT j [(4, (iI (e)))] 22 0⟩) (ps := [ConvOk E.P (23 : Nat) (219 : Nat) (AC.v (Value.float FloatKind.f32 b)) nanD, BinOk E.P BinOp.mul (219 : Nat) (Operand.const (Value.float FloatKind.f64 (4625196817309499392 : Nat))) (Operand.tmp (7 : Nat)) (AC.v (Value.float FloatKind.f64 (4625196817309499392 : Nat))) nanD nanD, COut E 0 [] 153 [(.e (.one (.any (nanP FloatKind.f64))))] (.e (.one (.any (nanP FloatKind.f64)))) [], ([] : List Nat) = [], BinOk E.P BinOp.neq (219 : Nat) (Operand.tmp (9 : Nat)) (Operand.tmp (11 : Nat)) (AC.any (nanP FloatKind.f64)) nanD (AC.v (Value.bool true)), COut E 0 [] 85 [(iB true), (iI 3)] (iI (e)) [], ([] : List Nat) = []]) (fun j => by kernel_rfl) ⟨h0, h1, h2, rfl, h4, h5, rfl, trivial⟩
    ho
def c89t_end (_b _r _y _z _a _l : Nat) (_L e : Int) (j : Nat → Value) : St := ⟨[], [(.code .ret)], mkT j [(4, (iI (e)))] 22 0⟩
theorem c89t (hE : EnvOk E) (b r y z a l : Nat) (L e : Int) (h0 : ConvOk E.P (23 : Nat) (219 : Nat) (AC.v (Value.float FloatKind.f32 b)) (dC r)) (h1 : BinOk E.P BinOp.mul (219 : Nat) (Operand.const (Value.float FloatKind.f64 (4625196817309499392 : Nat))) (Operand.tmp (7 : Nat)) (AC.v (Value.float FloatKind.f64 (4625196817309499392 : Nat))) (dC r) (dC y)) (h2 : COut E 0 [] 153 [(.e (.one (.v (.float .f64 (y)))))] (.e (.one (.v (.float .f64 (z))))) []) (h4 : ((iB (FloatKind.f64.format.order y z != some Ordering.eq)) : AV) = (iB true)) (h5 : COut E 0 [] 85 [(iB true), (iI 3)] (iI (e)) []) {Φ : Res → Prop} (ho : ∀ j, OutK E 0 0 (c89t_end b r y z a l L e j) Φ) (j : Nat → Value) : OutK E 0 0 (st89 b r y z a l L e j) Φ :=
  outK_seg hE (R0_ok hE) [.run 3, (.ops [(1, (.fc (.v (.float .f64 (r))))), (2, (.fb (.v (.float .f64 (y)))))] []), .run 1, (.ops [(2, (.c0 (.e (.one (.v (.float .f64 (z))))))), (3, (.rn (iB true))), (12, (.c0 (iI (e))))] [])] [4] (s' := fun j => ⟨[], [(.code .ret)], mkT j [(4, (iI (e)))] 22 0⟩) (ps := [ConvOk E.P (23 : Nat) (219 : Nat) (AC.v (Value.float FloatKind.f32 b)) (dC r), BinOk E.P BinOp.mul (219 : Nat) (Operand.const (Value.float FloatKind.f64 (4625196817309499392 : Nat))) (Operand.tmp (7 : Nat)) (AC.v (Value.float FloatKind.f64 (4625196817309499392 : Nat))) (dC r) (dC y), COut E 0 [] 153 [(.e (.one (.v (.float .f64 (y)))))] (.e (.one (.v (.float .f64 (z))))) [], ([] : List Nat) = [], ((iB (FloatKind.f64.format.order y z != some Ordering.eq)) : AV) = (iB true), COut E 0 [] 85 [(iB true), (iI 3)] (iI (e)) [], ([] : List Nat) = []]) (fun j => by kernel_rfl) ⟨h0, h1, h2, rfl, h4, h5, rfl, trivial⟩
    ho
def c89f_end (_b _r _y _z _a _l : Nat) (_L e : Int) (j : Nat → Value) : St := ⟨[], [(.code .ret)], mkT j [(4, (iI (e)))] 22 0⟩
theorem c89f (hE : EnvOk E) (b r y z a l : Nat) (L e : Int) (h0 : ConvOk E.P (23 : Nat) (219 : Nat) (AC.v (Value.float FloatKind.f32 b)) (dC r)) (h1 : BinOk E.P BinOp.mul (219 : Nat) (Operand.const (Value.float FloatKind.f64 (4625196817309499392 : Nat))) (Operand.tmp (7 : Nat)) (AC.v (Value.float FloatKind.f64 (4625196817309499392 : Nat))) (dC r) (dC y)) (h2 : COut E 0 [] 153 [(.e (.one (.v (.float .f64 (y)))))] (.e (.one (.v (.float .f64 (z))))) []) (h4 : ((iB (FloatKind.f64.format.order y z != some Ordering.eq)) : AV) = (iB false)) (h5 : COut E 0 [] 154 [(.e (.one (.v (.float .f64 (y)))))] (.e (.one (.v (.float .f64 (a))))) []) (h7 : ((iI (wrapF IntKind.i64 ((16 : Int) * L))) : AV) = (iI ((16 : Int) * L))) (h8 : ConvOk E.P (3 : Nat) (219 : Nat) (AC.v (Value.int IntKind.i64 ((16 : Int) * L))) (dC l)) (h9 : COut E 0 [] 85 [(iB (FloatKind.f64.format.order a l == some Ordering.gt)), (iI 3)] (iI (e)) []) {Φ : Res → Prop} (ho : ∀ j, OutK E 0 0 (c89f_end b r y z a l L e j) Φ) (j : Nat → Value) : OutK E 0 0 (st89 b r y z a l L e j) Φ :=
  outK_seg hE (R0_ok hE) [.run 3, (.ops [(1, (.fc (.v (.float .f64 (r))))), (2, (.fb (.v (.float .f64 (y)))))] []), .run 1, (.ops [(2, (.c0 (.e (.one (.v (.float .f64 (z))))))), (3, (.rn (iB false))), (6, (.c0 (.e (.one (.v (.float .f64 (a))))))), (8, (.rn (iI ((16 : Int) * L)))), (9, (.fc (.v (.float .f64 (l))))), (12, (.c0 (iI (e))))] [])] [4] (s' := fun j => ⟨[], [(.code .ret)], mkT j [(4, (iI (e)))] 22 0⟩) (ps := [ConvOk E.P (23 : Nat) (219 : Nat) (AC.v (Value.float FloatKind.f32 b)) (dC r), BinOk E.P BinOp.mul (219 : Nat) (Operand.const (Value.float FloatKind.f64 (4625196817309499392 : Nat))) (Operand.tmp (7 : Nat)) (AC.v (Value.float FloatKind.f64 (4625196817309499392 : Nat))) (dC r) (dC y), COut E 0 [] 153 [(.e (.one (.v (.float .f64 (y)))))] (.e (.one (.v (.float .f64 (z))))) [], ([] : List Nat) = [], ((iB (FloatKind.f64.format.order y z != some Ordering.eq)) : AV) = (iB false), COut E 0 [] 154 [(.e (.one (.v (.float .f64 (y)))))] (.e (.one (.v (.float .f64 (a))))) [], ([] : List Nat) = [], ((iI (wrapF IntKind.i64 ((16 : Int) * L))) : AV) = (iI ((16 : Int) * L)), ConvOk E.P (3 : Nat) (219 : Nat) (AC.v (Value.int IntKind.i64 ((16 : Int) * L))) (dC l), COut E 0 [] 85 [(iB (FloatKind.f64.format.order a l == some Ordering.gt)), (iI 3)] (iI (e)) [], ([] : List Nat) = []]) (fun j => by kernel_rfl) ⟨h0, h1, h2, rfl, h4, h5, rfl, h7, h8, h9, rfl, trivial⟩
    ho
def c24_end (_b : Nat) (_f _g e : Int) (j : Nat → Value) : St := ⟨[], [(.code .ret)], mkT j [(2, (iI (e)))] 9 0⟩
theorem c24 (hE : EnvOk E) (b : Nat) (f g e : Int) (h0 : COut E 0 [] 88 [(.e (.one (.v (.float .f32 (b)))))] (iI (f)) []) (h2 : COut E 0 [] 89 [(.e (.one (.v (.float .f32 (b))))), (iI 1024)] (iI (g)) []) (h4 : COut E 1 [(.some ⟨[(.v (.int .i64 (f))), (.v (.int .i64 (g)))], 2, 26, true, .cells⟩)] 79 [(.e (.one (.slc 0 0 2 1 2 true)))] (iI (e)) [(.some ⟨[(.v (.int .i64 (f))), (.v (.int .i64 (g)))], 2, 26, true, .cells⟩)]) {Φ : Res → Prop} (ho : ∀ j, OutK E 0 0 (c24_end b f g e j) Φ) (j : Nat → Value) : OutK E 0 0 (st24 b f g e j) Φ :=
  outK_seg hE (R0_ok hE) [.run 3, (.ops [(1, (.c0 (iI (f)))), (3, (.c0 (iI (g)))), (5, (.d (.c1 (iI (e)))))] [])] [2] (s' := fun j => ⟨[(.some ⟨[(.v (.int .i64 (f))), (.v (.int .i64 (g)))], 2, 26, true, .cells⟩)], [(.code .ret)], mkT j [(2, (iI (e)))] 9 0⟩) (ps := [COut E 0 [] 88 [(.e (.one (.v (.float .f32 (b)))))] (iI (f)) [], ([] : List Nat) = [], COut E 0 [] 89 [(.e (.one (.v (.float .f32 (b))))), (iI 1024)] (iI (g)) [], ([] : List Nat) = [], COut E 1 [(.some ⟨[(.v (.int .i64 (f))), (.v (.int .i64 (g)))], 2, 26, true, .cells⟩)] 79 [(.e (.one (.slc 0 0 2 1 2 true)))] (iI (e)) [(.some ⟨[(.v (.int .i64 (f))), (.v (.int .i64 (g)))], 2, 26, true, .cells⟩)], ([] : List Nat) = []]) (fun j => by kernel_rfl) ⟨h0, rfl, h2, rfl, h4, rfl, trivial⟩
    fun j => outK_gc [] (by decide) (by kernel_rfl) (by kernel_rfl) (by kernel_rfl) (ho j)
def c90n_1024_end (_b _r _q : Nat) (_n _e : Int) (j : Nat → Value) : St := ⟨[], [(.code .ret), (.code (atC [1, 1] (bodyOf Tryz.f90)))], mkT j [(4, (iI 1))] 35 0⟩
theorem c90n_1024 (hE : EnvOk E) (b r q : Nat) (n e : Int) (h0 : ((iB (FloatKind.f32.format.order b b != some Ordering.eq)) : AV) = (iB true)) {Φ : Res → Prop} (ho : ∀ j, OutK E 0 0 (c90n_1024_end b r q n e j) Φ) (j : Nat → Value) : OutK E 0 0 (st90_1024 b r q n e j) Φ :=
  outK_seg hE (R0_ok hE) [.run 4, (.ops [(2, (.rn (iB true)))] []), .run 3] [4] (s' := fun j => ⟨[], [(.code .ret), (.code (atC [1, 1] (bodyOf Tryz.f90)))], mkT j [(4, (iI 1))] 35 0⟩) (ps := [((iB (FloatKind.f32.format.order b b != some Ordering.eq)) : AV) = (iB true)]) (fun j => by kernel_rfl) ⟨h0, trivial⟩
    ho
def c90p_1024_end (_b _r _q : Nat) (_n _e : Int) (j : Nat → Value) : St := ⟨[], [(.code .ret), (.code (atC [1, 1] (bodyOf Tryz.f90)))], mkT j [(4, (iI 1))] 35 0⟩
theorem c90p_1024 (hE : EnvOk E) (b r q : Nat) (n e : Int) (h0 : ((iB (FloatKind.f32.format.order b b != some Ordering.eq)) : AV) = (iB false)) (h1 : ((iB (FloatKind.f32.format.order b (2139095039 : Nat) == some Ordering.gt)) : AV) = (iB true)) {Φ : Res → Prop} (ho : ∀ j, OutK E 0 0 (c90p_1024_end b r q n e j) Φ) (j : Nat → Value) : OutK E 0 0 (st90_1024 b r q n e j) Φ :=
  outK_seg hE (R0_ok hE) [.run 4, (.ops [(2, (.rn (iB false))), (5, (.rn (iB true)))] []), .run 3] [4] (s' := fun j => ⟨[], [(.code .ret), (.code (atC [1, 1] (bodyOf Tryz.f90)))], mkT j [(4, (iI 1))] 35 0⟩) (ps := [((iB (FloatKind.f32.format.order b b != some Ordering.eq)) : AV) = (iB false), ((iB (FloatKind.f32.format.order b (2139095039 : Nat) == some Ordering.gt)) : AV) = (iB true)]) (fun j => by kernel_rfl) ⟨h0, h1, trivial⟩
    ho
def c90m_1024_end (_b _r _q : Nat) (_n _e : Int) (j : Nat → Value) : St := ⟨[], [(.code .ret), (.code (atC [1, 1] (bodyOf Tryz.f90)))], mkT j [(4, (iI 1))] 35 0⟩
theorem c90m_1024 (hE : EnvOk E) (b r q : Nat) (n e : Int) (h0 : ((iB (FloatKind.f32.format.order b b != some Ordering.eq)) : AV) = (iB false)) (h1 : ((iB (FloatKind.f32.format.order b (2139095039 : Nat) == some Ordering.gt)) : AV) = (iB false)) (h2 : ((iB (FloatKind.f32.format.order b (4286578687 : Nat) == some Ordering.lt)) : AV) = (iB true)) {Φ : Res → Prop} (ho : ∀ j, OutK E 0 0 (c90m_1024_end b r q n e j) Φ) (j : Nat → Value) : OutK E 0 0 (st90_1024 b r q n e j) Φ :=
  outK_seg hE (R0_ok hE) [.run 4, (.ops [(2, (.rn (iB false))), (5, (.rn (iB false))), (9, (.rn (iB true)))] []), .run 3] [4] (s' := fun j => ⟨[], [(.code .ret), (.code (atC [1, 1] (bodyOf Tryz.f90)))], mkT j [(4, (iI 1))] 35 0⟩) (ps := [((iB (FloatKind.f32.format.order b b != some Ordering.eq)) : AV) = (iB false), ((iB (FloatKind.f32.format.order b (2139095039 : Nat) == some Ordering.gt)) : AV) = (iB false), ((iB (FloatKind.f32.format.order b (4286578687 : Nat) == some Ordering.lt)) : AV) = (iB true)]) (fun j => by kernel_rfl) ⟨h0, h1, h2, trivial⟩
    ho
def c90g_1024_end (_b _r _q : Nat) (_n _e : Int) (j : Nat → Value) : St := ⟨[], [(.code .ret), (.code (atC [1, 1, 1] (bodyOf Tryz.f90)))], mkT j [(4, (iI 3))] 35 0⟩
theorem c90g_1024 (hE : EnvOk E) (b r q : Nat) (n e : Int) (h0 : ((iB (FloatKind.f32.format.order b b != some Ordering.eq)) : AV) = (iB false)) (h1 : ((iB (FloatKind.f32.format.order b (2139095039 : Nat) == some Ordering.gt)) : AV) = (iB false)) (h2 : ((iB (FloatKind.f32.format.order b (4286578687 : Nat) == some Ordering.lt)) : AV) = (iB false)) (h3 : ((iB (FloatKind.f32.format.order b (1149239296 : Nat) == some Ordering.gt)) : AV) = (iB true)) {Φ : Res → Prop} (ho : ∀ j, OutK E 0 0 (c90g_1024_end b r q n e j) Φ) (j : Nat → Value) : OutK E 0 0 (st90_1024 b r q n e j) Φ :=
  outK_seg hE (R0_ok hE) [.run 4, (.ops [(2, (.rn (iB false))), (5, (.rn (iB false))), (9, (.rn (iB false)))] []), .run 4, (.ops [(3, (.rn (iB true)))] []), .run 3] [4] (s' := fun j => ⟨[], [(.code .ret), (.code (atC [1, 1, 1] (bodyOf Tryz.f90)))], mkT j [(4, (iI 3))] 35 0⟩) (ps := [((iB (FloatKind.f32.format.order b b != some Ordering.eq)) : AV) = (iB false), ((iB (FloatKind.f32.format.order b (2139095039 : Nat) == some Ordering.gt)) : AV) = (iB false), ((iB (FloatKind.f32.format.order b (4286578687 : Nat) == some Ordering.lt)) : AV) = (iB false), ((iB (FloatKind.f32.format.order b (1149239296 : Nat) == some Ordering.gt)) : AV) = (iB true)]) (fun j => by kernel_rfl) ⟨h0, h1, h2, h3, trivial⟩
    ho
def c90l_1024_end (_b _r _q : Nat) (_n _e : Int) (j : Nat → Value) : St := ⟨[], [(.code .ret), (.code (atC [1, 1, 1] (bodyOf Tryz.f90)))], mkT j [(4, (iI 3))] 35 0⟩
theorem c90l_1024 (hE : EnvOk E) (b r q : Nat) (n e : Int) (h0 : ((iB (FloatKind.f32.format.order b b != some Ordering.eq)) : AV) = (iB false)) (h1 : ((iB (FloatKind.f32.format.order b (2139095039 : Nat) == some Ordering.gt)) : AV) = (iB false)) (h2 : ((iB (FloatKind.f32.format.order b (4286578687 : Nat) == some Ordering.lt)) : AV) = (iB false)) (h3 : ((iB (FloatKind.f32.format.order b (1149239296 : Nat) == some Ordering.gt)) : AV) = (iB false)) (h4 : ((iB (FloatKind.f32.format.order b (3296722944 : Nat) == some Ordering.lt)) : AV) = (iB true)) {Φ : Res → Prop} (ho : ∀ j, OutK E 0 0 (c90l_1024_end b r q n e j) Φ) (j : Nat → Value) : OutK E 0 0 (st90_1024 b r q n e j) Φ :=
  outK_seg hE (R0_ok hE) [.run 4, (.ops [(2, (.rn (iB false))), (5, (.rn (iB false))), (9, (.rn (iB false)))] []), .run 4, (.ops [(3, (.rn (iB false))), (9, (.rn (iB true)))] []), .run 3] [4] (s' := fun j => ⟨[], [(.code .ret), (.code (atC [1, 1, 1] (bodyOf Tryz.f90)))], mkT j [(4, (iI 3))] 35 0⟩) (ps := [((iB (FloatKind.f32.format.order b b != some Ordering.eq)) : AV) = (iB false), ((iB (FloatKind.f32.format.order b (2139095039 : Nat) == some Ordering.gt)) : AV) = (iB false), ((iB (FloatKind.f32.format.order b (4286578687 : Nat) == some Ordering.lt)) : AV) = (iB false), ((iB (FloatKind.f32.format.order b (1149239296 : Nat) == some Ordering.gt)) : AV) = (iB false), ((iB (FloatKind.f32.format.order b (3296722944 : Nat) == some Ordering.lt)) : AV) = (iB true)]) (fun j => by kernel_rfl) ⟨h0, h1, h2, h3, h4, trivial⟩
    ho
def c90f_1024_end (_b _r _q : Nat) (_n e : Int) (j : Nat → Value) : St := ⟨[], [(.code .ret)], mkT j [(4, (iI (e)))] 35 0⟩
theorem c90f_1024 (hE : EnvOk E) (b r q : Nat) (n e : Int) (h0 : ((iB (FloatKind.f32.format.order b b != some Ordering.eq)) : AV) = (iB false)) (h1 : ((iB (FloatKind.f32.format.order b (2139095039 : Nat) == some Ordering.gt)) : AV) = (iB false)) (h2 : ((iB (FloatKind.f32.format.order b (4286578687 : Nat) == some Ordering.lt)) : AV) = (iB false)) (h3 : ((iB (FloatKind.f32.format.order b (1149239296 : Nat) == some Ordering.gt)) : AV) = (iB false)) (h4 : ((iB (FloatKind.f32.format.order b (3296722944 : Nat) == some Ordering.lt)) : AV) = (iB false)) (h5 : BinOk E.P BinOp.mul (23 : Nat) (Operand.const (Value.float FloatKind.f32 (1098907648 : Nat))) (Operand.tmp (27 : Nat)) (AC.v (Value.float FloatKind.f32 (1098907648 : Nat))) (AC.v (Value.float FloatKind.f32 b)) (fC r)) (h6 : ConvOk E.P (23 : Nat) (3 : Nat) (fC r) (AC.v (Value.int IntKind.i64 n))) (h7 : ConvOk E.P (3 : Nat) (23 : Nat) (AC.v (Value.int IntKind.i64 n)) (fC q)) (h8 : BinOk E.P BinOp.mul (23 : Nat) (Operand.const (Value.float FloatKind.f32 (1098907648 : Nat))) (Operand.tmp (31 : Nat)) (AC.v (Value.float FloatKind.f32 (1098907648 : Nat))) (AC.v (Value.float FloatKind.f32 b)) (fC r)) (h9 : COut E 0 [] 82 [(iB (FloatKind.f32.format.order q r != some Ordering.eq)), (iI 3)] (iI (e)) []) {Φ : Res → Prop} (ho : ∀ j, OutK E 0 0 (c90f_1024_end b r q n e j) Φ) (j : Nat → Value) : OutK E 0 0 (st90_1024 b r q n e j) Φ :=
  outK_seg hE (R0_ok hE) [.run 4, (.ops [(2, (.rn (iB false))), (5, (.rn (iB false))), (9, (.rn (iB false)))] []), .run 4, (.ops [(3, (.rn (iB false))), (9, (.rn (iB false)))] []), .run 3, (.ops [(1, (.fb (.v (.float .f32 (r))))), (2, (.fc (.v (.int .i64 (n))))), (3, (.fc (.v (.float .f32 (q))))), (5, (.fb (.v (.float .f32 (r))))), (7, (.c0 (iI (e))))] [])] [4] (s' := fun j => ⟨[], [(.code .ret)], mkT j [(4, (iI (e)))] 35 0⟩) (ps := [((iB (FloatKind.f32.format.order b b != some Ordering.eq)) : AV) = (iB false), ((iB (FloatKind.f32.format.order b (2139095039 : Nat) == some Ordering.gt)) : AV) = (iB false), ((iB (FloatKind.f32.format.order b (4286578687 : Nat) == some Ordering.lt)) : AV) = (iB false), ((iB (FloatKind.f32.format.order b (1149239296 : Nat) == some Ordering.gt)) : AV) = (iB false), ((iB (FloatKind.f32.format.order b (3296722944 : Nat) == some Ordering.lt)) : AV) = (iB false), BinOk E.P BinOp.mul (23 : Nat) (Operand.const (Value.float FloatKind.f32 (1098907648 : Nat))) (Operand.tmp (27 : Nat)) (AC.v (Value.float FloatKind.f32 (1098907648 : Nat))) (AC.v (Value.float FloatKind.f32 b)) (fC r), ConvOk E.P (23 : Nat) (3 : Nat) (fC r) (AC.v (Value.int IntKind.i64 n)), ConvOk E.P (3 : Nat) (23 : Nat) (AC.v (Value.int IntKind.i64 n)) (fC q), BinOk E.P BinOp.mul (23 : Nat) (Operand.const (Value.float FloatKind.f32 (1098907648 : Nat))) (Operand.tmp (31 : Nat)) (AC.v (Value.float FloatKind.f32 (1098907648 : Nat))) (AC.v (Value.float FloatKind.f32 b)) (fC r), COut E 0 [] 82 [(iB (FloatKind.f32.format.order q r != some Ordering.eq)), (iI 3)] (iI (e)) [], ([] : List Nat) = []]) (fun j => by kernel_rfl) ⟨h0, h1, h2, h3, h4, h5, h6, h7, h8, h9, rfl, trivial⟩
    ho
def c90n_4096_end (_b _r _q : Nat) (_n _e : Int) (j : Nat → Value) : St := ⟨[], [(.code .ret), (.code (atC [1, 1] (bodyOf Tryz.f90)))], mkT j [(4, (iI 1))] 35 0⟩
theorem c90n_4096 (hE : EnvOk E) (b r q : Nat) (n e : Int) (h0 : ((iB (FloatKind.f32.format.order b b != some Ordering.eq)) : AV) = (iB true)) {Φ : Res → Prop} (ho : ∀ j, OutK E 0 0 (c90n_4096_end b r q n e j) Φ) (j : Nat → Value) : OutK E 0 0 (st90_4096 b r q n e j) Φ :=
  outK_seg hE (R0_ok hE) [.run 4, (.ops [(2, (.rn (iB true)))] []), .run 3] [4] (s' := fun j => ⟨[], [(.code .ret), (.code (atC [1, 1] (bodyOf Tryz.f90)))], mkT j [(4, (iI 1))] 35 0⟩) (ps := [((iB (FloatKind.f32.format.order b b != some Ordering.eq)) : AV) = (iB true)]) (fun j => by kernel_rfl) ⟨h0, trivial⟩
    ho
def c90p_4096_end (_b _r _q : Nat) (_n _e : Int) (j : Nat → Value) : St := ⟨[], [(.code .ret), (.code (atC [1, 1] (bodyOf Tryz.f90)))], mkT j [(4, (iI 1))] 35 0⟩
theorem c90p_4096 (hE : EnvOk E) (b r q : Nat) (n e : Int) (h0 : ((iB (FloatKind.f32.format.order b b != some Ordering.eq)) : AV) = (iB false)) (h1 : ((iB (FloatKind.f32.format.order b (2139095039 : Nat) == some Ordering.gt)) : AV) = (iB true)) {Φ : Res → Prop} (ho : ∀ j, OutK E 0 0 (c90p_4096_end b r q n e j) Φ) (j : Nat → Value) : OutK E 0 0 (st90_4096 b r q n e j) Φ :=
  outK_seg hE (R0_ok hE) [.run 4, (.ops [(2, (.rn (iB false))), (5, (.rn (iB true)))] []), .run 3] [4] (s' := fun j => ⟨[], [(.code .ret), (.code (atC [1, 1] (bodyOf Tryz.f90)))], mkT j [(4, (iI 1))] 35 0⟩) (ps := [((iB (FloatKind.f32.format.order b b != some Ordering.eq)) : AV) = (iB false), ((iB (FloatKind.f32.format.order b (2139095039 : Nat) == some Ordering.gt)) : AV) = (iB true)]) (fun j => by kernel_rfl) ⟨h0, h1, trivial⟩
    ho
def c90m_4096_end (_b _r _q : Nat) (_n _e : Int) (j : Nat → Value) : St := ⟨[], [(.code .ret), (.code (atC [1, 1] (bodyOf Tryz.f90)))], mkT j [(4, (iI 1))] 35 0⟩
theorem c90m_4096 (hE : EnvOk E) (b r q : Nat) (n e : Int) (h0 : ((iB (FloatKind.f32.format.order b b != some Ordering.eq)) : AV) = (iB false)) (h1 : ((iB (FloatKind.f32.format.order b (2139095039 : Nat) == some Ordering.gt)) : AV) = (iB false)) (h2 : ((iB (FloatKind.f32.format.order b (4286578687 : Nat) == some Ordering.lt)) : AV) = (iB true)) {Φ : Res → Prop} (ho : ∀ j, OutK E 0 0 (c90m_4096_end b r q n e j) Φ) (j : Nat → Value) : OutK E 0 0 (st90_4096 b r q n e j) Φ :=
  outK_seg hE (R0_ok hE) [.run 4, (.ops [(2, (.rn (iB false))), (5, (.rn (iB false))), (9, (.rn (iB true)))] []), .run 3] [4] (s' := fun j => ⟨[], [(.code .ret), (.code (atC [1, 1] (bodyOf Tryz.f90)))], mkT j [(4, (iI 1))] 35 0⟩) (ps := [((iB (FloatKind.f32.format.order b b != some Ordering.eq)) : AV) = (iB false), ((iB (FloatKind.f32.format.order b (2139095039 : Nat) == some Ordering.gt)) : AV) = (iB false), ((iB (FloatKind.f32.format.order b (4286578687 : Nat) == some Ordering.lt)) : AV) = (iB true)]) (fun j => by kernel_rfl) ⟨h0, h1, h2, trivial⟩
    ho
def c90g_4096_end (_b _r _q : Nat) (_n _e : Int) (j : Nat → Value) : St := ⟨[], [(.code .ret), (.code (atC [1, 1, 1] (bodyOf Tryz.f90)))], mkT j [(4, (iI 3))] 35 0⟩
theorem c90g_4096 (hE : EnvOk E) (b r q : Nat) (n e : Int) (h0 : ((iB (FloatKind.f32.format.order b b != some Ordering.eq)) : AV) = (iB false)) (h1 : ((iB (FloatKind.f32.format.order b (2139095039 : Nat) == some Ordering.gt)) : AV) = (iB false)) (h2 : ((iB (FloatKind.f32.format.order b (4286578687 : Nat) == some Ordering.lt)) : AV) = (iB false)) (h3 : ((iB (FloatKind.f32.format.order b (1166016512 : Nat) == some Ordering.gt)) : AV) = (iB true)) {Φ : Res → Prop} (ho : ∀ j, OutK E 0 0 (c90g_4096_end b r q n e j) Φ) (j : Nat → Value) : OutK E 0 0 (st90_4096 b r q n e j) Φ :=
  outK_seg hE (R0_ok hE) [.run 4, (.ops [(2, (.rn (iB false))), (5, (.rn (iB false))), (9, (.rn (iB false)))] []), .run 4, (.ops [(3, (.rn (iB true)))] []), .run 3] [4] (s' := fun j => ⟨[], [(.code .ret), (.code (atC [1, 1, 1] (bodyOf Tryz.f90)))], mkT j [(4, (iI 3))] 35 0⟩) (ps := [((iB (FloatKind.f32.format.order b b != some Ordering.eq)) : AV) = (iB false), ((iB (FloatKind.f32.format.order b (2139095039 : Nat) == some Ordering.gt)) : AV) = (iB false), ((iB (FloatKind.f32.format.order b (4286578687 : Nat) == some Ordering.lt)) : AV) = (iB false), ((iB (FloatKind.f32.format.order b (1166016512 : Nat) == some Ordering.gt)) : AV) = (iB true)]) (fun j => by kernel_rfl) ⟨h0, h1, h2, h3, trivial⟩
    ho
def c90l_4096_end (_b _r _q : Nat) (_n _e : Int) (j : Nat → Value) : St := ⟨[], [(.code .ret), (.code (atC [1, 1, 1] (bodyOf Tryz.f90)))], mkT j [(4, (iI 3))] 35 0⟩
theorem c90l_4096 (hE : EnvOk E) (b r q : Nat) (n e : Int) (h0 : ((iB (FloatKind.f32.format.order b b != some Ordering.eq)) : AV) = (iB false)) (h1 : ((iB (FloatKind.f32.format.order b (2139095039 : Nat) == some Ordering.gt)) : AV) = (iB false)) (h2 : ((iB (FloatKind.f32.format.order b (4286578687 : Nat) == some Ordering.lt)) : AV) = (iB false)) (h3 : ((iB (FloatKind.f32.format.order b (1166016512 : Nat) == some Ordering.gt)) : AV) = (iB false)) (h4 : ((iB (FloatKind.f32.format.order b (3313500160 : Nat) == some Ordering.lt)) : AV) = (iB true)) {Φ : Res → Prop} (ho : ∀ j, OutK E 0 0 (c90l_4096_end b r q n e j) Φ) (j : Nat → Value) : OutK E 0 0 (st90_4096 b r q n e j) Φ :=
  outK_seg hE (R0_ok hE) [.run 4, (.ops [(2, (.rn (iB false))), (5, (.rn (iB false))), (9, (.rn (iB false)))] []), .run 4, (.ops [(3, (.rn (iB false))), (9, (.rn (iB true)))] []), .run 3] [4] (s' := fun j => ⟨[], [(.code .ret), (.code (atC [1, 1, 1] (bodyOf Tryz.f90)))], mkT j [(4, (iI 3))] 35 0⟩) (ps := [((iB (FloatKind.f32.format.order b b != some Ordering.eq)) : AV) = (iB false), ((iB (FloatKind.f32.format.order b (2139095039 : Nat) == some Ordering.gt)) : AV) = (iB false), ((iB (FloatKind.f32.format.order b (4286578687 : Nat) == some Ordering.lt)) : AV) = (iB false), ((iB (FloatKind.f32.format.order b (1166016512 : Nat) == some Ordering.gt)) : AV) = (iB false), ((iB (FloatKind.f32.format.order b (3313500160 : Nat) == some Ordering.lt)) : AV) = (iB true)]) (fun j => by kernel_rfl) ⟨h0, h1, h2, h3, h4, trivial⟩
    ho
def c90f_4096_end (_b _r _q : Nat) (_n e : Int) (j : Nat → Value) : St := ⟨[], [(.code .ret)], mkT j [(4, (iI (e)))] 35 0⟩
theorem c90f_4096 (hE : EnvOk E) (b r q : Nat) (n e : Int) (h0 : ((iB (FloatKind.f32.format.order b b != some Ordering.eq)) : AV) = (iB false)) (h1 : ((iB (FloatKind.f32.format.order b (2139095039 : Nat) == some Ordering.gt)) : AV) = (iB false)) (h2 : ((iB (FloatKind.f32.format.order b (4286578687 : Nat) == some Ordering.lt)) : AV) = (iB false)) (h3 : ((iB (FloatKind.f32.format.order b (1166016512 : Nat) == some Ordering.gt)) : AV) = (iB false)) (h4 : ((iB (FloatKind.f32.format.order b (3313500160 : Nat) == some Ordering.lt)) : AV) = (iB false)) (h5 : BinOk E.P BinOp.mul (23 : Nat) (Operand.const (Value.float FloatKind.f32 (1098907648 : Nat))) (Operand.tmp (27 : Nat)) (AC.v (Value.float FloatKind.f32 (1098907648 : Nat))) (AC.v (Value.float FloatKind.f32 b)) (fC r)) (h6 : ConvOk E.P (23 : Nat) (3 : Nat) (fC r) (AC.v (Value.int IntKind.i64 n))) (h7 : ConvOk E.P (3 : Nat) (23 : Nat) (AC.v (Value.int IntKind.i64 n)) (fC q)) (h8 : BinOk E.P BinOp.mul (23 : Nat) (Operand.const (Value.float FloatKind.f32 (1098907648 : Nat))) (Operand.tmp (31 : Nat)) (AC.v (Value.float FloatKind.f32 (1098907648 : Nat))) (AC.v (Value.float FloatKind.f32 b)) (fC r)) (h9 : COut E 0 [] 82 [(iB (FloatKind.f32.format.order q r != some Ordering.eq)), (iI 3)] (iI (e)) []) {Φ : Res → Prop} (ho : ∀ j, OutK E 0 0 (c90f_4096_end b r q n e j) Φ) (j : Nat → Value) : OutK E 0 0 (st90_4096 b r q n e j) Φ :=
  outK_seg hE (R0_ok hE) [.run 4, (.ops [(2, (.rn (iB false))), (5, (.rn (iB false))), (9, (.rn (iB false)))] []), .run 4, (.ops [(3, (.rn (iB false))), (9, (.rn (iB false)))] []), .run 3, (.ops [(1, (.fb (.v (.float .f32 (r))))), (2, (.fc (.v (.int .i64 (n))))), (3, (.fc (.v (.float .f32 (q))))), (5, (.fb (.v (.float .f32 (r))))), (7, (.c0 (iI (e))))] [])] [4] (s' := fun j => ⟨[], [(.code .ret)], mkT j [(4, (iI (e)))] 35 0⟩) (ps := [((iB (FloatKind.f32.format.order b b != some Ordering.eq)) : AV) = (iB false), ((iB (FloatKind.f32.format.order b (2139095039 : Nat) == some Ordering.gt)) : AV) = (iB false), ((iB (FloatKind.f32.format.order b (4286578687 : Nat) == some Ordering.lt)) : AV) = (iB false), ((iB (FloatKind.f32.format.order b (1166016512 : Nat) == some Ordering.gt)) : AV) = (iB false), ((iB (FloatKind.f32.format.order b (3313500160 : Nat) == some Ordering.lt)) : AV) = (iB false), BinOk E.P BinOp.mul (23 : Nat) (Operand.const (Value.float FloatKind.f32 (1098907648 : Nat))) (Operand.tmp (27 : Nat)) (AC.v (Value.float FloatKind.f32 (1098907648 : Nat))) (AC.v (Value.float FloatKind.f32 b)) (fC r), ConvOk E.P (23 : Nat) (3 : Nat) (fC r) (AC.v (Value.int IntKind.i64 n)), ConvOk E.P (3 : Nat) (23 : Nat) (AC.v (Value.int IntKind.i64 n)) (fC q), BinOk E.P BinOp.mul (23 : Nat) (Operand.const (Value.float FloatKind.f32 (1098907648 : Nat))) (Operand.tmp (31 : Nat)) (AC.v (Value.float FloatKind.f32 (1098907648 : Nat))) (AC.v (Value.float FloatKind.f32 b)) (fC r), COut E 0 [] 82 [(iB (FloatKind.f32.format.order q r != some Ordering.eq)), (iI 3)] (iI (e)) [], ([] : List Nat) = []]) (fun j => by kernel_rfl) ⟨h0, h1, h2, h3, h4, h5, h6, h7, h8, h9, rfl, trivial⟩
    ho
def c25_end (_b : Nat) (e : Int) (j : Nat → Value) : St := ⟨[], [(.code .ret)], mkT j [(2, (iI (e)))] 5 0⟩
theorem c25 (hE : EnvOk E) (b : Nat) (e : Int) (h0 : COut E 0 [] 90 [(.e (.one (.v (.float .f32 (b))))), (iI 1024)] (iI (e)) []) {Φ : Res → Prop} (ho : ∀ j, OutK E 0 0 (c25_end b e j) Φ) (j : Nat → Value) : OutK E 0 0 (st25 b e j) Φ :=
  outK_seg hE (R0_ok hE) [.run 3, (.ops [(1, (.c0 (iI (e))))] [])] [2] (s' := fun j => ⟨[], [(.code .ret)], mkT j [(2, (iI (e)))] 5 0⟩) (ps := [COut E 0 [] 90 [(.e (.one (.v (.float .f32 (b))))), (iI 1024)] (iI (e)) [], ([] : List Nat) = []]) (fun j => by kernel_rfl) ⟨h0, rfl, trivial⟩
    ho
def c106_end (_b _r : Nat) (n : Int) (j : Nat → Value) : St := ⟨[], [(.code .ret)], mkT j [(2, (iI (n)))] 6 0⟩
theorem c106 (hE : EnvOk E) (b r : Nat) (n : Int) (h0 : BinOk E.P BinOp.mul (23 : Nat) (Operand.const (Value.float FloatKind.f32 (1098907648 : Nat))) (Operand.tmp (3 : Nat)) (AC.v (Value.float FloatKind.f32 (1098907648 : Nat))) (AC.v (Value.float FloatKind.f32 b)) (fC r)) (h1 : ConvOk E.P (23 : Nat) (3 : Nat) (fC r) (AC.v (Value.int IntKind.i64 n))) {Φ : Res → Prop} (ho : ∀ j, OutK E 0 0 (c106_end b r n j) Φ) (j : Nat → Value) : OutK E 0 0 (st106 b r n j) Φ :=
  outK_seg hE (R0_ok hE) [.run 3, (.ops [(1, (.fb (.v (.float .f32 (r))))), (2, (.fc (.v (.int .i64 (n)))))] [])] [2] (s' := fun j => ⟨[], [(.code .ret)], mkT j [(2, (iI (n)))] 6 0⟩) (ps := [BinOk E.P BinOp.mul (23 : Nat) (Operand.const (Value.float FloatKind.f32 (1098907648 : Nat))) (Operand.tmp (3 : Nat)) (AC.v (Value.float FloatKind.f32 (1098907648 : Nat))) (AC.v (Value.float FloatKind.f32 b)) (fC r), ConvOk E.P (23 : Nat) (3 : Nat) (fC r) (AC.v (Value.int IntKind.i64 n))]) (fun j => by kernel_rfl) ⟨h0, h1, trivial⟩
    ho
def c65_end (_b _r : Nat) (n : Int) (j : Nat → Value) : St := ⟨[], [(.code .ret)], mkT j [(2, (iI (n)))] 6 0⟩
theorem c65 (hE : EnvOk E) (b r : Nat) (n : Int) (h0 : BinOk E.P BinOp.mul (23 : Nat) (Operand.const (Value.float FloatKind.f32 (1098907648 : Nat))) (Operand.tmp (3 : Nat)) (AC.v (Value.float FloatKind.f32 (1098907648 : Nat))) (AC.v (Value.float FloatKind.f32 b)) (fC r)) (h1 : ConvOk E.P (23 : Nat) (3 : Nat) (fC r) (AC.v (Value.int IntKind.i64 n))) {Φ : Res → Prop} (ho : ∀ j, OutK E 0 0 (c65_end b r n j) Φ) (j : Nat → Value) : OutK E 0 0 (st65 b r n j) Φ :=
  outK_seg hE (R0_ok hE) [.run 3, (.ops [(1, (.fb (.v (.float .f32 (r))))), (2, (.fc (.v (.int .i64 (n)))))] [])] [2] (s' := fun j => ⟨[], [(.code .ret)], mkT j [(2, (iI (n)))] 6 0⟩) (ps := [BinOk E.P BinOp.mul (23 : Nat) (Operand.const (Value.float FloatKind.f32 (1098907648 : Nat))) (Operand.tmp (3 : Nat)) (AC.v (Value.float FloatKind.f32 (1098907648 : Nat))) (AC.v (Value.float FloatKind.f32 b)) (fC r), ConvOk E.P (23 : Nat) (3 : Nat) (fC r) (AC.v (Value.int IntKind.i64 n))]) (fun j => by kernel_rfl) ⟨h0, h1, trivial⟩
    ho
def c101_end (_n : Int) (_r q : Nat) (j : Nat → Value) : St := ⟨[], [(.code .ret)], mkT j [(2, (.e (.one (.v (.float .f32 (q))))))] 6 0⟩
theorem c101 (hE : EnvOk E) (n : Int) (r q : Nat) (h0 : ConvOk E.P (3 : Nat) (23 : Nat) (AC.v (Value.int IntKind.i64 n)) (fC r)) (h1 : BinOk E.P BinOp.quo (23 : Nat) (Operand.tmp (4 : Nat)) (Operand.const (Value.float FloatKind.f32 (1098907648 : Nat))) (fC r) (AC.v (Value.float FloatKind.f32 (1098907648 : Nat))) (fC q)) {Φ : Res → Prop} (ho : ∀ j, OutK E 0 0 (c101_end n r q j) Φ) (j : Nat → Value) : OutK E 0 0 (st101 n r q j) Φ :=
  outK_seg hE (R0_ok hE) [.run 3, (.ops [(1, (.fc (.v (.float .f32 (r))))), (2, (.fb (.v (.float .f32 (q)))))] [])] [2] (s' := fun j => ⟨[], [(.code .ret)], mkT j [(2, (.e (.one (.v (.float .f32 (q))))))] 6 0⟩) (ps := [ConvOk E.P (3 : Nat) (23 : Nat) (AC.v (Value.int IntKind.i64 n)) (fC r), BinOk E.P BinOp.quo (23 : Nat) (Operand.tmp (4 : Nat)) (Operand.const (Value.float FloatKind.f32 (1098907648 : Nat))) (fC r) (AC.v (Value.float FloatKind.f32 (1098907648 : Nat))) (fC q)]) (fun j => by kernel_rfl) ⟨h0, h1, trivial⟩
    ho
def c64_end (_n : Int) (_r q : Nat) (j : Nat → Value) : St := ⟨[], [(.code .ret)], mkT j [(2, (.e (.one (.v (.float .f32 (q))))))] 6 0⟩
theorem c64 (hE : EnvOk E) (n : Int) (r q : Nat) (h0 : ConvOk E.P (3 : Nat) (23 : Nat) (AC.v (Value.int IntKind.i64 n)) (fC r)) (h1 : BinOk E.P BinOp.quo (23 : Nat) (Operand.tmp (4 : Nat)) (Operand.const (Value.float FloatKind.f32 (1098907648 : Nat))) (fC r) (AC.v (Value.float FloatKind.f32 (1098907648 : Nat))) (fC q)) {Φ : Res → Prop} (ho : ∀ j, OutK E 0 0 (c64_end n r q j) Φ) (j : Nat → Value) : OutK E 0 0 (st64 n r q j) Φ :=
  outK_seg hE (R0_ok hE) [.run 3, (.ops [(1, (.fc (.v (.float .f32 (r))))), (2, (.fb (.v (.float .f32 (q)))))] [])] [2] (s' := fun j => ⟨[], [(.code .ret)], mkT j [(2, (.e (.one (.v (.float .f32 (q))))))] 6 0⟩) (ps := [ConvOk E.P (3 : Nat) (23 : Nat) (AC.v (Value.int IntKind.i64 n)) (fC r), BinOk E.P BinOp.quo (23 : Nat) (Operand.tmp (4 : Nat)) (Operand.const (Value.float FloatKind.f32 (1098907648 : Nat))) (fC r) (AC.v (Value.float FloatKind.f32 (1098907648 : Nat))) (fC q)]) (fun j => by kernel_rfl) ⟨h0, h1, trivial⟩
    ho

open Ieee
theorem iBe {a b : Bool} (h : a = b) : (iB a : AV) = iB b := by rw [h]
theorem u23 : E.P.underlying 23 = some (.float .f32) := by kernel_rfl
theorem u219 : E.P.underlying 219 = some (.float .f64) := by kernel_rfl
theorem u3 : E.P.underlying 3 = some (.int .i64) := by kernel_rfl
theorem ord_eq {k : FloatKind} {a b : Nat} {V W : Int} (hf : Fit k.format) (h : Num k.format a V) (g : Num k.format b W) : k.format.order a b = some (compare V W) := h.order hf g
theorem cmp_eq (V : Int) : compare V V = .eq := by simp [compare, compareOfLessAndEq]
theorem cmp_eq_iff {V W : Int} : (some (compare V W) == some Ordering.eq) = decide (V = W) := by
  simp only [compare, compareOfLessAndEq]
  by_cases h : V < W
  · simp [h]; omega
  · by_cases e : V = W
    · simp [e]
    · simp [h, e]
theorem cmp_gt_iff {V W : Int} : (some (compare V W) == some Ordering.gt) = decide (W < V) := by
  simp only [compare, compareOfLessAndEq]
  by_cases h : V < W
  · simp [h]; omega
  · by_cases e : V = W
    · simp [e]
    · simp [h, e]; omega
theorem cmp_lt_iff {V W : Int} : (some (compare V W) == some Ordering.lt) = decide (V < W) := by
  simp only [compare, compareOfLessAndEq]
  by_cases h : V < W
  · simp [h]
  · by_cases e : V = W
    · simp [e]
    · simp [h, e]

/-! math -/
theorem k151n (hE : EnvOk E) : COut E 0 [] 151 [.e (.one nanD)] (iB true) [] :=
  cOut_start Tryz.func151 rfl (c151n hE neq_nan (fun j => outK_ret (ends_ret (by kernel_rfl))) fun _ => undef)
theorem k151 (hE : EnvOk E) {r : Nat} (h : double.order r r = some .eq) : COut E 0 [] 151 [.e (.one (dC r))] (iB false) [] :=
  cOut_start Tryz.func151 rfl (c151 hE r false (iBe (by show (double.order r r != some Ordering.eq) = false; rw [h]; rfl)) (fun j => outK_ret (ends_ret (by kernel_rfl))) fun _ => undef)
theorem k154 (hE : EnvOk E) {r : Nat} (h : r < 2 ^ 64) : COut E 0 [] 154 [.e (.one (dC r))] (.e (.one (dC (r % 2 ^ 63)))) [] :=
  cOut_start Tryz.func154 rfl (c154 hE r (r % 2 ^ 63) (andNot_ok h) (by rw [show (Int.ofNat (r % 2 ^ 63)).toNat = r % 2 ^ 63 from rfl]) (fun j => outK_ret (ends_ret (by kernel_rfl))) fun _ => undef)
theorem k152 (hE : EnvOk E) {r : Nat} (h : r < 2 ^ 64) {e : Bool} (he : (double.order (r % 2 ^ 63) 9218868437227405311 == some .gt) = e) : COut E 0 [] 152 [.e (.one (dC r)), iI 0] (iB e) [] :=
  cOut_start Tryz.func152 rfl (c152 hE r (r % 2 ^ 63) e (k154 hE h) (iBe he) (fun j => outK_ret (ends_ret (by kernel_rfl))) fun _ => undef)
theorem k153n (hE : EnvOk E) : COut E 0 [] 153 [.e (.one nanD)] (.e (.one nanD)) [] :=
  cOut_start Tryz.func153 rfl (c153 hE nanD nanD trunc_nan (fun j => outK_ret (ends_ret (by kernel_rfl))) fun _ => undef)
theorem k153 (hE : EnvOk E) {r : Nat} (h : (double.read r).isNaN = false) : COut E 0 [] 153 [.e (.one (dC r))] (.e (.one (dC (double.write ((double.read r).integral .zero))))) [] :=
  cOut_start Tryz.func153 rfl (c153 hE (dC r) _ (trunc_ok h) (fun j => outK_ret (ends_ret (by kernel_rfl))) fun _ => undef)

theorem fin_num {b : Nat} (h : Num single b (valW b)) : (valW b).natAbs < 2 ^ (128 + EX) := by
  have h1 := read_bound fit_single (by decide) h
  have hX := EX_eq
  have e1 : (single.top + (EX : Int)).toNat = 104 + EX := by rw [top_single]; omega
  rw [e1] at h1
  refine Nat.lt_of_le_of_lt h1 ?_
  rw [show 128 + EX = 24 + (104 + EX) by omega, Nat.pow_add 2 24]
  exact Nat.mul_lt_mul_of_pos_right (by decide) (pow_pos2 _)
theorem num_max : Num double 9218868437227405311 ((2 ^ 53 - 1 : Nat) * 2 ^ (971 + EX) : Nat) := by
  refine ⟨false, 2 ^ 53 - 1, 971, by decide, by decide, by decide, ?_⟩
  have hX := EX_eq
  have : ((971 : Int) + (EX : Int)).toNat = 971 + EX := by omega
  rw [this]
  rfl
theorem ord_max {r : Nat} {V : Int} (h : Num double r V) (hV : 0 ≤ V) (hb : V.natAbs < 2 ^ (128 + EX)) : (double.order r 9218868437227405311 == some .gt) = false := by
  rw [h.order fit_double num_max, cmp_gt_iff]
  apply decide_eq_false
  have hX := EX_eq
  have h1 : (2 : Nat) ^ (128 + EX) ≤ (2 ^ 53 - 1) * 2 ^ (971 + EX) := by
    refine Nat.le_trans (pow_mono (show 128 + EX ≤ 971 + EX by omega)) ?_
    exact Nat.le_mul_of_pos_left _ (by decide)
  omega
theorem inf_word (u : Bool) : double.word u double.infRung < 2 ^ 64 := by cases u <;> decide
theorem word_lt64 {s : Bool} {m : Nat} {e : Int} : double.nearest s m e < 2 ^ 64 := write_lt double (by decide) (.number s m e)
theorem lt64 {a b r : Nat} (h : double.mul a b = some r) : r < 2 ^ 64 := mul_lt (f := double) (by decide) h
theorem conv_num' {P : Program} {s d : TypeId} (hs : P.underlying s = some (.float .f32)) (hd : P.underlying d = some (.float .f64)) {b : Nat} (h : finW b = 0) : ∃ r, Num double r (valW b) ∧ r < 2 ^ 64 ∧ ConvOk P s d (fC b) (dC r) := by
  have hn := num_finW h
  obtain ⟨u, g, e, h1, h2⟩ := hn.widen fit_single fit_double (by decide) (by decide) (by decide) (fin_num hn) (by rw [EX_eq]; decide)
  refine ⟨_, h2, word_lt64, ?_⟩
  intro m p w hp
  obtain rfl : p = .float .f32 b := hp
  refine ⟨_, w.drawn, ?_, rfl⟩
  rw [run_conv64 hs hd]
  unfold Conv.floatToFloat
  rw [if_neg (by decide), show FloatKind.f32.decode b = .number u g e from h1]
  have hi : (FloatKind.f64.decode (FloatKind.f64.encode (.number u g e))).isInfinity = false := by
    obtain ⟨u', g', e', k1, _⟩ := h2
    show (double.read (double.nearest u g e)).isInfinity = false
    rw [k1]
    rfl
  simp only [hi, if_false, Bool.false_eq_true]
  rfl
theorem not_fin {b : Nat} (h : finW b ≠ 0) : (single.read b).isNaN = true ∨ ∃ u, single.read b = .infinity u := by
  rcases read_cases (f := single) b with ⟨s, t, h1⟩ | ⟨s, h1⟩ | ⟨V, h1⟩
  · exact .inl (by rw [h1]; rfl)
  · exact .inr ⟨s, h1⟩
  · exact absurd (finW_num h1).1 h
theorem finW_one {b : Nat} (h : finW b ≠ 0) : finW b = 1 := (finW_or b).resolve_left h

/-- carrier.checkFinite -/
theorem k88 (hE : EnvOk E) (b : Nat) : COut E 0 [] 88 [.e (.one (fC b))] (iI (finW b)) [] := by
  by_cases h : finW b = 0
  · obtain ⟨r, hr, hl, hc⟩ := conv_num' (P := E.P) u23 u219 h
    rw [h]
    have ha : Num double (r % 2 ^ 63) (valW b).natAbs := hr.abs
    refine cOut_start Tryz.func88 rfl (c88f hE b r 0 hc (k151 hE (by rw [hr.order fit_double hr, cmp_eq])) (k152 hE hl (ord_max ha (by omega) (by have := fin_num (num_finW h); omega))) (k107 hE false 1) (fun j => outK_ret (ends_ret (by kernel_rfl))) fun _ => undef)
  · rw [finW_one h]
    rcases not_fin h with h1 | ⟨u, h1⟩
    · exact cOut_start Tryz.func88 rfl (c88n hE b 0 1 (conv_nan u23 u219 h1) (k151n hE) (k107 hE true 1) (fun j => outK_ret (ends_ret (by kernel_rfl))) fun _ => undef)
    · refine cOut_start Tryz.func88 rfl (c88i hE b _ 1 (conv_inf u23 u219 h1) (k151 hE (by cases u <;> decide)) (k152 hE (inf_word u) (by cases u <;> decide)) (k107 hE true 1) (fun j => outK_ret (ends_ret (by kernel_rfl))) fun _ => undef)

theorem num_of_int {k : FloatKind} (hf : Fit k.format) (hE : 3 ≤ 2 ^ k.format.exponentBits) (ht : (k.format.fractionBits : Int) ≤ k.format.top) {n : Int} (hn : n.natAbs < 2 ^ (k.format.fractionBits + 1)) : Num k.format (k.nearest n) (n * KK) := num_int hf hE ht n hn
theorem whole_iff {V : Int} : (V = V.tdiv KK * KK) ↔ V % KK = 0 := by
  have hk := KK_pos
  constructor
  · intro h
    rw [h]
    exact Int.mul_emod_left _ _
  · intro h
    rw [Int.mul_comm]
    exact (Int.mul_tdiv_cancel' (Int.dvd_of_emod_eq_zero h)).symm
/-- carrier.checkMultiple -/
theorem k89 (hE : EnvOk E) (b : Nat) {L : Nat} (hL : L ≤ 65536) : COut E 0 [] 89 [.e (.one (fC b)), iI (Int.ofNat L)] (iI (mulW L b)) [] := by
  by_cases h : finW b = 0
  · obtain ⟨r, hr, hl, hc⟩ := conv_num' (P := E.P) u23 u219 h
    have hb := fin_num (num_finW h)
    obtain ⟨y, hy, hn⟩ := hr.mul16 fit_double (by decide) (c := 4625196817309499392) c16_double (by decide) hb (by rw [EX_eq]; decide)
    have hyl := lt64 hy
    have hb16 : (16 * valW b).natAbs < 2 ^ (132 + EX) := by
      rw [Int.natAbs_mul, show (2 : Nat) ^ (132 + EX) = 16 * 2 ^ (128 + EX) by rw [show (16 : Nat) = 2 ^ 4 from rfl, ← Nat.pow_add]; congr 1; omega]
      have : (16 : Int).natAbs = 16 := rfl
      rw [this]
      omega
    have hz := hn.whole fit_double (by decide) (by decide) hb16 (by rw [EX_eq]; decide)
    have hzk := k153 hE hn.notNaN
    generalize double.write ((double.read y).integral .zero) = z at hz hzk
    by_cases h0 : (16 * valW b) % KK = 0
    · have ha : Num double (y % 2 ^ 63) (16 * valW b).natAbs := hn.abs
      have hLn : Num double (FloatKind.f64.nearest (16 * Int.ofNat L)) (16 * Int.ofNat L * KK) := num_of_int (k := .f64) fit_double (by decide) (by decide) (by
        show (16 * Int.ofNat L).natAbs < 2 ^ 53
        simp only [Int.ofNat_eq_natCast]
        omega)
      have hcmp : (FloatKind.f64.format.order (y % 2 ^ 63) (FloatKind.f64.nearest (16 * Int.ofNat L)) == some Ordering.gt) = decide (¬ (valW b).natAbs ≤ L * KK) := by
        show (double.order (y % 2 ^ 63) (FloatKind.f64.nearest (16 * Int.ofNat L)) == some Ordering.gt) = _
        rw [ha.order fit_double hLn, cmp_gt_iff]
        apply decide_eq_decide.2
        rw [Int.natAbs_mul, Int.ofNat_eq_natCast, Int.mul_assoc, show (16 : Int).natAbs = 16 from rfl, ← Int.natCast_mul]
        omega
      have he : mulW L b = if decide (¬ (valW b).natAbs ≤ L * KK) = true then 3 else 0 := by
        unfold mulW
        by_cases h5 : (valW b).natAbs ≤ L * KK
        · rw [if_pos ⟨h, h0, h5⟩]; simp [h5]
        · rw [if_neg fun h6 => h5 h6.2.2]; simp [h5]
      rw [he]
      refine cOut_start Tryz.func89 rfl (c89f hE b r y z (y % 2 ^ 63) (FloatKind.f64.nearest (16 * Int.ofNat L)) (Int.ofNat L) _ hc (mul_ok hy) hzk (iBe ?_) (k154 hE hyl) (iIe (wrap_id (by simp only [Int.ofNat_eq_natCast]; omega) (by simp only [Int.ofNat_eq_natCast]; omega))) (conv_int u3 u219 _) (by rw [hcmp]; exact k107 hE _ 3) (fun j => outK_ret (ends_ret (by kernel_rfl))) fun _ => undef)
      show (double.order y z != some Ordering.eq) = false
      rw [hn.order fit_double hz]
      have := @cmp_eq_iff (16 * valW b) ((16 * valW b).tdiv KK * KK)
      rw [bne, this]
      simpa using whole_iff.2 h0
    · have he : mulW L b = 3 := by unfold mulW; rw [if_neg fun h6 => h0 h6.2.1]
      rw [he]
      refine cOut_start Tryz.func89 rfl (c89t hE b r y z 0 0 (Int.ofNat L) 3 hc (mul_ok hy) hzk (iBe ?_) (k107 hE true 3) (fun j => outK_ret (ends_ret (by kernel_rfl))) fun _ => undef)
      show (double.order y z != some Ordering.eq) = true
      rw [hn.order fit_double hz]
      have := @cmp_eq_iff (16 * valW b) ((16 * valW b).tdiv KK * KK)
      rw [bne, this]
      have h7 : ¬ (16 * valW b = (16 * valW b).tdiv KK * KK) := fun h8 => h0 (whole_iff.1 h8)
      simpa using h7
  · have he : mulW L b = 3 := by unfold mulW; rw [if_neg fun h6 => h h6.1]
    rw [he]
    rcases not_fin h with h1 | ⟨u, h1⟩
    · exact cOut_start Tryz.func89 rfl (c89n hE b 0 0 0 0 0 (Int.ofNat L) 3 (conv_nan u23 u219 h1) mul_nan (k153n hE) neq_nan (k107 hE true 3) (fun j => outK_ret (ends_ret (by kernel_rfl))) fun _ => undef)
    · have hz : double.write ((double.read (double.word u double.infRung)).integral .zero) = double.word u double.infRung := by cases u <;> decide
      have hzk := k153 hE (r := double.word u double.infRung) (by cases u <;> decide)
      rw [hz] at hzk
      have hmul : double.mul 4625196817309499392 (double.word u double.infRung) = some (double.word u double.infRung) := by cases u <;> decide
      have hLn : Num double (FloatKind.f64.nearest (16 * Int.ofNat L)) (16 * Int.ofNat L * KK) := num_of_int (k := .f64) fit_double (by decide) (by decide) (by
        show (16 * Int.ofNat L).natAbs < 2 ^ 53
        simp only [Int.ofNat_eq_natCast]
        omega)
      have hcmp : (FloatKind.f64.format.order (double.word u double.infRung % 2 ^ 63) (FloatKind.f64.nearest (16 * Int.ofNat L)) == some Ordering.gt) = true := by
        have e1 : double.word u double.infRung % 2 ^ 63 = 9218868437227405312 := by cases u <;> decide
        rw [e1]
        obtain ⟨s, m, e, h2, _⟩ := hLn
        show (double.order _ _ == _) = _
        unfold Format.order
        rw [h2, show double.read 9218868437227405312 = .infinity false by decide]
        rfl
      exact cOut_start Tryz.func89 rfl (c89f hE b (double.word u double.infRung) (double.word u double.infRung) (double.word u double.infRung) (double.word u double.infRung % 2 ^ 63) (FloatKind.f64.nearest (16 * Int.ofNat L)) (Int.ofNat L) 3 (conv_inf u23 u219 h1) (mul_ok hmul) hzk (iBe (by cases u <;> decide)) (k154 hE (inf_word u)) (iIe (wrap_id (by simp only [Int.ofNat_eq_natCast]; omega) (by simp only [Int.ofNat_eq_natCast]; omega))) (conv_int u3 u219 _) (by rw [hcmp]; exact k107 hE true 3) (fun j => outK_ret (ends_ret (by kernel_rfl))) fun _ => undef)

theorem firstI2 (f g : Int) : firstI [f, g] = if f = 0 then g else f := by
  unfold firstI firstI firstI
  by_cases h : f = 0
  · by_cases h2 : g = 0 <;> simp [h, h2]
  · simp [h]
theorem chk_first (L b : Nat) : chkW L b = firstI [finW b, mulW L b] := by
  rw [firstI2]
  unfold chkW
  rcases finW_or b with h | h <;> simp [h]
theorem get2 {f g : Int} : ∀ (k : Nat) (x : Int), [f, g][k]? = some x → getL [AC.v (.int .i64 f), AC.v (.int .i64 g)] (0 + k) = some (.v (.int .i64 x)) := by
  intro k x h
  match k, h with
  | 0, h => simp at h; subst h; rfl
  | 1, h => simp at h; subst h; rfl
  | k + 2, h => simp at h
/-- carrier.CheckSample -/
theorem k24 (hE : EnvOk E) (b : Nat) : COut E 0 [] 24 [.e (.one (fC b))] (iI (chkW 1024 b)) [] := by
  rw [chk_first]
  exact cOut_start Tryz.func24 rfl (c24 hE b _ _ _ (k88 hE b) (k89 hE b (L := 1024) (by decide)) (k102 hE [finW b, mulW 1024 b] rfl (by decide) get2) (fun j => outK_ret (ends_ret (by kernel_rfl))) fun _ => undef)

theorem num_max1 : Num single 2139095039 ((2 ^ 24 - 1 : Nat) * 2 ^ (104 + EX) : Nat) := by
  refine ⟨false, 2 ^ 24 - 1, 104, by decide, by decide, by decide, ?_⟩
  have hX := EX_eq
  rw [show ((104 : Int) + (EX : Int)).toNat = 104 + EX by omega]
  rfl
theorem num_min1 : Num single 4286578687 (-((2 ^ 24 - 1 : Nat) * 2 ^ (104 + EX) : Nat)) := by
  refine ⟨true, 2 ^ 24 - 1, 104, by decide, by decide, by decide, ?_⟩
  have hX := EX_eq
  rw [show ((104 : Int) + (EX : Int)).toNat = 104 + EX by omega]
  rfl
theorem fin_max {b : Nat} (h : Num single b (valW b)) : (valW b).natAbs ≤ (2 ^ 24 - 1) * 2 ^ (104 + EX) := by
  have h1 := read_bound fit_single (by decide) h
  have hX := EX_eq
  rwa [show (single.top + (EX : Int)).toNat = 104 + EX by rw [top_single]; omega] at h1
/-- what CheckPart finds first: a number is neither a NaN nor infinite -/
theorem fin_tests {b : Nat} (h : finW b = 0) : (FloatKind.f32.format.order b b != some Ordering.eq) = false ∧ (FloatKind.f32.format.order b 2139095039 == some Ordering.gt) = false ∧ (FloatKind.f32.format.order b 4286578687 == some Ordering.lt) = false := by
  have hn := num_finW h
  have hm := fin_max hn
  refine ⟨?_, ?_, ?_⟩
  · show (single.order b b != some Ordering.eq) = false
    rw [hn.order fit_single hn, cmp_eq]; rfl
  · show (single.order b 2139095039 == some Ordering.gt) = false
    rw [hn.order fit_single num_max1, cmp_gt_iff]
    exact decide_eq_false (by omega)
  · show (single.order b 4286578687 == some Ordering.lt) = false
    rw [hn.order fit_single num_min1, cmp_lt_iff]
    exact decide_eq_false (by omega)
theorem val_pow {b L : Nat} (hL : L ≤ 4096) (h : (valW b).natAbs ≤ L * KK) : (valW b).natAbs < 2 ^ (13 + EX) := Nat.lt_of_le_of_lt h (KK_pow L (by omega))
theorem int_bound {b L : Nat} (h : (valW b).natAbs ≤ L * KK) : (intW b).natAbs ≤ 16 * L := by
  unfold intW
  have hk := KK_pos
  rw [Int.natAbs_tdiv, Int.natAbs_mul, show (16 : Int).natAbs = 16 from rfl, show (KK : Int).natAbs = KK from rfl]
  apply Nat.div_le_of_le_mul
  rw [Nat.mul_comm KK, Nat.mul_assoc]
  exact Nat.mul_le_mul_left 16 h

/-- CheckPart of the reference -/
theorem k90_1024 (hE : EnvOk E) (b : Nat) : COut E 0 [] 90 [.e (.one (fC b)), iI 1024] (iI (chkW 1024 b)) [] := by
  by_cases h : finW b = 0
  · obtain ⟨h1, h2, h3⟩ := fin_tests h
    have hn := num_finW h
    have hk := KK_pos
    have hp : Num single 1149239296 (1024 * KK) := by
      have := num_of_int (k := .f32) fit_single (by decide) (by decide) (n := 1024) (by decide)
      rwa [show FloatKind.f32.nearest 1024 = 1149239296 by decide] at this
    have hm : Num single 3296722944 (-1024 * KK) := by
      have := num_of_int (k := .f32) fit_single (by decide) (by decide) (n := -1024) (by decide)
      rwa [show FloatKind.f32.nearest (-1024) = 3296722944 by decide] at this
    have e1 : (FloatKind.f32.format.order b 1149239296 == some Ordering.gt) = decide (1024 * KK < valW b) := by
      show (single.order b 1149239296 == some Ordering.gt) = _
      rw [hn.order fit_single hp, cmp_gt_iff]
    have e2 : (FloatKind.f32.format.order b 3296722944 == some Ordering.lt) = decide (valW b < -1024 * KK) := by
      show (single.order b 3296722944 == some Ordering.lt) = _
      rw [hn.order fit_single hm, cmp_lt_iff]
    have ec : chkW 1024 b = mulW 1024 b := by unfold chkW; rw [if_pos h]
    by_cases g1 : 1024 * (KK : Int) < valW b
    · have : chkW 1024 b = 3 := by rw [ec]; unfold mulW; rw [if_neg fun h6 => by have := h6.2.2; omega]
      rw [this]
      exact cOut_start Tryz.func90 rfl (c90g_1024 hE b 0 0 0 0 (iBe h1) (iBe h2) (iBe h3) (iBe (by rw [e1]; exact decide_eq_true g1)) (fun j => outK_ret (ends_ret (by kernel_rfl))) fun _ => undef)
    · by_cases g2 : valW b < -1024 * (KK : Int)
      · have : chkW 1024 b = 3 := by rw [ec]; unfold mulW; rw [if_neg fun h6 => by have := h6.2.2; omega]
        rw [this]
        exact cOut_start Tryz.func90 rfl (c90l_1024 hE b 0 0 0 0 (iBe h1) (iBe h2) (iBe h3) (iBe (by rw [e1]; exact decide_eq_false g1)) (iBe (by rw [e2]; exact decide_eq_true g2)) (fun j => outK_ret (ends_ret (by kernel_rfl))) fun _ => undef)
      · have hab : (valW b).natAbs ≤ 1024 * KK := by omega
        obtain ⟨r, hr, hrn⟩ := hn.mul16 fit_single (by decide) (c := 1098907648) c16_single (by decide) (val_pow (by decide) hab) (by rw [EX_eq]; decide)
        have hi := int_bound hab
        have hq := num_of_int (k := .f32) fit_single (by decide) (by decide) (n := intW b) (by show _ < 2 ^ 24; omega)
        have hto : (single.read r).toInt .zero = some (intW b) := hrn.toInt fit_single
        have ex : (FloatKind.f32.format.order (FloatKind.f32.nearest (intW b)) r != some Ordering.eq) = decide (¬ (16 * valW b) % KK = 0) := by
          show (single.order (FloatKind.f32.nearest (intW b)) r != some Ordering.eq) = _
          rw [show single.order (FloatKind.f32.nearest (intW b)) r = _ from Num.order fit_single hq hrn, bne, cmp_eq_iff]
          have hw := @whole_iff (16 * valW b)
          have : (intW b * (KK : Int) = 16 * valW b) ↔ (16 * valW b) % KK = 0 := ⟨fun e => hw.1 e.symm, fun e => (hw.2 e).symm⟩
          simp [this]
        have he : chkW 1024 b = if decide (¬ (16 * valW b) % KK = 0) = true then 3 else 0 := by
          rw [ec]
          unfold mulW
          by_cases h5 : (16 * valW b) % KK = 0
          · rw [if_pos ⟨h, h5, hab⟩]; simp [h5]
          · rw [if_neg fun h6 => h5 h6.2.1]; simp [h5]
        rw [he]
        exact cOut_start Tryz.func90 rfl (c90f_1024 hE b r (FloatKind.f32.nearest (intW b)) (intW b) _ (iBe h1) (iBe h2) (iBe h3) (iBe (by rw [e1]; exact decide_eq_false g1)) (iBe (by rw [e2]; exact decide_eq_false g2)) (mul_ok hr) (conv_toInt u23 u3 hto (by omega) (by omega)) (conv_int u3 u23 _) (mul_ok hr) (by rw [ex]; exact k60 hE _ 3) (fun j => outK_ret (ends_ret (by kernel_rfl))) fun _ => undef)
  · have : chkW 1024 b = 1 := by unfold chkW; rw [if_neg h]
    rw [this]
    rcases not_fin h with h1 | ⟨u, h1⟩
    · exact cOut_start Tryz.func90 rfl (c90n_1024 hE b 0 0 0 0 (iBe (by show (single.order b b != some Ordering.eq) = true; rw [isNaN_order h1]; rfl)) (fun j => outK_ret (ends_ret (by kernel_rfl))) fun _ => undef)
    · have e0 : (FloatKind.f32.format.order b b != some Ordering.eq) = false := by
        show (single.order b b != some Ordering.eq) = false
        unfold Format.order
        rw [h1]
        cases u <;> rfl
      cases u with
      | false => exact cOut_start Tryz.func90 rfl (c90p_1024 hE b 0 0 0 0 (iBe e0) (iBe (by show (single.order b 2139095039 == some Ordering.gt) = true; unfold Format.order; rw [h1, show single.read 2139095039 = .number false 16777215 104 by decide]; rfl)) (fun j => outK_ret (ends_ret (by kernel_rfl))) fun _ => undef)
      | true => exact cOut_start Tryz.func90 rfl (c90m_1024 hE b 0 0 0 0 (iBe e0) (iBe (by show (single.order b 2139095039 == some Ordering.gt) = false; unfold Format.order; rw [h1, show single.read 2139095039 = .number false 16777215 104 by decide]; rfl)) (iBe (by show (single.order b 4286578687 == some Ordering.lt) = true; unfold Format.order; rw [h1, show single.read 4286578687 = .number true 16777215 104 by decide]; rfl)) (fun j => outK_ret (ends_ret (by kernel_rfl))) fun _ => undef)

/-- CheckPart of the reference -/
theorem k90_4096 (hE : EnvOk E) (b : Nat) : COut E 0 [] 90 [.e (.one (fC b)), iI 4096] (iI (chkW 4096 b)) [] := by
  by_cases h : finW b = 0
  · obtain ⟨h1, h2, h3⟩ := fin_tests h
    have hn := num_finW h
    have hk := KK_pos
    have hp : Num single 1166016512 (4096 * KK) := by
      have := num_of_int (k := .f32) fit_single (by decide) (by decide) (n := 4096) (by decide)
      rwa [show FloatKind.f32.nearest 4096 = 1166016512 by decide] at this
    have hm : Num single 3313500160 (-4096 * KK) := by
      have := num_of_int (k := .f32) fit_single (by decide) (by decide) (n := -4096) (by decide)
      rwa [show FloatKind.f32.nearest (-4096) = 3313500160 by decide] at this
    have e1 : (FloatKind.f32.format.order b 1166016512 == some Ordering.gt) = decide (4096 * KK < valW b) := by
      show (single.order b 1166016512 == some Ordering.gt) = _
      rw [hn.order fit_single hp, cmp_gt_iff]
    have e2 : (FloatKind.f32.format.order b 3313500160 == some Ordering.lt) = decide (valW b < -4096 * KK) := by
      show (single.order b 3313500160 == some Ordering.lt) = _
      rw [hn.order fit_single hm, cmp_lt_iff]
    have ec : chkW 4096 b = mulW 4096 b := by unfold chkW; rw [if_pos h]
    by_cases g1 : 4096 * (KK : Int) < valW b
    · have : chkW 4096 b = 3 := by rw [ec]; unfold mulW; rw [if_neg fun h6 => by have := h6.2.2; omega]
      rw [this]
      exact cOut_start Tryz.func90 rfl (c90g_4096 hE b 0 0 0 0 (iBe h1) (iBe h2) (iBe h3) (iBe (by rw [e1]; exact decide_eq_true g1)) (fun j => outK_ret (ends_ret (by kernel_rfl))) fun _ => undef)
    · by_cases g2 : valW b < -4096 * (KK : Int)
      · have : chkW 4096 b = 3 := by rw [ec]; unfold mulW; rw [if_neg fun h6 => by have := h6.2.2; omega]
        rw [this]
        exact cOut_start Tryz.func90 rfl (c90l_4096 hE b 0 0 0 0 (iBe h1) (iBe h2) (iBe h3) (iBe (by rw [e1]; exact decide_eq_false g1)) (iBe (by rw [e2]; exact decide_eq_true g2)) (fun j => outK_ret (ends_ret (by kernel_rfl))) fun _ => undef)
      · have hab : (valW b).natAbs ≤ 4096 * KK := by omega
        obtain ⟨r, hr, hrn⟩ := hn.mul16 fit_single (by decide) (c := 1098907648) c16_single (by decide) (val_pow (by decide) hab) (by rw [EX_eq]; decide)
        have hi := int_bound hab
        have hq := num_of_int (k := .f32) fit_single (by decide) (by decide) (n := intW b) (by show _ < 2 ^ 24; omega)
        have hto : (single.read r).toInt .zero = some (intW b) := hrn.toInt fit_single
        have ex : (FloatKind.f32.format.order (FloatKind.f32.nearest (intW b)) r != some Ordering.eq) = decide (¬ (16 * valW b) % KK = 0) := by
          show (single.order (FloatKind.f32.nearest (intW b)) r != some Ordering.eq) = _
          rw [show single.order (FloatKind.f32.nearest (intW b)) r = _ from Num.order fit_single hq hrn, bne, cmp_eq_iff]
          have hw := @whole_iff (16 * valW b)
          have : (intW b * (KK : Int) = 16 * valW b) ↔ (16 * valW b) % KK = 0 := ⟨fun e => hw.1 e.symm, fun e => (hw.2 e).symm⟩
          simp [this]
        have he : chkW 4096 b = if decide (¬ (16 * valW b) % KK = 0) = true then 3 else 0 := by
          rw [ec]
          unfold mulW
          by_cases h5 : (16 * valW b) % KK = 0
          · rw [if_pos ⟨h, h5, hab⟩]; simp [h5]
          · rw [if_neg fun h6 => h5 h6.2.1]; simp [h5]
        rw [he]
        exact cOut_start Tryz.func90 rfl (c90f_4096 hE b r (FloatKind.f32.nearest (intW b)) (intW b) _ (iBe h1) (iBe h2) (iBe h3) (iBe (by rw [e1]; exact decide_eq_false g1)) (iBe (by rw [e2]; exact decide_eq_false g2)) (mul_ok hr) (conv_toInt u23 u3 hto (by omega) (by omega)) (conv_int u3 u23 _) (mul_ok hr) (by rw [ex]; exact k60 hE _ 3) (fun j => outK_ret (ends_ret (by kernel_rfl))) fun _ => undef)
  · have : chkW 4096 b = 1 := by unfold chkW; rw [if_neg h]
    rw [this]
    rcases not_fin h with h1 | ⟨u, h1⟩
    · exact cOut_start Tryz.func90 rfl (c90n_4096 hE b 0 0 0 0 (iBe (by show (single.order b b != some Ordering.eq) = true; rw [isNaN_order h1]; rfl)) (fun j => outK_ret (ends_ret (by kernel_rfl))) fun _ => undef)
    · have e0 : (FloatKind.f32.format.order b b != some Ordering.eq) = false := by
        show (single.order b b != some Ordering.eq) = false
        unfold Format.order
        rw [h1]
        cases u <;> rfl
      cases u with
      | false => exact cOut_start Tryz.func90 rfl (c90p_4096 hE b 0 0 0 0 (iBe e0) (iBe (by show (single.order b 2139095039 == some Ordering.gt) = true; unfold Format.order; rw [h1, show single.read 2139095039 = .number false 16777215 104 by decide]; rfl)) (fun j => outK_ret (ends_ret (by kernel_rfl))) fun _ => undef)
      | true => exact cOut_start Tryz.func90 rfl (c90m_4096 hE b 0 0 0 0 (iBe e0) (iBe (by show (single.order b 2139095039 == some Ordering.gt) = false; unfold Format.order; rw [h1, show single.read 2139095039 = .number false 16777215 104 by decide]; rfl)) (iBe (by show (single.order b 4286578687 == some Ordering.lt) = true; unfold Format.order; rw [h1, show single.read 4286578687 = .number true 16777215 104 by decide]; rfl)) (fun j => outK_ret (ends_ret (by kernel_rfl))) fun _ => undef)

theorem k25 (hE : EnvOk E) (b : Nat) : COut E 0 [] 25 [.e (.one (fC b))] (iI (chkW 1024 b)) [] :=
  cOut_start Tryz.func25 rfl (c25 hE b _ (k90_1024 hE b) (fun j => outK_ret (ends_ret (by kernel_rfl))) fun _ => undef)
theorem k106 (hE : EnvOk E) {L b : Nat} (hL : L ≤ 4096) (h : chkW L b = 0) : COut E 0 [] 106 [.e (.one (fC b))] (iI (intW b)) [] := by
  obtain ⟨r, hr, ht, _⟩ := mul_int (by omega) h
  have := (chk_zero h).2.2
  exact cOut_start Tryz.func106 rfl (c106 hE b r (intW b) (mul_ok hr) (conv_toInt u23 u3 ht (by omega) (by omega)) (fun j => outK_ret (ends_ret (by kernel_rfl))) fun _ => undef)
theorem k65 (hE : EnvOk E) {L b : Nat} (hL : L ≤ 4096) (h : chkW L b = 0) : COut E 0 [] 65 [.e (.one (fC b))] (iI (intW b)) [] := by
  obtain ⟨r, hr, ht, _⟩ := mul_int (by omega) h
  have := (chk_zero h).2.2
  exact cOut_start Tryz.func65 rfl (c65 hE b r (intW b) (mul_ok hr) (conv_toInt u23 u3 ht (by omega) (by omega)) (fun j => outK_ret (ends_ret (by kernel_rfl))) fun _ => undef)
theorem k101 (hE : EnvOk E) {n : Int} (hn : n.natAbs < 2 ^ 24) : COut E 0 [] 101 [iI n] (.e (.one (fC (smpW n)))) [] := by
  obtain ⟨_, _, hd, _⟩ := smp_num hn
  exact cOut_start Tryz.func101 rfl (c101 hE n (FloatKind.f32.nearest n) (smpW n) (conv_int u3 u23 n) (quo_ok hd) (fun j => outK_ret (ends_ret (by kernel_rfl))) fun _ => undef)
theorem k64 (hE : EnvOk E) {n : Int} (hn : n.natAbs < 2 ^ 24) : COut E 0 [] 64 [iI n] (.e (.one (fC (smpW n)))) [] := by
  obtain ⟨_, _, hd, _⟩ := smp_num hn
  exact cOut_start Tryz.func64 rfl (c64 hE n (FloatKind.f32.nearest n) (smpW n) (conv_int u3 u23 n) (quo_ok hd) (fun j => outK_ret (ends_ret (by kernel_rfl))) fun _ => undef)
end
end Go.Proofs.YtgplabfjldndgaaGreatDoor
