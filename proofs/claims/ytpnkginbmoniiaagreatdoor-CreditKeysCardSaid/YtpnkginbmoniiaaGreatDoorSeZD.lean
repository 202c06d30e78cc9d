/-
  Part of the proof: SyA, SyB, SyDp, SyC.
-/
import Derived.Test.YtpnkginbmoniiaaGreatDoorSeZC
import Derived.Stop.BytesEq

/-! SyA -/
section
namespace Go.Ev
open Go.RowKit
noncomputable section
inductive DAns where
 | len
 | ix (k : Nat)
 | fa
 | nc
 | ld (d : DT)
 | ldn (l : List DT)
 | sl (l u : Nat) (r : List DT)
 | z
 | cl
 | c1 (v : AV)
 | ap (n m : Nat) (xs l : List AC) (L N : Nat)
 | sp
 | ia (k : Nat)
inductive Ans where
 | go
 | rn (x : AV)
 | ld (c : AC)
 | ldn (l : List AC)
 | ix (k : Nat)
 | st (l : List AC)
 | quo (n : Int)
 | mk (n m : Nat) (N : Nat) (l : List AC)
 | app (L N : Nat) (l : List AC)
 | c0 (v : AV)
 | cl (e : List Nat) (fl : List Bool) (args : List AV) (hin : Heap) (v : AV) (hout : Heap) (v' : AV) (fl2 : List Bool) (nb : Heap)
 | cw (v : AV) (h' : Heap)
 | el (c : AC)
 | cpy (L N : Nat) (l : List AC)
 | apz
 | cmp (b : Bool) (xs ys : List UInt8)
 | oq
 | pk (b : Bool)
 | len (n : Nat)
 | cpu (n N : Nat) (l : List AC) (b : Bool)
 | fw
 | str (bs : List UInt8)
 | clq (e : List Nat) (fl : List Bool) (args : List AV) (hin : Heap) (v : AV) (hout : Heap) (v' : AV) (fl2 : List Bool) (nb : Heap)
 | eqs (b : Bool)
 | slo (l u o' n' c' : Nat)
 | s2a
 | fwq
 | sap
 | d (a : DAns)
 | fb (c : AC)
 | fc (c : AC)
 | fx (c : AC)
 | yd (v : AV) (h' : Heap)
 | nx (r : Option (Nat × Nat))
 | si (b : Nat)
 | apo (L : Nat) (xs l : List AC)
 | clr (l : List AC)
 | apx (L N : Nat) (l : List AC)
 | apq (L N : Nat) (l : List AC)
 | sl3 (l u mm o' n' c' : Nat)
 | mu (kv' : List (Value × Value))
 | lk (v : Value) (b : Bool)
def seeKV (d : TypeDesc) (k : Value) (kv : List (Value × Value)) (z : Value) : Option (Value × Bool) :=
 (findKV d k kv 0).map fun r => match r with | some (_, v) => (v, true) | none => (z, false)
def LenIs (x : AV) (n : Nat) : Prop := (∃ b o sz cap ex, x = .e (.one (.slc b o n sz cap ex))) ∨ ∃ p c, x = .e (.one (.v (.slice p n c)))
def isOq : Ans → Bool
 | .oq => true
 | .fwq => true
 | _ => false
def AllP (l : List Prop) : Prop := List.rec (motive := fun _ => Prop) True (fun p _ ih => p ∧ ih) l
def COut (E : Env) (lvl : Nat) (hin : Heap) (f : FuncId) (args : List AV) (v : AV) (hout : Heap) : Prop :=
 ∀ (m : M) (base : Nat) (w : World) (argsC : Array Value), All2 (VR m) args argsC.toList → HR m base lvl hin w → GR E.gl base w →
  Calls E.P f argsC w fun e w' => ∃ y, e = .returned y ∧ ∃ m', PostG m base lvl w v hout y w' m'
def RoundK (E : Env) (lvl : Nat) (h : Heap) (b : Nat) (args : List AV) (v : AV) (h' : Heap) : Prop :=
 ∀ (m : M) (base : Nat) (w : World) (argsC : Array Value), All2 (VR m) args argsC.toList → HR m base lvl h w → GR E.gl base w →
  ∃ fn tmps asg body, (Instr.yield (m.ρ b) argsC).run E.P w = .ok (.round (m.ρ b) fn tmps asg body) w ∧ Rounds E.P (m.ρ b) fn tmps asg body w fun y w' => ∃ m', PostG m base lvl w v h' y w' m'
def BinOk (P : Program) (op : BinOp) (t : TypeId) (x z : Operand) (cx cz c : AC) : Prop :=
 ∀ (m : M) (p q : Value) (w : World), CR m cx p → CR m cz q → ∃ y n, (do eqGuard op t x z p q; binOp op t p q : Sem Value).run P w = .ok y { w with drawn := n } ∧ CR m c y
def ConvOk (P : Program) (s d : TypeId) (cx c : AC) : Prop :=
 ∀ (m : M) (p : Value) (w : World), CR m cx p → ∃ y n, (convert s d p).run P w = .ok y { w with drawn := n } ∧ CR m c y
def ExtOk (P : Program) (f : FuncId) (args : List AV) (c : AC) : Prop :=
 ∀ (m : M) (ps : Array Value) (w : World), All2 (VR m) args ps.toList → ∃ y n, (callFunc f ps).run P w = .ok (.value y) { w with drawn := n } ∧ CR m c y
def boundA (tm : Tm) (x : Option Operand) (d : Int) : Option Int :=
 match x with
 | some p => intN? (evA tm p)
 | none => some d
theorem bounds_of {tm : Tm} {lo hi : Option Operand} {len cap l u : Nat} (h1 : boundA tm lo 0 = some (Int.ofNat l)) (h2 : boundA tm hi (Int.ofNat len) = some (Int.ofNat u)) (h : l ≤ u ∧ u ≤ cap) :
  sliceBoundsA len cap (lo.map (evA tm)) (hi.map (evA tm)) = some (l, u) := by
 have fin : ∀ (a b : Int), a = Int.ofNat l → b = Int.ofNat u → (if 0 ≤ a ∧ a ≤ b ∧ b ≤ (cap : Int) then some (a.toNat, b.toNat) else none) = some (l, u) := by
  intro a b ha hb
  subst ha hb
  simp only [Int.ofNat_eq_natCast]
  rw [if_pos (by omega)]
  simp
 unfold sliceBoundsA
 cases lo with
 | none =>
  have g1 := Option.some.inj h1
  cases hi with
  | none => exact fin 0 len g1 (Option.some.inj h2)
  | some q =>
   have h2 : intN? (evA tm q) = some (Int.ofNat u) := h2
   simp only [Option.map_some, Option.map_none, h2]
   exact fin 0 _ g1 rfl
 | some p =>
  have h1 : intN? (evA tm p) = some (Int.ofNat l) := h1
  cases hi with
  | none =>
   simp only [Option.map_some, Option.map_none, h1]
   exact fin _ len rfl (Option.some.inj h2)
  | some q =>
   have h2 : intN? (evA tm q) = some (Int.ofNat u) := h2
   simp only [Option.map_some, h1, h2]
   exact fin _ _ rfl rfl
def EqOk (E : Env) (t : TypeId) (l1 l2 : List AC) (b : Bool) : Prop :=
 ∀ (m : M) (c1 c2 : Array Value) (w : World), All2 (CR m) l1 c1.toList → All2 (CR m) l2 c2.toList → (Op.equalIn 10000 t (.agg c1) (.agg c2)).run E.P w = .ok b w
def u8c (b : UInt8) : AC := .v (.int .u8 b.toNat)
def emptyS : AV → Bool
 | .e (.one (.v (.slice _ n _))) => Nat.beq n 0
 | .e (.one (.slc _ _ n _ _ _)) => Nat.beq n 0
 | _ => false
def isSlc : AV → Bool
 | .e (.one (.v (.slice none n c))) => Nat.beq n 0 && Nat.beq c 0
 | .e (.one (.slc _ _ _ _ _ _)) => true
 | _ => false
def noRefs (a : AV) : Bool := match a.refs with | [] => true | _ => false
def FlatC (l : List AC) : Prop := ∀ c ∈ l, ∃ x, c = .v x
def renFl (f : Nat → Nat) : List Bool → Heap → List (Option (Option AB))
 | true :: fs, b :: r => some b :: renFl f fs r
 | false :: fs, b :: r => some (b.map (AB.ren f)) :: renFl f fs r
 | _, _ => []
def FlatB : Option AB → Prop
 | some a => FlatC a.cells
 | none => True
def flatP : List Bool → Heap → Prop
 | true :: fs, b :: r => FlatB b ∧ flatP fs r
 | false :: fs, _ :: r => flatP fs r
 | _, _ => True
def CopyOk (h : Heap) (sz bytes : Nat) (x : AV) (n : Nat) (l : List AC) (b : Bool) : Prop :=
 (b = true ∧ n = 0 ∧ l = [] ∧ ∃ ds s0, x = .e (.one (.dp (.s ds 0 s0)))) ∨
 (b = false ∧ 0 < n ∧ small (0 + n) sz bytes = true ∧ l.all AC.isOne = true ∧ ∃ ds, x = .e (.one (.dp (.s ds n sz))) ∧ l = ds.map DT.ac ∧ ds.length = n * sz) ∨
 (b = true ∧ n = 0 ∧ l = [] ∧ ∃ p c, x = .e (.one (.v (.slice p 0 c)))) ∨
 (b = false ∧ 0 < n ∧ small (0 + n) sz bytes = true ∧ l.all AC.isOne = true ∧ ∃ b2 s2 cap2 ex2 a2, x = .e (.one (.slc b2 s2 n sz cap2 ex2)) ∧ blk h b2 = some a2 ∧ takeL (dropL a2.cells s2) (n * sz) = some l)
def StrOk (h : Heap) (x : AV) (bs : List UInt8) : Prop :=
 (bs = [] ∧ ∃ c, x = .e (.one (.v (.slice none 0 c)))) ∨
 (∃ b o sz cap ex, x = .e (.one (.slc b o bs.length sz cap ex)) ∧ (bs = [] ∨ (sz = 1 ∧ ∃ a, blk h b = some a ∧ takeL (dropL a.cells o) bs.length = some (bs.map u8c)))) ∨
 (∃ ds, x = .e (.one (.dp (.s ds bs.length 1))) ∧ 0 < bs.length ∧ ds.map DT.ac = bs.map u8c)
def OpqC (K : Nat) (x : AC) : Prop := ∀ b ∈ x.refs, b < K
def nthE (e : List Nat) (L nin i : Nat) : Nat := if i < nin then getD0 e i else L + (i - nin)
def plainB : Option AB → Bool
 | none => true
 | some a => match a.ext with | .cells => true | _ => false
def plainP : Heap → Prop
 | [] => True
 | b :: r => plainB b = true ∧ plainP r
def dV (E : Env) (lvl : Nat) (h : Heap) (tm : Tm) (o : Oper) (a : DAns) : Option (AV × Heap × List Prop) :=
 match a with
 | .len => match o.op with
  | .call c => match c.callee, c.args.toList.map (evA tm), c.argTypes.toList with
   | .builtin .len, [.e (.one (.dp (.s _ n _)))], [t] => match E.P.underlying t with
    | some (.slice _) => some (.e (.one (.v (.int .i64 n))), h, [])
    | _ => none
   | _, _, _ => none
  | _ => none
 | .ix k => match o.op with
  | .indexAddr t p i => match evA tm p, intOf? (evA tm i), E.P.underlying t with
   | .e (.one (.dp (.s cells len sz))), some (_, n), some (.slice el) => match E.P.info? el with
    | some e => match Nat.beq e.size sz with
     | true => some (.e (.one (.dp (.p cells k))), h, [0 ≤ n ∧ n < len, n.toNat * sz = k])
     | false => none
    | none => none
   | _, _, _ => none
  | _ => none
 | .sp => match o.op with
  | .sliceToArrayPointer t x => match E.P.underlying t, evA tm x with
   | some (.array N _), .e (.one (.dp (.s cells n _))) => match Nat.blt 0 N with
    | true => some (.e (.one (.dp (.p cells 0))), h, [N ≤ n])
    | false => none
   | _, _ => none
  | _ => none
 | .ia k => match o.op with
  | .indexAddr t p i => match evA tm p, intOf? (evA tm i), E.P.underlying t with
   | .e (.one (.dp (.p cells s))), some (_, n), some (.array len el) => match E.P.info? el with
    | some e => some (.e (.one (.dp (.p cells k))), h, [0 ≤ n ∧ n < len, s + n.toNat * e.size = k])
    | none => none
   | _, _, _ => none
  | _ => none
 | .fa => match o.op with
  | .fieldAddr s p f => match evA tm p, E.P.underlying s with
   | .e (.one (.dp (.p cells k))), some (.struct fs) => match fs[f]? with
    | some fd => match E.P.info? fd.type with
     | some i => match Nat.beq i.size 0 with
      | false => some (.e (.one (.dp (.p cells (k + fd.offset)))), h, [])
      | true => none
     | none => none
    | none => none
   | _, _ => none
  | _ => none
 | .nc => match o.op with
  | .nilCheck p => match evA tm p with
   | .e (.one (.dp (.p cells k))) => some (.e (.one (.dp (.p cells k))), h, [])
   | _ => none
  | .binOp b t x y _ => match evA tm x, evA tm y, E.P.underlying t, nilEq b with
   | .e (.one (.dp (.s _ n _))), .e (.one (.v (.slice none _ _))), some (.slice _), some r => some (.e (.one (.v (.bool r))), h, [0 < n])
   | _, _, _, _ => none
  | _ => none
 | .ld d => match o.op with
  | .load t p => match evA tm p, E.P.underlying t, E.P.info? t with
   | .e (.one (.dp (.p cells k))), some u, some _ => match isAggD u with
    | false => some (.e (.one d.ac), h, [getL cells k = some d])
    | true => none
   | _, _, _ => none
  | _ => none
 | .ldn l => match o.op with
  | .load t p => match evA tm p, E.P.underlying t, E.P.info? t with
   | .e (.one (.dp (.p cells k))), some u, some i => match isAggD u with
    | true => some (.e (.agg (l.map DT.ac)), h, [takeL (dropL cells k) i.size = some l])
    | false => none
   | _, _, _ => none
  | _ => none
 | .sl l u r => match o.op with
  | .slice t p lo hi none => match E.P.underlying t, evA tm p with
   | some (.slice el), .e (.one (.dp (.s cells n sz))) => match E.P.info? el, boundA tm lo 0, boundA tm hi (Int.ofNat n) with
    | some e, some l', some u' => match Nat.beq e.size sz with
     | true => some (.e (.one (.dp (.s r (u - l) sz))), h, [l' = Int.ofNat l, u' = Int.ofNat u, l ≤ u ∧ u ≤ n, takeL (dropL cells (l * sz)) ((u - l) * sz) = some r])
     | false => none
    | _, _, _ => none
   | _, _ => none
  | _ => none
 | .z => match o.op with
  | .slice t p lo (some hi) (some mx) => match E.P.underlying t, evA tm p with
   | some (.slice el), .e (.one (.dp (.s _ _ _))) => match E.P.info? el, boundA tm lo 0, intN? (evA tm hi), intN? (evA tm mx) with
    | some _, some 0, some 0, some 0 => some (.e (.one (.dp .z)), h, [])
    | _, _, _, _ => none
   | _, _ => none
  | _ => none
 | .cl => match o.op with
  | .call c => match c.callee, c.args.toList.map (evA tm), c.argTypes.toList with
   | .builtin .append, [.e (.one (.dp .z)), .e (.one (.dp (.s cells n sz)))], [t, xt] => match E.P.underlying t with
    | some (.slice el) => match E.P.info? el, zeroA E el with
     | some e, some z => match Nat.beq t xt && Nat.blt 0 e.size && Nat.beq (lenL z) e.size && Nat.beq sz e.size with
      | true => some (.e (.one (.dp (.s cells n sz))), h, [small n e.size e.bytes = true])
      | false => none
     | _, _ => none
    | _ => none
   | _, _, _ => none
  | _ => none
 | .c1 v => match o.op with
  | .call c => match calleeOf tm c with
   | some (f, args) => match E.P.funcs[f]? with
    | some fn => match fn.body.isSome with
     | true => some (v, h, [COut E (lenL h) h f args v h, v.refs = []])
     | false => none
    | none => none
   | none => none
  | _ => none
 | .ap n m xs l L N => match o.op with
  | .call c => match c.callee, c.args.toList.map (evA tm), c.argTypes.toList with
   | .builtin .append, [.e (.one (.slc b s len sz cap false)), .e (.one (.dp (.s ds m' sz2)))], [t, xt] => match E.P.underlying t with
    | some (.slice el) => match E.P.info? el, zeroA E el, blk h b with
     | some e, some z, some ab => match Nat.beq t xt && Nat.blt 0 e.size && Nat.beq (lenL z) e.size && Nat.beq sz e.size && Nat.beq sz2 e.size && Nat.ble lvl b && Nat.beq s 0 && Nat.beq ab.elem el && !ab.full with
      | true => some (.e (.one (.slc (lenL h) 0 L sz L false)), appL (setL h b none) [some ⟨l, N, el, false, .cells⟩], [m' = m, len = n, 0 < m, xs = ds.map DT.ac, ds.length = m * sz, xs.all AC.isOne = true, ¬ n + m ≤ cap, small (n + m) e.size e.bytes = true, ab.n = n * sz, appL ab.cells xs = l, n + m = L, L * sz = N])
      | false => none
     | _, _, _ => none
    | _ => none
   | _, _, _ => none
  | _ => none
def valV (E : Env) (rec : RunT) (lvl : Nat) (h : Heap) (tm : Tm) (o : Oper) (a : Ans) : Option (AV × Heap × List Prop) :=
 match a with
 | .go => match stepOp E rec lvl h tm o with
  | some (x, h') => some (x, h', [])
  | none => none
 | .rn y => match stepOp E rec lvl h tm o with
  | some (x, h') => some (y, h', [x = y])
  | none => none
 | .ld c => match o.op with
  | .load t p => match evA tm p, E.P.underlying t, E.P.info? t with
   | .e (.one (.ptr b k)), some d, some _ => match blk h b, isAggD d with
    | some ab, false => some (.e (.one c), h, [getL ab.cells k = some c])
    | _, _ => none
   | _, _, _ => none
  | _ => none
 | .ldn l => match o.op with
  | .load t p => match evA tm p, E.P.underlying t, E.P.info? t with
   | .e (.one (.ptr b k)), some d, some i => match blk h b, isAggD d with
    | some ab, true => some (.e (.agg l), h, [takeL (dropL ab.cells k) i.size = some l])
    | _, _ => none
   | _, _, _ => none
  | _ => none
 | .ix k => match o.op with
  | .indexAddr t p i => match evA tm p, intOf? (evA tm i), E.P.underlying t with
   | .e (.one (.ptr b s)), some (_, n), some (.array len el) => match E.P.info? el with
    | some e => some (.e (.one (.ptr b k)), h, [0 ≤ n ∧ n < len, s + n.toNat * e.size = k])
    | none => none
   | .e (.one (.slc b s len sz _ _)), some (_, n), some (.slice el) => match E.P.info? el with
    | some e => match Nat.beq e.size sz with
     | true => some (.e (.one (.ptr b k)), h, [0 ≤ n ∧ n < len, s + n.toNat * sz = k])
     | false => none
    | none => none
   | _, _, _ => none
  | _ => none
 | .st l => match o.op with
  | .store t p x => match evA tm p, evA tm x with
   | .e (.one (.ptr b s)), .e x => match blk h b, E.P.info? t, x.cells? with
    | some ab, some i, some cs => match Nat.ble lvl b && Nat.beq (lenL cs) i.size && cs.all AC.isOne with
     | true => some (.tup [], setL h b (some { ab with cells := l }), [s + i.size ≤ ab.n, overL cs ab.cells s = l])
     | false => none
    | _, _, _ => none
   | _, _ => none
  | _ => none
 | .quo r => match o.op with
  | .binOp op _ x y _ => match evA tm x, evA tm y with
   | .e (.one (.v (.int k p))), .e (.one (.v (.int j q))) => match decide (k = j), op with
    | true, .quo => some (.e (.one (.v (.int k r))), h, [q ≠ 0, wrapF k (p.tdiv q) = r])
    | true, .rem => some (.e (.one (.v (.int k r))), h, [q ≠ 0, p.tmod q = r])
    | _, _ => none
   | _, _ => none
  | _ => none
 | .mk n m N l => match o.op with
  | .makeSlice t p c => match E.P.underlying t, intOf? (evA tm p), intOf? (evA tm c) with
   | some (.slice el), some (_, n'), some (_, m') => match E.P.info? el, zeroA E el with
    | some e, some z => match Nat.beq (lenL z) e.size && Nat.blt 0 e.size with
     | true => some (.e (.one (.slc (lenL h) 0 n e.size m true)), appL h [some ⟨l, N, el, true, .cells⟩], [0 ≤ n' ∧ n' ≤ m', small m'.toNat e.size e.bytes = true, n'.toNat = n, m'.toNat = m, m * e.size = N, repeatC z m = l])
     | false => none
    | _, _ => none
   | _, _, _ => none
  | _ => none
 | .app L N l => match o.op with
  | .call c => match c.callee, c.args.toList.map (evA tm), c.argTypes.toList with
   | .builtin .append, [.e (.one (.slc b s len sz cap false)), .e (.one (.slc b2 s2 m sz2 cap2 ex2))], [t, xt] => match E.P.underlying t with
    | some (.slice el) => match E.P.info? el, zeroA E el, blk h b with
     | some e, some z, some ab => match srcCells h e.size m (.e (.one (.slc b2 s2 m sz2 cap2 ex2))) with
      | some xs => match Nat.beq t xt && Nat.blt 0 e.size && Nat.beq (lenL z) e.size && xs.all AC.isOne && Nat.beq sz e.size && Nat.ble lvl b && Nat.beq s 0 && Nat.blt 0 m && Nat.beq ab.elem el && !ab.full with
       | true => some (.e (.one (.slc (lenL h) 0 L sz L false)), appL (setL h b none) [some ⟨l, N, el, false, .cells⟩], [¬ len + m ≤ cap, small (len + m) e.size e.bytes = true, ab.n = len * sz, appL ab.cells xs = l, len + m = L, L * sz = N])
       | false => none
      | none => none
     | _, _, _ => none
    | _ => none
   | _, _, _ => none
  | _ => none
 | .c0 v => match o.op with
  | .call c => match calleeOf tm c with
   | some (f, args) => match E.P.funcs[f]? with
    | some fn => match fn.body.isSome && args.all noRefs with
     | true => some (v, h, [COut E 0 [] f args v [], v.refs = []])
     | false => none
    | none => none
   | none => none
  | _ => none
 | .cl e fl args' hin v hout v' fl2 nb => match o.op with
  | .call c => match calleeOf tm c with
   | some (f, args) => match E.P.funcs[f]? with
    | some fn => match fn.body.isSome && Nat.beq (lenL e) (lenL hin) && (e.all fun b => Nat.blt b (lenL h)) && (dropL hout (lenL hin)).all plainB && hin.all plainB && nb.all plainB && Nat.beq (lenL fl) (lenL hin) && Nat.beq (lenL fl2) (lenL (dropL hout (lenL hin))) with
     | true => some (v', appL h nb, [COut E (lenL hin) hin f args' v hout, args'.map (AV.ren (nthE e (lenL h) (lenL hin))) = args, e.map (getL h) = renFl (nthE e (lenL h) (lenL hin)) fl hin, flatP fl hin,
       renFl (nthE e (lenL h) (lenL hin)) fl2 (dropL hout (lenL hin)) = nb.map some, flatP fl2 (dropL hout (lenL hin)), v.ren (nthE e (lenL h) (lenL hin)) = v'])
     | false => none
    | none => none
   | none => none
  | _ => none
 | .el c => match o.op with
  | .index t x y => match evA tm x, intOf? (evA tm y), E.P.underlying t with
   | .e (.agg l), some (_, n), some (.array len el) => match E.P.underlying el, E.P.info? el with
    | some d, some i => match isAggD d, Nat.beq i.size 1 with
     | false, true => some (.e (.one c), h, [0 ≤ n ∧ n < len, getL l n.toNat = some c])
     | _, _ => none
    | _, _ => none
   | _, _, _ => none
  | _ => none
 | .cpy L N l => match o.op with
  | .call c => match c.callee, c.args.toList.map (evA tm), c.argTypes.toList with
   | .builtin .append, [.e (.one (.slc b _s 0 sz 0 true)), .e (.one (.slc b2 s2 m sz2 _cap2 _ex2))], [t, xt] => match E.P.underlying t with
    | some (.slice el) => match E.P.info? el, zeroA E el, blk h b, blk h b2 with
     | some e, some z, some _ab, some a2 => match Nat.beq t xt && Nat.blt 0 e.size && Nat.beq (lenL z) e.size && Nat.beq sz e.size && Nat.beq sz2 e.size with
      | true => some (.e (.one (.slc (lenL h) 0 L sz L false)), appL h [some ⟨l, N, el, false, .cells⟩], [0 < m, small (0 + m) e.size e.bytes = true, takeL (dropL a2.cells s2) (m * sz) = some l, l.all AC.isOne = true, 0 + m = L, L * sz = N])
      | false => none
     | _, _, _, _ => none
    | _ => none
   | _, _, _ => none
  | _ => none
 | .apz => match o.op with
  | .call c => match c.callee, c.args.toList.map (evA tm), c.argTypes.toList with
   | .builtin .append, [s, x], [t, xt] => match E.P.underlying t, E.P.underlying xt, (match E.P.underlying t with | some (.slice el) => E.P.info? el | _ => none) with
    | some (.slice _), some (.slice _), some _ => match isSlc s && emptyS x with
     | true => some (s, h, [])
     | false => none
    | _, _, _ => none
   | _, _, _ => none
  | _ => none
 | .cmp b xs ys => match o.op with
  | .binOp op t x y _ => match evA tm x, evA tm y, E.P.underlying t with
   | .e (.agg l1), .e (.agg l2), some (.array n el) => match E.P.underlying el, E.P.info? el, E.P.eqGuardType E.P.depth t with
    | some (.int .u8), some i, false => match Nat.beq i.size 1, op with
     | true, .eql => some (.e (.one (.v (.bool b))), h, [l1 = xs.map u8c, l2 = ys.map u8c, xs.length = n, ys.length = n, (xs == ys) = b])
     | true, .neq => some (.e (.one (.v (.bool b))), h, [l1 = xs.map u8c, l2 = ys.map u8c, xs.length = n, ys.length = n, (!(xs == ys)) = b])
     | _, _ => none
    | _, _, _ => none
   | _, _, _ => none
  | _ => none
 | .oq => match stepOp E rec lvl h tm o with
  | some (x, h') => some (x, h', [])
  | none => none
 | .pk b => match o.op with
  | .pick c p q => match evA tm c with
   | .e (.one (.v (.bool t))) => some (match b with | true => evA tm p | false => evA tm q, h, [t = b])
   | _ => none
  | _ => none
 | .len n => match o.op with
  | .call c => match c.callee, c.args.toList.map (evA tm), c.argTypes.toList with
   | .builtin .len, [x], [t] => match E.P.underlying t with
    | some (.slice _) => some (.e (.one (.v (.int .i64 n))), h, [LenIs x n])
    | _ => none
   | _, _, _ => none
  | _ => none
 | .cpu n N l b => match o.op with
  | .call c => match c.callee, c.args.toList.map (evA tm), c.argTypes.toList with
   | .builtin .append, [.e (.one (.slc b0 _s 0 sz 0 true)), x], [t, xt] => match E.P.underlying t, E.P.underlying xt with
    | some (.slice el), some (.slice _) => match E.P.info? el, zeroA E el, blk h b0 with
     | some e, some z, some ab => match Nat.beq t xt && Nat.blt 0 e.size && Nat.beq (lenL z) e.size && Nat.beq sz e.size && Nat.ble lvl b0 && Nat.beq ab.elem el && ab.full && Nat.beq ab.n 0 with
      | true => some (.e (.one (.slc (lenL h) 0 n sz n b)), appL (setL h b0 none) [some ⟨l, N, el, b, .cells⟩], [CopyOk h e.size e.bytes x n l b, n * sz = N])
      | false => none
     | _, _, _ => none
    | _, _ => none
   | _, _, _ => none
  | _ => none
 | .fw => match opA E lvl tm h o.op with
  | some (x, h') => some (x, h', [])
  | none => none
 | .fwq => match opA E lvl tm h o.op with
  | some (x, h') => some (x, h', [])
  | none => none
 | .cw v h' => match o.op with
  | .call c => match calleeOf tm c with
   | some (f, args) => match E.P.funcs[f]? with
    | some fn => match fn.body.isSome with
     | true => some (v, h', [COut E lvl h f args v h'])
     | false => none
    | none => none
   | none => none
  | _ => none
 | .str bs => match o.op with
  | .convert s d x => match E.P.underlying s, E.P.underlying d with
   | some (.slice el), some .string => match E.P.underlying el with
    | some (.int .u8) => some (.e (.one (.v (.string ⟨bs.toArray⟩))), h, [StrOk h (evA tm x) bs])
    | _ => none
   | _, _ => none
  | _ => none
 | .clq e fl args' hin v hout v' fl2 nb => match o.op with
  | .call c => match calleeOf tm c with
   | some (f, args) => match E.P.funcs[f]? with
    | some fn => match fn.body.isSome && Nat.beq (lenL e) (lenL hin) && (e.all fun b => Nat.blt b (lenL h)) && Nat.beq (lenL fl) (lenL hin) && Nat.beq (lenL fl2) (lenL (dropL hout (lenL hin))) with
     | true => some (v', appL h nb, [COut E (lenL hin) hin f args' v hout, args'.map (AV.ren (nthE e (lenL h) (lenL hin))) = args, e.map (getL h) = renFl (nthE e (lenL h) (lenL hin)) fl hin, flatP fl hin,
       renFl (nthE e (lenL h) (lenL hin)) fl2 (dropL hout (lenL hin)) = nb.map some, flatP fl2 (dropL hout (lenL hin)), v.ren (nthE e (lenL h) (lenL hin)) = v', plainP hin, plainP (dropL hout (lenL hin)), plainP nb])
     | false => none
    | none => none
   | none => none
  | _ => none
 | .eqs b => match o.op with
  | .binOp op t x y _ => match evA tm x, evA tm y, op, E.P.eqGuardType E.P.depth t with
   | .e (.agg l1), .e (.agg l2), .eql, false => some (.e (.one (.v (.bool b))), h, [EqOk E t l1 l2 b])
   | .e (.agg l1), .e (.agg l2), .neq, false => some (.e (.one (.v (.bool b))), h, [EqOk E t l1 l2 (!b)])
   | _, _, _, _ => none
  | _ => none
 | .slo l u o' n' c' => match o.op with
  | .slice t x lo hi none => match E.P.underlying t, evA tm x with
   | some (.slice el), .e (.one (.slc b o len sz cap ex)) => match E.P.info? el, boundA tm lo 0, boundA tm hi (Int.ofNat len) with
    | some e, some l', some u' => match Nat.beq e.size sz with
     | true => some (.e (.one (.slc b o' n' sz c' ex)), h, [l' = Int.ofNat l, u' = Int.ofNat u, l ≤ u ∧ u ≤ cap, o' = o + l * sz, n' = u - l, c' = cap - l])
     | false => none
    | _, _, _ => none
   | _, _ => none
  | _ => none
 | .sl3 l u mm o' n' c' => match o.op with
  | .slice t x lo (some hi) (some mx) => match E.P.underlying t, evA tm x with
   | some (.slice el), .e (.one (.slc b o _ sz cap _)) => match E.P.info? el, boundA tm lo 0, intN? (evA tm hi), intN? (evA tm mx) with
    | some e, some l', some u', some m' => match Nat.beq e.size sz with
     | true => some (.e (.one (.slc b o' n' sz c' true)), h, [l' = Int.ofNat l, u' = Int.ofNat u, m' = Int.ofNat mm, l ≤ u ∧ u ≤ mm ∧ mm ≤ cap, o' = o + l * sz, n' = u - l, c' = mm - l])
     | false => none
    | _, _, _, _ => none
   | _, _ => none
  | _ => none
 | .sap => match o.op with
  | .slice t x none none none => match E.P.underlying t, evA tm x with
   | some (.array n el), .e (.one (.ptr b off)) => match E.P.info? el, blk h b with
    | some e, some ab => match Nat.ble n 2000000 with
     | true => some (.e (.one (.slc b off n e.size n true)), h, [off + n * e.size ≤ ab.n])
     | false => none
    | _, _ => none
   | _, _ => none
  | _ => none
 | .d a => dV E lvl h tm o a
 | .fb c => match o.op with
  | .binOp op t x z _ => match evA tm x, evA tm z with
   | .e (.one cx), .e (.one cz) => some (.e (.one c), h, [BinOk E.P op t x z cx cz c])
   | _, _ => none
  | _ => none
 | .fc c => match o.op with
  | .convert s d x => match evA tm x with
   | .e (.one cx) => some (.e (.one c), h, [ConvOk E.P s d cx c])
   | _ => none
  | _ => none
 | .nx r => match o.op with
  | .next x true => match evA tm x with
   | .e (.one (.ptr b 0)) => match iterOf h b with
    | some (a, s, pos) => match Nat.ble lvl b, r with
     | true, some (rr, q) => some (.tup [.one (.v (.bool true)), .one (.v (.int .i64 pos)), .one (.v (.int .i32 rr))], setL h b (some { a with ext := .iter s q }), [pos < s.size, (Utf8.decode s pos).1 = rr, pos + (Utf8.decode s pos).2 = q])
     | true, none => some (.tup [.one (.v (.bool false))], h, [¬ pos < s.size])
     | false, _ => none
    | none => none
   | _ => none
  | _ => none
 | .si b => match o.op with
  | .index t x y => match evA tm x, intOf? (evA tm y), E.P.underlying t with
   | .e (.one (.v (.string s))), some (_, n), some .string => some (.e (.one (.v (.int .u8 (Int.ofNat b)))), h, [0 ≤ n, (s[n.toNat]?).map UInt8.toNat = some b])
   | _, _, _ => none
  | _ => none
 | .apo L xs l => match o.op with
  | .call c => match c.callee, c.args.toList.map (evA tm), c.argTypes.toList with
   | .builtin .append, [.e (.one (.slc b s len sz cap ex)), .e (.one (.slc b2 s2 m sz2 _cap2 _ex2))], [t, xt] => match E.P.underlying t with
    | some (.slice el) => match E.P.info? el, zeroA E el, blk h b, blk h b2 with
     | some e, some z, some ab, some a2 => match Nat.beq t xt && Nat.blt 0 e.size && Nat.beq (lenL z) e.size && Nat.beq sz e.size && Nat.beq sz2 e.size && Nat.ble lvl b with
      | true => some (.e (.one (.slc b s L sz cap ex)), setL h b (some { ab with cells := l }), [0 < m, len + m = L, len + m ≤ cap, small (len + m) e.size e.bytes = true, takeL (dropL a2.cells s2) (m * sz) = some xs, xs.all AC.isOne = true, s + (len + m) * sz ≤ ab.n, overL xs ab.cells (s + len * sz) = l])
      | false => none
     | _, _, _, _ => none
    | _ => none
   | _, _, _ => none
  | _ => none
 | .clr l => match o.op with
  | .call c => match c.callee, c.args.toList.map (evA tm), c.argTypes.toList with
   | .builtin .clear, [.e (.one (.slc b s len sz cap _))], [t] => match E.P.underlying t with
    | some (.slice el) => match E.P.info? el, zeroA E el, blk h b with
     | some e, some z, some ab => match Nat.ble lvl b && Nat.beq e.size sz && Nat.beq (lenL z) sz with
      | true => some (.tup [], setL h b (some { ab with cells := l }), [0 < len, len ≤ cap, s + len * sz ≤ ab.n, (repeatC z len).all AC.isOne = true, overL (repeatC z len) ab.cells s = l])
      | false => none
     | _, _, _ => none
    | _ => none
   | _, _, _ => none
  | _ => none
 | .apx L N l => match o.op with
  | .call c => match c.callee, c.args.toList.map (evA tm), c.argTypes.toList with
   | .builtin .append, [.e (.one (.slc b s len sz cap true)), .e (.one (.slc b2 s2 m sz2 cap2 ex2))], [t, xt] => match E.P.underlying t with
    | some (.slice el) => match E.P.info? el, zeroA E el, blk h b with
     | some e, some z, some ab => match srcCells h e.size m (.e (.one (.slc b2 s2 m sz2 cap2 ex2))) with
      | some xs => match Nat.beq t xt && Nat.blt 0 e.size && Nat.beq (lenL z) e.size && xs.all AC.isOne && Nat.beq sz e.size with
       | true => some (.e (.one (.slc (lenL h) 0 L sz L false)), appL h [some ⟨l, N, el, false, .cells⟩], [¬ len + m ≤ cap, small (len + m) e.size e.bytes = true, ∃ olds, takeL (dropL ab.cells s) (len * sz) = some olds ∧ appL olds xs = l, len + m = L, L * sz = N])
       | false => none
      | none => none
     | _, _, _ => none
    | _ => none
   | _, _, _ => none
  | _ => none
 | .apq L N l => match o.op with
  | .call c => match c.callee, c.args.toList.map (evA tm), c.argTypes.toList with
   | .builtin .append, [.e (.one (.slc b s len sz cap false)), .e (.one (.slc b2 s2 m sz2 cap2 ex2))], [t, xt] => match E.P.underlying t with
    | some (.slice el) => match E.P.info? el, zeroA E el, blk h b with
     | some e, some z, some ab => match srcCells h e.size m (.e (.one (.slc b2 s2 m sz2 cap2 ex2))) with
      | some xs => match Nat.beq t xt && Nat.blt 0 e.size && Nat.beq (lenL z) e.size && xs.all AC.isOne && Nat.beq sz e.size && Nat.ble lvl b && Nat.blt 0 m && Nat.beq ab.elem el && !ab.full with
       | true => some (.e (.one (.slc (lenL h) s L sz cap false)), appL (setL h b none) [some ⟨l, N, el, false, .cells⟩], [len + m ≤ cap, small (len + m) e.size e.bytes = true, ¬ s + (len + m) * sz ≤ ab.n, ab.n = s + len * sz, appL ab.cells xs = l, len + m = L, s + L * sz = N])
       | false => none
      | none => none
     | _, _, _ => none
    | _ => none
   | _, _, _ => none
  | _ => none
 | .yd v h' => match o.op with
  | .call c => match calleeOf tm c, yieldOf tm c with
   | none, some (b, args) => some (v, h', [RoundK E lvl h b args v h'])
   | _, _ => none
  | _ => none
 | .fx c => match o.op with
  | .call c' => match calleeOf tm c' with
   | some (f, args) => match E.P.funcs[f]? with
    | some fn => match fn.body.isSome with
     | false => some (.e (.one c), h, [ExtOk E.P f args c])
     | true => none
    | none => none
   | none => none
  | _ => none
 | .s2a => match o.op with
  | .sliceToArrayPointer t x => match E.P.underlying t, evA tm x with
   | some (.array n _), .e (.one (.slc b o len _ _ _)) => match Nat.blt 0 n with
    | true => some (.e (.one (.ptr b o)), h, [n ≤ len])
    | false => none
   | _, _ => none
  | _ => none
 | .mu kv' => match o.op with
  | .mapUpdate t x i y => match E.P.underlying t, evA tm x, evA tm i, evA tm y with
   | some (.map key _), .e (.one (.mp b)), .e (.one (.v k)), .e a => match mapOf h b, E.P.underlying key, a.val? with
    | some (ab, kv), some d, some v => match Nat.ble lvl b with
     | true => some (.tup [], setL h b (some { ab with ext := .map kv' }), [(findKV d k kv 0).map (putKV k v kv) = some kv', keyB d k = true])
     | false => none
    | _, _, _ => none
   | _, _, _, _ => none
  | _ => none
 | .lk v bb => match o.op with
  | .lookup t x i ok => match E.P.underlying t, evA tm x, evA tm i with
   | some (.map key elem), .e (.one (.mp b)), .e (.one (.v k)) => match mapOf h b, E.P.underlying key, (E.P.info? elem).bind (·.zero) with
    | some (_, kv), some d, some z => some (match ok with | true => .tup [AE.of v, .one (.v (.bool bb))] | false => .e (AE.of v), h, [seeKV d k kv z = some (v, bb), keyB d k = true])
    | _, _, _ => none
   | _, _, _ => none
  | _ => none
def ansOf (l : List (Nat × Ans)) (i : Nat) : Ans := List.rec (motive := fun _ => Ans) .go (fun p _ ih => if Nat.beq p.1 i then p.2 else ih) l
def boolAt (l : List (Nat × Bool)) (i : Nat) : Option Bool := List.rec (motive := fun _ => Option Bool) none (fun p _ ih => if Nat.beq p.1 i then some p.2 else ih) l
def wantV (ops : Array Oper) (tm : Tm) (o : Oper) (g : Option Bool) : Bool × List Prop :=
 match g with
 | none => (wantedA ops tm o, [])
 | some b => match o.guard with
  | none => (true, [])
  | some (j, want) => match (ops[j]?).bind (·.dst) with
   | some d => match getL tm d with
    | some (.e (.one (.v (.bool c)))) => (b, [(c == want) = b])
    | _ => (false, [])
   | none => (false, [])
def opsV (E : Env) (rec : RunT) (a : List (Nat × Ans)) (g : List (Nat × Bool)) (lvl : Nat) (ops : Array Oper) (l : List Oper) : Nat → Heap → Tm → Option (Heap × Tm × List Prop) :=
 List.rec (motive := fun _ => Nat → Heap → Tm → Option (Heap × Tm × List Prop)) (fun _ h tm => some (h, tm, []))
  (fun o _ ih i h tm => match wantV ops tm o (boolAt g i) with
   | (true, q) => (match valV E rec lvl h tm o (ansOf a i) with
    | some (x, h', ps) => (match ih (Nat.succ i) h' (putT tm o.dst x) with
     | some (h2, tm2, qs) => some (h2, tm2, q ++ (ps ++ qs))
     | none => none)
    | none => none)
   | (false, q) => (match ih (Nat.succ i) h (putT tm o.dst (.tup [])) with
     | some (h2, tm2, qs) => some (h2, tm2, q ++ qs)
     | none => none)) l
def passAV (E : Env) (rec : RunT) (a : List (Nat × Ans)) (g : List (Nat × Bool)) (ops : Array Oper) (h : Heap) (l : List Nat) : Tm → Option (Tm × List Prop) :=
 List.rec (motive := fun _ => Tm → Option (Tm × List Prop)) (fun tm => some (tm, [])) (fun i _ ih tm => match ops[i]? with
  | some o => (match wantV ops tm o (boolAt g i) with
   | (true, q) => (match valV E rec (lenL h) h tm o (ansOf a i) with
    | some (x, _, ps) => (match isOq (ansOf a i) with
     | true => (match ih (putT tm o.dst x) with
      | some (tm2, qs) => some (tm2, q ++ (ps ++ (((refsBelow (lenL h) x.refs && (!callV o || x.flat)) = true) :: qs)))
      | none => none)
     | false => if refsBelow (lenL h) x.refs && (!callV o || x.flat) then (match ih (putT tm o.dst x) with
      | some (tm2, qs) => some (tm2, q ++ (ps ++ qs))
      | none => none) else none)
    | none => none)
   | (false, q) => (match ih (putT tm o.dst (.tup [])) with
     | some (tm2, qs) => some (tm2, q ++ qs)
     | none => none))
  | none => none) l
def passBV (E : Env) (rec : RunT) (a : List (Nat × Ans)) (g : List (Nat × Bool)) (lvl : Nat) (ops : Array Oper) (l : List Nat) : Heap → Tm → Option (Heap × Tm × List Prop) :=
 List.rec (motive := fun _ => Heap → Tm → Option (Heap × Tm × List Prop)) (fun h tm => some (h, tm, [])) (fun i _ ih h tm => match ops[i]? with
  | some o => (match wantV ops tm o (boolAt g i) with
   | (true, q) => (match valV E rec lvl h tm o (ansOf a i) with
    | some (x, h', ps) => (match ih h' (putT tm o.dst x) with
     | some (h2, tm2, qs) => some (h2, tm2, q ++ (ps ++ qs))
     | none => none)
    | none => none)
   | (false, q) => (match ih h (putT tm o.dst (.tup [])) with
     | some (h2, tm2, qs) => some (h2, tm2, q ++ qs)
     | none => none))
  | none => none) l
def segsV (E : Env) (rec : RunT) (a : List (Nat × Ans)) (g : List (Nat × Bool)) (lvl : Nat) (ops : Array Oper) (l : List Seg) : Heap → Tm → Option (Heap × Tm × List Prop) :=
 List.rec (motive := fun _ => Heap → Tm → Option (Heap × Tm × List Prop)) (fun h tm => some (h, tm, [])) (fun p _ ih h tm => match passAV E rec a g ops h p.a tm with
  | some (tm1, q1) => match passBV E rec a g (lenL h) ops p.b1 h tm1 with
   | some (h2, tm2, q2) => match passBV E rec a g lvl ops p.b2 h2 tm2 with
    | some (h3, tm3, q3) => (match ih h3 tm3 with
     | some (h4, tm4, q4) => some (h4, tm4, q1 ++ (q2 ++ ((aliveLe h h2 = true) :: (q3 ++ q4))))
     | none => none)
    | none => none
   | none => none
  | none => none) l
def drawV (E : Env) (rec : RunT) (a : List (Nat × Ans)) (g : List (Nat × Bool)) (lvl : Nat) (ops : Array Oper) (h : Heap) (tm : Tm) : Option (Heap × Tm × List Prop) :=
 match planOf E.P ops with
 | some l => segsV E rec a g lvl ops l h tm
 | none => none
inductive SAns where
 | run (n : Nat)
 | cond (b : Bool)
 | ops (a : List (Nat × Ans)) (g : List (Nat × Bool))
def stepV (E : Env) (rec : RunT) (lvl : Nat) (a : SAns) (s : St) : Option (St × List Prop) :=
 match a with
 | .run n => match stepsS E rec lvl n s with
  | some s' => some (s', [])
  | none => none
 | .cond b => match s.todo with
  | .code (.cond c x y) :: k => match evA s.tm c with
   | .e (.one (.v (.bool t))) => some (⟨s.heap, .code (match b with | true => x | false => y) :: k, s.tm⟩, [t = b])
   | _ => none
  | _ => none
 | .ops l g => match s.todo with
  | .code (.region _ ops draw) :: k => match (match draw with | true => drawV E rec l g lvl ops s.heap s.tm | false => opsV E rec l g lvl ops ops.toList 0 s.heap s.tm) with
   | some (h', tm', ps) => some (⟨h', k, tm'⟩, ps)
   | none => none
  | _ => none
def chainV (E : Env) (rec : RunT) (lvl : Nat) (l : List SAns) : St → Option (St × List Prop) :=
 List.rec (motive := fun _ => St → Option (St × List Prop)) (fun s => some (s, [])) (fun a _ ih s => match stepV E rec lvl a s with
  | some (s1, ps) => (match ih s1 with
   | some (s2, qs) => some (s2, ps ++ qs)
   | none => none)
  | none => none) l
structure M.leK (base K : Nat) (m m' : M) : Prop where
 n : K ≤ m'.n
 ρ : ∀ b, b < K → m'.ρ b = m.ρ b
 κ : ∀ b, b < K → m'.κ b = m.κ b
 lo : m'.lo = m.lo
 F : ∀ p ∈ m.F, p ∈ m'.F
 fresh : ∀ p ∈ m'.F, p ∈ m.F ∨ base ≤ p.1
def RdOk (m : M) (K : Nat) (rd : Option Nat) (fr : Frame) : Prop := match rd with
 | none => fr.roundOf = none
 | some b => b < K ∧ fr.roundOf = some (m.ρ b) ∧ fr.kind = .normal
def OutK (E : Env) (lvl K : Nat) (s : St) (Φ : Res → Prop) (rd : Option Nat := none) : Prop :=
 ∀ (fr : Frame) (t : Array Value) (cs : List Frame) (w : World) (m : M) (base : Nat), RdOk m K rd fr → TR m s.tm t → HR m base lvl s.heap w → GR E.gl base w → K ≤ m.n →
  ∃ r, Φ r ∧ ∃ t' todo' w' m', Steps E.P (lone (FR fr t s.todo) cs w) (lone (FR { fr with defers := marksC m' r.marks ++ fr.defers } t' todo') cs w') ∧ TR m' r.tm t' ∧ HR m' base lvl r.heap w' ∧ M.leK base K m m' ∧ Below base w w' ∧ EndOk r.jump todo' ∧ ∀ b ∈ r.marks, b < m'.n
end
end Go.Ev
end

/-! SyB -/
section
namespace Go.Ev
open Go.RowKit
theorem allP_append : ∀ {l m : List Prop}, AllP (l ++ m) ↔ AllP l ∧ AllP m
 | [], m => by simp [AllP]
 | p :: l, m => by
  show p ∧ AllP (l ++ m) ↔ (p ∧ AllP l) ∧ AllP m
  rw [allP_append, and_assoc]
theorem flat_ren {l : List AC} (h : FlatC l) (f : Nat → Nat) : l.map (AC.ren f) = l := map_ren_id fun a ha => by
 obtain ⟨x, rfl⟩ := h a ha
 rfl
theorem flat_ab {a : AB} (h : FlatC a.cells) (f : Nat → Nat) : a.ren f = a := by
 cases a
 simp only [AB.ren]
 rw [flat_ren h]
theorem renFl_eq (f : Nat → Nat) : ∀ {fl : List Bool} {h : Heap}, fl.length = h.length → flatP fl h → renFl f fl h = h.map (fun b => some (b.map (AB.ren f)))
 | [], [], _, _ => rfl
 | true :: fs, b :: r, hl, hf => by
  simp only [renFl, List.map_cons]
  rw [renFl_eq f (by simpa using hl) hf.2]
  have h1 := hf.1
  cases b with
  | none => rfl
  | some a => simp only [Option.map_some]; rw [flat_ab h1]
 | false :: fs, b :: r, hl, hf => by
  simp only [renFl, List.map_cons]
  rw [renFl_eq f (fl := fs) (h := r) (by simpa using hl) hf]
 | [], _ :: _, hl, _ => by simp at hl
 | _ :: _, [], hl, _ => by simp at hl
section
variable {E : Env} {rec : RunT} {m : M} {base lvl : Nat} {h h' : Heap} {w : World} {tm : Tm} {t : Array Value} {x : AV}
theorem call_enter (hE : EnvOk E) (hT : TR m tm t) {o : Oper} {c : Call} (hop : o.op = .call c) {f : FuncId} {args : List AV} (hcal : calleeOf tm c = some (f, args)) {fn : Func} (hfn : E.P.funcs[f]? = some fn) (hbody : fn.body.isSome = true) (w : World) :
  ∃ argsC : Array Value, (execOp (evC t) o).run E.P w = .ok (.enter f argsC) w ∧ All2 (VR m) args argsC.toList := by
 have hargs := args_sound hT c.args
 have hnb : ¬ fn.body = none := fun e => by simp [e] at hbody
 have hnum : ¬ fn.name = "runtime.NumGoroutine" := by simpa using hE.num f fn hfn
 unfold calleeOf at hcal
 split at hcal
 ·rename_i fo hfo
  have hfv := evA_sound hT fo
  split at hcal
  ·rename_i g first cs' hev
   rw [hev] at hfv
   have hfv' : evC t fo = .func (.func g) first cs' := hfv
   split at hcal
   ·rename_i hfirst
    have : first = #[] := by simpa using hfirst
    subst this
    simp only [Option.some.injEq, Prod.mk.injEq] at hcal
    obtain ⟨rfl, rfl⟩ := hcal
    refine ⟨c.args.map (evC t) ++ cs', ?_, ?_⟩
    ·simp [execOp, hop, resolve, hfo, hfv', Deferred.ofValue, invoke, callFunc, hfn, hnb, hnum]
    ·rw [Array.toList_append]
     refine hargs.append ?_
     generalize cs'.toList = l
     induction l with
     | nil => trivial
     | cons a l ih => exact ⟨AV.of_sound m a, ih⟩
   ·simp at hcal
  ·rename_i g fs' cs' hev
   rw [hev] at hfv
   obtain ⟨vf, vc, hfv', h1, h2⟩ : ∃ vf vc : Array Value, evC t fo = .func (.func g) vf vc ∧ All2 (CE.R m) fs' vf.toList ∧ All2 (CE.R m) cs' vc.toList := hfv
   simp only [Option.some.injEq, Prod.mk.injEq] at hcal
   obtain ⟨rfl, rfl⟩ := hcal
   refine ⟨vf ++ (c.args.map (evC t) ++ vc), ?_, ?_⟩
   ·simp [execOp, hop, resolve, hfo, hfv', Deferred.ofValue, invoke, callFunc, hfn, hnb, hnum]
   ·rw [Array.toList_append, Array.toList_append]
    exact (CEs.av h1).append (hargs.append (CEs.av h2))
  ·simp at hcal
 ·simp at hcal
def rec0 : RunT := fun _ _ _ _ _ => none
theorem rec0_ok (E : Env) : RecOk E rec0 := fun _ _ _ _ _ _ h => by simp [rec0] at h
theorem CR.unren {m1 m2 : M} {f : Nat → Nat} {n : Nat} (hF : ∀ p ∈ m2.F, p ∈ m1.F) (hn : m1.n = n) (hρ : ∀ b, b < n → m2.ρ (f b) = m1.ρ b) (hκ : ∀ b, b < n → m2.κ (f b) = m1.κ b) : ∀ {x : AC} {y : Value}, (∀ b ∈ x.refs, b < n) → CR m2 (x.ren f) y → CR m1 x y
 | .v _, _, _, r => r
 | .any _, _, _, r => r
 | .dp _, _, _, r => DV.R.mono hF r
 | .mp b, _, hb, r => by
  have hb := hb b (by simp [AC.refs])
  exact ⟨by omega, by rw [← hρ b hb]; exact r.2⟩
 | .ptr b o, _, hb, r => by
  have hb := hb b (by simp [AC.refs])
  exact ⟨by omega, by rw [← hρ b hb]; exact r.2⟩
 | .yld b, _, hb, r => by
  have hb := hb b (by simp [AC.refs])
  exact ⟨by omega, by rw [← hρ b hb]; exact r.2⟩
 | .slc b o len sz cap ex, _, hb, r => by
  have hb := hb b (by simp [AC.refs])
  obtain ⟨_, c, o', hy, h0, h1, h1', h2, h3, h4⟩ := r
  exact ⟨by omega, c, o', by rw [← hρ b hb]; exact hy, h0, h1, h1', h2, by rw [← hκ b hb]; exact h3, h4⟩
 | .clo g fs cs, _, hb, r => by
  obtain ⟨vf, vc, hy, h1, h2⟩ := r
  exact ⟨vf, vc, hy, CEs.un (fun e he c hc y hr => CR.unren hF hn hρ hκ (fun b hb' => hb b (List.mem_append_left _ (CE.mem_refs he hc hb'))) (by rw [← CA.ren_ac]; exact hr)) h1,
   CEs.un (fun e he c hc y hr => CR.unren hF hn hρ hκ (fun b hb' => hb b (List.mem_append_right _ (CE.mem_refs he hc hb'))) (by rw [← CA.ren_ac]; exact hr)) h2⟩
termination_by x => x.rank
decreasing_by all_goals (rw [CA.rank_ac]; exact Nat.one_pos)
theorem all2_unren {α β : Type} {R S : α → β → Prop} {g : α → α} : ∀ {l : List α} {ys : List β}, (∀ a ∈ l, ∀ b, S (g a) b → R a b) → All2 S (l.map g) ys → All2 R l ys
 | [], [], _, _ => trivial
 | _ :: _, _ :: _, hg, h => ⟨hg _ (by simp) _ h.1, all2_unren (fun a ha => hg a (by simp [ha])) h.2⟩
theorem ER.unren {m1 m2 : M} {f : Nat → Nat} {n : Nat} (hF : ∀ p ∈ m2.F, p ∈ m1.F) (hn : m1.n = n) (hρ : ∀ b, b < n → m2.ρ (f b) = m1.ρ b) (hκ : ∀ b, b < n → m2.κ (f b) = m1.κ b) : ∀ {x : AE} {y : Value}, (∀ b ∈ x.refs, b < n) → ER m2 (x.ren f) y → ER m1 x y
 | .one _, _, hb, r => CR.unren hF hn hρ hκ hb r
 | .agg l, _, hb, r => by
  obtain ⟨cs, hy, ha⟩ := r
  exact ⟨cs, hy, all2_unren (fun a ha' b h => CR.unren hF hn hρ hκ (fun k hk => hb k (List.mem_flatMap.2 ⟨a, ha', hk⟩)) h) ha⟩
theorem VR.unren {m1 m2 : M} {f : Nat → Nat} {n : Nat} (hF : ∀ p ∈ m2.F, p ∈ m1.F) (hn : m1.n = n) (hρ : ∀ b, b < n → m2.ρ (f b) = m1.ρ b) (hκ : ∀ b, b < n → m2.κ (f b) = m1.κ b) : ∀ {x : AV} {y : Value}, (∀ b ∈ x.refs, b < n) → VR m2 (x.ren f) y → VR m1 x y
 | .e _, _, hb, r => ER.unren hF hn hρ hκ hb r
 | .tup l, _, hb, r => by
  obtain ⟨cs, hy, ha⟩ := r
  exact ⟨cs, hy, all2_unren (fun a ha' b h => ER.unren hF hn hρ hκ (fun k hk => hb k (List.mem_flatMap.2 ⟨a, ha', hk⟩)) h) ha⟩
theorem CE.refs_map (f : Nat → Nat) : ∀ l : List CE, (l.map (CE.map (CA.ren f))).flatMap CE.refs = (l.flatMap CE.refs).map f
 | [] => rfl
 | e :: l => by
  have hc : ∀ c : CA, (c.ren f).refs = c.refs.map f := fun c => by cases c <;> rfl
  rw [List.map_cons, List.flatMap_cons, List.flatMap_cons, List.map_append, CE.refs_map f l]
  congr 1
  cases e with
  | one x => simp [CE.map, CE.refs, CE.atoms, hc]
  | agg cs => simp [CE.map, CE.refs, CE.atoms, List.flatMap_map, List.map_flatMap, hc]
theorem AC.refs_ren (f : Nat → Nat) : ∀ x : AC, (x.ren f).refs = x.refs.map f
 | .v _ => rfl
 | .ptr _ _ => rfl
 | .slc _ _ _ _ _ _ => rfl
 | .yld _ => rfl
 | .mp _ => rfl
 | .dp _ => rfl
 | .any _ => rfl
 | .clo g fs cs => by simp only [AC.ren, AC.refs, List.map_append, CE.refs_map]
theorem AE.refs_ren (f : Nat → Nat) : ∀ x : AE, (x.ren f).refs = x.refs.map f
 | .one x => AC.refs_ren f x
 | .agg l => by simp [AE.ren, AE.refs, List.flatMap_map, List.map_flatMap, AC.refs_ren]
theorem AV.refs_ren (f : Nat → Nat) : ∀ x : AV, (x.ren f).refs = x.refs.map f
 | .e x => AE.refs_ren f x
 | .tup l => by simp [AV.ren, AV.refs, List.flatMap_map, List.map_flatMap, AE.refs_ren]
theorem callOther (_hE : EnvOk E) (H : HR m base lvl h w) (G : GR E.gl base w) {f : FuncId} {e : List Nat} {args' args : List AV} {hin hout nb : Heap} {v v' : AV} {argsC : Array Value} (ha : All2 (VR m) args argsC.toList)
  (hl : e.length = hin.length) (he : ∀ b ∈ e, b < h.length) (hp : ∀ b ∈ hout.drop hin.length, plainB b = true) (hpi : ∀ b ∈ hin, plainB b = true) (_hpn : ∀ b ∈ nb, plainB b = true) (hc : COut E hin.length hin f args' v hout)
  (h1 : args'.map (AV.ren (nthE e h.length hin.length)) = args) (h2 : e.map (fun b => h[b]?) = hin.map (fun b => some (b.map (AB.ren (nthE e h.length hin.length)))))
  (h3 : (hout.drop hin.length).map (fun b => b.map (AB.ren (nthE e h.length hin.length))) = nb) (h4 : v.ren (nthE e h.length hin.length) = v') :
  Calls E.P f argsC w fun e w' => ∃ y, e = .returned y ∧ ∃ m', PostG m base lvl w v' (h ++ nb) y w' m' := by
 have hmn := H.n
 let mc : M := { n := hin.length, ρ := fun i => m.ρ (getD0 e i), κ := fun i => m.κ (getD0 e i), lo := hin.length, F := m.F }
 have hg : ∀ i, i < hin.length → ∃ b, e[i]? = some b ∧ getD0 e i = b ∧ b < h.length := fun i hi => by
  have hi' : i < e.length := by omega
  refine ⟨e[i], List.getElem?_eq_getElem hi', ?_, he _ (List.getElem_mem hi')⟩
  rw [getD0_eq, List.getD_eq_getElem?_getD, List.getElem?_eq_getElem hi']; rfl
 have hnth : ∀ i, i < hin.length → nthE e h.length hin.length i = getD0 e i := fun i hi => by simp [nthE, hi]
 have hnth2 : ∀ i, ¬ i < hin.length → nthE e h.length hin.length i = h.length + (i - hin.length) := fun i hi => by simp [nthE, hi]
 have hback : ∀ i, nthE e h.length hin.length i < m.n → i < hin.length := fun i hi => by
  by_cases hlt : i < hin.length
  ·exact hlt
  ·rw [hnth2 i hlt] at hi; omega
 have hρ : ∀ b, b < hin.length → m.ρ (nthE e h.length hin.length b) = mc.ρ b := fun b hb => by rw [hnth b hb]
 have hκ : ∀ b, b < hin.length → m.κ (nthE e h.length hin.length b) = mc.κ b := fun b hb => by rw [hnth b hb]
 have hargs : All2 (VR mc) args' argsC.toList := by
  rw [← h1] at ha
  refine all2_unren (fun a _ y hy => VR.unren (m1 := mc) (m2 := m) (fun _ hp => hp) rfl hρ hκ (fun b hb => ?_) hy) ha
  refine hback b (VR.refs_lt hy _ ?_)
  rw [AV.refs_ren]
  exact List.mem_map_of_mem hb
 have Hc : HR mc w.heap.size hin.length hin w := by
  refine ⟨rfl, Nat.le_refl _, Nat.le_refl _, fun i a hi => ?_, fun b h1 h2 => by omega, fun b b' h1 h2 _ _ hlo _ => ?_, Nat.le_refl _, fun p hp => ⟨(H.tab p hp).1, fun b a hb ha => by
   have := (List.getElem?_eq_some_iff.1 ha).1
   omega⟩⟩
  ·have hlt : i < hin.length := (List.getElem?_eq_some_iff.1 hi).1
   obtain ⟨b, g1, g2, g3⟩ := hg i hlt
   have hx : h[b]? = some (some (a.ren (nthE e h.length hin.length))) := by
    have e1 : (e.map (fun b => h[b]?))[i]? = some h[b]? := by rw [List.getElem?_map, g1]; rfl
    rw [h2, List.getElem?_map, hi] at e1
    simpa using e1.symm
   have hxt : a.ext = .cells := by
    have := hpi _ (List.mem_of_getElem? hi)
    simp only [plainB] at this
    split at this
    ·assumption
    ·simp at this
   have B := H.blk b _ hx (by simpa [AB.ren] using hxt)
   obtain ⟨b1, b2, c, fz, b3, b4, b5, b6, b7⟩ := B
   refine ⟨fun _ => ⟨by simpa [AB.ren] using b1, fun hf => ?_, c, fz, ?_, ?_, fun hlo => absurd hlo (show ¬ hin.length ≤ i by omega), b6, ?_⟩, by rw [hxt]; trivial⟩
   ·show a.n = m.κ (getD0 e i); rw [g2]; exact b2 hf
   ·show w.heap[m.ρ (getD0 e i)]? = _; rw [g2]; exact b3
   ·show c.size = m.κ (getD0 e i); rw [g2]; exact b4
   ·have b7' : All2 (CR m) (a.cells.map (AC.ren (nthE e h.length hin.length))) (c.toList.take a.n) := b7
    refine all2_unren (fun x _ y hy => CR.unren (m1 := mc) (m2 := m) (fun _ hp => hp) rfl hρ hκ (fun k hk => hback k (CR.refs_lt hy _ ?_)) hy) b7'
    rw [AC.refs_ren]
    exact List.mem_map_of_mem hk
  ·have : hin.length ≤ b ∨ hin.length ≤ b' := hlo
   omega
 refine (hc mc w.heap.size w argsC hargs Hc (G.up H.baseLe)).mono fun en w' ⟨y, hy, m1, hp1⟩ => ⟨y, hy, ?_⟩
 have hle1 := hp1.le
 have H1 := hp1.heap
 have hn1 : hin.length ≤ m1.n := hle1.n
 have hn1' := H1.n
 have hnbl : nb.length = hout.length - hin.length := by rw [← h3]; simp
 let m2 : M := { n := h.length + nb.length, ρ := fun b => if b < h.length then m.ρ b else m1.ρ (b - h.length + hin.length), κ := fun b => if b < h.length then m.κ b else m1.κ (b - h.length + hin.length), lo := m.lo, F := m1.F }
 have hle2 : M.leG base m m2 := ⟨by simp only [m2]; omega, fun b hb => by simp only [m2]; rw [if_pos (by omega)], fun b hb => by simp only [m2]; rw [if_pos (by omega)], rfl, hle1.F, fun p hp => (hle1.fresh p hp).imp_right (Nat.le_trans H.baseLe)⟩
 have Hw : HR m base lvl h w' := H.world hp1.below.size hp1.below.block
 have names : ∀ b, b < m1.n → Names m1 m2 (nthE e h.length hin.length) b := fun b hb => by
  by_cases hlt : b < hin.length
  ·obtain ⟨k, g1, g2, g3⟩ := hg b hlt
   rw [← show nthE e h.length hin.length b = k by rw [hnth b hlt, g2]] at g3
   refine ⟨by simp only [m2]; omega, ?_, ?_⟩
   ·simp only [m2, g3, if_true]; rw [hρ b hlt]; exact (hle1.ρ b hlt).symm
   ·simp only [m2, g3, if_true]; rw [hκ b hlt]; exact (hle1.κ b hlt).symm
  ·have e1 := hnth2 b hlt
   have e2 : h.length + (b - hin.length) - h.length + hin.length = b := by omega
   exact ⟨by rw [e1]; simp only [m2]; omega, by rw [e1]; simp only [m2]; rw [if_neg (by omega), e2], by rw [e1]; simp only [m2]; rw [if_neg (by omega), e2]⟩
 have newAt : ∀ (b : Nat) (a : AB), ¬ b < h.length → (h ++ nb)[b]? = some (some a) → ∃ a0, hout[b - h.length + hin.length]? = some (some a0) ∧ a0.ext = .cells ∧ a = a0.ren (nthE e h.length hin.length) ∧ m2.ρ b = m1.ρ (b - h.length + hin.length) ∧ m2.κ b = m1.κ (b - h.length + hin.length) := by
  intro b a hlt hb
  rw [List.getElem?_append, if_neg hlt, ← h3, List.getElem?_map, List.getElem?_drop] at hb
  have e1 : hin.length + (b - h.length) = b - h.length + hin.length := by omega
  rw [e1] at hb
  cases ho : hout[b - h.length + hin.length]? with
  | none => rw [ho] at hb; simp at hb
  | some o =>
   rw [ho] at hb
   simp only [Option.map_some, Option.some.injEq] at hb
   cases o with
   | none => simp at hb
   | some a0 =>
    simp only [Option.map_some, Option.some.injEq] at hb
    have hpl := hp (some a0) (List.mem_of_getElem? (i := b - h.length) (by rw [List.getElem?_drop, e1]; exact ho))
    refine ⟨a0, rfl, ?_, hb.symm, by simp only [m2]; rw [if_neg hlt], by simp only [m2]; rw [if_neg hlt]⟩
    simp only [plainB] at hpl
    split at hpl
    ·assumption
    ·simp at hpl
 refine ⟨m2, hle2, ?_, ⟨by simp [m2], by have := H.lvlLe; simp; omega, Hw.baseLe, ?_, ?_, ?_, H.lo, ?_⟩, hp1.below.mono H.baseLe⟩
 ·rw [← h4]
  exact VR.ren (m1 := m1) (m2 := m2) (fun _ hp => hp) (fun b hb => names b (VR.refs_lt hp1.val b hb)) hp1.val
 ·intro b a hb
  by_cases hlt : b < h.length
  ·rw [List.getElem?_append, if_pos hlt] at hb
   exact (Hw.ent b a hb).monoG hle2 (by omega)
  ·obtain ⟨a0, g1, g2, rfl, g5, g6⟩ := newAt b a hlt hb
   obtain ⟨b1, b2, c, fz, b3, b4, b5, b6, b7⟩ := H1.blk _ a0 g1 g2
   refine ⟨fun _ => ⟨by simpa [AB.ren] using b1, fun hf => by rw [g6]; exact b2 hf, c, fz, by rw [g5]; exact b3, by rw [g6]; exact b4, fun _ => b5 (by have h0 : m1.lo = hin.length := hle1.lo; omega), b6, ?_⟩, by simp only [AB.ren, g2]; trivial⟩
   exact all2_ren (fun x hx y hy => CR.ren (m1 := m1) (m2 := m2) (fun _ hp => hp) (fun k hk => names k (CR.refs_lt hy k hk)) hy) b7
 ·intro b hl' hb
  simp at hb
  by_cases hlt : b < h.length
  ·rw [hle2.ρ b (by omega)]; exact H.own b hl' hlt
  ·have e1 : m2.ρ b = m1.ρ (b - h.length + hin.length) := by simp only [m2]; rw [if_neg hlt]
   rw [e1]
   have := H1.own (b - h.length + hin.length) (by omega) (by omega)
   have := H.baseLe
   omega
 ·intro b b' hb hb' ⟨a, ha'⟩ ⟨a', ha''⟩ hlo he'
  by_cases hlt : b < h.length <;> by_cases hlt' : b' < h.length
  ·rw [hle2.ρ b (by omega), hle2.ρ b' (by omega)] at he'
   rw [List.getElem?_append, if_pos hlt] at ha'
   rw [List.getElem?_append, if_pos hlt'] at ha''
   exact H.inj b b' hlt hlt' ⟨a, ha'⟩ ⟨a', ha''⟩ hlo he'
  ·rw [List.getElem?_append, if_pos hlt] at ha'
   obtain ⟨a0, g1, _, _, g5, _⟩ := newAt b' a' hlt' ha''
   rw [hle2.ρ b (by omega), g5] at he'
   have k1 := (H.ent b a ha').lt
   have k2 := H1.own _ (by omega) (List.getElem?_eq_some_iff.1 g1).1
   omega
  ·rw [List.getElem?_append, if_pos hlt'] at ha''
   obtain ⟨a0, g1, _, _, g5, _⟩ := newAt b a hlt ha'
   rw [hle2.ρ b' (by omega), g5] at he'
   have k1 := (H.ent b' a' ha'').lt
   have k2 := H1.own _ (by omega) (List.getElem?_eq_some_iff.1 g1).1
   omega
  ·obtain ⟨a0, g1, _, _, g5, _⟩ := newAt b a hlt ha'
   obtain ⟨a0', g1', _, _, g5', _⟩ := newAt b' a' hlt' ha''
   rw [g5, g5'] at he'
   have hlo1 : m1.lo = hin.length := hle1.lo
   have := H1.inj _ _ (List.getElem?_eq_some_iff.1 g1).1 (List.getElem?_eq_some_iff.1 g1').1 ⟨a0, g1⟩ ⟨a0', g1'⟩ (.inl (by omega)) he'
   omega
 ·intro p hp
  refine ⟨(H1.tab p hp).1, fun b a hb ha => ?_⟩
  by_cases hlt : b < h.length
  ·rw [List.getElem?_append, if_pos hlt] at ha
   rw [hle2.ρ b (by omega)]
   rcases hle1.fresh p hp with h0 | h0
   ·exact (H.tab p h0).2 b a hb ha
   ·have := (H.ent b a ha).lt; omega
  ·obtain ⟨a0, g1, _, _, g5, _⟩ := newAt b a hlt ha
   rw [g5]
   exact (H1.tab p hp).2 _ a0 (by omega) g1
end
end Go.Ev
end

/-! SyDp -/
section
namespace Go.Ev
open Go.RowKit
section
variable {E : Env} {m : M} {base lvl : Nat} {h h' : Heap} {w : World} {tm : Tm} {t : Array Value} {x : AV}
theorem DT.Rl.put {F : List (Nat × List Value)} : ∀ {l : List DT} {ys zs : List Value}, DT.Rl F l ys → DT.Rl F l (ys.take l.length ++ zs)
 | [], _, _, _ => by simp [DT.Rl]
 | d :: l, ys, zs, r => by
  simp only [DT.Rl] at r ⊢
  obtain ⟨y, r', rfl, h1, h2⟩ := r
  exact ⟨y, r'.take l.length ++ zs, by simp, h1, DT.Rl.put h2⟩
theorem deep_load (H : HR m base lvl h w) {cells : List DT} {k : Nat} {y : Value} (hy : DV.R m.F (.p cells k) y) {u : TypeId} {e : AE} (he : take? E.P u (cells.map DT.ac) k = some e) :
  ∃ v, (Instr.loadAt u y).run E.P w = .ok v w ∧ VR m (.e e) v := by
 obtain ⟨b, o', cs, rfl, hF, hle, hR⟩ := hy
 obtain ⟨⟨c, t', fz, h1, h2⟩, _⟩ := H.tab _ hF
 have h2 : c.toList = cs := h2
 have hl : ((cs.take o').map AC.v ++ cells.map DT.ac).length = min o' cs.length + cells.length := by simp
 have hall : All2 (CR m) ((cs.take o').map AC.v ++ cells.map DT.ac) (c.toList.take (o' + cells.length)) := by
  have e1 : c.toList.take (o' + cells.length) = cs.take o' ++ (cs.drop o').take cells.length := by
   rw [h2, List.take_add]
  rw [e1]
  exact (all2_v m _).append hR.ac
 have e2 : take? E.P u ((cs.take o').map AC.v ++ cells.map DT.ac) (o' + k) = take? E.P u (cells.map DT.ac) k := by
  have hl0 : ((cs.take o').map AC.v).length = o' := by simp; omega
  unfold take?
  have g1 : getL ((cs.take o').map AC.v ++ cells.map DT.ac) (o' + k) = getL (cells.map DT.ac) k := by
   rw [getL_eq, getL_eq, List.getElem?_append_right (by omega), hl0, Nat.add_sub_cancel_left]
  have g2 : dropL ((cs.take o').map AC.v ++ cells.map DT.ac) (o' + k) = dropL (cells.map DT.ac) k := by
   rw [dropL_eq, dropL_eq, List.drop_append, hl0, Nat.add_sub_cancel_left, List.drop_of_length_le (by omega)]; rfl
  rw [g1, g2]
 obtain ⟨v, hv, hr⟩ := take_sound (P := E.P) h1 (l := (cs.take o').map AC.v ++ cells.map DT.ac) (n := o' + cells.length) (by rw [hl]; omega) hall (t := u) (o := o' + k) (by rw [e2]; exact he)
 exact ⟨v, by simpa [Instr.loadAt, Instr.sureAddr] using hv, hr⟩
theorem HR.rest (H : HR m base lvl h w) {w' : World} {cs : List Value} {el : TypeId} {fz : Nat × Nat} (hw : w'.heap = w.heap.push (.cells cs.toArray el fz)) :
  HR { m with F := (w.heap.size, cs) :: m.F } base lvl h w' ∧ M.leG base m { m with F := (w.heap.size, cs) :: m.F } := by
 have old : ∀ b, b < w.heap.size → w'.heap[b]? = w.heap[b]? := fun b hb => by rw [hw, Array.getElem?_push, if_neg (by omega)]
 have hle : M.leG base m { m with F := (w.heap.size, cs) :: m.F } := ⟨Nat.le_refl _, fun _ _ => rfl, fun _ _ => rfl, rfl, fun p hp => List.mem_cons_of_mem _ hp, fun p hp => by
  rcases List.mem_cons.1 hp with rfl | hp
  ·exact .inr H.baseLe
  ·exact .inl hp⟩
 have Hw := H.world (w' := w') (by rw [hw]; simp) old
 refine ⟨⟨Hw.n, Hw.lvlLe, Hw.baseLe, fun b a hb => (Hw.ent b a hb).monoG hle (by rw [Hw.n]; exact (List.getElem?_eq_some_iff.1 hb).1), Hw.own, Hw.inj, Hw.lo, fun p hp => ?_⟩, hle⟩
 rcases List.mem_cons.1 hp with rfl | hp
 ·refine ⟨⟨cs.toArray, el, fz, by rw [hw]; simp, rfl⟩, fun b a hb ha => ?_⟩
  have := (H.ent b a ha).lt
  show m.ρ b ≠ w.heap.size
  omega
 ·exact Hw.tab p hp
theorem takeL_len {α : Type} {l r : List α} {n : Nat} (h : takeL l n = some r) : r.length = n := by
 obtain ⟨h1, rfl⟩ := takeL_some h
 simp; omega
theorem all2_free {α β : Type} {R S : α → β → Prop} : ∀ {l : List α} {ys : List β}, (∀ a ∈ l, ∀ b, R a b → S a b) → All2 R l ys → All2 S l ys
 | [], [], _, _ => trivial
 | _ :: _, _ :: _, hg, h => ⟨hg _ (by simp) _ h.1, all2_free (fun a ha => hg a (by simp [ha])) h.2⟩
theorem CR.free {m1 m2 : M} (hF : ∀ p ∈ m1.F, p ∈ m2.F) : ∀ {x : AC} {y : Value}, x.refs = [] → CR m1 x y → CR m2 x y
 | .v _, _, _, r => r
 | .any _, _, _, r => r
 | .dp _, _, _, r => DV.R.mono hF r
 | .ptr _ _, _, h, _ => by simp [AC.refs] at h
 | .slc _ _ _ _ _ _, _, h, _ => by simp [AC.refs] at h
 | .yld _, _, h, _ => by simp [AC.refs] at h
 | .mp _, _, h, _ => by simp [AC.refs] at h
 | .clo g fs cs, _, h, r => by
  simp only [AC.refs, List.append_eq_nil_iff] at h
  obtain ⟨vf, vc, hy, h1, h2⟩ := r
  have key : ∀ {l : List CE}, l.flatMap CE.refs = [] → ∀ e ∈ l, ∀ c ∈ e.atoms, c.ac.refs = [] := fun {l} hl e he c hc => by
   rw [CA.refs_ac]
   exact List.flatMap_eq_nil_iff.1 (List.flatMap_eq_nil_iff.1 hl e he) c hc
  exact ⟨vf, vc, hy, CEs.to (fun e he c hc y hr => CR.free hF (key h.1 e he c hc) hr) h1, CEs.to (fun e he c hc y hr => CR.free hF (key h.2 e he c hc) hr) h2⟩
termination_by x => x.rank
decreasing_by all_goals (rw [CA.rank_ac]; exact Nat.one_pos)
theorem ER.free {m1 m2 : M} (hF : ∀ p ∈ m1.F, p ∈ m2.F) : ∀ {x : AE} {y : Value}, x.refs = [] → ER m1 x y → ER m2 x y
 | .one _, _, h, r => CR.free hF h r
 | .agg l, _, h, r => by
  obtain ⟨cs, hy, ha⟩ := r
  simp only [AE.refs, List.flatMap_eq_nil_iff] at h
  exact ⟨cs, hy, all2_free (fun a ha' b hb => CR.free hF (h a ha') hb) ha⟩
theorem VR.free {m1 m2 : M} (hF : ∀ p ∈ m1.F, p ∈ m2.F) : ∀ {x : AV} {y : Value}, x.refs = [] → VR m1 x y → VR m2 x y
 | .e _, _, h, r => ER.free hF h r
 | .tup l, _, h, r => by
  obtain ⟨cs, hy, ha⟩ := r
  simp only [AV.refs, List.flatMap_eq_nil_iff] at h
  exact ⟨cs, hy, all2_free (fun a ha' b hb => ER.free hF (h a ha') hb) ha⟩
theorem call_rests (H : HR m base lvl h w) {F' : List (Nat × List Value)} {w' : World} (hB : Below w.heap.size w w') (hF : ∀ p ∈ m.F, p ∈ F') (hfr : ∀ p ∈ F', p ∈ m.F ∨ w.heap.size ≤ p.1)
  (htab : ∀ p ∈ F', ∃ (c : Array Value) (t : TypeId) (fz : Nat × Nat), w'.heap[p.1]? = some (.cells c t fz) ∧ c.toList = p.2) :
  HR { m with F := F' } base lvl h w' ∧ M.leG base m { m with F := F' } := by
 have hle : M.leG base m { m with F := F' } := ⟨Nat.le_refl _, fun _ _ => rfl, fun _ _ => rfl, rfl, hF, fun p hp => (hfr p hp).imp_right (Nat.le_trans H.baseLe)⟩
 have Hw := H.world (w' := w') hB.size hB.block
 refine ⟨⟨Hw.n, Hw.lvlLe, Hw.baseLe, fun b a hb => (Hw.ent b a hb).monoG hle (by rw [Hw.n]; exact (List.getElem?_eq_some_iff.1 hb).1), Hw.own, Hw.inj, Hw.lo, fun p hp => ⟨htab p hp, fun b a hb ha => ?_⟩⟩, hle⟩
 rcases hfr p hp with h0 | h0
 ·exact (H.tab p h0).2 b a hb ha
 ·have := (H.ent b a ha).lt
  show m.ρ b ≠ p.1
  omega
theorem dV_sound (hE : EnvOk E) (G : GR E.gl base w) (hT : TR m tm t) (H : HR m base lvl h w) {o : Oper} {a : DAns} {ps : List Prop} (hs : dV E lvl h tm o a = some (x, h', ps)) (hp : AllP ps) :
  OpRes E.P t o w fun y w' => ∃ m', PostO o m base lvl w x h' y w' m' := by
 unfold dV at hs
 split at hs
 ·-- len
  split at hs
  ·rename_i c hop
   split at hs
   ·rename_i cells n sz u hcal hargs htys
    split at hs
    ·rename_i el hu
     simp only [Option.some.injEq, Prod.mk.injEq] at hs
     obtain ⟨rfl, rfl, rfl⟩ := hs
     have hal := args_sound hT c.args
     rw [hargs] at hal
     obtain ⟨y, hyy, hr⟩ := all2_one hal
     have hargsC : c.args.map (evC t) = #[y] := by rw [← Array.toList_inj]; exact hyy
     have htysA : c.argTypes = #[u] := by rw [← Array.toList_inj]; exact htys
     obtain ⟨pa, pc, rfl⟩ := lenS_sound (m := m) hr rfl
     refine ⟨by simp [hop], by simp [hop], .inl ⟨.int .i64 n, w, .inl ?_, m, Post.sameO H (show CR m (.v _) _ from rfl)⟩⟩
     simp [execOp, hop, resolve, hcal, invoke, builtin, hargsC, htysA, Builtin.len_, run_underlying hu, goInt]
    ·simp at hs
   ·simp at hs
  ·simp at hs
 ·-- ix
  rename_i k
  split at hs
  ·rename_i u p i hop
   split at hs
   ·rename_i cells len sz kk n el hev hin hu
    split at hs
    ·rename_i e he
     split at hs
     ·rename_i hsz
      have hsz := Nat.eq_of_beq_eq_true hsz
      simp only [Option.some.injEq, Prod.mk.injEq] at hs
      obtain ⟨rfl, rfl, rfl⟩ := hs
      obtain ⟨⟨c1, c2⟩, rfl, _⟩ := hp
      have hv := evA_sound hT p
      rw [hev] at hv
      have hv : DT.R m.F (.s cells len sz) (evC t p) := hv
      simp only [DT.R] at hv
      rcases hv with ⟨h0, _⟩ | ⟨_, b, of, cc, cs, hv', g1, g2, g3, g4, g5, g6⟩
      ·omega
      ·have hn := intOf_sound (evA_sound hT i) hin
       refine ⟨by simp [hop], by simp [hop], .inl ⟨.pointer (some ⟨b, of + n.toNat * sz, none⟩), w, .inl ?_, m, Post.sameO H (show DV.R m.F (.p cells (n.toNat * sz)) _ from ⟨b, of, cs, rfl, g3, by omega, g6⟩)⟩⟩
       simp [execOp, hop, hv', hn, Instr.indexAt, asIntOf, run_underlying hu, c1, c2, run_sizeOf he, addr_add, hsz]
     ·simp at hs
    ·simp at hs
   ·simp at hs
  ·simp at hs
 ·-- sp
  split at hs
  ·rename_i u a hop
   split at hs
   ·rename_i N el cells n sz hu hev
    split at hs
    ·rename_i hN
     rw [Nat.blt_eq] at hN
     simp only [Option.some.injEq, Prod.mk.injEq] at hs
     obtain ⟨rfl, rfl, rfl⟩ := hs
     obtain ⟨hle, _⟩ := hp
     have hv := evA_sound hT a
     rw [hev] at hv
     have hv : DT.R m.F (.s cells n sz) (evC t a) := hv
     simp only [DT.R] at hv
     rcases hv with ⟨h0, _⟩ | ⟨_, b, of, cc, cs, hv', g1, g2, g3, g4, g5, g6⟩
     ·omega
     ·refine ⟨by simp [hop], by simp [hop], .inl ⟨.pointer (some ⟨b, of, none⟩), w, .inl ?_, m, Post.sameO H (show DV.R m.F (.p cells 0) _ from ⟨b, of, cs, rfl, g3, by omega, g6⟩)⟩⟩
      simp [execOp, hop, hv', Instr.arrayAt, run_underlying hu, show ¬ n < N by omega]
    ·simp at hs
   ·simp at hs
  ·simp at hs
 ·-- ia
  rename_i k
  split at hs
  ·rename_i u p i hop
   split at hs
   ·rename_i cells s kk n len el hev hin hu
    split at hs
    ·rename_i e he
     simp only [Option.some.injEq, Prod.mk.injEq] at hs
     obtain ⟨rfl, rfl, rfl⟩ := hs
     obtain ⟨hcond, rfl, _⟩ := hp
     have hv := evA_sound hT p
     rw [hev] at hv
     obtain ⟨b, o', cs, hv', g1, g2, g3⟩ : DV.R m.F (.p cells s) (evC t p) := hv
     have hn := intOf_sound (evA_sound hT i) hin
     refine ⟨by simp [hop], by simp [hop], .inl ⟨.pointer (some ⟨b, o' + (s + n.toNat * e.size), none⟩), w, .inl ?_, m, Post.sameO H (show DV.R m.F (.p cells (s + n.toNat * e.size)) _ from ⟨b, o', cs, rfl, g1, g2, g3⟩)⟩⟩
     simp [execOp, hop, hv', hn, Instr.indexAt, asIntOf, run_underlying hu, Instr.sureAddr, hcond, run_sizeOf he, addr_add, Nat.add_assoc]
    ·simp at hs
   ·simp at hs
  ·simp at hs
 ·-- fa
  split at hs
  ·rename_i s p f hop
   split at hs
   ·rename_i cells k fs hev hu
    split at hs
    ·rename_i fd hfd
     split at hs
     ·rename_i i hi
      split at hs
      ·rename_i hz
       have hz : ¬ i.size = 0 := fun e => by rw [e] at hz; simp at hz
       simp only [Option.some.injEq, Prod.mk.injEq] at hs
       obtain ⟨rfl, rfl, rfl⟩ := hs
       have hv := evA_sound hT p
       rw [hev] at hv
       obtain ⟨b, o', cs, hv', g1, g2, g3⟩ : DV.R m.F (.p cells k) (evC t p) := hv
       refine ⟨by simp [hop], by simp [hop], .inl ⟨.pointer (some ⟨b, o' + (k + fd.offset), none⟩), w, .inl ?_, m, Post.sameO H (show DV.R m.F (.p cells (k + fd.offset)) _ from ⟨b, o', cs, rfl, g1, g2, g3⟩)⟩⟩
       simp [execOp, hop, hv', Instr.fieldAt, run_underlying hu, hfd, Instr.sureAddr, fieldPlace, run_sizeOf hi, hz, addr_add, Nat.add_assoc]
      ·simp at hs
     ·simp at hs
    ·simp at hs
   ·simp at hs
  ·simp at hs
 ·-- nc
  split at hs
  ·rename_i p hop
   split at hs
   ·rename_i cells k hev
    simp only [Option.some.injEq, Prod.mk.injEq] at hs
    obtain ⟨rfl, rfl, rfl⟩ := hs
    have hv := evA_sound hT p
    rw [hev] at hv
    have hv0 : DV.R m.F (.p cells k) (evC t p) := hv
    obtain ⟨b, o', cs, hv', g1, g2, g3⟩ := hv0
    refine ⟨by simp [hop], by simp [hop], .inl ⟨evC t p, w, .inl ?_, m, Post.sameO H hv⟩⟩
    simp [execOp, hop, hv']
   ·simp at hs
  ·rename_i b u a c nm hop
   split at hs
   ·rename_i cells n sz n2 c2 el r hpx hqx hu hr
    simp only [Option.some.injEq, Prod.mk.injEq] at hs
    obtain ⟨rfl, rfl, rfl⟩ := hs
    have hn0 : 0 < n := hp.1
    have h1 := evA_sound hT a
    rw [hpx] at h1
    have h1' : DT.R m.F (.s cells n sz) (evC t a) := h1
    simp only [DT.R] at h1'
    have h2 := evA_sound hT c
    rw [hqx] at h2
    have h2 : evC t c = .slice none n2 c2 := h2
    rcases h1' with h1' | h1'
    ·have := h1'.1
     omega
    ·obtain ⟨_, b', o', c', cs', h1, _⟩ := h1'
     have heq : ∀ w, (Op.equal u (evC t a) (evC t c)).run E.P w = .ok false w := fun w => by
      rw [h1, h2]
      simp only [Op.equal, Op.maxDepth]
      unfold Op.equalIn
      simp [run_underlying hu]
     refine ⟨by simp [hop], by simp [hop], .inl ⟨.bool r, w, .inl ?_, m, Post.sameO H (show CR m (.v _) _ from rfl)⟩⟩
     cases b <;> simp only [nilEq, Option.some.injEq, reduceCtorEq] at hr
     ·subst hr
      have := heq w
      rw [h1, h2] at this
      simp [execOp, hop, h1, h2, eqGuard, binOp, this]
     ·subst hr
      have := heq w
      rw [h1, h2] at this
      simp [execOp, hop, h1, h2, eqGuard, binOp, this]
   ·simp at hs
  ·simp at hs
 ·-- ld
  rename_i d
  split at hs
  ·rename_i u p hop
   split at hs
   ·rename_i cells k ud i hev hu hi
    split at hs
    ·rename_i hag
     simp only [Option.some.injEq, Prod.mk.injEq] at hs
     obtain ⟨rfl, rfl, rfl⟩ := hs
     have hv := evA_sound hT p
     rw [hev] at hv
     have hg : getL (cells.map DT.ac) k = some d.ac := by
      have := hp.1
      rw [getL_eq] at this ⊢
      rw [List.getElem?_map, this]; rfl
     obtain ⟨v, hrun, hr⟩ := deep_load (E := E) H hv (u := u) (e := .one d.ac) (by unfold take?; simp only [hu, hi, hag, hg]; rfl)
     exact ⟨by simp [hop], by simp [hop], .inl ⟨v, w, .inl (by simp [execOp, hop, hrun]), m, Post.sameO H hr⟩⟩
    ·simp at hs
   ·simp at hs
  ·simp at hs
 ·-- ldn
  rename_i l
  split at hs
  ·rename_i u p hop
   split at hs
   ·rename_i cells k ud i hev hu hi
    split at hs
    ·rename_i hag
     simp only [Option.some.injEq, Prod.mk.injEq] at hs
     obtain ⟨rfl, rfl, rfl⟩ := hs
     have hv := evA_sound hT p
     rw [hev] at hv
     have hg : takeL (dropL (cells.map DT.ac) k) i.size = some (l.map DT.ac) := by
      obtain ⟨h1, h2⟩ := takeL_some hp.1
      rw [dropL_eq] at h1 h2
      rw [dropL_eq, takeL_eq, ← List.map_drop, if_pos (by rw [List.length_map]; exact h1), ← List.map_take, ← h2]
     obtain ⟨v, hrun, hr⟩ := deep_load (E := E) H hv (u := u) (e := .agg (l.map DT.ac)) (by unfold take?; simp only [hu, hi, hag, hg]; rfl)
     exact ⟨by simp [hop], by simp [hop], .inl ⟨v, w, .inl (by simp [execOp, hop, hrun]), m, Post.sameO H hr⟩⟩
    ·simp at hs
   ·simp at hs
  ·simp at hs
 ·-- sl
  rename_i l u r
  split at hs
  ·rename_i ty p lo hi hop
   split at hs
   ·rename_i el cells n sz hu hev
    split at hs
    ·rename_i e l' u' he hlo hhi
     split at hs
     ·rename_i hsz
      have hsz := Nat.eq_of_beq_eq_true hsz
      simp only [Option.some.injEq, Prod.mk.injEq] at hs
      obtain ⟨rfl, rfl, rfl⟩ := hs
      obtain ⟨rfl, rfl, ⟨q1, q2⟩, q3, _⟩ := hp
      have hv := evA_sound hT p
      rw [hev] at hv
      have hv : DT.R m.F (.s cells n sz) (evC t p) := hv
      simp only [DT.R] at hv
      rcases hv with ⟨h0, pa, pc, hv'⟩ | ⟨_, b, of, cc, cs, hv', g1, g2, g3, g4, g5, g6⟩
      ·subst h0
       obtain rfl : l = 0 := by omega
       obtain rfl : u = 0 := by omega
       have hbd := bounds_of (len := 0) (cap := pc) hlo hhi ⟨Nat.le_refl _, Nat.zero_le _⟩
       obtain ⟨h1, h2, h3⟩ := bounds_sound (E := E) (w := w) (isSlice := true) hT (Nat.le_refl pc) (fun _ => Nat.zero_le _) hbd
       refine ⟨by simp [hop], by simp [hop], .inl ⟨.slice (if pc = 0 then pa else pa.map (·.add (0 * e.size))) (0 - 0) (pc - 0), w, .inl ?_, m, Post.sameO H ?_⟩⟩
       ·simp [execOp, hop, hv', Instr.sliceAt, Instr.slice, run_underlying hu, h1.1, run_sizeOf he]
       ·show DT.R m.F (.s r (0 - 0) sz) _
        simp only [DT.R]
        exact .inl ⟨trivial, _, _, rfl⟩
      ·have hbd := bounds_of (len := n) (cap := cc) hlo hhi ⟨q1, by omega⟩
       obtain ⟨h1, h2, h3⟩ := bounds_sound (E := E) (w := w) (isSlice := true) hT (Nat.le_refl cc) (fun _ => g1) hbd
       refine ⟨by simp [hop], by simp [hop], .inl ⟨.slice (if cc = l then some ⟨b, of, none⟩ else some ((⟨b, of, none⟩ : Addr).add (l * e.size))) (u - l) (cc - l), w, .inl ?_, m, Post.sameO H ?_⟩⟩
       ·simp [execOp, hop, hv', Instr.sliceAt, Instr.slice, run_underlying hu, h1.1, run_sizeOf he]
       ·show DT.R m.F (.s r (u - l) sz) _
        simp only [DT.R]
        by_cases hul : u = l
        ·exact .inl ⟨by omega, _, _, by rw [hul, Nat.sub_self]⟩
        ·have hne : ¬ cc = l := by omega
         rw [if_neg hne, addr_add, hsz]
         have hmul : l * sz + (cc - l) * sz = cc * sz := by rw [← Nat.add_mul]; congr 1; omega
         obtain ⟨t1, t2⟩ := takeL_some q3
         rw [dropL_eq] at t1 t2
         refine .inr ⟨by omega, b, of + l * sz, cc - l, cs, rfl, by omega, by omega, g3, by omega, takeL_len q3, ?_⟩
         have := (g6.drop (l * sz)).pre ((u - l) * sz)
         rw [← t2, List.drop_drop] at this
         exact this
     ·simp at hs
    ·simp at hs
   ·simp at hs
  ·simp at hs
 ·-- z
  split at hs
  ·rename_i ty p lo hi mx hop
   split at hs
   ·rename_i el cells n sz hu hev
    split at hs
    ·rename_i e he hlo hhi hmx
     simp only [Option.some.injEq, Prod.mk.injEq] at hs
     obtain ⟨rfl, rfl, rfl⟩ := hs
     have hv := evA_sound hT p
     rw [hev] at hv
     obtain ⟨pa, pc, hv'⟩ := lenS_sound (m := m) (n := n) hv rfl
     have hbd : sliceBoundsA 0 0 (lo.map (evA tm)) ((some hi).map (evA tm)) = some (0, 0) := bounds_of (len := 0) (cap := 0) hlo hhi ⟨Nat.le_refl _, Nat.le_refl _⟩
     obtain ⟨h1, h2⟩ := bounds3_sound (E := E) (w := w) (len := n) (mm := 0) (mx := mx) (cap' := pc) hT (Nat.zero_le pc) rfl hmx (by simp) (by simp) hbd
     refine ⟨by simp [hop], by simp [hop], .inl ⟨.slice (if (0 : Int).toNat = 0 then pa else pa.map (·.add (0 * e.size))) (0 - 0) ((0 : Int).toNat - 0), w, .inl ?_, m, Post.sameO H ?_⟩⟩
     ·simp [execOp, hop, hv', Instr.sliceAt, Instr.slice, run_underlying hu, run_sizeOf he] at h1 ⊢
      simp [h1]
     ·exact ⟨_, rfl⟩
    ·simp at hs
   ·simp at hs
  ·simp at hs
 ·-- cl
  split at hs
  ·rename_i c hop
   split at hs
   ·rename_i cells n sz u xu hcal hargs htys
    split at hs
    ·rename_i el hu
     split at hs
     ·rename_i e z he hz
      split at hs
      ·rename_i hcond
       simp only [Bool.and_eq_true, Nat.blt_eq] at hcond
       obtain ⟨⟨⟨c1, c2⟩, c3⟩, c4⟩ := hcond
       have c1 := Nat.eq_of_beq_eq_true c1
       have c3 := Nat.eq_of_beq_eq_true c3
       have c4 := Nat.eq_of_beq_eq_true c4
       simp only [Option.some.injEq, Prod.mk.injEq] at hs
       obtain ⟨rfl, rfl, rfl⟩ := hs
       obtain ⟨hsm, _⟩ := hp
       subst c1 c4
       obtain ⟨i', zv, hi, hzv, rfl⟩ := zeroA_some hz
       have hie : i' = e := by rw [he] at hi; simpa using hi.symm
       subst hie
       have hzs : zv.cells.size = i'.size := by rw [lenL_eq] at c3; simpa using c3
       have hal := args_sound hT c.args
       rw [hargs] at hal
       obtain ⟨y, y2, hyy, hr1, hr2⟩ := all2_two hal
       have hargsC : c.args.map (evC t) = #[y, y2] := by rw [← Array.toList_inj]; exact hyy
       have htysA : c.argTypes = #[u, u] := by rw [← Array.toList_inj]; exact htys
       obtain ⟨pz, rfl⟩ : ∃ p, y = .slice p 0 0 := hr1
       have hr2 : DT.R m.F (.s cells n i'.size) y2 := hr2
       have hr2' := hr2
       simp only [DT.R] at hr2'
       rcases hr2' with ⟨rfl, pa, pc, rfl⟩ | ⟨h0, b, of, cc, cs, rfl, g1, g2, g3, g4, g5, g6⟩
       ·have hrun : (Builtin.append_ #[u, u] o.type #[.slice pz 0 0, .slice pa 0 pc]).run E.P w = .ok (.slice pz 0 0) w := by
         have hz : (Builtin.firstCells i'.size 0 (.slice pa 0 pc)).run E.P w = .ok #[] w := by
          cases pa <;> simp [Builtin.firstCells, loadCells, loadCellsFrom]
         cases pz <;> simp [Builtin.append_, run_underlying hu, run_sizeOf he, Builtin.lenOf, hz, storeCells]
        refine ⟨by simp [hop], by simp [hop], .inl ⟨.slice pz 0 0, w, .inl (by simp [execOp, hop, resolve, hcal, invoke, builtin, hargsC, htysA, hrun]), m, Post.sameO H ?_⟩⟩
        show DT.R m.F (.s cells 0 i'.size) _
        simp only [DT.R]
        exact .inl ⟨trivial, _, _, rfl⟩
       ·obtain ⟨⟨ca, t', fz, k1, k2⟩, _⟩ := H.tab _ g3
        have k2 : ca.toList = cs := k2
        have hlen : n * i'.size ≤ (cs.drop of).length := by rw [← g5]; exact g6.take
        obtain ⟨s1, s2, s3⟩ := small_spec hsm
        let news := (cs.drop of).take (n * i'.size)
        have hnl : news.length = n * i'.size := by simp only [news]; rw [List.length_take]; omega
        have hnews : ∀ (w2 : World), w2.heap = w.heap → ∀ j v, news[j]? = some v → w2.cell? ((⟨b, of, none⟩ : Addr).add j) = some v := fun w2 hw2 j v hj => by
         rw [addr_add, cell_of_row w2 _ _ ca t' fz (by rw [hw2]; exact k1)]
         simp only [news] at hj
         rw [List.getElem?_take] at hj
         split at hj
         ·rw [List.getElem?_drop, ← k2] at hj
          simpa using hj
         ·simp at hj
        have hge := grownCap_ge w n 0 el
        have hmx := grownCap_le_maxLen w n 0 el (by unfold maxLen; omega)
        have hb48 : n * i'.bytes ≤ 281474976710656 := by
         have : n * i'.bytes ≤ 2000000 * 1024 := Nat.mul_le_mul s1 s3
         omega
        have hrun : (Builtin.append_ #[u, u] o.type #[.slice pz 0 0, .slice (some ⟨b, of, none⟩) n cc]).run E.P w =
          .ok (.slice (some ⟨w.heap.size, 0, none⟩) n (grownCap w n 0 el)) (w.drew.alloc (.cells (news.toArray ++ Builtin.zeroCells zv.cells (grownCap w n 0 el - n)) el)) := by
         cases pz with
         | none => exact run_append_nil (P := E.P) w u o.type el i' zv hu hi hzv ⟨b, of, none⟩ n cc news hnl (hnews w rfl) h0 (by omega) hb48
         | some pz =>
          have := run_append_grow (P := E.P) w u o.type el i' zv hu hi hzv pz 0 0 [] (by simp) (by simp) ⟨b, of, none⟩ n cc news hnl (hnews w rfl) (by omega) (by simp; omega) (by rw [Nat.zero_add, nextslicecap_zero h0]; exact hb48)
          simpa using this
        let cs' := (news.toArray ++ Builtin.zeroCells zv.cells (grownCap w n 0 el - n)).toList
        have hcs' : (news.toArray ++ Builtin.zeroCells zv.cells (grownCap w n 0 el - n)) = cs'.toArray := by simp [cs']
        have hcl : cs'.length = grownCap w n 0 el * i'.size := by
         simp only [cs', Array.length_toList, Array.size_append, List.size_toArray, size_zeroCells, hzs, hnl, ← Nat.add_mul]
         congr 1
         omega
        rw [hcs'] at hrun
        obtain ⟨H2, hle⟩ := (H.world (w' := w.drew) (Nat.le_refl _) (fun _ _ => rfl)).rest (w' := w.drew.alloc (.cells cs'.toArray el)) (cs := cs') (el := el) (fz := (0, 0)) rfl
        have hsz : w.drew.heap.size = w.heap.size := rfl
        rw [hsz] at H2 hle
        refine ⟨by simp [hop], by simp [hop], .inl ⟨.slice (some ⟨w.heap.size, 0, none⟩) n (grownCap w n 0 el), w.drew.alloc (.cells cs'.toArray el), .inl (by simp only [execOp, hop, resolve, hcal, invoke, builtin, hargsC, htysA, hrun, Sem.run_bind, Sem.run_pure, Result.andThen_ok]), { m with F := (w.heap.size, cs') :: m.F }, ⟨hle, ?_, H2, ((Below.refl _ _).drew).alloc H.baseLe _⟩, fun hcv => by rw [callV_call hop] at hcv; cases hcv⟩⟩
        show DT.R ((w.heap.size, cs') :: m.F) (.s cells n i'.size) _
        simp only [DT.R]
        refine .inr ⟨h0, w.heap.size, 0, _, cs', rfl, hge, hmx, List.mem_cons_self .., by rw [hcl]; omega, g5, ?_⟩
        have := (DT.Rl.put (zs := (Builtin.zeroCells zv.cells (grownCap w n 0 el - n)).toList) g6).mono (fun p hp => List.mem_cons_of_mem (w.heap.size, cs') hp)
        rw [g5] at this
        simpa [cs', news] using this
      ·simp at hs
     ·simp at hs
    ·simp at hs
   ·simp at hs
  ·simp at hs
 ·-- c1
  split at hs
  ·rename_i c hop
   split at hs
   ·rename_i f args hcal
    split at hs
    ·rename_i fn hfn
     split at hs
     ·rename_i hbody
      simp only [Option.some.injEq, Prod.mk.injEq] at hs
      obtain ⟨rfl, rfl, rfl⟩ := hs
      obtain ⟨hc, hv, _⟩ := hp
      obtain ⟨argsC, hrun, hargs⟩ := call_enter hE hT hop hcal hfn hbody w
      refine ⟨by simp [hop], by simp [hop], .inr (.inl ⟨f, argsC, hrun, ?_⟩)⟩
      rw [lenL_eq] at hc
      refine (hc m w.heap.size w argsC hargs H.shut (G.up H.baseLe)).mono fun e w' ⟨y, hy, m', hp⟩ => ⟨y, hy, { m with F := m'.F }, ?_, fun h0 => by rw [callV_call hop] at h0; cases h0⟩
      obtain ⟨H2, hle⟩ := call_rests H hp.below hp.le.F hp.le.fresh (fun p h0 => (hp.heap.tab p h0).1)
      exact ⟨hle, VR.free (m1 := m') (m2 := { m with F := m'.F }) (fun _ h0 => h0) hv hp.val, H2, hp.below.mono H.baseLe⟩
     ·simp at hs
    ·simp at hs
   ·simp at hs
  ·simp at hs
 ·-- ap
  rename_i n mm xs lx L N
  split at hs
  ·rename_i c hop
   split at hs
   ·rename_i b s len sz cap ds m' sz2 u xu hcal hargs htys
    split at hs
    ·rename_i el hu
     split at hs
     ·rename_i e z ab he hz hb
      split at hs
      ·rename_i hcond
       simp only [Bool.and_eq_true, Nat.blt_eq, Nat.ble_eq, Bool.not_eq_true'] at hcond
       obtain ⟨⟨⟨⟨⟨⟨⟨⟨c1, c2⟩, c3⟩, c4⟩, c5⟩, c6⟩, c7⟩, c8⟩, c9⟩ := hcond
       have c1 := Nat.eq_of_beq_eq_true c1
       have c3 := Nat.eq_of_beq_eq_true c3
       have c4 := Nat.eq_of_beq_eq_true c4
       have c5 := Nat.eq_of_beq_eq_true c5
       have c7 := Nat.eq_of_beq_eq_true c7
       have c8 := Nat.eq_of_beq_eq_true c8
       simp only [Option.some.injEq, Prod.mk.injEq] at hs
       obtain ⟨rfl, rfl, rfl⟩ := hs
       obtain ⟨rfl, rfl, p1, rfl, p2, p3, p4, p5, p6, rfl, rfl, rfl, _⟩ := hp
       subst c1 c4 c5 c7 c8
       have ht0 : c.argTypes[0]? = some u := by
        have : c.argTypes.toList[0]? = some u := by rw [htys]; rfl
        simpa using this
       have ht1 : c.argTypes[1]? = some u := by
        have : c.argTypes.toList[1]? = some u := by rw [htys]; rfl
        simpa using this
       have hsrc : srcCells h e.size m' (.e (.one (.dp (.s ds m' e.size)))) = some (ds.map DT.ac) := by
        simp only [srcCells, Nat.le_refl, and_self, p1, if_true]
        rw [takeL_eq, List.length_map, p2, if_pos (Nat.le_refl _), ← p2, ← List.length_map (f := DT.ac), List.take_length]
       have hst : builtinA E lvl h .append c.argTypes (c.args.toList.map (evA tm)) = some (.e (.one (.slc (lenL h) 0 (len + m') e.size (len + m') false)), appL (setL h b none) [some ⟨appL ab.cells (ds.map DT.ac), (len + m') * e.size, ab.elem, false, .cells⟩]) := by
        simp only [hargs, builtinA, ht0, ht1, appendA, lenS?, hu, he, hz, hsrc, c2, c3, p3, hb, p4, p5, p6, c6, c9, p1, Bool.false_eq_true, and_self, if_true, if_false]
       obtain ⟨y, w', m1, r1, r2⟩ := op_builtin hT H hop hcal hst
       exact ⟨by simp [hop], by simp [hop], .inl ⟨y, w', r1, m1, r2.o⟩⟩
      ·simp at hs
     ·simp at hs
    ·simp at hs
   ·simp at hs
  ·simp at hs
end
end Go.Ev
end

/-! SyC -/
section
namespace Go.Ev
open Go.RowKit
section
variable {E : Env} {rec : RunT} {m : M} {base lvl : Nat} {h h' : Heap} {w : World} {tm : Tm} {t : Array Value} {x : AV}
theorem map_some_inj {α β : Type} {f : α → β} : ∀ {l : List α} {m : List β}, l.map (fun b => some (f b)) = m.map some → l.map f = m
 | [], [], _ => rfl
 | [], _ :: _, h => by simp at h
 | _ :: _, [], h => by simp at h
 | a :: l, b :: m, h => by
  simp only [List.map_cons, List.cons.injEq, Option.some.injEq] at h ⊢
  exact ⟨h.1, map_some_inj h.2⟩
theorem take_one {P : Program} {u : TypeId} {l : List AC} {k : Nat} {c : AC} {d : TypeDesc} {i : TypeInfo} (hd : P.underlying u = some d) (hi : P.info? u = some i) (ha : isAggD d = false) (hc : getL l k = some c) : take? P u l k = some (.one c) := by
 unfold take?
 simp only [hd, hi, ha, hc]
 rfl
theorem take_agg {P : Program} {u : TypeId} {l r : List AC} {k : Nat} {d : TypeDesc} {i : TypeInfo} (hd : P.underlying u = some d) (hi : P.info? u = some i) (ha : isAggD d = true) (hc : takeL (dropL l k) i.size = some r) : take? P u l k = some (.agg r) := by
 unfold take?
 simp only [hd, hi, ha, hc]
 rfl
theorem opRes_call (hE : EnvOk E) (hT : TR m tm t) {o : Oper} {c : Call} (hop : o.op = .call c) {f : FuncId} {args : List AV} (hcal : calleeOf tm c = some (f, args)) {fn : Func} (hfn : E.P.funcs[f]? = some fn) (hbody : fn.body.isSome = true)
  (hc : ∀ argsC : Array Value, All2 (VR m) args argsC.toList → Calls E.P f argsC w fun e w' => ∃ y, e = .returned y ∧ ∃ m', PostG m base lvl w x h' y w' m') :
  OpRes E.P t o w fun y w' => ∃ m', PostO o m base lvl w x h' y w' m' := by
 obtain ⟨argsC, hrun, hargs⟩ := call_enter hE hT hop hcal hfn hbody w
 exact ⟨by simp [hop], by simp [hop], .inr (.inl ⟨f, argsC, hrun, (hc argsC hargs).mono fun e w' ⟨y, hy, m', hp⟩ => ⟨y, hy, m', hp, fun h0 => by rw [callV_callee hop hcal] at h0; cases h0⟩⟩)⟩
theorem plainP_spec : ∀ {h : Heap}, plainP h → ∀ b ∈ h, plainB b = true
 | [], _, b, hb => by simp at hb
 | a :: h, hp, b, hb => by
  rcases List.mem_cons.1 hb with rfl | hb
  ·exact hp.1
  ·exact plainP_spec hp.2 b hb
theorem u8_cells {m : M} : ∀ (bs : List UInt8) (ys : List Value), All2 (CR m) (bs.map u8c) ys → ys = bs.map fun b => Value.int .u8 b.toNat
 | [], [], _ => rfl
 | [], _ :: _, h => h.elim
 | _ :: _, [], h => h.elim
 | b :: bs, y :: ys, h => by
  have h1 : y = .int .u8 b.toNat := h.1
  rw [h1, u8_cells bs ys h.2]; rfl
theorem run_v {P : Program} {s : Sem Value} {w w' : World} {y : Value} (h : s.run P w = .ok y w') : (do pure (.value (← s)) : Sem Next).run P w = .ok (.value y) w' := by
 simp only [Sem.run_bind, h, Result.andThen_ok]
 rfl
theorem Post.draw {c : AC} {y : Value} {n : Nat} (H : HR m base lvl h w) (hy : CR m c y) : Post m base lvl w (.e (.one c)) h y { w with drawn := n } m :=
 ⟨M.le.refl m, hy, H.world (Nat.le_refl _) (fun _ _ => rfl), ⟨rfl, rfl, rfl, Nat.le_refl _, fun _ _ => rfl⟩⟩
theorem call_ext (hT : TR m tm t) {o : Oper} {c : Call} (hop : o.op = .call c) {f : FuncId} {args : List AV} (hcal : calleeOf tm c = some (f, args)) :
  ∃ argsC : Array Value, execOp (evC t) o = callFunc f argsC ∧ All2 (VR m) args argsC.toList := by
 have hargs := args_sound hT c.args
 unfold calleeOf at hcal
 split at hcal
 ·rename_i fo hfo
  have hfv := evA_sound hT fo
  split at hcal
  ·rename_i g first cs' hev
   rw [hev] at hfv
   have hfv' : evC t fo = .func (.func g) first cs' := hfv
   split at hcal
   ·rename_i hfirst
    have : first = #[] := by simpa using hfirst
    subst this
    simp only [Option.some.injEq, Prod.mk.injEq] at hcal
    obtain ⟨rfl, rfl⟩ := hcal
    refine ⟨c.args.map (evC t) ++ cs', ?_, ?_⟩
    ·simp [execOp, hop, resolve, hfo, hfv', Deferred.ofValue, invoke]
    ·rw [Array.toList_append]
     refine hargs.append ?_
     generalize cs'.toList = l
     induction l with
     | nil => trivial
     | cons a l ih => exact ⟨AV.of_sound m a, ih⟩
   ·simp at hcal
  ·rename_i g fs' cs' hev
   rw [hev] at hfv
   obtain ⟨vf, vc, hfv', h1, h2⟩ : ∃ vf vc : Array Value, evC t fo = .func (.func g) vf vc ∧ All2 (CE.R m) fs' vf.toList ∧ All2 (CE.R m) cs' vc.toList := hfv
   simp only [Option.some.injEq, Prod.mk.injEq] at hcal
   obtain ⟨rfl, rfl⟩ := hcal
   refine ⟨vf ++ (c.args.map (evC t) ++ vc), ?_, ?_⟩
   ·simp [execOp, hop, resolve, hfo, hfv', Deferred.ofValue, invoke]
   ·rw [Array.toList_append, Array.toList_append]
    exact (CEs.av h1).append (hargs.append (CEs.av h2))
  ·simp at hcal
 ·simp at hcal
theorem valV_sound (hE : EnvOk E) (hrec : RecOk E rec) (hT : TR m tm t) (H : HR m base lvl h w) (G : GR E.gl base w) {o : Oper} {a : Ans} {ps : List Prop} (hs : valV E rec lvl h tm o a = some (x, h', ps)) (hp : AllP ps) :
  OpRes E.P t o w fun y w' => ∃ m', PostO o m base lvl w x h' y w' m' := by
 have by0 : stepOp E rec0 lvl h tm o = some (x, h') → OpRes E.P t o w fun y w' => ∃ m', PostO o m base lvl w x h' y w' m' := fun h0 => stepOp_res hE (rec0_ok E) hT H G h0
 unfold valV at hs
 split at hs
 ·-- go
  split at hs
  ·rename_i x1 h1 hst
   simp only [Option.some.injEq, Prod.mk.injEq] at hs
   obtain ⟨rfl, rfl, rfl⟩ := hs
   exact stepOp_res hE hrec hT H G hst
  ·simp at hs
 ·-- rn
  split at hs
  ·rename_i x1 h1 hst
   simp only [Option.some.injEq, Prod.mk.injEq] at hs
   obtain ⟨rfl, rfl, rfl⟩ := hs
   obtain ⟨rfl, _⟩ : x1 = _ ∧ True := hp
   exact stepOp_res hE hrec hT H G hst
  ·simp at hs
 ·-- ld
  split at hs
  ·rename_i u p hop
   split at hs
   ·rename_i b k d i hev hd hi
    split at hs
    ·rename_i ab hb hag
     simp only [Option.some.injEq, Prod.mk.injEq] at hs
     obtain ⟨rfl, rfl, rfl⟩ := hs
     refine by0 ?_
     simp only [stepOp, hop, loadA, hev, hb, take_one hd hi hag hp.1]
     rfl
    ·simp at hs
   ·simp at hs
  ·simp at hs
 ·-- ldn
  split at hs
  ·rename_i u p hop
   split at hs
   ·rename_i b k d i hev hd hi
    split at hs
    ·rename_i ab hb hag
     simp only [Option.some.injEq, Prod.mk.injEq] at hs
     obtain ⟨rfl, rfl, rfl⟩ := hs
     refine by0 ?_
     simp only [stepOp, hop, loadA, hev, hb, take_agg hd hi hag hp.1]
     rfl
    ·simp at hs
   ·simp at hs
  ·simp at hs
 ·-- ix
  split at hs
  ·rename_i u p i hop
   split at hs
   ·rename_i b s kk n len el hev hin hu
    split at hs
    ·rename_i e he
     simp only [Option.some.injEq, Prod.mk.injEq] at hs
     obtain ⟨rfl, rfl, rfl⟩ := hs
     obtain ⟨hb1, hb2, _⟩ := hp
     have hop' : opA E lvl tm h o.op = some (.e (.one (.ptr b (s + n.toNat * e.size))), h) := by
      simp only [opA, hop, hev, hin, hu, he, hb1, and_self, if_true]
     rw [hb2] at hop'
     obtain ⟨y, w', m', h1, h2⟩ := opA_sound hT H hop'
     exact ⟨by simp [hop], by simp [hop], .inl ⟨y, w', h1, m', h2.o⟩⟩
    ·simp at hs
   ·rename_i b s len sz cap ex kk n el hev hin hu
    split at hs
    ·rename_i e he
     split at hs
     ·rename_i hsz
      have hsz := Nat.eq_of_beq_eq_true hsz
      simp only [Option.some.injEq, Prod.mk.injEq] at hs
      obtain ⟨rfl, rfl, rfl⟩ := hs
      obtain ⟨hb1, hb2, _⟩ := hp
      have hop' : opA E lvl tm h o.op = some (.e (.one (.ptr b (s + n.toNat * sz))), h) := by
       simp only [opA, hop, hev, hin, hu, he, hb1, hsz, and_self, if_true]
      rw [hb2] at hop'
      obtain ⟨y, w', m', h1, h2⟩ := opA_sound hT H hop'
      exact ⟨by simp [hop], by simp [hop], .inl ⟨y, w', h1, m', h2.o⟩⟩
     ·simp at hs
    ·simp at hs
   ·simp at hs
  ·simp at hs
 ·-- st
  split at hs
  ·rename_i u p c hop
   split at hs
   ·rename_i b s x' hev hev2
    split at hs
    ·rename_i ab i cs hb hi hcs
     split at hs
     ·rename_i hcond
      simp only [Bool.and_eq_true, Nat.ble_eq] at hcond
      obtain ⟨⟨c1, c2⟩, c3⟩ := hcond
      have c2 := Nat.eq_of_beq_eq_true c2
      simp only [Option.some.injEq, Prod.mk.injEq] at hs
      obtain ⟨rfl, rfl, rfl⟩ := hs
      obtain ⟨hb1, hb2, _⟩ := hp
      have hop' : opA E lvl tm h o.op = some (.tup [], setL h b (some { ab with cells := overL cs ab.cells s })) := by
       simp only [opA, hop, storeA, hev, hev2, hb, hi, hcs, c1, c2, hb1, c3, and_self, if_true, Option.map_some]
      rw [hb2] at hop'
      obtain ⟨y, w', m', h1, h2⟩ := opA_sound hT H hop'
      exact ⟨by simp [hop], by simp [hop], .inl ⟨y, w', h1, m', h2.o⟩⟩
     ·simp at hs
    ·simp at hs
   ·simp at hs
  ·simp at hs
 ·-- quo
  split at hs
  ·rename_i op u p q yt hop
   split at hs
   ·rename_i k p' j q' hev1 hev2
    split at hs
    ·rename_i hk
     simp only [Option.some.injEq, Prod.mk.injEq] at hs
     obtain ⟨rfl, rfl, rfl⟩ := hs
     obtain ⟨hb1, hb2, _⟩ := hp
     refine by0 ?_
     have hkj : k = j := by simpa using hk
     subst hkj
     simp only [stepOp, hop, hev1, hev2, binA, decide_true, if_true, intBin, if_neg hb1, hb2]
     rfl
    ·rename_i hk
     simp only [Option.some.injEq, Prod.mk.injEq] at hs
     obtain ⟨rfl, rfl, rfl⟩ := hs
     obtain ⟨hb1, hb2, _⟩ := hp
     refine by0 ?_
     have hkj : k = j := by simpa using hk
     subst hkj
     simp only [stepOp, hop, hev1, hev2, binA, decide_true, if_true, intBin, if_neg hb1, hb2]
     rfl
    ·simp at hs
   ·simp at hs
  ·simp at hs
 ·-- mk
  split at hs
  ·rename_i u p c hop
   split at hs
   ·rename_i el k1 n' k2 m' hu hn hm
    split at hs
    ·rename_i e z he hz
     split at hs
     ·rename_i hcond
      simp only [Bool.and_eq_true, Nat.blt_eq] at hcond
      obtain ⟨c1, c2⟩ := hcond
      have c1 := Nat.eq_of_beq_eq_true c1
      simp only [Option.some.injEq, Prod.mk.injEq] at hs
      obtain ⟨rfl, rfl, rfl⟩ := hs
      obtain ⟨hb1, hb2, rfl, rfl, rfl, rfl, _⟩ := hp
      have hop' : opA E lvl tm h o.op = some (.e (.one (.slc (lenL h) 0 n'.toNat e.size m'.toNat true)), appL h [some ⟨repeatC z m'.toNat, m'.toNat * e.size, el, true, .cells⟩]) := by
       simp only [opA, hop, hu, hn, hm, he, hz, hb1, hb2, c1, c2, and_self, if_true]
      obtain ⟨y, w', m', h1, h2⟩ := opA_sound hT H hop'
      exact ⟨by simp [hop], by simp [hop], .inl ⟨y, w', h1, m', h2.o⟩⟩
     ·simp at hs
    ·simp at hs
   ·simp at hs
  ·simp at hs
 ·-- app
  split at hs
  ·rename_i c hop
   split at hs
   ·rename_i b s len sz cap b2 s2 mm sz2 cap2 ex2 u xu hcal hargs htys
    split at hs
    ·rename_i el hu
     split at hs
     ·rename_i e z ab he hz hb
      split at hs
      ·rename_i xs hxs
       split at hs
       ·rename_i hcond
        simp only [Bool.and_eq_true, Nat.blt_eq, Nat.ble_eq, Bool.not_eq_true'] at hcond
        obtain ⟨⟨⟨⟨⟨⟨⟨⟨⟨c1, c2⟩, c3⟩, c4⟩, c5⟩, c6⟩, c7⟩, c8⟩, c9⟩, c10⟩ := hcond
        have c1 := Nat.eq_of_beq_eq_true c1
        have c3 := Nat.eq_of_beq_eq_true c3
        have c5 := Nat.eq_of_beq_eq_true c5
        have c7 := Nat.eq_of_beq_eq_true c7
        have c9 := Nat.eq_of_beq_eq_true c9
        simp only [Option.some.injEq, Prod.mk.injEq] at hs
        obtain ⟨rfl, rfl, rfl⟩ := hs
        obtain ⟨hb1, hb2, hb3, rfl, rfl, rfl, _⟩ := hp
        subst c5 c1 c7 c9
        refine by0 ?_
        have ht0 : c.argTypes[0]? = some u := by
         have : c.argTypes.toList[0]? = some u := by rw [htys]; rfl
         simpa using this
        have ht1 : c.argTypes[1]? = some u := by
         have : c.argTypes.toList[1]? = some u := by rw [htys]; rfl
         simpa using this
        have hnot : ∀ (f : FuncId) (avs : List AV), calleeOf tm c ≠ some (f, avs) := fun f avs hh => by simp [calleeOf, hcal] at hh
        have hcn : calleeOf tm c = none := by
         cases hh : calleeOf tm c with
         | none => rfl
         | some r => exact absurd hh (hnot r.1 r.2)
        have hyn : yieldOf tm c = none := by simp [yieldOf, hcal]
        simp only [stepOp, hop, callOp, hcn, hyn, hcal, hargs, builtinA, ht0, ht1, appendA, lenS?, hu, he, hz, hxs, c2, c3, c4, c6, c8, c10, hb, hb1, hb2, hb3, and_self, if_true, if_false, Bool.false_eq_true]
       ·simp at hs
      ·simp at hs
     ·simp at hs
    ·simp at hs
   ·simp at hs
  ·simp at hs
 ·-- c0
  split at hs
  ·rename_i c hop
   split at hs
   ·rename_i f args hcal
    split at hs
    ·rename_i fn hfn
     split at hs
     ·rename_i hcond
      simp only [Bool.and_eq_true, List.all_eq_true] at hcond
      obtain ⟨hbody, hnr⟩ := hcond
      simp only [Option.some.injEq, Prod.mk.injEq] at hs
      obtain ⟨rfl, rfl, rfl⟩ := hs
      obtain ⟨hc, hr, _⟩ := hp
      refine opRes_call hE hT hop hcal hfn hbody fun argsC ha => ?_
      have := callOther (nb := []) (e := []) (hin := []) (hout := []) (args' := args) hE H G ha rfl (by simp) (by simp) (by simp) (by simp) hc (map_ren_id fun a ha' => AV.ren_id ?_) rfl rfl (AV.ren_id hr)
      ·rw [List.append_nil] at this
       exact this
      ·have := hnr a ha'
       unfold noRefs at this
       split at this
       ·assumption
       ·simp at this
     ·simp at hs
    ·simp at hs
   ·simp at hs
  ·simp at hs
 ·-- cl
  split at hs
  ·rename_i c hop
   split at hs
   ·rename_i f args hcal
    split at hs
    ·rename_i fn hfn
     split at hs
     ·rename_i hcond
      simp only [Bool.and_eq_true, List.all_eq_true, Nat.blt_eq] at hcond
      obtain ⟨⟨⟨⟨⟨⟨⟨hbody, c1⟩, c2⟩, c3⟩, c4⟩, c5⟩, c6⟩, c7⟩ := hcond
      have c6 := Nat.eq_of_beq_eq_true c6
      have c7 := Nat.eq_of_beq_eq_true c7
      have c1 := Nat.eq_of_beq_eq_true c1
      simp only [Option.some.injEq, Prod.mk.injEq] at hs
      obtain ⟨rfl, rfl, rfl⟩ := hs
      obtain ⟨hc, h1, h2, f1, h3, f2, h4, _⟩ := hp
      simp only [lenL_eq, dropL_eq] at c1 c2 c3 c6 c7 hc h1 h2 h3 f2 h4
      rw [renFl_eq _ c6 f1] at h2
      rw [renFl_eq _ c7 f2] at h3
      have h3 := map_some_inj h3
      have hgl : getL h = fun b : Nat => h[b]? := funext fun b => getL_eq h b
      rw [hgl] at h2
      rw [appL_eq]
      exact opRes_call hE hT hop hcal hfn hbody fun argsC ha => callOther hE H G ha c1 c2 c3 c4 c5 hc h1 h2 h3 h4
     ·simp at hs
    ·simp at hs
   ·simp at hs
  ·simp at hs
 ·-- el
  split at hs
  ·rename_i u p q hop
   split at hs
   ·rename_i l kk n len el hev hin hu
    split at hs
    ·rename_i d i hd hi
     split at hs
     ·rename_i hag hsz
      have hsz := Nat.eq_of_beq_eq_true hsz
      simp only [Option.some.injEq, Prod.mk.injEq] at hs
      obtain ⟨rfl, rfl, rfl⟩ := hs
      obtain ⟨hb1, hb2, _⟩ := hp
      have h1 := evA_sound hT p
      rw [hev] at h1
      obtain ⟨cs, hcs, hall⟩ := h1
      have h2 := intOf_sound (evA_sound hT q) hin
      rw [getL_eq] at hb2
      obtain ⟨v, hv, hr⟩ := hall.get hb2
      have hrun : (Instr.index u (.agg cs) (.int kk n)).run E.P w = .ok v w := by
       have hv' : cs[n.toNat]? = some v := by simpa using hv
       simp [Instr.index, run_underlying hu, asIntOf, hb1, run_sizeOf hi, hsz, part, run_isAgg hd, hag, hv']
      exact ⟨by simp [hop], by simp [hop], .inl ⟨v, w, .inl (by simp [execOp, hop, hcs, h2, hrun]), m, Post.sameO H hr⟩⟩
     ·simp at hs
    ·simp at hs
   ·simp at hs
  ·simp at hs
 ·-- cpy
  rename_i Lx Nx lx
  split at hs
  ·rename_i c hop
   split at hs
   ·rename_i b s sz b2 s2 mm sz2 cap2 ex2 u xu hcal hargs htys
    split at hs
    ·rename_i el hu
     split at hs
     ·rename_i e z ab a2 he hz hb hb2
      split at hs
      ·rename_i hcond
       simp only [Bool.and_eq_true, Nat.blt_eq] at hcond
       obtain ⟨⟨⟨⟨c1, c2⟩, c3⟩, c5⟩, c6⟩ := hcond
       have c1 := Nat.eq_of_beq_eq_true c1
       have c3 := Nat.eq_of_beq_eq_true c3
       have c5 := Nat.eq_of_beq_eq_true c5
       have c6 := Nat.eq_of_beq_eq_true c6
       simp only [Option.some.injEq, Prod.mk.injEq] at hs
       obtain ⟨rfl, rfl, rfl⟩ := hs
       obtain ⟨k1, k2, k3, k4, rfl, rfl, _⟩ := hp
       subst c5 c1 c6
       refine by0 ?_
       have ht0 : c.argTypes[0]? = some u := by
        have : c.argTypes.toList[0]? = some u := by rw [htys]; rfl
        simpa using this
       have ht1 : c.argTypes[1]? = some u := by
        have : c.argTypes.toList[1]? = some u := by rw [htys]; rfl
        simpa using this
       have hnot : ∀ (f : FuncId) (avs : List AV), calleeOf tm c ≠ some (f, avs) := fun f avs hh => by simp [calleeOf, hcal] at hh
       have hcn : calleeOf tm c = none := by
        cases hh : calleeOf tm c with
        | none => rfl
        | some r => exact absurd hh (hnot r.1 r.2)
       have hyn : yieldOf tm c = none := by simp [yieldOf, hcal]
       have hsrc : srcCells h e.size mm (.e (.one (.slc b2 s2 mm e.size cap2 ex2))) = some lx := by
        simp only [srcCells, hb2, Nat.le_refl, and_self, if_true]
        exact k3
       have h0 : ∀ l : List AC, takeL l 0 = some [] := fun l => by cases l <;> rfl
       have hnl : ¬ (0 + mm ≤ 0) := by omega
       simp only [stepOp, hop, callOp, hcn, hyn, hcal, hargs, builtinA, ht0, ht1, appendA, lenS?, hu, he, hz, hsrc, c2, c3, k4, hb, k2, hnl, Nat.zero_mul, h0, and_self, if_true, if_false]
       rfl
      ·simp at hs
     ·simp at hs
    ·simp at hs
   ·simp at hs
  ·simp at hs
 ·-- apz
  split at hs
  ·rename_i c hop
   split at hs
   ·rename_i s xx u xu hcal hargs htys
    split at hs
    ·rename_i el xel i hu hxu hi
     split at hs
     ·rename_i hcond
      simp only [Bool.and_eq_true] at hcond
      obtain ⟨hs1, hs2⟩ := hcond
      simp only [Option.some.injEq, Prod.mk.injEq] at hs
      obtain ⟨rfl, rfl, rfl⟩ := hs
      rw [hu] at hi
      simp only at hi
      have hal := args_sound hT c.args
      rw [hargs] at hal
      obtain ⟨y, y2, hyy, hr1, hr2⟩ := all2_two hal
      have hargsC : c.args.map (evC t) = #[y, y2] := by rw [← Array.toList_inj]; exact hyy
      have htysA : c.argTypes = #[u, xu] := by rw [← Array.toList_inj]; exact htys
      obtain ⟨p1, n1, c1, rfl, hle⟩ : ∃ p n c, y = .slice p n c ∧ n ≤ c := by
       unfold isSlc at hs1
       split at hs1
       ·rename_i n c
        simp only [Bool.and_eq_true] at hs1
        have e1 := Nat.eq_of_beq_eq_true hs1.1
        have e2 := Nat.eq_of_beq_eq_true hs1.2
        have : y = .slice none n c := hr1
        exact ⟨none, n, c, this, by omega⟩
       ·obtain ⟨_, cc, o', hy, _, g1, g2, _⟩ := hr1
        exact ⟨_, _, cc, hy, by omega⟩
       ·simp at hs1
      obtain ⟨p2, c2, rfl⟩ : ∃ p c, y2 = .slice p 0 c := by
       unfold emptyS at hs2
       split at hs2
       ·rename_i p n c
        have e1 := Nat.eq_of_beq_eq_true hs2
        have : y2 = .slice p n c := hr2
        exact ⟨p, c, by rw [this, e1]⟩
       ·obtain ⟨_, cc, o', hy, _⟩ := hr2
        have e1 := Nat.eq_of_beq_eq_true hs2
        exact ⟨_, cc, by rw [hy, e1]⟩
       ·simp at hs2
      have hrun : (Builtin.append_ #[u, xu] o.type #[.slice p1 n1 c1, .slice p2 0 c2]).run E.P w = .ok (.slice p1 n1 c1) w := by
       have hz : (Builtin.firstCells i.size 0 (.slice p2 0 c2)).run E.P w = .ok #[] w := by
        cases p2 <;> simp [Builtin.firstCells, loadCells, loadCellsFrom]
       cases p1 <;> simp [Builtin.append_, run_underlying hu, run_underlying hxu, run_sizeOf hi, Builtin.lenOf, hle, hz, storeCells]
      exact ⟨by simp [hop], by simp [hop], .inl ⟨.slice p1 n1 c1, w, .inl (by simp [execOp, hop, resolve, hcal, invoke, builtin, hargsC, htysA, hrun]), m, Post.sameO H hr1⟩⟩
     ·simp at hs
    ·simp at hs
   ·simp at hs
  ·simp at hs
 ·-- cmp
  split at hs
  ·rename_i op u p q yt hop
   split at hs
   ·rename_i l1 l2 n el hev1 hev2 hu
    split at hs
    ·rename_i i hel hi hg
     have h1 := evA_sound hT p
     rw [hev1] at h1
     obtain ⟨cs1, hcs1, hall1⟩ := h1
     have h2 := evA_sound hT q
     rw [hev2] at h2
     obtain ⟨cs2, hcs2, hall2⟩ := h2
     have cells : ∀ {xs : List UInt8} {l : List AC} {cs : Array Value}, l = xs.map u8c → All2 (CR m) l cs.toList → cs = (xs.map Extern.Stop.cell).toArray := by
      intro xs l cs hl ha
      rw [← Array.toList_inj]
      subst hl
      simp only
      generalize cs.toList = ys at ha
      induction xs generalizing ys with
      | nil => cases ys with
       | nil => rfl
       | cons y ys => exact ha.elim
      | cons x xs ih => cases ys with
       | nil => exact ha.elim
       | cons y ys =>
        obtain ⟨r1, r2⟩ := ha
        have : y = Value.int .u8 x.toNat := r1
        rw [this, ih ys r2]
        rfl
     split at hs
     ·rename_i hsz
      have hsz := Nat.eq_of_beq_eq_true hsz
      simp only [Option.some.injEq, Prod.mk.injEq] at hs
      obtain ⟨rfl, rfl, rfl⟩ := hs
      obtain ⟨k1, k2, k3, k4, rfl, _⟩ := hp
      have e1 := cells k1 hall1
      have e2 := cells k2 hall2
      subst e1 e2
      have hsz' : ∀ w, (sizeOf el).run E.P w = .ok 1 w := fun w => by rw [run_sizeOf hi, hsz]
      have hq := run_eql_bytes w u el n hu hel hsz' _ _ k3 k4
      exact ⟨by simp [hop], by simp [hop], .inl ⟨_, w, .inl (by simp only [execOp, hop, hcs1, hcs2]; rw [Sem.run_bind, Sem.run_bind, run_eqGuard_agg w _ _ _ _ _ _ hg, Result.andThen_ok, hq]; rfl), m, Post.sameO H rfl⟩⟩
     ·rename_i hsz
      have hsz := Nat.eq_of_beq_eq_true hsz
      simp only [Option.some.injEq, Prod.mk.injEq] at hs
      obtain ⟨rfl, rfl, rfl⟩ := hs
      obtain ⟨k1, k2, k3, k4, rfl, _⟩ := hp
      have e1 := cells k1 hall1
      have e2 := cells k2 hall2
      subst e1 e2
      have hsz' : ∀ w, (sizeOf el).run E.P w = .ok 1 w := fun w => by rw [run_sizeOf hi, hsz]
      have hq := run_equalIn_bytes w 9998 u el n hu hel hsz' _ _ k3 k4
      exact ⟨by simp [hop], by simp [hop], .inl ⟨_, w, .inl (by simp only [execOp, hop, hcs1, hcs2]; rw [Sem.run_bind, Sem.run_bind, run_eqGuard_agg w _ _ _ _ _ _ hg, Result.andThen_ok, run_neq_struct, hq]; rfl), m, Post.sameO H rfl⟩⟩
     ·simp at hs
    ·simp at hs
   ·simp at hs
  ·simp at hs
 ·-- oq
  split at hs
  ·rename_i x1 h1 hst
   simp only [Option.some.injEq, Prod.mk.injEq] at hs
   obtain ⟨rfl, rfl, rfl⟩ := hs
   exact stepOp_res hE hrec hT H G hst
  ·simp at hs
 ·-- pk
  rename_i b
  split at hs
  ·rename_i c p q hop
   split at hs
   ·rename_i tt hc
    simp only [Option.some.injEq, Prod.mk.injEq] at hs
    obtain ⟨rfl, rfl, rfl⟩ := hs
    obtain ⟨rfl, _⟩ := hp
    have hop' : opA E lvl tm h o.op = some (if tt then evA tm p else evA tm q, h) := by
     simp only [opA, hop, hc]
    obtain ⟨y, w', m', h1, h2⟩ := opA_sound hT H hop'
    refine ⟨by simp [hop], by simp [hop], .inl ⟨y, w', h1, m', Post.o ?_⟩⟩
    cases tt <;> exact h2
   ·simp at hs
  ·simp at hs
 ·-- len
  rename_i n
  split at hs
  ·rename_i c hop
   split at hs
   ·rename_i xx u hcal hargs htys
    split at hs
    ·rename_i el hu
     simp only [Option.some.injEq, Prod.mk.injEq] at hs
     obtain ⟨rfl, rfl, rfl⟩ := hs
     obtain ⟨hl, _⟩ := hp
     have hal := args_sound hT c.args
     rw [hargs] at hal
     obtain ⟨y, hyy, hr1⟩ := all2_one hal
     have hargsC : c.args.map (evC t) = #[y] := by rw [← Array.toList_inj]; exact hyy
     have htysA : c.argTypes = #[u] := by rw [← Array.toList_inj]; exact htys
     obtain ⟨p, cc, rfl⟩ : ∃ p cc, y = .slice p n cc := by
      rcases hl with ⟨b, o', sz, cap, ex, rfl⟩ | ⟨p, cc, rfl⟩
      ·obtain ⟨_, cc, o2, hy, _⟩ := hr1
       exact ⟨_, cc, hy⟩
      ·exact ⟨p, cc, hr1⟩
     refine ⟨by simp [hop], by simp [hop], .inl ⟨.int .i64 n, w, .inl ?_, m, Post.sameO H (show CR m (.v _) _ from rfl)⟩⟩
     simp [execOp, hop, resolve, hcal, invoke, builtin, hargsC, htysA, Builtin.len_, run_underlying hu, goInt]
    ·simp at hs
   ·simp at hs
  ·simp at hs
 ·-- cpu
  rename_i n N lx bx
  split at hs
  ·rename_i c hop
   split at hs
   ·rename_i b0 s sz xx u xu hcal hargs htys
    split at hs
    ·rename_i el el2 hu hxu
     split at hs
     ·rename_i e z ab he hz hb
      split at hs
      ·rename_i hcond
       simp only [Bool.and_eq_true, Nat.blt_eq, Nat.ble_eq] at hcond
       obtain ⟨⟨⟨⟨⟨⟨⟨c1, c2⟩, c3⟩, c5⟩, c6⟩, c7⟩, c8⟩, c9⟩ := hcond
       have c1 := Nat.eq_of_beq_eq_true c1
       have c3 := Nat.eq_of_beq_eq_true c3
       have c5 := Nat.eq_of_beq_eq_true c5
       have c7 := Nat.eq_of_beq_eq_true c7
       have c9 := Nat.eq_of_beq_eq_true c9
       simp only [Option.some.injEq, Prod.mk.injEq] at hs
       obtain ⟨rfl, rfl, rfl⟩ := hs
       obtain ⟨hcp, rfl, _⟩ := hp
       subst c5 c1 c7
       have hb0 := blk_eq hb
       have hmn := H.n
       have hkill := H.kill b0
       have hlen : lenL h = m.n := by rw [lenL_eq, hmn]
       rcases hcp with ⟨rfl, rfl, rfl, ds0, s0, rfl⟩ | ⟨rfl, k1, k2, k4, ds, rfl, rfl, k5⟩ | ⟨rfl, rfl, rfl, p2, c2', rfl⟩ | ⟨rfl, k1, k2, k4, b2, s2, cap2, ex2, a2, rfl, hb2, k3⟩
       ·-- there is nothing to copy: the list itself
        have hal := args_sound hT c.args
        rw [hargs] at hal
        obtain ⟨y, y2, hyy, hr1, hr2⟩ := all2_two hal
        have hargsC : c.args.map (evC t) = #[y, y2] := by rw [← Array.toList_inj]; exact hyy
        have htysA : c.argTypes = #[u, u] := by rw [← Array.toList_inj]; exact htys
        obtain ⟨p2, c2', rfl⟩ := lenS_sound (m := m) (n := 0) hr2 rfl
        obtain ⟨g0, cc, o', rfl, g1, g2, g3, g4, g5, g6⟩ := hr1
        have hcc := g6 rfl
        subst hcc
        have hrun : (Builtin.append_ #[u, u] o.type #[.slice (some ⟨m.ρ b0, o', none⟩) 0 0, .slice p2 0 c2']).run E.P w = .ok (.slice (some ⟨m.ρ b0, o', none⟩) 0 0) w := by
         have hz : (Builtin.firstCells e.size 0 (.slice p2 0 c2')).run E.P w = .ok #[] w := by
          cases p2 <;> simp [Builtin.firstCells, loadCells, loadCellsFrom]
         simp [Builtin.append_, run_underlying hu, run_sizeOf he, Builtin.lenOf, hz, storeCells]
        obtain ⟨q1, q2, q3, fz, q4, q5, q6, q7, q8⟩ := H.blk b0 ab hb0 (blk_ext hb)
        have hown := H.own b0 c6 (List.getElem?_eq_some_iff.1 hb0).1
        have hlo := Nat.le_trans H.lo c6
        have H2 := hkill.add q4 hown (fun b a hba he' => by
         obtain ⟨i1, i2⟩ := alive_set hba
         exact i2 (H.inj b b0 (List.getElem?_eq_some_iff.1 i1).1 (List.getElem?_eq_some_iff.1 hb0).1 ⟨a, i1⟩ ⟨ab, hb0⟩ (.inr hlo) he')) (fun p hp => (H.tab p hp).2 b0 ab c6 hb0) (cells := []) (n := 0) (full := true) rfl (fun _ => by rw [q5, ← q2 c8, c9]) (Nat.zero_le _) (q6 hlo) (by simp; exact trivial)
        have hsz : q3.size = 0 := by rw [q5, ← q2 c8, c9]
        refine ⟨by simp [hop], by simp [hop], .inl ⟨.slice (some ⟨m.ρ b0, o', none⟩) 0 0, w, .inl (by simp [execOp, hop, resolve, hcal, invoke, builtin, hargsC, htysA, hrun]), m.push (m.ρ b0) q3.size, Post.o ⟨m.le_push _ _, ?_, ?_, Below.refl _ _⟩⟩⟩
        ·refine ⟨by rw [hlen]; simp [M.push], 0, o', by rw [hlen, M.push_ρ], .inr rfl, Nat.le_refl _, Nat.le_refl _, g4, by simp, fun _ => rfl⟩
        ·rw [appL_eq, setL_eq]
         simpa using H2
       ·-- a copy
        have ht0 : c.argTypes[0]? = some u := by
         have : c.argTypes.toList[0]? = some u := by rw [htys]; rfl
         simpa using this
        have ht1 : c.argTypes[1]? = some u := by
         have : c.argTypes.toList[1]? = some u := by rw [htys]; rfl
         simpa using this
        have hsrc : srcCells h e.size n (.e (.one (.dp (.s ds n e.size)))) = some (ds.map DT.ac) := by
         simp only [srcCells, Nat.le_refl, and_self, k1, if_true]
         rw [takeL_eq, List.length_map, k5, if_pos (Nat.le_refl _), ← k5, ← List.length_map (f := DT.ac), List.take_length]
        have h0 : ∀ l : List AC, takeL l 0 = some [] := fun l => by cases l <;> rfl
        have hnl : ¬ (0 + n ≤ 0) := by omega
        have hst : builtinA E lvl h .append c.argTypes (c.args.toList.map (evA tm)) = some (.e (.one (.slc (lenL h) 0 (0 + n) e.size (0 + n) false)), appL h [some ⟨appL [] (ds.map DT.ac), (0 + n) * e.size, ab.elem, false, .cells⟩]) := by
         simp only [hargs, builtinA, ht0, ht1, appendA, lenS?, hu, he, hz, hsrc, c2, c3, k4, hb, k2, hnl, Nat.zero_mul, h0, and_self, if_true, if_false]
        obtain ⟨y, w', m', r1, r2⟩ := op_builtin hT H hop hcal hst
        rw [Nat.zero_add] at r2
        refine ⟨by simp [hop], by simp [hop], .inl ⟨y, w', r1, m', Post.o ⟨r2.le, r2.val, ?_, r2.below⟩⟩⟩
        have := r2.heap.kill b0
        rw [appL_eq] at this
        rw [appL_eq, setL_eq]
        rw [List.set_append_left _ _ (List.getElem?_eq_some_iff.1 hb0).1] at this
        exact this
       ·-- there is nothing to copy: the list itself
        have hal := args_sound hT c.args
        rw [hargs] at hal
        obtain ⟨y, y2, hyy, hr1, hr2⟩ := all2_two hal
        have hargsC : c.args.map (evC t) = #[y, y2] := by rw [← Array.toList_inj]; exact hyy
        have htysA : c.argTypes = #[u, u] := by rw [← Array.toList_inj]; exact htys
        have hr2 : y2 = .slice p2 0 c2' := hr2
        subst hr2
        obtain ⟨g0, cc, o', rfl, g1, g2, g3, g4, g5, g6⟩ := hr1
        have hcc := g6 rfl
        subst hcc
        have hrun : (Builtin.append_ #[u, u] o.type #[.slice (some ⟨m.ρ b0, o', none⟩) 0 0, .slice p2 0 c2']).run E.P w = .ok (.slice (some ⟨m.ρ b0, o', none⟩) 0 0) w := by
         have hz : (Builtin.firstCells e.size 0 (.slice p2 0 c2')).run E.P w = .ok #[] w := by
          cases p2 <;> simp [Builtin.firstCells, loadCells, loadCellsFrom]
         simp [Builtin.append_, run_underlying hu, run_sizeOf he, Builtin.lenOf, hz, storeCells]
        obtain ⟨q1, q2, q3, fz, q4, q5, q6, q7, q8⟩ := H.blk b0 ab hb0 (blk_ext hb)
        have hown := H.own b0 c6 (List.getElem?_eq_some_iff.1 hb0).1
        have hlo := Nat.le_trans H.lo c6
        have H2 := hkill.add q4 hown (fun b a hba he' => by
         obtain ⟨i1, i2⟩ := alive_set hba
         exact i2 (H.inj b b0 (List.getElem?_eq_some_iff.1 i1).1 (List.getElem?_eq_some_iff.1 hb0).1 ⟨a, i1⟩ ⟨ab, hb0⟩ (.inr hlo) he')) (fun p hp => (H.tab p hp).2 b0 ab c6 hb0) (cells := []) (n := 0) (full := true) rfl (fun _ => by rw [q5, ← q2 c8, c9]) (Nat.zero_le _) (q6 hlo) (by simp; exact trivial)
        have hsz : q3.size = 0 := by rw [q5, ← q2 c8, c9]
        refine ⟨by simp [hop], by simp [hop], .inl ⟨.slice (some ⟨m.ρ b0, o', none⟩) 0 0, w, .inl (by simp [execOp, hop, resolve, hcal, invoke, builtin, hargsC, htysA, hrun]), m.push (m.ρ b0) q3.size, Post.o ⟨m.le_push _ _, ?_, ?_, Below.refl _ _⟩⟩⟩
        ·refine ⟨by rw [hlen]; simp [M.push], 0, o', by rw [hlen, M.push_ρ], .inr rfl, Nat.le_refl _, Nat.le_refl _, g4, by simp, fun _ => rfl⟩
        ·rw [appL_eq, setL_eq]
         simpa using H2
       ·-- a copy
        have ht0 : c.argTypes[0]? = some u := by
         have : c.argTypes.toList[0]? = some u := by rw [htys]; rfl
         simpa using this
        have ht1 : c.argTypes[1]? = some u := by
         have : c.argTypes.toList[1]? = some u := by rw [htys]; rfl
         simpa using this
        have hsrc : srcCells h e.size n (.e (.one (.slc b2 s2 n e.size cap2 ex2))) = some lx := by
         simp only [srcCells, hb2, Nat.le_refl, and_self, if_true]
         exact k3
        have h0 : ∀ l : List AC, takeL l 0 = some [] := fun l => by cases l <;> rfl
        have hnl : ¬ (0 + n ≤ 0) := by omega
        have hst : builtinA E lvl h .append c.argTypes (c.args.toList.map (evA tm)) = some (.e (.one (.slc (lenL h) 0 (0 + n) e.size (0 + n) false)), appL h [some ⟨appL [] lx, (0 + n) * e.size, ab.elem, false, .cells⟩]) := by
         simp only [hargs, builtinA, ht0, ht1, appendA, lenS?, hu, he, hz, hsrc, c2, c3, k4, hb, k2, hnl, Nat.zero_mul, h0, and_self, if_true, if_false]
        obtain ⟨y, w', m', r1, r2⟩ := op_builtin hT H hop hcal hst
        rw [Nat.zero_add] at r2
        refine ⟨by simp [hop], by simp [hop], .inl ⟨y, w', r1, m', Post.o ⟨r2.le, r2.val, ?_, r2.below⟩⟩⟩
        have := r2.heap.kill b0
        rw [appL_eq] at this
        rw [appL_eq, setL_eq]
        rw [List.set_append_left _ _ (List.getElem?_eq_some_iff.1 hb0).1] at this
        exact this
      ·simp at hs
     ·simp at hs
    ·simp at hs
   ·simp at hs
  ·simp at hs
 ·-- fw
  split at hs
  ·rename_i x1 h1 hst
   simp only [Option.some.injEq, Prod.mk.injEq] at hs
   obtain ⟨rfl, rfl, rfl⟩ := hs
   obtain ⟨y, w', m', r1, r2⟩ := opA_sound hT H hst
   have hop : ∀ op, o.op = op → (opA E lvl tm h op).isSome = true := fun op he => by rw [← he, hst]; rfl
   refine ⟨fun c hc => ?_, fun cs b hc => ?_, .inl ⟨y, w', r1, m', r2.o⟩⟩
   ·have := hop _ hc
    simp [opA] at this
   ·have := hop _ hc
    simp [opA] at this
  ·simp at hs
 ·-- fwq
  split at hs
  ·rename_i x1 h1 hst
   simp only [Option.some.injEq, Prod.mk.injEq] at hs
   obtain ⟨rfl, rfl, rfl⟩ := hs
   obtain ⟨y, w', m', r1, r2⟩ := opA_sound hT H hst
   have hop : ∀ op, o.op = op → (opA E lvl tm h op).isSome = true := fun op he => by rw [← he, hst]; rfl
   refine ⟨fun c hc => ?_, fun cs b hc => ?_, .inl ⟨y, w', r1, m', r2.o⟩⟩
   ·have := hop _ hc
    simp [opA] at this
   ·have := hop _ hc
    simp [opA] at this
  ·simp at hs
 ·-- cw
  split at hs
  ·rename_i c hop
   split at hs
   ·rename_i f args hcal
    split at hs
    ·rename_i fn hfn
     split at hs
     ·rename_i hbody
      simp only [Option.some.injEq, Prod.mk.injEq] at hs
      obtain ⟨rfl, rfl, rfl⟩ := hs
      exact opRes_call hE hT hop hcal hfn hbody fun argsC ha => hp.1 m base w argsC ha H G
     ·simp at hs
    ·simp at hs
   ·simp at hs
  ·simp at hs
 ·-- str
  rename_i bs
  split at hs
  ·rename_i s d p hop
   split at hs
   ·rename_i el hsu hdu
    split at hs
    ·rename_i hel
     simp only [Option.some.injEq, Prod.mk.injEq] at hs
     obtain ⟨rfl, rfl, rfl⟩ := hs
     have hv := evA_sound hT p
     have fin : ∀ (a : Option Addr) (l cc : Nat), evC t p = .slice a l cc → (convert s d (.slice a l cc)).run E.P w = .ok (.string ⟨bs.toArray⟩) w → OpRes E.P t o w fun y w' => ∃ m', PostO o m base lvl w (.e (.one (.v (.string ⟨bs.toArray⟩)))) h y w' m' := fun a l cc hy hr =>
      ⟨by simp [hop], by simp [hop], .inl ⟨.string ⟨bs.toArray⟩, w, .inl (by simp only [execOp, hop, hy, Sem.run_bind, hr, Result.andThen_ok, Sem.run_pure]), m, Post.sameO H (show CR m (.v _) _ from rfl)⟩⟩
     rcases hp.1 with ⟨rfl, cc, hx⟩ | ⟨b, off, sz, cap, ex, hx, hbs⟩ | ⟨ds, hx, h0, hds⟩
     ·rw [hx] at hv
      have hv : evC t p = .slice none 0 cc := hv
      refine fin none 0 cc hv ?_
      rw [run_convert_bytes_string w s d el none 0 cc hsu hel hdu]
      simp [Conv.bytesToString]
      rfl
     ·have hv0 := hv
      rw [hx] at hv
      obtain ⟨hbn, cc, o', hy, ho, hl, hc, hmx, hk, hex⟩ : CR m (.slc b off bs.length sz cap ex) (evC t p) := hv
      rcases hbs with rfl | ⟨rfl, ab, hb, htk⟩
      ·exact fin _ 0 cc hy (run_convert_bytes_back (P := E.P) w s d el ⟨m.ρ b, o', none⟩ cc [] hsu hel hdu (fun j hj => by simp at hj))
      ·have hsrc : srcCells h 1 bs.length (.e (.one (.slc b off bs.length 1 cap ex))) = some (bs.map u8c) := by
        simp only [srcCells, Nat.le_refl, and_self, if_true, hb, Nat.mul_one]
        exact htk
       rw [hx] at hv0
       obtain ⟨ad, len', c2, ys, hy2, hn, hl2, hcell, hrel⟩ := srcCells_sound H hv0 hsrc
       have hys := u8_cells bs ys hrel
       have hlen : len' = bs.length := by
        rw [hy] at hy2
        simp only [Value.slice.injEq] at hy2
        exact hy2.2.1.symm
       rw [hlen] at hy2
       refine fin _ _ _ hy2 (run_convert_bytes_back (P := E.P) w s d el ad c2 bs hsu hel hdu (fun j hj => hcell j _ (by rw [hys]; simp [hj])))
     ·rw [hx] at hv
      have hl := congrArg List.length hds
      simp only [List.length_map] at hl
      have hsrc : srcCells h 1 bs.length (.e (.one (.dp (.s ds bs.length 1)))) = some (bs.map u8c) := by
       simp only [srcCells, Nat.le_refl, h0, and_self, if_true, Nat.mul_one]
       rw [takeL_eq, if_pos (by simp [hl]), hds, List.take_of_length_le (by simp)]
      obtain ⟨ad, len', c2, ys, hy2, hn, hl2, hcell, hrel⟩ := srcCells_sound H hv hsrc
      have hys := u8_cells bs ys hrel
      have hlen : len' = bs.length := by
       have hv : DT.R m.F (.s ds bs.length 1) (evC t p) := hv
       simp only [DT.R] at hv
       rcases hv with ⟨e, _⟩ | ⟨_, b, o, c, _, e, _⟩
       ·omega
       ·rw [hy2] at e
        simp only [Value.slice.injEq] at e
        exact e.2.1
      rw [hlen] at hy2
      exact fin _ _ _ hy2 (run_convert_bytes_back (P := E.P) w s d el ad c2 bs hsu hel hdu (fun j hj => hcell j _ (by rw [hys]; simp [hj])))
    ·simp at hs
   ·simp at hs
  ·simp at hs
 ·-- clq
  split at hs
  ·rename_i c hop
   split at hs
   ·rename_i f args hcal
    split at hs
    ·rename_i fn hfn
     split at hs
     ·rename_i hcond
      simp only [Bool.and_eq_true, List.all_eq_true, Nat.blt_eq] at hcond
      obtain ⟨⟨⟨⟨hbody, c1⟩, c2⟩, c6⟩, c7⟩ := hcond
      have c6 := Nat.eq_of_beq_eq_true c6
      have c7 := Nat.eq_of_beq_eq_true c7
      have c1 := Nat.eq_of_beq_eq_true c1
      simp only [Option.some.injEq, Prod.mk.injEq] at hs
      obtain ⟨rfl, rfl, rfl⟩ := hs
      obtain ⟨hc, h1, h2, f1, h3, f2, h4, c4, c3, c5, _⟩ := hp
      have c4 := plainP_spec c4
      have c3 := plainP_spec c3
      have c5 := plainP_spec c5
      simp only [lenL_eq, dropL_eq] at c1 c2 c3 c6 c7 hc h1 h2 h3 f2 h4
      rw [renFl_eq _ c6 f1] at h2
      rw [renFl_eq _ c7 f2] at h3
      have h3 := map_some_inj h3
      have hgl : getL h = fun b : Nat => h[b]? := funext fun b => getL_eq h b
      rw [hgl] at h2
      rw [appL_eq]
      exact opRes_call hE hT hop hcal hfn hbody fun argsC ha => callOther hE H G ha c1 c2 c3 c4 c5 hc h1 h2 h3 h4
     ·simp at hs
    ·simp at hs
   ·simp at hs
  ·simp at hs
 ·-- eqs
  rename_i b
  split at hs
  ·rename_i op u p q yt hop
   split at hs
   ·rename_i l1 l2 hev1 hev2 hg
    simp only [Option.some.injEq, Prod.mk.injEq] at hs
    obtain ⟨rfl, rfl, rfl⟩ := hs
    have h1 := evA_sound hT p
    rw [hev1] at h1
    obtain ⟨cs1, hcs1, hall1⟩ := h1
    have h2 := evA_sound hT q
    rw [hev2] at h2
    obtain ⟨cs2, hcs2, hall2⟩ := h2
    have hq := hp.1 m cs1 cs2 w hall1 hall2
    exact ⟨by simp [hop], by simp [hop], .inl ⟨.bool b, w, .inl (by simp only [execOp, hop, hcs1, hcs2]; rw [Sem.run_bind, Sem.run_bind, run_eqGuard_agg w _ _ _ _ _ _ hg, Result.andThen_ok, run_eql_struct, hq]; rfl), m, Post.sameO H rfl⟩⟩
   ·rename_i l1 l2 hev1 hev2 hg
    simp only [Option.some.injEq, Prod.mk.injEq] at hs
    obtain ⟨rfl, rfl, rfl⟩ := hs
    have h1 := evA_sound hT p
    rw [hev1] at h1
    obtain ⟨cs1, hcs1, hall1⟩ := h1
    have h2 := evA_sound hT q
    rw [hev2] at h2
    obtain ⟨cs2, hcs2, hall2⟩ := h2
    have hq := hp.1 m cs1 cs2 w hall1 hall2
    exact ⟨by simp [hop], by simp [hop], .inl ⟨.bool b, w, .inl (by simp only [execOp, hop, hcs1, hcs2]; rw [Sem.run_bind, Sem.run_bind, run_eqGuard_agg w _ _ _ _ _ _ hg, Result.andThen_ok, run_neq_struct, hq, Result.andThen_ok, Bool.not_not]; rfl), m, Post.sameO H rfl⟩⟩
   ·simp at hs
  ·simp at hs
 ·-- slo
  split at hs
  ·rename_i u a lo hi hop
   split at hs
   ·rename_i el b off len sz cap ex hu ha
    split at hs
    ·rename_i e l' u' he hl hu'
     split at hs
     ·rename_i hsz
      have hsz := Nat.eq_of_beq_eq_true hsz
      simp only [Option.some.injEq, Prod.mk.injEq] at hs
      obtain ⟨rfl, rfl, rfl⟩ := hs
      obtain ⟨rfl, rfl, hlu, rfl, rfl, rfl, _⟩ := hp
      have hbd := bounds_of hl hu' hlu
      have hst := sliceA_sound (E := E) hT H (lo := lo) (hi := hi) (u := u) (a := a) hop (by simp only [sliceA, hu, ha, he, hbd, if_pos hsz]; rfl)
      obtain ⟨y, w', m', r1, r2⟩ := hst
      exact ⟨by simp [hop], by simp [hop], .inl ⟨y, w', r1, m', r2.o⟩⟩
     ·simp at hs
    ·simp at hs
   ·simp at hs
  ·simp at hs
 ·-- sl3
  split at hs
  ·rename_i u a lo hi mx hop
   split at hs
   ·rename_i el b off len sz cap ex hu ha
    split at hs
    ·rename_i e l' u' m' he hl hu' hm'
     split at hs
     ·rename_i hsz
      have hsz := Nat.eq_of_beq_eq_true hsz
      simp only [Option.some.injEq, Prod.mk.injEq] at hs
      obtain ⟨rfl, rfl, rfl⟩ := hs
      obtain ⟨rfl, rfl, rfl, hlu, rfl, rfl, rfl, _⟩ := hp
      have hbd := bounds_of (len := 0) (hi := some hi) (cap := cap) hl hu' ⟨hlu.1, Nat.le_trans hlu.2.1 hlu.2.2⟩
      have hst := sliceA3_sound (E := E) hT H (lo := lo) (hi := some hi) (mx := mx) (u := u) (a := a) hop (by simp only [sliceA3, hu, ha, he, hm', hbd]; rw [if_pos ⟨hsz, rfl, by simp only [Int.ofNat_eq_natCast]; omega, by simp only [Int.ofNat_eq_natCast]; omega⟩])
      obtain ⟨y, w', m', r1, r2⟩ := hst
      exact ⟨by simp [hop], by simp [hop], .inl ⟨y, w', r1, m', r2.o⟩⟩
     ·simp at hs
    ·simp at hs
   ·simp at hs
  ·simp at hs
 ·-- sap
  split at hs
  ·rename_i u a hop
   split at hs
   ·rename_i n el b off hu ha
    split at hs
    ·rename_i e ab he hab
     split at hs
     ·rename_i hn
      simp only [Option.some.injEq, Prod.mk.injEq] at hs
      obtain ⟨rfl, rfl, rfl⟩ := hs
      obtain ⟨hle, _⟩ := hp
      have hn := Nat.le_of_ble_eq_true hn
      have hst := sliceA_sound (E := E) hT H (lo := none) (hi := none) (u := u) (a := a) (x := .e (.one (.slc b off n e.size n true))) (h' := h) hop (by
       unfold sliceA
       rw [hu, ha]
       simp [he, hab, sliceBoundsA, hle, hn])
      obtain ⟨y, w', m', r1, r2⟩ := hst
      exact ⟨by simp [hop], by simp [hop], .inl ⟨y, w', r1, m', r2.o⟩⟩
     ·simp at hs
    ·simp at hs
   ·simp at hs
  ·simp at hs
 ·-- d
  exact dV_sound hE G hT H hs hp
 ·-- fb
  split at hs
  ·rename_i bop u a b br hop
   split at hs
   ·rename_i cx cz hx hz
    simp only [Option.some.injEq, Prod.mk.injEq] at hs
    obtain ⟨rfl, rfl, rfl⟩ := hs
    have h1 := evA_sound hT a
    have h2 := evA_sound hT b
    rw [hx] at h1
    rw [hz] at h2
    obtain ⟨y, n, hr, hy⟩ := hp.1 m _ _ w h1 h2
    exact ⟨by simp [hop], by simp [hop], .inl ⟨y, _, .inl (by simp only [execOp, hop]; exact run_v hr), m, (Post.draw H hy).o⟩⟩
   ·simp at hs
  ·simp at hs
 ·-- fc
  split at hs
  ·rename_i sT dT a hop
   split at hs
   ·rename_i cx hx
    simp only [Option.some.injEq, Prod.mk.injEq] at hs
    obtain ⟨rfl, rfl, rfl⟩ := hs
    have h1 := evA_sound hT a
    rw [hx] at h1
    obtain ⟨y, n, hr, hy⟩ := hp.1 m _ w h1
    exact ⟨by simp [hop], by simp [hop], .inl ⟨y, _, .inl (by simp only [execOp, hop]; exact run_v hr), m, (Post.draw H hy).o⟩⟩
   ·simp at hs
  ·simp at hs
 ·-- nx
  rename_i rr0
  split at hs
  ·rename_i a hop
   split at hs
   ·rename_i b hev
    split at hs
    ·rename_i ab s pos hit
     split at hs
     ·rename_i rr q hlb
      simp only [Option.some.injEq, Prod.mk.injEq] at hs
      obtain ⟨rfl, rfl, rfl⟩ := hs
      obtain ⟨k1, rfl, rfl, _⟩ := hp
      obtain ⟨y, w', m', r1, r2⟩ := op_next (E := E) (lvl := lvl) hT H (a := a) hop (by simp only [opA, hev, hit, hlb, if_pos k1]; rfl)
      exact ⟨by simp [hop], by simp [hop], .inl ⟨y, w', r1, m', r2.o⟩⟩
     ·rename_i hlb
      simp only [Option.some.injEq, Prod.mk.injEq] at hs
      obtain ⟨rfl, rfl, rfl⟩ := hs
      obtain ⟨k1, _⟩ := hp
      obtain ⟨y, w', m', r1, r2⟩ := op_next (E := E) (lvl := lvl) hT H (a := a) hop (by simp only [opA, hev, hit, hlb, if_neg k1]; rfl)
      exact ⟨by simp [hop], by simp [hop], .inl ⟨y, w', r1, m', r2.o⟩⟩
     ·simp at hs
    ·simp at hs
   ·simp at hs
  ·simp at hs
 ·-- si
  rename_i bb
  split at hs
  ·rename_i u p q hop
   split at hs
   ·rename_i s kk n hev hin hu
    simp only [Option.some.injEq, Prod.mk.injEq] at hs
    obtain ⟨rfl, rfl, rfl⟩ := hs
    obtain ⟨k1, k2, _⟩ := hp
    have h1 := evA_sound hT p
    rw [hev] at h1
    have h1 : evC t p = .string s := h1
    have h2 := intOf_sound (evA_sound hT q) hin
    obtain ⟨c, hk, rfl⟩ := Option.map_eq_some_iff.1 k2
    have hrun : (Instr.index u (.string s) (.int kk n)).run E.P w = .ok (.int .u8 c.toNat) w := by
     simp [Instr.index, run_underlying hu, asIntOf, k1, hk]
    exact ⟨by simp [hop], by simp [hop], .inl ⟨.int .u8 c.toNat, w, .inl (by simp [execOp, hop, h1, h2, hrun]), m, Post.sameO H rfl⟩⟩
   ·simp at hs
  ·simp at hs
 ·-- apo
  rename_i Lx xs lx
  split at hs
  ·rename_i c hop
   split at hs
   ·rename_i b s len sz cap ex b2 s2 mm sz2 cap2 ex2 u xu hcal hargs htys
    split at hs
    ·rename_i el hu
     split at hs
     ·rename_i e z ab a2 he hz hb hb2
      split at hs
      ·rename_i hcond
       simp only [Bool.and_eq_true, Nat.blt_eq] at hcond
       obtain ⟨⟨⟨⟨⟨c1, c2⟩, c3⟩, c5⟩, c6⟩, c7⟩ := hcond
       have c1 := Nat.eq_of_beq_eq_true c1
       have c3 := Nat.eq_of_beq_eq_true c3
       have c5 := Nat.eq_of_beq_eq_true c5
       have c6 := Nat.eq_of_beq_eq_true c6
       have c7 := Nat.le_of_ble_eq_true c7
       simp only [Option.some.injEq, Prod.mk.injEq] at hs
       obtain ⟨rfl, rfl, rfl⟩ := hs
       obtain ⟨k0, rfl, k1, k2, k3, k4, k5, rfl, _⟩ := hp
       subst c5 c1 c6
       refine by0 ?_
       have ht0 : c.argTypes[0]? = some u := by
        have : c.argTypes.toList[0]? = some u := by rw [htys]; rfl
        simpa using this
       have ht1 : c.argTypes[1]? = some u := by
        have : c.argTypes.toList[1]? = some u := by rw [htys]; rfl
        simpa using this
       have hnot : ∀ (f : FuncId) (avs : List AV), calleeOf tm c ≠ some (f, avs) := fun f avs hh => by simp [calleeOf, hcal] at hh
       have hcn : calleeOf tm c = none := by
        cases hh : calleeOf tm c with
        | none => rfl
        | some r => exact absurd hh (hnot r.1 r.2)
       have hyn : yieldOf tm c = none := by simp [yieldOf, hcal]
       have hsrc : srcCells h e.size mm (.e (.one (.slc b2 s2 mm e.size cap2 ex2))) = some xs := by
        simp only [srcCells, hb2, Nat.le_refl, and_self, if_true]
        exact k3
       have hcp : 0 < cap := by omega
       simp only [stepOp, hop, callOp, hcn, hyn, hcal, hargs, builtinA, ht0, ht1, appendA, lenS?, hu, he, hz, hsrc, c2, c3, k4, hb, k2, k1, c7, hcp, k5, and_self, if_true]
      ·simp at hs
     ·simp at hs
    ·simp at hs
   ·simp at hs
  ·simp at hs
 ·-- clr
  rename_i lx
  split at hs
  ·rename_i c hop
   split at hs
   ·rename_i b s len sz cap ex u hcal hargs htys
    split at hs
    ·rename_i el hu
     split at hs
     ·rename_i e z ab he hz hb
      split at hs
      ·rename_i hcond
       simp only [Bool.and_eq_true] at hcond
       obtain ⟨⟨c7, c5⟩, c3⟩ := hcond
       have c3 := Nat.eq_of_beq_eq_true c3
       have c5 := Nat.eq_of_beq_eq_true c5
       have c7 := Nat.le_of_ble_eq_true c7
       simp only [Option.some.injEq, Prod.mk.injEq] at hs
       obtain ⟨rfl, rfl, rfl⟩ := hs
       obtain ⟨k0, k1, k5, k4, rfl, _⟩ := hp
       refine by0 ?_
       have ht0 : c.argTypes[0]? = some u := by
        have : c.argTypes.toList[0]? = some u := by rw [htys]; rfl
        simpa using this
       have hnot : ∀ (f : FuncId) (avs : List AV), calleeOf tm c ≠ some (f, avs) := fun f avs hh => by simp [calleeOf, hcal] at hh
       have hcn : calleeOf tm c = none := by
        cases hh : calleeOf tm c with
        | none => rfl
        | some r => exact absurd hh (hnot r.1 r.2)
       have hyn : yieldOf tm c = none := by simp [yieldOf, hcal]
       have hcp : 0 < cap := by omega
       have hl0 : ¬ len = 0 := by omega
       simp only [stepOp, hop, callOp, hcn, hyn, hcal, hargs, builtinA, ht0, clearA, hu, he, hz, c5, c3, k4, hb, c7, hcp, k5, hl0, and_self, if_true, if_false]
      ·simp at hs
     ·simp at hs
    ·simp at hs
   ·simp at hs
  ·simp at hs
 ·-- apx
  split at hs
  ·rename_i c hop
   split at hs
   ·rename_i b s len sz cap b2 s2 mm sz2 cap2 ex2 u xu hcal hargs htys
    split at hs
    ·rename_i el hu
     split at hs
     ·rename_i e z ab he hz hb
      split at hs
      ·rename_i xs hxs
       split at hs
       ·rename_i hcond
        simp only [Bool.and_eq_true, Nat.blt_eq, Nat.ble_eq, Bool.not_eq_true'] at hcond
        obtain ⟨⟨⟨⟨c1, c2⟩, c3⟩, c4⟩, c5⟩ := hcond
        have c1 := Nat.eq_of_beq_eq_true c1
        have c3 := Nat.eq_of_beq_eq_true c3
        have c5 := Nat.eq_of_beq_eq_true c5
        simp only [Option.some.injEq, Prod.mk.injEq] at hs
        obtain ⟨rfl, rfl, rfl⟩ := hs
        obtain ⟨hb1, hb2, ⟨olds, ho1, rfl⟩, rfl, rfl, _⟩ := hp
        subst c5 c1
        refine by0 ?_
        have ht0 : c.argTypes[0]? = some u := by
         have : c.argTypes.toList[0]? = some u := by rw [htys]; rfl
         simpa using this
        have ht1 : c.argTypes[1]? = some u := by
         have : c.argTypes.toList[1]? = some u := by rw [htys]; rfl
         simpa using this
        have hnot : ∀ (f : FuncId) (avs : List AV), calleeOf tm c ≠ some (f, avs) := fun f avs hh => by simp [calleeOf, hcal] at hh
        have hcn : calleeOf tm c = none := by
         cases hh : calleeOf tm c with
         | none => rfl
         | some r => exact absurd hh (hnot r.1 r.2)
        have hyn : yieldOf tm c = none := by simp [yieldOf, hcal]
        simp only [stepOp, hop, callOp, hcn, hyn, hcal, hargs, builtinA, ht0, ht1, appendA, lenS?, hu, he, hz, hxs, c2, c3, c4, hb, hb1, hb2, ho1, and_self, if_true, if_false, Bool.false_eq_true]
       ·simp at hs
      ·simp at hs
     ·simp at hs
    ·simp at hs
   ·simp at hs
  ·simp at hs
 ·-- apq
  split at hs
  ·rename_i c hop
   split at hs
   ·rename_i b s len sz cap b2 s2 mm sz2 cap2 ex2 u xu hcal hargs htys
    split at hs
    ·rename_i el hu
     split at hs
     ·rename_i e z ab he hz hb
      split at hs
      ·rename_i xs hxs
       split at hs
       ·rename_i hcond
        simp only [Bool.and_eq_true, Nat.blt_eq, Nat.ble_eq, Bool.not_eq_true'] at hcond
        obtain ⟨⟨⟨⟨⟨⟨⟨⟨c1, c2⟩, c3⟩, c4⟩, c5⟩, c6⟩, c8⟩, c9⟩, c10⟩ := hcond
        have c1 := Nat.eq_of_beq_eq_true c1
        have c3 := Nat.eq_of_beq_eq_true c3
        have c5 := Nat.eq_of_beq_eq_true c5
        have c9 := Nat.eq_of_beq_eq_true c9
        simp only [Option.some.injEq, Prod.mk.injEq] at hs
        obtain ⟨rfl, rfl, rfl⟩ := hs
        obtain ⟨hb1, hb2, hb3, hb4, rfl, rfl, rfl, _⟩ := hp
        subst c5 c1 c9
        refine by0 ?_
        have ht0 : c.argTypes[0]? = some u := by
         have : c.argTypes.toList[0]? = some u := by rw [htys]; rfl
         simpa using this
        have ht1 : c.argTypes[1]? = some u := by
         have : c.argTypes.toList[1]? = some u := by rw [htys]; rfl
         simpa using this
        have hnot : ∀ (f : FuncId) (avs : List AV), calleeOf tm c ≠ some (f, avs) := fun f avs hh => by simp [calleeOf, hcal] at hh
        have hcn : calleeOf tm c = none := by
         cases hh : calleeOf tm c with
         | none => rfl
         | some r => exact absurd hh (hnot r.1 r.2)
        have hyn : yieldOf tm c = none := by simp [yieldOf, hcal]
        have hcp : 0 < cap := by omega
        have hn3 : ¬ (lvl ≤ b ∧ 0 < cap ∧ s + (len + mm) * e.size ≤ ab.n) := fun hh => hb3 hh.2.2
        simp only [stepOp, hop, callOp, hcn, hyn, hcal, hargs, builtinA, ht0, ht1, appendA, lenS?, hu, he, hz, hxs, c2, c3, c4, hb, hb1, hb2, if_neg hn3, and_self, if_true, if_false, Bool.false_eq_true]
        rw [if_pos ⟨c6, c8, hb4, trivial, c10⟩]
       ·simp at hs
      ·simp at hs
     ·simp at hs
    ·simp at hs
   ·simp at hs
  ·simp at hs
 ·-- yd
  rename_i v2 h2
  split at hs
  ·rename_i c hop
   split at hs
   ·rename_i b args hcal hyo
    simp only [Option.some.injEq, Prod.mk.injEq] at hs
    obtain ⟨rfl, rfl, rfl⟩ := hs
    have hcv := callV_yield hop hyo
    unfold yieldOf at hyo
    split at hyo
    ·rename_i f hcf
     split at hyo
     ·rename_i b' hev
      simp only [Option.some.injEq, Prod.mk.injEq] at hyo
      obtain ⟨rfl, rfl⟩ := hyo
      have hfv := evA_sound hT f
      rw [hev] at hfv
      obtain ⟨hbn, hfv'⟩ : b' < m.n ∧ evC t f = _ := hfv
      obtain ⟨fn, tmps, asg, body, hy, hrd⟩ := hp.1 m base w _ (args_sound hT c.args) H G
      refine ⟨by simp [hop], by simp [hop], .inr (.inr ⟨_, fn, tmps, asg, body, ?_, hrd.mono fun y w' ⟨m', hp⟩ => ⟨m', hp, fun h0 => by rw [hcv] at h0; cases h0⟩⟩)⟩
      simp [execOp, hop, resolve, hcf, hfv', Deferred.ofValue, invoke, hy]
     ·simp at hyo
    ·simp at hyo
   ·simp at hs
  ·simp at hs
 ·-- fx
  split at hs
  ·rename_i c' hop
   split at hs
   ·rename_i f args hcal
    split at hs
    ·rename_i fn hfn
     split at hs
     ·simp only [Option.some.injEq, Prod.mk.injEq] at hs
      obtain ⟨rfl, rfl, rfl⟩ := hs
      obtain ⟨ps, he, ha⟩ := call_ext hT hop hcal
      obtain ⟨y, n, hr, hy⟩ := hp.1 m ps w ha
      exact ⟨by simp [hop], by simp [hop], .inl ⟨y, _, .inl (by rw [he]; exact hr), m, (Post.draw H hy).o⟩⟩
     ·simp at hs
    ·simp at hs
   ·simp at hs
  ·simp at hs
 ·-- s2a
  split at hs
  ·rename_i u a hop
   split at hs
   ·rename_i n el b off len sz cap ex hu ha
    split at hs
    ·rename_i hn0
     simp only [Nat.blt_eq] at hn0
     simp only [Option.some.injEq, Prod.mk.injEq] at hs
     obtain ⟨rfl, rfl, rfl⟩ := hs
     obtain ⟨hn, _⟩ := hp
     obtain ⟨y, w', m', r1, r2⟩ := op_s2ap (E := E) (lvl := lvl) hT H (u := u) (a := a) hop (by rw [hop]; simp only [opA, hu, ha, if_pos (And.intro hn hn0)]; rfl)
     exact ⟨by simp [hop], by simp [hop], .inl ⟨y, w', r1, m', r2.o⟩⟩
    ·simp at hs
   ·simp at hs
  ·simp at hs
 ·-- mu
  split at hs
  ·rename_i u p q r hop
   split at hs
   ·rename_i key el b k e hu ha hc hd0
    split at hs
    ·rename_i ab kv d v hm hd hv
     split at hs
     ·rename_i hlb
      simp only [Option.some.injEq, Prod.mk.injEq] at hs
      obtain ⟨rfl, rfl, rfl⟩ := hs
      obtain ⟨hf, hk, _⟩ := hp
      obtain ⟨r', hg, rfl⟩ := Option.map_eq_some_iff.1 hf
      have hX : opA E lvl tm h (.mapUpdate u p q r) = some (.tup [], setL h b (some { ab with ext := .map (putKV k v kv r') })) := by
       simp only [opA, hu, ha, hc, hd0, hm, hd, hv, hlb, hk, Bool.and_self]
       rw [hg]
      obtain ⟨y, w', m', r1, r2⟩ := op_mapUpdate (E := E) (lvl := lvl) hT H hop hX
      exact ⟨by simp [hop], by simp [hop], .inl ⟨y, w', r1, m', r2.o⟩⟩
     ·simp at hs
    ·simp at hs
   ·simp at hs
  ·simp at hs
 ·-- lk
  rename_i v bb
  split at hs
  ·rename_i u p q ok hop
   split at hs
   ·rename_i key el b k hu ha hc
    split at hs
    ·rename_i kv d z hm hd hz
     simp only [Option.some.injEq, Prod.mk.injEq] at hs
     obtain ⟨rfl, rfl, rfl⟩ := hs
     obtain ⟨hf, hk, _⟩ := hp
     have hX : opA E lvl tm h (.lookup u p q ok) = some (match (generalizing := false) ok with | true => .tup [AE.of v, .one (.v (.bool bb))] | false => .e (AE.of v), h) := by
      unfold seeKV at hf
      obtain ⟨r', hg, h2⟩ := Option.map_eq_some_iff.1 hf
      simp only [opA, hu, ha, hc, hm, hd, hz, hk]
      rw [hg]
      rcases r' with _ | ⟨i0, v0⟩
      ·obtain ⟨rfl, rfl⟩ := Prod.mk.inj h2
       cases ok <;> rfl
      ·obtain ⟨rfl, rfl⟩ := Prod.mk.inj h2
       cases ok <;> rfl
     obtain ⟨y, w', m', r1, r2⟩ := op_lookup (E := E) (lvl := lvl) hT H hop hX
     exact ⟨by simp [hop], by simp [hop], .inl ⟨y, w', r1, m', r2.o⟩⟩
    ·simp at hs
   ·simp at hs
  ·simp at hs
end
end Go.Ev
end
