/-
  Runs over open values: the kernel follows the code, and where a test hangs on an open value it takes the answer that it is given, and notes what is then owed.
-/
import Derived.Test.YtgplabfjldndgaaGreatDoorEvP
import Derived.Stop.BytesEq
namespace Go.Ev
open Go.RowKit
noncomputable section

/-- What an operation is said to give where it looks deep. -/
inductive DAns where
  | len
  | ix (k : Nat)
  | fa
  | nc
  | ld (d : DT)
  | ldn (l : List DT)
  | sl (l u : Nat) (r : List DT)
  | z
  | cl
  | c1 (v : AV)
  | ap (n m : Nat) (xs l : List AC) (L N : Nat)

/-- What an operation is said to give where the run cannot see it. -/
inductive Ans where
  | go
  | rn (x : AV)
  | ld (c : AC)
  | ldn (l : List AC)
  | ix (k : Nat)
  | st (l : List AC)
  | quo (n : Int)
  | mk (n m : Nat) (N : Nat) (l : List AC)
  | app (L N : Nat) (l : List AC)
  | c0 (v : AV)
  | cl (e : List Nat) (fl : List Bool) (args : List AV) (hin : Heap) (v : AV) (hout : Heap) (v' : AV) (fl2 : List Bool) (nb : Heap)
  | cw (v : AV) (h' : Heap)
  | el (c : AC)
  | cpy (L N : Nat) (l : List AC)
  | apz
  | cmp (b : Bool) (xs ys : List UInt8)
  | oq
  | pk (b : Bool)
  | len (n : Nat)
  | cpu (n N : Nat) (l : List AC) (b : Bool)
  | fw
  | str (bs : List UInt8)
  | clq (e : List Nat) (fl : List Bool) (args : List AV) (hin : Heap) (v : AV) (hout : Heap) (v' : AV) (fl2 : List Bool) (nb : Heap)
  | eqs (b : Bool)
  | slo (l u o' n' c' : Nat)
  | s2a
  | fwq
  | sap
  | d (a : DAns)
  | fb (c : AC)
  | fc (c : AC)
  | fx (c : AC)

/-- a slice with so many elements -/
def LenIs (x : AV) (n : Nat) : Prop := (∃ b o sz cap ex, x = .e (.one (.slc b o n sz cap ex))) ∨ ∃ p c, x = .e (.one (.v (.slice p n c)))
def isOq : Ans → Bool
  | .oq => true
  | .fwq => true
  | _ => false
def AllP (l : List Prop) : Prop := List.rec (motive := fun _ => Prop) True (fun p _ ih => p ∧ ih) l

/-- A call, at a heap of its own: the blocks from lvl on may be written, and all of them are still there behind it. -/
def COut (E : Env) (lvl : Nat) (hin : Heap) (f : FuncId) (args : List AV) (v : AV) (hout : Heap) : Prop :=
  ∀ (m : M) (base : Nat) (w : World) (argsC : Array Value), All2 (VR m) args argsC.toList → HR m base lvl hin w → GR E.gl base w →
    Calls E.P f argsC w fun e w' => ∃ y, e = .returned y ∧ ∃ m', PostG m base lvl w v hout y w' m'

/-- Operations on numbers, whatever the tape says of them: what they give. -/
def BinOk (P : Program) (op : BinOp) (t : TypeId) (x z : Operand) (cx cz c : AC) : Prop :=
  ∀ (m : M) (p q : Value) (w : World), CR m cx p → CR m cz q → ∃ y n, (do eqGuard op t x z p q; binOp op t p q : Sem Value).run P w = .ok y { w with drawn := n } ∧ CR m c y
def ConvOk (P : Program) (s d : TypeId) (cx c : AC) : Prop :=
  ∀ (m : M) (p : Value) (w : World), CR m cx p → ∃ y n, (convert s d p).run P w = .ok y { w with drawn := n } ∧ CR m c y
def ExtOk (P : Program) (f : FuncId) (args : List AV) (c : AC) : Prop :=
  ∀ (m : M) (ps : Array Value) (w : World), All2 (VR m) args ps.toList → ∃ y n, (callFunc f ps).run P w = .ok (.value y) { w with drawn := n } ∧ CR m c y

/-- a bound of a slice, or what stands for it -/
def boundA (tm : Tm) (x : Option Operand) (d : Int) : Option Int :=
  match x with
  | some p => intN? (evA tm p)
  | none => some d
theorem bounds_of {tm : Tm} {lo hi : Option Operand} {len cap l u : Nat} (h1 : boundA tm lo 0 = some (Int.ofNat l)) (h2 : boundA tm hi (Int.ofNat len) = some (Int.ofNat u)) (h : l ≤ u ∧ u ≤ cap) :
    sliceBoundsA len cap (lo.map (evA tm)) (hi.map (evA tm)) = some (l, u) := by
  have fin : ∀ (a b : Int), a = Int.ofNat l → b = Int.ofNat u → (if 0 ≤ a ∧ a ≤ b ∧ b ≤ (cap : Int) then some (a.toNat, b.toNat) else none) = some (l, u) := by
    intro a b ha hb
    subst ha hb
    simp only [Int.ofNat_eq_natCast]
    rw [if_pos (by omega)]
    simp
  unfold sliceBoundsA
  cases lo with
  | none =>
    have g1 := Option.some.inj h1
    cases hi with
    | none => exact fin 0 len g1 (Option.some.inj h2)
    | some q =>
      have h2 : intN? (evA tm q) = some (Int.ofNat u) := h2
      simp only [Option.map_some, Option.map_none, h2]
      exact fin 0 _ g1 rfl
  | some p =>
    have h1 : intN? (evA tm p) = some (Int.ofNat l) := h1
    cases hi with
    | none =>
      simp only [Option.map_some, Option.map_none, h1]
      exact fin _ len rfl (Option.some.inj h2)
    | some q =>
      have h2 : intN? (evA tm q) = some (Int.ofNat u) := h2
      simp only [Option.map_some, h1, h2]
      exact fin _ _ rfl rfl
/-- Whether two structs are equal, whatever their open cells are. -/
def EqOk (E : Env) (t : TypeId) (l1 l2 : List AC) (b : Bool) : Prop :=
  ∀ (m : M) (c1 c2 : Array Value) (w : World), All2 (CR m) l1 c1.toList → All2 (CR m) l2 c2.toList → (Op.equalIn 10000 t (.agg c1) (.agg c2)).run E.P w = .ok b w

/-- the cell of a byte -/
def u8c (b : UInt8) : AC := .v (.int .u8 b.toNat)
/-- a slice without elements -/
def emptyS : AV → Bool
  | .e (.one (.v (.slice _ n _))) => Nat.beq n 0
  | .e (.one (.slc _ _ n _ _ _)) => Nat.beq n 0
  | _ => false
def isSlc : AV → Bool
  | .e (.one (.v (.slice none n c))) => Nat.beq n 0 && Nat.beq c 0
  | .e (.one (.slc _ _ _ _ _ _)) => true
  | _ => false
def noRefs (a : AV) : Bool := match a.refs with | [] => true | _ => false
/-- cells without references -/
def FlatC (l : List AC) : Prop := ∀ c ∈ l, ∃ x, c = .v x
/-- blocks under new numbers; those that are marked hold no references -/
def renFl (f : Nat → Nat) : List Bool → Heap → List (Option (Option AB))
  | true :: fs, b :: r => some b :: renFl f fs r
  | false :: fs, b :: r => some (b.map (AB.ren f)) :: renFl f fs r
  | _, _ => []
def FlatB : Option AB → Prop
  | some a => FlatC a.cells
  | none => True
def flatP : List Bool → Heap → Prop
  | true :: fs, b :: r => FlatB b ∧ flatP fs r
  | false :: fs, _ :: r => flatP fs r
  | _, _ => True

/-- a copy of a slice's elements: b, if there are none -/
def CopyOk (h : Heap) (sz bytes : Nat) (x : AV) (n : Nat) (l : List AC) (b : Bool) : Prop :=
  (b = true ∧ n = 0 ∧ l = [] ∧ ∃ ds s0, x = .e (.one (.dp (.s ds 0 s0)))) ∨
  (b = false ∧ 0 < n ∧ small (0 + n) sz bytes = true ∧ l.all AC.isOne = true ∧ ∃ ds, x = .e (.one (.dp (.s ds n sz))) ∧ l = ds.map DT.ac ∧ ds.length = n * sz) ∨
  (b = true ∧ n = 0 ∧ l = [] ∧ ∃ p c, x = .e (.one (.v (.slice p 0 c)))) ∨
  (b = false ∧ 0 < n ∧ small (0 + n) sz bytes = true ∧ l.all AC.isOne = true ∧ ∃ b2 s2 cap2 ex2 a2, x = .e (.one (.slc b2 s2 n sz cap2 ex2)) ∧ blk h b2 = some a2 ∧ takeL (dropL a2.cells s2) (n * sz) = some l)
/-- the bytes of a slice -/
def StrOk (h : Heap) (x : AV) (bs : List UInt8) : Prop :=
  (bs = [] ∧ ∃ c, x = .e (.one (.v (.slice none 0 c)))) ∨
  (∃ b o sz cap ex, x = .e (.one (.slc b o bs.length sz cap ex)) ∧ (bs = [] ∨ (sz = 1 ∧ ∃ a, blk h b = some a ∧ takeL (dropL a.cells o) bs.length = some (bs.map u8c))))
/-- nothing in it leads to a block from K on -/
def OpqC (K : Nat) (x : AC) : Prop := ∀ b ∈ x.refs, b < K

def nthE (e : List Nat) (L nin i : Nat) : Nat := if i < nin then getD0 e i else L + (i - nin)
def plainB : Option AB → Bool
  | none => true
  | some a => match a.ext with | .cells => true | _ => false

/-- blocks of cells, each -/
def plainP : Heap → Prop
  | [] => True
  | b :: r => plainB b = true ∧ plainP r

/-- operations that look deep -/
def dV (E : Env) (lvl : Nat) (h : Heap) (tm : Tm) (o : Oper) (a : DAns) : Option (AV × Heap × List Prop) :=
  match a with
  | .len => match o.op with
    | .call c => match c.callee, c.args.toList.map (evA tm), c.argTypes.toList with
      | .builtin .len, [.e (.one (.dp (.s _ n _)))], [t] => match E.P.underlying t with
        | some (.slice _) => some (.e (.one (.v (.int .i64 n))), h, [])
        | _ => none
      | _, _, _ => none
    | _ => none
  | .ix k => match o.op with
    | .indexAddr t p i => match evA tm p, intOf? (evA tm i), E.P.underlying t with
      | .e (.one (.dp (.s cells len sz))), some (_, n), some (.slice el) => match E.P.info? el with
        | some e => match Nat.beq e.size sz with
          | true => some (.e (.one (.dp (.p cells k))), h, [0 ≤ n ∧ n < len, n.toNat * sz = k])
          | false => none
        | none => none
      | _, _, _ => none
    | _ => none
  | .fa => match o.op with
    | .fieldAddr s p f => match evA tm p, E.P.underlying s with
      | .e (.one (.dp (.p cells k))), some (.struct fs) => match fs[f]? with
        | some fd => match E.P.info? fd.type with
          | some i => match Nat.beq i.size 0 with
            | false => some (.e (.one (.dp (.p cells (k + fd.offset)))), h, [])
            | true => none
          | none => none
        | none => none
      | _, _ => none
    | _ => none
  | .nc => match o.op with
    | .nilCheck p => match evA tm p with
      | .e (.one (.dp (.p cells k))) => some (.e (.one (.dp (.p cells k))), h, [])
      | _ => none
    | _ => none
  | .ld d => match o.op with
    | .load t p => match evA tm p, E.P.underlying t, E.P.info? t with
      | .e (.one (.dp (.p cells k))), some u, some _ => match isAggD u with
        | false => some (.e (.one d.ac), h, [getL cells k = some d])
        | true => none
      | _, _, _ => none
    | _ => none
  | .ldn l => match o.op with
    | .load t p => match evA tm p, E.P.underlying t, E.P.info? t with
      | .e (.one (.dp (.p cells k))), some u, some i => match isAggD u with
        | true => some (.e (.agg (l.map DT.ac)), h, [takeL (dropL cells k) i.size = some l])
        | false => none
      | _, _, _ => none
    | _ => none
  | .sl l u r => match o.op with
    | .slice t p lo hi none => match E.P.underlying t, evA tm p with
      | some (.slice el), .e (.one (.dp (.s cells n sz))) => match E.P.info? el, boundA tm lo 0, boundA tm hi (Int.ofNat n) with
        | some e, some l', some u' => match Nat.beq e.size sz with
          | true => some (.e (.one (.dp (.s r (u - l) sz))), h, [l' = Int.ofNat l, u' = Int.ofNat u, l ≤ u ∧ u ≤ n, takeL (dropL cells (l * sz)) ((u - l) * sz) = some r])
          | false => none
        | _, _, _ => none
      | _, _ => none
    | _ => none
  | .z => match o.op with
    | .slice t p lo (some hi) (some mx) => match E.P.underlying t, evA tm p with
      | some (.slice el), .e (.one (.dp (.s _ _ _))) => match E.P.info? el, boundA tm lo 0, intN? (evA tm hi), intN? (evA tm mx) with
        | some _, some 0, some 0, some 0 => some (.e (.one (.dp .z)), h, [])
        | _, _, _, _ => none
      | _, _ => none
    | _ => none
  | .cl => match o.op with
    | .call c => match c.callee, c.args.toList.map (evA tm), c.argTypes.toList with
      | .builtin .append, [.e (.one (.dp .z)), .e (.one (.dp (.s cells n sz)))], [t, xt] => match E.P.underlying t with
        | some (.slice el) => match E.P.info? el, zeroA E el with
          | some e, some z => match Nat.beq t xt && Nat.blt 0 e.size && Nat.beq (lenL z) e.size && Nat.beq sz e.size with
            | true => some (.e (.one (.dp (.s cells n sz))), h, [small n e.size e.bytes = true])
            | false => none
          | _, _ => none
        | _ => none
      | _, _, _ => none
    | _ => none
  | .c1 v => match o.op with
    | .call c => match calleeOf tm c with
      | some (f, args) => match E.P.funcs[f]? with
        | some fn => match fn.body.isSome with
          | true => some (v, h, [COut E (lenL h) h f args v h, v.refs = []])
          | false => none
        | none => none
      | none => none
    | _ => none
  | .ap n m xs l L N => match o.op with
    | .call c => match c.callee, c.args.toList.map (evA tm), c.argTypes.toList with
      | .builtin .append, [.e (.one (.slc b s len sz cap false)), .e (.one (.dp (.s ds m' sz2)))], [t, xt] => match E.P.underlying t with
        | some (.slice el) => match E.P.info? el, zeroA E el, blk h b with
          | some e, some z, some ab => match Nat.beq t xt && Nat.blt 0 e.size && Nat.beq (lenL z) e.size && Nat.beq sz e.size && Nat.beq sz2 e.size && Nat.ble lvl b && Nat.beq s 0 && Nat.beq ab.elem el && !ab.full with
            | true => some (.e (.one (.slc (lenL h) 0 L sz L false)), appL (setL h b none) [some ⟨l, N, el, false, .cells⟩], [m' = m, len = n, 0 < m, xs = ds.map DT.ac, ds.length = m * sz, xs.all AC.isOne = true, ¬ n + m ≤ cap, small (n + m) e.size e.bytes = true, ab.n = n * sz, appL ab.cells xs = l, n + m = L, L * sz = N])
            | false => none
          | _, _, _ => none
        | _ => none
      | _, _, _ => none
    | _ => none

def valV (E : Env) (rec : RunT) (lvl : Nat) (h : Heap) (tm : Tm) (o : Oper) (a : Ans) : Option (AV × Heap × List Prop) :=
  match a with
  | .go => match stepOp E rec lvl h tm o with
    | some (x, h') => some (x, h', [])
    | none => none
  | .rn y => match stepOp E rec lvl h tm o with
    | some (x, h') => some (y, h', [x = y])
    | none => none
  | .ld c => match o.op with
    | .load t p => match evA tm p, E.P.underlying t, E.P.info? t with
      | .e (.one (.ptr b k)), some d, some _ => match blk h b, isAggD d with
        | some ab, false => some (.e (.one c), h, [getL ab.cells k = some c])
        | _, _ => none
      | _, _, _ => none
    | _ => none
  | .ldn l => match o.op with
    | .load t p => match evA tm p, E.P.underlying t, E.P.info? t with
      | .e (.one (.ptr b k)), some d, some i => match blk h b, isAggD d with
        | some ab, true => some (.e (.agg l), h, [takeL (dropL ab.cells k) i.size = some l])
        | _, _ => none
      | _, _, _ => none
    | _ => none
  | .ix k => match o.op with
    | .indexAddr t p i => match evA tm p, intOf? (evA tm i), E.P.underlying t with
      | .e (.one (.ptr b s)), some (_, n), some (.array len el) => match E.P.info? el with
        | some e => some (.e (.one (.ptr b k)), h, [0 ≤ n ∧ n < len, s + n.toNat * e.size = k])
        | none => none
      | .e (.one (.slc b s len sz _ _)), some (_, n), some (.slice el) => match E.P.info? el with
        | some e => match Nat.beq e.size sz with
          | true => some (.e (.one (.ptr b k)), h, [0 ≤ n ∧ n < len, s + n.toNat * sz = k])
          | false => none
        | none => none
      | _, _, _ => none
    | _ => none
  | .st l => match o.op with
    | .store t p x => match evA tm p, evA tm x with
      | .e (.one (.ptr b s)), .e x => match blk h b, E.P.info? t, x.cells? with
        | some ab, some i, some cs => match Nat.ble lvl b && Nat.beq (lenL cs) i.size && cs.all AC.isOne with
          | true => some (.tup [], setL h b (some { ab with cells := l }), [s + i.size ≤ ab.n, overL cs ab.cells s = l])
          | false => none
        | _, _, _ => none
      | _, _ => none
    | _ => none
  | .quo r => match o.op with
    | .binOp op _ x y _ => match evA tm x, evA tm y with
      | .e (.one (.v (.int k p))), .e (.one (.v (.int j q))) => match decide (k = j), op with
        | true, .quo => some (.e (.one (.v (.int k r))), h, [q ≠ 0, wrapF k (p.tdiv q) = r])
        | true, .rem => some (.e (.one (.v (.int k r))), h, [q ≠ 0, p.tmod q = r])
        | _, _ => none
      | _, _ => none
    | _ => none
  | .mk n m N l => match o.op with
    | .makeSlice t p c => match E.P.underlying t, intOf? (evA tm p), intOf? (evA tm c) with
      | some (.slice el), some (_, n'), some (_, m') => match E.P.info? el, zeroA E el with
        | some e, some z => match Nat.beq (lenL z) e.size && Nat.blt 0 e.size with
          | true => some (.e (.one (.slc (lenL h) 0 n e.size m true)), appL h [some ⟨l, N, el, true, .cells⟩], [0 ≤ n' ∧ n' ≤ m', small m'.toNat e.size e.bytes = true, n'.toNat = n, m'.toNat = m, m * e.size = N, repeatC z m = l])
          | false => none
        | _, _ => none
      | _, _, _ => none
    | _ => none
  | .app L N l => match o.op with
    | .call c => match c.callee, c.args.toList.map (evA tm), c.argTypes.toList with
      | .builtin .append, [.e (.one (.slc b s len sz cap false)), .e (.one (.slc b2 s2 m sz2 cap2 ex2))], [t, xt] => match E.P.underlying t with
        | some (.slice el) => match E.P.info? el, zeroA E el, blk h b with
          | some e, some z, some ab => match srcCells h e.size m (.e (.one (.slc b2 s2 m sz2 cap2 ex2))) with
            | some xs => match Nat.beq t xt && Nat.blt 0 e.size && Nat.beq (lenL z) e.size && xs.all AC.isOne && Nat.beq sz e.size && Nat.ble lvl b && Nat.beq s 0 && Nat.blt 0 m && Nat.beq ab.elem el && !ab.full with
              | true => some (.e (.one (.slc (lenL h) 0 L sz L false)), appL (setL h b none) [some ⟨l, N, el, false, .cells⟩], [¬ len + m ≤ cap, small (len + m) e.size e.bytes = true, ab.n = len * sz, appL ab.cells xs = l, len + m = L, L * sz = N])
              | false => none
            | none => none
          | _, _, _ => none
        | _ => none
      | _, _, _ => none
    | _ => none
  | .c0 v => match o.op with
    | .call c => match calleeOf tm c with
      | some (f, args) => match E.P.funcs[f]? with
        | some fn => match fn.body.isSome && args.all noRefs with
          | true => some (v, h, [COut E 0 [] f args v [], v.refs = []])
          | false => none
        | none => none
      | none => none
    | _ => none
  | .cl e fl args' hin v hout v' fl2 nb => match o.op with
    | .call c => match calleeOf tm c with
      | some (f, args) => match E.P.funcs[f]? with
        | some fn => match fn.body.isSome && Nat.beq (lenL e) (lenL hin) && (e.all fun b => Nat.blt b (lenL h)) && (dropL hout (lenL hin)).all plainB && hin.all plainB && nb.all plainB && Nat.beq (lenL fl) (lenL hin) && Nat.beq (lenL fl2) (lenL (dropL hout (lenL hin))) with
          | true => some (v', appL h nb, [COut E (lenL hin) hin f args' v hout, args'.map (AV.ren (nthE e (lenL h) (lenL hin))) = args, e.map (getL h) = renFl (nthE e (lenL h) (lenL hin)) fl hin, flatP fl hin,
              renFl (nthE e (lenL h) (lenL hin)) fl2 (dropL hout (lenL hin)) = nb.map some, flatP fl2 (dropL hout (lenL hin)), v.ren (nthE e (lenL h) (lenL hin)) = v'])
          | false => none
        | none => none
      | none => none
    | _ => none
  | .el c => match o.op with
    | .index t x y => match evA tm x, intOf? (evA tm y), E.P.underlying t with
      | .e (.agg l), some (_, n), some (.array len el) => match E.P.underlying el, E.P.info? el with
        | some d, some i => match isAggD d, Nat.beq i.size 1 with
          | false, true => some (.e (.one c), h, [0 ≤ n ∧ n < len, getL l n.toNat = some c])
          | _, _ => none
        | _, _ => none
      | _, _, _ => none
    | _ => none
  | .cpy L N l => match o.op with
    | .call c => match c.callee, c.args.toList.map (evA tm), c.argTypes.toList with
      | .builtin .append, [.e (.one (.slc b _s 0 sz 0 true)), .e (.one (.slc b2 s2 m sz2 _cap2 _ex2))], [t, xt] => match E.P.underlying t with
        | some (.slice el) => match E.P.info? el, zeroA E el, blk h b, blk h b2 with
          | some e, some z, some _ab, some a2 => match Nat.beq t xt && Nat.blt 0 e.size && Nat.beq (lenL z) e.size && Nat.beq sz e.size && Nat.beq sz2 e.size with
            | true => some (.e (.one (.slc (lenL h) 0 L sz L false)), appL h [some ⟨l, N, el, false, .cells⟩], [0 < m, small (0 + m) e.size e.bytes = true, takeL (dropL a2.cells s2) (m * sz) = some l, l.all AC.isOne = true, 0 + m = L, L * sz = N])
            | false => none
          | _, _, _, _ => none
        | _ => none
      | _, _, _ => none
    | _ => none
  | .apz => match o.op with
    | .call c => match c.callee, c.args.toList.map (evA tm), c.argTypes.toList with
      | .builtin .append, [s, x], [t, xt] => match E.P.underlying t, E.P.underlying xt, (match E.P.underlying t with | some (.slice el) => E.P.info? el | _ => none) with
        | some (.slice _), some (.slice _), some _ => match isSlc s && emptyS x with
          | true => some (s, h, [])
          | false => none
        | _, _, _ => none
      | _, _, _ => none
    | _ => none
  | .cmp b xs ys => match o.op with
    | .binOp op t x y _ => match evA tm x, evA tm y, E.P.underlying t with
      | .e (.agg l1), .e (.agg l2), some (.array n el) => match E.P.underlying el, E.P.info? el, E.P.eqGuardType E.P.depth t with
        | some (.int .u8), some i, false => match Nat.beq i.size 1, op with
          | true, .eql => some (.e (.one (.v (.bool b))), h, [l1 = xs.map u8c, l2 = ys.map u8c, xs.length = n, ys.length = n, (xs == ys) = b])
          | true, .neq => some (.e (.one (.v (.bool b))), h, [l1 = xs.map u8c, l2 = ys.map u8c, xs.length = n, ys.length = n, (!(xs == ys)) = b])
          | _, _ => none
        | _, _, _ => none
      | _, _, _ => none
    | _ => none
  | .oq => match stepOp E rec lvl h tm o with
    | some (x, h') => some (x, h', [])
    | none => none
  | .pk b => match o.op with
    | .pick c p q => match evA tm c with
      | .e (.one (.v (.bool t))) => some (match b with | true => evA tm p | false => evA tm q, h, [t = b])
      | _ => none
    | _ => none
  | .len n => match o.op with
    | .call c => match c.callee, c.args.toList.map (evA tm), c.argTypes.toList with
      | .builtin .len, [x], [t] => match E.P.underlying t with
        | some (.slice _) => some (.e (.one (.v (.int .i64 n))), h, [LenIs x n])
        | _ => none
      | _, _, _ => none
    | _ => none
  | .cpu n N l b => match o.op with
    | .call c => match c.callee, c.args.toList.map (evA tm), c.argTypes.toList with
      | .builtin .append, [.e (.one (.slc b0 _s 0 sz 0 true)), x], [t, xt] => match E.P.underlying t, E.P.underlying xt with
        | some (.slice el), some (.slice _) => match E.P.info? el, zeroA E el, blk h b0 with
          | some e, some z, some ab => match Nat.beq t xt && Nat.blt 0 e.size && Nat.beq (lenL z) e.size && Nat.beq sz e.size && Nat.ble lvl b0 && Nat.beq ab.elem el && ab.full && Nat.beq ab.n 0 with
            | true => some (.e (.one (.slc (lenL h) 0 n sz n b)), appL (setL h b0 none) [some ⟨l, N, el, b, .cells⟩], [CopyOk h e.size e.bytes x n l b, n * sz = N])
            | false => none
          | _, _, _ => none
        | _, _ => none
      | _, _, _ => none
    | _ => none
  | .fw => match opA E lvl tm h o.op with
    | some (x, h') => some (x, h', [])
    | none => none
  | .fwq => match opA E lvl tm h o.op with
    | some (x, h') => some (x, h', [])
    | none => none
  | .cw v h' => match o.op with
    | .call c => match calleeOf tm c with
      | some (f, args) => match E.P.funcs[f]? with
        | some fn => match fn.body.isSome with
          | true => some (v, h', [COut E lvl h f args v h'])
          | false => none
        | none => none
      | none => none
    | _ => none
  | .str bs => match o.op with
    | .convert s d x => match E.P.underlying s, E.P.underlying d with
      | some (.slice el), some .string => match E.P.underlying el with
        | some (.int .u8) => some (.e (.one (.v (.string ⟨bs.toArray⟩))), h, [StrOk h (evA tm x) bs])
        | _ => none
      | _, _ => none
    | _ => none
  | .clq e fl args' hin v hout v' fl2 nb => match o.op with
    | .call c => match calleeOf tm c with
      | some (f, args) => match E.P.funcs[f]? with
        | some fn => match fn.body.isSome && Nat.beq (lenL e) (lenL hin) && (e.all fun b => Nat.blt b (lenL h)) && Nat.beq (lenL fl) (lenL hin) && Nat.beq (lenL fl2) (lenL (dropL hout (lenL hin))) with
          | true => some (v', appL h nb, [COut E (lenL hin) hin f args' v hout, args'.map (AV.ren (nthE e (lenL h) (lenL hin))) = args, e.map (getL h) = renFl (nthE e (lenL h) (lenL hin)) fl hin, flatP fl hin,
              renFl (nthE e (lenL h) (lenL hin)) fl2 (dropL hout (lenL hin)) = nb.map some, flatP fl2 (dropL hout (lenL hin)), v.ren (nthE e (lenL h) (lenL hin)) = v', plainP hin, plainP (dropL hout (lenL hin)), plainP nb])
          | false => none
        | none => none
      | none => none
    | _ => none
  | .eqs b => match o.op with
    | .binOp op t x y _ => match evA tm x, evA tm y, op, E.P.eqGuardType E.P.depth t with
      | .e (.agg l1), .e (.agg l2), .eql, false => some (.e (.one (.v (.bool b))), h, [EqOk E t l1 l2 b])
      | .e (.agg l1), .e (.agg l2), .neq, false => some (.e (.one (.v (.bool b))), h, [EqOk E t l1 l2 (!b)])
      | _, _, _, _ => none
    | _ => none
  | .slo l u o' n' c' => match o.op with
    | .slice t x lo hi none => match E.P.underlying t, evA tm x with
      | some (.slice el), .e (.one (.slc b o len sz cap ex)) => match E.P.info? el, boundA tm lo 0, boundA tm hi (Int.ofNat len) with
        | some e, some l', some u' => match Nat.beq e.size sz with
          | true => some (.e (.one (.slc b o' n' sz c' ex)), h, [l' = Int.ofNat l, u' = Int.ofNat u, l ≤ u ∧ u ≤ cap, o' = o + l * sz, n' = u - l, c' = cap - l])
          | false => none
        | _, _, _ => none
      | _, _ => none
    | _ => none
  | .sap => match o.op with
    | .slice t x none none none => match E.P.underlying t, evA tm x with
      | some (.array n el), .e (.one (.ptr b off)) => match E.P.info? el, blk h b with
        | some e, some ab => match Nat.ble n 2000000 with
          | true => some (.e (.one (.slc b off n e.size n true)), h, [off + n * e.size ≤ ab.n])
          | false => none
        | _, _ => none
      | _, _ => none
    | _ => none
  | .d a => dV E lvl h tm o a
  | .fb c => match o.op with
    | .binOp op t x z _ => match evA tm x, evA tm z with
      | .e (.one cx), .e (.one cz) => some (.e (.one c), h, [BinOk E.P op t x z cx cz c])
      | _, _ => none
    | _ => none
  | .fc c => match o.op with
    | .convert s d x => match evA tm x with
      | .e (.one cx) => some (.e (.one c), h, [ConvOk E.P s d cx c])
      | _ => none
    | _ => none
  | .fx c => match o.op with
    | .call c' => match calleeOf tm c' with
      | some (f, args) => match E.P.funcs[f]? with
        | some fn => match fn.body.isSome with
          | false => some (.e (.one c), h, [ExtOk E.P f args c])
          | true => none
        | none => none
      | none => none
    | _ => none
  | .s2a => match o.op with
    | .sliceToArrayPointer t x => match E.P.underlying t, evA tm x with
      | some (.array n _), .e (.one (.slc b o len _ _ _)) => match Nat.blt 0 n with
        | true => some (.e (.one (.ptr b o)), h, [n ≤ len])
        | false => none
      | _, _ => none
    | _ => none

def ansOf (l : List (Nat × Ans)) (i : Nat) : Ans := List.rec (motive := fun _ => Ans) .go (fun p _ ih => if Nat.beq p.1 i then p.2 else ih) l
def boolAt (l : List (Nat × Bool)) (i : Nat) : Option Bool := List.rec (motive := fun _ => Option Bool) none (fun p _ ih => if Nat.beq p.1 i then some p.2 else ih) l

/-- is an operation's guard met? -/
def wantV (ops : Array Oper) (tm : Tm) (o : Oper) (g : Option Bool) : Bool × List Prop :=
  match g with
  | none => (wantedA ops tm o, [])
  | some b => match o.guard with
    | none => (true, [])
    | some (j, want) => match (ops[j]?).bind (·.dst) with
      | some d => match getL tm d with
        | some (.e (.one (.v (.bool c)))) => (b, [(c == want) = b])
        | _ => (false, [])
      | none => (false, [])

def opsV (E : Env) (rec : RunT) (a : List (Nat × Ans)) (g : List (Nat × Bool)) (lvl : Nat) (ops : Array Oper) (l : List Oper) : Nat → Heap → Tm → Option (Heap × Tm × List Prop) :=
  List.rec (motive := fun _ => Nat → Heap → Tm → Option (Heap × Tm × List Prop)) (fun _ h tm => some (h, tm, []))
    (fun o _ ih i h tm => match wantV ops tm o (boolAt g i) with
      | (true, q) => (match valV E rec lvl h tm o (ansOf a i) with
        | some (x, h', ps) => (match ih (Nat.succ i) h' (putT tm o.dst x) with
          | some (h2, tm2, qs) => some (h2, tm2, q ++ (ps ++ qs))
          | none => none)
        | none => none)
      | (false, q) => (match ih (Nat.succ i) h (putT tm o.dst (.tup [])) with
          | some (h2, tm2, qs) => some (h2, tm2, q ++ qs)
          | none => none)) l

def passAV (E : Env) (rec : RunT) (a : List (Nat × Ans)) (g : List (Nat × Bool)) (ops : Array Oper) (h : Heap) (l : List Nat) : Tm → Option (Tm × List Prop) :=
  List.rec (motive := fun _ => Tm → Option (Tm × List Prop)) (fun tm => some (tm, [])) (fun i _ ih tm => match ops[i]? with
    | some o => (match wantV ops tm o (boolAt g i) with
      | (true, q) => (match valV E rec (lenL h) h tm o (ansOf a i) with
        | some (x, _, ps) => (match isOq (ansOf a i) with
          | true => (match ih (putT tm o.dst x) with
            | some (tm2, qs) => some (tm2, q ++ (ps ++ (((refsBelow (lenL h) x.refs && (!callV o || x.flat)) = true) :: qs)))
            | none => none)
          | false => if refsBelow (lenL h) x.refs && (!callV o || x.flat) then (match ih (putT tm o.dst x) with
            | some (tm2, qs) => some (tm2, q ++ (ps ++ qs))
            | none => none) else none)
        | none => none)
      | (false, q) => (match ih (putT tm o.dst (.tup [])) with
          | some (tm2, qs) => some (tm2, q ++ qs)
          | none => none))
    | none => none) l

def passBV (E : Env) (rec : RunT) (a : List (Nat × Ans)) (g : List (Nat × Bool)) (lvl : Nat) (ops : Array Oper) (l : List Nat) : Heap → Tm → Option (Heap × Tm × List Prop) :=
  List.rec (motive := fun _ => Heap → Tm → Option (Heap × Tm × List Prop)) (fun h tm => some (h, tm, [])) (fun i _ ih h tm => match ops[i]? with
    | some o => (match wantV ops tm o (boolAt g i) with
      | (true, q) => (match valV E rec lvl h tm o (ansOf a i) with
        | some (x, h', ps) => (match ih h' (putT tm o.dst x) with
          | some (h2, tm2, qs) => some (h2, tm2, q ++ (ps ++ qs))
          | none => none)
        | none => none)
      | (false, q) => (match ih h (putT tm o.dst (.tup [])) with
          | some (h2, tm2, qs) => some (h2, tm2, q ++ qs)
          | none => none))
    | none => none) l

def segsV (E : Env) (rec : RunT) (a : List (Nat × Ans)) (g : List (Nat × Bool)) (lvl : Nat) (ops : Array Oper) (l : List Seg) : Heap → Tm → Option (Heap × Tm × List Prop) :=
  List.rec (motive := fun _ => Heap → Tm → Option (Heap × Tm × List Prop)) (fun h tm => some (h, tm, [])) (fun p _ ih h tm => match passAV E rec a g ops h p.a tm with
    | some (tm1, q1) => match passBV E rec a g (lenL h) ops p.b1 h tm1 with
      | some (h2, tm2, q2) => match passBV E rec a g lvl ops p.b2 h2 tm2 with
        | some (h3, tm3, q3) => (match ih h3 tm3 with
          | some (h4, tm4, q4) => some (h4, tm4, q1 ++ (q2 ++ ((aliveLe h h2 = true) :: (q3 ++ q4))))
          | none => none)
        | none => none
      | none => none
    | none => none) l

def drawV (E : Env) (rec : RunT) (a : List (Nat × Ans)) (g : List (Nat × Bool)) (lvl : Nat) (ops : Array Oper) (h : Heap) (tm : Tm) : Option (Heap × Tm × List Prop) :=
  match planOf E.P ops with
  | some l => segsV E rec a g lvl ops l h tm
  | none => none

/-- How a piece of a frame is run. -/
inductive SAns where
  | run (n : Nat)
  | cond (b : Bool)
  | ops (a : List (Nat × Ans)) (g : List (Nat × Bool))

def stepV (E : Env) (rec : RunT) (lvl : Nat) (a : SAns) (s : St) : Option (St × List Prop) :=
  match a with
  | .run n => match stepsS E rec lvl n s with
    | some s' => some (s', [])
    | none => none
  | .cond b => match s.todo with
    | .code (.cond c x y) :: k => match evA s.tm c with
      | .e (.one (.v (.bool t))) => some (⟨s.heap, .code (match b with | true => x | false => y) :: k, s.tm⟩, [t = b])
      | _ => none
    | _ => none
  | .ops l g => match s.todo with
    | .code (.region _ ops draw) :: k => match (match draw with | true => drawV E rec l g lvl ops s.heap s.tm | false => opsV E rec l g lvl ops ops.toList 0 s.heap s.tm) with
      | some (h', tm', ps) => some (⟨h', k, tm'⟩, ps)
      | none => none
    | _ => none

def chainV (E : Env) (rec : RunT) (lvl : Nat) (l : List SAns) : St → Option (St × List Prop) :=
  List.rec (motive := fun _ => St → Option (St × List Prop)) (fun s => some (s, [])) (fun a _ ih s => match stepV E rec lvl a s with
    | some (s1, ps) => (match ih s1 with
      | some (s2, qs) => some (s2, ps ++ qs)
      | none => none)
    | none => none) l

/-- The maps agree on the first blocks. -/
structure M.leK (base K : Nat) (m m' : M) : Prop where
  n : K ≤ m'.n
  ρ : ∀ b, b < K → m'.ρ b = m.ρ b
  κ : ∀ b, b < K → m'.κ b = m.κ b
  lo : m'.lo = m.lo
  F : ∀ p ∈ m.F, p ∈ m'.F
  fresh : ∀ p ∈ m'.F, p ∈ m.F ∨ base ≤ p.1

/-- What a frame comes to from a state on: its first K blocks keep their numbers. -/
def OutK (E : Env) (lvl K : Nat) (s : St) (Φ : Res → Prop) : Prop :=
  ∀ (fr : Frame) (t : Array Value) (cs : List Frame) (w : World) (m : M) (base : Nat), RoundOk m none fr → TR m s.tm t → HR m base lvl s.heap w → GR E.gl base w → K ≤ m.n →
    ∃ r, Φ r ∧ ∃ t' todo' w' m', Steps E.P (lone (FR fr t s.todo) cs w) (lone (FR { fr with defers := marksC m' r.marks ++ fr.defers } t' todo') cs w') ∧ TR m' r.tm t' ∧ HR m' base lvl r.heap w' ∧ M.leK base K m m' ∧ Below base w w' ∧ EndOk r.jump todo' ∧ ∀ b ∈ r.marks, b < m'.n

end
end Go.Ev
