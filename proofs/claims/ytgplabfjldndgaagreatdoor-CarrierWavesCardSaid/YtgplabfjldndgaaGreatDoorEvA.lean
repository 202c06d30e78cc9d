/-
  An evaluator for closed calls: it runs the code of a program over values in which the addresses of new blocks are numbers of its own. The kernel runs it; EvB and EvC show that what it says holds in every world and on every tape.
-/
import Derived.Calls
namespace Go.Ev
noncomputable section

/-- What lies deep in memory that nobody writes any more: a value, or a slice of n elements of sz cells. -/
inductive DT where
  | v (x : Value)
  | s (cells : List DT) (n sz : Nat)

/-- A slice of such cells, or a place among them. -/
inductive DV where
  | s (cells : List DT) (n sz : Nat)
  | p (cells : List DT) (o : Nat)
  /-- a slice without elements and without room -/
  | z

/-- what a closure holds: values that are no closures -/
inductive CA where
  | v (x : Value)
  | ptr (b o : Nat)
  | slc (b o len sz cap : Nat) (ex : Bool)
  | mp (b : Nat)
  | dp (d : DV)
inductive CE where
  | one (x : CA)
  | agg (l : List CA)

inductive AC where
  | v (x : Value)
  | ptr (b o : Nat)
  | slc (b o len sz cap : Nat) (ex : Bool)
  | clo (f : FuncId) (first caps : List CE)
  | yld (b : Nat)
  | mp (b : Nat)
  | dp (d : DV)
  /-- a value of one cell, no boolean, of which this alone is known -/
  | any (p : Value → Prop)

inductive AE where
  | one (x : AC)
  | agg (l : List AC)

inductive AV where
  | e (x : AE)
  | tup (l : List AE)

/-- what else than cells may lie in a block: a loop over a function, and its mark -/
inductive AX where
  | cells
  | loop (st : LoopState) (pend : Option Code) (tm : List AV) (params : Array Tmp) (assign body : Code)
  | mark
  | map (kv : List (Value × Value))
  | iter (s : ByteArray) (pos : Nat)

structure AB where
  cells : List AC
  n : Nat
  elem : TypeId
  full : Bool
  ext : AX

abbrev Heap := List (Option AB)
abbrev Tm := List AV

/-! Lists, by their recursors: the kernel runs them fast. -/
def setL {α : Type} (l : List α) : Nat → α → List α :=
  List.rec (motive := fun _ => Nat → α → List α) (fun _ _ => []) (fun h t ih n a => Nat.rec (motive := fun _ => List α) (a :: t) (fun m _ => h :: ih m a) n) l
def getL {α : Type} (l : List α) : Nat → Option α :=
  List.rec (motive := fun _ => Nat → Option α) (fun _ => none) (fun h _ ih n => Nat.rec (motive := fun _ => Option α) (some h) (fun m _ => ih m) n) l
def appL {α : Type} (l m : List α) : List α := List.rec (motive := fun _ => List α) m (fun h _ ih => h :: ih) l
def dropL {α : Type} (l : List α) : Nat → List α :=
  List.rec (motive := fun _ => Nat → List α) (fun _ => []) (fun h t ih n => Nat.rec (motive := fun _ => List α) (h :: t) (fun m _ => ih m) n) l
def takeL {α : Type} (l : List α) : Nat → Option (List α) :=
  List.rec (motive := fun _ => Nat → Option (List α)) (fun n => Nat.rec (motive := fun _ => Option (List α)) (some []) (fun _ _ => none) n)
    (fun h _ ih n => Nat.rec (motive := fun _ => Option (List α)) (some []) (fun m _ => (ih m).map (h :: ·)) n) l
def lenL {α : Type} (l : List α) : Nat := List.rec (motive := fun _ => Nat) 0 (fun _ _ ih => Nat.succ ih) l
def overL {α : Type} (xs : List α) : List α → Nat → List α :=
  List.rec (motive := fun _ => List α → Nat → List α) (fun l _ => l) (fun x _ ih l o => ih (setL l o x) (Nat.succ o)) xs
def allSome {α : Type} (l : List (Option α)) : Option (List α) :=
  List.rec (motive := fun _ => Option (List α)) (some []) (fun h _ ih => match h with | some a => (match ih with | some r => some (a :: r) | none => none) | none => none) l

def CA.ac : CA → AC
  | .v x => .v x
  | .ptr b o => .ptr b o
  | .slc b o len sz cap ex => .slc b o len sz cap ex
  | .mp b => .mp b
  | .dp d => .dp d
def CE.ae : CE → AE
  | .one x => .one x.ac
  | .agg l => .agg (l.map CA.ac)
def CE.av (e : CE) : AV := .e e.ae
def CE.atoms : CE → List CA
  | .one x => [x]
  | .agg l => l
def CE.map (g : CA → CA) : CE → CE
  | .one x => .one (g x)
  | .agg l => .agg (l.map g)
def AC.ca? : AC → Option CA
  | .v x => some (.v x)
  | .ptr b o => some (.ptr b o)
  | .slc b o len sz cap ex => some (.slc b o len sz cap ex)
  | .mp b => some (.mp b)
  | .dp d => some (.dp d)
  | _ => none
def AV.ce? : AV → Option CE
  | .e (.one x) => match x.ca? with
    | some c => some (.one c)
    | none => none
  | .e (.agg l) => match allSome (l.map AC.ca?) with
    | some cs => some (.agg cs)
    | none => none
  | _ => none
def CA.refs : CA → List Nat
  | .v _ => []
  | .ptr b _ => [b]
  | .slc b _ _ _ _ _ => [b]
  | .mp b => [b]
  | .dp _ => []
def CE.refs (e : CE) : List Nat := e.atoms.flatMap CA.refs
def CA.ren (f : Nat → Nat) : CA → CA
  | .v x => .v x
  | .ptr b o => .ptr (f b) o
  | .slc b o len sz c x => .slc (f b) o len sz c x
  | .mp b => .mp (f b)
  | .dp d => .dp d
def CA.flat : CA → Bool
  | .dp _ => false
  | _ => true

def DT.ac : DT → AC
  | .v x => .v x
  | .s c n sz => .dp (.s c n sz)

def AC.val? : AC → Option Value
  | .v x => some x
  | _ => none
def AE.val? : AE → Option Value
  | .one x => x.val?
  | .agg l => match allSome (l.map AC.val?) with
    | some cs => some (.agg cs.toArray)
    | none => none
def AV.val? : AV → Option Value
  | .e x => x.val?
  | .tup l => match allSome (l.map AE.val?) with
    | some cs => some (.tuple cs.toArray)
    | none => none
def AE.of : Value → AE
  | .agg cs => .agg (cs.toList.map .v)
  | x => .one (.v x)
def AV.of : Value → AV
  | .tuple vs => .tup (vs.toList.map AE.of)
  | x => .e (AE.of x)
/-- the cells of a value of a variable; a bare value that is itself an aggregate has none here -/
def AE.cells? : AE → Option (List AC)
  | .one (.v (.agg _)) => none
  | .one x => some [x]
  | .agg l => some l
def AC.isOne : AC → Bool
  | .v (.agg _) => false
  | .v (.tuple _) => false
  | _ => true

def getT (l : Tm) (t : Nat) : AV := match getL l t with | some x => x | none => .tup []
def putT (l : Tm) (d : Option Nat) (x : AV) : Tm := match d with | some d => setL l d x | none => l

def evA (tm : Tm) : Operand → AV
  | .tmp t => getT tm t
  | .const x => AV.of x
  | .global g => .e (.one (.v (.pointer (some ⟨g, 0, none⟩))))
  | .func f => .e (.one (.v (.func (.func f) #[] #[])))

/-- What a computation gives that looks at nothing but the program. -/
def pureRun {α : Type} (P : Program) (s : Sem α) : Option α :=
  Sem.rec (motive := fun _ => Option α) (fun a => some a) (fun _ _ _ _ => none) (fun _ _ _ _ _ => none) (fun _ _ _ => none) (fun _ _ _ => none) (fun _ _ _ _ => none) (fun _ _ _ => none)
    (fun _ _ _ => none) (fun _ _ _ _ => none) (fun _ _ _ => none) (fun _ _ _ => none) (fun _ ih => ih P) (fun _ _ ih => ih) (fun _ => none) s

def wrapF (k : IntKind) (n : Int) : Int :=
  match k, n with
  | .i64, .ofNat m => if Nat.ble m 9223372036854775807 then .ofNat m else k.wrap n
  | .i64, .negSucc m => if Nat.ble m 9223372036854775807 then .negSucc m else k.wrap n
  | _, _ => k.wrap n

/-- what an operation on two integers of one kind gives (division by a number that is not 0) -/
def intBin (op : BinOp) (k : IntKind) (a b : Int) : Option Value :=
  match op with
  | .add => some (.int k (wrapF k (a + b)))
  | .sub => some (.int k (wrapF k (a - b)))
  | .mul => some (.int k (wrapF k (a * b)))
  | .quo => if b = 0 then none else some (.int k (wrapF k (a.tdiv b)))
  | .rem => if b = 0 then none else some (.int k (a.tmod b))
  | .eql => some (.bool (a == b))
  | .neq => some (.bool (a != b))
  | .lss => some (.bool (decide (a < b)))
  | .leq => some (.bool (decide (a ≤ b)))
  | .gtr => some (.bool (decide (a > b)))
  | .geq => some (.bool (decide (a ≥ b)))
  | _ => none

def binP (P : Program) (b : BinOp) (t : TypeId) (x y : Operand) (p q : Value) : Option Value := pureRun P (do eqGuard b t x y p q; binOp b t p q)

def binA (P : Program) (b : BinOp) (t : TypeId) (x y : Operand) (p q : Value) : Option Value :=
  match p, q with
  | .int k m, .int j n => if decide (k = j) then (match intBin b k m n with | some v => some v | none => binP P b t x y p q) else binP P b t x y p q
  | _, _ => binP P b t x y p q

def isAggD : TypeDesc → Bool
  | .struct _ | .array _ _ => true
  | _ => false

def intOf? : AV → Option (IntKind × Int)
  | .e (.one (.v (.int k n))) => some (k, n)
  | _ => none

/-- a value of a type out of cells -/
def take? (P : Program) (t : TypeId) (l : List AC) (o : Nat) : Option AE :=
  match P.underlying t, P.info? t with
  | some d, some i => if isAggD d then (takeL (dropL l o) i.size).map .agg else (getL l o).map .one
  | _, _ => none

def blk (h : Heap) (b : Nat) : Option AB := match getL h b with
  | some (some a) => (match a.ext with | .cells => some a | _ => none)
  | _ => none

/-- functions of the library whose contracts the shelf has -/
inductive Hook where
  | none
  | copyCheck
  | join

structure Env where
  P : Program
  gl : List (Nat × List Value)
  rw : FuncId → Bool
  hk : FuncId → Hook
  /-- the type strings.Builder -/
  bt : TypeId

def lookG (l : List (Nat × List Value)) (g : Nat) : Option (List Value) :=
  List.rec (motive := fun _ => Option (List Value)) none (fun p _ ih => if Nat.beq p.1 g then some p.2 else ih) l

def loadA (E : Env) (h : Heap) (t : TypeId) : AV → Option AV
  | .e (.one (.ptr b o)) => match blk h b with
    | some a => (take? E.P t a.cells o).map .e
    | none => none
  | .e (.one (.v (.pointer (some ⟨g, o, none⟩)))) => match lookG E.gl g with
    | some cs => (take? E.P t (cs.map .v) o).map .e
    | none => none
  | _ => none

def storeA (E : Env) (lvl : Nat) (h : Heap) (t : TypeId) : AV → AV → Option Heap
  | .e (.one (.ptr b o)), .e x => match blk h b, E.P.info? t, x.cells? with
    | some a, some i, some cs =>
      if lvl ≤ b ∧ lenL cs = i.size ∧ o + i.size ≤ a.n ∧ cs.all AC.isOne = true then some (setL h b (some { a with cells := overL cs a.cells o })) else none
    | _, _, _ => none
  | _, _ => none

def zeroA (E : Env) (t : TypeId) : Option (List AC) := ((E.P.info? t).bind (·.zero)).map fun z => z.cells.toList.map .v

def newA (h : Heap) (t : TypeId) (cells : List AC) : AV × Heap := (.e (.one (.ptr (lenL h) 0)), appL h [some ⟨cells, lenL cells, t, true, .cells⟩])

def fillA (place : Nat → Option (Nat × Nat)) (cells : List AC) : List (Nat × AV) → Option (List AC)
  | [] => some cells
  | (i, .e x) :: rest => match place i, x.cells? with
    | some (off, size), some cs => if lenL cs ≠ size ∨ off + size > lenL cells then none else fillA place (overL cs cells off) rest
    | _, _ => none
  | _ => none

def repeatC (l : List AC) : Nat → List AC
  | 0 => []
  | n + 1 => l ++ repeatC l n

def places (P : Program) (fs : Array Field) : Option (List (Nat × Nat)) := allSome (fs.toList.map fun f => (P.info? f.type).map fun i => (f.offset, i.size))

def small (n size bytes : Nat) : Bool := decide (n ≤ 2000000) && decide (size ≤ 64) && decide (bytes ≤ 1024) && decide (n * size ≤ 16777216)

def intN? : AV → Option Int
  | .e (.one (.v (.int _ n))) => some n
  | _ => none
def sliceBoundsA (len cap : Nat) (lo hi : Option AV) : Option (Nat × Nat) :=
  match (match hi with | some x => intN? x | none => some (len : Int)), (match lo with | some x => intN? x | none => some (0 : Int)) with
  | some h, some l => if 0 ≤ l ∧ l ≤ h ∧ h ≤ cap then some (l.toNat, h.toNat) else none
  | _, _ => none

/-- the cells of the first n elements of a slice -/
def srcCells (h : Heap) (sz n : Nat) : AV → Option (List AC)
  | .e (.one (.slc b o len sz' _ _)) => if sz' = sz ∧ n ≤ len then (match blk h b with | some a => takeL (dropL a.cells o) (n * sz) | none => none) else none
  | .e (.one (.dp (.s cells len sz'))) => if sz' = sz ∧ n ≤ len ∧ 0 < len then takeL (cells.map DT.ac) (n * sz) else none
  | _ => none
/-- how many elements a slice has -/
def lenS? : AV → Option Nat
  | .e (.one (.slc _ _ m _ _ _)) => some m
  | .e (.one (.dp (.s _ m _))) => some m
  | _ => none

def appendA (E : Env) (lvl : Nat) (h : Heap) (t xt : TypeId) (s x : AV) : Option (AV × Heap) :=
  match E.P.underlying t, lenS? x with
  | some (.slice el), some m => match E.P.info? el, zeroA E el with
    | some e, some z => if t = xt ∧ 0 < e.size ∧ lenL z = e.size then match srcCells h e.size m x with
      | some xs => if xs.all AC.isOne then match s with
        | .e (.one (.v (.slice none 0 0))) =>
          if m = 0 then some (s, h) else if small m e.size e.bytes then some (.e (.one (.slc (lenL h) 0 m e.size m false)), appL h [some ⟨xs, m * e.size, el, false, .cells⟩]) else none
        | .e (.one (.slc b o len sz cap ex)) =>
          if sz = e.size ∧ small (len + m) e.size e.bytes then match blk h b with
            | some a =>
              if len + m ≤ cap then (if lvl ≤ b ∧ 0 < cap ∧ o + (len + m) * sz ≤ a.n then some (.e (.one (.slc b o (len + m) sz cap ex)), setL h b (some { a with cells := overL xs a.cells (o + len * sz) })) else none)
              else if ex then match takeL (dropL a.cells o) (len * sz) with
                  | some olds => some (.e (.one (.slc (lenL h) 0 (len + m) sz (len + m) false)), appL h [some ⟨appL olds xs, (len + m) * sz, el, false, .cells⟩])
                  | none => none
              else if lvl ≤ b ∧ o = 0 ∧ 0 < m ∧ a.n = len * sz ∧ a.elem = el ∧ a.full = false then some (.e (.one (.slc (lenL h) 0 (len + m) sz (len + m) false)), appL (setL h b none) [some ⟨appL a.cells xs, (len + m) * sz, el, false, .cells⟩])
              else none
            | none => none
          else none
        | _ => none
        else none
      | none => none
      else none
    | _, _ => none
  | _, _ => none

def copyA (E : Env) (lvl : Nat) (h : Heap) (t : TypeId) (d x : AV) : Option (AV × Heap) :=
  match E.P.underlying t, d, x with
  | some (.slice el), .e (.one (.slc b o dl sz cp _)), .e (.one (.slc _ _ sl _ _ _)) => match E.P.info? el, blk h b with
    | some e, some a => if sz = e.size then match srcCells h e.size (Nat.min sl dl) x with
      | some xs => if lvl ≤ b ∧ 0 < cp ∧ o + (Nat.min sl dl) * sz ≤ a.n ∧ xs.all AC.isOne = true then some (.e (.one (.v (.int .i64 (Nat.min sl dl)))), setL h b (some { a with cells := overL xs a.cells o })) else none
      | none => none
      else none
    | _, _ => none
  | _, _, _ => none

def sliceA (E : Env) (tm : Tm) (h : Heap) (t : TypeId) (x : AV) (lo hi : Option Operand) : Option (AV × Heap) :=
  match E.P.underlying t, x with
  | some (.array n el), .e (.one (.ptr b o)) => match E.P.info? el, blk h b, sliceBoundsA n n (lo.map (evA tm)) (hi.map (evA tm)) with
    | some e, some a, some (l, u) => if o + n * e.size ≤ a.n ∧ n ≤ 2000000 then some (.e (.one (.slc b (o + l * e.size) (u - l) e.size (n - l) true)), h) else none
    | _, _, _ => none
  | some (.slice el), .e (.one (.slc b o len sz cap ex)) => match E.P.info? el, sliceBoundsA len cap (lo.map (evA tm)) (hi.map (evA tm)) with
    | some e, some (l, u) => if e.size = sz then some (.e (.one (.slc b (o + l * sz) (u - l) sz (cap - l) ex)), h) else none
    | _, _ => none
  | _, _ => none

def bytesOf? : List AC → Option (List UInt8)
  | [] => some []
  | .v (.int .u8 n) :: r => match bytesOf? r with
    | some l => if 0 ≤ n ∧ n ≤ 255 then some (UInt8.ofNat n.toNat :: l) else none
    | none => none
  | _ => none

/-- two keys -/
def sameK : TypeDesc → Value → Value → Option Bool
  | .int _, .int k a, .int k' b => if k = k' then some (a == b) else none
  | .string, .string a, .string b => some (a == b)
  | _, _, _ => none
def keyB : TypeDesc → Value → Bool
  | .int q, .int k _ => decide (k = q)
  | .string, .string _ => true
  | _, _ => false
def findKV (d : TypeDesc) (k : Value) (l : List (Value × Value)) : Nat → Option (Option (Nat × Value)) :=
  List.rec (motive := fun _ => Nat → Option (Option (Nat × Value))) (fun _ => some none) (fun e _ ih i => match sameK d k e.1 with
    | some true => some (some (i, e.2))
    | some false => ih (i + 1)
    | none => none) l
def putKV (k v : Value) (l : List (Value × Value)) : Option (Nat × Value) → List (Value × Value)
  | some (i, _) => setL l i (k, v)
  | none => appL l [(k, v)]
def mapOf (h : Heap) (b : Nat) : Option (AB × List (Value × Value)) := match getL h b with
  | some (some a) => (match a.ext with | .map kv => some (a, kv) | _ => none)
  | _ => none
def iterOf (h : Heap) (b : Nat) : Option (AB × ByteArray × Nat) := match getL h b with
  | some (some a) => (match a.ext with | .iter s p => some (a, s, p) | _ => none)
  | _ => none
def iterEnt (s : ByteArray) (pos : Nat) : AB := { cells := [], n := 0, elem := 0, full := false, ext := .iter s pos }
def mapEnt : AB := { cells := [], n := 0, elem := 0, full := false, ext := .map [] }

def opA (E : Env) (lvl : Nat) (tm : Tm) (h : Heap) (op : Op) : Option (AV × Heap) :=
  match op with
  | .pick c a b => match evA tm c with
    | .e (.one (.v (.bool t))) => some (if t then evA tm a else evA tm b, h)
    | _ => none
  | .extract x i => match evA tm x with
    | .tup l => (getL l i).map fun a => (.e a, h)
    | _ => none
  | .alloc t => match zeroA E t with
    | some z => some (newA h t z)
    | none => none
  | .box t x => match evA tm x with
    | .e a => match a.cells? with
      | some cs => some (newA h t cs)
      | none => none
    | _ => none
  | .store t a x => (storeA E lvl h t (evA tm a) (evA tm x)).map fun h' => (.tup [], h')
  | .nilCheck x => match evA tm x with
    | .e (.one (.ptr b o)) => some (.e (.one (.ptr b o)), h)
    | _ => none
  | .fieldAddr s x f => match evA tm x, E.P.underlying s with
    | .e (.one (.ptr b o)), some (.struct fs) => match fs[f]? with
      | some fd => match E.P.info? fd.type with
        | some i => if i.size = 0 then none else some (.e (.one (.ptr b (o + fd.offset))), h)
        | none => none
      | none => none
    | _, _ => none
  | .indexAddr t x i => match evA tm x, intOf? (evA tm i), E.P.underlying t with
    | .e (.one (.ptr b o)), some (_, n), some (.array len el) => match E.P.info? el with
      | some e => if 0 ≤ n ∧ n < len then some (.e (.one (.ptr b (o + n.toNat * e.size))), h) else none
      | none => none
    | .e (.one (.slc b o len sz _ _)), some (_, n), some (.slice el) => match E.P.info? el with
      | some e => if 0 ≤ n ∧ n < len ∧ e.size = sz then some (.e (.one (.ptr b (o + n.toNat * sz))), h) else none
      | none => none
    | _, _, _ => none
  | .build t parts => match zeroA E t, E.P.underlying t with
    | some z, some (.struct fs) => match places E.P fs with
      | some pl => (fillA (getL pl) z (parts.toList.map fun p => (p.1, evA tm p.2))).map fun cs => (.e (.agg cs), h)
      | none => none
    | some z, some (.array _ el) => match E.P.info? el with
      | some e => (fillA (fun i => some (i * e.size, e.size)) z (parts.toList.map fun p => (p.1, evA tm p.2))).map fun cs => (.e (.agg cs), h)
      | none => none
    | _, _ => none
  | .buildSlice t len parts => match E.P.underlying t with
    | some (.slice el) => match E.P.info? el, zeroA E el with
      | some e, some z => if small len e.size e.bytes ∧ lenL z = e.size then (fillA (fun i => some (i * e.size, e.size)) (repeatC z len) (parts.toList.map fun p => (p.1, evA tm p.2))).map fun cs =>
          (.e (.one (.slc (lenL h) 0 len e.size len true)), appL h [some ⟨cs, len * e.size, el, true, .cells⟩]) else none
      | _, _ => none
    | _ => none
  | .makeSlice t l c => match E.P.underlying t, intOf? (evA tm l), intOf? (evA tm c) with
    | some (.slice el), some (_, n), some (_, m) => match E.P.info? el, zeroA E el with
      | some e, some z => if 0 ≤ n ∧ n ≤ m ∧ small m.toNat e.size e.bytes ∧ lenL z = e.size ∧ 0 < e.size then
          some (.e (.one (.slc (lenL h) 0 n.toNat e.size m.toNat true)), appL h [some ⟨repeatC z m.toNat, m.toNat * e.size, el, true, .cells⟩]) else none
      | _, _ => none
    | _, _, _ => none
  | .sliceToArrayPointer t x => match E.P.underlying t, evA tm x with
    | some (.array n _), .e (.one (.slc b o len _ _ _)) => if n ≤ len ∧ 0 < n then some (.e (.one (.ptr b o)), h) else none
    | _, _ => none
  | .convert s d x => match E.P.underlying s, E.P.underlying d, evA tm x with
    | some (.slice el), some .string, .e (.one (.slc b o len sz _ _)) => match E.P.underlying el, blk h b with
      | some (.int .u8), some a => if sz = 1 ∧ 0 < len then (match takeL (dropL a.cells o) len with
        | some cs => match bytesOf? cs with
          | some bs => some (.e (.one (.v (.string ⟨bs.toArray⟩))), h)
          | none => none
        | none => none) else none
      | _, _ => none
    | some (.slice _), some (.slice el), .e (.one (.slc b _ _ _ _ _)) => match E.P.underlying el, blk h b with
      | some (.int .u8), some _ => if Nat.beq s d && Nat.ble lvl b then some (evA tm x, h) else none
      | _, _ => none
    | some .string, some (.slice el), .e (.one (.v (.string s))) => match E.P.underlying el with
      | some (.int .u8) => if s.size ≤ 2000000 then some (.e (.one (.slc (lenL h) 0 s.size 1 s.size false)), appL h [some ⟨s.data.toList.map fun b => .v (.int .u8 b.toNat), s.size, el, false, .cells⟩]) else none
      | _ => none
    | _, _, _ => none
  | .makeMap t r => match E.P.underlying t, (match r with | none => true | some x => match evA tm x with | .e (.one (.v (.int _ _))) => true | _ => false) with
    | some (.map _ _), true => some (.e (.one (.mp (lenL h))), appL h [some mapEnt])
    | _, _ => none
  | .range t x => match E.P.underlying t, evA tm x with
    | some .string, .e (.one (.v (.string s))) => some (.e (.one (.ptr (lenL h) 0)), appL h [some (iterEnt s 0)])
    | _, _ => none
  | .next x true => match evA tm x with
    | .e (.one (.ptr b 0)) => match iterOf h b with
      | some (a, s, pos) => match Nat.ble lvl b with
        | true => if pos < s.size then some (.tup [.one (.v (.bool true)), .one (.v (.int .i64 pos)), .one (.v (.int .i32 (Utf8.decode s pos).1))], setL h b (some { a with ext := .iter s (pos + (Utf8.decode s pos).2) })) else some (.tup [.one (.v (.bool false))], h)
        | false => none
      | none => none
    | _ => none
  | .lookup t x i ok => match E.P.underlying t, evA tm x, evA tm i with
    | some (.map key elem), .e (.one (.mp b)), .e (.one (.v k)) => match mapOf h b, E.P.underlying key, (E.P.info? elem).bind (·.zero) with
      | some (_, kv), some d, some z => match findKV d k kv 0, keyB d k with
        | some (some (_, v)), true => some (if ok then .tup [AE.of v, .one (.v (.bool true))] else .e (AE.of v), h)
        | some none, true => some (if ok then .tup [AE.of z, .one (.v (.bool false))] else .e (AE.of z), h)
        | _, _ => none
      | _, _, _ => none
    | _, _, _ => none
  | .mapUpdate t x i y => match E.P.underlying t, evA tm x, evA tm i, evA tm y with
    | some (.map key _), .e (.one (.mp b)), .e (.one (.v k)), .e a => match mapOf h b, E.P.underlying key, a.val? with
      | some (ab, kv), some d, some v => match findKV d k kv 0, Nat.ble lvl b && keyB d k with
        | some r, true => some (.tup [], setL h b (some { ab with ext := .map (putKV k v kv r) }))
        | _, _ => none
      | _, _, _ => none
    | _, _, _, _ => none
  | .makeFunc (.func f) first caps => match allSome (first.toList.map fun c => (evA tm c).ce?), allSome (caps.toList.map fun c => (evA tm c).ce?) with
    | some fs, some cs => some (.e (.one (.clo f fs cs)), h)
    | _, _ => none
  | _ => none

/-- a slice with a third index -/
def sliceA3 (E : Env) (tm : Tm) (h : Heap) (t : TypeId) (x : AV) (lo hi : Option Operand) (mx : Operand) : Option (AV × Heap) :=
  match E.P.underlying t, x with
  | some (.slice el), .e (.one (.slc b o _ sz cap _)) => match E.P.info? el, intN? (evA tm mx), sliceBoundsA 0 cap (lo.map (evA tm)) (hi.map (evA tm)) with
    | some e, some m, some (l, u) => if e.size = sz ∧ hi.isSome ∧ (u : Int) ≤ m ∧ m ≤ cap then some (.e (.one (.slc b (o + l * sz) (u - l) sz (m.toNat - l) true)), h) else none
    | _, _, _ => none
  | _, _ => none

def clearA (E : Env) (lvl : Nat) (h : Heap) (t : TypeId) (x : AV) : Option (AV × Heap) :=
  match E.P.underlying t, x with
  | some (.slice el), .e (.one (.slc b o len sz cap _)) => if len = 0 then some (.tup [], h) else match E.P.info? el, zeroA E el, blk h b with
    | some e, some z, some a => if lvl ≤ b ∧ e.size = sz ∧ lenL z = sz ∧ 0 < cap ∧ o + len * sz ≤ a.n ∧ (repeatC z len).all AC.isOne = true then some (.tup [], setL h b (some { a with cells := overL (repeatC z len) a.cells o })) else none
    | _, _, _ => none
  | _, _ => none

def strA (s : ByteArray) : List AC := s.data.toList.map fun b => .v (.int .u8 b.toNat)
/-- the bytes of a string, behind a slice -/
def appendSA (E : Env) (lvl : Nat) (h : Heap) (t xt : TypeId) (s : AV) (str : ByteArray) : Option (AV × Heap) :=
  match E.P.underlying t, E.P.underlying xt with
  | some (.slice el), some .string => match E.P.info? el, zeroA E el with
    | some e, some z => if e.size = 1 ∧ 0 < e.size ∧ lenL z = e.size then match s with
        | .e (.one (.v (.slice none 0 0))) =>
          if str.size = 0 then some (s, h) else if small str.size e.size e.bytes then some (.e (.one (.slc (lenL h) 0 str.size e.size str.size false)), appL h [some ⟨strA str, str.size * e.size, el, false, .cells⟩]) else none
        | .e (.one (.slc b o len sz cap ex)) =>
          if sz = e.size ∧ small (len + str.size) e.size e.bytes then match blk h b with
            | some a =>
              if len + str.size ≤ cap then (if lvl ≤ b ∧ 0 < cap ∧ o + (len + str.size) * sz ≤ a.n then some (.e (.one (.slc b o (len + str.size) sz cap ex)), setL h b (some { a with cells := overL (strA str) a.cells (o + len * sz) })) else none)
              else if ex then match takeL (dropL a.cells o) (len * sz) with
                  | some olds => some (.e (.one (.slc (lenL h) 0 (len + str.size) sz (len + str.size) false)), appL h [some ⟨appL olds (strA str), (len + str.size) * sz, el, false, .cells⟩])
                  | none => none
              else if lvl ≤ b ∧ o = 0 ∧ 0 < str.size ∧ a.n = len * sz ∧ a.elem = el ∧ a.full = false then some (.e (.one (.slc (lenL h) 0 (len + str.size) sz (len + str.size) false)), appL (setL h b none) [some ⟨appL a.cells (strA str), (len + str.size) * sz, el, false, .cells⟩])
              else none
            | none => none
          else none
        | _ => none
        else none
    | _, _ => none
  | _, _ => none

def isNilSlot : AC → Bool
  | .v (.pointer none) => true
  | _ => false
def isSelf (b : Nat) : AC → Bool
  | .ptr c 0 => Nat.beq b c
  | _ => false
def copyCheckA (E : Env) (lvl : Nat) (h : Heap) : List AV → Option (AV × Heap)
  | [.e (.one (.ptr b 0))] => match blk h b with
    | some a => match a.cells with
      | [c0, c1] => if isSelf b c0 then some (.tup [], h) else if isNilSlot c0 && Nat.ble lvl b && Nat.beq a.elem E.bt && a.full then some (.tup [], setL h b (some { a with cells := [.ptr b 0, c1] })) else none
      | _ => none
    | none => none
  | _ => none

/-- strings.Join: the elements with what stands between them -/
def joinL (sep : List UInt8) (l : List ByteArray) : List UInt8 :=
  List.rec (motive := fun _ => List UInt8) [] (fun x r ih => List.rec (motive := fun _ => List UInt8) x.data.toList (fun _ _ _ => appL x.data.toList (appL sep ih)) r) l
def AC.str? : AC → Option ByteArray
  | .v (.string s) => some s
  | _ => none
def joinA (h : Heap) : List AV → Option (AV × Heap)
  | [.e (.one (.slc b o len sz _ _)), .e (.one (.v (.string sep)))] => match blk h b with
    | some a => match takeL (dropL a.cells o) len with
      | some cs => match allSome (cs.map AC.str?) with
        | some xs => if Nat.beq sz 1 && Nat.ble len 140737488355328 && Nat.ble (lenL (joinL sep.data.toList xs)) 281474976710656 then some (.e (.one (.v (.string ⟨⟨joinL sep.data.toList xs⟩⟩))), h) else none
        | none => none
      | none => none
    | none => none
  | _ => none

def builtinA (E : Env) (lvl : Nat) (h : Heap) (b : Builtin) (ts : Array TypeId) (args : List AV) : Option (AV × Heap) :=
  match b, args with
  | .len, [.e (.one (.slc _ _ len _ _ _))] => match ts[0]? with
    | some t => match E.P.underlying t with
      | some (.slice _) => some (.e (.one (.v (.int .i64 len))), h)
      | _ => none
    | none => none
  | .append, [s, x] => match ts[0]?, ts[1]? with
    | some t, some xt => (match x with
      | .e (.one (.v (.string str))) => appendSA E lvl h t xt s str
      | _ => appendA E lvl h t xt s x)
    | _, _ => none
  | .clear, [x] => match ts[0]? with
    | some t => clearA E lvl h t x
    | none => none
  | .unsafeSliceData, [.e (.one (.slc b o _ _ cap _))] => if 0 < cap then some (.e (.one (.ptr b o)), h) else none
  | .unsafeString, [.e (.one (.ptr b 0)), .e (.one (.v (.int .i64 n)))] => match ts[0]?, ts[1]?, blk h b with
    | some pt, some _, some a => match E.P.underlying pt with
      | some (.pointer el) => if ts.size = 2 ∧ E.P.cellsOf el = 1 ∧ a.elem = el ∧ lvl ≤ b ∧ 0 < n ∧ n ≤ 1000000 then (match takeL a.cells n.toNat with
        | some cs => match bytesOf? cs with
          | some bs => some (.e (.one (.v (.string ⟨bs.toArray⟩))), setL h b none)
          | none => none
        | none => none) else none
      | _ => none
    | _, _, _ => none
  | .copy, [d, x] => match ts[0]? with
    | some t => copyA E lvl h t d x
    | none => none
  | _, _ => none

def wantedA (ops : Array Oper) (tm : Tm) (o : Oper) : Bool :=
  match o.guard with
  | none => true
  | some (j, want) => match (ops[j]?).bind (·.dst) with
    | some d => match getL tm d with
      | some (.e (.one (.v (.bool b)))) => b == want
      | _ => false
    | none => false

def AC.refs : AC → List Nat
  | .v _ => []
  | .ptr b _ => [b]
  | .slc b _ _ _ _ _ => [b]
  | .clo _ fs cs => fs.flatMap CE.refs ++ cs.flatMap CE.refs
  | .yld b => [b]
  | .mp b => [b]
  | .dp _ => []
  | .any _ => []
def AE.refs : AE → List Nat
  | .one x => x.refs
  | .agg l => l.flatMap AC.refs
def AV.refs : AV → List Nat
  | .e x => x.refs
  | .tup l => l.flatMap AE.refs
def AB.refs (a : AB) : List Nat := a.cells.flatMap AC.refs

def AC.ren (f : Nat → Nat) : AC → AC
  | .v x => .v x
  | .ptr b o => .ptr (f b) o
  | .slc b o len sz c x => .slc (f b) o len sz c x
  | .clo g fs cs => .clo g (fs.map (CE.map (CA.ren f))) (cs.map (CE.map (CA.ren f)))
  | .yld b => .yld (f b)
  | .mp b => .mp (f b)
  | .dp d => .dp d
  | .any p => .any p
def AE.ren (f : Nat → Nat) : AE → AE
  | .one x => .one (x.ren f)
  | .agg l => .agg (l.map (AC.ren f))
def AV.ren (f : Nat → Nat) : AV → AV
  | .e x => .e (x.ren f)
  | .tup l => .tup (l.map (AE.ren f))
def AB.ren (f : Nat → Nat) (a : AB) : AB := { a with cells := a.cells.map (AC.ren f) }

/-- blocks from lvl on that are reached -/
def reach (h : Heap) (lvl : Nat) : Nat → List Nat → List Nat → Option (List Nat)
  | 0, _, _ => none
  | _ + 1, [], seen => some seen
  | n + 1, b :: todo, seen => if b < lvl || seen.contains b then reach h lvl n todo seen else
    match blk h b with
    | some a => reach h lvl n (a.refs ++ todo) (seen ++ [b])
    | none => none

def idxOf (l : List Nat) (b : Nat) : Nat := match l with | [] => 0 | x :: r => if x == b then 0 else idxOf r b + 1

def renF (n : Nat) (ids : List Nat) (b : Nat) : Nat := if b < n then b else n + idxOf ids b
/-- all references are old ones, or among ids -/
def knownR (n : Nat) (ids : List Nat) (l : List Nat) : Bool := l.all fun b => decide (b < n) || ids.contains b
def nodupB : List Nat → Bool
  | [] => true
  | x :: r => !r.contains x && nodupB r

/-- a result comes into the caller's heap -/
def bring (h h' : Heap) (r : AV) : Option (AV × Heap) :=
  match r.refs with
  | [] => some (r, h)
  | refs => match reach h' (lenL h) 10000 refs [] with
    | some ids =>
      if nodupB ids && knownR (lenL h) ids r.refs && (ids.all fun i => decide (lenL h ≤ i) && (match blk h' i with | some a => knownR (lenL h) ids a.refs | none => false)) then
        some (r.ren (renF (lenL h) ids), appL h (ids.map fun i => (blk h' i).map (AB.ren (renF (lenL h) ids))))
      else none
    | none => none

inductive Jump where
  | fell
  | ret
  | exit (id : Nat)

def resultA (E : Env) (tm : Tm) (h : Heap) : ResultVar → Option AE
  | .tmp t => match getT tm t with | .e x => some x | _ => none
  | .cell a t => match getT tm a with
    | .e (.one (.ptr b o)) => (match loadA E h t (.e (.one (.ptr b o))) with | some (.e x) => some x | _ => none)
    | _ => none

def resultsA (E : Env) (fn : Func) (tm : Tm) (h : Heap) : Option AV :=
  match allSome (fn.results.toList.map (resultA E tm h)) with
  | some [x] => some (.e x)
  | some l => some (.tup l)
  | none => none

structure Res where
  jump : Jump
  tm : Tm
  heap : Heap
  marks : List Nat := []

/-- a run of a frame: the round's loop, if it is one's; what may be written begins where; the heap, what is left to do, the slots -/
abbrev RunT := Option Nat → Nat → Heap → List Item → Tm → Option Res

def calleeOf (tm : Tm) (c : Call) : Option (FuncId × List AV) :=
  match c.callee with
  | .value f => match evA tm f with
    | .e (.one (.v (.func (.func g) first cs))) => if first.size = 0 then some (g, c.args.toList.map (evA tm) ++ cs.toList.map AV.of) else none
    | .e (.one (.clo g fs cs)) => some (g, fs.map CE.av ++ (c.args.toList.map (evA tm) ++ cs.map CE.av))
    | _ => none
  | _ => none

def fellOrRet : Jump → Bool
  | .fell | .ret => true
  | _ => false

def markOk (h : Heap) (b : Nat) : Bool := match getL h b with
  | some (some a) => (match a.ext with | .mark => true | _ => false)
  | _ => false
/-- what a frame leaves behind when it returns: its loops' marks are taken -/
def dropMarks (lvl : Nat) (h : Heap) (l : List Nat) : Option Heap :=
  List.rec (motive := fun _ => Heap → Option Heap) (fun h => some h) (fun b _ ih h => if Nat.ble lvl b && markOk h b then ih (setL h b none) else none) l h

def callBody (E : Env) (rec : RunT) (lvl : Nat) (h : Heap) (fn : Func) (c : Code) (args : List AV) : Option (AV × Heap) :=
  match rec none lvl h [.code c] (appL args (List.replicate (fn.ntmps - lenL args) (.tup []))) with
  | some r => if fellOrRet r.jump then (match dropMarks lvl r.heap r.marks with
    | some h1 => (match resultsA E fn r.tm h1 with
      | some v => some (v, h1)
      | none => none)
    | none => none) else none
  | none => none

def callA (E : Env) (rec : RunT) (lvl : Nat) (h : Heap) (f : FuncId) (args : List AV) : Option (AV × Heap) :=
  match E.P.funcs[f]? with
  | some fn => match fn.body with
    | some c =>
      if E.rw f then callBody E rec lvl h fn c args
      else match callBody E rec (lenL h) h fn c args with
        | some (v, h') => bring h h' v
        | none => none
    | none => none
  | none => none

/-- a call, by its body or by what the shelf says of it -/
def hookA (E : Env) (rec : RunT) (lvl : Nat) (h : Heap) (f : FuncId) (args : List AV) : Option (AV × Heap) :=
  match E.hk f with
  | .none => callA E rec lvl h f args
  | .copyCheck => copyCheckA E lvl h args
  | .join => joinA h args

def concEv (tm : Tm) (x : Operand) : Value := ((evA tm x).val?).getD undef
def allConc (tm : Tm) (op : Op) : Bool := op.operands.toList.all fun x => ((evA tm x).val?).isSome
def notSelect : Op → Bool
  | .select .. | .defer _ => false
  | _ => true

def pureOp (E : Env) (tm : Tm) (o : Oper) : Option AV :=
  if notSelect o.op && allConc tm o.op then match pureRun E.P (execOp (concEv tm) o) with
    | some (.value v) => some (AV.of v)
    | _ => none
  else none

def pendOf : Jump → Option Code
  | .fell => none
  | .ret => some .ret
  | .exit id => some (.exit id)

def setParams (ps : List Tmp) : List AV → Tm → Tm := List.rec (motive := fun _ => List AV → Tm → Tm) (fun _ tm => tm) (fun p _ ih args tm => match args with | a :: r => ih r (setL tm p a) | [] => tm) ps

/-- one round of a loop over a function -/
def roundA (rec : RunT) (lvl : Nat) (h : Heap) (b : Nat) (args : List AV) : Option (AV × Heap) :=
  match getL h b with
  | some (some a) => match a.ext with
    | .loop _ _ tm ps assign body => if Nat.beq (lenL args) (lenL ps.toList) && Nat.ble lvl b then match rec (some b) lvl h [.code assign, .beginRound, .code body] (setParams ps.toList args tm) with
        | some r => match r.marks, getL r.heap b with
          | [], some (some a') => match a'.ext with
            | .loop _ _ tm' ps' asg' bo' => some (.e (.one (.v (.bool (pendOf r.jump).isNone))), setL r.heap b (some { a' with ext := .loop (if (pendOf r.jump).isNone then .ready else .done) (pendOf r.jump) tm' ps' asg' bo' }))
            | _ => none
          | _, _ => none
        | none => none
      else none
    | _ => none
  | _ => none

def calleeFn (tm : Tm) (f : Operand) : Option (FuncId × List AV) :=
  match evA tm f with
  | .e (.one (.v (.func (.func g) first cs))) => if first.size = 0 then some (g, cs.toList.map AV.of) else none
  | .e (.one (.clo g [] cs)) => some (g, cs.map CE.av)
  | _ => none

def markEnt : AB := { cells := [], n := 0, elem := 0, full := false, ext := .mark }
def loopEnt (st : LoopState) (pend : Option Code) (tm : Tm) (ps : Array Tmp) (assign body : Code) : AB := { cells := [], n := 0, elem := 0, full := false, ext := .loop st pend tm ps assign body }

/-- a loop over a function, up to what comes behind it -/
def loopA (E : Env) (rec : RunT) (lvl : Nat) (h : Heap) (tm : Tm) (f : Operand) (ps : Array Tmp) (assign body : Code) : Option (Option Code × Heap) :=
  match calleeFn tm f with
  | some (g, cs) => match E.P.funcs[g]? with
    | some fn => match fn.body with
      | some c => match callBody E rec lvl (appL (appL h [some markEnt]) [some (loopEnt .ready none tm ps assign body)]) fn c (.e (.one (.yld (lenL h + 1))) :: cs) with
        | some (_, h2) => match getL h2 (lenL h + 1) with
          | some (some a) => match a.ext with
            | .loop st pend tm' ps' asg' bo' => (match st with
              | .busy => none
              | _ => some (pend, setL h2 (lenL h + 1) (some { a with ext := .loop .exhausted pend tm' ps' asg' bo' })))
            | _ => none
          | _ => none
        | none => none
      | none => none
    | none => none
  | none => none

def yieldOf (tm : Tm) (c : Call) : Option (Nat × List AV) :=
  match c.callee with
  | .value f => match evA tm f with
    | .e (.one (.yld b)) => some (b, c.args.toList.map (evA tm))
    | _ => none
  | _ => none

def callOp (E : Env) (rec : RunT) (lvl : Nat) (h : Heap) (tm : Tm) (o : Oper) (c : Call) : Option (AV × Heap) :=
  match calleeOf tm c with
  | some (f, args) => match E.P.funcs[f]? with
    | some fn => if fn.body.isSome then hookA E rec lvl h f args else (pureOp E tm o).map fun x => (x, h)
    | none => none
  | none => match yieldOf tm c with
    | some (b, args) => roundA rec lvl h b args
    | none => match c.callee with
    | .builtin b => match builtinA E lvl h b c.argTypes (c.args.toList.map (evA tm)) with
      | some r => some r
      | none => (pureOp E tm o).map fun x => (x, h)
    | _ => none

/-- a slice of a block is not nil -/
def nilEq : BinOp → Option Bool
  | .eql => some false
  | .neq => some true
  | _ => none

def stepOp (E : Env) (rec : RunT) (lvl : Nat) (h : Heap) (tm : Tm) (o : Oper) : Option (AV × Heap) :=
  match o.op with
  | .move x | .assign x => some (evA tm x, h)
  | .load t a => (loadA E h t (evA tm a)).map fun x => (x, h)
  | .binOp b t x y _ => match evA tm x, evA tm y with
    | .e (.one (.v p)), .e (.one (.v q)) => (binA E.P b t x y p q).map fun v => (AV.of v, h)
    | .e (.one (.slc _ _ _ _ _ _)), .e (.one (.v (.slice none _ _))) => match nilEq b, E.P.underlying t with
      | some r, some (.slice _) => some (.e (.one (.v (.bool r))), h)
      | _, _ => none
    | _, _ => (pureOp E tm o).map fun x => (x, h)
  | .call c => callOp E rec lvl h tm o c
  | .slice t x lo hi none => match sliceA E tm h t (evA tm x) lo hi with
    | some r => some r
    | none => (pureOp E tm o).map fun x => (x, h)
  | .slice t x lo hi (some mx) => match sliceA3 E tm h t (evA tm x) lo hi mx with
    | some r => some r
    | none => (pureOp E tm o).map fun x => (x, h)
  | op => match pureOp E tm o with
    | some x => some (x, h)
    | none => opA E lvl tm h op

/-- how operations are done: from which block on may be written, the heap, the slots, the operation's number, the operation -/
abbrev StepT := Nat → Heap → Tm → Nat → Oper → Option (AV × Heap)
def stdS (E : Env) (rec : RunT) : StepT := fun lvl h tm _ o => stepOp E rec lvl h tm o

def stepOps (S : StepT) (lvl : Nat) (ops : Array Oper) (l : List Oper) : Nat → Heap → Tm → Option (Heap × Tm) :=
  List.rec (motive := fun _ => Nat → Heap → Tm → Option (Heap × Tm)) (fun _ h tm => some (h, tm))
    (fun o _ ih i h tm => if wantedA ops tm o then match S lvl h tm i o with
      | some (x, h') => ih (Nat.succ i) h' (putT tm o.dst x)
      | none => none
    else ih (Nat.succ i) h (putT tm o.dst (.tup []))) l

/-! Regions that draw their order: which operations wait for which; a plan by which all orders come to one end. -/
def bindsB (e : Edge) : Bool := match e.ground with | .textOnly _ | .gcOnly _ => false | _ => true
def getD0 (l : List Nat) (i : Nat) : Nat := match getL l i with | some x => x | none => 0
def maskOf (acc : List Nat) (es : List Edge) : Nat :=
  List.rec (motive := fun _ => Nat) 0 (fun e _ ih => if bindsB e then Nat.lor (Nat.lor (2 ^ e.on) (getD0 acc e.on)) ih else ih) es
def masksFrom (l : List Oper) : List Nat → List Nat := List.rec (motive := fun _ => List Nat → List Nat) (fun acc => acc) (fun o _ ih acc => ih (appL acc [maskOf acc o.after.toList])) l

structure Plan where
  a : List Nat
  b1 : List Nat
  b2 : List Nat

/-- the slots that an operation looks at -/
def looks (ops : Array Oper) (o : Oper) : List Nat :=
  (o.op.operands.toList.flatMap fun | .tmp t => [t] | _ => []) ++ (match o.guard with | some (j, _) => (match (ops[j]?).bind (·.dst) with | some d => [d] | none => []) | none => [])

/-- the operations that write a slot -/
def writers (l : List Oper) (d : Nat) : Nat → List Nat := List.rec (motive := fun _ => Nat → List Nat) (fun _ => []) (fun o _ ih i => if (match o.dst with | some e => Nat.beq e d | none => false) then i :: ih (i + 1) else ih (i + 1)) l

def refsT (P : Program) : Nat → TypeId → Bool
  | 0, _ => true
  | n + 1, t => match P.underlying t with
    | some (.slice _) | some (.func ..) | some (.pointer _) | some (.map ..) | some (.interface _) => true
    | some (.struct fs) => fs.toList.any fun f => refsT P n f.type
    | some (.array _ e) => refsT P n e
    | some (.tuple ts) => ts.toList.any (refsT P n)
    | _ => false

def isB (P : Program) (o : Oper) : Bool :=
  match o.op with
  | .alloc _ | .box .. | .buildSlice .. | .makeSlice .. | .store .. | .makeMap .. | .mapUpdate .. | .range .. | .next .. => true
  | .convert _ d _ => (match P.underlying d with | some (.slice _) => true | _ => false)
  | .call { callee := .builtin .append, .. } | .call { callee := .builtin .copy, .. } | .call { callee := .builtin .clear, .. } | .call { callee := .builtin .unsafeString, .. } => true
  | .call { callee := .value _, .. } => refsT P 6 o.type
  | _ => false

/-- an operation that looks at slots alone -/
def blindAt (ops : Array Oper) (i : Nat) : Bool := match ops[i]? with
  | some o => (match o.guard, o.op with | none, .move _ | none, .assign _ | none, .binOp .. | none, .index .. | none, .extract .. => true | _, _ => false)
  | none => false
/-- the first index of a piece from which on each operation waits for all before it that look at more than slots -/
def suffixSeg (ms : List Nat) (ops : Array Oper) (k k' i : Nat) : Nat := match i with | 0 => 0 | i + 1 => if Nat.ble (i + 1) k then k else if (Nat.beq (i + 1) k' || Nat.testBit (getD0 ms (i + 1)) i) && (List.range i).all (fun j => Nat.testBit (getD0 ms i) j || blindAt ops j) then suffixSeg ms ops k k' i else i + 1

def splitAB (P : Program) (ops : Array Oper) (n : Nat) : Nat → Nat → List Nat → List Nat → List Nat × List Nat
  | 0, _, a, b => (a, b)
  | fuel + 1, i, a, b => if Nat.ble n i then (a, b) else match ops[i]? with
    | some o => if isB P o || (looks ops o).any (fun d => (writers ops.toList d 0).any fun j => b.contains j) then splitAB P ops n fuel (i + 1) a (appL b [i]) else splitAB P ops n fuel (i + 1) (appL a [i]) b
    | none => (a, b)

def chainB (ms : List Nat) : List Nat → Bool
  | a :: b :: r => Nat.testBit (getD0 ms b) a && chainB ms (b :: r)
  | _ => true

def okOps (ms : List Nat) (ops : Array Oper) (l : List Oper) : Nat → Bool :=
  List.rec (motive := fun _ => Nat → Bool) (fun _ => true) (fun o _ ih i =>
    (o.after.toList.all fun e => !bindsB e || Nat.blt e.on i) && (match o.dst with | some d => (match writers ops.toList d 0 with | [j] => Nat.beq j i | _ => false) | none => true) &&
    ((looks ops o).all fun d => (writers ops.toList d 0).all fun j => Nat.testBit (getD0 ms i) j || Nat.testBit (getD0 ms j) i) && ih (i + 1)) l

def okA (ms : List Nat) (ops : Array Oper) (l : List Nat) : List Nat → Bool :=
  List.rec (motive := fun _ => List Nat → Bool) (fun _ => true) (fun i _ ih seen => (match ops[i]? with
    | some o => (looks ops o).all fun d => (writers ops.toList d 0).all fun j => if Nat.testBit (getD0 ms i) j then seen.contains j else !seen.contains j
    | none => false) && !seen.contains i && ih (i :: seen)) l

/-- A piece of a region: its operations wait for all before it, and all behind it wait for them. -/
structure Seg where
  k : Nat
  k' : Nat
  a : List Nat
  b1 : List Nat
  b2 : List Nat

def planSeg (g : Seg) : Plan := ⟨appL (List.range g.k) g.a, g.b1, g.b2⟩

def okSeg (ms : List Nat) (n : Nat) (ops : Array Oper) (g : Seg) : Bool :=
  okA ms ops g.a (List.range g.k) && chainB ms (appL g.b1 g.b2) && nodupB (appL g.b1 g.b2) && (planSeg g).a.all (fun i => !(appL g.b1 g.b2).contains i) &&
    (List.range g.k').all (fun i => (planSeg g).a.contains i || (appL g.b1 g.b2).contains i) && g.b2.all (fun i => (planSeg g).a.all fun j => Nat.testBit (getD0 ms i) j || blindAt ops j) &&
    (appL g.b1 g.b2).all (fun i => match ops[i]? with | some o => (looks ops o).all fun d => (writers ops.toList d 0).all fun j => Nat.testBit (getD0 ms i) j || !(planSeg g).a.contains j | none => false) &&
    (List.range n).all (fun i => Nat.blt i g.k' || Nat.beq (Nat.land (getD0 ms i) (2 ^ g.k' - 1)) (2 ^ g.k' - 1)) && g.a.all (fun i => Nat.ble g.k i && Nat.blt i g.k') && (appL g.b1 g.b2).all (fun i => Nat.ble g.k i && Nat.blt i g.k') && Nat.blt g.k g.k' && Nat.ble g.k' n

def okSegs (ms : List Nat) (n : Nat) (ops : Array Oper) : List Seg → Nat → Bool
  | [], k => Nat.beq k n
  | g :: r, k => Nat.beq g.k k && okSeg ms n ops g && okSegs ms n ops r g.k'

/-- where a region may be cut -/
def cutsR (n : Nat) : List Nat → Nat → Nat × List Nat
  | [], _ => (2 ^ n - 1, [])
  | m :: r, i => match cutsR n r (i + 1) with
    | (acc, cs) => let acc' := Nat.land m acc
      (acc', if Nat.blt 0 i && Nat.beq (Nat.land acc' (2 ^ i - 1)) (2 ^ i - 1) then i :: cs else cs)

def segOf (P : Program) (ms : List Nat) (ops : Array Oper) (k k' : Nat) : Seg :=
  let s := suffixSeg ms ops k k' k'
  match splitAB P ops s (k' - k) k [] [] with
  | (a, b) => ⟨k, k', a, b, (List.range k').filter fun i => Nat.ble s i⟩

def segsOf (P : Program) (ms : List Nat) (ops : Array Oper) : List Nat → Nat → List Seg
  | [], _ => []
  | c :: r, k => segOf P ms ops k c :: segsOf P ms ops r c

def planOf (P : Program) (ops : Array Oper) : Option (List Seg) :=
  let ms := masksFrom ops.toList []
  let n := lenL ops.toList
  let ok := fun l => Nat.blt 0 n && okOps ms ops ops.toList 0 && okSegs ms n ops l 0
  let l1 := [segOf P ms ops 0 n]
  if ok l1 then some l1 else
    let l := segsOf P ms ops (appL (cutsR n ms 0).2 [n]) 0
    if ok l then some l else none

/-- nothing deep in it -/
def AC.flat : AC → Bool
  | .dp _ => false
  | .clo _ fs cs => (fs.all fun e => e.atoms.all CA.flat) && (cs.all fun e => e.atoms.all CA.flat)
  | _ => true
def AE.flat : AE → Bool
  | .one x => x.flat
  | .agg l => l.all AC.flat
def AV.flat : AV → Bool
  | .e x => x.flat
  | .tup l => l.all AE.flat
/-- a call: memory may come to rest there -/
def callV (o : Oper) : Bool := match o.op with
  | .call _ => true
  | _ => false

def refsBelow (n : Nat) (l : List Nat) : Bool := l.all fun b => Nat.blt b n

/-- operations whose values hang on nothing that the others do: the heap stays -/
def passA (S : StepT) (ops : Array Oper) (h : Heap) (l : List Nat) : Tm → Option Tm :=
  List.rec (motive := fun _ => Tm → Option Tm) (fun tm => some tm) (fun i _ ih tm => match ops[i]? with
    | some o => if wantedA ops tm o then (match S (lenL h) h tm i o with
        | some (x, _) => if refsBelow (lenL h) x.refs && (!callV o || x.flat) then ih (putT tm o.dst x) else none
        | none => none) else ih (putT tm o.dst (.tup []))
    | none => none) l

/-- operations that come in one order -/
def passB (S : StepT) (lvl : Nat) (ops : Array Oper) (l : List Nat) : Heap → Tm → Option (Heap × Tm) :=
  List.rec (motive := fun _ => Heap → Tm → Option (Heap × Tm)) (fun h tm => some (h, tm)) (fun i _ ih h tm => match ops[i]? with
    | some o => if wantedA ops tm o then (match S lvl h tm i o with
        | some (x, h') => ih h' (putT tm o.dst x)
        | none => none) else ih h (putT tm o.dst (.tup []))
    | none => none) l

/-- no block that was given up is there again -/
def aliveLe (h : Heap) : Heap → Bool := List.rec (motive := fun _ => Heap → Bool) (fun _ => true) (fun x _ ih h2 => match h2 with
  | [] => true
  | y :: r => match (match x, y with | none, some _ => false | _, _ => true) with | true => ih r | false => false) h

def segsA (S : StepT) (lvl : Nat) (ops : Array Oper) (l : List Seg) : Heap → Tm → Option (Heap × Tm) :=
  List.rec (motive := fun _ => Heap → Tm → Option (Heap × Tm)) (fun h tm => some (h, tm)) (fun g _ ih h tm => match passA S ops h g.a tm with
    | some tm1 => match passB S (lenL h) ops g.b1 h tm1 with
      | some (h2, tm2) => (match aliveLe h h2, passB S lvl ops g.b2 h2 tm2 with
        | true, some (h3, tm3) => ih h3 tm3
        | _, _ => none)
      | none => none
    | none => none) l

def drawOps (E : Env) (S : StepT) (lvl : Nat) (ops : Array Oper) (h : Heap) (tm : Tm) : Option (Heap × Tm) :=
  match planOf E.P ops with
  | some l => segsA S lvl ops l h tm
  | none => none

def runF (E : Env) (rec : RunT) : RunT := fun rd lvl h todo tm =>
  match todo with
  | [] => some ⟨.fell, tm, h, []⟩
  | .code .ret :: _ => some ⟨.ret, tm, h, []⟩
  | .code .skip :: k | .code (.label _) :: k | .inBlock _ :: k | .inScope _ :: k => rec rd lvl h k tm
  | .code (.seq a b) :: k => rec rd lvl h (.code a :: .code b :: k) tm
  | .code (.cond c a b) :: k => match evA tm c with
    | .e (.one (.v (.bool t))) => rec rd lvl h (.code (if t then a else b) :: k) tm
    | _ => none
  | .code (.block id body) :: k => rec rd lvl h (.code body :: .inBlock id :: k) tm
  | .code (.loop body) :: k | .inLoop body :: k => rec rd lvl h (.code body :: .inLoop body :: k) tm
  | .code (.scope body) :: k => rec rd lvl h (.code body :: .inScope body :: k) tm
  | .code (.exit id) :: k => match exitTo id k with
    | some k' => rec rd lvl h k' tm
    | none => some ⟨.exit id, tm, h, []⟩
  | .code (.region _ ops draw) :: k => match (if draw then drawOps E (stdS E rec) lvl ops h tm else stepOps (stdS E rec) lvl ops ops.toList 0 h tm) with
    | some (h', tm') => rec rd lvl h' k tm'
    | none => none
  | .beginRound :: k => match rd with
    | some b => match getL h b with
      | some (some a) => match a.ext with
        | .loop .ready pend tm' ps asg bo => if Nat.ble lvl b then rec rd lvl (setL h b (some { a with ext := .loop .busy pend tm' ps asg bo })) k tm else none
        | _ => none
      | _ => none
    | none => none
  | .code (.rangeFunc f ps assign body) :: k => match rd with
    | none => match loopA E rec lvl h tm f ps assign body with
      | some (pend, h') => match rec none lvl h' ((pend.map Item.code).toList ++ k) tm with
        | some r => some { r with marks := appL r.marks [lenL h] }
        | none => none
      | none => none
    | some _ => none
  | _ => none

def run (E : Env) (n : Nat) : RunT := Nat.rec (fun _ _ _ _ _ => none) (fun _ ih => runF E ih) n

end
end Go.Ev
