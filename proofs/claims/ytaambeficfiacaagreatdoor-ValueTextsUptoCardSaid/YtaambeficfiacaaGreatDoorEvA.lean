/- The evaluator: its definitions, what its states stand for, its primitive steps. No conditions. -/
import GoSem.Claims
import Derived.Orders
import Derived.OrdersHeld
import Derived.KernelRfl
import Derived.Below
import Derived.Laws.Cells
import Derived.Laws.Rows
import Derived.Laws.NewBlocks
namespace Go.Proofs.YtaambeficfiacaaGreatDoor.Ev
open Go Go.RowKit

/-! a map from numbers, as a tree -/
inductive T (α : Type) where
  | leaf
  | node (v : Option α) (l r : T α)
/-- the way to a number's place -/
inductive Pth where
  | e
  | z (p : Pth)
  | o (p : Pth)
noncomputable def pthF : Nat → Nat → Pth :=
  Nat.rec (motive := fun _ => Nat → Pth) (fun _ => .e)
    (fun _ ih => fun n => Nat.rec (motive := fun _ => Pth) .e (fun k _ => Bool.rec (motive := fun _ => Pth) (.o (ih (Nat.div k 2))) (.z (ih (Nat.div k 2))) (Nat.beq (Nat.mod k 2) 0)) n)
noncomputable def pth (n : Nat) : Pth := pthF (n + 1) n
noncomputable def gE (α : Type) (t : T α) : Option α := T.rec (motive := fun _ => Option α) none (fun v _ _ _ _ => v) t
noncomputable def gZ (α : Type) (_ : Pth) (ih : T α → Option α) (t : T α) : Option α := T.rec (motive := fun _ => Option α) none (fun _ l _ _ _ => ih l) t
noncomputable def gO (α : Type) (_ : Pth) (ih : T α → Option α) (t : T α) : Option α := T.rec (motive := fun _ => Option α) none (fun _ _ r _ _ => ih r) t
noncomputable def pE (α : Type) (x : Option α) (t : T α) : T α := T.rec (motive := fun _ => T α) (.node x .leaf .leaf) (fun _ l r _ _ => .node x l r) t
noncomputable def pZ (α : Type) (_ : Pth) (ih : Option α → T α → T α) (x : Option α) (t : T α) : T α := T.rec (motive := fun _ => T α) (.node none (ih x .leaf) .leaf) (fun v l r _ _ => .node v (ih x l) r) t
noncomputable def pO (α : Type) (_ : Pth) (ih : Option α → T α → T α) (x : Option α) (t : T α) : T α := T.rec (motive := fun _ => T α) (.node none .leaf (ih x .leaf)) (fun v l r _ _ => .node v l (ih x r)) t
noncomputable def T.getP {α : Type} (p : Pth) : T α → Option α := Pth.rec (motive := fun _ => T α → Option α) (gE α) (gZ α) (gO α) p
noncomputable def T.putP {α : Type} (p : Pth) : Option α → T α → T α := Pth.rec (motive := fun _ => Option α → T α → T α) (pE α) (pZ α) (pO α) p
noncomputable def T.get {α : Type} (t : T α) (n : Nat) : Option α := T.getP (pth n) t
noncomputable def T.put {α : Type} (t : T α) (n : Nat) (x : Option α) : T α := T.putP (pth n) x t
noncomputable def T.set {α : Type} (t : T α) (n : Nat) (x : α) : T α := t.put n (some x)

/-! values that hold no address -/
/-- what stands for the function 'yield' of a range over a function -/
def yv (l : Nat) : Value := .pointer (some ⟨l, 0, some 0⟩)
def grd : Nat → Value → Bool
  | 0, _ => false
  | d + 1, v => match v with
    | .bool _ => true
    | .int _ _ => true
    | .string _ => true
    | .float _ _ => true
    | .complex _ _ _ => true
    | .pointer none => true
    | .slice none _ _ => true
    | .map none => true
    | .nilFunc => true
    | .nilIface => true
    | .iface _ v => grd d v
    | .agg cs => cs.toList.all (grd d)
    | .tuple vs => vs.toList.all (grd d)
    | .func _ xs ys => xs.toList.all (grd d) && ys.toList.all (grd d)
    | _ => false

/-- a block as the evaluator has it: its first n cells are known; exact: it has no more; from cell frz on it may be written; sz: the cells of an element -/
structure Blk where
  cells : T Value
  n : Nat
  elem : TypeId
  sz : Nat
  exact : Bool
  frz : Nat
/-- a range over a function: where it stands, the temporaries at its start, its rounds' code -/
structure LA where
  state : LoopState
  pending : Option Code
  tm : T Value
  N : Nat
  params : Array Tmp
  assign : Code
  body : Code
  dfr : Nat
/-- an object that is no cells: a map, what goes over a map or a string, a range over a function, the block for its rounds' deferred calls (open or taken) -/
inductive OA where
  | map (es : List MapEntry) (clock : Nat)
  | iter (m : Option Nat) (since : Nat) (seen : List Nat) (stepped : Nat)
  | str (s : ByteArray) (pos : Nat)
  | loop (l : LA)
  | dfr (opn : Bool)
structure St where
  heap : T Blk
  next : Nat
  minw : Nat
  obs : T OA

def big : Nat := 18446744073709551616

/-! maps -/
noncomputable def newObs (st : St) (o : OA) : St := { heap := st.heap, next := st.next + 1, minw := st.minw, obs := st.obs.set st.next o }
noncomputable def setObs (st : St) (id : Nat) (o : OA) : St := { heap := st.heap, next := st.next, minw := Nat.min id st.minw, obs := st.obs.set id o }
def keyB : TypeDesc → Value → Bool
  | .int k, .int k' _ => decide (k' = k)
  | .string, .string _ => true
  | .bool, .bool _ => true
  | _, _ => false
noncomputable def mapOf (st : St) : Value → Option (List MapEntry)
  | .map none => some []
  | .map (some id) => match st.obs.get id with | some (.map es _) => some es | _ => none
  | _ => none
def okT (ok b : Bool) (v : Value) : Value := bif ok then .tuple ⟨[v, .bool b]⟩ else v
noncomputable def aLookup (P : Program) (t : TypeId) (x k : Value) (ok : Bool) (st : St) : Option (Value × St) :=
  match P.underlying t with
  | some (.map kt et) =>
    match P.underlying kt, mapOf st x with
    | some kd, some es => bif keyB kd k then
        (match Instr.findNow kd k es 0 with
        | some (some (_, v)) => some (okT ok true v, st)
        | some none => (match (P.info? et).bind (·.zero) with | some z => bif grd 3 z then some (okT ok false z, st) else none | none => none)
        | none => none)
      else none
    | _, _ => none
  | _ => none
noncomputable def aMapUpdate (P : Program) (t : TypeId) (m k x : Value) (st : St) : Option St :=
  match P.underlying t, m with
  | some (.map kt _), .map (some id) =>
    match P.underlying kt, st.obs.get id with
    | some kd, some (.map es clock) => bif keyB kd k then
        (match Instr.findNow kd k es 0 with
        | some (some (i, _)) => some (setObs st id (.map (es.modify i fun e => { e with key := k, val := x }) clock))
        | some none => some (setObs st id (.map (es ++ [⟨k, x, clock⟩]) (clock + 1)))
        | none => none)
      else none
    | _, _ => none
  | _, _ => none
noncomputable def aMapEntry (P : Program) (t : TypeId) (m k : Value) (st : St) : Option (Value × St) :=
  match P.underlying t, m with
  | some (.map kt et), .map (some id) =>
    match P.underlying kt, st.obs.get id with
    | some kd, some (.map es clock) => bif keyB kd k then
        (match Instr.findNow kd k es 0 with
        | some (some (i, v)) => some (.tuple ⟨[v, .int .i64 (Int.ofNat (((es[i]?).map (·.born)).getD 0))]⟩, setObs st id (.map (es.modify i fun e => { e with key := k }) clock))
        | some none => (match (P.info? et).bind (·.zero) with
          | some z => bif grd 3 z then some (.tuple ⟨[z, .int .i64 (Int.ofNat clock)]⟩, setObs st id (.map (es ++ [⟨k, z, clock⟩]) (clock + 1))) else none
          | none => none)
        | none => none)
      else none
    | _, _ => none
  | _, _ => none
noncomputable def aEntryStore (m s x : Value) (st : St) : Option St :=
  match m, s with
  | .map (some id), .int _ born =>
    match st.obs.get id with
    | some (.map es clock) => (match es.findIdx? (fun e => (e.born : Int) == born) with
      | some i => some (setObs st id (.map (es.modify i fun e => { e with val := x }) clock))
      | none => none)
    | _ => none
  | _, _ => none
noncomputable def aDelete (P : Program) (ts : Array TypeId) (m k : Value) (st : St) : Option (Value × St) :=
  match (ts[0]?).bind P.underlying, m with
  | some (.map kt _), .map (some id) =>
    match P.underlying kt, st.obs.get id with
    | some kd, some (.map es clock) => bif keyB kd k then
        (match Instr.findNow kd k es 0 with
        | some (some (i, _)) => some (.tuple ⟨[]⟩, setObs st id (.map (es.eraseIdx i) clock))
        | some none => some (.tuple ⟨[]⟩, setObs st id (.map es clock))
        | none => none)
      else none
    | _, _ => none
  | _, _ => none
noncomputable def aMapLen (P : Program) (ts : Array TypeId) (m : Value) (st : St) : Option (Value × St) :=
  match (ts[0]?).bind P.underlying, m with
  | some (.map _ _), .map (some id) => (match st.obs.get id with | some (.map es _) => some (.int .i64 es.length, st) | _ => none)
  | _, _ => none
noncomputable def aRange (P : Program) (t : TypeId) (x : Value) (st : St) : Option (Value × St) :=
  match P.underlying t, x with
  | some .string, .string s => some (.pointer (some ⟨st.next, 0, none⟩), newObs st (.str s 0))
  | some (.map _ _), .map none => some (.pointer (some ⟨st.next, 0, none⟩), newObs st (.iter none 0 [] 0))
  | some (.map _ _), .map (some id) => (match st.obs.get id with
    | some (.map _ clock) => some (.pointer (some ⟨st.next, 0, none⟩), newObs st (.iter (some id) clock [] clock))
    | _ => none)
  | _, _ => none
noncomputable def aNext (it : Value) (isS : Bool) (st : St) : Option (Value × St) :=
  match it with
  | .pointer (some ⟨r, 0, none⟩) =>
    match st.obs.get r, isS with
    | some (.str s pos), true =>
      bif Nat.blt pos s.size then
        some (.tuple ⟨[.bool true, .int .i64 (Int.ofNat pos), .int .i32 (Utf8.decode s pos).1]⟩, setObs st r (.str s (pos + (Utf8.decode s pos).2)))
      else some (.tuple ⟨[.bool false]⟩, st)
    | some (.iter none _ _ _), false => some (.tuple ⟨[.bool false]⟩, st)
    | some (.iter (some m) since seen last), false =>
      (match st.obs.get m with
      | some (.map es clock) =>
        bif !seen.isEmpty && !es.isEmpty && es.all (fun e => decide (e.born ≥ last)) then none
        else (match es.filter (fun e => !seen.contains e.born) with
          | [] => some (.tuple ⟨[.bool false]⟩, st)
          | [e] => bif Nat.blt e.born since && grd 3 e.key then some (.tuple ⟨[.bool true, e.key, e.val]⟩, setObs st r (.iter (some m) since (seen ++ [e.born]) clock)) else none
          | _ => none)
      | _ => none)
    | _, _ => none
  | _ => none
noncomputable def aEntry (it : Value) (st : St) : Option (Value × St) :=
  match it with
  | .pointer (some ⟨r, 0, none⟩) =>
    match st.obs.get r with
    | some (.iter (some m) _ seen stepped) =>
      (match st.obs.get m, seen.getLast? with
      | some (.map es clock), some stamp =>
        bif Nat.beq clock stepped then (match es.find? (fun e => e.born == stamp) with
          | some e => bif grd 3 e.key then some (.tuple ⟨[e.key, e.val]⟩, st) else none
          | none => none) else none
      | _, _ => none)
    | _ => none
  | _ => none

/-! cells -/
noncomputable def getCells (t : T Value) (off : Nat) : Nat → Option (List Value) :=
  Nat.rec (motive := fun _ => Option (List Value)) (some [])
    (fun k ih => match t.get (off + k), ih with | some v, some l => some (l ++ [v]) | _, _ => none)
noncomputable def getCellsFrom (t : T Value) : Nat → Nat → Option (List Value) :=
  Nat.rec (motive := fun _ => Nat → Option (List Value)) (fun _ => some [])
    (fun _ ih => fun off => match t.get off with | some v => (match ih (off + 1) with | some l => some (v :: l) | none => none) | none => none)
noncomputable def putCells (l : List Value) : T Value → Nat → T Value :=
  List.rec (motive := fun _ => T Value → Nat → T Value) (fun t _ => t) (fun v _ ih => fun t off => ih (t.set off v) (off + 1)) l
def isOne : Value → Bool
  | .agg _ => false
  | .tuple _ => false
  | _ => true
def oneC (l : List Value) : Bool := l.all isOne

/-! types -/
def tyAgg (P : Program) (t : TypeId) : Option Bool := match P.underlying t with | some (.struct _) => some true | some (.array _ _) => some true | some _ => some false | none => none
def tySize (P : Program) (t : TypeId) : Option Nat := (P.info? t).map (·.size)

/-! results of operations -/
inductive AR where
  | val (v : Value) (st : St)
  | skip (st : St)
  | call (f : FuncId) (args : List Value)
  | defer (v : Value)
  | round (l : Nat) (args : List Value)
  | fail

def ofP : Option Value → St → AR
  | some v, st => .val v st
  | none, _ => .fail
def ofV : Option (Value × St) → AR
  | some (v, st) => .val v st
  | none => .fail

def ofU : Option St → AR
  | some st => .skip st
  | none => .fail

/-- the slot in which the deferred calls are kept -/
def dKey : Nat := 1000000
noncomputable def tget (tm : T Value) (t : Nat) : Option Value := bif Nat.beq t dKey then none else tm.get t
noncomputable def aev (tm : T Value) : Operand → Option Value
  | .tmp t => tget tm t
  | .const v => bif grd 3 v then some v else none
  | .func f => some (.func (.func f) #[] #[])
  | .global g => bif Nat.blt g 200 then some (.pointer (some ⟨g + 4, 0, none⟩)) else none
noncomputable def aevD (tm : T Value) (x : Operand) : Value := (aev tm x).getD undef

def runPure (P : Program) {α : Type} : Sem α → Option α
  | .pure a => some a
  | .program k => runPure P (k P)
  | .mark _ k => runPure P k
  | _ => none
noncomputable def allGrd (tm : T Value) (xs : Array Operand) : Bool := xs.toList.all fun x => match aev tm x with | some v => grd 3 v | none => false
def isSelect : Op → Bool
  | .select _ _ => true
  | _ => false
noncomputable def aPureK (P : Program) (o : Oper) (tm : T Value) : Option Value :=
  bif allGrd tm o.op.operands && !isSelect o.op then
    match runPure P (execOp (aevD tm) o) with
    | some (.value v) => bif grd 3 v then some v else none
    | _ => none
  else none

/-! what comes up most often, at once -/
def cmpN (op : BinOp) (m n : Nat) : Option Value := match op with
  | .eql => some (.bool (Nat.beq m n))
  | .neq => some (.bool (!Nat.beq m n))
  | .lss => some (.bool (Nat.blt m n))
  | .leq => some (.bool (Nat.ble m n))
  | .gtr => some (.bool (Nat.blt n m))
  | .geq => some (.bool (Nat.ble n m))
  | _ => none
def binN (op : BinOp) (m n : Nat) : Option Value := match op with
  | .add => bif Nat.blt (Nat.add m n) 9223372036854775808 then some (.int .i64 (.ofNat (Nat.add m n))) else none
  | .sub => bif Nat.ble n m && Nat.blt m 9223372036854775808 then some (.int .i64 (.ofNat (Nat.sub m n))) else none
  | .mul => bif Nat.blt (Nat.mul m n) 9223372036854775808 then some (.int .i64 (.ofNat (Nat.mul m n))) else none
  | _ => cmpN op m n
def fastB (op : BinOp) (x y : Value) : Option Value := match x with
  | .int k (.ofNat m) => (match y with
    | .int k2 (.ofNat n) => (match k, k2 with
      | .i64, .i64 => binN op m n
      | .u8, .u8 => cmpN op m n
      | _, _ => none)
    | _ => none)
  | _ => none
noncomputable def fastP (o : Oper) (tm : T Value) : Option Value := match o.op with
  | .binOp op _ x y _ => (match aev tm x, aev tm y with
    | some u, some v => fastB op u v
    | _, _ => none)
  | .unOp .not _ x => (match aev tm x with
    | some (.bool b) => some (.bool (!b))
    | _ => none)
  | _ => none
/-! strings and conversions, at once -/
noncomputable def opt1 (f : Value → Option Value) (x : Option Value) : Option Value := Option.rec (motive := fun _ => Option Value) none (fun u => f u) x
noncomputable def opt2 (f : Value → Value → Option Value) (x y : Option Value) : Option Value := Option.rec (motive := fun _ => Option Value) none (fun u => Option.rec (motive := fun _ => Option Value) none (fun v => f u v) y) x
def sIndex (P : Program) (t : TypeId) (u v : Value) : Option Value :=
  match u, v with
  | .string s, .int _ (.ofNat i) => (match P.underlying t with
    | some .string => (match s.data.toList[i]? with | some b => some (.int .u8 (Int.ofNat b.toNat)) | none => none)
    | _ => none)
  | _, _ => none
def natI : Value → Option Nat
  | .int _ (.ofNat n) => some n
  | _ => none
noncomputable def loI (tm : T Value) (x : Option Operand) : Option Nat := match x with
  | none => some 0
  | some x => (aev tm x).bind natI
noncomputable def hiI (tm : T Value) (n : Nat) (x : Option Operand) : Option Nat := match x with
  | none => some n
  | some x => (aev tm x).bind natI
noncomputable def sSliceS (P : Program) (tm : T Value) (t : TypeId) (s : ByteArray) (lo hi : Option Operand) : Option Value :=
  match P.underlying t, loI tm lo, hiI tm s.data.toList.length hi with
  | some .string, some l, some h => bif Nat.ble l h && Nat.ble h s.data.toList.length then some (.string ⟨⟨(s.data.toList.drop l).take (h - l)⟩⟩) else none
  | _, _, _ => none
noncomputable def sSliceO (P : Program) (tm : T Value) (t : TypeId) (x : Option Value) (lo hi mx : Option Operand) : Option Value :=
  match x, mx with
  | some (.string s), none => sSliceS P tm t s lo hi
  | _, _ => none
def sConv (P : Program) (src dst : TypeId) (u : Value) : Option Value :=
  match u with
  | .int _ n => (match P.underlying src, P.underlying dst with
    | some _, some (.int .i64) => (match n with
      | .ofNat m => bif Nat.blt m 9223372036854775808 then some (.int .i64 (.ofNat m)) else none
      | _ => none)
    | _, _ => none)
  | _ => none
def eqU : List UInt8 → List UInt8 → Bool
  | [], [] => true
  | a :: x, b :: y => Nat.beq a.toNat b.toNat && eqU x y
  | _, _ => false
def sStr (op : BinOp) (a b : ByteArray) : Option Value := match op with
  | .eql => some (.bool (eqU a.data.toList b.data.toList))
  | .neq => some (.bool (!eqU a.data.toList b.data.toList))
  | .add => bif Nat.blt (a.data.toList.length + b.data.toList.length) 9223372036854775808 then some (.string ⟨⟨a.data.toList ++ b.data.toList⟩⟩) else none
  | _ => none
def sInt (op : BinOp) (m n : Nat) : Option Value := match op with
  | .rem => bif Nat.blt 0 n then some (.int .i64 (.ofNat (Nat.mod m n))) else none
  | .quo => bif Nat.blt 0 n && Nat.blt m 9223372036854775808 then some (.int .i64 (.ofNat (Nat.div m n))) else none
  | _ => none
def sBin (op : BinOp) (u v : Value) : Option Value :=
  match u, v with
  | .string a, .string b => sStr op a b
  | .int .i64 (.ofNat m), .int .i64 (.ofNat n) => sInt op m n
  | _, _ => none
noncomputable def sCall (P : Program) (tm : T Value) (c : Call) : Option Value :=
  match c.callee with
  | .builtin .len => (match aev tm (c.args.getD 0 default), (c.argTypes[0]?).bind P.underlying with
    | some (.string s), some .string => bif Nat.beq c.args.size 1 then some (.int .i64 (Int.ofNat s.data.toList.length)) else none
    | _, _ => none)
  | _ => none
noncomputable def fastSA : Op → Program → T Value → Option Value := fun op => Op.rec (motive := fun _ => Program → T Value → Option Value)
  (fun _ _ _ => none)
  (fun _ _ _ => none)
  (fun _ _ _ _ _ => none)
  (fun _ _ _ => none)
  (fun _ _ _ _ => none)
  (fun _ _ _ _ => none)
  (fun _ _ _ _ _ => none)
  (fun _ _ _ _ _ _ => none)
  (fun _ _ _ _ => none)
  (fun _ _ _ _ _ => none)
  (fun _ _ _ => none)
  (fun _ _ _ => none)
  (fun _ _ _ => none)
  (fun a0 _ a2 a3 _ _ tm => opt2 (sBin a0) (aev tm a2) (aev tm a3))
  (fun _ _ _ _ _ => none)
  (fun a0 a1 a2 P tm => opt1 (sConv P a0 a1) (aev tm a2))
  (fun _ _ _ _ => none)
  (fun _ _ _ _ => none)
  (fun _ _ _ _ _ => none)
  (fun _ _ _ _ => none)
  (fun _ _ _ _ => none)
  (fun _ _ _ _ _ => none)
  (fun a0 a1 a2 a3 a4 P tm => sSliceO P tm a0 (aev tm a1) a2 a3 a4)
  (fun _ _ _ _ _ => none)
  (fun _ _ _ _ _ => none)
  (fun _ _ _ _ _ => none)
  (fun a0 a1 a2 P tm => opt2 (sIndex P a0) (aev tm a1) (aev tm a2))
  (fun _ _ _ _ _ _ => none)
  (fun _ _ _ _ _ _ => none)
  (fun _ _ _ _ _ => none)
  (fun _ _ _ _ _ _ => none)
  (fun _ _ _ _ => none)
  (fun _ _ _ _ => none)
  (fun _ _ _ => none)
  (fun _ _ _ _ _ _ => none)
  (fun _ _ _ _ => none)
  (fun a0 P tm => sCall P tm a0)
  (fun _ _ _ => none)
  (fun _ _ _ => none)
  (fun _ _ _ => none)
  (fun _ _ _ _ => none)
  (fun _ _ _ _ _ => none)
  (fun _ _ _ _ => none) op
noncomputable def fastS (P : Program) (o : Oper) (tm : T Value) : Option Value := fastSA o.op P tm
noncomputable def vI : Value → (IntKind → Int → Option Value) → Option Value := fun v => Value.rec (motive_1 := fun _ => (IntKind → Int → Option Value) → Option Value) (motive_2 := fun _ => Unit) (motive_3 := fun _ => Unit)
  (fun _ _ => none) (fun k n f => f k n) (fun _ _ _ => none) (fun _ _ _ _ => none) (fun _ _ => none) (fun _ _ => none) (fun _ _ _ _ => none) (fun _ _ => none) (fun _ _ => none) (fun _ _ _ _ _ _ => none) (fun _ => none) (fun _ _ _ _ => none) (fun _ => none) (fun _ _ _ => none) (fun _ _ _ => none) (fun _ _ => ()) () (fun _ _ _ _ => ()) v
noncomputable def vS : Value → (ByteArray → Option Value) → Option Value := fun v => Value.rec (motive_1 := fun _ => (ByteArray → Option Value) → Option Value) (motive_2 := fun _ => Unit) (motive_3 := fun _ => Unit)
  (fun _ _ => none) (fun _ _ _ => none) (fun _ _ _ => none) (fun _ _ _ _ => none) (fun s f => f s) (fun _ _ => none) (fun _ _ _ _ => none) (fun _ _ => none) (fun _ _ => none) (fun _ _ _ _ _ _ => none) (fun _ => none) (fun _ _ _ _ => none) (fun _ => none) (fun _ _ _ => none) (fun _ _ _ => none) (fun _ _ => ()) () (fun _ _ _ _ => ()) v
noncomputable def vIS : Value → (IntKind → Int → Option Value) → (ByteArray → Option Value) → Option Value := fun v => Value.rec (motive_1 := fun _ => (IntKind → Int → Option Value) → (ByteArray → Option Value) → Option Value) (motive_2 := fun _ => Unit) (motive_3 := fun _ => Unit)
  (fun _ _ _ => none) (fun k n f _ => f k n) (fun _ _ _ _ => none) (fun _ _ _ _ _ => none) (fun s _ g => g s) (fun _ _ _ => none) (fun _ _ _ _ _ => none) (fun _ _ _ => none) (fun _ _ _ => none) (fun _ _ _ _ _ _ _ => none) (fun _ _ => none) (fun _ _ _ _ _ => none) (fun _ _ => none) (fun _ _ _ _ => none) (fun _ _ _ _ => none) (fun _ _ => ()) () (fun _ _ _ _ => ()) v
noncomputable def vSL : Value → (ByteArray → Option Value) → (Nat → Option Value) → Option Value := fun v => Value.rec (motive_1 := fun _ => (ByteArray → Option Value) → (Nat → Option Value) → Option Value) (motive_2 := fun _ => Unit) (motive_3 := fun _ => Unit)
  (fun _ _ _ => none) (fun _ _ _ _ => none) (fun _ _ _ _ => none) (fun _ _ _ _ _ => none) (fun s f _ => f s) (fun _ _ _ => none) (fun _ n _ _ g => g n) (fun _ _ _ => none) (fun _ _ _ => none) (fun _ _ _ _ _ _ _ => none) (fun _ _ => none) (fun _ _ _ _ _ => none) (fun _ _ => none) (fun _ _ _ _ => none) (fun _ _ _ _ => none) (fun _ _ => ()) () (fun _ _ _ _ => ()) v
noncomputable def nat2 (m n : Int) (f : Nat → Nat → Option Value) : Option Value :=
  Int.rec (motive := fun _ => Int → (Nat → Nat → Option Value) → Option Value) (fun m n f => Int.rec (motive := fun _ => Nat → (Nat → Nat → Option Value) → Option Value) (fun n m f => f m n) (fun _ _ _ => none) n m f) (fun _ _ _ => none) m n f
noncomputable def k8 : IntKind → (Nat → Nat → Option Value) → Int → Int → Option Value := fun k =>
  IntKind.rec (motive := fun _ => (Nat → Nat → Option Value) → Int → Int → Option Value) (fun _ _ _ => none) (fun _ _ _ => none) (fun _ _ _ => none) (fun _ _ _ => none) (fun f m n => nat2 m n f) (fun _ _ _ => none) (fun _ _ _ => none) (fun _ _ _ => none) k
noncomputable def k64 : IntKind → (Nat → Nat → Option Value) → Int → Int → Option Value := fun k =>
  IntKind.rec (motive := fun _ => (Nat → Nat → Option Value) → Int → Int → Option Value) (fun _ _ _ => none) (fun _ _ _ => none) (fun _ _ _ => none) (fun f m n => nat2 m n f) (fun _ _ _ => none) (fun _ _ _ => none) (fun _ _ _ => none) (fun _ _ _ => none) k
noncomputable def kk : IntKind → IntKind → (Nat → Nat → Option Value) → (Nat → Nat → Option Value) → Int → Int → Option Value := fun k =>
  IntKind.rec (motive := fun _ => IntKind → (Nat → Nat → Option Value) → (Nat → Nat → Option Value) → Int → Int → Option Value) (fun _ _ _ _ _ => none) (fun _ _ _ _ _ => none) (fun _ _ _ _ _ => none) (fun k2 f _ m n => k64 k2 f m n) (fun k2 _ g m n => k8 k2 g m n) (fun _ _ _ _ _ => none) (fun _ _ _ _ _ => none) (fun _ _ _ _ _ => none) k
noncomputable def nn (f g : Nat → Nat → Option Value) (u v : Value) : Option Value := vI u (fun k m => vI v (fun k2 n => kk k k2 f g m n))
noncomputable def no2 (_ _ : Nat) : Option Value := none
noncomputable def boolV (b : Bool) : Option Value := some (.bool b)
noncomputable def fastBF : BinOp → Value → Value → Option Value := fun op => BinOp.rec (motive := fun _ => Value → Value → Option Value)
  (nn (fun m n => Bool.rec (motive := fun _ => Option Value) none (some (.int .i64 (.ofNat (Nat.add m n)))) (Nat.blt (Nat.add m n) 9223372036854775808)) no2)
  (nn (fun m n => binN .sub m n) no2)
  (nn (fun m n => binN .mul m n) no2)
  (fun _ _ => none) (fun _ _ => none) (fun _ _ => none) (fun _ _ => none) (fun _ _ => none) (fun _ _ => none) (fun _ _ => none) (fun _ _ => none)
  (nn (fun m n => boolV (Nat.beq m n)) (fun m n => boolV (Nat.beq m n)))
  (nn (fun m n => boolV (Bool.rec true false (Nat.beq m n))) (fun m n => boolV (Bool.rec true false (Nat.beq m n))))
  (nn (fun m n => boolV (Nat.blt m n)) (fun m n => boolV (Nat.blt m n)))
  (nn (fun m n => boolV (Nat.ble m n)) (fun m n => boolV (Nat.ble m n)))
  (nn (fun m n => boolV (Nat.blt n m)) (fun m n => boolV (Nat.blt n m)))
  (nn (fun m n => boolV (Nat.ble n m)) (fun m n => boolV (Nat.ble n m))) op
theorem fastBF_eq (op : BinOp) (u v : Value) : fastBF op u v = fastB op u v := by
  cases u with
  | int k m =>
    cases v with
    | int k2 n =>
      cases m with
      | negSucc m => cases op <;> cases k <;> (try rfl) <;> (cases k2 <;> rfl)
      | ofNat m =>
        cases n with
        | negSucc n => cases op <;> cases k <;> (try rfl) <;> (cases k2 <;> rfl)
        | ofNat n =>
          cases op <;> cases k <;> (try rfl) <;> cases k2 <;> (try rfl)
          · show Bool.rec (motive := fun _ => Option Value) none (some (.int .i64 (.ofNat (Nat.add m n)))) (Nat.blt (Nat.add m n) 9223372036854775808) = (bif Nat.blt (Nat.add m n) 9223372036854775808 then some (.int .i64 (.ofNat (Nat.add m n))) else none)
            cases Nat.blt (Nat.add m n) 9223372036854775808 <;> rfl
          · show boolV (Bool.rec true false (Nat.beq m n)) = some (.bool (!Nat.beq m n))
            cases Nat.beq m n <;> rfl
          · show boolV (Bool.rec true false (Nat.beq m n)) = some (.bool (!Nat.beq m n))
            cases Nat.beq m n <;> rfl
    | _ => cases m <;> cases op <;> rfl
  | _ => cases op <;> rfl
/-- strings, and int's quotients -/
noncomputable def vSS (f : ByteArray → ByteArray → Option Value) (u v : Value) : Option Value := vS u (fun a => vS v (fun b => f a b))
noncomputable def sBinF : BinOp → Value → Value → Option Value := fun op => BinOp.rec (motive := fun _ => Value → Value → Option Value)
  (vSS (fun a b => sStr .add a b)) (fun _ _ => none) (fun _ _ => none)
  (nn (fun m n => sInt .quo m n) no2) (nn (fun m n => sInt .rem m n) no2)
  (fun _ _ => none) (fun _ _ => none) (fun _ _ => none) (fun _ _ => none) (fun _ _ => none) (fun _ _ => none)
  (vSS (fun a b => boolV (eqU a.data.toList b.data.toList))) (vSS (fun a b => sStr .neq a b))
  (fun _ _ => none) (fun _ _ => none) (fun _ _ => none) (fun _ _ => none) op
theorem sBinF_eq (op : BinOp) (u v : Value) : sBinF op u v = sBin op u v := by
  cases u with
  | string a => cases v with
    | string b => cases op <;> rfl
    | _ => cases op <;> rfl
  | int k m =>
    cases v with
    | int k2 n =>
      cases m with
      | negSucc m => cases op <;> cases k <;> (try rfl) <;> (cases k2 <;> rfl)
      | ofNat m =>
        cases n with
        | negSucc n => cases op <;> cases k <;> (try rfl) <;> (cases k2 <;> rfl)
        | ofNat n => cases op <;> cases k <;> (try rfl) <;> (cases k2 <;> rfl)
    | _ => cases m <;> cases op <;> cases k <;> rfl
  | _ => cases op <;> rfl
noncomputable def aPure (P : Program) (o : Oper) (tm : T Value) : Option Value :=
  match fastP o tm with
  | some v => some v
  | none => match fastS P o tm with
    | some v => some v
    | none => aPureK P o tm

noncomputable def newBlk (st : St) (cells : T Value) (n : Nat) (elem : TypeId) (sz : Nat) (exact : Bool) : St :=
  { heap := st.heap.set st.next ⟨cells, n, elem, sz, exact, 0⟩, next := st.next + 1, minw := st.minw, obs := st.obs }
noncomputable def aBox (elem : TypeId) (l : List Value) (st : St) : Option (Value × St) :=
  some ((.pointer (some ⟨st.next, 0, none⟩)), (newBlk st (putCells l .leaf 0) l.length elem l.length true))

noncomputable def aLoad (P : Program) (t : TypeId) (a : Value) (st : St) : Option (Value × St) :=
  match a with
  | .pointer (some ⟨id, off, none⟩) =>
    match st.heap.get id with
    | some b =>
      match tySize P t, tyAgg P t with
      | some k, some true => bif Nat.ble (off + k) b.n then (match getCellsFrom b.cells k off with | some l => some ((.agg ⟨l⟩), st) | none => none) else none
      | some _, some false => bif Nat.blt off b.n then (match b.cells.get off with | some v => some (v, st) | none => none) else none
      | _, _ => none
    | none => none
  | _ => none
def cellsL : Value → List Value
  | .agg ⟨l⟩ => l
  | v => [v]
noncomputable def setBlk (st : St) (id : Nat) (b : Blk) : St := { heap := st.heap.set id b, next := st.next, minw := Nat.min id st.minw, obs := st.obs }
noncomputable def aStoreCells (id off : Nat) (l : List Value) (st : St) : Option St :=
  match st.heap.get id with
  | some b => bif Nat.ble (off + l.length) b.n && Nat.ble b.frz off && oneC l then some (setBlk st id { b with cells := putCells l b.cells off }) else none
  | none => none
noncomputable def aStore (P : Program) (t : TypeId) (a v : Value) (st : St) : Option St :=
  match a with
  | .pointer (some ⟨id, off, none⟩) =>
    match tySize P t with
    | some k => bif Nat.beq k (cellsL v).length then (match aStoreCells id off (cellsL v) st with | some st => some st | none => none) else none
    | none => none
  | _ => none
noncomputable def aFieldAddr (P : Program) (s : TypeId) (x : Value) (f : Nat) (st : St) : Option (Value × St) :=
  match x, P.underlying s with
  | .pointer (some ⟨id, off, none⟩), some (.struct fs) =>
    match fs[f]? with
    | some fd => (match tySize P fd.type with | some k => bif Nat.beq k 0 then none else some ((.pointer (some ⟨id, off + fd.offset, none⟩)), st) | none => none)
    | none => none
  | _, _ => none
def natIdx : Value → Option Nat
  | .int _ (.ofNat n) => some n
  | _ => none
noncomputable def aIndexAddr (P : Program) (t : TypeId) (x ix : Value) (st : St) : Option (Value × St) :=
  match P.underlying t, x, natIdx ix with
  | some (.slice e), .slice (some ⟨id, off, none⟩) len _, some i =>
    match tySize P e with
    | some k => bif Nat.blt i len then some ((.pointer (some ⟨id, off + i * k, none⟩)), st) else none
    | none => none
  | some (.array len e), .pointer (some ⟨id, off, none⟩), some i =>
    match tySize P e with
    | some k => bif Nat.blt i len then some ((.pointer (some ⟨id, off + i * k, none⟩)), st) else none
    | none => none
  | _, _, _ => none
noncomputable def optIdx (tm : T Value) (d : Nat) : Option Operand → Option Nat
  | none => some d
  | some x => match aev tm x with | some v => natIdx v | none => none
noncomputable def aSliceS (k id off len cap lo : Nat) (hi mx : Option Nat) (st : St) : Option (Value × St) :=
  match hi, mx with
  | none, none =>
    bif Nat.blt cap big then
      (bif Nat.ble lo len then some (.slice (some ⟨id, bif Nat.beq cap lo then off else off + lo * k, none⟩) (len - lo) (cap - lo), st) else none)
    else bif Nat.ble lo len && (Nat.blt lo len || Nat.beq lo 0) then some (.slice (some ⟨id, off + lo * k, none⟩) (len - lo) (cap + lo), st)
    else bif Nat.beq lo len then some (.slice (some ⟨id, off + lo * k, some (lo * k)⟩) 0 (cap + lo), st) else none
  | some h, none =>
    bif Nat.blt cap big then
      (bif Nat.ble lo h && Nat.ble h cap then some (.slice (some ⟨id, bif Nat.beq cap lo then off else off + lo * k, none⟩) (h - lo) (cap - lo), st) else none)
    else bif Nat.ble lo h && Nat.ble h len && (Nat.blt lo len || Nat.beq lo 0) then some (.slice (some ⟨id, off + lo * k, none⟩) (h - lo) (cap + lo), st)
    else bif Nat.beq lo len && Nat.beq h len then some (.slice (some ⟨id, off + lo * k, some (lo * k)⟩) 0 (cap + lo), st) else none
  | some h, some m =>
    bif Nat.ble lo h && Nat.ble h m && Nat.blt m big && (bif Nat.blt cap big then Nat.ble m cap else Nat.ble m len) then
      some (.slice (some ⟨id, bif Nat.beq m lo then off else off + lo * k, none⟩) (h - lo) (m - lo), st) else none
  | _, _ => none
noncomputable def aSliceA (k n id off lo : Nat) (hi mx : Option Nat) (st : St) : Option (Value × St) :=
  match hi, mx with
  | none, none => bif Nat.ble lo n && Nat.blt n big then some (.slice (some ⟨id, bif Nat.beq n lo then off else off + lo * k, none⟩) (n - lo) (n - lo), st) else none
  | some h, none => bif Nat.ble lo h && Nat.ble h n && Nat.blt n big then some (.slice (some ⟨id, bif Nat.beq n lo then off else off + lo * k, none⟩) (h - lo) (n - lo), st) else none
  | _, _ => none
noncomputable def aSlice (P : Program) (t : TypeId) (x : Value) (lo : Nat) (hi mx : Option Nat) (st : St) : Option (Value × St) :=
  match P.underlying t with
  | some (.slice e) =>
    match tySize P e, x with
    | some k, .slice (some ⟨id, off, none⟩) len cap => aSliceS k id off len cap lo hi mx st
    | some _, .slice none len cap => bif Nat.beq len 0 && Nat.beq cap 0 && Nat.beq lo 0 && Nat.beq (hi.getD 0) 0 && mx.isNone then some (.slice none 0 0, st) else none
    | _, _ => none
  | some (.array n e) =>
    match tySize P e, x with
    | some k, .pointer (some ⟨id, off, none⟩) => aSliceA k n id off lo hi mx st
    | _, _ => none
  | _ => none
noncomputable def aparts (tm : T Value) (ps : Array (Nat × Operand)) : Option (List (Nat × Value)) :=
  ps.toList.foldr (fun p acc => match aev tm p.2, acc with | some v, some l => some ((p.1, v) :: l) | _, _ => none) (some [])
noncomputable def aPlaces (P : Program) (fs : Array Field) : Option (List (Nat × Nat)) :=
  fs.toList.foldr (fun f acc => match tySize P f.type, acc with | some k, some l => some ((f.offset, k) :: l) | _, _ => none) (some [])
noncomputable def aBuild (P : Program) (t : TypeId) (ps : List (Nat × Value)) (st : St) : Option (Value × St) :=
  match P.info? t with
  | some i =>
    match i.zero, P.underlying t with
    | some z, some (.struct fs) =>
      match aPlaces P fs with
      | some pl => bif grd 3 z then (match Instr.fill (fun j => pl[j]?) z.cells ps with | some cs => some (.agg cs, st) | none => none) else none
      | none => none
    | some z, some (.array _ e) =>
      match tySize P e with
      | some k => bif grd 3 z then (match Instr.fill (fun j => some (j * k, k)) z.cells ps with | some cs => some (.agg cs, st) | none => none) else none
      | none => none
    | _, _ => none
  | none => none
/-- the elements' cells one after another, when every element is given, or the zero's -/
noncomputable def aBuildSlice (P : Program) (t : TypeId) (len : Nat) (ps : List (Nat × Value)) (st : St) : Option (Value × St) :=
  match P.underlying t with
  | some (.slice e) =>
    match P.info? e with
    | some i =>
      match i.zero with
      | some z =>
        bif Nat.blt (len * i.size) 16777216 && Nat.blt len 16777216 && grd 3 z then
          match Instr.fill (fun j => some (j * i.size, i.size)) ((Array.range (len * i.size)).map (z.cells[· % z.cells.size]!)) ps with
          | some cs => some (.slice (some ⟨st.next, 0, none⟩) len len, newBlk st (putCells cs.toList .leaf 0) cs.size e i.size true)
          | none => none
        else none
      | none => none
    | none => none
  | _ => none
noncomputable def aMakeSlice (P : Program) (t : TypeId) (len cap : Nat) (st : St) : Option (Value × St) :=
  match P.underlying t with
  | some (.slice e) =>
    match P.info? e with
    | some i =>
      match i.zero with
      | some z =>
        bif Nat.blt (cap * i.bytes) 1099511627776 && Nat.ble len cap && Nat.blt cap 1099511627776 && grd 3 z then
          some ((.slice (some ⟨st.next, 0, none⟩) len cap), (newBlk st (putCells ((Array.range (cap * i.size)).map (z.cells[· % z.cells.size]!)).toList .leaf 0) (cap * i.size) e i.size true))
        else none
      | none => none
    | none => none
  | _ => none
/-- the cells of the first n elements of a slice or a string -/
noncomputable def srcCells (st : St) (k : Nat) (n : Nat) : Value → Option (List Value)
  | .slice (some ⟨id, off, none⟩) _ _ => match st.heap.get id with | some b => bif Nat.ble (off + n * k) b.n then getCellsFrom b.cells (n * k) off else none | none => none
  | .slice none _ _ => some []
  | .slice (some ⟨_, _, some _⟩) _ _ => bif Nat.beq n 0 then some [] else none
  | .string s => some ((s.extract 0 n).data.toList.map fun b => .int .u8 b.toNat)
  | _ => none
def srcLen : Value → Option Nat
  | .slice _ n _ => some n
  | .string s => some s.size
  | _ => none
/-- append where there is room among the known cells -/
noncomputable def aAppIn (k n : Nat) (new : List Value) (id off len cap : Nat) (st : St) : Option (Value × St) :=
  match aStoreCells id (off + len * k) new st with
  | some st => some (.slice (some ⟨id, off, none⟩) (len + n) cap, st)
  | none => none
/-- append where there is surely no room -/
noncomputable def aAppNew (e k n : Nat) (new : List Value) (b : Blk) (off len : Nat) (st : St) : Option (Value × St) :=
  bif Nat.ble (off + len * k) b.n then
    match getCellsFrom b.cells (len * k) off with
    | some old => some (.slice (some ⟨st.next, 0, none⟩) (len + n) big, newBlk st (putCells new (putCells old .leaf 0) (len * k)) ((len + n) * k) e k false)
    | none => none
  else none
/-- append where there may be room or not: the slice's block goes over -/
noncomputable def aAppOver (e k n : Nat) (new : List Value) (id : Nat) (b : Blk) (off len : Nat) (st : St) : Option (Value × St) :=
  bif Nat.beq (off + len * k) b.n && Nat.ble b.frz (off + len * k) && oneC new then
    bif Nat.beq off 0 then
      some (.slice (some ⟨st.next, 0, none⟩) (len + n) big,
        { heap := (st.heap.put id none).set st.next ⟨putCells new b.cells b.n, (len + n) * k, e, k, false, b.frz⟩, next := st.next + 1, minw := Nat.min id st.minw, obs := st.obs })
    else match getCellsFrom b.cells (len * k) off with
      | some old => some (.slice (some ⟨st.next, 0, none⟩) (len + n) big,
          { heap := (st.heap.put id none).set st.next ⟨putCells new (putCells old .leaf 0) (len * k), (len + n) * k, e, k, false, b.frz - off⟩, next := st.next + 1, minw := Nat.min id st.minw, obs := st.obs })
      | none => none
  else none
noncomputable def aApp (e k n : Nat) (new : List Value) (s : Value) (st : St) : Option (Value × St) :=
  match s with
  | .slice none len cap =>
    bif Nat.beq cap 0 && Nat.beq len 0 then
      (bif Nat.beq n 0 then some (s, st)
      else some (.slice (some ⟨st.next, 0, none⟩) n big, newBlk st (putCells new .leaf 0) (n * k) e k false))
    else none
  | .slice (some ⟨id, off, none⟩) len cap =>
    match st.heap.get id with
    | some b =>
      bif Nat.blt cap big then
        (bif Nat.ble (len + n) cap then aAppIn k n new id off len cap st else aAppNew e k n new b off len st)
      else bif Nat.beq b.sz k && Nat.beq b.elem e && (!b.exact) && Nat.blt 0 k && Nat.beq cap (big + off / k) && Nat.beq (off % k) 0 then
        (bif Nat.ble (off + (len + n) * k) b.n then aAppIn k n new id off len cap st else aAppOver e k n new id b off len st)
      else none
    | none => none
  | _ => none
def appLen : Value → Nat
  | .slice _ n _ => n
  | _ => 0
/-- append(nil, make([]T, n)...) -/
noncomputable def aAppZ (P : Program) (ts : Array TypeId) (s x : Value) (st : St) : Option (Value × St) :=
  match ts[0]?, ts[1]?, s, natIdx x with
  | some sT, some xT, .slice none len cap, some n =>
    match P.underlying sT, P.underlying xT with
    | some (.slice e), some (.int .i64) =>
      match P.info? e with
      | some i =>
        match i.zero with
        | some z =>
          bif Nat.beq len 0 && Nat.beq cap 0 && Nat.blt 0 n && Nat.blt (n * i.bytes) 1099511627776 && Nat.blt n 1099511627776 && grd 3 z && Nat.beq z.cells.size i.size then
            some (.slice (some ⟨st.next, 0, none⟩) n big, newBlk st (putCells (Builtin.zeroCells z.cells n).toList .leaf 0) (n * i.size) e i.size false)
          else none
        | none => none
      | none => none
    | _, _ => none
  | _, _, _, _ => none
noncomputable def aAppend (P : Program) (ts : Array TypeId) (s x : Value) (st : St) : Option (Value × St) :=
  match ts[0]?, ts[1]? with
  | some sT, some xT =>
    match P.underlying sT, P.underlying xT with
    | some (.slice e), some d =>
      match (match d with | .int _ => true | _ => false), P.info? e, srcLen x with
      | false, some i, some n =>
        match srcCells st i.size n x, i.zero with
        | some new, some z =>
          bif Nat.blt ((appLen s + n) * i.bytes) 1099511627776 && Nat.blt (appLen s + n) 1099511627776 && Nat.beq z.cells.size i.size && Nat.beq new.length (n * i.size) then aApp e i.size n new s st else none
        | _, _ => none
      | _, _, _ => none
    | _, _ => none
  | _, _ => none
noncomputable def aCopy (P : Program) (ts : Array TypeId) (d s : Value) (st : St) : Option (Value × St) :=
  match ts[0]? with
  | none => none
  | some dT =>
  match P.underlying dT, d, srcLen s with
  | some (.slice e), .slice base dlen _, some n =>
    match tySize P e with
    | some k =>
      match srcCells st k (Nat.min n dlen) s with
      | some new =>
        match base with
        | none => some ((.int .i64 (Nat.min n dlen)), st)
        | some ⟨id, off, none⟩ => (match aStoreCells id off new st with | some st => some ((.int .i64 (Nat.min n dlen)), st) | none => none)
        | _ => none
      | none => none
    | none => none
  | _, _, _ => none
/-- clear of a slice -/
noncomputable def aClear (P : Program) (ts : Array TypeId) (s : Value) (st : St) : Option (Value × St) :=
  match (ts[0]?).bind P.underlying, s with
  | some (.slice e), .slice base n _ =>
    match base with
    | none => some (.tuple ⟨[]⟩, st)
    | some ⟨id, off, none⟩ => bif Nat.beq n 0 then some (.tuple ⟨[]⟩, st) else
      (match P.info? e with
      | some i => (match i.zero with
        | some z => bif grd 3 z then (match aStoreCells id off (Builtin.zeroCells z.cells n).toList st with | some st => some (.tuple ⟨[]⟩, st) | none => none) else none
        | none => none)
      | none => none)
    | _ => none
  | _, _ => none
noncomputable def argsL (tm : T Value) (xs : Array Operand) : Option (List Value) :=
  xs.toList.foldr (fun x acc => match aev tm x, acc with | some v, some l => some (v :: l) | _, _ => none) (some [])
/-- is one of the two nil? -/
noncomputable def aEq (P : Program) (t : TypeId) (x y : Value) : Option Bool :=
  match P.underlying t, x, y with
  | some (.pointer _), .pointer (some ⟨_, _, none⟩), .pointer none => some false
  | some (.pointer _), .pointer none, .pointer (some ⟨_, _, none⟩) => some false
  | some (.slice _), .slice (some _) _ _, .slice none _ _ => some false
  | some (.slice _), .slice none _ _, .slice (some _) _ _ => some false
  | some (.map _ _), .map (some _), .map none => some false
  | some (.map _ _), .map none, .map (some _) => some false
  | some (.interface _), .iface _ _, .nilIface => some false
  | some (.interface _), .nilIface, .iface _ _ => some false
  | some (.func _ _ _), .func _ _ _, .nilFunc => some false
  | some (.func _ _ _), .nilFunc, .func _ _ _ => some false
  | _, _, _ => none
noncomputable def aPtrEq (P : Program) (t : TypeId) (st : St) (x y : Value) : Option Bool :=
  match P.underlying t, x, y with
  | some (.pointer e), .pointer (some ⟨i, o, none⟩), .pointer (some ⟨j, p, none⟩) =>
    match tySize P e with
    | some (_ + 1) =>
      bif Nat.beq i j then some (Nat.beq o p)
      else (match st.heap.get i, st.heap.get j with
        | some b, some c => bif b.exact && c.exact && Nat.beq b.frz 0 && Nat.beq c.frz 0 && Nat.blt o b.n && Nat.blt p c.n then some false else none
        | _, _ => none)
    | _ => none
  | _, _, _ => none
noncomputable def aCmp (P : Program) (t : TypeId) (st : St) (tm : T Value) (x y : Operand) : Option Bool :=
  match aev tm x, aev tm y with
  | some u, some v => aPtrEq P t st u v
  | _, _ => none
def ofB (neg : Bool) : Option Bool → St → AR
  | some b, st => .val (.bool (bif neg then !b else b)) st
  | none, _ => .fail
noncomputable def aField (P : Program) (t : TypeId) (v : Value) (f : Nat) : Option Value :=
  match P.underlying t, v with
  | some (.struct fs), .agg cs =>
    match fs[f]? with
    | some fd => (match tyAgg P fd.type, tySize P fd.type with
      | some true, some k => some (.agg (cs.extract fd.offset (fd.offset + k)))
      | some false, some _ => cs[fd.offset]?
      | _, _ => none)
    | none => none
  | _, _ => none
noncomputable def optI (tm : T Value) : Option Operand → Option (Option Nat)
  | none => some none
  | some x => match aev tm x with | some v => (natIdx v).map some | none => none
/-- an unknown byte of which one remainder is known: its number, its kind, the modulus, the remainder -/
def symK (c : Nat) : IntKind := if c / 4 % 2 = 0 then .u8 else .i64
def symRem : Value → Value → Option Value
  | .chan (some c), .int k (.ofNat m) => bif Nat.blt 0 m && Nat.beq (c / 8 % 1024 % m) 0 && decide (k = symK c) then some (.int k (Int.ofNat (c / 8192 % m))) else none
  | _, _ => none
def symConv (P : Program) (src dst : TypeId) : Value → Option Value
  | .chan (some c) => match P.underlying src, P.underlying dst with
    | some _, some (.int .i64) => bif Nat.beq (c / 4 % 2) 0 then some (.chan (some (c + 4))) else some (.chan (some c))
    | _, _ => none
  | _ => none
def stN : St := ⟨.leaf, 0, 0, .leaf⟩
def fstO : Option (Value × St) → Option Value
  | some (v, _) => some v
  | none => none
def allU8 : List Value → Option (List Int)
  | [] => some []
  | v :: l => match v with
    | .int .u8 n => (match allU8 l with | some r => some (n :: r) | none => none)
    | _ => none
def bytesOf (s : ByteArray) : List Value := s.data.toList.map fun b => .int .u8 b.toNat
def numsStr (xs : List Int) : ByteArray := ⟨(xs.map fun n => UInt8.ofNat n.toNat).toArray⟩
noncomputable def aSliceData (v : Value) : Option Value := match v with
  | .slice none _ _ => some (.pointer none)
  | .slice (some ⟨id, off, none⟩) n c => bif (bif Nat.blt c big then Nat.blt 0 c else Nat.blt 0 n) then some (.pointer (some ⟨id, off, none⟩)) else none
  | _ => none
/-- bytes are handed to a string: the block is let go -/
noncomputable def aUnsafeString (P : Program) (ts : Array TypeId) (p n : Value) (st : St) : Option (Value × St) :=
  match p, n with
  | .pointer none, .int .i64 (.ofNat 0) => bif Nat.beq ts.size 2 then some (.string .empty, st) else none
  | .pointer (some ⟨id, off, none⟩), .int .i64 (.ofNat k) =>
    match st.heap.get id, (ts[0]?).bind P.underlying with
    | some b, some (.pointer u) =>
      bif (!b.exact) && Nat.beq ts.size 2 && Nat.ble (off + k) b.n && Nat.blt 0 k && Nat.blt k 9223372036854775808 && Nat.beq (P.cellsOf b.elem) 1 && Nat.beq b.elem u then
        (match getCellsFrom b.cells k off with
        | some l => (match allU8 l with
          | some xs => some (.string (numsStr xs), { heap := st.heap.put id none, next := st.next, minw := Nat.min id st.minw, obs := st.obs })
          | none => none)
        | none => none)
      else none
    | _, _ => none
  | _, _ => none
noncomputable def aBuiltinP (P : Program) (b : Builtin) (c : Call) (o : Oper) (tm : T Value) : Option Value :=
  match b with
  | .append => none
  | .copy => none
  | .unsafeSliceData => match aev tm (c.args.getD 0 default) with
    | some v => bif Nat.beq c.args.size 1 then aSliceData v else none
    | none => none
  | .len => match aev tm (c.args.getD 0 default) with
    | some (.slice _ n _) => bif !Nat.beq c.args.size 1 then none else (match (c.argTypes[0]?).bind P.underlying with | some (.slice _) => some (.int .i64 n) | _ => none)
    | _ => aPure P o tm
  | .cap => match aev tm (c.args.getD 0 default) with
    | some (.slice _ _ n) => bif !Nat.beq c.args.size 1 then none else (match (c.argTypes[0]?).bind P.underlying with | some (.slice _) => bif Nat.blt n big then some (.int .i64 n) else none | _ => none)
    | _ => aPure P o tm
  | _ => aPure P o tm
/-- operations that do not look at memory -/
noncomputable def aopP (P : Program) (o : Oper) (tm : T Value) : Option Value :=
  match o.op with
  | .alloc _ => none
  | .box _ _ => none
  | .buildSlice _ _ _ => none
  | .load _ _ => none
  | .store _ _ _ => none
  | .makeSlice _ _ _ => none
  | .move x => aev tm x
  | .assign x => aev tm x
  | .pick c a b => match aev tm c with
    | some (.bool t) => aev tm (bif t then a else b)
    | _ => none
  | .build t ps => match aparts tm ps with | some l => fstO (aBuild P t l stN) | none => none
  | .nilCheck x => match aev tm x with | some (.pointer (some ⟨b, o, none⟩)) => some (.pointer (some ⟨b, o, none⟩)) | _ => none
  | .slice t x lo hi mx => match aev tm x with
    | some (.string _) => aPure P o tm
    | some v => (match optI tm hi, optI tm mx with
        | some h, some m => (match optIdx tm 0 lo with | some l => fstO (aSlice P t v l h m stN) | none => none)
        | _, _ => none)
    | none => none
  | .fieldAddr s x f => match aev tm x with | some v => fstO (aFieldAddr P s v f stN) | none => none
  | .field xT x f => match aev tm x with | some v => aField P xT v f | none => none
  | .indexAddr t x ix => match aev tm x, aev tm ix with | some v, some i => fstO (aIndexAddr P t v i stN) | _, _ => none
  | .extract t ix => match aev tm t with | some (.tuple vs) => vs[ix]? | _ => none
  | .makeInterface t x => match aev tm x with | some v => (match P.underlying t with | some (.interface _) => none | some _ => some (.iface t v) | none => none) | none => none
  | .makeFunc fn first captured => match argsL tm first, argsL tm captured with | some a, some b => some (.func fn ⟨a⟩ ⟨b⟩) | _, _ => none
  | .binOp .eql t x y _ => match aev tm x, aev tm y with
    | some u, some v => (match aEq P t u v with | some b => some (.bool b) | none => aPure P o tm)
    | _, _ => none
  | .binOp .neq t x y _ => match aev tm x, aev tm y with
    | some u, some v => (match aEq P t u v with | some b => some (.bool (!b)) | none => aPure P o tm)
    | _, _ => none
  | .binOp .rem _ x y _ => match aev tm x, aev tm y with
    | some u, some v => (match symRem u v with | some r => some r | none => aPure P o tm)
    | _, _ => none
  | .convert src dst x => match aev tm x with
    | some u => (match symConv P src dst u with | some r => some r | none => aPure P o tm)
    | none => none
  | .call c => match c.callee with
    | .builtin b => aBuiltinP P b c o tm
    | .value f => (match aev tm f with
      | some (.func (.func g) xs us) => (match P.funcs[g]? with
        | some fn => bif fn.body.isSome then none else bif fn.name == "internal/abi.NoEscape" && fn.origin == "" && Nat.beq c.args.size 1 && Nat.beq xs.size 0 && Nat.beq us.size 0 then aev tm (c.args.getD 0 default) else aPure P o tm
        | none => none)
      | _ => none)
    | _ => none
  | _ => aPure P o tm
noncomputable def aCall (P : Program) (c : Call) (o : Oper) (st : St) (tm : T Value) : AR :=
  match c.callee with
  | .builtin .append => match aev tm (c.args.getD 0 default), aev tm (c.args.getD 1 default) with | some s, some x => bif Nat.beq c.args.size 2 then (match aAppend P c.argTypes s x st with | some (v, st) => .val v st | none => ofV (aAppZ P c.argTypes s x st)) else .fail | _, _ => .fail
  | .builtin .copy => match aev tm (c.args.getD 0 default), aev tm (c.args.getD 1 default) with | some s, some x => bif Nat.beq c.args.size 2 then ofV (aCopy P c.argTypes s x st) else .fail | _, _ => .fail
  | .builtin .clear => match aev tm (c.args.getD 0 default) with | some s => bif Nat.beq c.args.size 1 then ofV (aClear P c.argTypes s st) else .fail | _ => .fail
  | .builtin .delete => match aev tm (c.args.getD 0 default), aev tm (c.args.getD 1 default) with | some s, some x => bif Nat.beq c.args.size 2 then ofV (aDelete P c.argTypes s x st) else .fail | _, _ => .fail
  | .builtin .unsafeString => match aev tm (c.args.getD 0 default), aev tm (c.args.getD 1 default) with | some s, some x => bif Nat.beq c.args.size 2 then ofV (aUnsafeString P c.argTypes s x st) else .fail | _, _ => .fail
  | .builtin .len => (match aopP P o tm with
    | some v => .val v st
    | none => match aev tm (c.args.getD 0 default) with | some s => bif Nat.beq c.args.size 1 then ofV (aMapLen P c.argTypes s st) else .fail | _ => .fail)
  | .value f =>
    match aev tm f, argsL tm c.args with
    | some (.func (.func g) first captured), some l => (match P.funcs[g]? with
        | some fn => bif fn.body.isSome && !(fn.name == "runtime.NumGoroutine") then .call g (first.toList ++ l ++ captured.toList) else ofP (aopP P o tm) st
        | none => .fail)
    | some (.pointer (some ⟨b, 0, some 0⟩)), some l => .round b l
    | _, _ => .fail
  | _ => ofP (aopP P o tm) st
noncomputable def aConv (P : Program) (src dst : TypeId) (v : Value) (st : St) : Option (Value × St) :=
  match P.underlying src, P.underlying dst with
  | some _, some (.slice e) =>
    match v with
    | .string s => (match P.underlying e, tySize P e with
      | some (.int .u8), some 1 => bif Nat.blt s.size 1099511627776 then some (.slice (some ⟨st.next, 0, none⟩) s.size big, newBlk st (putCells (bytesOf s) .leaf 0) s.size e 1 false) else none
      | _, _ => none)
    | _ => none
  | some (.slice e), some .string =>
    match v with
    | .slice (some ⟨id, off, none⟩) len _ => (match P.underlying e, st.heap.get id with
      | some (.int .u8), some b => bif Nat.ble (off + len) b.n then (match getCellsFrom b.cells len off with
        | some l => (match allU8 l with | some xs => some (.string (numsStr xs), st) | none => none)
        | none => none) else none
      | _, _ => none)
    | _ => none
  | some (.pointer e), some .unsafePointer =>
    match v with
    | .pointer (some ⟨id, off, none⟩) => (match tySize P e, st.heap.get id with
      | some (_ + 1), some b => bif Nat.blt off b.n then some (v, st) else none
      | _, _ => none)
    | _ => none
  | some .unsafePointer, some (.pointer u) =>
    match v with
    | .pointer (some ⟨id, off, none⟩) => (match tySize P u, st.heap.get id with
      | some (_ + 1), some b => bif b.exact && Nat.beq b.frz 0 && liesAt P P.depth b.elem (b.n / P.cellsOf b.elem) off u 1 then some (v, st) else none
      | _, _ => none)
    | _ => none
  | _, _ => none
noncomputable def aop (P : Program) (o : Oper) (st : St) (tm : T Value) : AR :=
  match o.op with
  | .alloc e => match (P.info? e).bind (·.zero) with | some z => bif grd 3 z then ofV (aBox e (cellsL z) st) else .fail | none => .fail
  | .box e x => match aev tm x with | some v => ofV (aBox e (cellsL v) st) | none => .fail
  | .buildSlice t len ps => match aparts tm ps with | some l => ofV (aBuildSlice P t len l st) | none => .fail
  | .load t a => match aev tm a with | some v => ofV (aLoad P t v st) | none => .fail
  | .store t a x => match aev tm a, aev tm x with | some u, some v => (match aStore P t u v st with | some st => .skip st | none => .fail) | _, _ => .fail
  | .makeSlice t l c => match aev tm l, aev tm c with
    | some (.int _ (.ofNat l)), some (.int _ (.ofNat c)) => ofV (aMakeSlice P t l c st)
    | _, _ => .fail
  | .makeMap t r => (match r with
    | none => .val (.map (some st.next)) (newObs st (.map [] 0))
    | some x => match P.underlying t, aev tm x with
      | some (.map _ _), some (.int _ _) => .val (.map (some st.next)) (newObs st (.map [] 0))
      | _, _ => .fail)
  | .lookup t x k ok => match aev tm x, aev tm k with | some u, some v => ofV (aLookup P t u v ok st) | _, _ => .fail
  | .mapUpdate t m k x => (match aev tm m, aev tm k, aev tm x with | some u, some v, some y => ofU (aMapUpdate P t u v y st) | _, _, _ => .fail)
  | .insert t m k x => (match aev tm m, aev tm k, aev tm x with | some u, some v, some y => ofU (aMapUpdate P t u v y st) | _, _, _ => .fail)
  | .mapEntry t m k => match aev tm m, aev tm k with | some u, some v => ofV (aMapEntry P t u v st) | _, _ => .fail
  | .entryStore _ m s x => (match aev tm m, aev tm s, aev tm x with | some u, some v, some y => ofU (aEntryStore u v y st) | _, _, _ => .fail)
  | .range t x => match aev tm x with | some u => ofV (aRange P t u st) | none => .fail
  | .next it isS => match aev tm it with | some u => ofV (aNext u isS st) | none => .fail
  | .entry it => match aev tm it with | some u => ofV (aEntry u st) | none => .fail
  | .binOp .eql t x y _ => (match aopP P o tm with | some v => .val v st | none => ofB false (aCmp P t st tm x y) st)
  | .binOp .neq t x y _ => (match aopP P o tm with | some v => .val v st | none => ofB true (aCmp P t st tm x y) st)
  | .call c => aCall P c o st tm
  | .defer c => (match c.callee with
    | .value f => (match aev tm f, argsL tm c.args with
      | some (.func (.func g) first captured), some l => .defer (.func (.func g) ⟨first.toList ++ l⟩ captured)
      | _, _ => .fail)
    | _ => .fail)
  | .convert src dst x => match aopP P o tm with
    | some v => .val v st
    | none => (match aev tm x with | some u => ofV (aConv P src dst u st) | none => .fail)
  | _ => ofP (aopP P o tm) st

/-! code -/
/-- a result, or where none was found -/
inductive Rs (α : Type) where
  | ok (a : α)
  | err (o : Option Oper) (f : Nat)
inductive Ex where
  | normal
  | exit (id : Nat)
  | ret
noncomputable def putD (tm : T Value) (d : Option Tmp) (v : Value) (N : Nat) : Option (T Value) :=
  match d with
  | none => some tm
  | some d => bif Nat.blt d N then some (tm.set d v) else none
noncomputable def wantedA (ops : Array Oper) (o : Oper) (tm : T Value) : Option Bool :=
  match o.guard with
  | none => some true
  | some (j, want) => match (ops[j]?).bind (·.dst) with
    | some d => (match tget tm d with | some (.bool b) => some (Bool.rec (!want) want b) | some _ => some false | none => none)
    | none => some false
noncomputable def aRes1 (P : Program) (tm : T Value) (st : St) : ResultVar → Option Value
  | .tmp t => tget tm t
  | .cell a t => match tget tm a with
    | some v => (match aLoad P t v st with | some (u, _) => some u | none => none)
    | none => none
noncomputable def aResL (P : Program) (tm : T Value) (st : St) : List ResultVar → Option (List Value)
  | [] => some []
  | r :: rs => match aRes1 P tm st r with
    | some v => (match aResL P tm st rs with | some l => some (v :: l) | none => none)
    | none => none
noncomputable def aRes (P : Program) (tm : T Value) (rs : Array ResultVar) (st : St) : Option Value :=
  match rs.toList with
  | [r] => aRes1 P tm st r
  | l => (match aResL P tm st l with | some l => some (.tuple ⟨l⟩) | none => none)
noncomputable def tmInit (args : List Value) : T Value := putCells args .leaf 0
def defersOf (tm : Option Value) : List Value := match tm with
  | some (.tuple l) => l.toList
  | _ => []
noncomputable def pushD (tm : T Value) (v : Value) : T Value := tm.set dKey (.tuple ⟨v :: defersOf (tm.get dKey)⟩)
/-- a deferred call: a function without deferred calls of its own -/
noncomputable def doLate (P : Program) (ex : Option Nat → Code → Nat → St → T Value → Rs (Ex × St × T Value)) (v : Value) (st : St) : Rs St :=
  match v with
  | .func (.func f) args captured =>
    match P.funcs[f]? with
    | some fn =>
      match fn.body with
      | some c =>
        bif Nat.ble (args.toList ++ captured.toList).length fn.ntmps && Nat.ble fn.ntmps dKey && !(fn.name == "runtime.NumGoroutine") then
          match ex none c fn.ntmps st (tmInit (args.toList ++ captured.toList)) with
          | .ok (.normal, st', tm) | .ok (.ret, st', tm) =>
            match aRes P tm fn.results st', tm.get dKey with
            | some _, none => .ok st'
            | _, _ => .err none f
          | .err o g => .err o g
          | _ => .err none f
        else .err none f
      | none => .err none f
    | none => .err none f
  | .map (some d) => (match st.obs.get d with
    | some (.dfr true) => .ok (setObs st d (.dfr false))
    | _ => .err none 14)
  | _ => .err none 13
noncomputable def doLates (P : Program) (ex : Option Nat → Code → Nat → St → T Value → Rs (Ex × St × T Value)) (l : List Value) : St → Rs St :=
  List.rec (motive := fun _ => St → Rs St) (fun st => .ok st) (fun v _ ih => fun st => match doLate P ex v st with | .ok st => ih st | .err o f => .err o f) l
noncomputable def doCall (P : Program) (ex : Option Nat → Code → Nat → St → T Value → Rs (Ex × St × T Value)) (f : FuncId) (args : List Value) (st : St) : Rs (Value × St) :=
  match P.funcs[f]? with
  | some fn =>
    match fn.body with
    | some c =>
      bif Nat.ble args.length fn.ntmps && Nat.ble fn.ntmps dKey then
        match ex none c fn.ntmps { st with minw := st.next } (tmInit args) with
        | .ok (.normal, s1, tm) | .ok (.ret, s1, tm) =>
          match doLates P ex (defersOf (tm.get dKey)) s1 with
          | .ok st' =>
            (match aRes P tm fn.results st' with
            | some v => bif Nat.ble st.next st'.minw && grd 3 v then .ok (v, st) else .ok (v, { st' with minw := Nat.min st.minw st'.minw })
            | none => .err none f)
          | .err o g => .err o g
        | .err o g => .err o g
        | _ => .err none f
      else .err none f
    | none => .err none f
  | none => .err none f
/-- the temporaries of a round -/
noncomputable def putParams (N : Nat) : List Tmp → List Value → T Value → Option (T Value)
  | [], [], tm => some tm
  | p :: ps, v :: vs, tm => bif Nat.blt p N then putParams N ps vs (tm.set p v) else none
  | _, _, _ => none
def jumpOf : Ex → Option Code
  | .normal => none
  | .exit id => some (.exit id)
  | .ret => some .ret
def exOf : Option Code → Option Ex
  | none => some .normal
  | some (.exit id) => some (.exit id)
  | some .ret => some .ret
  | _ => none
def isReady : LoopState → Bool
  | .ready => true
  | _ => false
def isBusy : LoopState → Bool
  | .busy => true
  | _ => false
/-- yield is called: a round of a range over a function -/
noncomputable def doRound (ex : Option Nat → Code → Nat → St → T Value → Rs (Ex × St × T Value)) (l : Nat) (args : List Value) (st : St) : Rs (Value × St) :=
  match st.obs.get l with
  | some (.loop lp) =>
    match putParams lp.N lp.params.toList args lp.tm with
    | some t0 =>
      match ex (some l) lp.assign lp.N st t0 with
      | .ok (.normal, s1, t1) =>
        match s1.obs.get l with
        | some (.loop l1) =>
          bif isReady l1.state then
            match ex (some l) lp.body lp.N (setObs s1 l (.loop { l1 with state := .busy })) t1 with
            | .ok (x, s3, _) =>
              match s3.obs.get l with
              | some (.loop l3) =>
                (match x with
                | .normal => .ok (.bool true, setObs s3 l (.loop { l3 with state := .ready, pending := none }))
                | x => .ok (.bool false, setObs s3 l (.loop { l3 with state := .done, pending := jumpOf x })))
              | _ => .err none 15
            | .err o f => .err o f
          else .err none 16
        | _ => .err none 17
      | .err o f => .err o f
      | _ => .err none 18
    | none => .err none 19
  | _ => .err none 31
/-- a deferred call within a round is not run -/
def deferIn (ro : Option Nat) (x : Option (T Value)) : Option (T Value) := match ro with
  | none => x
  | some _ => none
/-- one operation -/
noncomputable def opsStep (P : Program) (ex : Option Nat → Code → Nat → St → T Value → Rs (Ex × St × T Value)) (ro : Option Nat) (ops : Array Oper) (N : Nat) (o : Oper) (ih : St → T Value → Rs (St × T Value)) (st : St) (tm : T Value) : Rs (St × T Value) :=
      match wantedA ops o tm with
      | some true =>
        (match aop P o st tm with
        | .val v st => (match putD tm o.dst v N with | some tm => ih st tm | none => .err (some o) 1)
        | .skip st => (match putD tm o.dst undef N with | some tm => ih st tm | none => .err (some o) 2)
        | .call f args => (match doCall P ex f args st with
          | .ok (v, st) => (match putD tm o.dst v N with | some tm => ih st tm | none => .err (some o) 2)
          | .err o f => .err o f)
        | .defer v => (match deferIn ro (putD tm o.dst undef N) with | some tm => ih st (pushD tm v) | none => .err (some o) 2)
        | .round l args => (match doRound ex l args st with
          | .ok (v, st) => (match putD tm o.dst v N with | some tm => ih st tm | none => .err (some o) 2)
          | .err o f => .err o f)
        | .fail => .err (some o) 0)
      | some false => (match putD tm o.dst undef N with | some tm => ih st tm | none => .err (some o) 2)
      | none => .err (some o) 3

/-! the same, by recursors with closed arms: less to unfold -/
noncomputable def grdF (v : Value) : Bool := match v with
  | .int _ _ => true
  | .bool _ => true
  | .string _ => true
  | v => grd 3 v
noncomputable def aevF (x : Operand) : T Value → Option Value := Operand.rec (motive := fun _ => T Value → Option Value)
  (fun t tm => Bool.rec (motive := fun _ => Option Value) (tm.get t) none (Nat.beq t 1000000))
  (fun v _ => Bool.rec (motive := fun _ => Option Value) none (some v) (grdF v))
  (fun g tm => aev tm (.global g)) (fun f _ => some (.func (.func f) #[] #[])) x
noncomputable def putDF (d : Option Tmp) : T Value → Value → Nat → Option (T Value) := Option.rec (motive := fun _ => T Value → Value → Nat → Option (T Value)) (fun tm _ _ => some tm)
  (fun d tm v N => Bool.rec (motive := fun _ => Option (T Value)) none (some (tm.set d v)) (Nat.ble (Nat.succ d) N)) d
noncomputable def oA (k : Value → AR) (x : Option Value) : AR := Option.rec (motive := fun _ => AR) .fail (fun v => k v) x
noncomputable def oE (d : AR) (st : St) (x : Option Value) : AR := Option.rec (motive := fun _ => AR) d (fun v => .val v st) x
def tupAt (ix : Nat) : Value → Option Value
  | .tuple vs => vs[ix]?
  | _ => none
def nilOk : Value → Option Value
  | .pointer (some ⟨b, o, none⟩) => some (.pointer (some ⟨b, o, none⟩))
  | _ => none
def isStrT : TypeDesc → Bool | .string => true | _ => false
def isSlT : TypeDesc → Bool | .slice _ => true | _ => false
def isLen (c : Call) : Bool := match c.callee with | .builtin .len => true | _ => false
/-- the length of a string or a slice -/
noncomputable def lenT (P : Program) (c : Call) (v : Value) : Option Value :=
  Bool.rec (motive := fun _ => Option Value) none
    (Option.rec (motive := fun _ => Option Value) none (fun d => vSL v (fun s => Bool.rec (motive := fun _ => Option Value) none (some (.int .i64 (Int.ofNat s.data.toList.length))) (isStrT d)) (fun n => Bool.rec (motive := fun _ => Option Value) none (some (.int .i64 n)) (isSlT d))) ((c.argTypes[0]?).bind P.underlying))
    (Nat.beq c.args.size 1)
noncomputable def aopF : Op → Program → Oper → St → T Value → AR := fun op => Op.rec (motive := fun _ => Program → Oper → St → T Value → AR)
  (fun a0 _ _ st tm => oA (fun v => .val v st) (aevF a0 tm))
  (fun a0 _ _ st tm => oA (fun v => .val v st) (aevF a0 tm))
  (fun _ _ _ P o st tm => ofP (aopP P o tm) st)
  (fun _ P o st tm => aop P o st tm)
  (fun a0 a1 _ _ st tm => oA (fun v => ofV (aBox a0 (cellsL v) st)) (aevF a1 tm))
  (fun _ _ P o st tm => ofP (aopP P o tm) st)
  (fun _ _ _ P o st tm => aop P o st tm)
  (fun _ _ _ _ P o st tm => aop P o st tm)
  (fun a0 a1 P _ st tm => oA (fun v => ofV (aLoad P a0 v st)) (aevF a1 tm))
  (fun a0 a1 a2 P _ st tm => oA (fun u => oA (fun v => ofU (aStore P a0 u v st)) (aevF a2 tm)) (aevF a1 tm))
  (fun _ P o st tm => ofP (aopP P o tm) st)
  (fun _ P o st tm => ofP (aopP P o tm) st)
  (fun a0 _ _ st tm => oA (fun v => ofP (nilOk v) st) (aevF a0 tm))
  (fun a0 _ a2 a3 _ P o st tm => oE (oE (aop P o st tm) st (opt2 (sBinF a0) (aevF a2 tm) (aevF a3 tm))) st (opt2 (fastBF a0) (aevF a2 tm) (aevF a3 tm)))
  (fun _ _ _ P o st tm => ofP (aopP P o tm) st)
  (fun a0 a1 a2 P o st tm => oE (aop P o st tm) st (opt1 (sConv P a0 a1) (aevF a2 tm)))
  (fun _ _ P o st tm => ofP (aopP P o tm) st)
  (fun _ _ P o st tm => ofP (aopP P o tm) st)
  (fun _ _ _ P o st tm => ofP (aopP P o tm) st)
  (fun _ _ P o st tm => aop P o st tm)
  (fun _ _ P o st tm => ofP (aopP P o tm) st)
  (fun _ _ _ P o st tm => aop P o st tm)
  (fun a0 a1 a2 a3 a4 P o st tm => oE (ofP (aopP P o tm) st) st (sSliceO P tm a0 (aevF a1 tm) a2 a3 a4))
  (fun a0 a1 a2 P _ st tm => oA (fun v => ofP (fstO (aFieldAddr P a0 v a2 stN)) st) (aevF a1 tm))
  (fun a0 a1 a2 P _ st tm => oA (fun v => ofP (aField P a0 v a2) st) (aevF a1 tm))
  (fun a0 a1 a2 P _ st tm => oA (fun v => oA (fun i => ofP (fstO (aIndexAddr P a0 v i stN)) st) (aevF a2 tm)) (aevF a1 tm))
  (fun a0 a1 a2 P o st tm => oE (ofP (aopP P o tm) st) st (opt2 (sIndex P a0) (aevF a1 tm) (aevF a2 tm)))
  (fun _ _ _ _ P o st tm => aop P o st tm)
  (fun _ _ _ _ P o st tm => aop P o st tm)
  (fun _ _ _ P o st tm => aop P o st tm)
  (fun _ _ _ _ P o st tm => aop P o st tm)
  (fun _ _ P o st tm => aop P o st tm)
  (fun _ _ P o st tm => aop P o st tm)
  (fun _ P o st tm => aop P o st tm)
  (fun _ _ _ _ P o st tm => ofP (aopP P o tm) st)
  (fun a0 a1 _ _ st tm => oA (fun v => ofP (tupAt a1 v) st) (aevF a0 tm))
  (fun c P o st tm => Bool.rec (motive := fun _ => AR) (aCall P c o st tm) (oE (aCall P c o st tm) st (opt1 (lenT P c) (aevF (c.args.getD 0 default) tm))) (isLen c))
  (fun _ P o st tm => ofP (aopP P o tm) st)
  (fun _ P o st tm => aop P o st tm)
  (fun _ P o st tm => ofP (aopP P o tm) st)
  (fun _ _ P o st tm => ofP (aopP P o tm) st)
  (fun _ _ _ P o st tm => ofP (aopP P o tm) st)
  (fun _ _ P o st tm => ofP (aopP P o tm) st) op
noncomputable def orE (d : Option Value) (x : Option Value) : Option Value := Option.rec (motive := fun _ => Option Value) d (fun v => some v) x
noncomputable def strB (op : BinOp) (u v : Value) : Option Value := match u with
  | .string a => (match v with | .string b => sStr op a b | _ => none)
  | _ => none
noncomputable def aopPF : Op → Program → Oper → T Value → Option Value := fun op => Op.rec (motive := fun _ => Program → Oper → T Value → Option Value)
  (fun a0 _ _ tm => aevF a0 tm)
  (fun a0 _ _ tm => aevF a0 tm)
  (fun _ _ _ P o tm => aopP P o tm)
  (fun _ _ _ _ => none)
  (fun _ _ _ _ _ => none)
  (fun _ _ P o tm => aopP P o tm)
  (fun _ _ _ _ _ _ => none)
  (fun _ _ _ _ P o tm => aopP P o tm)
  (fun _ _ _ _ _ => none)
  (fun _ _ _ _ _ _ => none)
  (fun _ P o tm => aopP P o tm)
  (fun _ P o tm => aopP P o tm)
  (fun a0 _ _ tm => opt1 nilOk (aevF a0 tm))
  (fun a0 _ a2 a3 _ P o tm => orE (orE (aopP P o tm) (opt2 (sBinF a0) (aevF a2 tm) (aevF a3 tm))) (opt2 (fastBF a0) (aevF a2 tm) (aevF a3 tm)))
  (fun _ _ _ P o tm => aopP P o tm)
  (fun a0 a1 a2 P o tm => orE (aopP P o tm) (opt1 (sConv P a0 a1) (aevF a2 tm)))
  (fun _ _ P o tm => aopP P o tm)
  (fun _ _ P o tm => aopP P o tm)
  (fun _ _ _ P o tm => aopP P o tm)
  (fun _ _ P o tm => aopP P o tm)
  (fun _ _ P o tm => aopP P o tm)
  (fun _ _ _ _ _ _ => none)
  (fun a0 a1 a2 a3 a4 P o tm => orE (aopP P o tm) (sSliceO P tm a0 (aevF a1 tm) a2 a3 a4))
  (fun a0 a1 a2 P _ tm => opt1 (fun v => fstO (aFieldAddr P a0 v a2 stN)) (aevF a1 tm))
  (fun a0 a1 a2 P _ tm => opt1 (fun v => aField P a0 v a2) (aevF a1 tm))
  (fun a0 a1 a2 P _ tm => opt2 (fun v i => fstO (aIndexAddr P a0 v i stN)) (aevF a1 tm) (aevF a2 tm))
  (fun a0 a1 a2 P o tm => orE (aopP P o tm) (opt2 (sIndex P a0) (aevF a1 tm) (aevF a2 tm)))
  (fun _ _ _ _ P o tm => aopP P o tm)
  (fun _ _ _ _ P o tm => aopP P o tm)
  (fun _ _ _ P o tm => aopP P o tm)
  (fun _ _ _ _ P o tm => aopP P o tm)
  (fun _ _ P o tm => aopP P o tm)
  (fun _ _ P o tm => aopP P o tm)
  (fun _ P o tm => aopP P o tm)
  (fun _ _ _ _ P o tm => aopP P o tm)
  (fun a0 a1 _ _ tm => opt1 (tupAt a1) (aevF a0 tm))
  (fun c P o tm => Bool.rec (motive := fun _ => Option Value) (aopP P o tm) (orE (aopP P o tm) (opt1 (lenT P c) (aevF (c.args.getD 0 default) tm))) (isLen c))
  (fun _ P o tm => aopP P o tm)
  (fun _ P o tm => aopP P o tm)
  (fun _ P o tm => aopP P o tm)
  (fun _ _ P o tm => aopP P o tm)
  (fun _ _ _ P o tm => aopP P o tm)
  (fun _ _ P o tm => aopP P o tm) op
noncomputable def wV (want : Bool) : Value → Option Bool
  | .bool b => some (Bool.rec (!want) want b)
  | _ => some false
noncomputable def wantedF (ops : Array Oper) (o : Oper) (tm : T Value) : Option Bool :=
  Option.rec (motive := fun _ => Option Bool) (some true)
    (fun g => Option.rec (motive := fun _ => Option Bool) (some false) (fun d => Option.rec (motive := fun _ => Option Bool) none (fun v => wV g.2 v) (tget tm d)) ((ops[g.1]?).bind (·.dst))) o.guard
noncomputable def stepR (P : Program) (ex : Option Nat → Code → Nat → St → T Value → Rs (Ex × St × T Value)) (ro : Option Nat) (ops : Array Oper) (N : Nat) (o : Oper) (ih : St → T Value → Rs (St × T Value)) (st : St) (tm : T Value) (r : AR) : Rs (St × T Value) :=
  AR.rec (motive := fun _ => (Option (T Value) → Rs (St × T Value)) → (Oper → T Value → Nat → (St → T Value → Rs (St × T Value)) → Rs (St × T Value)))
    (fun v st _ o tm N ih => Option.rec (motive := fun _ => Rs (St × T Value)) (.err (some o) 1) (fun tm => ih st tm) (putDF o.dst tm v N))
    (fun st _ o tm N ih => Option.rec (motive := fun _ => Rs (St × T Value)) (.err (some o) 2) (fun tm => ih st tm) (putDF o.dst tm undef N))
    (fun _ _ k _ _ _ _ => k none) (fun _ k _ _ _ _ => k none) (fun _ _ k _ _ _ _ => k none) (fun k _ _ _ _ => k none) r
    (fun _ => opsStep P ex ro ops N o ih st tm) o tm N ih
noncomputable def opsStepF (P : Program) (ex : Option Nat → Code → Nat → St → T Value → Rs (Ex × St × T Value)) (ro : Option Nat) (ops : Array Oper) (N : Nat) (o : Oper) (ih : St → T Value → Rs (St × T Value)) (st : St) (tm : T Value) : Rs (St × T Value) :=
  Option.rec (motive := fun _ => Rs (St × T Value)) (.err (some o) 3) (fun b => Bool.rec (motive := fun _ => Rs (St × T Value))
    (Option.rec (motive := fun _ => Rs (St × T Value)) (.err (some o) 2) (fun tm => ih st tm) (putDF o.dst tm undef N))
    (stepR P ex ro ops N o ih st tm (aopF o.op P o st tm)) b) (wantedF ops o tm)
noncomputable def opsRun (P : Program) (ex : Option Nat → Code → Nat → St → T Value → Rs (Ex × St × T Value)) (ro : Option Nat) (ops : Array Oper) (N : Nat) (l : List Oper) : St → T Value → Rs (St × T Value) :=
  List.rec (motive := fun _ => St → T Value → Rs (St × T Value)) (fun st tm => .ok (st, tm)) (fun o _ ih => opsStepF P ex ro ops N o ih) l
theorem grdF_eq (v : Value) : grdF v = grd 3 v := by cases v <;> rfl
theorem aevF_eq (x : Operand) (tm : T Value) : aevF x tm = aev tm x := by
  cases x with
  | tmp t =>
    show Bool.rec (motive := fun _ => Option Value) (tm.get t) none (Nat.beq t 1000000) = (bif Nat.beq t 1000000 then none else tm.get t)
    cases Nat.beq t 1000000 <;> rfl
  | const v =>
    show Bool.rec (motive := fun _ => Option Value) none (some v) (grdF v) = (bif grd 3 v then some v else none)
    rw [grdF_eq]
    cases grd 3 v <;> rfl
  | global g => rfl
  | func f => rfl
theorem putDF_eq (d : Option Tmp) (tm : T Value) (v : Value) (N : Nat) : putDF d tm v N = putD tm d v N := by
  cases d with
  | none => rfl
  | some d =>
    show Bool.rec (motive := fun _ => Option (T Value)) none (some (tm.set d v)) (Nat.ble (Nat.succ d) N) = (bif Nat.ble (Nat.succ d) N then some (tm.set d v) else none)
    cases Nat.ble (Nat.succ d) N <;> rfl
theorem fastB_int {op : BinOp} {u v z : Value} (e : fastB op u v = some z) : ∃ k m k2 n, u = .int k m ∧ v = .int k2 n := by
  unfold fastB at e
  cases u <;> (try (cases e; done))
  rename_i k m
  cases m <;> (try (cases e; done))
  cases v <;> (try (cases e; done))
  exact ⟨_, _, _, _, rfl, rfl⟩
theorem opt2_cases {f : Value → Value → Option Value} {x y : Option Value} {v : Value} (e : opt2 f x y = some v) : ∃ u z, x = some u ∧ y = some z ∧ f u z = some v := by
  cases x with
  | none => cases e
  | some u =>
    cases y with
    | none => cases e
    | some z => exact ⟨u, z, rfl, rfl, e⟩
theorem aEq_int {P : Program} {t : TypeId} {k k2 : IntKind} {m n : Int} : aEq P t (.int k m) (.int k2 n) = none := by
  unfold aEq
  cases P.underlying t with
  | none => rfl
  | some d => cases d <;> rfl
theorem fastBF_fun : fastBF = fastB := funext fun op => funext fun u => funext fun v => fastBF_eq op u v
theorem sBinF_fun : sBinF = sBin := funext fun op => funext fun u => funext fun v => sBinF_eq op u v
theorem sBin_form {op : BinOp} {u z v : Value} (h : sBin op u z = some v) : (∃ a b, u = .string a ∧ z = .string b) ∨ ∃ m n, u = .int .i64 (.ofNat m) ∧ z = .int .i64 (.ofNat n) := by
  unfold sBin at h
  split at h
  · exact .inl ⟨_, _, rfl, rfl⟩
  · exact .inr ⟨_, _, rfl, rfl⟩
  · cases h
theorem aEq_str {P : Program} {t : TypeId} {a b : ByteArray} : aEq P t (.string a) (.string b) = none := by
  unfold aEq
  cases P.underlying t with
  | none => rfl
  | some d => cases d <;> rfl
theorem aopP_sBin {P : Program} {o : Oper} {tm : T Value} {op : BinOp} {t t2 : TypeId} {x y : Operand} {v : Value} (hop : o.op = .binOp op t x y t2) (hq : opt2 (fastB op) (aev tm x) (aev tm y) = none) (hs : opt2 (sBin op) (aev tm x) (aev tm y) = some v) : aopP P o tm = some v := by
  obtain ⟨u, z, h1, h2, h3⟩ := opt2_cases hs
  have hf : fastP o tm = none := by
    unfold fastP; rw [hop]; simp only [h1, h2]
    rw [h1, h2] at hq; exact hq
  have h6 : fastS P o tm = some v := by unfold fastS; rw [hop]; exact hs
  have h7 : aPure P o tm = some v := by unfold aPure; rw [hf, h6]
  unfold aopP; rw [hop]
  rcases sBin_form h3 with ⟨a, b, rfl, rfl⟩ | ⟨m, n, rfl, rfl⟩
  · cases op <;> simp only [h1, h2, aEq_str, h7]
    case rem => simp only [symRem]
  · cases op <;> simp only [h1, h2, aEq_int, h7]
    case rem => simp only [symRem]
theorem sSliceO_pure {P : Program} {o : Oper} {tm : T Value} {t : TypeId} {x : Operand} {lo hi mx : Option Operand} {v : Value} (hop : o.op = .slice t x lo hi mx) (hs : sSliceO P tm t (aev tm x) lo hi mx = some v) : aopP P o tm = some v := by
  have h6 : fastS P o tm = some v := by unfold fastS; rw [hop]; exact hs
  have hf : fastP o tm = none := by unfold fastP; rw [hop]
  have h7 : aPure P o tm = some v := by unfold aPure; rw [hf, h6]
  unfold aopP; rw [hop]
  cases hx : aev tm x with
  | none => rw [hx] at hs; cases hs
  | some u =>
    rw [hx] at hs
    cases u <;> (try (cases hs; done))
    simp only [hx]
    exact h7
theorem lenT_pure {P : Program} {o : Oper} {tm : T Value} {c : Call} {u v : Value} (hop : o.op = .call c) (hc : c.callee = .builtin .len) (hx : aev tm (c.args.getD 0 default) = some u) (h : lenT P c u = some v) : aopP P o tm = some v := by
  unfold lenT at h
  cases hz : Nat.beq c.args.size 1 with
  | false => rw [hz] at h; cases h
  | true =>
    rw [hz] at h
    cases hd : (c.argTypes[0]?).bind P.underlying with
    | none => rw [hd] at h; cases h
    | some d =>
      rw [hd] at h
      have h' : vSL u (fun s => Bool.rec (motive := fun _ => Option Value) none (some (.int .i64 (Int.ofNat s.data.toList.length))) (isStrT d)) (fun n => Bool.rec (motive := fun _ => Option Value) none (some (.int .i64 n)) (isSlT d)) = some v := h
      unfold aopP; rw [hop]
      show (match c.callee with
        | .builtin b => aBuiltinP P b c o tm
        | .value f => (match aev tm f with
          | some (.func (.func g) xs us) => (match P.funcs[g]? with
            | some fn => bif fn.body.isSome then none else bif fn.name == "internal/abi.NoEscape" && fn.origin == "" && Nat.beq c.args.size 1 && Nat.beq xs.size 0 && Nat.beq us.size 0 then aev tm (c.args.getD 0 default) else aPure P o tm
            | none => none)
          | _ => none)
        | _ => none) = some v
      rw [hc]
      show aBuiltinP P .len c o tm = some v
      unfold aBuiltinP
      simp only [hx]
      cases u <;> (try (cases h'; done))
      case string s =>
        have h2 : Bool.rec (motive := fun _ => Option Value) none (some (.int .i64 (Int.ofNat s.data.toList.length))) (isStrT d) = some v := h'
        have hdT : isStrT d = true := by
          cases hb : isStrT d with
          | true => rfl
          | false => rw [hb] at h2; cases h2
        rw [hdT] at h2
        have hd2 : d = .string := by
          cases d <;> first | rfl | cases hdT
        subst hd2
        have h6 : fastS P o tm = some v := by
          unfold fastS; rw [hop]
          show sCall P tm c = some v
          unfold sCall
          rw [hc]
          simp only [hx, hd, hz]
          exact h2
        have hf : fastP o tm = none := by unfold fastP; rw [hop]
        show aPure P o tm = some v
        unfold aPure; rw [hf, h6]
      case slice a n cp =>
        have h2 : Bool.rec (motive := fun _ => Option Value) none (some (.int .i64 n)) (isSlT d) = some v := h'
        have hdT : isSlT d = true := by
          cases hb : isSlT d with
          | true => rfl
          | false => rw [hb] at h2; cases h2
        rw [hdT] at h2
        cases d <;> (try (cases hdT; done))
        simp only [hz, hd]
        exact h2
theorem aopF_eq (P : Program) (o : Oper) (st : St) (tm : T Value) : aopF o.op P o st tm = aop P o st tm := by
  have hP : ∀ v, fastP o tm = some v → aPure P o tm = some v := fun v h => by unfold aPure; rw [h]
  cases hop : o.op <;> (first | (exact rfl; done) | ((conv => rhs; unfold aop); rw [hop]; exact rfl; done) | skip)
  case move x => (conv => rhs; unfold aop); rw [hop]; show oA _ (aevF x tm) = ofP (aopP P o tm) st; unfold aopP; rw [hop, aevF_eq]; dsimp only; cases aev tm x <;> rfl
  case assign x => (conv => rhs; unfold aop); rw [hop]; show oA _ (aevF x tm) = ofP (aopP P o tm) st; unfold aopP; rw [hop, aevF_eq]; dsimp only; cases aev tm x <;> rfl
  case load t a => (conv => rhs; unfold aop); rw [hop]; show oA _ (aevF a tm) = _; rw [aevF_eq]; dsimp only; cases aev tm a <;> rfl
  case store t a x =>
    (conv => rhs; unfold aop); rw [hop]
    show oA _ (aevF a tm) = _
    rw [aevF_eq, aevF_eq]
    dsimp only
    cases aev tm a with
    | none => rfl
    | some u => cases aev tm x with
      | none => rfl
      | some v => show ofU (aStore P t u v st) = _; simp only; cases aStore P t u v st <;> rfl
  case box e x => (conv => rhs; unfold aop); rw [hop]; show oA _ (aevF x tm) = _; rw [aevF_eq]; dsimp only; cases aev tm x <;> rfl
  case fieldAddr s x f => (conv => rhs; unfold aop); rw [hop]; show oA _ (aevF x tm) = ofP (aopP P o tm) st; unfold aopP; rw [hop, aevF_eq]; dsimp only; cases aev tm x <;> rfl
  case field s x f => (conv => rhs; unfold aop); rw [hop]; show oA _ (aevF x tm) = ofP (aopP P o tm) st; unfold aopP; rw [hop, aevF_eq]; dsimp only; cases aev tm x <;> rfl
  case indexAddr t x ix =>
    (conv => rhs; unfold aop); rw [hop]
    show oA _ (aevF x tm) = ofP (aopP P o tm) st; unfold aopP; rw [hop, aevF_eq, aevF_eq]
    dsimp only
    cases aev tm x with
    | none => rfl
    | some u => cases aev tm ix <;> rfl
  case extract x ix =>
    (conv => rhs; unfold aop); rw [hop]
    show oA _ (aevF x tm) = ofP (aopP P o tm) st; unfold aopP; rw [hop, aevF_eq]
    dsimp only
    cases aev tm x with
    | none => rfl
    | some u => cases u <;> rfl
  case nilCheck x =>
    (conv => rhs; unfold aop); rw [hop]
    show oA _ (aevF x tm) = ofP (aopP P o tm) st; unfold aopP; rw [hop, aevF_eq]
    dsimp only
    cases aev tm x with
    | none => rfl
    | some u =>
      cases u <;> try rfl
      rename_i p
      cases p with
      | none => rfl
      | some ad => obtain ⟨b, of, sp⟩ := ad; cases sp <;> rfl
  case index t x ix =>
    (conv => rhs; unfold aop); rw [hop]
    show oE _ st (opt2 (sIndex P t) (aevF x tm) (aevF ix tm)) = ofP (aopP P o tm) st
    rw [aevF_eq, aevF_eq]
    cases hq : opt2 (sIndex P t) (aev tm x) (aev tm ix) with
    | none => rfl
    | some v =>
      have h1 : fastS P o tm = some v := by unfold fastS; rw [hop]; exact hq
      have h2 : fastP o tm = none := by unfold fastP; rw [hop]
      have h3 : aPure P o tm = some v := by unfold aPure; rw [h2, h1]
      have h4 : aopP P o tm = aPure P o tm := by unfold aopP; rw [hop]
      rw [h4, h3]; rfl
  case convert src dst x =>
    show oE (aop P o st tm) st (opt1 (sConv P src dst) (aevF x tm)) = _
    rw [aevF_eq]
    have hM : aop P o st tm = (match aopP P o tm with
      | some v => .val v st
      | none => (match aev tm x with | some u => ofV (aConv P src dst u st) | none => .fail)) := by
      conv => lhs; unfold aop
      rw [hop]
    cases hq : opt1 (sConv P src dst) (aev tm x) with
    | none => rfl
    | some v =>
      have h1 : fastS P o tm = some v := by unfold fastS; rw [hop]; exact hq
      have h2 : fastP o tm = none := by unfold fastP; rw [hop]
      have h3 : aPure P o tm = some v := by unfold aPure; rw [h2, h1]
      have h4 : aopP P o tm = some v := by
        unfold aopP; rw [hop]
        cases hx : aev tm x with
        | none => rw [hx] at hq; cases hq
        | some u =>
          rw [hx] at hq
          have hq' : sConv P src dst u = some v := hq
          have : symConv P src dst u = none := by
            cases u <;> (try rfl)
            cases hq'
          simp only [h3, hx, this]
      rw [hM, h4]; rfl
  case binOp op t x y t2 =>
    have hM : aop P o st tm = (match (Op.binOp op t x y t2) with
      | .binOp .eql t x y _ => (match aopP P o tm with | some v => .val v st | none => ofB false (aCmp P t st tm x y) st)
      | .binOp .neq t x y _ => (match aopP P o tm with | some v => .val v st | none => ofB true (aCmp P t st tm x y) st)
      | _ => ofP (aopP P o tm) st) := by
      conv => lhs; unfold aop
      rw [hop]
      cases op <;> rfl
    have hval : ∀ v, aopP P o tm = some v → aop P o st tm = .val v st := fun v h4 => by
      rw [hM]
      cases op <;> simp only [h4] <;> rfl
    show oE (oE (aop P o st tm) st (opt2 (sBinF op) (aevF x tm) (aevF y tm))) st (opt2 (fastBF op) (aevF x tm) (aevF y tm)) = aop P o st tm
    rw [aevF_eq, aevF_eq, fastBF_fun, sBinF_fun]
    cases hq : opt2 (fastB op) (aev tm x) (aev tm y) with
    | none =>
      show oE (aop P o st tm) st (opt2 (sBin op) (aev tm x) (aev tm y)) = aop P o st tm
      cases hs : opt2 (sBin op) (aev tm x) (aev tm y) with
      | none => rfl
      | some v => rw [hval v (aopP_sBin hop hq hs)]; rfl
    | some v =>
      obtain ⟨u, z, h1, h2, h3⟩ := opt2_cases hq
      have hf : fastP o tm = some v := by unfold fastP; rw [hop]; simp only [h1, h2, h3]
      obtain ⟨k, m, k2, n, rfl, rfl⟩ := fastB_int h3
      have h4 : aopP P o tm = some v := by
        unfold aopP; rw [hop]
        cases op <;> simp only [h1, h2, aEq_int, hP v hf]
        case rem => simp only [symRem]
      rw [hval v h4]; rfl
  case slice t x lo hi mx =>
    show oE (ofP (aopP P o tm) st) st (sSliceO P tm t (aevF x tm) lo hi mx) = aop P o st tm
    have hM : aop P o st tm = ofP (aopP P o tm) st := by
      conv => lhs; unfold aop
      rw [hop]
    rw [aevF_eq, hM]
    cases hs : sSliceO P tm t (aev tm x) lo hi mx with
    | none => rfl
    | some v => rw [sSliceO_pure hop hs]; rfl
  case call c =>
    show Bool.rec (motive := fun _ => AR) (aCall P c o st tm) (oE (aCall P c o st tm) st (opt1 (lenT P c) (aevF (c.args.getD 0 default) tm))) (isLen c) = aop P o st tm
    have hM : aop P o st tm = aCall P c o st tm := by
      conv => lhs; unfold aop
      rw [hop]
    rw [aevF_eq, hM]
    cases hl : isLen c with
    | false => rfl
    | true =>
      have hc : c.callee = .builtin .len := by
        unfold isLen at hl
        split at hl
        · assumption
        · cases hl
      show oE (aCall P c o st tm) st (opt1 (lenT P c) (aev tm (c.args.getD 0 default))) = _
      cases hx : aev tm (c.args.getD 0 default) with
      | none => rfl
      | some u =>
        cases hv : lenT P c u with
        | none => show oE _ st (lenT P c u) = _; rw [hv]; rfl
        | some v =>
          show oE _ st (lenT P c u) = _
          rw [hv]
          have h4 := lenT_pure (P := P) hop hc hx hv
          show AR.val v st = _
          unfold aCall
          rw [hc]
          simp only [h4]
theorem aopPF_eq (P : Program) (o : Oper) (tm : T Value) : aopPF o.op P o tm = aopP P o tm := by
  have hP : ∀ v, fastP o tm = some v → aPure P o tm = some v := fun v h => by unfold aPure; rw [h]
  cases hop : o.op <;> (first | (exact rfl; done) | ((conv => rhs; unfold aopP); rw [hop]; exact rfl; done) | skip)
  case move x => (conv => rhs; unfold aopP); rw [hop]; exact aevF_eq x tm
  case assign x => (conv => rhs; unfold aopP); rw [hop]; exact aevF_eq x tm
  case nilCheck x =>
    (conv => rhs; unfold aopP); rw [hop]
    show opt1 nilOk (aevF x tm) = _
    rw [aevF_eq]
    dsimp only
    cases aev tm x with
    | none => rfl
    | some u =>
      cases u <;> try rfl
      rename_i p
      cases p with
      | none => rfl
      | some ad => obtain ⟨b, of, sp⟩ := ad; cases sp <;> rfl
  case fieldAddr s x f => (conv => rhs; unfold aopP); rw [hop]; show opt1 _ (aevF x tm) = _; rw [aevF_eq]; dsimp only; cases aev tm x <;> rfl
  case field s x f => (conv => rhs; unfold aopP); rw [hop]; show opt1 _ (aevF x tm) = _; rw [aevF_eq]; dsimp only; cases aev tm x <;> rfl
  case indexAddr t x ix =>
    (conv => rhs; unfold aopP); rw [hop]
    show opt2 _ (aevF x tm) (aevF ix tm) = _
    rw [aevF_eq, aevF_eq]
    dsimp only
    cases aev tm x with
    | none => rfl
    | some u => cases aev tm ix <;> rfl
  case extract x ix =>
    (conv => rhs; unfold aopP); rw [hop]
    show opt1 _ (aevF x tm) = _
    rw [aevF_eq]
    dsimp only
    cases aev tm x with
    | none => rfl
    | some u => cases u <;> rfl
  case index t x ix =>
    show orE (aopP P o tm) (opt2 (sIndex P t) (aevF x tm) (aevF ix tm)) = aopP P o tm
    rw [aevF_eq, aevF_eq]
    cases hq : opt2 (sIndex P t) (aev tm x) (aev tm ix) with
    | none => rfl
    | some v =>
      have h1 : fastS P o tm = some v := by unfold fastS; rw [hop]; exact hq
      have h2 : fastP o tm = none := by unfold fastP; rw [hop]
      have h3 : aPure P o tm = some v := by unfold aPure; rw [h2, h1]
      have h4 : aopP P o tm = aPure P o tm := by unfold aopP; rw [hop]
      rw [h4, h3]; rfl
  case convert src dst x =>
    show orE (aopP P o tm) (opt1 (sConv P src dst) (aevF x tm)) = _
    rw [aevF_eq]
    cases hq : opt1 (sConv P src dst) (aev tm x) with
    | none => rfl
    | some v =>
      have h1 : fastS P o tm = some v := by unfold fastS; rw [hop]; exact hq
      have h2 : fastP o tm = none := by unfold fastP; rw [hop]
      have h3 : aPure P o tm = some v := by unfold aPure; rw [h2, h1]
      have h4 : aopP P o tm = some v := by
        unfold aopP; rw [hop]
        cases hx : aev tm x with
        | none => rw [hx] at hq; cases hq
        | some u =>
          rw [hx] at hq
          have hq' : sConv P src dst u = some v := hq
          have : symConv P src dst u = none := by
            cases u <;> (try rfl)
            cases hq'
          simp only [h3, hx, this]
      rw [h4]; rfl
  case binOp op t x y t2 =>
    show orE (orE (aopP P o tm) (opt2 (sBinF op) (aevF x tm) (aevF y tm))) (opt2 (fastBF op) (aevF x tm) (aevF y tm)) = aopP P o tm
    rw [aevF_eq, aevF_eq, fastBF_fun, sBinF_fun]
    cases hq : opt2 (fastB op) (aev tm x) (aev tm y) with
    | some v =>
      obtain ⟨u, z, h1, h2, h3⟩ := opt2_cases hq
      have hf : fastP o tm = some v := by unfold fastP; rw [hop]; simp only [h1, h2, h3]
      obtain ⟨k, m, k2, n, rfl, rfl⟩ := fastB_int h3
      have h4 : aopP P o tm = some v := by
        unfold aopP; rw [hop]
        cases op <;> simp only [h1, h2, aEq_int, hP v hf]
        case rem => simp only [symRem]
      rw [h4]; rfl
    | none =>
      show orE (aopP P o tm) (opt2 (sBin op) (aev tm x) (aev tm y)) = aopP P o tm
      cases hs : opt2 (sBin op) (aev tm x) (aev tm y) with
      | none => rfl
      | some v => rw [aopP_sBin hop hq hs]; rfl
  case slice t x lo hi mx =>
    show orE (aopP P o tm) (sSliceO P tm t (aevF x tm) lo hi mx) = aopP P o tm
    rw [aevF_eq]
    cases hs : sSliceO P tm t (aev tm x) lo hi mx with
    | none => rfl
    | some v => rw [sSliceO_pure hop hs]; rfl
  case call c =>
    show Bool.rec (motive := fun _ => Option Value) (aopP P o tm) (orE (aopP P o tm) (opt1 (lenT P c) (aevF (c.args.getD 0 default) tm))) (isLen c) = aopP P o tm
    rw [aevF_eq]
    cases hl : isLen c with
    | false => rfl
    | true =>
      have hc : c.callee = .builtin .len := by
        unfold isLen at hl
        split at hl
        · assumption
        · cases hl
      show orE (aopP P o tm) (opt1 (lenT P c) (aev tm (c.args.getD 0 default))) = _
      cases hx : aev tm (c.args.getD 0 default) with
      | none => rfl
      | some u =>
        cases hv : lenT P c u with
        | none => show orE _ (lenT P c u) = _; rw [hv]; rfl
        | some v =>
          show orE _ (lenT P c u) = _
          rw [hv, lenT_pure (P := P) hop hc hx hv]; rfl
theorem wantedF_eq (ops : Array Oper) (o : Oper) (tm : T Value) : wantedF ops o tm = wantedA ops o tm := by
  unfold wantedF wantedA
  cases o.guard with
  | none => rfl
  | some g =>
    obtain ⟨j, want⟩ := g
    show Option.rec (motive := fun _ => Option Bool) (some false) (fun d => Option.rec (motive := fun _ => Option Bool) none (fun v => wV want v) (tget tm d)) ((ops[j]?).bind (·.dst)) = _
    simp only
    cases (ops[j]?).bind (·.dst) with
    | none => rfl
    | some d =>
      show Option.rec (motive := fun _ => Option Bool) none (fun v => wV want v) (tget tm d) = _
      simp only
      cases tget tm d with
      | none => rfl
      | some v => cases v <;> rfl
theorem opsStepF_eq (P : Program) (ex : Option Nat → Code → Nat → St → T Value → Rs (Ex × St × T Value)) (ro : Option Nat) (ops : Array Oper) (N : Nat) (o : Oper) (ih : St → T Value → Rs (St × T Value)) (st : St) (tm : T Value) : opsStepF P ex ro ops N o ih st tm = opsStep P ex ro ops N o ih st tm := by
  unfold opsStepF
  rw [wantedF_eq]
  cases hw : wantedA ops o tm with
  | none => unfold opsStep; rw [hw]
  | some b =>
    cases b with
    | false =>
      unfold opsStep; rw [hw]
      show Option.rec (motive := fun _ => Rs (St × T Value)) (.err (some o) 2) (fun tm => ih st tm) (putDF o.dst tm undef N) = _
      rw [putDF_eq]; simp only
      cases putD tm o.dst undef N <;> rfl
    | true =>
      show stepR P ex ro ops N o ih st tm (aopF o.op P o st tm) = _
      rw [aopF_eq]
      cases ha : aop P o st tm with
      | val v s =>
        unfold opsStep; rw [hw, ha]
        show Option.rec (motive := fun _ => Rs (St × T Value)) (.err (some o) 1) (fun tm => ih s tm) (putDF o.dst tm v N) = _
        rw [putDF_eq]; simp only
        cases putD tm o.dst v N <;> rfl
      | skip s =>
        unfold opsStep; rw [hw, ha]
        show Option.rec (motive := fun _ => Rs (St × T Value)) (.err (some o) 2) (fun tm => ih s tm) (putDF o.dst tm undef N) = _
        rw [putDF_eq]; simp only
        cases putD tm o.dst undef N <;> rfl
      | call f args => rfl
      | defer v => rfl
      | round l args => rfl
      | fail => rfl
theorem opsRun_cons (P : Program) (ex : Option Nat → Code → Nat → St → T Value → Rs (Ex × St × T Value)) (ro : Option Nat) (ops : Array Oper) (N : Nat) (o : Oper) (l : List Oper) (st : St) (tm : T Value) : opsRun P ex ro ops N (o :: l) st tm = opsStep P ex ro ops N o (opsRun P ex ro ops N l) st tm := opsStepF_eq P ex ro ops N o _ st tm
/-- a range over a function is entered: the block for deferred calls (or the outer loop's), the mark -/
noncomputable def loopOpen (ro : Option Nat) (st : St) (tm : T Value) : Option (Nat × St × T Value) :=
  match ro with
  | none => some (st.next, newObs st (.dfr true), pushD tm (.map (some st.next)))
  | some l0 => match st.obs.get l0 with
    | some (.loop lp) => some (lp.dfr, st, tm)
    | _ => none
noncomputable def doRange (P : Program) (ex : Option Nat → Code → Nat → St → T Value → Rs (Ex × St × T Value)) (ro : Option Nat) (g : Operand) (ps : Array Tmp) (as body : Code) (N : Nat) (st : St) (tm : T Value) : Rs (Ex × St × T Value) :=
  match aev tm g with
  | some (.func (.func f) xs us) =>
    match P.funcs[f]? with
    | some fn =>
      bif fn.body.isSome && !(fn.name == "runtime.NumGoroutine") then
        match loopOpen ro st tm with
        | some (d, s1, t1) =>
          match doCall P ex f (xs.toList ++ [yv s1.next] ++ us.toList) (newObs s1 (.loop ⟨.ready, none, tm.put dKey none, N, ps, as, body, d⟩)) with
          | .ok (_, s3) =>
            match s3.obs.get s1.next with
            | some (.loop l3) =>
              bif isBusy l3.state then .err none 32
              else (match exOf l3.pending with
                | some x => .ok (x, setObs s3 s1.next (.loop { l3 with state := .exhausted }), t1)
                | none => .err none 33)
            | _ => .err none 34
          | .err o f => .err o f
        | none => .err none 35
      else .err none 36
    | none => .err none 37
  | _ => .err none 38
abbrev RsC := Rs (Ex × St × T Value)
noncomputable def okN (r : Rs (St × T Value)) : RsC := Rs.rec (motive := fun _ => RsC) (fun a => .ok (.normal, a.1, a.2)) (fun o f => .err o f) r
noncomputable def exN : Ex → (St → T Value → RsC) → St → T Value → RsC := fun x => Ex.rec (motive := fun _ => (St → T Value → RsC) → St → T Value → RsC)
  (fun k st tm => k st tm) (fun j _ st tm => .ok (.exit j, st, tm)) (fun _ st tm => .ok (.ret, st, tm)) x
noncomputable def thenN (k : St → T Value → RsC) (r : RsC) : RsC := Rs.rec (motive := fun _ => RsC) (fun a => exN a.1 k a.2.1 a.2.2) (fun o f => .err o f) r
noncomputable def exB : Ex → Nat → St → T Value → RsC := fun x => Ex.rec (motive := fun _ => Nat → St → T Value → RsC)
  (fun _ st tm => .ok (.normal, st, tm)) (fun j id st tm => Bool.rec (motive := fun _ => RsC) (.ok (.exit j, st, tm)) (.ok (.normal, st, tm)) (Nat.beq j id)) (fun _ st tm => .ok (.ret, st, tm)) x
noncomputable def blockN (id : Nat) (r : RsC) : RsC := Rs.rec (motive := fun _ => RsC) (fun a => exB a.1 id a.2.1 a.2.2) (fun o f => .err o f) r
noncomputable def condN (k : Bool → RsC) (x : Option Value) : RsC := match x with
  | some (.bool t) => k t
  | _ => .err none 5
abbrev RegT := (Option Nat → Code → Nat → St → T Value → RsC) → Option Nat → Array Oper → Nat → St → T Value → Rs (St × T Value)
abbrev ExeT := Option Nat → Code → Nat → St → T Value → RsC
noncomputable def codeStep : Code → Program → RegT → ExeT → Option Nat → Nat → St → T Value → RsC := fun c =>
  Code.rec (motive := fun _ => Program → RegT → ExeT → Option Nat → Nat → St → T Value → RsC)
  (fun _ _ _ _ _ st tm => .ok (.normal, st, tm))
  (fun _ ops d P reg ih ro N st tm => okN (Bool.rec (motive := fun _ => Rs (St × T Value)) (opsRun P ih ro ops N ops.toList st tm) (reg ih ro ops N st tm) d))
  (fun a b _ _ _ _ ih ro N st tm => thenN (fun st tm => ih ro b N st tm) (ih ro a N st tm))
  (fun x a b _ _ _ _ ih ro N st tm => condN (fun t => ih ro (Bool.rec b a t) N st tm) (aevF x tm))
  (fun id a _ _ _ ih ro N st tm => blockN id (ih ro a N st tm))
  (fun a _ _ _ ih ro N st tm => thenN (fun st tm => ih ro (.loop a) N st tm) (ih ro a N st tm))
  (fun g ps as body _ _ P _ ih ro N st tm => doRange P ih ro g ps as body N st tm)
  (fun id _ _ _ _ _ st tm => .ok (.exit id, st, tm))
  (fun _ _ _ _ _ _ _ _ _ => .err none 6)
  (fun _ _ _ _ _ _ st tm => .ok (.normal, st, tm))
  (fun _ _ _ _ _ _ _ _ => .err none 6)
  (fun _ _ _ _ _ st tm => .ok (.ret, st, tm))
  (fun _ _ _ _ _ _ _ _ => .err none 6) c
noncomputable def exec (P : Program) (reg : RegT) : Nat → ExeT :=
  Nat.rec (motive := fun _ => ExeT) (fun _ _ _ _ _ => .err none 4) (fun _ ih => fun ro c N st tm => codeStep c P reg ih ro N st tm)
/-- a region that draws, its operations as they stand: for a first look -/
noncomputable def regSeq (P : Program) (ex : Option Nat → Code → Nat → St → T Value → Rs (Ex × St × T Value)) (ro : Option Nat) (ops : Array Oper) (N : Nat) (st : St) (tm : T Value) : Rs (St × T Value) := opsRun P ex ro ops N ops.toList st tm
def st0 : St := ⟨.leaf, 0, 0, .leaf⟩
noncomputable def runF (P : Program) (fuel : Nat) (f : FuncId) (args : List Value) : Rs (Value × St) := doCall P (exec P (regSeq P) fuel) f args st0

/-! the tree -/
theorem T.get_leaf {α : Type} (n : Nat) : (T.leaf : T α).get n = none := by
  show T.getP (pth n) .leaf = none
  cases pth n <;> rfl
/-- the number at the end of a way -/
def Pth.num : Pth → Nat
  | .e => 0
  | .z p => 2 * p.num + 1
  | .o p => 2 * p.num + 2
theorem num_pthF : ∀ (f n : Nat), n < f → (pthF f n).num = n
  | 0, _, h => absurd h (by omega)
  | f + 1, 0, _ => rfl
  | f + 1, k + 1, h => by
    show (Bool.rec (motive := fun _ => Pth) (.o (pthF f (Nat.div k 2))) (.z (pthF f (Nat.div k 2))) (Nat.beq (Nat.mod k 2) 0) : Pth).num = k + 1
    have ih := num_pthF f (Nat.div k 2) (by have : Nat.div k 2 = k / 2 := rfl; omega)
    have hd : Nat.div k 2 = k / 2 := rfl
    have hm : Nat.mod k 2 = k % 2 := rfl
    cases hq : Nat.beq (Nat.mod k 2) 0 with
    | true =>
      have := Nat.eq_of_beq_eq_true hq
      show 2 * (pthF f (Nat.div k 2)).num + 1 = k + 1
      rw [ih]; omega
    | false =>
      have := Nat.ne_of_beq_eq_false hq
      show 2 * (pthF f (Nat.div k 2)).num + 2 = k + 1
      rw [ih]; omega
theorem num_pth (n : Nat) : (pth n).num = n := num_pthF (n + 1) n (by omega)
theorem pth_inj {m n : Nat} (h : pth m = pth n) : m = n := by rw [← num_pth m, h, num_pth n]
theorem T.getP_leaf {α : Type} (p : Pth) : T.getP p (T.leaf : T α) = none := by cases p <;> rfl
open Classical in
theorem T.getP_putP {α : Type} (x : Option α) : ∀ (p : Pth) (t : T α) (q : Pth), T.getP q (T.putP p x t) = if q = p then x else T.getP q t := by
  intro p
  induction p with
  | e =>
    intro t q
    cases t with
    | leaf => cases q with
      | e => rw [if_pos rfl]; rfl
      | z q => rw [if_neg (by intro h; cases h)]; show T.getP q .leaf = none; exact T.getP_leaf q
      | o q => rw [if_neg (by intro h; cases h)]; show T.getP q .leaf = none; exact T.getP_leaf q
    | node v l r => cases q with
      | e => rw [if_pos rfl]; rfl
      | z q => rw [if_neg (by intro h; cases h)]; rfl
      | o q => rw [if_neg (by intro h; cases h)]; rfl
  | z p ih =>
    intro t q
    cases t with
    | leaf => cases q with
      | e => rw [if_neg (by intro h; cases h)]; rfl
      | z q =>
        show T.getP q (T.putP p x .leaf) = _
        rw [ih]
        by_cases h : q = p
        · rw [if_pos h, if_pos (by rw [h])]
        · rw [if_neg h, if_neg (by intro h'; injection h' with h'; exact h h')]; exact T.getP_leaf q
      | o q => rw [if_neg (by intro h; cases h)]; show T.getP q .leaf = none; exact T.getP_leaf q
    | node v l r => cases q with
      | e => rw [if_neg (by intro h; cases h)]; rfl
      | z q =>
        show T.getP q (T.putP p x l) = _
        rw [ih]
        by_cases h : q = p
        · rw [if_pos h, if_pos (by rw [h])]
        · rw [if_neg h, if_neg (by intro h'; injection h' with h'; exact h h')]; rfl
      | o q => rw [if_neg (by intro h; cases h)]; rfl
  | o p ih =>
    intro t q
    cases t with
    | leaf => cases q with
      | e => rw [if_neg (by intro h; cases h)]; rfl
      | o q =>
        show T.getP q (T.putP p x .leaf) = _
        rw [ih]
        by_cases h : q = p
        · rw [if_pos h, if_pos (by rw [h])]
        · rw [if_neg h, if_neg (by intro h'; injection h' with h'; exact h h')]; exact T.getP_leaf q
      | z q => rw [if_neg (by intro h; cases h)]; show T.getP q .leaf = none; exact T.getP_leaf q
    | node v l r => cases q with
      | e => rw [if_neg (by intro h; cases h)]; rfl
      | o q =>
        show T.getP q (T.putP p x r) = _
        rw [ih]
        by_cases h : q = p
        · rw [if_pos h, if_pos (by rw [h])]
        · rw [if_neg h, if_neg (by intro h'; injection h' with h'; exact h h')]; rfl
      | z q => rw [if_neg (by intro h; cases h)]; rfl
theorem T.get_put {α : Type} (t : T α) (n : Nat) (x : Option α) (m : Nat) : (t.put n x).get m = if m = n then x else t.get m := by
  show T.getP (pth m) (T.putP (pth n) x t) = _
  rw [T.getP_putP]
  by_cases h : m = n
  · rw [if_pos h, if_pos (by rw [h])]
  · rw [if_neg h, if_neg (fun e => h (pth_inj e))]; rfl
theorem T.get_set {α : Type} (t : T α) (n : Nat) (x : α) (m : Nat) : (t.set n x).get m = if m = n then some x else t.get m := T.get_put t n (some x) m

theorem putCells_nil (t : T Value) (off : Nat) : putCells [] t off = t := rfl
theorem putCells_cons (v : Value) (l : List Value) (t : T Value) (off : Nat) : putCells (v :: l) t off = putCells l (t.set off v) (off + 1) := rfl
theorem get_putCells (l : List Value) : ∀ (t : T Value) (off i : Nat), (putCells l t off).get i = if off ≤ i ∧ i < off + l.length then l[i - off]? else t.get i := by
  induction l with
  | nil => intro t off i; rw [putCells_nil, if_neg (by rintro ⟨q1, q2⟩; rw [List.length_nil] at q2; omega)]
  | cons v l ih =>
    intro t off i
    rw [putCells_cons, ih, T.get_set]
    by_cases h : i = off
    · subst h; rw [if_neg (by omega), if_pos rfl, if_pos (by simp)]; simp
    · by_cases h2 : off + 1 ≤ i ∧ i < off + 1 + l.length
      · rw [if_pos h2, if_pos (by simp; omega), show i - off = i - (off + 1) + 1 by omega, List.getElem?_cons_succ]
      · rw [if_neg h2, if_neg h, if_neg (by simp; omega)]
theorem getCellsFrom_zero (t : T Value) (off : Nat) : getCellsFrom t 0 off = some [] := rfl
theorem getCellsFrom_succ (t : T Value) (k off : Nat) : getCellsFrom t (k + 1) off = match t.get off with | some v => (match getCellsFrom t k (off + 1) with | some l => some (v :: l) | none => none) | none => none := rfl
theorem getCellsFrom_some (t : T Value) : ∀ (k off : Nat) (l : List Value), getCellsFrom t k off = some l → l.length = k ∧ ∀ i, i < k → t.get (off + i) = l[i]? := by
  intro k
  induction k with
  | zero => intro off l h; rw [getCellsFrom_zero] at h; cases h; exact ⟨rfl, fun i hi => by omega⟩
  | succ k ih =>
    intro off l h
    rw [getCellsFrom_succ] at h
    cases hv : t.get off with
    | none => rw [hv] at h; simp at h
    | some v =>
      rw [hv] at h
      cases hl : getCellsFrom t k (off + 1) with
      | none => rw [hl] at h; simp at h
      | some r =>
        rw [hl] at h
        simp only [Option.some.injEq] at h
        subst h
        obtain ⟨h1, h2⟩ := ih _ _ hl
        refine ⟨by simp [h1], fun i hi => ?_⟩
        cases i with
        | zero => simpa using hv
        | succ i => rw [List.getElem?_cons_succ, ← h2 i (by omega)]; congr 1; omega

/-! what a value stands for -/
structure Tgt where
  blk : Nat
  base : Nat
  cap : Nat
abbrev Ren := Nat → Option Tgt
def capR (t : Tgt) (c : Nat) : Nat := if c < big then c else t.cap - (c - big)
inductive VR (ρ : Ren) : Value → Value → Prop
  | bool (b : Bool) : VR ρ (.bool b) (.bool b)
  | int (k : IntKind) (n : Int) : VR ρ (.int k n) (.int k n)
  | float (k : FloatKind) (n : Nat) : VR ρ (.float k n) (.float k n)
  | complex (k : FloatKind) (n m : Nat) : VR ρ (.complex k n m) (.complex k n m)
  | string (s : ByteArray) : VR ρ (.string s) (.string s)
  | nilp : VR ρ (.pointer none) (.pointer none)
  | ptr {b o : Nat} {t : Tgt} (h : ρ b = some t) : VR ρ (.pointer (some ⟨b, o, none⟩)) (.pointer (some ⟨t.blk, t.base + o, none⟩))
  | nils (n c : Nat) : VR ρ (.slice none n c) (.slice none n c)
  | sl {b o n c : Nat} {t : Tgt} (h : ρ b = some t) (hn : n ≤ capR t c) : VR ρ (.slice (some ⟨b, o, none⟩) n c) (.slice (some ⟨t.blk, t.base + o, none⟩) n (capR t c))
  | sle {b o d c : Nat} {t : Tgt} (h : ρ b = some t) : VR ρ (.slice (some ⟨b, o, some d⟩) 0 c) (.slice (some ⟨t.blk, t.base + (if capR t c = 0 then o - d else o), none⟩) 0 (capR t c))
  | nilm : VR ρ (.map none) (.map none)
  | mp {b : Nat} {t : Tgt} (h : ρ b = some t) : VR ρ (.map (some b)) (.map (some t.blk))
  | yieldf {l : Nat} {t : Tgt} (h : ρ l = some t) : VR ρ (.pointer (some ⟨l, 0, some 0⟩)) (.func (.yield t.blk) #[] #[])
  | sym {c : Nat} {t : Tgt} (h : ρ (c % 4) = some t) (hr : t.blk % (c / 8 % 1024) = c / 8192) (hn : t.blk < 256) : VR ρ (.chan (some c)) (.int (symK c) (t.blk : Int))
  | nilFunc : VR ρ .nilFunc .nilFunc
  | nilIface : VR ρ .nilIface .nilIface
  | iface (t : TypeId) {v u : Value} (h : VR ρ v u) : VR ρ (.iface t v) (.iface t u)
  | agg {xs ys : Array Value} (h : xs.size = ys.size) (h2 : ∀ (i : Nat) (x y : Value), xs[i]? = some x → ys[i]? = some y → VR ρ x y) : VR ρ (.agg xs) (.agg ys)
  | tuple {xs ys : Array Value} (h : xs.size = ys.size) (h2 : ∀ (i : Nat) (x y : Value), xs[i]? = some x → ys[i]? = some y → VR ρ x y) : VR ρ (.tuple xs) (.tuple ys)
  | func (fn : Fn) {xs ys us vs : Array Value} (h : xs.size = ys.size) (h2 : ∀ (i : Nat) (x y : Value), xs[i]? = some x → ys[i]? = some y → VR ρ x y)
      (h3 : us.size = vs.size) (h4 : ∀ (i : Nat) (x y : Value), us[i]? = some x → vs[i]? = some y → VR ρ x y) : VR ρ (.func fn xs us) (.func fn ys vs)
def Sub (ρ ρ' : Ren) : Prop := ∀ id t, ρ id = some t → ρ' id = some t
theorem Sub.refl (ρ : Ren) : Sub ρ ρ := fun _ _ h => h
theorem Sub.trans {a b c : Ren} (h : Sub a b) (k : Sub b c) : Sub a c := fun id t e => k id t (h id t e)
theorem VR.mono {ρ ρ' : Ren} (hs : Sub ρ ρ') {v u : Value} (h : VR ρ v u) : VR ρ' v u := by
  induction h with
  | bool b => exact .bool b
  | int k n => exact .int k n
  | float k n => exact .float k n
  | complex k n m => exact .complex k n m
  | string s => exact .string s
  | nilp => exact .nilp
  | ptr h => exact .ptr (hs _ _ h)
  | nils n c => exact .nils n c
  | sl h hn => exact .sl (hs _ _ h) hn
  | sle h => exact .sle (hs _ _ h)
  | nilm => exact .nilm
  | mp h => exact .mp (hs _ _ h)
  | yieldf h => exact .yieldf (hs _ _ h)
  | sym h hr hn => exact .sym (hs _ _ h) hr hn
  | nilFunc => exact .nilFunc
  | nilIface => exact .nilIface
  | iface t _ ih => exact .iface t ih
  | agg h _ ih => exact .agg h ih
  | tuple h _ ih => exact .tuple h ih
  | func fn h _ h3 _ ih1 ih2 => exact .func fn h ih1 h3 ih2
theorem arr_det {xs ys zs : Array Value} (h : xs.size = ys.size) (k : xs.size = zs.size)
    (ih : ∀ (i : Nat) (x y : Value), xs[i]? = some x → ys[i]? = some y → ∀ u, (zs[i]? = some u) → y = u) : ys = zs := by
  apply Array.ext (by omega)
  intro i h1 h2
  exact ih i (xs[i]'(by omega)) _ (Array.getElem?_eq_getElem (by omega)) (Array.getElem?_eq_getElem h1) _ (Array.getElem?_eq_getElem h2)
theorem VR.det {ρ : Ren} {v u : Value} (h : VR ρ v u) : ∀ u', VR ρ v u' → u = u' := by
  induction h with
  | bool b => intro u' k; cases k; rfl
  | int => intro u' k; cases k; rfl
  | float => intro u' k; cases k; rfl
  | complex => intro u' k; cases k; rfl
  | string => intro u' k; cases k; rfl
  | nilp => intro u' k; cases k; rfl
  | ptr h => intro u' k; cases k with | ptr h' => rw [h] at h'; cases h'; rfl
  | nils => intro u' k; cases k; rfl
  | sl h hn => intro u' k; cases k with | sl h' hn' => rw [h] at h'; cases h'; rfl
  | sle h => intro u' k; cases k with | sle h' => rw [h] at h'; cases h'; rfl
  | nilm => intro u' k; cases k; rfl
  | mp h => intro u' k; cases k with | mp h' => rw [h] at h'; cases h'; rfl
  | yieldf h => intro u' k; cases k with | yieldf h' => rw [h] at h'; cases h'; rfl
  | sym h hr hn => intro u' k; cases k with | sym h' hr' hn' => rw [h] at h'; cases h'; rfl
  | nilFunc => intro u' k; cases k; rfl
  | nilIface => intro u' k; cases k; rfl
  | iface t _ ih => intro u' k; cases k with | iface _ h' => rw [ih _ h']
  | agg h h2 ih => intro u' k; cases k with | agg h' h2' => rw [arr_det h h' fun i x y hx hy z hz => ih i x y hx hy z (h2' i x z hx hz)]
  | tuple h h2 ih => intro u' k; cases k with | tuple h' h2' => rw [arr_det h h' fun i x y hx hy z hz => ih i x y hx hy z (h2' i x z hx hz)]
  | func fn h h2 h3 h4 ih1 ih2 =>
    intro u' k
    cases k with
    | func _ h' h2' h3' h4' =>
      rw [arr_det h h' fun i x y hx hy z hz => ih1 i x y hx hy z (h2' i x z hx hz), arr_det h3 h3' fun i x y hx hy z hz => ih2 i x y hx hy z (h4' i x z hx hz)]
theorem arr_refl {d : Nat} {xs : Array Value} (ρ : Ren) (ih : ∀ v, grd d v = true → VR ρ v v) (h : xs.toList.all (grd d) = true) :
    ∀ (i : Nat) (x y : Value), xs[i]? = some x → xs[i]? = some y → VR ρ x y := by
  intro i x y hx hy
  rw [hx] at hy; cases hy
  refine ih x (List.all_eq_true.1 h x ?_)
  rw [← Array.getElem?_toList] at hx
  exact List.mem_of_getElem? hx
theorem VR.refl (ρ : Ren) : ∀ (d : Nat) (v : Value), grd d v = true → VR ρ v v := by
  intro d
  induction d with
  | zero => intro v h; exact absurd h (by simp [grd])
  | succ d ih =>
    intro v h
    cases v with
    | bool b => exact .bool b
    | int k n => exact .int k n
    | float k n => exact .float k n
    | complex k n m => exact .complex k n m
    | string s => exact .string s
    | pointer a => cases a with
      | none => exact .nilp
      | some a => simp [grd] at h
    | slice a n c => cases a with
      | none => exact .nils n c
      | some a => simp [grd] at h
    | map r => cases r with
      | none => exact .nilm
      | some a => simp [grd] at h
    | chan r => simp [grd] at h
    | func fn xs ys =>
      simp only [grd, Bool.and_eq_true] at h
      exact .func fn rfl (arr_refl ρ ih h.1) rfl (arr_refl ρ ih h.2)
    | nilFunc => exact .nilFunc
    | iface t v => exact .iface t (ih v (by simpa [grd] using h))
    | nilIface => exact .nilIface
    | agg cs => exact .agg rfl (arr_refl ρ ih (by simpa only [grd] using h))
    | tuple cs => exact .tuple rfl (arr_refl ρ ih (by simpa only [grd] using h))
theorem VR.eq_of_grd {ρ : Ren} {d : Nat} {v u : Value} (hg : grd d v = true) (h : VR ρ v u) : u = v := (VR.det (VR.refl ρ d v hg) u h).symm

/-! what a state stands for -/
/-- the world at the beginning, and the blocks of the state that are made, but not yet in the world -/
structure Bs where
  w : World
  gh : Nat → Prop
structure BR (w0 : Bs) (w : World) (ρ : Ren) (b : Blk) (t : Tgt) (cs : Array Value) (fr : (Nat × Nat) × TypeId) : Prop where
  lo : w0.w.heap.size ≤ t.blk ∨ (b.n ≤ b.frz ∧ b.exact = true)
  at_ : w.heap[t.blk]? = some (.cells cs fr.2 fr.1)
  cell : ∀ i, i < b.n → ∃ v c, b.cells.get i = some v ∧ VR ρ v c ∧ cs[t.base + i]? = some c
  exact_ : b.exact = true → t.base + b.n = cs.size
  room : b.exact = false → b.n ≤ t.cap * b.sz ∧ t.base + t.cap * b.sz ≤ cs.size
  thaw : ∀ i, b.frz ≤ i → t.base + i < cs.size → ¬ (fr.1.1 ≤ t.base + i ∧ t.base + i < fr.1.2)
  ty : b.exact = false → fr.2 = b.elem
  calm : b.exact = true → b.frz = 0 → fr.1 = (0, 0) ∧ fr.2 = b.elem ∧ t.base = 0
/-- the temporaries of a range over a function -/
def TMR (ρ : Ren) (N : Nat) (tm : T Value) (tmps : Array Value) : Prop := tmps.size = N ∧ ∀ t v, t ≠ dKey → tm.get t = some v → ∃ u, VR ρ v u ∧ tmps[t]? = some u
structure LoR (ρ : Ren) (l : LA) (L : Loop) : Prop where
  state : L.state = l.state
  pending : L.pending = l.pending
  tm : TMR ρ l.N l.tm L.tmps
  params : L.params = l.params
  assign : L.assign = l.assign
  body : L.body = l.body
  dfr : ∃ t, ρ l.dfr = some t ∧ L.defers = t.blk
  dk : l.tm.get dKey = none
  le : l.N ≤ dKey
/-- an object stands for an object -/
def ER (ρ : Ren) (e x : MapEntry) : Prop := x.key = e.key ∧ VR ρ e.val x.val ∧ x.born = e.born
inductive OR (ρ : Ren) : OA → Obj → Prop
  | map {es : List MapEntry} {xs : Array MapEntry} (c : Nat) (h : es.length = xs.size) (h2 : ∀ (i : Nat) (e x : MapEntry), es[i]? = some e → xs[i]? = some x → ER ρ e x) : OR ρ (.map es c) (.map xs c)
  | iterN (since : Nat) (seen : List Nat) (last : Nat) : OR ρ (.iter none since seen last) (.mapIter none since seen.toArray last)
  | iter {m : Nat} {t : Tgt} (since : Nat) (seen : List Nat) (last : Nat) (h : ρ m = some t) : OR ρ (.iter (some m) since seen last) (.mapIter (some t.blk) since seen.toArray last)
  | str (s : ByteArray) (pos : Nat) : OR ρ (.str s pos) (.stringIter s pos)
  | loop {l : LA} {L : Loop} (h : LoR ρ l L) : OR ρ (.loop l) (.loop L)
  | dfrO : OR ρ (.dfr true) (.deferred (some []))
  | dfrC : OR ρ (.dfr false) (.deferred none)
theorem ER.mono {ρ ρ' : Ren} (hs : Sub ρ ρ') {e x : MapEntry} (h : ER ρ e x) : ER ρ' e x := ⟨h.1, h.2.1.mono hs, h.2.2⟩
theorem TMR.mono {ρ ρ' : Ren} (hs : Sub ρ ρ') {N : Nat} {tm : T Value} {tmps : Array Value} (h : TMR ρ N tm tmps) : TMR ρ' N tm tmps :=
  ⟨h.1, fun t v q e => let ⟨u, h1, h2⟩ := h.2 t v q e; ⟨u, h1.mono hs, h2⟩⟩
theorem LoR.mono {ρ ρ' : Ren} (hs : Sub ρ ρ') {l : LA} {L : Loop} (h : LoR ρ l L) : LoR ρ' l L :=
  ⟨h.state, h.pending, h.tm.mono hs, h.params, h.assign, h.body, let ⟨t, q1, q2⟩ := h.dfr; ⟨t, hs _ _ q1, q2⟩, h.dk, h.le⟩
theorem LoR.back {ρ ρ' : Ren} (hs : Sub ρ ρ') {l : LA} {L L' : Loop} (h : LoR ρ l L) (h' : LoR ρ' l L') : LoR ρ l L' := by
  refine ⟨h'.state, h'.pending, ⟨h'.tm.1, fun t v q e => ?_⟩, h'.params, h'.assign, h'.body, ?_, h.dk, h.le⟩
  · obtain ⟨u, q1, q2⟩ := h'.tm.2 t v q e
    obtain ⟨u0, r1, _⟩ := h.tm.2 t v q e
    have := VR.det q1 _ (r1.mono hs)
    exact ⟨u, by rw [this]; exact r1, q2⟩
  · obtain ⟨t, q1, q2⟩ := h.dfr
    obtain ⟨t', r1, r2⟩ := h'.dfr
    have := hs _ _ q1
    rw [this] at r1; cases r1
    exact ⟨t, q1, r2⟩
theorem OR.mono {ρ ρ' : Ren} (hs : Sub ρ ρ') {o : OA} {ob : Obj} (h : OR ρ o ob) : OR ρ' o ob := by
  cases h with
  | map c h h2 => exact .map c h fun i e x he hx => (h2 i e x he hx).mono hs
  | iterN a b c => exact .iterN a b c
  | iter a b c h => exact .iter a b c (hs _ _ h)
  | str s p => exact .str s p
  | loop h => exact .loop (h.mono hs)
  | dfrO => exact .dfrO
  | dfrC => exact .dfrC
def isCells : Obj → Bool
  | .cells _ _ _ => true
  | _ => false
theorem OR.other {ρ : Ren} {o : OA} {ob : Obj} (h : OR ρ o ob) : isCells ob = false := by cases h <;> rfl
theorem OR.back {ρ ρ' : Ren} (hs : Sub ρ ρ') {o : OA} {ob ob' : Obj} (h : OR ρ o ob) (h' : OR ρ' o ob') : OR ρ o ob' := by
  cases h with
  | map c h h2 =>
    rename_i es xs
    cases h' with
    | map _ k k2 =>
      rename_i ys
      refine .map c k fun i e x he hx => ?_
      obtain ⟨q1, q2, q3⟩ := k2 i e x he hx
      have hi : i < xs.size := by rw [← h]; exact (List.getElem?_eq_some_iff.1 he).1
      obtain ⟨_, r2, _⟩ := h2 i e xs[i] he (Array.getElem?_eq_getElem hi)
      refine ⟨q1, ?_, q3⟩
      have := VR.det q2 _ (r2.mono hs)
      rw [this]; exact r2
  | iterN a b c => cases h' with | iterN => exact .iterN a b c
  | iter a b c h =>
    cases h' with
    | iter _ _ _ k =>
      have := hs _ _ h
      rw [this] at k; cases k
      exact .iter a b c h
  | str s p => cases h' with | str => exact .str s p
  | loop h => cases h' with | loop k => exact .loop (h.back hs k)
  | dfrO => cases h' with | dfrO => exact .dfrO
  | dfrC => cases h' with | dfrC => exact .dfrC
structure Rel (w0 : Bs) (ρ : Ren) (st : St) (w : World) : Prop where
  below : Below w0.w.heap.size w0.w w
  dom : ∀ id, st.next ≤ id → ρ id = none ∧ st.heap.get id = none
  have_ : ∀ id b t, st.heap.get id = some b → ρ id = some t → ∃ cs fr, BR w0 w ρ b t cs fr
  inj : ∀ i j a b s t, st.heap.get i = some a → st.heap.get j = some b → ρ i = some s → ρ j = some t → s.blk = t.blk → i = j
  gho : ∀ id, w0.gh id → ρ id = none ∧ id < st.next
  obs_ : ∀ id o t, st.obs.get id = some o → ρ id = some t → w0.w.heap.size ≤ t.blk ∧ t.base = 0 ∧ ∃ ob, w.heap[t.blk]? = some ob ∧ OR ρ o ob
  odom : ∀ id, st.next ≤ id → st.obs.get id = none
  oinj : ∀ i j a b s t, st.obs.get i = some a → st.obs.get j = some b → ρ i = some s → ρ j = some t → s.blk = t.blk → i = j
  odis : ∀ id b o, st.heap.get id = some b → st.obs.get id = some o → False
theorem Rel.obs_of {w0 w0' : Bs} {w w' : World} {ρ ρ' : Ren} {st st' : St} (h : Rel w0 ρ st w) (hst : st'.obs = st.obs) (h0 : w0'.w.heap.size ≤ w0.w.heap.size) (hs : Sub ρ ρ') (hr : ∀ id o t, st.obs.get id = some o → ρ' id = some t → ρ id = some t)
    (hw : ∀ (k : Nat) (ob : Obj), w.heap[k]? = some ob → isCells ob = false → w'.heap[k]? = some ob) : ∀ id o t, st'.obs.get id = some o → ρ' id = some t → w0'.w.heap.size ≤ t.blk ∧ t.base = 0 ∧ ∃ ob, w'.heap[t.blk]? = some ob ∧ OR ρ' o ob := by
  intro id o t ho ht
  rw [hst] at ho
  obtain ⟨q1, q2, ob, q3, q4⟩ := h.obs_ id o t ho (hr id o t ho ht)
  exact ⟨Nat.le_trans h0 q1, q2, ob, hw _ _ q3 q4.other, q4.mono hs⟩
theorem Rel.oinj_of {w0 : Bs} {w : World} {ρ ρ' : Ren} {st st' : St} (h : Rel w0 ρ st w) (hst : st'.obs = st.obs) (hr : ∀ id o t, st.obs.get id = some o → ρ' id = some t → ρ id = some t) : ∀ i j a b s t, st'.obs.get i = some a → st'.obs.get j = some b → ρ' i = some s → ρ' j = some t → s.blk = t.blk → i = j := by
  intro i j a b s t hi hj hs ht e
  rw [hst] at hi hj
  exact h.oinj i j a b s t hi hj (hr i a s hi hs) (hr j b t hj ht) e
theorem Rel.odom_of {w0 : Bs} {w : World} {ρ : Ren} {st st' : St} (h : Rel w0 ρ st w) (hst : st'.obs = st.obs) (hn : st.next ≤ st'.next) : ∀ id, st'.next ≤ id → st'.obs.get id = none := by
  intro id hid; rw [hst]; exact h.odom id (Nat.le_trans hn hid)
theorem Rel.ren_of {w0 : Bs} {w : World} {ρ : Ren} {st : St} (h : Rel w0 ρ st w) (x : Option Tgt) : ∀ id o t, st.obs.get id = some o → (if id = st.next then x else ρ id) = some t → ρ id = some t := by
  intro id o t ho ht
  by_cases e : id = st.next
  · rw [e, h.odom _ (Nat.le_refl _)] at ho; cases ho
  · rwa [if_neg e] at ht
theorem Rel.odis_new {w0 : Bs} {w : World} {ρ : Ren} {st : St} (h : Rel w0 ρ st w) (x : Blk) : ∀ id b o, (st.heap.set st.next x).get id = some b → st.obs.get id = some o → False := by
  intro id b o hb ho
  rw [T.get_set] at hb
  by_cases e : id = st.next
  · rw [e, h.odom _ (Nat.le_refl _)] at ho; cases ho
  · rw [if_neg e] at hb; exact h.odis id b o hb ho
theorem other_alloc (w : World) (o : Obj) : ∀ (k : Nat) (ob : Obj), w.heap[k]? = some ob → isCells ob = false → (w.alloc o).heap[k]? = some ob := by
  intro k ob hk _
  rw [heap_alloc_old w o k (Array.getElem?_eq_some_iff.1 hk).1]; exact hk
theorem Rel.blk {w0 : Bs} {w : World} {ρ : Ren} {st : St} (h : Rel w0 ρ st w) (id : Nat) (b : Blk) (hb : st.heap.get id = some b) {t : Tgt} (ht : ρ id = some t) : ∃ t cs fr, ρ id = some t ∧ BR w0 w ρ b t cs fr := by
  obtain ⟨cs, fr, h⟩ := h.have_ id b t hb ht
  exact ⟨t, cs, fr, ht, h⟩
/-- a deferred call, or the mark of a range over a function -/
def D1 (ρ : Ren) (x : Value) (d : Deferred) : Prop :=
  (∃ f xs us ys vs, x = .func (.func f) xs us ∧ d = { target := .fn (.func f) vs, args := ys } ∧ VR ρ (.func (.func f) xs us) (.func (.func f) ys vs)) ∨
  ∃ b t, x = .map (some b) ∧ ρ b = some t ∧ d = { target := .collected t.blk, args := #[] }
theorem D1.mono {ρ ρ' : Ren} (hs : Sub ρ ρ') {x : Value} {d : Deferred} (h : D1 ρ x d) : D1 ρ' x d := by
  rcases h with ⟨f, xs, us, ys, vs, h1, h2, h3⟩ | ⟨b, t, h1, h2, h3⟩
  · exact .inl ⟨f, xs, us, ys, vs, h1, h2, h3.mono hs⟩
  · exact .inr ⟨b, t, h1, hs _ _ h2, h3⟩
/-- the deferred calls -/
def DR (ρ : Ren) (v : Option Value) (ds : List Deferred) : Prop :=
  match v with
  | none => ds = []
  | some (.tuple l) => l.toList.length = ds.length ∧ ∀ (i : Nat) (x : Value) (d : Deferred), l.toList[i]? = some x → ds[i]? = some d → D1 ρ x d
  | _ => False
theorem DR.mono {ρ ρ' : Ren} (hs : Sub ρ ρ') {v : Option Value} {ds : List Deferred} (h : DR ρ v ds) : DR ρ' v ds := by
  cases v with
  | none => exact h
  | some x =>
    cases x <;> try exact False.elim h
    have h' : _ ∧ _ := h
    exact ⟨h'.1, fun i x d hx hd => (h'.2 i x d hx hd).mono hs⟩
/-- the package-level variables' blocks -/
def Glob (ρ : Ren) : Prop := ∀ g, g < 200 → ρ (g + 4) = some ⟨g, 0, 0⟩
/-- the temporaries -/
structure TR (ρ : Ren) (N : Nat) (tm : T Value) (a : Act) : Prop where
  size : a.tmps.size = N
  le : N ≤ dKey
  glob : Glob ρ
  defers : DR ρ (tm.get dKey) a.defers
  val : ∀ t v, t ≠ dKey → tm.get t = some v → ∃ u, VR ρ v u ∧ a.tmps[t]? = some u
theorem TR.mono {ρ ρ' : Ren} (hs : Sub ρ ρ') {N : Nat} {tm : T Value} {a : Act} (h : TR ρ N tm a) : TR ρ' N tm a :=
  ⟨h.size, h.le, fun g hg => hs _ _ (h.glob g hg), h.defers.mono hs, fun t v q e => let ⟨u, h1, h2⟩ := h.val t v q e; ⟨u, h1.mono hs, h2⟩⟩
theorem TR.got {ρ : Ren} {N : Nat} {tm : T Value} {a : Act} (h : TR ρ N tm a) {t : Nat} {v : Value} (e : tget tm t = some v) : ∃ u, VR ρ v u ∧ a.tmps[t]? = some u := by
  unfold tget at e
  cases hb : Nat.beq t dKey with
  | true => rw [hb] at e; cases e
  | false =>
    rw [hb] at e
    exact h.val t v (by rintro rfl; rw [Nat.beq_refl] at hb; cases hb) e
theorem BR.mono {w0 : Bs} {w : World} {ρ ρ' : Ren} (hs : Sub ρ ρ') {b : Blk} {t : Tgt} {cs : Array Value} {fr : (Nat × Nat) × TypeId} (h : BR w0 w ρ b t cs fr) : BR w0 w ρ' b t cs fr :=
  ⟨h.lo, h.at_, fun i hi => let ⟨v, c, h1, h2, h3⟩ := h.cell i hi; ⟨v, c, h1, h2.mono hs, h3⟩, h.exact_, h.room, h.thaw, h.ty, h.calm⟩
theorem Rel.drew {w0 : Bs} {w : World} {ρ : Ren} {st : St} (h : Rel w0 ρ st w) : Rel w0 ρ st { w with drawn := w.drawn + 1 } :=
  ⟨h.below.drew, h.dom, fun id b t e e2 => let ⟨cs, fr, h2⟩ := h.have_ id b t e e2; ⟨cs, fr, h2.lo, h2.at_, h2.cell, h2.exact_, h2.room, h2.thaw, h2.ty, h2.calm⟩, h.inj, h.gho, h.obs_, h.odom, h.oinj, h.odis⟩
/-- what an operation leaves of the older blocks -/
structure Fr (st st' : St) : Prop where
  next : st.next ≤ st'.next
  minw : st'.minw ≤ st.minw
  keep : ∀ id, id < st'.minw → id < st.next → st'.heap.get id = st.heap.get id
  okeep : ∀ id, id < st'.minw → id < st.next → st'.obs.get id = st.obs.get id
theorem Fr.refl (st : St) : Fr st st := ⟨Nat.le_refl _, Nat.le_refl _, fun _ _ _ => rfl, fun _ _ _ => rfl⟩
theorem Fr.trans {a b c : St} (h : Fr a b) (k : Fr b c) : Fr a c :=
  ⟨Nat.le_trans h.next k.next, Nat.le_trans k.minw h.minw, fun id h1 h2 => (k.keep id h1 (Nat.lt_of_lt_of_le h2 h.next)).trans (h.keep id (Nat.lt_of_lt_of_le h1 k.minw) h2),
    fun id h1 h2 => (k.okeep id h1 (Nat.lt_of_lt_of_le h2 h.next)).trans (h.okeep id (Nat.lt_of_lt_of_le h1 k.minw) h2)⟩

theorem aev_sound {ρ : Ren} {N : Nat} {tm : T Value} {a : Act} (h : TR ρ N tm a) {x : Operand} {v : Value} (e : aev tm x = some v) : VR ρ v (a.eval x) := by
  cases x with
  | tmp t =>
    obtain ⟨u, h1, h2⟩ := h.got e
    have : a.eval (.tmp t) = u := by show a.tmps.getD t undef = u; rw [Array.getD_eq_getD_getElem?, h2]; rfl
    rw [this]; exact h1
  | const c =>
    have e' : (bif grd 3 c then some c else none) = some v := e
    cases hg : grd 3 c with
    | false => rw [hg] at e'; cases e'
    | true => rw [hg] at e'; cases e'; exact VR.refl ρ 3 _ hg
  | global g =>
    have e' : (bif Nat.blt g 200 then some (Value.pointer (some ⟨g + 4, 0, none⟩)) else none) = some v := e
    cases hb : Nat.blt g 200 with
    | false => rw [hb] at e'; cases e'
    | true =>
      rw [hb] at e'
      cases e'
      exact .ptr (h.glob g (Nat.le_of_ble_eq_true hb))
  | func f => cases e; exact .func _ rfl (fun i x y hx => by simp at hx) rfl (fun i x y hx => by simp at hx)

/-! the primitive steps -/
/-- a cell of a block is read -/
theorem Rel.load {w0 : Bs} {w : World} {ρ : Ren} {st : St} (h : Rel w0 ρ st w) {id : Nat} {b : Blk} (hb : st.heap.get id = some b) {t : Tgt} (ht : ρ id = some t) {i : Nat} (hi : i < b.n) {v : Value} (hv : b.cells.get i = some v) :
    ∃ c, VR ρ v c ∧ w.cell? ⟨t.blk, t.base + i, none⟩ = some c := by
  obtain ⟨t', cs, fr, h1, h2⟩ := h.blk id b hb ht
  rw [ht] at h1; cases h1
  obtain ⟨v', c, h3, h4, h5⟩ := h2.cell i hi
  rw [hv] at h3; cases h3
  exact ⟨c, h4, by simp [World.cell?, h2.at_, h5]⟩
/-- a new block -/
theorem Rel.new {w0 : Bs} {w : World} {ρ : Ren} {st : St} (h : Rel w0 ρ st w) (cells : T Value) (n : Nat) (elem : TypeId) (sz : Nat) (ex : Bool) (cs : Array Value) (cap : Nat)
    (hc : ∀ i, i < n → ∃ v c, cells.get i = some v ∧ VR ρ v c ∧ cs[i]? = some c) (he : ex = true → n = cs.size) (hr : ex = false → n ≤ cap * sz ∧ cap * sz ≤ cs.size) (fr : Nat × Nat) (hf : ∀ i, i < cs.size → ¬ (fr.1 ≤ i ∧ i < fr.2)) (hcm : ex = true → fr = (0, 0) := by first | (intro _; rfl) | (intro q; cases q)) :
    ∃ ρ', Sub ρ ρ' ∧ ρ' st.next = some ⟨w.heap.size, 0, cap⟩ ∧ Rel w0 ρ' (newBlk st cells n elem sz ex) (w.alloc (.cells cs elem fr)) ∧ Fr st (newBlk st cells n elem sz ex) := by
  have hn : ρ st.next = none := (h.dom _ (Nat.le_refl _)).1
  refine ⟨fun id => if id = st.next then some ⟨w.heap.size, 0, cap⟩ else ρ id, ?_, by simp, ?_, ?_⟩
  · intro id t e
    have : id ≠ st.next := by intro q; rw [q, hn] at e; cases e
    simp [this, e]
  · have hsub : Sub ρ (fun id => if id = st.next then some ⟨w.heap.size, 0, cap⟩ else ρ id) := by
      intro id t e
      have : id ≠ st.next := by intro q; rw [q, hn] at e; cases e
      simp [this, e]
    have hlt : ∀ {id b t}, st.heap.get id = some b → ρ id = some t → t.blk < w.heap.size := by
      intro id b t hb ht
      obtain ⟨t', cs', fr', h1, h2⟩ := h.blk id b hb ht
      rw [ht] at h1; cases h1
      have := h2.at_
      rcases Nat.lt_or_ge t.blk w.heap.size with q | q
      · exact q
      · rw [Array.getElem?_eq_none q] at this; cases this
    refine ⟨h.below.alloc h.below.size _, ?_, ?_, ?_, ?_, h.obs_of rfl (Nat.le_refl _) hsub (h.ren_of _) (other_alloc _ _), h.odom_of rfl (Nat.le_succ _), h.oinj_of rfl (h.ren_of _), h.odis_new _⟩
    · intro id hid
      have hid' : st.next + 1 ≤ id := hid
      obtain ⟨h1, h2⟩ := h.dom id (by omega)
      refine ⟨by simp only [if_neg (show id ≠ st.next by omega)]; exact h1, ?_⟩
      show (st.heap.set st.next _).get id = none
      rw [T.get_set, if_neg (by omega)]; exact h2
    · intro id b t hb ht
      have hb' : (st.heap.set st.next ⟨cells, n, elem, sz, ex, 0⟩).get id = some b := hb
      rw [T.get_set] at hb'
      by_cases hid : id = st.next
      · rw [if_pos hid] at hb'
        cases hb'
        have ht' : t = ⟨w.heap.size, 0, cap⟩ := by simpa [hid] using ht.symm
        subst ht'
        refine ⟨cs, (fr, elem), .inl h.below.size, heap_alloc_new w _, ?_, ?_, ?_, ?_, fun _ => rfl, fun q _ => ⟨hcm q, rfl, rfl⟩⟩
        · intro i hi
          obtain ⟨v, c, h1, h2, h3⟩ := hc i hi
          exact ⟨v, c, h1, h2.mono hsub, by simpa using h3⟩
        · intro q; simpa using he q
        · intro q; simpa using hr q
        · intro i _ hi; simp only [Nat.zero_add] at *; exact hf i hi
      · rw [if_neg hid] at hb'
        have ht' : ρ id = some t := by simpa [hid] using ht
        obtain ⟨t1, cs', fr', h1, h2⟩ := h.blk id b hb' ht'
        rw [ht'] at h1; cases h1
        refine ⟨cs', fr', ?_⟩
        refine ⟨h2.lo, ?_, (h2.mono hsub).cell, h2.exact_, h2.room, h2.thaw, h2.ty, h2.calm⟩
        rw [heap_alloc_old w _ _ (hlt hb' ht')]; exact h2.at_
    · intro i j a b s t hi hj hs ht e
      have hi' : (st.heap.set st.next ⟨cells, n, elem, sz, ex, 0⟩).get i = some a := hi
      have hj' : (st.heap.set st.next ⟨cells, n, elem, sz, ex, 0⟩).get j = some b := hj
      rw [T.get_set] at hi' hj'
      by_cases h1 : i = st.next <;> by_cases h2 : j = st.next
      · rw [h1, h2]
      · simp only [h1, if_true] at hs; cases hs
        simp only [h2, if_false] at ht; rw [if_neg h2] at hj'
        have := hlt hj' ht
        simp only at e; omega
      · simp only [h2, if_true] at ht; cases ht
        simp only [h1, if_false] at hs; rw [if_neg h1] at hi'
        have := hlt hi' hs
        simp only at e; omega
      · rw [if_neg h1] at hi'; rw [if_neg h2] at hj'
        simp only [h1, if_false] at hs; simp only [h2, if_false] at ht
        exact h.inj i j a b s t hi' hj' hs ht e
    · intro id hg
      obtain ⟨h1, h2⟩ := h.gho id hg
      exact ⟨by simp only [if_neg (show id ≠ st.next by omega)]; exact h1, Nat.lt_succ_of_lt h2⟩
  · refine ⟨Nat.le_succ _, Nat.le_refl _, fun id _ hid => ?_, fun _ _ _ => rfl⟩
    show (st.heap.set st.next _).get id = _
    rw [T.get_set, if_neg (by omega)]

theorem add_none (g o i : Nat) : (⟨g, o, none⟩ : Addr).add i = ⟨g, o + i, none⟩ := by
  unfold Addr.add
  split
  · rename_i h; subst h; rfl
  · rfl
theorem oneC_cons {v : Value} {l : List Value} (h : oneC (v :: l) = true) : isOne v = true ∧ oneC l = true := by
  simpa only [oneC, List.all_cons, Bool.and_eq_true] using h
theorem run_store1 (P : Program) (w : World) (g o : Nat) (v : Value) (cs : Array Value) (elem : TypeId) (fr : Nat × Nat) (hg : w.heap[g]? = some (.cells cs elem fr)) (ho : o < cs.size) (hf : ¬ (fr.1 ≤ o ∧ o < fr.2)) (hv : isOne v = true) :
    (Go.store ⟨g, o, none⟩ v).run P w = .ok () (w.setCell ⟨g, o, none⟩ v) := by
  have hc : w.cell? ⟨g, o, none⟩ = some cs[o] := by simp [World.cell?, hg, ho]
  have hz : w.frozen? ⟨g, o, none⟩ = false := by
    obtain ⟨lo, hi⟩ := fr
    simp only [World.frozen?, hg]
    rw [Bool.and_eq_false_iff, decide_eq_false_iff_not, decide_eq_false_iff_not]
    by_cases h1 : lo ≤ o
    · exact .inr fun h2 => hf ⟨h1, h2⟩
    · exact .inl h1
  unfold Go.store
  cases v <;> first | (simp [isOne] at hv; done) | (simp [Sem.run, hc, hz])
theorem heap_setCell_at (w : World) (g o : Nat) (v : Value) (cs : Array Value) (elem : TypeId) (fr : Nat × Nat) (hg : w.heap[g]? = some (.cells cs elem fr)) :
    (w.setCell ⟨g, o, none⟩ v).heap[g]? = some (.cells (cs.setIfInBounds o v) elem fr) := by
  simp only [World.setCell, Array.getElem?_modify, if_true, hg, Option.map_some]
  simp
/-- the world w' is w but for the cells of one block -/
structure SetIn (w w' : World) (g : Nat) (cs cs' : Array Value) (elem : TypeId) (fr : Nat × Nat) : Prop where
  at_ : w'.heap[g]? = some (.cells cs' elem fr)
  other : ∀ k, k ≠ g → w'.heap[k]? = w.heap[k]?
  size : w'.heap.size = w.heap.size
  csize : cs'.size = cs.size
  os : w'.os = w.os
  tape : w'.tape = w.tape
  output : w'.output = w.output
theorem run_storeCells (P : Program) (g base : Nat) (elem : TypeId) (fr : Nat × Nat) : ∀ (l : List Value) (i : Nat) (w : World) (cs : Array Value), w.heap[g]? = some (.cells cs elem fr) → oneC l = true →
    base + i + l.length ≤ cs.size → (∀ j, base + i ≤ j → j < base + i + l.length → ¬ (fr.1 ≤ j ∧ j < fr.2)) →
    ∃ w' cs', (storeCells ⟨g, base, none⟩ l i).run P w = .ok () w' ∧ SetIn w w' g cs cs' elem fr ∧
      ∀ j, cs'[j]? = if base + i ≤ j ∧ j < base + i + l.length then l[j - (base + i)]? else cs[j]? := by
  intro l
  induction l with
  | nil =>
    intro i w cs hg _ _ _
    exact ⟨w, cs, rfl, ⟨hg, fun _ _ => rfl, rfl, rfl, rfl, rfl, rfl⟩, fun j => by rw [if_neg (by rintro ⟨h1, h2⟩; rw [List.length_nil] at h2; omega)]⟩
  | cons v l ih =>
    intro i w cs hg hone hlen hfr
    obtain ⟨hv, hl⟩ := oneC_cons hone
    rw [List.length_cons] at hlen hfr
    have hs := run_store1 P w g (base + i) v cs elem fr hg (by omega) (hfr _ (Nat.le_refl _) (by omega)) hv
    have hg1 := heap_setCell_at w g (base + i) v cs elem fr hg
    obtain ⟨w', cs', h1, h2, h3⟩ := ih (i + 1) _ _ hg1 hl (by rw [Array.size_setIfInBounds]; omega) (fun j q1 q2 => hfr j (by omega) (by omega))
    refine ⟨w', cs', ?_, ⟨h2.at_, fun k hk => (h2.other k hk).trans (Below.heap_setCell _ _ _ _ hk), h2.size.trans (by simp [World.setCell]), h2.csize.trans (by simp), h2.os, h2.tape, h2.output⟩, fun j => ?_⟩
    · show (storeCells ⟨g, base, none⟩ (v :: l) i).run P w = _
      unfold storeCells
      rw [add_none, Sem.run_bind, hs]
      exact h1
    · rw [h3 j, List.length_cons]
      by_cases hj : base + (i + 1) ≤ j ∧ j < base + (i + 1) + l.length
      · rw [if_pos hj, if_pos (by omega), show j - (base + i) = j - (base + (i + 1)) + 1 by omega, List.getElem?_cons_succ]
      · rw [if_neg hj, Array.getElem?_setIfInBounds]
        by_cases e : base + i = j
        · subst e; rw [if_pos rfl, if_pos (by omega), if_pos (by omega)]; simp
        · rw [if_neg e, if_neg (by omega)]
/-- lists that stand for lists -/
def LR (ρ : Ren) (l u : List Value) : Prop := l.length = u.length ∧ ∀ (i : Nat) (x y : Value), l[i]? = some x → u[i]? = some y → VR ρ x y
theorem LR.mono {ρ ρ' : Ren} (hs : Sub ρ ρ') {l u : List Value} (h : LR ρ l u) : LR ρ' l u := ⟨h.1, fun i x y a b => (h.2 i x y a b).mono hs⟩
theorem LR.oneC {ρ : Ren} {l u : List Value} (h : LR ρ l u) (ho : oneC l = true) : Ev.oneC u = true := by
  simp only [Ev.oneC, List.all_eq_true] at *
  intro y hy
  obtain ⟨i, hi, rfl⟩ := List.mem_iff_getElem.1 hy
  have hi' : i < l.length := by rw [h.1]; exact hi
  have hv := h.2 i l[i] u[i] (List.getElem?_eq_getElem hi') (List.getElem?_eq_getElem hi)
  have hx := ho l[i] (List.getElem_mem hi')
  generalize l[i] = a at hv hx
  generalize u[i] = b at hv
  cases hv <;> first | rfl | (simp [isOne] at hx; done)
theorem Rel.set {P : Program} {w0 : Bs} {w : World} {ρ : Ren} {st : St} (h : Rel w0 ρ st w) {id off : Nat} {l u : List Value} {st' : St} (e : aStoreCells id off l st = some st') (hl : LR ρ l u) {t0 : Tgt} (ht0 : ρ id = some t0) :
    ∃ t w', ρ id = some t ∧ (storeCells ⟨t.blk, t.base + off, none⟩ u).run P w = .ok () w' ∧ Rel w0 ρ st' w' ∧ Fr st st' := by
  unfold aStoreCells at e
  cases hb : st.heap.get id with
  | none => rw [hb] at e; cases e
  | some b =>
    rw [hb] at e
    simp only at e
    cases hc : (Nat.ble (off + l.length) b.n && Nat.ble b.frz off && Ev.oneC l) with
    | false => rw [hc] at e; cases e
    | true =>
      rw [hc] at e
      cases e
      simp only [Bool.and_eq_true, Nat.ble_eq] at hc
      obtain ⟨⟨c1, c2⟩, c3⟩ := hc
      obtain ⟨t, cs, fr, ht, B⟩ := h.blk id b hb ht0
      have hin : t.base + b.n ≤ cs.size := by
        by_cases hn : b.n = 0
        · cases hx : b.exact with
          | true => have := B.exact_ hx; omega
          | false => have := B.room hx; omega
        · obtain ⟨v, c, _, _, q⟩ := B.cell (b.n - 1) (by omega)
          have := (Array.getElem?_eq_some_iff.1 q).1
          omega
      have hlu : u.length = l.length := hl.1.symm
      obtain ⟨w', cs', h1, h2, h3⟩ := run_storeCells P t.blk (t.base + off) fr.2 fr.1 u 0 w cs B.at_ (hl.oneC c3) (by omega) (fun j q1 q2 => by
        have := B.thaw (j - t.base) (by omega) (by omega)
        rwa [show t.base + (j - t.base) = j by omega] at this)
      refine ⟨t, w', ht, h1, ?_, ?_⟩
      · refine ⟨?_, ?_, ?_, ?_, h.gho, h.obs_of rfl (Nat.le_refl _) (Sub.refl _) (fun _ _ _ _ q => q) (fun k ob hk hc => ?_), h.odom, h.oinj, fun i b' o hb' ho => ?_⟩
        · rcases B.lo with lo | ⟨lo, _⟩
          · exact h.below.trans ⟨h2.os, h2.tape, h2.output, by rw [h2.size]; exact Nat.le_refl _, fun k hk => h2.other k (by omega)⟩
          · have hu : u = [] := List.eq_nil_of_length_eq_zero (by omega)
            rw [hu] at h1
            have h1' : (Result.ok () w : Result Unit) = .ok () w' := h1
            cases h1'
            exact h.below
        · intro i hi
          obtain ⟨q1, q2⟩ := h.dom i hi
          refine ⟨q1, ?_⟩
          show (st.heap.set id _).get i = none
          rw [T.get_set]
          by_cases e : i = id
          · subst e; rw [hb] at q2; cases q2
          · rw [if_neg e]; exact q2
        · intro i b' tt hb' htt
          have hb'' : (st.heap.set id { b with cells := putCells l b.cells off }).get i = some b' := hb'
          rw [T.get_set] at hb''
          by_cases e : i = id
          · rw [if_pos e] at hb''
            cases hb''
            subst e
            rw [ht] at htt; cases htt
            refine ⟨cs', fr, B.lo, h2.at_, ?_, ?_, ?_, ?_, B.ty, B.calm⟩
            · intro j hj
              simp only [get_putCells]
              have h3j := h3 (t.base + j)
              by_cases q : off ≤ j ∧ j < off + l.length
              · rw [if_pos q]
                rw [if_pos (by omega), show t.base + j - (t.base + off + 0) = j - off by omega] at h3j
                have q1 : j - off < l.length := by omega
                have q2 : j - off < u.length := by omega
                refine ⟨l[j - off], u[j - off], List.getElem?_eq_getElem q1, hl.2 _ _ _ (List.getElem?_eq_getElem q1) (List.getElem?_eq_getElem q2), ?_⟩
                rw [h3j]; exact List.getElem?_eq_getElem q2
              · rw [if_neg q]
                rw [if_neg (by omega)] at h3j
                obtain ⟨v, c, q1, q2, q3⟩ := B.cell j hj
                exact ⟨v, c, q1, q2, h3j.trans q3⟩
            · intro q; rw [h2.csize]; exact B.exact_ q
            · intro q; rw [h2.csize]; exact B.room q
            · intro j q1 q2; rw [h2.csize] at q2; exact B.thaw j q1 q2
          · rw [if_neg e] at hb''
            obtain ⟨t', cs1, fr1, ht', B'⟩ := h.blk i b' hb'' htt
            rw [ht'] at htt; cases htt
            have hne : tt.blk ≠ t.blk := fun q => e (h.inj i id b' b tt t hb'' hb ht' ht q)
            exact ⟨cs1, fr1, B'.lo, (h2.other _ hne).trans B'.at_, B'.cell, B'.exact_, B'.room, B'.thaw, B'.ty, B'.calm⟩
        · intro i j a b' s t' hi hj hs ht' e
          have hi' : (st.heap.set id { b with cells := putCells l b.cells off }).get i = some a := hi
          have hj' : (st.heap.set id { b with cells := putCells l b.cells off }).get j = some b' := hj
          rw [T.get_set] at hi' hj'
          by_cases q1 : i = id <;> by_cases q2 : j = id
          · rw [q1, q2]
          · rw [if_neg q2] at hj'; rw [q1] at hs ⊢; exact h.inj id j b b' s t' hb hj' hs ht' e
          · rw [if_neg q1] at hi'; rw [q2] at ht' ⊢; exact h.inj i id a b s t' hi' hb hs ht' e
          · rw [if_neg q1] at hi'; rw [if_neg q2] at hj'; exact h.inj i j a b' s t' hi' hj' hs ht' e
        · have : k ≠ t.blk := by
            rintro rfl
            rw [B.at_] at hk; cases hk; cases hc
          rw [h2.other k this]; exact hk
        · have hb'' : (st.heap.set id { b with cells := putCells l b.cells off }).get i = some b' := hb'
          rw [T.get_set] at hb''
          by_cases e : i = id
          · subst e; exact h.odis _ b o hb ho
          · rw [if_neg e] at hb''; exact h.odis i b' o hb'' ho
      · refine ⟨Nat.le_refl _, Nat.min_le_right _ _, fun i hi _ => ?_, fun _ _ _ => rfl⟩
        show (st.heap.set id _).get i = _
        rw [T.get_set, if_neg]
        intro q; subst q
        have : Nat.min i st.minw ≤ i := Nat.min_le_left _ _
        have hi' : i < Nat.min i st.minw := hi
        omega
/-- a run of cells is read -/
theorem Rel.get {w0 : Bs} {w : World} {ρ : Ren} {st : St} (h : Rel w0 ρ st w) {id off k : Nat} {b : Blk} (hb : st.heap.get id = some b) (hk : off + k ≤ b.n) {l : List Value} (hl : getCellsFrom b.cells k off = some l) {t0 : Tgt} (ht0 : ρ id = some t0) :
    ∃ t u, ρ id = some t ∧ LR ρ l u ∧ u.length = k ∧ ∀ (i : Nat) (v : Value), u[i]? = some v → w.cell? ⟨t.blk, t.base + off + i, none⟩ = some v := by
  obtain ⟨t, cs, fr, ht, B⟩ := h.blk id b hb ht0
  obtain ⟨h1, h2⟩ := getCellsFrom_some _ _ _ _ hl
  have hcell : ∀ i, i < k → ∃ c, cs[t.base + off + i]? = some c ∧ ∀ x, l[i]? = some x → VR ρ x c := by
    intro i hi
    obtain ⟨v, c, q1, q2, q3⟩ := B.cell (off + i) (by omega)
    rw [h2 i hi] at q1
    refine ⟨c, by rw [Nat.add_assoc]; exact q3, fun x hx => by rw [q1] at hx; cases hx; exact q2⟩
  have hsz : ∀ i, i < k → t.base + off + i < cs.size := fun i hi => by obtain ⟨c, q, _⟩ := hcell i hi; exact (Array.getElem?_eq_some_iff.1 q).1
  refine ⟨t, (List.range k).map fun i => cs.getD (t.base + off + i) undef, ht, ⟨by simp [h1], ?_⟩, by simp, ?_⟩
  · intro i x y hx hy
    have hi : i < k := by rw [← h1]; exact (List.getElem?_eq_some_iff.1 hx).1
    obtain ⟨c, q1, q2⟩ := hcell i hi
    rw [List.getElem?_map, List.getElem?_range hi] at hy
    simp only [Option.map_some, Option.some.injEq] at hy
    rw [Array.getD_eq_getD_getElem?, q1] at hy
    simp only [Option.getD_some] at hy
    subst hy
    exact q2 x hx
  · intro i v hv
    have hi : i < k := by have := (List.getElem?_eq_some_iff.1 hv).1; simpa using this
    rw [List.getElem?_map, List.getElem?_range hi] at hv
    simp only [Option.map_some, Option.some.injEq] at hv
    have := hsz i hi
    simp only [World.cell?, B.at_, Option.isSome_none, Bool.false_eq_true, if_false]
    rw [← hv, Array.getD_eq_getD_getElem?, Array.getElem?_eq_getElem this]; rfl
/-- a block goes over to a new number -/
theorem Rel.over {w0 : Bs} {w w' : World} {ρ : Ren} {st : St} (h : Rel w0 ρ st w) {id : Nat} {b : Blk} (hb : st.heap.get id = some b) {t : Tgt} (ht : ρ id = some t) (b' : Blk) (t' : Tgt) (cs' : Array Value) (fr' : (Nat × Nat) × TypeId)
    (hB : BR w0 w' ρ b' t' cs' fr') (hblk : t'.blk = t.blk ∨ t'.blk = w.heap.size) (hbelow : Below w0.w.heap.size w0.w w') (hother : ∀ k, k ≠ t'.blk → k < w.heap.size → w'.heap[k]? = w.heap[k]?) :
    ∃ ρ', Sub ρ ρ' ∧ ρ' st.next = some t' ∧ Rel w0 ρ' { heap := (st.heap.put id none).set st.next b', next := st.next + 1, minw := Nat.min id st.minw, obs := st.obs } w' ∧
      Fr st { heap := (st.heap.put id none).set st.next b', next := st.next + 1, minw := Nat.min id st.minw, obs := st.obs } := by
  have hn : ρ st.next = none := (h.dom _ (Nat.le_refl _)).1
  have hidlt : id < st.next := by
    rcases Nat.lt_or_ge id st.next with q | q
    · exact q
    · rw [(h.dom id q).2] at hb; cases hb
  have hsub : Sub ρ (fun i => if i = st.next then some t' else ρ i) := by
    intro i t e
    have : i ≠ st.next := by intro q; rw [q, hn] at e; cases e
    simp [this, e]
  have hlt : ∀ {i b t}, st.heap.get i = some b → ρ i = some t → t.blk < w.heap.size := by
    intro i b t hb ht
    obtain ⟨t', cs', fr', h1, h2⟩ := h.blk i b hb ht
    rw [ht] at h1; cases h1
    have := h2.at_
    rcases Nat.lt_or_ge t.blk w.heap.size with q | q
    · exact q
    · rw [Array.getElem?_eq_none q] at this; cases this
  have hget : ∀ i, ((st.heap.put id none).set st.next b').get i = if i = st.next then some b' else if i = id then none else st.heap.get i := by
    intro i; rw [T.get_set, T.get_put]
  have hobs : ∀ (k : Nat) (ob : Obj), w.heap[k]? = some ob → isCells ob = false → w'.heap[k]? = some ob := by
    intro k ob hk hc
    have hk' := (Array.getElem?_eq_some_iff.1 hk).1
    have : k ≠ t'.blk := by
      rintro rfl
      rcases hblk with q | q
      · obtain ⟨t1, cs1, fr1, q1, B⟩ := h.blk id b hb ht
        rw [ht] at q1; cases q1
        rw [q, B.at_] at hk; cases hk; cases hc
      · omega
    rw [hother k this hk']; exact hk
  have hne : ∀ {i b s}, i ≠ id → st.heap.get i = some b → ρ i = some s → s.blk ≠ t'.blk := by
    intro i b2 s hi hb2 hs q
    rcases hblk with e | e
    · exact hi (h.inj i id b2 b s t hb2 hb hs ht (q.trans e))
    · have := hlt hb2 hs; omega
  refine ⟨fun i => if i = st.next then some t' else ρ i, hsub, by simp, ⟨hbelow, ?_, ?_, ?_, ?_, h.obs_of rfl (Nat.le_refl _) hsub (h.ren_of _) hobs, h.odom_of rfl (Nat.le_succ _), h.oinj_of rfl (h.ren_of _), fun i b2 o hb2 ho => ?_⟩, ?_⟩
  · intro i hi
    have hi' : st.next + 1 ≤ i := hi
    obtain ⟨q1, q2⟩ := h.dom i (by omega)
    refine ⟨by simp only [if_neg (show i ≠ st.next by omega)]; exact q1, ?_⟩
    show ((st.heap.put id none).set st.next b').get i = none
    rw [hget, if_neg (by omega), if_neg (by omega)]; exact q2
  · intro i b2 tt hb2 htt
    have hb2' : ((st.heap.put id none).set st.next b').get i = some b2 := hb2
    rw [hget] at hb2'
    by_cases e : i = st.next
    · rw [if_pos e] at hb2'; cases hb2'
      have : tt = t' := by simpa [e] using htt.symm
      subst this
      exact ⟨cs', fr', hB.mono hsub⟩
    · rw [if_neg e] at hb2'
      by_cases e2 : i = id
      · rw [if_pos e2] at hb2'; cases hb2'
      · rw [if_neg e2] at hb2'
        have htt' : ρ i = some tt := by simpa [e] using htt
        obtain ⟨s, cs1, fr1, hs, B⟩ := h.blk i b2 hb2' htt'
        rw [htt'] at hs; cases hs
        refine ⟨cs1, fr1, ?_⟩
        have := hother tt.blk (hne e2 hb2' htt') (hlt hb2' htt')
        exact ⟨B.lo, this.trans B.at_, (B.mono hsub).cell, B.exact_, B.room, B.thaw, B.ty, B.calm⟩
  · intro i j a c s t2 hi hj hs ht2 e
    have hi' : ((st.heap.put id none).set st.next b').get i = some a := hi
    have hj' : ((st.heap.put id none).set st.next b').get j = some c := hj
    rw [hget] at hi' hj'
    by_cases q1 : i = st.next <;> by_cases q2 : j = st.next
    · rw [q1, q2]
    · simp only [q1, if_true] at hs; cases hs
      simp only [q2, if_false] at ht2; rw [if_neg q2] at hj'
      by_cases q3 : j = id
      · rw [if_pos q3] at hj'; cases hj'
      · rw [if_neg q3] at hj'; exact absurd e.symm (hne q3 hj' ht2)
    · simp only [q2, if_true] at ht2; cases ht2
      simp only [q1, if_false] at hs; rw [if_neg q1] at hi'
      by_cases q3 : i = id
      · rw [if_pos q3] at hi'; cases hi'
      · rw [if_neg q3] at hi'; exact absurd e (hne q3 hi' hs)
    · simp only [q1, if_false] at hs; simp only [q2, if_false] at ht2
      rw [if_neg q1] at hi'; rw [if_neg q2] at hj'
      by_cases q3 : i = id
      · rw [if_pos q3] at hi'; cases hi'
      · by_cases q4 : j = id
        · rw [if_pos q4] at hj'; cases hj'
        · rw [if_neg q3] at hi'; rw [if_neg q4] at hj'
          exact h.inj i j a c s t2 hi' hj' hs ht2 e
  · intro i hg
    obtain ⟨h1, h2⟩ := h.gho i hg
    exact ⟨by simp only [if_neg (show i ≠ st.next by omega)]; exact h1, Nat.lt_succ_of_lt h2⟩
  · have hb2' : ((st.heap.put id none).set st.next b').get i = some b2 := hb2
    rw [hget] at hb2'
    by_cases e : i = st.next
    · rw [e] at ho; rw [show st.obs.get st.next = none from h.odom _ (Nat.le_refl _)] at ho; cases ho
    · rw [if_neg e] at hb2'
      by_cases e2 : i = id
      · rw [if_pos e2] at hb2'; cases hb2'
      · rw [if_neg e2] at hb2'; exact h.odis i b2 o hb2' ho
  · refine ⟨Nat.le_succ _, Nat.min_le_right _ _, fun i hi hi2 => ?_, fun _ _ _ => rfl⟩
    show ((st.heap.put id none).set st.next b').get i = _
    have : Nat.min id st.minw ≤ id := Nat.min_le_left _ _
    have hi' : i < Nat.min id st.minw := hi
    rw [hget, if_neg (by omega), if_neg (by omega)]
end Go.Proofs.YtaambeficfiacaaGreatDoor.Ev
