/-
  One operation, abstractly: what it gives, what it writes, what must hold.
-/
import Derived.Test.YtcpopeamoipjlaaVal
namespace Go.Proofs.Ytcpopeamoipjlaa
open Go Go.RowKit

def look {α : Type} : List (Nat × α) → Nat → Option α
  | [], _ => none
  | (k, v) :: l, n => bif Nat.beq k n then some v else look l n

def isAggT (P : Program) (t : TypeId) : Bool :=
  match P.underlying t with
  | some (.struct _) | some (.array _ _) => true
  | _ => false
def szT (P : Program) (t : TypeId) : Nat := ((P.info? t).map (·.size)).getD 0
def hasT (P : Program) (t : TypeId) : Bool := (P.info? t).isSome && (P.underlying t).isSome

def AV.ofCell : Value → AV
  | .int k n => .int k n
  | .bool b => .bool b
  | .string s => .str (bytesI s)
  | .pointer none => .nilp
  | .slice none 0 0 => .slice 0 0 (fun _ => []) .exact
  | .nilIface => .err false
  | _ => .any
def AV.ofValue : Value → AV
  | .agg cs => bif cs.toList.all (·.oneCell') then .agg (cs.toList.map AV.ofCell) else .any
  | .tuple vs => match vs.toList with | [] => .undef | _ => .any
  | v => AV.ofCell v

/-- It is surely one cell. -/
def AV.one : AV → Bool
  | .int _ _ | .bool _ | .str _ | .nilp | .err _ | .ptr _ _ | .rptr _ | .slice _ _ _ _ | .vsl _ _ | .vpt _ _ _ _ | .vsub _ _ _ _ | .clo _ _ _ => true
  | _ => false
/-- Its cells. -/
def AV.cells : AV → Option (List AV)
  | .agg cs => some cs
  | x => bif x.one then some [x] else none

structure Eff where
  v : AV
  wo : List (Nat × Own)
  ob : List Prop

def Eff.pure (v : AV) (ob : List Prop) : Option Eff := some ⟨v, [], ob⟩

def InB (i : Int) (n : Nat) : Prop := 0 ≤ i ∧ i < (n : Int)

def bitsV (op : BinOp) (k : IntKind) (x y : Int) : Int :=
  let a := BitVec.ofInt k.bits x
  let b := BitVec.ofInt k.bits y
  match op with
  | .and => k.wrap (a &&& b).toNat
  | .or => k.wrap (a ||| b).toNat
  | .xor => k.wrap (a ^^^ b).toNat
  | _ => k.wrap (a &&& ~~~b).toNat
def shlV (k : IntKind) (x y : Int) : Int := k.wrap (x * 2 ^ min y.toNat k.bits)
def shrV (k : IntKind) (x y : Int) : Int := x.fdiv (2 ^ min y.toNat k.bits)

def kEq (a b : IntKind) : Bool :=
  match a, b with
  | .i8, .i8 | .i16, .i16 | .i32, .i32 | .i64, .i64 | .u8, .u8 | .u16, .u16 | .u32, .u32 | .u64, .u64 => true
  | _, _ => false

def aInt (op : BinOp) (k : IntKind) (a b : Int) : Option Eff :=
  match op with
  | .add => Eff.pure (.int k (k.wrap (a + b))) []
  | .sub => Eff.pure (.int k (k.wrap (a - b))) []
  | .mul => Eff.pure (.int k (k.wrap (a * b))) []
  | .quo => Eff.pure (.int k (k.wrap (a.tdiv b))) [b ≠ 0]
  | .rem => Eff.pure (.int k (a.tmod b)) [b ≠ 0]
  | .and => Eff.pure (.int k (bitsV .and k a b)) []
  | .or => Eff.pure (.int k (bitsV .or k a b)) []
  | .xor => Eff.pure (.int k (bitsV .xor k a b)) []
  | .andNot => Eff.pure (.int k (bitsV .andNot k a b)) []
  | .eql => Eff.pure (.bool (a == b)) []
  | .neq => Eff.pure (.bool (a != b)) []
  | .lss => Eff.pure (.bool (decide (a < b))) []
  | .leq => Eff.pure (.bool (decide (a ≤ b))) []
  | .gtr => Eff.pure (.bool (decide (b < a))) []
  | .geq => Eff.pure (.bool (decide (b ≤ a))) []
  | _ => none

def aBin (op : BinOp) (x y : AV) : Option Eff :=
  match op, x, y with
  | .shl, .int k a, .int _ b => Eff.pure (.int k (shlV k a b)) [0 ≤ b]
  | .shr, .int k a, .int _ b => Eff.pure (.int k (shrV k a b)) [0 ≤ b]
  | op, .int k a, .int k' b => bif kEq k k' then aInt op k a b else none
  | .eql, .str a, .str b => Eff.pure (.bool (a == b)) []
  | .lss, .str a, .str b => Eff.pure (.bool (lessI a b)) []
  | .leq, .str a, .str b => Eff.pure (.bool (lessI a b || (a == b))) []
  | .gtr, .str a, .str b => Eff.pure (.bool (!(lessI a b || (a == b)))) []
  | .geq, .str a, .str b => Eff.pure (.bool (!(lessI a b))) []
  | .neq, .str a, .str b => Eff.pure (.bool (!(a == b))) []
  | .add, .str a, .str b => Eff.pure (.str (a ++ b)) [(a.length : Int) + b.length ≤ 9223372036854775807]
  | _, _, _ => none

def eqCells : List AV → List AV → Option Bool
  | [], [] => some true
  | .int k a :: xs, .int k' b :: ys => bif kEq k k' then (match eqCells xs ys with | some r => some ((a == b) && r) | none => none) else none
  | _, _ => none
def intT (P : Program) (t : TypeId) : Bool := match P.underlying t with | some (.int _) => true | _ => false
/-- Arrays of numbers: are they the same? -/
def aEqArr (P : Program) (t : TypeId) (xs ys : List AV) : Option Bool :=
  match P.underlying t with
  | some (.array len e) => bif hasT P e && intT P e && Nat.beq (szT P e) 1 && !(P.eqGuardType P.depth t) && Nat.beq xs.length len && Nat.beq ys.length len then eqCells xs ys else none
  | _ => none
def aBinT (P : Program) (op : BinOp) (t : TypeId) (x y : AV) : Option Eff :=
  match op, x, y with
  | .eql, .bool a, .bool b => match P.underlying t with | some .bool => Eff.pure (.bool (a == b)) [] | _ => none
  | .neq, .bool a, .bool b => match P.underlying t with | some .bool => Eff.pure (.bool (a != b)) [] | _ => none
  | .eql, .agg xs, .agg ys => match aEqArr P t xs ys with | some r => Eff.pure (.bool r) [] | none => none
  | .neq, .agg xs, .agg ys => match aEqArr P t xs ys with | some r => Eff.pure (.bool (!r)) [] | none => none
  | _, _, _ => aBin op x y

def aUn (op : UnOp) (x : AV) : Option Eff :=
  match op, x with
  | .not, .bool b => Eff.pure (.bool (!b)) []
  | .neg, .int k n => Eff.pure (.int k (k.wrap (0 - n))) []
  | .xor, .int k n => Eff.pure (.int k (bitsV .xor k (if k.signed then -1 else k.max) n)) []
  | _, _ => none

/-- Elements behind elements. -/
def appF (n : Nat) (f g : Nat → List AV) (i : Nat) : List AV := bif Nat.blt i n then f i else g (i - n)
def chunk (sz : Nat) : Nat → List AV → List (List AV)
  | 0, _ => []
  | n + 1, l => l.take sz :: chunk sz n (l.drop sz)

/-- All, or a part, of an owned row, as a slice: its name, how many elements the row has, from where to where. -/
def AV.view : AV → Option (Nat × Nat × Nat × Nat)
  | .vsl nm n => some (nm, n, 0, n)
  | .vsub nm n lo hi => some (nm, n, lo, hi)
  | _ => none
def viewNeed (x : AV) : List Nat := match x.view with | some (nm, _) => [nm] | none => []
/-- What an operation needs to know of what is owned. -/
def needs (o : Oper) (vs : List AV) : List Nat :=
  match o.op, vs with
  | .load _ _, [.ptr nm _] => [nm]
  | .store _ _ _, [.ptr nm _, _] => [nm]
  | .load _ _, [.vpt nm _ _ _] => [nm]
  | .store _ _ _, [.vpt nm _ _ _, _] => [nm]
  | .indexAddr _ _ _, [.vsl nm _, _] => [nm]
  | .indexAddr _ _ _, [.vsub nm _ _ _, _] => [nm]
  | .indexAddr _ _ _, [.vpt nm _ _ _, _] => [nm]
  | .slice _ _ _ _ _, .vsl nm _ :: _ => [nm]
  | .slice _ _ _ _ _, .vsub nm _ _ _ :: _ => [nm]
  | .call { callee := .builtin .copy, .. }, [x, y] => viewNeed x ++ viewNeed y
  | .makeSlice _ _ _, _ => [o.dst.getD 0]
  | .buildSlice _ _ _, _ => [o.dst.getD 0]
  | .range _ _, _ => [o.dst.getD 0]
  | .next _ _, [.optr nm] => [nm]
  | .call { callee := .builtin .append, .. }, [.vsl nm _, _] => [nm]
  | .alloc _, _ => [o.dst.getD 0]
  | .box _ _, _ => [o.dst.getD 0]
  | .call { callee := .builtin .append, .. }, [.slice _ _ _ (.own nm), _] => [nm]
  | .call { callee := .builtin .append, .. }, [.slice _ _ _ .exact, _] => [o.dst.getD 0]
  | _, _ => []

def room : Nat := 1099511627776

def aAppend (P : Program) (d : Nat) (ts : List TypeId) (vs : List AV) (es : List (Option Own)) : Option Eff :=
  match ts, vs, es with
  | [t, t'], [.slice sz n f tag, .slice sz' n' f' _], [eo] =>
    match P.underlying t with
    | some (.slice e) =>
      let s := szT P e
      bif Nat.beq t t' && hasT P e && Nat.ble 1 s && Nat.ble (((P.info? e).map (·.bytes)).getD 1000) 128 && ((P.info? e).bind (·.zero)).isSome && (Nat.beq sz s || Nat.beq n 0) && (Nat.beq sz' s || Nat.beq n' 0)
        && Nat.beq ((((P.info? e).bind (·.zero)).map (·.cells.size)).getD 0) s then
        match tag, eo with
        | .own nm, some (.tok sz0 e0 m) =>
          bif Nat.beq sz0 s && Nat.beq e0 e then
            some ⟨.slice s (n + n') (appF n f f') (.own nm), [(nm, .tok s e (n + n'))], [m = n, n + n' ≤ room]⟩
          else none
        | .exact, none => some ⟨.slice s (n + n') (appF n f f') (.own d), [(d, .tok s e (n + n'))], [n + n' ≤ room, e = tokU8 → n = 0 ∨ 0 < n']⟩
        | _, _ => none
      else none
    | _ => none
  | _, _, _ => none

def fillA (place : Nat → Option (Nat × Nat)) (cells : List AV) : List (Nat × AV) → Option (List AV)
  | [] => some cells
  | (i, v) :: rest =>
    match place i, v.cells with
    | some (off, size), some cs => bif Nat.beq cs.length size && Nat.ble (off + cs.length) cells.length then fillA place (cells.take off ++ cs ++ cells.drop (off + cs.length)) rest else none
    | _, _ => none

def zeroA (P : Program) (t : TypeId) : Option (List AV) :=
  match (P.info? t).bind (·.zero) with
  | some z => bif z.cells.toList.all (·.oneCell') then some (z.cells.toList.map AV.ofCell) else none
  | none => none

def partA (P : Program) (t : TypeId) (cs : List AV) (off : Nat) : Option AV :=
  bif hasT P t then
    bif isAggT P t then (bif Nat.ble (off + szT P t) cs.length then some (.agg ((cs.drop off).take (szT P t))) else none)
    else (bif Nat.blt off cs.length then some (cs.getD off .any) else none)
  else none

def aBuild (P : Program) (t : TypeId) (is : List Nat) (vs : List AV) : Option Eff :=
  match zeroA P t, P.underlying t with
  | some z, some (.struct fields) =>
    bif fields.toList.all (fun f => hasT P f.type) then
      match fillA (fun i => (fields.toList.map fun f => (f.offset, szT P f.type))[i]?) z (is.zip vs) with
      | some cs => Eff.pure (.agg cs) []
      | none => none
    else none
  | some z, some (.array _ e) =>
    bif hasT P e then
      match fillA (fun i => some (i * szT P e, szT P e)) z (is.zip vs) with
      | some cs => Eff.pure (.agg cs) []
      | none => none
    else none
  | _, _ => none

def aBuildSlice (P : Program) (t : TypeId) (len : Nat) (is : List Nat) (vs : List AV) : Option Eff :=
  match P.underlying t with
  | some (.slice e) =>
    match zeroA P e with
    | some z =>
      bif hasT P e && Nat.beq z.length (szT P e) && Nat.ble 1 (szT P e) && Nat.ble (len * szT P e) 16777216 then
        match fillA (fun i => some (i * szT P e, szT P e)) ((List.replicate len z).flatten) (is.zip vs) with
        | some cs => Eff.pure (.slice (szT P e) len (fun i => (chunk (szT P e) len (AV.stripAll cs)).getD i []) .exact) []
        | none => none
      else none
    | none => none
  | _ => none

/-- Cells that are bytes. -/
def AV.num : List AV → Int
  | [.int _ x] => x
  | _ => 0
def bytesF (n : Nat) (f : Nat → List AV) : List Int := (List.range n).map fun i => AV.num (f i)
def ByteF (n : Nat) (f : Nat → List AV) : Prop := ∀ i, i < n → f i = [.int .u8 (AV.num (f i))] ∧ 0 ≤ AV.num (f i) ∧ AV.num (f i) < 256
def u8T (P : Program) (t : TypeId) : Bool := match P.underlying t with | some (.int .u8) => hasT P t && Nat.beq (szT P t) 1 | _ => false
def aSliceStr (lo hi mx : Bool) (vs : List AV) : Option Eff :=
  match lo, hi, mx, vs with
  | false, false, false, [.str s] => Eff.pure (.str s) []
  | true, false, false, [.str s, .int _ l] => Eff.pure (.str (s.drop l.toNat)) [0 ≤ l ∧ l ≤ s.length]
  | false, true, false, [.str s, .int _ h] => Eff.pure (.str (s.take h.toNat)) [0 ≤ h ∧ h ≤ s.length]
  | true, true, false, [.str s, .int _ l, .int _ h] => Eff.pure (.str ((s.drop l.toNat).take (h.toNat - l.toNat))) [0 ≤ l ∧ l ≤ h ∧ h ≤ s.length]
  | _, _, _, _ => none
def aSlice (P : Program) (t : TypeId) (lo hi mx : Bool) (vs : List AV) : Option Eff :=
  match P.underlying t with
  | some (.slice e) =>
    bif hasT P e then
      match lo, hi, mx, vs with
      | false, false, false, [.slice sz n f _] => bif Nat.beq sz (szT P e) || Nat.beq n 0 then Eff.pure (.slice sz n f .none) [] else none
      | true, false, false, [.slice sz n f _, .int _ l] => bif Nat.beq sz (szT P e) || Nat.beq n 0 then Eff.pure (.slice sz (n - l.toNat) (fun i => f (l.toNat + i)) .none) [0 ≤ l ∧ l ≤ n] else none
      | false, true, false, [.slice sz n f _, .int _ h] => bif Nat.beq sz (szT P e) || Nat.beq n 0 then Eff.pure (.slice sz h.toNat f .none) [0 ≤ h ∧ h ≤ n] else none
      | false, true, true, [.slice sz n f _, .int _ h, .int _ m] => bif Nat.beq sz (szT P e) || Nat.beq n 0 then Eff.pure (.slice sz h.toNat f .exact) [0 ≤ h ∧ h = m ∧ h ≤ n] else none
      | true, true, true, [.slice sz n f _, .int _ l, .int _ h, .int _ m] => bif Nat.beq sz (szT P e) || Nat.beq n 0 then Eff.pure (.slice sz (h.toNat - l.toNat) (fun i => f (l.toNat + i)) .exact) [0 ≤ l ∧ l ≤ h ∧ h = m ∧ h ≤ n] else none
      | true, true, false, [.slice sz n f _, .int _ l, .int _ h] => bif Nat.beq sz (szT P e) || Nat.beq n 0 then Eff.pure (.slice sz (h.toNat - l.toNat) (fun i => f (l.toNat + i)) .none) [0 ≤ l ∧ l ≤ h ∧ h ≤ n] else none
      | _, _, _, _ => none
    else none
  | some .string => aSliceStr lo hi mx vs
  | _ => none

/-- So many cells, from one on. -/
def partL (cells : List AV) (k : Nat) : Nat → List AV
  | 0 => []
  | n + 1 => cells.getD k .any :: partL cells (k + 1) n
def asem (P : Program) (o : Oper) (vs : List AV) (es : List (Option Own)) : Option Eff :=
  match o.op with
  | .move _ | .assign _ => match vs with | [x] => Eff.pure x [] | _ => none
  | .binOp op t _ _ _ => match vs with | [x, y] => aBinT P op t x y | _ => none
  | .unOp op _ _ => match vs with | [x] => aUn op x | _ => none
  | .convert src dst _ =>
    match P.underlying src, P.underlying dst, vs with
    | some (.int _), some (.int k), [.int _ n] => Eff.pure (.int k (k.wrap n)) []
    | some .string, some .string, [.str s] => Eff.pure (.str s) []
    | some (.slice e), some .string, [.slice sz n f _] => bif u8T P e && (Nat.beq sz 1 || Nat.beq n 0) then Eff.pure (.str (bytesF n f)) [ByteF n f] else none
    | _, _, _ => none
  | .load t _ =>
    bif hasT P t then
      match vs, es with
      | [.ptr _ off], [some (.row _ cells)] =>
        bif isAggT P t then (bif Nat.ble (off + szT P t) cells.length then Eff.pure (.agg ((cells.drop off).take (szT P t))) [] else none)
        else (bif Nat.blt off cells.length then Eff.pure (cells.getD off .any) [] else none)
      | [.rptr cells], _ =>
        bif isAggT P t then (bif Nat.beq (szT P t) cells.length then Eff.pure (.agg cells) [] else none)
        else (bif Nat.ble 1 cells.length then Eff.pure (cells.getD 0 .any) [] else none)
      | _, _ => none
    else none
  | .store t _ _ =>
    bif hasT P t then
      match vs, es with
      | [.ptr nm off, x], [some (.row e cells)] =>
        match x.cells with
        | some cs => bif Nat.beq cs.length (szT P t) && Nat.ble (off + cs.length) cells.length then some ⟨.undef, [(nm, .row e (cells.take off ++ cs ++ cells.drop (off + cs.length)))], []⟩ else none
        | none => none
      | _, _ => none
    else none
  | .fieldAddr s _ f =>
    match P.underlying s with
    | some (.struct fields) =>
      match fields[f]? with
      | some fd =>
        bif hasT P fd.type && Nat.ble 1 (szT P fd.type) then
          match vs with
          | [.ptr nm off] => Eff.pure (.ptr nm (off + fd.offset)) []
          | [.rptr cells] => bif Nat.ble (fd.offset + szT P fd.type) cells.length then Eff.pure (.rptr ((cells.drop fd.offset).take (szT P fd.type))) [] else none
          | _ => none
        else none
      | none => none
    | _ => none
  | .field s _ f =>
    match P.underlying s, vs with
    | some (.struct fields), [.agg cs] =>
      match fields[f]? with
      | some fd => match partA P fd.type cs fd.offset with | some x => Eff.pure x [] | none => none
      | none => none
    | _, _ => none
  | .indexAddr t _ _ =>
    match P.underlying t, vs with
    | some (.slice e), [.slice sz n f _, .int _ i] =>
      bif hasT P e && (Nat.beq sz (szT P e) || Nat.beq n 0) then Eff.pure (.rptr (f i.toNat)) [InB i n] else none
    | some (.array len e), [.ptr nm off, .int _ i] =>
      bif hasT P e then Eff.pure (.ptr nm (off + i.toNat * szT P e)) [InB i len] else none
    | some (.array len e), [.rptr cells, .int _ i] =>
      bif hasT P e && Nat.beq cells.length (len * szT P e) then Eff.pure (.rptr (partL cells (i.toNat * szT P e) (szT P e))) [InB i len] else none
    | _, _ => none
  | .index t _ _ =>
    match P.underlying t, vs with
    | some (.array len e), [.agg cs, .int _ i] =>
      bif hasT P e && !isAggT P e && Nat.beq (szT P e) 1 && Nat.beq cs.length len then Eff.pure (cs.getD i.toNat .any) [InB i len] else none
    | some .string, [.str s, .int _ i] => Eff.pure (.int .u8 (s.getD i.toNat 0)) [InB i s.length]
    | _, _ => none
  | .extract _ ix => match vs with | [.tuple xs] => (bif Nat.blt ix xs.length then Eff.pure (xs.getD ix .any) [] else none) | _ => none
  | .nilCheck _ => match vs with | [.ptr nm off] => Eff.pure (.ptr nm off) [] | [.rptr cs] => Eff.pure (.rptr cs) [] | _ => none
  | .alloc t =>
    match o.dst, zeroA P t, es with
    | some d, some z, [none] => bif hasT P t then some ⟨.ptr d 0, [(d, .row t z)], []⟩ else none
    | _, _, _ => none
  | .box t _ =>
    match o.dst, vs, es with
    | some d, [x], [none] => match x.cells with | some cs => some ⟨.ptr d 0, [(d, .row t cs)], []⟩ | none => none
    | _, _, _ => none
  | .build t parts => aBuild P t (parts.toList.map (·.1)) vs
  | .buildSlice t len parts => aBuildSlice P t len (parts.toList.map (·.1)) vs
  | .slice t _ lo hi mx => aSlice P t lo.isSome hi.isSome mx.isSome vs
  | .call { callee := .builtin .len, argTypes, .. } =>
    match argTypes.toList with
    | [t] =>
      match P.underlying t, vs with
      | some (.slice _), [.slice _ n _ _] => Eff.pure (.int .i64 n) []
      | some .string, [.str s] => Eff.pure (.int .i64 s.length) []
      | some (.array n _), [_] => Eff.pure (.int .i64 n) []
      | _, _ => none
    | _ => none
  | .call { callee := .builtin .max, .. } => match vs with | [.int k a, .int _ b] => Eff.pure (.int k (if a < b then b else a)) [] | _ => none
  | .call { callee := .builtin .min, .. } => match vs with | [.int k a, .int _ b] => Eff.pure (.int k (if b < a then b else a)) [] | _ => none
  | .call { callee := .builtin .append, argTypes, .. } => match o.dst with | some d => aAppend P d argTypes.toList vs es | none => none
  | _ => none

/-- One element of a row that may be written, told anew. -/
def putF (f : Nat → List AV) (i j : Nat) (cs : List AV) : Nat → List AV := fun k => bif Nat.beq k i then (f i).take j ++ cs ++ (f i).drop (j + cs.length) else f k
/-- What 'append' wants of the types. -/
def appOK (P : Program) (t t' e : TypeId) : Bool :=
  Nat.beq t t' && hasT P e && Nat.ble 1 (szT P e) && Nat.ble (((P.info? e).map (·.bytes)).getD 1000) 128 && ((P.info? e).bind (·.zero)).isSome && Nat.beq ((((P.info? e).bind (·.zero)).map (·.cells.size)).getD 0) (szT P e)
/-- Some elements of a row written over. -/
def cpF (f : Nat → List AV) (lo k : Nat) (g : Nat → List AV) : Nat → List AV := fun i => bif Nat.ble lo i && Nat.blt i (lo + k) then g (i - lo) else f i
def aCopy (P : Program) (ts : List TypeId) (x y : AV) (es : List (Option Own)) : Option Eff :=
  match ts, x.view with
  | [t, _], some (nm, n, lo, hi) =>
    match P.underlying t, es with
    | some (.slice e), some (.arr sz e0 m f) :: es' =>
      bif hasT P e && Nat.beq sz (szT P e) then
        match y.view, es' with
        | some (_, n', lo', hi'), [some (.arr sz' _ m' f')] =>
          bif Nat.beq sz' sz then some ⟨.int .i64 (Nat.min (hi' - lo') (hi - lo) : Nat), [(nm, .arr sz e0 m (cpF f lo (Nat.min (hi' - lo') (hi - lo)) (fun i => f' (lo' + i))))], [n = m, n' = m']⟩ else none
        | none, [] =>
          match y with
          | .slice sz' n' f' _ => bif Nat.beq sz' sz || Nat.beq n' 0 then some ⟨.int .i64 (Nat.min n' (hi - lo) : Nat), [(nm, .arr sz e0 m (cpF f lo (Nat.min n' (hi - lo)) f'))], [n = m]⟩ else none
          | _ => none
        | _, _ => none
      else none
    | _, _ => none
  | _, _ => none
/-- A part of a part. -/
def aView (P : Program) (t : TypeId) (lo hi mx : Bool) (x : AV) (vs : List AV) : Option Eff :=
  match P.underlying t, x.view with
  | some (.slice e), some (nm, n, l0, h0) =>
    bif hasT P e then
      match lo, hi, mx, vs with
      | true, false, false, [.int _ l] => Eff.pure (.vsub nm n (l0 + l.toNat) h0) [0 ≤ l ∧ l0 + l.toNat ≤ h0]
      | false, true, false, [.int _ h] => Eff.pure (.vsub nm n l0 (l0 + h.toNat)) [0 ≤ h ∧ l0 + h.toNat ≤ h0]
      | true, true, false, [.int _ l, .int _ h] => Eff.pure (.vsub nm n (l0 + l.toNat) (l0 + h.toNat)) [0 ≤ l ∧ l ≤ h ∧ l0 + h.toNat ≤ h0]
      | _, _, _, _ => none
    else none
  | _, _ => none
/-- The operations on rows that may be written and appended to. 'hint': what is appended to nothing is to be such a row. -/
def asemR (P : Program) (hint : Bool) (o : Oper) (vs : List AV) (es : List (Option Own)) : Option Eff :=
  match o.op, vs, es with
  | .load t _, [.vpt _ n i j], [some (.arr sz _ m f)] =>
    bif hasT P t then
      bif isAggT P t then (bif Nat.ble (j + szT P t) sz then Eff.pure (.agg (((f i).drop j).take (szT P t))) [n = m] else none)
      else (bif Nat.blt j sz then Eff.pure ((f i).getD j .any) [n = m] else none)
    else none
  | .store t _ _, [.vpt nm n i j, x], [some (.arr sz e m f)] =>
    match x.cells with
    | some cs => bif hasT P t && Nat.beq cs.length (szT P t) && Nat.ble (j + cs.length) sz then some ⟨.undef, [(nm, .arr sz e m (putF f i j cs))], [n = m]⟩ else none
    | none => none
  | .fieldAddr s _ k, [.vpt nm n i j], _ =>
    match P.underlying s with
    | some (.struct fields) =>
      match fields[k]? with
      | some fd => bif hasT P fd.type && Nat.ble 1 (szT P fd.type) then Eff.pure (.vpt nm n i (j + fd.offset)) [] else none
      | none => none
    | _ => none
  | .indexAddr t _ _, [.vsl nm n, .int _ i], [some (.arr sz _ _ _)] =>
    match P.underlying t with
    | some (.slice e) => bif hasT P e && Nat.beq sz (szT P e) then Eff.pure (.vpt nm n i.toNat 0) [InB i n] else none
    | _ => none
  | .indexAddr t _ _, [.vsub nm n lo hi, .int _ i], [some (.arr sz _ _ _)] =>
    match P.underlying t with
    | some (.slice e) => bif hasT P e && Nat.beq sz (szT P e) then Eff.pure (.vpt nm n (lo + i.toNat) 0) [InB i (hi - lo)] else none
    | _ => none
  | .slice t _ lo hi mx, x :: vs, [some (.arr sz _ _ _)] =>
    match P.underlying t with
    | some (.slice e) => bif Nat.beq sz (szT P e) then aView P t lo.isSome hi.isSome mx.isSome x vs else none
    | _ => none
  | .call { callee := .builtin .copy, argTypes, .. }, [x, y], es => aCopy P argTypes.toList x y es
  | .nilCheck _, [.vpt nm n i j], _ => Eff.pure (.vpt nm n i j) []
  | .nilCheck _, [.clo f xs ys], _ => Eff.pure (.clo f xs ys) []
  | .makeFunc (.func f) first captured, vs, _ => bif Nat.beq vs.length (first.toList.length + captured.toList.length) then Eff.pure (.clo f (vs.take first.toList.length) (vs.drop first.toList.length)) [] else none
  | .makeSlice t _ _, [.int _ l, .int _ c], [none] =>
    match o.dst, P.underlying t with
    | some d, some (.slice e) =>
      match zeroA P e with
      | some z => bif hasT P e && Nat.ble 1 (szT P e) && Nat.beq z.length (szT P e) && Nat.ble (((P.info? e).map (·.bytes)).getD 1000) 128 then some ⟨.vsl d l.toNat, [(d, .arr (szT P e) e l.toNat (fun _ => z))], [0 ≤ l ∧ l ≤ c ∧ c ≤ (room : Int)]⟩ else none
      | none => none
    | _, _ => none
  | .call { callee := .builtin .len, argTypes, .. }, [.vsl _ n], _ =>
    match argTypes.toList with
    | [t] => match P.underlying t with | some (.slice _) => Eff.pure (.int .i64 n) [] | _ => none
    | _ => none
  | .call { callee := .builtin .len, argTypes, .. }, [.vsub _ _ lo hi], _ =>
    match argTypes.toList with
    | [t] => match P.underlying t with | some (.slice _) => Eff.pure (.int .i64 (hi - lo : Nat)) [] | _ => none
    | _ => none
  | .call { callee := .builtin .append, argTypes, .. }, [.vsl nm n, .slice sz' n' f' _], [some (.arr sz0 e0 m f)] =>
    match argTypes.toList with
    | [t, t'] =>
      match P.underlying t with
      | some (.slice e) => bif appOK P t t' e && (Nat.beq sz' (szT P e) || Nat.beq n' 0) && Nat.beq sz0 (szT P e) && Nat.beq e0 e then some ⟨.vsl nm (n + n'), [(nm, .arr sz0 e0 (n + n') (appF n f f'))], [n = m, n + n' ≤ room]⟩ else none
      | _ => none
    | _ => none
  | .call { callee := .builtin .append, argTypes, .. }, [.slice _ n _ .exact, .slice sz' n' f' _], [none] =>
    match argTypes.toList, o.dst with
    | [t, t'], some d =>
      match P.underlying t with
      | some (.slice e) => bif hint && appOK P t t' e && (Nat.beq sz' (szT P e) || Nat.beq n' 0) && Nat.beq n 0 then some ⟨.vsl d n', [(d, .arr (szT P e) e n' f')], [n' ≤ room]⟩ else none
      | _ => none
    | _, _ => none
  | _, _, _ => none
/-- A string's bytes put behind. -/
def strF (s : List Int) (i : Nat) : List AV := [.int .u8 (s.getD i 0)]
def aAppendS (P : Program) (d : Nat) (ts : List TypeId) (vs : List AV) (es : List (Option Own)) : Option Eff :=
  match ts, vs, es with
  | [t, t'], [.slice sz n f tag, .str s], [eo] =>
    match P.underlying t, P.underlying t' with
    | some (.slice e), some .string =>
      bif u8T P e && Nat.ble (((P.info? e).map (·.bytes)).getD 1000) 128 && (match (P.info? e).bind (·.zero) with | some (.int .u8 0) => true | _ => false) && (Nat.beq sz 1 || Nat.beq n 0) then
        match tag, eo with
        | .own nm, some (.tok sz0 e0 m) =>
          bif Nat.beq sz0 1 && Nat.beq e0 e then
            some ⟨.slice 1 (n + s.length) (appF n f (strF s)) (.own nm), [(nm, .tok 1 e (n + s.length))], [m = n, n + s.length ≤ room]⟩
          else none
        | .exact, none => some ⟨.slice 1 (n + s.length) (appF n f (strF s)) (.own d), [(d, .tok 1 e (n + s.length))], [n + s.length ≤ room, e = tokU8 → n = 0 ∨ 0 < s.length]⟩
        | _, _ => none
      else none
    | _, _ => none
  | _, _, _ => none
/-- A string's runes, of numbers. -/
def decodeL (l : List Int) (i : Nat) : Nat × Nat :=
  let at' (k : Nat) : Nat := (l.getD (i + k) 0).toNat
  let cont (k : Nat) : Bool := decide (i + k < l.length) && (at' k / 64 == 2)
  let b0 := at' 0
  if b0 < 0x80 then (b0, 1)
  else if b0 / 32 == 6 && cont 1 then
    let c := (b0 % 32) * 64 + at' 1 % 64
    if c ≥ 0x80 then (c, 2) else (Utf8.runeError, 1)
  else if b0 / 16 == 14 && cont 1 && cont 2 then
    let c := (b0 % 16) * 4096 + (at' 1 % 64) * 64 + at' 2 % 64
    if c ≥ 0x800 && Utf8.valid c then (c, 3) else (Utf8.runeError, 1)
  else if b0 / 8 == 30 && cont 1 && cont 2 && cont 3 then
    let c := (b0 % 8) * 262144 + (at' 1 % 64) * 4096 + (at' 2 % 64) * 64 + at' 3 % 64
    if c ≥ 0x10000 && Utf8.valid c then (c, 4) else (Utf8.runeError, 1)
  else (Utf8.runeError, 1)
def runeL (l : List Int) (i : Nat) : Int := ((decodeL l i).1 : Nat)
/-- Where the next one begins. -/
def stepL (l : List Int) (i : Nat) : Nat := bif Nat.blt i l.length then i + (decodeL l i).2 else i
/-- Elements written out, as a row that may be written. -/
def aBuildRow (P : Program) (t : TypeId) (len : Nat) (is : List Nat) (vs : List AV) (d : Nat) : Option Eff :=
  match P.underlying t with
  | some (.slice e) =>
    match zeroA P e with
    | some z =>
      bif hasT P e && Nat.beq z.length (szT P e) && Nat.ble 1 (szT P e) && Nat.ble (len * szT P e) 16777216 then
        match fillA (fun i => some (i * szT P e, szT P e)) ((List.replicate len z).flatten) (is.zip vs) with
        | some cs => some ⟨.vsl d len, [(d, .arr (szT P e) e len (fun i => (cs.drop (i * szT P e)).take (szT P e)))], []⟩
        | none => none
      else none
    | none => none
  | _ => none
/-- The operations on what is no row. -/
def asemI (P : Program) (hint : Bool) (o : Oper) (vs : List AV) (es : List (Option Own)) : Option Eff :=
  match o.op, vs, es with
  | .range t _, [.str s], [none] => match o.dst, P.underlying t with | some d, some .string => some ⟨.optr d, [(d, .obj (.iter s 0))], []⟩ | _, _ => none
  | .next _ true, [.optr nm], [some (.obj (.iter l p))] => some ⟨.nxt (Nat.blt p l.length) p (runeL l p), [(nm, .obj (.iter l (stepL l p)))], []⟩
  | .alloc t, [], [none] =>
    match o.dst, P.underlying t, zeroA P t with
    | some d, some (.array len e), some z =>
      bif hint && hasT P e && Nat.ble 1 len && Nat.beq z.length (len * szT P e) && Nat.ble len room then some ⟨.vpt d len 0 0, [(d, .arr (szT P e) t len (fun i => (z.drop (i * szT P e)).take (szT P e)))], []⟩ else none
    | _, _, _ => none
  | .indexAddr t _ _, [.vpt nm n 0 0, .int _ i], [some (.arr sz _ _ _)] =>
    match P.underlying t with
    | some (.array len e) => bif hasT P e && Nat.beq n len && Nat.beq sz (szT P e) then Eff.pure (.vpt nm n i.toNat 0) [InB i n] else none
    | _ => none
  | .extract _ 0, [.nxt b _ _], _ => Eff.pure (.bool b) []
  | .extract _ 1, [.nxt b i _], _ => Eff.pure (.int .i64 i) [b = true]
  | .extract _ 2, [.nxt b _ r], _ => Eff.pure (.int .i32 r) [b = true]
  | .call { callee := .builtin .append, argTypes, .. }, [.slice sz n f tag, .str s], [eo] => match o.dst with | some d => aAppendS P d argTypes.toList [.slice sz n f tag, .str s] [eo] | none => none
  | .binOp .eql t _ (.const .nilIface) _, [.err b, _], _ => match P.underlying t with | some (.interface _) => Eff.pure (.bool (!b)) [] | _ => none
  | .binOp .neq t _ (.const .nilIface) _, [.err b, _], _ => match P.underlying t with | some (.interface _) => Eff.pure (.bool b) [] | _ => none
  | .binOp .eql t _ (.const (.slice none 0 0)) _, [.slice _ n _ _, _], _ => match P.underlying t with | some (.slice _) => Eff.pure (.nilq true n) [] | _ => none
  | .binOp .neq t _ (.const (.slice none 0 0)) _, [.slice _ n _ _, _], _ => match P.underlying t with | some (.slice _) => Eff.pure (.nilq false n) [] | _ => none
  | .buildSlice t len parts, vs, [none] => bif hint then (match o.dst with | some d => aBuildRow P t len (parts.toList.map (·.1)) vs d | none => none) else none
  | _, _, _ => none
def asemX (P : Program) (hint : Bool) (o : Oper) (vs : List AV) (es : List (Option Own)) : Option Eff :=
  match asemR P hint o vs es with
  | some e => some e
  | none => match asemI P hint o vs es with | some e => some e | none => asem P o vs es
end Go.Proofs.Ytcpopeamoipjlaa
