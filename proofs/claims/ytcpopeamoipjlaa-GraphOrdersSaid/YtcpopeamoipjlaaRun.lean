/-
  A region, abstractly: its operations in the order of the text, calls by what they answer.
-/
import Derived.Test.YtcpopeamoipjlaaOps
namespace Go.Proofs.Ytcpopeamoipjlaa
open Go Go.RowKit

mutual
/-- Names turned; what has no new name is forgotten. -/
def AV.ren (ρ : List (Nat × Nat)) : AV → AV
  | .slice sz n f (.own nm) => .slice sz n f (match look ρ nm with | some k => .own k | none => .none)
  | .slice sz n f .exact => .slice sz n f .exact
  | .slice sz n f (.fam _ _) => .slice sz n f .none
  | .ptr nm off => match look ρ nm with | some k => .ptr k off | none => .any
  | .vsl nm n => match look ρ nm with | some k => .vsl k n | none => .any
  | .vpt nm n i j => match look ρ nm with | some k => .vpt k n i j | none => .any
  | .vsub nm n lo hi => match look ρ nm with | some k => .vsub k n lo hi | none => .any
  | .optr nm => match look ρ nm with | some k => .optr k | none => .any
  | .clo f xs ys => .clo f (AV.renAll ρ xs) (AV.renAll ρ ys)
  | .agg cs => .agg (AV.renAll ρ cs)
  | .tuple cs => .tuple (AV.renAll ρ cs)
  | .cond c x => .cond c (x.ren ρ)
  | x => x
def AV.renAll (ρ : List (Nat × Nat)) : List AV → List AV
  | [] => []
  | x :: l => x.ren ρ :: AV.renAll ρ l
end
mutual
/-- What a callee is told of what it is given: not how far it could go on. -/
def AV.loose : AV → AV
  | .slice sz n f .exact => .slice sz n f .none
  | .agg cs => .agg (AV.looseAll cs)
  | x => x
def AV.looseAll : List AV → List AV
  | [] => []
  | x :: l => x.loose :: AV.looseAll l
end
def Own.ren (ρ : List (Nat × Nat)) : Own → Own
  | .row e cells => .row e (AV.renAll ρ cells)
  | .arr sz e m f => .arr sz e m (fun i => AV.renAll ρ (f i))
  | .obj x => .obj x
  | .tok sz e m => .tok sz e m

/-- What a call answers: the names that are handed in (the caller's, the callee's), the new ones (the callee's, the caller's), the result, and what is owned then. -/
structure Orc where
  hs : List (Nat × Nat)
  fr : List (Nat × Nat)
  res : AV
  H : List (Nat × Own)

/-- A family of slices to be appended to: 'm' tells how many elements each has (none: it isn't here). -/
structure Fam where
  sz : Nat
  e : TypeId
  m : Nat → Option Nat
structure St where
  tmps : List (Nat × AV)
  own : List (Nat × Own)
  fam : List (Nat × Fam)

def St.get (st : St) (t : Nat) : AV := match look st.tmps t with | some x => x | none => .any
/-- What is owned by a name: those of families beside those that are written out. -/
def famOwn (l : List (Nat × Own)) (r : List (Nat × Fam)) (k : Nat) : Option Own :=
  if k < famB then look l k else (look r (k / famB - 1)).bind fun F => (F.m (k % famB)).map (Own.tok F.sz F.e)
def St.sto (st : St) : Sto := ⟨st.get, famOwn st.own st.fam⟩
/-- No name of a family is touched. -/
def namesOk (ns : List Nat) (wo : List (Nat × Own)) : Bool := ns.all (fun n => Nat.blt n famB) && wo.all (fun p => Nat.blt p.1 famB)
/-- All names are written out. -/
def plainB (l : List (Nat × Own)) : Bool := l.all (fun p => Nat.blt p.1 famB)
def evA (get : Nat → AV) : Operand → AV
  | .tmp t => get t
  | .const v => AV.ofValue v
  | .func f => .clo f [] []
  | .global g => match globA g with | some cells => .rptr cells | none => .any

def AV.uncond : AV → AV
  | .cond _ x => x
  | x => x
/-- What must hold that a guarded value is there. -/
def AV.there (γ : Bool) (gd : Bool) : AV → List Prop
  | .cond c _ => bif gd then [γ = true → c = true] else [c = true]
  | _ => []
def guardE (gd γ : Bool) (obs : List Prop) : List Prop := bif gd then obs.map fun p => (γ = true → p) else obs
def AV.boolIn : AV → Option (List Prop × Bool)
  | .bool x => some ([], x)
  | .cond c (.bool x) => some ([c = true], x)
  | _ => none

def aPick (vs : List AV) : Option Eff :=
  match vs with
  | [c, a, b] =>
    match c.uncond, a.boolIn, b.boolIn with
    | .bool cb, some (pa, xa), some (pb, xb) => some ⟨.bool (bif cb then xa else xb), [], pa.map (fun p => (cb = true → p)) ++ pb.map (fun p => (cb = false → p))⟩
    | _, _, _ => none
  | _ => none

/-- The guard: it says yes. -/
def gamma (want : Bool) : AV → Option Bool
  | .bool b => some (b == want)
  | .cond c (.bool b) => some (c && (b == want))
  | .undef => some false
  | _ => none

/-- Is it a call of a function, or of a function value? -/
def isCall (o : Oper) : Bool :=
  match o.op with
  | .call { callee := .value _, .. } => true
  | _ => false
/-- Which function a call calls, with which arguments. -/
def callTo (o : Oper) (vs : List AV) : Option (FuncId × List AV) :=
  match o.op with
  | .call { callee := .value (.func f), .. } => some (f, vs.drop 1)
  | .call { callee := .value (.tmp _), .. } => match vs with | .clo f fs cs :: rest => some (f, fs ++ rest ++ cs) | _ => none
  | _ => none
def isPick (o : Oper) : Bool := match o.op with | .pick _ _ _ => true | _ => false

abbrev SpecT := FuncId → List AV → List (Nat × Own) → AV → List (Nat × Own) → Prop

def callNeeds (r : Orc) : List Nat := r.hs.map (·.1) ++ r.fr.map (·.2)
def backOf (r : Orc) : List (Nat × Nat) := r.hs.map (fun x => (x.2, x.1)) ++ r.fr
def handIn (hs : List (Nat × Nat)) (es : List (Option Own)) : Option (List (Nat × Own)) :=
  match hs, es with
  | [], _ => some []
  | (_, k) :: hs', some o :: es' => match handIn hs' es' with | some l => some ((k, o) :: l) | none => none
  | _, _ => none
def allNone : List (Option Own) → Bool
  | [] => true
  | none :: l => allNone l
  | _ :: _ => false
def memB (n : Nat) : List Nat → Bool
  | [] => false
  | k :: l => Nat.beq k n || memB n l
def nodupB : List Nat → Bool
  | [] => true
  | k :: l => !memB k l && nodupB l

def backWo (r : Orc) : List (Nat × Own) := r.H.map (fun x => (match look (backOf r) x.1 with | some c => c | none => 0, x.2.ren (backOf r)))
def callCheck (es : List (Option Own)) (r : Orc) : Bool :=
  allNone (es.drop r.hs.length) && nodupB ((backOf r).map (·.2)) && nodupB ((backOf r).map (·.1)) && nodupB (r.H.map (·.1)) && nodupB ((backWo r).map (·.1)) && r.H.all (fun x => memB x.1 ((backOf r).map (·.1)))
def aCall (S : SpecT) (f : FuncId) (vs : List AV) (es : List (Option Own)) (r : Orc) : Option Eff :=
  match handIn r.hs es with
  | some H =>
    bif callCheck es r then
      some ⟨r.res.ren (backOf r), backWo r, [S f ((vs.map (AV.ren r.hs)).map AV.loose) (H.map fun x => (x.1, x.2.ren r.hs)) r.res r.H]⟩
    else none
  | none => none

def headThere (γ gd : Bool) : List AV → List Prop
  | c :: _ => c.there γ gd
  | [] => []
structure Step where
  v : AV
  wo : List (Nat × Own)
  ob : List Prop

/-- A cast that is none: a row that may be written is wanted. -/
def wantArr (c : Option AV) : Bool := match c with | some (.vsl _ _) => true | some (.vpt _ _ _ _) => true | _ => false
def noHint (c : Option AV) : Option AV := match c with | some (.vsl _ _) => none | some (.vpt _ _ _ _) => none | c => c
def effOf (P : Program) (S : SpecT) (hint : Bool) (o : Oper) (vs : List AV) (es : List (Option Own)) (r : Option Orc) : Option Eff :=
  bif isPick o then aPick vs else
  bif isCall o then
    match callTo o (vs.map AV.uncond), r with
    | some (f, as), some r => aCall S f as es r
    | _, _ => none
  else asemX P hint o (vs.map AV.uncond) es
/-- What an operation gives, told otherwise. -/
def castWo (y : AV) (wo : List (Nat × Own)) : List (Nat × Own) × List Prop :=
  match y, wo with
  | .slice _ n _ (.own _), [(nm, .tok s t k)] => ([(nm, .tok s t n)], [k = n])
  | _, wo => (wo, [])
def castE (c : Option AV) (e : Eff) : Eff :=
  match c with
  | none => e
  | some y => ⟨y, (castWo y e.wo).1, e.ob ++ (AVle e.v y :: (castWo y e.wo).2)⟩
/-- Of two, by a guard. -/
def AV.merge (γ : Bool) : AV → AV → Option AV
  | .int k a, .int k' b => bif kEq k k' then some (.int k (bif γ then b else a)) else none
  | .bool a, .bool b => some (.bool (bif γ then b else a))
  | .str a, .str b => some (.str (bif γ then b else a))
  | .nilp, .nilp => some .nilp
  | .any, .any => some .any
  | .ptr n o, .ptr n' o' => bif Nat.beq n n' && Nat.beq o o' then some (.ptr n o) else none
  | .slice sz n f .none, .slice sz' n' f' .none => bif Nat.beq sz sz' then some (.slice sz (bif γ then n' else n) (fun i => bif γ then f' i else f i) .none) else none
  | _, _ => none
def AV.mergeAll (γ : Bool) : List AV → List AV → Option (List AV)
  | [], [] => some []
  | x :: l, y :: m => match x.merge γ y, AV.mergeAll γ l m with | some z, some r => some (z :: r) | _, _ => none
  | _, _ => none
def Own.merge (γ : Bool) : Own → Own → Option Own
  | .row e l, .row e' m => bif Nat.beq e e' then (match AV.mergeAll γ l m with | some r => some (.row e r) | none => none) else none
  | _, _ => none
def oldOf (ns : List Nat) (es : List (Option Own)) (n : Nat) : Option Own :=
  match ns, es with
  | k :: ns, e :: es => bif Nat.beq k n then e else oldOf ns es n
  | _, _ => none
def mergeWo (γ : Bool) (ns : List Nat) (es : List (Option Own)) : List (Nat × Own) → Option (List (Nat × Own))
  | [] => some []
  | (n, o) :: r =>
    match oldOf ns es n with
    | some o' => match o'.merge γ o, mergeWo γ ns es r with | some z, some r' => some ((n, z) :: r') | _, _ => none
    | none => none
def castOf (cs : List (Nat × AV)) (o : Oper) : Option AV := match o.dst with | some d => look cs d | none => none
def needsV (o : Oper) (vs : List AV) (r : Option Orc) : List Nat :=
  bif isCall o then (match r with | some r => callNeeds r | none => []) else needs o (vs.map AV.uncond)

/-- One operation. 'gv': the guard's value and what is wanted; 'r': what a call answers. -/
def stepV (P : Program) (S : SpecT) (c : Option AV) (o : Oper) (vs : List AV) (gv : Option (AV × Bool)) (es : List (Option Own)) (r : Option Orc) : Option Step :=
  match gv with
  | none =>
    match (effOf P S (wantArr c) o vs es r).map (castE (noHint c)) with
    | some e => some ⟨e.v, e.wo, (bif isPick o then headThere true false vs else (vs.map (AV.there true false)).flatten) ++ e.ob⟩
    | none => none
  | some (g, want) =>
    match gamma want g, (effOf P S (wantArr c) o vs es r).map (castE (noHint c)) with
    | some γ, some e =>
      match mergeWo γ (needsV o vs r) es e.wo with
      | some wo => some ⟨.cond γ e.v, wo, (bif isPick o then headThere γ true vs else (vs.map (AV.there γ true)).flatten) ++ guardE true γ e.ob⟩
      | none => none
    | _, _ => none

def guardVal (ops : List Oper) (get : Nat → AV) (o : Oper) : Option (Option (AV × Bool)) :=
  match o.guard with
  | none => some none
  | some (j, want) =>
    match ops[j]? with
    | some oj => match oj.dst with | some t => some (some (get t, want)) | none => none
    | none => none

def putA {α : Type} (l : List (Nat × α)) (k : Nat) (x : α) : List (Nat × α) :=
  match l with
  | [] => [(k, x)]
  | (k', y) :: r => bif Nat.beq k' k then (k, x) :: r else (k', y) :: putA r k x
def putAll {α : Type} (l : List (Nat × α)) : List (Nat × α) → List (Nat × α)
  | [] => l
  | (k, x) :: r => putA (putAll l r) k x
def St.upd (st : St) (dst : Option Nat) (v : AV) (wo : List (Nat × Own)) : St :=
  ⟨match dst with | some d => putA st.tmps d v | none => st.tmps, putAll st.own wo, st.fam⟩

/-- What an operation read and wrote. -/
structure Tr where
  rt : List Nat
  wt : Option Nat
  rn : List Nat
  wn : List Nat

def tmpsOf (o : Oper) : List Nat := o.op.operands.toList.filterMap fun | .tmp t => some t | _ => none
def guardSlot (ops : List Oper) (o : Oper) : List Nat :=
  match o.guard with
  | none => []
  | some (j, _) => match ops[j]? with | some oj => oj.dst.toList | none => []

def orcOf (o : Oper) (rs : List Orc) : Option Orc := bif isCall o then rs.head? else none
def orcRest (o : Oper) (rs : List Orc) : List Orc := bif isCall o then rs.tail else rs
def dstOk (n : Nat) (o : Oper) : Bool := match o.dst with | some d => Nat.blt d n | none => true
/-- The operations one by one: the store behind them, what must hold, and the trace. -/
def arun (P : Program) (S : SpecT) (n : Nat) (cs : List (Nat × AV)) (ops : List Oper) : List Oper → St → List Orc → Option (St × List Prop × List Tr)
  | [], st, _ => some (st, [], [])
  | o :: rest, st, rs =>
    let vs := o.op.operands.toList.map (evA st.get)
    let r := orcOf o rs
    let ns := needsV o vs r
    match guardVal ops st.get o with
    | none => none
    | some gv =>
      match stepV P S (castOf cs o) o vs gv (ns.map (look st.own)) r with
      | none => none
      | some e =>
        bif dstOk n o && namesOk ns e.wo then
          match arun P S n cs ops rest (st.upd o.dst e.v e.wo) (orcRest o rs) with
          | none => none
          | some (st', obs, trs) => some (st', e.ob ++ obs, ⟨guardSlot ops o ++ tmpsOf o, o.dst, ns, e.wo.map (·.1)⟩ :: trs)
        else none

/-- Only these slots, only these names. -/
def restrict0 (live names : List Nat) (st : St) : St :=
  ⟨live.map fun t => (t, (st.get t).erase (fun n => memB n names)), names.filterMap fun n => match look st.own n with | some o => some (n, o.erase fun n => memB n names) | none => none,
    names.filterMap fun n => match look st.fam n with | some o => some (n, o) | none => none⟩
def restrict (live names : List Nat) (st : St) : St := restrict0 live (names.filter fun n => Nat.blt n famB) st

def conjL : List Prop → Prop
  | [] => True
  | p :: l => p ∧ conjL l

/-! ### Whether an order that isn't the text's may be told from it -/
def indepB (x y : Tr) : Bool :=
  (match x.wt with | some d => !memB d y.rt && (match y.wt with | some d' => !Nat.beq d d' | none => true) | none => true) &&
  (match y.wt with | some d => !memB d x.rt | none => true) &&
  x.wn.all (fun n => !memB n y.rn && !memB n y.wn) && y.wn.all (fun n => !memB n x.rn)
def maskOf (done : List Nat) (o : Oper) : Nat :=
  o.after.toList.foldl (fun s e => bif Region.binds .any e then s ||| (2 ^ e.on ||| done.getD e.on 0) else s) 0
def ancGo (done : List Nat) : List Oper → List Nat
  | [] => done
  | o :: r => ancGo (done ++ [maskOf done o]) r
def edgesGo : Nat → List Oper → Bool
  | _, [] => true
  | i, o :: r => o.after.toList.all (fun e => !Region.binds .any e || Nat.blt e.on i) && edgesGo (i + 1) r
def depGo (ms : List Nat) : Nat → List (Nat × Tr) → List Tr → Bool
  | _, _, [] => true
  | i, prev, t :: r => prev.all (fun p => indepB p.2 t || (ms.getD i 0).testBit p.1) && depGo ms (i + 1) ((i, t) :: prev) r
def orderOk (ops : List Oper) (trs : List Tr) : Bool := edgesGo 0 ops && depGo (ancGo [] ops) 0 [] trs

/-- A region, whole: the store behind it (these slots, these names), what must hold, and that the order is of no account. -/
def aregion (P : Program) (S : SpecT) (n : Nat) (cs : List (Nat × AV)) (live names : List Nat) (ops : List Oper) (draw : Bool) (st : St) (rs : List Orc) : Option (St × List Prop × Bool) :=
  match arun P S n cs ops ops st rs with
  | some (st', obs, trs) => some (restrict live names st', obs, bif draw then orderOk ops trs else true)
  | none => none
end Go.Proofs.Ytcpopeamoipjlaa
