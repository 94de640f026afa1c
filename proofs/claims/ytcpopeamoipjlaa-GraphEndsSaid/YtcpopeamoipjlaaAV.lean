/-
  Abstract values: what a slot holds, told as data. What they stand for in a world; what stays true as the world grows.
-/
import Derived.WalkKit
import Derived.WalkMore
import Derived.Laws.Strings
namespace Go.Proofs.Ytcpopeamoipjlaa
open Go Go.RowKit

/-- A string's bytes, as numbers. -/
def bytesI (s : ByteArray) : List Int := s.data.toList.map fun b => (b.toNat : Int)

inductive Tag where
  | none
  | exact
  | own (nm : Nat)
  /-- one of a family of names: the family, which of it -/
  | fam (b i : Nat)

/-- What lies in a block that is no row of cells. -/
inductive AObj where
  /-- the rest of a string, from a place on -/
  | iter (l : List Int) (p : Nat)

inductive AV where
  | any
  | undef
  | int (k : IntKind) (n : Int)
  | bool (b : Bool)
  /-- a string, as its bytes -/
  | str (s : List Int)
  | nilp
  | cond (c : Bool) (x : AV)
  | ptr (nm off : Nat)
  | rptr (cells : List AV)
  | slice (sz n : Nat) (f : Nat → List AV) (tag : Tag)
  | agg (cs : List AV)
  | tuple (vs : List AV)
  /-- all of an owned row of 'n' elements, as a slice -/
  | vsl (nm n : Nat)
  /-- a place in an owned row of 'n' elements: element 'i', its cell 'j' -/
  | vpt (nm n i j : Nat)
  /-- a function value: the function, what is put ahead of its arguments, what behind them -/
  | clo (f : Nat) (first caps : List AV)
  /-- elements 'lo' to 'hi' of an owned row of 'n' elements, as a slice -/
  | vsub (nm n lo hi : Nat)
  /-- a pointer to something owned that is no row -/
  | optr (nm : Nat)
  /-- what 'next' of a string answers: is there one, where it stands, which -/
  | nxt (b : Bool) (i r : Int)
  /-- is a slice of 'n' elements nil ('pos'), or isn't it: where it is, it has none -/
  | nilq (pos : Bool) (n : Nat)
  /-- an interface value: nil, or not -/
  | err (b : Bool)

end Go.Proofs.Ytcpopeamoipjlaa
