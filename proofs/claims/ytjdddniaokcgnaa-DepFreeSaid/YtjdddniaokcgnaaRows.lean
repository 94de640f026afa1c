/-
  No cell of these rows narrows 'for every input' (looked for: loops, veiled, ifaces, maps, wideKeys, modest, calm, conditions, laid).
  DERIVED. THE GIVEN ROWS OF THIS SEAT. 4 by the template 'for every input the law returns true; each argument reads behind the call as it read before'; 0 by the template 'total and deterministic' (their statements: YtjdddniaokcgnaaTotals.lean).
  GIVEN WITH THE SEED: the statements are not yours to turn. If you find one false, say at which input.
  Laid BY PROGRAM, IN A SANDBOX (cutbox-rows.mjs): the forced cells as the released guide's own fill.sh prints them over the translation f89e9eab59649814… (all of the seat's roots in one cut). By AI agents, Wed Nov 11 2026. No macro, syntax, notation, axiom, sorry.
-/
import Derived.Test.YtjdddniaokcgnaaChecked
import GoSem.Claim
import GoSem.ClaimJoined
import GoSem.ClaimMapViews
import Derived.JoinedTies
import Derived.KernelRfl
namespace Go.Proofs.Ytjdddniaokcgnaa
/- THE CELL 'sum', in the pinned program and in every row, IS THE sha256 OF THE DUMP (.gsa) THAT YtjdddniaokcgnaaProg.lean LOADS. Nothing in Lean hashes anything: it is a label: what it is worth is what the hold of that sum in a sandbox is worth. -/
noncomputable def Try.pinned : Pinned := { name := "ytjdddniaokcgnaa", sum := "f89e9eab59649814694a38a3ec084dd1b91b1923eab4e991b958a3cc23824f23", checked := Try.checked }
namespace Rows
def none {H : Type} : Left H := { results := [], args := [] }

/-- 'locksteplaw09.DepAll': WHATEVER THE INPUT: true; the input reads as it did. -/
def depAllSpec : ChangeSpec := { name := "depAll", fn := fun _ => fun
  | [d1, d2, d3] => { results := [.lit (.bool true)], args := [d1, d2, d3] }
  | _ => none }
def depAllRow : OpenClaim := { program := "ytjdddniaokcgnaa", sum := "f89e9eab59649814694a38a3ec084dd1b91b1923eab4e991b958a3cc23824f23", func := "lockstep/locksteplaw09.DepAll", spec := "depAll", unfollowed := true, recurses := true, apart := false }
def DepAllSaid : Prop := depAllRow.holds Try.pinned (OpenSpec.ofChange depAllSpec)

/-- ITS FALSE NEIGHBOUR: 'it returns false'. Refute it at one input. -/
def depAllWrong : ChangeSpec := { name := "depAll", fn := fun _ => fun
  | [d1, d2, d3] => { results := [.lit (.bool false)], args := [d1, d2, d3] }
  | _ => none }
def DepAllWrongFalsely : Prop := depAllRow.holds Try.pinned (OpenSpec.ofChange depAllWrong)

/-- 'locksteplaw09.DepFree': WHATEVER THE INPUT: true; the input reads as it did. -/
def depFreeSpec : ChangeSpec := { name := "depFree", fn := fun _ => fun
  | [d] => { results := [.lit (.bool true)], args := [d] }
  | _ => none }
def depFreeRow : OpenClaim := { program := "ytjdddniaokcgnaa", sum := "f89e9eab59649814694a38a3ec084dd1b91b1923eab4e991b958a3cc23824f23", func := "lockstep/locksteplaw09.DepFree", spec := "depFree", unfollowed := true, recurses := true, apart := false }
def DepFreeSaid : Prop := depFreeRow.holds Try.pinned (OpenSpec.ofChange depFreeSpec)

/-- ITS FALSE NEIGHBOUR: 'it returns false'. Refute it at one input. -/
def depFreeWrong : ChangeSpec := { name := "depFree", fn := fun _ => fun
  | [d] => { results := [.lit (.bool false)], args := [d] }
  | _ => none }
def DepFreeWrongFalsely : Prop := depFreeRow.holds Try.pinned (OpenSpec.ofChange depFreeWrong)

/-- 'locksteplaw09.DepEnds': WHATEVER THE INPUT: true; the input reads as it did. -/
def depEndsSpec : ChangeSpec := { name := "depEnds", fn := fun _ => fun
  | [d] => { results := [.lit (.bool true)], args := [d] }
  | _ => none }
def depEndsRow : OpenClaim := { program := "ytjdddniaokcgnaa", sum := "f89e9eab59649814694a38a3ec084dd1b91b1923eab4e991b958a3cc23824f23", func := "lockstep/locksteplaw09.DepEnds", spec := "depEnds", unfollowed := true, recurses := true, apart := false }
def DepEndsSaid : Prop := depEndsRow.holds Try.pinned (OpenSpec.ofChange depEndsSpec)

/-- ITS FALSE NEIGHBOUR: 'it returns false'. Refute it at one input. -/
def depEndsWrong : ChangeSpec := { name := "depEnds", fn := fun _ => fun
  | [d] => { results := [.lit (.bool false)], args := [d] }
  | _ => none }
def DepEndsWrongFalsely : Prop := depEndsRow.holds Try.pinned (OpenSpec.ofChange depEndsWrong)

/-- 'locksteplaw09.DepFrontier': WHATEVER THE INPUT: true; the input reads as it did. -/
def depFrontierSpec : ChangeSpec := { name := "depFrontier", fn := fun _ => fun
  | [d] => { results := [.lit (.bool true)], args := [d] }
  | _ => none }
def depFrontierRow : OpenClaim := { program := "ytjdddniaokcgnaa", sum := "f89e9eab59649814694a38a3ec084dd1b91b1923eab4e991b958a3cc23824f23", func := "lockstep/locksteplaw09.DepFrontier", spec := "depFrontier", unfollowed := true, recurses := true, apart := false }
def DepFrontierSaid : Prop := depFrontierRow.holds Try.pinned (OpenSpec.ofChange depFrontierSpec)

/-- ITS FALSE NEIGHBOUR: 'it returns false'. Refute it at one input. -/
def depFrontierWrong : ChangeSpec := { name := "depFrontier", fn := fun _ => fun
  | [d] => { results := [.lit (.bool false)], args := [d] }
  | _ => none }
def DepFrontierWrongFalsely : Prop := depFrontierRow.holds Try.pinned (OpenSpec.ofChange depFrontierWrong)

/- THE SECOND FORM. 'bulk': how many values and letters a reading holds, each counted each time it is reached (what is shared counts as often as it is met; a slice's spare places count too). A statement '..UptoSaid' is the law's where the arguments, and the package variables that the reading takes, are together of bulk at most 1048576: NARROWER than '..Said'. Prove '..Said' where nothing that the law and all that it calls make is longer than what came in: it says more and counts as full. Else prove '..UptoSaid'. A law counts once. -/
mutual
def uptoBulk {H : Type} : DataW H → Nat
  | .lit (.string bytes) => bytes.length + 1
  | .lit _ => 1
  | .nil => 1
  | .ptr d => uptoBulk d + 1
  | .slice elems spare => uptoBulkAll elems + uptoBulkAll spare + 1
  | .agg parts => uptoBulkAll parts + 1
  | .iface _ d => uptoBulk d + 1
  | .map entries => uptoBulkEntries entries + 1
  | .held _ => 1
def uptoBulkAll {H : Type} : List (DataW H) → Nat
  | [] => 0
  | d :: r => uptoBulk d + uptoBulkAll r
def uptoBulkEntries {H : Type} : List (Lit × DataW H) → Nat
  | [] => 0
  | x :: r => uptoBulkEntry x + uptoBulkEntries r
def uptoBulkEntry {H : Type} : Lit × DataW H → Nat
  | (.string bytes, d) => bytes.length + uptoBulk d + 1
  | (_, d) => uptoBulk d + 1
 end
def uptoSmall : (H : Type) → List (DataW H) → Bool := fun _ ds => decide (uptoBulkAll ds ≤ 1048576)
def OpenSpec.upto (s : _root_.Go.ChangeSpec) : _root_.Go.OpenSpec := { _root_.Go.OpenSpec.ofChange s with cond := some uptoSmall }

/-- 'locksteplaw09.DepAll', WHERE WHAT IT READS IS OF BULK AT MOST 1048576: true; the input reads as it did. -/
def depAllUptoRow : OpenClaim := { program := "ytjdddniaokcgnaa", sum := "f89e9eab59649814694a38a3ec084dd1b91b1923eab4e991b958a3cc23824f23", func := "lockstep/locksteplaw09.DepAll", spec := "depAll", unfollowed := true, recurses := true, apart := false, narrowed := true }
def DepAllUptoSaid : Prop := depAllUptoRow.holds Try.pinned (OpenSpec.upto depAllSpec)

/-- 'locksteplaw09.DepFree', WHERE WHAT IT READS IS OF BULK AT MOST 1048576: true; the input reads as it did. -/
def depFreeUptoRow : OpenClaim := { program := "ytjdddniaokcgnaa", sum := "f89e9eab59649814694a38a3ec084dd1b91b1923eab4e991b958a3cc23824f23", func := "lockstep/locksteplaw09.DepFree", spec := "depFree", unfollowed := true, recurses := true, apart := false, narrowed := true }
def DepFreeUptoSaid : Prop := depFreeUptoRow.holds Try.pinned (OpenSpec.upto depFreeSpec)

/-- 'locksteplaw09.DepEnds', WHERE WHAT IT READS IS OF BULK AT MOST 1048576: true; the input reads as it did. -/
def depEndsUptoRow : OpenClaim := { program := "ytjdddniaokcgnaa", sum := "f89e9eab59649814694a38a3ec084dd1b91b1923eab4e991b958a3cc23824f23", func := "lockstep/locksteplaw09.DepEnds", spec := "depEnds", unfollowed := true, recurses := true, apart := false, narrowed := true }
def DepEndsUptoSaid : Prop := depEndsUptoRow.holds Try.pinned (OpenSpec.upto depEndsSpec)

/-- 'locksteplaw09.DepFrontier', WHERE WHAT IT READS IS OF BULK AT MOST 1048576: true; the input reads as it did. -/
def depFrontierUptoRow : OpenClaim := { program := "ytjdddniaokcgnaa", sum := "f89e9eab59649814694a38a3ec084dd1b91b1923eab4e991b958a3cc23824f23", func := "lockstep/locksteplaw09.DepFrontier", spec := "depFrontier", unfollowed := true, recurses := true, apart := false, narrowed := true }
def DepFrontierUptoSaid : Prop := depFrontierUptoRow.holds Try.pinned (OpenSpec.upto depFrontierSpec)

end Rows
end Go.Proofs.Ytjdddniaokcgnaa
