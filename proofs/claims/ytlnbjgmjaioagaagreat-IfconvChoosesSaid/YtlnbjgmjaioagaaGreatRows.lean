/-
  No cell of these rows narrows 'for every input' (looked for: loops, veiled, ifaces, maps, wideKeys, modest, calm, conditions, laid).
  DERIVED. THE GIVEN ROWS OF THIS SEAT. 4 by the template 'for every input the law returns true; each argument reads behind the call as it read before'; 0 by the template 'total and deterministic' (their statements: YtlnbjgmjaioagaaGreatTotals.lean).
  GIVEN WITH THE SEED: the statements are not yours to turn. If you find one false, say at which input.
  Laid BY PROGRAM, IN A SANDBOX (cutbox-rows.mjs): the forced cells as the released guide's own fill.sh prints them over the translation 3bf1bd9dc17d9e41… (all of the seat's roots in one cut). By AI agents, Wed Nov 11 2026. No macro, syntax, notation, axiom, sorry.
-/
import Derived.Test.YtlnbjgmjaioagaaGreatChecked
import GoSem.Claim
import GoSem.ClaimJoined
import GoSem.ClaimMapViews
import Derived.JoinedTies
import Derived.KernelRfl
namespace Go.Proofs.YtlnbjgmjaioagaaGreat
/- THE CELL 'sum', in the pinned program and in every row, IS THE sha256 OF THE DUMP (.gsa) THAT YtlnbjgmjaioagaaGreatProg.lean LOADS. Nothing in Lean hashes anything: it is a label: what it is worth is what the hold of that sum in a sandbox is worth. -/
noncomputable def Tryz.pinned : Pinned := { name := "ytlnbjgmjaioagaagreat", sum := "3bf1bd9dc17d9e4193234f62962254575fe5d14727163952966375c998bdc826", checked := Tryz.checked }
namespace Rows
def none {H : Type} : Left H := { results := [], args := [] }

/-- 'locksteplaw15.IfconvMerges': WHATEVER THE INPUT: true; the input reads as it did. -/
def ifconvMergesSpec : ChangeSpec := { name := "ifconvMerges", fn := fun _ => fun
  | [d1, d2, d3] => { results := [.lit (.bool true)], args := [d1, d2, d3] }
  | _ => none }
def ifconvMergesRow : OpenClaim := { program := "ytlnbjgmjaioagaagreat", sum := "3bf1bd9dc17d9e4193234f62962254575fe5d14727163952966375c998bdc826", func := "lockstep/locksteplaw15.IfconvMerges", spec := "ifconvMerges", inPlace := ["slices.overlaps[int]"], unfollowed := true, recurses := true, apart := false }
def IfconvMergesSaid : Prop := ifconvMergesRow.holds Tryz.pinned (OpenSpec.ofChange ifconvMergesSpec)

/-- ITS FALSE NEIGHBOUR: 'it returns false'. Refute it at one input. -/
def ifconvMergesWrong : ChangeSpec := { name := "ifconvMerges", fn := fun _ => fun
  | [d1, d2, d3] => { results := [.lit (.bool false)], args := [d1, d2, d3] }
  | _ => none }
def IfconvMergesWrongFalsely : Prop := ifconvMergesRow.holds Tryz.pinned (OpenSpec.ofChange ifconvMergesWrong)

/-- 'locksteplaw15.IfconvRight': WHATEVER THE INPUT: true; the input reads as it did. -/
def ifconvRightSpec : ChangeSpec := { name := "ifconvRight", fn := fun _ => fun
  | [d1, d2] => { results := [.lit (.bool true)], args := [d1, d2] }
  | _ => none }
def ifconvRightRow : OpenClaim := { program := "ytlnbjgmjaioagaagreat", sum := "3bf1bd9dc17d9e4193234f62962254575fe5d14727163952966375c998bdc826", func := "lockstep/locksteplaw15.IfconvRight", spec := "ifconvRight", inPlace := ["slices.overlaps[int]"], unfollowed := true, recurses := true, apart := false }
def IfconvRightSaid : Prop := ifconvRightRow.holds Tryz.pinned (OpenSpec.ofChange ifconvRightSpec)

/-- ITS FALSE NEIGHBOUR: 'it returns false'. Refute it at one input. -/
def ifconvRightWrong : ChangeSpec := { name := "ifconvRight", fn := fun _ => fun
  | [d1, d2] => { results := [.lit (.bool false)], args := [d1, d2] }
  | _ => none }
def IfconvRightWrongFalsely : Prop := ifconvRightRow.holds Tryz.pinned (OpenSpec.ofChange ifconvRightWrong)

/-- 'locksteplaw15.IfconvFewer': WHATEVER THE INPUT: true; the input reads as it did. -/
def ifconvFewerSpec : ChangeSpec := { name := "ifconvFewer", fn := fun _ => fun
  | [d1, d2] => { results := [.lit (.bool true)], args := [d1, d2] }
  | _ => none }
def ifconvFewerRow : OpenClaim := { program := "ytlnbjgmjaioagaagreat", sum := "3bf1bd9dc17d9e4193234f62962254575fe5d14727163952966375c998bdc826", func := "lockstep/locksteplaw15.IfconvFewer", spec := "ifconvFewer", inPlace := ["slices.overlaps[int]"], unfollowed := true, recurses := true, apart := false }
def IfconvFewerSaid : Prop := ifconvFewerRow.holds Tryz.pinned (OpenSpec.ofChange ifconvFewerSpec)

/-- ITS FALSE NEIGHBOUR: 'it returns false'. Refute it at one input. -/
def ifconvFewerWrong : ChangeSpec := { name := "ifconvFewer", fn := fun _ => fun
  | [d1, d2] => { results := [.lit (.bool false)], args := [d1, d2] }
  | _ => none }
def IfconvFewerWrongFalsely : Prop := ifconvFewerRow.holds Tryz.pinned (OpenSpec.ofChange ifconvFewerWrong)

/-- 'locksteplaw15.IfconvChooses': WHATEVER THE INPUT: true; the input reads as it did. -/
def ifconvChoosesSpec : ChangeSpec := { name := "ifconvChooses", fn := fun _ => fun
  | [d1, d2] => { results := [.lit (.bool true)], args := [d1, d2] }
  | _ => none }
def ifconvChoosesRow : OpenClaim := { program := "ytlnbjgmjaioagaagreat", sum := "3bf1bd9dc17d9e4193234f62962254575fe5d14727163952966375c998bdc826", func := "lockstep/locksteplaw15.IfconvChooses", spec := "ifconvChooses", inPlace := ["slices.overlaps[int]"], unfollowed := true, recurses := true, apart := false }
def IfconvChoosesSaid : Prop := ifconvChoosesRow.holds Tryz.pinned (OpenSpec.ofChange ifconvChoosesSpec)

/-- ITS FALSE NEIGHBOUR: 'it returns false'. Refute it at one input. -/
def ifconvChoosesWrong : ChangeSpec := { name := "ifconvChooses", fn := fun _ => fun
  | [d1, d2] => { results := [.lit (.bool false)], args := [d1, d2] }
  | _ => none }
def IfconvChoosesWrongFalsely : Prop := ifconvChoosesRow.holds Tryz.pinned (OpenSpec.ofChange ifconvChoosesWrong)

/- THE SECOND FORM. 'bulk': how many values and letters a reading holds, each counted each time it is reached (what is shared counts as often as it is met; a slice's spare places count too). A statement '..UptoSaid' is the law's where the arguments, and the package variables that the reading takes, are together of bulk at most 1048576: NARROWER than '..Said'. Prove '..Said' where nothing that the law and all that it calls make is longer than what came in: it says more and counts as full. Else prove '..UptoSaid'. A law counts once. -/
mutual
def uptoBulk {H : Type} : DataW H → Nat
  | .lit (.string bytes) => bytes.length + 1
  | .lit _ => 1
  | .nil => 1
  | .ptr d => uptoBulk d + 1
  | .slice elems spare => uptoBulkAll elems + uptoBulkAll spare + 1
  | .agg parts => uptoBulkAll parts + 1
  | .iface _ d => uptoBulk d + 1
  | .map entries => uptoBulkEntries entries + 1
  | .held _ => 1
def uptoBulkAll {H : Type} : List (DataW H) → Nat
  | [] => 0
  | d :: r => uptoBulk d + uptoBulkAll r
def uptoBulkEntries {H : Type} : List (Lit × DataW H) → Nat
  | [] => 0
  | x :: r => uptoBulkEntry x + uptoBulkEntries r
def uptoBulkEntry {H : Type} : Lit × DataW H → Nat
  | (.string bytes, d) => bytes.length + uptoBulk d + 1
  | (_, d) => uptoBulk d + 1
 end
def uptoSmall : (H : Type) → List (DataW H) → Bool := fun _ ds => decide (uptoBulkAll ds ≤ 1048576)
def OpenSpec.upto (s : _root_.Go.ChangeSpec) : _root_.Go.OpenSpec := { _root_.Go.OpenSpec.ofChange s with cond := some uptoSmall }

/-- 'locksteplaw15.IfconvMerges', WHERE WHAT IT READS IS OF BULK AT MOST 1048576: true; the input reads as it did. -/
def ifconvMergesUptoRow : OpenClaim := { program := "ytlnbjgmjaioagaagreat", sum := "3bf1bd9dc17d9e4193234f62962254575fe5d14727163952966375c998bdc826", func := "lockstep/locksteplaw15.IfconvMerges", spec := "ifconvMerges", inPlace := ["slices.overlaps[int]"], unfollowed := true, recurses := true, apart := false, narrowed := true }
def IfconvMergesUptoSaid : Prop := ifconvMergesUptoRow.holds Tryz.pinned (OpenSpec.upto ifconvMergesSpec)

/-- 'locksteplaw15.IfconvRight', WHERE WHAT IT READS IS OF BULK AT MOST 1048576: true; the input reads as it did. -/
def ifconvRightUptoRow : OpenClaim := { program := "ytlnbjgmjaioagaagreat", sum := "3bf1bd9dc17d9e4193234f62962254575fe5d14727163952966375c998bdc826", func := "lockstep/locksteplaw15.IfconvRight", spec := "ifconvRight", inPlace := ["slices.overlaps[int]"], unfollowed := true, recurses := true, apart := false, narrowed := true }
def IfconvRightUptoSaid : Prop := ifconvRightUptoRow.holds Tryz.pinned (OpenSpec.upto ifconvRightSpec)

/-- 'locksteplaw15.IfconvFewer', WHERE WHAT IT READS IS OF BULK AT MOST 1048576: true; the input reads as it did. -/
def ifconvFewerUptoRow : OpenClaim := { program := "ytlnbjgmjaioagaagreat", sum := "3bf1bd9dc17d9e4193234f62962254575fe5d14727163952966375c998bdc826", func := "lockstep/locksteplaw15.IfconvFewer", spec := "ifconvFewer", inPlace := ["slices.overlaps[int]"], unfollowed := true, recurses := true, apart := false, narrowed := true }
def IfconvFewerUptoSaid : Prop := ifconvFewerUptoRow.holds Tryz.pinned (OpenSpec.upto ifconvFewerSpec)

/-- 'locksteplaw15.IfconvChooses', WHERE WHAT IT READS IS OF BULK AT MOST 1048576: true; the input reads as it did. -/
def ifconvChoosesUptoRow : OpenClaim := { program := "ytlnbjgmjaioagaagreat", sum := "3bf1bd9dc17d9e4193234f62962254575fe5d14727163952966375c998bdc826", func := "lockstep/locksteplaw15.IfconvChooses", spec := "ifconvChooses", inPlace := ["slices.overlaps[int]"], unfollowed := true, recurses := true, apart := false, narrowed := true }
def IfconvChoosesUptoSaid : Prop := ifconvChoosesUptoRow.holds Tryz.pinned (OpenSpec.upto ifconvChoosesSpec)

end Rows
end Go.Proofs.YtlnbjgmjaioagaaGreat
