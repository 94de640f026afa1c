/-
  No cell of these rows narrows 'for every input' (looked for: loops, veiled, ifaces, maps, wideKeys, modest, calm, conditions, laid).
  DERIVED. THE GIVEN ROWS OF THIS SEAT. 5 by the template 'for every input the law returns true; each argument reads behind the call as it read before'; 0 by the template 'total and deterministic' (their statements: YtggpeloimmlkgaaGreatTotals.lean).
  GIVEN WITH THE SEED: the statements are not yours to turn. If you find one false, say at which input.
  Laid BY PROGRAM, IN A SANDBOX (cutbox-rows.mjs): the forced cells as the released guide's own fill.sh prints them over the translation 8783b04804631950… (all of the seat's roots in one cut). By AI agents, Wed Nov 11 2026. No macro, syntax, notation, axiom, sorry.
-/
import Derived.Test.YtggpeloimmlkgaaGreatChecked
import GoSem.Claim
import GoSem.ClaimJoined
import GoSem.ClaimMapViews
import Derived.JoinedTies
import Derived.KernelRfl
namespace Go.Proofs.YtggpeloimmlkgaaGreat
/- THE CELL 'sum', in the pinned program and in every row, IS THE sha256 OF THE DUMP (.gsa) THAT YtggpeloimmlkgaaGreatProg.lean LOADS. Nothing in Lean hashes anything: it is a label: what it is worth is what the hold of that sum in a sandbox is worth. -/
noncomputable def Tryz.pinned : Pinned := { name := "ytggpeloimmlkgaagreat", sum := "8783b04804631950e97063fd62356c7208a9179b8be58ef85b2430c1ea9a7e6e", checked := Tryz.checked }
namespace Rows
def none {H : Type} : Left H := { results := [], args := [] }

/-- 'locksteplaw11.CheckAll': WHATEVER THE INPUT: true; the input reads as it did. -/
def checkAllSpec : ChangeSpec := { name := "checkAll", fn := fun _ => fun
  | [d1, d2] => { results := [.lit (.bool true)], args := [d1, d2] }
  | _ => none }
def checkAllRow : OpenClaim := { program := "ytggpeloimmlkgaagreat", sum := "8783b04804631950e97063fd62356c7208a9179b8be58ef85b2430c1ea9a7e6e", func := "lockstep/locksteplaw11.CheckAll", spec := "checkAll", unfollowed := true, recurses := true, apart := false }
def CheckAllSaid : Prop := checkAllRow.holds Tryz.pinned (OpenSpec.ofChange checkAllSpec)

/-- ITS FALSE NEIGHBOUR: 'it returns false'. Refute it at one input. -/
def checkAllWrong : ChangeSpec := { name := "checkAll", fn := fun _ => fun
  | [d1, d2] => { results := [.lit (.bool false)], args := [d1, d2] }
  | _ => none }
def CheckAllWrongFalsely : Prop := checkAllRow.holds Tryz.pinned (OpenSpec.ofChange checkAllWrong)

/-- 'locksteplaw11.CheckLevels': WHATEVER THE INPUT: true; the input reads as it did. -/
def checkLevelsSpec : ChangeSpec := { name := "checkLevels", fn := fun _ => fun
  | [d] => { results := [.lit (.bool true)], args := [d] }
  | _ => none }
def checkLevelsRow : OpenClaim := { program := "ytggpeloimmlkgaagreat", sum := "8783b04804631950e97063fd62356c7208a9179b8be58ef85b2430c1ea9a7e6e", func := "lockstep/locksteplaw11.CheckLevels", spec := "checkLevels", unfollowed := true, recurses := true, apart := false }
def CheckLevelsSaid : Prop := checkLevelsRow.holds Tryz.pinned (OpenSpec.ofChange checkLevelsSpec)

/-- ITS FALSE NEIGHBOUR: 'it returns false'. Refute it at one input. -/
def checkLevelsWrong : ChangeSpec := { name := "checkLevels", fn := fun _ => fun
  | [d] => { results := [.lit (.bool false)], args := [d] }
  | _ => none }
def CheckLevelsWrongFalsely : Prop := checkLevelsRow.holds Tryz.pinned (OpenSpec.ofChange checkLevelsWrong)

/-- 'locksteplaw11.CheckOrder': WHATEVER THE INPUT: true; the input reads as it did. -/
def checkOrderSpec : ChangeSpec := { name := "checkOrder", fn := fun _ => fun
  | [d1, d2] => { results := [.lit (.bool true)], args := [d1, d2] }
  | _ => none }
def checkOrderRow : OpenClaim := { program := "ytggpeloimmlkgaagreat", sum := "8783b04804631950e97063fd62356c7208a9179b8be58ef85b2430c1ea9a7e6e", func := "lockstep/locksteplaw11.CheckOrder", spec := "checkOrder", unfollowed := true, recurses := true, apart := false }
def CheckOrderSaid : Prop := checkOrderRow.holds Tryz.pinned (OpenSpec.ofChange checkOrderSpec)

/-- ITS FALSE NEIGHBOUR: 'it returns false'. Refute it at one input. -/
def checkOrderWrong : ChangeSpec := { name := "checkOrder", fn := fun _ => fun
  | [d1, d2] => { results := [.lit (.bool false)], args := [d1, d2] }
  | _ => none }
def CheckOrderWrongFalsely : Prop := checkOrderRow.holds Tryz.pinned (OpenSpec.ofChange checkOrderWrong)

/-- 'locksteplaw11.CheckShapes': WHATEVER THE INPUT: true; the input reads as it did. -/
def checkShapesSpec : ChangeSpec := { name := "checkShapes", fn := fun _ => fun
  | [d1, d2] => { results := [.lit (.bool true)], args := [d1, d2] }
  | _ => none }
def checkShapesRow : OpenClaim := { program := "ytggpeloimmlkgaagreat", sum := "8783b04804631950e97063fd62356c7208a9179b8be58ef85b2430c1ea9a7e6e", func := "lockstep/locksteplaw11.CheckShapes", spec := "checkShapes", unfollowed := true, recurses := true, apart := false }
def CheckShapesSaid : Prop := checkShapesRow.holds Tryz.pinned (OpenSpec.ofChange checkShapesSpec)

/-- ITS FALSE NEIGHBOUR: 'it returns false'. Refute it at one input. -/
def checkShapesWrong : ChangeSpec := { name := "checkShapes", fn := fun _ => fun
  | [d1, d2] => { results := [.lit (.bool false)], args := [d1, d2] }
  | _ => none }
def CheckShapesWrongFalsely : Prop := checkShapesRow.holds Tryz.pinned (OpenSpec.ofChange checkShapesWrong)

/-- 'locksteplaw11.CheckRet': WHATEVER THE INPUT: true; the input reads as it did. -/
def checkRetSpec : ChangeSpec := { name := "checkRet", fn := fun _ => fun
  | [d1, d2] => { results := [.lit (.bool true)], args := [d1, d2] }
  | _ => none }
def checkRetRow : OpenClaim := { program := "ytggpeloimmlkgaagreat", sum := "8783b04804631950e97063fd62356c7208a9179b8be58ef85b2430c1ea9a7e6e", func := "lockstep/locksteplaw11.CheckRet", spec := "checkRet", unfollowed := true, recurses := true, apart := false }
def CheckRetSaid : Prop := checkRetRow.holds Tryz.pinned (OpenSpec.ofChange checkRetSpec)

/-- ITS FALSE NEIGHBOUR: 'it returns false'. Refute it at one input. -/
def checkRetWrong : ChangeSpec := { name := "checkRet", fn := fun _ => fun
  | [d1, d2] => { results := [.lit (.bool false)], args := [d1, d2] }
  | _ => none }
def CheckRetWrongFalsely : Prop := checkRetRow.holds Tryz.pinned (OpenSpec.ofChange checkRetWrong)

/- THE SECOND FORM. 'bulk': how many values and letters a reading holds, each counted each time it is reached (what is shared counts as often as it is met; a slice's spare places count too). A statement '..UptoSaid' is the law's where the arguments, and the package variables that the reading takes, are together of bulk at most 1048576: NARROWER than '..Said'. Prove '..Said' where nothing that the law and all that it calls make is longer than what came in: it says more and counts as full. Else prove '..UptoSaid'. A law counts once. -/
mutual
def uptoBulk {H : Type} : DataW H → Nat
  | .lit (.string bytes) => bytes.length + 1
  | .lit _ => 1
  | .nil => 1
  | .ptr d => uptoBulk d + 1
  | .slice elems spare => uptoBulkAll elems + uptoBulkAll spare + 1
  | .agg parts => uptoBulkAll parts + 1
  | .iface _ d => uptoBulk d + 1
  | .map entries => uptoBulkEntries entries + 1
  | .held _ => 1
def uptoBulkAll {H : Type} : List (DataW H) → Nat
  | [] => 0
  | d :: r => uptoBulk d + uptoBulkAll r
def uptoBulkEntries {H : Type} : List (Lit × DataW H) → Nat
  | [] => 0
  | x :: r => uptoBulkEntry x + uptoBulkEntries r
def uptoBulkEntry {H : Type} : Lit × DataW H → Nat
  | (.string bytes, d) => bytes.length + uptoBulk d + 1
  | (_, d) => uptoBulk d + 1
 end
def uptoSmall : (H : Type) → List (DataW H) → Bool := fun _ ds => decide (uptoBulkAll ds ≤ 1048576)
def OpenSpec.upto (s : _root_.Go.ChangeSpec) : _root_.Go.OpenSpec := { _root_.Go.OpenSpec.ofChange s with cond := some uptoSmall }

/-- 'locksteplaw11.CheckAll', WHERE WHAT IT READS IS OF BULK AT MOST 1048576: true; the input reads as it did. -/
def checkAllUptoRow : OpenClaim := { program := "ytggpeloimmlkgaagreat", sum := "8783b04804631950e97063fd62356c7208a9179b8be58ef85b2430c1ea9a7e6e", func := "lockstep/locksteplaw11.CheckAll", spec := "checkAll", unfollowed := true, recurses := true, apart := false, narrowed := true }
def CheckAllUptoSaid : Prop := checkAllUptoRow.holds Tryz.pinned (OpenSpec.upto checkAllSpec)

/-- 'locksteplaw11.CheckLevels', WHERE WHAT IT READS IS OF BULK AT MOST 1048576: true; the input reads as it did. -/
def checkLevelsUptoRow : OpenClaim := { program := "ytggpeloimmlkgaagreat", sum := "8783b04804631950e97063fd62356c7208a9179b8be58ef85b2430c1ea9a7e6e", func := "lockstep/locksteplaw11.CheckLevels", spec := "checkLevels", unfollowed := true, recurses := true, apart := false, narrowed := true }
def CheckLevelsUptoSaid : Prop := checkLevelsUptoRow.holds Tryz.pinned (OpenSpec.upto checkLevelsSpec)

/-- 'locksteplaw11.CheckOrder', WHERE WHAT IT READS IS OF BULK AT MOST 1048576: true; the input reads as it did. -/
def checkOrderUptoRow : OpenClaim := { program := "ytggpeloimmlkgaagreat", sum := "8783b04804631950e97063fd62356c7208a9179b8be58ef85b2430c1ea9a7e6e", func := "lockstep/locksteplaw11.CheckOrder", spec := "checkOrder", unfollowed := true, recurses := true, apart := false, narrowed := true }
def CheckOrderUptoSaid : Prop := checkOrderUptoRow.holds Tryz.pinned (OpenSpec.upto checkOrderSpec)

/-- 'locksteplaw11.CheckShapes', WHERE WHAT IT READS IS OF BULK AT MOST 1048576: true; the input reads as it did. -/
def checkShapesUptoRow : OpenClaim := { program := "ytggpeloimmlkgaagreat", sum := "8783b04804631950e97063fd62356c7208a9179b8be58ef85b2430c1ea9a7e6e", func := "lockstep/locksteplaw11.CheckShapes", spec := "checkShapes", unfollowed := true, recurses := true, apart := false, narrowed := true }
def CheckShapesUptoSaid : Prop := checkShapesUptoRow.holds Tryz.pinned (OpenSpec.upto checkShapesSpec)

/-- 'locksteplaw11.CheckRet', WHERE WHAT IT READS IS OF BULK AT MOST 1048576: true; the input reads as it did. -/
def checkRetUptoRow : OpenClaim := { program := "ytggpeloimmlkgaagreat", sum := "8783b04804631950e97063fd62356c7208a9179b8be58ef85b2430c1ea9a7e6e", func := "lockstep/locksteplaw11.CheckRet", spec := "checkRet", unfollowed := true, recurses := true, apart := false, narrowed := true }
def CheckRetUptoSaid : Prop := checkRetUptoRow.holds Tryz.pinned (OpenSpec.upto checkRetSpec)

end Rows
end Go.Proofs.YtggpeloimmlkgaaGreat
