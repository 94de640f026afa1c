/-
  No cell of these rows narrows 'for every input' (looked for: loops, veiled, ifaces, maps, wideKeys, modest, calm, conditions, laid).
  DERIVED. THE GIVEN ROWS OF THIS SEAT. 7 by the template 'for every input the law returns true; each argument reads behind the call as it read before'; 0 by the template 'total and deterministic' (their statements: YtfhggcbcamamdaaGreatTotals.lean).
  GIVEN WITH THE SEED: the statements are not yours to turn. If you find one false, say at which input.
  Laid BY PROGRAM, IN A SANDBOX (cutbox-rows.mjs): the forced cells as the released guide's own fill.sh prints them over the translation 4b51f21182e42d90… (all of the seat's roots in one cut). By AI agents, Wed Nov 11 2026. No macro, syntax, notation, axiom, sorry.
-/
import Derived.Test.YtfhggcbcamamdaaGreatChecked
import GoSem.Claim
import GoSem.ClaimJoined
import GoSem.ClaimMapViews
import Derived.JoinedTies
import Derived.KernelRfl
namespace Go.Proofs.YtfhggcbcamamdaaGreat
/- THE CELL 'sum', in the pinned program and in every row, IS THE sha256 OF THE DUMP (.gsa) THAT YtfhggcbcamamdaaGreatProg.lean LOADS. Nothing in Lean hashes anything: it is a label: what it is worth is what the hold of that sum in a sandbox is worth. -/
noncomputable def Tryz.pinned : Pinned := { name := "ytfhggcbcamamdaagreat", sum := "4b51f21182e42d90612069dc476d77f67244a5ecf7d3316f74e3573b906a1629", checked := Tryz.checked }
namespace Rows
def none {H : Type} : Left H := { results := [], args := [] }

/-- 'locksteplaw16.TidyMakes': WHATEVER THE INPUT: true; the input reads as it did. -/
def tidyMakesSpec : ChangeSpec := { name := "tidyMakes", fn := fun _ => fun
  | [d] => { results := [.lit (.bool true)], args := [d] }
  | _ => none }
def tidyMakesRow : OpenClaim := { program := "ytfhggcbcamamdaagreat", sum := "4b51f21182e42d90612069dc476d77f67244a5ecf7d3316f74e3573b906a1629", func := "lockstep/locksteplaw16.TidyMakes", spec := "tidyMakes", inPlace := ["slices.overlaps[int]"], unfollowed := true, recurses := true, apart := false }
def TidyMakesSaid : Prop := tidyMakesRow.holds Tryz.pinned (OpenSpec.ofChange tidyMakesSpec)

/-- ITS FALSE NEIGHBOUR: 'it returns false'. Refute it at one input. -/
def tidyMakesWrong : ChangeSpec := { name := "tidyMakes", fn := fun _ => fun
  | [d] => { results := [.lit (.bool false)], args := [d] }
  | _ => none }
def TidyMakesWrongFalsely : Prop := tidyMakesRow.holds Tryz.pinned (OpenSpec.ofChange tidyMakesWrong)

/-- 'locksteplaw16.TidyRight': WHATEVER THE INPUT: true; the input reads as it did. -/
def tidyRightSpec : ChangeSpec := { name := "tidyRight", fn := fun _ => fun
  | [d1, d2] => { results := [.lit (.bool true)], args := [d1, d2] }
  | _ => none }
def tidyRightRow : OpenClaim := { program := "ytfhggcbcamamdaagreat", sum := "4b51f21182e42d90612069dc476d77f67244a5ecf7d3316f74e3573b906a1629", func := "lockstep/locksteplaw16.TidyRight", spec := "tidyRight", inPlace := ["slices.overlaps[int]"], unfollowed := true, recurses := true, apart := false }
def TidyRightSaid : Prop := tidyRightRow.holds Tryz.pinned (OpenSpec.ofChange tidyRightSpec)

/-- ITS FALSE NEIGHBOUR: 'it returns false'. Refute it at one input. -/
def tidyRightWrong : ChangeSpec := { name := "tidyRight", fn := fun _ => fun
  | [d1, d2] => { results := [.lit (.bool false)], args := [d1, d2] }
  | _ => none }
def TidyRightWrongFalsely : Prop := tidyRightRow.holds Tryz.pinned (OpenSpec.ofChange tidyRightWrong)

/-- 'locksteplaw16.TidyKeeps': WHATEVER THE INPUT: true; the input reads as it did. -/
def tidyKeepsSpec : ChangeSpec := { name := "tidyKeeps", fn := fun _ => fun
  | [d1, d2] => { results := [.lit (.bool true)], args := [d1, d2] }
  | _ => none }
def tidyKeepsRow : OpenClaim := { program := "ytfhggcbcamamdaagreat", sum := "4b51f21182e42d90612069dc476d77f67244a5ecf7d3316f74e3573b906a1629", func := "lockstep/locksteplaw16.TidyKeeps", spec := "tidyKeeps", inPlace := ["slices.overlaps[int]"], unfollowed := true, recurses := true, apart := false }
def TidyKeepsSaid : Prop := tidyKeepsRow.holds Tryz.pinned (OpenSpec.ofChange tidyKeepsSpec)

/-- ITS FALSE NEIGHBOUR: 'it returns false'. Refute it at one input. -/
def tidyKeepsWrong : ChangeSpec := { name := "tidyKeeps", fn := fun _ => fun
  | [d1, d2] => { results := [.lit (.bool false)], args := [d1, d2] }
  | _ => none }
def TidyKeepsWrongFalsely : Prop := tidyKeepsRow.holds Tryz.pinned (OpenSpec.ofChange tidyKeepsWrong)

/-- 'locksteplaw16.TidyNone': WHATEVER THE INPUT: true; the input reads as it did. -/
def tidyNoneSpec : ChangeSpec := { name := "tidyNone", fn := fun _ => fun
  | [d] => { results := [.lit (.bool true)], args := [d] }
  | _ => none }
def tidyNoneRow : OpenClaim := { program := "ytfhggcbcamamdaagreat", sum := "4b51f21182e42d90612069dc476d77f67244a5ecf7d3316f74e3573b906a1629", func := "lockstep/locksteplaw16.TidyNone", spec := "tidyNone", inPlace := ["slices.overlaps[int]"], unfollowed := true, recurses := true, apart := false }
def TidyNoneSaid : Prop := tidyNoneRow.holds Tryz.pinned (OpenSpec.ofChange tidyNoneSpec)

/-- ITS FALSE NEIGHBOUR: 'it returns false'. Refute it at one input. -/
def tidyNoneWrong : ChangeSpec := { name := "tidyNone", fn := fun _ => fun
  | [d] => { results := [.lit (.bool false)], args := [d] }
  | _ => none }
def TidyNoneWrongFalsely : Prop := tidyNoneRow.holds Tryz.pinned (OpenSpec.ofChange tidyNoneWrong)

/-- 'locksteplaw16.TidyTwo': WHATEVER THE INPUT: true; the input reads as it did. -/
def tidyTwoSpec : ChangeSpec := { name := "tidyTwo", fn := fun _ => fun
  | [d] => { results := [.lit (.bool true)], args := [d] }
  | _ => none }
def tidyTwoRow : OpenClaim := { program := "ytfhggcbcamamdaagreat", sum := "4b51f21182e42d90612069dc476d77f67244a5ecf7d3316f74e3573b906a1629", func := "lockstep/locksteplaw16.TidyTwo", spec := "tidyTwo", inPlace := ["slices.overlaps[int]"], unfollowed := true, recurses := true, apart := false }
def TidyTwoSaid : Prop := tidyTwoRow.holds Tryz.pinned (OpenSpec.ofChange tidyTwoSpec)

/-- ITS FALSE NEIGHBOUR: 'it returns false'. Refute it at one input. -/
def tidyTwoWrong : ChangeSpec := { name := "tidyTwo", fn := fun _ => fun
  | [d] => { results := [.lit (.bool false)], args := [d] }
  | _ => none }
def TidyTwoWrongFalsely : Prop := tidyTwoRow.holds Tryz.pinned (OpenSpec.ofChange tidyTwoWrong)

/-- 'locksteplaw16.TidyChain': WHATEVER THE INPUT: true; the input reads as it did. -/
def tidyChainSpec : ChangeSpec := { name := "tidyChain", fn := fun _ => fun
  | [d1, d2] => { results := [.lit (.bool true)], args := [d1, d2] }
  | _ => none }
def tidyChainRow : OpenClaim := { program := "ytfhggcbcamamdaagreat", sum := "4b51f21182e42d90612069dc476d77f67244a5ecf7d3316f74e3573b906a1629", func := "lockstep/locksteplaw16.TidyChain", spec := "tidyChain", inPlace := ["slices.overlaps[int]"], unfollowed := true, recurses := true, apart := false }
def TidyChainSaid : Prop := tidyChainRow.holds Tryz.pinned (OpenSpec.ofChange tidyChainSpec)

/-- ITS FALSE NEIGHBOUR: 'it returns false'. Refute it at one input. -/
def tidyChainWrong : ChangeSpec := { name := "tidyChain", fn := fun _ => fun
  | [d1, d2] => { results := [.lit (.bool false)], args := [d1, d2] }
  | _ => none }
def TidyChainWrongFalsely : Prop := tidyChainRow.holds Tryz.pinned (OpenSpec.ofChange tidyChainWrong)

/-- 'locksteplaw15.IfconvRight': WHATEVER THE INPUT: true; the input reads as it did. -/
def ifconvRightSpec : ChangeSpec := { name := "ifconvRight", fn := fun _ => fun
  | [d1, d2] => { results := [.lit (.bool true)], args := [d1, d2] }
  | _ => none }
def ifconvRightRow : OpenClaim := { program := "ytfhggcbcamamdaagreat", sum := "4b51f21182e42d90612069dc476d77f67244a5ecf7d3316f74e3573b906a1629", func := "lockstep/locksteplaw15.IfconvRight", spec := "ifconvRight", inPlace := ["slices.overlaps[int]"], unfollowed := true, recurses := true, apart := false }
def IfconvRightSaid : Prop := ifconvRightRow.holds Tryz.pinned (OpenSpec.ofChange ifconvRightSpec)

/-- ITS FALSE NEIGHBOUR: 'it returns false'. Refute it at one input. -/
def ifconvRightWrong : ChangeSpec := { name := "ifconvRight", fn := fun _ => fun
  | [d1, d2] => { results := [.lit (.bool false)], args := [d1, d2] }
  | _ => none }
def IfconvRightWrongFalsely : Prop := ifconvRightRow.holds Tryz.pinned (OpenSpec.ofChange ifconvRightWrong)

/- THE SECOND FORM. 'bulk': how many values and letters a reading holds, each counted each time it is reached (what is shared counts as often as it is met; a slice's spare places count too). A statement '..UptoSaid' is the law's where the arguments, and the package variables that the reading takes, are together of bulk at most 1048576: NARROWER than '..Said'. Prove '..Said' where nothing that the law and all that it calls make is longer than what came in: it says more and counts as full. Else prove '..UptoSaid'. A law counts once. -/
mutual
def uptoBulk {H : Type} : DataW H → Nat
  | .lit (.string bytes) => bytes.length + 1
  | .lit _ => 1
  | .nil => 1
  | .ptr d => uptoBulk d + 1
  | .slice elems spare => uptoBulkAll elems + uptoBulkAll spare + 1
  | .agg parts => uptoBulkAll parts + 1
  | .iface _ d => uptoBulk d + 1
  | .map entries => uptoBulkEntries entries + 1
  | .held _ => 1
def uptoBulkAll {H : Type} : List (DataW H) → Nat
  | [] => 0
  | d :: r => uptoBulk d + uptoBulkAll r
def uptoBulkEntries {H : Type} : List (Lit × DataW H) → Nat
  | [] => 0
  | x :: r => uptoBulkEntry x + uptoBulkEntries r
def uptoBulkEntry {H : Type} : Lit × DataW H → Nat
  | (.string bytes, d) => bytes.length + uptoBulk d + 1
  | (_, d) => uptoBulk d + 1
 end
def uptoSmall : (H : Type) → List (DataW H) → Bool := fun _ ds => decide (uptoBulkAll ds ≤ 1048576)
def OpenSpec.upto (s : _root_.Go.ChangeSpec) : _root_.Go.OpenSpec := { _root_.Go.OpenSpec.ofChange s with cond := some uptoSmall }

/-- 'locksteplaw16.TidyMakes', WHERE WHAT IT READS IS OF BULK AT MOST 1048576: true; the input reads as it did. -/
def tidyMakesUptoRow : OpenClaim := { program := "ytfhggcbcamamdaagreat", sum := "4b51f21182e42d90612069dc476d77f67244a5ecf7d3316f74e3573b906a1629", func := "lockstep/locksteplaw16.TidyMakes", spec := "tidyMakes", inPlace := ["slices.overlaps[int]"], unfollowed := true, recurses := true, apart := false, narrowed := true }
def TidyMakesUptoSaid : Prop := tidyMakesUptoRow.holds Tryz.pinned (OpenSpec.upto tidyMakesSpec)

/-- 'locksteplaw16.TidyRight', WHERE WHAT IT READS IS OF BULK AT MOST 1048576: true; the input reads as it did. -/
def tidyRightUptoRow : OpenClaim := { program := "ytfhggcbcamamdaagreat", sum := "4b51f21182e42d90612069dc476d77f67244a5ecf7d3316f74e3573b906a1629", func := "lockstep/locksteplaw16.TidyRight", spec := "tidyRight", inPlace := ["slices.overlaps[int]"], unfollowed := true, recurses := true, apart := false, narrowed := true }
def TidyRightUptoSaid : Prop := tidyRightUptoRow.holds Tryz.pinned (OpenSpec.upto tidyRightSpec)

/-- 'locksteplaw16.TidyKeeps', WHERE WHAT IT READS IS OF BULK AT MOST 1048576: true; the input reads as it did. -/
def tidyKeepsUptoRow : OpenClaim := { program := "ytfhggcbcamamdaagreat", sum := "4b51f21182e42d90612069dc476d77f67244a5ecf7d3316f74e3573b906a1629", func := "lockstep/locksteplaw16.TidyKeeps", spec := "tidyKeeps", inPlace := ["slices.overlaps[int]"], unfollowed := true, recurses := true, apart := false, narrowed := true }
def TidyKeepsUptoSaid : Prop := tidyKeepsUptoRow.holds Tryz.pinned (OpenSpec.upto tidyKeepsSpec)

/-- 'locksteplaw16.TidyNone', WHERE WHAT IT READS IS OF BULK AT MOST 1048576: true; the input reads as it did. -/
def tidyNoneUptoRow : OpenClaim := { program := "ytfhggcbcamamdaagreat", sum := "4b51f21182e42d90612069dc476d77f67244a5ecf7d3316f74e3573b906a1629", func := "lockstep/locksteplaw16.TidyNone", spec := "tidyNone", inPlace := ["slices.overlaps[int]"], unfollowed := true, recurses := true, apart := false, narrowed := true }
def TidyNoneUptoSaid : Prop := tidyNoneUptoRow.holds Tryz.pinned (OpenSpec.upto tidyNoneSpec)

/-- 'locksteplaw16.TidyTwo', WHERE WHAT IT READS IS OF BULK AT MOST 1048576: true; the input reads as it did. -/
def tidyTwoUptoRow : OpenClaim := { program := "ytfhggcbcamamdaagreat", sum := "4b51f21182e42d90612069dc476d77f67244a5ecf7d3316f74e3573b906a1629", func := "lockstep/locksteplaw16.TidyTwo", spec := "tidyTwo", inPlace := ["slices.overlaps[int]"], unfollowed := true, recurses := true, apart := false, narrowed := true }
def TidyTwoUptoSaid : Prop := tidyTwoUptoRow.holds Tryz.pinned (OpenSpec.upto tidyTwoSpec)

/-- 'locksteplaw16.TidyChain', WHERE WHAT IT READS IS OF BULK AT MOST 1048576: true; the input reads as it did. -/
def tidyChainUptoRow : OpenClaim := { program := "ytfhggcbcamamdaagreat", sum := "4b51f21182e42d90612069dc476d77f67244a5ecf7d3316f74e3573b906a1629", func := "lockstep/locksteplaw16.TidyChain", spec := "tidyChain", inPlace := ["slices.overlaps[int]"], unfollowed := true, recurses := true, apart := false, narrowed := true }
def TidyChainUptoSaid : Prop := tidyChainUptoRow.holds Tryz.pinned (OpenSpec.upto tidyChainSpec)

/-- 'locksteplaw15.IfconvRight', WHERE WHAT IT READS IS OF BULK AT MOST 1048576: true; the input reads as it did. -/
def ifconvRightUptoRow : OpenClaim := { program := "ytfhggcbcamamdaagreat", sum := "4b51f21182e42d90612069dc476d77f67244a5ecf7d3316f74e3573b906a1629", func := "lockstep/locksteplaw15.IfconvRight", spec := "ifconvRight", inPlace := ["slices.overlaps[int]"], unfollowed := true, recurses := true, apart := false, narrowed := true }
def IfconvRightUptoSaid : Prop := ifconvRightUptoRow.holds Tryz.pinned (OpenSpec.upto ifconvRightSpec)

end Rows
end Go.Proofs.YtfhggcbcamamdaaGreat
