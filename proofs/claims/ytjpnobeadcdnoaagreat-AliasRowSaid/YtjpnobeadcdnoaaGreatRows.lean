/-
  No cell of these rows narrows 'for every input' (looked for: loops, veiled, ifaces, maps, wideKeys, modest, calm, conditions, laid).
  DERIVED. THE GIVEN ROWS OF THIS SEAT. 4 by the template 'for every input the law returns true; each argument reads behind the call as it read before'; 0 by the template 'total and deterministic' (their statements: YtjpnobeadcdnoaaGreatTotals.lean).
  GIVEN WITH THE SEED: the statements are not yours to turn. If you find one false, say at which input.
  Laid BY PROGRAM, IN A SANDBOX (cutbox-rows.mjs): the forced cells as the released guide's own fill.sh prints them over the translation 322c7d8286e6747c… (all of the seat's roots in one cut). By AI agents, Wed Nov 11 2026. No macro, syntax, notation, axiom, sorry.
-/
import Derived.Test.YtjpnobeadcdnoaaGreatChecked
import GoSem.Claim
import GoSem.ClaimJoined
import GoSem.ClaimMapViews
import Derived.JoinedTies
import Derived.KernelRfl
namespace Go.Proofs.YtjpnobeadcdnoaaGreat
/- THE CELL 'sum', in the pinned program and in every row, IS THE sha256 OF THE DUMP (.gsa) THAT YtjpnobeadcdnoaaGreatProg.lean LOADS. Nothing in Lean hashes anything: it is a label: what it is worth is what the hold of that sum in a sandbox is worth. -/
noncomputable def Tryz.pinned : Pinned := { name := "ytjpnobeadcdnoaagreat", sum := "322c7d8286e6747cd1cd876650b09e0b873c251b84750414bf0ded5c2bdb7646", checked := Tryz.checked }
namespace Rows
def none {H : Type} : Left H := { results := [], args := [] }

/-- 'locksteplaw18.AliasTells': WHATEVER THE INPUT: true; the input reads as it did. -/
def aliasTellsSpec : ChangeSpec := { name := "aliasTells", fn := fun _ => fun
  | [d1, d2] => { results := [.lit (.bool true)], args := [d1, d2] }
  | _ => none }
def aliasTellsRow : OpenClaim := { program := "ytjpnobeadcdnoaagreat", sum := "322c7d8286e6747cd1cd876650b09e0b873c251b84750414bf0ded5c2bdb7646", func := "lockstep/locksteplaw18.AliasTells", spec := "aliasTells", unfollowed := true, recurses := true, apart := false }
def AliasTellsSaid : Prop := aliasTellsRow.holds Tryz.pinned (OpenSpec.ofChange aliasTellsSpec)

/-- ITS FALSE NEIGHBOUR: 'it returns false'. Refute it at one input. -/
def aliasTellsWrong : ChangeSpec := { name := "aliasTells", fn := fun _ => fun
  | [d1, d2] => { results := [.lit (.bool false)], args := [d1, d2] }
  | _ => none }
def AliasTellsWrongFalsely : Prop := aliasTellsRow.holds Tryz.pinned (OpenSpec.ofChange aliasTellsWrong)

/-- 'locksteplaw18.AliasRow': WHATEVER THE INPUT: true; the input reads as it did. -/
def aliasRowSpec : ChangeSpec := { name := "aliasRow", fn := fun _ => fun
  | [d1, d2, d3] => { results := [.lit (.bool true)], args := [d1, d2, d3] }
  | _ => none }
def aliasRowRow : OpenClaim := { program := "ytjpnobeadcdnoaagreat", sum := "322c7d8286e6747cd1cd876650b09e0b873c251b84750414bf0ded5c2bdb7646", func := "lockstep/locksteplaw18.AliasRow", spec := "aliasRow", unfollowed := true, recurses := true, apart := false }
def AliasRowSaid : Prop := aliasRowRow.holds Tryz.pinned (OpenSpec.ofChange aliasRowSpec)

/-- ITS FALSE NEIGHBOUR: 'it returns false'. Refute it at one input. -/
def aliasRowWrong : ChangeSpec := { name := "aliasRow", fn := fun _ => fun
  | [d1, d2, d3] => { results := [.lit (.bool false)], args := [d1, d2, d3] }
  | _ => none }
def AliasRowWrongFalsely : Prop := aliasRowRow.holds Tryz.pinned (OpenSpec.ofChange aliasRowWrong)

/-- 'locksteplaw18.AliasBoth': WHATEVER THE INPUT: true; the input reads as it did. -/
def aliasBothSpec : ChangeSpec := { name := "aliasBoth", fn := fun _ => fun
  | [d1, d2] => { results := [.lit (.bool true)], args := [d1, d2] }
  | _ => none }
def aliasBothRow : OpenClaim := { program := "ytjpnobeadcdnoaagreat", sum := "322c7d8286e6747cd1cd876650b09e0b873c251b84750414bf0ded5c2bdb7646", func := "lockstep/locksteplaw18.AliasBoth", spec := "aliasBoth", unfollowed := true, recurses := true, apart := false }
def AliasBothSaid : Prop := aliasBothRow.holds Tryz.pinned (OpenSpec.ofChange aliasBothSpec)

/-- ITS FALSE NEIGHBOUR: 'it returns false'. Refute it at one input. -/
def aliasBothWrong : ChangeSpec := { name := "aliasBoth", fn := fun _ => fun
  | [d1, d2] => { results := [.lit (.bool false)], args := [d1, d2] }
  | _ => none }
def AliasBothWrongFalsely : Prop := aliasBothRow.holds Tryz.pinned (OpenSpec.ofChange aliasBothWrong)

/-- 'locksteplaw18.AliasOther': WHATEVER THE INPUT: true; the input reads as it did. -/
def aliasOtherSpec : ChangeSpec := { name := "aliasOther", fn := fun _ => fun
  | [d1, d2] => { results := [.lit (.bool true)], args := [d1, d2] }
  | _ => none }
def aliasOtherRow : OpenClaim := { program := "ytjpnobeadcdnoaagreat", sum := "322c7d8286e6747cd1cd876650b09e0b873c251b84750414bf0ded5c2bdb7646", func := "lockstep/locksteplaw18.AliasOther", spec := "aliasOther", unfollowed := true, recurses := true, apart := false }
def AliasOtherSaid : Prop := aliasOtherRow.holds Tryz.pinned (OpenSpec.ofChange aliasOtherSpec)

/-- ITS FALSE NEIGHBOUR: 'it returns false'. Refute it at one input. -/
def aliasOtherWrong : ChangeSpec := { name := "aliasOther", fn := fun _ => fun
  | [d1, d2] => { results := [.lit (.bool false)], args := [d1, d2] }
  | _ => none }
def AliasOtherWrongFalsely : Prop := aliasOtherRow.holds Tryz.pinned (OpenSpec.ofChange aliasOtherWrong)

/- THE SECOND FORM. 'bulk': how many values and letters a reading holds, each counted each time it is reached (what is shared counts as often as it is met; a slice's spare places count too). A statement '..UptoSaid' is the law's where the arguments, and the package variables that the reading takes, are together of bulk at most 1048576: NARROWER than '..Said'. Prove '..Said' where nothing that the law and all that it calls make is longer than what came in: it says more and counts as full. Else prove '..UptoSaid'. A law counts once. -/
mutual
def uptoBulk {H : Type} : DataW H → Nat
  | .lit (.string bytes) => bytes.length + 1
  | .lit _ => 1
  | .nil => 1
  | .ptr d => uptoBulk d + 1
  | .slice elems spare => uptoBulkAll elems + uptoBulkAll spare + 1
  | .agg parts => uptoBulkAll parts + 1
  | .iface _ d => uptoBulk d + 1
  | .map entries => uptoBulkEntries entries + 1
  | .held _ => 1
def uptoBulkAll {H : Type} : List (DataW H) → Nat
  | [] => 0
  | d :: r => uptoBulk d + uptoBulkAll r
def uptoBulkEntries {H : Type} : List (Lit × DataW H) → Nat
  | [] => 0
  | x :: r => uptoBulkEntry x + uptoBulkEntries r
def uptoBulkEntry {H : Type} : Lit × DataW H → Nat
  | (.string bytes, d) => bytes.length + uptoBulk d + 1
  | (_, d) => uptoBulk d + 1
 end
def uptoSmall : (H : Type) → List (DataW H) → Bool := fun _ ds => decide (uptoBulkAll ds ≤ 1048576)
def OpenSpec.upto (s : _root_.Go.ChangeSpec) : _root_.Go.OpenSpec := { _root_.Go.OpenSpec.ofChange s with cond := some uptoSmall }

/-- 'locksteplaw18.AliasTells', WHERE WHAT IT READS IS OF BULK AT MOST 1048576: true; the input reads as it did. -/
def aliasTellsUptoRow : OpenClaim := { program := "ytjpnobeadcdnoaagreat", sum := "322c7d8286e6747cd1cd876650b09e0b873c251b84750414bf0ded5c2bdb7646", func := "lockstep/locksteplaw18.AliasTells", spec := "aliasTells", unfollowed := true, recurses := true, apart := false, narrowed := true }
def AliasTellsUptoSaid : Prop := aliasTellsUptoRow.holds Tryz.pinned (OpenSpec.upto aliasTellsSpec)

/-- 'locksteplaw18.AliasRow', WHERE WHAT IT READS IS OF BULK AT MOST 1048576: true; the input reads as it did. -/
def aliasRowUptoRow : OpenClaim := { program := "ytjpnobeadcdnoaagreat", sum := "322c7d8286e6747cd1cd876650b09e0b873c251b84750414bf0ded5c2bdb7646", func := "lockstep/locksteplaw18.AliasRow", spec := "aliasRow", unfollowed := true, recurses := true, apart := false, narrowed := true }
def AliasRowUptoSaid : Prop := aliasRowUptoRow.holds Tryz.pinned (OpenSpec.upto aliasRowSpec)

/-- 'locksteplaw18.AliasBoth', WHERE WHAT IT READS IS OF BULK AT MOST 1048576: true; the input reads as it did. -/
def aliasBothUptoRow : OpenClaim := { program := "ytjpnobeadcdnoaagreat", sum := "322c7d8286e6747cd1cd876650b09e0b873c251b84750414bf0ded5c2bdb7646", func := "lockstep/locksteplaw18.AliasBoth", spec := "aliasBoth", unfollowed := true, recurses := true, apart := false, narrowed := true }
def AliasBothUptoSaid : Prop := aliasBothUptoRow.holds Tryz.pinned (OpenSpec.upto aliasBothSpec)

/-- 'locksteplaw18.AliasOther', WHERE WHAT IT READS IS OF BULK AT MOST 1048576: true; the input reads as it did. -/
def aliasOtherUptoRow : OpenClaim := { program := "ytjpnobeadcdnoaagreat", sum := "322c7d8286e6747cd1cd876650b09e0b873c251b84750414bf0ded5c2bdb7646", func := "lockstep/locksteplaw18.AliasOther", spec := "aliasOther", unfollowed := true, recurses := true, apart := false, narrowed := true }
def AliasOtherUptoSaid : Prop := aliasOtherUptoRow.holds Tryz.pinned (OpenSpec.upto aliasOtherSpec)

end Rows
end Go.Proofs.YtjpnobeadcdnoaaGreat
