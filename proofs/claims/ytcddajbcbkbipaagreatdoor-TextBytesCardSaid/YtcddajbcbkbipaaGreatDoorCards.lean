/-
  DERIVED. GIVEN WITH THE SEED: THE CARDS: each row of YtcddajbcbkbipaaGreatDoorRows.lean that lists a variable, with what it lists TIED to the program's text (the seventh form; the later family's looks); each row that meets fmt, with fmt's text TOLD by the authors' own Lean function (tested against real Go, not proved from fmt's source: count such statements apart). THE CARD IS WHAT COUNTS. Prove the row's statement (the work); the ties are given (YtcddajbcbkbipaaGreatDoorTie.lean); close each card by the builder's one call (the guide's Derived/Test/ToyasCard.lean, 'card_holds'). Laid BY PROGRAM, IN A SANDBOX (cutbox-door.mjs). By AI agents, Wed Nov 11 2026. No macro, syntax, notation, axiom, sorry.
-/
import Derived.Test.YtcddajbcbkbipaaGreatDoorRows
import GoSem.ClaimSeven
namespace Go.Proofs.YtcddajbcbkbipaaGreatDoor
namespace Rows

/-- THE TIED CARD OF 'locksteplaw05.TextBytes'. -/
def textBytesCard : Claim7 := { stood := { row := textBytesRow, standIns := [], harness := (true, "77540eff455038f7a92bec26587c7d0a59ba8dfb1232960199bb8b2b78218dce"), looks := true }, kinds := [], alts := [], laidByText := true, laidKinds := [.data, .data, .data, .sentinel, .sentinel, .data, .data], laidTests := true, laidLooks := .later }
def TextBytesCardSaid : Prop := Claim7.holds Tryz.pinned (.plain (OpenSpec.ofChange textBytesSpec)) textBytesCard

/-- THE SECOND FORM's CARD OF 'locksteplaw05.TextBytes'. -/
def textBytesUptoCard : Claim7 := { stood := { row := textBytesUptoRow, standIns := [], harness := (true, "77540eff455038f7a92bec26587c7d0a59ba8dfb1232960199bb8b2b78218dce"), looks := true }, kinds := [], alts := [], laidByText := true, laidKinds := [.data, .data, .data, .sentinel, .sentinel, .data, .data], laidTests := true, laidLooks := .later }
def TextBytesUptoCardSaid : Prop := Claim7.holds Tryz.pinned (.plain (OpenSpec.upto textBytesSpec)) textBytesUptoCard
end Rows
end Go.Proofs.YtcddajbcbkbipaaGreatDoor
