/-
  What the package-level variables hold, told as cells; of others nothing is told.
-/
import Derived.Test.YtcpopeamoipjlaaAV
namespace Go.Proofs.Ytcpopeamoipjlaa
/-- What bytes are. -/
def tokU8 : Go.TypeId := 5
def globA : Nat → Option (List AV)
  | _ => none
end Go.Proofs.Ytcpopeamoipjlaa
