/-
  What comes in to the laws.
-/
import Derived.Test.YtcpopeamoipjlaaGen
import Derived.Test.YtcpopeamoipjlaaOpen
namespace Go.Proofs.Ytcpopeamoipjlaa
open Go Go.RowKit
def eLU8 (x : List (Int)) : List AV := [(AV.list 1 eU8 (0 : Int) x .none)]
def eLA2U8 (x : List ((Int × Int))) : List AV := [(AV.list 2 eA2U8 ((0 : Int), (0 : Int)) x .none)]
def okU8 (n : Int) : Prop := (Lit.int .u8 n).wf = true
theorem op_5 : Opens Try.prog 5 eU8 okU8 := opens_int Try.underlying5 (fun _ => rfl)
def okB (n : Bool) : Prop := True
theorem op_4 : Opens Try.prog 4 eB okB := opens_bool Try.underlying4 (fun _ => rfl)
def okI64 (n : Int) : Prop := (Lit.int .i64 n).wf = true
theorem op_3 : Opens Try.prog 3 eI64 okI64 := opens_int Try.underlying3 (fun _ => rfl)
def okLI64 (l : List (Int)) : Prop := (∀ a ∈ l, okI64 a) ∧ l.length ≤ maxLen
theorem op_22 : Opens Try.prog 22 eLI64 okLI64 := opens_slice (d := (0 : Int)) Try.underlying22 (by kernel_rfl) (by decide) op_3 (fun _ => rfl) (fun _ => rfl)
def okLLI64 (l : List (List (Int))) : Prop := (∀ a ∈ l, okLI64 a) ∧ l.length ≤ maxLen
theorem op_28 : Opens Try.prog 28 eLLI64 okLLI64 := opens_slice (d := []) Try.underlying28 (by kernel_rfl) (by decide) op_22 (fun _ => rfl) (fun _ => rfl)
def okTPhi (a : TPhi) : Prop := okI64 a.Bits ∧ okI64 a.Dst ∧ okLI64 a.From ∧ okLI64 a.Args ∧ True
theorem op_61 : Opens Try.prog 61 eTPhi okTPhi := Opens.to (opens_struct (N := 4) Try.underlying61 (by kernel_rfl) (opensF_cons (off := 0) (sz := 1) (N := 4) rfl (by kernel_rfl) (by decide) op_3 (opensF_cons (off := 1) (sz := 1) (N := 4) rfl (by kernel_rfl) (by decide) op_3 (opensF_cons (off := 2) (sz := 1) (N := 4) rfl (by kernel_rfl) (by decide) op_22 (opensF_cons (off := 3) (sz := 1) (N := 4) rfl (by kernel_rfl) (by decide) op_22 opensF_nil))))) (fun p => ⟨p.1, p.2.1, p.2.2.1, p.2.2.2.1⟩) (fun _ => rfl) (fun _ h => h)
def okLTPhi (l : List (TPhi)) : Prop := (∀ a ∈ l, okTPhi a) ∧ l.length ≤ maxLen
theorem op_55 : Opens Try.prog 55 eLTPhi okLTPhi := opens_slice (d := (default : TPhi)) Try.underlying55 (by kernel_rfl) (by decide) op_61 (fun _ => rfl) (fun _ => rfl)
def okU64 (n : Int) : Prop := (Lit.int .u64 n).wf = true
theorem op_51 : Opens Try.prog 51 eU64 okU64 := opens_int Try.underlying51 (fun _ => rfl)
def okTOp (a : TOp) : Prop := okI64 a.Kind ∧ okI64 a.Bits ∧ okI64 a.Lanes ∧ okI64 a.Dst ∧ okLI64 a.Args ∧ okU64 a.Imm ∧ True
theorem op_53 : Opens Try.prog 53 eTOp okTOp := Opens.to (opens_struct (N := 6) Try.underlying53 (by kernel_rfl) (opensF_cons (off := 0) (sz := 1) (N := 6) rfl (by kernel_rfl) (by decide) op_3 (opensF_cons (off := 1) (sz := 1) (N := 6) rfl (by kernel_rfl) (by decide) op_3 (opensF_cons (off := 2) (sz := 1) (N := 6) rfl (by kernel_rfl) (by decide) op_3 (opensF_cons (off := 3) (sz := 1) (N := 6) rfl (by kernel_rfl) (by decide) op_3 (opensF_cons (off := 4) (sz := 1) (N := 6) rfl (by kernel_rfl) (by decide) op_22 (opensF_cons (off := 5) (sz := 1) (N := 6) rfl (by kernel_rfl) (by decide) op_51 opensF_nil))))))) (fun p => ⟨p.1, p.2.1, p.2.2.1, p.2.2.2.1, p.2.2.2.2.1, p.2.2.2.2.2.1⟩) (fun _ => rfl) (fun _ h => h)
def okLTOp (l : List (TOp)) : Prop := (∀ a ∈ l, okTOp a) ∧ l.length ≤ maxLen
theorem op_54 : Opens Try.prog 54 eLTOp okLTOp := opens_slice (d := (default : TOp)) Try.underlying54 (by kernel_rfl) (by decide) op_53 (fun _ => rfl) (fun _ => rfl)
def okTEnd (a : TEnd) : Prop := okI64 a.Kind ∧ okI64 a.Arg ∧ okLI64 a.To ∧ True
theorem op_49 : Opens Try.prog 49 eTEnd okTEnd := Opens.to (opens_struct (N := 3) Try.underlying49 (by kernel_rfl) (opensF_cons (off := 0) (sz := 1) (N := 3) rfl (by kernel_rfl) (by decide) op_3 (opensF_cons (off := 1) (sz := 1) (N := 3) rfl (by kernel_rfl) (by decide) op_3 (opensF_cons (off := 2) (sz := 1) (N := 3) rfl (by kernel_rfl) (by decide) op_22 opensF_nil)))) (fun p => ⟨p.1, p.2.1, p.2.2.1⟩) (fun _ => rfl) (fun _ h => h)
def okTBlock (a : TBlock) : Prop := okLTPhi a.Phis ∧ okLTOp a.Ops ∧ okTEnd a.End ∧ True
theorem op_57 : Opens Try.prog 57 eTBlock okTBlock := Opens.to (opens_struct (N := 5) Try.underlying57 (by kernel_rfl) (opensF_cons (off := 0) (sz := 1) (N := 5) rfl (by kernel_rfl) (by decide) op_55 (opensF_cons (off := 1) (sz := 1) (N := 5) rfl (by kernel_rfl) (by decide) op_54 (opensF_cons (off := 2) (sz := 3) (N := 5) rfl (by kernel_rfl) (by decide) op_49 opensF_nil)))) (fun p => ⟨p.1, p.2.1, p.2.2.1⟩) (fun _ => rfl) (fun _ h => h)
def okLTBlock (l : List (TBlock)) : Prop := (∀ a ∈ l, okTBlock a) ∧ l.length ≤ maxLen
theorem op_23 : Opens Try.prog 23 eLTBlock okLTBlock := opens_slice (d := (default : TBlock)) Try.underlying23 (by kernel_rfl) (by decide) op_57 (fun _ => rfl) (fun _ => rfl)
def okTFunc (a : TFunc) : Prop := okLI64 a.Params ∧ okI64 a.Ret ∧ okLTBlock a.Blocks ∧ True
theorem op_25 : Opens Try.prog 25 eTFunc okTFunc := Opens.to (opens_struct (N := 3) Try.underlying25 (by kernel_rfl) (opensF_cons (off := 0) (sz := 1) (N := 3) rfl (by kernel_rfl) (by decide) op_22 (opensF_cons (off := 1) (sz := 1) (N := 3) rfl (by kernel_rfl) (by decide) op_3 (opensF_cons (off := 2) (sz := 1) (N := 3) rfl (by kernel_rfl) (by decide) op_23 opensF_nil)))) (fun p => ⟨p.1, p.2.1, p.2.2.1⟩) (fun _ => rfl) (fun _ h => h)
def okLU8 (l : List (Int)) : Prop := (∀ a ∈ l, okU8 a) ∧ l.length ≤ maxLen
theorem op_46 : Opens Try.prog 46 eLU8 okLU8 := opens_slice (d := (0 : Int)) Try.underlying46 (by kernel_rfl) (by decide) op_5 (fun _ => rfl) (fun _ => rfl)
def okA2U8 (p : (Int × Int)) : Prop := okU8 p.1 ∧ okU8 p.2
theorem op_50 : Opens Try.prog 50 eA2U8 okA2U8 := opens_array2 Try.underlying50 (by kernel_rfl) (by kernel_rfl) op_5 (fun _ => rfl)
def okLA2U8 (l : List ((Int × Int))) : Prop := (∀ a ∈ l, okA2U8 a) ∧ l.length ≤ maxLen
theorem op_47 : Opens Try.prog 47 eLA2U8 okLA2U8 := opens_slice (d := ((0 : Int), (0 : Int))) Try.underlying47 (by kernel_rfl) (by decide) op_50 (fun _ => rfl) (fun _ => rfl)
end Go.Proofs.Ytcpopeamoipjlaa
