/-
  What comes in to the laws.
-/
import Derived.Test.YtkbbdfkpclbdhaaGen3
import Derived.Test.YtkbbdfkpclbdhaaOpen
namespace Go.Proofs.Ytkbbdfkpclbdhaa
open Go Go.RowKit
def okI64 (n : Int) : Prop := (Lit.int .i64 n).wf = true
theorem op_3 : Opens Try.prog 3 eI64 okI64 := opens_int Try.underlying3 (fun _ => rfl)
def okLI64 (l : List (Int)) : Prop := (∀ a ∈ l, okI64 a) ∧ l.length ≤ maxLen
theorem op_22 : Opens Try.prog 22 eLI64 okLI64 := opens_slice (d := (0 : Int)) Try.underlying22 (by kernel_rfl) (by decide) op_3 (fun _ => rfl) (fun _ => rfl)
def okU64 (n : Int) : Prop := (Lit.int .u64 n).wf = true
theorem op_23 : Opens Try.prog 23 eU64 okU64 := opens_int Try.underlying23 (fun _ => rfl)
def okTOp (a : TOp) : Prop := okI64 a.Kind ∧ okI64 a.Bits ∧ okI64 a.Lanes ∧ okI64 a.Dst ∧ okLI64 a.Args ∧ okU64 a.Imm ∧ True
theorem op_25 : Opens Try.prog 25 eTOp okTOp := Opens.to (opens_struct (N := 6) Try.underlying25 (by kernel_rfl) (opensF_cons (off := 0) (sz := 1) (N := 6) rfl (by kernel_rfl) (by decide) op_3 (opensF_cons (off := 1) (sz := 1) (N := 6) rfl (by kernel_rfl) (by decide) op_3 (opensF_cons (off := 2) (sz := 1) (N := 6) rfl (by kernel_rfl) (by decide) op_3 (opensF_cons (off := 3) (sz := 1) (N := 6) rfl (by kernel_rfl) (by decide) op_3 (opensF_cons (off := 4) (sz := 1) (N := 6) rfl (by kernel_rfl) (by decide) op_22 (opensF_cons (off := 5) (sz := 1) (N := 6) rfl (by kernel_rfl) (by decide) op_23 opensF_nil))))))) (fun p => ⟨p.1, p.2.1, p.2.2.1, p.2.2.2.1, p.2.2.2.2.1, p.2.2.2.2.2.1⟩) (fun _ => rfl) (fun _ h => h)
end Go.Proofs.Ytkbbdfkpclbdhaa
