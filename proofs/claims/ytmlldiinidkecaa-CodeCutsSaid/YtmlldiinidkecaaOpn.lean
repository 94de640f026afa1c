/-
  What comes in to the laws.
-/
import Derived.Test.YtmlldiinidkecaaGen
import Derived.Test.YtmlldiinidkecaaOpen
namespace Go.Proofs.Ytmlldiinidkecaa
open Go Go.RowKit
def eU16 (x : Int) : List AV := [(.int .u16 x)]
def okI64 (n : Int) : Prop := (Lit.int .i64 n).wf = true
theorem op_3 : Opens Try.prog 3 eI64 okI64 := opens_int Try.underlying3 (fun _ => rfl)
def okLI64 (l : List (Int)) : Prop := (∀ a ∈ l, okI64 a) ∧ l.length ≤ maxLen
theorem op_22 : Opens Try.prog 22 eLI64 okLI64 := opens_slice (d := (0 : Int)) Try.underlying22 (by kernel_rfl) (by decide) op_3 (fun _ => rfl) (fun _ => rfl)
def okTPhi (a : TPhi) : Prop := okI64 a.Bits ∧ okI64 a.Dst ∧ okLI64 a.From ∧ okLI64 a.Args ∧ True
theorem op_49 : Opens Try.prog 49 eTPhi okTPhi := Opens.to (opens_struct (N := 4) Try.underlying49 (by kernel_rfl) (opensF_cons (off := 0) (sz := 1) (N := 4) rfl (by kernel_rfl) (by decide) op_3 (opensF_cons (off := 1) (sz := 1) (N := 4) rfl (by kernel_rfl) (by decide) op_3 (opensF_cons (off := 2) (sz := 1) (N := 4) rfl (by kernel_rfl) (by decide) op_22 (opensF_cons (off := 3) (sz := 1) (N := 4) rfl (by kernel_rfl) (by decide) op_22 opensF_nil))))) (fun p => ⟨p.1, p.2.1, p.2.2.1, p.2.2.2.1⟩) (fun _ => rfl) (fun _ h => h)
def okLTPhi (l : List (TPhi)) : Prop := (∀ a ∈ l, okTPhi a) ∧ l.length ≤ maxLen
theorem op_38 : Opens Try.prog 38 eLTPhi okLTPhi := opens_slice (d := (default : TPhi)) Try.underlying38 (by kernel_rfl) (by decide) op_49 (fun _ => rfl) (fun _ => rfl)
def okU64 (n : Int) : Prop := (Lit.int .u64 n).wf = true
theorem op_44 : Opens Try.prog 44 eU64 okU64 := opens_int Try.underlying44 (fun _ => rfl)
def okTOp (a : TOp) : Prop := okI64 a.Kind ∧ okI64 a.Bits ∧ okI64 a.Lanes ∧ okI64 a.Dst ∧ okLI64 a.Args ∧ okU64 a.Imm ∧ True
theorem op_46 : Opens Try.prog 46 eTOp okTOp := Opens.to (opens_struct (N := 6) Try.underlying46 (by kernel_rfl) (opensF_cons (off := 0) (sz := 1) (N := 6) rfl (by kernel_rfl) (by decide) op_3 (opensF_cons (off := 1) (sz := 1) (N := 6) rfl (by kernel_rfl) (by decide) op_3 (opensF_cons (off := 2) (sz := 1) (N := 6) rfl (by kernel_rfl) (by decide) op_3 (opensF_cons (off := 3) (sz := 1) (N := 6) rfl (by kernel_rfl) (by decide) op_3 (opensF_cons (off := 4) (sz := 1) (N := 6) rfl (by kernel_rfl) (by decide) op_22 (opensF_cons (off := 5) (sz := 1) (N := 6) rfl (by kernel_rfl) (by decide) op_44 opensF_nil))))))) (fun p => ⟨p.1, p.2.1, p.2.2.1, p.2.2.2.1, p.2.2.2.2.1, p.2.2.2.2.2.1⟩) (fun _ => rfl) (fun _ h => h)
def okLTOp (l : List (TOp)) : Prop := (∀ a ∈ l, okTOp a) ∧ l.length ≤ maxLen
theorem op_39 : Opens Try.prog 39 eLTOp okLTOp := opens_slice (d := (default : TOp)) Try.underlying39 (by kernel_rfl) (by decide) op_46 (fun _ => rfl) (fun _ => rfl)
def okTEnd (a : TEnd) : Prop := okI64 a.Kind ∧ okI64 a.Arg ∧ okLI64 a.To ∧ True
theorem op_41 : Opens Try.prog 41 eTEnd okTEnd := Opens.to (opens_struct (N := 3) Try.underlying41 (by kernel_rfl) (opensF_cons (off := 0) (sz := 1) (N := 3) rfl (by kernel_rfl) (by decide) op_3 (opensF_cons (off := 1) (sz := 1) (N := 3) rfl (by kernel_rfl) (by decide) op_3 (opensF_cons (off := 2) (sz := 1) (N := 3) rfl (by kernel_rfl) (by decide) op_22 opensF_nil)))) (fun p => ⟨p.1, p.2.1, p.2.2.1⟩) (fun _ => rfl) (fun _ h => h)
def okTBlock (a : TBlock) : Prop := okLTPhi a.Phis ∧ okLTOp a.Ops ∧ okTEnd a.End ∧ True
theorem op_43 : Opens Try.prog 43 eTBlock okTBlock := Opens.to (opens_struct (N := 5) Try.underlying43 (by kernel_rfl) (opensF_cons (off := 0) (sz := 1) (N := 5) rfl (by kernel_rfl) (by decide) op_38 (opensF_cons (off := 1) (sz := 1) (N := 5) rfl (by kernel_rfl) (by decide) op_39 (opensF_cons (off := 2) (sz := 3) (N := 5) rfl (by kernel_rfl) (by decide) op_41 opensF_nil)))) (fun p => ⟨p.1, p.2.1, p.2.2.1⟩) (fun _ => rfl) (fun _ h => h)
def okLTBlock (l : List (TBlock)) : Prop := (∀ a ∈ l, okTBlock a) ∧ l.length ≤ maxLen
theorem op_23 : Opens Try.prog 23 eLTBlock okLTBlock := opens_slice (d := (default : TBlock)) Try.underlying23 (by kernel_rfl) (by decide) op_43 (fun _ => rfl) (fun _ => rfl)
def okTFunc (a : TFunc) : Prop := okLI64 a.Params ∧ okI64 a.Ret ∧ okLTBlock a.Blocks ∧ True
theorem op_25 : Opens Try.prog 25 eTFunc okTFunc := Opens.to (opens_struct (N := 3) Try.underlying25 (by kernel_rfl) (opensF_cons (off := 0) (sz := 1) (N := 3) rfl (by kernel_rfl) (by decide) op_22 (opensF_cons (off := 1) (sz := 1) (N := 3) rfl (by kernel_rfl) (by decide) op_3 (opensF_cons (off := 2) (sz := 1) (N := 3) rfl (by kernel_rfl) (by decide) op_23 opensF_nil)))) (fun p => ⟨p.1, p.2.1, p.2.2.1⟩) (fun _ => rfl) (fun _ h => h)
def okU16 (n : Int) : Prop := (Lit.int .u16 n).wf = true
theorem op_36 : Opens Try.prog 36 eU16 okU16 := opens_int Try.underlying36 (fun _ => rfl)
def okU8 (n : Int) : Prop := (Lit.int .u8 n).wf = true
theorem op_5 : Opens Try.prog 5 eU8 okU8 := opens_int Try.underlying5 (fun _ => rfl)
end Go.Proofs.Ytmlldiinidkecaa
