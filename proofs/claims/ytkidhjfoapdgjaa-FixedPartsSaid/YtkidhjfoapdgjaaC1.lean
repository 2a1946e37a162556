import Derived.Test.YtkidhjfoapdgjaaLaws1
namespace Go.Proofs.Ytkidhjfoapdgjaa
set_option linter.unusedVariables false
open Go.RowKit
theorem adds_law (w : World) (a : Int) (_ : (Lit.int .i64 a).wf = true) (b : Int) (_ : (Lit.int .i64 b).wf = true) (c : Int) (_ : (Lit.int .i64 c).wf = true) : Calls Try.prog 6 #[.int .i64 a, .int .i64 b, .int .i64 c] w fun e w' => e = .returned (.bool true) ∧ Below w.heap.size w w' := adds_walk a b c w
theorem parts_law (w : World) (a : Int) (_ : (Lit.int .i64 a).wf = true) (b : Int) (_ : (Lit.int .i64 b).wf = true) (c : Int) (_ : (Lit.int .i64 c).wf = true) : Calls Try.prog 8 #[.int .i64 a, .int .i64 b, .int .i64 c] w fun e w' => e = .returned (.bool true) ∧ Below w.heap.size w w' := parts_walk a b c w
end Go.Proofs.Ytkidhjfoapdgjaa
