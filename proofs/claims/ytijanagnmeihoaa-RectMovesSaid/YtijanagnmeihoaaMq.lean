/- A statement's walk, as its last step calls it. No conditions. -/
import Derived.Test.YtijanagnmeihoaaMp
namespace Go.Proofs.Ytijanagnmeihoaa
set_option linter.unusedVariables false
open Go.RowKit
theorem moves_law (w : World) (ax : Int) (_ : (Lit.int .i64 ax).wf = true) (ay : Int) (_ : (Lit.int .i64 ay).wf = true) (aw : Int) (_ : (Lit.int .i64 aw).wf = true) (ah : Int) (_ : (Lit.int .i64 ah).wf = true) (dx : Int) (_ : (Lit.int .i64 dx).wf = true) (dy : Int) (_ : (Lit.int .i64 dy).wf = true) (n : Int) (_ : (Lit.int .i64 n).wf = true) : Calls Try.prog 5 #[.agg #[.int .i64 ax, .int .i64 ay, .int .i64 aw, .int .i64 ah], .int .i64 dx, .int .i64 dy, .int .i64 n] w fun e w' => e = .returned (.bool true) ∧ Below w.heap.size w w' := moves_walk ax ay aw ah dx dy n w
end Go.Proofs.Ytijanagnmeihoaa
