/- A statement's walk, as its last step calls it. No conditions. -/
import Derived.Test.YtijanagnmeihoaaPo
namespace Go.Proofs.Ytijanagnmeihoaa
set_option linter.unusedVariables false
open Go.RowKit
theorem points_law (w : World) (ax : Int) (_ : (Lit.int .i64 ax).wf = true) (ay : Int) (_ : (Lit.int .i64 ay).wf = true) (aw : Int) (_ : (Lit.int .i64 aw).wf = true) (ah : Int) (_ : (Lit.int .i64 ah).wf = true) (bx : Int) (_ : (Lit.int .i64 bx).wf = true) (bY : Int) (_ : (Lit.int .i64 bY).wf = true) (bw : Int) (_ : (Lit.int .i64 bw).wf = true) (bh : Int) (_ : (Lit.int .i64 bh).wf = true) (p : Int) (_ : (Lit.int .i64 p).wf = true) (q : Int) (_ : (Lit.int .i64 q).wf = true) : Calls Try.prog 4 #[.agg #[.int .i64 ax, .int .i64 ay, .int .i64 aw, .int .i64 ah], .agg #[.int .i64 bx, .int .i64 bY, .int .i64 bw, .int .i64 bh], .int .i64 p, .int .i64 q] w fun e w' => e = .returned (.bool true) ∧ Below w.heap.size w w' := points_walk ax ay aw ah bx bY bw bh p q w
end Go.Proofs.Ytijanagnmeihoaa
