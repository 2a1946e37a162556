import Derived.Test.YtkidhjfoapdgjaaWholeMidS
import Derived.Test.YtkidhjfoapdgjaaWholeMidL
import Derived.Test.YtkidhjfoapdgjaaWholeNegS
import Derived.Test.YtkidhjfoapdgjaaWholeNegL
import Derived.Test.YtkidhjfoapdgjaaWholeBigS
import Derived.Test.YtkidhjfoapdgjaaWholeBigL
namespace Go.Proofs.Ytkidhjfoapdgjaa
set_option linter.unusedVariables false
open Go.RowKit Go.Proofs.Fx Go.Proofs.Fm Go.Proofs.Fo
theorem whole_law (w : World) (t : Int) (_ : (Lit.int .i64 t).wf = true) (A : Option Addr) (n cap : Nat) (xs : List Int) (ha : Row w .i64 A xs) (hn : xs.length = n) (_ : ∀ x ∈ xs, (Lit.int .i64 x).wf = true) (hs : n * Try.prog.bytesOf 2 ≤ 140737488351232) (hc : n ≤ cap) :
    Calls Try.prog 7 #[.int .i64 t, .slice A n cap] w fun e w' => e = .returned (.bool true) ∧ Below w.heap.size w w' := by
  by_cases h : n ≤ 300
  · by_cases h1 : t < 0
    · exact whole_neg_small t A n cap xs hn w ha h h1
    · by_cases h2 : 70368744177664 < t
      · exact whole_big_small t A n cap xs hn w ha h h2
      · exact whole_mid_small t A n cap xs hn w ha h (by omega) (by omega)
  · by_cases h1 : t < 0
    · exact whole_neg_large t A n cap xs hn w ha (by omega) hc h1
    · by_cases h2 : 70368744177664 < t
      · exact whole_big_large t A n cap xs hn w ha (by omega) hc h2
      · exact whole_mid_large t A n cap xs hn w ha (by omega) hc (by omega) (by omega)
end Go.Proofs.Ytkidhjfoapdgjaa
