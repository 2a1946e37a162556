/- How an argument that is a slice of integers is told to a walk. No conditions. -/
import Derived.Test.YtnpoipjnnlbnfaaDoorMem
import Derived.OpenShut
namespace Go.Proofs.Fm
set_option linter.unusedVariables false
open Go.RowKit
theorem row_of_ints {w : World} {k : IntKind} {a : Addr} {zs : List Int} (h : ∀ i, i < zs.length → w.cell? (a.add i) = some (.int k (zs.getD i 0))) : Row w k (some a) zs := by
  intro hx
  obtain ⟨b, off, rfl, hc⟩ := ints_at h (List.length_pos_iff.2 hx)
  exact ⟨b, off, rfl, hc⟩
end Go.Proofs.Fm
