/- A tree in memory of its own: a cell written below it, a lower base, a world that has only grown, its row. No conditions. (Where a seat has chapter 5's sample, Dt has the same words: never import both.) -/
import Derived.Test.YtdogcnmepaemjaaDoorDo
namespace Go.Proofs.YtdogcnmepaemjaaDoor
set_option linter.unusedVariables false
open Go.RowKit Go.Proofs.Fm Go.Proofs.Fb Go.Proofs.Fd Go.Proofs.Fc

theorem OTree.setCell {base n c b : Nat} {w : World} {A : Option Addr} {l : List Nd} (h : OTree base w A n c l) (hb : b < base) (u : Value) : OTree base (w.setCell ⟨b, 0, none⟩ u) A n c l := by
  obtain ⟨rs, h1, h2, h3⟩ := h
  exact ⟨rs, h1, ownsRow_setCell_below h2 (by show b < base; omega) _, fun q hq => ownsRow_setCell_below (h3 q hq) (by show b < base; omega) _⟩
theorem OTree.less {base base' n c : Nat} {w : World} {A : Option Addr} {l : List Nd} (h : OTree base w A n c l) (hb : base' ≤ base) : OTree base' w A n c l := by
  obtain ⟨rs, h1, h2, h3⟩ := h
  exact ⟨rs, h1, own_less h2 hb, fun q hq => own_less (h3 q hq) hb⟩
theorem OTree.below {base n c : Nat} {w w' : World} {A : Option Addr} {l : List Nd} (h : OTree base w A n c l) (hb : Below w.heap.size w w') : OTree base w' A n c l := by
  obtain ⟨rs, h1, h2, h3⟩ := h
  exact ⟨rs, h1, own_stays h2 hb, fun q hq => own_stays (h3 q hq) hb⟩
theorem OTree.row {base n c : Nat} {w : World} {A : Option Addr} {l : List Nd} (h : OTree base w A n c l) (ha : ∀ x ∈ l, x.attrs.length ≤ 4398046511104) : NRow w A l := by
  obtain ⟨rs, h1, h2, h3⟩ := h
  have := NRow.of_raw h2 (fun q hq => aval_own (h3 q hq) (ha q.1 (by rw [← h1]; exact List.mem_map.2 ⟨q, hq, rfl⟩)))
  rwa [h1] at this
end Go.Proofs.YtdogcnmepaemjaaDoor
