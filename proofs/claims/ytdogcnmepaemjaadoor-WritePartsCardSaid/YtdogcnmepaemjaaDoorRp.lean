/- Plain facts: chapter 7's runs as mathematics. No walk. No conditions. -/
import Derived.Test.YtdogcnmepaemjaaDoorRo
namespace Go.Proofs.YtdogcnmepaemjaaDoor
set_option linter.unusedVariables false
open Go.RowKit Go.Proofs.Fm Go.Proofs.Fb Go.Proofs.Fu Go.Proofs.Fr Go.Proofs.Fd Go.Proofs.Fc

def fitB (l : List Nd) : Bool := l.all (fun x => decide (x.text.length ≤ 1000) && x.attrs.all (fun a => decide (a.2.length ≤ 1000)) && decide ((tagW x).length ≤ 1000)) && decide ((markF l l.length 0).length ≤ 1000)
theorem fit_mark {l : List Nd} (h : fitB l = true) : MarkOk l ∧ ∀ x ∈ l, LimN x := by
  unfold fitB at h
  rw [Bool.and_eq_true, List.all_eq_true, decide_eq_true_eq] at h
  obtain ⟨h1, h2⟩ := h
  have h3 : ∀ x ∈ l, x.text.length ≤ 1000 ∧ (∀ a ∈ x.attrs, a.2.length ≤ 1000) ∧ (tagW x).length ≤ 1000 := fun x hx => by
    have := h1 x hx
    simp only [Bool.and_eq_true, List.all_eq_true, decide_eq_true_eq] at this
    exact ⟨this.1.1, this.1.2, this.2⟩
  exact ⟨⟨fun x hx _ => ⟨fun a ha => by have := (h3 x hx).2.1 a ha; omega, by have := (h3 x hx).2.2; omega⟩, fun x hx => by have := (h3 x hx).1; omega, by omega⟩,
    fun x hx => ⟨by have := (h3 x hx).1; unfold Lim; omega, fun a ha => by have := (h3 x hx).2.1 a ha; unfold Lim; omega⟩⟩
/-- root: p class 'a"': x < y -/
def smp7 : Pt := .mk [114, 111, 111, 116] [] [] [.mk [112] [] [([99, 108, 97, 115, 115], [97, 34])] [.mk [] [120, 32, 60, 32, 121] [] []]]
theorem smp7_right : rightE (treeOf smp7) = 0 := by decide +kernel
theorem smp7_cnt : cnt smp7 = 3 := by decide +kernel
theorem smp7_fit : fitB (treeOf smp7) = true := by decide +kernel
theorem smp7_canon : canonB (treeOf smp7) = true := by decide +kernel
theorem smp7_mark : markupW (treeOf smp7) = [60, 112, 32, 99, 108, 97, 115, 115, 61, 34, 97, 38, 113, 117, 111, 116, 59, 34, 62, 120, 32, 38, 108, 116, 59, 32, 121, 60, 47, 112, 62] := by decide +kernel
end Go.Proofs.YtdogcnmepaemjaaDoor
