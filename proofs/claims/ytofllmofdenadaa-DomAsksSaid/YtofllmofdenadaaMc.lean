/- DomAsks walked, whole. No conditions but that the list is not endless. -/
import Derived.Test.YtofllmofdenadaaMb
namespace Go.Proofs.Ytofllmofdenadaa
set_option linter.unusedVariables false
open Go.RowKit Go.Shelf Go.Proofs.Fm Go.Proofs.Fb Go.Proofs.Fd Go.Proofs.Fc

theorem wf_bounds {x : Int} (h : (Lit.int .i64 x).wf = true) : -9223372036854775808 ≤ x ∧ x ≤ 9223372036854775807 := by
  have h2 : (decide ((-9223372036854775808 : Int) ≤ x) && decide (x ≤ (9223372036854775807 : Int))) = true := h
  simpa using h2
theorem asks_walk (w : World) (A : Option Addr) (n c : Nat) (l : List Nd) (hl : l.length = n) (hn : n * 104 ≤ 140737488355328) (ha : NRow w A l) (i : Int) (hi : (Lit.int .i64 i).wf = true) (f : Int) (hf : (Lit.int .i64 f).wf = true) (s : Int) (hs : (Lit.int .i64 s).wf = true)
    (nm : ByteArray) (h1 : nm.size ≤ maxLen) (h2 : nm.size ≤ 140737488351232) : Calls Try.prog 6 #[.agg #[.slice A n c], .int .i64 i, .int .i64 f, .int .i64 s, .string nm] w fun e w' => e = .returned (.bool true) ∧ Below w.heap.size w w' := by
  have e : Value.string nm = str nm.data.toList := by unfold str; simp
  rw [e]
  by_cases h : n ≤ 300 ∧ rightE l = 0
  · exact asks_main A n c l hl h.1 h.2 i f s (wf_bounds hs) (wf_bounds hf) _ w ha
  · exact asks_off A n c l hl (by omega) h i f s _ w ha
end Go.Proofs.Ytofllmofdenadaa
