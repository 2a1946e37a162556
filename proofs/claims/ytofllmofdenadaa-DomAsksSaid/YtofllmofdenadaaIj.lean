/- The document's own kids of no node: none. No conditions. -/
import Derived.Test.YtofllmofdenadaaIc
namespace Go.Proofs.Ytofllmofdenadaa
set_option linter.unusedVariables false
open Go.RowKit Go.Proofs.Fm Go.Proofs.Fb Go.Proofs.Fd Go.Proofs.Fc

theorem refKids_no (A : Option Addr) (n c : Nat) (i : Int) (h : ¬ (0 ≤ i ∧ i < (n : Int))) (w : World) :
    Calls Try.prog 29 #[.agg #[.slice A n c], .int .i64 i] w fun e w' => e = .returned (.slice none 0 0) ∧ Below w.heap.size w w' := by
  have HB0 := Lib.hid (show Below w.heap.size w (w.alloc (.cells #[.slice A n c] 24)) from (Below.refl _ _).alloc (Nat.le_refl _) _)
  by_cases h0 : i < 0
  · go_enter Try.func29, Try.ntmps29
    go_wp2
    go_ret
    exact ⟨rfl, HB0.out⟩
  · have h1 : (n : Int) ≤ i := by omega
    go_enter Try.func29, Try.ntmps29
    go_wp2
    go_ret
    exact ⟨rfl, HB0.out⟩
end Go.Proofs.Ytofllmofdenadaa
