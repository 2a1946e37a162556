/- Escape: a text with what stands for its runes. No conditions but that the text is not endless. -/
import Derived.Test.YtdogcnmepaemjaaDoorRb
import Derived.Test.YtdogcnmepaemjaaDoorRa
import Derived.Deep.LoopGhost
namespace Go.Proofs.YtdogcnmepaemjaaDoor
set_option linter.unusedVariables false
open Go.RowKit Go.Proofs.Fm Go.Proofs.Fb Go.Proofs.Fk Go.Proofs.Fu Go.Proofs.Fr Go.Lib

set_option maxHeartbeats 1000000 in
theorem escapeOf_any (q : Bool) (r : Int) (w : World) :
    Calls Tryd.prog 30 #[.int .i32 r, .bool q] w fun e w' => e = .returned (.string ⟨(escOf q r).toArray⟩) ∧ w' = w := by
  unfold escOf
  by_cases h1 : r = 38
  · subst h1; go_enter Tryd.func30, Tryd.ntmps30; go_wp2; go_ret; exact ⟨rfl, rfl⟩
  by_cases h2 : r = 60
  · subst h2; go_enter Tryd.func30, Tryd.ntmps30; go_wp2; go_ret; exact ⟨rfl, rfl⟩
  by_cases h3 : r = 62
  · subst h3; go_enter Tryd.func30, Tryd.ntmps30; go_wp2; go_ret; exact ⟨rfl, rfl⟩
  by_cases h4 : r = 160
  · subst h4; go_enter Tryd.func30, Tryd.ntmps30; go_wp2; go_ret; exact ⟨rfl, rfl⟩
  by_cases h5 : r = 13
  · subst h5; go_enter Tryd.func30, Tryd.ntmps30; go_wp2; go_ret; exact ⟨rfl, rfl⟩
  have d1 : (r == 38) = false := by rw [beq_eq_false_iff_ne]; exact h1
  have d2 : (r == 60) = false := by rw [beq_eq_false_iff_ne]; exact h2
  have d3 : (r == 62) = false := by rw [beq_eq_false_iff_ne]; exact h3
  have d4 : (r == 160) = false := by rw [beq_eq_false_iff_ne]; exact h4
  have d5 : (r == 13) = false := by rw [beq_eq_false_iff_ne]; exact h5
  rw [if_neg h1, if_neg h2, if_neg h3, if_neg h4, if_neg h5]
  by_cases h6 : r = 34
  · subst h6
    cases q
    · go_enter Tryd.func30, Tryd.ntmps30; go_wp2; go_ret; exact ⟨rfl, rfl⟩
    · go_enter Tryd.func30, Tryd.ntmps30; go_wp2; go_ret; exact ⟨rfl, rfl⟩
  · have d6 : (r == 34) = false := by rw [beq_eq_false_iff_ne]; exact h6
    rw [if_neg (fun c => h6 c.1)]
    go_enter Tryd.func30, Tryd.ntmps30; go_wp2; go_ret; exact ⟨rfl, rfl⟩
end Go.Proofs.YtdogcnmepaemjaaDoor
