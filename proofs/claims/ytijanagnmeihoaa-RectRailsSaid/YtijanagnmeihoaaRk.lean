/- Layer 2 (rect): the statements' closed runs. No conditions. -/
import Derived.Test.YtijanagnmeihoaaRe
import Derived.Test.YtijanagnmeihoaaRf
import Derived.Test.YtijanagnmeihoaaRg
namespace Go.Proofs.Ytijanagnmeihoaa
set_option linter.unusedVariables false
open Go.RowKit Go.Proofs.Fx Go.Proofs.Fc

theorem meet_k (w : World) : Calls Try.prog 7 #[.agg #[.int .i64 0, .int .i64 0, .int .i64 10, .int .i64 10], .agg #[.int .i64 5, .int .i64 5, .int .i64 10, .int .i64 10]] w fun e w' => e = .returned (.agg #[.int .i64 5, .int .i64 5, .int .i64 5, .int .i64 5]) ∧ Below w.heap.size w w' := meet_any 0 0 10 10 5 5 10 10 w
theorem inset_k (w : World) : Calls Try.prog 9 #[.agg #[.int .i64 0, .int .i64 0, .int .i64 10, .int .i64 10], .int .i64 1, .int .i64 2, .int .i64 3, .int .i64 4] w fun e w' => e = .returned (.agg #[.int .i64 4, .int .i64 1, .int .i64 4, .int .i64 6]) ∧ Below w.heap.size w w' := inset_any 0 0 10 10 1 2 3 4 w
theorem known_any (w : World) : Calls Try.prog 12 #[] w fun e w' => e = .returned (.bool true) ∧ Below w.heap.size w w' := by
  go_enter Try.func12, Try.ntmps12
  go_wp2_with (first | (go_at_call 7; refine (meet_k _).mono ?_; rintro e w2 ⟨rfl, hb2⟩) | (go_at_call 9; refine (inset_k _).mono ?_; rintro e w3 ⟨rfl, hb3⟩))
  go_ret
  exact ⟨rfl, hb2.trans (hb3.mono hb2.size)⟩

theorem meet_n (w : World) : Calls Try.prog 7 #[.agg #[.int .i64 0, .int .i64 0, .int .i64 10, .int .i64 10], .agg #[.int .i64 20, .int .i64 0, .int .i64 1, .int .i64 1]] w fun e w' => e = .returned (.agg #[.int .i64 0, .int .i64 0, .int .i64 0, .int .i64 0]) ∧ Below w.heap.size w w' := meet_any 0 0 10 10 20 0 1 1 w
theorem join_n (w : World) : Calls Try.prog 8 #[.agg #[.int .i64 0, .int .i64 0, .int .i64 1, .int .i64 1], .agg #[.int .i64 5, .int .i64 5, .int .i64 1, .int .i64 1]] w fun e w' => e = .returned (.agg #[.int .i64 0, .int .i64 0, .int .i64 6, .int .i64 6]) ∧ Below w.heap.size w w' := join_b 0 0 1 1 5 5 1 1 w rfl rfl
theorem join_z (w : World) : Calls Try.prog 8 #[.agg #[.int .i64 0, .int .i64 0, .int .i64 0, .int .i64 0], .agg #[.int .i64 1, .int .i64 0, .int .i64 2, .int .i64 3]] w fun e w' => e = .returned (.agg #[.int .i64 1, .int .i64 0, .int .i64 2, .int .i64 3]) ∧ Below w.heap.size w w' := join_l 0 0 0 0 1 0 2 3 w rfl
theorem inset_n (w : World) : Calls Try.prog 9 #[.agg #[.int .i64 0, .int .i64 0, .int .i64 10, .int .i64 10], .int .i64 9, .int .i64 9, .int .i64 9, .int .i64 9] w fun e w' => e = .returned (.agg #[.int .i64 9, .int .i64 9, .int .i64 0, .int .i64 0]) ∧ Below w.heap.size w w' := inset_any 0 0 10 10 9 9 9 9 w
theorem has_n (w : World) : Calls Try.prog 10 #[.agg #[.int .i64 0, .int .i64 0, .int .i64 1, .int .i64 1], .int .i64 1, .int .i64 0] w fun e w' => e = .returned (.bool false) ∧ Below w.heap.size w w' := has_any 0 0 1 1 1 0 w
theorem has_y (w : World) : Calls Try.prog 10 #[.agg #[.int .i64 0, .int .i64 0, .int .i64 1, .int .i64 1], .int .i64 0, .int .i64 0] w fun e w' => e = .returned (.bool true) ∧ Below w.heap.size w w' := has_any 0 0 1 1 0 0 w
theorem empty_y (w : World) : Calls Try.prog 11 #[.agg #[.int .i64 0, .int .i64 0, .int .i64 1, .int .i64 0]] w fun e w' => e = .returned (.bool true) ∧ Below w.heap.size w w' := empty_any 0 0 1 0 w
theorem numbers_law (w : World) : Calls Try.prog 3 #[] w fun e w' => e = .returned (.bool true) ∧ Below w.heap.size w w' := by
  go_enter Try.func3, Try.ntmps3
  go_wp2_with (first
    | (go_at_call 7; refine (meet_n _).mono ?_; rintro e w1 ⟨rfl, hb1⟩)
    | ((with_reducible (go_at_call 8; refine (join_n _).mono ?_)); rintro e w2 ⟨rfl, hb2⟩)
    | (go_at_call 9; refine (inset_n _).mono ?_; rintro e w3 ⟨rfl, hb3⟩)
    | ((with_reducible (go_at_call 10; refine (has_n _).mono ?_)); rintro e w4 ⟨rfl, hb4⟩)
    | (go_at_call 10; refine (has_y _).mono ?_; rintro e w5 ⟨rfl, hb5⟩)
    | (go_at_call 8; refine (join_z _).mono ?_; rintro e w6 ⟨rfl, hb6⟩)
    | (go_at_call 11; refine (empty_y _).mono ?_; rintro e w7 ⟨rfl, hb7⟩)
    | (go_at_call 12; refine (known_any _).mono ?_; rintro e w8 ⟨rfl, hb8⟩))
  go_ret
  have a2 := hb1.trans (hb2.mono hb1.size)
  have a3 := a2.trans (hb3.mono a2.size)
  have a4 := a3.trans (hb4.mono a3.size)
  have a5 := a4.trans (hb5.mono a4.size)
  have a6 := a5.trans (hb6.mono a5.size)
  have a7 := a6.trans (hb7.mono a6.size)
  exact ⟨rfl, a7.trans (hb8.mono a7.size)⟩
end Go.Proofs.Ytijanagnmeihoaa
