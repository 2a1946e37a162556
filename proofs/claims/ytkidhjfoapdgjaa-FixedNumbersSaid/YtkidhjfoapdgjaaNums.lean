import Derived.Test.YtkidhjfoapdgjaaNv
namespace Go.Proofs.Ytkidhjfoapdgjaa
set_option linter.unusedVariables false
open Go.RowKit Go.Proofs.Fx Go.Proofs.Fm Go.Proofs.Fo

theorem row2 (w : World) (a b : Int) : Row (w.alloc (.cells #[.int .i64 a, .int .i64 b] 2)) .i64 (some ⟨w.heap.size, 0, none⟩) [a, b] :=
  IB.row (t := 2) (heap_alloc_new w _)
theorem share_two (t a b : Int) (ys : List Int) (hy : share t [a, b] = ys) (w : World) : Calls Try.prog 13 #[.int .i64 t, .slice (some ⟨w.heap.size, 0, none⟩) 2 2] (w.alloc (.cells #[.int .i64 a, .int .i64 b] 2)) fun e w' =>
    ∃ g, e = .returned (.slice (some ⟨g, 0, none⟩) 2 2) ∧ w.heap.size < g ∧ IB w' g 2 .i64 ys ∧ Below w.heap.size w w' := by
  have h := share_any t (some ⟨w.heap.size, 0, none⟩) 2 [a, b] _ (row2 w a b) (by simp)
  rw [hy] at h
  refine h.mono ?_
  rintro e w' ⟨g, he, hg, hI, hb⟩
  have hs : (w.alloc (.cells #[.int .i64 a, .int .i64 b] 2)).heap.size = w.heap.size + 1 := by simp
  rw [hs] at hg hb
  exact ⟨g, he, by omega, hI, ((Below.refl _ _).alloc (Nat.le_refl _) _).trans (hb.mono (by omega))⟩
theorem same_two (w : World) (g : Nat) (a b : Int) (hI : IB w g 2 .i64 [a, b]) : Calls Try.prog 12 #[.slice (some ⟨g, 0, none⟩) 2 2, .slice (some ⟨w.heap.size, 0, none⟩) 2 2] (w.alloc (.cells #[.int .i64 a, .int .i64 b] 2)) fun e w' =>
    e = .returned (.bool true) ∧ ∃ q, (w.alloc (.cells #[.int .i64 a, .int .i64 b] 2)).drewN q = w' :=
  same_n (some ⟨g, 0, none⟩) (some ⟨w.heap.size, 0, none⟩) 2 2 2 [a, b] rfl _ (hI.alloc _).row (row2 w a b) (by decide)
theorem share_nil (t : Int) (w : World) : Calls Try.prog 13 #[.int .i64 t, .slice none 0 0] w fun e w' => ∃ g, e = .returned (.slice (some ⟨g, 0, none⟩) 0 0) ∧ Below w.heap.size w w' :=
  (share_n t none 0 0 [] rfl w (Row.nil _ _ _) (by omega)).mono fun _ _ ⟨g, he, _, _, hb⟩ => ⟨g, he, hb⟩
theorem sum_nil (w : World) : Calls Try.prog 14 #[.slice none 0 0] w fun e w' => e = .returned (.int .i64 0) ∧ w = w' :=
  sum_any none 0 [] w (Row.nil _ _ _) (by decide)

set_option maxHeartbeats 1600000 in
theorem numbers_law (w : World) : Calls Try.prog 3 #[] w fun e w' => e = .returned (.bool true) ∧ Below w.heap.size w w' := by
  have f1 : (times 70368744177664 2 == 70368744177664) = true := by decide +kernel
  have f2 : (times 2 1099511627776 == 131072) = true := by decide +kernel
  have f3 : (Fx.part 100 1 3 == 33) = true := by decide +kernel
  have f4 : (Fx.part 7 0 5 == 0) = true := by decide +kernel
  have f5 : (Fx.part 7 1 0 == 7) = true := by decide +kernel
  have f6 : (add 4611686018427387904 (-5) == 70368744177659) = true := by decide +kernel
  have f7 : (Fx.part 64 50 100 == 32) = true := by decide +kernel
  go_enter Try.func3, Try.ntmps3
  go_wp2_with (first
    | (go_at_call 10; refine (times_any _ _ _).mono ?_; rintro e w' ⟨rfl, rfl⟩)
    | (go_at_call 11; refine (part_any _ _ _ _).mono ?_; rintro e w' ⟨rfl, rfl⟩))
  refine (share_two 10 0 0 [0, 0] (by decide +kernel) _).mono ?_
  rintro e w1 ⟨g1, rfl, hg1, hI1, hb1⟩
  go_wp2_with fail
  refine (same_two w1 g1 0 0 hI1).mono ?_
  rintro e w2 ⟨rfl, q, rfl⟩
  have hc1 := below_drewN (hb1.alloc hb1.size (.cells #[.int .i64 0, .int .i64 0] 2)) q
  generalize (w1.alloc (.cells #[.int .i64 0, .int .i64 0] 2)).drewN q = w2 at *
  go_wp2_with fail
  refine (share_two 7 3 1 [5, 2] (by decide +kernel) w2).mono ?_
  rintro e w3 ⟨g3, rfl, hg3, hI3, hb3⟩
  go_wp2_with fail
  refine (same_two w3 g3 5 2 hI3).mono ?_
  rintro e w4 ⟨rfl, q4, rfl⟩
  have hc3 := below_drewN ((hc1.trans (hb3.mono hc1.size)).alloc (Nat.le_trans hc1.size hb3.size) (.cells #[.int .i64 5, .int .i64 2] 2)) q4
  generalize (w3.alloc (.cells #[.int .i64 5, .int .i64 2] 2)).drewN q4 = w4 at *
  go_wp2_with (first
    | (go_at_call 11; refine (part_any _ _ _ _).mono ?_; rintro e w' ⟨rfl, rfl⟩)
    | (go_at_call 13; refine (share_nil _ _).mono ?_; rintro e w5 ⟨g5, rfl, hb5⟩)
    | (go_at_call 14; refine (sum_nil _).mono ?_; rintro e w' ⟨rfl, rfl⟩)
    | (go_at_call 15; refine (add_any _ _ _).mono ?_; rintro e w' ⟨rfl, rfl⟩)
    | (go_at_call 16; refine (known_any _).mono ?_; rintro e w6 ⟨rfl, hb6⟩))
  go_ret
  have hc5 := hc3.trans (hb5.mono hc3.size)
  exact ⟨rfl, hc5.trans (hb6.mono hc5.size)⟩
end Go.Proofs.Ytkidhjfoapdgjaa
