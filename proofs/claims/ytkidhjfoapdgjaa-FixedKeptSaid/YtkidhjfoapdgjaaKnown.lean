import Derived.Test.YtkidhjfoapdgjaaShare
namespace Go.Proofs.Ytkidhjfoapdgjaa
set_option linter.unusedVariables false
open Go.RowKit Go.Proofs.Fx Go.Proofs.Fm Go.Proofs.Fo

theorem share_known : share 10 [1, 1, 1] = [4, 3, 3] := by decide +kernel
theorem row3 (w : World) (a b c : Int) : Row (w.alloc (.cells #[.int .i64 a, .int .i64 b, .int .i64 c] 2)) .i64 (some ⟨w.heap.size, 0, none⟩) [a, b, c] :=
  IB.row (t := 2) (heap_alloc_new w _)
theorem known_share (w : World) : Calls Try.prog 13 #[.int .i64 10, .slice (some ⟨w.heap.size, 0, none⟩) 3 3] (w.alloc (.cells #[.int .i64 1, .int .i64 1, .int .i64 1] 2)) fun e w' =>
    ∃ g, e = .returned (.slice (some ⟨g, 0, none⟩) 3 3) ∧ w.heap.size < g ∧ IB w' g 2 .i64 [4, 3, 3] ∧ RowKit.Below w.heap.size w w' := by
  have h := share_any 10 (some ⟨w.heap.size, 0, none⟩) 3 [1, 1, 1] _ (row3 w 1 1 1) (by decide)
  rw [share_known] at h
  refine h.mono ?_
  rintro e w' ⟨g, he, hg, hI, hb⟩
  have hs : (w.alloc (.cells #[.int .i64 1, .int .i64 1, .int .i64 1] 2)).heap.size = w.heap.size + 1 := by simp
  rw [hs] at hg hb
  exact ⟨g, he, by omega, hI, ((RowKit.Below.refl _ _).alloc (Nat.le_refl _) _).trans (hb.mono (by omega))⟩
theorem known_same (w : World) (g : Nat) (hI : IB w g 2 .i64 [4, 3, 3]) : Calls Try.prog 12 #[.slice (some ⟨g, 0, none⟩) 3 3, .slice (some ⟨w.heap.size, 0, none⟩) 3 3] (w.alloc (.cells #[.int .i64 4, .int .i64 3, .int .i64 3] 2)) fun e w' =>
    e = .returned (.bool true) ∧ ∃ q, (w.alloc (.cells #[.int .i64 4, .int .i64 3, .int .i64 3] 2)).drewN q = w' := by
  have h := same_any (some ⟨g, 0, none⟩) (some ⟨w.heap.size, 0, none⟩) 3 3 [4, 3, 3] [4, 3, 3] _ (hI.alloc _).row (row3 w 4 3 3) (by decide)
  rw [decide_eq_true rfl] at h
  exact h
theorem known_add (w : World) : Calls Try.prog 15 #[.int .i64 70368744177664, .int .i64 1] w fun e w' => e = .returned (.int .i64 70368744177664) ∧ w = w' := by
  have h := add_any 70368744177664 1 w
  rwa [show add 70368744177664 1 = 70368744177664 from by decide +kernel] at h
theorem known_sub (w : World) : Calls Try.prog 21 #[.int .i64 (-70368744177664), .int .i64 1] w fun e w' => e = .returned (.int .i64 (-70368744177664)) ∧ w = w' := by
  have h := sub_any (-70368744177664) 1 w
  rwa [show sub (-70368744177664) 1 = -70368744177664 from by decide +kernel] at h
theorem known_part (w : World) : Calls Try.prog 11 #[.int .i64 (-1), .int .i64 1, .int .i64 2] w fun e w' => e = .returned (.int .i64 (-1)) ∧ w = w' := by
  have h := part_any (-1) 1 2 w
  rwa [show Fx.part (-1) 1 2 = -1 from by decide +kernel] at h

set_option maxHeartbeats 800000 in
/-- the statements' own 'known': true; new memory alone. -/
theorem known_any (w : World) : Calls Try.prog 16 #[] w fun e w' => e = .returned (.bool true) ∧ RowKit.Below w.heap.size w w' := by
  go_enter Try.func16, Try.ntmps16
  go_wp2_with (first
    | (go_at_call 15; refine (known_add _).mono ?_; rintro e w' ⟨rfl, rfl⟩)
    | (go_at_call 21; refine (known_sub _).mono ?_; rintro e w' ⟨rfl, rfl⟩)
    | (go_at_call 11; refine (known_part _).mono ?_; rintro e w' ⟨rfl, rfl⟩)
    | (go_at_call 13; refine (known_share _).mono ?_; rintro e w1 ⟨g, rfl, hg, hI, hb⟩)
    | (go_at_call 12; refine (known_same _ g hI).mono ?_; rintro e w2 ⟨rfl, q, rfl⟩))
  go_ret
  exact ⟨rfl, below_drewN (hb.alloc hb.size _) q⟩
end Go.Proofs.Ytkidhjfoapdgjaa
