import Derived.Test.YtkidhjfoapdgjaaRows
import Derived.Test.YtkidhjfoapdgjaaNum
import Derived.WalkKit
import Derived.WalkLawsBesides
import Derived.Outline
import Derived.Lib.Hide
namespace Go.Proofs.Ytkidhjfoapdgjaa
set_option linter.unusedVariables false
open Go.RowKit Go.Proofs.Fx

theorem ret_int {k : IntKind} {a b : Int} (h : a = b) : Ending.returned (.int k a) = .returned (.int k b) := by rw [h]

theorem between_any (n lo hi : Int) (w : World) :
    Calls Try.prog 31 #[.int .i64 n, .int .i64 lo, .int .i64 hi] w fun e w' => e = .returned (.int .i64 (clamp n lo hi)) ∧ w = w' := by
  go_enter Try.func31, Try.ntmps31
  go_wp2
  all_goals
    go_ret
    refine ⟨ret_int ?_, rfl⟩
    unfold clamp
    omega
theorem sat_any (n : Int) (w : World) :
    Calls Try.prog 18 #[.int .i64 n] w fun e w' => e = .returned (.int .i64 (sat n)) ∧ w = w' := by
  go_enter Try.func18, Try.ntmps18
  go_wp2_with (go_at_call 31; refine (between_any _ _ _ _).mono ?_; rintro e w' ⟨rfl, rfl⟩)
  go_ret
  exact ⟨rfl, rfl⟩
theorem weight_any (n : Int) (w : World) :
    Calls Try.prog 34 #[.int .i64 n] w fun e w' => e = .returned (.int .i64 (clamp n 0 65536)) ∧ w = w' := by
  go_enter Try.func34, Try.ntmps34
  go_wp2_with (go_at_call 31; refine (between_any _ _ _ _).mono ?_; rintro e w' ⟨rfl, rfl⟩)
  go_ret
  exact ⟨rfl, rfl⟩
theorem add_any (a b : Int) (w : World) :
    Calls Try.prog 15 #[.int .i64 a, .int .i64 b] w fun e w' => e = .returned (.int .i64 (add a b)) ∧ w = w' := by
  have h1 := sat_bd a
  have h2 := sat_bd b
  go_enter Try.func15, Try.ntmps15
  go_wp2_with (go_at_call 18; refine (sat_any _ _).mono ?_; rintro e w' ⟨rfl, rfl⟩)
  go_ret
  exact ⟨rfl, rfl⟩
theorem sub_any (a b : Int) (w : World) :
    Calls Try.prog 21 #[.int .i64 a, .int .i64 b] w fun e w' => e = .returned (.int .i64 (sub a b)) ∧ w = w' := by
  have h1 := sat_bd a
  have h2 := sat_bd b
  go_enter Try.func21, Try.ntmps21
  go_wp2_with (go_at_call 18; refine (sat_any _ _).mono ?_; rintro e w' ⟨rfl, rfl⟩)
  go_ret
  exact ⟨rfl, rfl⟩
theorem times_any (a n : Int) (w : World) :
    Calls Try.prog 10 #[.int .i64 a, .int .i64 n] w fun e w' => e = .returned (.int .i64 (times a n)) ∧ w = w' := by
  have h1 := sat_bd a
  have h2 := clamp_bd n (-65536) 65536 (by omega)
  have h3 := mul_bd h1.1 h1.2 h2.1 h2.2
  go_enter Try.func10, Try.ntmps10
  go_wp2_with (first | (go_at_call 18; refine (sat_any _ _).mono ?_; rintro e w' ⟨rfl, rfl⟩) | (go_at_call 31; refine (between_any _ _ _ _).mono ?_; rintro e w' ⟨rfl, rfl⟩))
  go_ret
  exact ⟨rfl, rfl⟩
theorem down_any (n d : Int) (hd : 1 ≤ d) (hn : -4611686018427387904 ≤ n ∧ n ≤ 4611686018427387904) (w : World) :
    Calls Try.prog 32 #[.int .i64 n, .int .i64 d] w fun e w' => e = .returned (.int .i64 (n / d)) ∧ w = w' := by
  have hq := quo_down n d hd
  have HQ := Lib.hid hq
  clear hq
  have hb : -4611686018427387904 ≤ n.tdiv d ∧ n.tdiv d ≤ 4611686018427387904 := quo_bd n d hd hn.1 hn.2
  go_enter Try.func32, Try.ntmps32
  go_wp2
  · have h : n.tmod d < 0 := by assumption
    go_ret
    exact ⟨ret_int (by rw [← HQ.out, if_pos h]), rfl⟩
  · have h : 0 ≤ n.tmod d := by assumption
    go_ret
    exact ⟨ret_int (by rw [← HQ.out, if_neg (by omega)]), rfl⟩
theorem part_any (a num den : Int) (w : World) :
    Calls Try.prog 11 #[.int .i64 a, .int .i64 num, .int .i64 den] w fun e w' => e = .returned (.int .i64 (Fx.part a num den)) ∧ w = w' := by
  have h1 := sat_bd a
  have h2 := clamp_bd num 0 65536 (by omega)
  have h3 := mul_bd h1.1 h1.2 (f := clamp num 0 65536) (by omega) h2.2
  have h4 := clamp_bd den 1 65536 (by omega)
  go_enter Try.func11, Try.ntmps11
  go_wp2_with (first | (go_at_call 18; refine (sat_any _ _).mono ?_; rintro e w' ⟨rfl, rfl⟩) | (go_at_call 31; refine (between_any _ _ _ _).mono ?_; rintro e w' ⟨rfl, rfl⟩) | (go_at_call 32; refine (down_any _ _ h4.1 h3 _).mono ?_; rintro e w' ⟨rfl, rfl⟩))
  go_ret
  exact ⟨rfl, rfl⟩

/-! the document's own answers (casementref1) -/
theorem in_any (n lo hi : Int) (h : lo ≤ hi) (w : World) :
    Calls Try.prog 36 #[.int .i64 n, .int .i64 lo, .int .i64 hi] w fun e w' => e = .returned (.int .i64 (clamp n lo hi)) ∧ w = w' := by
  go_enter Try.func36, Try.ntmps36
  go_wp2
  all_goals
    go_ret
    refine ⟨ret_int ?_, rfl⟩
    unfold clamp
    omega
theorem rsat_any (n : Int) (w : World) :
    Calls Try.prog 19 #[.int .i64 n] w fun e w' => e = .returned (.int .i64 (sat n)) ∧ w = w' := by
  go_enter Try.func19, Try.ntmps19
  go_wp2_with (go_at_call 36; refine (in_any _ _ _ (by omega) _).mono ?_; rintro e w' ⟨rfl, rfl⟩)
  go_ret
  exact ⟨rfl, rfl⟩
theorem radd_any (a b : Int) (w : World) :
    Calls Try.prog 20 #[.int .i64 a, .int .i64 b] w fun e w' => e = .returned (.int .i64 (add a b)) ∧ w = w' := by
  have h1 := sat_bd a
  have h2 := sat_bd b
  go_enter Try.func20, Try.ntmps20
  go_wp2_with (go_at_call 19; refine (rsat_any _ _).mono ?_; rintro e w' ⟨rfl, rfl⟩)
  go_ret
  exact ⟨rfl, rfl⟩
theorem rsub_any (a b : Int) (w : World) :
    Calls Try.prog 22 #[.int .i64 a, .int .i64 b] w fun e w' => e = .returned (.int .i64 (sub a b)) ∧ w = w' := by
  have h1 := sat_bd a
  have h2 := sat_bd b
  go_enter Try.func22, Try.ntmps22
  go_wp2_with (go_at_call 19; refine (rsat_any _ _).mono ?_; rintro e w' ⟨rfl, rfl⟩)
  go_ret
  exact ⟨rfl, rfl⟩
theorem rtimes_any (a n : Int) (w : World) :
    Calls Try.prog 23 #[.int .i64 a, .int .i64 n] w fun e w' => e = .returned (.int .i64 (times a n)) ∧ w = w' := by
  have h1 := sat_bd a
  have h2 := clamp_bd n (-65536) 65536 (by omega)
  have h3 := mul_bd h1.1 h1.2 h2.1 h2.2
  go_enter Try.func23, Try.ntmps23
  go_wp2_with (first | (go_at_call 19; refine (rsat_any _ _).mono ?_; rintro e w' ⟨rfl, rfl⟩) | (go_at_call 36; refine (in_any _ _ _ (by omega) _).mono ?_; rintro e w' ⟨rfl, rfl⟩))
  go_ret
  exact ⟨rfl, rfl⟩
theorem rpart_any (a num den : Int) (w : World) :
    Calls Try.prog 24 #[.int .i64 a, .int .i64 num, .int .i64 den] w fun e w' => e = .returned (.int .i64 (Fx.part a num den)) ∧ w = w' := by
  have h1 := sat_bd a
  have h2 := clamp_bd num 0 65536 (by omega)
  have h3 := mul_bd h1.1 h1.2 (f := clamp num 0 65536) (by omega) h2.2
  have h4 := clamp_bd den 1 65536 (by omega)
  have hq := quo_down (sat a * clamp num 0 65536) (clamp den 1 65536) h4.1
  have HQ := Lib.hid hq
  clear hq
  have hb := quo_bd (sat a * clamp num 0 65536) (clamp den 1 65536) h4.1 h3.1 h3.2
  go_enter Try.func24, Try.ntmps24
  go_wp2_with (first | (go_at_call 19; refine (rsat_any _ _).mono ?_; rintro e w' ⟨rfl, rfl⟩) | (go_at_call 36; refine (in_any _ _ _ (by omega) _).mono ?_; rintro e w' ⟨rfl, rfl⟩))
  · have h : (sat a * clamp num 0 65536).tmod (clamp den 1 65536) < 0 := by assumption
    go_ret
    refine ⟨ret_int ?_, rfl⟩
    unfold Fx.part
    rw [← HQ.out, if_pos h]
  · have h : 0 ≤ (sat a * clamp num 0 65536).tmod (clamp den 1 65536) := by assumption
    go_ret
    refine ⟨ret_int ?_, rfl⟩
    unfold Fx.part
    rw [← HQ.out, if_neg (by omega)]
end Go.Proofs.Ytkidhjfoapdgjaa
