/- Layer 2 (rect): Has. No conditions. -/
import Derived.Test.YtijanagnmeihoaaRc
import Derived.Deep.DeepCutAuto
namespace Go.Proofs.Ytijanagnmeihoaa
set_option linter.unusedVariables false
open Go.RowKit Go.Proofs.Fx Go.Proofs.Fc

theorem has_any (x y wd ht p q : Int) (w : World) :
    Calls Try.prog 10 #[.agg #[.int .i64 x, .int .i64 y, .int .i64 wd, .int .i64 ht], .int .i64 p, .int .i64 q] w fun e w' => e = .returned (.bool (hsB x y wd ht p q)) ∧ Below w.heap.size w w' := by
  go_enter Try.func10, Try.ntmps10
  go_upto_region 2 with (first | (go_at_call 15; refine (railed_any _ _ _ _ _).mono ?_; rintro e w2 ⟨rfl, hb2⟩; obtain ⟨hc2, hf2, hz2⟩ := bcell hb2) | (go_at_call 22; refine (sat_any _ _).mono ?_; rintro e w' ⟨rfl, rfl⟩))
  have b2 := under1 hb2
  have k0 := Blk.of1 hb2
  simp only [World.size_alloc] at hz2
  clear hb2 hc2 hf2
  refine wp_gen (fun W => Below w.heap.size w W ∧ w.heap.size + 1 ≤ W.heap.size ∧ Blk W w.heap.size 23 #[.int .i64 (sat x), .int .i64 (sat y), .int .i64 (sat wd), .int .i64 (sat ht)])
    ⟨below4 b2 (Nat.le_refl _) _ _ _ _, by simp; omega, k0.set4 _ _ _ _⟩ ?_
  clear k0 hz2 b2 w2
  rintro w2 ⟨b2, hz2, k0⟩
  obtain ⟨c0, f0⟩ := k0.use
  go_wp2_with (first | (go_at_call 18; refine (right_any _ _ _ _ _).mono ?_; rintro e w3 ⟨rfl, hb3⟩; obtain ⟨c3, f3⟩ := (k0.below hb3 (by omega)).use) | (go_at_call 19; refine (bottom_any _ _ _ _ _).mono ?_; rintro e w4 ⟨rfl, hb4⟩))
  · have h1 : sat x ≤ sat p := by assumption
    have h2 : sat p < add (sat x) (sat wd) := by assumption
    have h3 : sat y ≤ sat q := by assumption
    go_ret
    exact ⟨ret_bool (by unfold hsB; rw [decide_eq_true h1, decide_eq_true h2, decide_eq_true h3]; rfl), b2.trans ((hb3.trans (hb4.mono hb3.size)).mono (by omega))⟩
  · have h3 : ¬ sat y ≤ sat q := by have : sat q < sat y := by assumption
                                    omega
    go_ret
    exact ⟨ret_bool (by unfold hsB; rw [decide_eq_false h3, Bool.and_false, Bool.false_and]), b2.trans (hb3.mono (by omega))⟩
  · have h2 : ¬ sat p < add (sat x) (sat wd) := by have : add (sat x) (sat wd) ≤ sat p := by assumption
                                                   omega
    go_ret
    exact ⟨ret_bool (by unfold hsB; rw [decide_eq_false h2, Bool.and_false, Bool.false_and, Bool.false_and]), b2.trans (hb3.mono (by omega))⟩
  · have h1 : ¬ sat x ≤ sat p := by have : sat p < sat x := by assumption
                                    omega
    go_ret
    exact ⟨ret_bool (by unfold hsB; rw [decide_eq_false h1, Bool.false_and, Bool.false_and, Bool.false_and]), b2⟩
end Go.Proofs.Ytijanagnmeihoaa
