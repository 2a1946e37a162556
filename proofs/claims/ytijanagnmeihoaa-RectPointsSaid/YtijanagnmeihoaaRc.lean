/- Layer 2 (rect): what each function answers. No conditions. -/
import Derived.Test.YtijanagnmeihoaaFix
import Derived.Test.YtijanagnmeihoaaRcm
import Derived.Test.YtijanagnmeihoaaBlk
import Derived.Deep.DeepFit
namespace Go.Proofs.Ytijanagnmeihoaa
set_option linter.unusedVariables false
open Go.RowKit Go.Proofs.Fx Go.Proofs.Fc

theorem ret_bool {a b : Bool} (h : a = b) : Ending.returned (.bool a) = .returned (.bool b) := by rw [h]

theorem right_any (x y wd ht : Int) (w : World) :
    Calls Try.prog 18 #[.agg #[.int .i64 x, .int .i64 y, .int .i64 wd, .int .i64 ht]] w fun e w' => e = .returned (.int .i64 (add x wd)) ∧ Below w.heap.size w w' := by
  go_enter Try.func18, Try.ntmps18
  go_wp2_with (go_at_call 20; refine (add_any _ _ _).mono ?_; rintro e w' ⟨rfl, rfl⟩)
  go_ret
  exact ⟨rfl, (Below.refl _ _).alloc (Nat.le_refl _) _⟩
theorem bottom_any (x y wd ht : Int) (w : World) :
    Calls Try.prog 19 #[.agg #[.int .i64 x, .int .i64 y, .int .i64 wd, .int .i64 ht]] w fun e w' => e = .returned (.int .i64 (add y ht)) ∧ Below w.heap.size w w' := by
  go_enter Try.func19, Try.ntmps19
  go_wp2_with (go_at_call 20; refine (add_any _ _ _).mono ?_; rintro e w' ⟨rfl, rfl⟩)
  go_ret
  exact ⟨rfl, (Below.refl _ _).alloc (Nat.le_refl _) _⟩
theorem empty_any (x y wd ht : Int) (w : World) :
    Calls Try.prog 11 #[.agg #[.int .i64 x, .int .i64 y, .int .i64 wd, .int .i64 ht]] w fun e w' => e = .returned (.bool (emB wd ht)) ∧ Below w.heap.size w w' := by
  go_enter Try.func11, Try.ntmps11
  go_wp2
  · have h : 0 < wd := by assumption
    go_ret
    exact ⟨ret_bool (by unfold emB; rw [decide_eq_false (by omega), Bool.false_or]), (Below.refl _ _).alloc (Nat.le_refl _) _⟩
  · have h : wd ≤ 0 := by assumption
    go_ret
    exact ⟨ret_bool (by unfold emB; simp [h]), (Below.refl _ _).alloc (Nat.le_refl _) _⟩
theorem spanning_any (l t r b : Int) (w : World) :
    Calls Try.prog 17 #[.int .i64 l, .int .i64 t, .int .i64 r, .int .i64 b] w fun e w' => e = .returned (.agg #[.int .i64 l, .int .i64 t, .int .i64 (sub r l), .int .i64 (sub b t)]) ∧ Below w.heap.size w w' := by
  go_enter Try.func17, Try.ntmps17
  go_wp2_with (go_at_call 21; refine (sub_any _ _ _).mono ?_; rintro e w' ⟨rfl, rfl⟩)
  exact bodyPost_ret (v := .agg #[.int .i64 l, .int .i64 t, .int .i64 (sub r l), .int .i64 (sub b t)]) (by simp [results, Try.results17, go_sem]) rfl ⟨rfl, (Below.refl _ _).alloc (Nat.le_refl _) _⟩
theorem ornothing_any (x y wd ht : Int) (w : World) :
    Calls Try.prog 16 #[.agg #[.int .i64 x, .int .i64 y, .int .i64 wd, .int .i64 ht]] w fun e w' => e = .returned (.agg #[.int .i64 (on (emB wd ht) x), .int .i64 (on (emB wd ht) y), .int .i64 (on (emB wd ht) wd), .int .i64 (on (emB wd ht) ht)]) ∧ Below w.heap.size w w' := by
  go_enter Try.func16, Try.ntmps16
  go_wp2_with (go_at_call 11; refine (empty_any _ _ _ _ _).mono ?_; rintro e w1 ⟨rfl, hb1⟩; obtain ⟨hc1, hf1, hz1⟩ := bcell hb1)
  · have he : emB wd ht = true := by assumption
    refine bodyPost_ret (v := .agg #[.int .i64 (on (emB wd ht) x), .int .i64 (on (emB wd ht) y), .int .i64 (on (emB wd ht) wd), .int .i64 (on (emB wd ht) ht)]) (by simp [results, Try.results16, go_sem, on, he, hc1]) rfl ⟨rfl, ?_⟩
    repeat (refine Below.setCell ?_ (by simp) _)
    exact (box2 w _ _).trans (hb1.mono (by simp; omega))
  · have he : emB wd ht = false := by assumption
    refine bodyPost_ret (v := .agg #[.int .i64 (on (emB wd ht) x), .int .i64 (on (emB wd ht) y), .int .i64 (on (emB wd ht) wd), .int .i64 (on (emB wd ht) ht)]) (by simp [results, Try.results16, go_sem, on, he, hc1]) rfl ⟨rfl, ?_⟩
    repeat (refine Below.setCell ?_ (by simp) _)
    exact (box2 w _ _).trans (hb1.mono (by simp; omega))
set_option maxHeartbeats 400000 in
theorem railed_any (x y wd ht : Int) (w : World) :
    Calls Try.prog 15 #[.agg #[.int .i64 x, .int .i64 y, .int .i64 wd, .int .i64 ht]] w fun e w' => e = .returned (.agg #[.int .i64 (sat x), .int .i64 (sat y), .int .i64 (sat wd), .int .i64 (sat ht)]) ∧ Below w.heap.size w w' := by
  have e1 := fun W x b o => ext_cell (w.heap.size + 2) W x b o
  go_enter Try.func15, Try.ntmps15
  go_wp2
  refine region_ext_tail (w.heap.size + 2) 13 (by kernel_rfl) (by kernel_rfl) ?_
  simp only [List.take_succ_cons, List.take_zero, List.drop_succ_cons, List.drop_zero]
  repeat quiet_step ((go_at_call 22; exact call_of_same (sat_any _ _)))
  refine wpQuiet_nil ?_
  intro w2 hb2
  obtain ⟨hc2, hf2, hz2⟩ := bcell hb2
  go_wp2
  refine bodyPost_ret (v := .agg #[.int .i64 (sat x), .int .i64 (sat y), .int .i64 (sat wd), .int .i64 (sat ht)]) (by simp [results, Try.results15, go_sem, hc2]) rfl ⟨rfl, ?_⟩
  repeat (refine Below.setCell ?_ (by simp) _)
  exact (box2 w _ _).trans (hb2.mono (by omega))
end Go.Proofs.Ytijanagnmeihoaa
