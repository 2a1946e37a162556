/- Layer 2 (rect): Move, Inset, Has. No conditions. -/
import Derived.Test.YtijanagnmeihoaaRd
import Derived.Deep.DeepCutAuto
namespace Go.Proofs.Ytijanagnmeihoaa
set_option linter.unusedVariables false
open Go.RowKit Go.Proofs.Fx Go.Proofs.Fc

theorem move_any (x y wd ht dx dy : Int) (w : World) :
    Calls Try.prog 14 #[.agg #[.int .i64 x, .int .i64 y, .int .i64 wd, .int .i64 ht], .int .i64 dx, .int .i64 dy] w fun e w' => e = .returned (.agg #[.int .i64 (add (sat x) dx), .int .i64 (add (sat y) dy), .int .i64 (sat wd), .int .i64 (sat ht)]) ∧ Below w.heap.size w w' := by
  have e1 := fun W x b o => ext_cell (w.heap.size + 2) W x b o
  go_enter Try.func14, Try.ntmps14
  go_wp2_with (go_at_call 15; refine (railed_any _ _ _ _ _).mono ?_; rintro e w2 ⟨rfl, hb2⟩; obtain ⟨hc2, hf2, hz2⟩ := bcell hb2)
  have b2 := under2 hb2
  have k0 := Blk.of21 hb2
  have k1 := Blk.of22 hb2
  simp only [World.size_alloc] at hz2
  clear hb2 hc2 hf2
  refine wp_gen (fun W => Below w.heap.size w W ∧ w.heap.size + 2 ≤ W.heap.size ∧ Blk W w.heap.size 23 #[.int .i64 (sat x), .int .i64 (sat y), .int .i64 (sat wd), .int .i64 (sat ht)] ∧ Blk W (w.heap.size + 1) 23 #[.int .i64 0, .int .i64 0, .int .i64 0, .int .i64 0])
    ⟨below4 b2 (Nat.le_refl _) _ _ _ _, by simp; omega, k0.set4 _ _ _ _, k1.far4 (by omega) _ _ _ _⟩ ?_
  clear k0 k1 hz2 b2 w2
  rintro w2 ⟨b2, hz2, k0, k1⟩
  obtain ⟨c0, f0⟩ := k0.use
  refine region_ext_tail (w.heap.size + 2) 9 (by kernel_rfl) (by kernel_rfl) ?_
  simp only [List.take_succ_cons, List.take_zero, List.drop_succ_cons, List.drop_zero]
  repeat quiet_step ((go_at_call 20; exact call_of_same (add_any _ _ _)))
  refine wpQuiet_nil ?_
  intro w3 hb3
  have k3 := k0.below hb3 (by omega)
  have k4 := k1.below hb3 (by omega)
  have b3 := b2.trans (hb3.mono (by omega))
  clear c0 f0 k0 k1
  obtain ⟨c3, f3⟩ := k3.use
  obtain ⟨c4, f4⟩ := k4.use
  go_upto_region 3 with (fail)
  refine wp_gen (fun W => Below w.heap.size w W ∧ Blk W w.heap.size 23 #[.int .i64 (add (sat x) dx), .int .i64 (add (sat y) dy), .int .i64 (sat wd), .int .i64 (sat ht)] ∧ Blk W (w.heap.size + 1) 23 #[.int .i64 0, .int .i64 0, .int .i64 0, .int .i64 0])
    ⟨(b3.setCell (Nat.le_refl _) _).setCell (Nat.le_refl _) _, by simpa using (k3.set_ 0 _).set_ 1 _, (k4.far (p := ⟨w.heap.size, 0, none⟩) (by simp) _).far (p := ⟨w.heap.size, 1, none⟩) (by simp) _⟩ ?_
  clear c3 f3 c4 f4 k3 k4 b3 b2 hb3 hz2
  rintro w4 ⟨b2, k0, k1⟩
  obtain ⟨c0, f0⟩ := k0.use
  obtain ⟨c1, f1⟩ := k1.use
  go_wp2
  refine bodyPost_ret (v := .agg #[.int .i64 (add (sat x) dx), .int .i64 (add (sat y) dy), .int .i64 (sat wd), .int .i64 (sat ht)]) (by simp [results, Try.results14, go_sem, c1]) rfl ⟨rfl, ?_⟩
  exact below4 b2 (by omega) _ _ _ _
theorem inset_any (x y wd ht top right bottom left : Int) (w : World) :
    Calls Try.prog 9 #[.agg #[.int .i64 x, .int .i64 y, .int .i64 wd, .int .i64 ht], .int .i64 top, .int .i64 right, .int .i64 bottom, .int .i64 left] w
      fun e w' => e = .returned (.agg #[.int .i64 (add x left), .int .i64 (add y top), .int .i64 (mx 0 (sub (sub wd left) right)), .int .i64 (mx 0 (sub (sub ht top) bottom))]) ∧ Below w.heap.size w w' := by
  have e1 := fun W x b o => ext_cell (w.heap.size + 2) W x b o
  have e2 := mx_of
  go_enter Try.func9, Try.ntmps9
  go_wp2
  refine region_ext_tail (w.heap.size + 2) 23 (by kernel_rfl) (by kernel_rfl) ?_
  simp only [List.take_succ_cons, List.take_zero, List.drop_succ_cons, List.drop_zero]
  repeat quiet_step ((first | (go_at_call 20; exact call_of_same (add_any _ _ _)) | (go_at_call 21; exact call_of_same (sub_any _ _ _))))
  refine wpQuiet_nil ?_
  intro w2 hb2
  have b2 := (box2 w _ _).trans (hb2.mono (by omega))
  have k1 := (Blk.new (w.alloc _) 23 _).below hb2 (by simp)
  simp only [World.size_alloc] at k1
  obtain ⟨c1, f1⟩ := k1.use
  clear hb2
  go_wp2
  refine bodyPost_ret (v := .agg #[.int .i64 (add x left), .int .i64 (add y top), .int .i64 (mx 0 (sub (sub wd left) right)), .int .i64 (mx 0 (sub (sub ht top) bottom))]) (by simp [results, Try.results9, go_sem, c1]) rfl ⟨rfl, ?_⟩
  exact below4 b2 (by omega) _ _ _ _
end Go.Proofs.Ytijanagnmeihoaa
