/- RectPoints. No conditions. -/
import Derived.Test.YtijanagnmeihoaaPm
import Derived.Test.YtijanagnmeihoaaMo
namespace Go.Proofs.Ytijanagnmeihoaa
set_option linter.unusedVariables false
open Go.RowKit Go.Proofs.Fx Go.Proofs.Fc

set_option maxHeartbeats 800000 in
theorem points_out (ax ay aw ah bx bY bw bh p q : Int) (w : World) (hs : smF (nth [ax, ay, aw, ah, bx, bY, bw, bh, p, q]) 10 = false) :
    Calls Try.prog 4 #[.agg #[.int .i64 ax, .int .i64 ay, .int .i64 aw, .int .i64 ah], .agg #[.int .i64 bx, .int .i64 bY, .int .i64 bw, .int .i64 bh], .int .i64 p, .int .i64 q] w fun e w' => e = .returned (.bool true) ∧ Below w.heap.size w w' := by
  have e1 := fun W x b o => ext_cell (w.heap.size + 2) W x b o
  go_enter Try.func4, Try.ntmps4
  go_wp2
  refine wp_gen (fun W => Below w.heap.size w W ∧ w.heap.size + 2 ≤ W.heap.size ∧ Blk W w.heap.size 23 #[.int .i64 ax, .int .i64 ay, .int .i64 aw, .int .i64 ah] ∧ Blk W (w.heap.size + 1) 23 #[.int .i64 bx, .int .i64 bY, .int .i64 bw, .int .i64 bh])
    ⟨box2 w _ _, by simp, (Blk.new _ _ _).alloc _, by simpa using Blk.new (w.alloc _) 23 #[.int .i64 bx, .int .i64 bY, .int .i64 bw, .int .i64 bh]⟩ ?_
  rintro w2 ⟨b2, hz2, k0, k1⟩
  obtain ⟨c0, f0⟩ := k0.use
  obtain ⟨c1, f1⟩ := k1.use
  refine region_ext (w.heap.size + 2) (by kernel_rfl) (by kernel_rfl) ?_
  repeat quiet_step ((first | (go_at_call 7; (with_reducible exact call_of (meet_any ax ay aw ah bx bY bw bh _) hz2)) | (go_at_call 7; exact call_of (meet_sym ax ay aw ah bx bY bw bh _) hz2) | (go_at_call 8; (with_reducible exact call_of (join_any ax ay aw ah bx bY bw bh _) hz2)) | (go_at_call 8; exact call_of (join_sym ax ay aw ah bx bY bw bh _) hz2)))
  refine wpQuiet_nil ?_
  intro w3 hb3
  have b3 := b2.trans (hb3.mono (by omega))
  have hz3 := Nat.le_trans hz2 hb3.size
  have k3 := k0.below hb3 (by omega)
  have k4 := k1.below hb3 (by omega)
  clear c0 f0 k0 c1 f1 k1 b2 hb3 hz2 w2
  obtain ⟨c0, f0⟩ := k3.use
  obtain ⟨c1, f1⟩ := k4.use
  go_wp2_with (first | (go_at_call 13; refine (small_any _ 10 _ (nth [ax, ay, aw, ah, bx, bY, bw, bh, p, q]) _ (by omega) (new_row _ _ [ax, ay, aw, ah, bx, bY, bw, bh, p, q])).mono ?_; rintro e w2 ⟨rfl, rfl⟩) | (go_at_call 12; refine (known_any _).mono ?_; rintro e w4 ⟨rfl, hb4⟩))
  go_ret
  exact ⟨rfl, (b3.alloc (by omega) _).trans (hb4.mono (by simp; omega))⟩
theorem has_is (x y wd ht p q : Int) (b : Bool) (h : hsB x y wd ht p q = b) (w : World) :
    Calls Try.prog 10 #[.agg #[.int .i64 x, .int .i64 y, .int .i64 wd, .int .i64 ht], .int .i64 p, .int .i64 q] w fun e w' => e = .returned (.bool b) ∧ Below w.heap.size w w' := by
  have := has_any x y wd ht p q w
  rw [h] at this
  exact this
set_option maxHeartbeats 800000 in
theorem points_tt (ax ay aw ah bx bY bw bh p q : Int) (w : World) (hs : smF (nth [ax, ay, aw, ah, bx, bY, bw, bh, p, q]) 10 = true) (hP : hsB ax ay aw ah p q = true) (hQ : hsB bx bY bw bh p q = true) :
    Calls Try.prog 4 #[.agg #[.int .i64 ax, .int .i64 ay, .int .i64 aw, .int .i64 ah], .agg #[.int .i64 bx, .int .i64 bY, .int .i64 bw, .int .i64 bh], .int .i64 p, .int .i64 q] w fun e w' => e = .returned (.bool true) ∧ Below w.heap.size w w' := by
  have s0 : In40 ax := smF_at hs 0 (by omega)
  have s1 : In40 ay := smF_at hs 1 (by omega)
  have s2 : In40 aw := smF_at hs 2 (by omega)
  have s3 : In40 ah := smF_at hs 3 (by omega)
  have s4 : In40 bx := smF_at hs 4 (by omega)
  have s5 : In40 bY := smF_at hs 5 (by omega)
  have s6 : In40 bw := smF_at hs 6 (by omega)
  have s7 : In40 bh := smF_at hs 7 (by omega)
  have s8 : In40 p := smF_at hs 8 (by omega)
  have s9 : In40 q := smF_at hs 9 (by omega)
  have hM := (has_meet s0 s1 s2 s3 s4 s5 s6 s7 s8 s9).trans (show _ = true by rw [hP, hQ]; rfl)
  have HP := Lib.hid hP
  have HQ := Lib.hid hQ
  have HM := Lib.hid hM
  have HJ := Lib.hid (has_join s0 s1 s2 s3 s4 s5 s6 s7 s8 s9 (.inl hP))
  clear hM hP hQ s0 s1 s2 s3 s4 s5 s6 s7 s8 s9
  have e1 := fun W x b o => ext_cell (w.heap.size + 2) W x b o
  go_enter Try.func4, Try.ntmps4
  go_wp2
  refine wp_gen (fun W => Below w.heap.size w W ∧ w.heap.size + 2 ≤ W.heap.size ∧ Blk W w.heap.size 23 #[.int .i64 ax, .int .i64 ay, .int .i64 aw, .int .i64 ah] ∧ Blk W (w.heap.size + 1) 23 #[.int .i64 bx, .int .i64 bY, .int .i64 bw, .int .i64 bh])
    ⟨box2 w _ _, by simp, (Blk.new _ _ _).alloc _, by simpa using Blk.new (w.alloc _) 23 #[.int .i64 bx, .int .i64 bY, .int .i64 bw, .int .i64 bh]⟩ ?_
  rintro w2 ⟨b2, hz2, k0, k1⟩
  obtain ⟨c0, f0⟩ := k0.use
  obtain ⟨c1, f1⟩ := k1.use
  refine region_ext (w.heap.size + 2) (by kernel_rfl) (by kernel_rfl) ?_
  repeat quiet_step ((first | (go_at_call 7; (with_reducible exact call_of (meet_any ax ay aw ah bx bY bw bh _) hz2)) | (go_at_call 7; exact call_of (meet_sym ax ay aw ah bx bY bw bh _) hz2) | (go_at_call 8; (with_reducible exact call_of (join_any ax ay aw ah bx bY bw bh _) hz2)) | (go_at_call 8; exact call_of (join_sym ax ay aw ah bx bY bw bh _) hz2)))
  refine wpQuiet_nil ?_
  intro w3 hb3
  have b3 := b2.trans (hb3.mono (by omega))
  have hz3 := Nat.le_trans hz2 hb3.size
  have k3 := k0.below hb3 (by omega)
  have k4 := k1.below hb3 (by omega)
  clear c0 f0 k0 c1 f1 k1 b2 hb3 hz2 w2
  obtain ⟨c0, f0⟩ := k3.use
  obtain ⟨c1, f1⟩ := k4.use
  go_upto_region 5 with ((go_at_call 13; refine (small_any _ 10 _ (nth [ax, ay, aw, ah, bx, bY, bw, bh, p, q]) _ (by omega) (new_row _ _ [ax, ay, aw, ah, bx, bY, bw, bh, p, q])).mono ?_; rintro e w2 ⟨rfl, rfl⟩))
  clear hs
  refine wp_gen (fun W => Below w.heap.size w W ∧ w.heap.size + 2 ≤ W.heap.size ∧ Blk W w.heap.size 23 #[.int .i64 ax, .int .i64 ay, .int .i64 aw, .int .i64 ah] ∧ Blk W (w.heap.size + 1) 23 #[.int .i64 bx, .int .i64 bY, .int .i64 bw, .int .i64 bh])
    ⟨b3.alloc (by omega) _, by simp; omega, k3.alloc _, k4.alloc _⟩ ?_
  clear c0 f0 c1 f1 k3 k4 b3 hz3
  rintro w2 ⟨b2, hz2, k0, k1⟩
  obtain ⟨c0, f0⟩ := k0.use
  obtain ⟨c1, f1⟩ := k1.use
  go_upto_region 7 with (first
    | (go_at_call 10; (with_reducible refine (has_is ax ay aw ah p q true HP.out _).mono ?_); rintro e w3 ⟨rfl, hb3⟩; have k3 := k1.below hb3 (by omega); obtain ⟨c3, f3⟩ := k3.use)
    | (go_at_call 10; (with_reducible refine (has_is bx bY bw bh p q true HQ.out _).mono ?_); rintro e w4 ⟨rfl, hb4⟩))
  have b4 := b2.trans ((hb3.trans (hb4.mono hb3.size)).mono (by omega))
  have hz4 := Nat.le_trans hz2 (Nat.le_trans hb3.size hb4.size)
  have k5 := (k0.below hb3 (by omega)).below hb4 (Nat.lt_of_lt_of_le (by omega) (Nat.le_trans hz2 hb3.size))
  have k6 := k3.below hb4 (Nat.lt_of_lt_of_le (by omega) (Nat.le_trans hz2 hb3.size))
  clear c0 f0 c1 f1 c3 f3 k0 k1 k3 b2 hz2 hb3 hb4
  obtain ⟨c0, f0⟩ := k5.use
  obtain ⟨c1, f1⟩ := k6.use
  go_wp2_with (first
    | (go_at_call 7; refine (meet_any ax ay aw ah bx bY bw bh _).mono ?_; rintro e w5 ⟨rfl, hb5⟩)
    | (go_at_call 10; (with_reducible refine (has_is (on (emB (mW ax aw bx bw) (mW ay ah bY bh)) (mX ax bx)) (on (emB (mW ax aw bx bw) (mW ay ah bY bh)) (mX ay bY)) (on (emB (mW ax aw bx bw) (mW ay ah bY bh)) (mW ax aw bx bw)) (on (emB (mW ax aw bx bw) (mW ay ah bY bh)) (mW ay ah bY bh)) p q true HM.out _).mono ?_); rintro e w6 ⟨rfl, hb6⟩; have k7 := (k5.below hb5 (by omega)).below hb6 (Nat.lt_of_lt_of_le (by omega) (Nat.le_trans hz4 hb5.size)); have k8 := (k6.below hb5 (by omega)).below hb6 (Nat.lt_of_lt_of_le (by omega) (Nat.le_trans hz4 hb5.size)); obtain ⟨c7, f7⟩ := k7.use; obtain ⟨c8, f8⟩ := k8.use)
    | (go_at_call 8; refine (join_any ax ay aw ah bx bY bw bh _).mono ?_; rintro e w7 ⟨rfl, hb7⟩)
    | (go_at_call 10; (with_reducible refine (has_is (jX (emB (sat aw) (sat ah)) (emB (sat bw) (sat bh)) ax bx) (jX (emB (sat aw) (sat ah)) (emB (sat bw) (sat bh)) ay bY) (jV (emB (sat aw) (sat ah)) (emB (sat bw) (sat bh)) ax aw bx bw) (jV (emB (sat aw) (sat ah)) (emB (sat bw) (sat bh)) ay ah bY bh) p q true HJ.out _).mono ?_); rintro e w8 ⟨rfl, hb8⟩)
    | (go_at_call 12; refine (known_any _).mono ?_; rintro e w9 ⟨rfl, hb9⟩))
  go_ret
  have a6 := hb5.trans (hb6.mono hb5.size)
  have a7 := a6.trans (hb7.mono a6.size)
  have a8 := a7.trans (hb8.mono a7.size)
  have a9 := a8.trans (hb9.mono a8.size)
  exact ⟨rfl, b4.trans (a9.mono (by omega))⟩
set_option maxHeartbeats 800000 in
theorem points_tf (ax ay aw ah bx bY bw bh p q : Int) (w : World) (hs : smF (nth [ax, ay, aw, ah, bx, bY, bw, bh, p, q]) 10 = true) (hP : hsB ax ay aw ah p q = true) (hQ : hsB bx bY bw bh p q = false) :
    Calls Try.prog 4 #[.agg #[.int .i64 ax, .int .i64 ay, .int .i64 aw, .int .i64 ah], .agg #[.int .i64 bx, .int .i64 bY, .int .i64 bw, .int .i64 bh], .int .i64 p, .int .i64 q] w fun e w' => e = .returned (.bool true) ∧ Below w.heap.size w w' := by
  have s0 : In40 ax := smF_at hs 0 (by omega)
  have s1 : In40 ay := smF_at hs 1 (by omega)
  have s2 : In40 aw := smF_at hs 2 (by omega)
  have s3 : In40 ah := smF_at hs 3 (by omega)
  have s4 : In40 bx := smF_at hs 4 (by omega)
  have s5 : In40 bY := smF_at hs 5 (by omega)
  have s6 : In40 bw := smF_at hs 6 (by omega)
  have s7 : In40 bh := smF_at hs 7 (by omega)
  have s8 : In40 p := smF_at hs 8 (by omega)
  have s9 : In40 q := smF_at hs 9 (by omega)
  have hM := (has_meet s0 s1 s2 s3 s4 s5 s6 s7 s8 s9).trans (show _ = false by rw [hP, hQ]; rfl)
  have HP := Lib.hid hP
  have HQ := Lib.hid hQ
  have HM := Lib.hid hM
  have HJ := Lib.hid (has_join s0 s1 s2 s3 s4 s5 s6 s7 s8 s9 (.inl hP))
  clear hM hP hQ s0 s1 s2 s3 s4 s5 s6 s7 s8 s9
  have e1 := fun W x b o => ext_cell (w.heap.size + 2) W x b o
  go_enter Try.func4, Try.ntmps4
  go_wp2
  refine wp_gen (fun W => Below w.heap.size w W ∧ w.heap.size + 2 ≤ W.heap.size ∧ Blk W w.heap.size 23 #[.int .i64 ax, .int .i64 ay, .int .i64 aw, .int .i64 ah] ∧ Blk W (w.heap.size + 1) 23 #[.int .i64 bx, .int .i64 bY, .int .i64 bw, .int .i64 bh])
    ⟨box2 w _ _, by simp, (Blk.new _ _ _).alloc _, by simpa using Blk.new (w.alloc _) 23 #[.int .i64 bx, .int .i64 bY, .int .i64 bw, .int .i64 bh]⟩ ?_
  rintro w2 ⟨b2, hz2, k0, k1⟩
  obtain ⟨c0, f0⟩ := k0.use
  obtain ⟨c1, f1⟩ := k1.use
  refine region_ext (w.heap.size + 2) (by kernel_rfl) (by kernel_rfl) ?_
  repeat quiet_step ((first | (go_at_call 7; (with_reducible exact call_of (meet_any ax ay aw ah bx bY bw bh _) hz2)) | (go_at_call 7; exact call_of (meet_sym ax ay aw ah bx bY bw bh _) hz2) | (go_at_call 8; (with_reducible exact call_of (join_any ax ay aw ah bx bY bw bh _) hz2)) | (go_at_call 8; exact call_of (join_sym ax ay aw ah bx bY bw bh _) hz2)))
  refine wpQuiet_nil ?_
  intro w3 hb3
  have b3 := b2.trans (hb3.mono (by omega))
  have hz3 := Nat.le_trans hz2 hb3.size
  have k3 := k0.below hb3 (by omega)
  have k4 := k1.below hb3 (by omega)
  clear c0 f0 k0 c1 f1 k1 b2 hb3 hz2 w2
  obtain ⟨c0, f0⟩ := k3.use
  obtain ⟨c1, f1⟩ := k4.use
  go_upto_region 5 with ((go_at_call 13; refine (small_any _ 10 _ (nth [ax, ay, aw, ah, bx, bY, bw, bh, p, q]) _ (by omega) (new_row _ _ [ax, ay, aw, ah, bx, bY, bw, bh, p, q])).mono ?_; rintro e w2 ⟨rfl, rfl⟩))
  clear hs
  refine wp_gen (fun W => Below w.heap.size w W ∧ w.heap.size + 2 ≤ W.heap.size ∧ Blk W w.heap.size 23 #[.int .i64 ax, .int .i64 ay, .int .i64 aw, .int .i64 ah] ∧ Blk W (w.heap.size + 1) 23 #[.int .i64 bx, .int .i64 bY, .int .i64 bw, .int .i64 bh])
    ⟨b3.alloc (by omega) _, by simp; omega, k3.alloc _, k4.alloc _⟩ ?_
  clear c0 f0 c1 f1 k3 k4 b3 hz3
  rintro w2 ⟨b2, hz2, k0, k1⟩
  obtain ⟨c0, f0⟩ := k0.use
  obtain ⟨c1, f1⟩ := k1.use
  go_upto_region 7 with (first
    | (go_at_call 10; (with_reducible refine (has_is ax ay aw ah p q true HP.out _).mono ?_); rintro e w3 ⟨rfl, hb3⟩; have k3 := k1.below hb3 (by omega); obtain ⟨c3, f3⟩ := k3.use)
    | (go_at_call 10; (with_reducible refine (has_is bx bY bw bh p q false HQ.out _).mono ?_); rintro e w4 ⟨rfl, hb4⟩))
  have b4 := b2.trans ((hb3.trans (hb4.mono hb3.size)).mono (by omega))
  have hz4 := Nat.le_trans hz2 (Nat.le_trans hb3.size hb4.size)
  have k5 := (k0.below hb3 (by omega)).below hb4 (Nat.lt_of_lt_of_le (by omega) (Nat.le_trans hz2 hb3.size))
  have k6 := k3.below hb4 (Nat.lt_of_lt_of_le (by omega) (Nat.le_trans hz2 hb3.size))
  clear c0 f0 c1 f1 c3 f3 k0 k1 k3 b2 hz2 hb3 hb4
  obtain ⟨c0, f0⟩ := k5.use
  obtain ⟨c1, f1⟩ := k6.use
  go_wp2_with (first
    | (go_at_call 7; refine (meet_any ax ay aw ah bx bY bw bh _).mono ?_; rintro e w5 ⟨rfl, hb5⟩)
    | (go_at_call 10; (with_reducible refine (has_is (on (emB (mW ax aw bx bw) (mW ay ah bY bh)) (mX ax bx)) (on (emB (mW ax aw bx bw) (mW ay ah bY bh)) (mX ay bY)) (on (emB (mW ax aw bx bw) (mW ay ah bY bh)) (mW ax aw bx bw)) (on (emB (mW ax aw bx bw) (mW ay ah bY bh)) (mW ay ah bY bh)) p q false HM.out _).mono ?_); rintro e w6 ⟨rfl, hb6⟩; have k7 := (k5.below hb5 (by omega)).below hb6 (Nat.lt_of_lt_of_le (by omega) (Nat.le_trans hz4 hb5.size)); have k8 := (k6.below hb5 (by omega)).below hb6 (Nat.lt_of_lt_of_le (by omega) (Nat.le_trans hz4 hb5.size)); obtain ⟨c7, f7⟩ := k7.use; obtain ⟨c8, f8⟩ := k8.use)
    | (go_at_call 8; refine (join_any ax ay aw ah bx bY bw bh _).mono ?_; rintro e w7 ⟨rfl, hb7⟩)
    | (go_at_call 10; (with_reducible refine (has_is (jX (emB (sat aw) (sat ah)) (emB (sat bw) (sat bh)) ax bx) (jX (emB (sat aw) (sat ah)) (emB (sat bw) (sat bh)) ay bY) (jV (emB (sat aw) (sat ah)) (emB (sat bw) (sat bh)) ax aw bx bw) (jV (emB (sat aw) (sat ah)) (emB (sat bw) (sat bh)) ay ah bY bh) p q true HJ.out _).mono ?_); rintro e w8 ⟨rfl, hb8⟩)
    | (go_at_call 12; refine (known_any _).mono ?_; rintro e w9 ⟨rfl, hb9⟩))
  go_ret
  have a6 := hb5.trans (hb6.mono hb5.size)
  have a7 := a6.trans (hb7.mono a6.size)
  have a8 := a7.trans (hb8.mono a7.size)
  have a9 := a8.trans (hb9.mono a8.size)
  exact ⟨rfl, b4.trans (a9.mono (by omega))⟩
set_option maxHeartbeats 800000 in
theorem points_ft (ax ay aw ah bx bY bw bh p q : Int) (w : World) (hs : smF (nth [ax, ay, aw, ah, bx, bY, bw, bh, p, q]) 10 = true) (hP : hsB ax ay aw ah p q = false) (hQ : hsB bx bY bw bh p q = true) :
    Calls Try.prog 4 #[.agg #[.int .i64 ax, .int .i64 ay, .int .i64 aw, .int .i64 ah], .agg #[.int .i64 bx, .int .i64 bY, .int .i64 bw, .int .i64 bh], .int .i64 p, .int .i64 q] w fun e w' => e = .returned (.bool true) ∧ Below w.heap.size w w' := by
  have s0 : In40 ax := smF_at hs 0 (by omega)
  have s1 : In40 ay := smF_at hs 1 (by omega)
  have s2 : In40 aw := smF_at hs 2 (by omega)
  have s3 : In40 ah := smF_at hs 3 (by omega)
  have s4 : In40 bx := smF_at hs 4 (by omega)
  have s5 : In40 bY := smF_at hs 5 (by omega)
  have s6 : In40 bw := smF_at hs 6 (by omega)
  have s7 : In40 bh := smF_at hs 7 (by omega)
  have s8 : In40 p := smF_at hs 8 (by omega)
  have s9 : In40 q := smF_at hs 9 (by omega)
  have hM := (has_meet s0 s1 s2 s3 s4 s5 s6 s7 s8 s9).trans (show _ = false by rw [hP, hQ]; rfl)
  have HP := Lib.hid hP
  have HQ := Lib.hid hQ
  have HM := Lib.hid hM
  have HJ := Lib.hid (has_join s0 s1 s2 s3 s4 s5 s6 s7 s8 s9 (.inr hQ))
  clear hM hP hQ s0 s1 s2 s3 s4 s5 s6 s7 s8 s9
  have e1 := fun W x b o => ext_cell (w.heap.size + 2) W x b o
  go_enter Try.func4, Try.ntmps4
  go_wp2
  refine wp_gen (fun W => Below w.heap.size w W ∧ w.heap.size + 2 ≤ W.heap.size ∧ Blk W w.heap.size 23 #[.int .i64 ax, .int .i64 ay, .int .i64 aw, .int .i64 ah] ∧ Blk W (w.heap.size + 1) 23 #[.int .i64 bx, .int .i64 bY, .int .i64 bw, .int .i64 bh])
    ⟨box2 w _ _, by simp, (Blk.new _ _ _).alloc _, by simpa using Blk.new (w.alloc _) 23 #[.int .i64 bx, .int .i64 bY, .int .i64 bw, .int .i64 bh]⟩ ?_
  rintro w2 ⟨b2, hz2, k0, k1⟩
  obtain ⟨c0, f0⟩ := k0.use
  obtain ⟨c1, f1⟩ := k1.use
  refine region_ext (w.heap.size + 2) (by kernel_rfl) (by kernel_rfl) ?_
  repeat quiet_step ((first | (go_at_call 7; (with_reducible exact call_of (meet_any ax ay aw ah bx bY bw bh _) hz2)) | (go_at_call 7; exact call_of (meet_sym ax ay aw ah bx bY bw bh _) hz2) | (go_at_call 8; (with_reducible exact call_of (join_any ax ay aw ah bx bY bw bh _) hz2)) | (go_at_call 8; exact call_of (join_sym ax ay aw ah bx bY bw bh _) hz2)))
  refine wpQuiet_nil ?_
  intro w3 hb3
  have b3 := b2.trans (hb3.mono (by omega))
  have hz3 := Nat.le_trans hz2 hb3.size
  have k3 := k0.below hb3 (by omega)
  have k4 := k1.below hb3 (by omega)
  clear c0 f0 k0 c1 f1 k1 b2 hb3 hz2 w2
  obtain ⟨c0, f0⟩ := k3.use
  obtain ⟨c1, f1⟩ := k4.use
  go_upto_region 5 with ((go_at_call 13; refine (small_any _ 10 _ (nth [ax, ay, aw, ah, bx, bY, bw, bh, p, q]) _ (by omega) (new_row _ _ [ax, ay, aw, ah, bx, bY, bw, bh, p, q])).mono ?_; rintro e w2 ⟨rfl, rfl⟩))
  clear hs
  refine wp_gen (fun W => Below w.heap.size w W ∧ w.heap.size + 2 ≤ W.heap.size ∧ Blk W w.heap.size 23 #[.int .i64 ax, .int .i64 ay, .int .i64 aw, .int .i64 ah] ∧ Blk W (w.heap.size + 1) 23 #[.int .i64 bx, .int .i64 bY, .int .i64 bw, .int .i64 bh])
    ⟨b3.alloc (by omega) _, by simp; omega, k3.alloc _, k4.alloc _⟩ ?_
  clear c0 f0 c1 f1 k3 k4 b3 hz3
  rintro w2 ⟨b2, hz2, k0, k1⟩
  obtain ⟨c0, f0⟩ := k0.use
  obtain ⟨c1, f1⟩ := k1.use
  go_upto_region 7 with (first
    | (go_at_call 10; (with_reducible refine (has_is ax ay aw ah p q false HP.out _).mono ?_); rintro e w3 ⟨rfl, hb3⟩; have k3 := k1.below hb3 (by omega); obtain ⟨c3, f3⟩ := k3.use)
    | (go_at_call 10; (with_reducible refine (has_is bx bY bw bh p q true HQ.out _).mono ?_); rintro e w4 ⟨rfl, hb4⟩))
  have b4 := b2.trans ((hb3.trans (hb4.mono hb3.size)).mono (by omega))
  have hz4 := Nat.le_trans hz2 (Nat.le_trans hb3.size hb4.size)
  have k5 := (k0.below hb3 (by omega)).below hb4 (Nat.lt_of_lt_of_le (by omega) (Nat.le_trans hz2 hb3.size))
  have k6 := k3.below hb4 (Nat.lt_of_lt_of_le (by omega) (Nat.le_trans hz2 hb3.size))
  clear c0 f0 c1 f1 c3 f3 k0 k1 k3 b2 hz2 hb3 hb4
  obtain ⟨c0, f0⟩ := k5.use
  obtain ⟨c1, f1⟩ := k6.use
  go_wp2_with (first
    | (go_at_call 7; refine (meet_any ax ay aw ah bx bY bw bh _).mono ?_; rintro e w5 ⟨rfl, hb5⟩)
    | (go_at_call 10; (with_reducible refine (has_is (on (emB (mW ax aw bx bw) (mW ay ah bY bh)) (mX ax bx)) (on (emB (mW ax aw bx bw) (mW ay ah bY bh)) (mX ay bY)) (on (emB (mW ax aw bx bw) (mW ay ah bY bh)) (mW ax aw bx bw)) (on (emB (mW ax aw bx bw) (mW ay ah bY bh)) (mW ay ah bY bh)) p q false HM.out _).mono ?_); rintro e w6 ⟨rfl, hb6⟩; have k7 := (k5.below hb5 (by omega)).below hb6 (Nat.lt_of_lt_of_le (by omega) (Nat.le_trans hz4 hb5.size)); have k8 := (k6.below hb5 (by omega)).below hb6 (Nat.lt_of_lt_of_le (by omega) (Nat.le_trans hz4 hb5.size)); obtain ⟨c7, f7⟩ := k7.use; obtain ⟨c8, f8⟩ := k8.use)
    | (go_at_call 8; refine (join_any ax ay aw ah bx bY bw bh _).mono ?_; rintro e w7 ⟨rfl, hb7⟩)
    | (go_at_call 10; (with_reducible refine (has_is (jX (emB (sat aw) (sat ah)) (emB (sat bw) (sat bh)) ax bx) (jX (emB (sat aw) (sat ah)) (emB (sat bw) (sat bh)) ay bY) (jV (emB (sat aw) (sat ah)) (emB (sat bw) (sat bh)) ax aw bx bw) (jV (emB (sat aw) (sat ah)) (emB (sat bw) (sat bh)) ay ah bY bh) p q true HJ.out _).mono ?_); rintro e w8 ⟨rfl, hb8⟩)
    | (go_at_call 12; refine (known_any _).mono ?_; rintro e w9 ⟨rfl, hb9⟩))
  go_ret
  have a6 := hb5.trans (hb6.mono hb5.size)
  have a7 := a6.trans (hb7.mono a6.size)
  have a8 := a7.trans (hb8.mono a7.size)
  have a9 := a8.trans (hb9.mono a8.size)
  exact ⟨rfl, b4.trans (a9.mono (by omega))⟩
set_option maxHeartbeats 800000 in
theorem points_ff (ax ay aw ah bx bY bw bh p q : Int) (w : World) (hs : smF (nth [ax, ay, aw, ah, bx, bY, bw, bh, p, q]) 10 = true) (hP : hsB ax ay aw ah p q = false) (hQ : hsB bx bY bw bh p q = false) :
    Calls Try.prog 4 #[.agg #[.int .i64 ax, .int .i64 ay, .int .i64 aw, .int .i64 ah], .agg #[.int .i64 bx, .int .i64 bY, .int .i64 bw, .int .i64 bh], .int .i64 p, .int .i64 q] w fun e w' => e = .returned (.bool true) ∧ Below w.heap.size w w' := by
  have s0 : In40 ax := smF_at hs 0 (by omega)
  have s1 : In40 ay := smF_at hs 1 (by omega)
  have s2 : In40 aw := smF_at hs 2 (by omega)
  have s3 : In40 ah := smF_at hs 3 (by omega)
  have s4 : In40 bx := smF_at hs 4 (by omega)
  have s5 : In40 bY := smF_at hs 5 (by omega)
  have s6 : In40 bw := smF_at hs 6 (by omega)
  have s7 : In40 bh := smF_at hs 7 (by omega)
  have s8 : In40 p := smF_at hs 8 (by omega)
  have s9 : In40 q := smF_at hs 9 (by omega)
  have hM := (has_meet s0 s1 s2 s3 s4 s5 s6 s7 s8 s9).trans (show _ = false by rw [hP, hQ]; rfl)
  have HP := Lib.hid hP
  have HQ := Lib.hid hQ
  have HM := Lib.hid hM
  clear hM hP hQ s0 s1 s2 s3 s4 s5 s6 s7 s8 s9
  have e1 := fun W x b o => ext_cell (w.heap.size + 2) W x b o
  go_enter Try.func4, Try.ntmps4
  go_wp2
  refine wp_gen (fun W => Below w.heap.size w W ∧ w.heap.size + 2 ≤ W.heap.size ∧ Blk W w.heap.size 23 #[.int .i64 ax, .int .i64 ay, .int .i64 aw, .int .i64 ah] ∧ Blk W (w.heap.size + 1) 23 #[.int .i64 bx, .int .i64 bY, .int .i64 bw, .int .i64 bh])
    ⟨box2 w _ _, by simp, (Blk.new _ _ _).alloc _, by simpa using Blk.new (w.alloc _) 23 #[.int .i64 bx, .int .i64 bY, .int .i64 bw, .int .i64 bh]⟩ ?_
  rintro w2 ⟨b2, hz2, k0, k1⟩
  obtain ⟨c0, f0⟩ := k0.use
  obtain ⟨c1, f1⟩ := k1.use
  refine region_ext (w.heap.size + 2) (by kernel_rfl) (by kernel_rfl) ?_
  repeat quiet_step ((first | (go_at_call 7; (with_reducible exact call_of (meet_any ax ay aw ah bx bY bw bh _) hz2)) | (go_at_call 7; exact call_of (meet_sym ax ay aw ah bx bY bw bh _) hz2) | (go_at_call 8; (with_reducible exact call_of (join_any ax ay aw ah bx bY bw bh _) hz2)) | (go_at_call 8; exact call_of (join_sym ax ay aw ah bx bY bw bh _) hz2)))
  refine wpQuiet_nil ?_
  intro w3 hb3
  have b3 := b2.trans (hb3.mono (by omega))
  have hz3 := Nat.le_trans hz2 hb3.size
  have k3 := k0.below hb3 (by omega)
  have k4 := k1.below hb3 (by omega)
  clear c0 f0 k0 c1 f1 k1 b2 hb3 hz2 w2
  obtain ⟨c0, f0⟩ := k3.use
  obtain ⟨c1, f1⟩ := k4.use
  go_upto_region 5 with ((go_at_call 13; refine (small_any _ 10 _ (nth [ax, ay, aw, ah, bx, bY, bw, bh, p, q]) _ (by omega) (new_row _ _ [ax, ay, aw, ah, bx, bY, bw, bh, p, q])).mono ?_; rintro e w2 ⟨rfl, rfl⟩))
  clear hs
  refine wp_gen (fun W => Below w.heap.size w W ∧ w.heap.size + 2 ≤ W.heap.size ∧ Blk W w.heap.size 23 #[.int .i64 ax, .int .i64 ay, .int .i64 aw, .int .i64 ah] ∧ Blk W (w.heap.size + 1) 23 #[.int .i64 bx, .int .i64 bY, .int .i64 bw, .int .i64 bh])
    ⟨b3.alloc (by omega) _, by simp; omega, k3.alloc _, k4.alloc _⟩ ?_
  clear c0 f0 c1 f1 k3 k4 b3 hz3
  rintro w2 ⟨b2, hz2, k0, k1⟩
  obtain ⟨c0, f0⟩ := k0.use
  obtain ⟨c1, f1⟩ := k1.use
  go_upto_region 7 with (first
    | (go_at_call 10; (with_reducible refine (has_is ax ay aw ah p q false HP.out _).mono ?_); rintro e w3 ⟨rfl, hb3⟩; have k3 := k1.below hb3 (by omega); obtain ⟨c3, f3⟩ := k3.use)
    | (go_at_call 10; (with_reducible refine (has_is bx bY bw bh p q false HQ.out _).mono ?_); rintro e w4 ⟨rfl, hb4⟩))
  have b4 := b2.trans ((hb3.trans (hb4.mono hb3.size)).mono (by omega))
  have hz4 := Nat.le_trans hz2 (Nat.le_trans hb3.size hb4.size)
  have k5 := (k0.below hb3 (by omega)).below hb4 (Nat.lt_of_lt_of_le (by omega) (Nat.le_trans hz2 hb3.size))
  have k6 := k3.below hb4 (Nat.lt_of_lt_of_le (by omega) (Nat.le_trans hz2 hb3.size))
  clear c0 f0 c1 f1 c3 f3 k0 k1 k3 b2 hz2 hb3 hb4
  obtain ⟨c0, f0⟩ := k5.use
  obtain ⟨c1, f1⟩ := k6.use
  go_wp2_with (first
    | (go_at_call 7; refine (meet_any ax ay aw ah bx bY bw bh _).mono ?_; rintro e w5 ⟨rfl, hb5⟩)
    | (go_at_call 10; (with_reducible refine (has_is (on (emB (mW ax aw bx bw) (mW ay ah bY bh)) (mX ax bx)) (on (emB (mW ax aw bx bw) (mW ay ah bY bh)) (mX ay bY)) (on (emB (mW ax aw bx bw) (mW ay ah bY bh)) (mW ax aw bx bw)) (on (emB (mW ax aw bx bw) (mW ay ah bY bh)) (mW ay ah bY bh)) p q false HM.out _).mono ?_); rintro e w6 ⟨rfl, hb6⟩; have k7 := (k5.below hb5 (by omega)).below hb6 (Nat.lt_of_lt_of_le (by omega) (Nat.le_trans hz4 hb5.size)); have k8 := (k6.below hb5 (by omega)).below hb6 (Nat.lt_of_lt_of_le (by omega) (Nat.le_trans hz4 hb5.size)); obtain ⟨c7, f7⟩ := k7.use; obtain ⟨c8, f8⟩ := k8.use)
    | (go_at_call 12; refine (known_any _).mono ?_; rintro e w9 ⟨rfl, hb9⟩))
  go_ret
  have a6 := hb5.trans (hb6.mono hb5.size)
  have a9 := a6.trans (hb9.mono a6.size)
  exact ⟨rfl, b4.trans (a9.mono (by omega))⟩
theorem points_walk (ax ay aw ah bx bY bw bh p q : Int) (w : World) :
    Calls Try.prog 4 #[.agg #[.int .i64 ax, .int .i64 ay, .int .i64 aw, .int .i64 ah], .agg #[.int .i64 bx, .int .i64 bY, .int .i64 bw, .int .i64 bh], .int .i64 p, .int .i64 q] w fun e w' => e = .returned (.bool true) ∧ Below w.heap.size w w' := by
  cases hs : smF (nth [ax, ay, aw, ah, bx, bY, bw, bh, p, q]) 10 with
  | false => exact points_out ax ay aw ah bx bY bw bh p q w hs
  | true =>
    cases hP : hsB ax ay aw ah p q with
    | true =>
      cases hQ : hsB bx bY bw bh p q with
      | true => exact points_tt ax ay aw ah bx bY bw bh p q w hs hP hQ
      | false => exact points_tf ax ay aw ah bx bY bw bh p q w hs hP hQ
    | false =>
      cases hQ : hsB bx bY bw bh p q with
      | true => exact points_ft ax ay aw ah bx bY bw bh p q w hs hP hQ
      | false => exact points_ff ax ay aw ah bx bY bw bh p q w hs hP hQ
end Go.Proofs.Ytijanagnmeihoaa
