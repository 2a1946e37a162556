/- RectMoves, where all is small. No conditions. -/
import Derived.Test.YtijanagnmeihoaaMo
import Derived.IntWalk
namespace Go.Proofs.Ytijanagnmeihoaa
set_option linter.unusedVariables false
open Go.RowKit Go.Proofs.Fx Go.Proofs.Fc

set_option maxHeartbeats 400000 in
theorem moves_in_a (x y wd ht dx dy n : Int) (w : World) (hs : smF (nth [x, y, wd, ht, dx, dy, n]) 7 = true) (h1 : 0 ≤ wd) (h2 : 0 ≤ ht) (h3 : n < 0) :
    Calls Try.prog 5 #[.agg #[.int .i64 x, .int .i64 y, .int .i64 wd, .int .i64 ht], .int .i64 dx, .int .i64 dy, .int .i64 n] w fun e w' => e = .returned (.bool true) ∧ Below w.heap.size w w' := by
  have s0 : -1099511627776 ≤ x ∧ x ≤ 1099511627776 := smF_at hs 0 (by omega)
  have s1 : -1099511627776 ≤ y ∧ y ≤ 1099511627776 := smF_at hs 1 (by omega)
  have s2 : -1099511627776 ≤ wd ∧ wd ≤ 1099511627776 := smF_at hs 2 (by omega)
  have s3 : -1099511627776 ≤ ht ∧ ht ≤ 1099511627776 := smF_at hs 3 (by omega)
  have s4 : -1099511627776 ≤ dx ∧ dx ≤ 1099511627776 := smF_at hs 4 (by omega)
  have s5 : -1099511627776 ≤ dy ∧ dy ≤ 1099511627776 := smF_at hs 5 (by omega)
  have s6 : -1099511627776 ≤ n ∧ n ≤ 1099511627776 := smF_at hs 6 (by omega)
  have e1 := fun W x b o => ext_cell (w.heap.size + 1) W x b o
  have q1 : IntKind.i64.wrap (-dx) = -dx := IntWalk.i64_in _ (by omega)
  have q2 : IntKind.i64.wrap (-dy) = -dy := IntWalk.i64_in _ (by omega)
  have q3 : IntKind.i64.wrap (-n) = -n := IntWalk.i64_in _ (by omega)
  go_enter Try.func5, Try.ntmps5
  go_wp2_with (go_at_call 13; refine (small_any _ 7 _ (nth [x, y, wd, ht, dx, dy, n]) _ (by omega) (new_row2 _ _ _ [x, y, wd, ht, dx, dy, n])).mono ?_; rintro e w2 ⟨rfl, rfl⟩)
  clear hs
  refine wp_gen (fun W => Below w.heap.size w W ∧ w.heap.size + 1 ≤ W.heap.size ∧ Blk W w.heap.size 23 #[.int .i64 x, .int .i64 y, .int .i64 wd, .int .i64 ht])
    ⟨box2 w _ _, by simp, (Blk.new _ _ _).alloc _⟩ ?_
  rintro w2 ⟨b2, hz2, k0⟩
  obtain ⟨c0, f0⟩ := k0.use
  refine region_ext (w.heap.size + 1) (by kernel_rfl) (by kernel_rfl) ?_
  repeat quiet_step ((first | (go_at_call 14; (with_reducible exact call_of (move_k x y wd ht dx dy _ s0 s1 s2 s3 s4 s5) hz2)) | (go_at_call 14; exact call_of (move_kk x y wd ht dx dy _ s0 s1 s2 s3 s4 s5) hz2)))
  refine wpQuiet_nil ?_
  intro w3 hb3
  have b3 := b2.trans (hb3.mono (by omega))
  have hz3 := Nat.le_trans hz2 hb3.size
  have k3 := k0.below hb3 (by omega)
  clear c0 f0 k0 b2 hb3 hz2 w2
  obtain ⟨c0, f0⟩ := k3.use
  go_wp2_with (go_at_call 12; refine (known_any _).mono ?_; rintro e w4 ⟨rfl, hb4⟩)
  go_ret
  exact ⟨rfl, b3.trans (hb4.mono (by omega))⟩
set_option maxHeartbeats 400000 in
theorem moves_in_b (x y wd ht dx dy n : Int) (w : World) (hs : smF (nth [x, y, wd, ht, dx, dy, n]) 7 = true) (h1 : 0 ≤ wd) (h2 : 0 ≤ ht) (h3 : 0 ≤ n) (h4 : wd / 2 < n) :
    Calls Try.prog 5 #[.agg #[.int .i64 x, .int .i64 y, .int .i64 wd, .int .i64 ht], .int .i64 dx, .int .i64 dy, .int .i64 n] w fun e w' => e = .returned (.bool true) ∧ Below w.heap.size w w' := by
  have s0 : -1099511627776 ≤ x ∧ x ≤ 1099511627776 := smF_at hs 0 (by omega)
  have s1 : -1099511627776 ≤ y ∧ y ≤ 1099511627776 := smF_at hs 1 (by omega)
  have s2 : -1099511627776 ≤ wd ∧ wd ≤ 1099511627776 := smF_at hs 2 (by omega)
  have s3 : -1099511627776 ≤ ht ∧ ht ≤ 1099511627776 := smF_at hs 3 (by omega)
  have s4 : -1099511627776 ≤ dx ∧ dx ≤ 1099511627776 := smF_at hs 4 (by omega)
  have s5 : -1099511627776 ≤ dy ∧ dy ≤ 1099511627776 := smF_at hs 5 (by omega)
  have s6 : -1099511627776 ≤ n ∧ n ≤ 1099511627776 := smF_at hs 6 (by omega)
  have e1 := fun W x b o => ext_cell (w.heap.size + 1) W x b o
  have q1 : IntKind.i64.wrap (-dx) = -dx := IntWalk.i64_in _ (by omega)
  have q2 : IntKind.i64.wrap (-dy) = -dy := IntWalk.i64_in _ (by omega)
  have q3 : IntKind.i64.wrap (-n) = -n := IntWalk.i64_in _ (by omega)
  go_enter Try.func5, Try.ntmps5
  go_wp2_with (go_at_call 13; refine (small_any _ 7 _ (nth [x, y, wd, ht, dx, dy, n]) _ (by omega) (new_row2 _ _ _ [x, y, wd, ht, dx, dy, n])).mono ?_; rintro e w2 ⟨rfl, rfl⟩)
  clear hs
  refine wp_gen (fun W => Below w.heap.size w W ∧ w.heap.size + 1 ≤ W.heap.size ∧ Blk W w.heap.size 23 #[.int .i64 x, .int .i64 y, .int .i64 wd, .int .i64 ht])
    ⟨box2 w _ _, by simp, (Blk.new _ _ _).alloc _⟩ ?_
  rintro w2 ⟨b2, hz2, k0⟩
  obtain ⟨c0, f0⟩ := k0.use
  refine region_ext (w.heap.size + 1) (by kernel_rfl) (by kernel_rfl) ?_
  repeat quiet_step ((first | (go_at_call 14; (with_reducible exact call_of (move_k x y wd ht dx dy _ s0 s1 s2 s3 s4 s5) hz2)) | (go_at_call 14; exact call_of (move_kk x y wd ht dx dy _ s0 s1 s2 s3 s4 s5) hz2)))
  refine wpQuiet_nil ?_
  intro w3 hb3
  have b3 := b2.trans (hb3.mono (by omega))
  have hz3 := Nat.le_trans hz2 hb3.size
  have k3 := k0.below hb3 (by omega)
  clear c0 f0 k0 b2 hb3 hz2 w2
  obtain ⟨c0, f0⟩ := k3.use
  go_wp2_with (go_at_call 12; refine (known_any _).mono ?_; rintro e w4 ⟨rfl, hb4⟩)
  go_ret
  exact ⟨rfl, b3.trans (hb4.mono (by omega))⟩
set_option maxHeartbeats 400000 in
theorem moves_in_c (x y wd ht dx dy n : Int) (w : World) (hs : smF (nth [x, y, wd, ht, dx, dy, n]) 7 = true) (h1 : 0 ≤ wd) (h2 : 0 ≤ ht) (h3 : 0 ≤ n) (h4 : n ≤ wd / 2) (h5 : ht / 2 < n) :
    Calls Try.prog 5 #[.agg #[.int .i64 x, .int .i64 y, .int .i64 wd, .int .i64 ht], .int .i64 dx, .int .i64 dy, .int .i64 n] w fun e w' => e = .returned (.bool true) ∧ Below w.heap.size w w' := by
  have s0 : -1099511627776 ≤ x ∧ x ≤ 1099511627776 := smF_at hs 0 (by omega)
  have s1 : -1099511627776 ≤ y ∧ y ≤ 1099511627776 := smF_at hs 1 (by omega)
  have s2 : -1099511627776 ≤ wd ∧ wd ≤ 1099511627776 := smF_at hs 2 (by omega)
  have s3 : -1099511627776 ≤ ht ∧ ht ≤ 1099511627776 := smF_at hs 3 (by omega)
  have s4 : -1099511627776 ≤ dx ∧ dx ≤ 1099511627776 := smF_at hs 4 (by omega)
  have s5 : -1099511627776 ≤ dy ∧ dy ≤ 1099511627776 := smF_at hs 5 (by omega)
  have s6 : -1099511627776 ≤ n ∧ n ≤ 1099511627776 := smF_at hs 6 (by omega)
  have e1 := fun W x b o => ext_cell (w.heap.size + 1) W x b o
  have q1 : IntKind.i64.wrap (-dx) = -dx := IntWalk.i64_in _ (by omega)
  have q2 : IntKind.i64.wrap (-dy) = -dy := IntWalk.i64_in _ (by omega)
  have q3 : IntKind.i64.wrap (-n) = -n := IntWalk.i64_in _ (by omega)
  go_enter Try.func5, Try.ntmps5
  go_wp2_with (go_at_call 13; refine (small_any _ 7 _ (nth [x, y, wd, ht, dx, dy, n]) _ (by omega) (new_row2 _ _ _ [x, y, wd, ht, dx, dy, n])).mono ?_; rintro e w2 ⟨rfl, rfl⟩)
  clear hs
  refine wp_gen (fun W => Below w.heap.size w W ∧ w.heap.size + 1 ≤ W.heap.size ∧ Blk W w.heap.size 23 #[.int .i64 x, .int .i64 y, .int .i64 wd, .int .i64 ht])
    ⟨box2 w _ _, by simp, (Blk.new _ _ _).alloc _⟩ ?_
  rintro w2 ⟨b2, hz2, k0⟩
  obtain ⟨c0, f0⟩ := k0.use
  refine region_ext (w.heap.size + 1) (by kernel_rfl) (by kernel_rfl) ?_
  repeat quiet_step ((first | (go_at_call 14; (with_reducible exact call_of (move_k x y wd ht dx dy _ s0 s1 s2 s3 s4 s5) hz2)) | (go_at_call 14; exact call_of (move_kk x y wd ht dx dy _ s0 s1 s2 s3 s4 s5) hz2)))
  refine wpQuiet_nil ?_
  intro w3 hb3
  have b3 := b2.trans (hb3.mono (by omega))
  have hz3 := Nat.le_trans hz2 hb3.size
  have k3 := k0.below hb3 (by omega)
  clear c0 f0 k0 b2 hb3 hz2 w2
  obtain ⟨c0, f0⟩ := k3.use
  go_wp2_with (go_at_call 12; refine (known_any _).mono ?_; rintro e w4 ⟨rfl, hb4⟩)
  go_ret
  exact ⟨rfl, b3.trans (hb4.mono (by omega))⟩
set_option maxHeartbeats 400000 in
theorem moves_in_d (x y wd ht dx dy n : Int) (w : World) (hs : smF (nth [x, y, wd, ht, dx, dy, n]) 7 = true) (h1 : 0 ≤ wd) (h2 : 0 ≤ ht) (h3 : 0 ≤ n) (h4 : n ≤ wd / 2) (h5 : n ≤ ht / 2) :
    Calls Try.prog 5 #[.agg #[.int .i64 x, .int .i64 y, .int .i64 wd, .int .i64 ht], .int .i64 dx, .int .i64 dy, .int .i64 n] w fun e w' => e = .returned (.bool true) ∧ Below w.heap.size w w' := by
  have s0 : -1099511627776 ≤ x ∧ x ≤ 1099511627776 := smF_at hs 0 (by omega)
  have s1 : -1099511627776 ≤ y ∧ y ≤ 1099511627776 := smF_at hs 1 (by omega)
  have s2 : -1099511627776 ≤ wd ∧ wd ≤ 1099511627776 := smF_at hs 2 (by omega)
  have s3 : -1099511627776 ≤ ht ∧ ht ≤ 1099511627776 := smF_at hs 3 (by omega)
  have s4 : -1099511627776 ≤ dx ∧ dx ≤ 1099511627776 := smF_at hs 4 (by omega)
  have s5 : -1099511627776 ≤ dy ∧ dy ≤ 1099511627776 := smF_at hs 5 (by omega)
  have s6 : -1099511627776 ≤ n ∧ n ≤ 1099511627776 := smF_at hs 6 (by omega)
  have e1 := fun W x b o => ext_cell (w.heap.size + 1) W x b o
  have q1 : IntKind.i64.wrap (-dx) = -dx := IntWalk.i64_in _ (by omega)
  have q2 : IntKind.i64.wrap (-dy) = -dy := IntWalk.i64_in _ (by omega)
  have q3 : IntKind.i64.wrap (-n) = -n := IntWalk.i64_in _ (by omega)
  go_enter Try.func5, Try.ntmps5
  go_wp2_with (go_at_call 13; refine (small_any _ 7 _ (nth [x, y, wd, ht, dx, dy, n]) _ (by omega) (new_row2 _ _ _ [x, y, wd, ht, dx, dy, n])).mono ?_; rintro e w2 ⟨rfl, rfl⟩)
  clear hs
  refine wp_gen (fun W => Below w.heap.size w W ∧ w.heap.size + 1 ≤ W.heap.size ∧ Blk W w.heap.size 23 #[.int .i64 x, .int .i64 y, .int .i64 wd, .int .i64 ht])
    ⟨box2 w _ _, by simp, (Blk.new _ _ _).alloc _⟩ ?_
  rintro w2 ⟨b2, hz2, k0⟩
  obtain ⟨c0, f0⟩ := k0.use
  refine region_ext (w.heap.size + 1) (by kernel_rfl) (by kernel_rfl) ?_
  repeat quiet_step ((first | (go_at_call 14; (with_reducible exact call_of (move_k x y wd ht dx dy _ s0 s1 s2 s3 s4 s5) hz2)) | (go_at_call 14; exact call_of (move_kk x y wd ht dx dy _ s0 s1 s2 s3 s4 s5) hz2)))
  refine wpQuiet_nil ?_
  intro w3 hb3
  have b3 := b2.trans (hb3.mono (by omega))
  have hz3 := Nat.le_trans hz2 hb3.size
  have k3 := k0.below hb3 (by omega)
  clear c0 f0 k0 b2 hb3 hz2 w2
  obtain ⟨c0, f0⟩ := k3.use
  go_wp2
  refine region_ext (w.heap.size + 1) (by kernel_rfl) (by kernel_rfl) ?_
  repeat quiet_step ((first | (go_at_call 9; (with_reducible exact call_of (inset_k1 x y wd ht n _ s0 s1 ⟨h1, s2.2⟩ ⟨h2, s3.2⟩ h3 h4 h5) hz3)) | (go_at_call 9; exact call_of (inset_k2 x y wd ht n _ s0 s1 ⟨h1, s2.2⟩ ⟨h2, s3.2⟩ h3 h4 h5) hz3) | (go_at_call 12; exact call_of (known_any _) hz3)))
  refine wpQuiet_nil ?_
  intro w4 hb4
  go_wp2
  go_ret
  exact ⟨rfl, b3.trans (hb4.mono (by omega))⟩
theorem moves_walk (x y wd ht dx dy n : Int) (w : World) :
    Calls Try.prog 5 #[.agg #[.int .i64 x, .int .i64 y, .int .i64 wd, .int .i64 ht], .int .i64 dx, .int .i64 dy, .int .i64 n] w fun e w' => e = .returned (.bool true) ∧ Below w.heap.size w w' := by
  by_cases h : smF (nth [x, y, wd, ht, dx, dy, n]) 7 = false ∨ wd < 0 ∨ ht < 0
  · exact moves_out x y wd ht dx dy n w h
  · have hs : smF (nth [x, y, wd, ht, dx, dy, n]) 7 = true := by
      cases e : smF (nth [x, y, wd, ht, dx, dy, n]) 7 with
      | true => rfl
      | false => exact absurd (.inl e) h
    have h1 : 0 ≤ wd := by omega
    have h2 : 0 ≤ ht := by omega
    by_cases h3 : n < 0
    · exact moves_in_a x y wd ht dx dy n w hs h1 h2 h3
    · by_cases h4 : wd / 2 < n
      · exact moves_in_b x y wd ht dx dy n w hs h1 h2 (by omega) h4
      · by_cases h5 : ht / 2 < n
        · exact moves_in_c x y wd ht dx dy n w hs h1 h2 (by omega) (by omega) h5
        · exact moves_in_d x y wd ht dx dy n w hs h1 h2 (by omega) (by omega) (by omega)
end Go.Proofs.Ytijanagnmeihoaa
