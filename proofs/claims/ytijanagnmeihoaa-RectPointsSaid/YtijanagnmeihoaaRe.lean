/- Layer 2 (rect): Join. No conditions. -/
import Derived.Test.YtijanagnmeihoaaRd
import Derived.Deep.DeepCutAuto
namespace Go.Proofs.Ytijanagnmeihoaa
set_option linter.unusedVariables false
open Go.RowKit Go.Proofs.Fx Go.Proofs.Fc

set_option maxHeartbeats 400000 in
theorem join_l (ax ay aw ah bx bY bw bh : Int) (w : World) (ha : emB (sat aw) (sat ah) = true) :
    Calls Try.prog 8 #[.agg #[.int .i64 ax, .int .i64 ay, .int .i64 aw, .int .i64 ah], .agg #[.int .i64 bx, .int .i64 bY, .int .i64 bw, .int .i64 bh]] w fun e w' => e = .returned (.agg #[.int .i64 (on (emB (sat bw) (sat bh)) (sat bx)), .int .i64 (on (emB (sat bw) (sat bh)) (sat bY)), .int .i64 (on (emB (sat bw) (sat bh)) (sat bw)), .int .i64 (on (emB (sat bw) (sat bh)) (sat bh))]) ∧ Below w.heap.size w w' := by
  have e1 := fun W x b o => ext_cell (w.heap.size + 3) W x b o
  have e4 : ∀ v, on (emB (sat aw) (sat ah)) v = 0 := fun v => by rw [ha]; rfl
  clear ha
  go_enter Try.func8, Try.ntmps8
  go_wp2
  refine region_ext_tail (w.heap.size + 3) 6 (by kernel_rfl) (by kernel_rfl) ?_
  simp only [List.take_succ_cons, List.take_zero, List.drop_succ_cons, List.drop_zero]
  repeat quiet_step ((first | (go_at_call 15; exact call_of (railed_any _ _ _ _ _) (by simp)) | (go_at_call 16; exact call_of (ornothing_any _ _ _ _ _) (by simp))))
  refine wpQuiet_nil ?_
  intro w2 hb2
  have b2 := (box3 w _ _ _).trans (hb2.mono (by omega))
  have k0 := (((Blk.new w 23 _).alloc _).alloc _).below hb2 (by omega)
  have k1 := ((Blk.new (w.alloc _) 23 _).alloc _).below hb2 (by simp)
  have k2 := (Blk.new ((w.alloc _).alloc _) 23 _).below hb2 (by simp)
  have hz2 := hb2.size
  simp only [World.size_alloc] at k1 k2 hz2
  have u0 := k0.use
  have u1 := k1.use
  have u2 := k2.use
  clear hb2
  go_upto_region 2 with (fail)
  refine wp_gen (fun W => Below w.heap.size w W ∧ w.heap.size + 3 ≤ W.heap.size ∧ Blk W w.heap.size 23 #[.int .i64 0, .int .i64 0, .int .i64 0, .int .i64 0] ∧ Blk W (w.heap.size + 1) 23 #[.int .i64 (on (emB (sat bw) (sat bh)) (sat bx)), .int .i64 (on (emB (sat bw) (sat bh)) (sat bY)), .int .i64 (on (emB (sat bw) (sat bh)) (sat bw)), .int .i64 (on (emB (sat bw) (sat bh)) (sat bh))] ∧ Blk W (w.heap.size + 2) 23 #[.int .i64 0, .int .i64 0, .int .i64 0, .int .i64 0])
    ⟨below4 (below4 b2 (Nat.le_refl _) _ _ _ _) (by omega) _ _ _ _, by simp; omega, (k0.set4 _ _ _ _).far4 (by omega) _ _ _ _, (k1.far4 (by omega) _ _ _ _).set4 _ _ _ _, (k2.far4 (by omega) _ _ _ _).far4 (by omega) _ _ _ _⟩ ?_
  clear k0 k1 k2 hz2 u0 u1 u2 b2 w2
  rintro w2 ⟨b2, hz2, k0, k1, k2⟩
  obtain ⟨c0, f0⟩ := k0.use
  obtain ⟨c1, f1⟩ := k1.use
  obtain ⟨c2, f2⟩ := k2.use
  go_upto_region 3 with (fail)
  refine wp_gen (fun W => Below w.heap.size w W ∧ w.heap.size + 4 ≤ W.heap.size ∧ Blk W w.heap.size 23 #[.int .i64 0, .int .i64 0, .int .i64 0, .int .i64 0] ∧ Blk W (w.heap.size + 1) 23 #[.int .i64 (on (emB (sat bw) (sat bh)) (sat bx)), .int .i64 (on (emB (sat bw) (sat bh)) (sat bY)), .int .i64 (on (emB (sat bw) (sat bh)) (sat bw)), .int .i64 (on (emB (sat bw) (sat bh)) (sat bh))] ∧ Blk W (w.heap.size + 2) 23 #[.int .i64 0, .int .i64 0, .int .i64 0, .int .i64 0] ∧ Blk W w2.heap.size 23 #[.int .i64 0, .int .i64 0, .int .i64 0, .int .i64 0])
    ⟨b2.alloc (by omega) _, by simp; omega, k0.alloc _, k1.alloc _, k2.alloc _, Blk.new _ _ _⟩ ?_
  have g2 : w.heap.size + 3 ≤ w2.heap.size := hz2
  clear k0 k1 k2 hz2 c0 c1 c2 f0 f1 f2 b2
  rintro w3 ⟨b2, hz2, k0, k1, k2, k3⟩
  obtain ⟨c0, f0⟩ := k0.use
  obtain ⟨c1, f1⟩ := k1.use
  obtain ⟨c2, f2⟩ := k2.use
  obtain ⟨c3, f3⟩ := k3.use
  go_wp2
  refine bodyPost_ret (v := .agg #[.int .i64 (on (emB (sat bw) (sat bh)) (sat bx)), .int .i64 (on (emB (sat bw) (sat bh)) (sat bY)), .int .i64 (on (emB (sat bw) (sat bh)) (sat bw)), .int .i64 (on (emB (sat bw) (sat bh)) (sat bh))]) (by simp [results, Try.results8, go_sem, c2]) rfl ⟨rfl, ?_⟩
  exact below4 b2 (by omega) _ _ _ _
set_option maxHeartbeats 400000 in
theorem join_r (ax ay aw ah bx bY bw bh : Int) (w : World) (ha : emB (sat aw) (sat ah) = false) (hb : emB (sat bw) (sat bh) = true) :
    Calls Try.prog 8 #[.agg #[.int .i64 ax, .int .i64 ay, .int .i64 aw, .int .i64 ah], .agg #[.int .i64 bx, .int .i64 bY, .int .i64 bw, .int .i64 bh]] w fun e w' => e = .returned (.agg #[.int .i64 (sat ax), .int .i64 (sat ay), .int .i64 (sat aw), .int .i64 (sat ah)]) ∧ Below w.heap.size w w' := by
  have e1 := fun W x b o => ext_cell (w.heap.size + 3) W x b o
  have e4 : ∀ v, on (emB (sat aw) (sat ah)) v = v := fun v => by rw [ha]; rfl
  have e5 : ∀ v, on (emB (sat bw) (sat bh)) v = 0 := fun v => by rw [hb]; rfl
  have e6 : (sat aw == 0) = false := by have := (emB_no _ _).1 ha; simp; omega
  clear ha hb
  go_enter Try.func8, Try.ntmps8
  go_wp2
  refine region_ext_tail (w.heap.size + 3) 6 (by kernel_rfl) (by kernel_rfl) ?_
  simp only [List.take_succ_cons, List.take_zero, List.drop_succ_cons, List.drop_zero]
  repeat quiet_step ((first | (go_at_call 15; exact call_of (railed_any _ _ _ _ _) (by simp)) | (go_at_call 16; exact call_of (ornothing_any _ _ _ _ _) (by simp))))
  refine wpQuiet_nil ?_
  intro w2 hb2
  have b2 := (box3 w _ _ _).trans (hb2.mono (by omega))
  have k0 := (((Blk.new w 23 _).alloc _).alloc _).below hb2 (by omega)
  have k1 := ((Blk.new (w.alloc _) 23 _).alloc _).below hb2 (by simp)
  have k2 := (Blk.new ((w.alloc _).alloc _) 23 _).below hb2 (by simp)
  have hz2 := hb2.size
  simp only [World.size_alloc] at k1 k2 hz2
  have u0 := k0.use
  have u1 := k1.use
  have u2 := k2.use
  clear hb2
  go_upto_region 2 with (fail)
  refine wp_gen (fun W => Below w.heap.size w W ∧ w.heap.size + 3 ≤ W.heap.size ∧ Blk W w.heap.size 23 #[.int .i64 (sat ax), .int .i64 (sat ay), .int .i64 (sat aw), .int .i64 (sat ah)] ∧ Blk W (w.heap.size + 1) 23 #[.int .i64 0, .int .i64 0, .int .i64 0, .int .i64 0] ∧ Blk W (w.heap.size + 2) 23 #[.int .i64 0, .int .i64 0, .int .i64 0, .int .i64 0])
    ⟨below4 (below4 b2 (Nat.le_refl _) _ _ _ _) (by omega) _ _ _ _, by simp; omega, (k0.set4 _ _ _ _).far4 (by omega) _ _ _ _, (k1.far4 (by omega) _ _ _ _).set4 _ _ _ _, (k2.far4 (by omega) _ _ _ _).far4 (by omega) _ _ _ _⟩ ?_
  clear k0 k1 k2 hz2 u0 u1 u2 b2 w2
  rintro w2 ⟨b2, hz2, k0, k1, k2⟩
  obtain ⟨c0, f0⟩ := k0.use
  obtain ⟨c1, f1⟩ := k1.use
  obtain ⟨c2, f2⟩ := k2.use
  go_upto_region 3 with (fail)
  refine wp_gen (fun W => Below w.heap.size w W ∧ w.heap.size + 4 ≤ W.heap.size ∧ Blk W w.heap.size 23 #[.int .i64 (sat ax), .int .i64 (sat ay), .int .i64 (sat aw), .int .i64 (sat ah)] ∧ Blk W (w.heap.size + 1) 23 #[.int .i64 0, .int .i64 0, .int .i64 0, .int .i64 0] ∧ Blk W (w.heap.size + 2) 23 #[.int .i64 0, .int .i64 0, .int .i64 0, .int .i64 0] ∧ Blk W w2.heap.size 23 #[.int .i64 0, .int .i64 0, .int .i64 0, .int .i64 0])
    ⟨b2.alloc (by omega) _, by simp; omega, k0.alloc _, k1.alloc _, k2.alloc _, Blk.new _ _ _⟩ ?_
  have g2 : w.heap.size + 3 ≤ w2.heap.size := hz2
  clear k0 k1 k2 hz2 c0 c1 c2 f0 f1 f2 b2
  rintro w3 ⟨b2, hz2, k0, k1, k2, k3⟩
  obtain ⟨c0, f0⟩ := k0.use
  obtain ⟨c1, f1⟩ := k1.use
  obtain ⟨c2, f2⟩ := k2.use
  obtain ⟨c3, f3⟩ := k3.use
  go_wp2
  refine bodyPost_ret (v := .agg #[.int .i64 (sat ax), .int .i64 (sat ay), .int .i64 (sat aw), .int .i64 (sat ah)]) (by simp [results, Try.results8, go_sem, c2]) rfl ⟨rfl, ?_⟩
  exact below4 b2 (by omega) _ _ _ _
/-- how wide a Join is -/
def jW (ax aw bx bw : Int) : Int := sub (mx (add (sat ax) (sat aw)) (add (sat bx) (sat bw))) (mn (sat ax) (sat bx))
set_option maxHeartbeats 400000 in
theorem join_b (ax ay aw ah bx bY bw bh : Int) (w : World) (ha : emB (sat aw) (sat ah) = false) (hb : emB (sat bw) (sat bh) = false) :
    Calls Try.prog 8 #[.agg #[.int .i64 ax, .int .i64 ay, .int .i64 aw, .int .i64 ah], .agg #[.int .i64 bx, .int .i64 bY, .int .i64 bw, .int .i64 bh]] w fun e w' => e = .returned (.agg #[.int .i64 (mn (sat ax) (sat bx)), .int .i64 (mn (sat ay) (sat bY)), .int .i64 (jW ax aw bx bw), .int .i64 (jW ay ah bY bh)]) ∧ Below w.heap.size w w' := by
  have e1 := fun W x b o => ext_cell (w.heap.size + 3) W x b o
  have e4 : ∀ v, on (emB (sat aw) (sat ah)) v = v := fun v => by rw [ha]; rfl
  have e5 : ∀ v, on (emB (sat bw) (sat bh)) v = v := fun v => by rw [hb]; rfl
  have e6 : (sat aw == 0) = false := by have := (emB_no _ _).1 ha; simp; omega
  have e7 : (sat bw == 0) = false := by have := (emB_no _ _).1 hb; simp; omega
  have e8 := mx_of
  have e9 := mn_of
  clear ha hb
  go_enter Try.func8, Try.ntmps8
  go_wp2
  refine region_ext_tail (w.heap.size + 3) 6 (by kernel_rfl) (by kernel_rfl) ?_
  simp only [List.take_succ_cons, List.take_zero, List.drop_succ_cons, List.drop_zero]
  repeat quiet_step ((first | (go_at_call 15; exact call_of (railed_any _ _ _ _ _) (by simp)) | (go_at_call 16; exact call_of (ornothing_any _ _ _ _ _) (by simp))))
  refine wpQuiet_nil ?_
  intro w2 hb2
  have b2 := (box3 w _ _ _).trans (hb2.mono (by omega))
  have k0 := (((Blk.new w 23 _).alloc _).alloc _).below hb2 (by omega)
  have k1 := ((Blk.new (w.alloc _) 23 _).alloc _).below hb2 (by simp)
  have k2 := (Blk.new ((w.alloc _).alloc _) 23 _).below hb2 (by simp)
  have hz2 := hb2.size
  simp only [World.size_alloc] at k1 k2 hz2
  have u0 := k0.use
  have u1 := k1.use
  have u2 := k2.use
  clear hb2
  go_upto_region 2 with (fail)
  refine wp_gen (fun W => Below w.heap.size w W ∧ w.heap.size + 3 ≤ W.heap.size ∧ Blk W w.heap.size 23 #[.int .i64 (sat ax), .int .i64 (sat ay), .int .i64 (sat aw), .int .i64 (sat ah)] ∧ Blk W (w.heap.size + 1) 23 #[.int .i64 (sat bx), .int .i64 (sat bY), .int .i64 (sat bw), .int .i64 (sat bh)] ∧ Blk W (w.heap.size + 2) 23 #[.int .i64 0, .int .i64 0, .int .i64 0, .int .i64 0])
    ⟨below4 (below4 b2 (Nat.le_refl _) _ _ _ _) (by omega) _ _ _ _, by simp; omega, (k0.set4 _ _ _ _).far4 (by omega) _ _ _ _, (k1.far4 (by omega) _ _ _ _).set4 _ _ _ _, (k2.far4 (by omega) _ _ _ _).far4 (by omega) _ _ _ _⟩ ?_
  clear k0 k1 k2 hz2 u0 u1 u2 b2 w2
  rintro w2 ⟨b2, hz2, k0, k1, k2⟩
  obtain ⟨c0, f0⟩ := k0.use
  obtain ⟨c1, f1⟩ := k1.use
  obtain ⟨c2, f2⟩ := k2.use
  go_upto_region 3 with (fail)
  refine wp_gen (fun W => Below w.heap.size w W ∧ w.heap.size + 4 ≤ W.heap.size ∧ Blk W w.heap.size 23 #[.int .i64 (sat ax), .int .i64 (sat ay), .int .i64 (sat aw), .int .i64 (sat ah)] ∧ Blk W (w.heap.size + 1) 23 #[.int .i64 (sat bx), .int .i64 (sat bY), .int .i64 (sat bw), .int .i64 (sat bh)] ∧ Blk W (w.heap.size + 2) 23 #[.int .i64 0, .int .i64 0, .int .i64 0, .int .i64 0] ∧ Blk W w2.heap.size 23 #[.int .i64 0, .int .i64 0, .int .i64 0, .int .i64 0])
    ⟨b2.alloc (by omega) _, by simp; omega, k0.alloc _, k1.alloc _, k2.alloc _, Blk.new _ _ _⟩ ?_
  have g2 : w.heap.size + 3 ≤ w2.heap.size := hz2
  clear k0 k1 k2 hz2 c0 c1 c2 f0 f1 f2 b2
  rintro w3 ⟨b2, hz2, k0, k1, k2, k3⟩
  obtain ⟨c0, f0⟩ := k0.use
  obtain ⟨c1, f1⟩ := k1.use
  obtain ⟨c2, f2⟩ := k2.use
  obtain ⟨c3, f3⟩ := k3.use
  go_wp2
  refine region_ext_tail (w.heap.size + 3) 21 (by kernel_rfl) (by kernel_rfl) ?_
  simp only [List.take_succ_cons, List.take_zero, List.drop_succ_cons, List.drop_zero]
  repeat quiet_step ((first | (go_at_call 18; exact call_of (right_any _ _ _ _ _) (by omega)) | (go_at_call 19; exact call_of (bottom_any _ _ _ _ _) (by omega)) | (go_at_call 17; exact call_of (spanning_any _ _ _ _ _) (by omega))))
  refine wpQuiet_nil ?_
  intro w4 hb4
  obtain ⟨c4, f4⟩ := (k2.below hb4 (by omega)).use
  go_wp2
  refine bodyPost_ret (v := .agg #[.int .i64 (mn (sat ax) (sat bx)), .int .i64 (mn (sat ay) (sat bY)), .int .i64 (jW ax aw bx bw), .int .i64 (jW ay ah bY bh)]) (by simp [results, Try.results8, go_sem, c4]; exact ⟨rfl, rfl⟩) rfl ⟨rfl, ?_⟩
  exact below4 (b2.trans (hb4.mono (by omega))) (by omega) _ _ _ _
end Go.Proofs.Ytijanagnmeihoaa
