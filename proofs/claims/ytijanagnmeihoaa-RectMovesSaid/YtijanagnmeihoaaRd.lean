/- Layer 2 (rect): Meet, Join, Move, Inset, Has. No conditions. -/
import Derived.Test.YtijanagnmeihoaaRc
namespace Go.Proofs.Ytijanagnmeihoaa
set_option linter.unusedVariables false
open Go.RowKit Go.Proofs.Fx Go.Proofs.Fc

/-- where a Meet ends -/
def mR (ax aw bx bw : Int) : Int := mn (add (sat ax) (sat aw)) (add (sat bx) (sat bw))
def mX (ax bx : Int) : Int := mx (sat ax) (sat bx)
def mW (ax aw bx bw : Int) : Int := sub (mR ax aw bx bw) (mX ax bx)
set_option maxHeartbeats 1000000 in
theorem meet_any (ax ay aw ah bx bY bw bh : Int) (w : World) :
    Calls Try.prog 7 #[.agg #[.int .i64 ax, .int .i64 ay, .int .i64 aw, .int .i64 ah], .agg #[.int .i64 bx, .int .i64 bY, .int .i64 bw, .int .i64 bh]] w fun e w' => e = .returned (.agg #[.int .i64 (on (emB (mW ax aw bx bw) (mW ay ah bY bh)) (mX ax bx)), .int .i64 (on (emB (mW ax aw bx bw) (mW ay ah bY bh)) (mX ay bY)), .int .i64 (on (emB (mW ax aw bx bw) (mW ay ah bY bh)) (mW ax aw bx bw)), .int .i64 (on (emB (mW ax aw bx bw) (mW ay ah bY bh)) (mW ay ah bY bh))]) ∧ Below w.heap.size w w' := by
  have e1 := fun W x b o => ext_cell (w.heap.size + 3) W x b o
  have e2 := mx_of
  have e3 := mn_of
  go_enter Try.func7, Try.ntmps7
  go_wp2
  refine region_ext_tail (w.heap.size + 3) 4 (by kernel_rfl) (by kernel_rfl) ?_
  simp only [List.take_succ_cons, List.take_zero, List.drop_succ_cons, List.drop_zero]
  repeat quiet_step ((go_at_call 15; exact call_of (railed_any _ _ _ _ _) (by simp)))
  refine wpQuiet_nil ?_
  intro w2 hb2
  have b2 := (box3 w _ _ _).trans (hb2.mono (by omega))
  have k0 := (((Blk.new w 23 _).alloc _).alloc _).below hb2 (by omega)
  have k1 := ((Blk.new (w.alloc _) 23 _).alloc _).below hb2 (by simp)
  have k2 := (Blk.new ((w.alloc _).alloc _) 23 _).below hb2 (by simp)
  have hz2 := hb2.size
  simp only [World.size_alloc] at k1 k2 hz2
  have u0 := k0.use
  have u1 := k1.use
  have u2 := k2.use
  clear hb2
  go_wp2
  refine wp_gen (fun W => Below w.heap.size w W ∧ w.heap.size + 3 ≤ W.heap.size ∧ Blk W w.heap.size 23 #[.int .i64 (sat ax), .int .i64 (sat ay), .int .i64 (sat aw), .int .i64 (sat ah)] ∧ Blk W (w.heap.size + 1) 23 #[.int .i64 (sat bx), .int .i64 (sat bY), .int .i64 (sat bw), .int .i64 (sat bh)] ∧ Blk W (w.heap.size + 2) 23 #[.int .i64 0, .int .i64 0, .int .i64 0, .int .i64 0])
    ⟨below4 (below4 b2 (Nat.le_refl _) _ _ _ _) (by omega) _ _ _ _, by simp; omega, (k0.set4 _ _ _ _).far4 (by omega) _ _ _ _, (k1.far4 (by omega) _ _ _ _).set4 _ _ _ _, (k2.far4 (by omega) _ _ _ _).far4 (by omega) _ _ _ _⟩ ?_
  clear k0 k1 k2 hz2 u0 u1 u2 b2 w2
  rintro w2 ⟨b2, hz2, k0, k1, k2⟩
  obtain ⟨c0, f0⟩ := k0.use
  obtain ⟨c1, f1⟩ := k1.use
  refine region_ext_tail (w.heap.size + 3) 22 (by kernel_rfl) (by kernel_rfl) ?_
  simp only [List.take_succ_cons, List.take_zero, List.drop_succ_cons, List.drop_zero]
  repeat quiet_step ((first | (go_at_call 18; exact call_of (right_any _ _ _ _ _) hz2) | (go_at_call 19; exact call_of (bottom_any _ _ _ _ _) hz2) | (go_at_call 17; exact call_of (spanning_any _ _ _ _ _) hz2) | (go_at_call 16; exact call_of (ornothing_any _ _ _ _ _) hz2)))
  refine wpQuiet_nil ?_
  intro w3 hb3
  obtain ⟨c3, f3⟩ := (k2.below hb3 (by omega)).use
  go_wp2
  refine bodyPost_ret (v := .agg #[.int .i64 (on (emB (mW ax aw bx bw) (mW ay ah bY bh)) (mX ax bx)), .int .i64 (on (emB (mW ax aw bx bw) (mW ay ah bY bh)) (mX ay bY)), .int .i64 (on (emB (mW ax aw bx bw) (mW ay ah bY bh)) (mW ax aw bx bw)), .int .i64 (on (emB (mW ax aw bx bw) (mW ay ah bY bh)) (mW ay ah bY bh))]) (by simp [results, Try.results7, go_sem, c3]; exact ⟨rfl, rfl, rfl, rfl⟩) rfl ⟨rfl, ?_⟩
  exact below4 (b2.trans (hb3.mono (by omega))) (by omega) _ _ _ _
end Go.Proofs.Ytijanagnmeihoaa
