/- RectRails. No conditions. -/
import Derived.Test.YtijanagnmeihoaaPm
import Derived.Test.YtijanagnmeihoaaRk
namespace Go.Proofs.Fx
set_option linter.unusedVariables false
theorem on_bd {e : Bool} {v : Int} (h : -70368744177664 ≤ v ∧ v ≤ 70368744177664) : -70368744177664 ≤ on e v ∧ on e v ≤ 70368744177664 := by unfold on; split <;> omega
theorem mx_bd {a b : Int} (h : -70368744177664 ≤ a ∧ a ≤ 70368744177664) (h' : -70368744177664 ≤ b ∧ b ≤ 70368744177664) : -70368744177664 ≤ mx a b ∧ mx a b ≤ 70368744177664 := by rw [mx_max]; omega
theorem mn_bd {a b : Int} (h : -70368744177664 ≤ a ∧ a ≤ 70368744177664) (h' : -70368744177664 ≤ b ∧ b ≤ 70368744177664) : -70368744177664 ≤ mn a b ∧ mn a b ≤ 70368744177664 := by rw [mn_min]; omega
theorem pk_bd {ea eb : Bool} {p q r : Int} (h : -70368744177664 ≤ p ∧ p ≤ 70368744177664) (h' : -70368744177664 ≤ q ∧ q ≤ 70368744177664) (h'' : -70368744177664 ≤ r ∧ r ≤ 70368744177664) : -70368744177664 ≤ pk ea eb p q r ∧ pk ea eb p q r ≤ 70368744177664 := by
  unfold pk; split
  · exact h
  · split <;> assumption
/-- four rows of four, within the rails -/
def InRails (a b c d : Int) : Prop := (-70368744177664 ≤ a ∧ a ≤ 70368744177664) ∧ (-70368744177664 ≤ b ∧ b ≤ 70368744177664) ∧ c ≤ 70368744177664 ∧ d ≤ 70368744177664
/-- one of four -/
def of4 (a b c d : Int) (k : Nat) : Int := if k = 0 then a else if k = 1 then b else if k = 2 then c else d
end Go.Proofs.Fx
namespace Go.Proofs.Ytijanagnmeihoaa
set_option linter.unusedVariables false
open Go.RowKit Go.Proofs.Fx Go.Proofs.Fc

theorem jX_bd (ea eb : Bool) (a b : Int) : -70368744177664 ≤ jX ea eb a b ∧ jX ea eb a b ≤ 70368744177664 := pk_bd (on_bd (sat_bd _)) (sat_bd _) (mn_bd (sat_bd _) (sat_bd _))
theorem jV_bd (ea eb : Bool) (a b c d : Int) : -70368744177664 ≤ jV ea eb a b c d ∧ jV ea eb a b c d ≤ 70368744177664 := pk_bd (on_bd (sat_bd _)) (sat_bd _) (sub_bd _ _)
theorem rails_good (ax ay aw ah bx bY bw bh p q : Int) : ∀ k, k < 4 → InRails ((of4 (on (emB (mW ax aw bx bw) (mW ay ah bY bh)) (mX ax bx)) (jX (emB (sat aw) (sat ah)) (emB (sat bw) (sat bh)) ax bx) (add (sat ax) p) (add ax q)) k) ((of4 (on (emB (mW ax aw bx bw) (mW ay ah bY bh)) (mX ay bY)) (jX (emB (sat aw) (sat ah)) (emB (sat bw) (sat bh)) ay bY) (add (sat ay) q) (add ay p)) k) ((of4 (on (emB (mW ax aw bx bw) (mW ay ah bY bh)) (mW ax aw bx bw)) (jV (emB (sat aw) (sat ah)) (emB (sat bw) (sat bh)) ax aw bx bw) (sat aw) (mx 0 (sub (sub aw q) q))) k) ((of4 (on (emB (mW ax aw bx bw) (mW ay ah bY bh)) (mW ay ah bY bh)) (jV (emB (sat aw) (sat ah)) (emB (sat bw) (sat bh)) ay ah bY bh) (sat ah) (mx 0 (sub (sub ah p) p))) k) := by
  intro k hk
  have h4 : k = 0 ∨ k = 1 ∨ k = 2 ∨ k = 3 := by omega
  rcases h4 with rfl | rfl | rfl | rfl
  · exact ⟨on_bd (mx_bd (sat_bd _) (sat_bd _)), on_bd (mx_bd (sat_bd _) (sat_bd _)), (on_bd (sub_bd _ _)).2, (on_bd (sub_bd _ _)).2⟩
  · exact ⟨jX_bd _ _ _ _, jX_bd _ _ _ _, (jV_bd _ _ _ _ _ _).2, (jV_bd _ _ _ _ _ _).2⟩
  · exact ⟨add_bd _ _, add_bd _ _, (sat_bd _).2, (sat_bd _).2⟩
  · exact ⟨add_bd _ _, add_bd _ _, (mx_bd (by omega) (sub_bd _ _)).2, (mx_bd (by omega) (sub_bd _ _)).2⟩
set_option maxHeartbeats 400000 in
theorem rails_walk (ax ay aw ah bx bY bw bh p q : Int) (w : World) :
    Calls Try.prog 6 #[.agg #[.int .i64 ax, .int .i64 ay, .int .i64 aw, .int .i64 ah], .agg #[.int .i64 bx, .int .i64 bY, .int .i64 bw, .int .i64 bh], .int .i64 p, .int .i64 q] w fun e w' => e = .returned (.bool true) ∧ Below w.heap.size w w' := by
  have e1 := fun W x b o => ext_cell (w.heap.size + 2) W x b o
  go_enter Try.func6, Try.ntmps6
  go_wp2
  refine wp_gen (fun W => Below w.heap.size w W ∧ w.heap.size + 2 ≤ W.heap.size ∧ Blk W w.heap.size 23 #[.int .i64 ax, .int .i64 ay, .int .i64 aw, .int .i64 ah] ∧ Blk W (w.heap.size + 1) 23 #[.int .i64 bx, .int .i64 bY, .int .i64 bw, .int .i64 bh])
    ⟨box2 w _ _, by simp, (Blk.new _ _ _).alloc _, by simpa using Blk.new (w.alloc _) 23 #[.int .i64 bx, .int .i64 bY, .int .i64 bw, .int .i64 bh]⟩ ?_
  rintro w2 ⟨b2, hz2, k0, k1⟩
  obtain ⟨c0, f0⟩ := k0.use
  obtain ⟨c1, f1⟩ := k1.use
  refine region_ext_tail (w.heap.size + 2) 16 (by kernel_rfl) (by kernel_rfl) ?_
  simp only [List.take_succ_cons, List.take_zero, List.drop_succ_cons, List.drop_zero]
  repeat quiet_step ((first | (go_at_call 7; exact call_of (meet_any ax ay aw ah bx bY bw bh _) hz2) | (go_at_call 8; exact call_of (join_any ax ay aw ah bx bY bw bh _) hz2) | (go_at_call 14; exact call_of (move_any ax ay aw ah p q _) hz2) | (go_at_call 9; exact call_of (inset_any ax ay aw ah p q p q _) hz2)))
  refine wpQuiet_nil ?_
  intro w3 hb3
  have b3 := b2.trans (hb3.mono (by omega))
  clear c0 f0 c1 f1 k0 k1 b2 hb3 hz2 e1 w2
  go_upto_region 2 with (fail)
  refine wp_gen (fun W => Below w.heap.size w W ∧ ∃ X Y : Nat → Int, ∃ V U : Nat → Int, (∀ k, k < 4 → InRails (X k) (Y k) (V k) (U k)) ∧ ∀ k, k < 4 → W.cell? ⟨w3.heap.size, k * 4, none⟩ = some (.int .i64 (X k)) ∧ W.cell? ⟨w3.heap.size, k * 4 + 1, none⟩ = some (.int .i64 (Y k)) ∧ W.cell? ⟨w3.heap.size, k * 4 + 2, none⟩ = some (.int .i64 (V k)) ∧ W.cell? ⟨w3.heap.size, k * 4 + 3, none⟩ = some (.int .i64 (U k)))
    ⟨b3.alloc b3.size _, (of4 (on (emB (mW ax aw bx bw) (mW ay ah bY bh)) (mX ax bx)) (jX (emB (sat aw) (sat ah)) (emB (sat bw) (sat bh)) ax bx) (add (sat ax) p) (add ax q)), (of4 (on (emB (mW ax aw bx bw) (mW ay ah bY bh)) (mX ay bY)) (jX (emB (sat aw) (sat ah)) (emB (sat bw) (sat bh)) ay bY) (add (sat ay) q) (add ay p)), (of4 (on (emB (mW ax aw bx bw) (mW ay ah bY bh)) (mW ax aw bx bw)) (jV (emB (sat aw) (sat ah)) (emB (sat bw) (sat bh)) ax aw bx bw) (sat aw) (mx 0 (sub (sub aw q) q))), (of4 (on (emB (mW ax aw bx bw) (mW ay ah bY bh)) (mW ay ah bY bh)) (jV (emB (sat aw) (sat ah)) (emB (sat bw) (sat bh)) ay ah bY bh) (sat ah) (mx 0 (sub (sub ah p) p))), rails_good _ _ _ _ _ _ _ _ _ _, fun k hk => ?_⟩ ?_
  · have h4 : k = 0 ∨ k = 1 ∨ k = 2 ∨ k = 3 := by omega
    rcases h4 with rfl | rfl | rfl | rfl <;> exact ⟨(Blk.new w3 23 _).cell _, (Blk.new w3 23 _).cell _, (Blk.new w3 23 _).cell _, (Blk.new w3 23 _).cell _⟩
  rintro w2 ⟨b2, X, Y, V, U, hG, hC⟩
  have HG := Lib.hid hG
  have HC := Lib.hid hC
  clear hG hC b3
  go_wp2
  go_loop [10] (fun i => ∃ k : Nat, k ≤ 4 ∧ i = .int .i64 k) (fun i => 4 - (intOf i).toNat)
  case atStart => exact ⟨0, Nat.zero_le _, rfl⟩
  case round =>
    obtain ⟨k, hk, rfl⟩ := hrel
    by_cases hlt : k < 4
    · obtain ⟨⟨h1, h2⟩, ⟨h3, h4⟩, h5, h6⟩ := HG.out k hlt
      obtain ⟨c0, c1, c2, c3⟩ := HC.out k hlt
      go_wp2
      go_round
      case rel => exact ⟨k + 1, hlt, by go_num⟩
      case measure => simp [intOf]; omega
    · go_wp2_with (go_at_call 12; refine (known_any _).mono ?_; rintro e w9 ⟨rfl, hb9⟩)
      go_ret
      exact ⟨rfl, b2.trans (hb9.mono b2.size)⟩
end Go.Proofs.Ytijanagnmeihoaa
