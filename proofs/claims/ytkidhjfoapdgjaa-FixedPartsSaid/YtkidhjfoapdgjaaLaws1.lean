import Derived.Test.YtkidhjfoapdgjaaKnown
namespace Go.Proofs.Ytkidhjfoapdgjaa
set_option linter.unusedVariables false
open Go.RowKit Go.Proofs.Fx Go.Proofs.Fm Go.Proofs.Fo

/-- FixedAdds, where a number is beyond 2^40. -/
theorem adds_wide (a b c : Int) (w : World) (h : 1099511627776 < a ∨ a < -1099511627776 ∨ 1099511627776 < b ∨ b < -1099511627776 ∨ 1099511627776 < c ∨ c < -1099511627776) :
    Calls Try.prog 6 #[.int .i64 a, .int .i64 b, .int .i64 c] w fun e w' => e = .returned (.bool true) ∧ Below w.heap.size w w' := by
  have e1 : (add a b != add b a) = false := by rw [add_comm]; simp
  have e2 : (sub a b != add a (sub 0 b)) = false := by rw [sub_add]; simp
  have b1 := add_bd a b
  go_enter Try.func6, Try.ntmps6
  go_wp2_with (first
    | (go_at_call 15; refine (add_any _ _ _).mono ?_; rintro e w' ⟨rfl, rfl⟩)
    | (go_at_call 21; refine (sub_any _ _ _).mono ?_; rintro e w' ⟨rfl, rfl⟩)
    | (go_at_call 16; refine (known_any _).mono ?_; rintro e w1 ⟨rfl, hb1⟩))
  all_goals
    go_ret
    exact ⟨rfl, hb1⟩
/-- FixedAdds, between. -/
theorem adds_mid (a b c : Int) (w : World) (ha : -1099511627776 ≤ a) (ha' : a ≤ 1099511627776) (hb : -1099511627776 ≤ b) (hb' : b ≤ 1099511627776) (hc : -1099511627776 ≤ c) (hc' : c ≤ 1099511627776) :
    Calls Try.prog 6 #[.int .i64 a, .int .i64 b, .int .i64 c] w fun e w' => e = .returned (.bool true) ∧ Below w.heap.size w w' := by
  have e1 : (add a b != add b a) = false := by rw [add_comm]; simp
  have e2 : (sub a b != add a (sub 0 b)) = false := by rw [sub_add]; simp
  have h1 : add a b = a + b := add_mid (by omega) (by omega) (by omega) (by omega)
  have h2 : add b c = b + c := add_mid (by omega) (by omega) (by omega) (by omega)
  have e3 : (add a b == a + b) = true := by rw [h1]; simp
  have e4 : (sub (add a b) b == a) = true := by rw [h1, sub_mid (by omega) (by omega) (by omega) (by omega)]; simp
  have e5 : (add (add a b) c == add a (add b c)) = true := by
    rw [h1, h2, add_mid (by omega) (by omega) (by omega) (by omega), add_mid (by omega) (by omega) (by omega) (by omega), Int.add_assoc]; simp
  have b1 := add_bd a b
  clear h1 h2
  go_enter Try.func6, Try.ntmps6
  go_wp2_with (first
    | (go_at_call 15; refine (add_any _ _ _).mono ?_; rintro e w' ⟨rfl, rfl⟩)
    | (go_at_call 21; refine (sub_any _ _ _).mono ?_; rintro e w' ⟨rfl, rfl⟩)
    | (go_at_call 16; refine (known_any _).mono ?_; rintro e w1 ⟨rfl, hb1⟩))
  go_ret
  exact ⟨rfl, hb1⟩
theorem adds_walk (a b c : Int) (w : World) : Calls Try.prog 6 #[.int .i64 a, .int .i64 b, .int .i64 c] w fun e w' => e = .returned (.bool true) ∧ Below w.heap.size w w' := by
  by_cases h : 1099511627776 < a ∨ a < -1099511627776 ∨ 1099511627776 < b ∨ b < -1099511627776 ∨ 1099511627776 < c ∨ c < -1099511627776
  · exact adds_wide a b c w h
  · exact adds_mid a b c w (by omega) (by omega) (by omega) (by omega) (by omega) (by omega)

/-- FixedParts. -/
theorem parts_wide (a n d : Int) (w : World) (h : 1073741824 < a ∨ a < -1073741824 ∨ n < 0 ∨ 1000 < n ∨ d < 1 ∨ 1000 < d) :
    Calls Try.prog 8 #[.int .i64 a, .int .i64 n, .int .i64 d] w fun e w' => e = .returned (.bool true) ∧ Below w.heap.size w w' := by
  go_enter Try.func8, Try.ntmps8
  go_wp2_with (go_at_call 16; refine (known_any _).mono ?_; rintro e w1 ⟨rfl, hb1⟩)
  all_goals
    go_ret
    exact ⟨rfl, hb1⟩
theorem part_small {a n d : Int} (ha : -1073741824 ≤ a) (ha' : a ≤ 1073741824) (hn : 0 ≤ n) (hn' : n ≤ 1000) (hd : 1 ≤ d) (hd' : d ≤ 1000) :
    Fx.part a n d = a * n / d ∧ -1073741824000 ≤ a * n ∧ a * n ≤ 1073741824000 := by
  have h3 : (a * n).natAbs ≤ 1073741824 * 1000 := by rw [Int.natAbs_mul]; exact Nat.mul_le_mul (by omega) (by omega)
  have h4 : (a * n / d).natAbs ≤ (a * n).natAbs := Int.natAbs_ediv_le_natAbs _ _
  unfold Fx.part
  rw [sat_in (n := a) (by omega) (by omega), clamp_in hn (by omega), clamp_in hd (by omega)]
  exact ⟨sat_in (by omega) (by omega), by omega, by omega⟩
theorem parts_mid (a n d : Int) (w : World) (ha : -1073741824 ≤ a) (ha' : a ≤ 1073741824) (hn : 0 ≤ n) (hn' : n ≤ 1000) (hd : 1 ≤ d) (hd' : d ≤ 1000) :
    Calls Try.prog 8 #[.int .i64 a, .int .i64 n, .int .i64 d] w fun e w' => e = .returned (.bool true) ∧ Below w.heap.size w w' := by
  obtain ⟨h1, h2, h3⟩ := part_small ha ha' hn hn' hd hd'
  have h4 : Fx.part a n d * d ≤ a * n := by rw [h1]; exact Int.ediv_mul_le _ (by omega)
  have h5 : a * n < (Fx.part a n d + 1) * d := by rw [h1]; exact Int.lt_ediv_add_one_mul_self _ (by omega)
  have h5' : a * n - 1000 ≤ Fx.part a n d * d := by rw [Int.add_mul] at h5; omega
  have h6 : (Fx.part a n d).natAbs ≤ (a * n).natAbs := by rw [h1]; exact Int.natAbs_ediv_le_natAbs _ _
  have h7 : -1073741824000 ≤ Fx.part a n d ∧ Fx.part a n d ≤ 1073741824000 := by omega
  have h8 : (Fx.part a n d + 1) * d ≤ 1073741827000 := by rw [Int.add_mul]; omega
  have h9 : (Fx.part a d d == a) = true := by
    obtain ⟨g1, g2, g3⟩ := part_small (n := d) ha ha' (by omega) hd' hd hd'
    rw [g1, Int.mul_ediv_cancel _ (by omega)]; simp
  clear h1 h6
  go_enter Try.func8, Try.ntmps8
  go_wp2_with (first
    | (go_at_call 11; refine (part_any _ _ _ _).mono ?_; rintro e w' ⟨rfl, rfl⟩)
    | (go_at_call 16; refine (known_any _).mono ?_; rintro e w1 ⟨rfl, hb1⟩))
  go_ret
  exact ⟨rfl, hb1⟩
theorem parts_walk (a n d : Int) (w : World) : Calls Try.prog 8 #[.int .i64 a, .int .i64 n, .int .i64 d] w fun e w' => e = .returned (.bool true) ∧ Below w.heap.size w w' := by
  by_cases h : 1073741824 < a ∨ a < -1073741824 ∨ n < 0 ∨ 1000 < n ∨ d < 1 ∨ 1000 < d
  · exact parts_wide a n d w h
  · exact parts_mid a n d w (by omega) (by omega) (by omega) (by omega) (by omega) (by omega)
end Go.Proofs.Ytkidhjfoapdgjaa
