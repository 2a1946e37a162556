/- The statements' own 'small': are all numbers within 2^40? No conditions but the slice's own. -/
import Derived.Test.YtijanagnmeihoaaRc
namespace Go.Proofs.Fx
/-- are f 0 .. f (n - 1) within 2^40? -/
def smF (f : Nat → Int) : Nat → Bool
  | 0 => true
  | n + 1 => smF f n && (decide (-1099511627776 ≤ f n) && decide (f n ≤ 1099511627776))
theorem smF_at {f : Nat → Int} {n : Nat} (h : smF f n = true) : ∀ j, j < n → -1099511627776 ≤ f j ∧ f j ≤ 1099511627776 := by
  induction n with
  | zero => intro j hj; omega
  | succ n ih =>
    intro j hj
    simp only [smF, Bool.and_eq_true, decide_eq_true_eq] at h
    by_cases e : j = n
    · subst e; exact h.2
    · exact ih h.1 j (by omega)
theorem smF_all {f : Nat → Int} {n : Nat} (h : ∀ j, j < n → -1099511627776 ≤ f j ∧ f j ≤ 1099511627776) : smF f n = true := by
  induction n with
  | zero => rfl
  | succ n ih => simp only [smF, Bool.and_eq_true, decide_eq_true_eq]; exact ⟨ih fun j hj => h j (by omega), h n (by omega)⟩
theorem smF_not {f : Nat → Int} {n k : Nat} (hk : k < n) (h : ¬ (-1099511627776 ≤ f k ∧ f k ≤ 1099511627776)) : smF f n = false := by
  cases e : smF f n with
  | false => rfl
  | true => exact absurd (smF_at e k hk) h
/-- a list's numbers, as a function -/
def nth (l : List Int) (j : Nat) : Int := l.getD j 0
end Go.Proofs.Fx
namespace Go.Proofs.Ytijanagnmeihoaa
set_option linter.unusedVariables false
open Go.RowKit Go.Proofs.Fx Go.Proofs.Fc

theorem small_any (g n c : Nat) (f : Nat → Int) (w : World) (hl : n ≤ 1000) (hc : ∀ k, k < n → w.cell? ⟨g, k, none⟩ = some (.int .i64 (f k))) :
    Calls Try.prog 13 #[.slice (some ⟨g, 0, none⟩) n c] w fun e w' => e = .returned (.bool (smF f n)) ∧ w = w' := by
  have HC := Lib.hid hc
  clear hc
  go_enter Try.func13, Try.ntmps13
  go_wp2
  go_loop [3] (fun i => ∃ k : Nat, k ≤ n ∧ i = .int .i64 k ∧ Hid (∀ j, j < k → -1099511627776 ≤ f j ∧ f j ≤ 1099511627776)) (fun i => n - (intOf i).toNat)
  case atStart => exact ⟨0, Nat.zero_le _, rfl, fun j hj => absurd hj (by omega)⟩
  case round =>
    obtain ⟨k, hk, rfl, H⟩ := hrel
    by_cases hlt : k < n
    · have c0 := HC.out k hlt
      by_cases hgood : -1099511627776 ≤ f k ∧ f k ≤ 1099511627776
      · obtain ⟨h1, h2⟩ := hgood
        have h3 : k + 1 ≤ n := hlt
        go_wp2
        go_round
        case rel => exact ⟨k + 1, h3, by go_num, fun j hj => by
          by_cases e : j = k
          · subst e; exact ⟨h1, h2⟩
          · exact H.out j (by omega)⟩
        case measure => simp [intOf]; omega
      · have hb := Lib.hid (smF_not hlt hgood)
        go_wp2
        all_goals
          go_ret
          exact ⟨ret_bool hb.out.symm, rfl⟩
    · have hb := Lib.hid (smF_all (f := f) (n := n) fun j hj => H.out j (by omega))
      go_wp2
      go_ret
      exact ⟨ret_bool hb.out.symm, rfl⟩
end Go.Proofs.Ytijanagnmeihoaa
