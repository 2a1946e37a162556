/- A number brought between 0 and 9: casementbook's Within at those rails. No conditions. -/
import Derived.Test.YtofllmofdenadaaBase
import Derived.Test.YtofllmofdenadaaBook
namespace Go.Proofs.Ytofllmofdenadaa
set_option linter.unusedVariables false
open Go.RowKit Go.Proofs.Fm Go.Proofs.Fb

theorem within_any (x : Int) (hx : -9223372036854775808 ≤ x ∧ x ≤ 9223372036854775807) (w : World) :
    Calls Try.prog 31 #[.int .i64 x, .int .i64 0, .int .i64 9] w fun e w' => (∃ s : Nat, s ≤ 9 ∧ e = .returned (.int .i64 (s : Int))) ∧ w' = w := by
  have hr1 : -10 < Int.tmod x 10 := Int.lt_tmod_of_pos x (by omega)
  have hr2 : Int.tmod x 10 < 10 := Int.tmod_lt_of_pos x (by omega)
  obtain ⟨r, hr⟩ : ∃ r, Int.tmod x 10 = r := ⟨_, rfl⟩
  rw [hr] at hr1 hr2
  go_enter Try.func31, Try.ntmps31
  go_wp2
  · go_ret
    refine ⟨⟨(r + 9 + 1).toNat, by omega, ?_⟩, rfl⟩
    rw [Int.toNat_of_nonneg (by omega)]; rfl
  · go_ret
    refine ⟨⟨r.toNat, by omega, ?_⟩, rfl⟩
    rw [Int.toNat_of_nonneg (by omega)]; rfl
end Go.Proofs.Ytofllmofdenadaa
