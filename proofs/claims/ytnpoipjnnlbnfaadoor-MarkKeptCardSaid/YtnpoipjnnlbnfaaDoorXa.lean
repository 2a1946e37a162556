/- casementref4's digit. No conditions. -/
import Derived.Test.YtnpoipjnnlbnfaaDoorWe
namespace Go.Proofs.YtnpoipjnnlbnfaaDoor
set_option linter.unusedVariables false
open Go.RowKit Go.Proofs.Fe Go.Proofs.Fm Go.Proofs.Fb Go.Proofs.Fk Go.Proofs.Fs Go.Proofs.Fc Go.Proofs.Fu

def refDig (base n : Nat) : Int := if digV n < base then (digV n : Int) else -1
theorem refDigit_any (c : UInt8) (base : Nat) (hb : base = 10 ∨ base = 16) (w : World) :
    Calls Tryd.prog 79 #[.int .u8 (c.toNat : Int), .int .i64 (base : Int)] w fun e w' => e = .returned (.int .i64 (refDig base c.toNat)) ∧ ∃ q, w.drewN q = w' := by
  have hc := c.toNat_lt
  obtain ⟨n, hn⟩ : ∃ n, c.toNat = n := ⟨_, rfl⟩
  rw [hn] at hc ⊢
  clear hn
  rcases hb with rfl | rfl
  all_goals
    go_enter Tryd.func79, Tryd.ntmps79
    go_wp2
    all_goals (go_ret; refine ⟨ret_int ?_, 0, rfl⟩; unfold refDig digV; repeat' split)
    all_goals omega
end Go.Proofs.YtnpoipjnnlbnfaaDoor
