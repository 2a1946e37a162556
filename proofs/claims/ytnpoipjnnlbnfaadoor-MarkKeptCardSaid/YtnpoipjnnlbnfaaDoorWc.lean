/- What keeps the laws' inputs short. No conditions. -/
import Derived.Test.YtnpoipjnnlbnfaaDoorVp
namespace Go.Proofs.YtnpoipjnnlbnfaaDoor
set_option linter.unusedVariables false
open Go.RowKit Go.Proofs.Fe Go.Proofs.Fm Go.Proofs.Fb Go.Proofs.Fk Go.Proofs.Fs Go.Proofs.Fc Go.Proofs.Fu

theorem few_any (s : ByteArray) (n : Nat) (hs : s.size ≤ 140737488351232) (hn : n ≤ 1000000) (w : World) :
    Calls Tryd.prog 25 #[.string s, .int .i64 (n : Int)] w fun e w' => ∃ s' : ByteArray, s'.size ≤ n ∧ e = .returned (.string s') ∧ w = w' := by
  rcases Nat.lt_or_ge n s.size with h | h
  · have h1 : (n : Int) < (s.size : Int) := by omega
    go_enter Tryd.func25, Tryd.ntmps25
    go_wp2
    go_ret
    exact ⟨s.extract 0 n, by simp; omega, rfl, rfl⟩
  · have h1 : ¬ ((n : Int) < (s.size : Int)) := by omega
    go_enter Tryd.func25, Tryd.ntmps25
    go_wp2
    go_ret
    exact ⟨s, h, rfl, rfl⟩
theorem fewRunes_any (A : Option Addr) (l c n : Nat) (hlc : l ≤ c) (hA : A = none → c = 0) (hn : n ≤ 1000000) (hl : l ≤ 140737488351232) (w : World) :
    Calls Tryd.prog 18 #[.slice A l c, .int .i64 (n : Int)] w fun e w' => ∃ m : Nat, m ≤ n ∧ m ≤ l ∧ e = .returned (.slice A m c) ∧ w = w' := by
  rcases Nat.lt_or_ge n l with h | h
  · have h1 : (n : Int) < (l : Int) := by omega
    go_enter Tryd.func18, Tryd.ntmps18
    go_wp2
    go_ret
    exact ⟨n, Nat.le_refl _, by omega, rfl, rfl⟩
  · have h1 : ¬ ((n : Int) < (l : Int)) := by omega
    go_enter Tryd.func18, Tryd.ntmps18
    go_wp2
    go_ret
    exact ⟨l, h, Nat.le_refl _, rfl, rfl⟩
end Go.Proofs.YtnpoipjnnlbnfaaDoor
