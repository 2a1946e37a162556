/- Same, at lists of int. No conditions. -/
import Derived.Test.YtofllmofdenadaaBase
import Derived.Test.YtofllmofdenadaaMem
import Derived.LoopTactic
import Derived.Deep.QuietTactic
import Derived.BigQuiet
namespace Go.Proofs.Ytofllmofdenadaa.B_int
set_option linter.unusedVariables false
open Go.Proofs.Ytofllmofdenadaa Go.RowKit Go.Proofs.Fm

set_option maxHeartbeats 400000 in
theorem same_any (A B : Option Addr) (c d : Nat) (xs ys : List Int) (w : World) (ha : Row w .i64 A xs) (hb : Row w .i64 B ys) (hx : xs.length ≤ 9223372036854775807) :
    Calls Try.prog 28 #[.slice A xs.length c, .slice B ys.length d] w fun e w' => e = .returned (.bool (decide (xs = ys))) ∧ ∃ q, w.drewN q = w' := by
  by_cases hl : xs.length = ys.length
  · have h2 : ((xs.length : Int) != (ys.length : Int)) = false := by rw [bne_eq_false_iff_eq]; omega
    have HL := Lib.hid hl
    have hle : ys.length ≤ xs.length := by omega
    have hle' : xs.length ≤ ys.length := by omega
    clear hl
    go_enter Try.func28, Try.ntmps28
    go_wp2
    go_loopw [5] (fun i wr => ∃ k q : Nat, k ≤ xs.length ∧ i = .int .i64 k ∧ Hid (xs.take k = ys.take k) ∧ wr = w.drewN q) (fun i _ => xs.length - (intOf i).toNat)
    case atStart => exact ⟨0, 0, Nat.zero_le _, rfl, rfl, rfl⟩
    case round =>
      obtain ⟨k, q, hk, rfl, ht, rfl⟩ := hrel
      by_cases hlt : k < xs.length
      · obtain ⟨b1, o1, rfl, hc1⟩ := ha.at_ hlt
        obtain ⟨b2, o2, rfl, hc2⟩ := hb.at_ (i := k) (by omega)
        have g1 := hc1 k hlt
        have g2 := hc2 k (by omega)
        clear hc1 hc2 ha hb
        generalize hu : xs.getD k 0 = u at g1
        generalize hv : ys.getD k 0 = v at g2
        have HU := Lib.hid hu
        have HV := Lib.hid hv
        clear hu hv
        have i1 : (k : Int) < (xs.length : Int) := by omega
        have i2 : (k : Int) < (ys.length : Int) := by omega
        go_wp2
        go_quiet (fail)
        go_wp2
        · have hne : (u != v) = true := by assumption
          go_ret
          exact ⟨by rw [take_part hlt (by omega) (by rw [HU.out, HV.out]; simpa using hne)]; rfl, q + nq, (World.drewN_drewN _ _ _).symm⟩
        · have he : (u != v) = false := by assumption
          have hs := Lib.hid (take_step hlt (by omega) ht.out (by rw [HU.out, HV.out]; simpa using he))
          clear he
          go_roundw
          case rel => exact ⟨k + 1, q + nq, by omega, by go_num, hs, rfl⟩
          case measure => simp [intOf]; omega
      · have hke : k = xs.length := by omega
        subst hke
        go_wp2
        go_ret
        have h1 : xs = ys := by
          have := ht.out; rwa [List.take_of_length_le (Nat.le_refl _), List.take_of_length_le hle] at this
        exact ⟨by rw [decide_eq_true h1]; rfl, q, rfl⟩
  · have h1 : decide (xs = ys) = false := by
      rw [decide_eq_false_iff_not]; intro e; exact hl (by rw [e])
    have H1 := Lib.hid h1
    clear h1
    have h2 : ((xs.length : Int) != (ys.length : Int)) = true := by rw [bne_iff_ne]; omega
    clear ha hb
    go_enter Try.func28, Try.ntmps28
    go_wp2
    go_ret
    exact ⟨by rw [H1.out]; rfl, 0, rfl⟩
theorem same_n (A B : Option Addr) (n c d : Nat) (xs : List Int) (hn : xs.length = n) (w : World) (ha : Row w .i64 A xs) (hb : Row w .i64 B xs) (hx : n ≤ 17592186044416) :
    Calls Try.prog 28 #[.slice A n c, .slice B n d] w fun e w' => e = .returned (.bool true) ∧ ∃ q, w.drewN q = w' := by
  subst hn
  have h := same_any A B c d xs xs w ha hb (by omega)
  rw [decide_eq_true rfl] at h
  exact h
end Go.Proofs.Ytofllmofdenadaa.B_int
