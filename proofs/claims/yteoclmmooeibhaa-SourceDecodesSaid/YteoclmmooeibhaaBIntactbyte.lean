/- Intact, at lists of byte: true where they are as they were. No conditions. -/
import Derived.Test.YteoclmmooeibhaaBRoomybyte
namespace Go.Proofs.Yteoclmmooeibhaa.B_byte
set_option linter.unusedVariables false
open Go.Proofs.Yteoclmmooeibhaa Go.RowKit Go.Proofs.Fm

theorem getD_rep (xs : List Int) (m : Int) (k : Nat) (h : xs.length ≤ k) (h' : k < xs.length + 80) : (xs ++ List.replicate 80 m).getD k 0 = m := by
  rw [List.getD_eq_getElem?_getD, List.getElem?_append_right h, List.getElem?_replicate_of_lt (by omega)]; rfl

set_option maxHeartbeats 400000 in
theorem intact_yes (g : Nat) (A : Option Addr) (c : Nat) (xs : List Int) (m : Int) (w : World) (hI : IB w g 5 .u8 (xs ++ List.replicate 80 m)) (ha : Row w .u8 A xs) (hx : xs.length ≤ 140737488351232) :
    Calls Try.prog 16 #[.slice (some ⟨g, 0, none⟩) (xs.length + 80) (xs.length + 80), .slice A xs.length c, .int .u8 m] w fun e w' => e = .returned (.bool true) ∧ ∃ q, w.drewN q = w' := by
  have hr : Row w .u8 (some ⟨g, 0, none⟩) xs := by
    have := hI.row.take xs.length
    rwa [List.take_left] at this
  have hs := same_any (some ⟨g, 0, none⟩) A (xs.length + 80) c xs xs w hr ha (by omega)
  rw [decide_eq_true rfl] at hs
  have HS := Lib.hid hs
  have h1 : ((xs.length : Int) + 80 != (xs.length : Int) + 80) = false := by simp
  clear hr hs ha
  go_enter Try.func16, Try.ntmps16
  go_wp2_with (go_at_call 23; refine (HS.out).mono ?_; rintro e w' ⟨rfl, q, rfl⟩)
  go_loopw [7] (fun i wr => ∃ (k : Nat), xs.length ≤ k ∧ k ≤ xs.length + 80 ∧ i = .int .i64 k ∧ ∃ q, wr = w.drewN q) (fun i _ => xs.length + 80 - (intOf i).toNat)
  case atStart => exact ⟨xs.length, Nat.le_refl _, by omega, rfl, _, rfl⟩
  case round =>
    obtain ⟨k, hk, hk', rfl, q', rfl⟩ := hrel
    by_cases hlt : k < xs.length + 80
    · have g1 := hI.cell (i := k) (by simp; omega)
      rw [getD_rep xs m k hk hlt] at g1
      have i1 : (k : Int) < (xs.length : Int) + 80 := by omega
      go_wp2
      go_roundw
      case rel => exact ⟨k + 1, by omega, by omega, by go_num, _, rfl⟩
      case measure => simp [intOf]; omega
    · have hke : k = xs.length + 80 := by omega
      subst hke
      go_wp2
      go_ret
      exact ⟨rfl, q', rfl⟩
theorem intact_n (g : Nat) (A : Option Addr) (n c : Nat) (xs : List Int) (hn : xs.length = n) (m : Int) (w : World) (hI : IB w g 5 .u8 (xs ++ List.replicate 80 m)) (ha : Row w .u8 A xs) (hx : n ≤ 140737488351232) :
    Calls Try.prog 16 #[.slice (some ⟨g, 0, none⟩) (n + 80) (n + 80), .slice A n c, .int .u8 m] w fun e w' => e = .returned (.bool true) ∧ ∃ q, w.drewN q = w' := by
  subst hn; exact intact_yes g A c xs m w hI ha hx
end Go.Proofs.Yteoclmmooeibhaa.B_byte
