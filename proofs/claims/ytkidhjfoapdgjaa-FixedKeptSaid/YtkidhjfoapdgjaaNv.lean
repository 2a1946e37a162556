/- The contracts of layer 1 once more, the length given by a name of its own. No conditions but those of each contract. -/
import Derived.Test.YtkidhjfoapdgjaaRshare
import Derived.Test.YtkidhjfoapdgjaaKnown
namespace Go.Proofs.Ytkidhjfoapdgjaa
set_option linter.unusedVariables false
open Go.RowKit Go.Proofs.Fx Go.Proofs.Fm Go.Proofs.Fo

theorem Try.bytes2 : Try.prog.bytesOf 2 = 8 := by kernel_rfl
theorem room_row {w : World} {g : Nat} {xs : List Int} {m : Int} (h : IB w g 2 .i64 (xs ++ List.replicate 80 m)) : Row w .i64 (some ⟨g, 0, none⟩) xs := by
  have := h.row.take xs.length
  rwa [List.take_left] at this
theorem roomy_n (A : Option Addr) (n c : Nat) (xs : List Int) (hn : xs.length = n) (m : Int) (w : World) (ha : Row w .i64 A xs) (hx : n ≤ 17592186044416) :
    Calls Try.prog 17 #[.slice A n c, .int .i64 m] w fun e w' => ∃ g, e = .returned (.slice (some ⟨g, 0, none⟩) (n + 80) (n + 80)) ∧ w.heap.size ≤ g ∧
      IB w' g 2 .i64 (xs ++ List.replicate 80 m) ∧ Below w.heap.size w w' := by
  subst hn; exact roomy_any A c xs m w ha hx
theorem share_n (t : Int) (A : Option Addr) (n c : Nat) (xs : List Int) (hn : xs.length = n) (w : World) (ha : Row w .i64 A xs) (hx : n ≤ 17592186044416) :
    Calls Try.prog 13 #[.int .i64 t, .slice A n c] w fun e w' => ∃ g, e = .returned (.slice (some ⟨g, 0, none⟩) n n) ∧ w.heap.size ≤ g ∧ IB w' g 2 .i64 (share t xs) ∧ Below w.heap.size w w' := by
  subst hn; exact share_any t A c xs w ha hx
theorem rshare_n (t : Int) (A : Option Addr) (n c : Nat) (xs : List Int) (hn : xs.length = n) (w : World) (ha : Row w .i64 A xs) (hx : n ≤ 17592186044416) :
    Calls Try.prog 27 #[.int .i64 t, .slice A n c] w fun e w' => ∃ g, e = .returned (.slice (some ⟨g, 0, none⟩) n n) ∧ w.heap.size ≤ g ∧ IB w' g 2 .i64 (share t xs) ∧ Below w.heap.size w w' := by
  subst hn; exact rshare_any t A c xs w ha hx
theorem share_length (t : Int) (xs : List Int) : (share t xs).length = xs.length := by
  unfold share
  split
  · simp
  · rw [bump_length, bases_length]
theorem same_n (A B : Option Addr) (n c d : Nat) (xs : List Int) (hn : xs.length = n) (w : World) (ha : Row w .i64 A xs) (hb : Row w .i64 B xs) (hx : n ≤ 17592186044416) :
    Calls Try.prog 12 #[.slice A n c, .slice B n d] w fun e w' => e = .returned (.bool true) ∧ ∃ q, w.drewN q = w' := by
  subst hn
  have h := same_any A B c d xs xs w ha hb (by omega)
  rw [decide_eq_true rfl] at h
  exact h
theorem intact_n (g : Nat) (A : Option Addr) (n c : Nat) (xs : List Int) (hn : xs.length = n) (m : Int) (w : World) (hI : IB w g 2 .i64 (xs ++ List.replicate 80 m)) (ha : Row w .i64 A xs) (hx : n ≤ 17592186044416) :
    Calls Try.prog 26 #[.slice (some ⟨g, 0, none⟩) (n + 80) (n + 80), .slice A n c, .int .i64 m] w fun e w' => e = .returned (.bool true) ∧ ∃ q, w.drewN q = w' := by
  subst hn; exact intact_yes g A c xs m w hI ha hx
end Go.Proofs.Ytkidhjfoapdgjaa
