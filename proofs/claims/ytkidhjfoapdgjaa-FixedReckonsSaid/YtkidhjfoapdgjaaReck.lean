import Derived.Test.YtkidhjfoapdgjaaKnown
namespace Go.Proofs.Ytkidhjfoapdgjaa
set_option linter.unusedVariables false
open Go.RowKit Go.Proofs.Fx Go.Proofs.Fm Go.Proofs.Fo

theorem Try.bytes2 : Try.prog.bytesOf 2 = 8 := by kernel_rfl
theorem room_row {w : World} {g : Nat} {xs : List Int} {m : Int} (h : IB w g 2 .i64 (xs ++ List.replicate 80 m)) : Row w .i64 (some ⟨g, 0, none⟩) xs := by
  have := h.row.take xs.length
  rwa [List.take_left] at this

set_option maxHeartbeats 1600000 in
theorem reckons_walk (a b c : Int) (A : Option Addr) (cap : Nat) (xs : List Int) (w : World) (ha : Row w .i64 A xs) (hx : xs.length ≤ 17592186044416) :
    Calls Try.prog 4 #[.int .i64 a, .int .i64 b, .int .i64 c, .slice A xs.length cap] w fun e w' => e = .returned (.bool true) ∧ Below w.heap.size w w' := by
  go_enter Try.func4, Try.ntmps4
  go_wp2_with (first
    | (go_at_call 17; refine (roomy_any _ _ xs _ _ ha hx).mono ?_; rintro e w1 ⟨g, rfl, hg, hI, hb1⟩)
    | (go_at_call 18; refine (sat_any _ _).mono ?_; rintro e w' ⟨rfl, rfl⟩)
    | (go_at_call 19; refine (rsat_any _ _).mono ?_; rintro e w' ⟨rfl, rfl⟩)
    | (go_at_call 15; refine (add_any _ _ _).mono ?_; rintro e w' ⟨rfl, rfl⟩)
    | (go_at_call 20; refine (radd_any _ _ _).mono ?_; rintro e w' ⟨rfl, rfl⟩)
    | (go_at_call 21; refine (sub_any _ _ _).mono ?_; rintro e w' ⟨rfl, rfl⟩)
    | (go_at_call 22; refine (rsub_any _ _ _).mono ?_; rintro e w' ⟨rfl, rfl⟩)
    | (go_at_call 10; refine (times_any _ _ _).mono ?_; rintro e w' ⟨rfl, rfl⟩)
    | (go_at_call 23; refine (rtimes_any _ _ _).mono ?_; rintro e w' ⟨rfl, rfl⟩)
    | (go_at_call 11; refine (part_any _ _ _ _).mono ?_; rintro e w' ⟨rfl, rfl⟩)
    | (go_at_call 24; refine (rpart_any _ _ _ _).mono ?_; rintro e w' ⟨rfl, rfl⟩)
    | (go_at_call 14; refine (sum_any _ _ xs _ (room_row hI) hx).mono ?_; rintro e w' ⟨rfl, rfl⟩)
    | (go_at_call 25; refine (rsum_any _ _ xs _ (ha.below hb1 (Nat.le_refl _)) hx).mono ?_; rintro e w' ⟨rfl, rfl⟩)
    | (go_at_call 26; refine (intact_yes g A _ xs _ _ hI (ha.below hb1 (Nat.le_refl _)) hx).mono ?_; rintro e w2 ⟨rfl, q, rfl⟩)
    | (go_at_call 16; refine (known_any _).mono ?_; rintro e w3 ⟨rfl, hb3⟩))
  go_ret
  exact ⟨rfl, (below_drewN hb1 q).trans (hb3.mono hb1.size)⟩
theorem reckons_law (w : World) (a : Int) (_ : (Lit.int .i64 a).wf = true) (b : Int) (_ : (Lit.int .i64 b).wf = true) (c : Int) (_ : (Lit.int .i64 c).wf = true)
    (A : Option Addr) (n cap : Nat) (xs : List Int) (ha : Row w .i64 A xs) (hn : xs.length = n) (_ : ∀ x ∈ xs, (Lit.int .i64 x).wf = true) (hs : n * Try.prog.bytesOf 2 ≤ 140737488351232) (_ : n ≤ cap) :
    Calls Try.prog 4 #[.int .i64 a, .int .i64 b, .int .i64 c, .slice A n cap] w fun e w' => e = .returned (.bool true) ∧ Below w.heap.size w w' := by
  subst hn
  rw [Try.bytes2] at hs
  exact reckons_walk a b c A cap xs w ha (by omega)
end Go.Proofs.Ytkidhjfoapdgjaa
