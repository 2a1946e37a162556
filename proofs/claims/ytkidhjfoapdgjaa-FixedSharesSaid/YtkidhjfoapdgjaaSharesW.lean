import Derived.Test.YtkidhjfoapdgjaaNv
namespace Go.Proofs.Ytkidhjfoapdgjaa
set_option linter.unusedVariables false
open Go.RowKit Go.Proofs.Fx Go.Proofs.Fm Go.Proofs.Fo

set_option maxHeartbeats 1600000 in
theorem shares_small (t : Int) (A : Option Addr) (n cap : Nat) (xs : List Int) (hn : xs.length = n) (w : World) (ha : Row w .i64 A xs) (hx : n ≤ 300) :
    Calls Try.prog 5 #[.int .i64 t, .slice A n cap] w fun e w' => e = .returned (.bool true) ∧ Below w.heap.size w w' := by
  have HN := Lib.hid hn
  have hx' : n ≤ 17592186044416 := by omega
  clear hn
  go_enter Try.func5, Try.ntmps5
  go_wp2_with (first
    | (go_at_call 17; refine (roomy_n _ _ _ xs HN.out _ _ ha hx').mono ?_; rintro e w1 ⟨g, rfl, hg, hI, hb1⟩)
    | (go_at_call 13; refine (share_n _ _ _ _ xs HN.out _ (room_row hI) hx').mono ?_; rintro e w2 ⟨g2, rfl, hg2, hI2, hb2⟩; have ha2 := ha.below (hb1.trans (hb2.mono hb1.size)) (Nat.le_refl _))
    | (go_at_call 27; refine (rshare_n _ _ _ _ xs HN.out _ ha2 hx').mono ?_; rintro e w3 ⟨g3, rfl, hg3, hI3, hb3⟩; have hI2' := hI2.below hb3 hI2.lt; have hb23 := hb2.trans (hb3.mono hb2.size); have hI' := hI.below hb23 hI.lt; have ha3 := ha.below (hb1.trans (hb23.mono hb1.size)) (Nat.le_refl _))
    | (go_at_call 12; refine (same_n _ _ _ _ _ (share t xs) ((share_length t xs).trans HN.out) _ hI2'.row hI3.row hx').mono ?_; rintro e w4 ⟨rfl, q4, rfl⟩)
    | (go_at_call 26; refine (intact_n g A _ _ xs HN.out _ _ (hI'.drewN q4) (ha3.drewN q4) hx').mono ?_; rintro e w5 ⟨rfl, q5, rfl⟩)
    | (go_at_call 16; refine (known_any _).mono ?_; rintro e w6 ⟨rfl, hb6⟩))
  go_ret
  have hb13 := hb1.trans (hb23.mono hb1.size)
  exact ⟨rfl, (below_drewN hb13 _).trans (hb6.mono hb13.size)⟩

set_option maxHeartbeats 1600000 in
theorem shares_large (t : Int) (A : Option Addr) (n cap : Nat) (xs : List Int) (hn : xs.length = n) (w : World) (ha : Row w .i64 A xs) (hx : 300 < n) (hc : n ≤ cap) (hx2 : n ≤ 17592186044416) :
    Calls Try.prog 5 #[.int .i64 t, .slice A n cap] w fun e w' => e = .returned (.bool true) ∧ Below w.heap.size w w' := by
  obtain ⟨ys, hy, hr⟩ : ∃ ys : List Int, ys.length = 300 ∧ Row w .i64 A ys := ⟨xs.take 300, by simp; omega, ha.take 300⟩
  have HN := Lib.hid hy
  have hx' : 300 ≤ 17592186044416 := by omega
  have hc3 : 300 ≤ cap := by omega
  clear hn hy ha
  go_enter Try.func5, Try.ntmps5
  go_wp2_with (first
    | (go_at_call 17; refine (roomy_n _ _ _ ys HN.out _ _ hr hx').mono ?_; rintro e w1 ⟨g, rfl, hg, hI, hb1⟩)
    | (go_at_call 13; refine (share_n _ _ _ _ ys HN.out _ (room_row hI) hx').mono ?_; rintro e w2 ⟨g2, rfl, hg2, hI2, hb2⟩; have ha2 := hr.below (hb1.trans (hb2.mono hb1.size)) (Nat.le_refl _))
    | (go_at_call 27; refine (rshare_n _ _ _ _ ys HN.out _ ha2 hx').mono ?_; rintro e w3 ⟨g3, rfl, hg3, hI3, hb3⟩; have hI2' := hI2.below hb3 hI2.lt; have hb23 := hb2.trans (hb3.mono hb2.size); have hI' := hI.below hb23 hI.lt; have ha3 := hr.below (hb1.trans (hb23.mono hb1.size)) (Nat.le_refl _))
    | (go_at_call 12; refine (same_n _ _ _ _ _ (share t ys) ((share_length t ys).trans HN.out) _ hI2'.row hI3.row hx').mono ?_; rintro e w4 ⟨rfl, q4, rfl⟩)
    | (go_at_call 26; refine (intact_n g A _ _ ys HN.out _ _ (hI'.drewN q4) (ha3.drewN q4) hx').mono ?_; rintro e w5 ⟨rfl, q5, rfl⟩)
    | (go_at_call 16; refine (known_any _).mono ?_; rintro e w6 ⟨rfl, hb6⟩))
  go_ret
  have hb13 := hb1.trans (hb23.mono hb1.size)
  exact ⟨rfl, (below_drewN hb13 _).trans (hb6.mono hb13.size)⟩
theorem shares_law (w : World) (t : Int) (_ : (Lit.int .i64 t).wf = true) (A : Option Addr) (n cap : Nat) (xs : List Int) (ha : Row w .i64 A xs) (hn : xs.length = n) (_ : ∀ x ∈ xs, (Lit.int .i64 x).wf = true) (hs : n * Try.prog.bytesOf 2 ≤ 140737488351232) (hc : n ≤ cap) :
    Calls Try.prog 5 #[.int .i64 t, .slice A n cap] w fun e w' => e = .returned (.bool true) ∧ Below w.heap.size w w' := by
  rw [Try.bytes2] at hs
  by_cases h : n ≤ 300
  · exact shares_small t A n cap xs hn w ha h
  · exact shares_large t A n cap xs hn w ha (by omega) hc (by omega)
end Go.Proofs.Ytkidhjfoapdgjaa
