/- Tokens held against others, one by one. No conditions but that the lists are not endless. -/
import Derived.Test.YtnpoipjnnlbnfaaDoorVm
namespace Go.Proofs.YtnpoipjnnlbnfaaDoor
set_option linter.unusedVariables false
open Go.RowKit Go.Proofs.Fm Go.Proofs.Fb Go.Proofs.Fk Go.Proofs.Fs Go.Proofs.Fc

/-- are two tokens the same? -/
def tokEq (x y : Tok) : Bool := ((x.kind : Int) == (y.kind : Int)) && (x.name == y.name) && (x.text == y.text) && decide (x.attrs = y.attrs) && (x.closed == y.closed)
theorem tokEq_iff (x y : Tok) : tokEq x y = true ↔ x = y := by
  obtain ⟨k, n, t, a, c⟩ := x
  obtain ⟨k', n', t', a', c'⟩ := y
  simp only [tokEq, Bool.and_eq_true, decide_eq_true_eq, beq_iff_eq, Tok.mk.injEq]
  constructor
  · rintro ⟨⟨⟨⟨h1, h2⟩, h3⟩, h4⟩, h5⟩; exact ⟨by omega, h2, h3, h4, h5⟩
  · rintro ⟨h1, h2, h3, h4, h5⟩; exact ⟨⟨⟨⟨by omega, h2⟩, h3⟩, h4⟩, h5⟩
instance : DecidableEq Tok := fun x y => decidable_of_iff (tokEq x y = true) (tokEq_iff x y)
theorem tokEq_dec (x y : Tok) : tokEq x y = decide (x = y) := by
  rcases h : tokEq x y with _ | _
  · exact (decide_eq_false (fun e => by rw [(tokEq_iff x y).2 e] at h; cases h)).symm
  · exact (decide_eq_true ((tokEq_iff x y).1 h)).symm
/-- a token as a value -/
def tokVal (x : Tok) (A : Option Addr) (c : Nat) : Value := .agg #[.int .i64 (x.kind : Int), str x.name, str x.text, .slice A x.attrs.length c, .bool x.closed]
set_option maxHeartbeats 4000000 in
theorem token_any (x y : Tok) (A B : Option Addr) (c d : Nat) (hx : x.attrs.length ≤ 4294967296) {w : World} (ha : ARow w A x.attrs) (hb : ARow w B y.attrs) :
    Calls Tryd.prog 37 #[tokVal x A c, tokVal y B d] w fun e w' => e = .returned (.bool (tokEq x y)) ∧ Below w.heap.size w w' := by
  obtain ⟨k, n, t, al, cl⟩ := x
  obtain ⟨k', n', t', bl, cl'⟩ := y
  have HS := Lib.hid (fun W (hW : Below w.heap.size w W) => same_attr A B al.length bl.length c d al bl rfl rfl hx (ha.below hW (Nat.le_refl _)) (hb.below hW (Nat.le_refl _)))
  have hq : tokEq ⟨k, n, t, al, cl⟩ ⟨k', n', t', bl, cl'⟩ = (((k : Int) == (k' : Int)) && (n == n') && (t == t') && decide (al = bl) && (cl == cl')) := rfl
  rw [hq]
  clear hq ha hb
  dsimp only [tokVal, str]
  obtain ⟨z, hz⟩ : ∃ z, decide (al = bl) = z := ⟨_, rfl⟩
  rw [hz] at HS ⊢
  clear hz
  go_enter Tryd.func37, Tryd.ntmps37
  have hB2 : ∀ o1 o2, Below w.heap.size w ((w.alloc o1).alloc o2) := fun o1 o2 => ((Below.refl _ w).alloc (Nat.le_refl _) o1).alloc (by simp) o2
  rcases h1 : ((k : Int) == (k' : Int)) with _ | _
  · go_wp2
    go_ret
    exact ⟨by simp, hB2 _ _⟩
  · rcases h2 : (n == n') with _ | _
    · go_wp2
      go_ret
      exact ⟨by simp, hB2 _ _⟩
    · rcases h3 : (t == t') with _ | _
      · go_wp2
        go_ret
        exact ⟨by simp, hB2 _ _⟩
      · rcases z with _ | _
        · go_wp2_with (go_at_call 53; refine (HS.out _ (hB2 _ _)).mono ?_; rintro e w1 ⟨rfl, q, rfl⟩)
          go_ret
          exact ⟨by simp, below_drewN (hB2 _ _) q⟩
        · go_wp2_with (go_at_call 53; refine (HS.out _ (hB2 _ _)).mono ?_; rintro e w1 ⟨rfl, q, rfl⟩)
          all_goals go_ret
          all_goals exact ⟨by simp, below_drewN (hB2 _ _) q⟩
set_option maxHeartbeats 4000000 in
theorem sameTok_any (x y : Tok) (A B : Option Addr) (c d : Nat) (hx : x.attrs.length ≤ 4294967296) {w : World} (ha : ARow w A x.attrs) (hb : ARow w B y.attrs) :
    Calls Tryd.prog 27 #[tokVal x A c, tokVal y B d] w fun e w' => e = .returned (.bool (tokEq x y)) ∧ Below w.heap.size w w' := by
  obtain ⟨k, n, t, al, cl⟩ := x
  obtain ⟨k', n', t', bl, cl'⟩ := y
  have HS := Lib.hid (fun W (hW : Below w.heap.size w W) => same_attr A B al.length bl.length c d al bl rfl rfl hx (ha.below hW (Nat.le_refl _)) (hb.below hW (Nat.le_refl _)))
  have hq : tokEq ⟨k, n, t, al, cl⟩ ⟨k', n', t', bl, cl'⟩ = (((k : Int) == (k' : Int)) && (n == n') && (t == t') && decide (al = bl) && (cl == cl')) := rfl
  rw [hq]
  clear hq ha hb
  dsimp only [tokVal, str]
  obtain ⟨z, hz⟩ : ∃ z, decide (al = bl) = z := ⟨_, rfl⟩
  rw [hz] at HS ⊢
  clear hz
  go_enter Tryd.func27, Tryd.ntmps27
  have hB2 : ∀ o1 o2, Below w.heap.size w ((w.alloc o1).alloc o2) := fun o1 o2 => ((Below.refl _ w).alloc (Nat.le_refl _) o1).alloc (by simp) o2
  rcases h1 : ((k : Int) == (k' : Int)) with _ | _
  · go_wp2
    go_ret
    exact ⟨by simp, hB2 _ _⟩
  · rcases h2 : (n == n') with _ | _
    · go_wp2
      go_ret
      exact ⟨by simp, hB2 _ _⟩
    · rcases h3 : (t == t') with _ | _
      · go_wp2
        go_ret
        exact ⟨by simp, hB2 _ _⟩
      · rcases z with _ | _
        · go_wp2_with (go_at_call 53; refine (HS.out _ (hB2 _ _)).mono ?_; rintro e w1 ⟨rfl, q, rfl⟩)
          go_ret
          exact ⟨by simp, below_drewN (hB2 _ _) q⟩
        · go_wp2_with (go_at_call 53; refine (HS.out _ (hB2 _ _)).mono ?_; rintro e w1 ⟨rfl, q, rfl⟩)
          all_goals go_ret
          all_goals exact ⟨by simp, below_drewN (hB2 _ _) q⟩
end Go.Proofs.YtnpoipjnnlbnfaaDoor
