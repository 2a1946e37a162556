/- Plain facts: what is below a node, or is it, are the nodes from it to its end. No walk. No conditions. -/
import Derived.Test.YtofllmofdenadaaIa
import Derived.Test.YtofllmofdenadaaDw
namespace Go.Proofs.Ytofllmofdenadaa
set_option linter.unusedVariables false
open Go.RowKit Go.Proofs.Fm Go.Proofs.Fb Go.Proofs.Fd Go.Proofs.Fc

theorem way_mem {p : Nat → Int} {i : Nat} {a : Nat} : onWay p i (a : Int) = true ↔ a ∈ anc p i := by
  unfold onWay
  rw [List.any_eq_true]
  constructor
  · rintro ⟨x, h1, h2⟩
    have h2 : ((x : Nat) : Int) = (a : Int) := by simpa using h2
    have : x = a := by omega
    exact this ▸ h1
  · intro h
    exact ⟨a, h, by simp⟩
/-- the way up of a node is itself and a part of the way up of the one ahead of it -/
theorem way_ahead {p : Nat → Int} {n i x : Nat} (ho : ordB p n = true) (hi : i < n) (h0 : 0 < i) (hx : x ∈ anc p i) : x = i ∨ x ∈ anc p (i - 1) := by
  have hw := ((ordB_iff _ _).1 ho).2 i h0 hi
  have hp := ord_lt ho (i := i) h0 hi
  rw [anc_step p i (by omega) (by omega)] at hx
  rcases List.mem_cons.1 hx with rfl | hx
  · exact .inl rfl
  · right
    have hmem : (p i).toNat ∈ anc p (i - 1) := by
      rw [← way_mem]
      have : (((p i).toNat : Nat) : Int) = p i := Int.toNat_of_nonneg (by omega)
      rw [this]; exact hw
    obtain ⟨t, h1, -⟩ := anc_split p (i - 1) (i - 1) (Nat.le_refl _) _ hmem
    rw [h1]
    exact List.mem_append_right _ hx
theorem below_iff {p : Nat → Int} {n f i : Nat} (ho : ordB p n = true) (hf : f < n) (hi : i < n) : overB p i (f : Int) = true ↔ f ≤ i ∧ i < endN p n f := by
  have hov : overB p (i : Int) (f : Int) = onWay p i (f : Int) := by unfold overB; rw [if_pos (by omega), Int.toNat_natCast]
  rw [hov, way_mem]
  have hbd := endR_bd p (f : Int) n (n - (f + 1)) (f + 1) (by omega)
  constructor
  · intro h
    have hle := anc_le p i i (Nat.le_refl _) f h
    refine ⟨hle, ?_⟩
    rcases Nat.lt_or_ge i (endN p n f) with c | c
    · exact c
    · exfalso
      have hno : ∀ j, endN p n f ≤ j → j < n → f ∉ anc p j := by
        intro j
        induction j with
        | zero => intro h1; unfold endN at h1; omega
        | succ j ih =>
          intro h1 h2 hm
          by_cases c1 : endN p n f = j + 1
          · have hout := endR_out p (f : Int) n (n - (f + 1)) (f + 1) (by omega) (by unfold endN at c1; omega)
            have c1' : endR p (f : Int) n (n - (f + 1)) (f + 1) = j + 1 := c1
            rw [c1'] at hout
            have hp := ord_lt ho (i := j + 1) (by omega) h2
            rw [anc_step p (j + 1) (by omega) (by omega)] at hm
            rcases List.mem_cons.1 hm with e | hm
            · unfold endN at c1; omega
            · have := anc_le p _ _ (Nat.le_refl _) f hm; omega
          · rcases way_ahead ho h2 (by omega) hm with e | hm
            · unfold endN at h1; omega
            · exact ih (by omega) (by omega) hm
      exact hno i c hi h
  · rintro ⟨h1, h2⟩
    have hyes : ∀ j, f ≤ j → j < endN p n f → f ∈ anc p j := by
      intro j
      induction j using Nat.strongRecOn with
      | ind j ih =>
        intro h1 h2
        by_cases c : j = f
        · subst c
          obtain ⟨t, ht⟩ := anc_head p j
          rw [ht]; exact .head _
        · have hjn : j < n := by unfold endN at h2; omega
          have hin := endR_in p (f : Int) n (n - (f + 1)) (f + 1) j (by omega) h2
          have hp := ord_lt ho (i := j) (by omega) hjn
          rw [anc_step p j (by omega) (by omega)]
          exact .tail _ (ih (p j).toNat (by omega) (by omega) (by omega))
    exact hyes i h1 h2
end Go.Proofs.Ytofllmofdenadaa
