/- Plain facts: the kids of a node, in their order, by the parents; what the links say of them. No walk. No conditions. -/
import Derived.Test.YtdogcnmepaemjaaDoorDa
namespace Go.Proofs.Fd
set_option linter.unusedVariables false

/-- the kids of i among the first n nodes -/
def kidsOf (p : Nat → Int) (n : Nat) (i : Int) : List Nat := (List.range n).filter (fun j => p j == i)
def nth (l : List Nat) (m : Nat) : Int := match l[m]? with | some j => (j : Int) | none => -1
theorem nth_in {l : List Nat} {m : Nat} (h : m < l.length) : nth l m = ((l[m]'h : Nat) : Int) := by simp [nth, List.getElem?_eq_getElem h]
theorem nth_out {l : List Nat} {m : Nat} (h : l.length ≤ m) : nth l m = -1 := by simp [nth, List.getElem?_eq_none h]
theorem kidsOf_succ (p : Nat → Int) (n : Nat) (i : Int) : kidsOf p (n + 1) i = kidsOf p n i ++ (if p n = i then [n] else []) := by
  unfold kidsOf
  rw [List.range_succ, List.filter_append]
  congr 1
  by_cases h : p n = i
  · rw [if_pos h]; simp [h]
  · rw [if_neg h]; simp [h]
theorem kidsOf_lt {p : Nat → Int} {n : Nat} {i : Int} {j : Nat} (h : j ∈ kidsOf p n i) : j < n ∧ p j = i := by
  unfold kidsOf at h
  rw [List.mem_filter, List.mem_range, beq_iff_eq] at h
  exact h
theorem kidsOf_mem {p : Nat → Int} {n : Nat} {i : Int} {j : Nat} (h : j < n) (hp : p j = i) : j ∈ kidsOf p n i := by
  unfold kidsOf
  rw [List.mem_filter, List.mem_range, beq_iff_eq]
  exact ⟨h, hp⟩
theorem nth_app {l : List Nat} {m : Nat} (h : m < l.length) (r : List Nat) : nth (l ++ r) m = nth l m := by
  rw [nth_in h, nth_in (by rw [List.length_append]; omega), List.getElem_append_left h]
theorem kids_sorted (p : Nat → Int) (i : Int) : ∀ n, (kidsOf p n i).Pairwise (· < ·)
  | 0 => by simp [kidsOf]
  | n + 1 => by
    rw [kidsOf_succ, List.pairwise_append]
    refine ⟨kids_sorted p i n, by split <;> simp, fun a ha b hb => ?_⟩
    have := (kidsOf_lt ha).1
    split at hb <;> simp at hb
    omega
/-- first, last, next, of the first n nodes -/
theorem kids_links (p : Nat → Int) (i : Int) : ∀ n, fst p n i = nth (kidsOf p n i) 0 ∧ lst p n i = nth (kidsOf p n i) ((kidsOf p n i).length - 1) ∧ ∀ m (h : m < (kidsOf p n i).length), nxt p n ((kidsOf p n i)[m]'h) = nth (kidsOf p n i) (m + 1)
  | 0 => ⟨rfl, rfl, fun m h => by simp [kidsOf] at h⟩
  | n + 1 => by
    obtain ⟨h1, h2, h3⟩ := kids_links p i n
    have hs := kidsOf_succ p n i
    by_cases c : p n = i
    · rw [if_pos c] at hs
      have hf := fst_lst p i n
      rcases Nat.eq_zero_or_pos (kidsOf p n i).length with h0 | h0
      · have hnil : kidsOf p n i = [] := List.eq_nil_of_length_eq_zero h0
        rw [hs, hnil, List.nil_append]
        rw [hnil] at h1 h2
        have e2 : lst p n i = -1 := h2
        refine ⟨?_, ?_, fun m hm => ?_⟩
        · subst c; rw [fst_new (by omega)]; rfl
        · subst c; rw [lst_new]; rfl
        · have hm0 : m = 0 := by simp at hm; omega
          subst hm0
          show nxt p (n + 1) n = -1
          exact nxt_low p n _ (Nat.le_refl _)
      · have hl0 : 0 ≤ lst p n i := by rw [h2, nth_in (by omega)]; omega
        have hlen : (kidsOf p n i ++ [n]).length = (kidsOf p n i).length + 1 := by simp
        rw [hs]
        refine ⟨?_, ?_, fun m hm => ?_⟩
        · rw [fst_same (.inr hl0), h1, nth_app h0]
        · rw [hlen, Nat.add_sub_cancel, nth_in (by omega)]
          subst c; rw [lst_new]; simp
        · by_cases hml : m < (kidsOf p n i).length
          · rw [List.getElem_append_left hml]
            have hjn := (kidsOf_lt (List.getElem_mem hml)).1
            by_cases hlast : m + 1 = (kidsOf p n i).length
            · rw [nth_in (by omega)]
              rw [nxt_new hjn (by rw [c, h2, nth_in (by omega)]; simp [show (kidsOf p n i).length - 1 = m by omega])]
              congr 1
              rw [List.getElem_append_right (by omega)]
              simp [hlast]
            · rw [nxt_same hjn (by
                rw [c, h2, nth_in (by omega)]
                intro e
                have hp := List.pairwise_iff_getElem.1 (kids_sorted p i n) m ((kidsOf p n i).length - 1) hml (by omega) (by omega)
                omega), h3 m hml, nth_app (by omega)]
          · have hme : m = (kidsOf p n i).length := by omega
            subst hme
            rw [nth_out (by omega), List.getElem_append_right (Nat.le_refl _)]
            simp only [Nat.sub_self, List.getElem_cons_zero]
            exact nxt_low p n _ (Nat.le_refl _)
    · rw [if_neg c, List.append_nil] at hs
      rw [hs]
      refine ⟨by rw [fst_same (.inl c)]; exact h1, by rw [lst_same c]; exact h2, fun m hm => ?_⟩
      have hm' := kidsOf_lt (List.getElem_mem hm)
      rw [nxt_same hm'.1 (by
        intro e
        have := lst_par p (p n) n (by omega)
        rw [e] at this
        simp only [Int.toNat_natCast] at this
        omega)]
      exact h3 m hm
/-- the one ahead of a kid -/
theorem kids_prev (p : Nat → Int) (i : Int) (n : Nat) : ∀ m (h : m < (kidsOf p n i).length), lst p ((kidsOf p n i)[m]'h) i = if m = 0 then -1 else nth (kidsOf p n i) (m - 1) := by
  induction n with
  | zero => intro m h; simp [kidsOf] at h
  | succ n ih =>
    intro m h
    have hs := kidsOf_succ p n i
    by_cases hml : m < (kidsOf p n i).length
    · have e : (kidsOf p (n + 1) i)[m]'h = (kidsOf p n i)[m]'hml := by
        simp only [hs, List.getElem_append_left hml]
      rw [e, ih m hml]
      split
      · rfl
      · rw [hs, nth_app (by omega)]
    · by_cases c : p n = i
      · rw [if_pos c] at hs
        have hme : m = (kidsOf p n i).length := by rw [hs, List.length_append] at h; simp at h; omega
        subst hme
        have e : (kidsOf p (n + 1) i)[(kidsOf p n i).length]'h = n := by
          simp only [hs]
          rw [List.getElem_append_right (Nat.le_refl _)]; simp
        rw [e, (kids_links p i n).2.1]
        split
        · rename_i h0; rw [h0]; exact nth_out (by omega)
        · rw [hs, nth_app (by omega)]
      · rw [if_neg c, List.append_nil] at hs
        rw [hs] at h; omega
end Go.Proofs.Fd
