/- Plain mathematics: the order of the greatest remainders, and each place's rank in it. No Go in it, no conditions. -/
namespace Go.Proofs.Fo
set_option linter.unusedVariables false

/-- place i comes ahead of place j: a greater remainder, or the same one and a smaller place -/
def before (r : List Int) (i j : Nat) : Bool := decide (r.getD j 0 < r.getD i 0) || (decide (r.getD i 0 = r.getD j 0) && decide (i < j))
def rank (r : List Int) (i : Nat) : Nat := (List.range r.length).countP (fun j => before r j i)

theorem before_iff (r : List Int) (i j : Nat) : before r i j = true ↔ r.getD j 0 < r.getD i 0 ∨ (r.getD i 0 = r.getD j 0 ∧ i < j) := by
  unfold before; simp
theorem before_trans {r : List Int} {i j k : Nat} (h : before r i j = true) (h' : before r j k = true) : before r i k = true := by
  rw [before_iff] at *; omega
theorem before_asymm {r : List Int} {i j : Nat} (h : before r i j = true) : before r j i = false := by
  rw [← Bool.not_eq_true, before_iff]; rw [before_iff] at h; omega
theorem before_irrefl (r : List Int) (i : Nat) : before r i i = false := by
  rw [← Bool.not_eq_true, before_iff]; omega
theorem before_total (r : List Int) {i j : Nat} (h : i ≠ j) : before r i j = true ∨ before r j i = true := by
  rw [before_iff, before_iff]; omega

theorem countP_lt {α : Type} (p q : α → Bool) (l : List α) (h : ∀ x ∈ l, p x = true → q x = true) (x : α) (hx : x ∈ l) (hq : q x = true) (hp : p x = false) : l.countP p < l.countP q := by
  induction l with
  | nil => cases hx
  | cons y t ih =>
    have hm : t.countP p ≤ t.countP q := List.countP_mono_left (fun z hz => h z (List.mem_cons_of_mem _ hz))
    rw [List.countP_cons, List.countP_cons]
    rcases List.mem_cons.1 hx with e | e
    · subst e; simp [hp, hq]; omega
    · have := ih (fun z hz => h z (List.mem_cons_of_mem _ hz)) e
      by_cases hy : p y = true
      · have := h y (List.mem_cons_self ..) hy; simp [hy, this]; omega
      · simp [hy]; split <;> omega

theorem rank_lt {r : List Int} {i j : Nat} (hi : i < r.length) (h : before r i j = true) : rank r i < rank r j := by
  unfold rank
  exact countP_lt _ _ _ (fun x _ hx => before_trans hx h) i (List.mem_range.2 hi) h (before_irrefl r i)
theorem rank_inj {r : List Int} {i j : Nat} (hi : i < r.length) (hj : j < r.length) (h : rank r i = rank r j) : i = j := by
  rcases Decidable.em (i = j) with e | e
  · exact e
  · rcases before_total r e with b | b
    · have := rank_lt hi b; omega
    · have := rank_lt hj b; omega

/-- in a list of all places in that order the place at t has rank t -/
theorem rank_at {r : List Int} {l : List Nat} (hp : l.Perm (List.range r.length)) (hs : l.Pairwise (fun i j => before r i j = true)) {t : Nat} (ht : t < l.length) : rank r l[t] = t := by
  unfold rank
  rw [← hp.countP_eq]
  have e : l = l.take t ++ (l[t] :: l.drop (t + 1)) := by simp
  generalize hv : l[t] = v at *
  rw [e, List.countP_append, List.countP_cons, before_irrefl]
  rw [e, List.pairwise_append, List.pairwise_cons] at hs
  have h1 : (l.take t).countP (fun j => before r j v) = (l.take t).length := by
    rw [List.countP_eq_length]
    intro a ha
    exact hs.2.2 a ha v (List.mem_cons_self ..)
  have h2 : (l.drop (t + 1)).countP (fun j => before r j v) = 0 := by
    rw [List.countP_eq_zero]
    intro a ha
    rw [before_asymm (hs.2.1.1 a ha)]
    simp
  rw [h1, h2, List.length_take]
  simp; omega

/-- what is added at each place when the first t of the order have got one -/
def bump (b r : List Int) (t : Nat) : List Int := (List.range b.length).map (fun i => b.getD i 0 + if rank r i < t then 1 else 0)
theorem bump_length (b r : List Int) (t : Nat) : (bump b r t).length = b.length := by simp [bump]
theorem bump_getD (b r : List Int) (t : Nat) {i : Nat} (hi : i < b.length) : (bump b r t).getD i 0 = b.getD i 0 + if rank r i < t then 1 else 0 := by
  simp [bump, hi]
theorem bump_zero (b r : List Int) : bump b r 0 = b := by
  apply List.ext_getElem
  · simp [bump]
  · intro i h1 h2; simp [bump, h2]
theorem bump_step {b r : List Int} (hbr : b.length = r.length) {t i : Nat} (hi : i < r.length) (hr : rank r i = t) : bump b r (t + 1) = (bump b r t).set i ((bump b r t).getD i 0 + 1) := by
  rw [bump_getD b r t (by omega)]
  apply List.ext_getElem
  · simp [bump]
  · intro j h1 h2
    have hj : j < b.length := by simpa [bump] using h1
    rw [List.getElem_set]
    by_cases e : i = j
    · subst e; simp [bump, hr]
    · have hne : rank r j ≠ t := fun h => e (rank_inj hi (by omega) (hr.trans h.symm))
      rw [if_neg e]
      simp only [bump, List.getElem_map, List.getElem_range]
      congr 1
      by_cases h : rank r j < t
      · rw [if_pos h, if_pos (by omega)]
      · rw [if_neg h, if_neg (by omega)]

/-- a sorted list of all places -/
def ordF (r : List Int) (n : Nat) : List (Fin n) := (List.finRange n).mergeSort (fun x y => !before r y.val x.val)
theorem ordF_perm (r : List Int) (n : Nat) : (ordF r n).Perm (List.finRange n) := List.mergeSort_perm _ _
theorem ordF_length (r : List Int) (n : Nat) : (ordF r n).length = n := by rw [(ordF_perm r n).length_eq]; simp
theorem finRange_val (n : Nat) : (List.finRange n).map Fin.val = List.range n := by
  apply List.ext_getElem <;> simp
theorem ordF_vals (r : List Int) (n : Nat) : ((ordF r n).map Fin.val).Perm (List.range n) := by
  rw [← finRange_val]; exact (ordF_perm r n).map _
theorem ordF_sorted (r : List Int) (n : Nat) : ((ordF r n).map Fin.val).Pairwise (fun i j => before r i j = true) := by
  have h1 : (ordF r n).Pairwise (fun x y => (!before r y.val x.val) = true) := by
    apply List.pairwise_mergeSort
    · intro a b c h1 h2
      simp only [Bool.not_eq_true'] at *
      rw [← Bool.not_eq_true, before_iff] at *
      omega
    · intro a b
      by_cases e : a.val = b.val
      · simp [before, e]
      · rcases before_total r e with h | h
        · simp [before_asymm h]
        · simp [before_asymm h]
  have h2 : (ordF r n).Nodup := (ordF_perm r n).symm.nodup (List.nodup_finRange n)
  rw [List.pairwise_map]
  refine (h1.and h2).imp ?_
  rintro a b ⟨ha, hb⟩
  have hne : a.val ≠ b.val := fun e => hb (Fin.ext e)
  rcases before_total r hne with h | h
  · exact h
  · rw [h] at ha; cases ha
theorem ordF_rank (r : List Int) (t : Nat) (ht : t < r.length) : rank r (((ordF r r.length).map Fin.val).getD t 0) = t ∧ ((ordF r r.length).map Fin.val).getD t 0 < r.length := by
  have hl : t < ((ordF r r.length).map Fin.val).length := by simpa [ordF_length] using ht
  rw [List.getD_eq_getElem?_getD, List.getElem?_eq_getElem hl, Option.getD_some]
  exact ⟨rank_at (ordF_vals r _) (ordF_sorted r _) hl, by simp⟩

/-- the first of the greatest of what is not yet taken has the next rank -/
theorem best_rank {r q : List Int} {t b : Nat} (ht : t < r.length) (hpos : ∀ i, i < r.length → 0 ≤ r.getD i 0)
    (hq : ∀ i, i < r.length → q.getD i 0 = if rank r i < t then -1 else r.getD i 0) (hb : b < r.length) (hmax : ∀ j, j < r.length → q.getD j 0 ≤ q.getD b 0) (hfirst : ∀ j, j < b → q.getD j 0 < q.getD b 0) : rank r b = t := by
  obtain ⟨h1, h2⟩ := ordF_rank r t ht
  generalize hi : ((ordF r r.length).map Fin.val).getD t 0 = i at h1 h2
  have hqi := hq i h2
  rw [if_neg (by omega)] at hqi
  have hqb := hq b hb
  have hp := hpos i h2
  have hm := hmax i h2
  have hbr : ¬ rank r b < t := by
    intro h; rw [if_pos h] at hqb; omega
  rw [if_neg hbr] at hqb
  rcases Decidable.em (b = i) with e | e
  · rw [e]; exact h1
  · rcases before_total r e with h | h
    · have := rank_lt hb h; omega
    · rw [before_iff] at h
      rcases h with h | h
      · omega
      · have := hfirst i h.2; omega
end Go.Proofs.Fo
