/- Plain mathematics: what the shares of a total are like. No Go in it, no conditions. -/
import Derived.Test.YtkidhjfoapdgjaaShr
namespace Go.Proofs.Fx
set_option linter.unusedVariables false
open Go.Proofs.Fo

theorem sumL_set (l : List Int) (i : Nat) (h : i < l.length) (d : Int) : sumL (l.set i (l.getD i 0 + d)) = sumL l + d := by
  induction l generalizing i with
  | nil => cases h
  | cons x r ih =>
    cases i with
    | zero => simp only [List.set_cons_zero, sumL_cons, List.getD_cons_zero]; omega
    | succ i =>
      have := ih i (by simpa using h)
      simp only [List.set_cons_succ, sumL_cons, List.getD_cons_succ]
      omega
theorem bump_sum {b r : List Int} (hbr : b.length = r.length) (t : Nat) (ht : t ≤ r.length) : sumL (bump b r t) = sumL b + t := by
  induction t with
  | zero => rw [bump_zero]; omega
  | succ t ih =>
    obtain ⟨h1, h2⟩ := ordF_rank r t (by omega)
    rw [bump_step hbr h2 h1, sumL_set _ _ (by rw [bump_length]; omega), ih (by omega)]
    omega
theorem share_sum {t : Int} {xs : List Int} (h : wsum xs ≠ 0) : sumL (share t xs) = tot t := by
  have hT := tot_bd t
  have hl := left_bd hT.1 h
  have hle := left_le hT.1 h
  rw [share, if_neg h, bump_sum (by rw [bases_length, rems_length]) _ (by rw [rems_length]; omega)]
  unfold left_ at *
  omega
theorem sumL_zeros (n : Nat) : sumL (List.replicate n 0) = 0 := by
  induction n with
  | zero => rfl
  | succ n ih => rw [List.replicate_succ, sumL_cons, ih]; rfl
theorem share_sum0 {t : Int} {xs : List Int} (h : wsum xs = 0) : sumL (share t xs) = 0 := by
  rw [share, if_pos h, sumL_zeros]
theorem share_at {t : Int} {xs : List Int} (h : wsum xs ≠ 0) {i : Nat} (hi : i < xs.length) :
    (share t xs).getD i 0 = tot t * wt (xs.getD i 0) / wsum xs + if rank (rems (tot t) xs) i < (left_ (tot t) xs).toNat then 1 else 0 := by
  rw [share, if_neg h, bump_getD _ _ _ (by rw [bases_length]; exact hi), bases_getD _ _ hi]
theorem share_at0 {t : Int} {xs : List Int} (h : wsum xs = 0) {i : Nat} (hi : i < xs.length) : (share t xs).getD i 0 = 0 := by
  rw [share, if_pos h]; simp [hi]
theorem share_nonneg (t : Int) (xs : List Int) {i : Nat} (hi : i < xs.length) : 0 ≤ (share t xs).getD i 0 := by
  by_cases h : wsum xs = 0
  · rw [share_at0 h hi]; omega
  · rw [share_at h hi]
    have := Int.ediv_nonneg (Int.mul_nonneg (tot_bd t).1 (wt_bd (xs.getD i 0)).1) (show 0 ≤ wsum xs by have := wsum_pos h; omega)
    split <;> omega
theorem npos_range (r : List Int) : npos r = (List.range r.length).countP (fun j => decide (0 < r.getD j 0)) := by
  have h : r = (List.range r.length).map (fun j => r.getD j 0) := by
    apply List.ext_getElem
    · simp
    · intro i h1 h2; simp [h1]
  unfold npos
  conv => lhs; rw [h]
  rw [List.countP_map]
  rfl
theorem rank_ge {r : List Int} {i : Nat} (h : r.getD i 0 = 0) : npos r ≤ rank r i := by
  rw [npos_range]
  unfold rank
  refine List.countP_mono_left fun j _ hj => ?_
  rw [before_iff]
  left
  rw [h]
  simpa using hj
theorem share_none {t : Int} {xs : List Int} {i : Nat} (hi : i < xs.length) (hw : wt (xs.getD i 0) = 0) : (share t xs).getD i 0 = 0 := by
  by_cases h : wsum xs = 0
  · exact share_at0 h hi
  · have hT := tot_bd t
    have hr : (rems (tot t) xs).getD i 0 = 0 := by rw [rems_getD _ _ hi, hw]; simp
    have h1 := rank_ge hr
    have h2 := left_npos hT.1 h
    have h3 := left_bd hT.1 h
    rw [share_at h hi, hw, if_neg (by omega)]
    simp
theorem share_mono {t : Int} {xs : List Int} {i j : Nat} (hi : i < xs.length) (hj : j < xs.length) (hw : wt (xs.getD j 0) < wt (xs.getD i 0)) : (share t xs).getD j 0 ≤ (share t xs).getD i 0 := by
  by_cases h : wsum xs = 0
  · rw [share_at0 h hi, share_at0 h hj]; omega
  · have hT := tot_bd t
    have hp := wsum_pos h
    have hl := left_bd hT.1 h
    have hri := rems_getD (tot t) xs hi
    have hrj := rems_getD (tot t) xs hj
    rw [share_at h hi, share_at h hj]
    generalize wt (xs.getD j 0) = u at *
    generalize wt (xs.getD i 0) = v at *
    have hm : tot t * u ≤ tot t * v := Int.mul_le_mul_of_nonneg_left (by omega) hT.1
    have hd : tot t * u / wsum xs ≤ tot t * v / wsum xs := Int.ediv_le_ediv (by omega) hm
    by_cases he : tot t * u / wsum xs = tot t * v / wsum xs
    · have e1 := Int.mul_ediv_add_emod (tot t * u) (wsum xs)
      have e2 := Int.mul_ediv_add_emod (tot t * v) (wsum xs)
      by_cases h0 : tot t = 0
      · rw [if_neg (by omega), if_neg (by omega)]; omega
      · have hlt : tot t * u < tot t * v := Int.mul_lt_mul_of_pos_left (by omega) (by omega)
        rw [he] at e1
        have hb : before (rems (tot t) xs) i j = true := by rw [before_iff, hri, hrj]; left; omega
        have hrk := rank_lt (r := rems (tot t) xs) (by rw [rems_length]; exact hi) hb
        split
        · rw [if_pos (by omega)]; omega
        · split <;> omega
    · split <;> split <;> omega
theorem wt_pos {x : Int} : 0 < x → 1 ≤ wt x := by unfold wt clamp; omega
theorem wt_zero {x : Int} : x ≤ 0 → wt x = 0 := by unfold wt clamp; omega
theorem wsum_zero_of {xs : List Int} (h : ∀ x ∈ xs, x ≤ 0) : wsum xs = 0 := by
  induction xs with
  | nil => rfl
  | cons x r ih =>
    have h1 := wt_zero (h x (List.mem_cons_self ..))
    have h2 := ih (fun y hy => h y (List.mem_cons_of_mem _ hy))
    rw [wsum_cons]; unfold wt at h1; omega
theorem wsum_pos_of {xs : List Int} {x : Int} (hx : x ∈ xs) (h : 0 < x) : wsum xs ≠ 0 := by
  induction xs with
  | nil => cases hx
  | cons y r ih =>
    have h1 := wt_bd y
    have h2 := wsum_bd r
    rw [wsum_cons]
    unfold wt at h1
    rcases List.mem_cons.1 hx with e | e
    · subst e
      have := wt_pos h
      unfold wt at this
      omega
    · have := ih e; omega
/-- what the statement asks of one place and the one ahead of it -/
theorem share_next {t : Int} {xs : List Int} {i : Nat} (hi : i + 1 < xs.length) (h : xs.getD (i + 1) 0 ≤ 65536) (hlt : xs.getD i 0 < xs.getD (i + 1) 0) : (share t xs).getD i 0 ≤ (share t xs).getD (i + 1) 0 := by
  by_cases h0 : xs.getD (i + 1) 0 ≤ 0
  · rw [share_none (by omega) (wt_zero (by omega)), share_none hi (wt_zero h0)]; omega
  · refine share_mono hi (by omega) ?_
    unfold wt clamp
    omega
end Go.Proofs.Fx
namespace Go.Proofs.Fx
open Go.Proofs.Fo
theorem sum_take_nn (l : List Int) (h : ∀ x ∈ l, 0 ≤ x) (k : Nat) : 0 ≤ sumL (l.take k) ∧ sumL (l.take k) ≤ sumL l := by
  induction l generalizing k with
  | nil => simp [sumL]
  | cons x r ih =>
    have hx := h x (List.mem_cons_self ..)
    have hr := fun k => ih (fun y hy => h y (List.mem_cons_of_mem _ hy)) k
    cases k with
    | zero =>
      have := hr 0
      simp only [List.take_zero, sumL_cons]
      have : sumL [] = 0 := rfl
      have h0 := (hr r.length).1
      rw [List.take_of_length_le (Nat.le_refl _)] at h0
      omega
    | succ k =>
      have := hr k
      simp only [List.take_succ_cons, sumL_cons]
      omega
theorem share_part (t : Int) (xs : List Int) (k : Nat) : 0 ≤ sumL ((share t xs).take k) ∧ sumL ((share t xs).take k) ≤ 70368744177664 := by
  have h1 := sum_take_nn (share t xs) (fun x hx => by
    obtain ⟨i, hi, rfl⟩ := List.mem_iff_getElem.1 hx
    have hl : (share t xs).length = xs.length := by
      unfold share
      split
      · simp
      · rw [bump_length, bases_length]
    have := share_nonneg t xs (i := i) (by omega)
    rwa [List.getD_eq_getElem?_getD, List.getElem?_eq_getElem hi, Option.getD_some] at this) k
  have hT := tot_bd t
  by_cases h : wsum xs = 0
  · rw [share_sum0 h] at h1; omega
  · rw [share_sum h] at h1; omega
/-- is one of the first k above 0? -/
def some_ (xs : List Int) (k : Nat) : Bool := (xs.take k).any (fun x => decide (0 < x))
theorem some_step (xs : List Int) (k : Nat) (h : k < xs.length) : some_ xs (k + 1) = (some_ xs k || decide (0 < xs.getD k 0)) := by
  unfold some_
  rw [List.take_succ_eq_append_getElem h, List.any_append]
  simp [h]
theorem some_all (xs : List Int) : some_ xs xs.length = !decide (wsum xs = 0) := by
  unfold some_
  rw [List.take_of_length_le (Nat.le_refl _)]
  by_cases h : wsum xs = 0
  · rw [decide_eq_true h]
    simp only [Bool.not_true, List.any_eq_false]
    intro x hx hp
    exact wsum_pos_of hx (by simpa using hp) h
  · rw [decide_eq_false h]
    simp only [Bool.not_false, List.any_eq_true]
    apply Classical.byContradiction
    intro hn
    refine h (wsum_zero_of fun x hx => ?_)
    apply Classical.byContradiction
    intro hp
    exact hn ⟨x, hx, by simp; omega⟩
end Go.Proofs.Fx
