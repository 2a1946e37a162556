/- Plain mathematics: a total shared out by weights. No Go in it, no conditions. -/
import Derived.Test.YtkidhjfoapdgjaaNum
import Derived.Test.YtkidhjfoapdgjaaOrd
namespace Go.Proofs.Fx
set_option linter.unusedVariables false
open Go.Proofs.Fo

def wt (x : Int) : Int := clamp x 0 65536
def bases (T : Int) (ws : List Int) : List Int := ws.map (fun x => T * wt x / wsum ws)
def rems (T : Int) (ws : List Int) : List Int := ws.map (fun x => T * wt x % wsum ws)
def sumL (l : List Int) : Int := l.sum
def left_ (T : Int) (ws : List Int) : Int := T - sumL (bases T ws)
def tot (t : Int) : Int := clamp t 0 70368744177664
def share (t : Int) (ws : List Int) : List Int :=
  if wsum ws = 0 then List.replicate ws.length 0 else bump (bases (tot t) ws) (rems (tot t) ws) (left_ (tot t) ws).toNat

theorem wt_bd (x : Int) : 0 ≤ wt x ∧ wt x ≤ 65536 := clamp_bd _ _ _ (by omega)
theorem tot_bd (x : Int) : 0 ≤ tot x ∧ tot x ≤ 70368744177664 := clamp_bd _ _ _ (by omega)
theorem bases_length (T : Int) (ws : List Int) : (bases T ws).length = ws.length := by simp [bases]
theorem rems_length (T : Int) (ws : List Int) : (rems T ws).length = ws.length := by simp [rems]
theorem bases_getD (T : Int) (ws : List Int) {k : Nat} (h : k < ws.length) : (bases T ws).getD k 0 = T * wt (ws.getD k 0) / wsum ws := by simp [bases, h]
theorem rems_getD (T : Int) (ws : List Int) {k : Nat} (h : k < ws.length) : (rems T ws).getD k 0 = T * wt (ws.getD k 0) % wsum ws := by simp [rems, h]
theorem sumL_step (l : List Int) (k : Nat) (h : k < l.length) : sumL (l.take (k + 1)) = sumL (l.take k) + l.getD k 0 := by
  unfold sumL
  rw [List.take_succ_eq_append_getElem h, List.sum_append]
  simp [h]
theorem sumL_cons (x : Int) (l : List Int) : sumL (x :: l) = x + sumL l := by simp [sumL]
theorem wsum_eq (ws : List Int) : wsum ws = sumL (ws.map wt) := rfl
theorem wsum_pos {ws : List Int} (h : wsum ws ≠ 0) : 1 ≤ wsum ws := by have := wsum_bd ws; omega

theorem base_part {T s : Int} (hT : 0 ≤ T) (hs : 1 ≤ s) (l : List Int) : 0 ≤ sumL (l.map fun x => T * wt x / s) ∧ s * sumL (l.map fun x => T * wt x / s) ≤ T * sumL (l.map wt) := by
  induction l with
  | nil => simp [sumL]
  | cons x r ih =>
    simp only [List.map_cons, sumL_cons]
    have h0 : 0 ≤ T * wt x := Int.mul_nonneg hT (wt_bd x).1
    have h1 : 0 ≤ T * wt x / s := Int.ediv_nonneg h0 (by omega)
    have h2 : s * (T * wt x / s) ≤ T * wt x := Int.mul_ediv_self_le (by omega)
    refine ⟨by omega, ?_⟩
    rw [Int.mul_add, Int.mul_add]
    omega
theorem sum_take_le (l : List Int) (f : Int → Int) (h : ∀ x, 0 ≤ f x) (k : Nat) : sumL ((l.take k).map f) ≤ sumL (l.map f) := by
  induction l generalizing k with
  | nil => simp [sumL]
  | cons x r ih =>
    cases k with
    | zero =>
      have h2 : ∀ l : List Int, 0 ≤ sumL (l.map f) := by
        intro l; induction l with
        | nil => simp [sumL]
        | cons y t ih => simp only [List.map_cons, sumL_cons]; have := h y; omega
      have := h2 (x :: r)
      simpa [sumL] using this
    | succ k =>
      simp only [List.take_succ_cons, List.map_cons, sumL_cons]
      have := ih k; omega
theorem bases_take {T : Int} {ws : List Int} (hT : 0 ≤ T) (hs : wsum ws ≠ 0) (k : Nat) : 0 ≤ sumL ((bases T ws).take k) ∧ sumL ((bases T ws).take k) ≤ T := by
  have hp := wsum_pos hs
  have h1 := base_part hT hp (ws.take k)
  have h2 := sum_take_le ws wt (fun x => (wt_bd x).1) k
  rw [← wsum_eq ws] at h2
  have h3 : (bases T ws).take k = (ws.take k).map fun x => T * wt x / wsum ws := by unfold bases; rw [List.map_take]
  rw [h3]
  refine ⟨h1.1, ?_⟩
  have h4 : T * sumL ((ws.take k).map wt) ≤ T * wsum ws := Int.mul_le_mul_of_nonneg_left h2 hT
  have h5 : wsum ws * sumL ((ws.take k).map fun x => T * wt x / wsum ws) ≤ wsum ws * T := by rw [Int.mul_comm (wsum ws) T]; omega
  exact Int.le_of_mul_le_mul_left h5 (by omega)
theorem left_bd {T : Int} {ws : List Int} (hT : 0 ≤ T) (hs : wsum ws ≠ 0) : 0 ≤ left_ T ws ∧ left_ T ws ≤ T := by
  have := bases_take hT hs ws.length
  rw [List.take_of_length_le (by rw [bases_length]; omega)] at this
  unfold left_; omega
/-- the remainders add up to what is left, times the sum -/
theorem rems_sum {T : Int} {ws : List Int} : sumL (rems T ws) = left_ T ws * wsum ws := by
  have h : ∀ (s : Int) (l : List Int), s * sumL (l.map fun x => T * wt x / s) + sumL (l.map fun x => T * wt x % s) = T * sumL (l.map wt) := by
    intro s l
    induction l with
    | nil => simp [sumL]
    | cons x r ih =>
      simp only [List.map_cons, sumL_cons]
      have := Int.mul_ediv_add_emod (T * wt x) s
      rw [Int.mul_add, Int.mul_add]
      omega
  have h1 := h (wsum ws) ws
  rw [← wsum_eq ws] at h1
  unfold left_ rems bases
  rw [Int.sub_mul, Int.mul_comm (sumL _) (wsum ws)]
  omega
/-- how many places have a remainder above 0 -/
def npos (l : List Int) : Nat := l.countP (fun x => decide (0 < x))
theorem sum_le_npos {s : Int} (hs : 1 ≤ s) (l : List Int) (h : ∀ x ∈ l, 0 ≤ x ∧ x < s) : sumL l ≤ (s - 1) * npos l := by
  induction l with
  | nil => simp [sumL, npos]
  | cons x r ih =>
    have h1 := h x (List.mem_cons_self ..)
    have h2 := ih (fun y hy => h y (List.mem_cons_of_mem _ hy))
    unfold npos at *
    rw [sumL_cons, List.countP_cons]
    by_cases hx : 0 < x
    · simp only [hx, decide_true, if_true]
      rw [show (((List.countP (fun x => decide (0 < x)) r + 1 : Nat)) : Int) = (List.countP (fun x => decide (0 < x)) r : Int) + 1 from by omega, Int.mul_add]
      omega
    · simp only [hx, decide_false]
      simp
      omega
theorem rems_bd {T : Int} {ws : List Int} (hs : wsum ws ≠ 0) : ∀ x ∈ rems T ws, 0 ≤ x ∧ x < wsum ws := by
  intro x hx
  have hp := wsum_pos hs
  unfold rems at hx
  rw [List.mem_map] at hx
  obtain ⟨y, _, rfl⟩ := hx
  exact ⟨Int.emod_nonneg _ (by omega), Int.emod_lt_of_pos _ (by omega)⟩
theorem left_npos {T : Int} {ws : List Int} (hT : 0 ≤ T) (hs : wsum ws ≠ 0) : left_ T ws = 0 ∨ left_ T ws < npos (rems T ws) := by
  have hp := wsum_pos hs
  have h1 := sum_le_npos hp (rems T ws) (rems_bd hs)
  rw [rems_sum] at h1
  have h2 := (left_bd hT hs).1
  by_cases h0 : left_ T ws = 0
  · exact .inl h0
  · right
    have hlt : (wsum ws - 1) * left_ T ws < (wsum ws - 1) * npos (rems T ws) + 1 := by
      rw [Int.sub_mul, Int.one_mul, Int.mul_comm (wsum ws)]; omega
    apply Int.not_le.1
    intro hle
    have h3 : (wsum ws - 1) * npos (rems T ws) ≤ (wsum ws - 1) * left_ T ws := Int.mul_le_mul_of_nonneg_left hle (by omega)
    have h4 : left_ T ws * wsum ws = (wsum ws - 1) * left_ T ws + left_ T ws := by rw [Int.sub_mul, Int.one_mul, Int.mul_comm (wsum ws)]; omega
    omega
theorem npos_le (l : List Int) : npos l ≤ l.length := List.countP_le_length
theorem left_le {T : Int} {ws : List Int} (hT : 0 ≤ T) (hs : wsum ws ≠ 0) : left_ T ws ≤ ws.length := by
  have h1 := left_npos hT hs
  have h2 := npos_le (rems T ws)
  rw [rems_length] at h2
  omega
end Go.Proofs.Fx
