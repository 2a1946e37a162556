/- Plain mathematics: what is left of the remainders when the first places of the order are taken out. No Go in it, no conditions. -/
import Derived.Test.YtkidhjfoapdgjaaOrd
namespace Go.Proofs.Fo
set_option linter.unusedVariables false

def marks (r : List Int) (t : Nat) : List Int := (List.range r.length).map (fun i => if rank r i < t then -1 else r.getD i 0)
theorem marks_length (r : List Int) (t : Nat) : (marks r t).length = r.length := by simp [marks]
theorem marks_getD (r : List Int) (t : Nat) {i : Nat} (hi : i < r.length) : (marks r t).getD i 0 = if rank r i < t then -1 else r.getD i 0 := by
  simp [marks, hi]
theorem marks_zero (r : List Int) : marks r 0 = r := by
  apply List.ext_getElem
  · simp [marks]
  · intro i h1 h2; simp [marks, h2]
theorem marks_step {r : List Int} {t i : Nat} (hi : i < r.length) (hr : rank r i = t) : marks r (t + 1) = (marks r t).set i (-1) := by
  apply List.ext_getElem
  · simp [marks]
  · intro j h1 h2
    have hj : j < r.length := by simpa [marks] using h1
    rw [List.getElem_set]
    by_cases e : i = j
    · subst e; simp [marks, hr]
    · have hne : rank r j ≠ t := fun h => e (rank_inj hi hj (hr.trans h.symm))
      rw [if_neg e]
      simp only [marks, List.getElem_map, List.getElem_range]
      by_cases h : rank r j < t
      · rw [if_pos h, if_pos (by omega)]
      · rw [if_neg h, if_neg (by omega)]
/-- the place found by going through all is the next of the order -/
theorem marks_best {r : List Int} {t b : Nat} (ht : t < r.length) (hpos : ∀ i, i < r.length → 0 ≤ r.getD i 0) (hb : b < r.length)
    (hmax : ∀ j, j < r.length → (marks r t).getD j 0 ≤ (marks r t).getD b 0) (hfirst : ∀ j, j < b → (marks r t).getD j 0 < (marks r t).getD b 0) : rank r b = t :=
  best_rank ht hpos (fun i hi => marks_getD r t hi) hb hmax hfirst

/-- the best of the first i places -/
def BestOf (q : List Int) (b i : Nat) : Prop := b < i ∧ (∀ j, j < i → q.getD j 0 ≤ q.getD b 0) ∧ (∀ j, j < b → q.getD j 0 < q.getD b 0)
theorem BestOf.one (q : List Int) : BestOf q 0 1 := ⟨by omega, fun j hj => by rw [show j = 0 from by omega]; omega, fun j hj => by omega⟩
theorem BestOf.more {q : List Int} {b i : Nat} (h : BestOf q b i) (hv : q.getD b 0 < q.getD i 0) : BestOf q i (i + 1) :=
  ⟨by omega, fun j hj => by
    rcases Nat.lt_or_ge j i with hji | hji
    · have := h.2.1 j hji; omega
    · rw [show j = i from by omega]; omega, fun j hj => by have := h.2.1 j hj; omega⟩
theorem BestOf.same {q : List Int} {b i : Nat} (h : BestOf q b i) (hv : q.getD i 0 ≤ q.getD b 0) : BestOf q b (i + 1) :=
  ⟨by have := h.1; omega, fun j hj => by
    rcases Nat.lt_or_ge j i with hji | hji
    · exact h.2.1 j hji
    · rw [show j = i from by omega]; exact hv, h.2.2⟩
theorem BestOf.rank_ {r : List Int} {t b : Nat} (h : BestOf (marks r t) b r.length) (ht : t < r.length) (hpos : ∀ i, i < r.length → 0 ≤ r.getD i 0) : rank r b = t :=
  marks_best ht hpos h.1 h.2.1 h.2.2
end Go.Proofs.Fo
