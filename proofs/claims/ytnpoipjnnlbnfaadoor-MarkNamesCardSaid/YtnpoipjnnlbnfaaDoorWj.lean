/- How long a token's names may be. No program. No conditions. -/
import Derived.Test.YtnpoipjnnlbnfaaDoorWe
namespace Go.Proofs.YtnpoipjnnlbnfaaDoor
set_option linter.unusedVariables false
open Go.RowKit Go.Proofs.Fe Go.Proofs.Fm Go.Proofs.Fb Go.Proofs.Fk Go.Proofs.Fs Go.Proofs.Fc Go.Proofs.Fu

theorem small_len (ns : List Int) : (small ns).length ≤ 4 * ns.length := by
  unfold small
  have := encB_le (ns.map low)
  rwa [List.length_map] at this
theorem takeWhile_len {α : Type} (p : α → Bool) (l : List α) : (l.takeWhile p).length ≤ l.length := (List.takeWhile_prefix p).length_le
theorem attrAt_small (r : Int) (t : List Int) : (attrAt (r :: t)).1.1.length ≤ 4 * (t.length + 1) := by
  have h1 := small_len (r :: t.takeWhile inAttr)
  have h2 := takeWhile_len inAttr t
  rw [List.length_cons] at h1
  have h3 : (small (r :: t.takeWhile inAttr)).length ≤ 4 * (t.length + 1) := by omega
  simp only [attrAt]
  split
  · split
    · exact h3
    · exact h3
  · exact h3
theorem mem_add {l : List Att} {a b : Att} (h : b ∈ add l a) : b ∈ l ∨ b = a := by
  unfold add at h
  split at h
  · exact .inl h
  · split at h
    · exact .inl h
    · rcases List.mem_append.1 h with h | h
      · exact .inl h
      · exact .inr (List.mem_singleton.1 h)
theorem attrs_small (M : Nat) : ∀ (n : Nat) (l : List Int) (sl : Bool) (acc aa : List Att) (cl : Bool) (rest : List Int), l.length ≤ n → 4 * l.length ≤ M → (∀ a ∈ acc, a.1.length ≤ M) → attrs l sl acc = some (aa, cl, rest) → ∀ a ∈ aa, a.1.length ≤ M
  | 0, l, sl, acc, aa, cl, rest, hn, _, _, h => by
    have : l = [] := List.eq_nil_of_length_eq_zero (by omega)
    subst this; cases h
  | n + 1, l, sl, acc, aa, cl, rest, hn, hM, ha, h => by
    rcases l with _ | ⟨r, t⟩
    · cases h
    · simp only [List.length_cons] at hn hM
      by_cases h62 : r = 62
      · subst h62
        rw [attrs_end] at h
        injection h with h; injection h with h1 h2
        subst h1; exact ha
      · rcases hb : (Fk.blank r || r == 47) with _ | _
        · rw [attrs_attr t sl acc h62 hb] at h
          have h1 := attrAt_le r t
          refine attrs_small M n _ _ _ _ _ _ (by omega) (by omega) (fun a hx => ?_) h
          rcases mem_add hx with hx | hx
          · exact ha a hx
          · rw [hx]; have := attrAt_small r t; omega
        · rw [attrs_blank t sl acc h62 hb] at h
          exact attrs_small M n _ _ _ _ _ _ (by omega) (by omega) ha h
theorem tagAt_small {M : Nat} {l : List Int} {nm : Str} {aa : List Att} {cl : Bool} {rest : List Int} (hM : 4 * l.length ≤ M) (h : tagAt l = some (nm, aa, cl, rest)) : nm.length ≤ M ∧ ∀ a ∈ aa, a.1.length ≤ M := by
  unfold tagAt at h
  split at h
  · rename_i aa' cl' rest' ha
    injection h with h; injection h with h1 h; injection h with h2 h
    subst h1 h2
    have h1 := small_len (l.takeWhile inName)
    have h2 := takeWhile_len inName l
    have h3 := dropWhile_le inName l
    exact ⟨by omega, attrs_small M _ _ _ _ _ _ _ (Nat.le_refl _) (by omega) (by simp) ha⟩
  · cases h
def TokSmall (M : Nat) (x : Tok) : Prop := x.name.length ≤ M ∧ ∀ a ∈ x.attrs, a.1.length ≤ M
theorem tok_small (M : Nat) : ∀ (n : Nat) (l : List Int), l.length ≤ n → 4 * l.length ≤ M → ∀ x ∈ tok l, TokSmall M x
  | 0, l, hn, _ => by
    have : l = [] := List.eq_nil_of_length_eq_zero (by omega)
    subst this; simp [tok_nil]
  | n + 1, l, hn, hM => by
    rcases l with _ | ⟨r, t⟩
    · simp [tok_nil]
    · simp only [List.length_cons] at hn hM
      rcases hb : begins (r :: t) with _ | _
      · have h1 := chars_lt hb
        rw [tok_chars hb]
        intro x hx
        rcases List.mem_cons.1 hx with hx | hx
        · rw [hx]
          exact ⟨by simp, by simp⟩
        · exact tok_small M n _ (by omega) (by omega) x hx
      · rcases hl : headLetter t with _ | _
        · by_cases h47 : t.head? = some 47 ∧ headLetter (t.drop 1)
          · rcases ht : tagAt (t.drop 1) with _ | ⟨nm, aa, cl, rest⟩
            · rw [tok_close_none hb hl h47 ht]; simp
            · have h1 := tagAt_le ht
              rw [List.length_drop] at h1
              have h2 := tagAt_small (M := M) (by rw [List.length_drop]; omega) ht
              rw [tok_close hb hl h47 ht]
              intro x hx
              rcases List.mem_cons.1 hx with hx | hx
              · rw [hx]; exact ⟨h2.1, by simp⟩
              · exact tok_small M n _ (by omega) (by omega) x hx
          · by_cases hp : [60, 33, 45, 45] <+: r :: t
            · have h1 := behind_lt [45, 45, 62] (by simp) ((r :: t).drop 4)
              rw [List.length_drop, List.length_cons] at h1
              rw [tok_remark hb hl h47 hp]
              exact tok_small M n _ (by omega) (by omega)
            · have h1 := behind_lt [62] (by simp) (r :: t)
              rw [List.length_cons] at h1
              rw [tok_other hb hl h47 hp]
              exact tok_small M n _ (by omega) (by omega)
        · rcases ht : tagAt t with _ | ⟨nm, aa, cl, rest⟩
          · rw [tok_open_none hb hl ht]; simp
          · have h1 := tagAt_le ht
            have h2 := tagAt_small (M := M) (by omega) ht
            by_cases hn2 : nm = sStyle ∨ nm = sScript
            · have h3 := raw_le nm rest
              rw [tok_raw hb hl ht hn2]
              intro x hx
              rcases List.mem_cons.1 hx with hx | hx
              · rw [hx]; exact h2
              · rcases List.mem_append.1 hx with hx | hx
                · split at hx
                  · simp at hx
                  · rw [List.mem_singleton.1 hx]
                    exact ⟨by simp, by simp⟩
                · exact tok_small M n _ (by omega) (by omega) x hx
            · rw [tok_open hb hl ht hn2]
              intro x hx
              rcases List.mem_cons.1 hx with hx | hx
              · rw [hx]; exact h2
              · exact tok_small M n _ (by omega) (by omega) x hx
end Go.Proofs.YtnpoipjnnlbnfaaDoor
