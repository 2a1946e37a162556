/- Plain facts for the walks of layer 4: a text cut at '&', names made small, what stands ahead, lists read step by step. No walk. No conditions. -/
import Derived.Test.YtnpoipjnnlbnfaaDoorUn
import Derived.Lib.CutLaws
import Derived.Lib.MapLaws
namespace Go.Proofs.Fk
set_option linter.unusedVariables false
open Go.Lib Go.Proofs.Fu Go.Proofs.Fe

/-! ### a text cut at '&' -/
theorem index_and : ∀ l : List UInt8, (index l [38] = -1 ∧ ∀ c ∈ l, c ≠ 38) ∨ ∃ a t, l = a ++ 38 :: t ∧ (∀ c ∈ a, c ≠ 38) ∧ index l [38] = (a.length : Int)
  | [] => .inl ⟨rfl, by simp⟩
  | b :: l => by
    by_cases hb : b = 38
    · subst hb
      exact .inr ⟨[], l, rfl, by simp, by simp [index, List.isPrefixOf]⟩
    · have hp : List.isPrefixOf [38] (b :: l) = false := by
        simp only [List.isPrefixOf, Bool.and_true]
        exact beq_eq_false_iff_ne.2 (Ne.symm hb)
      rcases index_and l with ⟨h1, h2⟩ | ⟨a, t, rfl, h2, h3⟩
      · left
        refine ⟨by simp [index, hp, h1], ?_⟩
        intro c hc
        rcases List.mem_cons.1 hc with h | h
        · exact h ▸ hb
        · exact h2 c h
      · right
        refine ⟨b :: a, t, rfl, ?_, ?_⟩
        · intro c hc
          rcases List.mem_cons.1 hc with h | h
          · exact h ▸ hb
          · exact h2 c h
        · simp only [index, hp, h3, Bool.false_eq_true, if_false]
          rw [if_neg (by simp)]
          simp
theorem cut_and (l : List UInt8) : (Lib.cut l [38] = (l, [], false) ∧ ∀ c ∈ l, c ≠ 38) ∨ ∃ a t, l = a ++ 38 :: t ∧ (∀ c ∈ a, c ≠ 38) ∧ Lib.cut l [38] = (a, t, true) := by
  rcases index_and l with ⟨h1, h2⟩ | ⟨a, t, h0, h2, h3⟩
  · left
    refine ⟨?_, h2⟩
    unfold Lib.cut
    rw [h1, if_neg (by omega)]
  · right
    refine ⟨a, t, h0, h2, ?_⟩
    unfold Lib.cut
    rw [h3, if_pos (by omega), h0]
    simp [← List.drop_drop]

/-! ### names made small -/
theorem mapD_enc (f : Int → Int) (hf : ∀ r : Nat, 0 ≤ f r) (l : List UInt8) : mapD f l = encB ((runesB l).map fun r : Nat => f r) := by
  obtain ⟨n, hn⟩ : ∃ n, l.length ≤ n := ⟨_, Nat.le_refl _⟩
  induction n generalizing l with
  | zero =>
    have : l = [] := List.eq_nil_of_length_eq_zero (by omega)
    subst this; rfl
  | succ n ih =>
    by_cases hne : l = []
    · subst hne; rfl
    · have hw := decodeL_width l
      have hl : 0 < l.length := List.length_pos_iff.2 hne
      rw [mapD_step f l hne, if_pos (hf _), runesB_step l hne, List.map_cons, encB_cons, ih (l.drop (decodeL l).2) (by rw [List.length_drop]; omega)]
theorem low_fix (r : Int) : encodeRune (low (fix r : Nat)) = encodeRune (low r) := by
  by_cases h : (0 ≤ r ∧ r < 55296) ∨ (57343 < r ∧ r ≤ 1114111)
  · have : ((fix r : Nat) : Int) = r := by unfold fix; rw [if_pos h]; omega
    rw [this]
  · have e1 : fix r = 65533 := by unfold fix; rw [if_neg h]
    have e2 : low r = r := by unfold low; rw [if_neg (by omega)]
    have e3 : low ((65533 : Nat) : Int) = ((65533 : Nat) : Int) := by decide
    rw [e1, e2, e3, encode_fix r, e1]
theorem low_nat (r : Nat) : 0 ≤ low r := by unfold low; split <;> omega
theorem small_map (ns : List Int) : mapD low (encB ns) = small ns := by
  rw [mapD_enc low low_nat, runes_enc, List.map_map, small]
  induction ns with
  | nil => rfl
  | cons r t ih =>
    rw [List.map_cons, List.map_cons, encB_cons, encB_cons]
    show encodeRune (low (fix r : Nat)) ++ _ = _
    rw [low_fix r]
    exact congrArg _ ih
theorem small_cons (r : Int) (t : List Int) : mapD low (encodeRune r ++ encB t) = small (r :: t) := by rw [← encB_cons, small_map]

/-! ### what stands ahead -/
theorem drop_cons {xs : List Int} {k : Nat} (h : k < xs.length) : xs.drop k = xs.getD k 0 :: xs.drop (k + 1) := by
  rw [List.drop_eq_getElem_cons h]; simp [h]
theorem drop_getD (xs : List Int) (k i : Nat) : (xs.drop k).getD i 0 = xs.getD (k + i) 0 := by
  simp [List.getD_eq_getElem?_getD]
theorem prefix_iff : ∀ (p L : List Int), (∀ x ∈ p, x ≠ 0) → (p <+: L ↔ ∀ i, i < p.length → L.getD i 0 = p.getD i 0)
  | [], L, _ => by simp
  | a :: p, [], h => by
    simp only [List.prefix_nil, reduceCtorEq, false_iff]
    intro hc
    have := hc 0 (by simp)
    simp at this
    exact h a (by simp) this.symm
  | a :: p, b :: L, h => by
    rw [List.cons_prefix_cons, prefix_iff p L (fun x hx => h x (by simp [hx]))]
    constructor
    · rintro ⟨rfl, h2⟩ i hi
      rcases i with _ | i
      · simp
      · have := h2 i (by simpa using hi)
        simpa using this
    · intro hc
      refine ⟨?_, fun i hi => ?_⟩
      · have := hc 0 (by simp)
        simpa using this.symm
      · have := hc (i + 1) (by simpa using hi)
        simpa using this
theorem prefix_no {p L : List Int} (h0 : ∀ x ∈ p, x ≠ 0) {i : Nat} (hi : i < p.length) (hne : L.getD i 0 ≠ p.getD i 0) : ¬ (p <+: L) := fun h => hne ((prefix_iff p L h0).1 h i hi)

/-- what begins here: 0 nothing, 1 chars, 2 an open tag, 3 a close tag, 4 a remark, 5 what else is gone over -/
def kindAt (l : List Int) : Int :=
  if l = [] then 0
  else if begins l = false then 1
  else if headLetter (l.drop 1) then 2
  else if (l.drop 1).head? = some 47 ∧ headLetter (l.drop 2) then 3
  else if [60, 33, 45, 45] <+: l then 4 else 5

/-! ### lists read step by step -/
theorem tw_yes {p : Int → Bool} {r : Int} {t : List Int} (h : p r = true) : (r :: t).takeWhile p = r :: t.takeWhile p ∧ (r :: t).dropWhile p = t.dropWhile p := by simp [h]
theorem tw_no {p : Int → Bool} {r : Int} {t : List Int} (h : p r = false) : (r :: t).takeWhile p = [] ∧ (r :: t).dropWhile p = r :: t := by simp [h]

/-! ### no text grows -/
theorem enc_le (r : Int) : 1 ≤ (encodeRune r).length ∧ (encodeRune r).length ≤ 4 := by
  unfold encodeRune
  rw [List.length_map]
  exact encodeRuneZ_length r
theorem encB_le (l : List Int) : (encB l).length ≤ 4 * l.length := by
  induction l with
  | nil => simp [encB]
  | cons r t ih =>
    rw [encB_cons, List.length_append, List.length_cons]
    have := (enc_le r).2
    omega
theorem numRef_le {base pre : Nat} {t x : List UInt8} {k : Nat} (hp : 2 ≤ pre) (h : numRef base pre t = some (x, k)) : x.length ≤ k := by
  simp only [numRef] at h
  split at h
  · cases h
  · rename_i hc
    injection h with h
    injection h with h1 h2
    have h3 : 1 ≤ (t.takeWhile (isDig base)).length := by
      rcases hd : t.takeWhile (isDig base) with _ | ⟨a, b⟩
      · exact absurd (Or.inl hd) hc
      · simp
    have := (enc_le (runeNum (numOf base (t.takeWhile (isDig base))) : Nat)).2
    rw [← h1, ← h2]
    omega
theorem refAt_len {s x : List UInt8} {k : Nat} (h : refAt s = some (x, k)) : x.length ≤ k := by
  unfold refAt at h
  have go : ∀ (y : List UInt8) (m : Nat), y.length ≤ m → (some (y, m) : Option (List UInt8 × Nat)) = some (x, k) → x.length ≤ k := by
    intro y m hm e
    injection e with e; injection e with e1 e2
    subst e1 e2; exact hm
  split at h
  · exact go _ _ (by simp) h
  · split at h
    · exact go _ _ (by simp) h
    · split at h
      · exact go _ _ (by simp) h
      · split at h
        · exact go _ _ (by simp) h
        · split at h
          · exact go _ _ (by simp) h
          · split at h
            · exact go _ _ (by simp) h
            · split at h
              · split at h
                · split at h
                  · split at h
                    · exact numRef_le (by omega) h
                    · exact numRef_le (by omega) h
                  · cases h
                · cases h
              · cases h
theorem unesc_le : ∀ (n : Nat) (l : List UInt8), l.length ≤ n → (unesc l).length ≤ l.length
  | 0, l, h => by
    have : l = [] := List.eq_nil_of_length_eq_zero (by omega)
    subst this; simp [unesc_nil]
  | n + 1, [], _ => by simp [unesc_nil]
  | n + 1, c :: t, h => by
    simp only [List.length_cons] at h
    by_cases hc : c = 38
    · subst hc
      rcases hr : refAt (38 :: t) with _ | ⟨x, k⟩
      · rw [unesc_none hr]
        have := unesc_le n t (by omega)
        simp only [List.length_cons]; omega
      · have h1 := refAt_pos hr
        have h2 := refAt_len hr
        rw [unesc_ref hr rfl, List.length_append]
        have := unesc_le n ((38 :: t).drop k) (by rw [List.length_drop, List.length_cons]; omega)
        rw [List.length_drop] at this
        omega
    · rw [unesc_plain _ _ hc]
      have := unesc_le n t (by omega)
      simp only [List.length_cons]; omega
end Go.Proofs.Fk
