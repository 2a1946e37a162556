/- Plain facts: chapter 7's escapes, on bytes and on runes. No walk. No conditions. -/
import Derived.Test.YtdogcnmepaemjaaDoorUl
namespace Go.Proofs.Fr
set_option linter.unusedVariables false
open Go.Lib Go.Proofs.Fu Go.Proofs.Fe Go.Proofs.Fk

/-- what stands for a rune; nothing: the rune itself -/
def escOf (q : Bool) (r : Int) : Str :=
  if r = 38 then [38, 97, 109, 112, 59] else if r = 60 then [38, 108, 116, 59] else if r = 62 then [38, 103, 116, 59] else if r = 160 then [38, 110, 98, 115, 112, 59] else if r = 13 then [38, 35, 49, 51, 59] else if r = 34 ∧ q = true then [38, 113, 117, 111, 116, 59] else []
theorem escOf_le (q : Bool) (r : Int) : (escOf q r).length ≤ 6 := by
  unfold escOf; repeat' split
  all_goals simp
theorem escOf_rune {q : Bool} {r : Int} (h : escOf q r ≠ []) : r = 38 ∨ r = 60 ∨ r = 62 ∨ r = 160 ∨ r = 13 ∨ r = 34 := by
  unfold escOf at h
  by_cases h1 : r = 38; · exact .inl h1
  by_cases h2 : r = 60; · exact .inr (.inl h2)
  by_cases h3 : r = 62; · exact .inr (.inr (.inl h3))
  by_cases h4 : r = 160; · exact .inr (.inr (.inr (.inl h4)))
  by_cases h5 : r = 13; · exact .inr (.inr (.inr (.inr (.inl h5))))
  by_cases h6 : r = 34; · exact .inr (.inr (.inr (.inr (.inr h6))))
  rw [if_neg h1, if_neg h2, if_neg h3, if_neg h4, if_neg h5, if_neg (fun c => h6 c.1)] at h
  exact absurd rfl h
/-- a text escaped, by at most so many steps -/
def escF (q : Bool) : Nat → Str → Str
  | 0, _ => []
  | f + 1, l => if l = [] then [] else (if escOf q (decodeL l).1 = [] then l.take (decodeL l).2 else escOf q (decodeL l).1) ++ escF q f (l.drop (decodeL l).2)
def escS (q : Bool) (l : Str) : Str := escF q l.length l
theorem escF_nil (q : Bool) (f : Nat) : escF q f [] = [] := by cases f <;> simp [escF]
theorem escF_fuel (q : Bool) : ∀ (n m : Nat) (l : Str), l.length ≤ n → l.length ≤ m → escF q n l = escF q m l
  | 0, m, l, hn, _ => by
    have : l = [] := List.eq_nil_of_length_eq_zero (by omega)
    subst this; rw [escF_nil, escF_nil]
  | n + 1, 0, l, _, hm => by
    have : l = [] := List.eq_nil_of_length_eq_zero (by omega)
    subst this; rw [escF_nil, escF_nil]
  | n + 1, m + 1, l, hn, hm => by
    by_cases hne : l = []
    · subst hne; rw [escF_nil, escF_nil]
    · have hw := decodeL_width l
      have hl : 0 < l.length := List.length_pos_iff.2 hne
      simp only [escF, if_neg hne]
      rw [escF_fuel q n m _ (by rw [List.length_drop]; omega) (by rw [List.length_drop]; omega)]
theorem escS_nil (q : Bool) : escS q [] = [] := rfl
theorem escS_step (q : Bool) {l : Str} (hne : l ≠ []) : escS q l = (if escOf q (decodeL l).1 = [] then l.take (decodeL l).2 else escOf q (decodeL l).1) ++ escS q (l.drop (decodeL l).2) := by
  have hw := decodeL_width l
  have hl : 0 < l.length := List.length_pos_iff.2 hne
  unfold escS
  obtain ⟨n, hn⟩ : ∃ n, l.length = n + 1 := ⟨l.length - 1, by omega⟩
  rw [hn]
  simp only [escF, if_neg hne]
  rw [escF_fuel q n _ _ (by rw [List.length_drop]; omega) (Nat.le_refl _)]
theorem escS_le (q : Bool) : ∀ (n : Nat) (l : Str), l.length ≤ n → (escS q l).length ≤ 6 * l.length
  | 0, l, hn => by
    have : l = [] := List.eq_nil_of_length_eq_zero (by omega)
    subst this; simp [escS_nil]
  | n + 1, l, hn => by
    by_cases hne : l = []
    · subst hne; simp [escS_nil]
    · have hw := decodeL_width l
      have hx := decodeL_le l hne
      have hl : 0 < l.length := List.length_pos_iff.2 hne
      have h1 := escS_le q n (l.drop (decodeL l).2) (by rw [List.length_drop]; omega)
      rw [List.length_drop] at h1
      rw [escS_step q hne, List.length_append]
      have h2 : (if escOf q (decodeL l).1 = [] then l.take (decodeL l).2 else escOf q (decodeL l).1).length ≤ 6 * (decodeL l).2 := by
        split
        · rw [List.length_take]; omega
        · have := escOf_le q (decodeL l).1; omega
      omega
/-- the same by runes -/
def escRs (q : Bool) (ns : List Int) : Str := (ns.map fun r => if escOf q r = [] then encodeRune r else escOf q r).flatten
theorem escRs_nil (q : Bool) : escRs q [] = [] := rfl
theorem escRs_cons (q : Bool) (r : Int) (t : List Int) : escRs q (r :: t) = (if escOf q r = [] then encodeRune r else escOf q r) ++ escRs q t := by simp [escRs]
theorem escRs_append (q : Bool) (a b : List Int) : escRs q (a ++ b) = escRs q a ++ escRs q b := by simp [escRs]
theorem encRune_le (r : Int) : 1 ≤ (encodeRune r).length ∧ (encodeRune r).length ≤ 4 := by
  have h1 := Lib.runeCells_le r
  rw [Lib.runeCells_length] at h1
  have h2 := List.length_pos_iff.2 (encode_ne r)
  omega
theorem escRs_le (q : Bool) : ∀ ns : List Int, (escRs q ns).length ≤ 6 * ns.length
  | [] => by simp [escRs]
  | r :: t => by
    have h1 := escRs_le q t
    have h2 := (encRune_le r).2
    have h3 := escOf_le q r
    rw [escRs_cons, List.length_append, List.length_cons]
    split <;> omega
/-- what is decoded is written in no fewer bytes -/
theorem enc_ge {l : Str} (hne : l ≠ []) : (decodeL l).2 ≤ (encodeRune ((decodeL l).1 : Int)).length := by
  by_cases hv : (decodeL l).1 = 65533 ∧ (decodeL l).2 = 1
  · rw [hv.2]; exact List.length_pos_iff.2 (encode_ne _)
  · rw [encode_decode l hne hv, List.length_take]
    have := decodeL_le l hne
    omega
theorem runesI_step {l : Str} (hne : l ≠ []) : runesI l = ((decodeL l).1 : Int) :: runesI (l.drop (decodeL l).2) := by
  unfold runesI; rw [runesB_step l hne]; rfl
theorem back_ge : ∀ (n : Nat) (l : Str), l.length ≤ n → l.length ≤ (encB (runesI l)).length
  | 0, l, hn => by omega
  | n + 1, l, hn => by
    by_cases hne : l = []
    · subst hne; simp
    · have hw := decodeL_width l
      have hl : 0 < l.length := List.length_pos_iff.2 hne
      have h1 := back_ge n (l.drop (decodeL l).2) (by rw [List.length_drop]; omega)
      have h2 := enc_ge hne
      rw [List.length_drop] at h1
      rw [runesI_step hne, encB_cons, List.length_append]
      omega
/-- of a text that is its runes', each rune is its bytes -/
theorem back_step {l : Str} (hne : l ≠ []) (h : encB (runesI l) = l) : encodeRune ((decodeL l).1 : Int) = l.take (decodeL l).2 ∧ encB (runesI (l.drop (decodeL l).2)) = l.drop (decodeL l).2 := by
  have hx := decodeL_le l hne
  have h1 := back_ge _ (l.drop (decodeL l).2) (Nat.le_refl _)
  have h2 := enc_ge hne
  rw [runesI_step hne, encB_cons] at h
  have h3 := congrArg List.length h
  rw [List.length_append] at h3
  rw [List.length_drop] at h1
  have h4 : (encodeRune ((decodeL l).1 : Int)).length = (l.take (decodeL l).2).length := by rw [List.length_take]; omega
  exact List.append_inj (h.trans (List.take_append_drop (decodeL l).2 l).symm) h4
theorem escS_runes (q : Bool) : ∀ (n : Nat) (l : Str), l.length ≤ n → encB (runesI l) = l → escS q l = escRs q (runesI l)
  | 0, l, hn, _ => by
    have : l = [] := List.eq_nil_of_length_eq_zero (by omega)
    subst this; rfl
  | n + 1, l, hn, h => by
    by_cases hne : l = []
    · subst hne; rfl
    · have hw := decodeL_width l
      have hl : 0 < l.length := List.length_pos_iff.2 hne
      obtain ⟨h1, h2⟩ := back_step hne h
      rw [escS_step q hne, runesI_step hne, escRs_cons, escS_runes q n _ (by rw [List.length_drop]; omega) h2, h1]
theorem rune_width {l : Str} {q : Bool} (h : escOf q (decodeL l).1 ≠ []) : runeLen ((decodeL l).1 : Int) = ((decodeL l).2 : Int) :=
  runeLen_decode l (by have := escOf_rune h; omega)
end Go.Proofs.Fr
