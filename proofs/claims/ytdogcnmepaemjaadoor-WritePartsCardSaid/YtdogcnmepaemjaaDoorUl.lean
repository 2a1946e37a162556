/- Plain facts on tokens: what joins, what is plain, what names are. No walk. No conditions. -/
import Derived.Test.YtdogcnmepaemjaaDoorUk
namespace Go.Proofs.Fk
set_option linter.unusedVariables false
open Go.Lib Go.Proofs.Fu Go.Proofs.Fe

/-! ### markup behind a whole tag -/
theorem tag_i (c : Int) (t : List Int) (hc : inName c = true) : tagAt (c :: 62 :: t) = some (small [c], [], false, t) := by
  have h62 : inName 62 = false := by decide
  have e1 : (c :: 62 :: t).takeWhile inName = [c] := by simp [hc, h62]
  have e2 : (c :: 62 :: t).dropWhile inName = 62 :: t := by simp [hc, h62]
  unfold tagAt
  rw [e1, e2, attrs_end]
theorem tok_joins (t : List Int) : tok (60 :: 105 :: 62 :: t) = ⟨2, [105], [], [], false⟩ :: tok t := by
  have h := tag_i 105 t (by decide)
  have e : small [105] = [105] := by decide
  rw [e] at h
  exact tok_open (by simp [begins]; decide) (by show letter 105 = true; decide) h (by decide)

/-! ### plain texts -/
theorem begins_not {r : Int} {t : List Int} (h : r ≠ 60) : begins (r :: t) = false := by
  rcases t with _ | ⟨a, t⟩
  · rfl
  · simp [begins, h]
theorem chars_begins {l : List Int} (h : begins l = true) : chars l = ([], l) := by
  rcases l with _ | ⟨r, t⟩
  · cases h
  · rw [chars, if_pos h]
theorem chars_plain : ∀ (ns rest : List Int), (∀ r ∈ ns, r ≠ 60) → (rest = [] ∨ begins rest = true) → chars (ns ++ rest) = (ns, rest)
  | [], rest, _, hr => by
    rcases hr with h | h
    · subst h; rfl
    · exact chars_begins h
  | r :: t, rest, h, hr => by
    have := chars_plain t rest (fun x hx => h x (by simp [hx])) hr
    rw [List.cons_append, chars, if_neg (by rw [begins_not (h r (by simp))]; simp), this]
theorem tok_text (ns rest : List Int) (hne : ns ≠ []) (h : ∀ r ∈ ns, r ≠ 60) (hr : rest = [] ∨ begins rest = true) : tok (ns ++ rest) = ⟨1, [], unesc (encB ns), [], false⟩ :: tok rest := by
  have hc := chars_plain ns rest h hr
  rcases ns with _ | ⟨r, t⟩
  · exact absurd rfl hne
  · rw [List.cons_append] at hc ⊢
    rw [tok_chars (begins_not (h r (by simp))), hc]
/-- numbers of a text's runes -/
def runesI (s : List UInt8) : List Int := (runesB s).map fun r : Nat => (r : Int)
theorem enc_no38 (ns : List Int) (h : ∀ r ∈ ns, r ≠ 38) : ∀ c ∈ encB ns, c ≠ 38 := by
  intro c hc
  unfold encB at hc
  obtain ⟨l, hl, hcl⟩ := List.mem_flatten.1 hc
  obtain ⟨r, hr, rfl⟩ := List.mem_map.1 hl
  exact enc_not r 38 (by decide) (h r hr) c hcl
theorem plain_enc {s : List UInt8} (h : ∀ r ∈ runesB s, r ≠ 60 ∧ r ≠ 38 ∧ r ≠ 65533) : encB (runesI s) = s := enc_runes s (fun r hr => (h r hr).2.2)
theorem plain_unesc {s : List UInt8} (h : ∀ r ∈ runesB s, r ≠ 60 ∧ r ≠ 38 ∧ r ≠ 65533) : unesc s = s := by
  have he := plain_enc h
  have h2 : ∀ c ∈ encB (runesI s), c ≠ 38 := enc_no38 _ (by
    intro r hr e
    obtain ⟨x, hx, rfl⟩ := List.mem_map.1 hr
    have := (h x hx).2.1
    omega)
  rw [he] at h2
  exact unesc_same s h2
theorem runesI_no60 {s : List UInt8} (h : ∀ r ∈ runesB s, r ≠ 60 ∧ r ≠ 38 ∧ r ≠ 65533) : ∀ r ∈ runesI s, r ≠ 60 := by
  intro r hr e
  obtain ⟨x, hx, rfl⟩ := List.mem_map.1 hr
  have := (h x hx).1
  omega
theorem runesB_ne {s : List UInt8} (h : s ≠ []) : runesB s ≠ [] := by rw [runesB_step s h]; simp
theorem runesI_ne {s : List UInt8} (h : s ≠ []) : runesI s ≠ [] := by
  unfold runesI; intro e; exact runesB_ne h (List.map_eq_nil_iff.1 e)
theorem tok_plain {s : List UInt8} (hs : s ≠ []) (h : ∀ r ∈ runesB s, r ≠ 60 ∧ r ≠ 38 ∧ r ≠ 65533) : tok (runesI s) = [⟨1, [], s, [], false⟩] := by
  have := tok_text (runesI s) [] (runesI_ne hs) (runesI_no60 h) (.inl rfl)
  rw [List.append_nil, tok_nil, plain_enc h, plain_unesc h] at this
  exact this
theorem runesI_app (ns : List Int) (s : List UInt8) (hv : ∀ r ∈ ns, (fix r : Int) = r) : runesI (encB ns ++ s) = ns ++ runesI s := by
  unfold runesI
  rw [runes_two, List.map_append, List.map_map]
  congr 1
  conv => rhs; rw [← List.map_id ns]
  exact List.map_congr_left (fun x hx => hv x hx)
theorem plain_fix {s : List UInt8} : ∀ r ∈ runesI s, (fix r : Int) = r := by
  intro r hr
  obtain ⟨x, hx, rfl⟩ := List.mem_map.1 hr
  rw [fix_of (runesB_valid s x hx)]
theorem tok_bold {s : List UInt8} (hs : s ≠ []) (h : ∀ r ∈ runesB s, r ≠ 60 ∧ r ≠ 38 ∧ r ≠ 65533) :
    tok (runesI ([60, 98, 62] ++ s ++ [60, 47, 98, 62])) = [⟨2, [98], [], [], false⟩, ⟨1, [], s, [], false⟩, ⟨3, [98], [], [], false⟩] := by
  have e1 : ([60, 98, 62] : List UInt8) = encB [60, 98, 62] := by decide
  have e2 : runesI ([60, 98, 62] ++ s ++ [60, 47, 98, 62]) = 60 :: 98 :: 62 :: (runesI s ++ [60, 47, 98, 62]) := by
    rw [List.append_assoc, e1, runesI_app _ _ (by decide)]
    have e3 : s ++ [60, 47, 98, 62] = encB (runesI s) ++ [60, 47, 98, 62] := by rw [plain_enc h]
    rw [e3, runesI_app _ _ plain_fix]
    have e4 : runesI [60, 47, 98, 62] = [60, 47, 98, 62] := by decide
    rw [e4]; rfl
  have h1 := tag_i 98 (runesI s ++ [60, 47, 98, 62]) (by decide)
  have e5 : small [98] = [98] := by decide
  rw [e5] at h1
  rw [e2, tok_open (by simp [begins]; decide) (by show letter 98 = true; decide) h1 (by decide), tok_text _ _ (runesI_ne hs) (runesI_no60 h) (.inr (by decide)), plain_enc h, plain_unesc h]
  have h2 := tag_i 98 [] (by decide)
  rw [e5] at h2
  rw [tok_close (r := 60) (t := [47, 98, 62]) (by decide) (by decide) (by decide) h2]
  rfl

/-! ### names -/
def Named (x : Str) : Prop := ∃ ns : List Int, x = small ns
theorem low_not (r : Int) : ¬ (65 ≤ low r ∧ low r ≤ 90) := by unfold low; split <;> omega
theorem named_runes {x y : Str} (hx : Named x) (hy : Named y) : ∀ r ∈ runesB (x ++ y), ¬ (65 ≤ r ∧ r ≤ 90) := by
  obtain ⟨a, rfl⟩ := hx
  obtain ⟨b, rfl⟩ := hy
  unfold small
  rw [← encB_append, runes_enc]
  intro r hr
  obtain ⟨z, hz, rfl⟩ := List.mem_map.1 hr
  have hz2 : ∃ q, low q = z := by
    rcases List.mem_append.1 hz with h | h
    · obtain ⟨q, _, h⟩ := List.mem_map.1 h; exact ⟨q, h⟩
    · obtain ⟨q, _, h⟩ := List.mem_map.1 h; exact ⟨q, h⟩
  obtain ⟨q, rfl⟩ := hz2
  have := low_not q
  unfold fix
  split <;> omega
theorem small_ne {l : List Int} (h : l ≠ []) : small l ≠ [] := by
  rcases l with _ | ⟨r, t⟩
  · exact absurd rfl h
  · unfold small
    rw [List.map_cons, encB_cons]
    simp [encode_ne]
structure AttrsOk (l : List Att) : Prop where
  le : l.length ≤ 64
  named : ∀ a ∈ l, Named a.1
  apart : l.Pairwise (fun a b => a.1 ≠ b.1)
theorem attrsOk_nil : AttrsOk [] := ⟨by simp, by simp, List.Pairwise.nil⟩
theorem attrsOk_add {l : List Att} {a : Att} (h : AttrsOk l) (ha : Named a.1) : AttrsOk (add l a) := by
  unfold add
  split
  · exact h
  · split
    · exact h
    · rename_i h1 h2
      refine ⟨by simp; omega, ?_, ?_⟩
      · intro b hb
        rcases List.mem_append.1 hb with hb | hb
        · exact h.named b hb
        · rw [List.mem_singleton.1 hb]; exact ha
      · rw [List.pairwise_append]
        refine ⟨h.apart, by simp, fun b hb c hc => ?_⟩
        rw [List.mem_singleton.1 hc]
        intro e
        apply h1
        rw [List.any_eq_true]
        exact ⟨b, hb, by simp [e]⟩
theorem attrAt_named (r : Int) (t : List Int) : Named (attrAt (r :: t)).1.1 := by
  simp only [attrAt]
  split
  · split
    · exact ⟨_, rfl⟩
    · exact ⟨_, rfl⟩
  · exact ⟨_, rfl⟩
theorem attrs_ok : ∀ (n : Nat) (l : List Int) (sl : Bool) (acc as : List Att) (cl : Bool) (rest : List Int), l.length ≤ n → AttrsOk acc → attrs l sl acc = some (as, cl, rest) → AttrsOk as
  | 0, l, sl, acc, as, cl, rest, hn, _, h => by
    have : l = [] := List.eq_nil_of_length_eq_zero (by omega)
    subst this; cases h
  | n + 1, l, sl, acc, as, cl, rest, hn, ha, h => by
    rcases l with _ | ⟨r, t⟩
    · cases h
    · simp only [List.length_cons] at hn
      by_cases h62 : r = 62
      · subst h62
        rw [attrs_end] at h
        injection h with h; injection h with h1 h2
        subst h1; exact ha
      · rcases hb : (blank r || r == 47) with _ | _
        · rw [attrs_attr t sl acc h62 hb] at h
          have h1 := attrAt_le r t
          exact attrs_ok n _ _ _ _ _ _ (by omega) (attrsOk_add ha (attrAt_named r t)) h
        · rw [attrs_blank t sl acc h62 hb] at h
          exact attrs_ok n _ _ _ _ _ _ (by omega) ha h
theorem letter_inName {r : Int} (h : letter r = true) : inName r = true := by
  unfold letter at h
  unfold inName blank
  simp only [Bool.or_eq_true, decide_eq_true_eq] at h
  have h9 : (r == 9) = false := by simp; omega
  have h10 : (r == 10) = false := by simp; omega
  have h12 : (r == 12) = false := by simp; omega
  have h32 : (r == 32) = false := by simp; omega
  have h47 : (r != 47) = true := by simp; omega
  have h62 : (r != 62) = true := by simp; omega
  simp [h9, h10, h12, h32, h47, h62]
theorem tagAt_ok {l : List Int} {nm : Str} {as : List Att} {cl : Bool} {rest : List Int} (hl : headLetter l = true) (h : tagAt l = some (nm, as, cl, rest)) : Named nm ∧ nm ≠ [] ∧ AttrsOk as := by
  unfold tagAt at h
  split at h
  · rename_i as' cl' rest' ha
    injection h with h; injection h with h1 h; injection h with h2 h
    subst h1 h2
    refine ⟨⟨_, rfl⟩, small_ne ?_, attrs_ok _ _ _ _ _ _ _ (Nat.le_refl _) attrsOk_nil ha⟩
    rcases l with _ | ⟨d, t⟩
    · cases hl
    · have := letter_inName (r := d) hl
      simp [this]
  · cases h
/-- what every token is -/
def TokOk (x : Tok) : Prop :=
  (x.kind = 1 ∧ x.name = [] ∧ x.text ≠ [] ∧ x.attrs = [] ∧ x.closed = false) ∨
  (x.kind = 2 ∧ Named x.name ∧ x.name ≠ [] ∧ x.text = [] ∧ AttrsOk x.attrs) ∨
  (x.kind = 3 ∧ Named x.name ∧ x.name ≠ [] ∧ x.text = [] ∧ x.attrs = [] ∧ x.closed = false)
theorem encB_ne {l : List Int} (h : l ≠ []) : encB l ≠ [] := by
  rcases l with _ | ⟨r, t⟩
  · exact absurd rfl h
  · rw [encB_cons]; simp [encode_ne]
theorem tok_ok : ∀ (n : Nat) (l : List Int), l.length ≤ n → ∀ x ∈ tok l, TokOk x
  | 0, l, hn => by
    have : l = [] := List.eq_nil_of_length_eq_zero (by omega)
    subst this; simp [tok_nil]
  | n + 1, l, hn => by
    rcases l with _ | ⟨r, t⟩
    · simp [tok_nil]
    · simp only [List.length_cons] at hn
      rcases hb : begins (r :: t) with _ | _
      · have h1 := chars_lt hb
        rw [tok_chars hb]
        intro x hx
        rcases List.mem_cons.1 hx with hx | hx
        · rw [hx]
          refine .inl ⟨rfl, rfl, unesc_ne (encB_ne ?_), rfl, rfl⟩
          rw [h1.2]; simp
        · exact tok_ok n _ (by omega) x hx
      · rcases hl : headLetter t with _ | _
        · by_cases h47 : t.head? = some 47 ∧ headLetter (t.drop 1)
          · rcases ht : tagAt (t.drop 1) with _ | ⟨nm, as, cl, rest⟩
            · rw [tok_close_none hb hl h47 ht]; simp
            · have h1 := tagAt_le ht
              rw [List.length_drop] at h1
              have h2 := tagAt_ok h47.2 ht
              rw [tok_close hb hl h47 ht]
              intro x hx
              rcases List.mem_cons.1 hx with hx | hx
              · rw [hx]; exact .inr (.inr ⟨rfl, h2.1, h2.2.1, rfl, rfl, rfl⟩)
              · exact tok_ok n _ (by omega) x hx
          · by_cases hp : [60, 33, 45, 45] <+: r :: t
            · have h1 := behind_lt [45, 45, 62] (by simp) ((r :: t).drop 4)
              rw [List.length_drop, List.length_cons] at h1
              rw [tok_remark hb hl h47 hp]
              exact tok_ok n _ (by omega)
            · have h1 := behind_lt [62] (by simp) (r :: t)
              rw [List.length_cons] at h1
              rw [tok_other hb hl h47 hp]
              exact tok_ok n _ (by omega)
        · rcases ht : tagAt t with _ | ⟨nm, as, cl, rest⟩
          · rw [tok_open_none hb hl ht]; simp
          · have h1 := tagAt_le ht
            have h2 := tagAt_ok hl ht
            by_cases hn2 : nm = sStyle ∨ nm = sScript
            · have h3 := raw_le nm rest
              rw [tok_raw hb hl ht hn2]
              intro x hx
              rcases List.mem_cons.1 hx with hx | hx
              · rw [hx]; exact .inr (.inl ⟨rfl, h2.1, h2.2.1, rfl, h2.2.2⟩)
              · rcases List.mem_append.1 hx with hx | hx
                · split at hx
                  · simp at hx
                  · rename_i hr
                    rw [List.mem_singleton.1 hx]
                    exact .inl ⟨rfl, rfl, encB_ne hr, rfl, rfl⟩
                · exact tok_ok n _ (by omega) x hx
            · rw [tok_open hb hl ht hn2]
              intro x hx
              rcases List.mem_cons.1 hx with hx | hx
              · rw [hx]; exact .inr (.inl ⟨rfl, h2.1, h2.2.1, rfl, h2.2.2⟩)
              · exact tok_ok n _ (by omega) x hx
end Go.Proofs.Fk
