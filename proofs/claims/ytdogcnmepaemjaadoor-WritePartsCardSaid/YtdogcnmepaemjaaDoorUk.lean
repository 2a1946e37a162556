/- Plain facts: markup cut into tokens, as chapter 4 says it; names, plain texts, what joins, numbers, values. No walk. No conditions. -/
import Derived.Test.YtdogcnmepaemjaaDoorUe
namespace Go.Proofs.Fk
set_option linter.unusedVariables false
open Go.Lib Go.Proofs.Fu Go.Proofs.Fe

abbrev Str := List UInt8
abbrev Att := Str × Str
structure Tok where
  kind : Nat
  name : Str
  text : Str
  attrs : List Att
  closed : Bool
def blank (r : Int) : Bool := r == 9 || r == 10 || r == 12 || r == 32
def letter (r : Int) : Bool := decide (97 ≤ r ∧ r ≤ 122) || decide (65 ≤ r ∧ r ≤ 90)
def low (r : Int) : Int := if 65 ≤ r ∧ r ≤ 90 then r + 32 else r
def small (l : List Int) : Str := encB (l.map low)
def begins : List Int → Bool
  | a :: r :: _ => a == 60 && (letter r || r == 47 || r == 33 || r == 63)
  | _ => false
def inName (r : Int) : Bool := !blank r && r != 47 && r != 62
def inAttr (r : Int) : Bool := !blank r && r != 61 && r != 47 && r != 62
def inBare (r : Int) : Bool := !blank r && r != 62
/-- the value behind '=', and what is behind it -/
def valAt (v : List Int) : Str × List Int :=
  match v with
  | q :: w => if q = 34 ∨ q = 39 then (unesc (encB (w.takeWhile (· != q))), (w.dropWhile (· != q)).drop 1) else (unesc (encB (v.takeWhile inBare)), v.dropWhile inBare)
  | [] => ([], [])
/-- the attribute at the beginning -/
def attrAt (l : List Int) : Att × List Int :=
  match l with
  | [] => (([], []), [])
  | r :: t =>
    match (t.dropWhile inAttr).dropWhile blank with
    | e :: u => if e = 61 then ((small (r :: t.takeWhile inAttr), (valAt (u.dropWhile blank)).1), (valAt (u.dropWhile blank)).2) else ((small (r :: t.takeWhile inAttr), []), e :: u)
    | [] => ((small (r :: t.takeWhile inAttr), []), [])
def add (l : List Att) (a : Att) : List Att := if l.any (fun b => b.1 == a.1) then l else if 64 ≤ l.length then l else l ++ [a]
def attrsF : Nat → List Int → Bool → List Att → Option (List Att × Bool × List Int)
  | 0, _, _, _ => none
  | f + 1, l, sl, acc => match l with
    | [] => none
    | r :: t => if r = 62 then some (acc, sl, t) else if blank r || r == 47 then attrsF f t (r == 47) acc else attrsF f (attrAt l).2 false (add acc (attrAt l).1)
/-- the attributes up to the '>', whether a '/' stands ahead of it, what is behind it -/
def attrs (l : List Int) (sl : Bool) (acc : List Att) : Option (List Att × Bool × List Int) := attrsF l.length l sl acc
def tagAt (l : List Int) : Option (Str × List Att × Bool × List Int) :=
  match attrs (l.dropWhile inName) false [] with
  | some (as, cl, rest) => some (small (l.takeWhile inName), as, cl, rest)
  | none => none
def behind (p : List Int) : List Int → List Int
  | [] => []
  | r :: t => if p <+: r :: t then (r :: t).drop p.length else behind p t
def rawEnd (name : Str) (l : List Int) : Bool :=
  decide ([60, 47] <+: l) && decide (2 + name.length ≤ l.length) && (small ((l.drop 2).take name.length) == name) &&
    (match l.drop (2 + name.length) with | [] => true | e :: _ => blank e || e == 47 || e == 62)
def raw (name : Str) : List Int → List Int × List Int
  | [] => ([], [])
  | r :: t => if rawEnd name (r :: t) then ([], r :: t) else (r :: (raw name t).1, (raw name t).2)
def chars : List Int → List Int × List Int
  | [] => ([], [])
  | r :: t => if begins (r :: t) then ([], r :: t) else (r :: (chars t).1, (chars t).2)
def sStyle : Str := [115, 116, 121, 108, 101]
def sScript : Str := [115, 99, 114, 105, 112, 116]
def headLetter : List Int → Bool
  | d :: _ => letter d
  | [] => false
def tokF : Nat → List Int → List Tok
  | 0, _ => []
  | f + 1, l => match l with
    | [] => []
    | r :: t =>
      if begins l then
        if headLetter t then
          (match tagAt t with
          | none => []
          | some (nm, as, cl, rest) => ⟨2, nm, [], as, cl⟩ ::
            (if nm = sStyle ∨ nm = sScript then (if (raw nm rest).1 = [] then [] else [⟨1, [], encB (raw nm rest).1, [], false⟩]) ++ tokF f (raw nm rest).2 else tokF f rest))
        else if t.head? = some 47 ∧ headLetter (t.drop 1) then
          (match tagAt (t.drop 1) with
          | none => []
          | some (nm, _, _, rest) => ⟨3, nm, [], [], false⟩ :: tokF f rest)
        else if [60, 33, 45, 45] <+: l then tokF f (behind [45, 45, 62] (l.drop 4))
        else tokF f (behind [62] l)
      else ⟨1, [], unesc (encB (chars l).1), [], false⟩ :: tokF f (chars l).2
/-- mark.Tokens -/
def tok (l : List Int) : List Tok := tokF l.length l

/-! ### what is left is shorter -/
theorem dropWhile_le {α : Type} (p : α → Bool) (l : List α) : (l.dropWhile p).length ≤ l.length := (List.dropWhile_suffix p).length_le
theorem valAt_le (v : List Int) : (valAt v).2.length ≤ v.length := by
  unfold valAt
  rcases v with _ | ⟨q, w⟩
  · simp
  · simp only
    split
    · have := dropWhile_le (· != q) w
      simp only [List.length_drop, List.length_cons]; omega
    · have := dropWhile_le inBare (q :: w)
      exact this
theorem attrAt_le (r : Int) (t : List Int) : (attrAt (r :: t)).2.length ≤ t.length := by
  have h1 := dropWhile_le inAttr t
  have h2 := dropWhile_le blank (t.dropWhile inAttr)
  simp only [attrAt]
  split
  · rename_i e u he
    rw [he, List.length_cons] at h2
    split
    · have h3 := valAt_le (u.dropWhile blank)
      have h4 := dropWhile_le blank u
      simp only; omega
    · simp only [List.length_cons]; omega
  · simp
theorem attrsF_fuel : ∀ (n m : Nat) (l : List Int) (sl : Bool) (acc : List Att), l.length ≤ n → l.length ≤ m → attrsF n l sl acc = attrsF m l sl acc
  | 0, m, l, sl, acc, hn, _ => by
    have : l = [] := List.eq_nil_of_length_eq_zero (by omega)
    subst this; cases m <;> simp [attrsF]
  | n + 1, 0, l, sl, acc, _, hm => by
    have : l = [] := List.eq_nil_of_length_eq_zero (by omega)
    subst this; simp [attrsF]
  | n + 1, m + 1, l, sl, acc, hn, hm => by
    rcases l with _ | ⟨r, t⟩
    · simp [attrsF]
    · simp only [List.length_cons] at hn hm
      have := attrAt_le r t
      simp only [attrsF]
      rw [attrsF_fuel n m t _ _ (by omega) (by omega), attrsF_fuel n m (attrAt (r :: t)).2 _ _ (by omega) (by omega)]
theorem attrs_nil (sl : Bool) (acc : List Att) : attrs [] sl acc = none := rfl
theorem attrs_end (t : List Int) (sl : Bool) (acc : List Att) : attrs (62 :: t) sl acc = some (acc, sl, t) := by simp [attrs, attrsF]
theorem attrs_blank {r : Int} (t : List Int) (sl : Bool) (acc : List Att) (h : r ≠ 62) (hb : (blank r || r == 47) = true) : attrs (r :: t) sl acc = attrs t (r == 47) acc := by
  simp only [attrs, List.length_cons, attrsF, if_neg h, hb, if_true]
theorem attrs_attr {r : Int} (t : List Int) (sl : Bool) (acc : List Att) (h : r ≠ 62) (hb : (blank r || r == 47) = false) : attrs (r :: t) sl acc = attrs (attrAt (r :: t)).2 false (add acc (attrAt (r :: t)).1) := by
  simp only [attrs, List.length_cons, attrsF, if_neg h, hb]
  exact attrsF_fuel _ _ _ _ _ (attrAt_le r t) (Nat.le_refl _)
theorem attrs_le : ∀ (n : Nat) (l : List Int) (sl : Bool) (acc as : List Att) (cl : Bool) (rest : List Int), l.length ≤ n → attrs l sl acc = some (as, cl, rest) → rest.length < l.length
  | 0, l, sl, acc, as, cl, rest, hn, h => by
    have : l = [] := List.eq_nil_of_length_eq_zero (by omega)
    subst this; cases h
  | n + 1, l, sl, acc, as, cl, rest, hn, h => by
    rcases l with _ | ⟨r, t⟩
    · cases h
    · simp only [List.length_cons] at hn ⊢
      by_cases h62 : r = 62
      · subst h62
        rw [attrs_end] at h
        injection h with h; injection h with h1 h2; injection h2 with h2 h3
        subst h3; omega
      · rcases hb : (blank r || r == 47) with _ | _
        · rw [attrs_attr t sl acc h62 hb] at h
          have h1 := attrAt_le r t
          have := attrs_le n _ _ _ _ _ _ (by omega) h
          omega
        · rw [attrs_blank t sl acc h62 hb] at h
          have := attrs_le n _ _ _ _ _ _ (by omega) h
          omega
theorem tagAt_le {l : List Int} {nm : Str} {as : List Att} {cl : Bool} {rest : List Int} (h : tagAt l = some (nm, as, cl, rest)) : rest.length < l.length := by
  unfold tagAt at h
  split at h
  · rename_i as' cl' rest' ha
    have h1 := attrs_le _ _ _ _ _ _ _ (Nat.le_refl _) ha
    have h2 := dropWhile_le inName l
    injection h with h; injection h with _ h; injection h with _ h; injection h with _ h
    subst h; omega
  · cases h
theorem behind_lt (p : List Int) (hp : p ≠ []) : ∀ l : List Int, (behind p l).length ≤ l.length - 1
  | [] => by simp [behind]
  | r :: t => by
    have h1 := List.length_pos_iff.2 hp
    rw [behind]
    split
    · rw [List.length_drop, List.length_cons]; omega
    · have := behind_lt p hp t
      simp only [List.length_cons]; omega
theorem raw_le (nm : Str) : ∀ l : List Int, (raw nm l).2.length ≤ l.length
  | [] => by simp [raw]
  | r :: t => by
    rw [raw]
    split
    · exact Nat.le_refl _
    · have := raw_le nm t
      simp only [List.length_cons]; omega
theorem chars_le : ∀ l : List Int, (chars l).2.length ≤ l.length
  | [] => by simp [chars]
  | r :: t => by
    rw [chars]
    split
    · exact Nat.le_refl _
    · have := chars_le t
      simp only [List.length_cons]; omega
theorem chars_lt {r : Int} {t : List Int} (h : begins (r :: t) = false) : (chars (r :: t)).2.length ≤ t.length ∧ (chars (r :: t)).1 = r :: (chars t).1 := by
  rw [chars, if_neg (by simp [h])]
  exact ⟨chars_le t, rfl⟩
theorem tokF_fuel : ∀ (n m : Nat) (l : List Int), l.length ≤ n → l.length ≤ m → tokF n l = tokF m l
  | 0, m, l, hn, _ => by
    have : l = [] := List.eq_nil_of_length_eq_zero (by omega)
    subst this; cases m <;> simp [tokF]
  | n + 1, 0, l, _, hm => by
    have : l = [] := List.eq_nil_of_length_eq_zero (by omega)
    subst this; simp [tokF]
  | n + 1, m + 1, l, hn, hm => by
    rcases l with _ | ⟨r, t⟩
    · simp [tokF]
    · simp only [List.length_cons] at hn hm
      simp only [tokF]
      split
      · split
        · rcases ht : tagAt t with _ | ⟨nm, as, cl, rest⟩
          · rfl
          · have h1 := tagAt_le ht
            have h2 := raw_le nm rest
            simp only
            rw [tokF_fuel n m rest (by omega) (by omega), tokF_fuel n m (raw nm rest).2 (by omega) (by omega)]
        · split
          · rcases ht : tagAt (t.drop 1) with _ | ⟨nm, as, cl, rest⟩
            · rfl
            · have h1 := tagAt_le ht
              rw [List.length_drop] at h1
              simp only
              rw [tokF_fuel n m rest (by omega) (by omega)]
          · split
            · have h1 := behind_lt [45, 45, 62] (by simp) ((r :: t).drop 4)
              rw [List.length_drop, List.length_cons] at h1
              rw [tokF_fuel n m _ (by omega) (by omega)]
            · have h1 := behind_lt [62] (by simp) (r :: t)
              rw [List.length_cons] at h1
              rw [tokF_fuel n m _ (by omega) (by omega)]
      · rename_i hb
        have h1 := chars_lt (r := r) (t := t) (by simpa using hb)
        rw [tokF_fuel n m _ (by omega) (by omega)]

/-! ### one step -/
theorem tok_nil : tok [] = [] := rfl
theorem tok_chars {r : Int} {t : List Int} (h : begins (r :: t) = false) : tok (r :: t) = ⟨1, [], unesc (encB (chars (r :: t)).1), [], false⟩ :: tok (chars (r :: t)).2 := by
  have h1 := chars_lt h
  unfold tok
  simp only [List.length_cons, tokF, h, Bool.false_eq_true, if_false]
  rw [tokF_fuel t.length _ _ h1.1 (Nat.le_refl _)]
theorem tok_open_none {r : Int} {t : List Int} (h : begins (r :: t) = true) (hl : headLetter t = true) (ht : tagAt t = none) : tok (r :: t) = [] := by
  unfold tok
  simp only [List.length_cons, tokF, h, if_true, hl, ht]
theorem tok_open {r : Int} {t : List Int} {nm : Str} {as : List Att} {cl : Bool} {rest : List Int} (h : begins (r :: t) = true) (hl : headLetter t = true) (ht : tagAt t = some (nm, as, cl, rest)) (hn : ¬ (nm = sStyle ∨ nm = sScript)) :
    tok (r :: t) = ⟨2, nm, [], as, cl⟩ :: tok rest := by
  have h1 := tagAt_le ht
  unfold tok
  simp only [List.length_cons, tokF, h, if_true, hl, ht, if_neg hn]
  rw [tokF_fuel t.length _ _ (by omega) (Nat.le_refl _)]
theorem tok_raw {r : Int} {t : List Int} {nm : Str} {as : List Att} {cl : Bool} {rest : List Int} (h : begins (r :: t) = true) (hl : headLetter t = true) (ht : tagAt t = some (nm, as, cl, rest)) (hn : nm = sStyle ∨ nm = sScript) :
    tok (r :: t) = ⟨2, nm, [], as, cl⟩ :: ((if (raw nm rest).1 = [] then [] else [⟨1, [], encB (raw nm rest).1, [], false⟩]) ++ tok (raw nm rest).2) := by
  have h1 := tagAt_le ht
  have h2 := raw_le nm rest
  unfold tok
  simp only [List.length_cons, tokF, h, if_true, hl, ht, if_pos hn]
  rw [tokF_fuel t.length _ _ (by omega) (Nat.le_refl _)]
theorem tok_close_none {r : Int} {t : List Int} (h : begins (r :: t) = true) (hl : headLetter t = false) (h47 : t.head? = some 47 ∧ headLetter (t.drop 1)) (ht : tagAt (t.drop 1) = none) : tok (r :: t) = [] := by
  unfold tok
  simp only [List.length_cons, tokF, h, if_true, hl, Bool.false_eq_true, if_false, if_pos h47, ht]
theorem tok_close {r : Int} {t : List Int} {nm : Str} {as : List Att} {cl : Bool} {rest : List Int} (h : begins (r :: t) = true) (hl : headLetter t = false) (h47 : t.head? = some 47 ∧ headLetter (t.drop 1)) (ht : tagAt (t.drop 1) = some (nm, as, cl, rest)) :
    tok (r :: t) = ⟨3, nm, [], [], false⟩ :: tok rest := by
  have h1 := tagAt_le ht
  rw [List.length_drop] at h1
  unfold tok
  simp only [List.length_cons, tokF, h, if_true, hl, Bool.false_eq_true, if_false, if_pos h47, ht]
  rw [tokF_fuel t.length _ _ (by omega) (Nat.le_refl _)]
theorem tok_remark {r : Int} {t : List Int} (h : begins (r :: t) = true) (hl : headLetter t = false) (h47 : ¬ (t.head? = some 47 ∧ headLetter (t.drop 1))) (hp : [60, 33, 45, 45] <+: r :: t) :
    tok (r :: t) = tok (behind [45, 45, 62] ((r :: t).drop 4)) := by
  have h1 := behind_lt [45, 45, 62] (by simp) ((r :: t).drop 4)
  rw [List.length_drop, List.length_cons] at h1
  unfold tok
  simp only [List.length_cons, tokF, h, if_true, hl, Bool.false_eq_true, if_false, if_neg h47, if_pos hp]
  rw [tokF_fuel t.length _ _ (by omega) (Nat.le_refl _)]
theorem tok_other {r : Int} {t : List Int} (h : begins (r :: t) = true) (hl : headLetter t = false) (h47 : ¬ (t.head? = some 47 ∧ headLetter (t.drop 1))) (hp : ¬ ([60, 33, 45, 45] <+: r :: t)) :
    tok (r :: t) = tok (behind [62] (r :: t)) := by
  have h1 := behind_lt [62] (by simp) (r :: t)
  rw [List.length_cons] at h1
  unfold tok
  simp only [List.length_cons, tokF, h, if_true, hl, Bool.false_eq_true, if_false, if_neg h47, if_neg hp]
  rw [tokF_fuel t.length _ _ (by omega) (Nat.le_refl _)]
end Go.Proofs.Fk
