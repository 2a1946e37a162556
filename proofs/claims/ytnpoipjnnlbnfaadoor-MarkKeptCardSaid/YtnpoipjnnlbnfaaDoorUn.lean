/- Plain facts on references: numbers written as references, and a text written so that it is read as it was. No walk. No conditions. -/
import Derived.Test.YtnpoipjnnlbnfaaDoorUl
namespace Go.Proofs.Fk
set_option linter.unusedVariables false
open Go.Lib Go.Proofs.Fu Go.Proofs.Fe

/-! ### numbers -/
/-- the digit of a value below 16, small -/
def chr (v : Nat) : UInt8 := UInt8.ofNat (if v < 10 then 48 + v else 87 + v)
theorem dig_chr {base v : Nat} (hb : base ≤ 16) (h : v < base) : dig base (chr v) = some v := by
  unfold dig chr
  have e : (UInt8.ofNat (if v < 10 then 48 + v else 87 + v)).toNat = if v < 10 then 48 + v else 87 + v := by
    split <;> simp <;> omega
  simp only [e]
  have hv : (if 48 ≤ (if v < 10 then 48 + v else 87 + v) ∧ (if v < 10 then 48 + v else 87 + v) ≤ 57 then (if v < 10 then 48 + v else 87 + v) - 48
      else if 97 ≤ (if v < 10 then 48 + v else 87 + v) ∧ (if v < 10 then 48 + v else 87 + v) ≤ 102 then (if v < 10 then 48 + v else 87 + v) - 87
      else if 65 ≤ (if v < 10 then 48 + v else 87 + v) ∧ (if v < 10 then 48 + v else 87 + v) ≤ 70 then (if v < 10 then 48 + v else 87 + v) - 55 else 99) = v := by
    by_cases h10 : v < 10
    · rw [if_pos h10, if_pos (by omega)]; omega
    · rw [if_neg h10, if_neg (by omega), if_pos (by omega)]; omega
  rw [hv, if_pos h]
/-- the digits of a number, put ahead of what is there -/
def digsF (base : Nat) : Nat → Nat → Str → Str
  | 0, _, acc => acc
  | f + 1, n, acc => if n = 0 then acc else digsF base f (n / base) (chr (n % base) :: acc)
def digs (base n : Nat) : Str := if n = 0 then [48] else digsF base n n []
theorem digsF_app (base : Nat) : ∀ (f n : Nat) (acc : Str), digsF base f n acc = digsF base f n [] ++ acc
  | 0, _, _ => rfl
  | f + 1, n, acc => by
    simp only [digsF]
    split
    · rfl
    · rw [digsF_app base f _ (chr (n % base) :: acc), digsF_app base f _ [chr (n % base)], List.append_assoc]; rfl
theorem numOf_app (base : Nat) (a : Str) (c : UInt8) : numOf base (a ++ [c]) = numOf base a * base + (dig base c).getD 0 := by
  unfold numOf; rw [List.foldl_append]; rfl
/-- the digits are digits, and give the number again; there are no more than fit -/
theorem digsF_all (base : Nat) (h1 : 2 ≤ base) (h2 : base ≤ 16) : ∀ (f n : Nat), n ≤ f → (∀ c ∈ digsF base f n [], isDig base c = true) ∧ numOf base (digsF base f n []) = n ∧ (∀ k, n < base ^ k → (digsF base f n []).length ≤ k) ∧ (0 < n → digsF base f n [] ≠ [])
  | 0, n, h => by
    obtain rfl : n = 0 := by omega
    simp [digsF, numOf]
  | f + 1, n, h => by
    by_cases h0 : n = 0
    · subst h0; simp [digsF, numOf]
    · have hd : n / base < n := Nat.div_lt_self (by omega) (by omega)
      have ih := digsF_all base h1 h2 f (n / base) (by omega)
      have hm : n % base < base := Nat.mod_lt _ (by omega)
      simp only [digsF, if_neg h0]
      rw [digsF_app]
      refine ⟨?_, ?_, ?_, ?_⟩
      · intro c hc
        rcases List.mem_append.1 hc with hc | hc
        · exact ih.1 c hc
        · rw [List.mem_singleton.1 hc]
          unfold isDig; rw [dig_chr h2 hm]; rfl
      · rw [numOf_app, ih.2.1, dig_chr h2 hm]
        simp only [Option.getD_some]
        have := Nat.div_add_mod n base
        rw [Nat.mul_comm] at this
        exact this
      · intro k hk
        rcases k with _ | k
        · simp at hk; omega
        · have : n / base < base ^ k := by
            rw [Nat.div_lt_iff_lt_mul (by omega)]
            rwa [Nat.pow_succ] at hk
          have := ih.2.2.1 k this
          simp only [List.length_append, List.length_cons, List.length_nil]; omega
      · intro _; simp
theorem takeWhile_stop {α : Type} (p : α → Bool) : ∀ (a : List α) (c : α) (t : List α), (∀ x ∈ a, p x = true) → p c = false → (a ++ c :: t).takeWhile p = a ∧ (a ++ c :: t).dropWhile p = c :: t
  | [], c, t, _, hc => by simp [hc]
  | x :: a, c, t, h, hc => by
    have := takeWhile_stop p a c t (fun y hy => h y (by simp [hy])) hc
    simp [h x (by simp), this.1, this.2]
theorem numRef_digs {base pre n : Nat} (h1 : 2 ≤ base) (h2 : base ≤ 16) (hn : 0 < n) (h8 : n < base ^ 8) (t : Str) :
    numRef base pre (digs base n ++ 59 :: t) = some (encodeRune (runeNum n : Nat), pre + (digs base n).length + 1) := by
  have ha := digsF_all base h1 h2 n n (Nat.le_refl _)
  have hdg : digs base n = digsF base n n [] := by unfold digs; rw [if_neg (by omega)]
  rw [hdg]
  have h59 : isDig base 59 = false := by
    unfold isDig dig
    have : ¬ ((99 : Nat) < base) := by omega
    simp [this]
  have htw := (takeWhile_stop (isDig base) (digsF base n n []) 59 t ha.1 h59).1
  simp only [numRef, htw]
  rw [if_neg, ha.2.1]
  intro h
  rcases h with h | h | h
  · exact ha.2.2.2 hn h
  · have := ha.2.2.1 8 h8; omega
  · apply h; simp
theorem not_named (c : UInt8) (t : Str) (h : c = 35) : ¬ ([38, 97, 109, 112, 59] <+: 38 :: c :: t) ∧ ¬ ([38, 108, 116, 59] <+: 38 :: c :: t) ∧ ¬ ([38, 103, 116, 59] <+: 38 :: c :: t) ∧ ¬ ([38, 113, 117, 111, 116, 59] <+: 38 :: c :: t) ∧ ¬ ([38, 97, 112, 111, 115, 59] <+: 38 :: c :: t) ∧ ¬ ([38, 110, 98, 115, 112, 59] <+: 38 :: c :: t) := by
  subst h
  refine ⟨?_, ?_, ?_, ?_, ?_, ?_⟩ <;> (intro h; simp [List.cons_prefix_cons] at h)
theorem refAt_num (t : Str) : refAt (38 :: 35 :: t) = (match t with
    | d :: u => if d = 120 ∨ d = 88 then numRef 16 3 u else numRef 10 2 t
    | [] => none) := by
  have h := not_named 35 t rfl
  unfold refAt
  rw [if_neg h.1, if_neg h.2.1, if_neg h.2.2.1, if_neg h.2.2.2.1, if_neg h.2.2.2.2.1, if_neg h.2.2.2.2.2]
  rfl
theorem digs_head {base n : Nat} (h1 : 2 ≤ base) (h2 : base ≤ 16) (hn : 0 < n) : ∃ d u, digs base n = d :: u ∧ isDig base d = true := by
  have ha := digsF_all base h1 h2 n n (Nat.le_refl _)
  have hdg : digs base n = digsF base n n [] := by unfold digs; rw [if_neg (by omega)]
  rcases hd : digsF base n n [] with _ | ⟨d, u⟩
  · exact absurd hd (ha.2.2.2 hn)
  · exact ⟨d, u, by rw [hdg, hd], ha.1 d (by rw [hd]; simp)⟩
theorem unesc_dec {n : Nat} (hn : 0 < n) (h8 : n ≤ 1114111) (t : Str) : unesc (38 :: 35 :: (digs 10 n ++ 59 :: t)) = encodeRune (runeNum n : Nat) ++ unesc t := by
  obtain ⟨d, u, hd, hdd⟩ := digs_head (base := 10) (by omega) (by omega) hn
  have hx : ¬ (d = 120 ∨ d = 88) := by
    intro h
    rcases h with h | h <;> subst h <;> revert hdd <;> decide
  have hr := numRef_digs (base := 10) (pre := 2) (by omega) (by omega) hn (by omega) t
  have hr2 : refAt (38 :: 35 :: (digs 10 n ++ 59 :: t)) = some (encodeRune (runeNum n : Nat), 2 + (digs 10 n).length + 1) := by
    rw [refAt_num]
    rw [← hr]
    rw [hd, List.cons_append]
    simp only [if_neg hx]
  rw [unesc_ref hr2 rfl]
  congr 2
  have e : 2 + (digs 10 n).length + 1 = (digs 10 n).length + 1 + 1 + 1 := by omega
  rw [e, List.drop_succ_cons, List.drop_succ_cons, ← List.drop_drop, List.drop_left]
  rfl
theorem unesc_hex {n : Nat} (hn : 0 < n) (h8 : n ≤ 1114111) (t : Str) : unesc (38 :: 35 :: 120 :: (digs 16 n ++ 59 :: t)) = encodeRune (runeNum n : Nat) ++ unesc t := by
  have hr := numRef_digs (base := 16) (pre := 3) (by omega) (by omega) hn (by omega) t
  have hr2 : refAt (38 :: 35 :: 120 :: (digs 16 n ++ 59 :: t)) = some (encodeRune (runeNum n : Nat), 3 + (digs 16 n).length + 1) := by
    rw [refAt_num, ← hr]
    simp
  rw [unesc_ref hr2 rfl]
  congr 2
  have e : 3 + (digs 16 n).length + 1 = (digs 16 n).length + 1 + 1 + 1 + 1 := by omega
  rw [e, List.drop_succ_cons, List.drop_succ_cons, List.drop_succ_cons, ← List.drop_drop, List.drop_left]
  rfl
theorem numeric_dec {n : Nat} (hn : 0 < n) (h8 : n ≤ 1114111) : unesc ([120, 38, 35] ++ digs 10 n ++ [59, 121]) = [120] ++ encodeRune (runeNum n : Nat) ++ [121] := by
  have := unesc_dec hn h8 [121]
  rw [unesc_same [121] (by decide)] at this
  show unesc (120 :: (38 :: 35 :: (digs 10 n ++ [59, 121]))) = _
  rw [unesc_plain _ _ (by decide), this]; rfl
theorem numeric_hex {n : Nat} (hn : 0 < n) (h8 : n ≤ 1114111) : unesc ([38, 35, 120] ++ digs 16 n ++ [59]) = encodeRune (runeNum n : Nat) := by
  have := unesc_hex hn h8 []
  rw [unesc_nil, List.append_nil] at this
  exact this

/-! ### values -/
/-- a rune of a value, written so that it may stand between quotes -/
def escR (r : Int) : List Int := if r = 38 then [38, 97, 109, 112, 59] else if r = 34 then [38, 113, 117, 111, 116, 59] else [r]
def esc (ns : List Int) : List Int := (ns.map escR).flatten
theorem esc_cons (r : Int) (t : List Int) : esc (r :: t) = escR r ++ esc t := by simp [esc]
theorem esc_no34 (ns : List Int) : ∀ r ∈ esc ns, r ≠ 34 := by
  intro r hr
  obtain ⟨l, hl, hr⟩ := List.mem_flatten.1 hr
  obtain ⟨x, _, rfl⟩ := List.mem_map.1 hl
  unfold escR at hr
  split at hr
  · simp at hr; omega
  · split at hr
    · simp at hr; omega
    · simp at hr; omega
theorem unesc_amp (t : Str) : unesc (38 :: 97 :: 109 :: 112 :: 59 :: t) = 38 :: unesc t := by
  have h : refAt (38 :: 97 :: 109 :: 112 :: 59 :: t) = some ([38], 5) := by
    unfold refAt
    rw [if_pos (by simp [List.cons_prefix_cons])]
  rw [unesc_ref h rfl]; rfl
theorem unesc_quot (t : Str) : unesc (38 :: 113 :: 117 :: 111 :: 116 :: 59 :: t) = 34 :: unesc t := by
  have h : refAt (38 :: 113 :: 117 :: 111 :: 116 :: 59 :: t) = some ([34], 6) := by
    unfold refAt
    rw [if_neg (by simp [List.cons_prefix_cons]), if_neg (by simp [List.cons_prefix_cons]), if_neg (by simp [List.cons_prefix_cons]), if_pos (by simp [List.cons_prefix_cons])]
  rw [unesc_ref h rfl]; rfl
/-- what is written so is read as it was -/
theorem unesc_esc : ∀ ns : List Int, unesc (encB (esc ns)) = encB ns
  | [] => rfl
  | r :: t => by
    rw [esc_cons, encB_append, encB_cons]
    unfold escR
    split
    · rename_i h
      subst h
      have e : encB [38, 97, 109, 112, 59] = [38, 97, 109, 112, 59] := by decide
      have e2 : encodeRune 38 = [38] := by decide
      rw [e, e2]
      show unesc (38 :: 97 :: 109 :: 112 :: 59 :: encB (esc t)) = _
      rw [unesc_amp, unesc_esc t]; rfl
    · split
      · rename_i h
        subst h
        have e : encB [38, 113, 117, 111, 116, 59] = [38, 113, 117, 111, 116, 59] := by decide
        have e2 : encodeRune 34 = [34] := by decide
        rw [e, e2]
        show unesc (38 :: 113 :: 117 :: 111 :: 116 :: 59 :: encB (esc t)) = _
        rw [unesc_quot, unesc_esc t]; rfl
      · rename_i h _
        have e : encB [r] = encodeRune r := by rw [encB_cons, encB_nil, List.append_nil]
        rw [e, unesc_app _ _ (enc_not r 38 (by decide) (by simpa using h)), unesc_esc t]
/-- the tag of the law: one value between quotes, one between apostrophes -/
theorem tok_values (ns : List Int) :
    tok ([60, 105, 32, 113, 61, 34] ++ esc ns ++ [34, 32, 119, 32, 61, 32, 39, 49, 39, 62]) = [⟨2, [105], [], [([113], encB ns), ([119], [49])], false⟩] := by
  have hs := takeWhile_stop (fun x : Int => x != 34) (esc ns) 34 [32, 119, 32, 61, 32, 39, 49, 39, 62] (fun x hx => by simp [esc_no34 ns x hx]) (by decide)
  have hq : attrAt (113 :: 61 :: 34 :: (esc ns ++ [34, 32, 119, 32, 61, 32, 39, 49, 39, 62])) = (([113], encB ns), [32, 119, 32, 61, 32, 39, 49, 39, 62]) := by
    have i1 : inAttr 61 = false := by decide
    have b1 : blank 61 = false := by decide
    have b2 : blank 34 = false := by decide
    have e : small [113] = [113] := by decide
    simp only [attrAt, List.takeWhile_cons, List.dropWhile_cons, i1, b1, b2, Bool.false_eq_true, if_false, if_true, valAt, e, true_or, hs.1, hs.2, unesc_esc, List.drop_succ_cons, List.drop_zero]
  have hw : attrs [32, 119, 32, 61, 32, 39, 49, 39, 62] false (add [] ([113], encB ns)) = some ([([113], encB ns), ([119], [49])], false, []) := by
    have e1 : add [] ([113], encB ns) = [([113], encB ns)] := rfl
    have e2 : attrAt [119, 32, 61, 32, 39, 49, 39, 62] = (([119], [49]), [62]) := by decide
    have e3 : add [([113], encB ns)] ([119], [49]) = [([113], encB ns), ([119], [49])] := rfl
    rw [e1, attrs_blank _ _ _ (by decide) (by decide), attrs_attr _ _ _ (by decide) (by decide), e2]
    simp only [e3]
    rw [attrs_end]
  have ht : tagAt (105 :: 32 :: 113 :: 61 :: 34 :: (esc ns ++ [34, 32, 119, 32, 61, 32, 39, 49, 39, 62])) = some ([105], [([113], encB ns), ([119], [49])], false, []) := by
    have i1 : inName 105 = true := by decide
    have i2 : inName 32 = false := by decide
    have e : small [105] = [105] := by decide
    unfold tagAt
    simp only [List.takeWhile_cons, List.dropWhile_cons, i1, i2, if_true, Bool.false_eq_true, if_false, e]
    rw [attrs_blank _ _ _ (by decide) (by decide), attrs_attr _ _ _ (by decide) (by decide), hq]
    simp only [hw]
  have := tok_open (r := 60) (t := 105 :: 32 :: 113 :: 61 :: 34 :: (esc ns ++ [34, 32, 119, 32, 61, 32, 39, 49, 39, 62])) (by simp [begins]; decide) (by show letter 105 = true; decide) ht (by decide)
  rw [tok_nil] at this
  rw [← this]
  simp
end Go.Proofs.Fk
