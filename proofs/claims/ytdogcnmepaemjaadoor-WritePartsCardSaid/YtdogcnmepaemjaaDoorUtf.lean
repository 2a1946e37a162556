/- Plain facts on decoding: a list of bytes as runes, line ends and zeros made one; no walk. No conditions. -/
import Derived.Lib.MapLaws
import Derived.Lib.QuoteLoop
import Derived.Lib.FieldsU
import Derived.Laws.Cover4
import Derived.Laws.BytesArg
namespace Go.Proofs.Fu
set_option linter.unusedVariables false
open Go.Lib

/-- the runes of a list of bytes, by at most so many steps -/
def runesF : Nat → List UInt8 → List Nat
  | 0, _ => []
  | f + 1, l => if l = [] then [] else (decodeL l).1 :: runesF f (l.drop (decodeL l).2)
/-- the runes of a list of bytes -/
def runesB (l : List UInt8) : List Nat := runesF l.length l
theorem runesF_nil (f : Nat) : runesF f [] = [] := by cases f <;> simp [runesF]
theorem runesF_fuel : ∀ (n m : Nat) (l : List UInt8), l.length ≤ n → l.length ≤ m → runesF n l = runesF m l
  | 0, m, l, hn, _ => by
    have : l = [] := List.eq_nil_of_length_eq_zero (by omega)
    subst this; rw [runesF_nil, runesF_nil]
  | n + 1, 0, l, _, hm => by
    have : l = [] := List.eq_nil_of_length_eq_zero (by omega)
    subst this; rw [runesF_nil, runesF_nil]
  | n + 1, m + 1, l, hn, hm => by
    by_cases hne : l = []
    · subst hne; rw [runesF_nil, runesF_nil]
    · have hw := decodeL_width l
      have hl : 0 < l.length := List.length_pos_iff.2 hne
      simp only [runesF, if_neg hne]
      rw [runesF_fuel n m _ (by rw [List.length_drop]; omega) (by rw [List.length_drop]; omega)]
theorem runesB_nil : runesB [] = [] := rfl
theorem runesB_step (l : List UInt8) (hne : l ≠ []) : runesB l = (decodeL l).1 :: runesB (l.drop (decodeL l).2) := by
  have hw := decodeL_width l
  have hl : 0 < l.length := List.length_pos_iff.2 hne
  unfold runesB
  obtain ⟨n, hn⟩ : ∃ n, l.length = n + 1 := ⟨l.length - 1, by omega⟩
  rw [hn]
  simp only [runesF, if_neg hne]
  rw [runesF_fuel n _ _ (by rw [List.length_drop]; omega) (Nat.le_refl _)]

/-- line ends become one 10 each, a 0 becomes U+FFFD; 'b': the last one was a 13 -/
def clean : Bool → List Nat → List Int
  | _, [] => []
  | b, r :: t => (if r = 10 ∧ b = true then [] else if r = 13 then [10] else if r = 0 then [65533] else [(r : Int)]) ++ clean (decide (r = 13)) t
theorem clean_10 (t : List Nat) : clean true (10 :: t) = clean false t := by simp [clean]
theorem clean_13 (b : Bool) (t : List Nat) : clean b (13 :: t) = 10 :: clean true t := by simp [clean]
theorem clean_0 (b : Bool) (t : List Nat) : clean b (0 :: t) = 65533 :: clean false t := by simp [clean]
theorem clean_r (b : Bool) (r : Nat) (t : List Nat) (h : ¬ (r = 10 ∧ b = true)) (h1 : r ≠ 13) (h2 : r ≠ 0) : clean b (r :: t) = (r : Int) :: clean false t := by simp [clean, h, h1, h2]
theorem clean_true (t : List Nat) (h : ∀ u, t ≠ 10 :: u) : clean true t = clean false t := by
  rcases t with _ | ⟨r, u⟩
  · rfl
  · have hr : r ≠ 10 := fun e => h u (by rw [e])
    simp [clean, hr]

/-- numbers as bytes -/
def bytesOf (xs : List Int) : List UInt8 := xs.map fun n => UInt8.ofNat n.toNat
/-- what source.Decode answers -/
def dec (xs : List Int) : List Int := clean false (runesB (bytesOf xs))
theorem bytesOf_length (xs : List Int) : (bytesOf xs).length = xs.length := by simp [bytesOf]

/-- a rune that may be, and that is neither 0 nor 13 -/
def Good (x : Int) : Prop := x ≠ 13 ∧ 0 < x ∧ x ≤ 1114111 ∧ (x < 55296 ∨ 57343 < x)
theorem decodeL_valid (l : List UInt8) : (decodeL l).1 < 55296 ∨ (57343 < (decodeL l).1 ∧ (decodeL l).1 ≤ 1114111) := by
  rw [decodeL_N]; exact decodeN_valid _ _ _ _ _ (UInt8.toNat_lt _)
theorem runesB_valid (l : List UInt8) : ∀ r ∈ runesB l, r < 55296 ∨ (57343 < r ∧ r ≤ 1114111) := by
  obtain ⟨n, hn⟩ : ∃ n, l.length ≤ n := ⟨_, Nat.le_refl _⟩
  induction n generalizing l with
  | zero =>
    have : l = [] := List.eq_nil_of_length_eq_zero (by omega)
    subst this; simp [runesB_nil]
  | succ n ih =>
    by_cases hne : l = []
    · subst hne; simp [runesB_nil]
    · rw [runesB_step l hne]
      have hw := decodeL_width l
      have hl : 0 < l.length := List.length_pos_iff.2 hne
      intro r hr
      rcases List.mem_cons.1 hr with h | h
      · rw [h]; exact decodeL_valid l
      · exact ih (l.drop (decodeL l).2) (by rw [List.length_drop]; omega) r h
theorem clean_good : ∀ (b : Bool) (l : List Nat), (∀ r ∈ l, r < 55296 ∨ (57343 < r ∧ r ≤ 1114111)) → ∀ x ∈ clean b l, Good x
  | _, [], _ => by simp [clean]
  | b, r :: t, h => by
    intro x hx
    rw [clean] at hx
    rcases List.mem_append.1 hx with hx | hx
    · have hr := h r (by simp)
      unfold Good
      split at hx
      · simp at hx
      · split at hx
        · simp at hx; omega
        · split at hx
          · simp at hx; omega
          · simp at hx; omega
    · exact clean_good _ t (fun r hr => h r (by simp [hr])) x hx
theorem dec_good (xs : List Int) : ∀ x ∈ dec xs, Good x := clean_good _ _ (runesB_valid _)
theorem clean_length : ∀ (b : Bool) (l : List Nat), (clean b l).length ≤ l.length
  | _, [] => by simp [clean]
  | b, r :: t => by
    rw [clean, List.length_append, List.length_cons]
    have := clean_length (decide (r = 13)) t
    have h1 : (if r = 10 ∧ b = true then ([] : List Int) else if r = 13 then [10] else if r = 0 then [65533] else [(r : Int)]).length ≤ 1 := by
      repeat' split
      all_goals simp
    omega
theorem runesB_length (l : List UInt8) : (runesB l).length ≤ l.length := by
  obtain ⟨n, hn⟩ : ∃ n, l.length ≤ n := ⟨_, Nat.le_refl _⟩
  induction n generalizing l with
  | zero =>
    have : l = [] := List.eq_nil_of_length_eq_zero (by omega)
    subst this; simp [runesB_nil]
  | succ n ih =>
    by_cases hne : l = []
    · subst hne; simp [runesB_nil]
    · rw [runesB_step l hne]
      have hw := decodeL_width l
      have hl : 0 < l.length := List.length_pos_iff.2 hne
      have := ih (l.drop (decodeL l).2) (by rw [List.length_drop]; omega)
      rw [List.length_drop] at this
      simp only [List.length_cons]
      omega
theorem dec_length (xs : List Int) : (dec xs).length ≤ xs.length := by
  have h1 := clean_length false (runesB (bytesOf xs))
  have h2 := runesB_length (bytesOf xs)
  rw [bytesOf_length] at h2
  unfold dec; omega

/-! ### what is decoded again stays -/
theorem clean_same : ∀ (l : List Nat), (∀ r ∈ l, r ≠ 13 ∧ r ≠ 0) → clean false l = l.map (fun r : Nat => (r : Int))
  | [], _ => rfl
  | r :: t, h => by
    have hr := h r (by simp)
    rw [clean]
    simp only [hr.1, hr.2, if_false, decide_false, Bool.false_eq_true, and_false]
    rw [clean_same t (fun r hr => h r (by simp [hr]))]
    rfl
theorem getD_enc (x : Int) : x.toNat.toUInt8.toNat = x.toNat % 256 := by simp
set_option maxRecDepth 100000 in
set_option maxHeartbeats 4000000 in
theorem decode_encode (r : Nat) (h : r < 55296 ∨ (57343 < r ∧ r ≤ 1114111)) (t : List UInt8) : decodeL (encodeRune r ++ t) = (r, (encodeRune r).length) := by
  rw [decodeL_N]
  unfold encodeRune
  by_cases c1 : r ≤ 127
  · rw [encodeRuneZ_one (by omega) (by omega)]
    simp only [List.map_cons, List.map_nil, List.cons_append, List.nil_append, List.length_cons, List.getD_cons_zero, getD_enc]
    rw [decodeN_ascii _ _ _ _ _ (by omega)]
    simp; omega
  · by_cases c2 : r ≤ 2047
    · rw [encodeRuneZ_two (by omega) (by omega)]
      simp only [List.map_cons, List.map_nil, List.cons_append, List.nil_append, List.length_cons, List.length_nil, List.getD_cons_zero, List.getD_cons_succ, getD_enc]
      generalize (t.getD 0 0).toNat = u0
      generalize (t.getD 1 0).toNat = u1
      unfold decodeN
      rw [if_neg (by omega), if_pos (by omega), if_pos (by omega)]
      apply Prod.ext <;> simp only <;> omega
    · by_cases c3 : r ≤ 65535
      · rw [encodeRuneZ_three (by omega)]
        simp only [List.map_cons, List.map_nil, List.cons_append, List.nil_append, List.length_cons, List.length_nil, List.getD_cons_zero, List.getD_cons_succ, getD_enc]
        generalize (t.getD 0 0).toNat = u0
        unfold decodeN
        rw [if_neg (by omega), if_neg (by omega), if_pos (by omega), if_pos (by omega)]
        apply Prod.ext <;> simp only <;> omega
      · rw [encodeRuneZ_four (by omega) (by omega)]
        simp only [List.map_cons, List.map_nil, List.cons_append, List.nil_append, List.length_cons, List.length_nil, List.getD_cons_zero, List.getD_cons_succ, getD_enc]
        unfold decodeN
        rw [if_neg (by omega), if_neg (by omega), if_neg (by omega), if_pos (by omega), if_pos (by omega)]
        apply Prod.ext <;> simp only <;> omega
/-- the bytes of runes -/
def encB (ns : List Int) : List UInt8 := (ns.map encodeRune).flatten
theorem encode_ne (r : Int) : encodeRune r ≠ [] := by
  unfold encodeRune encodeRuneZ
  repeat' split
  all_goals simp
theorem runesB_encB : ∀ (ns : List Nat), (∀ r ∈ ns, r < 55296 ∨ (57343 < r ∧ r ≤ 1114111)) → runesB (encB (ns.map (fun r : Nat => (r : Int)))) = ns
  | [], _ => rfl
  | r :: t, h => by
    have e : encB ((r :: t).map (fun r : Nat => (r : Int))) = encodeRune r ++ encB (t.map (fun r : Nat => (r : Int))) := by simp [encB]
    have hd := decode_encode r (h r (by simp)) (encB (t.map (fun r : Nat => (r : Int))))
    rw [e, runesB_step _ (by simp [encode_ne]), hd]
    simp only [List.drop_left, List.cons.injEq, true_and]
    exact runesB_encB t (fun r hr => h r (by simp [hr]))
theorem encB_again (ns : List Int) (h : ∀ x ∈ ns, Good x) : clean false (runesB (encB ns)) = ns := by
  have hm : (ns.map Int.toNat).map (fun r : Nat => (r : Int)) = ns := by
    rw [List.map_map]
    conv => rhs; rw [← List.map_id ns]
    apply List.map_congr_left
    intro x hx
    have := (h x hx).2.1
    simp only [Function.comp, id]
    omega
  have h1 := runesB_encB (ns.map Int.toNat) (by
    intro r hr
    obtain ⟨x, hx, rfl⟩ := List.mem_map.1 hr
    have := h x hx
    unfold Good at this
    omega)
  rw [hm] at h1
  rw [h1, clean_same, hm]
  intro r hr
  obtain ⟨x, hx, rfl⟩ := List.mem_map.1 hr
  have := h x hx
  unfold Good at this
  omega

/-! ### two texts with a blank between -/
set_option maxRecDepth 100000 in
set_option maxHeartbeats 4000000 in
theorem decodeL_front (l s : List UInt8) (hne : l ≠ []) : decodeL (l ++ 32 :: s) = decodeL l := by
  rw [decodeL_N, decodeL_N]
  rcases l with _ | ⟨x0, _ | ⟨x1, _ | ⟨x2, _ | ⟨x3, l⟩⟩⟩⟩
  · exact absurd rfl hne
  all_goals
    simp only [List.cons_append, List.nil_append, List.length_cons, List.length_nil, List.length_append, List.getD_cons_zero, List.getD_cons_succ, List.getD_nil]
    have e32 : (32 : UInt8).toNat = 32 := rfl
    have e0 : (0 : UInt8).toNat = 0 := rfl
    try rw [e32]
    try rw [e0]
    unfold decodeN
  · generalize (s.getD 0 0).toNat = u0
    generalize (s.getD 1 0).toNat = u1
    repeat' split
    all_goals first | (exfalso; omega) | rfl
  · generalize (s.getD 0 0).toNat = u0
    repeat' split
    all_goals first | (exfalso; omega) | rfl
  · repeat' split
    all_goals first | (exfalso; omega) | rfl
  · repeat' split
    all_goals first | (exfalso; omega) | rfl
theorem decodeL_blank (s : List UInt8) : decodeL (32 :: s) = (32, 1) := by
  rw [decodeL_N]; simp only [List.getD_cons_zero]; rw [decodeN_ascii _ _ _ _ _ (by decide)]; rfl
theorem runesB_two (l s : List UInt8) : runesB (l ++ 32 :: s) = runesB l ++ 32 :: runesB s := by
  obtain ⟨n, hn⟩ : ∃ n, l.length ≤ n := ⟨_, Nat.le_refl _⟩
  induction n generalizing l with
  | zero =>
    have : l = [] := List.eq_nil_of_length_eq_zero (by omega)
    subst this
    rw [List.nil_append, runesB_step _ (by simp), decodeL_blank]
    rfl
  | succ n ih =>
    by_cases hne : l = []
    · subst hne
      rw [List.nil_append, runesB_step _ (by simp), decodeL_blank]
      rfl
    · have hw := decodeL_width l
      have hl : 0 < l.length := List.length_pos_iff.2 hne
      have hle := decodeL_le l hne
      rw [runesB_step _ (by simp), decodeL_front l s hne, runesB_step l hne, List.drop_append_of_le_length hle, ih _ (by rw [List.length_drop]; omega), List.cons_append]
theorem clean_two : ∀ (b : Bool) (l s : List Nat), clean b (l ++ 32 :: s) = clean b l ++ 32 :: clean false s
  | b, [], s => by simp [clean]
  | b, r :: t, s => by rw [List.cons_append, clean, clean_two _ t s, clean, List.append_assoc]
theorem dec_two (xs ys : List Int) : dec (xs ++ 32 :: ys) = dec xs ++ 32 :: dec ys := by
  unfold dec
  have : bytesOf (xs ++ 32 :: ys) = bytesOf xs ++ 32 :: bytesOf ys := by simp [bytesOf]
  rw [this, runesB_two, clean_two]

/-! ### how the walk meets it -/
theorem strOfNums_bytes (xs : List Int) : (strOfNums xs).data.toList = bytesOf xs := rfl
theorem decode_drop (xs : List Int) (pos : Nat) : Utf8.decode (strOfNums xs) pos = decodeL ((bytesOf xs).drop pos) := by
  rw [← strOfNums_bytes, decodeL_drop]
theorem runes_at (xs : List Int) (pos : Nat) (h : pos < xs.length) : runesB ((bytesOf xs).drop pos) = (Utf8.decode (strOfNums xs) pos).1 :: runesB ((bytesOf xs).drop (pos + (Utf8.decode (strOfNums xs) pos).2)) := by
  rw [runesB_step _ (by
    intro e
    have := congrArg List.length e
    rw [List.length_drop, bytesOf_length] at this
    simp at this; omega), List.drop_drop, decode_drop]
theorem runes_over (xs : List Int) (pos : Nat) (h : xs.length ≤ pos) : runesB ((bytesOf xs).drop pos) = [] := by
  rw [List.drop_eq_nil_of_le (by rw [bytesOf_length]; exact h)]; rfl
theorem width_le (xs : List Int) (pos : Nat) (h : pos < xs.length) : pos + (Utf8.decode (strOfNums xs) pos).2 ≤ xs.length := by
  rw [decode_drop]
  have := decodeL_le ((bytesOf xs).drop pos) (by
    intro e
    have := congrArg List.length e
    rw [List.length_drop, bytesOf_length] at this
    simp at this; omega)
  rw [List.length_drop, bytesOf_length] at this
  omega
theorem width_ge (xs : List Int) (pos : Nat) : 1 ≤ (Utf8.decode (strOfNums xs) pos).2 := width_pos _ _
theorem rune_small (xs : List Int) (pos : Nat) : (Utf8.decode (strOfNums xs) pos).1 ≤ 1114111 := rune_le _ _
end Go.Proofs.Fu
