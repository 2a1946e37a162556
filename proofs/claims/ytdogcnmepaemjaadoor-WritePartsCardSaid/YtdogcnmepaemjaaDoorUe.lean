/- Plain facts: runes as bytes and back, whatever the runes; references in a text and what they stand for. No walk. No conditions. -/
import Derived.Test.YtdogcnmepaemjaaDoorUtf
namespace Go.Proofs.Fe
set_option linter.unusedVariables false
open Go.Lib Go.Proofs.Fu

/-- a rune as it is written: what may not be is U+FFFD -/
def fix (r : Int) : Nat := if (0 ≤ r ∧ r < 55296) ∨ (57343 < r ∧ r ≤ 1114111) then r.toNat else 65533
theorem fix_valid (r : Int) : fix r < 55296 ∨ (57343 < fix r ∧ fix r ≤ 1114111) := by
  unfold fix; split <;> omega
theorem fix_of {r : Nat} (h : r < 55296 ∨ (57343 < r ∧ r ≤ 1114111)) : fix (r : Int) = r := by
  unfold fix; rw [if_pos (by omega)]; simp
theorem encode_fix (r : Int) : encodeRune r = encodeRune (fix r : Nat) := by
  unfold fix
  split
  · rename_i h
    congr 1; omega
  · rename_i h
    have e1 : ¬ (0 ≤ r ∧ r ≤ 127) := by omega
    have e2 : ¬ (128 ≤ r ∧ r ≤ 2047) := by omega
    have e3 : ¬ ((2048 ≤ r ∧ r < 55296) ∨ (57343 < r ∧ r ≤ 65535)) := by omega
    have e4 : ¬ (65536 ≤ r ∧ r ≤ 1114111) := by omega
    unfold encodeRune encodeRuneZ
    rw [if_neg e1, if_neg e2, if_neg e3, if_neg e4]
    rfl
theorem utf8_encode_fix (r : Int) : Utf8.encode r = Utf8.encode (fix r : Nat) := by
  have hv : Utf8.valid r = decide ((0 ≤ r ∧ r < 55296) ∨ (57343 < r ∧ r ≤ 1114111)) := by
    simp only [Utf8.valid]; rw [Bool.eq_iff_iff]; simp; omega
  unfold fix
  split
  · rename_i h
    congr 1; omega
  · rename_i h
    rw [decide_eq_false h] at hv
    have hv2 : Utf8.valid ((65533 : Nat) : Int) = true := by decide
    simp only [Utf8.encode, hv, hv2, if_true, Utf8.runeError]
    rfl
theorem encB_cons (r : Int) (t : List Int) : encB (r :: t) = encodeRune r ++ encB t := by simp [encB]
theorem encB_append (a b : List Int) : encB (a ++ b) = encB a ++ encB b := by simp [encB]
theorem encB_nil : encB [] = [] := rfl
theorem encB_fix (ns : List Int) : encB ns = encB (ns.map (fun r => (fix r : Int))) := by
  induction ns with
  | nil => rfl
  | cons r t ih => rw [encB_cons, List.map_cons, encB_cons, ih, encode_fix]
/-- runes, written and read again -/
theorem runes_enc (ns : List Int) : runesB (encB ns) = ns.map fix := by
  have h := runesB_encB (ns.map fix) (by
    intro r hr
    obtain ⟨x, _, rfl⟩ := List.mem_map.1 hr
    exact fix_valid x)
  rw [List.map_map] at h
  rw [encB_fix]
  exact h
theorem runes_two (ns : List Int) (l : List UInt8) : runesB (encB ns ++ l) = ns.map fix ++ runesB l := by
  induction ns with
  | nil => rfl
  | cons r t ih =>
    have hd := decode_encode (fix r) (fix_valid r) (encB t ++ l)
    rw [encB_cons, encode_fix, List.append_assoc, runesB_step _ (by simp [encode_ne]), hd, List.map_cons]
    simp only [List.drop_left, List.cons_append, List.cons.injEq, true_and]
    exact ih
/-- a text in which no rune is U+FFFD is its runes' bytes -/
theorem enc_runes (l : List UInt8) (h : ∀ r ∈ runesB l, r ≠ 65533) : encB ((runesB l).map (fun r : Nat => (r : Int))) = l := by
  obtain ⟨n, hn⟩ : ∃ n, l.length ≤ n := ⟨_, Nat.le_refl _⟩
  induction n generalizing l with
  | zero =>
    have : l = [] := List.eq_nil_of_length_eq_zero (by omega)
    subst this; rfl
  | succ n ih =>
    by_cases hne : l = []
    · subst hne; rfl
    · have hw := decodeL_width l
      have hl : 0 < l.length := List.length_pos_iff.2 hne
      rw [runesB_step l hne] at h ⊢
      rw [List.map_cons, encB_cons, ih (l.drop (decodeL l).2) (fun r hr => h r (List.mem_cons_of_mem _ hr)) (by rw [List.length_drop]; omega), encode_decode l hne (fun e => h _ (by simp) e.1), List.take_append_drop]
/-- what the writing of a text's runes gives, if it is the text itself -/
theorem enc_small {r : Nat} (h : r < 128) : encodeRune (r : Int) = [UInt8.ofNat r] := by
  unfold encodeRune
  rw [encodeRuneZ_one (by omega) (by omega)]
  simp
theorem enc_high (r : Int) (h : r < 0 ∨ 128 ≤ r) : ∀ b ∈ encodeRune r, 128 ≤ b.toNat := by
  unfold encodeRune encodeRuneZ
  intro b hb
  have e1 : ¬ (0 ≤ r ∧ r ≤ 127) := by omega
  rw [if_neg e1] at hb
  obtain ⟨x, hx, rfl⟩ := List.mem_map.1 hb
  have hx2 : 128 ≤ x ∧ x < 256 := by
    split at hx
    · simp at hx; omega
    · split at hx
      · simp at hx; omega
      · split at hx
        · simp at hx; omega
        · simp at hx; omega
  simp; omega
/-- no byte of a rune that is not c is c, for c below 128 -/
theorem enc_not (r : Int) (c : UInt8) (hc : c.toNat < 128) (h : r ≠ (c.toNat : Int)) : ∀ b ∈ encodeRune r, b ≠ c := by
  intro b hb e
  subst e
  by_cases h1 : 0 ≤ r ∧ r < 128
  · obtain ⟨k, rfl⟩ := Int.eq_ofNat_of_zero_le h1.1
    rw [enc_small (by omega)] at hb
    have := List.mem_singleton.1 hb
    rw [this] at h
    apply h
    simp; omega
  · have := enc_high r (by omega) b hb
    omega

/-! ### references -/
/-- the value of a digit -/
def dig (base : Nat) (c : UInt8) : Option Nat :=
  let n := c.toNat
  let v := if 48 ≤ n ∧ n ≤ 57 then n - 48 else if 97 ≤ n ∧ n ≤ 102 then n - 87 else if 65 ≤ n ∧ n ≤ 70 then n - 55 else 99
  if v < base then some v else none
def isDig (base : Nat) (c : UInt8) : Bool := (dig base c).isSome
def numOf (base : Nat) (l : List UInt8) : Nat := l.foldl (fun n c => n * base + (dig base c).getD 0) 0
/-- the rune that a number stands for -/
def runeNum (n : Nat) : Nat := if n = 0 ∨ 1114111 < n ∨ (55296 ≤ n ∧ n ≤ 57343) then 65533 else n
/-- a reference by number behind '&#': the base, how many bytes ahead of the digits, the rest -/
def numRef (base pre : Nat) (t : List UInt8) : Option (List UInt8 × Nat) :=
  let ds := t.takeWhile (isDig base)
  if ds = [] ∨ 8 < ds.length ∨ (t.drop ds.length).head? ≠ some 59 then none
  else some (encodeRune (runeNum (numOf base ds) : Nat), pre + ds.length + 1)
/-- the reference at the beginning of a text: what stands for it, how long it is -/
def refAt (s : List UInt8) : Option (List UInt8 × Nat) :=
  if [38, 97, 109, 112, 59] <+: s then some ([38], 5)
  else if [38, 108, 116, 59] <+: s then some ([60], 4)
  else if [38, 103, 116, 59] <+: s then some ([62], 4)
  else if [38, 113, 117, 111, 116, 59] <+: s then some ([34], 6)
  else if [38, 97, 112, 111, 115, 59] <+: s then some ([39], 6)
  else if [38, 110, 98, 115, 112, 59] <+: s then some ([194, 160], 6)
  else match s with
    | _ :: c :: t => if c = 35 then (match t with
        | d :: u => if d = 120 ∨ d = 88 then numRef 16 3 u else numRef 10 2 t
        | [] => none) else none
    | _ => none
def unescF : Nat → List UInt8 → List UInt8
  | 0, _ => []
  | f + 1, l => match l with
    | [] => []
    | c :: t => if c = 38 then (match refAt l with
        | some (x, k) => x ++ unescF f (l.drop k)
        | none => c :: unescF f t) else c :: unescF f t
/-- mark.Unescape -/
def unesc (l : List UInt8) : List UInt8 := unescF l.length l
theorem numRef_pos {base pre : Nat} {t : List UInt8} {x : List UInt8} {k : Nat} (h : numRef base pre t = some (x, k)) : 1 ≤ k ∧ x ≠ [] ∧ k ≤ pre + t.length := by
  simp only [numRef] at h
  split at h
  · cases h
  · rename_i hc
    injection h with h
    injection h with h1 h2
    have hp : (t.takeWhile (isDig base)).length + 1 ≤ t.length := by
      have h3 : (t.drop (t.takeWhile (isDig base)).length).head? = some 59 := by
        by_cases e : (t.drop (t.takeWhile (isDig base)).length).head? = some 59
        · exact e
        · exact absurd (Or.inr (Or.inr e)) hc
      have h4 : t.drop (t.takeWhile (isDig base)).length ≠ [] := by intro e; rw [e] at h3; cases h3
      have := List.length_pos_iff.2 h4
      rw [List.length_drop] at this
      omega
    refine ⟨by omega, ?_, by omega⟩
    rw [← h1]; exact encode_ne _
theorem refAt_pos {s x : List UInt8} {k : Nat} (h : refAt s = some (x, k)) : 1 ≤ k ∧ x ≠ [] ∧ k ≤ s.length := by
  unfold refAt at h
  have go : ∀ (p y : List UInt8) (m : Nat), m = p.length → 1 ≤ m → y ≠ [] → p <+: s → (some (y, m) : Option (List UInt8 × Nat)) = some (x, k) → 1 ≤ k ∧ x ≠ [] ∧ k ≤ s.length := by
    intro p y m hm h1 h2 hp e
    injection e with e; injection e with e1 e2
    subst e1 e2
    exact ⟨h1, h2, by rw [hm]; exact hp.length_le⟩
  split at h
  · rename_i hp; refine go _ _ _ ?_ ?_ ?_ hp h <;> simp
  · split at h
    · rename_i hp; refine go _ _ _ ?_ ?_ ?_ hp h <;> simp
    · split at h
      · rename_i hp; refine go _ _ _ ?_ ?_ ?_ hp h <;> simp
      · split at h
        · rename_i hp; refine go _ _ _ ?_ ?_ ?_ hp h <;> simp
        · split at h
          · rename_i hp; refine go _ _ _ ?_ ?_ ?_ hp h <;> simp
          · split at h
            · rename_i hp; refine go _ _ _ ?_ ?_ ?_ hp h <;> simp
            · split at h
              · split at h
                · split at h
                  · split at h
                    · have := numRef_pos h; simp only [List.length_cons]; exact ⟨this.1, this.2.1, by omega⟩
                    · have := numRef_pos h; simp only [List.length_cons] at this ⊢; exact ⟨this.1, this.2.1, by omega⟩
                  · cases h
                · cases h
              · cases h
theorem unescF_fuel : ∀ (n m : Nat) (l : List UInt8), l.length ≤ n → l.length ≤ m → unescF n l = unescF m l
  | 0, m, l, hn, _ => by
    have : l = [] := List.eq_nil_of_length_eq_zero (by omega)
    subst this; cases m <;> simp [unescF]
  | n + 1, 0, l, _, hm => by
    have : l = [] := List.eq_nil_of_length_eq_zero (by omega)
    subst this; simp [unescF]
  | n + 1, m + 1, l, hn, hm => by
    rcases l with _ | ⟨c, t⟩
    · simp [unescF]
    · simp only [List.length_cons] at hn hm
      simp only [unescF]
      split
      · split
        · rename_i x k hk
          have := refAt_pos hk
          rw [unescF_fuel n m _ (by rw [List.length_drop, List.length_cons]; omega) (by rw [List.length_drop, List.length_cons]; omega)]
        · rw [unescF_fuel n m t (by omega) (by omega)]
      · rw [unescF_fuel n m t (by omega) (by omega)]
theorem unesc_nil : unesc [] = [] := rfl
theorem unesc_plain (c : UInt8) (t : List UInt8) (h : c ≠ 38) : unesc (c :: t) = c :: unesc t := by
  unfold unesc; simp only [List.length_cons, unescF, h, if_false]
theorem unesc_ref {l x : List UInt8} {k : Nat} (h : refAt l = some (x, k)) (h38 : l.head? = some 38) : unesc l = x ++ unesc (l.drop k) := by
  rcases l with _ | ⟨c, t⟩
  · cases h38
  · simp only [List.head?_cons, Option.some.injEq] at h38
    subst h38
    have := refAt_pos h
    unfold unesc
    simp only [List.length_cons, unescF, if_true, h]
    rw [unescF_fuel t.length _ _ (by rw [List.length_drop, List.length_cons]; omega) (Nat.le_refl _)]
theorem unesc_none {t : List UInt8} (h : refAt (38 :: t) = none) : unesc (38 :: t) = 38 :: unesc t := by
  unfold unesc
  simp only [List.length_cons, unescF, if_true, h]
theorem unesc_app : ∀ (a b : List UInt8), (∀ c ∈ a, c ≠ 38) → unesc (a ++ b) = a ++ unesc b
  | [], b, _ => rfl
  | c :: t, b, h => by rw [List.cons_append, unesc_plain _ _ (h c (by simp)), unesc_app t b (fun x hx => h x (by simp [hx])), List.cons_append]
theorem unesc_same (a : List UInt8) (h : ∀ c ∈ a, c ≠ 38) : unesc a = a := by
  have := unesc_app a [] h
  rw [List.append_nil, unesc_nil, List.append_nil] at this
  exact this
theorem unesc_ne {l : List UInt8} (h : l ≠ []) : unesc l ≠ [] := by
  rcases l with _ | ⟨c, t⟩
  · exact absurd rfl h
  · by_cases hc : c = 38
    · subst hc
      rcases hr : refAt (38 :: t) with _ | ⟨x, k⟩
      · rw [unesc_none hr]; simp
      · rw [unesc_ref hr rfl]
        have := refAt_pos hr
        simp [this.2.1]
    · rw [unesc_plain _ _ hc]; simp
end Go.Proofs.Fe
