/- References in a text: a digit, a number, a reference, all of them. No conditions but that the text is not endless. -/
import Derived.Test.YtnpoipjnnlbnfaaDoorVd
namespace Go.Proofs.YtnpoipjnnlbnfaaDoor
set_option linter.unusedVariables false
open Go.RowKit Go.Proofs.Fm Go.Proofs.Fb Go.Proofs.Fk Go.Proofs.Fe

/-- what a digit is worth; 16 or more: it is none -/
def digV (n : Nat) : Nat := if 48 ≤ n ∧ n ≤ 57 then n - 48 else if 97 ≤ n ∧ n ≤ 102 then n - 87 else if 65 ≤ n ∧ n ≤ 70 then n - 55 else 16
theorem dig_digV {base : Nat} (hb : base ≤ 16) (c : UInt8) : dig base c = if digV c.toNat < base then some (digV c.toNat) else none := by
  unfold dig digV
  simp only
  have : c.toNat < 256 := c.toNat_lt
  by_cases h1 : 48 ≤ c.toNat ∧ c.toNat ≤ 57
  · simp only [if_pos h1]
  · by_cases h2 : 97 ≤ c.toNat ∧ c.toNat ≤ 102
    · simp only [if_neg h1, if_pos h2]
    · by_cases h3 : 65 ≤ c.toNat ∧ c.toNat ≤ 70
      · simp only [if_neg h1, if_neg h2, if_pos h3]
      · simp only [if_neg h1, if_neg h2, if_neg h3]
        rw [if_neg (by omega), if_neg (by omega)]
theorem isDig_digV {base : Nat} (hb : base ≤ 16) (c : UInt8) : isDig base c = decide (digV c.toNat < base) := by
  unfold isDig
  rw [dig_digV hb]
  split
  · rename_i h; rw [decide_eq_true h]; rfl
  · rename_i h; rw [decide_eq_false h]; rfl
theorem digit_any (c : UInt8) (w : World) : Calls Tryd.prog 83 #[.int .u8 (c.toNat : Int)] w fun e w' => e = .returned (.int .i64 (digV c.toNat : Int)) ∧ ∃ q, w.drewN q = w' := by
  have hc := c.toNat_lt
  obtain ⟨n, hn⟩ : ∃ n, c.toNat = n := ⟨_, rfl⟩
  rw [hn] at hc ⊢
  clear hn
  go_enter Tryd.func83, Tryd.ntmps83
  go_wp2
  all_goals (go_ret; refine ⟨ret_int ?_, 0, rfl⟩; unfold digV; repeat' split)
  all_goals omega
theorem meant_any (n : Nat) (h : n < 4294967296) (w : World) : Calls Tryd.prog 84 #[.int .i64 (n : Int)] w fun e w' => e = .returned (.int .i32 (runeNum n : Int)) ∧ ∃ q, w.drewN q = w' := by
  go_enter Tryd.func84, Tryd.ntmps84
  go_wp2
  all_goals (go_ret; refine ⟨ret_int ?_, 0, rfl⟩; unfold runeNum; repeat' split)
  all_goals first | omega | (simp only [beq_iff_eq] at *; omega)
theorem numOf_snoc (base : Nat) (l : List UInt8) (c : UInt8) (hb : base ≤ 16) (hd : digV c.toNat < base) : numOf base (l ++ [c]) = numOf base l * base + digV c.toNat := by
  rw [numOf_app, dig_digV hb, if_pos hd]; rfl
/-- the list behind a place, one byte at a time -/
theorem drop_byte (l : List UInt8) {i : Nat} (h : i < l.length) : l.drop i = l.getD i 0 :: l.drop (i + 1) := by
  rw [List.drop_eq_getElem_cons h]; simp [h]
theorem size_data (s : ByteArray) : s.data.toList.length = s.size := by rw [Array.length_toList]; rfl
theorem take_snoc (t : List UInt8) {k : Nat} (h : k < t.length) : t.take (k + 1) = t.take k ++ [t.getD k 0] := by
  rw [List.take_succ_eq_append_getElem h]; simp [h]
theorem tw_split (p : UInt8 → Bool) : ∀ (t : List UInt8) (k : Nat), (∀ c ∈ t.take k, p c = true) → t.takeWhile p = t.take k ++ (t.drop k).takeWhile p
  | t, 0, _ => by simp
  | [], k + 1, _ => by simp
  | a :: t, k + 1, h => by
    have ih := tw_split p t k (fun c hc => h c (by simp [hc]))
    simp [h a (by simp), ih]
/-- what a reference by number gives, from what was gone over -/
theorem numRef_of {base pre k : Nat} {t : List UInt8} (hk : k ≤ t.length) (hd : ∀ c ∈ t.take k, isDig base c = true) (h8 : k ≤ 8) (hstop : k = 8 ∨ k = t.length ∨ isDig base (t.getD k 0) = false) (h59 : isDig base 59 = false) :
    numRef base pre t = if k = 0 ∨ k = t.length ∨ t.getD k 0 ≠ 59 then none else some (Lib.encodeRune (runeNum (numOf base (t.take k)) : Nat), pre + k + 1) := by
  have hsp := tw_split (isDig base) t k hd
  have hlk : (t.take k).length = k := by rw [List.length_take]; omega
  by_cases hb : isDig base (t.getD k 0) = true ∧ k < t.length
  · -- a digit too many
    have h88 : k = 8 := by
      rcases hstop with h | h | h
      · exact h
      · omega
      · rw [h] at hb; exact absurd hb.1 (by simp)
    have hdr := drop_byte t hb.2
    rw [hdr] at hsp
    simp only [List.takeWhile_cons, hb.1, if_true] at hsp
    have hl : 8 < (t.takeWhile (isDig base)).length := by rw [hsp]; simp only [List.length_append, List.length_cons, hlk]; omega
    simp only [numRef]
    rw [if_pos (.inr (.inl hl)), if_pos (.inr (.inr (fun e => by rw [e, h59] at hb; exact absurd hb.1 (by simp))))]
  · have hrest : (t.drop k).takeWhile (isDig base) = [] := by
      by_cases hl : k < t.length
      · rw [drop_byte t hl, List.takeWhile_cons, if_neg (fun h => hb ⟨h, hl⟩)]
      · rw [List.drop_eq_nil_of_le (by omega)]; rfl
    rw [hrest, List.append_nil] at hsp
    have hh : (t.drop k).head? = some 59 ↔ k ≠ t.length ∧ t.getD k 0 = 59 := by
      by_cases hl : k < t.length
      · rw [drop_byte t hl]
        simp only [List.head?_cons, Option.some.injEq]
        exact ⟨fun e => ⟨by omega, e⟩, fun e => e.2⟩
      · rw [List.drop_eq_nil_of_le (by omega)]
        constructor
        · intro e; cases e
        · intro e; exact absurd (by omega) e.1
    simp only [numRef, hsp, hlk]
    have hiff : (t.take k = [] ∨ 8 < k ∨ (t.drop k).head? ≠ some 59) ↔ (k = 0 ∨ k = t.length ∨ t.getD k 0 ≠ 59) := by
      constructor
      · rintro (h | h | h)
        · left; rw [h] at hlk; simpa using hlk.symm
        · omega
        · by_cases e : k = t.length
          · exact .inr (.inl e)
          · exact .inr (.inr (fun e2 => h (hh.2 ⟨e, e2⟩)))
      · rintro (h | h | h)
        · left; rw [h]; rfl
        · exact .inr (.inr (fun e => (hh.1 e).1 h))
        · exact .inr (.inr (fun e => h (hh.1 e).2))
    by_cases c : k = 0 ∨ k = t.length ∨ t.getD k 0 ≠ 59
    · rw [if_pos (hiff.2 c), if_pos c]
    · rw [if_neg (fun h => c (hiff.1 h)), if_neg c]

theorem isDig_59 {base : Nat} (hb : base ≤ 16) : isDig base 59 = false := by
  rw [isDig_digV hb]
  exact decide_eq_false (by show ¬ (16 < base); omega)
theorem pow16 {k : Nat} (h : k ≤ 8) : 16 ^ k ≤ 4294967296 := by
  have := Nat.pow_le_pow_right (n := 16) (by omega) h
  omega
theorem str_get (s : ByteArray) {i : Nat} (h : i < s.size) : s.data.toList.getD i 0 = s[i]'h := by
  have h' : i < s.data.size := h
  simp only [List.getD_eq_getElem?_getD, Array.getElem?_toList, Array.getElem?_eq_getElem h', Option.getD_some]
  rfl
theorem enc_bytes (r : Int) : Utf8.encode r = ⟨(Lib.encodeRune r).toArray⟩ := by
  apply ByteArray.ext
  apply Array.toList_inj.1
  rw [enc_one]
/-- what escape and numbered hand back -/
def refOut (o : Option (List UInt8 × Nat)) : Value := match o with
  | some (x, k) => .tuple #[.string ⟨x.toArray⟩, .int .i64 (k : Int)]
  | none => .tuple #[.string ⟨#[]⟩, .int .i64 0]
set_option maxHeartbeats 4000000 in
set_option maxRecDepth 100000 in
theorem numbered_any (s : ByteArray) (pre base : Nat) (hb : base ≤ 16) (hb2 : 2 ≤ base) (hp : pre ≤ s.size) (hs : s.size ≤ 4294967296) (w : World) :
    Calls Tryd.prog 58 #[.string s, .int .i64 (pre : Int), .int .i64 (base : Int)] w fun e w' => e = .returned (refOut (numRef base pre (s.data.toList.drop pre))) ∧ ∃ q, w.drewN q = w' := by
  have hz := size_data s
  obtain ⟨t, ht⟩ : ∃ t, s.data.toList.drop pre = t := ⟨_, rfl⟩
  have htl : t.length = s.size - pre := by rw [← ht, List.length_drop, hz]
  have HG : Hid (∀ (k : Nat) (h : pre + k < s.size), t.getD k 0 = s[pre + k]'h) := Lib.hid (fun k h => by
    rw [← str_get s h, ← ht]; simp [List.getD_eq_getElem?_getD])
  rw [ht]
  clear ht hz
  go_enter Tryd.func58, Tryd.ntmps58
  go_wp2
  go_loopw [8, 9] (fun v i wr => ∃ k N q : Nat, k ≤ 8 ∧ pre + k ≤ s.size ∧ i = .int .i64 ((pre + k : Nat) : Int) ∧ v = .int .i64 (N : Int) ∧ N < 16 ^ k ∧ Hid (N = numOf base (t.take k)) ∧ Hid (∀ c ∈ t.take k, isDig base c = true) ∧ wr = w.drewN q) (fun _ i _ => s.size - (intOf i).toNat)
  case atStart => exact ⟨0, 0, 0, by omega, by omega, rfl, rfl, by simp, Lib.hid rfl, Lib.hid (by simp), rfl⟩
  case round =>
    obtain ⟨k, N, q, hk8, hks, rfl, rfl, hN, hNe, hda, rfl⟩ := hrel
    have hpw := pow16 hk8
    have HNE := Lib.hid (show (16 : Nat) ^ (k + 1) = 16 ^ k * 16 from Nat.pow_succ 16 k)
    obtain ⟨a, ha⟩ : ∃ a, pre + k = a := ⟨_, rfl⟩
    have HGK := HG.out k
    rw [ha] at hks HGK ⊢
    have HA := Lib.hid ha
    by_cases hend : a < s.size ∧ k < 8 ∧ isDig base (t.getD k 0) = true
    · obtain ⟨h1, h2, h3⟩ := hend
      have hc := HGK h1
      rw [isDig_digV hb, decide_eq_true_eq] at h3
      have HC := Lib.hid hc
      have HD := Lib.hid (fun W => digit_any (s[a]'h1) W)
      rw [hc] at h3
      obtain ⟨d, hd⟩ : ∃ d, digV (s[a]'h1).toNat = d := ⟨_, rfl⟩
      rw [hd] at h3 HD
      have HDD := Lib.hid hd
      have i2 : (a : Int) - (pre : Int) < 8 := by omega
      have i3 : (d : Int) < (base : Int) := by omega
      have i4 : (a : Int) < (s.size : Int) := by omega
      obtain ⟨P, hP⟩ : ∃ P : Nat, N * base = P := ⟨_, rfl⟩
      have hP1 : P ≤ 68719476736 := by
        have := Nat.mul_le_mul (Nat.le_of_lt (Nat.lt_of_lt_of_le hN hpw)) hb
        omega
      have i5 : (N : Int) * (base : Int) = (P : Int) := by rw [← hP, Int.natCast_mul]
      have HP := Lib.hid hP
      have HN := Lib.hid hN
      clear hc hd hP HGK ha hpw hN
      go_wp2_with (go_at_call 83; refine (HD.out _).mono ?_; rintro e w1 ⟨rfl, q1, rfl⟩)
      go_roundw
      case rel =>
        have hm := HA.out
        have hkt : k < t.length := by omega
        have hts := take_snoc t hkt
        refine ⟨k + 1, P + d, _, by omega, by omega, ?_, ?_, ?_, Lib.hid ?_, Lib.hid ?_, rfl⟩
        · go_num
        · go_num
        · rw [HNE.out, ← HP.out]
          have := HN.out
          have h6 := Nat.mul_le_mul_left N hb
          omega
        · rw [hts, numOf_snoc base _ _ hb (by rw [HC.out, HDD.out]; exact h3), ← hNe.out, HC.out, HDD.out, HP.out]
        · intro c hc
          rw [hts] at hc
          rcases List.mem_append.1 hc with hc | hc
          · exact hda.out c hc
          · rw [List.mem_singleton.1 hc, isDig_digV hb, HC.out, HDD.out]
            exact decide_eq_true h3
      case measure => simp [intOf]; omega
    · have hst : k = 8 ∨ k = t.length ∨ isDig base (t.getD k 0) = false := by
        by_cases c1 : k = 8
        · exact .inl c1
        · by_cases c2 : a < s.size
          · right; right
            rcases hx : isDig base (t.getD k 0) with _ | _
            · rfl
            · exact absurd ⟨c2, by omega, hx⟩ hend
          · right; left; omega
      have hres := numRef_of (base := base) (pre := pre) (k := k) (t := t) (by omega) hda.out hk8 hst (isDig_59 hb)
      rw [← hNe.out] at hres
      have hNlt : N < 4294967296 := by omega
      have HM := Lib.hid (fun W => meant_any N hNlt W)
      have HRES := Lib.hid hres
      have HST := Lib.hid hst
      have henc := enc_bytes (runeNum N : Nat)
      have HENC := Lib.hid henc
      clear hres hst hpw hN henc
      clear hend
      by_cases ca : a < s.size
      · have hc := HGK ca
        have HC := Lib.hid hc
        have i4 : (a : Int) < (s.size : Int) := by omega
        have i5 : ((a : Int) == (s.size : Int)) = false := by simp; omega
        have HKT := Lib.hid (show k ≠ t.length by omega)
        have HD := Lib.hid (fun W => digit_any (s[a]'ca) W)
        have hdg : k ≠ 8 → ¬ (digV (s[a]'ca).toNat < base) := fun hk => by
          rcases HST.out with h | h | h
          · exact absurd h hk
          · exact absurd h HKT.out
          · rw [hc, isDig_digV hb] at h
            exact of_decide_eq_false h
        obtain ⟨d, hd⟩ : ∃ d, digV (s[a]'ca).toNat = d := ⟨_, rfl⟩
        rw [hd] at hdg HD
        have HAL := Lib.hid ha
        clear hc HGK hd ha
        by_cases c0 : k = 0
        · have e0 : a = pre := by have := HAL.out; omega
          have i3 : ¬ (d < base) := hdg (by omega)
          have hr := HRES.out
          rw [if_pos (.inl c0)] at hr
          have HR := Lib.hid hr
          clear hr hdg c0 HAL HA hk8 htl
          subst e0
          go_wp2_with (first
            | (go_at_call 83; refine (HD.out _).mono ?_; rintro e w1 ⟨rfl, q1, rfl⟩)
            | (go_at_call 84; refine (HM.out _).mono ?_; rintro e w1 ⟨rfl, q2, rfl⟩))
          go_ret2
          exact ⟨by rw [HR.out]; rfl, _, rfl⟩
        · have i6 : ((a : Int) == (pre : Int)) = false := by have := HAL.out; simp; omega
          by_cases c59 : (s[a]'ca) = 59
          · have i7 : (((s[a]'ca).toNat : Int) != 59) = false := by rw [c59]; rfl
            have hr := HRES.out
            rw [if_neg (by rw [HC.out]; intro h; rcases h with h | h | h <;> first | exact c0 h | exact HKT.out h | exact h c59)] at hr
            have HR := Lib.hid hr
            clear hr c59
            by_cases c8 : k = 8
            · have i2 : ¬ ((a : Int) - (pre : Int) < 8) := by have := HAL.out; omega
              clear hdg c8 c0
              go_wp2_with (first
                | (go_at_call 83; refine (HD.out _).mono ?_; rintro e w1 ⟨rfl, q1, rfl⟩)
                | (go_at_call 84; refine (HM.out _).mono ?_; rintro e w1 ⟨rfl, q2, rfl⟩))
              go_ret2
              refine ⟨?_, _, rfl⟩
              rw [HR.out, HENC.out, HAL.out]; rfl
            · have i2 : (a : Int) - (pre : Int) < 8 := by have := HAL.out; omega
              have i3 : ¬ (d < base) := hdg c8
              clear hdg c8 c0
              go_wp2_with (first
                | (go_at_call 83; refine (HD.out _).mono ?_; rintro e w1 ⟨rfl, q1, rfl⟩)
                | (go_at_call 84; refine (HM.out _).mono ?_; rintro e w1 ⟨rfl, q2, rfl⟩))
              go_ret2
              refine ⟨?_, _, rfl⟩
              rw [HR.out, HENC.out, HAL.out]; rfl
          · have i7 : (((s[a]'ca).toNat : Int) != 59) = true := by
              simp only [bne_iff_ne, ne_eq]
              intro e
              exact c59 (UInt8.toNat_inj.1 (by show (s[a]'ca).toNat = 59; omega))
            have hr := HRES.out
            rw [if_pos (.inr (.inr (by rw [HC.out]; exact c59)))] at hr
            have HR := Lib.hid hr
            clear hr c59
            by_cases c8 : k = 8
            · have i2 : ¬ ((a : Int) - (pre : Int) < 8) := by have := HAL.out; omega
              clear hdg c8 c0
              go_wp2_with (first
                | (go_at_call 83; refine (HD.out _).mono ?_; rintro e w1 ⟨rfl, q1, rfl⟩)
                | (go_at_call 84; refine (HM.out _).mono ?_; rintro e w1 ⟨rfl, q2, rfl⟩))
              go_ret2
              exact ⟨by rw [HR.out]; rfl, _, rfl⟩
            · have i2 : (a : Int) - (pre : Int) < 8 := by have := HAL.out; omega
              have i3 : ¬ (d < base) := hdg c8
              clear hdg c8 c0
              go_wp2_with (first
                | (go_at_call 83; refine (HD.out _).mono ?_; rintro e w1 ⟨rfl, q1, rfl⟩)
                | (go_at_call 84; refine (HM.out _).mono ?_; rintro e w1 ⟨rfl, q2, rfl⟩))
              go_ret2
              exact ⟨by rw [HR.out]; rfl, _, rfl⟩
      · have i4 : ¬ ((a : Int) < (s.size : Int)) := by omega
        have i5 : ((a : Int) == (s.size : Int)) = true := by simp; omega
        have hr := HRES.out
        rw [if_pos (.inr (.inl (by omega)))] at hr
        have HR := Lib.hid hr
        clear hr HGK ha
        by_cases c0 : k = 0
        · have e0 : a = pre := by have := HA.out; omega
          clear c0 HA
          subst e0
          go_wp2
          go_ret2
          exact ⟨by rw [HR.out]; rfl, _, rfl⟩
        · have i6 : ((a : Int) == (pre : Int)) = false := by have := HA.out; simp; omega
          clear c0
          go_wp2
          go_ret2
          exact ⟨by rw [HR.out]; rfl, _, rfl⟩
end Go.Proofs.YtnpoipjnnlbnfaaDoor
