/- MarkNumeric walked. No conditions but what the world holds of the variables. -/
import Derived.Test.YtnpoipjnnlbnfaaDoorWa
namespace Go.Proofs.YtnpoipjnnlbnfaaDoor
set_option linter.unusedVariables false
open Go.RowKit Go.Proofs.Fe Go.Proofs.Fm Go.Proofs.Fb Go.Proofs.Fk Go.Proofs.Fs Go.Proofs.Fc Go.Proofs.Fu

theorem within_any (n : Int) (w : World) :
    Calls Tryd.prog 31 #[.int .i64 n, .int .i64 1, .int .i64 1114111] w fun e w' => ∃ m : Nat, 1 ≤ m ∧ m ≤ 1114111 ∧ e = .returned (.int .i64 (m : Int)) ∧ w = w' := by
  have key : -1114111 < Int.tmod n 1114111 ∧ Int.tmod n 1114111 < 1114111 := by
    obtain ⟨k, hk | hk⟩ := Int.eq_nat_or_neg n
    · subst hk
      have e : Int.tmod (k : Int) 1114111 = ((k % 1114111 : Nat) : Int) := rfl
      rw [e]; omega
    · subst hk
      have e : Int.tmod (k : Int) 1114111 = ((k % 1114111 : Nat) : Int) := rfl
      rw [Int.neg_tmod, e]; omega
  obtain ⟨b1, b2⟩ := key
  obtain ⟨r, hr⟩ : ∃ r, Int.tmod n 1114111 = r := ⟨_, rfl⟩
  rw [hr] at b1 b2
  by_cases hneg : r < 0
  · go_enter Tryd.func31, Tryd.ntmps31
    go_wp2
    go_ret
    exact ⟨(r + 1114111 + 1).toNat, by omega, by omega, ret_int (by omega), rfl⟩
  · go_enter Tryd.func31, Tryd.ntmps31
    go_wp2
    go_ret
    exact ⟨(r + 1).toNat, by omega, by omega, ret_int (by omega), rfl⟩
theorem digs_len (base n : Nat) (h2 : 2 ≤ base) (h3 : base ≤ 16) (hn : n < base ^ 8) (h0 : 0 < n) : (digs base n).length ≤ 8 := by
  unfold digs
  rw [if_neg (by omega)]
  exact (digsF_all base h2 h3 n n (Nat.le_refl _)).2.2.1 8 hn
theorem wantR (m : Nat) (h : 1 ≤ m ∧ m ≤ 1114111) : (runeNum m : Int) = if 55296 ≤ (m : Int) ∧ (m : Int) ≤ 57343 then 65533 else (m : Int) := by
  unfold runeNum
  by_cases c : 55296 ≤ m ∧ m ≤ 57343
  · rw [if_pos (by omega), if_pos (by omega)]; rfl
  · rw [if_neg (by omega), if_neg (by omega)]
set_option maxHeartbeats 4000000 in
set_option maxRecDepth 100000 in
theorem numeric_walk (w : World) (he : Env w) (n : Int) (_ : (Lit.int .i64 n).wf = true) :
    Calls Tryd.prog 10 #[.int .i64 n] w fun e w' => e = .returned (.bool true) ∧ Below w.heap.size w w' := by
  have HW := Lib.hid (within_any n w)
  have HE := Lib.hid (fun W (hb : Below w.heap.size w W) => he.below hb he.sz)
  clear he
  go_enter Tryd.func10, Tryd.ntmps10
  go_upto_region 2 with (go_at_call 31; refine (HW.out).mono ?_; rintro e w1 ⟨m, hm1, hm2, rfl, rfl⟩)
  have hd10 := digs_len 10 m (by omega) (by omega) (by omega) hm1
  have hd16 := digs_len 16 m (by omega) (by omega) (by omega) hm1
  have hn10 := numeric_dec hm1 hm2
  have hn16 := numeric_hex hm1 hm2
  obtain ⟨D, hD⟩ : ∃ D, digs 10 m = D := ⟨_, rfl⟩
  obtain ⟨X, hX⟩ : ∃ X, digs 16 m = X := ⟨_, rfl⟩
  have HD : Hid (∀ W, Calls Tryd.prog 32 #[.int .i64 (m : Int), .int .i64 10] W fun e w' => e = .returned (.string ⟨(digs 10 m).toArray⟩) ∧ ∃ q, W.drewN q = w') := Lib.hid (fun W => digits_any m 10 (.inl rfl) hm2 W)
  have HX : Hid (∀ W, Calls Tryd.prog 32 #[.int .i64 (m : Int), .int .i64 16] W fun e w' => e = .returned (.string ⟨(digs 16 m).toArray⟩) ∧ ∃ q, W.drewN q = w') := Lib.hid (fun W => digits_any m 16 (.inr rfl) hm2 W)
  rw [hD] at HD hn10 hd10
  rw [hX] at HX hn16 hd16
  have hw := wantR m ⟨hm1, hm2⟩
  obtain ⟨R, hR⟩ : ∃ R : Int, (runeNum m : Int) = R := ⟨_, rfl⟩
  rw [hR] at hw hn10 hn16
  have henc := enc_bytes R
  have hel := (enc_le R).2
  obtain ⟨E, hE⟩ : ∃ E, Lib.encodeRune R = E := ⟨_, rfl⟩
  rw [hE] at henc hn10 hn16 hel
  have HN10 : Hid (Fe.unesc (120 :: 38 :: 35 :: (D ++ [59, 121])) = 120 :: (E ++ [121])) := Lib.hid (by simpa using hn10)
  have HN16 : Hid (Fe.unesc (38 :: 35 :: 120 :: (X ++ [59])) = E) := Lib.hid (by simpa using hn16)
  have s1 : (⟨#[120, 38, 35]⟩ : ByteArray) ++ ⟨D.toArray⟩ = ⟨(120 :: 38 :: 35 :: D).toArray⟩ := cat_list [120, 38, 35] _
  have s2 : (⟨(120 :: 38 :: 35 :: D).toArray⟩ : ByteArray) ++ ⟨#[59, 121]⟩ = ⟨(120 :: 38 :: 35 :: (D ++ [59, 121])).toArray⟩ := cat_list (120 :: 38 :: 35 :: D) [59, 121]
  have s3 : (⟨#[120]⟩ : ByteArray) ++ ⟨E.toArray⟩ = ⟨(120 :: E).toArray⟩ := cat_list [120] _
  have s4 : (⟨(120 :: E).toArray⟩ : ByteArray) ++ ⟨#[121]⟩ = ⟨(120 :: (E ++ [121])).toArray⟩ := cat_list (120 :: E) [121]
  have s5 : (⟨#[38, 35, 120]⟩ : ByteArray) ++ ⟨X.toArray⟩ = ⟨(38 :: 35 :: 120 :: X).toArray⟩ := cat_list [38, 35, 120] _
  have s6 : (⟨(38 :: 35 :: 120 :: X).toArray⟩ : ByteArray) ++ ⟨#[59]⟩ = ⟨(38 :: 35 :: 120 :: (X ++ [59])).toArray⟩ := cat_list (38 :: 35 :: 120 :: X) [59]
  have z1 : (⟨#[120, 38, 35]⟩ : ByteArray).size + (⟨D.toArray⟩ : ByteArray).size ≤ 9223372036854775807 := by show 3 + D.length ≤ _; omega
  have z2 : (⟨(120 :: 38 :: 35 :: D).toArray⟩ : ByteArray).size + (⟨#[59, 121]⟩ : ByteArray).size ≤ 9223372036854775807 := by show (120 :: 38 :: 35 :: D).length + 2 ≤ _; simp; omega
  have z3 : (⟨#[120]⟩ : ByteArray).size + (⟨E.toArray⟩ : ByteArray).size ≤ 9223372036854775807 := by show 1 + E.length ≤ _; omega
  have z4 : (⟨(120 :: E).toArray⟩ : ByteArray).size + (⟨#[121]⟩ : ByteArray).size ≤ 9223372036854775807 := by show (120 :: E).length + 1 ≤ _; simp; omega
  have z5 : (⟨#[38, 35, 120]⟩ : ByteArray).size + (⟨X.toArray⟩ : ByteArray).size ≤ 9223372036854775807 := by show 3 + X.length ≤ _; omega
  have z6 : (⟨(38 :: 35 :: 120 :: X).toArray⟩ : ByteArray).size + (⟨#[59]⟩ : ByteArray).size ≤ 9223372036854775807 := by show (38 :: 35 :: 120 :: X).length + 1 ≤ _; simp; omega
  have hx1 : (⟨(120 :: 38 :: 35 :: (D ++ [59, 121])).toArray⟩ : ByteArray).size ≤ 1073741824 := by show (120 :: 38 :: 35 :: (D ++ [59, 121])).length ≤ _; simp; omega
  have hx2 : (⟨(38 :: 35 :: 120 :: (X ++ [59])).toArray⟩ : ByteArray).size ≤ 1073741824 := by show (38 :: 35 :: 120 :: (X ++ [59])).length ≤ _; simp; omega
  have hb0 : ∀ q, Below w.heap.size w (w.drewN q) := fun q => below_drewN (Below.refl _ w) q
  have HU1 : Hid (∀ W, Below w.heap.size w W → Calls Tryd.prog 16 #[.string ⟨(120 :: 38 :: 35 :: (D ++ [59, 121])).toArray⟩] W fun e w' => e = .returned (.string ⟨(120 :: (E ++ [121])).toArray⟩) ∧ Below w.heap.size w w') := Lib.hid (fun W hW => by
    refine (unescape_any _ hx1 (HE.out W hW)).mono ?_
    rintro e w' ⟨rfl, h⟩
    exact ⟨by rw [show Fe.unesc (⟨(120 :: 38 :: 35 :: (D ++ [59, 121])).toArray⟩ : ByteArray).data.toList = _ from HN10.out], hW.trans (h.mono hW.size)⟩)
  have HU2 : Hid (∀ W, Below w.heap.size w W → Calls Tryd.prog 16 #[.string ⟨(38 :: 35 :: 120 :: (X ++ [59])).toArray⟩] W fun e w' => e = .returned (.string ⟨E.toArray⟩) ∧ Below w.heap.size w w') := Lib.hid (fun W hW => by
    refine (unescape_any _ hx2 (HE.out W hW)).mono ?_
    rintro e w' ⟨rfl, h⟩
    exact ⟨by rw [show Fe.unesc (⟨(38 :: 35 :: 120 :: (X ++ [59])).toArray⟩ : ByteArray).data.toList = _ from HN16.out], hW.trans (h.mono hW.size)⟩)
  clear hD hX hR hE hn10 hn16
  by_cases c : 55296 ≤ (m : Int) ∧ (m : Int) ≤ 57343
  · rw [if_pos c] at hw
    subst hw
    obtain ⟨c1, c2⟩ := c
    go_wp2_with (first
      | (go_at_call 32; with_reducible refine (HD.out _).mono ?_; rintro e w2 ⟨rfl, q, rfl⟩)
      | (go_at_call 32; with_reducible refine (HX.out _).mono ?_; rintro e w4 ⟨rfl, q2, rfl⟩)
      | (go_at_call 16; with_reducible refine (HU1.out _ (hb0 _)).mono ?_; rintro e w3 ⟨rfl, h3⟩; have H3 := Lib.hid h3; clear h3)
      | (go_at_call 16; with_reducible refine (HU2.out _ (below_drewN H3.out _)).mono ?_; rintro e w5 ⟨rfl, h5⟩; have H5 := Lib.hid h5; clear h5)
      | (go_at_call 17; with_reducible refine (known_any (HE.out _ H5.out)).mono ?_; rintro e w6 ⟨rfl, h6⟩; have H6 := Lib.hid h6; clear h6))
    go_ret
    exact ⟨rfl, H5.out.trans (H6.out.mono H5.out.size)⟩
  · rw [if_neg c] at hw
    subst hw
    rcases Int.lt_or_le (m : Int) 55296 with c1 | c1
    · have c2 : ¬ (55296 ≤ (m : Int)) := by omega
      go_wp2_with (first
        | (go_at_call 32; with_reducible refine (HD.out _).mono ?_; rintro e w2 ⟨rfl, q, rfl⟩)
        | (go_at_call 32; with_reducible refine (HX.out _).mono ?_; rintro e w4 ⟨rfl, q2, rfl⟩)
        | (go_at_call 16; with_reducible refine (HU1.out _ (hb0 _)).mono ?_; rintro e w3 ⟨rfl, h3⟩; have H3 := Lib.hid h3; clear h3)
        | (go_at_call 16; with_reducible refine (HU2.out _ (below_drewN H3.out _)).mono ?_; rintro e w5 ⟨rfl, h5⟩; have H5 := Lib.hid h5; clear h5)
        | (go_at_call 17; with_reducible refine (known_any (HE.out _ H5.out)).mono ?_; rintro e w6 ⟨rfl, h6⟩; have H6 := Lib.hid h6; clear h6))
      go_ret
      exact ⟨rfl, H5.out.trans (H6.out.mono H5.out.size)⟩
    · have c2 : ¬ ((m : Int) ≤ 57343) := by omega
      go_wp2_with (first
        | (go_at_call 32; with_reducible refine (HD.out _).mono ?_; rintro e w2 ⟨rfl, q, rfl⟩)
        | (go_at_call 32; with_reducible refine (HX.out _).mono ?_; rintro e w4 ⟨rfl, q2, rfl⟩)
        | (go_at_call 16; with_reducible refine (HU1.out _ (hb0 _)).mono ?_; rintro e w3 ⟨rfl, h3⟩; have H3 := Lib.hid h3; clear h3)
        | (go_at_call 16; with_reducible refine (HU2.out _ (below_drewN H3.out _)).mono ?_; rintro e w5 ⟨rfl, h5⟩; have H5 := Lib.hid h5; clear h5)
        | (go_at_call 17; with_reducible refine (known_any (HE.out _ H5.out)).mono ?_; rintro e w6 ⟨rfl, h6⟩; have H6 := Lib.hid h6; clear h6))
      go_ret
      exact ⟨rfl, H5.out.trans (H6.out.mono H5.out.size)⟩
end Go.Proofs.YtnpoipjnnlbnfaaDoor
