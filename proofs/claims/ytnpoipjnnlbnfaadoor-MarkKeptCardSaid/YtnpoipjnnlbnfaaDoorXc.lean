/- casementref4's reference. No conditions but that the text is not endless. -/
import Derived.Test.YtnpoipjnnlbnfaaDoorXb
import Derived.Test.YtnpoipjnnlbnfaaDoorWh
namespace Go.Proofs.YtnpoipjnnlbnfaaDoor
set_option linter.unusedVariables false
open Go.RowKit Go.Proofs.Fe Go.Proofs.Fm Go.Proofs.Fb Go.Proofs.Fk Go.Proofs.Fs Go.Proofs.Fc Go.Proofs.Fu

theorem refTo_some (k m : Nat) (x : List UInt8) : refTo k (some (x, m)) = .tuple #[.string ⟨x.toArray⟩, .int .i64 ((k + m : Nat) : Int)] := rfl
theorem numRef_nine {base pre : Nat} {t : List UInt8} (h9 : 9 ≤ t.length) (hd : ∀ c ∈ t.take 9, isDig base c = true) : numRef base pre t = none := by
  have h := tw_split (isDig base) t 9 hd
  have hl : 9 ≤ (t.takeWhile (isDig base)).length := by rw [h, List.length_append, List.length_take]; omega
  unfold numRef
  simp only
  rw [if_pos (.inr (.inl (by omega)))]
theorem rune_text (R : Int) (W : World) : (convert 32 9 (.slice (some ⟨W.heap.size, 0, none⟩) 1 1)).run Tryd.prog (W.alloc (.cells #[.int .i32 R] 21)) = .ok (.string ⟨(Lib.encodeRune R).toArray⟩) (W.alloc (.cells #[.int .i32 R] 21)) := by
  have hx := Bk.new W 21 #[.int .i32 R]
  have h := runes_back (P := Tryd.prog) (W := W.alloc (.cells #[.int .i32 R] 21)) 32 9 21 W.heap.size 1 [R] Tryd.underlying32 Tryd.underlying21 Tryd.underlying9 (by
    intro _
    refine ⟨_, 0, rfl, fun j hj => ?_⟩
    obtain rfl : j = 0 := by simp at hj; omega
    exact hx.cell 0)
  have e : encB [R] = Lib.encodeRune R := by rw [encB_cons]; show _ ++ [] = _; rw [List.append_nil]
  rw [e] at h
  exact h
theorem nmT_cell : ∀ i, i < 6 → (#[.string ⟨#[38, 97, 109, 112, 59]⟩, .string ⟨#[38, 108, 116, 59]⟩, .string ⟨#[38, 103, 116, 59]⟩, .string ⟨#[38, 113, 117, 111, 116, 59]⟩, .string ⟨#[38, 97, 112, 111, 115, 59]⟩, .string ⟨#[38, 110, 98, 115, 112, 59]⟩] : Array Value)[i]? = some (.string ⟨(nmT i).toArray⟩)
  | 0, _ => rfl | 1, _ => rfl | 2, _ => rfl | 3, _ => rfl | 4, _ => rfl | 5, _ => rfl | n + 6, h => by omega
theorem rnT_cell : ∀ i, i < 6 → (#[.string ⟨#[38]⟩, .string ⟨#[60]⟩, .string ⟨#[62]⟩, .string ⟨#[34]⟩, .string ⟨#[39]⟩, .string ⟨#[194, 160]⟩] : Array Value)[i]? = some (.string ⟨(rnT i).toArray⟩)
  | 0, _ => rfl | 1, _ => rfl | 2, _ => rfl | 3, _ => rfl | 4, _ => rfl | 5, _ => rfl | n + 6, h => by omega
set_option maxHeartbeats 4000000 in
set_option maxRecDepth 100000 in
theorem reference_any (s : ByteArray) (k : Nat) (hk : k < s.size) (hs : s.size ≤ 1073741824) (w : World) :
    Calls Tryd.prog 52 #[.string s, .int .i64 (k : Int)] w fun e w' => e = .returned (refTo k (refAt (s.data.toList.drop k))) ∧ Below w.heap.size w w' := by
  obtain ⟨l, hl⟩ : ∃ l, s.data.toList.drop k = l := ⟨_, rfl⟩
  have HX := Lib.hid (fun p h => hl ▸ pre_ext s k p h)
  have HN := Lib.hid (fun p h hp => hl ▸ pre_no s k p h hp)
  have HL := Lib.hid hl
  rw [hl]
  obtain ⟨W2, hW⟩ : ∃ W, (w.alloc (.cells #[.string ⟨#[38, 97, 109, 112, 59]⟩, .string ⟨#[38, 108, 116, 59]⟩, .string ⟨#[38, 103, 116, 59]⟩, .string ⟨#[38, 113, 117, 111, 116, 59]⟩, .string ⟨#[38, 97, 112, 111, 115, 59]⟩, .string ⟨#[38, 110, 98, 115, 112, 59]⟩] 9)).alloc (.cells #[.string ⟨#[38]⟩, .string ⟨#[60]⟩, .string ⟨#[62]⟩, .string ⟨#[34]⟩, .string ⟨#[39]⟩, .string ⟨#[194, 160]⟩] 9) = W := ⟨_, rfl⟩
  have hB : Below w.heap.size w W2 := hW ▸ ((Below.refl _ w).alloc (Nat.le_refl _) _).alloc (by simp) _
  have hx1 := hW ▸ (Bk.new w 9 #[.string ⟨#[38, 97, 109, 112, 59]⟩, .string ⟨#[38, 108, 116, 59]⟩, .string ⟨#[38, 103, 116, 59]⟩, .string ⟨#[38, 113, 117, 111, 116, 59]⟩, .string ⟨#[38, 97, 112, 111, 115, 59]⟩, .string ⟨#[38, 110, 98, 115, 112, 59]⟩]).alloc _
  have hx2 := hW ▸ Bk.new (w.alloc _) 9 #[.string ⟨#[38]⟩, .string ⟨#[60]⟩, .string ⟨#[62]⟩, .string ⟨#[34]⟩, .string ⟨#[39]⟩, .string ⟨#[194, 160]⟩]
  have HW := Lib.hid hW
  clear hW hl
  go_enter Tryd.func52, Tryd.ntmps52
  go_upto_region 4 with fail
  rw [HW.out]
  have hz2 := hB.size
  have HB := Lib.hid hB
  have e2s : (w.alloc (.cells #[.string ⟨#[38, 97, 109, 112, 59]⟩, .string ⟨#[38, 108, 116, 59]⟩, .string ⟨#[38, 103, 116, 59]⟩, .string ⟨#[38, 113, 117, 111, 116, 59]⟩, .string ⟨#[38, 97, 112, 111, 115, 59]⟩, .string ⟨#[38, 110, 98, 115, 112, 59]⟩] 9)).heap.size = w.heap.size + 1 := by simp
  rw [e2s] at hx2
  have HX1 := Lib.hid hx1
  have HX2 := Lib.hid hx2
  clear hB hx1 hx2 e2s
  go_loopg [8] 6 (fun gk x wz => ∃ i : Nat, i + gk = 6 ∧ x = .int .i64 i ∧ Hid (∀ j, j < i → ¬ (nmT j <+: l)) ∧ Below W2.heap.size W2 wz)
  case atStart => exact ⟨0, by omega, rfl, Lib.hid (fun j h => by omega), Below.refl _ _⟩
  case round =>
    obtain ⟨i, hi, rfl, hno, hbz⟩ := hrel
    have hzz := hbz.size
    have x1 := HX1.out.below hbz HX1.out.lt
    have x2 := HX2.out.below hbz HX2.out.lt
    have lx1 := x1.lt
    have lx2 := x2.lt
    have HBZ := Lib.hid hbz
    by_cases h6 : i < 6
    · have i1 : (i : Int) < 6 := by omega
      have c1 := (x1.cell i).trans (nmT_cell i h6)
      have c2 := (x2.cell i).trans (rnT_cell i h6)
      obtain ⟨hl1, hl2⟩ := nmT_len i h6
      have HN1 := Lib.hid (refAt_named (l := l) h6 hno.out)
      obtain ⟨nm, hnm⟩ : ∃ a, nmT i = a := ⟨_, rfl⟩
      obtain ⟨rn, hrn⟩ : ∃ a, rnT i = a := ⟨_, rfl⟩
      rw [hnm] at c1 hl1 hl2 HN1
      rw [hrn] at c2 HN1
      have HNM := Lib.hid hnm
      have HXP := HX.out nm
      have HNP := HN.out nm
      have e3 := fun x b o => ext_cell wr.heap.size wr x b o
      clear x1 x2 hbz hnm hrn
      by_cases hc : k + nm.length ≤ s.size
      · have hiff := HXP hc
        have i2 : (nm.length : Int) ≤ (s.size : Int) - (k : Int) := by omega
        by_cases hm : s.extract k (k + nm.length) = ⟨nm.toArray⟩
        · have hpre := Lib.hid (hiff.2 hm)
          clear hiff HXP HNP
          go_wp2
          go_quiet (fail)
          go_wp2
          go_quiet (fail)
          go_wp2
          go_ret2
          refine ⟨?_, HB.out.trans ((below_drewN (below_drewN HBZ.out _) _).mono hz2)⟩
          rw [HN1.out hpre.out]
          rfl
        · have hnp : ¬ (nm <+: l) := fun h => hm (hiff.1 h)
          have HNX := Lib.hid (show ∀ j, j < i + 1 → ¬ (nmT j <+: l) from fun j hj => by
            rcases Nat.lt_or_ge j i with h | h
            · exact hno.out j h
            · obtain rfl : j = i := by omega
              rw [HNM.out]; exact hnp)
          obtain ⟨x, hx⟩ : ∃ x : List UInt8, s.extract k (k + nm.length) = ⟨x.toArray⟩ := ⟨(s.extract k (k + nm.length)).data.toList, rfl⟩
          have hxn : (x == nm) = false := by
            rw [beq_eq_false_iff_ne]; intro e; rw [e] at hx; exact hm hx
          clear hiff HXP HNP hnp hm
          go_wp2
          go_quiet (fail)
          go_wp2
          go_roundg (gk - 1)
          case measure => omega
          case rel => exact ⟨i + 1, by omega, by go_num, HNX, below_drewN HBZ.out _⟩
      · have hnp := HNP (by omega) (by intro e; rw [e] at hl1; simp at hl1)
        have HNX := Lib.hid (show ∀ j, j < i + 1 → ¬ (nmT j <+: l) from fun j hj => by
          rcases Nat.lt_or_ge j i with h | h
          · exact hno.out j h
          · obtain rfl : j = i := by omega
            rw [HNM.out]; exact hnp)
        have i2 : ¬ ((nm.length : Int) ≤ (s.size : Int) - (k : Int)) := by omega
        have i2b : decide ((nm.length : Int) ≤ (s.size : Int) - (k : Int)) = false := decide_eq_false i2
        clear HXP HNP hnp
        go_wp2
        go_quiet (fail)
        go_wp2
        go_roundg (gk - 1)
        case measure => omega
        case rel => exact ⟨i + 1, by omega, by go_num, HNX, below_drewN HBZ.out _⟩
    · have h6e : i = 6 := by omega
      subst h6e
      have hrest := refAt_rest hno.out
      have HREST := Lib.hid hrest
      clear hno h6 hrest
      have HB5 := Lib.hid (HB.out.trans (hbz.mono hz2))
      clear hbz x1 x2 lx1 lx2 hzz HBZ
      by_cases h1 : s.size ≤ k + 1
      · have hl0 : Hid (refRest l = none) := Lib.hid (by
          rw [← HL.out]
          have : (s.data.toList.drop k).length ≤ 1 := by rw [List.length_drop, size_data]; omega
          rcases hd : s.data.toList.drop k with _ | ⟨a, _ | ⟨b, u⟩⟩
          · rfl
          · rfl
          · rw [hd] at this; simp at this)
        have i1 : (s.size : Int) ≤ (k : Int) + 1 := by omega
        go_wp2
        go_ret2
        refine ⟨?_, HB5.out⟩
        rw [HREST.out, hl0.out]; rfl
      have hk1 : k + 1 < s.size := by omega
      have hd1 := List.drop_eq_getElem_cons (l := s.data.toList) (i := k) (by rw [size_data]; omega)
      have hd2 := List.drop_eq_getElem_cons (l := s.data.toList) (i := k + 1) (by rw [size_data]; omega)
      rw [HL.out, hd2] at hd1
      have hg1 := str_get s hk1
      rw [List.getD_eq_getElem?_getD, List.getElem?_eq_getElem (by rw [size_data]; omega), Option.getD_some] at hg1
      rw [hg1] at hd1
      have HD1 := Lib.hid hd1
      have i1 : ¬ ((s.size : Int) ≤ (k : Int) + 1) := by omega
      clear hd1 hd2 hg1
      by_cases h35 : (s[k + 1]'hk1) = 35
      · have i2 : (((s[k + 1]'hk1).toNat : Int) != 35) = false := by rw [h35]; rfl
        rw [h35] at HD1
        obtain ⟨f, hf⟩ : ∃ f, k + 2 = f := ⟨_, rfl⟩
        have hfi : (k : Int) + 2 = (f : Int) := by omega
        have HRF : Hid (refRest l = match s.data.toList.drop f with | d :: u => if d = 120 ∨ d = 88 then numRef 16 3 u else numRef 10 2 (d :: u) | [] => none) := Lib.hid (by
          rw [HD1.out, ← hf]; simp only [refRest, if_true]; rw [show k + 1 + 1 = k + 2 from rfl]; rcases s.data.toList.drop (k + 2) with _ | ⟨d, u⟩ <;> rfl)
        have HFK := Lib.hid hf
        have hfs1 : f ≤ s.size := by omega
        clear h35 HD1 hf
        by_cases h2 : f < s.size
        · have hd1 := List.drop_eq_getElem_cons (l := s.data.toList) (i := f) (by rw [size_data]; omega)
          have hg1 := str_get s h2
          rw [List.getD_eq_getElem?_getD, List.getElem?_eq_getElem (by rw [size_data]; omega), Option.getD_some] at hg1
          rw [hg1] at hd1
          have HD2 := Lib.hid hd1
          have i3 : (f : Int) < (s.size : Int) := by omega
          clear hd1 hg1
          by_cases hx : (s[f]'h2) = 120 ∨ (s[f]'h2) = 88
          · have hnum : refRest l = numRef 16 3 (s.data.toList.drop (f + 1)) := by
              rw [HRF.out, HD2.out]; simp only; rw [if_pos hx]
            obtain ⟨g, hg⟩ : ∃ g, f + 1 = g := ⟨_, rfl⟩
            have hgi : (f : Int) + 1 = (g : Int) := by omega
            rw [hg] at hnum
            have HNUM := Lib.hid hnum
            have hgs : g ≤ s.size := by omega
            have HFK := Lib.hid (show k + 3 = g by have := HFK.out; omega)
            clear hnum HRF HD2 hg
            rcases hx with hx | hx
            · have j1 : (((s[f]'h2).toNat : Int) == 120) = true := by rw [hx]; rfl
              clear hx
              have hbb : (16 : Nat) ≤ 16 := by decide
              obtain ⟨t, ht⟩ : ∃ t, s.data.toList.drop g = t := ⟨_, rfl⟩
              rw [ht] at HNUM
              have htl : t.length = s.size - g := by rw [← ht, List.length_drop, size_data]
              have HG : Hid (∀ (c : Nat) (h : g + c < s.size), t.getD c 0 = s[g + c]'h) := Lib.hid (fun c h => by
                rw [← str_get s h, ← ht]; simp [List.getD_eq_getElem?_getD])
              clear ht
              go_wp2
              go_loopg [9, 12] (s.size + 1) (fun gq x y wz => ∃ c N : Nat, c ≤ 9 ∧ g + c ≤ s.size ∧ gq + g + c = s.size + g + 1 ∧ x = .int .i64 ((g + c : Nat) : Int) ∧ y = .int .i64 (N : Int) ∧ N < 16 ^ c ∧ Hid (N = numOf 16 (t.take c)) ∧ Hid (∀ z ∈ t.take c, isDig 16 z = true) ∧ Below w.heap.size w wz)
              case atStart => exact ⟨0, 0, by omega, by omega, by omega, by go_num, rfl, by simp, Lib.hid rfl, Lib.hid (by simp), HB5.out⟩
              case round =>
                obtain ⟨c, N, hc9, hfc, hgq, rfl, rfl, hN, hNe, hda, hbd⟩ := hrel
                have hpw : 16 ^ c ≤ 68719476736 := by
                  have := Nat.pow_le_pow_right (n := 16) (by omega) hc9
                  omega
                have HPW := Lib.hid (show (16 : Nat) ^ (c + 1) = 16 ^ c * 16 from Nat.pow_succ 16 c)
                obtain ⟨P, hP⟩ : ∃ P, (16 : Nat) ^ c = P := ⟨_, rfl⟩
                rw [hP] at hN hpw HPW
                have HPP := Lib.hid hP
                clear hP
                have HBD := Lib.hid hbd
                obtain ⟨a, ha⟩ : ∃ a, g + c = a := ⟨_, rfl⟩
                have HGK := HG.out c
                rw [ha] at hfc HGK ⊢
                have HA := Lib.hid ha
                clear hbd
                by_cases hend : a < s.size ∧ c < 9 ∧ isDig 16 (t.getD c 0) = true
                · obtain ⟨h1, h2, h3⟩ := hend
                  have hc := HGK h1
                  rw [isDig_digV hbb, decide_eq_true_eq, hc] at h3
                  have HC := Lib.hid hc
                  have hrd : refDig 16 (s[a]'h1).toNat = (digV (s[a]'h1).toNat : Int) := by unfold refDig; rw [if_pos h3]
                  have HD : Hid (∀ W, Calls Tryd.prog 79 #[.int .u8 ((s[a]'h1).toNat : Int), .int .i64 16] W fun e w' => e = .returned (.int .i64 (digV (s[a]'h1).toNat : Int)) ∧ ∃ q, W.drewN q = w') := Lib.hid (fun W => by rw [← hrd]; exact refDigit_any (s[a]'h1) 16 (by decide) W)
                  obtain ⟨d, hd⟩ : ∃ d, digV (s[a]'h1).toNat = d := ⟨_, rfl⟩
                  rw [hd] at h3 HD
                  have HDD := Lib.hid hd
                  have i5 : (a : Int) - (g : Int) < 9 := by omega
                  have i6 : (a : Int) < (s.size : Int) := by omega
                  have i7 : (0 : Int) ≤ (d : Int) := by omega
                  have hN9 : N < 68719476736 := by omega
                  have HN := Lib.hid hN
                  clear hc hd hrd HGK ha hpw hN
                  go_wp2_with (go_at_call 79; refine (HD.out _).mono ?_; rintro e w1 ⟨rfl, q1, rfl⟩)
                  go_roundg (gk - 1)
                  case measure => have := HA.out; omega
                  case rel =>
                    have hm := HA.out
                    have hkt : c < t.length := by have h2 := HFK.out; omega
                    have hts := take_snoc t hkt
                    refine ⟨c + 1, N * 16 + d, by omega, by omega, by omega, ?_, ?_, ?_, Lib.hid ?_, Lib.hid ?_, below_drewN HBD.out _⟩
                    · go_num
                    · go_num
                    · rw [HPW.out]; have := HN.out; omega
                    · rw [hts, numOf_snoc 16 _ _ hbb (by rw [HC.out, HDD.out]; exact h3), ← hNe.out, HC.out, HDD.out]
                    · intro z hz
                      rw [hts] at hz
                      rcases List.mem_append.1 hz with hz | hz
                      · exact hda.out z hz
                      · rw [List.mem_singleton.1 hz, isDig_digV hbb, HC.out, HDD.out]
                        exact decide_eq_true h3
                · have HNN : Hid (c = 9 → numRef 16 3 t = none) := Lib.hid (fun h => numRef_nine (by omega) (by rw [← h]; exact hda.out))
                  by_cases ca : a < s.size
                  · have hc := HGK ca
                    have i6 : (a : Int) < (s.size : Int) := by omega
                    have i7 : ¬ ((s.size : Int) ≤ (a : Int)) := by omega
                    by_cases c9 : c = 9
                    · have HNO := Lib.hid (HNN.out c9)
                      obtain ⟨r, hr⟩ : ∃ r, refDig 16 (s[a]'ca).toNat = r := ⟨_, rfl⟩
                      have HD : Hid (∀ W, Calls Tryd.prog 79 #[.int .u8 ((s[a]'ca).toNat : Int), .int .i64 16] W fun e w' => e = .returned (.int .i64 r) ∧ ∃ q, W.drewN q = w') := Lib.hid (fun W => by rw [← hr]; exact refDigit_any (s[a]'ca) 16 (by decide) W)
                      have i8 : ¬ ((a : Int) - (g : Int) < 9) := by omega
                      have i9 : (8 : Int) < (a : Int) - (g : Int) := by omega
                      have i10 : ((a : Int) == (g : Int)) = false := by rw [beq_eq_false_iff_ne]; omega
                      clear hc hr hend HNN c9 ha HGK
                      go_wp2_with (go_at_call 79; refine (HD.out _).mono ?_; rintro e w1 ⟨rfl, q1, rfl⟩)
                      all_goals go_ret2
                      all_goals exact ⟨by rw [HREST.out, HNUM.out, HNO.out]; rfl, by first | exact HBD.out | exact below_drewN HBD.out _⟩
                    · have hnd : isDig 16 (t.getD c 0) = false := by
                        rcases hx : isDig 16 (t.getD c 0) with _ | _
                        · rfl
                        · exact absurd ⟨ca, by omega, hx⟩ hend
                      have hres := numRef_of (base := 16) (pre := 3) (k := c) (t := t) (by omega) hda.out (by omega) (.inr (.inr hnd)) (isDig_59 hbb)
                      rw [← hNe.out, hc] at hres
                      have HRES := Lib.hid hres
                      rw [hc, isDig_digV hbb] at hnd
                      have hr : refDig 16 (s[a]'ca).toNat = -1 := by unfold refDig; rw [if_neg (of_decide_eq_false hnd)]
                      have HD : Hid (∀ W, Calls Tryd.prog 79 #[.int .u8 ((s[a]'ca).toNat : Int), .int .i64 16] W fun e w' => e = .returned (.int .i64 (-1)) ∧ ∃ q, W.drewN q = w') := Lib.hid (fun W => by rw [← hr]; exact refDigit_any (s[a]'ca) 16 (by decide) W)
                      have i9 : ¬ ((8 : Int) < (a : Int) - (g : Int)) := by omega
                      have hct : c ≠ t.length := by omega
                      clear hr hend HNN HGK hres hnd hc
                      by_cases c0 : c = 0
                      · have i10 : ((a : Int) == (g : Int)) = true := by rw [beq_iff_eq]; omega
                        have hr := HRES.out
                        rw [if_pos (.inl c0)] at hr
                        have HNO := Lib.hid hr
                        clear hr c0 ha
                        go_wp2_with (go_at_call 79; refine (HD.out _).mono ?_; rintro e w1 ⟨rfl, q1, rfl⟩)
                        all_goals go_ret2
                        all_goals exact ⟨by rw [HREST.out, HNUM.out, HNO.out]; rfl, by first | exact HBD.out | exact below_drewN HBD.out _⟩
                      · have i10 : ((a : Int) == (g : Int)) = false := by rw [beq_eq_false_iff_ne]; omega
                        by_cases c59 : (s[a]'ca) = 59
                        · have i11 : (((s[a]'ca).toNat : Int) != 59) = false := by rw [c59]; rfl
                          have hr := HRES.out
                          rw [if_neg (by intro h; rcases h with h | h | h <;> first | exact c0 h | exact hct h | exact h c59)] at hr
                          have HSO := Lib.hid hr
                          have hcv : ∀ (R : Int) (q : Nat), (convert 32 9 (.slice (some ⟨wr.heap.size, 0, none⟩) 1 1)).run Tryd.prog ((wr.drewN q).alloc (.cells #[.int .i32 R] 21)) = .ok (.string ⟨(Lib.encodeRune R).toArray⟩) ((wr.drewN q).alloc (.cells #[.int .i32 R] 21)) := fun R q => rune_text R (wr.drewN q)
                          have hN9 : N < 4294967296 := by
                            have := Nat.pow_le_pow_right (n := 16) (by omega) (show c ≤ 8 by omega)
                            rw [HPP.out] at this
                            omega
                          clear hr c59 c0 ha hpw hN
                          go_wp2_with (go_at_call 79; refine (HD.out _).mono ?_; rintro e w1 ⟨rfl, q1, rfl⟩)
                          all_goals go_ret2
                          all_goals refine ⟨?_, (below_drewN HBD.out q1).alloc (below_drewN HBD.out q1).size _⟩
                          all_goals rw [HREST.out, HNUM.out, HSO.out, refTo_some]
                          all_goals have eA : k + (3 + c + 1) = a + 1 := by have h1 := HFK.out; have h2 := HA.out; omega
                          all_goals first
                            | (have hv : ((runeNum N : Nat) : Int) = 65533 := (by unfold runeNum; split <;> first | rfl | (first | omega | (simp only [beq_iff_eq] at *; omega)))
                               rw [hv, eA]; rfl)
                            | (have hv : ((runeNum N : Nat) : Int) = (N : Int) := (by unfold runeNum; split <;> first | rfl | (first | omega | (simp only [beq_iff_eq] at *; omega)))
                               rw [hv, eA]; rfl)
                        · have i11 : (((s[a]'ca).toNat : Int) != 59) = true := by
                            simp only [bne_iff_ne, ne_eq]
                            intro e
                            exact c59 (UInt8.toNat_inj.1 (by show (s[a]'ca).toNat = 59; omega))
                          have hr := HRES.out
                          rw [if_pos (.inr (.inr c59))] at hr
                          have HNO := Lib.hid hr
                          clear hr c59 ha
                          go_wp2_with (go_at_call 79; refine (HD.out _).mono ?_; rintro e w1 ⟨rfl, q1, rfl⟩)
                          all_goals go_ret2
                          all_goals exact ⟨by rw [HREST.out, HNUM.out, HNO.out]; rfl, by first | exact HBD.out | exact below_drewN HBD.out _⟩
                  · have HNO : Hid (numRef 16 3 t = none) := Lib.hid (by
                      rcases Nat.lt_or_ge c 9 with h | h
                      · have hr := numRef_of (base := 16) (pre := 3) (k := c) (t := t) (by omega) hda.out (by omega) (.inr (.inl (by omega))) (isDig_59 hbb)
                        rw [if_pos (.inr (.inl (by omega)))] at hr
                        exact hr
                      · exact HNN.out (by omega))
                    have i6 : ¬ ((a : Int) < (s.size : Int)) := by omega
                    have i7 : (s.size : Int) ≤ (a : Int) := by omega
                    clear HNN HGK hend
                    go_wp2
                    all_goals go_ret2
                    all_goals exact ⟨by rw [HREST.out, HNUM.out, HNO.out]; rfl, HBD.out⟩
            · have j1 : (((s[f]'h2).toNat : Int) == 120) = false := by rw [hx]; rfl
              have j2 : (((s[f]'h2).toNat : Int) == 88) = true := by rw [hx]; rfl
              clear hx
              have hbb : (16 : Nat) ≤ 16 := by decide
              obtain ⟨t, ht⟩ : ∃ t, s.data.toList.drop g = t := ⟨_, rfl⟩
              rw [ht] at HNUM
              have htl : t.length = s.size - g := by rw [← ht, List.length_drop, size_data]
              have HG : Hid (∀ (c : Nat) (h : g + c < s.size), t.getD c 0 = s[g + c]'h) := Lib.hid (fun c h => by
                rw [← str_get s h, ← ht]; simp [List.getD_eq_getElem?_getD])
              clear ht
              go_wp2
              go_loopg [9, 12] (s.size + 1) (fun gq x y wz => ∃ c N : Nat, c ≤ 9 ∧ g + c ≤ s.size ∧ gq + g + c = s.size + g + 1 ∧ x = .int .i64 ((g + c : Nat) : Int) ∧ y = .int .i64 (N : Int) ∧ N < 16 ^ c ∧ Hid (N = numOf 16 (t.take c)) ∧ Hid (∀ z ∈ t.take c, isDig 16 z = true) ∧ Below w.heap.size w wz)
              case atStart => exact ⟨0, 0, by omega, by omega, by omega, by go_num, rfl, by simp, Lib.hid rfl, Lib.hid (by simp), HB5.out⟩
              case round =>
                obtain ⟨c, N, hc9, hfc, hgq, rfl, rfl, hN, hNe, hda, hbd⟩ := hrel
                have hpw : 16 ^ c ≤ 68719476736 := by
                  have := Nat.pow_le_pow_right (n := 16) (by omega) hc9
                  omega
                have HPW := Lib.hid (show (16 : Nat) ^ (c + 1) = 16 ^ c * 16 from Nat.pow_succ 16 c)
                obtain ⟨P, hP⟩ : ∃ P, (16 : Nat) ^ c = P := ⟨_, rfl⟩
                rw [hP] at hN hpw HPW
                have HPP := Lib.hid hP
                clear hP
                have HBD := Lib.hid hbd
                obtain ⟨a, ha⟩ : ∃ a, g + c = a := ⟨_, rfl⟩
                have HGK := HG.out c
                rw [ha] at hfc HGK ⊢
                have HA := Lib.hid ha
                clear hbd
                by_cases hend : a < s.size ∧ c < 9 ∧ isDig 16 (t.getD c 0) = true
                · obtain ⟨h1, h2, h3⟩ := hend
                  have hc := HGK h1
                  rw [isDig_digV hbb, decide_eq_true_eq, hc] at h3
                  have HC := Lib.hid hc
                  have hrd : refDig 16 (s[a]'h1).toNat = (digV (s[a]'h1).toNat : Int) := by unfold refDig; rw [if_pos h3]
                  have HD : Hid (∀ W, Calls Tryd.prog 79 #[.int .u8 ((s[a]'h1).toNat : Int), .int .i64 16] W fun e w' => e = .returned (.int .i64 (digV (s[a]'h1).toNat : Int)) ∧ ∃ q, W.drewN q = w') := Lib.hid (fun W => by rw [← hrd]; exact refDigit_any (s[a]'h1) 16 (by decide) W)
                  obtain ⟨d, hd⟩ : ∃ d, digV (s[a]'h1).toNat = d := ⟨_, rfl⟩
                  rw [hd] at h3 HD
                  have HDD := Lib.hid hd
                  have i5 : (a : Int) - (g : Int) < 9 := by omega
                  have i6 : (a : Int) < (s.size : Int) := by omega
                  have i7 : (0 : Int) ≤ (d : Int) := by omega
                  have hN9 : N < 68719476736 := by omega
                  have HN := Lib.hid hN
                  clear hc hd hrd HGK ha hpw hN
                  go_wp2_with (go_at_call 79; refine (HD.out _).mono ?_; rintro e w1 ⟨rfl, q1, rfl⟩)
                  go_roundg (gk - 1)
                  case measure => have := HA.out; omega
                  case rel =>
                    have hm := HA.out
                    have hkt : c < t.length := by have h2 := HFK.out; omega
                    have hts := take_snoc t hkt
                    refine ⟨c + 1, N * 16 + d, by omega, by omega, by omega, ?_, ?_, ?_, Lib.hid ?_, Lib.hid ?_, below_drewN HBD.out _⟩
                    · go_num
                    · go_num
                    · rw [HPW.out]; have := HN.out; omega
                    · rw [hts, numOf_snoc 16 _ _ hbb (by rw [HC.out, HDD.out]; exact h3), ← hNe.out, HC.out, HDD.out]
                    · intro z hz
                      rw [hts] at hz
                      rcases List.mem_append.1 hz with hz | hz
                      · exact hda.out z hz
                      · rw [List.mem_singleton.1 hz, isDig_digV hbb, HC.out, HDD.out]
                        exact decide_eq_true h3
                · have HNN : Hid (c = 9 → numRef 16 3 t = none) := Lib.hid (fun h => numRef_nine (by omega) (by rw [← h]; exact hda.out))
                  by_cases ca : a < s.size
                  · have hc := HGK ca
                    have i6 : (a : Int) < (s.size : Int) := by omega
                    have i7 : ¬ ((s.size : Int) ≤ (a : Int)) := by omega
                    by_cases c9 : c = 9
                    · have HNO := Lib.hid (HNN.out c9)
                      obtain ⟨r, hr⟩ : ∃ r, refDig 16 (s[a]'ca).toNat = r := ⟨_, rfl⟩
                      have HD : Hid (∀ W, Calls Tryd.prog 79 #[.int .u8 ((s[a]'ca).toNat : Int), .int .i64 16] W fun e w' => e = .returned (.int .i64 r) ∧ ∃ q, W.drewN q = w') := Lib.hid (fun W => by rw [← hr]; exact refDigit_any (s[a]'ca) 16 (by decide) W)
                      have i8 : ¬ ((a : Int) - (g : Int) < 9) := by omega
                      have i9 : (8 : Int) < (a : Int) - (g : Int) := by omega
                      have i10 : ((a : Int) == (g : Int)) = false := by rw [beq_eq_false_iff_ne]; omega
                      clear hc hr hend HNN c9 ha HGK
                      go_wp2_with (go_at_call 79; refine (HD.out _).mono ?_; rintro e w1 ⟨rfl, q1, rfl⟩)
                      all_goals go_ret2
                      all_goals exact ⟨by rw [HREST.out, HNUM.out, HNO.out]; rfl, by first | exact HBD.out | exact below_drewN HBD.out _⟩
                    · have hnd : isDig 16 (t.getD c 0) = false := by
                        rcases hx : isDig 16 (t.getD c 0) with _ | _
                        · rfl
                        · exact absurd ⟨ca, by omega, hx⟩ hend
                      have hres := numRef_of (base := 16) (pre := 3) (k := c) (t := t) (by omega) hda.out (by omega) (.inr (.inr hnd)) (isDig_59 hbb)
                      rw [← hNe.out, hc] at hres
                      have HRES := Lib.hid hres
                      rw [hc, isDig_digV hbb] at hnd
                      have hr : refDig 16 (s[a]'ca).toNat = -1 := by unfold refDig; rw [if_neg (of_decide_eq_false hnd)]
                      have HD : Hid (∀ W, Calls Tryd.prog 79 #[.int .u8 ((s[a]'ca).toNat : Int), .int .i64 16] W fun e w' => e = .returned (.int .i64 (-1)) ∧ ∃ q, W.drewN q = w') := Lib.hid (fun W => by rw [← hr]; exact refDigit_any (s[a]'ca) 16 (by decide) W)
                      have i9 : ¬ ((8 : Int) < (a : Int) - (g : Int)) := by omega
                      have hct : c ≠ t.length := by omega
                      clear hr hend HNN HGK hres hnd hc
                      by_cases c0 : c = 0
                      · have i10 : ((a : Int) == (g : Int)) = true := by rw [beq_iff_eq]; omega
                        have hr := HRES.out
                        rw [if_pos (.inl c0)] at hr
                        have HNO := Lib.hid hr
                        clear hr c0 ha
                        go_wp2_with (go_at_call 79; refine (HD.out _).mono ?_; rintro e w1 ⟨rfl, q1, rfl⟩)
                        all_goals go_ret2
                        all_goals exact ⟨by rw [HREST.out, HNUM.out, HNO.out]; rfl, by first | exact HBD.out | exact below_drewN HBD.out _⟩
                      · have i10 : ((a : Int) == (g : Int)) = false := by rw [beq_eq_false_iff_ne]; omega
                        by_cases c59 : (s[a]'ca) = 59
                        · have i11 : (((s[a]'ca).toNat : Int) != 59) = false := by rw [c59]; rfl
                          have hr := HRES.out
                          rw [if_neg (by intro h; rcases h with h | h | h <;> first | exact c0 h | exact hct h | exact h c59)] at hr
                          have HSO := Lib.hid hr
                          have hcv : ∀ (R : Int) (q : Nat), (convert 32 9 (.slice (some ⟨wr.heap.size, 0, none⟩) 1 1)).run Tryd.prog ((wr.drewN q).alloc (.cells #[.int .i32 R] 21)) = .ok (.string ⟨(Lib.encodeRune R).toArray⟩) ((wr.drewN q).alloc (.cells #[.int .i32 R] 21)) := fun R q => rune_text R (wr.drewN q)
                          have hN9 : N < 4294967296 := by
                            have := Nat.pow_le_pow_right (n := 16) (by omega) (show c ≤ 8 by omega)
                            rw [HPP.out] at this
                            omega
                          clear hr c59 c0 ha hpw hN
                          go_wp2_with (go_at_call 79; refine (HD.out _).mono ?_; rintro e w1 ⟨rfl, q1, rfl⟩)
                          all_goals go_ret2
                          all_goals refine ⟨?_, (below_drewN HBD.out q1).alloc (below_drewN HBD.out q1).size _⟩
                          all_goals rw [HREST.out, HNUM.out, HSO.out, refTo_some]
                          all_goals have eA : k + (3 + c + 1) = a + 1 := by have h1 := HFK.out; have h2 := HA.out; omega
                          all_goals first
                            | (have hv : ((runeNum N : Nat) : Int) = 65533 := (by unfold runeNum; split <;> first | rfl | (first | omega | (simp only [beq_iff_eq] at *; omega)))
                               rw [hv, eA]; rfl)
                            | (have hv : ((runeNum N : Nat) : Int) = (N : Int) := (by unfold runeNum; split <;> first | rfl | (first | omega | (simp only [beq_iff_eq] at *; omega)))
                               rw [hv, eA]; rfl)
                        · have i11 : (((s[a]'ca).toNat : Int) != 59) = true := by
                            simp only [bne_iff_ne, ne_eq]
                            intro e
                            exact c59 (UInt8.toNat_inj.1 (by show (s[a]'ca).toNat = 59; omega))
                          have hr := HRES.out
                          rw [if_pos (.inr (.inr c59))] at hr
                          have HNO := Lib.hid hr
                          clear hr c59 ha
                          go_wp2_with (go_at_call 79; refine (HD.out _).mono ?_; rintro e w1 ⟨rfl, q1, rfl⟩)
                          all_goals go_ret2
                          all_goals exact ⟨by rw [HREST.out, HNUM.out, HNO.out]; rfl, by first | exact HBD.out | exact below_drewN HBD.out _⟩
                  · have HNO : Hid (numRef 16 3 t = none) := Lib.hid (by
                      rcases Nat.lt_or_ge c 9 with h | h
                      · have hr := numRef_of (base := 16) (pre := 3) (k := c) (t := t) (by omega) hda.out (by omega) (.inr (.inl (by omega))) (isDig_59 hbb)
                        rw [if_pos (.inr (.inl (by omega)))] at hr
                        exact hr
                      · exact HNN.out (by omega))
                    have i6 : ¬ ((a : Int) < (s.size : Int)) := by omega
                    have i7 : (s.size : Int) ≤ (a : Int) := by omega
                    clear HNN HGK hend
                    go_wp2
                    all_goals go_ret2
                    all_goals exact ⟨by rw [HREST.out, HNUM.out, HNO.out]; rfl, HBD.out⟩
          · have HNUM : Hid (refRest l = numRef 10 2 (s.data.toList.drop f)) := Lib.hid (by
              rw [HRF.out, HD2.out]; simp only; rw [if_neg hx])
            have j1 : (((s[f]'h2).toNat : Int) == 120) = false := by
              rw [beq_eq_false_iff_ne]; intro e
              exact hx (.inl (UInt8.toNat_inj.1 (by show (s[f]'h2).toNat = 120; omega)))
            have j2 : (((s[f]'h2).toNat : Int) == 88) = false := by
              rw [beq_eq_false_iff_ne]; intro e
              exact hx (.inr (UInt8.toNat_inj.1 (by show (s[f]'h2).toNat = 88; omega)))
            clear hx HRF HD2
            have hbb : (10 : Nat) ≤ 16 := by decide
            obtain ⟨t, ht⟩ : ∃ t, s.data.toList.drop f = t := ⟨_, rfl⟩
            rw [ht] at HNUM
            have htl : t.length = s.size - f := by rw [← ht, List.length_drop, size_data]
            have HG : Hid (∀ (c : Nat) (h : f + c < s.size), t.getD c 0 = s[f + c]'h) := Lib.hid (fun c h => by
              rw [← str_get s h, ← ht]; simp [List.getD_eq_getElem?_getD])
            clear ht
            go_wp2
            go_loopg [9, 12] (s.size + 1) (fun gq x y wz => ∃ c N : Nat, c ≤ 9 ∧ f + c ≤ s.size ∧ gq + f + c = s.size + f + 1 ∧ x = .int .i64 ((f + c : Nat) : Int) ∧ y = .int .i64 (N : Int) ∧ N < 16 ^ c ∧ Hid (N = numOf 10 (t.take c)) ∧ Hid (∀ z ∈ t.take c, isDig 10 z = true) ∧ Below w.heap.size w wz)
            case atStart => exact ⟨0, 0, by omega, by omega, by omega, by go_num, rfl, by simp, Lib.hid rfl, Lib.hid (by simp), HB5.out⟩
            case round =>
              obtain ⟨c, N, hc9, hfc, hgq, rfl, rfl, hN, hNe, hda, hbd⟩ := hrel
              have hpw : 16 ^ c ≤ 68719476736 := by
                have := Nat.pow_le_pow_right (n := 16) (by omega) hc9
                omega
              have HPW := Lib.hid (show (16 : Nat) ^ (c + 1) = 16 ^ c * 16 from Nat.pow_succ 16 c)
              obtain ⟨P, hP⟩ : ∃ P, (16 : Nat) ^ c = P := ⟨_, rfl⟩
              rw [hP] at hN hpw HPW
              have HPP := Lib.hid hP
              clear hP
              have HBD := Lib.hid hbd
              obtain ⟨a, ha⟩ : ∃ a, f + c = a := ⟨_, rfl⟩
              have HGK := HG.out c
              rw [ha] at hfc HGK ⊢
              have HA := Lib.hid ha
              clear hbd
              by_cases hend : a < s.size ∧ c < 9 ∧ isDig 10 (t.getD c 0) = true
              · obtain ⟨h1, h2, h3⟩ := hend
                have hc := HGK h1
                rw [isDig_digV hbb, decide_eq_true_eq, hc] at h3
                have HC := Lib.hid hc
                have hrd : refDig 10 (s[a]'h1).toNat = (digV (s[a]'h1).toNat : Int) := by unfold refDig; rw [if_pos h3]
                have HD : Hid (∀ W, Calls Tryd.prog 79 #[.int .u8 ((s[a]'h1).toNat : Int), .int .i64 10] W fun e w' => e = .returned (.int .i64 (digV (s[a]'h1).toNat : Int)) ∧ ∃ q, W.drewN q = w') := Lib.hid (fun W => by rw [← hrd]; exact refDigit_any (s[a]'h1) 10 (by decide) W)
                obtain ⟨d, hd⟩ : ∃ d, digV (s[a]'h1).toNat = d := ⟨_, rfl⟩
                rw [hd] at h3 HD
                have HDD := Lib.hid hd
                have i5 : (a : Int) - (f : Int) < 9 := by omega
                have i6 : (a : Int) < (s.size : Int) := by omega
                have i7 : (0 : Int) ≤ (d : Int) := by omega
                have hN9 : N < 68719476736 := by omega
                have HN := Lib.hid hN
                clear hc hd hrd HGK ha hpw hN
                go_wp2_with (go_at_call 79; refine (HD.out _).mono ?_; rintro e w1 ⟨rfl, q1, rfl⟩)
                go_roundg (gk - 1)
                case measure => have := HA.out; omega
                case rel =>
                  have hm := HA.out
                  have hkt : c < t.length := by have h2 := HFK.out; omega
                  have hts := take_snoc t hkt
                  refine ⟨c + 1, N * 10 + d, by omega, by omega, by omega, ?_, ?_, ?_, Lib.hid ?_, Lib.hid ?_, below_drewN HBD.out _⟩
                  · go_num
                  · go_num
                  · rw [HPW.out]; have := HN.out; omega
                  · rw [hts, numOf_snoc 10 _ _ hbb (by rw [HC.out, HDD.out]; exact h3), ← hNe.out, HC.out, HDD.out]
                  · intro z hz
                    rw [hts] at hz
                    rcases List.mem_append.1 hz with hz | hz
                    · exact hda.out z hz
                    · rw [List.mem_singleton.1 hz, isDig_digV hbb, HC.out, HDD.out]
                      exact decide_eq_true h3
              · have HNN : Hid (c = 9 → numRef 10 2 t = none) := Lib.hid (fun h => numRef_nine (by omega) (by rw [← h]; exact hda.out))
                by_cases ca : a < s.size
                · have hc := HGK ca
                  have i6 : (a : Int) < (s.size : Int) := by omega
                  have i7 : ¬ ((s.size : Int) ≤ (a : Int)) := by omega
                  by_cases c9 : c = 9
                  · have HNO := Lib.hid (HNN.out c9)
                    obtain ⟨r, hr⟩ : ∃ r, refDig 10 (s[a]'ca).toNat = r := ⟨_, rfl⟩
                    have HD : Hid (∀ W, Calls Tryd.prog 79 #[.int .u8 ((s[a]'ca).toNat : Int), .int .i64 10] W fun e w' => e = .returned (.int .i64 r) ∧ ∃ q, W.drewN q = w') := Lib.hid (fun W => by rw [← hr]; exact refDigit_any (s[a]'ca) 10 (by decide) W)
                    have i8 : ¬ ((a : Int) - (f : Int) < 9) := by omega
                    have i9 : (8 : Int) < (a : Int) - (f : Int) := by omega
                    have i10 : ((a : Int) == (f : Int)) = false := by rw [beq_eq_false_iff_ne]; omega
                    clear hc hr hend HNN c9 ha HGK
                    go_wp2_with (go_at_call 79; refine (HD.out _).mono ?_; rintro e w1 ⟨rfl, q1, rfl⟩)
                    all_goals go_ret2
                    all_goals exact ⟨by rw [HREST.out, HNUM.out, HNO.out]; rfl, by first | exact HBD.out | exact below_drewN HBD.out _⟩
                  · have hnd : isDig 10 (t.getD c 0) = false := by
                      rcases hx : isDig 10 (t.getD c 0) with _ | _
                      · rfl
                      · exact absurd ⟨ca, by omega, hx⟩ hend
                    have hres := numRef_of (base := 10) (pre := 2) (k := c) (t := t) (by omega) hda.out (by omega) (.inr (.inr hnd)) (isDig_59 hbb)
                    rw [← hNe.out, hc] at hres
                    have HRES := Lib.hid hres
                    rw [hc, isDig_digV hbb] at hnd
                    have hr : refDig 10 (s[a]'ca).toNat = -1 := by unfold refDig; rw [if_neg (of_decide_eq_false hnd)]
                    have HD : Hid (∀ W, Calls Tryd.prog 79 #[.int .u8 ((s[a]'ca).toNat : Int), .int .i64 10] W fun e w' => e = .returned (.int .i64 (-1)) ∧ ∃ q, W.drewN q = w') := Lib.hid (fun W => by rw [← hr]; exact refDigit_any (s[a]'ca) 10 (by decide) W)
                    have i9 : ¬ ((8 : Int) < (a : Int) - (f : Int)) := by omega
                    have hct : c ≠ t.length := by omega
                    clear hr hend HNN HGK hres hnd hc
                    by_cases c0 : c = 0
                    · have i10 : ((a : Int) == (f : Int)) = true := by rw [beq_iff_eq]; omega
                      have hr := HRES.out
                      rw [if_pos (.inl c0)] at hr
                      have HNO := Lib.hid hr
                      clear hr c0 ha
                      go_wp2_with (go_at_call 79; refine (HD.out _).mono ?_; rintro e w1 ⟨rfl, q1, rfl⟩)
                      all_goals go_ret2
                      all_goals exact ⟨by rw [HREST.out, HNUM.out, HNO.out]; rfl, by first | exact HBD.out | exact below_drewN HBD.out _⟩
                    · have i10 : ((a : Int) == (f : Int)) = false := by rw [beq_eq_false_iff_ne]; omega
                      by_cases c59 : (s[a]'ca) = 59
                      · have i11 : (((s[a]'ca).toNat : Int) != 59) = false := by rw [c59]; rfl
                        have hr := HRES.out
                        rw [if_neg (by intro h; rcases h with h | h | h <;> first | exact c0 h | exact hct h | exact h c59)] at hr
                        have HSO := Lib.hid hr
                        have hcv : ∀ (R : Int) (q : Nat), (convert 32 9 (.slice (some ⟨wr.heap.size, 0, none⟩) 1 1)).run Tryd.prog ((wr.drewN q).alloc (.cells #[.int .i32 R] 21)) = .ok (.string ⟨(Lib.encodeRune R).toArray⟩) ((wr.drewN q).alloc (.cells #[.int .i32 R] 21)) := fun R q => rune_text R (wr.drewN q)
                        have hN9 : N < 4294967296 := by
                          have := Nat.pow_le_pow_right (n := 16) (by omega) (show c ≤ 8 by omega)
                          rw [HPP.out] at this
                          omega
                        clear hr c59 c0 ha hpw hN
                        go_wp2_with (go_at_call 79; refine (HD.out _).mono ?_; rintro e w1 ⟨rfl, q1, rfl⟩)
                        all_goals go_ret2
                        all_goals refine ⟨?_, (below_drewN HBD.out q1).alloc (below_drewN HBD.out q1).size _⟩
                        all_goals rw [HREST.out, HNUM.out, HSO.out, refTo_some]
                        all_goals have eA : k + (2 + c + 1) = a + 1 := by have h1 := HFK.out; have h2 := HA.out; omega
                        all_goals first
                          | (have hv : ((runeNum N : Nat) : Int) = 65533 := (by unfold runeNum; split <;> first | rfl | (first | omega | (simp only [beq_iff_eq] at *; omega)))
                             rw [hv, eA]; rfl)
                          | (have hv : ((runeNum N : Nat) : Int) = (N : Int) := (by unfold runeNum; split <;> first | rfl | (first | omega | (simp only [beq_iff_eq] at *; omega)))
                             rw [hv, eA]; rfl)
                      · have i11 : (((s[a]'ca).toNat : Int) != 59) = true := by
                          simp only [bne_iff_ne, ne_eq]
                          intro e
                          exact c59 (UInt8.toNat_inj.1 (by show (s[a]'ca).toNat = 59; omega))
                        have hr := HRES.out
                        rw [if_pos (.inr (.inr c59))] at hr
                        have HNO := Lib.hid hr
                        clear hr c59 ha
                        go_wp2_with (go_at_call 79; refine (HD.out _).mono ?_; rintro e w1 ⟨rfl, q1, rfl⟩)
                        all_goals go_ret2
                        all_goals exact ⟨by rw [HREST.out, HNUM.out, HNO.out]; rfl, by first | exact HBD.out | exact below_drewN HBD.out _⟩
                · have HNO : Hid (numRef 10 2 t = none) := Lib.hid (by
                    rcases Nat.lt_or_ge c 9 with h | h
                    · have hr := numRef_of (base := 10) (pre := 2) (k := c) (t := t) (by omega) hda.out (by omega) (.inr (.inl (by omega))) (isDig_59 hbb)
                      rw [if_pos (.inr (.inl (by omega)))] at hr
                      exact hr
                    · exact HNN.out (by omega))
                  have i6 : ¬ ((a : Int) < (s.size : Int)) := by omega
                  have i7 : (s.size : Int) ≤ (a : Int) := by omega
                  clear HNN HGK hend
                  go_wp2
                  all_goals go_ret2
                  all_goals exact ⟨by rw [HREST.out, HNUM.out, HNO.out]; rfl, HBD.out⟩
        · have hl0 : Hid (refRest l = none) := Lib.hid (by
            rw [HRF.out, List.drop_eq_nil_of_le (by rw [size_data]; omega)])
          have i3 : ¬ ((f : Int) < (s.size : Int)) := by omega
          have i4 : (s.size : Int) ≤ (f : Int) := by omega
          go_wp2
          go_loopg [9, 12] 1 (fun gq x y wz => x = .int .i64 (f : Int) ∧ y = .int .i64 0 ∧ wz = wr)
          case atStart => exact ⟨rfl, rfl, rfl⟩
          case round =>
            obtain ⟨rfl, rfl, rfl⟩ := hrel
            go_wp2
            go_ret2
            exact ⟨by rw [HREST.out, hl0.out]; rfl, HB5.out⟩
      · have hl0 : Hid (refRest l = none) := Lib.hid (by
          rw [HD1.out]; simp only [refRest]; rw [if_neg h35])
        have i2 : (((s[k + 1]'hk1).toNat : Int) != 35) = true := by
          simp only [bne_iff_ne, ne_eq]
          intro e
          exact h35 (UInt8.toNat_inj.1 (by show (s[k + 1]'hk1).toNat = 35; omega))
        clear h35 HD1
        go_wp2
        go_ret2
        refine ⟨?_, HB5.out⟩
        rw [HREST.out, hl0.out]; rfl
end Go.Proofs.YtnpoipjnnlbnfaaDoor
