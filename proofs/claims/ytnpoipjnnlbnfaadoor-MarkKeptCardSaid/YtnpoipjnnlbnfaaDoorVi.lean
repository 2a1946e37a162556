/- All references in a text. No conditions but that the text is not endless. -/
import Derived.Test.YtnpoipjnnlbnfaaDoorVh
namespace Go.Proofs.YtnpoipjnnlbnfaaDoor
set_option linter.unusedVariables false
open Go.RowKit Go.Proofs.Fm Go.Proofs.Fb Go.Proofs.Fk Go.Proofs.Fe

theorem extract_list (s : ByteArray) {n : Nat} (h : n ≤ s.size) : (s.extract n s.size).data.toList = s.data.toList.drop n ∧ (s.extract n s.size).size = s.size - n := by
  have h1 := Lib.extract_data s n s.size
  have h2 : (s.extract n s.size).data.toList = s.data.toList.drop n := by
    rw [h1, List.take_of_length_le]
    rw [List.length_drop, size_data]; omega
  refine ⟨h2, ?_⟩
  rw [← size_data, h2, List.length_drop, size_data]
set_option maxHeartbeats 2000000 in
set_option maxRecDepth 100000 in
theorem unescape_any (s : ByteArray) (hs : s.size ≤ 1073741824) {w : World} (he : Env w) :
    Calls Tryd.prog 16 #[.string s] w fun e w' => e = .returned (.string ⟨(unesc s.data.toList).toArray⟩) ∧ Below w.heap.size w w' := by
  have hnew := bld_new w
  have HE := Lib.hid he
  have hsz4 := he.sz
  clear he
  go_enter Tryd.func16, Tryd.ntmps16
  go_wp2
  go_loopg [0] s.size (fun gk v wr => ∃ (s1 : ByteArray) (acc : List UInt8), v = .string s1 ∧ s1.size = gk ∧ Bld wr w.heap.size w.heap.size acc ∧ Below w.heap.size w wr ∧ acc.length + s1.size ≤ s.size ∧ Hid (acc ++ unesc s1.data.toList = unesc s.data.toList))
  case atStart => exact ⟨s, [], rfl, rfl, hnew, (Below.refl _ w).alloc (Nat.le_refl _) _, by simp, Lib.hid rfl⟩
  case round =>
    obtain ⟨s1, acc, rfl, hg1, hbd, hb, hal, hr⟩ := hrel
    have HB := Lib.hid hbd
    have HW := Lib.hid hb
    have hz := hb.size
    have HE1 := Lib.hid (HE.out.below hb hsz4)
    have HC := Lib.hid (cut_any s1 ⟨#[38]⟩ HE1.out (by omega))
    have HG := Lib.hid hg1
    have hsd := size_data s1
    clear hnew hbd hb hg1
    have hcut := cut_and s1.data.toList
    obtain ⟨l, hl⟩ : ∃ l, s1.data.toList = l := ⟨_, rfl⟩
    have HC2 : Hid (Calls Tryd.prog 33 #[.string s1, .string ⟨#[38]⟩] wr fun e w' => e = .returned (.tuple #[.string ⟨(Lib.cut l [38]).1.toArray⟩, .string ⟨(Lib.cut l [38]).2.1.toArray⟩, .bool (Lib.cut l [38]).2.2]) ∧ ∃ n, w' = wr.drewN n) := Lib.hid (by have := HC.out; rwa [hl] at this)
    clear HC
    rw [hl] at hcut hsd hr
    have HL := Lib.hid hl
    clear hl
    rcases hcut with ⟨hc, hno⟩ | ⟨a, t, hat, hno, hc⟩
    · rw [hc] at HC2
      have HNO := Lib.hid (unesc_same l hno)
      clear hc hno
      have hw1 : acc.length + (⟨l.toArray⟩ : ByteArray).size ≤ 140737488355328 := by show acc.length + l.length ≤ _; omega
      go_wp2_with (first
        | (go_at_call 33; refine (HC2.out).mono ?_; rintro e w1 ⟨rfl, q, rfl⟩; dsimp only)
        | (go_at_call 34; refine (write_string ⟨l.toArray⟩ (HB.out.drewN _) hw1 hz).mono ?_; rintro e w2 ⟨⟨n2, rfl⟩, hb2, hbl2, _⟩; have HB2 := Lib.hid hb2; have HW2 := Lib.hid ((below_drewN HW.out _).trans hbl2); have hz2 := HW2.out.size; clear hb2 hbl2)
        | (go_at_call 35; refine (built HB2.out hz2).mono ?_; rintro e w3 ⟨rfl, _, hbl3, _⟩))
      go_ret
      refine ⟨?_, HW2.out.trans hbl3⟩
      rw [← hr.out, HNO.out]; rfl
    · rw [hc] at HC2
      have hun := unesc_app a (38 :: t) hno
      rw [← hat] at hun
      have HUN := Lib.hid hun
      have hla : a.length + (t.length + 1) = s1.size := by rw [← hsd, hat]; simp
      obtain ⟨s2, hs2⟩ : ∃ s2, s1.extract a.length s1.size = s2 := ⟨_, rfl⟩
      have hx := extract_list s1 (n := a.length) (by omega)
      rw [hs2, HL.out, hat, List.drop_left] at hx
      obtain ⟨hx1, hx2⟩ := hx
      have HES := Lib.hid (fun W (hW : Below w.heap.size w W) => escape_any s2 (by rw [hx1]; rfl) (by omega) (HE.out.below hW hsz4))
      have i1 : (a.length : Int) ≤ (s1.size : Int) := by omega
      have hw1 : acc.length + (⟨a.toArray⟩ : ByteArray).size ≤ 140737488355328 := by show acc.length + a.length ≤ _; omega
      have i0 : (⟨a.toArray⟩ : ByteArray).size = a.length := rfl
      have HX1 := Lib.hid hx1
      have hne : 1 ≤ s2.size := by omega
      have hzq : ∀ q, w.heap.size ≤ (wr.drewN q).heap.size := fun q => hz
      have HX2 := Lib.hid hx2
      clear hc hno hun hat hx1 HL hx2
      obtain ⟨RO, hRO⟩ : ∃ RO, refAt s2.data.toList = RO := ⟨_, rfl⟩
      rw [hRO] at HES
      rw [HX1.out] at hRO
      rcases RO with _ | ⟨x, k⟩
      · have hst := unesc_none hRO
        have HST := Lib.hid hst
        obtain ⟨s3, hs3⟩ : ∃ s3, s2.extract 1 s2.size = s3 := ⟨_, rfl⟩
        have hy := extract_list s2 (n := 1) hne
        rw [hs3, HX1.out] at hy
        obtain ⟨hy1, hy2⟩ := hy
        have HY1 := Lib.hid hy1
        have i2 : (1 : Int) ≤ (s2.size : Int) := by omega
        have hw2 : (acc ++ a).length + (⟨#[38]⟩ : ByteArray).size ≤ 140737488355328 := by rw [List.length_append]; show _ + 1 ≤ _; omega
        clear hst hRO hy1
        go_wp2_with (first
          | (go_at_call 33; refine (HC2.out).mono ?_; rintro e w1 ⟨rfl, q, rfl⟩; dsimp only)
          | (go_at_call 34; with_reducible refine (write_string ⟨a.toArray⟩ (HB.out.drewN _) hw1 (hzq _)).mono ?_; rintro e w2 ⟨⟨n2, rfl⟩, hb2, hbl2, _⟩; have HB2 := Lib.hid hb2; have HW2 := Lib.hid ((below_drewN HW.out _).trans hbl2); clear hb2 hbl2)
          | (go_at_call 36; refine (HES.out _ HW2.out).mono ?_; rintro e w3 ⟨rfl, hb3⟩; have HB3 := Lib.hid (HB2.out.below hb3); have HW3 := Lib.hid (HW2.out.trans (hb3.mono HW2.out.size)); have hz3 := HW3.out.size; clear hb3; dsimp only [refOut])
          | (go_at_call 34; with_reducible refine (write_string ⟨#[38]⟩ HB3.out hw2 hz3).mono ?_; rintro e w4 ⟨⟨n4, rfl⟩, hb4, hbl4, _⟩))
        go_roundg (gk - a.length - 1)
        case measure => have := HG.out; omega
        case rel =>
          have h2 := HX2.out
          have hg := HG.out
          refine ⟨s3, acc ++ a ++ [38], rfl, by omega, hb4, HW3.out.trans hbl4, ?_, Lib.hid ?_⟩
          · simp only [List.length_append, List.length_cons, List.length_nil]; omega
          · rw [← hr.out, HUN.out, HST.out, HY1.out]; simp
      · have hst := unesc_ref hRO rfl
        have HST := Lib.hid hst
        have hkp := refAt_pos hRO
        have hkl := refAt_len hRO
        obtain ⟨s3, hs3⟩ : ∃ s3, s2.extract k s2.size = s3 := ⟨_, rfl⟩
        have hk2 : k ≤ s2.size := by have := hkp.2.2; rw [List.length_cons] at this; have := HX2.out; omega
        have hy := extract_list s2 (n := k) hk2
        rw [hs3, HX1.out] at hy
        obtain ⟨hy1, hy2⟩ := hy
        have HY1 := Lib.hid hy1
        have i2 : (k : Int) ≤ (s2.size : Int) := by omega
        have i3 : ((k : Int) == 0) = false := by have := hkp.1; simp; omega
        have hw2 : (acc ++ a).length + (⟨x.toArray⟩ : ByteArray).size ≤ 140737488355328 := by
          have h2 := HX2.out
          rw [List.length_append]; show _ + x.length ≤ _; omega
        have HKP := Lib.hid hkp.1
        clear hst hRO hy1 hkp
        go_wp2_with (first
          | (go_at_call 33; refine (HC2.out).mono ?_; rintro e w1 ⟨rfl, q, rfl⟩; dsimp only)
          | (go_at_call 34; with_reducible refine (write_string ⟨a.toArray⟩ (HB.out.drewN _) hw1 (hzq _)).mono ?_; rintro e w2 ⟨⟨n2, rfl⟩, hb2, hbl2, _⟩; have HB2 := Lib.hid hb2; have HW2 := Lib.hid ((below_drewN HW.out _).trans hbl2); clear hb2 hbl2)
          | (go_at_call 36; refine (HES.out _ HW2.out).mono ?_; rintro e w3 ⟨rfl, hb3⟩; have HB3 := Lib.hid (HB2.out.below hb3); have HW3 := Lib.hid (HW2.out.trans (hb3.mono HW2.out.size)); have hz3 := HW3.out.size; clear hb3; dsimp only [refOut])
          | (go_at_call 34; with_reducible refine (write_string ⟨x.toArray⟩ HB3.out hw2 hz3).mono ?_; rintro e w4 ⟨⟨n4, rfl⟩, hb4, hbl4, _⟩))
        go_roundg (gk - a.length - k)
        case measure => have := HKP.out; have := HX2.out; have := HG.out; omega
        case rel =>
          have h2 := HX2.out
          have hg := HG.out
          refine ⟨s3, acc ++ a ++ x, rfl, by omega, hb4, HW3.out.trans hbl4, ?_, Lib.hid ?_⟩
          · simp only [List.length_append]; omega
          · rw [← hr.out, HUN.out, HST.out, HY1.out]; simp
end Go.Proofs.YtnpoipjnnlbnfaaDoor
