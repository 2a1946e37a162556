/- The document's Escape walked, over runes. No conditions but that the text is short. -/
import Derived.Test.YtdogcnmepaemjaaDoorRd
import Derived.Deep.DeepCutAuto
namespace Go.Proofs.YtdogcnmepaemjaaDoor
set_option linter.unusedVariables false
open Go.RowKit Go.Proofs.Fm Go.Proofs.Fb Go.Proofs.Fk Go.Proofs.Fu Go.Proofs.Fr

theorem runesI_at (s : ByteArray) (pos : Nat) (h : pos < s.size) : runesI (s.data.toList.drop pos) = ((Utf8.decode s pos).1 : Int) :: runesI (s.data.toList.drop (pos + (Utf8.decode s pos).2)) := by
  obtain ⟨h1, h2, _, _⟩ := pos_step s pos h
  rw [runesI_step h1, h2, List.drop_drop]
theorem str_app (a b : List UInt8) : (⟨a.toArray⟩ : ByteArray) ++ ⟨b.toArray⟩ = ⟨(a ++ b).toArray⟩ := by
  apply ByteArray.ext; simp [ByteArray.data_append]
theorem str_len (a : List UInt8) : (⟨a.toArray⟩ : ByteArray).size = a.length := by show a.toArray.size = _; simp
theorem enc_str {r : Nat} (h : r < 55296 ∨ (57343 < r ∧ r ≤ 1114111)) : Utf8.encode (r : Int) = ⟨(Lib.encodeRune (r : Int)).toArray⟩ := by
  have h1 := encode_good r h
  obtain ⟨E, hE⟩ : ∃ E, Utf8.encode (r : Int) = E := ⟨_, rfl⟩
  obtain ⟨L, hL⟩ : ∃ L, Lib.encodeRune (r : Int) = L := ⟨_, rfl⟩
  rw [hE, hL] at h1 ⊢
  subst h1
  exact ByteArray.ext rfl
structure RefSt (w : World) (q : Bool) (s : ByteArray) (pos : Nat) (out : List UInt8) : Prop where
  eq : out ++ escRs q (runesI (s.data.toList.drop pos)) = escRs q (runesI s.data.toList)
  le : out.length ≤ 6 * pos
theorem RefSt.step {w : World} {q : Bool} {s : ByteArray} {pos D : Nat} {R : Int} {out e : List UInt8} (h : RefSt w q s pos out) (hr : runesI (s.data.toList.drop pos) = R :: runesI (s.data.toList.drop (pos + D))) (hD : 1 ≤ D) (he : (if escOf q R = [] then Lib.encodeRune R else escOf q R) = e) : RefSt w q s (pos + D) (out ++ e) := by
  refine ⟨?_, ?_⟩
  · rw [← h.eq, hr, escRs_cons, he, List.append_assoc]
  · have h1 := h.le
    have h2 := (encRune_le R).2
    have h3 := escOf_le q R
    have h4 : e.length ≤ 6 := by rw [← he]; split <;> omega
    rw [List.length_append]; omega
set_option maxHeartbeats 4000000 in
set_option maxRecDepth 100000 in
theorem refEscape_any (q : Bool) (s : ByteArray) (hs : s.size ≤ 1000000) (w : World) :
    Calls Tryd.prog 13 #[.string s, .bool q] w fun e w' => e = .returned (.string ⟨(escRs q (runesI s.data.toList)).toArray⟩) ∧ Below w.heap.size w w' := by
  have HI := Lib.hid (fun pos => (Below.refl w.heap.size w).alloc (Nat.le_refl _) (.stringIter s pos))
  go_enter Tryd.func13, Tryd.ntmps13
  go_upto_region 3 with fail
  go_loopg [5] s.size (fun gk x wr => ∃ (pos : Nat) (out : List UInt8), s.size ≤ pos + gk ∧ x = .string ⟨out.toArray⟩ ∧ pos ≤ s.size ∧ Hid (RefSt w q s pos out) ∧ wr = w.iter s pos)
  case atStart => exact ⟨0, [], by omega, rfl, by omega, Lib.hid ⟨by simp, by simp⟩, rfl⟩
  case round =>
    obtain ⟨pos, out, hk, rfl, hps, hst, rfl⟩ := hrel
    by_cases hp : pos < s.size
    · have hnx : ∀ ty, (Instr.next (.pointer (some ⟨w.heap.size, 0, none⟩)) true ty).run Tryd.prog (w.iter s pos) = _ := fun ty => run_next_any w s pos ty hp
      have hr := runesI_at s pos hp
      obtain ⟨h1, h2, h3, h4⟩ := pos_step s pos hp
      have hv := decodeL_valid (s.data.toList.drop pos)
      rw [h2] at hv
      obtain ⟨R, hR⟩ : ∃ R, (Utf8.decode s pos).1 = R := ⟨_, rfl⟩
      obtain ⟨D, hD⟩ : ∃ D, (Utf8.decode s pos).2 = D := ⟨_, rfl⟩
      rw [hR, hD] at hnx hr
      rw [hD] at h3 h4
      rw [hR] at hv
      have hle := hst.out.le
      have HENC := Lib.hid (enc_str hv)
      have HN := Lib.hid (fun e he => hst.out.step (D := D) (R := (R : Int)) (e := e) hr h3 he)
      clear hR hD h1 h2 hr hv hst
      by_cases c0 : (R : Int) = 38
      · have HN2 := Lib.hid (HN.out [38, 97, 109, 112, 59] (by rw [c0]; rfl))
        have hs1 : (⟨out.toArray⟩ : ByteArray).size + (⟨#[38, 97, 109, 112, 59]⟩ : ByteArray).size ≤ 9223372036854775807 := by rw [str_len]; show out.length + 5 ≤ _; omega
        clear HENC HN
        go_wp2
        go_roundg (gk - D)
        case measure => omega
        case rel => exact ⟨pos + D, _, by omega, by rw [← str_app], by omega, HN2, rfl⟩
      have d0 : ((R : Int) == 38) = false := by rw [beq_eq_false_iff_ne]; exact c0
      by_cases c1 : (R : Int) = 60
      · have HN2 := Lib.hid (HN.out [38, 108, 116, 59] (by rw [c1]; rfl))
        have hs1 : (⟨out.toArray⟩ : ByteArray).size + (⟨#[38, 108, 116, 59]⟩ : ByteArray).size ≤ 9223372036854775807 := by rw [str_len]; show out.length + 4 ≤ _; omega
        clear HENC HN
        go_wp2
        go_roundg (gk - D)
        case measure => omega
        case rel => exact ⟨pos + D, _, by omega, by rw [← str_app], by omega, HN2, rfl⟩
      have d1 : ((R : Int) == 60) = false := by rw [beq_eq_false_iff_ne]; exact c1
      by_cases c2 : (R : Int) = 62
      · have HN2 := Lib.hid (HN.out [38, 103, 116, 59] (by rw [c2]; rfl))
        have hs1 : (⟨out.toArray⟩ : ByteArray).size + (⟨#[38, 103, 116, 59]⟩ : ByteArray).size ≤ 9223372036854775807 := by rw [str_len]; show out.length + 4 ≤ _; omega
        clear HENC HN
        go_wp2
        go_roundg (gk - D)
        case measure => omega
        case rel => exact ⟨pos + D, _, by omega, by rw [← str_app], by omega, HN2, rfl⟩
      have d2 : ((R : Int) == 62) = false := by rw [beq_eq_false_iff_ne]; exact c2
      by_cases c3 : (R : Int) = 160
      · have HN2 := Lib.hid (HN.out [38, 110, 98, 115, 112, 59] (by rw [c3]; rfl))
        have hs1 : (⟨out.toArray⟩ : ByteArray).size + (⟨#[38, 110, 98, 115, 112, 59]⟩ : ByteArray).size ≤ 9223372036854775807 := by rw [str_len]; show out.length + 6 ≤ _; omega
        clear HENC HN
        go_wp2
        go_roundg (gk - D)
        case measure => omega
        case rel => exact ⟨pos + D, _, by omega, by rw [← str_app], by omega, HN2, rfl⟩
      have d3 : ((R : Int) == 160) = false := by rw [beq_eq_false_iff_ne]; exact c3
      by_cases c4 : (R : Int) = 13
      · have HN2 := Lib.hid (HN.out [38, 35, 49, 51, 59] (by rw [c4]; rfl))
        have hs1 : (⟨out.toArray⟩ : ByteArray).size + (⟨#[38, 35, 49, 51, 59]⟩ : ByteArray).size ≤ 9223372036854775807 := by rw [str_len]; show out.length + 5 ≤ _; omega
        clear HENC HN
        go_wp2
        go_roundg (gk - D)
        case measure => omega
        case rel => exact ⟨pos + D, _, by omega, by rw [← str_app], by omega, HN2, rfl⟩
      have d4 : ((R : Int) == 13) = false := by rw [beq_eq_false_iff_ne]; exact c4
      have HZ : Hid (∀ b : Bool, (b = true → (R : Int) = 34) → (b = true → q = true) → b = true → escOf q (R : Int) = [38, 113, 117, 111, 116, 59]) := Lib.hid (fun b h1 h2 hb => by
        unfold escOf
        rw [if_neg c0, if_neg c1, if_neg c2, if_neg c3, if_neg c4, if_pos ⟨h1 hb, h2 hb⟩])
      have HY : Hid (¬ ((R : Int) = 34 ∧ q = true) → escOf q (R : Int) = []) := Lib.hid (fun h => by
        unfold escOf
        rw [if_neg c0, if_neg c1, if_neg c2, if_neg c3, if_neg c4, if_neg h])
      by_cases c5 : (R : Int) = 34 ∧ q = true
      · obtain ⟨c5, rfl⟩ := c5
        have HN2 := Lib.hid (HN.out [38, 113, 117, 111, 116, 59] (by rw [HZ.out true (fun _ => c5) (fun _ => rfl) rfl, if_neg (by simp)]))
        have hs1 : (⟨out.toArray⟩ : ByteArray).size + (⟨#[38, 113, 117, 111, 116, 59]⟩ : ByteArray).size ≤ 9223372036854775807 := by rw [str_len]; show out.length + 6 ≤ _; omega
        have d5 : ((R : Int) == 34) = true := by rw [beq_iff_eq]; exact c5
        clear HENC HN HZ HY c0 c1 c2 c3 c4
        go_wp2
        go_roundg (gk - D)
        case measure => omega
        case rel => exact ⟨pos + D, _, by omega, by rw [← str_app], by omega, HN2, rfl⟩
      · have HN2 := Lib.hid (HN.out (Lib.encodeRune (R : Int)) (by rw [HY.out c5, if_pos rfl]))
        have hs1 : (⟨out.toArray⟩ : ByteArray).size + (Utf8.encode (R : Int)).size ≤ 9223372036854775807 := by rw [str_len, HENC.out, str_len]; have := (encRune_le (R : Int)).2; omega
        clear HN HZ HY c0 c1 c2 c3 c4
        by_cases c6 : (R : Int) = 34
        · have hq : q = false := by cases q <;> simp_all
          subst hq
          have d5 : ((R : Int) == 34) = true := by rw [beq_iff_eq]; exact c6
          clear c5 c6
          go_wp2
          go_roundg (gk - D)
          case measure => omega
          case rel => exact ⟨pos + D, _, by omega, by rw [← str_app, HENC.out], by omega, HN2, rfl⟩
        · have d5 : ((R : Int) == 34) = false := by rw [beq_eq_false_iff_ne]; exact c6
          clear c5 c6
          go_wp2
          go_roundg (gk - D)
          case measure => omega
          case rel => exact ⟨pos + D, _, by omega, by rw [← str_app, HENC.out], by omega, HN2, rfl⟩
    · have hps2 : pos = s.size := by omega
      have hnx : ∀ ty, (Instr.next (.pointer (some ⟨w.heap.size, 0, none⟩)) true ty).run Tryd.prog (w.iter s pos) = _ := fun ty => run_next_end w s pos ty hp
      have HEND : Hid (out = escRs q (runesI s.data.toList)) := Lib.hid (by
        rw [← hst.out.eq, hps2, List.drop_of_length_le (show s.data.toList.length ≤ s.size from Nat.le_of_eq (size_list s))]
        simp [runesI, runesB_nil, escRs_nil])
      clear hst hps2 hps
      go_wp2
      go_ret
      rw [HEND.out]
      exact ⟨rfl, HI.out _⟩
end Go.Proofs.YtdogcnmepaemjaaDoor
