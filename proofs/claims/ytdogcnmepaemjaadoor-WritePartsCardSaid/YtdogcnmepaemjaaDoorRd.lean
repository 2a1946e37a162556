/- Escape walked: a text with what stands for its runes. No conditions but that the text is not endless. -/
import Derived.Test.YtdogcnmepaemjaaDoorRc
import Derived.Test.YtdogcnmepaemjaaDoorBlk
import Derived.Laws.RangeAny
namespace Go.Proofs.YtdogcnmepaemjaaDoor
set_option linter.unusedVariables false
open Go.RowKit Go.Proofs.Fm Go.Proofs.Fb Go.Proofs.Fk Go.Proofs.Fu Go.Proofs.Fr

theorem size_list (s : ByteArray) : s.data.toList.length = s.size := by rw [Array.length_toList]; rfl
theorem ext_list (s : ByteArray) (a b : Nat) : (s.extract a b).data.toList = (s.data.toList.drop a).take (b - a) := by
  rw [Lib.extract_data]
theorem pos_step (s : ByteArray) (pos : Nat) (h : pos < s.size) : s.data.toList.drop pos ≠ [] ∧ Lib.decodeL (s.data.toList.drop pos) = Utf8.decode s pos ∧ 1 ≤ (Utf8.decode s pos).2 ∧ pos + (Utf8.decode s pos).2 ≤ s.size := by
  have hd := Lib.decodeL_drop s pos
  have hne : s.data.toList.drop pos ≠ [] := by
    intro e
    have := congrArg List.length e
    rw [List.length_drop, size_list] at this
    simp at this; omega
  have hw := Lib.decodeL_width (s.data.toList.drop pos)
  have hx := Lib.decodeL_le _ hne
  rw [hd] at hw hx
  rw [List.length_drop, size_list] at hx
  exact ⟨hne, hd, hw, by omega⟩
/-- what is held while a text is gone over: the builder holds acc, dn bytes are done -/
structure EscSt (w : World) (q : Bool) (s : ByteArray) (pos dn : Nat) (acc : List UInt8) (W : World) : Prop where
  bld : Bld W w.heap.size w.heap.size acc
  it : W.heap[w.heap.size + 1]? = some (.stringIter s pos)
  bl : Below w.heap.size w W
  eq : acc ++ ((s.data.toList.drop dn).take (pos - dn) ++ escS q (s.data.toList.drop pos)) = escS q s.data.toList
  le : acc.length ≤ 6 * dn
theorem take_more {l : List UInt8} {a b c : Nat} (h1 : a ≤ b) : (l.drop a).take (b - a) ++ (l.drop b).take c = (l.drop a).take (b + c - a) := by
  rw [show b + c - a = (b - a) + c by omega, List.take_add, List.drop_drop, show a + (b - a) = b by omega]
set_option maxHeartbeats 4000000 in
set_option maxRecDepth 100000 in
theorem escape_any (q : Bool) (s : ByteArray) (hs : s.size ≤ 17592186044416) (w : World) :
    Calls Tryd.prog 9 #[.string s, .bool q] w fun e w' => e = .returned (.string ⟨(escS q s.data.toList).toArray⟩) ∧ Below w.heap.size w w' := by
  go_enter Tryd.func9, Tryd.ntmps9
  go_wp2
  go_loopg [6] s.size (fun gk x wr => ∃ (pos dn : Nat) (acc : List UInt8), s.size ≤ pos + gk ∧ x = .int .i64 (dn : Int) ∧ dn ≤ pos ∧ pos ≤ s.size ∧ Hid (EscSt w q s pos dn acc wr))
  case atStart =>
    refine ⟨0, 0, [], by omega, rfl, Nat.le_refl _, by omega, Lib.hid ⟨(bld_new w).alloc _, ?_, ((Below.refl _ w).alloc (Nat.le_refl _) _).alloc (by simp) _, by simp, by simp⟩⟩
    have := World.iter_heap (w.alloc (.cells #[.pointer none, .slice none 0 0] 56)) s 0
    simpa using this
  case round =>
    obtain ⟨pos, dn, acc, hk, rfl, hdp, hps, hst⟩ := hrel
    by_cases hp : pos < s.size
    · have hnx : ∀ ty, (Instr.next (.pointer (some ⟨w.heap.size + 1, 0, none⟩)) true ty).run Tryd.prog wr = _ := fun ty => Lib.run_next_any_at wr (w.heap.size + 1) s pos ty hst.out.it hp
      obtain ⟨h1, h2, h3, h4⟩ := pos_step s pos hp
      obtain ⟨R, hR⟩ : ∃ R, (Utf8.decode s pos).1 = R := ⟨_, rfl⟩
      obtain ⟨D, hD⟩ : ∃ D, (Utf8.decode s pos).2 = D := ⟨_, rfl⟩
      have hsz : w.heap.size + 1 < wr.heap.size := (Array.getElem?_eq_some_iff.1 hst.out.it).1
      have hB2 := Lib.IsBuilderF.iterAt hst.out.bld hst.out.it (pos + D)
      have hit2 := Lib.iterAt_heap wr (w.heap.size + 1) s pos (pos + D) hst.out.it
      have hbl2 := Lib.below_iterAt hst.out.bl (k := w.heap.size + 1) (by omega) s (pos + D)
      have hst1 := escS_step q h1
      rw [h2, hR, hD] at hst1
      have hrw : escOf q R ≠ [] → Lib.runeLen (R : Int) = (D : Int) := by
        have := @rune_width (s.data.toList.drop pos) q
        rw [h2, hR, hD] at this; exact this
      rw [hR, hD] at hnx
      rw [hD] at h3 h4
      have HEQ := hst.out.eq
      have HLE := hst.out.le
      have HE := Lib.hid (fun W => escapeOf_any q (R : Int) W)
      have HST := Lib.hid hst1
      have HRW := Lib.hid hrw
      have HEQ2 := Lib.hid HEQ
      obtain ⟨E, hE⟩ : ∃ E, escOf q (R : Int) = E := ⟨_, rfl⟩
      have hE6 : E.length ≤ 6 := hE ▸ escOf_le q R
      have HB2 := Lib.hid hB2
      have HIT2 := Lib.hid hit2
      have HBL2 := Lib.hid hbl2
      have hz2 : w.heap.size ≤ (wr.iterAt (w.heap.size + 1) s (pos + D)).heap.size := hbl2.size
      rw [hE] at HST HRW HE
      clear hE hst1 hrw HEQ hB2 hit2 hbl2 h1 h2 hR hD hst
      obtain ⟨W2, hW2⟩ : ∃ W, wr.iterAt (w.heap.size + 1) s (pos + D) = W := ⟨_, rfl⟩
      rw [hW2] at hnx HB2 HIT2 HBL2 hz2
      clear hW2
      by_cases hEn : E = []
      · have HST2 := Lib.hid (HST.out.trans (by rw [if_pos hEn]))
        clear HST HRW
        subst hEn
        go_wp2_with (go_at_call 30; refine (HE.out _).mono ?_; rintro e w1 ⟨rfl, rfl⟩)
        go_roundg (gk - D)
        case measure => omega
        case rel =>
          refine ⟨pos + D, dn, acc, by omega, rfl, by omega, by omega, Lib.hid ⟨HB2.out, HIT2.out, HBL2.out, ?_, HLE⟩⟩
          rw [← HEQ2.out, HST2.out, List.drop_drop, ← take_more (c := D) hdp, List.append_assoc]
      · have HST2 := Lib.hid (HST.out.trans (by rw [if_neg hEn]))
        have HRW2 := Lib.hid (fun W => (runeLen_any (R : Int) W))
        rw [HRW.out hEn] at HRW2
        have b1 : (E == []) = false := by rw [beq_eq_false_iff_ne]; exact hEn
        have hx := ext_list s dn pos
        obtain ⟨X, hX⟩ : ∃ X, s.extract dn pos = X := ⟨_, rfl⟩
        have hXs : X.size = pos - dn := by rw [← size_list, ← hX, hx, List.length_take, List.length_drop, size_list]; omega
        have hs1 : X.size + (⟨E.toArray⟩ : ByteArray).size ≤ 9223372036854775807 := by rw [hXs]; show pos - dn + E.toArray.size ≤ _; simp; omega
        have HX := Lib.hid hx
        rw [hX] at HX
        have hXE : (X ++ (⟨E.toArray⟩ : ByteArray)).data.toList = (s.data.toList.drop dn).take (pos - dn) ++ E := by
          rw [ByteArray.data_append, Array.toList_append, HX.out]
        have hlen : acc.length + (X ++ (⟨E.toArray⟩ : ByteArray)).size ≤ 140737488355328 := by rw [← size_list, hXE, List.length_append, List.length_take]; omega
        have HXE := Lib.hid hXE
        have HW := Lib.hid (write_string (X ++ (⟨E.toArray⟩ : ByteArray)) HB2.out hlen hz2)
        clear HST HRW hEn hx hXE hlen
        go_wp2_with (first
          | (go_at_call 30; refine (HE.out _).mono ?_; rintro e w1 ⟨rfl, rfl⟩)
          | (go_at_call 25; refine (HW.out).mono ?_; rintro e w2 ⟨⟨n2, rfl⟩, hb2, bl2, k2⟩; have HB3 := Lib.hid hb2; have HBL3 := Lib.hid (HBL2.out.trans bl2); have HIT3 := Lib.hid (k2.iter HIT2.out (by omega)); clear hb2 bl2 k2)
          | (go_at_call 31; refine (HRW2.out _).mono ?_; rintro e w1 ⟨rfl, rfl⟩))
        go_roundg (gk - D)
        case measure => omega
        case rel =>
          refine ⟨pos + D, pos + D, _, by omega, by go_num, Nat.le_refl _, by omega, Lib.hid ⟨HB3.out, HIT3.out, HBL3.out, ?_, ?_⟩⟩
          · rw [← HEQ2.out, HST2.out, HXE.out, List.drop_drop, Nat.sub_self, List.take_zero, List.nil_append]
            simp only [List.append_assoc]
          · rw [List.length_append, HXE.out, List.length_append, List.length_take]; omega
    · have hps2 : pos = s.size := by omega
      have hnx : ∀ ty, (Instr.next (.pointer (some ⟨w.heap.size + 1, 0, none⟩)) true ty).run Tryd.prog wr = _ := fun ty => Lib.run_next_end_at wr (w.heap.size + 1) s pos ty hst.out.it hp
      have hx := ext_list s dn s.size
      obtain ⟨X, hX⟩ : ∃ X, s.extract dn s.size = X := ⟨_, rfl⟩
      rw [hX] at hx
      have hXs : X.size = s.size - dn := by rw [← size_list, hx, List.length_take, List.length_drop, size_list]; omega
      have hle := hst.out.le
      have hbl := hst.out.bl
      have hz2 : w.heap.size ≤ wr.heap.size := hbl.size
      have HW := Lib.hid (write_string X hst.out.bld (by rw [hXs]; omega) hz2)
      have HEND : Hid (acc ++ X.data.toList = escS q s.data.toList) := Lib.hid (by
        rw [← hst.out.eq, hx, hps2, List.drop_of_length_le (show s.data.toList.length ≤ s.size from Nat.le_of_eq (size_list s)), escS_nil, List.append_nil])
      have HBL := Lib.hid hbl
      clear hx hXs hle hbl hst
      go_wp2_with (first
          | (go_at_call 25; refine (HW.out).mono ?_; rintro e w2 ⟨⟨n2, rfl⟩, hb2, bl2, k2⟩; have HBL3 := Lib.hid (HBL.out.trans bl2); have hz3 := HBL3.out.size; have HS := Lib.hid (built hb2 hz3); clear hb2 bl2 k2)
          | (go_at_call 29; refine (HS.out).mono ?_; rintro e w3 ⟨rfl, hb3, bl3, k3⟩))
      go_ret
      rw [HEND.out]
      exact ⟨rfl, HBL3.out.trans bl3⟩
end Go.Proofs.YtdogcnmepaemjaaDoor
