/- MarkPlain walked. No conditions but what the world holds of the variables. -/
import Derived.Test.YtnpoipjnnlbnfaaDoorWd
import Derived.Laws.RangeAny
namespace Go.Proofs.YtnpoipjnnlbnfaaDoor
set_option linter.unusedVariables false
open Go.RowKit Go.Proofs.Fe Go.Proofs.Fm Go.Proofs.Fb Go.Proofs.Fk Go.Proofs.Fs Go.Proofs.Fc Go.Proofs.Fu

theorem range_step (s : ByteArray) (pos : Nat) (hi : pos < s.size) : runesB (s.data.toList.drop pos) = (Utf8.decode s pos).1 :: runesB (s.data.toList.drop (pos + (Utf8.decode s pos).2)) ∧ 0 < (Utf8.decode s pos).2 := by
  have hd := Lib.decodeL_drop s pos
  have hne : s.data.toList.drop pos ≠ [] := by
    intro e
    have := congrArg List.length e
    rw [List.length_drop, size_data] at this
    simp at this; omega
  have hw := Lib.decodeL_width (s.data.toList.drop pos)
  rw [hd] at hw
  rw [runesB_step _ hne, hd, List.drop_drop]
  exact ⟨rfl, by omega⟩
theorem range_end (s : ByteArray) (pos : Nat) (hi : ¬ pos < s.size) : runesB (s.data.toList.drop pos) = [] := by
  rw [List.drop_eq_nil_of_le (by rw [size_data]; omega), runesB_nil]
def plainR (r : Nat) : Prop := r ≠ 60 ∧ r ≠ 38 ∧ r ≠ 65533
set_option maxHeartbeats 4000000 in
set_option maxRecDepth 100000 in
theorem plain_walk (w : World) (he : Env w) (t : ByteArray) (_ : t.size ≤ maxLen) (hz : t.size ≤ 140737488351232) :
    Calls Tryd.prog 7 #[.string t] w fun e w' => e = .returned (.bool true) ∧ Below w.heap.size w w' := by
  have HF := Lib.hid (few_any t 1000 hz (by omega) w)
  have HE := Lib.hid (fun W (hb : Below w.heap.size w W) => he.below hb he.sz)
  clear he
  go_enter Tryd.func7, Tryd.ntmps7
  go_upto_region 99 with (go_at_call 25; refine (HF.out).mono ?_; rintro e w1 ⟨s, hs, rfl, rfl⟩)
  clear HF hz
  have HI := Lib.hid (fun pos => (Below.refl w.heap.size w).alloc (Nat.le_refl _) (.stringIter s pos))
  go_loopg [4] s.size (fun gk x wr => ∃ pos : Nat, s.size ≤ pos + gk ∧ Hid ((∀ r ∈ runesB (s.data.toList.drop pos), plainR r) → ∀ r ∈ runesB s.data.toList, plainR r) ∧ wr = w.iter s pos)
  case atStart => exact ⟨0, by omega, Lib.hid (fun h => h), rfl⟩
  case round =>
    obtain ⟨pos, hk, hrun, rfl⟩ := hrel
    by_cases hp : pos < s.size
    · have hnx : ∀ ty, (Instr.next (.pointer (some ⟨w.heap.size, 0, none⟩)) true ty).run Tryd.prog (w.iter s pos) = _ := fun ty => run_next_any w s pos ty hp
      obtain ⟨h1, h2⟩ := range_step s pos hp
      obtain ⟨R, hR⟩ : ∃ R, (Utf8.decode s pos).1 = R := ⟨_, rfl⟩
      obtain ⟨D, hD⟩ : ∃ D, (Utf8.decode s pos).2 = D := ⟨_, rfl⟩
      rw [hR, hD] at hnx h1
      rw [hD] at h2
      have H1 := Lib.hid h1
      clear hR hD h1
      by_cases c1 : (R : Int) = 60
      · go_wp2_with (go_at_call 17; refine (known_any (HE.out _ (HI.out _))).mono ?_; rintro e w6 ⟨rfl, h6⟩)
        go_ret
        exact ⟨rfl, (HI.out (pos + D)).trans (h6.mono (HI.out (pos + D)).size)⟩
      by_cases c2 : (R : Int) = 38
      · go_wp2_with (go_at_call 17; refine (known_any (HE.out _ (HI.out _))).mono ?_; rintro e w6 ⟨rfl, h6⟩)
        go_ret
        exact ⟨rfl, (HI.out (pos + D)).trans (h6.mono (HI.out (pos + D)).size)⟩
      by_cases c3 : (R : Int) = 65533
      · go_wp2_with (go_at_call 17; refine (known_any (HE.out _ (HI.out _))).mono ?_; rintro e w6 ⟨rfl, h6⟩)
        go_ret
        exact ⟨rfl, (HI.out (pos + D)).trans (h6.mono (HI.out (pos + D)).size)⟩
      have d1 : ((R : Int) == 60) = false := by rw [beq_eq_false_iff_ne]; exact c1
      have d2 : ((R : Int) == 38) = false := by rw [beq_eq_false_iff_ne]; exact c2
      have d3 : ((R : Int) == 65533) = false := by rw [beq_eq_false_iff_ne]; exact c3
      go_wp2
      go_roundg (gk - 1)
      case measure => omega
      case rel =>
        refine ⟨pos + D, by omega, Lib.hid (fun h => hrun.out ?_), rfl⟩
        rw [H1.out]
        intro r hr
        rcases List.mem_cons.1 hr with rfl | hr
        · exact ⟨by omega, by omega, by omega⟩
        · exact h r hr
    · have hnx : ∀ ty, (Instr.next (.pointer (some ⟨w.heap.size, 0, none⟩)) true ty).run Tryd.prog (w.iter s pos) = _ := fun ty => run_next_end w s pos ty hp
      have hall := hrun.out (by rw [range_end s pos hp]; intro r hr; cases hr)
      clear hrun
      obtain ⟨l, rfl⟩ : ∃ l : List UInt8, (⟨l.toArray⟩ : ByteArray) = s := ⟨s.data.toList, rfl⟩
      have hs : l.length ≤ 1000 := hs
      have hall : ∀ r ∈ runesB l, plainR r := hall
      have HA := Lib.hid hall
      clear hall hp hk
      by_cases hl : l = []
      · subst hl
        go_wp2_with (first
          | (go_at_call 12; refine (cut_true [] (by decide) none 0 0 [] rfl (fun h => absurd rfl h) (HE.out _ (HI.out _)) (by decide)).mono ?_; rintro e w2 ⟨rfl, h2⟩; have H2 := Lib.hid ((HI.out pos).trans (h2.mono (HI.out pos).size)); clear h2)
          | (go_at_call 17; refine (known_any (HE.out _ H2.out)).mono ?_; rintro e w6 ⟨rfl, h6⟩))
        go_ret
        exact ⟨rfl, H2.out.trans (h6.mono H2.out.size)⟩
      · have hem : l.isEmpty = false := by rcases l with _ | ⟨a, b⟩; exact absurd rfl hl; rfl
        have s1 : (⟨#[60, 98, 62]⟩ : ByteArray) ++ ⟨l.toArray⟩ = ⟨(60 :: 98 :: 62 :: l).toArray⟩ := cat_list [60, 98, 62] _
        have s2 : (⟨(60 :: 98 :: 62 :: l).toArray⟩ : ByteArray) ++ ⟨#[60, 47, 98, 62]⟩ = ⟨(60 :: 98 :: 62 :: (l ++ [60, 47, 98, 62])).toArray⟩ := cat_list (60 :: 98 :: 62 :: l) [60, 47, 98, 62]
        have z1 : (⟨#[60, 98, 62]⟩ : ByteArray).size + (⟨l.toArray⟩ : ByteArray).size ≤ 9223372036854775807 := by show 3 + l.length ≤ _; omega
        have z2 : (⟨(60 :: 98 :: 62 :: l).toArray⟩ : ByteArray).size + (⟨#[60, 47, 98, 62]⟩ : ByteArray).size ≤ 9223372036854775807 := by show (60 :: 98 :: 62 :: l).length + 4 ≤ _; simp; omega
        have z3 : (60 :: 98 :: 62 :: (l ++ [60, 47, 98, 62])).length ≤ 16777216 := by simp; omega
        have z4 : l.length ≤ 16777216 := by omega
        have z5 : (⟨l.toArray⟩ : ByteArray).size ≤ 1073741824 := by show l.length ≤ _; omega
        have HT1 := Lib.hid (tok_plain hl HA.out)
        have HT2 : Hid (tok (runesI (60 :: 98 :: 62 :: (l ++ [60, 47, 98, 62]))) = [⟨2, [98], [], [], false⟩, ⟨1, [], l, [], false⟩, ⟨3, [98], [], [], false⟩]) := Lib.hid (by simpa using tok_bold hl HA.out)
        have HU := Lib.hid (plain_unesc HA.out)
        go_upto_region 99 with (first
          | (go_at_call 13; refine (chars_law l (w.iter _ pos)).mono ?_; rintro e w2 ⟨rfl, h2⟩; have H2 := Lib.hid ((HI.out pos).trans (h2.mono (HI.out pos).size)); clear h2)
          | (go_at_call 12; refine (cut_true l z4 (some ⟨w2.heap.size, 0, none⟩) 1 1 _ rfl (TRow.of_block (ts := [(⟨1, [], l, [], false⟩, .slice none 0 0)]) (Bk.new w2 25 _) rfl (by intro p hp; rw [List.mem_singleton.1 hp]; exact ⟨_, _, rfl, ARow.nil _ _⟩)) (HE.out _ (H2.out.alloc H2.out.size _)) HT1.out).mono ?_; rintro e w3 ⟨rfl, h3⟩; have H3 := Lib.hid ((H2.out.alloc H2.out.size _).trans (h3.mono (by have := H2.out.size; simp; omega))); clear h3)
          | (go_at_call 15; refine (open_law [98] false none 0 0 _).mono ?_; rintro e w4 ⟨rfl, h4⟩; have H4 := Lib.hid (H3.out.trans (h4.mono H3.out.size)); clear h4)
          | (go_at_call 13; refine (chars_law l w4).mono ?_; rintro e w5 ⟨rfl, h5⟩; have H5 := Lib.hid (H4.out.trans (h5.mono H4.out.size)); clear h5)
          | (go_at_call 14; refine (shut_law [98] w5).mono ?_; rintro e w6 ⟨rfl, h6⟩; have H6 := Lib.hid (H5.out.trans (h6.mono H5.out.size)); clear h6)
          | (go_at_call 12; refine (cut_true (60 :: 98 :: 62 :: (l ++ [60, 47, 98, 62])) z3 (some ⟨w6.heap.size, 0, none⟩) 3 3 _ rfl (TRow.of_block (ts := [(⟨2, [98], [], [], false⟩, .slice none 0 0), (⟨1, [], l, [], false⟩, .slice none 0 0), (⟨3, [98], [], [], false⟩, .slice none 0 0)]) (Bk.new w6 25 _) rfl (by
              intro p hp
              rcases List.mem_cons.1 hp with hp | hp
              · subst hp; exact ⟨_, _, rfl, ARow.nil _ _⟩
              rcases List.mem_cons.1 hp with hp | hp
              · subst hp; exact ⟨_, _, rfl, ARow.nil _ _⟩
              · rw [List.mem_singleton.1 hp]; exact ⟨_, _, rfl, ARow.nil _ _⟩)) (HE.out _ (H6.out.alloc H6.out.size _)) HT2.out).mono ?_; rintro e w7 ⟨rfl, h7⟩; have H7 := Lib.hid ((H6.out.alloc H6.out.size _).trans (h7.mono (by have := H6.out.size; simp; omega))); clear h7)
          | (go_at_call 16; refine (unescape_any ⟨l.toArray⟩ z5 (HE.out _ H7.out)).mono ?_; rintro e w8 ⟨rfl, h8⟩; rw [show Fe.unesc (⟨l.toArray⟩ : ByteArray).data.toList = l from HU.out]; have H8 := Lib.hid (H7.out.trans (h8.mono H7.out.size)); clear h8)
          | (go_at_call 17; refine (known_any (HE.out _ H8.out)).mono ?_; rintro e w9 ⟨rfl, h9⟩))
        go_ret
        exact ⟨rfl, H8.out.trans (h9.mono H8.out.size)⟩
end Go.Proofs.YtnpoipjnnlbnfaaDoor
