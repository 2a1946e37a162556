/- Small functions on runes; what is taken up to a rune that ends it; chars; names made small. No conditions but that the list is not endless. -/
import Derived.Test.YtnpoipjnnlbnfaaDoorVb
namespace Go.Proofs.YtnpoipjnnlbnfaaDoor
set_option linter.unusedVariables false
open Go.RowKit Go.Proofs.Fm Go.Proofs.Fb Go.Proofs.Fk Go.Proofs.YtnpoipjnnlbnfaaDoor.Cu_rune

theorem ret_bool {a b : Bool} (h : a = b) : Ending.returned (.bool a) = .returned (.bool b) := by rw [h]
theorem blank_any (r : Int) (w : World) : Calls Tryd.prog 69 #[.int .i32 r] w fun e w' => e = .returned (.bool (Fk.blank r)) ∧ ∃ q, w.drewN q = w' := by
  go_enter Tryd.func69, Tryd.ntmps69
  go_wp2
  all_goals (go_ret; refine ⟨?_, 0, rfl⟩; simp_all [Fk.blank])
theorem letter_any (r : Int) (w : World) (h : -2147483648 ≤ r ∧ r ≤ 2147483647) : Calls Tryd.prog 63 #[.int .i32 r] w fun e w' => e = .returned (.bool (Fk.letter r)) ∧ ∃ q, w.drewN q = w' := by
  go_enter Tryd.func63, Tryd.ntmps63
  go_wp2
  all_goals (go_ret; refine ⟨ret_bool ?_, 0, rfl⟩; unfold Fk.letter; rw [Bool.eq_iff_iff]; simp; omega)
theorem low_any (r : Int) (w : World) (h : -2147483648 ≤ r ∧ r ≤ 2147483647) : Calls Tryd.prog 85 #[.int .i32 r] w fun e w' => e = .returned (.int .i32 (low r)) ∧ ∃ q, w.drewN q = w' := by
  go_enter Tryd.func85, Tryd.ntmps85
  go_wp2
  all_goals (go_ret; refine ⟨ret_int ?_, 0, rfl⟩; unfold low; split <;> omega)
theorem endsTag_any (r : Int) (w : World) : Calls Tryd.prog 68 #[.int .i32 r] w fun e w' => e = .returned (.bool (!inName r)) ∧ ∃ q, w.drewN q = w' := by
  have hb := blank_any r w
  rcases hc : Fk.blank r with _ | _
  all_goals rw [hc] at hb
  all_goals go_enter Tryd.func68, Tryd.ntmps68
  all_goals go_wp2_with (go_at_call 69; refine hb.mono ?_; rintro e w1 ⟨rfl, q, rfl⟩)
  all_goals (go_ret; refine ⟨ret_bool ?_, q, rfl⟩; simp_all [inName, bne])
theorem endsAttr_any (r : Int) (w : World) : Calls Tryd.prog 88 #[.int .i32 r] w fun e w' => e = .returned (.bool (!inAttr r)) ∧ ∃ q, w.drewN q = w' := by
  have hb := endsTag_any r w
  have hi : inAttr r = (inName r && r != 61) := by unfold inAttr inName; cases Fk.blank r <;> cases (r != 47) <;> cases (r != 62) <;> cases (r != 61) <;> rfl
  rw [hi]
  rcases hc : inName r with _ | _
  all_goals rw [hc] at hb
  all_goals go_enter Tryd.func88, Tryd.ntmps88
  all_goals go_wp2_with (go_at_call 68; refine hb.mono ?_; rintro e w1 ⟨rfl, q, rfl⟩)
  all_goals (go_ret; refine ⟨ret_bool ?_, q, rfl⟩; simp_all [bne])
theorem endsPlain_any (r : Int) (w : World) : Calls Tryd.prog 90 #[.int .i32 r] w fun e w' => e = .returned (.bool (!inBare r)) ∧ ∃ q, w.drewN q = w' := by
  have hb := blank_any r w
  rcases hc : Fk.blank r with _ | _
  all_goals rw [hc] at hb
  all_goals go_enter Tryd.func90, Tryd.ntmps90
  all_goals go_wp2_with (go_at_call 69; refine hb.mono ?_; rintro e w1 ⟨rfl, q, rfl⟩)
  all_goals (go_ret; refine ⟨ret_bool ?_, q, rfl⟩; simp_all [inBare, bne])
theorem noBlank_any (r : Int) (w : World) : Calls Tryd.prog 89 #[.int .i32 r] w fun e w' => e = .returned (.bool (!Fk.blank r)) ∧ ∃ q, w.drewN q = w' := by
  have hb := blank_any r w
  go_enter Tryd.func89, Tryd.ntmps89
  go_wp2_with (go_at_call 69; refine hb.mono ?_; rintro e w1 ⟨rfl, q, rfl⟩)
  go_ret
  exact ⟨rfl, q, rfl⟩
theorem isQuote_any (r u : Int) (w : World) (g : Nat) (hc : w.cell? ⟨g, 0, none⟩ = some (.int .i32 u)) : Calls Tryd.prog 91 #[.int .i32 r, .pointer (some ⟨g, 0, none⟩)] w fun e w' => e = .returned (.bool (!(r != u))) ∧ ∃ q, w.drewN q = w' := by
  go_enter Tryd.func91, Tryd.ntmps91
  go_wp2
  go_ret
  refine ⟨ret_bool ?_, 0, rfl⟩
  simp [bne]

/-- what is taken up to a rune that ends it, or to the end; 'ends' asks no more than what the cursor's steps leave -/
theorem take_any (g : Nat) (lb : Array Value) (p : Int → Bool) (eg : ∀ args w, (callFunc g args).run Tryd.prog w = .ok (.enter g args) w) {B b : Nat} {w : World} {L : List Int} (h : At B w b L) (hB : B ≤ w.heap.size)
    (hp : ∀ W (r : Int), w.grownBy W (some b) → Calls Tryd.prog g (#[.int .i32 r] ++ lb) W fun e w' => e = .returned (.bool (!p r)) ∧ ∃ q, W.drewN q = w') :
    Calls Tryd.prog 67 #[.pointer (some ⟨b, 0, none⟩), .func (.func g) #[] lb] w fun e w' => e = .returned (.string ⟨(Fu.encB (L.takeWhile p)).toArray⟩) ∧ At B w' b (L.dropWhile p) ∧ w.grownBy w' (some b) := by
  have HP := Lib.hid hp
  clear hp
  have hbB := h.lt.1
  have hlen := h.len
  have hnew := bld_new w
  go_enter Tryd.func67, Tryd.ntmps67
  go_wp2
  go_loopg [] L.length (fun gk wr => ∃ R acc, R.length = gk ∧ At B wr b R ∧ w.grownBy wr (some b) ∧ Bld wr w.heap.size w.heap.size acc ∧ acc.length ≤ 4 * (L.length - R.length) ∧ R.length ≤ L.length ∧ Hid (Fu.encB (L.takeWhile p) = acc ++ Fu.encB (R.takeWhile p)) ∧ Hid (L.dropWhile p = R.dropWhile p))
  case atStart => exact ⟨L, [], rfl, h.below ((Below.refl B w).alloc hB _) (Nat.le_refl _), World.grownBy_alloc w _ _, hnew, by simp, Nat.le_refl _, Lib.hid (by simp), rfl⟩
  case round =>
    obtain ⟨R, acc, hR, ha, hg, hbd, hal, hRL, he, hdr⟩ := hrel
    have HR := Lib.hid hR
    have HA := Lib.hid ha
    have HG := Lib.hid hg
    have HB := Lib.hid hbd
    have hz : w.heap.size ≤ wr.heap.size := hg.size
    have hpk := peek ha 0
    clear hR ha hg hbd hnew
    rcases R with _ | ⟨r, t⟩
    · have HPk : Hid (Calls Tryd.prog 61 #[.pointer (some ⟨b, 0, none⟩), .int .i64 0] wr fun e w' => e = .returned (.tuple #[.int .i32 0, .bool false]) ∧ ∃ q, wr.drewN q = w') := Lib.hid (by simpa using hpk)
      clear hpk
      go_wp2_with (first
        | (go_at_call 61; refine (HPk.out).mono ?_; rintro e w1 ⟨rfl, q, rfl⟩)
        | (go_at_call 35; refine (built (HB.out.drewN _) hz).mono ?_; rintro e w2 ⟨rfl, hb2, hbl2, _⟩))
      go_ret
      have e1 : Fu.encB (L.takeWhile p) = acc := by rw [he.out]; simp [Fu.encB]
      rw [e1, hdr.out]
      exact ⟨rfl, (HA.out.drewN q).below hbl2 hB, grown_below (grown_drewN HG.out q) hbl2 (Nat.le_refl _)⟩
    · have HPk : Hid (Calls Tryd.prog 61 #[.pointer (some ⟨b, 0, none⟩), .int .i64 0] wr fun e w' => e = .returned (.tuple #[.int .i32 r, .bool true]) ∧ ∃ q, wr.drewN q = w') := Lib.hid (by simpa using hpk)
      clear hpk
      have HQ := Lib.hid (fun q => HP.out (wr.drewN q) r (grown_drewN HG.out q))
      by_cases hpr : p r = true
      · rw [hpr] at HQ
        have hrr := HA.out.head
        have HT := Lib.hid (tw_yes (t := t) hpr)
        clear hpr
        have hal2 : acc.length + 4 ≤ 140737488355328 := by have := Nat.sub_le L.length (r :: t).length; omega
        go_wp2_with (first
          | (go_at_call 61; refine (HPk.out).mono ?_; rintro e w1 ⟨rfl, q, rfl⟩)
          | (go_at_fn g; refine (HQ.out _).mono ?_; rintro e w1 ⟨rfl, q2, rfl⟩)
          | (go_at_call 65; refine (write_rune r hrr.1 hrr.2 (HB.out.drewN _) hal2 hz).mono ?_; rintro e w2 ⟨⟨n2, rfl⟩, hb2, hbl2, _⟩; have HA2 := Lib.hid ((HA.out.drewN _).below hbl2 hB); have HG2 := Lib.hid (grown_below (grown_drewN HG.out _) hbl2 (Nat.le_refl _)); have HB2 := Lib.hid hb2; clear hb2 hbl2)
          | (go_at_call 64; refine (next_some HA2.out).mono ?_; rintro e w3 ⟨rfl, ha3, hg3⟩))
        go_roundg t.length
        case measure => have := HR.out; simp at this; omega
        case rel =>
          have h5 := (Fk.enc_le r).2 
          refine ⟨t, acc ++ Lib.encodeRune r, rfl, ha3, grown_trans HG2.out hg3, HB2.out.grown hg3 (by omega), ?_, ?_, Lib.hid ?_, Lib.hid ?_⟩
          · rw [List.length_append]; simp only [List.length_cons] at hal hRL; omega
          · simp only [List.length_cons] at hRL; omega
          · rw [he.out, HT.out.1, Fe.encB_cons, List.append_assoc]
          · rw [hdr.out, HT.out.2]
      · have hpf : p r = false := by simpa using hpr
        rw [hpf] at HQ
        have HT := Lib.hid (tw_no (t := t) hpf)
        clear hpr hpf
        go_wp2_with (first
          | (go_at_call 61; refine (HPk.out).mono ?_; rintro e w1 ⟨rfl, q, rfl⟩)
          | (go_at_fn g; refine (HQ.out _).mono ?_; rintro e w1 ⟨rfl, q2, rfl⟩)
          | (go_at_call 35; refine (built (HB.out.drewN _) hz).mono ?_; rintro e w2 ⟨rfl, hb2, hbl2, _⟩))
        go_ret
        have e1 : Fu.encB (L.takeWhile p) = acc := by rw [he.out, HT.out.1]; simp [Fu.encB]
        rw [e1, hdr.out, HT.out.2]
        exact ⟨rfl, (HA.out.drewN _).below hbl2 hB, grown_below (grown_drewN HG.out _) hbl2 (Nat.le_refl _)⟩
end Go.Proofs.YtnpoipjnnlbnfaaDoor
