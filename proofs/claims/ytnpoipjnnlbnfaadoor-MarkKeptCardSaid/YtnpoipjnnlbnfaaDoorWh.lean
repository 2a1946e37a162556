/- MarkValues walked. No conditions but what the world holds of the variables. -/
import Derived.Test.YtnpoipjnnlbnfaaDoorWe
import Derived.Laws.Cover4
namespace Go.Proofs.YtnpoipjnnlbnfaaDoor
set_option linter.unusedVariables false
open Go.RowKit Go.Proofs.Fe Go.Proofs.Fm Go.Proofs.Fb Go.Proofs.Fk Go.Proofs.Fs Go.Proofs.Fc Go.Proofs.Fu

theorem runesBytes_enc (ns : List Int) : runesBytes ns = ⟨(encB ns).toArray⟩ := by
  have key : ∀ (ns : List Int) (a : List UInt8), ns.foldl (fun r n => r ++ Utf8.encode n) (⟨a.toArray⟩ : ByteArray) = ⟨(a ++ encB ns).toArray⟩ := by
    intro ns
    induction ns with
    | nil => intro a; simp [encB]
    | cons r t ih =>
      intro a
      rw [List.foldl_cons, enc_bytes, cat_list, ih, encB_cons, List.append_assoc]
  exact key ns []
theorem runes_back {P : Program} {W : World} (src dst e : TypeId) (b c : Nat) (xs : List Int) (hs : P.underlying src = some (.slice e)) (he : P.underlying e = some (.int .i32)) (hd : P.underlying dst = some .string) (h : Row W .i32 (some ⟨b, 0, none⟩) xs) :
    (convert src dst (.slice (some ⟨b, 0, none⟩) xs.length c)).run P W = .ok (.string ⟨(encB xs).toArray⟩) W := by
  rw [run_convert_runes W src dst e ⟨b, 0, none⟩ xs.length c xs (Nat.le_refl _) hs he hd, List.take_length, runesBytes_enc]
  intro j hj
  obtain ⟨b', o', hb, hc⟩ := h (by intro e; subst e; simp at hj)
  have e1 : b' = b ∧ o' = 0 := by injection hb with hb; injection hb with e1 e2; exact ⟨e1.symm, e2.symm⟩
  obtain ⟨rfl, rfl⟩ := e1
  rw [add_zero_addr]
  have := hc j hj
  rwa [Nat.zero_add] at this
theorem escR_fix {r : Int} (h : (fix r : Int) = r) : ∀ x ∈ escR r, (fix x : Int) = x := by
  unfold escR
  split
  · decide
  · split
    · decide
    · intro x hx; rw [List.mem_singleton.1 hx]; exact h
theorem esc_fix {ns : List Int} (h : ∀ r ∈ ns, (fix r : Int) = r) : ∀ x ∈ esc ns, (fix x : Int) = x := by
  intro x hx
  unfold esc at hx
  obtain ⟨l, hl, hx⟩ := List.mem_flatten.1 hx
  obtain ⟨r, hr, rfl⟩ := List.mem_map.1 hl
  exact escR_fix (h r hr) x hx
theorem values_tok (s : List UInt8) (h : encB (runesI s) = s) :
    tok (runesI (60 :: 105 :: 32 :: 113 :: 61 :: 34 :: (encB (esc (runesI s)) ++ [34, 32, 119, 32, 61, 32, 39, 49, 39, 62]))) = [⟨2, [105], [], [([113], s), ([119], [49])], false⟩] := by
  have e1 : ([60, 105, 32, 113, 61, 34] : List UInt8) = encB [60, 105, 32, 113, 61, 34] := by decide
  have e2 : runesI ([60, 105, 32, 113, 61, 34] ++ (encB (esc (runesI s)) ++ [34, 32, 119, 32, 61, 32, 39, 49, 39, 62])) = [60, 105, 32, 113, 61, 34] ++ (esc (runesI s) ++ [34, 32, 119, 32, 61, 32, 39, 49, 39, 62]) := by
    rw [e1, runesI_app _ _ (by decide), runesI_app _ _ (esc_fix plain_fix)]
    have e4 : runesI [34, 32, 119, 32, 61, 32, 39, 49, 39, 62] = [34, 32, 119, 32, 61, 32, 39, 49, 39, 62] := by decide
    rw [e4]
  have e0 : ∀ y : List UInt8, 60 :: 105 :: 32 :: 113 :: 61 :: 34 :: y = [60, 105, 32, 113, 61, 34] ++ y := fun _ => rfl
  rw [e0, e2, ← List.append_assoc, tok_values, h]
set_option maxHeartbeats 4000000 in
set_option maxRecDepth 100000 in
theorem values_walk (w : World) (he : Env w) (t : ByteArray) (_ : t.size ≤ maxLen) (hz : t.size ≤ 140737488351232) :
    Calls Tryd.prog 11 #[.string t] w fun e w' => e = .returned (.bool true) ∧ Below w.heap.size w w' := by
  have HF := Lib.hid (few_any t 300 hz (by omega) w)
  have HE := Lib.hid (fun W (hb : Below w.heap.size w W) => he.below hb he.sz)
  clear he
  go_enter Tryd.func11, Tryd.ntmps11
  go_upto_region 2 with (go_at_call 25; refine (HF.out).mono ?_; rintro e w1 ⟨s, hs, rfl, rfl⟩)
  clear HF hz
  obtain ⟨l, rfl⟩ : ∃ l : List UInt8, (⟨l.toArray⟩ : ByteArray) = s := ⟨s.data.toList, rfl⟩
  have hs : l.length ≤ 300 := hs
  obtain ⟨c0, w0, hcv, hrow, hbl⟩ := text_runes (P := Tryd.prog) w 9 32 21 ⟨l.toArray⟩ Tryd.underlying9 Tryd.underlying32 Tryd.underlying21 (by show l.length ≤ _; omega)
  dsimp only at hcv hrow
  have hbk := runes_back (P := Tryd.prog) 32 9 21 w.heap.size c0 (runesI l) Tryd.underlying32 Tryd.underlying21 Tryd.underlying9 hrow
  have HB := Lib.hid hbl
  clear hrow hbl
  obtain ⟨Q, hQ⟩ : ∃ Q, encB (runesI l) = Q := ⟨_, rfl⟩
  rw [hQ] at hbk
  by_cases hq : Q = l
  · rw [hq] at hbk hQ
    clear hq Q
    have HQ := Lib.hid hQ
    have HI := Lib.hid (fun pos => HB.out.alloc HB.out.size (.stringIter ⟨l.toArray⟩ pos))
    clear hQ
    go_wp2
    go_loopg [3] l.length (fun gk x wr => ∃ (pos : Nat) (acc : List UInt8), l.length ≤ pos + gk ∧ x = .string ⟨acc.toArray⟩ ∧ acc.length + 6 * gk ≤ 1800 ∧ Hid (acc ++ encB (esc ((runesB (l.drop pos)).map (fun r : Nat => (r : Int)))) = encB (esc (runesI l))) ∧ wr = w0.iter ⟨l.toArray⟩ pos)
    case atStart => exact ⟨0, [], by omega, rfl, by simp; omega, Lib.hid rfl, rfl⟩
    case round =>
      obtain ⟨pos, acc, hk, rfl, hal, hrun, rfl⟩ := hrel
      by_cases hp : pos < (⟨l.toArray⟩ : ByteArray).size
      · have hnx : ∀ ty, (Instr.next (.pointer (some ⟨w0.heap.size, 0, none⟩)) true ty).run Tryd.prog (w0.iter ⟨l.toArray⟩ pos) = _ := fun ty => run_next_any w0 ⟨l.toArray⟩ pos ty hp
        obtain ⟨h1, h2⟩ := range_step ⟨l.toArray⟩ pos hp
        have hp : pos < l.length := hp
        obtain ⟨R, hR⟩ : ∃ R, (Utf8.decode ⟨l.toArray⟩ pos).1 = R := ⟨_, rfl⟩
        obtain ⟨D, hD⟩ : ∃ D, (Utf8.decode ⟨l.toArray⟩ pos).2 = D := ⟨_, rfl⟩
        rw [hR, hD] at hnx h1
        rw [hD] at h2
        have hst : acc ++ encB (escR (R : Int)) ++ encB (esc ((runesB (l.drop (pos + D))).map (fun r : Nat => (r : Int)))) = encB (esc (runesI l)) := by
          have h := hrun.out
          have h1 : runesB (l.drop pos) = R :: runesB (l.drop (pos + D)) := h1
          rw [h1, List.map_cons, esc_cons, encB_append, ← List.append_assoc] at h
          exact h
        have HST := Lib.hid hst
        clear hR hD h1 hst hrun
        by_cases c1 : (R : Int) = 38
        · have d1 : ((R : Int) == 38) = true := by rw [beq_iff_eq]; exact c1
          have s1 : (⟨acc.toArray⟩ : ByteArray) ++ ⟨#[38, 97, 109, 112, 59]⟩ = ⟨(acc ++ [38, 97, 109, 112, 59]).toArray⟩ := cat_list _ [38, 97, 109, 112, 59]
          have z1 : (⟨acc.toArray⟩ : ByteArray).size + (⟨#[38, 97, 109, 112, 59]⟩ : ByteArray).size ≤ 9223372036854775807 := by show acc.length + 5 ≤ _; omega
          have hE : Hid (encB (escR (R : Int)) = [38, 97, 109, 112, 59]) := Lib.hid (by rw [c1]; decide)
          clear c1
          go_wp2
          go_roundg (gk - 1)
          case measure => omega
          case rel => exact ⟨pos + D, _, by omega, rfl, by simp; omega, Lib.hid (by rw [← HST.out, hE.out]), rfl⟩
        have d1 : ((R : Int) == 38) = false := by rw [beq_eq_false_iff_ne]; exact c1
        by_cases c2 : (R : Int) = 34
        · have d2 : ((R : Int) == 34) = true := by rw [beq_iff_eq]; exact c2
          have s1 : (⟨acc.toArray⟩ : ByteArray) ++ ⟨#[38, 113, 117, 111, 116, 59]⟩ = ⟨(acc ++ [38, 113, 117, 111, 116, 59]).toArray⟩ := cat_list _ [38, 113, 117, 111, 116, 59]
          have z1 : (⟨acc.toArray⟩ : ByteArray).size + (⟨#[38, 113, 117, 111, 116, 59]⟩ : ByteArray).size ≤ 9223372036854775807 := by show acc.length + 6 ≤ _; omega
          have hE : Hid (encB (escR (R : Int)) = [38, 113, 117, 111, 116, 59]) := Lib.hid (by rw [c2]; decide)
          clear c1 c2
          go_wp2
          go_roundg (gk - 1)
          case measure => omega
          case rel => exact ⟨pos + D, _, by omega, rfl, by simp; omega, Lib.hid (by rw [← HST.out, hE.out]), rfl⟩
        have d2 : ((R : Int) == 34) = false := by rw [beq_eq_false_iff_ne]; exact c2
        have hE : encB (escR (R : Int)) = Lib.encodeRune (R : Int) := by
          unfold escR
          rw [if_neg c1, if_neg c2, encB_cons]
          show _ ++ [] = _
          rw [List.append_nil]
        have henc := enc_bytes (R : Int)
        have hel := (enc_le (R : Int)).2
        obtain ⟨E, hE2⟩ : ∃ E, Lib.encodeRune (R : Int) = E := ⟨_, rfl⟩
        rw [hE2] at hE henc hel
        have HE2 := Lib.hid hE
        have s1 : (⟨acc.toArray⟩ : ByteArray) ++ ⟨E.toArray⟩ = ⟨(acc ++ E).toArray⟩ := cat_list _ _
        have z1 : (⟨acc.toArray⟩ : ByteArray).size + (⟨E.toArray⟩ : ByteArray).size ≤ 9223372036854775807 := by show acc.length + E.length ≤ _; omega
        clear c1 c2 hE hE2
        go_wp2
        go_roundg (gk - 1)
        case measure => omega
        case rel => exact ⟨pos + D, _, by omega, rfl, by simp; omega, Lib.hid (by rw [← HST.out, HE2.out]), rfl⟩
      · have hnx : ∀ ty, (Instr.next (.pointer (some ⟨w0.heap.size, 0, none⟩)) true ty).run Tryd.prog (w0.iter ⟨l.toArray⟩ pos) = _ := fun ty => run_next_end w0 ⟨l.toArray⟩ pos ty hp
        have hacc : acc = encB (esc (runesI l)) := by
          have h := hrun.out
          have h1 : runesB (l.drop pos) = [] := range_end ⟨l.toArray⟩ pos hp
          rw [h1] at h
          have e : encB (esc ([].map (fun r : Nat => (r : Int)))) = [] := rfl
          rw [e, List.append_nil] at h
          exact h
        have hlen : acc.length ≤ 1800 := by omega
        clear hp hrun hk hal
        have p1 : (⟨#[60, 105, 32, 113, 61, 34]⟩ : ByteArray) ++ ⟨acc.toArray⟩ = ⟨([60, 105, 32, 113, 61, 34] ++ acc).toArray⟩ := cat_list _ _
        obtain ⟨S1, hS1⟩ : ∃ S : List UInt8, [60, 105, 32, 113, 61, 34] ++ acc = S := ⟨_, rfl⟩
        rw [hS1] at p1
        have p2 : (⟨S1.toArray⟩ : ByteArray) ++ ⟨#[34, 32, 119, 32, 61, 32, 39]⟩ = ⟨(S1 ++ [34, 32, 119, 32, 61, 32, 39]).toArray⟩ := cat_list _ [34, 32, 119, 32, 61, 32, 39]
        obtain ⟨S2, hS2⟩ : ∃ S : List UInt8, S1 ++ [34, 32, 119, 32, 61, 32, 39] = S := ⟨_, rfl⟩
        rw [hS2] at p2
        have p3 : (⟨S2.toArray⟩ : ByteArray) ++ ⟨#[49]⟩ = ⟨(S2 ++ [49]).toArray⟩ := cat_list _ [49]
        obtain ⟨S3, hS3⟩ : ∃ S : List UInt8, S2 ++ [49] = S := ⟨_, rfl⟩
        rw [hS3] at p3
        have p4 : (⟨S3.toArray⟩ : ByteArray) ++ ⟨#[39, 62]⟩ = ⟨(S3 ++ [39, 62]).toArray⟩ := cat_list _ [39, 62]
        obtain ⟨S4, hS4⟩ : ∃ S : List UInt8, S3 ++ [39, 62] = S := ⟨_, rfl⟩
        rw [hS4] at p4
        have l1 : S1.length = acc.length + 6 := by rw [← hS1]; simp
        have l2 : S2.length = S1.length + 7 := by rw [← hS2]; simp
        have l3 : S3.length = S2.length + 1 := by rw [← hS3]; simp
        have l4 : S4.length = S3.length + 2 := by rw [← hS4]; simp
        have hT : tok (runesI S4) = [⟨2, [105], [], [([113], l), ([119], [49])], false⟩] := by
          have h := values_tok l HQ.out
          rw [← hacc] at h
          have e : S4 = 60 :: 105 :: 32 :: 113 :: 61 :: 34 :: (acc ++ [34, 32, 119, 32, 61, 32, 39, 49, 39, 62]) := by
            rw [← hS4, ← hS3, ← hS2, ← hS1]; simp
          rw [e]; exact h
        have z1 : (⟨#[60, 105, 32, 113, 61, 34]⟩ : ByteArray).size + (⟨acc.toArray⟩ : ByteArray).size ≤ 9223372036854775807 := by show 6 + acc.length ≤ _; omega
        have z2 : (⟨S1.toArray⟩ : ByteArray).size + (⟨#[34, 32, 119, 32, 61, 32, 39]⟩ : ByteArray).size ≤ 9223372036854775807 := by show S1.length + 7 ≤ _; omega
        have z3 : (⟨S2.toArray⟩ : ByteArray).size + (⟨#[49]⟩ : ByteArray).size ≤ 9223372036854775807 := by show S2.length + 1 ≤ _; omega
        have z4 : (⟨S3.toArray⟩ : ByteArray).size + (⟨#[39, 62]⟩ : ByteArray).size ≤ 9223372036854775807 := by show S3.length + 2 ≤ _; omega
        have h4 : S4.length ≤ 1900 := by omega
        clear hS1 hS2 hS3 hS4 l1 l2 l3 l4 hacc
        have HI4 := HI.out pos
        obtain ⟨c4, w4, hcv4, hrow4, hbl4⟩ := text_runes (P := Tryd.prog) (w0.iter ⟨l.toArray⟩ pos) 9 32 21 ⟨S4.toArray⟩ Tryd.underlying9 Tryd.underlying32 Tryd.underlying21 (by show S4.length ≤ _; omega)
        have hrl : (runesI S4).length ≤ S4.length := runesI_len ⟨S4.toArray⟩
        have HB4 := Lib.hid (HI4.trans (hbl4.mono HI4.size))
        have HT4 := Lib.hid (toks_of (some ⟨(w0.iter ⟨l.toArray⟩ pos).heap.size, 0, none⟩) (runesI S4).length c4 (runesI S4) rfl hrow4 (by omega) (runesI_small _) (HE.out _ HB4.out))
        rw [hT] at HT4
        dsimp only at hcv4
        clear hrow4 hbl4 hT HI4
        have he1 : ∀ w, (binOp .eql 29 (.agg #[.string ⟨#[113]⟩, .string ⟨l.toArray⟩]) (.agg #[.string ⟨#[113]⟩, .string ⟨l.toArray⟩])).run Tryd.prog w = .ok (.bool true) w := fun w => (eql_attr [113] l [113] l w).trans (by rw [decide_eq_true rfl])
        have he2 : ∀ w, (binOp .eql 29 (.agg #[.string ⟨#[119]⟩, .string ⟨#[49]⟩]) (.agg #[.string ⟨#[119]⟩, .string ⟨#[49]⟩])).run Tryd.prog w = .ok (.bool true) w := fun w => (eql_attr [119] [49] [119] [49] w).trans (by rw [decide_eq_true rfl])
        go_upto_region 99 with (first
          | (go_at_call 22; refine (HT4.out).mono ?_; rintro e w5 ⟨VA, vc, rfl, hv, h3, h5⟩; have H5 := Lib.hid (HB4.out.trans (h5.mono HB4.out.size)); obtain ⟨b1, o1, rfl, hc1⟩ := h3 (by simp); obtain ⟨A1, d1, -, -, -, g3, -, ra⟩ := hc1 0 (by simp); simp only [List.getElem_cons_zero, Nat.zero_mul, Nat.add_zero, List.length_cons, List.length_nil, Nat.zero_add] at g3 ra; obtain ⟨b2, o2, rfl, hc2⟩ := ra (by simp); obtain ⟨q0, q1⟩ := hc2 0 (by simp); obtain ⟨q2, q3⟩ := hc2 1 (by simp); simp only [List.getElem_cons_zero, List.getElem_cons_succ, Nat.zero_mul, Nat.one_mul, Nat.add_zero, Nat.add_assoc, Nat.reduceAdd] at q0 q1 q2 q3; dsimp only [str] at q0 q1 q2 q3; clear h3 h5 hc1 hc2 ra)
          | (go_at_call 17; refine (known_any (HE.out _ H5.out)).mono ?_; rintro e w6 ⟨rfl, h6⟩))
        go_ret
        exact ⟨rfl, H5.out.trans (h6.mono H5.out.size)⟩
  · have hq2 : ¬ (Q == l) := by simpa using hq
    go_wp2_with (go_at_call 17; refine (known_any (HE.out _ HB.out)).mono ?_; rintro e w6 ⟨rfl, h6⟩)
    go_ret
    exact ⟨rfl, HB.out.trans (h6.mono HB.out.size)⟩
end Go.Proofs.YtnpoipjnnlbnfaaDoor
