/- Chars up to what begins next; the close tag of a raw text, and the text ahead of it. No conditions but that the list is not endless. -/
import Derived.Test.YtnpoipjnnlbnfaaDoorVe
namespace Go.Proofs.YtnpoipjnnlbnfaaDoor
set_option linter.unusedVariables false
open Go.RowKit Go.Proofs.Fm Go.Proofs.Fb Go.Proofs.Fk Go.Proofs.YtnpoipjnnlbnfaaDoor.Cu_rune

theorem kindAt_chars {r : Int} {t : List Int} (h : begins (r :: t) = false) : kindAt (r :: t) = 1 := by
  unfold kindAt; rw [if_neg (by simp), if_pos h]
theorem kindAt_more {r : Int} {t : List Int} (h : begins (r :: t) = true) : kindAt (r :: t) ≠ 1 := by
  unfold kindAt
  rw [if_neg (by simp), if_neg (by simp [h])]
  repeat' split
  all_goals omega
set_option maxHeartbeats 1000000 in
theorem chars_any {B b : Nat} {w : World} {L : List Int} (h : At B w b L) (hB : B ≤ w.heap.size) :
    Calls Tryd.prog 40 #[.pointer (some ⟨b, 0, none⟩)] w fun e w' => e = .returned (.string ⟨(Fu.encB (Fk.chars L).1).toArray⟩) ∧ At B w' b (Fk.chars L).2 ∧ w.grownBy w' (some b) := by
  have hbB := h.lt.1
  have hlen := h.len
  have hnew := bld_new w
  go_enter Tryd.func40, Tryd.ntmps40
  go_wp2
  go_loopg [] L.length (fun gk wr => ∃ R acc, R.length = gk ∧ At B wr b R ∧ w.grownBy wr (some b) ∧ Bld wr w.heap.size w.heap.size acc ∧ acc.length ≤ 4 * (L.length - R.length) ∧ R.length ≤ L.length ∧ Hid (Fu.encB (Fk.chars L).1 = acc ++ Fu.encB (Fk.chars R).1) ∧ Hid ((Fk.chars L).2 = (Fk.chars R).2))
  case atStart => exact ⟨L, [], rfl, h.below ((Below.refl B w).alloc hB _) (Nat.le_refl _), World.grownBy_alloc w _ _, hnew, by simp, Nat.le_refl _, Lib.hid (by simp), rfl⟩
  case round =>
    obtain ⟨R, acc, hR, ha, hg, hbd, hal, hRL, he, hdr⟩ := hrel
    have HR := Lib.hid hR
    have HA := Lib.hid ha
    have HG := Lib.hid hg
    have HB := Lib.hid hbd
    have hz : w.heap.size ≤ wr.heap.size := hg.size
    have HK := Lib.hid (ahead_any ha)
    clear hR ha hg hbd hnew
    by_cases hc : ∃ r t, R = r :: t ∧ begins (r :: t) = false
    · obtain ⟨r, t, rfl, hbg⟩ := hc
      rw [kindAt_chars hbg] at HK
      have hrr := HA.out.head
      have HT := Lib.hid (show Fk.chars (r :: t) = (r :: (Fk.chars t).1, (Fk.chars t).2) by rw [Fk.chars, if_neg (by simp [hbg])])
      clear hbg
      have hal2 : acc.length + 4 ≤ 140737488355328 := by have := Nat.sub_le L.length (r :: t).length; omega
      go_wp2_with (first
        | (go_at_call 39; refine (HK.out).mono ?_; rintro e w1 ⟨rfl, q, rfl⟩)
        | (go_at_call 64; refine (next_some (HA.out.drewN _)).mono ?_; rintro e w2 ⟨rfl, ha2, hg2⟩; have HA2 := Lib.hid ha2; have HG2 := Lib.hid (grown_trans (grown_drewN HG.out _) hg2); have HB2 := Lib.hid ((HB.out.drewN _).grown hg2 (by omega)); have hz2 := HG2.out.size; clear ha2 hg2)
        | (go_at_call 65; refine (write_rune r hrr.1 hrr.2 HB2.out hal2 hz2).mono ?_; rintro e w3 ⟨⟨n3, rfl⟩, hb3, hbl3, _⟩))
      go_roundg t.length
      case measure => have := HR.out; simp at this; omega
      case rel =>
        have h5 := (enc_le r).2
        refine ⟨t, acc ++ Lib.encodeRune r, rfl, HA2.out.below hbl3 hB, grown_below HG2.out hbl3 (Nat.le_refl _), hb3, ?_, ?_, Lib.hid ?_, Lib.hid ?_⟩
        · rw [List.length_append]; simp only [List.length_cons] at hal hRL; omega
        · simp only [List.length_cons] at hRL; omega
        · rw [he.out, HT.out, Fe.encB_cons, List.append_assoc]
        · rw [hdr.out, HT.out]
    · have hk1 : (kindAt R == 1) = false ∧ Fk.chars R = ([], R) := by
        rcases R with _ | ⟨r, t⟩
        · exact ⟨rfl, rfl⟩
        · have hb : begins (r :: t) = true := by
            rcases hx : begins (r :: t) with _ | _
            · exact absurd ⟨r, t, rfl, hx⟩ hc
            · rfl
          exact ⟨by simpa using kindAt_more hb, chars_begins hb⟩
      obtain ⟨hk1, hk2⟩ := hk1
      have HC := Lib.hid hk2
      obtain ⟨kk, hkk⟩ : ∃ kk, kindAt R = kk := ⟨_, rfl⟩
      rw [hkk] at hk1 HK
      clear hkk hk2 hc
      go_wp2_with (first
        | (go_at_call 39; refine (HK.out).mono ?_; rintro e w1 ⟨rfl, q, rfl⟩)
        | (go_at_call 35; refine (built (HB.out.drewN _) hz).mono ?_; rintro e w2 ⟨rfl, hb2, hbl2, _⟩))
      go_ret
      have e1 : Fu.encB (Fk.chars L).1 = acc := by rw [he.out, HC.out]; simp [Fu.encB]
      rw [e1, hdr.out, HC.out]
      exact ⟨rfl, (HA.out.drewN _).below hbl2 hB, grown_below (grown_drewN HG.out _) hbl2 (Nat.le_refl _)⟩

/-! ### the close tag of a raw text -/
theorem name_iff : ∀ (nm : List UInt8) (M : List Int), (∀ x ∈ nm, 97 ≤ x.toNat ∧ x.toNat ≤ 122) → ((nm.length ≤ M.length ∧ Fk.small (M.take nm.length) = nm) ↔ ∀ i, i < nm.length → low (M.getD i 0) = ((nm.getD i 0).toNat : Int))
  | [], M, _ => by simp [Fk.small, Fu.encB]
  | a :: nm, [], h => by
    have ha := h a (by simp)
    constructor
    · rintro ⟨h1, _⟩; simp at h1
    · intro hc
      have := hc 0 (by simp)
      have e : low (([] : List Int).getD 0 0) = 0 := by decide
      rw [e] at this
      simp at this
      omega
  | a :: nm, r :: M, h => by
    have ha := h a (by simp)
    have ih := name_iff nm M (fun x hx => h x (by simp [hx]))
    have hs : Fk.small ((r :: M).take (a :: nm).length) = Lib.encodeRune (low r) ++ Fk.small (M.take nm.length) := by
      simp only [List.length_cons, List.take_succ_cons, Fk.small, List.map_cons, Fe.encB_cons]
    rw [hs]
    by_cases hr : low r = (a.toNat : Int)
    · have he : Lib.encodeRune (low r) = [a] := by rw [hr, Fe.enc_small (by omega)]; simp
      rw [he]
      constructor
      · rintro ⟨h1, h2⟩ i hi
        rcases i with _ | i
        · simpa using hr
        · have := ih.1 ⟨by simpa using h1, by simpa using h2⟩ i (by simpa using hi)
          simpa using this
      · intro hc
        have := ih.2 (fun i hi => by simpa using hc (i + 1) (by simpa using hi))
        exact ⟨by simpa using this.1, by simp [this.2]⟩
    · constructor
      · rintro ⟨_, h2⟩
        exfalso
        have hne := Fu.encode_ne (low r)
        rcases hx : Lib.encodeRune (low r) with _ | ⟨y, ys⟩
        · exact hne hx
        · rw [hx, List.cons_append] at h2
          have := (List.cons.inj h2).1
          exact Fe.enc_not (low r) a (by omega) hr y (by rw [hx]; simp) this
      · intro hc
        exact absurd (by simpa using hc 0 (by simp)) hr
theorem rawEnd_no {nm : List UInt8} {L : List Int} (h : ¬ ([60, 47] <+: L)) : rawEnd nm L = false := by unfold rawEnd; rw [decide_eq_false h]; rfl
theorem tail_eq (M : List Int) (n : Nat) : (match M.drop n with | [] => true | e :: _ => Fk.blank e || e == 47 || e == 62) = (!decide (n < M.length) || !inName (M.getD n 0)) := by
  by_cases h : n < M.length
  · rw [decide_eq_true h, drop_cons h]
    show (Fk.blank _ || _ == 47 || _ == 62) = _
    unfold inName
    generalize M.getD n 0 = e
    rcases h1 : Fk.blank e with _ | _ <;> rcases h2 : (e == 47) with _ | _ <;> rcases h3 : (e == 62) with _ | _ <;> simp [bne, h2, h3]
  · rw [decide_eq_false h, List.drop_eq_nil_of_le (by omega)]; rfl
theorem rawEnd_yes (nm : List UInt8) (M : List Int) : rawEnd nm (60 :: 47 :: M) = (decide (nm.length ≤ M.length ∧ Fk.small (M.take nm.length) = nm) && (!decide (nm.length < M.length) || !inName (M.getD nm.length 0))) := by
  unfold rawEnd
  have h1 : [60, 47] <+: (60 :: 47 :: M) := by simp [List.cons_prefix_cons]
  have h2 : (60 :: 47 :: M).drop (2 + nm.length) = M.drop nm.length := by rw [Nat.add_comm]; rfl
  have h3 : (60 :: 47 :: M).drop 2 = M := rfl
  have h4 : decide (2 + nm.length ≤ (60 :: 47 :: M).length) = decide (nm.length ≤ M.length) := decide_eq_decide.2 (by simp only [List.length_cons]; omega)
  rw [decide_eq_true h1, h2, h3, h4]
  refine Eq.trans (congrArg (fun z => true && decide (nm.length ≤ M.length) && (Fk.small (M.take nm.length) == nm) && z) (tail_eq M nm.length)) ?_
  rw [Bool.true_and, Bool.decide_and]
  congr 2
  rw [Bool.eq_iff_iff]; simp
theorem shut_get (M : List Int) (i : Nat) : (60 :: 47 :: M).getD (2 + i) 0 = M.getD i 0 := by rw [Nat.add_comm]; rfl
theorem shut_lt (M : List Int) (i : Nat) : decide (2 + i < (60 :: 47 :: M).length) = decide (i < M.length) := decide_eq_decide.2 (by simp only [List.length_cons]; omega)
theorem nums_get (s : ByteArray) {i : Nat} (h : i < s.size) : s.data.toList.getD i 0 = s[i]'h := by
  have h' : i < s.data.size := h
  simp only [List.getD_eq_getElem?_getD, Array.getElem?_toList, Array.getElem?_eq_getElem h', Option.getD_some]
  rfl

set_option maxHeartbeats 2000000 in
theorem closes_any {B b : Nat} {w : World} {L : List Int} (h : At B w b L) (s : ByteArray) (hs : s.size ≤ 1000) (hn : ∀ x ∈ s.data.toList, 97 ≤ x.toNat ∧ x.toNat ≤ 122) :
    Calls Tryd.prog 74 #[.pointer (some ⟨b, 0, none⟩), .string s] w fun e w' => e = .returned (.bool (rawEnd s.data.toList L)) ∧ ∃ q, w.drewN q = w' := by
  have HF : Hid (Calls Tryd.prog 62 #[.pointer (some ⟨b, 0, none⟩), .string ⟨#[60, 47]⟩] w fun e w' => e = .returned (.bool (decide ([60, 47] <+: L))) ∧ ∃ q', w.drewN q' = w') := Lib.hid (follows_any h ⟨#[60, 47]⟩ (by decide) shut_nz)
  by_cases hp : [60, 47] <+: L
  · obtain ⟨M, rfl⟩ : ∃ M, L = 60 :: 47 :: M := by obtain ⟨M, hM⟩ := hp; exact ⟨M, hM.symm⟩
    rw [decide_eq_true hp] at HF
    have hsz : s.data.toList.length = s.size := by rw [Array.length_toList]; rfl
    have hni := name_iff s.data.toList M hn
    rw [hsz] at hni
    have HNI := Lib.hid hni
    have hsm := h.small
    have HP : Hid (∀ (q i : Nat), Calls Tryd.prog 61 #[.pointer (some ⟨b, 0, none⟩), .int .i64 (2 + (i : Int))] (w.drewN q) fun e w' => e = .returned (.tuple #[.int .i32 (M.getD i 0), .bool (decide (i < M.length))]) ∧ ∃ q', (w.drewN q).drewN q' = w') := Lib.hid (fun q (i : Nat) => by
      have h1 := peek (h.drewN q) (2 + i)
      rw [shut_get, shut_lt] at h1
      simpa using h1)
    have HSM := Lib.hid (fun i => getD_small (fun x hx => hsm x (by simp [hx])) (L := M) i)
    rw [rawEnd_yes, hsz]
    have HRE := Lib.hid hsz
    clear h hp hn hsm hsz hni
    go_enter Tryd.func74, Tryd.ntmps74
    go_wp2_with (go_at_call 62; refine (HF.out).mono ?_; rintro e w1 ⟨rfl, q, rfl⟩)
    go_loopw [15] (fun i wr => ∃ k q : Nat, k ≤ s.size ∧ i = .int .i64 k ∧ Hid (∀ j, j < k → low (M.getD j 0) = ((s.data.toList.getD j 0).toNat : Int)) ∧ wr = w.drewN q) (fun i _ => s.size - (intOf i).toNat)
    case atStart => exact ⟨0, q, Nat.zero_le _, rfl, fun j hj => by omega, rfl⟩
    case round =>
      obtain ⟨k, q, hk, rfl, ht, rfl⟩ := hrel
      by_cases hlt : k < s.size
      · have hb := Lib.hid (nums_get s hlt)
        have hu := (s[k]'hlt).toNat_lt
        have HPk := Lib.hid (HP.out q k)
        have hsu := HSM.out k
        obtain ⟨u, hu'⟩ : ∃ u, M.getD k 0 = u := ⟨_, rfl⟩
        rw [hu'] at HPk hsu
        have HLO := Lib.hid (fun W => low_any u W hsu)
        have HU := Lib.hid hu'
        obtain ⟨v, hv'⟩ : ∃ v, low u = v := ⟨_, rfl⟩
        rw [hv'] at HLO
        have HV := Lib.hid hv'
        clear hu' hsu hv'
        go_wp2_with (go_at_call 61; refine (HPk.out).mono ?_; rintro e w1 ⟨rfl, q1, rfl⟩)
        go_quiet ((go_at_call 85; first | exact quiet_q2 (HLO.out _) | exact quiet_q (HLO.out _)))
        go_wp2
        · have hne : (v != ((s[k]'hlt).toNat : Int)) = true := by assumption
          go_ret
          refine ⟨?_, _, (World.drewN_drewN _ _ _).symm⟩
          have hf : ¬ (s.size ≤ M.length ∧ Fk.small (M.take s.size) = s.data.toList) := by
            rw [HNI.out]
            intro hc
            have h1 := hc k hlt
            rw [HU.out, HV.out, hb.out] at h1
            rw [h1] at hne
            simp at hne
          rw [decide_eq_false hf]; rfl
        · have heq : (v != ((s[k]'hlt).toNat : Int)) = false := by assumption
          have hv1 : v = ((s[k]'hlt).toNat : Int) := by simpa using heq
          have HV1 := Lib.hid hv1
          clear hv1 heq
          go_roundw
          case rel =>
            refine ⟨k + 1, _, by omega, by go_num, ?_, rfl⟩
            intro j hj
            by_cases hjk : j = k
            · subst hjk; rw [HU.out, HV.out, hb.out, HV1.out]
            · exact ht.out j (by omega)
          case measure => simp [intOf]; omega
      · have hke : k = s.size := by omega
        subst hke
        have hall := Lib.hid (decide_eq_true (HNI.out.2 (fun i hi => ht.out i hi)))
        have HPk := Lib.hid (HP.out q s.size)
        obtain ⟨u, hu'⟩ : ∃ u, M.getD s.size 0 = u := ⟨_, rfl⟩
        rw [hu'] at HPk
        have HE := Lib.hid (fun W => endsTag_any u W)
        have HU := Lib.hid hu'
        clear hu'
        rcases hm : decide (s.size < M.length) with _ | _
        all_goals have HM := Lib.hid hm
        all_goals rw [hm] at HPk
        all_goals clear hm
        all_goals go_wp2_with (first
          | (go_at_call 61; refine (HPk.out).mono ?_; rintro e w1 ⟨rfl, q1, rfl⟩)
          | (go_at_call 68; refine (HE.out _).mono ?_; rintro e w1 ⟨rfl, q2, rfl⟩))
        all_goals go_ret
        · exact ⟨by rw [hall.out, HM.out]; rfl, _, rfl⟩
        · exact ⟨by rw [hall.out, HM.out, HU.out]; rfl, _, rfl⟩
  · rw [decide_eq_false hp] at HF
    rw [rawEnd_no hp]
    clear h
    go_enter Tryd.func74, Tryd.ntmps74
    go_wp2_with (go_at_call 62; refine (HF.out).mono ?_; rintro e w1 ⟨rfl, q, rfl⟩)
    go_ret
    exact ⟨rfl, q, rfl⟩
theorem raw_no {nm : List UInt8} {r : Int} {t : List Int} (h : rawEnd nm (r :: t) = false) : Fk.raw nm (r :: t) = (r :: (Fk.raw nm t).1, (Fk.raw nm t).2) := by rw [Fk.raw, if_neg (by simp [h])]
theorem raw_yes {nm : List UInt8} {r : Int} {t : List Int} (h : rawEnd nm (r :: t) = true) : Fk.raw nm (r :: t) = ([], r :: t) := by rw [Fk.raw, if_pos h]
set_option maxHeartbeats 1000000 in
/-- the text up to the close tag of that name -/
theorem raw_any {B b : Nat} {w : World} {L : List Int} (h : At B w b L) (hB : B ≤ w.heap.size) (s : ByteArray) (hs : s.size ≤ 1000) (hn : ∀ x ∈ s.data.toList, 97 ≤ x.toNat ∧ x.toNat ≤ 122) :
    Calls Tryd.prog 43 #[.pointer (some ⟨b, 0, none⟩), .string s] w fun e w' => e = .returned (.string ⟨(Fu.encB (Fk.raw s.data.toList L).1).toArray⟩) ∧ At B w' b (Fk.raw s.data.toList L).2 ∧ w.grownBy w' (some b) := by
  have hbB := h.lt.1
  have hlen := h.len
  have hnew := bld_new w
  have HN := Lib.hid hn
  clear hn
  go_enter Tryd.func43, Tryd.ntmps43
  go_wp2
  go_loopg [] L.length (fun gk wr => ∃ R acc, R.length = gk ∧ At B wr b R ∧ w.grownBy wr (some b) ∧ Bld wr w.heap.size w.heap.size acc ∧ acc.length ≤ 4 * (L.length - R.length) ∧ R.length ≤ L.length ∧ Hid (Fu.encB (Fk.raw s.data.toList L).1 = acc ++ Fu.encB (Fk.raw s.data.toList R).1) ∧ Hid ((Fk.raw s.data.toList L).2 = (Fk.raw s.data.toList R).2))
  case atStart => exact ⟨L, [], rfl, h.below ((Below.refl B w).alloc hB _) (Nat.le_refl _), World.grownBy_alloc w _ _, hnew, by simp, Nat.le_refl _, Lib.hid (by simp), rfl⟩
  case round =>
    obtain ⟨R, acc, hR, ha, hg, hbd, hal, hRL, he, hdr⟩ := hrel
    have HA := Lib.hid ha
    have HG := Lib.hid hg
    have HB := Lib.hid hbd
    have hz : w.heap.size ≤ wr.heap.size := hg.size
    have HL := Lib.hid (left ha)
    have HC := Lib.hid (fun q => closes_any (ha.drewN q) s hs HN.out)
    clear ha hg hbd hnew
    rcases R with _ | ⟨r, t⟩
    · obtain rfl : 0 = gk := hR
      go_wp2_with (first
        | (go_at_call 60; refine (HL.out).mono ?_; rintro e w1 ⟨rfl, q, rfl⟩)
        | (go_at_call 35; refine (built (HB.out.drewN _) hz).mono ?_; rintro e w2 ⟨rfl, hb2, hbl2, _⟩))
      go_ret
      have e1 : Fu.encB (Fk.raw s.data.toList L).1 = acc := by rw [he.out]; simp [Fk.raw, Fu.encB]
      rw [e1, hdr.out]
      exact ⟨rfl, (HA.out.drewN _).below hbl2 hB, grown_below (grown_drewN HG.out _) hbl2 (Nat.le_refl _)⟩
    · have hl : (0 : Int) < (gk : Int) := by rw [← hR]; simp
      rw [hR] at HL
      have HR := Lib.hid hR
      clear hR
      rcases hcl : rawEnd s.data.toList (r :: t) with _ | _
      · rw [hcl] at HC
        have hrr := HA.out.head
        have HT := Lib.hid (raw_no hcl)
        clear hcl
        have hal2 : acc.length + 4 ≤ 140737488355328 := by have := Nat.sub_le L.length (r :: t).length; omega
        go_wp2_with (first
          | (go_at_call 60; refine (HL.out).mono ?_; rintro e w1 ⟨rfl, q, rfl⟩)
          | (go_at_call 74; refine (HC.out _).mono ?_; rintro e w1 ⟨rfl, q1, rfl⟩)
          | (go_at_call 64; refine (next_some (HA.out.drewN _)).mono ?_; rintro e w2 ⟨rfl, ha2, hg2⟩; have HA2 := Lib.hid ha2; have HG2 := Lib.hid (grown_trans (grown_drewN HG.out _) hg2); have HB2 := Lib.hid ((HB.out.drewN _).grown hg2 (by omega)); have hz2 := HG2.out.size; clear ha2 hg2)
          | (go_at_call 65; refine (write_rune r hrr.1 hrr.2 HB2.out hal2 hz2).mono ?_; rintro e w3 ⟨⟨n3, rfl⟩, hb3, hbl3, _⟩))
        go_roundg t.length
        case measure => have := HR.out; simp at this; omega
        case rel =>
          have h5 := (enc_le r).2
          refine ⟨t, acc ++ Lib.encodeRune r, rfl, HA2.out.below hbl3 hB, grown_below HG2.out hbl3 (Nat.le_refl _), hb3, ?_, ?_, Lib.hid ?_, Lib.hid ?_⟩
          · rw [List.length_append]; simp only [List.length_cons] at hal hRL; omega
          · simp only [List.length_cons] at hRL; omega
          · rw [he.out, HT.out, Fe.encB_cons, List.append_assoc]
          · rw [hdr.out, HT.out]
      · rw [hcl] at HC
        have HT := Lib.hid (raw_yes hcl)
        clear hcl
        go_wp2_with (first
          | (go_at_call 60; refine (HL.out).mono ?_; rintro e w1 ⟨rfl, q, rfl⟩)
          | (go_at_call 74; refine (HC.out _).mono ?_; rintro e w1 ⟨rfl, q1, rfl⟩)
          | (go_at_call 35; refine (built (HB.out.drewN _) hz).mono ?_; rintro e w2 ⟨rfl, hb2, hbl2, _⟩))
        go_ret
        have e1 : Fu.encB (Fk.raw s.data.toList L).1 = acc := by rw [he.out, HT.out]; simp [Fu.encB]
        rw [e1, hdr.out, HT.out]
        exact ⟨rfl, (HA.out.drewN _).below hbl2 hB, grown_below (grown_drewN HG.out _) hbl2 (Nat.le_refl _)⟩
end Go.Proofs.YtnpoipjnnlbnfaaDoor
