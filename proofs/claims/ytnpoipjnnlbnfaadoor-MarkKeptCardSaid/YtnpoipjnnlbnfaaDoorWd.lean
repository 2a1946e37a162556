/- MarkJoins walked. No conditions but what the world holds of the variables. -/
import Derived.Test.YtnpoipjnnlbnfaaDoorWc
import Derived.Test.YtnpoipjnnlbnfaaDoorWa
namespace Go.Proofs.YtnpoipjnnlbnfaaDoor
set_option linter.unusedVariables false
open Go.RowKit Go.Proofs.Fe Go.Proofs.Fm Go.Proofs.Fb Go.Proofs.Fk Go.Proofs.Fs Go.Proofs.Fc Go.Proofs.Fu

theorem runes_i (s : List UInt8) : runesI ([60, 105, 62] ++ s) = 60 :: 105 :: 62 :: runesI s := by
  have e1 : ([60, 105, 62] : List UInt8) = encB [60, 105, 62] := by decide
  rw [e1, runesI_app _ _ (by decide)]; rfl
/-- tokens, by what they read as -/
theorem toks_of (A : Option Addr) (n c : Nat) (xs : List Int) (hn : xs.length = n) {w : World} (hrow : Row w .i32 A xs) (hx : xs.length ≤ 16777216) (hs : ∀ x ∈ xs, -2147483648 ≤ x ∧ x ≤ 2147483647) (he : Env w) :
    Calls Tryd.prog 22 #[.slice A n c] w fun e w' => ∃ (VA : Option Addr) (vc : Nat), e = .returned (.slice VA (tok xs).length vc) ∧ (tok xs).length ≤ 16777216 ∧ TRow w' VA (tok xs) ∧ Below w.heap.size w w' := by
  subst hn
  refine (tokens_any A xs.length c xs rfl hrow hx hs he).mono ?_
  rintro e w1 ⟨V, ts, rfl, h1, h2, h3, h4⟩
  obtain ⟨VA, vc, rfl, _, _⟩ := own_slice h1.row
  have hr := TRow.of_rows h1
  rw [h2] at hr
  have hl : (tok xs).length = ts.length := by rw [← h2]; simp
  exact ⟨VA, vc, by rw [hl], by omega, hr.1, h4⟩
set_option maxHeartbeats 4000000 in
set_option maxRecDepth 100000 in
theorem joins_walk (w : World) (he : Env w) (t : ByteArray) (_ : t.size ≤ maxLen) (hz : t.size ≤ 140737488351232) :
    Calls Tryd.prog 8 #[.string t] w fun e w' => e = .returned (.bool true) ∧ Below w.heap.size w w' := by
  have HF := Lib.hid (few_any t 500 hz (by omega) w)
  have HE := Lib.hid (fun W (hb : Below w.heap.size w W) => he.below hb he.sz)
  clear he
  go_enter Tryd.func8, Tryd.ntmps8
  go_upto_region 2 with (go_at_call 25; refine (HF.out).mono ?_; rintro e w1 ⟨s, hs, rfl, rfl⟩)
  clear HF hz
  obtain ⟨l, rfl⟩ : ∃ l : List UInt8, (⟨l.toArray⟩ : ByteArray) = s := ⟨s.data.toList, rfl⟩
  have hs : l.length ≤ 500 := hs
  have s1 : (⟨#[60, 105, 62]⟩ : ByteArray) ++ ⟨l.toArray⟩ = ⟨([60, 105, 62] ++ l).toArray⟩ := cat_list [60, 105, 62] _
  obtain ⟨S, hS⟩ : ∃ S : List UInt8, [60, 105, 62] ++ l = S := ⟨_, rfl⟩
  have hSl : S.length = l.length + 3 := by rw [← hS]; simp
  have hT : tok (runesI S) = ⟨2, [105], [], [], false⟩ :: tok (runesI l) := by rw [← hS, runes_i, tok_joins]
  rw [hS] at s1
  have z1 : (⟨#[60, 105, 62]⟩ : ByteArray).size + (⟨l.toArray⟩ : ByteArray).size ≤ 9223372036854775807 := by show 3 + l.length ≤ _; omega
  obtain ⟨c0, w0, hcv, hrow, hbl⟩ := text_runes (P := Tryd.prog) w 9 32 21 ⟨S.toArray⟩ Tryd.underlying9 Tryd.underlying32 Tryd.underlying21 (by show S.length ≤ _; omega)
  have hrl : (runesI S).length ≤ S.length := runesI_len ⟨S.toArray⟩
  have hrl2 : (runesI l).length ≤ l.length := runesI_len ⟨l.toArray⟩
  have HT := Lib.hid (toks_of (some ⟨w.heap.size, 0, none⟩) (runesI S).length c0 (runesI S) rfl hrow (by omega) (runesI_small _) (HE.out _ hbl))
  have HBL := Lib.hid hbl
  have HSL := Lib.hid hS
  have HTT := Lib.hid hT
  clear hrow hbl hS hT
  dsimp only at hcv
  obtain ⟨n, hn⟩ : ∃ n, (tok (runesI l)).length = n := ⟨_, rfl⟩
  obtain ⟨m, hm⟩ : ∃ m, (tok (runesI S)).length = m := ⟨_, rfl⟩
  have hmn : m = n + 1 := by rw [← hm, HTT.out, ← hn]; rfl
  rw [hm] at HT
  have h2 : ((m : Int) != (n : Int) + 1) = false := by rw [bne_eq_false_iff_eq]; omega
  have HMN := Lib.hid hmn
  have HN := Lib.hid hn
  have HM := Lib.hid hm
  clear hn hm hmn
  go_upto_region 99 with (first
    | (go_at_call 22; (with_reducible refine (HT.out).mono ?_); rintro e w1 ⟨VA, vc, rfl, hv, h3, h4⟩; have HR := Lib.hid h3; have H4 := Lib.hid (HBL.out.trans (h4.mono HBL.out.size)); clear h3 h4; obtain ⟨c1, w2, hcv2, hrow2, hbl2⟩ := text_runes (P := Tryd.prog) w1 9 32 21 ⟨l.toArray⟩ Tryd.underlying9 Tryd.underlying32 Tryd.underlying21 (by show l.length ≤ _; omega); have H5 := Lib.hid (H4.out.trans (hbl2.mono H4.out.size)); have HT2 := Lib.hid (toks_of (some ⟨w1.heap.size, 0, none⟩) (runesI l).length c1 (runesI l) rfl hrow2 (by omega) (runesI_small _) (HE.out _ H5.out)); have HR2 := Lib.hid (HR.out.below hbl2 (Nat.le_refl _)); rw [HN.out] at HT2; clear hrow2 hbl2 HT; dsimp only at hcv2)
    | (go_at_call 22; (with_reducible refine (HT2.out).mono ?_); rintro e w3 ⟨VB, vd, rfl, hv2, h6, h7⟩; have HRB := Lib.hid h6; have HRA := Lib.hid (HR2.out.below h7 (Nat.le_refl _)); have H7 := Lib.hid (H5.out.trans (h7.mono H5.out.size)); clear h6 h7 HT2; have hq := HRA.out; rw [HTT.out] at hq; obtain ⟨b1, o1, rfl, hc1⟩ := hq (by simp); obtain ⟨A1, d1, g0, g1, -, -, -, -⟩ := hc1 0 (by simp); simp only [List.getElem_cons_zero, Nat.zero_mul, Nat.add_zero] at g0 g1; dsimp only [str] at g1; clear hc1; have hm0 : (0 : Int) < (m : Int) := by have := HMN.out; omega))
  clear g0 g1
  have HBw := HRB
  go_loopg [5] n (fun gk i wr => ∃ k : Nat, k + gk = n ∧ i = .int .i64 k ∧ Below w3.heap.size w3 wr)
  case atStart => exact ⟨0, by omega, rfl, Below.refl _ _⟩
  case round =>
    obtain ⟨k, hk, rfl, hbw⟩ := hrel
    by_cases hlt : k < n
    · have hz := hbw.size
      have hka : k + 1 < (tok (runesI S)).length := by rw [HM.out, HMN.out]; omega
      have hkb : k < (tok (runesI l)).length := by rw [HN.out]; exact hlt
      obtain ⟨bb, ob, hea, hc1⟩ := HRA.out.below hbw (Nat.le_refl _) (by intro e; rw [e] at hka; simp at hka)
      obtain ⟨rfl, rfl⟩ : b1 = bb ∧ o1 = ob := by injection hea with hea; injection hea with e1 e2; exact ⟨e1, e2⟩
      obtain ⟨b2, o2, rfl, hc2⟩ := HRB.out.below hbw (Nat.le_refl _) (by intro e; rw [e] at hkb; simp at hkb)
      obtain ⟨A1, d1, g0, g1, g2, g3, g4, ra⟩ := hc1 (k + 1) hka
      obtain ⟨A2, d2, k0, k1, k2, k3, k4, rb⟩ := hc2 k hkb
      have hxy : (tok (runesI S))[k + 1]'hka = (tok (runesI l))[k]'hkb := by
        have h := HTT.out
        have e : (tok (runesI S))[k + 1]? = (tok (runesI l))[k]? := by rw [h]; rfl
        rw [List.getElem?_eq_getElem hka, List.getElem?_eq_getElem hkb] at e
        exact Option.some.inj e
      have hxm := tok64 _ _ (Nat.le_refl _) _ (List.getElem_mem hkb)
      rw [hxy] at g0 g1 g2 g3 g4 ra
      clear hxy
      have hnb : n ≤ 16777216 := hv2
      obtain ⟨kk, hkk⟩ : ∃ kk, k + 1 = kk := ⟨_, rfl⟩
      rw [hkk] at g0 g1 g2 g3 g4
      have hwrap : IntKind.i64.wrap ((k : Int) + 1) = (kk : Int) := by rw [show ((k : Int) + 1) = (kk : Int) by omega]; simp [IntKind.wrap, IntKind.bits, IntKind.signed]; omega
      have HK1 := Lib.hid hkk
      obtain ⟨x, hx⟩ : ∃ x, ((tok (runesI l))[k]'hkb) = x := ⟨_, rfl⟩
      rw [hx] at g0 g1 g2 g3 g4 ra k0 k1 k2 k3 k4 rb hxm
      have i1 : (k : Int) < (n : Int) := by omega
      have i2 : (kk : Int) < (m : Int) := by have := HMN.out; omega
      have HB := Lib.hid hbw
      have lt1 : b1 < wr.heap.size := World.block_lt_of_cell? _ _ g0
      have lt2 : b2 < wr.heap.size := World.block_lt_of_cell? _ _ k0
      have e2 := fun x b o => ext_cell wr.heap.size wr x b o
      dsimp only [str] at g1 g2 k1 k2
      have HTK : Hid (∀ x0, Calls Tryd.prog 27 #[.agg #[.int .i64 (x.kind : Int), .string ⟨x.name.toArray⟩, .string ⟨x.text.toArray⟩, .slice A1 x.attrs.length d1, .bool x.closed], .agg #[.int .i64 (x.kind : Int), .string ⟨x.name.toArray⟩, .string ⟨x.text.toArray⟩, .slice A2 x.attrs.length d2, .bool x.closed]] (ext wr.heap.size wr x0) fun e w' => e = .returned (.bool true) ∧ Below (ext wr.heap.size wr x0).heap.size (ext wr.heap.size wr x0) w') := Lib.hid (fun x0 => by
        have h := sameTok_any x x A1 A2 d1 d2 (by omega) (w := ext wr.heap.size wr x0) (ra.below (ext_below _ _ _) (Nat.le_refl _)) (rb.below (ext_below _ _ _) (Nat.le_refl _))
        rw [(tokEq_iff x x).2 rfl] at h
        exact h)
      clear hc1 hc2 hx hbw ra rb hxm hkk
      go_wp2
      refine region_ext wr.heap.size (by kernel_rfl) (by kernel_rfl) ?_
      repeat quiet_step ((go_at_call 27; exact call_of (HTK.out _) (Nat.le_refl _)))
      refine wpQuiet_nil ?_
      intro w4 hb4
      go_wp2
      go_roundg (gk - 1)
      case measure => omega
      case rel => exact ⟨kk, by have := HK1.out; omega, rfl, HB.out.trans (hb4.mono hz)⟩
    · have hke : k = n := by omega
      subst hke
      have HB := Lib.hid (H7.out.trans (hbw.mono H7.out.size))
      clear hbw
      go_wp2_with (go_at_call 17; refine (known_any (HE.out _ HB.out)).mono ?_; rintro e w6 ⟨rfl, h6⟩)
      go_ret
      exact ⟨rfl, HB.out.trans (h6.mono HB.out.size)⟩
end Go.Proofs.YtnpoipjnnlbnfaaDoor
