/- What MarkKept's walk knows of the tokens that are written over; the mark of a list of attributes; are all runes scalar values. No conditions but that the lists are not endless. MarkKept walked. No conditions but what the world holds of the variables. -/
import Derived.Test.YtnpoipjnnlbnfaaDoorXq
import Derived.Test.YtnpoipjnnlbnfaaDoorGAattr
namespace Go.Proofs.YtnpoipjnnlbnfaaDoor
set_option linter.unusedVariables false
open Go.RowKit Go.Proofs.Fe Go.Proofs.Fm Go.Proofs.Fb Go.Proofs.Fk Go.Proofs.Fs Go.Proofs.Fc Go.Proofs.Fu Go.Proofs.Fg

/-- a block of another type is written: the book stays -/
theorem book_other {G : List Value → Prop} {w : World} {base bk g : Nat} {tE tS tB t : TypeId} {sz : Nat} {v1 v2 : Value} {h : Int} {vs us : List KeptG} {cs : Array Value} (H : BookW G w base bk tE sz tS tB v1 v2 h vs us) (hg : Bk w g t cs) (d1 : tE ≠ t) (d2 : tS ≠ t) (d3 : tB ≠ t) (i : Nat) (u : Value) : BookW G (w.setCell ⟨g, i, none⟩ u) base bk tE sz tS tB v1 v2 h vs us :=
  ⟨H.blk.far (p := ⟨g, i, none⟩) (bk_ne H.blk hg d3) u, H.hbase, H.o1.far (H.o1.ne hg d2) u, H.o2.far (H.o2.ne hg d2) u, H.ne, fun p hp => (H.k1 p hp).map fun v n xs ho => ownsRow_setCell_other ho (own_ne ho hg d1) u, fun p hp => (H.k2 p hp).map fun v n xs ho => ownsRow_setCell_other ho (own_ne ho hg d1) u, H.same, H.apart⟩
/-- the tokens from j on are as they were, those ahead are written over -/
structure LeftT (base : Nat) (W : World) (V : Value) (ts : List (Tok × Value)) (j : Nat) : Prop where
  row : ∃ cs, W.ownsRow base 44 5 V ts.length cs ∧ ∀ p (h : p < ts.length), j ≤ p → cs[p * 5 + 3]? = some (ts[p]'h).2
  each : ∀ p (h : p < ts.length), j ≤ p → W.ownsRow base 29 2 (ts[p]'h).2 (ts[p]'h).1.attrs.length (attrCells (ts[p]'h).1.attrs)
theorem LeftT.start {base : Nat} {W : World} {V : Value} {ts : List (Tok × Value)} (h : TokRows base W V ts) : LeftT base W V ts 0 :=
  ⟨⟨_, h.row, fun p hp _ => (tokCells_get ts p hp).2.2.2.1⟩, fun p hp _ => h.each _ (List.getElem_mem hp)⟩
theorem LeftT.old {base j : Nat} {W W' : World} {V : Value} {ts : List (Tok × Value)} (h : LeftT base W V ts j) (ho : Old W W' base 23 48) : LeftT base W' V ts j := by
  obtain ⟨cs, h1, h2⟩ := h.row
  exact ⟨⟨cs, ho _ _ _ _ _ (by decide) (by decide) h1, h2⟩, fun p hp hj => ho _ _ _ _ _ (by decide) (by decide) (h.each p hp hj)⟩
theorem LeftT.store {base j g cap n : Nat} {W : World} {ts : List (Tok × Value)} (h : LeftT base W (.slice (some ⟨g, 0, none⟩) n cap) ts (j + 1)) (hn : ts.length = n) {o : Nat} (ho : o < j * 5 + 5) (u : Value) : LeftT base (W.setCell ⟨g, o, none⟩ u) (.slice (some ⟨g, 0, none⟩) n cap) ts (j + 1) := by
  subst hn
  obtain ⟨cs, h1, h2⟩ := h.row
  refine ⟨⟨_, (h1.stored o u).1, fun p hp hj => ?_⟩, fun p hp hj => ?_⟩
  · rw [List.getElem?_set_ne (by omega)]; exact h2 p hp hj
  · refine ownsRow_setCell_other (h.each p hp hj) ?_ _
    rcases own_own (h.each p hp hj) h1 (by decide) with e | e
    · rw [e]; simp
    · exact e
theorem LeftT.next {base j : Nat} {W : World} {V : Value} {ts : List (Tok × Value)} (h : LeftT base W V ts j) : LeftT base W V ts (j + 1) := by
  obtain ⟨cs, h1, h2⟩ := h.row
  exact ⟨⟨cs, h1, fun p hp hj => h2 p hp (by omega)⟩, fun p hp hj => h.each p hp (by omega)⟩
theorem LeftT.store5 {base j g cap n : Nat} {W : World} {ts : List (Tok × Value)} (h : LeftT base W (.slice (some ⟨g, 0, none⟩) n cap) ts j) (hn : ts.length = n) (u0 u1 u2 u3 u4 : Value) :
    LeftT base (((((W.setCell ⟨g, j * 5, none⟩ u0).setCell ⟨g, j * 5 + 1, none⟩ u1).setCell ⟨g, j * 5 + 2, none⟩ u2).setCell ⟨g, j * 5 + 3, none⟩ u3).setCell ⟨g, j * 5 + 4, none⟩ u4) (.slice (some ⟨g, 0, none⟩) n cap) ts (j + 1) :=
  ((((h.next.store hn (by omega) u0).store hn (by omega) u1).store hn (by omega) u2).store hn (by omega) u3).store hn (by omega) u4
theorem book5 {G : List Value → Prop} {w : World} {base bk g : Nat} {v1 v2 : Value} {h : Int} {vs us : List KeptG} {cs : Array Value} (H : BookW G w base bk 29 2 23 48 v1 v2 h vs us) (hg : Bk w g 44 cs) (o : Nat) (u0 u1 u2 u3 u4 : Value) :
    BookW G (((((w.setCell ⟨g, o, none⟩ u0).setCell ⟨g, o + 1, none⟩ u1).setCell ⟨g, o + 2, none⟩ u2).setCell ⟨g, o + 3, none⟩ u3).setCell ⟨g, o + 4, none⟩ u4) base bk 29 2 23 48 v1 v2 h vs us := by
  have b1 := hg.set_ o u0
  have b2 := b1.set_ (o + 1) u1
  have b3 := b2.set_ (o + 2) u2
  have b4 := b3.set_ (o + 3) u3
  exact book_other (book_other (book_other (book_other (book_other H hg (by decide) (by decide) (by decide) _ _) b1 (by decide) (by decide) (by decide) _ _) b2 (by decide) (by decide) (by decide) _ _) b3 (by decide) (by decide) (by decide) _ _) b4 (by decide) (by decide) (by decide) _ _
instance (x : Int) : Decidable (Scal x) := inferInstanceAs (Decidable (0 ≤ x ∧ x ≤ 1114111 ∧ (x < 55296 ∨ 57343 < x)))
/-- a scalar value, as a test -/
def scalB (x : Int) : Bool := decide (Scal x)
def ValidB (xs : List Int) (w : World) (e : Ending) (w' : World) : Prop := e = .returned (.bool (xs.all scalB)) ∧ ∃ q, w.drewN q = w'
set_option maxRecDepth 100000 in
set_option maxHeartbeats 4000000 in
theorem valid_all (A : Option Addr) (n c : Nat) (xs : List Int) (hn : xs.length = n) (hx : n ≤ 16777216) (w : World) (hr : Row w .i32 A xs) :
    Calls Tryd.prog 19 #[.slice A n c] w (ValidB xs w) := by
  have HR := Lib.hid hr
  clear hr
  go_enter Tryd.func19, Tryd.ntmps19
  go_upto_region 2 with fail
  go_loopg [3] n (fun gk i wr => ∃ k q : Nat, k + gk = n ∧ i = .int .i64 (k : Int) ∧ Hid ((xs.drop k).all scalB = xs.all scalB) ∧ wr = w.drewN q)
  case atStart => exact ⟨0, 0, by omega, rfl, Lib.hid rfl, rfl⟩
  case round =>
    obtain ⟨k, q, hk, rfl, hv, rfl⟩ := hrel
    by_cases hlt : k < n
    · have i1 : (k : Int) < (n : Int) := by omega
      obtain ⟨b, off, rfl, hc⟩ := HR.out.at_ (i := k) (by omega)
      have c1 := hc k (by omega)
      have HX := Lib.hid (show xs.drop k = xs.getD k 0 :: xs.drop (k + 1) from drop_c (by omega))
      obtain ⟨u, hu⟩ : ∃ u, xs.getD k 0 = u := ⟨_, rfl⟩
      rw [hu] at c1 HX
      clear hc hu
      have HNO : Hid (¬ Scal u → xs.all scalB = false) := Lib.hid (fun h => by
        rw [← hv.out, HX.out, List.all_cons, show scalB u = false from decide_eq_false h]; rfl)
      have HNX : Hid (Scal u → (xs.drop (k + 1)).all scalB = xs.all scalB) := Lib.hid (fun h => by
        rw [← hv.out, HX.out, List.all_cons, show scalB u = true from decide_eq_true h]; rfl)
      by_cases h0 : u < 0
      · have HF := Lib.hid (HNO.out (by unfold Scal; omega))
        go_wp2
        go_ret
        exact ⟨by rw [HF.out]; rfl, q, rfl⟩
      · by_cases h1 : 1114111 < u
        · have d0 : decide (u < 0) = false := decide_eq_false h0
          have HF := Lib.hid (HNO.out (by unfold Scal; omega))
          go_wp2
          go_ret
          exact ⟨by rw [HF.out]; rfl, q, rfl⟩
        · have d0 : decide (u < 0) = false := decide_eq_false h0
          have d1 : decide (1114111 < u) = false := decide_eq_false h1
          by_cases h2 : 55296 ≤ u
          · by_cases h3 : u ≤ 57343
            · have HF := Lib.hid (HNO.out (by unfold Scal; omega))
              go_wp2
              go_ret
              exact ⟨by rw [HF.out]; rfl, q, rfl⟩
            · have d3 : decide (u ≤ 57343) = false := decide_eq_false h3
              have HS := Lib.hid (HNX.out (show Scal u from ⟨by omega, by omega, by omega⟩))
              go_wp2
              go_roundg (gk - 1)
              case measure => omega
              case rel => exact ⟨k + 1, q, by omega, by go_num, HS, rfl⟩
          · have d2 : decide (55296 ≤ u) = false := decide_eq_false h2
            have HS := Lib.hid (HNX.out (show Scal u from ⟨by omega, by omega, by omega⟩))
            go_wp2
            go_roundg (gk - 1)
            case measure => omega
            case rel => exact ⟨k + 1, q, by omega, by go_num, HS, rfl⟩
    · have i1 : ¬ ((k : Int) < (n : Int)) := by omega
      have hh := hv.out
      rw [List.drop_eq_nil_of_le (by omega)] at hh
      have HH := Lib.hid hh
      clear hh hv
      go_wp2
      go_ret
      exact ⟨by rw [← HH.out]; rfl, q, rfl⟩
theorem rune_conv (R : Int) (W : World) : (convert 21 9 (.int .i32 R)).run Tryd.prog W = .ok (.string (Utf8.encode R)) W := by
  simp [convert, go_sem, Conv.intToString]
theorem encode_len (R : Nat) (h : R < 55296 ∨ (57343 < R ∧ R ≤ 1114111)) : (Utf8.encode (R : Int)).data.toList.length ≤ 4 := by
  rw [encode_good R h]; exact (enc_le _).2
theorem len_size (E : ByteArray) (h : E.data.toList.length ≤ 4) : E.size ≤ 4 := by
  rw [Array.length_toList] at h; exact h
theorem encode_any (R : Int) : (Utf8.encode R).size ≤ 4 := by
  rw [utf8_encode_fix]; exact len_size _ (encode_len _ (fix_valid R))
theorem rune_str : ∃ S : Int → ByteArray, (∀ (R : Int) (W : World), (convert 21 9 (.int .i32 R)).run Tryd.prog W = .ok (.string (S R)) W) ∧ ∀ R, (S R).size ≤ 4 :=
  ⟨Utf8.encode, rune_conv, encode_any⟩
theorem tmod_in (I : Int) (h : 0 ≤ I) : 0 ≤ Int.tmod I 26 ∧ Int.tmod I 26 < 26 := ⟨Int.tmod_nonneg _ h, Int.tmod_lt_of_pos _ (by decide)⟩
set_option maxRecDepth 20000 in
set_option maxHeartbeats 4000000 in
theorem attr_int (S : Int → ByteArray) (hS : ∀ (R : Int) (W : World), (convert 21 9 (.int .i32 R)).run Tryd.prog W = .ok (.string (S R)) W) (hS4 : ∀ R, (S R).size ≤ 4) (I J : Int) (hI : 0 ≤ I) (hJ : 0 ≤ J) (w : World) :
    Calls Tryd.prog 30 #[.int .i64 I, .int .i64 J] w fun e w' => e = .returned (.agg #[.string ⟨#[109, 97, 114, 107]⟩, .string (S (97 + Int.tmod I 26) ++ S (97 + Int.tmod J 26))]) ∧ Below w.heap.size w w' := by
  have hi := tmod_in I hI
  have hj := tmod_in J hJ
  obtain ⟨a, ha⟩ : ∃ a, Int.tmod I 26 = a := ⟨_, rfl⟩
  obtain ⟨b, hb⟩ : ∃ b, Int.tmod J 26 = b := ⟨_, rfl⟩
  rw [ha] at hi ⊢
  rw [hb] at hj ⊢
  have w1 := IntWalk.i64_in (97 + a) (by omega)
  have w2 := IntWalk.i64_in (97 + b) (by omega)
  have w3 : IntKind.i32.wrap (97 + a) = 97 + a := by simp [IntKind.wrap, IntKind.bits, IntKind.signed]; omega
  have w4 : IntKind.i32.wrap (97 + b) = 97 + b := by simp [IntKind.wrap, IntKind.bits, IntKind.signed]; omega
  have h1 := hS (97 + a)
  have h2 := hS (97 + b)
  have z1 := hS4 (97 + a)
  have z2 := hS4 (97 + b)
  obtain ⟨s1, hs1⟩ : ∃ s, S (97 + a) = s := ⟨_, rfl⟩
  obtain ⟨s2, hs2⟩ : ∃ s, S (97 + b) = s := ⟨_, rfl⟩
  rw [hs1] at h1 z1 ⊢
  rw [hs2] at h2 z2 ⊢
  have hz : s1.size + s2.size ≤ 9223372036854775807 := by omega
  clear hs1 hs2 hS hS4 z1 z2 hi hj hI hJ
  go_enter Tryd.func30, Tryd.ntmps30
  go_wp2
  exact bodyPost_ret (v := .agg #[.string ⟨#[109, 97, 114, 107]⟩, .string (s1 ++ s2)]) (by simp [results, Tryd.results30, go_sem]) rfl ⟨rfl, (Below.refl _ w).alloc (Nat.le_refl _) _⟩
theorem attr_law : ∃ m1 : Nat → Nat → ByteArray, ∀ (i j : Nat) (w : World), i ≤ 4000 → j < 9223372036854775807 →
    Calls Tryd.prog 30 #[.int .i64 i, .int .i64 j] w fun e w' => e = .returned (.agg #[.string ⟨#[109, 97, 114, 107]⟩, .string (m1 i j)]) ∧ Below w.heap.size w w' := by
  obtain ⟨S, hS, hS4⟩ := rune_str
  exact ⟨fun i j => S (97 + Int.tmod i 26) ++ S (97 + Int.tmod j 26), fun i j w _ _ => attr_int S hS hS4 i j (by omega) (by omega) w⟩
end Go.Proofs.YtnpoipjnnlbnfaaDoor
namespace Go.Proofs.YtnpoipjnnlbnfaaDoor
set_option linter.unusedVariables false
open Go.RowKit Go.Proofs.Fe Go.Proofs.Fm Go.Proofs.Fb Go.Proofs.Fk Go.Proofs.Fs Go.Proofs.Fc Go.Proofs.Fu Go.Proofs.Fg

theorem neq_same (x y : ByteArray) (W : World) : (binOp .neq 29 (.agg #[.string x, .string y]) (.agg #[.string x, .string y])).run Tryd.prog W = .ok (.bool false) W := by
  have h := neq_attr x.data.toList y.data.toList x.data.toList y.data.toList W
  simpa using h
/-- a book of attributes of some lists -/
def BookOf (B bk : Nat) (vs : List KeptG) (W : World) : Prop := ∃ v1 v2 h us, BookW G_attr.G W B bk 29 2 23 48 v1 v2 h vs us
theorem BookOf.below {B bk : Nat} {vs : List KeptG} {W W' : World} (h : BookOf B bk vs W) (hb : Below W.heap.size W W') : BookOf B bk vs W' := by
  obtain ⟨v1, v2, h0, us, hB⟩ := h
  exact ⟨v1, v2, h0, us, hB.below hb⟩
theorem BookOf.lt {B bk : Nat} {vs : List KeptG} {W : World} (h : BookOf B bk vs W) : ∀ x ∈ vs, ∀ g, x.1.ownBlock = some g → g < W.heap.size := by
  obtain ⟨v1, v2, h0, us, hB⟩ := h
  intro x hx g hg
  obtain ⟨⟨n, hn⟩, -⟩ := hB.k1 x hx
  exact (hn.lt g hg).2
set_option maxHeartbeats 8000000 in
set_option maxRecDepth 100000 in
theorem keptm_walk (w : World) (he : Env w) (A : Option Addr) (n cap : Nat) (xs : List Int) (ha : Row w .i32 A xs) (hn : xs.length = n) (hwf : ∀ x ∈ xs, (Lit.int .i32 x).wf = true) (hz : n * Tryd.prog.bytesOf 21 ≤ 140737488351232) (hlc : n ≤ cap) (hnil : A = none → cap = 0) :
    Calls Tryd.prog 9 #[.slice A n cap] w fun e w' => e = .returned (.bool true) ∧ Below w.heap.size w w' := by
  have hby : Tryd.prog.bytesOf 21 = 4 := by kernel_rfl
  rw [hby] at hz
  have HF := Lib.hid (fewRunes_any A n cap 500 hlc hnil (by omega) (by omega) w)
  have HE := Lib.hid (fun W (hb : Below w.heap.size w W) => he.below hb he.sz)
  have HWF := Lib.hid (show ∀ x ∈ xs, -2147483648 ≤ x ∧ x ≤ 2147483647 from fun x hx => by have := hwf x hx; simp [Lit.wf, IntKind.min, IntKind.max, IntKind.signed, IntKind.bits] at this; exact this)
  have HA := Lib.hid ha
  clear hwf ha
  go_enter Tryd.func9, Tryd.ntmps9
  go_upto_region 4 with (go_at_call 18; refine (HF.out).mono ?_; rintro e w1 ⟨k0, hk1, hk2, rfl, rfl⟩)
  obtain ⟨l, hl⟩ : ∃ l, xs.take k0 = l := ⟨_, rfl⟩
  have hll : l.length = k0 := by rw [← hl, List.length_take]; omega
  have HL := Lib.hid (show Row w .i32 A l by rw [← hl]; exact HA.out.take k0)
  have HLW := Lib.hid (show ∀ x ∈ l, -2147483648 ≤ x ∧ x ≤ 2147483647 from fun x hx => HWF.out x (by rw [← hl] at hx; exact List.mem_of_mem_take hx))
  have HL64 := Lib.hid (tok64 _ l (Nat.le_refl _))
  have hkc : k0 ≤ cap := by omega
  clear HA HWF hl HF hn hz hk2 hlc hnil
  refine wp_gen (fun W => BookOf w.heap.size w.heap.size [] W ∧ Below w.heap.size w W) ?_ ?_
  · exact ⟨⟨_, _, _, _, bookW_new G_attr.G w 29 2 23 48⟩, (Below.refl _ w).alloc (Nat.le_refl _) _⟩
  rintro W0 ⟨hb0, hbw0⟩
  have HB0 := Lib.hid hb0
  have HW0 := Lib.hid hbw0
  clear hb0 hbw0
  go_loopg [4] 2 (fun gk i wr => ∃ (m : Nat) (vs : List KeptG), m + gk = 2 ∧ i = .int .i64 (m : Int) ∧ vs.length ≤ 4000 ∧ Hid (BookOf w.heap.size w.heap.size vs wr) ∧ Hid (Below w.heap.size w wr))
  case atStart => exact ⟨0, [], by omega, rfl, by simp, HB0, HW0⟩
  case round =>
    obtain ⟨m, vs, hm, rfl, hvl, hB, hbw⟩ := hrel
    clear HB0 HW0
    obtain ⟨gA, rfl⟩ : ∃ g, g = gk := ⟨gk, rfl⟩
    obtain ⟨wA, rfl⟩ : ∃ x, x = wr := ⟨wr, rfl⟩
    by_cases hlt : m < 2
    · have i1 : (m : Int) < 2 := by omega
      have HT := Lib.hid (tokens_any A k0 cap l hll (HL.out.below hbw.out (Nat.le_refl _)) (by omega) HLW.out (HE.out _ hbw.out))
      go_upto_region 8 with (go_at_call 22; (with_reducible refine (HT.out).mono ?_); rintro e w2 ⟨V, ts, rfl, hr, hts, hnl, h4⟩; have HROW := Lib.hid hr; have HTS := Lib.hid hts; have HB4 := Lib.hid h4; clear hr hts h4 HT)
      have HAPT := Lib.hid HROW.out.apart
      have H64 : Hid (∀ p (h : p < ts.length), (ts[p]'h).1.attrs.length ≤ 64) := Lib.hid (fun p h => by
        refine HL64.out _ ?_
        rw [← HTS.out]
        exact List.mem_map.2 ⟨_, List.getElem_mem h, rfl⟩)
      have HLEFT := Lib.hid (LeftT.start (base := w.heap.size) ⟨own_mono HROW.out.row hbw.out.size, fun p hp => own_mono (HROW.out.each p hp) hbw.out.size, HROW.out.apart⟩)
      have HBK := Lib.hid (hB.out.below HB4.out)
      have HBW2 := Lib.hid (hbw.out.trans (HB4.out.mono hbw.out.size))
      have HNEW : Hid (∀ p (hp : p < ts.length), ∀ x ∈ vs, x.1.ownBlock = none ∨ x.1.ownBlock ≠ (ts[p]'hp).2.ownBlock) := Lib.hid (fun p hp x hx => by
        rcases hxo : x.1.ownBlock with _ | g
        · exact .inl rfl
        · right
          intro e
          have h1 := hB.out.lt x hx g hxo
          have h2 := ((HROW.out.each _ (List.getElem_mem hp)).lt g e.symm).1
          omega)
      obtain ⟨VA, vc, rfl, -, -⟩ := own_slice HROW.out.row
      obtain ⟨N, hN⟩ : ∃ N, ts.length = N := ⟨_, rfl⟩
      have HN := Lib.hid hN
      rw [hN]
      clear hN HROW hB hbw HB4
      go_loopg [6] N (fun gk i wr => ∃ (j : Nat) (vs : List KeptG), j + gk = N ∧ i = .int .i64 (j : Int) ∧ vs.length ≤ 4000 ∧ Hid (BookOf w.heap.size w.heap.size vs wr) ∧ Hid (Below w.heap.size w wr) ∧ Hid (LeftT w.heap.size wr (.slice VA ts.length vc) ts j) ∧ Hid (∀ p (hp : p < ts.length), j ≤ p → ∀ x ∈ vs, x.1.ownBlock = none ∨ x.1.ownBlock ≠ (ts[p]'hp).2.ownBlock))
      case atStart => exact ⟨0, vs, by omega, rfl, hvl, HBK, HBW2, HLEFT, Lib.hid (fun p hp _ => HNEW.out p hp)⟩
      case round =>
        obtain ⟨j, vs5, hj, rfl, hvl5, hB5, hbw5, hleft, hap5⟩ := hrel
        clear HBK HBW2 HLEFT HNEW
        by_cases hjl : j < N
        · have i2 : (j : Int) < (N : Int) := by omega
          have hjt : j < ts.length := by rw [HN.out]; exact hjl
          obtain ⟨cs, hcs, hcell⟩ := hleft.out.row
          obtain ⟨g, cap2, hv, -, -⟩ := hcs.form (by omega)
          injection hv with e1 _ e3
          subst e1; subst e3
          have c3 : wr.cell? ⟨g, j * 5 + 3, none⟩ = some (ts[j]'hjt).2 := by
            rw [hcs.cellAt (j * 5 + 3) (by omega)]; exact hcell j hjt (Nat.le_refl _)
          have hown := hleft.out.each j hjt (Nat.le_refl _)
          have h64j := H64.out j hjt
          have hapj := hap5.out j hjt (Nat.le_refl _)
          have HPW : Hid (∀ p (hp : p < ts.length), j < p → (ts[j]'hjt).2.ownBlock = none ∨ (ts[j]'hjt).2.ownBlock ≠ (ts[p]'hp).2.ownBlock) := Lib.hid (fun p hp hjp => (List.pairwise_iff_getElem.1 HAPT.out) j p hjt hp hjp)
          obtain ⟨⟨x, v⟩, hx⟩ : ∃ x, (ts[j]'hjt) = x := ⟨_, rfl⟩
          rw [hx] at c3 hown h64j hapj
          simp only at c3 hown h64j hapj
          have HPW2 : Hid (∀ p (hp : p < ts.length), j < p → v.ownBlock = none ∨ v.ownBlock ≠ (ts[p]'hp).2.ownBlock) := Lib.hid (fun p hp hjp => by
            have h := HPW.out p hp hjp
            rw [hx] at h; exact h)
          obtain ⟨A5, c5, rfl, -, -⟩ := own_slice hown
          obtain ⟨v1, v2, h0, us, hBB⟩ := hB5.out
          have HK := Lib.hid (G_attr.keep_any wr w.heap.size w.heap.size v1 v2 vs5 us h0 A5 x.attrs.length c5 (attrCells x.attrs) hBB hown ⟨x.attrs, h64j, rfl⟩ hapj hvl5 (by omega) hbw5.out.size)
          obtain ⟨na, hna⟩ : ∃ na, x.attrs.length = na := ⟨_, rfl⟩
          rw [hna] at c3 HK
          have HLN := Lib.hid hleft.out
          have HAP5 := Lib.hid hap5.out
          have HBWR := Lib.hid hbw5.out
          have HVO : Hid ((Value.slice A5 na c5).ownBlock = (Value.slice A5 x.attrs.length c5).ownBlock) := Lib.hid (by rw [hna])
          clear hcs hcell hown h64j hapj HPW hx hB5 hbw5 hleft hap5 hBB hna
          go_upto_region 11 with (go_at_call 28; (with_reducible refine (HK.out).mono ?_); rintro e w3 ⟨rfl, v1', v2', h1', vs', us', hB', hl', hmem, hb', ho'⟩; have HB' := Lib.hid (show BookOf w.heap.size w.heap.size vs' w3 from ⟨v1', v2', h1', us', hB'⟩); have HMEM := Lib.hid hmem; have HBW' := Lib.hid (HBWR.out.trans hb'); have HLO := Lib.hid (HLN.out.old ho'); clear hB' hmem hb' ho' HK)
          obtain ⟨cs3, hcs3, hcell3⟩ := HLO.out.row
          rw [HN.out] at hcs3
          have hl3 := hcs3.1
          have hgb := (hcs3.lt g rfl).1
          obtain ⟨cur, hcur⟩ : ∃ cur, Bk w3 g 44 cur := by
            rcases hcs3.2 with ⟨hv, _⟩ | ⟨g', cap', cur, hv, _, hh, _⟩
            · cases hv
            · injection hv with e1 _ _; injection e1 with e1; injection e1 with e1 _
              subst e1; exact ⟨cur, hh⟩
          have gv : ∀ o, o < N * 5 → ∃ y, w3.cell? ⟨g, o, none⟩ = some y := fun o ho => ⟨cs3[o]'(by omega), by rw [hcs3.cellAt o ho, List.getElem?_eq_getElem]⟩
          obtain ⟨y0, d0⟩ := gv (j * 5) (by omega)
          obtain ⟨y1, d1⟩ := gv (j * 5 + 1) (by omega)
          obtain ⟨y2, d2⟩ := gv (j * 5 + 2) (by omega)
          obtain ⟨y3, d3⟩ := gv (j * 5 + 3) (by omega)
          obtain ⟨y4, d4⟩ := gv (j * 5 + 4) (by omega)
          have f0 := hcs3.frozenAt (j * 5)
          have f1 := hcs3.frozenAt (j * 5 + 1)
          have f2 := hcs3.frozenAt (j * 5 + 2)
          have f3 := hcs3.frozenAt (j * 5 + 3)
          have f4 := hcs3.frozenAt (j * 5 + 4)
          have HCUR := Lib.hid hcur
          clear gv hcur hcs3 hcell3 hl3 c3 HAPT H64 HTS HL64
          go_wp2_with fail
          go_roundg (gk - 1)
          case measure => omega
          case rel =>
            refine ⟨j + 1, vs', by omega, by go_num, hl', Lib.hid ?_, Lib.hid ?_, Lib.hid ?_, Lib.hid ?_⟩
            · obtain ⟨p1, p2, p3, p4, p5⟩ := HB'.out
              exact ⟨p1, p2, p3, p4, book5 p5 HCUR.out (j * 5) _ _ _ _ _⟩
            · exact ((((HBW'.out.setCell (p := ⟨g, j * 5, none⟩) hgb _).setCell (p := ⟨g, j * 5 + 1, none⟩) hgb _).setCell (p := ⟨g, j * 5 + 2, none⟩) hgb _).setCell (p := ⟨g, j * 5 + 3, none⟩) hgb _).setCell (p := ⟨g, j * 5 + 4, none⟩) hgb _
            · exact HLO.out.store5 rfl _ _ _ _ _
            · intro p hp hjp y hy
              rcases HMEM.out y hy with h | h
              · exact HAP5.out p hp (by omega) y h
              · rw [h]
                have h2 := HPW2.out p hp (by omega)
                rw [← HVO.out] at h2
                exact h2
        · have i2 : ¬ ((j : Int) < (N : Int)) := by omega
          go_wp2_with fail
          go_roundg (gA - 1)
          case measure => omega
          case rel => exact ⟨m + 1, vs5, by omega, by go_num, hvl5, hB5, hbw5⟩
    · have i1 : ¬ ((m : Int) < 2) := by omega
      obtain ⟨v1, v2, h0, us, hBB⟩ := hB.out
      obtain ⟨m1, hm1⟩ := attr_law
      have HAP := Lib.hid (G_attr.apart_any (fun _ _ => ⟨#[109, 97, 114, 107]⟩) m1 (fun i j W => neq_same _ _ W) hm1 wA w.heap.size w.heap.size v1 v2 h0 vs us hBB hvl hbw.out.size)
      have HBW := Lib.hid hbw.out
      clear hBB hm1 hB hbw
      obtain ⟨N, hN⟩ : ∃ N, (tok l).length = N := ⟨_, rfl⟩
      have HN := Lib.hid hN
      clear hN
      rcases hv : l.all scalB with _ | _
      · have HVF : Hid (∀ W, Below w.heap.size w W → Calls Tryd.prog 19 #[.slice A k0 cap] W fun e w' => e = .returned (.bool false) ∧ ∃ q, W.drewN q = w') := Lib.hid (fun W hW => by
          have h := valid_all A k0 cap l hll (by omega) W (HL.out.below hW (Nat.le_refl _))
          unfold ValidB at h
          rw [hv] at h
          exact h)
        clear hv
        go_wp2_with (first
          | (go_at_call 29; (with_reducible refine (HAP.out).mono ?_); rintro e w2 ⟨rfl, hb2⟩; have HB2 := Lib.hid (HBW.out.trans hb2); clear hb2)
          | (go_at_call 19; (with_reducible refine (HVF.out _ HB2.out).mono ?_); rintro e w3 ⟨rfl, q3, rfl⟩; have HB3 := Lib.hid (below_drewN HB2.out q3))
          | (go_at_call 17; (with_reducible refine (known_any (HE.out _ HB3.out)).mono ?_); rintro e w7 ⟨rfl, h7⟩; have HB7 := Lib.hid (HB3.out.trans (h7.mono HB3.out.size)); clear h7))
        go_ret
        exact ⟨rfl, HB7.out⟩
      · have HVF : Hid (∀ W, Below w.heap.size w W → Calls Tryd.prog 19 #[.slice A k0 cap] W fun e w' => e = .returned (.bool true) ∧ ∃ q, W.drewN q = w') := Lib.hid (fun W hW => by
          have h := valid_all A k0 cap l hll (by omega) W (HL.out.below hW (Nat.le_refl _))
          unfold ValidB at h
          rw [hv] at h
          exact h)
        have HSC : Hid (∀ x ∈ l, Scal x) := Lib.hid (fun x hx => of_decide_eq_true (List.all_eq_true.1 hv x hx))
        clear hv
        go_wp2_with (first
          | (go_at_call 29; (with_reducible refine (HAP.out).mono ?_); rintro e w2 ⟨rfl, hb2⟩; have HB2 := Lib.hid (HBW.out.trans hb2); clear hb2)
          | (go_at_call 19; (with_reducible refine (HVF.out _ HB2.out).mono ?_); rintro e w3 ⟨rfl, q3, rfl⟩; have HB3 := Lib.hid (below_drewN HB2.out q3); have HT := toks_of A k0 cap l hll (HL.out.below HB3.out (Nat.le_refl _)) (by omega) HLW.out (HE.out _ HB3.out); rw [HN.out] at HT; have HT := Lib.hid HT)
          | (go_at_call 22; (with_reducible refine (HT.out).mono ?_); rintro e w4 ⟨VA, vc, rfl, hv, h3, h4⟩; have HR3 := Lib.hid h3; have HB4 := Lib.hid (HB3.out.trans (h4.mono HB3.out.size)); have HT2 := refToks_of A k0 cap l hll (by omega) hkc HSC.out w4 (HL.out.below HB4.out (Nat.le_refl _)); rw [HN.out] at HT2; have HT2 := Lib.hid HT2; clear h3 h4 HT)
          | (go_at_call 23; (with_reducible refine (HT2.out).mono ?_); rintro e w5 ⟨VB, vd, rfl, h5, h6⟩; have HR4 := Lib.hid h5; have HR4a := Lib.hid (HR3.out.below h6 (Nat.le_refl _)); have HB5 := Lib.hid (HB4.out.trans (h6.mono HB4.out.size)); have HT3 := toks_any VA VB N N vc vd (tok l) (tok l) HN.out HN.out (by omega) HL64.out HR4a.out HR4.out; rw [decide_eq_true rfl] at HT3; have HT3 := Lib.hid HT3; clear h5 h6 HT2)
          | (go_at_call 21; (with_reducible refine (HT3.out).mono ?_); rintro e w6 ⟨rfl, h7⟩; have HB6 := Lib.hid (HB5.out.trans (h7.mono HB5.out.size)); clear h7)
          | (go_at_call 17; (with_reducible refine (known_any (HE.out _ HB6.out)).mono ?_); rintro e w7 ⟨rfl, h7⟩; have HB7 := Lib.hid (HB6.out.trans (h7.mono HB6.out.size)); clear h7))
        go_ret
        exact ⟨rfl, HB7.out⟩
end Go.Proofs.YtnpoipjnnlbnfaaDoor
