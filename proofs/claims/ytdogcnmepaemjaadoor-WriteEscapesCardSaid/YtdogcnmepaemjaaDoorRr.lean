/- WriteEscapes walked. No conditions but what the world holds of the library's tables. -/
import Derived.Test.YtdogcnmepaemjaaDoorRq
import Derived.Laws.IdiomStrings
import Derived.Laws.Cover4
namespace Go.Proofs.YtdogcnmepaemjaaDoor
set_option linter.unusedVariables false
open Go.RowKit Go.Proofs.Fe Go.Proofs.Fm Go.Proofs.Fb Go.Proofs.Fk Go.Proofs.Fc Go.Proofs.Fu Go.Proofs.Fr

theorem few_any (s : ByteArray) (n : Nat) (hs : s.size ≤ 140737488351232) (hn : n ≤ 1000000) (w : World) :
    Calls Tryd.prog 11 #[.string s, .int .i64 (n : Int)] w fun e w' => ∃ s' : ByteArray, s'.size ≤ n ∧ e = .returned (.string s') ∧ w = w' := by
  rcases Nat.lt_or_ge n s.size with h | h
  · have h1 : (n : Int) < (s.size : Int) := by omega
    go_enter Tryd.func11, Tryd.ntmps11
    go_wp2
    go_ret
    exact ⟨s.extract 0 n, by simp; omega, rfl, rfl⟩
  · have h1 : ¬ ((n : Int) < (s.size : Int)) := by omega
    go_enter Tryd.func11, Tryd.ntmps11
    go_wp2
    go_ret
    exact ⟨s, h, rfl, rfl⟩
theorem add_zero_addr (g j : Nat) : (⟨g, 0, none⟩ : Addr).add j = ⟨g, j, none⟩ := by unfold Addr.add; split <;> simp_all
/-! ### a text's runes -/
theorem runesFrom_list (s : ByteArray) : ∀ (f i : Nat) (acc : Array Value), s.size ≤ i + f → (Conv.runesFrom s f i acc).toList = acc.toList ++ (runesB (s.data.toList.drop i)).map (fun r : Nat => Value.int .i32 (r : Int))
  | 0, i, acc, h => by
    rw [List.drop_eq_nil_of_le (by rw [size_list]; omega)]
    simp [Conv.runesFrom, runesB_nil]
  | f + 1, i, acc, h => by
    unfold Conv.runesFrom
    by_cases hi : i < s.size
    · rw [if_pos hi]
      have hd := Lib.decodeL_drop s i
      have hne : s.data.toList.drop i ≠ [] := by
        intro e
        have := congrArg List.length e
        rw [List.length_drop, size_list] at this
        simp at this; omega
      have hw := Lib.decodeL_width (s.data.toList.drop i)
      rw [hd] at hw
      show (Conv.runesFrom s f (i + (Utf8.decode s i).2) (acc.push (.int .i32 (Int.ofNat (Utf8.decode s i).1)))).toList = _
      rw [runesFrom_list s f _ _ (by omega), runesB_step _ hne, hd, List.drop_drop]
      simp
    · rw [if_neg hi, List.drop_eq_nil_of_le (by rw [size_list]; omega)]
      simp [runesB_nil]
theorem runes_text (s : ByteArray) : (Conv.runesFrom s s.size 0 #[]).toList = (runesI s.data.toList).map (Value.int .i32) ∧ (Conv.runesFrom s s.size 0 #[]).size = (runesI s.data.toList).length := by
  have h := runesFrom_list s s.size 0 #[] (by omega)
  have h2 : (Conv.runesFrom s s.size 0 #[]).toList = (runesI s.data.toList).map (Value.int .i32) := by
    rw [h]; simp [runesI, List.map_map, Function.comp_def]
  refine ⟨h2, ?_⟩
  rw [← Array.length_toList, h2, List.length_map]
/-- '[]rune(s)': a new block that begins with the text's runes -/
theorem text_runes {P : Program} (W : World) (src dst e : TypeId) (s : ByteArray) (hs : P.underlying src = some .string) (hd : P.underlying dst = some (.slice e)) (he : P.underlying e = some (.int .i32)) (hl : s.size ≤ 70368744177664) :
    ∃ c W', (convert src dst (.string s)).run P W = .ok (.slice (some ⟨W.heap.size, 0, none⟩) (runesI s.data.toList).length c) W' ∧ Row W' .i32 (some ⟨W.heap.size, 0, none⟩) (runesI s.data.toList) ∧ Below W.heap.size W W' := by
  obtain ⟨h1, h2⟩ := runes_text s
  have h3 := size_runesFrom s s.size 0 #[]
  have h4 := run_runes_of_string (P := P) W src dst e s hs hd he (by simp at h3; omega)
  rw [h2] at h4
  refine ⟨_, _, h4, ?_, ((Below.refl _ W).drew).alloc (Nat.le_refl _) _⟩
  intro _
  refine ⟨_, 0, rfl, fun j hj => ?_⟩
  rw [Nat.zero_add]
  refine (World.cell?_alloc_mark W.drew _ e _ j).trans ?_
  rw [Array.getElem?_append_left (by omega), ← Array.getElem?_toList, h1]
  simp [List.getElem?_map, List.getElem?_eq_getElem hj]
theorem enc_bytes (r : Int) : Utf8.encode r = ⟨(Lib.encodeRune r).toArray⟩ := by
  rw [utf8_encode_fix, enc_str (fix_valid r), ← encode_fix]
theorem runesBytes_all (ns : List Int) : runesBytes ns = ⟨(encB ns).toArray⟩ := by
  have key : ∀ (ns : List Int) (a : List UInt8), ns.foldl (fun r n => r ++ Utf8.encode n) (⟨a.toArray⟩ : ByteArray) = ⟨(a ++ encB ns).toArray⟩ := by
    intro ns
    induction ns with
    | nil => intro a; simp [encB]
    | cons r t ih =>
      intro a
      rw [List.foldl_cons, enc_bytes, str_app, ih, encB_cons, List.append_assoc]
  exact key ns []
theorem runes_back {P : Program} {W : World} (src dst e : TypeId) (b c : Nat) (xs : List Int) (hs : P.underlying src = some (.slice e)) (he : P.underlying e = some (.int .i32)) (hd : P.underlying dst = some .string) (h : Row W .i32 (some ⟨b, 0, none⟩) xs) :
    (convert src dst (.slice (some ⟨b, 0, none⟩) xs.length c)).run P W = .ok (.string ⟨(encB xs).toArray⟩) W := by
  rw [run_convert_runes W src dst e ⟨b, 0, none⟩ xs.length c xs (Nat.le_refl _) hs he hd, List.take_length, runesBytes_all]
  intro j hj
  obtain ⟨b', o', hb, hc⟩ := h (by intro e; subst e; simp at hj)
  have e1 : b' = b ∧ o' = 0 := by injection hb with hb; injection hb with e1 e2; exact ⟨e1.symm, e2.symm⟩
  obtain ⟨rfl, rfl⟩ := e1
  rw [add_zero_addr]
  have := hc j hj
  rwa [Nat.zero_add] at this
def ValidOut (w : World) (e : Ending) (w' : World) : Prop := (∃ B : Bool, e = .returned (.bool B)) ∧ ∃ q, w.drewN q = w'
set_option maxRecDepth 100000 in
set_option maxHeartbeats 4000000 in
theorem valid_any (A : Option Addr) (n c : Nat) (xs : List Int) (hn : xs.length = n) (hx : n ≤ 16777216) (w : World) (hr : Row w .i32 A xs) :
    Calls Tryd.prog 12 #[.slice A n c] w (ValidOut w) := by
  have HR := Lib.hid hr
  clear hr
  go_enter Tryd.func12, Tryd.ntmps12
  go_upto_region 2 with fail
  go_loopg [3] n (fun gk i wr => ∃ k q : Nat, k + gk = n ∧ i = .int .i64 (k : Int) ∧ wr = w.drewN q)
  case atStart => exact ⟨0, 0, by omega, rfl, rfl⟩
  case round =>
    obtain ⟨k, q, hk, rfl, rfl⟩ := hrel
    by_cases hlt : k < n
    · have i1 : (k : Int) < (n : Int) := by omega
      obtain ⟨b, off, rfl, hc⟩ := HR.out.at_ (i := k) (by omega)
      have c1 := hc k (by omega)
      obtain ⟨u, hu⟩ : ∃ u, xs.getD k 0 = u := ⟨_, rfl⟩
      rw [hu] at c1
      clear hc hu
      by_cases h0 : u < 0
      · go_wp2
        go_ret
        exact ⟨⟨false, rfl⟩, q, rfl⟩
      · by_cases h1 : 1114111 < u
        · have d0 : decide (u < 0) = false := decide_eq_false h0
          go_wp2
          go_ret
          exact ⟨⟨false, rfl⟩, q, rfl⟩
        · have d0 : decide (u < 0) = false := decide_eq_false h0
          have d1 : decide (1114111 < u) = false := decide_eq_false h1
          by_cases h2 : 55296 ≤ u
          · by_cases h3 : u ≤ 57343
            · go_wp2
              go_ret
              exact ⟨⟨false, rfl⟩, q, rfl⟩
            · have d3 : decide (u ≤ 57343) = false := decide_eq_false h3
              go_wp2
              go_roundg (gk - 1)
              case measure => omega
              case rel => exact ⟨k + 1, q, by omega, by go_num, rfl⟩
          · have d2 : decide (55296 ≤ u) = false := decide_eq_false h2
            go_wp2
            go_roundg (gk - 1)
            case measure => omega
            case rel => exact ⟨k + 1, q, by omega, by go_num, rfl⟩
    · have i1 : ¬ ((k : Int) < (n : Int)) := by omega
      go_wp2
      go_ret
      exact ⟨⟨true, rfl⟩, q, rfl⟩
theorem runesI_le (s : ByteArray) : (runesI s.data.toList).length ≤ s.size := by
  unfold runesI
  rw [List.length_map, ← size_list]
  exact runesB_length _
set_option maxHeartbeats 4000000 in
set_option maxRecDepth 100000 in
theorem escapes_walk (w : World) (he : Env w) (t : ByteArray) (_ : t.size ≤ maxLen) (hz : t.size ≤ 140737488351232) (q : Bool) :
    Calls Tryd.prog 4 #[.string t, .bool q] w fun e w' => e = .returned (.bool true) ∧ Below w.heap.size w w' := by
  have HF := Lib.hid (few_any t 1000 hz (by omega) w)
  have HE := Lib.hid (fun W (hb : Below w.heap.size w W) => he.below hb he.sz)
  clear he
  go_enter Tryd.func4, Tryd.ntmps4
  go_upto_region 2 with (go_at_call 11; refine (HF.out).mono ?_; rintro e w1 ⟨s, hs, rfl, rfl⟩)
  clear HF hz
  obtain ⟨l, rfl⟩ : ∃ l : List UInt8, (⟨l.toArray⟩ : ByteArray) = s := ⟨s.data.toList, rfl⟩
  have hs2 : l.length ≤ 1000 := by rw [← str_len]; exact hs
  obtain ⟨c0, w0, hcv, hrow, hbl⟩ := text_runes (P := Tryd.prog) w 9 38 21 ⟨l.toArray⟩ Tryd.underlying9 Tryd.underlying38 Tryd.underlying21 (by rw [str_len]; omega)
  dsimp only at hcv hrow
  have hrl : (runesI l).length ≤ 1000 := Nat.le_trans (runesI_le ⟨l.toArray⟩) hs
  have HV := Lib.hid (valid_any (some ⟨w.heap.size, 0, none⟩) (runesI l).length c0 (runesI l) rfl (by omega) w0 hrow)
  have HCV : Hid (∀ W, ∃ c W', (convert 9 38 (.string ⟨l.toArray⟩)).run Tryd.prog W = .ok (.slice (some ⟨W.heap.size, 0, none⟩) (runesI l).length c) W' ∧ Row W' .i32 (some ⟨W.heap.size, 0, none⟩) (runesI l) ∧ Below W.heap.size W W') := Lib.hid (fun W => text_runes (P := Tryd.prog) W 9 38 21 ⟨l.toArray⟩ Tryd.underlying9 Tryd.underlying38 Tryd.underlying21 (by rw [str_len]; omega))
  have HESC := Lib.hid (fun W => escape_any q ⟨l.toArray⟩ (by rw [str_len]; omega) W)
  have HREF := Lib.hid (fun W => refEscape_any q ⟨l.toArray⟩ (by rw [str_len]; omega) W)
  simp only [] at HESC HREF
  have HB := Lib.hid hbl
  have HSAME : Hid (encB (runesI l) = l → escRs q (runesI l) = escS q l) := Lib.hid (fun h => (escS_runes q _ l (Nat.le_refl _) h).symm)
  obtain ⟨RS, hRS⟩ : ∃ r, runesI l = r := ⟨_, rfl⟩
  rw [hRS] at hcv hrow HV HCV HSAME
  simp only [hRS] at HREF
  have hrl2 : RS.length ≤ 1000 := hRS ▸ hrl
  clear hRS hrl hbl hrow
  obtain ⟨E1, hE1⟩ : ∃ e, escS q l = e := ⟨_, rfl⟩
  obtain ⟨E2, hE2⟩ : ∃ e, escRs q RS = e := ⟨_, rfl⟩
  simp only [hE1] at HESC
  simp only [hE2] at HREF
  rw [hE1, hE2] at HSAME
  clear hE1 hE2
  obtain ⟨Q, hQ⟩ : ∃ Q, encB RS = Q := ⟨_, rfl⟩
  have HQ := Lib.hid hQ
  rw [hQ] at HSAME
  clear hQ
  by_cases hq : Q = l
  · have HEQ := Lib.hid (HSAME.out hq)
    rw [hq] at HQ
    clear HSAME hq
    have hee : E2 = E1 := HEQ.out
    subst hee
    clear HEQ
    go_wp2_with (first
      | (go_at_call 12; refine (HV.out).mono ?_; rintro e w2 ⟨⟨B, rfl⟩, qq, hq2⟩; have HB2 := Lib.hid (HB.out.trans ((show Below w0.heap.size w0 w2 from hq2 ▸ below_drewN (Below.refl _ _) qq).mono HB.out.size)); obtain ⟨c3, w3, hcv3, hrow3, hbl3⟩ := HCV.out w2; have hbk3 := runes_back (P := Tryd.prog) 38 9 21 w2.heap.size c3 RS Tryd.underlying38 Tryd.underlying21 Tryd.underlying9 hrow3; rw [HQ.out] at hbk3; have HB3 := Lib.hid (HB2.out.trans (hbl3.mono HB2.out.size)); have HK2 := Lib.hid (known_any w2 (HE.out _ HB2.out)); have HK3 := Lib.hid (known_any w3 (HE.out _ HB3.out)); clear hrow3 hbl3 hq2; cases B)
      | (go_at_call 9; refine (HESC.out _).mono ?_; rintro e w5 ⟨rfl, hb5⟩; have HB5 := Lib.hid (HB3.out.trans (hb5.mono HB3.out.size)); clear hb5)
      | (go_at_call 13; refine (HREF.out _).mono ?_; rintro e w6 ⟨rfl, hb6⟩; have HB6 := Lib.hid (HB5.out.trans (hb6.mono HB5.out.size)); have HK6 := Lib.hid (known_any w6 (HE.out _ HB6.out)); clear hb6)
      | (go_at_call 10; (with_reducible refine (HK2.out).mono ?_); rintro e w9 ⟨rfl, hb9⟩)
      | (go_at_call 10; (with_reducible refine (HK6.out).mono ?_); rintro e w9 ⟨rfl, hb9⟩))
    all_goals go_ret
    · exact ⟨rfl, HB2.out.trans (hb9.mono HB2.out.size)⟩
    · exact ⟨rfl, HB6.out.trans (hb9.mono HB6.out.size)⟩
  · have bq : (Q == l) = false := by rw [beq_eq_false_iff_ne]; exact hq
    clear HSAME hq
    go_wp2_with (first
      | (go_at_call 12; refine (HV.out).mono ?_; rintro e w2 ⟨⟨B, rfl⟩, qq, hq2⟩; have HB2 := Lib.hid (HB.out.trans ((show Below w0.heap.size w0 w2 from hq2 ▸ below_drewN (Below.refl _ _) qq).mono HB.out.size)); obtain ⟨c3, w3, hcv3, hrow3, hbl3⟩ := HCV.out w2; have hbk3 := runes_back (P := Tryd.prog) 38 9 21 w2.heap.size c3 RS Tryd.underlying38 Tryd.underlying21 Tryd.underlying9 hrow3; rw [HQ.out] at hbk3; have HB3 := Lib.hid (HB2.out.trans (hbl3.mono HB2.out.size)); have HK2 := Lib.hid (known_any w2 (HE.out _ HB2.out)); have HK3 := Lib.hid (known_any w3 (HE.out _ HB3.out)); clear hrow3 hbl3 hq2; cases B)
      | (go_at_call 10; refine (HK2.out).mono ?_; rintro e w9 ⟨rfl, hb9⟩)
      | (go_at_call 10; refine (HK3.out).mono ?_; rintro e w9 ⟨rfl, hb9⟩))
    all_goals go_ret
    · exact ⟨rfl, HB2.out.trans (hb9.mono HB2.out.size)⟩
    · exact ⟨rfl, HB3.out.trans (hb9.mono HB3.out.size)⟩
end Go.Proofs.YtdogcnmepaemjaaDoor
