/- Lists of tokens held against others; a text cut into tokens and held against others. No conditions but that the lists are not endless. -/
import Derived.Test.YtnpoipjnnlbnfaaDoorVn
import Derived.Laws.IdiomStrings
namespace Go.Proofs.YtnpoipjnnlbnfaaDoor
set_option linter.unusedVariables false
open Go.RowKit Go.Proofs.Fm Go.Proofs.Fb Go.Proofs.Fk Go.Proofs.Fs Go.Proofs.Fc Go.Proofs.Fu

/-- the slice at A reads as the tokens ys -/
def TRow (w : World) (A : Option Addr) (ys : List Tok) : Prop := ys ≠ [] → ∃ b off, A = some ⟨b, off, none⟩ ∧ ∀ (i : Nat) (h : i < ys.length), ∃ A' c', w.cell? ⟨b, off + i * 5, none⟩ = some (.int .i64 ((ys[i]'h).kind : Int)) ∧ w.cell? ⟨b, off + i * 5 + 1, none⟩ = some (str (ys[i]'h).name) ∧ w.cell? ⟨b, off + i * 5 + 2, none⟩ = some (str (ys[i]'h).text) ∧ w.cell? ⟨b, off + i * 5 + 3, none⟩ = some (.slice A' (ys[i]'h).attrs.length c') ∧ w.cell? ⟨b, off + i * 5 + 4, none⟩ = some (.bool (ys[i]'h).closed) ∧ ARow w A' (ys[i]'h).attrs
theorem TRow.below {w w' : World} {A : Option Addr} {ys : List Tok} {B : Nat} (h : TRow w A ys) (hb : Below B w w') (hB : w.heap.size ≤ B) : TRow w' A ys := by
  intro hx
  obtain ⟨b, off, rfl, hc⟩ := h hx
  refine ⟨b, off, rfl, fun i hi => ?_⟩
  obtain ⟨A', c', h0, h1, h2, h3, h4, h5⟩ := hc i hi
  have hlt : b < w.heap.size := World.block_lt_of_cell? _ _ h0
  have ce : ∀ o, w'.cell? ⟨b, o, none⟩ = w.cell? ⟨b, o, none⟩ := fun o => hb.cell (by show b < B; omega)
  exact ⟨A', c', (ce _).trans h0, (ce _).trans h1, (ce _).trans h2, (ce _).trans h3, (ce _).trans h4, h5.below hb hB⟩
theorem tokCells_get : ∀ (ts : List (Tok × Value)) (i : Nat) (h : i < ts.length), (tokCells ts)[i * 5]? = some (.int .i64 ((ts[i]'h).1.kind : Int)) ∧ (tokCells ts)[i * 5 + 1]? = some (str (ts[i]'h).1.name) ∧ (tokCells ts)[i * 5 + 2]? = some (str (ts[i]'h).1.text) ∧ (tokCells ts)[i * 5 + 3]? = some (ts[i]'h).2 ∧ (tokCells ts)[i * 5 + 4]? = some (.bool (ts[i]'h).1.closed)
  | [], i, h => by simp at h
  | a :: t, 0, h => by
    have e : tokCells (a :: t) = [.int .i64 (a.1.kind : Int), str a.1.name, str a.1.text, a.2, .bool a.1.closed] ++ tokCells t := rfl
    rw [e]; simp
  | a :: t, i + 1, h => by
    have e : tokCells (a :: t) = [.int .i64 (a.1.kind : Int), str a.1.name, str a.1.text, a.2, .bool a.1.closed] ++ tokCells t := rfl
    have ih := tokCells_get t i (by simpa using h)
    have e0 : (i + 1) * 5 = i * 5 + 5 := by omega
    have sh : ∀ k, (tokCells (a :: t))[i * 5 + k + 5]? = (tokCells t)[i * 5 + k]? := fun k => by rw [e]; simp
    rw [e0]
    refine ⟨(sh 0).trans ih.1, ?_, ?_, ?_, ?_⟩
    · rw [show i * 5 + 5 + 1 = i * 5 + 1 + 5 by omega]; exact (sh 1).trans ih.2.1
    · rw [show i * 5 + 5 + 2 = i * 5 + 2 + 5 by omega]; exact (sh 2).trans ih.2.2.1
    · rw [show i * 5 + 5 + 3 = i * 5 + 3 + 5 by omega]; exact (sh 3).trans ih.2.2.2.1
    · rw [show i * 5 + 5 + 4 = i * 5 + 4 + 5 by omega]; exact (sh 4).trans ih.2.2.2.2
theorem add_zero_addr (g j : Nat) : (⟨g, 0, none⟩ : Addr).add j = ⟨g, j, none⟩ := by unfold Addr.add; split <;> simp_all
theorem TRow.of_rows {B : Nat} {W : World} {A : Option Addr} {n c : Nat} {ts : List (Tok × Value)} (h : TokRows B W (.slice A n c) ts) : TRow W A (ts.map (·.1)) ∧ ts.length = n := by
  obtain ⟨A0, c0, he, _, _⟩ := own_slice h.row
  have hn : ts.length = n := by injection he with _ e _; exact e.symm
  refine ⟨fun hx => ?_, hn⟩
  have hl : 0 < ts.length := by
    rcases ts with _ | ⟨a, t⟩
    · exact absurd rfl hx
    · simp
  obtain ⟨g, cap, hv, _, _⟩ := h.row.form hl
  injection hv with e1 _ e3
  subst e1
  refine ⟨g, 0, rfl, fun i hi => ?_⟩
  have hi' : i < ts.length := by simpa using hi
  obtain ⟨h0, h1, h2, h3, h4⟩ := tokCells_get ts i hi'
  have ce : ∀ j u, (tokCells ts)[j]? = some u → W.cell? ⟨g, j, none⟩ = some u := fun j u hu => by
    have := h.row.cells (g := g) rfl j u hu
    rwa [add_zero_addr] at this
  have hm := h.each _ (List.getElem_mem hi')
  obtain ⟨A', c', hv', _, _⟩ := own_slice hm
  refine ⟨A', c', ?_⟩
  simp only [List.getElem_map, Nat.zero_add]
  refine ⟨ce _ _ h0, ce _ _ h1, ce _ _ h2, ?_, ce _ _ h4, ?_⟩
  · rw [← hv']; exact ce _ _ h3
  · rw [hv'] at hm
    exact ARow.of_own hm rfl
set_option maxHeartbeats 4000000 in
theorem toks_any (A B : Option Addr) (n m c d : Nat) (xs ys : List Tok) (hn : xs.length = n) (hm : ys.length = m) (hx : n ≤ 4294967296) (hat : ∀ x ∈ xs, x.attrs.length ≤ 64) {w : World} (ha : TRow w A xs) (hb : TRow w B ys) :
    Calls Tryd.prog 21 #[.slice A n c, .slice B m d] w fun e w' => e = .returned (.bool (decide (xs = ys))) ∧ Below w.heap.size w w' := by
  by_cases hl : n = m
  · have h2 : ((n : Int) != (m : Int)) = false := by rw [bne_eq_false_iff_eq]; omega
    have HL := Lib.hid hl
    clear hl
    have HAT := Lib.hid hat
    have HA := Lib.hid ha
    have HBR := Lib.hid hb
    have hw0 : w.heap.size ≤ w.heap.size := Nat.le_refl _
    have e1 := fun W x b o => ext_cell w.heap.size W x b o
    clear hat ha hb
    go_enter Tryd.func21, Tryd.ntmps21
    go_wp2
    go_loopg [5] n (fun gk i wr => ∃ k : Nat, k + gk = n ∧ i = .int .i64 k ∧ Hid (decide (xs.drop k = ys.drop k) = decide (xs = ys)) ∧ Below w.heap.size w wr)
    case atStart => exact ⟨0, by omega, rfl, Lib.hid rfl, Below.refl _ _⟩
    case round =>
      obtain ⟨k, hk, rfl, ht, hbw⟩ := hrel
      by_cases hlt : k < n
      · have hlm := HL.out
        have hka : k < xs.length := by omega
        have hkb : k < ys.length := by omega
        have hz := hbw.size
        obtain ⟨b1, o1, rfl, hc1⟩ := HA.out.below hbw (Nat.le_refl _) (by intro e; subst e; simp at hka)
        obtain ⟨b2, o2, rfl, hc2⟩ := HBR.out.below hbw (Nat.le_refl _) (by intro e; subst e; simp at hkb)
        obtain ⟨A1, d1, g0, g1, g2, g3, g4, ra⟩ := hc1 k hka
        obtain ⟨A2, d2, k0, k1, k2, k3, k4, rb⟩ := hc2 k hkb
        have hdx : xs.drop k = xs[k]'hka :: xs.drop (k + 1) := List.drop_eq_getElem_cons hka
        have hdy : ys.drop k = ys[k]'hkb :: ys.drop (k + 1) := List.drop_eq_getElem_cons hkb
        have hxm := HAT.out _ (List.getElem_mem hka)
        obtain ⟨x, hx⟩ : ∃ x, (xs[k]'hka) = x := ⟨_, rfl⟩
        obtain ⟨y, hy⟩ : ∃ x, (ys[k]'hkb) = x := ⟨_, rfl⟩
        rw [hx] at g0 g1 g2 g3 g4 ra hdx hxm
        rw [hy] at k0 k1 k2 k3 k4 rb hdy
        have HDX := Lib.hid hdx
        have HDY := Lib.hid hdy
        have i1 : (k : Int) < (n : Int) := by omega
        have i2 : (k : Int) < (m : Int) := by omega
        have HTK := Lib.hid (fun x0 => token_any x y A1 A2 d1 d2 (by omega) (w := ext wr.heap.size wr x0) (ra.below (ext_below _ _ _) (Nat.le_refl _)) (rb.below (ext_below _ _ _) (Nat.le_refl _)))
        have HB := Lib.hid hbw
        have lt1 : b1 < wr.heap.size := World.block_lt_of_cell? _ _ g0
        have lt2 : b2 < wr.heap.size := World.block_lt_of_cell? _ _ k0
        have e2 := fun x b o => ext_cell wr.heap.size wr x b o
        dsimp only [str] at g1 g2 k1 k2
        clear hc1 hc2 hdx hdy hx hy hlm hbw ra rb e1 hxm
        obtain ⟨z, hz2⟩ : ∃ z, tokEq x y = z := ⟨_, rfl⟩
        have HZ := Lib.hid hz2
        rw [hz2] at HTK
        clear hz2
        have HT2 : Hid (∀ x0, Calls Tryd.prog 37 #[.agg #[.int .i64 (x.kind : Int), .string ⟨x.name.toArray⟩, .string ⟨x.text.toArray⟩, .slice A1 x.attrs.length d1, .bool x.closed], .agg #[.int .i64 (y.kind : Int), .string ⟨y.name.toArray⟩, .string ⟨y.text.toArray⟩, .slice A2 y.attrs.length d2, .bool y.closed]] (ext wr.heap.size wr x0) fun e w' => e = .returned (.bool z) ∧ Below (ext wr.heap.size wr x0).heap.size (ext wr.heap.size wr x0) w') := HTK
        clear HTK
        rcases z with _ | _
        · go_wp2
          refine region_ext wr.heap.size (by kernel_rfl) (by kernel_rfl) ?_
          repeat quiet_step ((go_at_call 37; exact call_of (HT2.out _) (Nat.le_refl _)))
          refine wpQuiet_nil ?_
          intro w2 hb2
          go_wp2
          go_ret
          refine ⟨?_, HB.out.trans (hb2.mono hz)⟩
          have h1 := ht.out
          rw [HDX.out, HDY.out] at h1
          have hz3 := HZ.out
          rw [tokEq_dec] at hz3
          rw [← h1, decide_eq_false (fun e => absurd (List.cons.inj e).1 (of_decide_eq_false hz3))]; rfl
        · go_wp2
          refine region_ext wr.heap.size (by kernel_rfl) (by kernel_rfl) ?_
          repeat quiet_step ((go_at_call 37; exact call_of (HT2.out _) (Nat.le_refl _)))
          refine wpQuiet_nil ?_
          intro w2 hb2
          go_wp2
          go_roundg (gk - 1)
          case measure => omega
          case rel =>
            refine ⟨k + 1, by omega, by go_num, Lib.hid ?_, HB.out.trans (hb2.mono hz)⟩
            have h1 := ht.out
            have hz3 := HZ.out
            rw [tokEq_dec] at hz3
            rw [HDX.out, HDY.out, of_decide_eq_true hz3] at h1
            rw [← h1]
            exact decide_eq_decide.2 ⟨fun e => by rw [e], fun e => (List.cons.inj e).2⟩
      · have hke : k = n := by omega
        subst hke
        go_wp2
        go_ret
        have h1 := ht.out
        have hlm := HL.out
        rw [List.drop_eq_nil_of_le (by omega), List.drop_eq_nil_of_le (by omega)] at h1
        exact ⟨by rw [← h1]; rfl, hbw⟩
  · have h1 : decide (xs = ys) = false := by
      rw [decide_eq_false_iff_not]; intro e; exact hl (by rw [← hn, ← hm, e])
    have H1 := Lib.hid h1
    have h2 : ((n : Int) != (m : Int)) = true := by rw [bne_iff_ne]; omega
    clear ha hb h1 hl
    go_enter Tryd.func21, Tryd.ntmps21
    go_wp2
    go_ret
    exact ⟨by rw [H1.out]; rfl, Below.refl _ _⟩
/-! ### a text's runes -/
theorem runesFrom_list (s : ByteArray) : ∀ (f i : Nat) (acc : Array Value), s.size ≤ i + f → (Conv.runesFrom s f i acc).toList = acc.toList ++ (runesB (s.data.toList.drop i)).map (fun r : Nat => Value.int .i32 (r : Int))
  | 0, i, acc, h => by
    rw [List.drop_eq_nil_of_le (by rw [size_data]; omega)]
    simp [Conv.runesFrom, runesB_nil]
  | f + 1, i, acc, h => by
    unfold Conv.runesFrom
    by_cases hi : i < s.size
    · rw [if_pos hi]
      have hd := Lib.decodeL_drop s i
      have hne : s.data.toList.drop i ≠ [] := by
        intro e
        have := congrArg List.length e
        rw [List.length_drop, size_data] at this
        simp at this; omega
      have hw := Lib.decodeL_width (s.data.toList.drop i)
      rw [hd] at hw
      show (Conv.runesFrom s f (i + (Utf8.decode s i).2) (acc.push (.int .i32 (Int.ofNat (Utf8.decode s i).1)))).toList = _
      rw [runesFrom_list s f _ _ (by omega), runesB_step _ hne, hd, List.drop_drop]
      simp
    · rw [if_neg hi, List.drop_eq_nil_of_le (by rw [size_data]; omega)]
      simp [runesB_nil]
theorem runes_text (s : ByteArray) : (Conv.runesFrom s s.size 0 #[]).toList = (runesI s.data.toList).map (Value.int .i32) ∧ (Conv.runesFrom s s.size 0 #[]).size = (runesI s.data.toList).length := by
  have h := runesFrom_list s s.size 0 #[] (by omega)
  have h2 : (Conv.runesFrom s s.size 0 #[]).toList = (runesI s.data.toList).map (Value.int .i32) := by
    rw [h]; simp [runesI, List.map_map, Function.comp_def]
  refine ⟨h2, ?_⟩
  rw [← Array.length_toList, h2, List.length_map]
/-- '[]rune(s)': a new block that begins with the text's runes -/
theorem text_runes {P : Program} (W : World) (src dst e : TypeId) (s : ByteArray) (hs : P.underlying src = some .string) (hd : P.underlying dst = some (.slice e)) (he : P.underlying e = some (.int .i32)) (hl : s.size ≤ 70368744177664) :
    ∃ c W', (convert src dst (.string s)).run P W = .ok (.slice (some ⟨W.heap.size, 0, none⟩) (runesI s.data.toList).length c) W' ∧ Row W' .i32 (some ⟨W.heap.size, 0, none⟩) (runesI s.data.toList) ∧ Below W.heap.size W W' := by
  obtain ⟨h1, h2⟩ := runes_text s
  have h3 := size_runesFrom s s.size 0 #[]
  have h4 := run_runes_of_string (P := P) W src dst e s hs hd he (by simp at h3; omega)
  rw [h2] at h4
  refine ⟨_, _, h4, ?_, ((Below.refl _ W).drew).alloc (Nat.le_refl _) _⟩
  intro _
  refine ⟨_, 0, rfl, fun j hj => ?_⟩
  rw [Nat.zero_add]
  refine (World.cell?_alloc_mark W.drew _ e _ j).trans ?_
  rw [Array.getElem?_append_left (by omega), ← Array.getElem?_toList, h1]
  simp [List.getElem?_map, List.getElem?_eq_getElem hj]
theorem runesI_len (s : ByteArray) : (runesI s.data.toList).length ≤ s.size := by
  rw [← (runes_text s).2]
  have := size_runesFrom s s.size 0 #[]
  simpa using this
theorem runesI_small (s : List UInt8) : ∀ x ∈ runesI s, -2147483648 ≤ x ∧ x ≤ 2147483647 := by
  intro x hx
  obtain ⟨r, hr, rfl⟩ := List.mem_map.1 hx
  have := runesB_valid s r hr
  omega
end Go.Proofs.YtnpoipjnnlbnfaaDoor
