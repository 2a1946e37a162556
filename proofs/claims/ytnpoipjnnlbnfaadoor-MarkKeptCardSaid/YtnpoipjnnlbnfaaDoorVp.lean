/- A text cut into tokens and held against others; what is known of chapter 4's runs. No conditions but that the text is not endless. -/
import Derived.Test.YtnpoipjnnlbnfaaDoorVo
namespace Go.Proofs.YtnpoipjnnlbnfaaDoor
set_option linter.unusedVariables false
open Go.RowKit Go.Proofs.Fm Go.Proofs.Fb Go.Proofs.Fk Go.Proofs.Fs Go.Proofs.Fc Go.Proofs.Fu

theorem tok64 : ∀ (n : Nat) (l : List Int), l.length ≤ n → ∀ x ∈ tok l, x.attrs.length ≤ 64 := by
  intro n l hn x hx
  rcases tok_ok n l hn x hx with h | h | h
  · rw [h.2.2.2.1]; simp
  · exact h.2.2.2.2.1
  · rw [h.2.2.2.2.1]; simp
set_option maxHeartbeats 2000000 in
theorem cut_text (s : ByteArray) (hs : s.size ≤ 16777216) (B : Option Addr) (m d : Nat) (ys : List Tok) (hm : ys.length = m) {w : World} (hb : TRow w B ys) (he : Env w) :
    Calls Tryd.prog 12 #[.string s, .slice B m d] w fun e w' => e = .returned (.bool (decide (tok (runesI s.data.toList) = ys))) ∧ Below w.heap.size w w' := by
  obtain ⟨c0, w0, hcv, hrow, hbl⟩ := text_runes (P := Tryd.prog) w 9 32 21 s Tryd.underlying9 Tryd.underlying32 Tryd.underlying21 (by omega)
  have HT := Lib.hid (tokens_any (some ⟨w.heap.size, 0, none⟩) (runesI s.data.toList).length c0 (runesI s.data.toList) rfl hrow (Nat.le_trans (runesI_len s) hs) (runesI_small _) (he.below hbl he.sz))
  have HBL := Lib.hid hbl
  have HBR := Lib.hid (hb.below hbl (Nat.le_refl _))
  clear hrow hbl hb
  go_enter Tryd.func12, Tryd.ntmps12
  go_wp2_with (first
    | (go_at_call 22; refine (HT.out).mono ?_; rintro e w1 ⟨V, ts, rfl, h1, h2, h3, h4⟩; obtain ⟨VA, vc, rfl, _, _⟩ := own_slice h1.row; have hr := TRow.of_rows h1; rw [h2] at hr; have HR := Lib.hid hr.1; have H4 := Lib.hid h4; have HLN := Lib.hid (show (tok (runesI s.data.toList)).length = ts.length by rw [← h2]; simp); clear h1 h2 h4 hr)
    | (go_at_call 21; refine (toks_any VA B ts.length m vc d (tok (runesI s.data.toList)) ys HLN.out hm (by omega) (tok64 _ _ (Nat.le_refl _)) HR.out (HBR.out.below H4.out (Nat.le_refl _))).mono ?_; rintro e w2 ⟨rfl, h5⟩))
  go_ret
  exact ⟨rfl, HBL.out.trans ((H4.out.trans (h5.mono H4.out.size)).mono HBL.out.size)⟩
theorem ARow.of_block {w : World} {g : Nat} {al : List Att} {cs : Array Value} {t : TypeId} (h : Bk w g t cs) (hc : cs = (attrCells al).toArray) : ARow w (some ⟨g, 0, none⟩) al := by
  subst hc
  intro _
  refine ⟨g, 0, rfl, fun i hi => ?_⟩
  obtain ⟨h1, h2⟩ := attrCells_get al i hi
  rw [h.cell, h.cell, Nat.zero_add]
  exact ⟨by simpa using h1, by simpa using h2⟩
theorem ARow.nil (w : World) (A : Option Addr) : ARow w A [] := fun h => absurd rfl h
theorem TRow.of_block {w : World} {g : Nat} {ts : List (Tok × Value)} {cs : Array Value} {t : TypeId} (h : Bk w g t cs) (hc : cs = (tokCells ts).toArray) (he : ∀ p ∈ ts, ∃ A' c', p.2 = .slice A' p.1.attrs.length c' ∧ ARow w A' p.1.attrs) : TRow w (some ⟨g, 0, none⟩) (ts.map (·.1)) := by
  subst hc
  intro _
  refine ⟨g, 0, rfl, fun i hi => ?_⟩
  have hi' : i < ts.length := by simpa using hi
  obtain ⟨h0, h1, h2, h3, h4⟩ := tokCells_get ts i hi'
  obtain ⟨A', c', hv, ha⟩ := he _ (List.getElem_mem hi')
  have ce : ∀ j u, (tokCells ts)[j]? = some u → w.cell? ⟨g, j, none⟩ = some u := fun j u hu => by rw [h.cell]; simpa using hu
  refine ⟨A', c', ?_⟩
  simp only [List.getElem_map, Nat.zero_add]
  exact ⟨ce _ _ h0, ce _ _ h1, ce _ _ h2, by rw [← hv]; exact ce _ _ h3, ce _ _ h4, ha⟩
theorem chars_law (l : List UInt8) (w : World) :
    Calls Tryd.prog 13 #[.string ⟨l.toArray⟩] w fun e w' => e = .returned (.agg #[.int .i64 1, .string ⟨#[]⟩, .string ⟨l.toArray⟩, .slice none 0 0, .bool false]) ∧ Below w.heap.size w w' := by
  go_enter Tryd.func13, Tryd.ntmps13
  go_wp2
  exact bodyPost_ret (v := .agg #[.int .i64 1, .string ⟨#[]⟩, .string ⟨l.toArray⟩, .slice none 0 0, .bool false]) (by simp [results, Tryd.results13, go_sem]) rfl ⟨rfl, (Below.refl _ _).alloc (Nat.le_refl _) _⟩
theorem open_law (l : List UInt8) (cl : Bool) (A : Option Addr) (n c : Nat) (w : World) :
    Calls Tryd.prog 15 #[.string ⟨l.toArray⟩, .bool cl, .slice A n c] w fun e w' => e = .returned (.agg #[.int .i64 2, .string ⟨l.toArray⟩, .string ⟨#[]⟩, .slice A n c, .bool cl]) ∧ Below w.heap.size w w' := by
  go_enter Tryd.func15, Tryd.ntmps15
  go_wp2
  exact bodyPost_ret (v := .agg #[.int .i64 2, .string ⟨l.toArray⟩, .string ⟨#[]⟩, .slice A n c, .bool cl]) (by simp [results, Tryd.results15, go_sem]) rfl ⟨rfl, (Below.refl _ _).alloc (Nat.le_refl _) _⟩
theorem shut_law (l : List UInt8) (w : World) :
    Calls Tryd.prog 14 #[.string ⟨l.toArray⟩] w fun e w' => e = .returned (.agg #[.int .i64 3, .string ⟨l.toArray⟩, .string ⟨#[]⟩, .slice none 0 0, .bool false]) ∧ Below w.heap.size w w' := by
  go_enter Tryd.func14, Tryd.ntmps14
  go_wp2
  exact bodyPost_ret (v := .agg #[.int .i64 3, .string ⟨l.toArray⟩, .string ⟨#[]⟩, .slice none 0 0, .bool false]) (by simp [results, Tryd.results14, go_sem]) rfl ⟨rfl, (Below.refl _ _).alloc (Nat.le_refl _) _⟩
theorem cut_true (l : List UInt8) (hl : l.length ≤ 16777216) (B : Option Addr) (m d : Nat) (ys : List Tok) (hm : ys.length = m) {w : World} (hb : TRow w B ys) (he : Env w) (h : tok (runesI l) = ys) :
    Calls Tryd.prog 12 #[.string ⟨l.toArray⟩, .slice B m d] w fun e w' => e = .returned (.bool true) ∧ Below w.heap.size w w' := by
  refine (cut_text ⟨l.toArray⟩ hl B m d ys hm hb he).mono ?_
  rintro e w' ⟨rfl, h1⟩
  exact ⟨by rw [decide_eq_true h], h1⟩
theorem known_cut : tok (runesI [60, 80, 32, 97, 61, 49, 32, 66, 61, 39, 120, 38, 108, 116, 59, 39, 32, 97, 61, 50, 47, 62, 116]) = [⟨2, [112], [], [([97], [49]), ([98], [120, 60])], false⟩, ⟨1, [], [116], [], false⟩] := by decide
theorem known_unesc : Fe.unesc [38, 97, 109, 112, 59, 108, 116, 59, 38, 35, 54, 53, 59, 38, 35, 120, 49, 49, 48, 48, 48, 48, 59, 38, 98, 97, 100, 59, 38, 35, 59] = [38, 108, 116, 59, 65, 239, 191, 189, 38, 98, 97, 100, 59, 38, 35, 59] := by decide
set_option maxHeartbeats 4000000 in
set_option maxRecDepth 100000 in
theorem known_any {w : World} (he : Env w) :
    Calls Tryd.prog 17 #[] w fun e w' => e = .returned (.bool true) ∧ Below w.heap.size w w' := by
  have HE := Lib.hid (fun W (hb : Below w.heap.size w W) => he.below hb he.sz)
  have hb0 := fun o => (Below.refl w.heap.size w).alloc (Nat.le_refl _) o
  clear he
  go_enter Tryd.func17, Tryd.ntmps17
  go_wp2_with (first
    | (go_at_call 15; refine (open_law _ _ _ _ _ _).mono ?_; rintro e w1 ⟨rfl, h1⟩; have ha := (ARow.of_block (al := [([97], [49]), ([98], [120, 60])]) (Bk.new w 29 _) rfl).below h1 (Nat.le_refl _); have HA := Lib.hid ha; have HW1 := Lib.hid ((hb0 _).trans (h1.mono (by simp))); clear h1 ha)
    | (go_at_call 13; refine (chars_law _ _).mono ?_; rintro e w2 ⟨rfl, h2⟩; have HA2 := Lib.hid (HA.out.below h2 (Nat.le_refl _)); have HW2 := Lib.hid (HW1.out.trans (h2.mono HW1.out.size)); clear h2)
    | (go_at_call 12; refine (cut_true [60, 80, 32, 97, 61, 49, 32, 66, 61, 39, 120, 38, 108, 116, 59, 39, 32, 97, 61, 50, 47, 62, 116] (by decide) (some ⟨w2.heap.size, 0, none⟩) 2 2 _ rfl (TRow.of_block (ts := [(⟨2, [112], [], [([97], [49]), ([98], [120, 60])], false⟩, .slice (some ⟨w.heap.size, 0, none⟩) 2 2), (⟨1, [], [116], [], false⟩, .slice none 0 0)]) (Bk.new w2 25 _) rfl (by
        intro p hp
        rcases List.mem_cons.1 hp with hp | hp
        · subst hp; exact ⟨_, _, rfl, HA2.out.below ((Below.refl _ w2).alloc (Nat.le_refl _) _) (Nat.le_refl _)⟩
        · rw [List.mem_singleton.1 hp]; exact ⟨_, _, rfl, ARow.nil _ _⟩)) (HE.out _ (HW2.out.alloc HW2.out.size _)) known_cut).mono ?_; rintro e w3 ⟨rfl, h3⟩; have HW3 := Lib.hid ((HW2.out.alloc HW2.out.size _).trans (h3.mono (by have := HW2.out.size; simp; omega))); clear h3)
    | (go_at_call 16; refine (unescape_any ⟨#[38, 97, 109, 112, 59, 108, 116, 59, 38, 35, 54, 53, 59, 38, 35, 120, 49, 49, 48, 48, 48, 48, 59, 38, 98, 97, 100, 59, 38, 35, 59]⟩ (by decide) (HE.out _ HW3.out)).mono ?_; rintro e w4 ⟨rfl, h4⟩; rw [show Fe.unesc (⟨#[38, 97, 109, 112, 59, 108, 116, 59, 38, 35, 54, 53, 59, 38, 35, 120, 49, 49, 48, 48, 48, 48, 59, 38, 98, 97, 100, 59, 38, 35, 59]⟩ : ByteArray).data.toList = _ from known_unesc]))
  go_ret
  exact ⟨rfl, HW3.out.trans (h4.mono HW3.out.size)⟩
end Go.Proofs.YtnpoipjnnlbnfaaDoor
