/- Plain facts: a list gone over by place as far as a test holds; attributes and tags by place. No walk. No conditions. casementref4's attr, by place in the list. Conditions: the list is not endless, its runes are scalar values. -/
import Derived.Test.YtnpoipjnnlbnfaaDoorXi
namespace Go.Proofs.Fk
set_option linter.unusedVariables false
open Go.Lib Go.Proofs.Fu Go.Proofs.Fe

/-- from k up to m the test holds -/
structure Span (p : Int → Bool) (xs : List Int) (k m : Nat) : Prop where
  tw : (xs.drop k).takeWhile p = (xs.drop k).take (m - k) ++ (xs.drop m).takeWhile p
  dw : (xs.drop k).dropWhile p = (xs.drop m).dropWhile p
  le : k ≤ m
theorem drop_c {xs : List Int} {k : Nat} (h : k < xs.length) : xs.drop k = xs.getD k 0 :: xs.drop (k + 1) := by
  rw [List.drop_eq_getElem_cons h, List.getD_eq_getElem?_getD, List.getElem?_eq_getElem h]; rfl
theorem take_step {xs : List Int} {k m : Nat} (hkm : k ≤ m) (hm : m < xs.length) : (xs.drop k).take (m + 1 - k) = (xs.drop k).take (m - k) ++ [xs.getD m 0] := by
  rw [show m + 1 - k = (m - k) + 1 by omega, List.take_succ_eq_append_getElem (by rw [List.length_drop]; omega), List.getElem_drop]
  congr 2
  rw [List.getD_eq_getElem?_getD, List.getElem?_eq_getElem (by omega)]
  simp [show k + (m - k) = m by omega]
theorem Span.refl (p : Int → Bool) (xs : List Int) (k : Nat) : Span p xs k k := ⟨by simp, rfl, Nat.le_refl _⟩
theorem Span.step {p : Int → Bool} {xs : List Int} {k m : Nat} (h : Span p xs k m) (hm : m < xs.length) (hp : p (xs.getD m 0) = true) : Span p xs k (m + 1) := by
  have hd := drop_c hm
  refine ⟨?_, ?_, by have := h.le; omega⟩
  · rw [h.tw, take_step h.le hm, hd, List.takeWhile_cons, hp]; simp
  · rw [h.dw, hd, List.dropWhile_cons, hp]; simp
/-- the span as it ends -/
structure SpanE (p : Int → Bool) (xs : List Int) (k m : Nat) : Prop where
  tw : (xs.drop k).takeWhile p = (xs.drop k).take (m - k)
  dw : (xs.drop k).dropWhile p = xs.drop m
  le : k ≤ m
theorem Span.stop {p : Int → Bool} {xs : List Int} {k m : Nat} (h : Span p xs k m) (hm : m < xs.length) (hp : p (xs.getD m 0) = false) : SpanE p xs k m := by
  have hd := drop_c hm
  refine ⟨?_, ?_, h.le⟩
  · rw [h.tw, hd, List.takeWhile_cons, hp]; simp
  · rw [h.dw, hd, List.dropWhile_cons, hp]; simp
theorem Span.fin {p : Int → Bool} {xs : List Int} {k m : Nat} (h : Span p xs k m) (hm : xs.length ≤ m) : SpanE p xs k m := by
  have hd : xs.drop m = [] := List.drop_eq_nil_of_le hm
  refine ⟨?_, ?_, h.le⟩
  · rw [h.tw, hd]; simp
  · rw [h.dw, hd]; rfl
theorem SpanE.head {p : Int → Bool} {xs : List Int} {k m : Nat} (h : SpanE p xs (k + 1) m) (hk : k < xs.length) : xs.getD k 0 :: (xs.drop (k + 1)).takeWhile p = (xs.drop k).take (m - k) := by
  have := h.le
  rw [h.tw, drop_c hk, show m - k = (m - (k + 1)) + 1 by omega, List.take_succ_cons]
/-- the three ways in which an attribute ends -/
theorem attrAt_end {xs : List Int} {k j1 j2 : Nat} (hk : k < xs.length) (h1 : SpanE inAttr xs (k + 1) j1) (h2 : xs.drop j2 = (xs.drop j1).dropWhile blank) (hj : xs.length ≤ j2) : attrAt (xs.drop k) = ((small ((xs.drop k).take (j1 - k)), []), xs.drop j2) := by
  have e : ((xs.drop (k + 1)).dropWhile inAttr).dropWhile blank = [] := by rw [h1.dw, ← h2, List.drop_eq_nil_of_le hj]
  rw [← h1.head hk, drop_c hk, List.drop_eq_nil_of_le hj]
  simp only [attrAt, e]
theorem attrAt_other {xs : List Int} {k j1 j2 : Nat} (hk : k < xs.length) (h1 : SpanE inAttr xs (k + 1) j1) (h2 : xs.drop j2 = (xs.drop j1).dropWhile blank) (hj : j2 < xs.length) (hne : xs.getD j2 0 ≠ 61) : attrAt (xs.drop k) = ((small ((xs.drop k).take (j1 - k)), []), xs.drop j2) := by
  have e : ((xs.drop (k + 1)).dropWhile inAttr).dropWhile blank = xs.getD j2 0 :: xs.drop (j2 + 1) := by rw [h1.dw, ← h2, ← drop_c hj]
  rw [← h1.head hk, drop_c hk, drop_c hj]
  simp only [attrAt, e, if_neg hne]
theorem attrAt_val {xs : List Int} {k j1 j2 j3 : Nat} (hk : k < xs.length) (h1 : SpanE inAttr xs (k + 1) j1) (h2 : xs.drop j2 = (xs.drop j1).dropWhile blank) (hj : j2 < xs.length) (he : xs.getD j2 0 = 61) (h3 : xs.drop j3 = (xs.drop (j2 + 1)).dropWhile blank) :
    attrAt (xs.drop k) = ((small ((xs.drop k).take (j1 - k)), (valAt (xs.drop j3)).1), (valAt (xs.drop j3)).2) := by
  have e : ((xs.drop (k + 1)).dropWhile inAttr).dropWhile blank = 61 :: xs.drop (j2 + 1) := by rw [h1.dw, ← h2, drop_c hj, he]
  rw [← h1.head hk, drop_c hk]
  simp only [attrAt, e, if_true, h3]
/-- values in quotes and bare ones -/
theorem valAt_quoted {xs : List Int} {j j4 : Nat} (hj : j < xs.length) (hq : xs.getD j 0 = 34 ∨ xs.getD j 0 = 39) (h : SpanE (· != xs.getD j 0) xs (j + 1) j4) : valAt (xs.drop j) = (unesc (encB ((xs.drop (j + 1)).take (j4 - (j + 1)))), xs.drop (j4 + 1)) := by
  rw [drop_c hj]
  simp only [valAt, if_pos hq]
  rw [h.tw, h.dw, List.drop_drop]
theorem valAt_bare {xs : List Int} {j j4 : Nat} (hq : ¬ (j < xs.length ∧ (xs.getD j 0 = 34 ∨ xs.getD j 0 = 39))) (h : SpanE inBare xs j j4) : valAt (xs.drop j) = (unesc (encB ((xs.drop j).take (j4 - j))), xs.drop j4) := by
  rcases Nat.lt_or_ge j xs.length with hj | hj
  · rw [← h.tw, ← h.dw, drop_c hj]
    simp only [valAt, if_neg (fun e => hq ⟨hj, e⟩)]
  · have e : xs.drop j = [] := List.drop_eq_nil_of_le hj
    have h4 := h.dw
    have h5 := h.le
    rw [List.drop_eq_nil_of_le (show xs.length ≤ j4 by omega), e]
    simp [valAt, encB_nil, unesc_nil]
end Go.Proofs.Fk
namespace Go.Proofs.YtnpoipjnnlbnfaaDoor
set_option linter.unusedVariables false
open Go.RowKit Go.Proofs.Fm Go.Proofs.Fb Go.Proofs.Fk Go.Proofs.Fu

theorem span_go {p : Int → Bool} {xs : List Int} {n k m : Nat} (hn : xs.length = n) (h : Span p xs k m) (hb : (decide (m < n) && p (xs.getD m 0)) = true) : Span p xs k (m + 1) ∧ m < n := by
  simp only [Bool.and_eq_true, decide_eq_true_eq] at hb
  exact ⟨h.step (by omega) hb.2, hb.1⟩
theorem span_out {p : Int → Bool} {xs : List Int} {n k m : Nat} (hn : xs.length = n) (h : Span p xs k m) (hb : (decide (m < n) && p (xs.getD m 0)) = false) : SpanE p xs k m := by
  rcases Nat.lt_or_ge m n with hl | hl
  · exact h.stop (by omega) (by simpa [hl] using hb)
  · exact h.fin (by omega)
/-- The walk goes on in whatever world of which S holds. -/
theorem wp_gen {P : Program} {c : Code} {Q : Exit → Act → World → Prop} {a : Act} {w : World} (S : World → Prop) (hS : S w) (h : ∀ W, S W → c.wp P Q a W) : c.wp P Q a w := h _ hS
/-- two struct blocks, the first the result's -/
structure Two (w W : World) (g a : Nat) (x y : ByteArray) : Prop where
  bl : Below w.heap.size w W
  rb : Bk W g 29 #[.string ⟨#[]⟩, .string ⟨#[]⟩]
  ab : Bk W a 29 #[.string x, .string y]
  lo : w.heap.size ≤ g ∧ g < a
theorem Two.grow {w W W' : World} {g a : Nat} {x y : ByteArray} (h : Two w W g a x y) (hb : Below W.heap.size W W') : Two w W' g a x y :=
  ⟨h.bl.trans (hb.mono h.bl.size), h.rb.below hb h.rb.lt, h.ab.below hb h.ab.lt, h.lo⟩
theorem Two.drewN {w W : World} {g a : Nat} {x y : ByteArray} (h : Two w W g a x y) (q : Nat) : Two w (W.drewN q) g a x y :=
  ⟨below_drewN h.bl q, h.rb.drewN q, h.ab.drewN q, h.lo⟩
theorem Two.new {w W : World} (hb : Below w.heap.size w W) {g : Nat} (hg : w.heap.size ≤ g) (hr : Bk W g 29 #[.string ⟨#[]⟩, .string ⟨#[]⟩]) (s t : ByteArray) : Two w (W.alloc (.cells #[.string s, .string t] 29)) g W.heap.size s t :=
  ⟨hb.alloc hb.size _, hr.alloc _, Bk.new W 29 _, hg, hr.lt⟩
theorem Two.setv {w W : World} {g a : Nat} {x y : ByteArray} (h : Two w W g a x y) (z : ByteArray) : Two w (W.setCell ⟨a, 1, none⟩ (.string z)) g a x z := by
  have hl := h.lo
  refine ⟨h.bl.setCell (p := ⟨a, 1, none⟩) (by show w.heap.size ≤ a; omega) _, h.rb.far (p := ⟨a, 1, none⟩) (by show g ≠ a; omega) _, ?_, h.lo⟩
  simpa using h.ab.set_ 1 (.string z)
theorem attr_result {W : World} {g : Nat} {x y : ByteArray} {j : Int} (h : Bk W g 29 #[.string x, .string y]) (ts : Array Value) (ht : ts.getD 4 undef = .pointer (some ⟨g, 0, none⟩)) (hj : ts.getD 5 undef = .int .i64 j) :
    (results Tryd.f77 ts).run Tryd.prog W = .ok (.tuple #[.agg #[.string x, .string y], .int .i64 j]) W := by
  have c0 : W.cell? ⟨g, 0, none⟩ = some (.string x) := h.cell 0
  have c1 : W.cell? ⟨g, 1, none⟩ = some (.string y) := h.cell 1
  rw [results_cell_tmp Tryd.results77, ht, hj]
  simp [go_sem, c0, c1, Result.andThen]
theorem conv_sub {w : World} {b off : Nat} {xs : List Int} (h : Row w .i32 (some ⟨b, off, none⟩) xs) (hs : ∀ x ∈ xs, Scal x) (i j c : Nat) (hij : i ≤ j) (hj : j ≤ xs.length) :
    (convert 32 9 (.slice (some ⟨b, off + i, none⟩) (j - i) c)).run Tryd.prog w = .ok (.string ⟨(encB ((xs.drop i).take (j - i))).toArray⟩) w := by
  rw [← runes_scal _ (fun x hx => hs x (List.mem_of_mem_drop (List.mem_of_mem_take hx)))]
  exact run_runes (P := Tryd.prog) w 32 21 Tryd.underlying32 Tryd.underlying21 _ (j - i) c _ (by rw [List.length_take, List.length_drop]; omega) (row_sub h i (j - i)) 9 Tryd.underlying9
theorem conv_nil (w : World) (A : Option Addr) (c : Nat) : (convert 32 9 (.slice A 0 c)).run Tryd.prog w = .ok (.string ⟨#[]⟩) w :=
  run_runes (P := Tryd.prog) w 32 21 Tryd.underlying32 Tryd.underlying21 A 0 c [] rfl (Row.nil _ _ _) 9 Tryd.underlying9
theorem sub_size (xs : List Int) (i m : Nat) (h : xs.length ≤ 10000) : (⟨(encB ((xs.drop i).take m)).toArray⟩ : ByteArray).size ≤ 100000 := by
  show (encB ((xs.drop i).take m)).length ≤ _
  have h1 := encB_le ((xs.drop i).take m)
  rw [List.length_take, List.length_drop] at h1
  omega
theorem Two.fin {w W : World} {g a : Nat} {x y : ByteArray} (h : Two w W g a x y) (s t : ByteArray) : Bk ((W.setCell ⟨g, 0, none⟩ (.string s)).setCell ⟨g, 1, none⟩ (.string t)) g 29 #[.string s, .string t] ∧ Below w.heap.size w ((W.setCell ⟨g, 0, none⟩ (.string s)).setCell ⟨g, 1, none⟩ (.string t)) := by
  refine ⟨?_, (h.bl.setCell (p := ⟨g, 0, none⟩) h.lo.1 _).setCell (p := ⟨g, 1, none⟩) h.lo.1 _⟩
  have hh := (h.rb.set_ 0 (.string s)).set_ 1 (.string t)
  simpa using hh
def AttrOut (xs : List Int) (n k : Nat) (w : World) (e : Ending) (w' : World) : Prop :=
  (∃ (j : Nat) (nm av : Str), e = .returned (.tuple #[.agg #[.string ⟨nm.toArray⟩, .string ⟨av.toArray⟩], .int .i64 (j : Int)]) ∧ k < j ∧ j ≤ n ∧ attrAt (xs.drop k) = ((nm, av), xs.drop j)) ∧ Below w.heap.size w w'
set_option maxRecDepth 100000 in
set_option maxHeartbeats 4000000 in
theorem refAttr_any (A : Option Addr) (n c : Nat) (xs : List Int) (hn : xs.length = n) (hx : n ≤ 10000) (hnc : n ≤ c) (hs : ∀ x ∈ xs, Scal x) (hu : ∀ (s : ByteArray) (w : World), s.size ≤ 100000 → Calls Tryd.prog 26 #[.string s] w fun e w' => e = .returned (.string ⟨(Fe.unesc s.data.toList).toArray⟩) ∧ Below w.heap.size w w') (k : Nat) (hk : k < n) (w : World) (hr : Row w .i32 A xs) :
    Calls Tryd.prog 77 #[.slice A n c, .int .i64 (k : Int)] w (AttrOut xs n k w) := by
  have HR := Lib.hid hr
  have HS := Lib.hid hs
  have HU := Lib.hid hu
  clear hu
  obtain ⟨b, off, rfl, -⟩ := hr.at_ (i := k) (by omega)
  clear hr hs
  go_enter Tryd.func77, Tryd.ntmps77
  go_upto_region 3 with fail
  go_loopg [1] (n - k - 1) (fun gk i wr => ∃ m : Nat, m + gk = n ∧ k + 1 ≤ m ∧ i = .int .i64 (m : Int) ∧ Hid (Span inAttr xs (k + 1) m) ∧ Hid (Below w.heap.size w wr) ∧ Hid (Bk wr w.heap.size 29 #[.string ⟨#[]⟩, .string ⟨#[]⟩]))
  case atStart => exact ⟨k + 1, by omega, by omega, by go_num, Lib.hid (Span.refl _ _ _), Lib.hid ((Below.refl _ w).alloc (Nat.le_refl _) _), Lib.hid (Bk.new w 29 _)⟩
  case round =>
    obtain ⟨m, hm, hkm, rfl, hsp, hb, hbk⟩ := hrel
    obtain ⟨B, hB⟩ : ∃ B, (decide (m < n) && inAttr (xs.getD m 0)) = B := ⟨_, rfl⟩
    have HB := Lib.hid hB
    clear hB
    go_upto_region 3 with fail
    go_cut [45] (fun s wx => s = .bool B ∧ ∃ q, wx = wr.drewN q)
    case first =>
      by_cases hlt : m < n
      · have i1 : (m : Int) < (n : Int) := by omega
        obtain ⟨b', off', e0, hc⟩ := (HR.out.below hb.out (Nat.le_refl _)).at_ (i := m) (by omega)
        injection e0 with e0; injection e0 with e1 e2
        subst e1; subst e2
        have c1 := hc m (by omega)
        obtain ⟨u, hu⟩ : ∃ u, xs.getD m 0 = u := ⟨_, rfl⟩
        rw [hu] at c1
        have hBB := HB.out
        rw [hu, decide_eq_true hlt, Bool.true_and] at hBB
        have HBL := Lib.hid (fun W => refBlank_any u W)
        obtain ⟨L, hL⟩ : ∃ L, Fk.blank u = L := ⟨_, rfl⟩
        have hBC : Hid ((!L && u != 61 && u != 47 && u != 62) = B) := Lib.hid (by rw [← hBB, ← hL]; rfl)
        rw [hL] at HBL
        clear hc hu hBB hL
        cases L
        · rcases h61 : (u != 61) with _ | _
          · have hf : Hid (false = B) := Lib.hid (by rw [← hBC.out, h61]; rfl)
            go_wp2_with (go_at_call 75; refine (HBL.out _).mono ?_; rintro e w1 ⟨rfl, q1, rfl⟩)
            go_meet
            exact ⟨by rw [hf.out], q1, rfl⟩
          · rcases h47 : (u != 47) with _ | _
            · have hf : Hid (false = B) := Lib.hid (by rw [← hBC.out, h61, h47]; rfl)
              go_wp2_with (go_at_call 75; refine (HBL.out _).mono ?_; rintro e w1 ⟨rfl, q1, rfl⟩)
              go_meet
              exact ⟨by rw [hf.out], q1, rfl⟩
            · rcases h62 : (u != 62) with _ | _
              · have hf : Hid (false = B) := Lib.hid (by rw [← hBC.out, h61, h47, h62]; rfl)
                go_wp2_with (go_at_call 75; refine (HBL.out _).mono ?_; rintro e w1 ⟨rfl, q1, rfl⟩)
                go_meet
                exact ⟨by rw [hf.out], q1, rfl⟩
              · have hf : Hid (true = B) := Lib.hid (by rw [← hBC.out, h61, h47, h62]; rfl)
                go_wp2_with (go_at_call 75; refine (HBL.out _).mono ?_; rintro e w1 ⟨rfl, q1, rfl⟩)
                go_meet
                exact ⟨by rw [hf.out], q1, rfl⟩
        · have hf : Hid (false = B) := Lib.hid (by rw [← hBC.out]; rfl)
          go_wp2_with (go_at_call 75; refine (HBL.out _).mono ?_; rintro e w1 ⟨rfl, q1, rfl⟩)
          go_meet
          exact ⟨by rw [hf.out], q1, rfl⟩
      · have hf : Hid (false = B) := Lib.hid (by rw [← HB.out, decide_eq_false hlt]; rfl)
        go_wp2_with fail
        go_meet
        exact ⟨by rw [hf.out], 0, rfl⟩
    case rest =>
      obtain ⟨rfl, q, rfl⟩ := hcut
      cases B
      · have HE := Lib.hid (span_out hn hsp.out HB.out)
        obtain ⟨S, hS⟩ : ∃ S, Fk.small ((xs.drop k).take (m - k)) = S := ⟨_, rfl⟩
        have HSM : Hid (∀ W, Below w.heap.size w W → Calls Tryd.prog 76 #[.slice (some ⟨b, off + k, none⟩) (m - k) (c - k)] W fun e w' => e = .returned (.string ⟨S.toArray⟩) ∧ Below W.heap.size W w') := Lib.hid (fun W hW => by
          rw [← hS]
          exact refSmall_any _ (m - k) _ ((xs.drop k).take (m - k)) (by rw [List.length_take, List.length_drop]; omega) (by omega) (fun x hx => HS.out x (List.mem_of_mem_drop (List.mem_of_mem_take hx))) W (row_sub (HR.out.below hW (Nat.le_refl _)) k (m - k)))
        have HSS := Lib.hid hS
        have HW1 := Lib.hid (below_drewN hb.out q)
        have HK1 := Lib.hid (hbk.out.drewN q)
        have i1 : c - k ≠ 0 := by omega
        have hmn : m ≤ n := by omega
        clear HB hsp hS hb hbk hm
        go_upto_region 6 with (go_at_call 76; (with_reducible refine (HSM.out _ HW1.out).mono ?_); rintro e w2 ⟨rfl, hb2⟩; have HW2 := Lib.hid (HW1.out.trans (hb2.mono HW1.out.size)); have HK2 := Lib.hid (HK1.out.below hb2 HK1.out.lt); clear hb2)
        refine wp_gen (fun W => Two w W w.heap.size w2.heap.size ⟨S.toArray⟩ ⟨#[]⟩) (Two.new HW2.out (Nat.le_refl _) HK2.out _ _) ?_
        intro W3 h3
        have HT := Lib.hid h3
        clear HSM HW1 HK1 HW2 HK2 h3
        have HJ2 := Lib.hid (refBlanks_any (some ⟨b, off, none⟩) n c xs hn (by omega) m (by omega) W3 (HR.out.below HT.out.bl (Nat.le_refl _)))
        go_upto_region 7 with (go_at_call 92; (with_reducible refine (HJ2.out).mono ?_); rintro e w4 ⟨⟨j2, rfl, hj1, hj2, hj3⟩, q2, rfl⟩; have HT2 := Lib.hid (HT.out.drewN q2); have HX2 := Lib.hid hj3; clear hj3)
        refine wp_gen (fun W => Two w W w.heap.size w2.heap.size ⟨S.toArray⟩ ⟨#[]⟩) HT2.out ?_
        intro W4 h4
        have HT := Lib.hid h4
        clear HJ2 HT2 h4
        have hj2n : j2 ≤ n := by omega
        have d0 : W4.cell? ⟨w2.heap.size, 0, none⟩ = some (.string ⟨S.toArray⟩) := HT.out.ab.cell 0
        have d1 : W4.cell? ⟨w2.heap.size, 1, none⟩ = some (.string ⟨#[]⟩) := HT.out.ab.cell 1
        have f0 := HT.out.rb.frozen 0
        have f1 := HT.out.rb.frozen 1
        have g0 : W4.cell? ⟨w.heap.size, 0, none⟩ = some (.string ⟨#[]⟩) := HT.out.rb.cell 0
        have g1 : W4.cell? ⟨w.heap.size, 1, none⟩ = some (.string ⟨#[]⟩) := HT.out.rb.cell 1
        by_cases hj2l : n ≤ j2
        · have i2 : (n : Int) ≤ (j2 : Int) := by omega
          have HEND := Lib.hid (attrAt_end (by omega) HE.out HX2.out (by omega))
          rw [HSS.out] at HEND
          go_wp2_with fail
          obtain ⟨hfin, hbel⟩ := HT.out.fin ⟨S.toArray⟩ ⟨#[]⟩
          refine bodyPost_ret (attr_result hfin _ rfl rfl) rfl ?_
          exact ⟨⟨j2, S, [], rfl, by omega, by omega, HEND.out⟩, hbel⟩
        · have i2 : (j2 : Int) < (n : Int) := by omega
          obtain ⟨b', off', e0, hc⟩ := (HR.out.below HT.out.bl (Nat.le_refl _)).at_ (i := j2) (by omega)
          injection e0 with e0; injection e0 with e1 e2
          subst e1; subst e2
          have c1 := hc j2 (by omega)
          obtain ⟨v, hv⟩ : ∃ v, xs.getD j2 0 = v := ⟨_, rfl⟩
          rw [hv] at c1
          have HV := Lib.hid hv
          clear hc hv
          rcases h61 : (v != 61) with _ | _
          · have HV61 : Hid (v = 61) := Lib.hid (by simpa using h61)
            have HVAL := Lib.hid (fun j3 (h3 : xs.drop j3 = (xs.drop (j2 + 1)).dropWhile Fk.blank) => attrAt_val (k := k) (j1 := m) (j2 := j2) (j3 := j3) (by omega) HE.out HX2.out (by omega) (by rw [HV.out, HV61.out]) h3)
            rw [HSS.out] at HVAL
            clear HE HX2 HSS HV HV61
            have hj2m : j2 + 1 ≤ n := by omega
            have HJ3 := refBlanks_any (some ⟨b, off, none⟩) n c xs hn (by omega) (j2 + 1) (by omega) W4 (HR.out.below HT.out.bl (Nat.le_refl _))
            rw [show ((j2 + 1 : Nat) : Int) = (j2 : Int) + 1 by omega] at HJ3
            have HJ3 := Lib.hid HJ3
            go_upto_region 10 with (go_at_call 92; (with_reducible refine (HJ3.out).mono ?_); rintro e w5 ⟨⟨j3, rfl, h31, h32, h33⟩, q3, rfl⟩; have HT3 := Lib.hid (HT.out.drewN q3); have HX3 := Lib.hid (HVAL.out j3 h33); clear h33)
            refine wp_gen (fun W => Two w W w.heap.size w2.heap.size ⟨S.toArray⟩ ⟨#[]⟩) HT3.out ?_
            intro W5 h5
            have HT := Lib.hid h5
            clear HJ3 HT3 h5 HVAL d0 d1 f0 f1 g0 g1 c1
            have h3n : j3 ≤ n := by omega
            have h3k : k < j3 := by omega
            clear h31 h32 hj2m hj2 hj1 hj2n hj2l i2 h61 hkm hmn
            obtain ⟨Q, hQ⟩ : ∃ Q, (decide (j3 < n) && (xs.getD j3 0 == 34 || xs.getD j3 0 == 39)) = Q := ⟨_, rfl⟩
            have HQ := Lib.hid hQ
            clear hQ
            go_cut [91] (fun s wx => s = .bool Q ∧ ∃ q, wx = W5.drewN q)
            case first =>
              by_cases hlt : j3 < n
              · have i1 : (j3 : Int) < (n : Int) := by omega
                obtain ⟨b', off', e0, hc⟩ := (HR.out.below HT.out.bl (Nat.le_refl _)).at_ (i := j3) (by omega)
                injection e0 with e0; injection e0 with e1 e2
                subst e1; subst e2
                have c1 := hc j3 (by omega)
                obtain ⟨u, hu⟩ : ∃ u, xs.getD j3 0 = u := ⟨_, rfl⟩
                rw [hu] at c1
                have hQ := HQ.out
                rw [hu, decide_eq_true hlt, Bool.true_and] at hQ
                have HQ2 := Lib.hid hQ
                clear hc hu hQ
                rcases h34 : (u == 34) with _ | _
                · rcases h39 : (u == 39) with _ | _
                  · have hf : Hid (false = Q) := Lib.hid (by rw [← HQ2.out, h34, h39]; rfl)
                    go_wp2_with fail
                    go_meet
                    exact ⟨by rw [hf.out], 0, rfl⟩
                  · have hf : Hid (true = Q) := Lib.hid (by rw [← HQ2.out, h34, h39]; rfl)
                    go_wp2_with fail
                    go_meet
                    exact ⟨by rw [hf.out], 0, rfl⟩
                · have hf : Hid (true = Q) := Lib.hid (by rw [← HQ2.out, h34]; rfl)
                  go_wp2_with fail
                  go_meet
                  exact ⟨by rw [hf.out], 0, rfl⟩
              · have i1 : ¬ ((j3 : Int) < (n : Int)) := by omega
                have hf : Hid (false = Q) := Lib.hid (by rw [← HQ.out, decide_eq_false hlt]; rfl)
                go_wp2_with fail
                go_meet
                exact ⟨by rw [hf.out], 0, rfl⟩
            case rest =>
              obtain ⟨rfl, q5, rfl⟩ := hcut
              cases Q
              · have hnq : ¬ (j3 < xs.length ∧ (xs.getD j3 0 = 34 ∨ xs.getD j3 0 = 39)) := by
                  rintro ⟨h1, h2⟩
                  have h3 := HQ.out
                  rw [decide_eq_true (show j3 < n by omega), Bool.true_and] at h3
                  rcases h2 with h2 | h2 <;> rw [h2] at h3 <;> simp at h3
                have HBARE := Lib.hid (fun j4 (h : SpanE inBare xs j3 j4) => valAt_bare hnq h)
                clear hnq HQ
                go_upto_region 19 with fail
                go_loopg [1] (n - j3) (fun gk i wr => ∃ m2 : Nat, m2 + gk = n ∧ j3 ≤ m2 ∧ i = .int .i64 (m2 : Int) ∧ Hid (Span inBare xs j3 m2) ∧ Hid (Two w wr w.heap.size w2.heap.size ⟨S.toArray⟩ ⟨#[]⟩))
                case atStart => exact ⟨j3, by omega, by omega, rfl, Lib.hid (Span.refl _ _ _), Lib.hid (HT.out.drewN q5)⟩
                case round =>
                  obtain ⟨m2, hm2, hkm2, rfl, hsp, ht⟩ := hrel
                  obtain ⟨B, hB⟩ : ∃ B, (decide (m2 < n) && inBare (xs.getD m2 0)) = B := ⟨_, rfl⟩
                  have HB := Lib.hid hB
                  clear hB
                  go_upto_region 19 with fail
                  go_cut [146] (fun s wx => s = .bool B ∧ ∃ q, wx = wr.drewN q)
                  case first =>
                    by_cases hlt : m2 < n
                    · have i1 : (m2 : Int) < (n : Int) := by omega
                      obtain ⟨b', off', e0, hc⟩ := (HR.out.below ht.out.bl (Nat.le_refl _)).at_ (i := m2) (by omega)
                      injection e0 with e0; injection e0 with e1 e2
                      subst e1; subst e2
                      have c1 := hc m2 (by omega)
                      obtain ⟨u, hu⟩ : ∃ u, xs.getD m2 0 = u := ⟨_, rfl⟩
                      rw [hu] at c1
                      have hBB := HB.out
                      rw [hu, decide_eq_true hlt, Bool.true_and] at hBB
                      have HBL := Lib.hid (fun W => refBlank_any u W)
                      obtain ⟨L, hL⟩ : ∃ L, Fk.blank u = L := ⟨_, rfl⟩
                      have hBC : Hid ((!L && u != 62) = B) := Lib.hid (by rw [← hBB, ← hL]; rfl)
                      rw [hL] at HBL
                      clear hc hu hBB hL
                      cases L
                      · rcases h62 : (u != 62) with _ | _
                        · have hf : Hid (false = B) := Lib.hid (by rw [← hBC.out, h62]; rfl)
                          go_wp2_with (go_at_call 75; refine (HBL.out _).mono ?_; rintro e w1 ⟨rfl, q1, rfl⟩)
                          go_meet
                          exact ⟨by rw [hf.out], q1, rfl⟩
                        · have hf : Hid (true = B) := Lib.hid (by rw [← hBC.out, h62]; rfl)
                          go_wp2_with (go_at_call 75; refine (HBL.out _).mono ?_; rintro e w1 ⟨rfl, q1, rfl⟩)
                          go_meet
                          exact ⟨by rw [hf.out], q1, rfl⟩
                      · have hf : Hid (false = B) := Lib.hid (by rw [← hBC.out]; rfl)
                        go_wp2_with (go_at_call 75; refine (HBL.out _).mono ?_; rintro e w1 ⟨rfl, q1, rfl⟩)
                        go_meet
                        exact ⟨by rw [hf.out], q1, rfl⟩
                    · have hf : Hid (false = B) := Lib.hid (by rw [← HB.out, decide_eq_false hlt]; rfl)
                      go_wp2_with fail
                      go_meet
                      exact ⟨by rw [hf.out], 0, rfl⟩
                  case rest =>
                    obtain ⟨rfl, q, rfl⟩ := hcut
                    cases B
                    · have HE2 := Lib.hid (HBARE.out _ (span_out hn hsp.out HB.out))
                      have hx3 := HX3.out
                      rw [HE2.out] at hx3
                      have HX4 := Lib.hid hx3
                      have HT4 := Lib.hid (ht.out.drewN q)
                      clear HB hsp HBARE HE2 hx3 HX3 ht
                      have hm2n : m2 ≤ n := by omega
                      by_cases hcj : c = j3
                      · have hm3 : m2 = j3 := by omega
                        subst hm3
                        have i1 : c - m2 = 0 := by omega
                        have i3 : m2 - m2 = 0 := by omega
                        have hcv := fun W => conv_nil W (some ⟨b, off, none⟩) 0
                        clear hcj
                        have hx4 := HX4.out
                        rw [Nat.sub_self, List.take_zero] at hx4
                        have hsz : (⟨(([] : Str)).toArray⟩ : ByteArray).size ≤ 100000 := by decide
                        obtain ⟨T, hT⟩ : ∃ T : Str, [] = T := ⟨_, rfl⟩
                        have hcv2 : ∀ W, (convert 32 9 (.slice (some ⟨b, off, none⟩) 0 0)).run Tryd.prog W = .ok (.string ⟨T.toArray⟩) W := fun W => by rw [← hT]; exact hcv W
                        rw [show encB [] = T from hT] at hx4
                        rw [hT] at hsz
                        have HX4 := Lib.hid hx4
                        clear hcv hx4 hT
                        have HUT : Hid (∀ W, Calls Tryd.prog 26 #[.string ⟨T.toArray⟩] W fun e w' => e = .returned (.string ⟨(Fe.unesc T).toArray⟩) ∧ Below W.heap.size W w') := Lib.hid (fun W => HU.out ⟨T.toArray⟩ W hsz)
                        obtain ⟨V, hV⟩ : ∃ V, Fe.unesc T = V := ⟨_, rfl⟩
                        rw [hV] at HUT HX4
                        clear hV hsz
                        go_wp2_with (go_at_call 26; (with_reducible refine (HUT.out _).mono ?_); rintro e w6 ⟨rfl, h6⟩; have HT5 := Lib.hid (HT4.out.grow h6); clear h6; have d0 : w6.cell? ⟨w2.heap.size, 0, none⟩ = some (.string ⟨S.toArray⟩) := HT5.out.ab.cell 0; have d1 : w6.cell? ⟨w2.heap.size, 1, none⟩ = some (.string ⟨#[]⟩) := HT5.out.ab.cell 1; have f0 := HT5.out.rb.frozen 0; have f1 := HT5.out.rb.frozen 1; have e1 := HT5.out.ab.frozen 1; have g0 : w6.cell? ⟨w.heap.size, 0, none⟩ = some (.string ⟨#[]⟩) := HT5.out.rb.cell 0; have g1 : w6.cell? ⟨w.heap.size, 1, none⟩ = some (.string ⟨#[]⟩) := HT5.out.rb.cell 1; have hne : (w.heap.size = w2.heap.size) = False := eq_false (Nat.ne_of_lt HT5.out.lo.2); have hne2 : (w2.heap.size = w.heap.size) = False := eq_false (Nat.ne_of_gt HT5.out.lo.2))
                        obtain ⟨hfin, hbel⟩ := (HT5.out.setv ⟨V.toArray⟩).fin ⟨S.toArray⟩ ⟨V.toArray⟩
                        refine bodyPost_ret (attr_result hfin _ rfl rfl) rfl ?_
                        exact ⟨⟨m2, S, V, rfl, by omega, by omega, HX4.out⟩, hbel⟩
                      · have i1 : c - j3 ≠ 0 := by omega
                        have hcv := fun W (h : Below w.heap.size w W) => conv_sub (HR.out.below h (Nat.le_refl _)) HS.out j3 m2 (c - j3) hkm2 (by omega)
                        have hcv2 := hcv _ HT4.out.bl
                        have hsz := sub_size xs j3 (m2 - j3) (by omega)
                        obtain ⟨T, hT⟩ : ∃ T, encB (List.take (m2 - j3) (List.drop j3 xs)) = T := ⟨_, rfl⟩
                        rw [hT] at hcv2 hsz HX4
                        clear hcv hT
                        have HUT : Hid (∀ W, Calls Tryd.prog 26 #[.string ⟨T.toArray⟩] W fun e w' => e = .returned (.string ⟨(Fe.unesc T).toArray⟩) ∧ Below W.heap.size W w') := Lib.hid (fun W => HU.out ⟨T.toArray⟩ W hsz)
                        obtain ⟨V, hV⟩ : ∃ V, Fe.unesc T = V := ⟨_, rfl⟩
                        rw [hV] at HUT HX4
                        clear hV hsz
                        go_wp2_with (go_at_call 26; (with_reducible refine (HUT.out _).mono ?_); rintro e w6 ⟨rfl, h6⟩; have HT5 := Lib.hid (HT4.out.grow h6); clear h6; have d0 : w6.cell? ⟨w2.heap.size, 0, none⟩ = some (.string ⟨S.toArray⟩) := HT5.out.ab.cell 0; have d1 : w6.cell? ⟨w2.heap.size, 1, none⟩ = some (.string ⟨#[]⟩) := HT5.out.ab.cell 1; have f0 := HT5.out.rb.frozen 0; have f1 := HT5.out.rb.frozen 1; have e1 := HT5.out.ab.frozen 1; have g0 : w6.cell? ⟨w.heap.size, 0, none⟩ = some (.string ⟨#[]⟩) := HT5.out.rb.cell 0; have g1 : w6.cell? ⟨w.heap.size, 1, none⟩ = some (.string ⟨#[]⟩) := HT5.out.rb.cell 1; have hne : (w.heap.size = w2.heap.size) = False := eq_false (Nat.ne_of_lt HT5.out.lo.2); have hne2 : (w2.heap.size = w.heap.size) = False := eq_false (Nat.ne_of_gt HT5.out.lo.2))
                        obtain ⟨hfin, hbel⟩ := (HT5.out.setv ⟨V.toArray⟩).fin ⟨S.toArray⟩ ⟨V.toArray⟩
                        refine bodyPost_ret (attr_result hfin _ rfl rfl) rfl ?_
                        exact ⟨⟨m2, S, V, rfl, by omega, by omega, HX4.out⟩, hbel⟩
                    · obtain ⟨hsp2, hlt⟩ := span_go hn hsp.out HB.out
                      have HSP := Lib.hid hsp2
                      clear HB hsp hsp2
                      go_wp2_with fail
                      go_roundg (gk - 1)
                      case measure => omega
                      case rel => exact ⟨m2 + 1, by omega, by omega, by go_num, HSP, Lib.hid (ht.out.drewN q)⟩
              · have hq2 : j3 < n ∧ (xs.getD j3 0 = 34 ∨ xs.getD j3 0 = 39) := by
                  have h3 := HQ.out
                  simp only [Bool.and_eq_true, Bool.or_eq_true, decide_eq_true_eq, beq_iff_eq] at h3
                  exact h3
                obtain ⟨hj3n, hq34⟩ := hq2
                have HQUO := Lib.hid (fun j4 (h : SpanE (· != xs.getD j3 0) xs (j3 + 1) j4) => valAt_quoted (show j3 < xs.length by omega) hq34 h)
                obtain ⟨u0, hu0⟩ : ∃ u0, xs.getD j3 0 = u0 := ⟨_, rfl⟩
                rw [hu0] at HQUO
                have HU0 := Lib.hid hu0
                clear HQ hq34 hu0
                go_upto_region 12 with fail
                go_loopg [9] (n - (j3 + 1)) (fun gk i wr => ∃ m2 : Nat, m2 + gk = n ∧ j3 + 1 ≤ m2 ∧ i = .int .i64 (m2 : Int) ∧ Hid (Span (· != u0) xs (j3 + 1) m2) ∧ Hid (Two w wr w.heap.size w2.heap.size ⟨S.toArray⟩ ⟨#[]⟩))
                case atStart => exact ⟨j3 + 1, by omega, by omega, by go_num, Lib.hid (Span.refl _ _ _), Lib.hid (HT.out.drewN q5)⟩
                case round =>
                  obtain ⟨m2, hm2, hkm2, rfl, hsp, ht⟩ := hrel
                  obtain ⟨B, hB⟩ : ∃ B, (decide (m2 < n) && (xs.getD m2 0 != u0)) = B := ⟨_, rfl⟩
                  have HB := Lib.hid hB
                  clear hB
                  go_upto_region 12 with fail
                  go_cut [108] (fun s wx => s = .bool B ∧ ∃ q, wx = wr.drewN q)
                  case first =>
                    by_cases hlt : m2 < n
                    · have i1 : (m2 : Int) < (n : Int) := by omega
                      have i2 : (j3 : Int) < (n : Int) := by omega
                      obtain ⟨b', off', e0, hc⟩ := (HR.out.below ht.out.bl (Nat.le_refl _)).at_ (i := m2) (by omega)
                      injection e0 with e0; injection e0 with e1 e2
                      subst e1; subst e2
                      have c1 := hc m2 (by omega)
                      have c2 := hc j3 (by omega)
                      obtain ⟨u, hu⟩ : ∃ u, xs.getD m2 0 = u := ⟨_, rfl⟩
                      rw [hu] at c1
                      rw [HU0.out] at c2
                      have hBB := HB.out
                      rw [hu, decide_eq_true hlt, Bool.true_and] at hBB
                      have hBC : Hid ((u != u0) = B) := Lib.hid hBB
                      clear hc hu hBB
                      rcases h62 : (u != u0) with _ | _
                      · have hf : Hid (false = B) := Lib.hid (by rw [← hBC.out, h62])
                        go_quiet (fail)
                        go_wp2_with fail
                        go_meet
                        exact ⟨by rw [hf.out], nq, rfl⟩
                      · have hf : Hid (true = B) := Lib.hid (by rw [← hBC.out, h62])
                        go_quiet (fail)
                        go_wp2_with fail
                        go_meet
                        exact ⟨by rw [hf.out], nq, rfl⟩
                    · have i1 : ¬ ((m2 : Int) < (n : Int)) := by omega
                      have i2 : decide ((m2 : Int) < (n : Int)) = false := decide_eq_false i1
                      have hf : Hid (false = B) := Lib.hid (by rw [← HB.out, decide_eq_false hlt]; rfl)
                      go_quiet (fail)
                      go_wp2_with fail
                      go_meet
                      exact ⟨by rw [hf.out], nq, rfl⟩
                  case rest =>
                    obtain ⟨rfl, q, rfl⟩ := hcut
                    cases B
                    · have HE2 := Lib.hid (HQUO.out _ (span_out hn hsp.out HB.out))
                      have hx3 := HX3.out
                      rw [HE2.out] at hx3
                      have HX4 := Lib.hid hx3
                      have HT4 := Lib.hid (ht.out.drewN q)
                      clear HB hsp HQUO HE2 hx3 HX3 ht HU0
                      have hm2n : m2 ≤ n := by omega
                      by_cases hcj : c = j3 + 1
                      · have hm3 : m2 = j3 + 1 := by omega
                        have i0 : ¬ ((m2 : Int) < (n : Int)) := by omega
                        have hnm : m2 = n := by omega
                        have i1 : c - (j3 + 1) = 0 := by omega
                        have i3 : m2 - (j3 + 1) = 0 := by omega
                        have hcv := fun W => conv_nil W (some ⟨b, off, none⟩) 0
                        have hx4 := HX4.out
                        rw [i3, List.take_zero, show xs.drop (m2 + 1) = xs.drop m2 by rw [List.drop_eq_nil_of_le (by omega), List.drop_eq_nil_of_le (by omega)]] at hx4
                        have hsz : (⟨(([] : Str)).toArray⟩ : ByteArray).size ≤ 100000 := by decide
                        obtain ⟨T, hT⟩ : ∃ T : Str, [] = T := ⟨_, rfl⟩
                        have hcv2 : ∀ W, (convert 32 9 (.slice (some ⟨b, off, none⟩) 0 0)).run Tryd.prog W = .ok (.string ⟨T.toArray⟩) W := fun W => by rw [← hT]; exact hcv W
                        rw [show encB [] = T from hT] at hx4
                        rw [hT] at hsz
                        have HX4 := Lib.hid hx4
                        have HM3 := Lib.hid hm3
                        clear hcv hx4 hT hcj hnm hm3
                        have HUT : Hid (∀ W, Calls Tryd.prog 26 #[.string ⟨T.toArray⟩] W fun e w' => e = .returned (.string ⟨(Fe.unesc T).toArray⟩) ∧ Below W.heap.size W w') := Lib.hid (fun W => HU.out ⟨T.toArray⟩ W hsz)
                        obtain ⟨V, hV⟩ : ∃ V, Fe.unesc T = V := ⟨_, rfl⟩
                        rw [hV] at HUT HX4
                        clear hV hsz
                        go_wp2_with (go_at_call 26; (with_reducible refine (HUT.out _).mono ?_); rintro e w6 ⟨rfl, h6⟩; have HT5 := Lib.hid (HT4.out.grow h6); clear h6; have d0 : w6.cell? ⟨w2.heap.size, 0, none⟩ = some (.string ⟨S.toArray⟩) := HT5.out.ab.cell 0; have d1 : w6.cell? ⟨w2.heap.size, 1, none⟩ = some (.string ⟨#[]⟩) := HT5.out.ab.cell 1; have f0 := HT5.out.rb.frozen 0; have f1 := HT5.out.rb.frozen 1; have e1 := HT5.out.ab.frozen 1; have g0 : w6.cell? ⟨w.heap.size, 0, none⟩ = some (.string ⟨#[]⟩) := HT5.out.rb.cell 0; have g1 : w6.cell? ⟨w.heap.size, 1, none⟩ = some (.string ⟨#[]⟩) := HT5.out.rb.cell 1; have hne : (w.heap.size = w2.heap.size) = False := eq_false (Nat.ne_of_lt HT5.out.lo.2); have hne2 : (w2.heap.size = w.heap.size) = False := eq_false (Nat.ne_of_gt HT5.out.lo.2))
                        obtain ⟨hfin, hbel⟩ := (HT5.out.setv ⟨V.toArray⟩).fin ⟨S.toArray⟩ ⟨V.toArray⟩
                        refine bodyPost_ret (attr_result hfin _ rfl rfl) rfl ?_
                        exact ⟨⟨m2, S, V, rfl, by omega, by omega, HX4.out⟩, hbel⟩
                      · have i1 : c - (j3 + 1) ≠ 0 := by omega
                        have hcv := fun W (h : Below w.heap.size w W) => conv_sub (HR.out.below h (Nat.le_refl _)) HS.out (j3 + 1) m2 (c - (j3 + 1)) hkm2 (by omega)
                        have hcv2 := hcv _ HT4.out.bl
                        have hsz := sub_size xs (j3 + 1) (m2 - (j3 + 1)) (by omega)
                        obtain ⟨T, hT⟩ : ∃ T, encB (List.take (m2 - (j3 + 1)) (List.drop (j3 + 1) xs)) = T := ⟨_, rfl⟩
                        rw [hT] at hcv2 hsz HX4
                        clear hcv hT
                        by_cases hl2 : m2 < n
                        · have i0 : (m2 : Int) < (n : Int) := by omega
                          have HUT : Hid (∀ W, Calls Tryd.prog 26 #[.string ⟨T.toArray⟩] W fun e w' => e = .returned (.string ⟨(Fe.unesc T).toArray⟩) ∧ Below W.heap.size W w') := Lib.hid (fun W => HU.out ⟨T.toArray⟩ W hsz)
                          obtain ⟨V, hV⟩ : ∃ V, Fe.unesc T = V := ⟨_, rfl⟩
                          rw [hV] at HUT HX4
                          clear hV hsz
                          go_wp2_with (go_at_call 26; (with_reducible refine (HUT.out _).mono ?_); rintro e w6 ⟨rfl, h6⟩; have HT5 := Lib.hid (HT4.out.grow h6); clear h6; have d0 : w6.cell? ⟨w2.heap.size, 0, none⟩ = some (.string ⟨S.toArray⟩) := HT5.out.ab.cell 0; have d1 : w6.cell? ⟨w2.heap.size, 1, none⟩ = some (.string ⟨#[]⟩) := HT5.out.ab.cell 1; have f0 := HT5.out.rb.frozen 0; have f1 := HT5.out.rb.frozen 1; have e1 := HT5.out.ab.frozen 1; have g0 : w6.cell? ⟨w.heap.size, 0, none⟩ = some (.string ⟨#[]⟩) := HT5.out.rb.cell 0; have g1 : w6.cell? ⟨w.heap.size, 1, none⟩ = some (.string ⟨#[]⟩) := HT5.out.rb.cell 1; have hne : (w.heap.size = w2.heap.size) = False := eq_false (Nat.ne_of_lt HT5.out.lo.2); have hne2 : (w2.heap.size = w.heap.size) = False := eq_false (Nat.ne_of_gt HT5.out.lo.2))
                          obtain ⟨hfin, hbel⟩ := (HT5.out.setv ⟨V.toArray⟩).fin ⟨S.toArray⟩ ⟨V.toArray⟩
                          refine bodyPost_ret (attr_result hfin _ rfl rfl) rfl ?_
                          exact ⟨⟨m2 + 1, S, V, by go_num, by omega, by omega, HX4.out⟩, hbel⟩
                        · have i0 : ¬ ((m2 : Int) < (n : Int)) := by omega
                          have hx4 := HX4.out
                          rw [show xs.drop (m2 + 1) = xs.drop m2 by rw [List.drop_eq_nil_of_le (by omega), List.drop_eq_nil_of_le (by omega)]] at hx4
                          have HX4 := Lib.hid hx4
                          clear hx4
                          have HUT : Hid (∀ W, Calls Tryd.prog 26 #[.string ⟨T.toArray⟩] W fun e w' => e = .returned (.string ⟨(Fe.unesc T).toArray⟩) ∧ Below W.heap.size W w') := Lib.hid (fun W => HU.out ⟨T.toArray⟩ W hsz)
                          obtain ⟨V, hV⟩ : ∃ V, Fe.unesc T = V := ⟨_, rfl⟩
                          rw [hV] at HUT HX4
                          clear hV hsz
                          go_wp2_with (go_at_call 26; (with_reducible refine (HUT.out _).mono ?_); rintro e w6 ⟨rfl, h6⟩; have HT5 := Lib.hid (HT4.out.grow h6); clear h6; have d0 : w6.cell? ⟨w2.heap.size, 0, none⟩ = some (.string ⟨S.toArray⟩) := HT5.out.ab.cell 0; have d1 : w6.cell? ⟨w2.heap.size, 1, none⟩ = some (.string ⟨#[]⟩) := HT5.out.ab.cell 1; have f0 := HT5.out.rb.frozen 0; have f1 := HT5.out.rb.frozen 1; have e1 := HT5.out.ab.frozen 1; have g0 : w6.cell? ⟨w.heap.size, 0, none⟩ = some (.string ⟨#[]⟩) := HT5.out.rb.cell 0; have g1 : w6.cell? ⟨w.heap.size, 1, none⟩ = some (.string ⟨#[]⟩) := HT5.out.rb.cell 1; have hne : (w.heap.size = w2.heap.size) = False := eq_false (Nat.ne_of_lt HT5.out.lo.2); have hne2 : (w2.heap.size = w.heap.size) = False := eq_false (Nat.ne_of_gt HT5.out.lo.2))
                          obtain ⟨hfin, hbel⟩ := (HT5.out.setv ⟨V.toArray⟩).fin ⟨S.toArray⟩ ⟨V.toArray⟩
                          refine bodyPost_ret (attr_result hfin _ rfl rfl) rfl ?_
                          exact ⟨⟨m2, S, V, rfl, by omega, by omega, HX4.out⟩, hbel⟩
                    · obtain ⟨hsp2, hlt⟩ := span_go hn hsp.out HB.out
                      have HSP := Lib.hid hsp2
                      clear HB hsp hsp2
                      go_wp2_with fail
                      go_roundg (gk - 1)
                      case measure => omega
                      case rel => exact ⟨m2 + 1, by omega, by omega, by go_num, HSP, Lib.hid (ht.out.drewN q)⟩
          · have HEND := Lib.hid (attrAt_other (k := k) (j1 := m) (by omega) HE.out HX2.out (by omega) (by rw [HV.out]; simpa using h61))
            rw [HSS.out] at HEND
            go_wp2_with fail
            obtain ⟨hfin, hbel⟩ := HT.out.fin ⟨S.toArray⟩ ⟨#[]⟩
            refine bodyPost_ret (attr_result hfin _ rfl rfl) rfl ?_
            exact ⟨⟨j2, S, [], rfl, by omega, by omega, HEND.out⟩, hbel⟩
      · obtain ⟨hsp2, hlt⟩ := span_go hn hsp.out HB.out
        have HSP := Lib.hid hsp2
        clear HB hsp hsp2
        go_wp2_with fail
        go_roundg (gk - 1)
        case measure => omega
        case rel => exact ⟨m + 1, by omega, by omega, by go_num, HSP, Lib.hid (below_drewN hb.out q), Lib.hid (hbk.out.drewN q)⟩
end Go.Proofs.YtnpoipjnnlbnfaaDoor
