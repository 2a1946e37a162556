/- casementref4's Tokens, by place in the list: what is known of the world, and the mathematics of its steps. No conditions but that the list is not endless. casementref4's Tokens, by place in the list. Conditions: the list is not endless, its runes are scalar values; what Unescape answers is known. -/
import Derived.Test.YtnpoipjnnlbnfaaDoorXm
import Derived.Test.YtnpoipjnnlbnfaaDoorVo
namespace Go.Proofs.YtnpoipjnnlbnfaaDoor
set_option linter.unusedVariables false
open Go.RowKit Go.Proofs.Fm Go.Proofs.Fb Go.Proofs.Fk Go.Proofs.Fu

theorem refTokInfo : (Tryd.prog.info? 25).map (fun i => (i.zero, i.size, i.bytes)) = some (some (.agg #[.int .i64 0, .string ⟨#[]⟩, .string ⟨#[]⟩, .slice none 0 0, .bool false]), 5, 72) := by kernel_rfl
/-- chars from k up to m -/
structure ChS (xs : List Int) (k m : Nat) : Prop where
  eq : Fk.chars (xs.drop k) = ((xs.drop k).take (m - k) ++ (Fk.chars (xs.drop m)).1, (Fk.chars (xs.drop m)).2)
  le : k ≤ m
theorem ChS.refl (xs : List Int) (k : Nat) : ChS xs k k := ⟨by simp, Nat.le_refl _⟩
theorem ChS.step {xs : List Int} {k m : Nat} (h : ChS xs k m) (hm : m < xs.length) (hb : Fk.begins (xs.drop m) = false) : ChS xs k (m + 1) := by
  have hd := drop_c hm
  refine ⟨?_, by have := h.le; omega⟩
  have e : Fk.chars (xs.drop m) = (xs.getD m 0 :: (Fk.chars (xs.drop (m + 1))).1, (Fk.chars (xs.drop (m + 1))).2) := by
    rw [hd] at hb ⊢
    rw [Fk.chars, if_neg (by rw [hb]; exact Bool.false_ne_true)]
  rw [h.eq, e, Fk.take_step h.le hm]; simp
theorem ChS.stop {xs : List Int} {k m : Nat} (h : ChS xs k m) (hb : Fk.begins (xs.drop m) = true) : Fk.chars (xs.drop k) = ((xs.drop k).take (m - k), xs.drop m) := by
  have e : Fk.chars (xs.drop m) = ([], xs.drop m) := by
    rcases hx : xs.drop m with _ | ⟨r, t⟩
    · rw [hx] at hb; simp [Fk.begins] at hb
    · rw [hx] at hb; rw [Fk.chars, if_pos hb]
  rw [h.eq, e]; simp
theorem ChS.fin {xs : List Int} {k m : Nat} (h : ChS xs k m) (hm : xs.length ≤ m) : Fk.chars (xs.drop k) = ((xs.drop k).take (m - k), xs.drop m) := by
  have e : xs.drop m = [] := List.drop_eq_nil_of_le hm
  rw [h.eq, e]; simp [Fk.chars]
theorem chars_go {xs : List Int} {n k m : Nat} (hn : xs.length = n) (h : ChS xs k m) (hb : (decide (m < n) && !Fk.begins (xs.drop m)) = true) : ChS xs k (m + 1) ∧ m < n := by
  simp only [Bool.and_eq_true, decide_eq_true_eq, Bool.not_eq_true'] at hb
  exact ⟨h.step (by omega) hb.2, hb.1⟩
theorem chars_out {xs : List Int} {n k m : Nat} (hn : xs.length = n) (h : ChS xs k m) (hb : (decide (m < n) && !Fk.begins (xs.drop m)) = false) : Fk.chars (xs.drop k) = ((xs.drop k).take (m - k), xs.drop m) := by
  rcases Nat.lt_or_ge m n with hl | hl
  · exact h.stop (by simpa [hl] using hb)
  · exact h.fin (by omega)
/-- what the reference's cutting knows of the world -/
structure Tr (w W : World) (V : Value) (ts : List (Tok × Value)) : Prop where
  bl : Below w.heap.size w W
  row : W.ownsRow w.heap.size 25 5 V ts.length (tokCells ts)
  each : ∀ p ∈ ts, W.ownsRow w.heap.size 29 2 p.2 p.1.attrs.length (attrCells p.1.attrs)
section
variable {w W W' : World} {V : Value} {ts : List (Tok × Value)}
theorem Tr.grow (h : Tr w W V ts) (hb : Below W.heap.size W W') : Tr w W' V ts :=
  ⟨h.bl.trans (hb.mono h.bl.size), own_below h.row hb (fun g hg => (h.row.lt _ hg).2), fun p hp => own_below (h.each p hp) hb (fun g hg => ((h.each p hp).lt _ hg).2)⟩
theorem Tr.drewN (h : Tr w W V ts) (q : Nat) : Tr w (W.drewN q) V ts := ⟨below_drewN h.bl q, h.row, h.each⟩
theorem Tr.far (h : Tr w W V ts) {t : Nat} {cs : Array Value} (ht : Bk W t 25 cs) (hlo : w.heap.size ≤ t) (hne : V.ownBlock ≠ some t) (i : Nat) (u : Value) : Tr w (W.setCell ⟨t, i, none⟩ u) V ts :=
  ⟨h.bl.setCell (p := ⟨t, i, none⟩) hlo _, ownsRow_setCell_other h.row hne _, fun p hp => ownsRow_setCell_other (h.each p hp) (own_ne (h.each p hp) ht (by decide)) _⟩
theorem Tr.add (h : Tr w W V ts) (x : Tok) (v : Value) {V2 : Value} (hv : W.ownsRow w.heap.size 29 2 v x.attrs.length (attrCells x.attrs))
    (ho : W'.ownsRow w.heap.size 25 5 V2 (ts.length + 1) (tokCells ts ++ [.int .i64 (x.kind : Int), str x.name, str x.text, v, .bool x.closed])) (hg : W.grownBy W' V.ownBlock) : Tr w W' V2 (ts ++ [(x, v)]) := by
  have hlow : ∀ k, V.ownBlock = some k → w.heap.size ≤ k := fun k hk => (h.row.lt _ hk).1
  have hne : ∀ (p : Value) (n : Nat) (xs : List Value), W.ownsRow w.heap.size 29 2 p n xs → W'.ownsRow w.heap.size 29 2 p n xs := fun p n xs hp => by
    rcases own_own h.row hp (by decide) with e | e
    · exact hp.kept hg (by
        rcases hpo : p.ownBlock with _ | k
        · exact .inl rfl
        · right; rw [e]; simp)
    · exact hp.kept hg (.inr (fun e2 => e e2.symm))
  refine ⟨h.bl.grown hg h.bl.size hlow, ?_, ?_⟩
  · rw [List.length_append, tokCells_append]; exact ho
  · intro p hp
    rcases List.mem_append.1 hp with hp | hp
    · exact hne _ _ _ (h.each p hp)
    · rw [List.mem_singleton.1 hp]; exact hne _ _ _ hv
end
theorem Tr.reads {w W : World} {A : Option Addr} {n c : Nat} {ts : List (Tok × Value)} (h : Tr w W (.slice A n c) ts) : TRow W A (ts.map (·.1)) ∧ ts.length = n := by
  obtain ⟨A0, c0, he, _, _⟩ := own_slice h.row
  have hn : ts.length = n := by injection he with _ e _; exact e.symm
  refine ⟨fun hx => ?_, hn⟩
  have hl : 0 < ts.length := by
    rcases ts with _ | ⟨a, t⟩
    · exact absurd rfl hx
    · simp
  obtain ⟨g, cap, hv, _, _⟩ := h.row.form hl
  injection hv with e1 _ e3
  subst e1
  refine ⟨g, 0, rfl, fun i hi => ?_⟩
  have hi' : i < ts.length := by simpa using hi
  obtain ⟨h0, h1, h2, h3, h4⟩ := tokCells_get ts i hi'
  have ce : ∀ j u, (tokCells ts)[j]? = some u → W.cell? ⟨g, j, none⟩ = some u := fun j u hu => by
    have := h.row.cells (g := g) rfl j u hu
    rwa [add_zero_addr] at this
  have hm := h.each _ (List.getElem_mem hi')
  obtain ⟨A', c', hv', _, _⟩ := own_slice hm
  refine ⟨A', c', ?_⟩
  simp only [List.getElem_map, Nat.zero_add]
  refine ⟨ce _ _ h0, ce _ _ h1, ce _ _ h2, ?_, ce _ _ h4, ?_⟩
  · rw [← hv']; exact ce _ _ h3
  · rw [hv'] at hm
    exact ARow.of_own hm rfl
end Go.Proofs.YtnpoipjnnlbnfaaDoor
namespace Go.Proofs.YtnpoipjnnlbnfaaDoor
set_option linter.unusedVariables false
open Go.RowKit Go.Proofs.Fm Go.Proofs.Fb Go.Proofs.Fk Go.Proofs.Fu

def RToksOut (xs : List Int) (w : World) (e : Ending) (w' : World) : Prop :=
  ∃ (A : Option Addr) (c : Nat) (ts : List (Tok × Value)), e = .returned (.slice A (tok xs).length c) ∧ ts.map (·.1) = tok xs ∧ Tr w w' (.slice A ts.length c) ts
set_option maxRecDepth 100000 in
set_option maxHeartbeats 8000000 in
theorem refTokens_any (A : Option Addr) (n c : Nat) (xs : List Int) (hn : xs.length = n) (hx : n ≤ 10000) (hnc : n ≤ c) (hs : ∀ x ∈ xs, Scal x) (hu : ∀ (s : ByteArray) (w : World), s.size ≤ 100000 → Calls Tryd.prog 26 #[.string s] w fun e w' => e = .returned (.string ⟨(Fe.unesc s.data.toList).toArray⟩) ∧ Below w.heap.size w w') (w : World) (hr : Row w .i32 A xs) :
    Calls Tryd.prog 23 #[.slice A n c] w (RToksOut xs w) := by
  obtain ⟨i0, hi0, hz0, hz1, hz2⟩ := info_parts refTokInfo
  have HI0 := Lib.hid hi0
  have HZ0 := Lib.hid hz0
  have HZ1 := Lib.hid hz1
  have HZ2 := Lib.hid hz2
  have HR := Lib.hid hr
  have HS := Lib.hid hs
  have HU := Lib.hid hu
  have h32 : ∀ x ∈ xs, -2147483648 ≤ x ∧ x ≤ 2147483647 := fun x hx => by have := hs x hx; unfold Scal at this; omega
  have H32 := Lib.hid h32
  have HTAG := Lib.hid (fun m (hm : m < n) W (h : Row W .i32 A xs) => refTag_any A n c xs hn hx hnc hs hu m hm W h)
  have HBEG := Lib.hid (fun m (hm : m < n) W (h : Row W .i32 A xs) => refBegins_any A n c xs hn (by omega) h32 m hm W h)
  clear hr hs hu hi0 hz0 hz1 hz2 h32
  go_enter Tryd.func23, Tryd.ntmps23
  go_upto_region 3 with fail
  go_loopg [3, 4] n (fun gk v i wr => ∃ (m : Nat) (ts : List (Tok × Value)), m + gk = n ∧ i = .int .i64 (m : Int) ∧ ts.length ≤ m ∧ Hid (ts.map (·.1) ++ tok (xs.drop m) = tok xs) ∧ Hid (Tr w wr v ts))
  case atStart => exact ⟨0, [], by omega, rfl, by simp, Lib.hid rfl, Lib.hid ⟨Below.refl _ _, World.ownsRow_nil _ _ _ _, fun p hp => by cases hp⟩⟩
  case round =>
    obtain ⟨m, ts, hm, rfl, htm, heq, ht⟩ := hrel
    obtain ⟨A2, c2, rfl, hlc2, hone⟩ := own_slice ht.out.row
    by_cases hlt : m < n
    · have i1 : (m : Int) < (n : Int) := by omega
      obtain ⟨b, off, rfl, -⟩ := HR.out.at_ (i := m) (by omega)
      have HQ := Lib.hid (HBEG.out m hlt wr (HR.out.below ht.out.bl (Nat.le_refl _)))
      have HX := Lib.hid (show xs.drop m = xs.getD m 0 :: xs.drop (m + 1) from drop_c (by omega))
      rcases hbg : Fk.begins (xs.drop m) with _ | _
      · rw [hbg] at HQ
        have hh := heq.out
        rw [HX.out] at hbg
        rw [HX.out, tok_chars hbg, ← HX.out] at hh
        have HH := Lib.hid hh
        have HBG := Lib.hid hbg
        clear hh hbg heq
        go_upto_region 6 with (go_at_call 45; (with_reducible refine (HQ.out).mono ?_); rintro e w1 ⟨rfl, q1, rfl⟩)
        refine wp_gen (fun W => Tr w W (.slice A2 ts.length c2) ts) (ht.out.drewN q1) ?_
        intro W1 h1
        have HT1 := Lib.hid h1
        clear h1 ht HQ
        obtain ⟨gA, rfl⟩ : ∃ g, g = gk := ⟨gk, rfl⟩
        obtain ⟨wA, rfl⟩ : ∃ g, g = wr := ⟨wr, rfl⟩
        go_loopg [4] (n - m) (fun gk i wr => ∃ m2 : Nat, m2 + gk = n ∧ m ≤ m2 ∧ i = .int .i64 (m2 : Int) ∧ Hid (ChS xs m m2) ∧ Hid (Tr w wr (.slice A2 ts.length c2) ts))
        case atStart => exact ⟨m, by omega, Nat.le_refl _, rfl, Lib.hid (ChS.refl _ _), HT1⟩
        case round =>
          obtain ⟨m2, hm2, hmm2, rfl, hsp, ht2⟩ := hrel
          obtain ⟨B, hB⟩ : ∃ B, (decide (m2 < n) && !Fk.begins (xs.drop m2)) = B := ⟨_, rfl⟩
          have HB := Lib.hid hB
          clear hB
          go_upto_region 6 with fail
          go_cut [31] (fun s wx => s = .bool B ∧ ∃ q, wx = wr.drewN q)
          case first =>
            by_cases hlt2 : m2 < n
            · have i2 : (m2 : Int) < (n : Int) := by omega
              have HQ2 := Lib.hid (HBEG.out m2 hlt2 wr (HR.out.below ht2.out.bl (Nat.le_refl _)))
              have hBB := HB.out
              rw [decide_eq_true hlt2, Bool.true_and] at hBB
              obtain ⟨C, hC⟩ : ∃ C, Fk.begins (xs.drop m2) = C := ⟨_, rfl⟩
              rw [hC] at HQ2 hBB
              have HBB := Lib.hid hBB
              clear hC hBB
              cases C
              · have hf : Hid (true = B) := Lib.hid (by rw [← HBB.out]; rfl)
                go_wp2_with (go_at_call 45; (with_reducible refine (HQ2.out).mono ?_); rintro e w2 ⟨rfl, q2, rfl⟩)
                go_meet
                exact ⟨by rw [hf.out], q2, rfl⟩
              · have hf : Hid (false = B) := Lib.hid (by rw [← HBB.out]; rfl)
                go_wp2_with (go_at_call 45; (with_reducible refine (HQ2.out).mono ?_); rintro e w2 ⟨rfl, q2, rfl⟩)
                go_meet
                exact ⟨by rw [hf.out], q2, rfl⟩
            · have i2 : ¬ ((m2 : Int) < (n : Int)) := by omega
              have hf : Hid (false = B) := Lib.hid (by rw [← HB.out, decide_eq_false hlt2]; rfl)
              go_wp2_with fail
              go_meet
              exact ⟨by rw [hf.out], 0, rfl⟩
          case rest =>
            obtain ⟨rfl, q2, rfl⟩ := hcut
            cases B
            · have hch := chars_out hn hsp.out HB.out
              have hh := HH.out
              rw [hch] at hh
              have HH2 := Lib.hid hh
              have HT2 := Lib.hid (ht2.out.drewN q2)
              have hmlt : m < m2 := by
                rcases Nat.lt_or_ge m m2 with h | h
                · exact h
                · have e : m2 = m := by omega
                  have h2 := HB.out
                  rw [e, decide_eq_true hlt, HX.out, HBG.out] at h2
                  simp at h2
              have hm2n : m2 ≤ n := by omega
              have hcv := conv_sub (HR.out.below HT2.out.bl (Nat.le_refl _)) HS.out m m2 (c - m) hmm2 (by omega)
              have hsz := sub_size xs m (m2 - m) (by omega)
              obtain ⟨T, hT⟩ : ∃ T, encB (List.take (m2 - m) (List.drop m xs)) = T := ⟨_, rfl⟩
              rw [hT] at hcv hsz HH2
              have HUT : Hid (∀ W, Calls Tryd.prog 26 #[.string ⟨T.toArray⟩] W fun e w' => e = .returned (.string ⟨(Fe.unesc T).toArray⟩) ∧ Below W.heap.size W w') := Lib.hid (fun W => HU.out ⟨T.toArray⟩ W hsz)
              obtain ⟨V, hV⟩ : ∃ V, Fe.unesc T = V := ⟨_, rfl⟩
              rw [hV] at HUT HH2
              have i3 : c - m ≠ 0 := by omega
              clear hV hsz hT hh hch HB hsp ht2 HH HBG HX
              go_wp2_with (first
                | (go_at_call 26; (with_reducible refine (HUT.out _).mono ?_); rintro e w6 ⟨rfl, h6⟩; have HT6 := Lib.hid (HT2.out.grow h6); clear h6)
                | (at_builtin; refine wpList_append_elt rfl (.tmp 34) (.tmp 42) 39 rfl w.heap.size 25 i0 _ 5 72 Tryd.underlying39 HI0.out HZ0.out HZ1.out HZ2.out rfl (by omega) _ ts.length _ rfl HT6.out.row [.int .i64 1, .string ⟨#[]⟩, .string ⟨V.toArray⟩, .slice none 0 0, .bool false] rfl rfl (by simp [Value.oneCell']) (by unfold maxLen; omega) (by omega) HT6.out.bl.size ?_; intro g cap w9 ho9 hg9 hat9 hlt9 hb9; have HO9 := Lib.hid ho9; have HG9 := Lib.hid (show w6.grownBy w9 (Value.slice A2 ts.length c2).ownBlock from hg9); clear ho9 hg9 hat9 hb9))
              go_roundg (n - m2)
              case measure => omega
              case rel =>
                have h9 := HT6.out.add ⟨1, [], V, [], false⟩ (.slice none 0 0) (World.ownsRow_nil _ _ _ _) HO9.out HG9.out
                refine ⟨m2, ts ++ [(⟨1, [], V, [], false⟩, .slice none 0 0)], by omega, rfl, by rw [List.length_append]; simp; omega, Lib.hid ?_, Lib.hid ?_⟩
                · rw [← HH2.out]; simp
                · exact h9
            · obtain ⟨hsp2, hlt2⟩ := chars_go hn hsp.out HB.out
              have HSP := Lib.hid hsp2
              clear HB hsp hsp2
              go_wp2_with fail
              go_roundg (gk - 1)
              case measure => omega
              case rel => exact ⟨m2 + 1, by omega, by omega, by go_num, HSP, Lib.hid (ht2.out.drewN q2)⟩
      · rw [hbg] at HQ
        have hm1 : m + 1 < n := by
          rcases Nat.lt_or_ge (m + 1) n with h | h
          · exact h
          · have h2 := hbg
            rw [HX.out, List.drop_eq_nil_of_le (show xs.length ≤ m + 1 by omega)] at h2
            simp [Fk.begins] at h2
        have HBG := Lib.hid (show Fk.begins (xs.getD m 0 :: xs.drop (m + 1)) = true by rw [← HX.out]; exact hbg)
        have HX1 := Lib.hid (show xs.drop (m + 1) = xs.getD (m + 1) 0 :: xs.drop (m + 2) from drop_c (by omega))
        obtain ⟨v1, hv1⟩ : ∃ v1, xs.getD (m + 1) 0 = v1 := ⟨_, rfl⟩
        have hv1s : -2147483648 ≤ v1 ∧ v1 ≤ 2147483647 := by
          rw [← hv1, List.getD_eq_getElem?_getD, List.getElem?_eq_getElem (by omega)]
          exact H32.out _ (List.getElem_mem _)
        rw [hv1] at HX1
        have HLET := Lib.hid (fun W => refLetter_any v1 W hv1s)
        have i2 : (m : Int) + 1 < (n : Int) := by omega
        have HC1 : Hid (∀ W, Below w.heap.size w W → W.cell? ⟨b, off + (m + 1), none⟩ = some (.int .i32 v1)) := Lib.hid (fun W hW => by
          obtain ⟨b', off', e0, hc⟩ := (HR.out.below hW (Nat.le_refl _)).at_ (i := m) (by omega)
          injection e0 with e0; injection e0 with e1 e2
          subst e1; subst e2
          rw [hc (m + 1) (by omega), hv1])
        clear hv1 hv1s hbg
        have HT0 := Lib.hid (ht.out.drewN 0)
        rcases hlet : Fk.letter v1 with _ | _
        · rw [hlet] at HLET
          have HHL : Hid (headLetter (xs.drop (m + 1)) = false) := Lib.hid (by rw [HX1.out]; exact hlet)
          clear hlet
          go_upto_region 20 with (first
            | (go_at_call 45; (with_reducible refine (HQ.out).mono ?_); rintro e w1 ⟨rfl, q1, rfl⟩; have HT1 := Lib.hid (ht.out.drewN q1); have c1 := HC1.out _ HT1.out.bl)
            | (go_at_call 46; (with_reducible refine (HLET.out _).mono ?_); rintro e w2 ⟨rfl, q2, rfl⟩; have HT2 := Lib.hid (ht.out.drewN (q1 + q2))))
          refine wp_gen (fun W => Tr w W (.slice A2 ts.length c2) ts) HT2.out ?_
          intro W3 h3
          have HT3 := Lib.hid h3
          clear h3 HT1 HT2 HT0 ht HQ HLET c1
          obtain ⟨C, hC⟩ : ∃ C, (v1 == 47 && decide (m + 2 < n) && Fk.letter (xs.getD (m + 2) 0)) = C := ⟨_, rfl⟩
          have HCC := Lib.hid hC
          clear hC
          go_cut [112] (fun s wx => s = .bool C ∧ ∃ q, wx = W3.drewN q)
          case first =>
            have c1 := HC1.out _ HT3.out.bl
            rcases h47 : (v1 == 47) with _ | _
            · have hf : Hid (false = C) := Lib.hid (by rw [← HCC.out, h47]; rfl)
              go_wp2_with fail
              go_meet
              exact ⟨by rw [hf.out], 0, rfl⟩
            · by_cases hm2 : m + 2 < n
              · have i3 : (m : Int) + 2 < (n : Int) := by omega
                have hcc := HCC.out
                rw [h47, decide_eq_true hm2, Bool.true_and, Bool.true_and] at hcc
                obtain ⟨v2, hv2⟩ : ∃ v2, xs.getD (m + 2) 0 = v2 := ⟨_, rfl⟩
                have hv2s : -2147483648 ≤ v2 ∧ v2 ≤ 2147483647 := by
                  rw [← hv2, List.getD_eq_getElem?_getD, List.getElem?_eq_getElem (by omega)]
                  exact H32.out _ (List.getElem_mem _)
                have HL2 := Lib.hid (fun W => refLetter_any v2 W hv2s)
                obtain ⟨b', off', e0, hc⟩ := (HR.out.below HT3.out.bl (Nat.le_refl _)).at_ (i := m) (by omega)
                injection e0 with e0; injection e0 with e1 e2
                subst e1; subst e2
                have cc2 := hc (m + 2) (by omega)
                rw [hv2] at cc2 hcc
                obtain ⟨L, hL⟩ : ∃ L, Fk.letter v2 = L := ⟨_, rfl⟩
                rw [hL] at HL2 hcc
                have hf : Hid (L = C) := Lib.hid hcc
                clear hc hv2 hv2s hL hcc
                cases L
                · go_wp2_with (go_at_call 46; (with_reducible refine (HL2.out _).mono ?_); rintro e w2 ⟨rfl, q2, rfl⟩)
                  go_meet
                  exact ⟨by rw [hf.out], q2, rfl⟩
                · go_wp2_with (go_at_call 46; (with_reducible refine (HL2.out _).mono ?_); rintro e w2 ⟨rfl, q2, rfl⟩)
                  go_meet
                  exact ⟨by rw [hf.out], q2, rfl⟩
              · have i3 : ¬ ((m : Int) + 2 < (n : Int)) := by omega
                have hf : Hid (false = C) := Lib.hid (by rw [← HCC.out, h47, decide_eq_false hm2]; rfl)
                go_wp2_with fail
                go_meet
                exact ⟨by rw [hf.out], 0, rfl⟩
          case rest =>
            obtain ⟨rfl, q4, rfl⟩ := hcut
            have HT4 := Lib.hid (HT3.out.drewN q4)
            have hd2 : (xs.drop (m + 1)).drop 1 = xs.drop (m + 2) := by rw [List.drop_drop]
            cases C
            · have h47n : ¬ ((xs.drop (m + 1)).head? = some 47 ∧ headLetter ((xs.drop (m + 1)).drop 1) = true) := by
                rintro ⟨h1, h2⟩
                rw [hd2] at h2
                rw [HX1.out] at h1
                have h1' : v1 = 47 := by simpa using h1
                have h3 := HCC.out
                have hm2 : m + 2 < n := by
                  rcases Nat.lt_or_ge (m + 2) n with h | h
                  · exact h
                  · rw [List.drop_eq_nil_of_le (by omega)] at h2; simp [headLetter] at h2
                rw [drop_c (show m + 2 < xs.length by omega)] at h2
                rw [h1', decide_eq_true hm2, show Fk.letter (xs.getD (m + 2) 0) = true from h2] at h3
                exact absurd h3 (by decide)
              have HIS := refIs_any (some ⟨b, off, none⟩) n c xs hn (by omega) m (by omega) ⟨#[60, 33, 45, 45]⟩ (by decide) _ (HR.out.below HT4.out.bl (Nat.le_refl _))
              rw [show numsOf ⟨#[60, 33, 45, 45]⟩ = [60, 33, 45, 45] from rfl] at HIS
              by_cases hp : ([60, 33, 45, 45] : List Int) <+: xs.drop m
              · rw [decide_eq_true hp] at HIS
                have HIS := Lib.hid HIS
                have hp4 := hp.length_le
                rw [List.length_drop] at hp4
                have hm4 : m + 4 ≤ n := by
                  have : ([60, 33, 45, 45] : List Int).length = 4 := rfl
                  omega
                have hh := heq.out
                rw [HX.out, tok_remark HBG.out HHL.out h47n (by rw [← HX.out]; exact hp), ← HX.out, List.drop_drop] at hh
                have HH := Lib.hid hh
                have HBE : ∀ W, Below w.heap.size w W → _ := fun W hW => refBehind_any (some ⟨b, off, none⟩) n c xs hn (by omega) (m + 4) (by omega) ⟨#[45, 45, 62]⟩ (by decide) (by decide) W (HR.out.below hW (Nat.le_refl _))
                rw [show ((m + 4 : Nat) : Int) = (m : Int) + 4 by omega, show numsOf ⟨#[45, 45, 62]⟩ = [45, 45, 62] from rfl] at HBE
                have HBE := Lib.hid HBE
                clear hh hp hp4 h47n heq
                go_wp2_with (first
                  | (go_at_call 49; (with_reducible refine (HIS.out).mono ?_); rintro e w5 ⟨rfl, q5, rfl⟩; have HT5 := Lib.hid (HT4.out.drewN q5); have HT5' := Lib.hid (HT3.out.drewN (q4 + q5)))
                  | (go_at_call 50; (with_reducible refine (HBE.out _ HT5'.out.bl).mono ?_); rintro e w6 ⟨⟨j, rfl, hj1, hj2, hj3⟩, q6, rfl⟩; have HT6 := Lib.hid (HT3.out.drewN (q4 + q5 + q6)); have HJ3 := Lib.hid hj3; clear hj3))
                have hmj : m < j := by
                  rcases Nat.lt_or_ge (m + 4) n with h | h
                  · have := hj2 h; omega
                  · have h3 := congrArg List.length HJ3.out
                    rw [List.drop_eq_nil_of_le (show xs.length ≤ m + 4 by omega)] at h3
                    simp [Fk.behind, List.length_drop] at h3
                    omega
                go_roundg (n - j)
                case measure => omega
                case rel => exact ⟨j, ts, by omega, rfl, by omega, Lib.hid (by rw [HJ3.out]; exact HH.out), HT6⟩
              · rw [decide_eq_false hp] at HIS
                have HIS := Lib.hid HIS
                have hh := heq.out
                rw [HX.out, tok_other HBG.out HHL.out h47n (by rw [← HX.out]; exact hp), ← HX.out] at hh
                have HH := Lib.hid hh
                have HBE : ∀ W, Below w.heap.size w W → _ := fun W hW => refBehind_any (some ⟨b, off, none⟩) n c xs hn (by omega) m (by omega) ⟨#[62]⟩ (by decide) (by decide) W (HR.out.below hW (Nat.le_refl _))
                rw [show numsOf ⟨#[62]⟩ = [62] from rfl] at HBE
                have HBE := Lib.hid HBE
                clear hh hp h47n heq
                go_wp2_with (first
                  | (go_at_call 49; (with_reducible refine (HIS.out).mono ?_); rintro e w5 ⟨rfl, q5, rfl⟩; have HT5' := Lib.hid (HT3.out.drewN (q4 + q5)))
                  | (go_at_call 50; (with_reducible refine (HBE.out _ HT5'.out.bl).mono ?_); rintro e w6 ⟨⟨j, rfl, hj1, hj2, hj3⟩, q6, rfl⟩; have HT6 := Lib.hid (HT3.out.drewN (q4 + q5 + q6)); have HJ3 := Lib.hid hj3; clear hj3))
                have hmj : m < j := hj2 hlt
                go_roundg (n - j)
                case measure => omega
                case rel => exact ⟨j, ts, by omega, rfl, by omega, Lib.hid (by rw [HJ3.out]; exact HH.out), HT6⟩
            · have h3 := HCC.out
              simp only [Bool.and_eq_true, decide_eq_true_eq, beq_iff_eq] at h3
              obtain ⟨⟨h47, hm2⟩, hl2⟩ := h3
              have H47 : Hid ((xs.drop (m + 1)).head? = some 47 ∧ headLetter ((xs.drop (m + 1)).drop 1) = true) := Lib.hid (by
                refine ⟨by rw [HX1.out, h47]; rfl, ?_⟩
                rw [hd2, drop_c (show m + 2 < xs.length by omega)]; exact hl2)
              have i3 : (m : Int) + 2 < (n : Int) := by omega
              have HD2 := Lib.hid hd2
              clear HCC h47 hl2 hd2
              rcases htag : tagAt (xs.drop (m + 2)) with _ | ⟨nm, al, cl, rest⟩
              · have hh := heq.out
                rw [HX.out, tok_close_none HBG.out HHL.out H47.out (by rw [HD2.out]; exact htag), List.append_nil] at hh
                have HH := Lib.hid hh
                have HT47 : Hid (∀ W, Below w.heap.size w W → Calls Tryd.prog 47 #[.slice (some ⟨b, off, none⟩) n c, .int .i64 ((m : Int) + 2)] W fun e w' => e = .returned (.tuple #[.agg #[.int .i64 0, .string ⟨#[]⟩, .string ⟨#[]⟩, .slice none 0 0, .bool false], .int .i64 (n : Int), .bool false]) ∧ Below W.heap.size W w') := Lib.hid (fun W hW => by
                  have h := HTAG.out (m + 2) hm2 W (HR.out.below hW (Nat.le_refl _))
                  unfold RTagOut at h
                  rw [htag, show ((m + 2 : Nat) : Int) = (m : Int) + 2 by omega] at h
                  exact h)
                clear hh heq htag HX HX1 HBG HHL
                go_wp2_with (go_at_call 47; (with_reducible refine (HT47.out _ HT4.out.bl).mono ?_); rintro e w5 ⟨rfl, hb5⟩; have HT5 := Lib.hid (HT4.out.grow hb5); clear hb5)
                go_roundg 0
                case measure => omega
                case rel =>
                  refine ⟨n, ts, by omega, rfl, by omega, Lib.hid ?_, Lib.hid ?_⟩
                  · rw [List.drop_eq_nil_of_le (by omega), tok_nil, List.append_nil]; exact HH.out
                  · exact HT5.out.grow ((Below.refl _ _).alloc (Nat.le_refl _) _)
              · have HTG := Lib.hid htag
                have HT47 : Hid (∀ W, Below w.heap.size w W → Calls Tryd.prog 47 #[.slice (some ⟨b, off, none⟩) n c, .int .i64 ((m : Int) + 2)] W fun e w' => (∃ (v : Value) (j : Nat), e = .returned (.tuple #[.agg #[.int .i64 0, .string ⟨nm.toArray⟩, .string ⟨#[]⟩, v, .bool cl], .int .i64 (j : Int), .bool true]) ∧ m + 2 < j ∧ j ≤ n ∧ xs.drop j = rest ∧ al.length ≤ 64 ∧ w'.ownsRow W.heap.size 29 2 v al.length (attrCells al)) ∧ Below W.heap.size W w') := Lib.hid (fun W hW => by
                  have h := HTAG.out (m + 2) hm2 W (HR.out.below hW (Nat.le_refl _))
                  unfold RTagOut at h
                  rw [htag, show ((m + 2 : Nat) : Int) = (m : Int) + 2 by omega] at h
                  exact h)
                have hh := heq.out
                rw [HX.out, tok_close HBG.out HHL.out H47.out (by rw [HD2.out]; exact htag)] at hh
                have HH := Lib.hid hh
                clear htag hh heq
                go_upto_region 22 with (go_at_call 47; (with_reducible refine (HT47.out _ HT4.out.bl).mono ?_); rintro e w5 ⟨⟨v, j, rfl, hj1, hj2, hj3, hal, hv5⟩, hb5⟩; obtain ⟨A5, c5, rfl, -, -⟩ := own_slice hv5; have HT5 := Lib.hid (HT4.out.grow hb5); have HJ3 := Lib.hid hj3; clear hb5 hv5 hj3)
                refine wp_gen (fun W => Tr w W (.slice A2 ts.length c2) ts ∧ Bk W w5.heap.size 25 #[.int .i64 0, .string ⟨nm.toArray⟩, .string ⟨#[]⟩, .slice A5 al.length c5, .bool cl]) ?_ ?_
                · exact ⟨HT5.out.grow ((Below.refl _ _).alloc (Nat.le_refl _) _), Bk.new w5 25 _⟩
                rintro W7 ⟨h7, h7b⟩
                have HT7 := Lib.hid h7
                have d1 : W7.cell? ⟨w5.heap.size, 1, none⟩ = some (.string ⟨nm.toArray⟩) := h7b.cell 1
                clear h7 h7b HT5 HT47 HT4 HT3
                go_wp2_with (at_builtin; refine wpList_append_elt rfl (.tmp 123) (.tmp 127) 39 rfl w.heap.size 25 i0 _ 5 72 Tryd.underlying39 HI0.out HZ0.out HZ1.out HZ2.out rfl (by omega) _ ts.length _ rfl HT7.out.row [.int .i64 3, .string ⟨nm.toArray⟩, .string ⟨#[]⟩, .slice none 0 0, .bool false] rfl rfl (by simp [Value.oneCell']) (by unfold maxLen; omega) (by omega) HT7.out.bl.size ?_; intro g cap w9 ho9 hg9 hat9 hlt9 hb9; have HO9 := Lib.hid ho9; have HG9 := Lib.hid (show W7.grownBy w9 (Value.slice A2 ts.length c2).ownBlock from hg9); clear ho9 hg9 hat9 hb9)
                go_roundg (n - j)
                case measure => omega
                case rel =>
                  have h9 := HT7.out.add ⟨3, nm, [], [], false⟩ (.slice none 0 0) (World.ownsRow_nil _ _ _ _) HO9.out HG9.out
                  refine ⟨j, ts ++ [(⟨3, nm, [], [], false⟩, .slice none 0 0)], by omega, rfl, by rw [List.length_append]; simp; omega, Lib.hid ?_, Lib.hid ?_⟩
                  · rw [HJ3.out, ← HH.out]; simp
                  · exact h9
        · rw [hlet] at HLET
          have HHL : Hid (headLetter (xs.drop (m + 1)) = true) := Lib.hid (by rw [HX1.out]; exact hlet)
          clear hlet
          rcases htag : tagAt (xs.drop (m + 1)) with _ | ⟨nm, al, cl, rest⟩
          · have hh := heq.out
            rw [HX.out, tok_open_none HBG.out HHL.out htag, List.append_nil] at hh
            have HH := Lib.hid hh
            have HT47 : Hid (∀ W, Below w.heap.size w W → Calls Tryd.prog 47 #[.slice (some ⟨b, off, none⟩) n c, .int .i64 ((m : Int) + 1)] W fun e w' => e = .returned (.tuple #[.agg #[.int .i64 0, .string ⟨#[]⟩, .string ⟨#[]⟩, .slice none 0 0, .bool false], .int .i64 (n : Int), .bool false]) ∧ Below W.heap.size W w') := Lib.hid (fun W hW => by
              have h := HTAG.out (m + 1) hm1 W (HR.out.below hW (Nat.le_refl _))
              unfold RTagOut at h
              rw [htag, show ((m + 1 : Nat) : Int) = (m : Int) + 1 by omega] at h
              exact h)
            clear hh heq htag HX HX1 HBG HHL
            go_wp2_with (first
              | (go_at_call 45; (with_reducible refine (HQ.out).mono ?_); rintro e w1 ⟨rfl, q1, rfl⟩; have HT1 := Lib.hid (ht.out.drewN q1); have c1 := HC1.out _ HT1.out.bl)
              | (go_at_call 46; (with_reducible refine (HLET.out _).mono ?_); rintro e w2 ⟨rfl, q2, rfl⟩; have HT2 := Lib.hid (ht.out.drewN (q1 + q2)))
              | (go_at_call 47; (with_reducible refine (HT47.out _ HT2.out.bl).mono ?_); rintro e w5 ⟨rfl, hb5⟩; have HT5 := Lib.hid (HT2.out.grow hb5); clear hb5))
            go_roundg 0
            case measure => omega
            case rel =>
              refine ⟨n, ts, by omega, rfl, by omega, Lib.hid ?_, Lib.hid ?_⟩
              · rw [List.drop_eq_nil_of_le (by omega), tok_nil, List.append_nil]; exact HH.out
              · exact HT5.out.grow ((Below.refl _ _).alloc (Nat.le_refl _) _)
          · have hrl := tagAt_le htag
            have HTG := Lib.hid htag
            have HT47 : Hid (∀ W, Below w.heap.size w W → Calls Tryd.prog 47 #[.slice (some ⟨b, off, none⟩) n c, .int .i64 ((m : Int) + 1)] W fun e w' => (∃ (v : Value) (j : Nat), e = .returned (.tuple #[.agg #[.int .i64 0, .string ⟨nm.toArray⟩, .string ⟨#[]⟩, v, .bool cl], .int .i64 (j : Int), .bool true]) ∧ m + 1 < j ∧ j ≤ n ∧ xs.drop j = rest ∧ al.length ≤ 64 ∧ w'.ownsRow W.heap.size 29 2 v al.length (attrCells al)) ∧ Below W.heap.size W w') := Lib.hid (fun W hW => by
              have h := HTAG.out (m + 1) hm1 W (HR.out.below hW (Nat.le_refl _))
              unfold RTagOut at h
              rw [htag, show ((m + 1 : Nat) : Int) = (m : Int) + 1 by omega] at h
              exact h)
            clear htag hrl
            go_upto_region 11 with (first
              | (go_at_call 45; (with_reducible refine (HQ.out).mono ?_); rintro e w1 ⟨rfl, q1, rfl⟩; have HT1 := Lib.hid (ht.out.drewN q1); have c1 := HC1.out _ HT1.out.bl)
              | (go_at_call 46; (with_reducible refine (HLET.out _).mono ?_); rintro e w2 ⟨rfl, q2, rfl⟩; have HT2 := Lib.hid (ht.out.drewN (q1 + q2)))
              | (go_at_call 47; (with_reducible refine (HT47.out _ HT2.out.bl).mono ?_); rintro e w5 ⟨⟨v, j, rfl, hj1, hj2, hj3, hal, hv5⟩, hb5⟩; obtain ⟨A5, c5, rfl, -, -⟩ := own_slice hv5; have HT5 := Lib.hid (HT2.out.grow hb5); have HV5 := Lib.hid (own_mono hv5 HT2.out.bl.size); have HJ3 := Lib.hid hj3; clear hb5 hv5 hj3))
            refine wp_gen (fun W => (Tr w W (.slice A2 ts.length c2) ts ∧ Bk W w5.heap.size 25 #[.int .i64 0, .string ⟨nm.toArray⟩, .string ⟨#[]⟩, .slice A5 al.length c5, .bool cl]) ∧ W.ownsRow w.heap.size 29 2 (.slice A5 al.length c5) al.length (attrCells al)) ?_ ?_
            · exact ⟨⟨HT5.out.grow ((Below.refl _ _).alloc (Nat.le_refl _) _), Bk.new w5 25 _⟩, HV5.out.alloc _⟩
            rintro W6 ⟨⟨h6, h6b⟩, h6v⟩
            have HNE : Hid ((Value.slice A2 ts.length c2).ownBlock ≠ some w5.heap.size) := Lib.hid (fun e => by have := (HT5.out.row.lt _ e).2; omega)
            have hlo : w.heap.size ≤ w5.heap.size := HT5.out.bl.size
            have HT6 := Lib.hid h6
            have HB6 := Lib.hid h6b
            have HV6 := Lib.hid h6v
            have e0 := h6b.frozen 0
            have d00 : W6.cell? ⟨w5.heap.size, 0, none⟩ = some (.int .i64 0) := h6b.cell 0
            clear h6 h6b h6v HT1 HT2 HT5 HV5 HT47 HQ HLET ht HT0
            go_upto_region 14 with fail
            refine wp_gen (fun W => (Tr w W (.slice A2 ts.length c2) ts ∧ Bk W w5.heap.size 25 #[.int .i64 2, .string ⟨nm.toArray⟩, .string ⟨#[]⟩, .slice A5 al.length c5, .bool cl]) ∧ W.ownsRow w.heap.size 29 2 (.slice A5 al.length c5) al.length (attrCells al)) ?_ ?_
            · refine ⟨⟨HT6.out.far HB6.out hlo HNE.out 0 _, ?_⟩, ownsRow_setCell_other HV6.out (own_ne HV6.out HB6.out (by decide)) _⟩
              simpa using HB6.out.set_ 0 (.int .i64 2)
            rintro W7 ⟨⟨h7, h7b⟩, h7v⟩
            have HT7 := Lib.hid h7
            have HB7 := Lib.hid h7b
            have HV7 := Lib.hid h7v
            have d0 : W7.cell? ⟨w5.heap.size, 0, none⟩ = some (.int .i64 2) := h7b.cell 0
            have d1 : W7.cell? ⟨w5.heap.size, 1, none⟩ = some (.string ⟨nm.toArray⟩) := h7b.cell 1
            have d2 : W7.cell? ⟨w5.heap.size, 2, none⟩ = some (.string ⟨#[]⟩) := h7b.cell 2
            have d3 : W7.cell? ⟨w5.heap.size, 3, none⟩ = some (.slice A5 al.length c5) := h7b.cell 3
            have d4 : W7.cell? ⟨w5.heap.size, 4, none⟩ = some (.bool cl) := h7b.cell 4
            clear h7 h7b h7v HT6 HB6 HV6 e0 d00
            go_upto_region 15 with (at_builtin; refine wpList_append_elt rfl (.tmp 62) (.tmp 64) 39 rfl w.heap.size 25 i0 _ 5 72 Tryd.underlying39 HI0.out HZ0.out HZ1.out HZ2.out rfl (by omega) _ ts.length _ rfl HT7.out.row [.int .i64 2, .string ⟨nm.toArray⟩, .string ⟨#[]⟩, .slice A5 al.length c5, .bool cl] rfl rfl (by simp [Value.oneCell']) (by unfold maxLen; omega) (by omega) HT7.out.bl.size ?_; intro g cap w9 ho9 hg9 hat9 hlt9 hb9; have HO9 := Lib.hid ho9; have HG9 := Lib.hid (show W7.grownBy w9 (Value.slice A2 ts.length c2).ownBlock from hg9); clear ho9 hg9 hat9 hb9)
            have h9 := HT7.out.add ⟨2, nm, [], al, cl⟩ (.slice A5 al.length c5) HV7.out HO9.out HG9.out
            have h9b := HB7.out.grown HG9.out (fun e => HNE.out e.symm)
            obtain ⟨ts2, hts2⟩ : ∃ ts2, ts ++ [((⟨2, nm, [], al, cl⟩ : Tok), Value.slice A5 al.length c5)] = ts2 := ⟨_, rfl⟩
            have hl2 : ts.length + 1 = ts2.length := by rw [← hts2]; simp
            rw [hts2] at h9
            have HTS2 := Lib.hid hts2
            have HT9 := Lib.hid h9
            have d1 : w9.cell? ⟨w5.heap.size, 1, none⟩ = some (.string ⟨nm.toArray⟩) := h9b.cell 1
            clear d0 d2 d3 d4 h9 h9b HT7 HB7 HV7 HO9 HG9 HNE hts2
            rw [hl2] at HT9 ⊢
            obtain ⟨B, hB⟩ : ∃ B, ((nm == [115, 116, 121, 108, 101]) || (nm == [115, 99, 114, 105, 112, 116])) = B := ⟨_, rfl⟩
            have HB := Lib.hid hB
            clear hB
            go_cut [73] (fun s wx => s = .bool B ∧ ∃ q, wx = w9.drewN q)
            case first =>
              rcases hs1 : (nm == [115, 116, 121, 108, 101]) with _ | _
              · rcases hs2 : (nm == [115, 99, 114, 105, 112, 116]) with _ | _
                · have hf : Hid (false = B) := Lib.hid (by rw [← HB.out, hs1, hs2]; rfl)
                  go_wp2_with fail
                  go_meet
                  exact ⟨by rw [hf.out], 0, rfl⟩
                · have hf : Hid (true = B) := Lib.hid (by rw [← HB.out, hs1, hs2]; rfl)
                  go_wp2_with fail
                  go_meet
                  exact ⟨by rw [hf.out], 0, rfl⟩
              · have hf : Hid (true = B) := Lib.hid (by rw [← HB.out, hs1]; rfl)
                go_wp2_with fail
                go_meet
                exact ⟨by rw [hf.out], 0, rfl⟩
            case rest =>
              obtain ⟨rfl, q9, rfl⟩ := hcut
              have HT9 := Lib.hid (HT9.out.drewN q9)
              cases B
              · have hnor : ¬ (nm = sStyle ∨ nm = sScript) := by
                  have h := HB.out
                  rintro (e | e) <;> rw [e] at h <;> exact absurd h (by decide)
                have hh := heq.out
                rw [HX.out, tok_open HBG.out HHL.out HTG.out hnor] at hh
                have HH := Lib.hid hh
                clear hh hnor
                go_wp2_with fail
                go_roundg (n - j)
                case measure => omega
                case rel =>
                  refine ⟨j, ts2, by omega, rfl, by omega, Lib.hid ?_, HT9⟩
                  rw [HJ3.out, ← HTS2.out, ← HH.out]; simp
              · have hor : nm = sStyle ∨ nm = sScript := by
                  have h := HB.out
                  rw [Bool.or_eq_true] at h
                  exact h.imp eq_of_beq eq_of_beq
                have hnl : nm.length ≤ 1000 ∧ 1 ≤ nm.length := by
                  rcases hor with e | e <;> rw [e] <;> decide
                have hh := heq.out
                rw [HX.out, tok_raw HBG.out HHL.out HTG.out hor, ← HJ3.out] at hh
                have HH := Lib.hid hh
                have HRAW := Lib.hid (refRaw_any (some ⟨b, off, none⟩) n c xs hn (by omega) hnc HS.out j hj2 nm hnl.1 hnl.2 _ (HR.out.below HT9.out.bl (Nat.le_refl _)))
                clear hh hor hnl HB heq
                go_upto_region 17 with (go_at_call 48; (with_reducible refine (HRAW.out).mono ?_); rintro e w10 ⟨⟨j2, rfl, hj21, hj22, hj23⟩, hb10⟩; have HT10 := Lib.hid (HT9.out.grow hb10); have HJ23 := Lib.hid hj23; clear hb10 hj23)
                by_cases hjj : j < j2
                · have i5 : (j : Int) < (j2 : Int) := by omega
                  have i6 : c - j ≠ 0 := by omega
                  have hcv := conv_sub (HR.out.below HT10.out.bl (Nat.le_refl _)) HS.out j j2 (c - j) hj21 (by omega)
                  have hne : List.take (j2 - j) (List.drop j xs) ≠ [] := by
                    intro e
                    have h := congrArg List.length e
                    rw [List.length_take, List.length_drop] at h
                    simp at h; omega
                  have hh := HH.out
                  rw [HJ23.out] at hh
                  simp only [if_neg hne] at hh
                  obtain ⟨T, hT⟩ : ∃ T, encB (List.take (j2 - j) (List.drop j xs)) = T := ⟨_, rfl⟩
                  rw [hT] at hcv hh
                  have HH2 := Lib.hid hh
                  clear hh hT hne HH HRAW HT9
                  go_wp2_with (at_builtin; refine wpList_append_elt rfl (.tmp 82) (.tmp 89) 39 rfl w.heap.size 25 i0 _ 5 72 Tryd.underlying39 HI0.out HZ0.out HZ1.out HZ2.out rfl (by omega) _ ts2.length _ rfl HT10.out.row [.int .i64 1, .string ⟨#[]⟩, .string ⟨T.toArray⟩, .slice none 0 0, .bool false] rfl rfl (by simp [Value.oneCell']) (by unfold maxLen; omega) (by omega) HT10.out.bl.size ?_; intro g2 cap2 w12 ho9 hg9 hat9 hlt9 hb9; have HO9 := Lib.hid ho9; have HG9 := Lib.hid (show w10.grownBy w12 (Value.slice (some ⟨g, 0, none⟩) ts2.length cap).ownBlock from hg9); clear ho9 hg9 hat9 hb9)
                  go_roundg (n - j2)
                  case measure => omega
                  case rel =>
                    have h12 := HT10.out.add ⟨1, [], T, [], false⟩ (.slice none 0 0) (World.ownsRow_nil _ _ _ _) HO9.out HG9.out
                    refine ⟨j2, ts2 ++ [(⟨1, [], T, [], false⟩, .slice none 0 0)], by omega, rfl, by rw [List.length_append]; simp; omega, Lib.hid ?_, Lib.hid ?_⟩
                    · rw [← HH2.out, ← HTS2.out]; simp
                    · have e : (ts2 ++ [((⟨1, [], T, [], false⟩ : Tok), Value.slice none 0 0)]).length = ts2.length + 1 := by simp
                      exact h12
                · have i5 : ¬ ((j : Int) < (j2 : Int)) := by omega
                  have e2 : j2 = j := by omega
                  have hh := HH.out
                  rw [HJ23.out, e2, Nat.sub_self, List.take_zero] at hh
                  simp only [if_true, List.nil_append] at hh
                  have HH2 := Lib.hid hh
                  clear hh e2 HH HRAW HT9
                  go_wp2_with fail
                  go_roundg (n - j2)
                  case measure => omega
                  case rel =>
                    have e2 : j2 = j := by omega
                    refine ⟨j2, ts2, by omega, rfl, by omega, Lib.hid ?_, HT10⟩
                    rw [e2, ← HH2.out, ← HTS2.out]; simp
    · have i1 : ¬ ((m : Int) < (n : Int)) := by omega
      obtain rfl : m = n := by omega
      have hh := heq.out
      rw [List.drop_eq_nil_of_le (by omega), tok_nil, List.append_nil] at hh
      have HH := Lib.hid hh
      clear hh heq
      go_wp2_with fail
      go_ret
      have hl : (tok xs).length = ts.length := by rw [← HH.out]; simp
      exact ⟨A2, c2, ts, by rw [hl]; rfl, HH.out, ht.out⟩
end Go.Proofs.YtnpoipjnnlbnfaaDoor
