/- What stands in a node, as it is written: walked. Conditions: texts are not endless, all that is written has at most 2^46 bytes. -/
import Derived.Test.YtdogcnmepaemjaaDoorRm
namespace Go.Proofs.YtdogcnmepaemjaaDoor
set_option linter.unusedVariables false
open Go.RowKit Go.Proofs.Fm Go.Proofs.Fb Go.Proofs.Fu Go.Proofs.Fr Go.Proofs.Fd Go.Proofs.Fc

/-- what is known of the tree that is written -/
structure TreeOk (l : List Nd) : Prop where
  said : SaidF l
  tag : ∀ x ∈ l, x.kind ≠ 2 → TagOk x
  text : ∀ x ∈ l, x.text.length ≤ 17592186044416
def WOut (w0 : World) (A : Option Addr) (n c bt bb bf : Nat) (acc : Str) (W : World) (e : Ending) (W' : World) : Prop := e = .returned (.tuple #[]) ∧ WSt w0 A n c bt bb bf acc W' ∧ Wr bb W W'
def Writes (l : List Nd) (f : Nat) : Prop := ∀ (w0 W : World) (A : Option Addr) (n c bt bb bf k : Nat) (acc : Str), l.length = n → (∀ W', Below w0.heap.size w0 W' → NRow W' A l) → WSt w0 A n c bt bb bf acc W → k < n → n ≤ k + f → (acc ++ markF l f k).length ≤ 70368744177664 →
  Calls Tryd.prog 23 #[.int .i64 (k : Int), .pointer (some ⟨bt, 0, none⟩), .pointer (some ⟨bb, 0, none⟩), .pointer (some ⟨bf, 0, none⟩)] W (WOut w0 A n c bt bb bf (acc ++ markF l f k) W)
/-- inside a loop over kids -/
structure InSt (w0 W : World) (A K : Option Addr) (n c bt bb bf : Nat) (ks : List Nat) (acc : Str) (W' : World) : Prop where
  st : WSt w0 A n c bt bb bf acc W'
  row : KRow W' K ks
  wr : Wr bb W W'
theorem InSt.wrote {w0 W W1 W2 : World} {A K : Option Addr} {n c bt bb bf : Nat} {ks : List Nat} {acc acc' : Str} (h : InSt w0 W A K n c bt bb bf ks acc W1) (hK : ∀ g o f, K = some ⟨g, o, f⟩ → g ≠ bb) (k : Wr bb W1 W2) (hb : Bld W2 bb bb acc') : InSt w0 W A K n c bt bb bf ks acc' W2 :=
  ⟨h.st.wr k hb, k.krow h.row hK, h.wr.trans k⟩
theorem InSt.grow {w0 W W1 W2 : World} {A K : Option Addr} {n c bt bb bf : Nat} {ks : List Nat} {acc : Str} (h : InSt w0 W A K n c bt bb bf ks acc W1) (hK : ∀ g o f, K = some ⟨g, o, f⟩ → g ≠ bb) (k : Below W1.heap.size W1 W2) : InSt w0 W A K n c bt bb bf ks acc W2 :=
  h.wrote hK (Wr.grow k (Nat.le_of_lt h.st.bld.lt.2)) (h.st.bld.below k)
set_option maxHeartbeats 4000000 in
set_option maxRecDepth 100000 in
theorem writes_any (l : List Nd) (hT : TreeOk l) (hn0 : l.length ≤ 1099511627776) : ∀ f, Writes l f
  | 0 => fun w0 W A n c bt bb bf k acc hl hrow hst hk hf hlen => by omega
  | f + 1 => fun w0 W A n c bt bb bf k acc hl hrow hst hk hf hlen => by
    have IH := Lib.hid (writes_any l hT hn0 f)
    have hB := hst.bld.lt
    have h0 := hst.h0
    have h1 := hst.h1
    have h2 := hst.h2
    have s0 : W.cell? ⟨bt, 0, none⟩ = some (.slice A n c) := hst.tb.cell 0
    have HKID := Lib.hid (kids_any A n c l hl (by omega) hT.said k hk W (hrow _ hst.bl))
    have hkids : ∀ j, j ∈ kidsOf (par l) n k → j < n ∧ k < j := fun j hj => by
      obtain ⟨a, b⟩ := kidsOf_lt hj
      rcases Nat.eq_zero_or_pos j with e | e
      · subst e
        have := ((ordB_iff _ _).1 hT.said.ord).1
        rw [this] at b; omega
      · have := par_bd hT.said e (by omega)
        omega
    have hkn : (kidsOf (par l) n k).length ≤ n := by
      unfold kidsOf; exact Nat.le_trans (List.length_filter_le _ _) (by simp)
    rw [markF_eq, hl] at hlen ⊢
    obtain ⟨KS, hKS⟩ : ∃ K, kidsOf (par l) n k = K := ⟨_, rfl⟩
    rw [hKS] at HKID hkids hlen hkn ⊢
    have HST := Lib.hid hst
    have HKS := Lib.hid hkids
    have HROW := Lib.hid hrow
    have HLEN := Lib.hid hlen
    clear hst hkids hrow hlen hKS
    go_enter Tryd.func23, Tryd.ntmps23
    go_upto_region 1 with (go_at_call 24; refine (HKID.out).mono ?_; rintro e w1 ⟨vk, rfl, hown, hb1⟩; obtain ⟨K, cK, rfl⟩ := own_form hown; obtain ⟨hkr, hkg⟩ := KRow.of_own hown rfl; have HKR := Lib.hid hkr; have HB1 := Lib.hid hb1; have HKG := Lib.hid (fun g o f e => (by have := hkg g o f e; omega : g ≠ bb)); clear hown hb1 hkr hkg)
    have hst1 : InSt w0 W A K n c bt bb bf KS acc w1 := ⟨HST.out.grow HB1.out, HKR.out, Wr.grow HB1.out (Nat.le_of_lt hB.2)⟩
    have HST1 := Lib.hid hst1
    clear hst1 HST HKID s0 HB1 HKR
    go_loopg [12] KS.length (fun gk i wr => ∃ m : Nat, m + gk = KS.length ∧ i = .int .i64 (m : Int) ∧ Hid (InSt w0 W A K n c bt bb bf KS (acc ++ piecesW l f k (KS.take m)) wr))
    case atStart => exact ⟨0, by omega, rfl, Lib.hid (by simpa [piecesW] using HST1.out)⟩
    case round =>
      obtain ⟨m, hm, rfl, hst⟩ := hrel
      clear HST1
      by_cases hlt : m < KS.length
      · have i1 : (m : Int) < (KS.length : Int) := by omega
        obtain ⟨g, rfl, hkc⟩ := hst.out.row.cell hlt
        obtain ⟨hj1, hj2⟩ := HKS.out _ (List.getElem_mem hlt)
        have hlen1 : (acc ++ piecesW l f k (KS.take (m + 1))).length ≤ 70368744177664 := by
          have h1 := HLEN.out
          have h2 := piecesW_le (l := l) (f := f) (n := k) (K := KS) (m + 1)
          rw [List.length_append] at h1 ⊢
          omega
        rw [piecesW_take hlt, ← List.append_assoc] at hlen1
        have HTK := Lib.hid (show acc ++ piecesW l f k (KS.take (m + 1)) = acc ++ piecesW l f k (KS.take m) ++ pieceW l f k (KS[m]'hlt) by rw [piecesW_take hlt, List.append_assoc])
        obtain ⟨j, hj⟩ : ∃ j, KS[m]'hlt = j := ⟨_, rfl⟩
        rw [hj] at hkc hj1 hj2 hlen1 HTK
        have hjl : j < l.length := by omega
        have hkl : k < l.length := by omega
        have hR := HROW.out wr hst.out.st.bl
        obtain ⟨b, off, rfl, hN⟩ := hR (by intro e; subst e; simp at hjl)
        have y := hN j hjl
        have hpl : pieceW l f k j = (match l[j]? with
          | none => []
          | some x => if x.kind = 2 then textW (nmN l k) x.text else tagW x ++ (if voidB x.name then [] else markF l f j ++ ([60, 47] ++ x.name ++ [62]))) := rfl
        rw [List.getElem?_eq_getElem hjl] at hpl
        have hTT := hT.text _ (List.getElem_mem hjl)
        have hTG := hT.tag _ (List.getElem_mem hjl)
        obtain ⟨X, hX⟩ : ∃ X, l[j]'hjl = X := ⟨_, rfl⟩
        rw [hX] at y hpl hTT hTG
        dsimp only at hpl
        obtain ⟨vx, y3, ax⟩ := y.c3
        obtain ⟨A5, c5, rfl, hv5⟩ := ax.ex
        have y0 := y.c0; have y1 := y.c1; have y2 := y.c2; have y4 := y.c4; have y5 := y.c5; have y6 := y.c6; have y7 := y.c7; have y8 := y.c8
        have s0 : wr.cell? ⟨bt, 0, none⟩ = some (.slice (some ⟨b, off, none⟩) n c) := hst.out.st.tb.cell 0
        have j1 : (j : Int) < (n : Int) := by omega
        have HAX := Lib.hid ax
        have HN := Lib.hid (show ∀ W', Below w0.heap.size w0 W' → NAt W' b (off + k * 9) (l[k]'hkl) from fun W' h => by
          obtain ⟨b', off', e, h'⟩ := HROW.out W' h (by intro e; rw [e] at hkl; simp at hkl)
          cases e
          exact h' k hkl)
        obtain ⟨kd, nm, tx, al, pa, fi, la, pr, ne⟩ := X
        dsimp only [str] at *
        have HPL := Lib.hid hpl
        have HTG := Lib.hid hTG
        have HS := Lib.hid hst.out
        clear y ax hv5 hN hR hpl hTG hst hj
        go_upto_region 4 with fail
        refine wp_gen (fun W' => InSt w0 W (some ⟨b, off, none⟩) (some ⟨g, 0, none⟩) n c bt bb bf KS (acc ++ piecesW l f k (KS.take m)) W' ∧ Bk W' wr.heap.size 41 (ndArr ⟨kd, nm, tx, al, pa, fi, la, pr, ne⟩ (.slice A5 al.length c5)) ∧ AVal W' (.slice A5 al.length c5) al ∧ bb < wr.heap.size)
          ⟨HS.out.grow HKG.out ((Below.refl _ _).alloc (Nat.le_refl _) _), Bk.new wr 41 _, HAX.out.below ((Below.refl _ _).alloc (Nat.le_refl _) _) (Nat.le_refl _), HS.out.st.bld.lt.2⟩ ?_
        rintro W4 ⟨hs4, hk4, ha4, hbb4⟩
        obtain ⟨B7, hB7⟩ : ∃ B, wr.heap.size = B := ⟨_, rfl⟩
        rw [hB7] at hk4 hbb4 ⊢
        clear HS HAX y0 y1 y2 y3 y4 y5 y6 y7 y8 s0 hkc hB7
        have z0 : W4.cell? ⟨B7, 0, none⟩ = some (.int .i64 kd) := hk4.cell 0
        have HS4 := Lib.hid hs4
        have HK4 := Lib.hid hk4
        have HA4 := Lib.hid ha4
        clear hs4 hk4 ha4
        by_cases hk2 : kd = 2
        · have d2 : (kd == 2) = true := by rw [beq_iff_eq]; exact hk2
          have z2 : W4.cell? ⟨B7, 2, none⟩ = some (.string ⟨tx.toArray⟩) := HK4.out.cell 2
          have q1 := (HN.out W4 HS4.out.st.bl).c1
          rw [← nmN_get hkl] at q1
          have sb : W4.cell? ⟨bt, 0, none⟩ = some (.slice (some ⟨b, off, none⟩) n c) := HS4.out.st.tb.cell 0
          have hpl2 := HPL.out
          rw [if_pos hk2] at hpl2
          rw [hpl2] at hlen1 HTK
          obtain ⟨PN, hPN⟩ : ∃ p, nmN l k = p := ⟨_, rfl⟩
          rw [hPN] at q1 hlen1 HTK
          dsimp only [str] at q1
          have HTX := Lib.hid (fun W => textIn_any PN tx hTT W)
          obtain ⟨TX, hTX⟩ : ∃ t, textW PN tx = t := ⟨_, rfl⟩
          simp only [hTX] at HTX
          rw [hTX] at hlen1 HTK
          have k1 : (k : Int) < (n : Int) := by omega
          have k0 : (0 : Int) ≤ (k : Int) := by omega
          have hz : W4.heap.size ≤ W4.heap.size := Nat.le_refl _
          have e1 := fun x b o => ext_cell W4.heap.size W4 x b o
          have lb7 : B7 < W4.heap.size := HK4.out.lt
          have lbt : bt < W4.heap.size := HS4.out.st.tb.lt
          have lb : b < W4.heap.size := World.block_lt_of_cell? _ _ q1
          clear hpl2 hPN hTX HPL hk2
          go_upto_region 5 with fail
          refine region_ext_tail W4.heap.size 9 (by kernel_rfl) (by kernel_rfl) ?_
          simp only [List.take_succ_cons, List.take_zero, List.drop_succ_cons, List.drop_zero]
          repeat quiet_step ((go_at_call 26; exact call_of (HTX.out _) hz))
          refine wpQuiet_nil ?_
          intro w6 hb6
          have HS6 := Lib.hid (HS4.out.grow HKG.out hb6)
          have hz6 : bb ≤ w6.heap.size := Nat.le_of_lt HS6.out.st.bld.lt.2
          have hw6 := write_string (⟨TX.toArray⟩ : ByteArray) HS6.out.st.bld (by rw [str_len]; rw [List.length_append] at hlen1; omega) hz6
          rw [show (⟨TX.toArray⟩ : ByteArray).data.toList = TX from rfl, ← HTK.out] at hw6
          have HW6 := Lib.hid hw6
          clear hw6 HS4 HK4 HA4 z0 z2 q1 sb e1 hb6 hlen1 HTK
          go_wp2_with (go_at_call 25; refine (HW6.out).mono ?_; rintro e w7 ⟨⟨n7, rfl⟩, hb7, bl7, k7⟩; have HS7 := Lib.hid (HS6.out.wrote HKG.out ⟨bl7, k7⟩ hb7); clear hb7 bl7 k7)
          go_roundg (gk - 1)
          case measure => omega
          case rel => exact ⟨m + 1, by omega, by go_num, HS7⟩
        · have d2 : (kd == 2) = false := by rw [beq_eq_false_iff_ne]; exact hk2
          have hpl2 := HPL.out
          rw [if_neg hk2] at hpl2
          have hot := openTag_any ⟨kd, nm, tx, al, pa, fi, la, pr, ne⟩ (.slice A5 al.length c5) (HTG.out hk2) W4 HA4.out
          unfold ndAgg at hot
          dsimp only [str] at hot
          obtain ⟨TG, hTGe⟩ : ∃ t, tagW ⟨kd, nm, tx, al, pa, fi, la, pr, ne⟩ = t := ⟨_, rfl⟩
          rw [hTGe] at hot hpl2
          have z1 : W4.cell? ⟨B7, 1, none⟩ = some (.string ⟨nm.toArray⟩) := HK4.out.cell 1
          have z2 : W4.cell? ⟨B7, 2, none⟩ = some (.string ⟨tx.toArray⟩) := HK4.out.cell 2
          have z3 : W4.cell? ⟨B7, 3, none⟩ = some (.slice A5 al.length c5) := HK4.out.cell 3
          have z4 : W4.cell? ⟨B7, 4, none⟩ = some (.int .i64 pa) := HK4.out.cell 4
          have z5 : W4.cell? ⟨B7, 5, none⟩ = some (.int .i64 fi) := HK4.out.cell 5
          have z6 : W4.cell? ⟨B7, 6, none⟩ = some (.int .i64 la) := HK4.out.cell 6
          have z7 : W4.cell? ⟨B7, 7, none⟩ = some (.int .i64 pr) := HK4.out.cell 7
          have z8 : W4.cell? ⟨B7, 8, none⟩ = some (.int .i64 ne) := HK4.out.cell 8
          have HOT := Lib.hid hot
          have HVO := Lib.hid (fun W => void_any nm W)
          rw [hpl2] at hlen1
          obtain ⟨AC, hAC⟩ : ∃ a, acc ++ piecesW l f k (KS.take m) = a := ⟨_, rfl⟩
          rw [hAC] at HS4 hlen1
          have htk := HTK.out
          rw [hAC, hpl2] at htk
          have HTK2 := Lib.hid htk
          have HWT := Lib.hid (fun W5 (h : InSt w0 W (some ⟨b, off, none⟩) (some ⟨g, 0, none⟩) n c bt bb bf KS AC W5) => write_string (⟨TG.toArray⟩ : ByteArray) h.st.bld (by rw [str_len]; rw [List.length_append, List.length_append] at hlen1; omega) (Nat.le_of_lt h.st.bld.lt.2))
          have HK7 := Lib.hid (fun W5 (h : Wr bb W4 W5) => h.bk HK4.out (by decide) (by omega))
          clear hot hTGe hpl2 HPL HTG HTK hAC htk hk2
          rcases hvo : voidB nm with _ | _
          · rw [hvo] at HVO HTK2 hlen1
            simp only [Bool.false_eq_true, if_false] at hlen1
            have HTK3 : Hid (acc ++ piecesW l f k (KS.take (m + 1)) = AC ++ TG ++ markF l f j ++ ([60, 47] ++ nm ++ [62])) := Lib.hid (by rw [HTK2.out]; simp only [Bool.false_eq_true, if_false, List.append_assoc])
            have hlen2 : (AC ++ TG ++ markF l f j).length + (3 + nm.length) ≤ 70368744177664 := by
              simp only [List.length_append, List.length_cons, List.length_nil] at hlen1 ⊢; omega
            have HREC := Lib.hid (fun W5 (h : InSt w0 W (some ⟨b, off, none⟩) (some ⟨g, 0, none⟩) n c bt bb bf KS (AC ++ TG) W5) => IH.out w0 W5 (some ⟨b, off, none⟩) n c bt bb bf j (AC ++ TG) hl HROW.out h.st (by omega) (by omega) (by omega))
            have g1 : (⟨#[60, 47]⟩ : ByteArray).size + (⟨nm.toArray⟩ : ByteArray).size ≤ 9223372036854775807 := by rw [str_len]; show 2 + nm.length ≤ _; omega
            have g2 : ((⟨#[60, 47]⟩ : ByteArray) ++ (⟨nm.toArray⟩ : ByteArray)).size + (⟨#[62]⟩ : ByteArray).size ≤ 9223372036854775807 := by rw [ByteArray.size_append, str_len]; show 2 + nm.length + 1 ≤ _; omega
            have hcl : ((⟨#[60, 47]⟩ : ByteArray) ++ (⟨nm.toArray⟩ : ByteArray) ++ (⟨#[62]⟩ : ByteArray)).data.toList = [60, 47] ++ nm ++ [62] := by simp only [ByteArray.data_append, Array.toList_append]
            have HWE := Lib.hid (fun W5 (h : InSt w0 W (some ⟨b, off, none⟩) (some ⟨g, 0, none⟩) n c bt bb bf KS (AC ++ TG ++ markF l f j) W5) => (by
              have hw := write_string ((⟨#[60, 47]⟩ : ByteArray) ++ (⟨nm.toArray⟩ : ByteArray) ++ (⟨#[62]⟩ : ByteArray)) h.st.bld (by rw [← size_list, hcl]; simp only [List.length_append, List.length_cons, List.length_nil] at hlen2 ⊢; omega) (Nat.le_of_lt h.st.bld.lt.2)
              rw [hcl, ← HTK3.out] at hw
              exact hw : Calls Tryd.prog 25 #[.pointer (some ⟨bb, 0, none⟩), .string ((⟨#[60, 47]⟩ : ByteArray) ++ (⟨nm.toArray⟩ : ByteArray) ++ (⟨#[62]⟩ : ByteArray))] W5 fun e w' => (∃ n : Int, e = .returned (.tuple #[.int .i64 n, .nilIface])) ∧ Bld w' bb bb (acc ++ piecesW l f k (KS.take (m + 1))) ∧ Below bb W5 w' ∧ Lib.OthersKept 5 (some bb) W5 w'))
            clear hlen1 hlen2 hcl HTK2 HTK3 IH HA4
            go_wp2_with (first
              |(go_at_call 27; refine (HOT.out).mono ?_; rintro e w5 ⟨rfl, b5⟩; have HS5 := Lib.hid (HS4.out.grow HKG.out b5); have HW5 := Lib.hid (Wr.grow (bb := bb) b5 (Nat.le_of_lt HS4.out.st.bld.lt.2)); clear b5)
              | (go_at_call 25; (with_reducible refine (HWT.out _ HS5.out).mono ?_); rintro e w6 ⟨⟨n6, rfl⟩, hb6, bl6, k6⟩; have HS6 := Lib.hid (HS5.out.wrote HKG.out ⟨bl6, k6⟩ hb6); have HW6 := Lib.hid (HW5.out.trans ⟨bl6, k6⟩); have y1 : w6.cell? ⟨B7, 1, none⟩ = some (.string ⟨nm.toArray⟩) := (HK7.out _ HW6.out).cell 1; clear hb6 bl6 k6)
              | (go_at_call 28; refine (HVO.out _).mono ?_; rintro e w7 ⟨rfl, q, hq⟩; have b7 : Below w6.heap.size w6 w7 := (hq ▸ below_drewN (Below.refl _ _) q); have HS7 := Lib.hid (HS6.out.grow HKG.out b7); have HW7 := Lib.hid (HW6.out.trans (Wr.grow (bb := bb) b7 (Nat.le_of_lt HS6.out.st.bld.lt.2))); have f7 : w7.cell? ⟨bf, 0, none⟩ = some (.func (.func 23) #[] #[.pointer (some ⟨bt, 0, none⟩), .pointer (some ⟨bb, 0, none⟩), .pointer (some ⟨bf, 0, none⟩)]) := HS7.out.st.fb.cell 0; clear hq b7)
              | (go_at_call 23; refine (HREC.out _ HS7.out).mono ?_; rintro e w8 ⟨rfl, st8, wr8⟩; have HS8 : Hid (InSt w0 W (some ⟨b, off, none⟩) (some ⟨g, 0, none⟩) n c bt bb bf KS (AC ++ TG ++ markF l f j) w8) := Lib.hid ⟨st8, wr8.krow HS7.out.row HKG.out, HS7.out.wr.trans wr8⟩; have y8 : w8.cell? ⟨B7, 1, none⟩ = some (.string ⟨nm.toArray⟩) := (HK7.out _ (HW7.out.trans wr8)).cell 1; clear st8 wr8)
              | (go_at_call 25; (with_reducible refine (HWE.out _ HS8.out).mono ?_); rintro e w9 ⟨⟨n9, rfl⟩, hb9, bl9, k9⟩; have HS9 := Lib.hid (HS8.out.wrote HKG.out ⟨bl9, k9⟩ hb9); clear hb9 bl9 k9))
            go_roundg (gk - 1)
            case measure => omega
            case rel => exact ⟨m + 1, by omega, by go_num, HS9⟩
          · rw [hvo] at HVO HTK2 hlen1
            have HTK3 : Hid (acc ++ piecesW l f k (KS.take (m + 1)) = AC ++ TG) := Lib.hid (by rw [HTK2.out]; simp)
            clear hlen1 HTK2 IH HA4
            go_wp2_with (first
              |(go_at_call 27; refine (HOT.out).mono ?_; rintro e w5 ⟨rfl, b5⟩; have HS5 := Lib.hid (HS4.out.grow HKG.out b5); have HW5 := Lib.hid (Wr.grow (bb := bb) b5 (Nat.le_of_lt HS4.out.st.bld.lt.2)); clear b5)
              | (go_at_call 25; (with_reducible refine (HWT.out _ HS5.out).mono ?_); rintro e w6 ⟨⟨n6, rfl⟩, hb6, bl6, k6⟩; have HS6 := Lib.hid (HS5.out.wrote HKG.out ⟨bl6, k6⟩ hb6); have HW6 := Lib.hid (HW5.out.trans ⟨bl6, k6⟩); have y1 : w6.cell? ⟨B7, 1, none⟩ = some (.string ⟨nm.toArray⟩) := (HK7.out _ HW6.out).cell 1; clear hb6 bl6 k6)
              | (go_at_call 28; refine (HVO.out _).mono ?_; rintro e w7 ⟨rfl, q, hq⟩; have b7 : Below w6.heap.size w6 w7 := (hq ▸ below_drewN (Below.refl _ _) q); have HS7 := Lib.hid (HS6.out.grow HKG.out b7); have HW7 := Lib.hid (HW6.out.trans (Wr.grow (bb := bb) b7 (Nat.le_of_lt HS6.out.st.bld.lt.2))); have f7 : w7.cell? ⟨bf, 0, none⟩ = some (.func (.func 23) #[] #[.pointer (some ⟨bt, 0, none⟩), .pointer (some ⟨bb, 0, none⟩), .pointer (some ⟨bf, 0, none⟩)]) := HS7.out.st.fb.cell 0; clear hq b7))
            go_roundg (gk - 1)
            case measure => omega
            case rel => exact ⟨m + 1, by omega, by go_num, Lib.hid (by rw [HTK3.out]; exact HS7.out)⟩
      · have i1 : ¬ ((m : Int) < (KS.length : Int)) := by omega
        have HS := Lib.hid hst.out
        rw [List.take_of_length_le (by omega)] at HS
        clear hst
        go_wp2
        go_end0
        exact ⟨rfl, HS.out.st, HS.out.wr⟩
end Go.Proofs.YtdogcnmepaemjaaDoor
