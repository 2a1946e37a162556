/- DomBack walked. No conditions but that nothing is endless. -/
import Derived.Test.YtofllmofdenadaaPc
import Derived.Test.YtofllmofdenadaaLs
import Derived.Test.YtofllmofdenadaaEa
import Derived.Test.YtofllmofdenadaaDt
import Derived.Test.YtofllmofdenadaaDu
import Derived.Test.YtofllmofdenadaaEi
import Derived.Test.YtofllmofdenadaaHc
namespace Go.Proofs.Ytofllmofdenadaa
set_option linter.unusedVariables false
open Go.RowKit Go.Shelf Go.Proofs.Fm Go.Proofs.Fb Go.Proofs.Fd Go.Proofs.Fc

/-- what Make answers, in one form -/
theorem make_one {p : Pt} {w w' : World} {e : Ending} (h : MakeOut p w e w') : ∃ (A : Option Addr) (n c : Nat), e = .returned (.tuple #[.agg #[.slice A n c], .int .i64 (rightE (treeOf p))]) ∧ OTree w.heap.size w' A n c (if rightE (treeOf p) = 0 then treeOf p else []) ∧ n = (if rightE (treeOf p) = 0 then cnt p else 0) ∧ Below w.heap.size w w' := by
  obtain ⟨hb, ⟨h0, rfl⟩ | ⟨h0, A, c, rfl, ho⟩⟩ := h
  · exact ⟨none, 0, 0, rfl, by rw [if_neg h0]; exact OTree.nil _ _, by rw [if_neg h0], hb⟩
  · exact ⟨A, cnt p, c, by rw [h0], by rw [if_pos h0]; exact ho, by rw [if_pos h0], hb⟩
theorem right_saidB {l : List Nd} (h : rightE l = 0) : saidB l = true := by
  unfold rightE at h
  by_cases h1 : 4096 < l.length
  · rw [if_pos h1] at h; omega
  · rw [if_neg h1] at h
    by_cases h2 : saidB l = false
    · rw [if_pos h2] at h; omega
    · simpa using h2
theorem parts_shape {p : Pt} {w w' : World} {e : Ending} (h : PartsOut p w e w') : ∃ (Aa Ak : Option Addr) (ca ck : Nat), e = .returned (.agg #[str p.name, str p.text, .slice Aa p.attrs.length ca, .slice Ak p.kids.length ck]) ∧ AVal w' (.slice Aa p.attrs.length ca) p.attrs ∧ KVal w' (.slice Ak p.kids.length ck) p.kids ∧ Below w.heap.size w w' := by
  obtain ⟨va, vk, rfl, ha, hk, hb⟩ := h
  have h1 := ha.val
  have h2 := hk.read
  obtain ⟨Aa, ca, rfl, -⟩ := ha
  obtain ⟨Ak, ck, rfl, -⟩ := hk
  exact ⟨Aa, Ak, ca, ck, rfl, h1, h2, hb⟩
theorem nrow_bound {w : World} {A : Option Addr} {l : List Nd} (h : NRow w A l) : AttB l := by
  intro x hx
  obtain ⟨i, hi, rfl⟩ := List.getElem_of_mem hx
  obtain ⟨b, off, -, hat⟩ := h.at_ hi
  obtain ⟨v, -, hav⟩ := hat.c3
  obtain ⟨A1, c1, -, -, -, h1, -⟩ := hav.ex
  exact h1
theorem Pt.eta (p : Pt) : p = .mk p.name p.text p.attrs p.kids := by cases p; rfl
set_option maxRecDepth 100000 in
set_option maxHeartbeats 8000000 in
theorem back_walk (w : World) (A : Option Addr) (n c : Nat) (l : List Nd) (hl : l.length = n) (hn : n * 104 ≤ 140737488355328) (ht : NRow w A l) (nm tx : Str) (al : List Att) (ks : List Pt) (A2 K2 : Option Addr) (c2 d2 : Nat) (ha : AVal w (.slice A2 al.length c2) al) (hk : KVal w (.slice K2 ks.length d2) ks) :
    Calls Try.prog 7 #[.agg #[.slice A n c], .agg #[str nm, str tx, .slice A2 al.length c2, .slice K2 ks.length d2]] w fun e w' => e = .returned (.bool true) ∧ Below w.heap.size w w' := by
  obtain ⟨p, hp⟩ : ∃ p, Pt.mk nm tx al ks = p := ⟨_, rfl⟩
  have HTB : Hid (AttB (treeOf p)) := Lib.hid (by rw [← hp]; exact tree_bound ha hk)
  obtain ⟨W0, hW0⟩ : ∃ W, (w.alloc (.cells #[.slice A n c] 24)).alloc (.cells #[str nm, str tx, .slice A2 al.length c2, .slice K2 ks.length d2] 31) = W := ⟨_, rfl⟩
  have hb0 : Below w.heap.size w W0 := hW0 ▸ ((Below.refl _ w).alloc (Nat.le_refl _) _).alloc (by simp) _
  have hk1 : Bk W0 w.heap.size 24 #[.slice A n c] := hW0 ▸ (Bk.new w 24 _).alloc _
  have hk2 : Bk W0 (w.heap.size + 1) 31 #[str nm, str tx, .slice A2 al.length c2, .slice K2 ks.length d2] := hW0 ▸ (by simpa using Bk.new (w.alloc (.cells #[.slice A n c] 24)) 31 #[str nm, str tx, .slice A2 al.length c2, .slice K2 ks.length d2])
  have hd := deep_ok p nm tx al ks A2 K2 al.length c2 d2 0 W0 hp.symm (by omega) (hk.below hb0 (Nat.le_refl _)) (ha.below hb0 (Nat.le_refl _))
  have e0 : ((0 : Nat) : Int) = 0 := rfl
  rw [e0] at hd
  have HD := Lib.hid hd
  have HP := Lib.hid hp
  have HT := Lib.hid ht
  have HA := Lib.hid ha
  have HK := Lib.hid hk
  have HB0 := Lib.hid hb0
  have HK1 := Lib.hid hk1
  have HK2 := Lib.hid hk2
  dsimp only [str] at hk2 hW0 HD HK2 ⊢
  have t0 : W0.cell? ⟨w.heap.size, 0, none⟩ = some (.slice A n c) := hk1.cell 0
  have y0 : W0.cell? ⟨w.heap.size + 1, 0, none⟩ = some (.string ⟨nm.toArray⟩) := hk2.cell 0
  have y1 : W0.cell? ⟨w.heap.size + 1, 1, none⟩ = some (.string ⟨tx.toArray⟩) := hk2.cell 1
  have y2 : W0.cell? ⟨w.heap.size + 1, 2, none⟩ = some (.slice A2 al.length c2) := hk2.cell 2
  have y3 : W0.cell? ⟨w.heap.size + 1, 3, none⟩ = some (.slice K2 ks.length d2) := hk2.cell 3
  have lt := hk1.lt
  have ly := hk2.lt
  have hz0 := hb0.size
  have HW0 := Lib.hid hW0
  clear hp ht ha hk hb0 hk1 hk2 hd e0 hW0
  go_enter Try.func7, Try.ntmps7
  go_upto_region 1 with fail
  rw [HW0.out]
  clear HW0
  by_cases hbig : 300 < n
  · have i1 : (300 : Int) < (n : Int) := by omega
    go_wp2_with (go_at_call 18; refine (known_any _).mono ?_; rintro e w8 ⟨rfl, hb8⟩; have HB8 := Lib.hid (HB0.out.trans (hb8.mono HB0.out.size)); clear hb8)
    go_ret
    exact ⟨rfl, HB8.out⟩
  · have i1 : ¬ ((300 : Int) < (n : Int)) := by omega
    go_upto_if 17 with (go_at_call 22; refine (HD.out).mono ?_; rintro e w1 ⟨R, rfl, hR1, hR2, hR3, hb1⟩; have HR3 := Lib.hid hR3; have HB1 := Lib.hid hb1; clear hb1 hR2 hR3)
    clear y0 y1 y2 y3 t0
    have HBW := Lib.hid (HB0.out.trans (HB1.out.mono hz0))
    by_cases hR : R < 2000
    · have i2 : ¬ ((2000 : Int) ≤ (R : Int)) := by omega
      have hps : psize p ≤ 2000 := by have := HR3.out hR; omega
      have HPS := Lib.hid hps
      have hk11 := HK1.out.below HB1.out HK1.out.lt
      have t0 : w1.cell? ⟨w.heap.size, 0, none⟩ = some (.slice A n c) := hk11.cell 0
      have lt1 := hk11.lt
      have HK11 := Lib.hid hk11
      have HK21 := Lib.hid (HK2.out.below HB1.out HK2.out.lt)
      have hrow1 := HT.out.below HBW.out (Nat.le_refl _)
      have HRT := Lib.hid (right_any A n c l hl (by omega) w1 hrow1)
      obtain ⟨E, hE⟩ : ∃ E, rightE l = E := ⟨_, rfl⟩
      rw [hE] at HRT
      have HRW1 := Lib.hid hrow1
      have HE := Lib.hid hE
      clear hps hk11 hrow1 hE HB1 HB0 HK1 HK2
      by_cases hE0 : E = 0
      · subst hE0
        go_upto_region 4 with (go_at_call 14; refine (HRT.out).mono ?_; rintro e w2 ⟨rfl, hb2⟩; have HB2 := Lib.hid hb2; clear hb2)
        have hsB := right_saidB HE.out
        have hsf := said_facts hsB
        have hn4 := (right_said HE.out).2
        obtain ⟨P, hP⟩ : ∃ P, partF l n 0 = P := ⟨_, rfl⟩
        have hPl : treeOf P = l := by rw [← hP]; exact said_back hsf (by omega)
        have hrow2 := HRW1.out.below HB2.out (Nat.le_refl _)
        have HPC := Lib.hid (parts_any A n c l hl (by omega) hsB w2 hrow2)
        rw [hP] at HPC
        have hk12 := HK11.out.below HB2.out HK11.out.lt
        have t2 : w2.cell? ⟨w.heap.size, 0, none⟩ = some (.slice A n c) := hk12.cell 0
        have lt2 := hk12.lt
        have HK12 := Lib.hid hk12
        have HRW2 := Lib.hid hrow2
        have HPL := Lib.hid hPl
        have hcP : cnt P = n := by have := treeOf_length P; rw [hPl] at this; omega
        have hEP : rightE (treeOf P) = 0 := by rw [hPl]; exact HE.out
        have HCP := Lib.hid hcP
        have HEP := Lib.hid hEP
        clear hsB hsf hP hPl hrow2 hk12 hcP hEP t0
        go_upto_region 5 with (first
          | (go_at_call 32; refine (HPC.out).mono ?_; rintro e w3 hpo; obtain ⟨Aa, Ak, ca, ck, rfl, hpa, hpk, hb3⟩ := parts_shape hpo; have HB3 := Lib.hid hb3; have HPA := Lib.hid hpa; have HPK := Lib.hid hpk; have HM := Lib.hid (make_any P P.name P.text P.attrs P.kids Aa Ak ca ck w3 (Pt.eta P) hpa hpk); dsimp only [str] at HM ⊢; clear hpo hpa hpk hb3)
          | (go_at_call 10; refine (HM.out).mono ?_; rintro e w4 hm; obtain ⟨A4, n4, c4, rfl, hot4, hn4', hb4⟩ := make_one hm; rw [HEP.out] at hot4 hn4' ⊢; rw [if_pos rfl] at hot4 hn4'; rw [HCP.out] at hn4'; have HOT4 := Lib.hid hot4; have HN4 := Lib.hid hn4'; have HB4 := Lib.hid hb4; clear hm hot4 hn4' hb4))
        have hn4n := HN4.out
        subst hn4n
        refine wp_gen (fun W => Below w4.heap.size w4 W ∧ Bk W w4.heap.size 24 #[.slice A4 n4 c4]) ⟨(Below.refl _ _).alloc (Nat.le_refl _) _, Bk.new w4 24 _⟩ ?_
        rintro W5 ⟨hb5, hk5⟩
        have hz2 := HB2.out.size
        have hz3 := HB3.out.size
        have hz4 := HB4.out.size
        have hb25 : Below w2.heap.size w2 W5 := HB3.out.trans ((HB4.out.trans (hb5.mono hz4)).mono hz3)
        have hk15 := HK12.out.below hb25 HK12.out.lt
        have t5 : W5.cell? ⟨w.heap.size, 0, none⟩ = some (.slice A n4 c) := hk15.cell 0
        have u5 : W5.cell? ⟨w4.heap.size, 0, none⟩ = some (.slice A4 n4 c4) := hk5.cell 0
        have lt5 := hk15.lt
        have lu5 := hk5.lt
        have hr5 := HRW2.out.below hb25 (Nat.le_refl _)
        have hbd : AttB l := nrow_bound HRW2.out
        have hot5 := HOT4.out.below hb5
        rw [HPL.out] at hot5
        have HST := Lib.hid (sameTree_yes A A4 n4 c c4 l hl (by omega) W5 hr5 (hot5.row hbd))
        have HBW5 := Lib.hid (HBW.out.trans ((HB2.out.trans (hb25.mono hz2)).mono HBW.out.size))
        have HK25 := Lib.hid ((HK21.out.below HB2.out HK21.out.lt).below hb25 (by have := HK21.out.lt; omega))
        clear hb5 hk5 hb25 hk15 hr5 hbd hot5 HRW2 HRW1 HK12 HK11 HB2 HB3 HB4 HOT4 HN4 HPA HPK HPC HM t2
        go_upto_region 7 with (go_at_call 21; refine (HST.out).mono ?_; rintro e w6 ⟨rfl, hb6⟩; have HB6 := Lib.hid hb6; clear hb6)
        refine wp_gen (fun W => Below w.heap.size w W ∧ Bk W (w.heap.size + 1) 31 #[.string ⟨nm.toArray⟩, .string ⟨tx.toArray⟩, .slice A2 al.length c2, .slice K2 ks.length d2]) ⟨HBW5.out.trans (HB6.out.mono HBW5.out.size), HK25.out.below HB6.out HK25.out.lt⟩ ?_
        clear t5 u5 HBW5 HK25 HB6 HST
        rintro W7 ⟨hb7, hp7⟩
        have ha7 := HA.out.below hb7 (Nat.le_refl _)
        have hk7 := HK.out.below hb7 (Nat.le_refl _)
        have x0 : W7.cell? ⟨w.heap.size + 1, 0, none⟩ = some (.string ⟨nm.toArray⟩) := hp7.cell 0
        have x1 : W7.cell? ⟨w.heap.size + 1, 1, none⟩ = some (.string ⟨tx.toArray⟩) := hp7.cell 1
        have x2 : W7.cell? ⟨w.heap.size + 1, 2, none⟩ = some (.slice A2 al.length c2) := hp7.cell 2
        have x3 : W7.cell? ⟨w.heap.size + 1, 3, none⟩ = some (.slice K2 ks.length d2) := hp7.cell 3
        have lx := hp7.lt
        have HM7 := Lib.hid (make_any p nm tx al ks A2 K2 c2 d2 W7 HP.out.symm ha7 hk7)
        dsimp only [str] at HM7
        have HB7 := Lib.hid hb7
        have HP7 := Lib.hid hp7
        clear hb7 hp7 ha7 hk7
        go_upto_region 8 with (go_at_call 10; refine (HM7.out).mono ?_; rintro e w8 hm; obtain ⟨A8, n8, c8, rfl, hot8, hn8, hb8⟩ := make_one hm; have HOT8 := Lib.hid hot8; have HN8 := Lib.hid hn8; have HB8 := Lib.hid hb8; clear hm hot8 hn8 hb8)
        refine wp_gen (fun W => Below w8.heap.size w8 W ∧ Bk W w8.heap.size 24 #[.slice A8 n8 c8]) ⟨(Below.refl _ _).alloc (Nat.le_refl _) _, Bk.new w8 24 _⟩ ?_
        clear x0 x1 x2 x3
        rintro W9 ⟨hb9, hk9⟩
        have hz8 := HB8.out.size
        have hb79 : Below W7.heap.size W7 W9 := HB8.out.trans (hb9.mono hz8)
        have hp9 := HP7.out.below hb79 HP7.out.lt
        have HBW9 := Lib.hid (HB7.out.trans (hb79.mono HB7.out.size))
        have u9 : W9.cell? ⟨w8.heap.size, 0, none⟩ = some (.slice A8 n8 c8) := hk9.cell 0
        have lu9 := hk9.lt
        have HOT9 := Lib.hid (HOT8.out.below hb9)
        have HP9 := Lib.hid hp9
        clear hb9 hb79 hp9
        obtain ⟨F, hF⟩ : ∃ F, rightE (treeOf p) = F := ⟨_, rfl⟩
        rw [hF] at HOT9 HN8 ⊢
        by_cases hF0 : F = 0
        · subst hF0
          rw [if_pos rfl] at HOT9 HN8
          have hn8 := HN8.out
          have hsB := right_saidB hF
          have HF := Lib.hid hF
          have hcn : cnt p ≤ 2000 := by have := cnt_psize p; have := HPS.out; omega
          have hlen : (treeOf p).length = n8 := by rw [treeOf_length, hn8]
          have hr9 := HOT9.out.row HTB.out
          have HR9 := Lib.hid hr9
          have HSB := Lib.hid hsB
          have HLEN := Lib.hid hlen
          have hroot : partF (treeOf p) n8 0 = cleanP p := part_root p (by omega)
          have HROOT := Lib.hid hroot
          have y0 : W9.cell? ⟨w.heap.size + 1, 0, none⟩ = some (.string ⟨nm.toArray⟩) := HP9.out.cell 0
          have y1 : W9.cell? ⟨w.heap.size + 1, 1, none⟩ = some (.string ⟨tx.toArray⟩) := HP9.out.cell 1
          have y2 : W9.cell? ⟨w.heap.size + 1, 2, none⟩ = some (.slice A2 al.length c2) := HP9.out.cell 2
          have y3 : W9.cell? ⟨w.heap.size + 1, 3, none⟩ = some (.slice K2 ks.length d2) := HP9.out.cell 3
          have ly9 := HP9.out.lt
          have hn8b : n8 ≤ 2000 := by omega
          clear hn8 hsB hF hcn hlen hr9 hroot HOT8 HOT9 HN8 HM7
          go_upto_region 10 with fail
          have eX := fun y b o => ext_cell W9.heap.size W9 y b o
          have HG0 := Lib.hid ((Below.refl W9.heap.size W9).drew)
          refine region_U (fun w' => ∃ x, w' = ext W9.heap.size W9 x) (by kernel_rfl) ?_
          refine wpU_take 0 rfl (by kernel_rfl) ?_; dsimp only [List.getElem_toArray, List.getElem_cons_zero, List.getElem_cons_succ]; go_big_quiet_step (fail); refine wpQuiet_nil ?_
          have HC := Lib.hid (HF.out ▸ right_any A8 n8 c8 (treeOf p) HLEN.out (by omega) W9.drew (HR9.out.below HG0.out (Nat.le_refl _)))
          refine wpU_alone 1 rfl (by kernel_rfl) (of_below HG0.out) ?_
          go_wp2_with (go_at_call 14; refine (HC.out).mono ?_; rintro e v1 ⟨rfl, hb1⟩; have HG1 := Lib.hid (HG0.out.trans (hb1.mono HG0.out.size)); clear hb1)
          refine only_on ?_
          clear HC
          refine wpU_take 2 rfl (by kernel_rfl) ?_; dsimp only [List.getElem_toArray, List.getElem_cons_zero, List.getElem_cons_succ]; go_big_quiet_step (fail); refine wpQuiet_nil ?_
          refine wpU_take 3 rfl (by kernel_rfl) ?_; dsimp only [List.getElem_toArray, List.getElem_cons_zero, List.getElem_cons_succ]; go_big_quiet_step (fail); refine wpQuiet_nil ?_
          refine wpU_take 4 rfl (by kernel_rfl) ?_; dsimp only [List.getElem_toArray, List.getElem_cons_zero, List.getElem_cons_succ]; go_big_quiet_step (fail); refine wpQuiet_nil ?_
          refine wpU_take 6 rfl (by kernel_rfl) ?_; dsimp only [List.getElem_toArray, List.getElem_cons_zero, List.getElem_cons_succ]; go_big_quiet_step (fail); refine wpQuiet_nil ?_
          have HC := Lib.hid (parts_any A8 n8 c8 (treeOf p) HLEN.out (by omega) HSB.out v1 (HR9.out.below HG1.out (Nat.le_refl _)))
          rw [HROOT.out] at HC
          refine wpU_alone 5 rfl (by kernel_rfl) (of_below HG1.out) ?_
          go_wp2_with (go_at_call 32; refine (HC.out).mono ?_; rintro e v2 hpo; obtain ⟨Aa, Ak, ca, ck, rfl, hpa, hpk, hb1⟩ := parts_shape hpo; have HPA := Lib.hid hpa; have HPK := Lib.hid hpk; have HV2 := Lib.hid hb1; have HG2 := Lib.hid (HG1.out.trans (hb1.mono HG1.out.size)); dsimp only [str]; clear hpo hpa hpk hb1)
          refine only_on ?_
          clear HC
          have hbv := HBW9.out.trans (HG2.out.mono HBW9.out.size)
          have HC := Lib.hid (clean_ok p nm tx al ks A2 K2 c2 d2 v2 v2 HP.out.symm HPS.out (HA.out.below hbv (Nat.le_refl _)) (HK.out.below hbv (Nat.le_refl _)) (Below.refl _ _))
          dsimp only [str] at HC
          clear hbv
          refine wpU_alone 7 rfl (by kernel_rfl) (of_below HG2.out) ?_
          go_wp2_with (go_at_call 34; refine (HC.out).mono ?_; rintro e v3 ⟨vb, Kb, db, rfl, hva, hkr, hb1⟩; have hkb := hkr.read hb1; have hvb := hva.below hb1 (Nat.le_refl _); obtain ⟨Ab, cb, rfl, -⟩ := hva.ex; have HVA := Lib.hid hvb; have HVK := Lib.hid hkb; have HV3 := Lib.hid hb1; have HG3 := Lib.hid (HG2.out.trans (hb1.mono HG2.out.size)); dsimp only [str]; clear hva hkr hb1 hkb hvb)
          refine only_on ?_
          clear HC
          have HC := Lib.hid (same_ok (cleanP p) (cleanP p).name (cleanP p).text (cleanP p).attrs (cleanP p).kids Aa Ak Ab Kb ca ck cb db v3 (Pt.eta _) (HPA.out.below HV3.out (Nat.le_refl _)) (HPK.out.below HV3.out (Nat.le_refl _)) HVA.out HVK.out)
          dsimp only [str] at HC
          refine wpU_alone 8 rfl (by kernel_rfl) (of_below HG3.out) ?_
          go_wp2_with (go_at_call 33; refine (HC.out).mono ?_; rintro e v4 ⟨rfl, hb1⟩; have HG4 := Lib.hid (HG3.out.trans (hb1.mono HG3.out.size)); clear hb1)
          refine only_on ?_
          clear HC
          refine wpU_take 9 rfl (by kernel_rfl) ?_; dsimp only [List.getElem_toArray, List.getElem_cons_zero, List.getElem_cons_succ]; go_big_quiet_step (fail); refine wpQuiet_nil ?_
          refine wpU_take 10 rfl (by kernel_rfl) ?_; dsimp only [List.getElem_toArray, List.getElem_cons_zero, List.getElem_cons_succ]; go_big_quiet_step (fail); refine wpQuiet_nil ?_
          refine wpU_alone 11 rfl (by kernel_rfl) (of_below HG4.out) ?_
          go_wp2_with (go_at_call 18; refine (known_any _).mono ?_; rintro e v5 ⟨rfl, hb1⟩; have HG5 := Lib.hid (HG4.out.trans (hb1.mono HG4.out.size)); clear hb1)
          refine only_on ?_
          refine wpU_take 12 rfl (by kernel_rfl) ?_; dsimp only [List.getElem_toArray, List.getElem_cons_zero, List.getElem_cons_succ]; go_big_quiet_step (fail); refine wpQuiet_nil ?_
          refine wpU_take 13 rfl (by kernel_rfl) ?_; dsimp only [List.getElem_toArray, List.getElem_cons_zero, List.getElem_cons_succ]; go_big_quiet_step (fail); refine wpQuiet_nil ?_
          refine wpU_end (by kernel_rfl) (of_below HG5.out) ?_
          have HFIN := Lib.hid (HBW9.out.trans (HG5.out.mono HBW9.out.size))
          go_wp2
          go_ret
          exact ⟨rfl, HFIN.out⟩
        · rw [if_neg hF0] at HOT9 HN8
          have hn8 := HN8.out
          subst hn8
          have i4 : (F != 0) = true := by simpa using hF0
          go_wp2_with (go_at_call 18; refine (known_any _).mono ?_; rintro e v5 ⟨rfl, hb1⟩; have HFIN := Lib.hid (HBW9.out.trans (hb1.mono HBW9.out.size)); clear hb1)
          go_ret
          exact ⟨rfl, HFIN.out⟩
      · have i3 : (E == 0) = false := by simpa using hE0
        go_upto_region 7 with (go_at_call 14; refine (HRT.out).mono ?_; rintro e w2 ⟨rfl, hb2⟩; have HB2 := Lib.hid hb2; clear hb2)
        refine wp_gen (fun W => Below w.heap.size w W ∧ Bk W (w.heap.size + 1) 31 #[.string ⟨nm.toArray⟩, .string ⟨tx.toArray⟩, .slice A2 al.length c2, .slice K2 ks.length d2]) ⟨HBW.out.trans (HB2.out.mono HBW.out.size), HK21.out.below HB2.out HK21.out.lt⟩ ?_
        clear t0 HB2 HRW1 HK11 HRT
        rintro W7 ⟨hb7, hp7⟩
        have ha7 := HA.out.below hb7 (Nat.le_refl _)
        have hk7 := HK.out.below hb7 (Nat.le_refl _)
        have x0 : W7.cell? ⟨w.heap.size + 1, 0, none⟩ = some (.string ⟨nm.toArray⟩) := hp7.cell 0
        have x1 : W7.cell? ⟨w.heap.size + 1, 1, none⟩ = some (.string ⟨tx.toArray⟩) := hp7.cell 1
        have x2 : W7.cell? ⟨w.heap.size + 1, 2, none⟩ = some (.slice A2 al.length c2) := hp7.cell 2
        have x3 : W7.cell? ⟨w.heap.size + 1, 3, none⟩ = some (.slice K2 ks.length d2) := hp7.cell 3
        have lx := hp7.lt
        have HM7 := Lib.hid (make_any p nm tx al ks A2 K2 c2 d2 W7 HP.out.symm ha7 hk7)
        dsimp only [str] at HM7
        have HB7 := Lib.hid hb7
        have HP7 := Lib.hid hp7
        clear hb7 hp7 ha7 hk7
        go_upto_region 8 with (go_at_call 10; refine (HM7.out).mono ?_; rintro e w8 hm; obtain ⟨A8, n8, c8, rfl, hot8, hn8, hb8⟩ := make_one hm; have HOT8 := Lib.hid hot8; have HN8 := Lib.hid hn8; have HB8 := Lib.hid hb8; clear hm hot8 hn8 hb8)
        refine wp_gen (fun W => Below w8.heap.size w8 W ∧ Bk W w8.heap.size 24 #[.slice A8 n8 c8]) ⟨(Below.refl _ _).alloc (Nat.le_refl _) _, Bk.new w8 24 _⟩ ?_
        clear x0 x1 x2 x3
        rintro W9 ⟨hb9, hk9⟩
        have hz8 := HB8.out.size
        have hb79 : Below W7.heap.size W7 W9 := HB8.out.trans (hb9.mono hz8)
        have hp9 := HP7.out.below hb79 HP7.out.lt
        have HBW9 := Lib.hid (HB7.out.trans (hb79.mono HB7.out.size))
        have u9 : W9.cell? ⟨w8.heap.size, 0, none⟩ = some (.slice A8 n8 c8) := hk9.cell 0
        have lu9 := hk9.lt
        have HOT9 := Lib.hid (HOT8.out.below hb9)
        have HP9 := Lib.hid hp9
        clear hb9 hb79 hp9
        obtain ⟨F, hF⟩ : ∃ F, rightE (treeOf p) = F := ⟨_, rfl⟩
        rw [hF] at HOT9 HN8 ⊢
        by_cases hF0 : F = 0
        · subst hF0
          rw [if_pos rfl] at HOT9 HN8
          have hn8 := HN8.out
          have hsB := right_saidB hF
          have HF := Lib.hid hF
          have hcn : cnt p ≤ 2000 := by have := cnt_psize p; have := HPS.out; omega
          have hlen : (treeOf p).length = n8 := by rw [treeOf_length, hn8]
          have hr9 := HOT9.out.row HTB.out
          have HR9 := Lib.hid hr9
          have HSB := Lib.hid hsB
          have HLEN := Lib.hid hlen
          have hroot : partF (treeOf p) n8 0 = cleanP p := part_root p (by omega)
          have HROOT := Lib.hid hroot
          have y0 : W9.cell? ⟨w.heap.size + 1, 0, none⟩ = some (.string ⟨nm.toArray⟩) := HP9.out.cell 0
          have y1 : W9.cell? ⟨w.heap.size + 1, 1, none⟩ = some (.string ⟨tx.toArray⟩) := HP9.out.cell 1
          have y2 : W9.cell? ⟨w.heap.size + 1, 2, none⟩ = some (.slice A2 al.length c2) := HP9.out.cell 2
          have y3 : W9.cell? ⟨w.heap.size + 1, 3, none⟩ = some (.slice K2 ks.length d2) := HP9.out.cell 3
          have ly9 := HP9.out.lt
          have hn8b : n8 ≤ 2000 := by omega
          clear hn8 hsB hF hcn hlen hr9 hroot HOT8 HOT9 HN8 HM7
          go_upto_region 10 with fail
          have eX := fun y b o => ext_cell W9.heap.size W9 y b o
          have HG0 := Lib.hid ((Below.refl W9.heap.size W9).drew)
          refine region_U (fun w' => ∃ x, w' = ext W9.heap.size W9 x) (by kernel_rfl) ?_
          refine wpU_take 0 rfl (by kernel_rfl) ?_; dsimp only [List.getElem_toArray, List.getElem_cons_zero, List.getElem_cons_succ]; go_big_quiet_step (fail); refine wpQuiet_nil ?_
          have HC := Lib.hid (HF.out ▸ right_any A8 n8 c8 (treeOf p) HLEN.out (by omega) W9.drew (HR9.out.below HG0.out (Nat.le_refl _)))
          refine wpU_alone 1 rfl (by kernel_rfl) (of_below HG0.out) ?_
          go_wp2_with (go_at_call 14; refine (HC.out).mono ?_; rintro e v1 ⟨rfl, hb1⟩; have HG1 := Lib.hid (HG0.out.trans (hb1.mono HG0.out.size)); clear hb1)
          refine only_on ?_
          clear HC
          refine wpU_take 2 rfl (by kernel_rfl) ?_; dsimp only [List.getElem_toArray, List.getElem_cons_zero, List.getElem_cons_succ]; go_big_quiet_step (fail); refine wpQuiet_nil ?_
          refine wpU_take 3 rfl (by kernel_rfl) ?_; dsimp only [List.getElem_toArray, List.getElem_cons_zero, List.getElem_cons_succ]; go_big_quiet_step (fail); refine wpQuiet_nil ?_
          refine wpU_take 4 rfl (by kernel_rfl) ?_; dsimp only [List.getElem_toArray, List.getElem_cons_zero, List.getElem_cons_succ]; go_big_quiet_step (fail); refine wpQuiet_nil ?_
          refine wpU_take 6 rfl (by kernel_rfl) ?_; dsimp only [List.getElem_toArray, List.getElem_cons_zero, List.getElem_cons_succ]; go_big_quiet_step (fail); refine wpQuiet_nil ?_
          have HC := Lib.hid (parts_any A8 n8 c8 (treeOf p) HLEN.out (by omega) HSB.out v1 (HR9.out.below HG1.out (Nat.le_refl _)))
          rw [HROOT.out] at HC
          refine wpU_alone 5 rfl (by kernel_rfl) (of_below HG1.out) ?_
          go_wp2_with (go_at_call 32; refine (HC.out).mono ?_; rintro e v2 hpo; obtain ⟨Aa, Ak, ca, ck, rfl, hpa, hpk, hb1⟩ := parts_shape hpo; have HPA := Lib.hid hpa; have HPK := Lib.hid hpk; have HV2 := Lib.hid hb1; have HG2 := Lib.hid (HG1.out.trans (hb1.mono HG1.out.size)); dsimp only [str]; clear hpo hpa hpk hb1)
          refine only_on ?_
          clear HC
          have hbv := HBW9.out.trans (HG2.out.mono HBW9.out.size)
          have HC := Lib.hid (clean_ok p nm tx al ks A2 K2 c2 d2 v2 v2 HP.out.symm HPS.out (HA.out.below hbv (Nat.le_refl _)) (HK.out.below hbv (Nat.le_refl _)) (Below.refl _ _))
          dsimp only [str] at HC
          clear hbv
          refine wpU_alone 7 rfl (by kernel_rfl) (of_below HG2.out) ?_
          go_wp2_with (go_at_call 34; refine (HC.out).mono ?_; rintro e v3 ⟨vb, Kb, db, rfl, hva, hkr, hb1⟩; have hkb := hkr.read hb1; have hvb := hva.below hb1 (Nat.le_refl _); obtain ⟨Ab, cb, rfl, -⟩ := hva.ex; have HVA := Lib.hid hvb; have HVK := Lib.hid hkb; have HV3 := Lib.hid hb1; have HG3 := Lib.hid (HG2.out.trans (hb1.mono HG2.out.size)); dsimp only [str]; clear hva hkr hb1 hkb hvb)
          refine only_on ?_
          clear HC
          have HC := Lib.hid (same_ok (cleanP p) (cleanP p).name (cleanP p).text (cleanP p).attrs (cleanP p).kids Aa Ak Ab Kb ca ck cb db v3 (Pt.eta _) (HPA.out.below HV3.out (Nat.le_refl _)) (HPK.out.below HV3.out (Nat.le_refl _)) HVA.out HVK.out)
          dsimp only [str] at HC
          refine wpU_alone 8 rfl (by kernel_rfl) (of_below HG3.out) ?_
          go_wp2_with (go_at_call 33; refine (HC.out).mono ?_; rintro e v4 ⟨rfl, hb1⟩; have HG4 := Lib.hid (HG3.out.trans (hb1.mono HG3.out.size)); clear hb1)
          refine only_on ?_
          clear HC
          refine wpU_take 9 rfl (by kernel_rfl) ?_; dsimp only [List.getElem_toArray, List.getElem_cons_zero, List.getElem_cons_succ]; go_big_quiet_step (fail); refine wpQuiet_nil ?_
          refine wpU_take 10 rfl (by kernel_rfl) ?_; dsimp only [List.getElem_toArray, List.getElem_cons_zero, List.getElem_cons_succ]; go_big_quiet_step (fail); refine wpQuiet_nil ?_
          refine wpU_alone 11 rfl (by kernel_rfl) (of_below HG4.out) ?_
          go_wp2_with (go_at_call 18; refine (known_any _).mono ?_; rintro e v5 ⟨rfl, hb1⟩; have HG5 := Lib.hid (HG4.out.trans (hb1.mono HG4.out.size)); clear hb1)
          refine only_on ?_
          refine wpU_take 12 rfl (by kernel_rfl) ?_; dsimp only [List.getElem_toArray, List.getElem_cons_zero, List.getElem_cons_succ]; go_big_quiet_step (fail); refine wpQuiet_nil ?_
          refine wpU_take 13 rfl (by kernel_rfl) ?_; dsimp only [List.getElem_toArray, List.getElem_cons_zero, List.getElem_cons_succ]; go_big_quiet_step (fail); refine wpQuiet_nil ?_
          refine wpU_end (by kernel_rfl) (of_below HG5.out) ?_
          have HFIN := Lib.hid (HBW9.out.trans (HG5.out.mono HBW9.out.size))
          go_wp2
          go_ret
          exact ⟨rfl, HFIN.out⟩
        · rw [if_neg hF0] at HOT9 HN8
          have hn8 := HN8.out
          subst hn8
          have i4 : (F != 0) = true := by simpa using hF0
          go_wp2_with (go_at_call 18; refine (known_any _).mono ?_; rintro e v5 ⟨rfl, hb1⟩; have HFIN := Lib.hid (HBW9.out.trans (hb1.mono HBW9.out.size)); clear hb1)
          go_ret
          exact ⟨rfl, HFIN.out⟩
    · have i2 : (2000 : Int) ≤ (R : Int) := by omega
      go_wp2_with (go_at_call 18; refine (known_any _).mono ?_; rintro e w8 ⟨rfl, hb8⟩; have HB8 := Lib.hid (HBW.out.trans (hb8.mono HBW.out.size)); clear hb8)
      go_ret
      exact ⟨rfl, HB8.out⟩
end Go.Proofs.Ytofllmofdenadaa
