/- WriteNumbers walked. No conditions but what the world holds of the library's tables. -/
import Derived.Test.YtdogcnmepaemjaaDoorRq
namespace Go.Proofs.YtdogcnmepaemjaaDoor
set_option linter.unusedVariables false
open Go.RowKit Go.Proofs.Fm Go.Proofs.Fb Go.Proofs.Fu Go.Proofs.Fr Go.Proofs.Fd Go.Proofs.Fc

def smpA : Pt := .mk [114, 111, 111, 116] [] [] [.mk [117, 108] [] [] [.mk [] [120] [] []]]
theorem smpA_right : rightE (treeOf smpA) = 0 := by decide +kernel
theorem smpA_cnt : cnt smpA = 3 := by decide +kernel
theorem smpA_fit : fitB (treeOf smpA) = true := by decide +kernel
theorem smpA_canon : canonB (treeOf smpA) = false := by decide +kernel
def smpB : Pt := .mk [114, 111, 111, 116] [] [] [.mk [112] [] [] [.mk [100, 105, 118] [] [] []]]
theorem smpB_right : rightE (treeOf smpB) = 0 := by decide +kernel
theorem smpB_cnt : cnt smpB = 3 := by decide +kernel
theorem smpB_fit : fitB (treeOf smpB) = true := by decide +kernel
theorem smpB_canon : canonB (treeOf smpB) = false := by decide +kernel
def smpC : Pt := .mk [114, 111, 111, 116] [] [] [.mk [98, 114] [] [] []]
theorem smpC_right : rightE (treeOf smpC) = 0 := by decide +kernel
theorem smpC_cnt : cnt smpC = 2 := by decide +kernel
theorem smpC_fit : fitB (treeOf smpC) = true := by decide +kernel
theorem smpC_canon : canonB (treeOf smpC) = true := by decide +kernel
def smpD : Pt := .mk [114, 111, 111, 116] [] [] [.mk [116, 97, 98, 108, 101] [] [] [.mk [] [32] [] []]]
theorem smpD_right : rightE (treeOf smpD) = 0 := by decide +kernel
theorem smpD_cnt : cnt smpD = 3 := by decide +kernel
theorem smpD_fit : fitB (treeOf smpD) = true := by decide +kernel
theorem smpD_canon : canonB (treeOf smpD) = false := by decide +kernel
def smpE : Pt := .mk [100, 105, 118] [] [] []
theorem smpE_right : rightE (treeOf smpE) = 0 := by decide +kernel
theorem smpE_cnt : cnt smpE = 1 := by decide +kernel
theorem smpE_fit : fitB (treeOf smpE) = true := by decide +kernel
theorem smpE_canon : canonB (treeOf smpE) = false := by decide +kernel
theorem smpC_mark : markupW (treeOf smpC) = [60, 98, 114, 62] := by decide +kernel
theorem canon_none : canonB [] = false := rfl
theorem mark_none : markupW [] = [] := by decide +kernel
theorem esc_run1 : escS false [34, 38, 60, 62, 194, 160, 13] = [34, 38, 97, 109, 112, 59, 38, 108, 116, 59, 38, 103, 116, 59, 38, 110, 98, 115, 112, 59, 38, 35, 49, 51, 59] := by decide +kernel
theorem esc_run2 : escS true [34] = [38, 113, 117, 111, 116, 59] := by decide +kernel
theorem makeA (w : World) : Calls Tryd.prog 6 #[.agg #[str [114, 111, 111, 116], str [], .slice none 0 0, .slice (some ⟨w.heap.size + 1, 0, none⟩) 1 1]] ((w.alloc (.cells #[str [], str [120], .slice none 0 0, .slice none 0 0] 31)).alloc (.cells #[str [117, 108], str [], .slice none 0 0, .slice (some ⟨w.heap.size, 0, none⟩) 1 1] 31)) (MadeT smpA ((w.alloc (.cells #[str [], str [120], .slice none 0 0, .slice none 0 0] 31)).alloc (.cells #[str [117, 108], str [], .slice none 0 0, .slice (some ⟨w.heap.size, 0, none⟩) 1 1] 31))) ∧ Below w.heap.size w ((w.alloc (.cells #[str [], str [120], .slice none 0 0, .slice none 0 0] 31)).alloc (.cells #[str [117, 108], str [], .slice none 0 0, .slice (some ⟨w.heap.size, 0, none⟩) 1 1] 31)) := by
  have h0 := kval_one w [] [120] (.slice none 0 0) [] none 0 0 [] (AVal.nil _) (kval_nil _)
  have h1 := kval_one (w.alloc (.cells #[str [], str [120], .slice none 0 0, .slice none 0 0] 31)) [117, 108] [] (.slice none 0 0) [] _ 1 1 _ (AVal.nil _) h0
  simp only [al_size] at h1
  have hm := made_any smpA [114, 111, 111, 116] [] [] _ none _ 0 1 _ rfl smpA_right (AVal.nil _) h1
  simp only [List.length_nil, List.length_cons] at hm
  refine ⟨hm, ?_⟩
  exact ((Below.refl w.heap.size w).alloc (by simp) _).alloc (by simp) _
theorem makeB (w : World) : Calls Tryd.prog 6 #[.agg #[str [114, 111, 111, 116], str [], .slice none 0 0, .slice (some ⟨w.heap.size + 1, 0, none⟩) 1 1]] ((w.alloc (.cells #[str [100, 105, 118], str [], .slice none 0 0, .slice none 0 0] 31)).alloc (.cells #[str [112], str [], .slice none 0 0, .slice (some ⟨w.heap.size, 0, none⟩) 1 1] 31)) (MadeT smpB ((w.alloc (.cells #[str [100, 105, 118], str [], .slice none 0 0, .slice none 0 0] 31)).alloc (.cells #[str [112], str [], .slice none 0 0, .slice (some ⟨w.heap.size, 0, none⟩) 1 1] 31))) ∧ Below w.heap.size w ((w.alloc (.cells #[str [100, 105, 118], str [], .slice none 0 0, .slice none 0 0] 31)).alloc (.cells #[str [112], str [], .slice none 0 0, .slice (some ⟨w.heap.size, 0, none⟩) 1 1] 31)) := by
  have h0 := kval_one w [100, 105, 118] [] (.slice none 0 0) [] none 0 0 [] (AVal.nil _) (kval_nil _)
  have h1 := kval_one (w.alloc (.cells #[str [100, 105, 118], str [], .slice none 0 0, .slice none 0 0] 31)) [112] [] (.slice none 0 0) [] _ 1 1 _ (AVal.nil _) h0
  simp only [al_size] at h1
  have hm := made_any smpB [114, 111, 111, 116] [] [] _ none _ 0 1 _ rfl smpB_right (AVal.nil _) h1
  simp only [List.length_nil, List.length_cons] at hm
  refine ⟨hm, ?_⟩
  exact ((Below.refl w.heap.size w).alloc (by simp) _).alloc (by simp) _
theorem makeC (w : World) : Calls Tryd.prog 6 #[.agg #[str [114, 111, 111, 116], str [], .slice none 0 0, .slice (some ⟨w.heap.size, 0, none⟩) 1 1]] (w.alloc (.cells #[str [98, 114], str [], .slice none 0 0, .slice none 0 0] 31)) (MadeT smpC (w.alloc (.cells #[str [98, 114], str [], .slice none 0 0, .slice none 0 0] 31))) ∧ Below w.heap.size w (w.alloc (.cells #[str [98, 114], str [], .slice none 0 0, .slice none 0 0] 31)) := by
  have h0 := kval_one w [98, 114] [] (.slice none 0 0) [] none 0 0 [] (AVal.nil _) (kval_nil _)
  have hm := made_any smpC [114, 111, 111, 116] [] [] _ none _ 0 1 _ rfl smpC_right (AVal.nil _) h0
  simp only [List.length_nil, List.length_cons] at hm
  refine ⟨hm, ?_⟩
  exact (Below.refl w.heap.size w).alloc (by simp) _
theorem makeD (w : World) : Calls Tryd.prog 6 #[.agg #[str [114, 111, 111, 116], str [], .slice none 0 0, .slice (some ⟨w.heap.size + 1, 0, none⟩) 1 1]] ((w.alloc (.cells #[str [], str [32], .slice none 0 0, .slice none 0 0] 31)).alloc (.cells #[str [116, 97, 98, 108, 101], str [], .slice none 0 0, .slice (some ⟨w.heap.size, 0, none⟩) 1 1] 31)) (MadeT smpD ((w.alloc (.cells #[str [], str [32], .slice none 0 0, .slice none 0 0] 31)).alloc (.cells #[str [116, 97, 98, 108, 101], str [], .slice none 0 0, .slice (some ⟨w.heap.size, 0, none⟩) 1 1] 31))) ∧ Below w.heap.size w ((w.alloc (.cells #[str [], str [32], .slice none 0 0, .slice none 0 0] 31)).alloc (.cells #[str [116, 97, 98, 108, 101], str [], .slice none 0 0, .slice (some ⟨w.heap.size, 0, none⟩) 1 1] 31)) := by
  have h0 := kval_one w [] [32] (.slice none 0 0) [] none 0 0 [] (AVal.nil _) (kval_nil _)
  have h1 := kval_one (w.alloc (.cells #[str [], str [32], .slice none 0 0, .slice none 0 0] 31)) [116, 97, 98, 108, 101] [] (.slice none 0 0) [] _ 1 1 _ (AVal.nil _) h0
  simp only [al_size] at h1
  have hm := made_any smpD [114, 111, 111, 116] [] [] _ none _ 0 1 _ rfl smpD_right (AVal.nil _) h1
  simp only [List.length_nil, List.length_cons] at hm
  refine ⟨hm, ?_⟩
  exact ((Below.refl w.heap.size w).alloc (by simp) _).alloc (by simp) _
theorem makeE (w : World) : Calls Tryd.prog 6 #[.agg #[str [100, 105, 118], str [], .slice none 0 0, .slice none 0 0]] w (MadeT smpE w) ∧ Below w.heap.size w w := by
  exact ⟨made_any smpE [100, 105, 118] [] [] [] none none 0 0 w rfl smpE_right (AVal.nil _) (kval_nil _), Below.refl _ _⟩
set_option maxHeartbeats 8000000 in
set_option maxRecDepth 100000 in
theorem numbers_walk (w : World) (he : Env w) : Calls Tryd.prog 3 #[] w fun e w' => e = .returned (.bool true) ∧ Below w.heap.size w w' := by
  have HE := Lib.hid (fun W (h : Below w.heap.size w W) => he.below h he.sz)
  clear he
  go_enter Tryd.func3, Tryd.ntmps3
  go_upto_region 1 with fail
  obtain ⟨hm0, hw0⟩ := makeA w
  simp only [str] at hm0 hw0
  have HM0 := Lib.hid hm0
  have HW0 := Lib.hid hw0
  clear hm0 hw0
  go_upto_region 2 with (go_at_call 6; refine (HM0.out).mono ?_; rintro e w1 ⟨A1, c1, rfl, hr1, hb1⟩; have HR1 := Lib.hid hr1; have HB1 := Lib.hid (HW0.out.trans (hb1.mono HW0.out.size)); clear hr1 hb1)
  refine wp_gen (fun W => TAt W w1.heap.size smpA ∧ Below w.heap.size w W) ⟨⟨A1, c1, Bk.new w1 24 _, HR1.out.below ((Below.refl _ _).alloc (Nat.le_refl _) _) (Nat.le_refl _)⟩, HB1.out.alloc HB1.out.size _⟩ ?_
  obtain ⟨b0, hb0⟩ : ∃ b, w1.heap.size = b := ⟨_, rfl⟩
  rw [hb0]
  clear HM0 HW0 HR1 HB1 hb0
  rintro V0 ⟨ht0, hbl⟩
  have HT0 := Lib.hid ht0
  have HBL := Lib.hid hbl
  clear ht0 hbl
  obtain ⟨hm1, hw1⟩ := makeB V0
  simp only [str] at hm1 hw1
  have HM1 := Lib.hid hm1
  have HW1 := Lib.hid hw1
  clear hm1 hw1
  go_upto_region 3 with (go_at_call 6; refine (HM1.out).mono ?_; rintro e w1 ⟨A1, c1, rfl, hr1, hb1⟩; have HR1 := Lib.hid hr1; have HB1 := Lib.hid (HW1.out.trans (hb1.mono HW1.out.size)); clear hr1 hb1)
  refine wp_gen (fun W => TAt W b0 smpA ∧ TAt W w1.heap.size smpB ∧ Below w.heap.size w W) ⟨HT0.out.below (HB1.out.alloc HB1.out.size _), ⟨A1, c1, Bk.new w1 24 _, HR1.out.below ((Below.refl _ _).alloc (Nat.le_refl _) _) (Nat.le_refl _)⟩, HBL.out.trans ((HB1.out.alloc HB1.out.size _).mono HBL.out.size)⟩ ?_
  obtain ⟨b1, hb1⟩ : ∃ b, w1.heap.size = b := ⟨_, rfl⟩
  rw [hb1]
  clear HM1 HW1 HR1 HB1 hb1 HBL HT0
  rintro V1 ⟨ht0, ht1, hbl⟩
  have HT0 := Lib.hid ht0
  have HT1 := Lib.hid ht1
  have HBL := Lib.hid hbl
  clear ht0 ht1 hbl
  obtain ⟨hm2, hw2⟩ := makeC V1
  simp only [str] at hm2 hw2
  have HM2 := Lib.hid hm2
  have HW2 := Lib.hid hw2
  clear hm2 hw2
  go_upto_region 4 with (go_at_call 6; refine (HM2.out).mono ?_; rintro e w1 ⟨A1, c1, rfl, hr1, hb1⟩; have HR1 := Lib.hid hr1; have HB1 := Lib.hid (HW2.out.trans (hb1.mono HW2.out.size)); clear hr1 hb1)
  refine wp_gen (fun W => TAt W b0 smpA ∧ TAt W b1 smpB ∧ TAt W w1.heap.size smpC ∧ Below w.heap.size w W) ⟨HT0.out.below (HB1.out.alloc HB1.out.size _), HT1.out.below (HB1.out.alloc HB1.out.size _), ⟨A1, c1, Bk.new w1 24 _, HR1.out.below ((Below.refl _ _).alloc (Nat.le_refl _) _) (Nat.le_refl _)⟩, HBL.out.trans ((HB1.out.alloc HB1.out.size _).mono HBL.out.size)⟩ ?_
  obtain ⟨b2, hb2⟩ : ∃ b, w1.heap.size = b := ⟨_, rfl⟩
  rw [hb2]
  clear HM2 HW2 HR1 HB1 hb2 HBL HT0 HT1
  rintro V2 ⟨ht0, ht1, ht2, hbl⟩
  have HT0 := Lib.hid ht0
  have HT1 := Lib.hid ht1
  have HT2 := Lib.hid ht2
  have HBL := Lib.hid hbl
  clear ht0 ht1 ht2 hbl
  obtain ⟨hm3, hw3⟩ := makeD V2
  simp only [str] at hm3 hw3
  have HM3 := Lib.hid hm3
  have HW3 := Lib.hid hw3
  clear hm3 hw3
  go_upto_region 5 with (go_at_call 6; refine (HM3.out).mono ?_; rintro e w1 ⟨A1, c1, rfl, hr1, hb1⟩; have HR1 := Lib.hid hr1; have HB1 := Lib.hid (HW3.out.trans (hb1.mono HW3.out.size)); clear hr1 hb1)
  refine wp_gen (fun W => TAt W b0 smpA ∧ TAt W b1 smpB ∧ TAt W b2 smpC ∧ TAt W w1.heap.size smpD ∧ Below w.heap.size w W) ⟨HT0.out.below (HB1.out.alloc HB1.out.size _), HT1.out.below (HB1.out.alloc HB1.out.size _), HT2.out.below (HB1.out.alloc HB1.out.size _), ⟨A1, c1, Bk.new w1 24 _, HR1.out.below ((Below.refl _ _).alloc (Nat.le_refl _) _) (Nat.le_refl _)⟩, HBL.out.trans ((HB1.out.alloc HB1.out.size _).mono HBL.out.size)⟩ ?_
  obtain ⟨b3, hb3⟩ : ∃ b, w1.heap.size = b := ⟨_, rfl⟩
  rw [hb3]
  clear HM3 HW3 HR1 HB1 hb3 HBL HT0 HT1 HT2
  rintro V3 ⟨ht0, ht1, ht2, ht3, hbl⟩
  have HT0 := Lib.hid ht0
  have HT1 := Lib.hid ht1
  have HT2 := Lib.hid ht2
  have HT3 := Lib.hid ht3
  have HBL := Lib.hid hbl
  clear ht0 ht1 ht2 ht3 hbl
  obtain ⟨hm4, hw4⟩ := makeE V3
  simp only [str] at hm4 hw4
  have HM4 := Lib.hid hm4
  have HW4 := Lib.hid hw4
  clear hm4 hw4
  go_upto_region 6 with (go_at_call 6; refine (HM4.out).mono ?_; rintro e w1 ⟨A1, c1, rfl, hr1, hb1⟩; have HR1 := Lib.hid hr1; have HB1 := Lib.hid (HW4.out.trans (hb1.mono HW4.out.size)); clear hr1 hb1)
  refine wp_gen (fun W => TAt W b0 smpA ∧ TAt W b1 smpB ∧ TAt W b2 smpC ∧ TAt W b3 smpD ∧ TAt W w1.heap.size smpE ∧ Below w.heap.size w W) ⟨HT0.out.below (HB1.out.alloc HB1.out.size _), HT1.out.below (HB1.out.alloc HB1.out.size _), HT2.out.below (HB1.out.alloc HB1.out.size _), HT3.out.below (HB1.out.alloc HB1.out.size _), ⟨A1, c1, Bk.new w1 24 _, HR1.out.below ((Below.refl _ _).alloc (Nat.le_refl _) _) (Nat.le_refl _)⟩, HBL.out.trans ((HB1.out.alloc HB1.out.size _).mono HBL.out.size)⟩ ?_
  obtain ⟨b4, hb4⟩ : ∃ b, w1.heap.size = b := ⟨_, rfl⟩
  rw [hb4]
  clear HM4 HW4 HR1 HB1 hb4 HBL HT0 HT1 HT2 HT3
  rintro V4 ⟨ht0, ht1, ht2, ht3, ht4, hbl⟩
  have HT0 := Lib.hid ht0
  have HT1 := Lib.hid ht1
  have HT2 := Lib.hid ht2
  have HT3 := Lib.hid ht3
  have HT4 := Lib.hid ht4
  have HBL := Lib.hid hbl
  clear ht0 ht1 ht2 ht3 ht4 hbl
  have HQ : Hid (∀ W, Below V4.heap.size V4 W → Env W) := Lib.hid (fun W h => HE.out W (HBL.out.trans (h.mono HBL.out.size)))
  have HC0 := Lib.hid (fun W (h : Below V4.heap.size V4 W) => ask_canon (HT0.out.below h) smpA_fit (by rw [smpA_cnt]; omega) (HQ.out W h) smpA_canon)
  have HC1 := Lib.hid (fun W (h : Below V4.heap.size V4 W) => ask_canon (HT1.out.below h) smpB_fit (by rw [smpB_cnt]; omega) (HQ.out W h) smpB_canon)
  have HC2 := Lib.hid (fun W (h : Below V4.heap.size V4 W) => ask_canon (HT2.out.below h) smpC_fit (by rw [smpC_cnt]; omega) (HQ.out W h) smpC_canon)
  have HC3 := Lib.hid (fun W (h : Below V4.heap.size V4 W) => ask_canon (HT3.out.below h) smpD_fit (by rw [smpD_cnt]; omega) (HQ.out W h) smpD_canon)
  have HC4 := Lib.hid (fun W (h : Below V4.heap.size V4 W) => ask_canon (HT4.out.below h) smpE_fit (by rw [smpE_cnt]; omega) (HQ.out W h) smpE_canon)
  have HMC := Lib.hid (fun W (h : Below V4.heap.size V4 W) => ask_mark (HT2.out.below h) smpC_fit (by rw [smpC_cnt]; omega) smpC_mark)
  have HMN := Lib.hid (fun W => markup_any none 0 0 [] rfl (by omega) (fun h => absurd h (by decide +kernel)) W (NRow.nil _ _))
  have HCN := Lib.hid (fun W (h : Below V4.heap.size V4 W) => canon_any none 0 0 [] rfl (by omega) (fun x hx => absurd hx (by simp)) W (HQ.out W h) (NRow.nil _ _))
  have HE1 := Lib.hid (fun W => escape_any false ⟨#[34, 38, 60, 62, 194, 160, 13]⟩ (by show 7 ≤ _; omega) W)
  have HE2 := Lib.hid (fun W => escape_any true ⟨#[34]⟩ (by show 1 ≤ _; omega) W)
  have HKN := Lib.hid (fun W (h : Below V4.heap.size V4 W) => known_any W (HQ.out W h))
  simp only [mark_none] at HMN
  simp only [canon_none] at HCN
  simp only [esc_run1] at HE1
  simp only [esc_run2] at HE2
  obtain ⟨Aa, ca, ya, h0⟩ := HC0.out V4 (Below.refl _ _)
  have H0 := Lib.hid h0
  clear h0
  go_wp2_with (first
    | (go_at_call 7; (with_reducible refine (H0.out).mono ?_); rintro e u0 ⟨rfl, l0⟩; have L0 := Lib.hid (l0); clear l0; obtain ⟨A0, c0, y0, h1⟩ := HC1.out u0 L0.out; have H1 := Lib.hid h1; clear h1)
    | (go_at_call 7; (with_reducible refine (H1.out).mono ?_); rintro e u1 ⟨rfl, l1⟩; have L1 := Lib.hid (L0.out.trans (l1.mono L0.out.size)); clear l1; obtain ⟨A1, c1, y1, h2⟩ := HC2.out u1 L1.out; have H2 := Lib.hid h2; clear h2)
    | (go_at_call 7; (with_reducible refine (H2.out).mono ?_); rintro e u2 ⟨rfl, l2⟩; have L2 := Lib.hid (L1.out.trans (l2.mono L1.out.size)); clear l2; obtain ⟨A2, c2, y2, h3⟩ := HC3.out u2 L2.out; have H3 := Lib.hid h3; clear h3)
    | (go_at_call 7; (with_reducible refine (H3.out).mono ?_); rintro e u3 ⟨rfl, l3⟩; have L3 := Lib.hid (L2.out.trans (l3.mono L2.out.size)); clear l3; obtain ⟨A3, c3, y3, h4⟩ := HC4.out u3 L3.out; have H4 := Lib.hid h4; clear h4)
    | (go_at_call 7; (with_reducible refine (H4.out).mono ?_); rintro e u4 ⟨rfl, l4⟩; have L4 := Lib.hid (L3.out.trans (l4.mono L3.out.size)); clear l4; obtain ⟨A4, c4, y4, h5⟩ := HMC.out u4 L4.out; have H5 := Lib.hid h5; clear h5)
    | (go_at_call 8; (with_reducible refine (H5.out).mono ?_); rintro e u5 ⟨rfl, l5⟩; have L5 := Lib.hid (L4.out.trans (l5.mono L4.out.size)); clear l5)
    | (go_at_call 8; (with_reducible refine (HMN.out _).mono ?_); rintro e u6 ⟨rfl, l6⟩; have L6 := Lib.hid (L5.out.trans (l6.mono L5.out.size)); clear l6)
    | (go_at_call 9; (with_reducible refine (HE1.out _).mono ?_); rintro e u7 ⟨rfl, l7⟩; have L7 := Lib.hid (L6.out.trans (l7.mono L6.out.size)); clear l7)
    | (go_at_call 9; (with_reducible refine (HE2.out _).mono ?_); rintro e u8 ⟨rfl, l8⟩; have L8 := Lib.hid (L7.out.trans (l8.mono L7.out.size)); clear l8)
    | (go_at_call 7; (with_reducible refine (HCN.out _ L8.out).mono ?_); rintro e u9 ⟨rfl, l9⟩; have L9 := Lib.hid (L8.out.trans (l9.mono L8.out.size)); clear l9)
    | (go_at_call 10; (with_reducible refine (HKN.out _ L9.out).mono ?_); rintro e u10 ⟨rfl, l10⟩; have L10 := Lib.hid (L9.out.trans (l10.mono L9.out.size)); clear l10))
  go_ret
  exact ⟨rfl, HBL.out.trans (L10.out.mono HBL.out.size)⟩
end Go.Proofs.YtdogcnmepaemjaaDoor
