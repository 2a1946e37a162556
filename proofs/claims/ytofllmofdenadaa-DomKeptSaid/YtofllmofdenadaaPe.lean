/- DomKept walked. No conditions but that nothing is endless. -/
import Derived.Test.YtofllmofdenadaaPd
import Derived.Test.YtofllmofdenadaaPf
import Derived.Test.YtofllmofdenadaaDy
namespace Go.Proofs.Ytofllmofdenadaa
set_option linter.unusedVariables false
open Go.RowKit Go.Shelf Go.Proofs.Fm Go.Proofs.Fb Go.Proofs.Fd Go.Proofs.Fc

/-- rows in blocks that stay are what they were -/
theorem own_same {w w' : World} {base e size n : Nat} {v : Value} {xs : List Value} (h : w.ownsRow base e size v n xs) (hb : ∀ k, base ≤ k → k < w.heap.size → w'.heap[k]? = w.heap[k]?) : w'.ownsRow base e size v n xs := by
  refine ⟨h.1, ?_⟩
  rcases h.2 with h1 | ⟨g, cap, cur, h1, h2, h3, h4⟩
  · exact .inl h1
  · exact .inr ⟨g, cap, cur, h1, h2, (hb g h2 (Array.getElem?_eq_some_iff.1 h3).1).trans h3, h4⟩
theorem OTree.same {base n c : Nat} {w w' : World} {A : Option Addr} {l : List Nd} (h : OTree base w A n c l) (hb : ∀ k, base ≤ k → k < w.heap.size → w'.heap[k]? = w.heap[k]?) : OTree base w' A n c l := by
  obtain ⟨rs, h1, h2, h3⟩ := h
  exact ⟨rs, h1, own_same h2 hb, fun q hq => own_same (h3 q hq) hb⟩
/-- while the attributes of a part of the call's own are written over -/
structure WrSt (w1 : World) (bx : Nat) (xs : Array Value) (A : Option Addr) (m : Nat) (W : World) : Prop where
  t : Bk W bx 31 xs
  bl : Below w1.heap.size w1 W
  lo : w1.heap.size ≤ bx
  cells : 0 < m → ∃ b off, A = some ⟨b, off, none⟩ ∧ b ≠ bx ∧ w1.heap.size ≤ b ∧ b < W.heap.size ∧ (∀ o, W.frozen? ⟨b, o, none⟩ = false) ∧ ∀ i, i < m → (∃ u, W.cell? ⟨b, off + i * 2, none⟩ = some u) ∧ ∃ u, W.cell? ⟨b, off + i * 2 + 1, none⟩ = some u
theorem cell_set_some {W : World} {b o : Nat} (h : ∃ u, W.cell? ⟨b, o, none⟩ = some u) (p : Addr) (v : Value) : ∃ u, (W.setCell p v).cell? ⟨b, o, none⟩ = some u := by
  obtain ⟨u, hu⟩ := h
  by_cases e : p = ⟨b, o, none⟩
  · subst e; exact ⟨v, World.cell?_setCell_same _ _ _ hu⟩
  · exact ⟨u, (World.cell?_setCell_other _ _ _ _ e).trans hu⟩
theorem WrSt.set {w1 W : World} {bx m b off o : Nat} {xs : Array Value} (h : WrSt w1 bx xs (some ⟨b, off, none⟩) m W) (hm : 0 < m) (u : Value) : WrSt w1 bx xs (some ⟨b, off, none⟩) m (W.setCell ⟨b, o, none⟩ u) := by
  obtain ⟨b', off', e, h1, h2, h3, h4, h5⟩ := h.cells hm
  injection e with e; injection e with e1 e2
  subst e1; subst e2
  refine ⟨h.t.far (p := ⟨b, o, none⟩) (fun e => h1 e.symm) u, h.bl.setCell (p := ⟨b, o, none⟩) h2 u, h.lo, fun _ => ⟨b, off, rfl, h1, h2, by simpa [World.setCell] using h3, fun k => (by simpa [World.frozen?_setCell] using h4 k), fun i hi => ⟨cell_set_some (h5 i hi).1 _ _, cell_set_some (h5 i hi).2 _ _⟩⟩⟩
theorem WrSt.start {w w1 : World} {Aa : Option Addr} {ca : Nat} {al : List Att} (h : AOk w1 (fun x => w.heap.size ≤ x) (.slice Aa al.length ca) al) (hb : Below w.heap.size w w1) (xs : Array Value) : WrSt w w1.heap.size xs Aa al.length (w1.alloc (.cells xs 31)) := by
  refine ⟨Bk.new w1 31 xs, hb.alloc hb.size _, hb.size, fun hm => ?_⟩
  obtain ⟨A, c, he, h1, -, -, -, h2⟩ := h
  injection he with e1 e2 e3
  subst e1
  have hne : al ≠ [] := by intro e; subst e; simp at hm
  obtain ⟨b, off, rfl, hc⟩ := h1 hne
  obtain ⟨h3, h4⟩ := h2 b off hne rfl
  have hlt : b < w1.heap.size := by
    have := (hc 0 hm).1
    exact World.block_lt_of_cell? _ _ this
  have hbl := Below.heap_alloc w1 (.cells xs 31) b hlt
  have hcell : ∀ o, (w1.alloc (.cells xs 31)).cell? ⟨b, o, none⟩ = w1.cell? ⟨b, o, none⟩ := fun o => World.cell?_of_block (a := ⟨b, o, none⟩) hbl
  exact ⟨b, off, rfl, by omega, h3, by simp; omega, fun o => (World.frozen?_of_block (a := ⟨b, o, none⟩) hbl).trans (h4 o), fun i hi => ⟨⟨_, (hcell _).trans (hc i hi).1⟩, ⟨_, (hcell _).trans (hc i hi).2⟩⟩⟩
set_option maxRecDepth 100000 in
set_option maxHeartbeats 8000000 in
theorem kept_walk (w : World) (nm tx : Str) (al : List Att) (ks : List Pt) (A2 K2 : Option Addr) (c2 d2 : Nat) (ha : AVal w (.slice A2 al.length c2) al) (hk : KVal w (.slice K2 ks.length d2) ks) :
    Calls Try.prog 8 #[.agg #[str nm, str tx, .slice A2 al.length c2, .slice K2 ks.length d2]] w fun e w' => e = .returned (.bool true) ∧ Below w.heap.size w w' := by
  obtain ⟨p, hp⟩ : ∃ p, Pt.mk nm tx al ks = p := ⟨_, rfl⟩
  have HTB : Hid (AttB (treeOf p)) := Lib.hid (by rw [← hp]; exact tree_bound ha hk)
  obtain ⟨W0, hW0⟩ : ∃ W, w.alloc (.cells #[str nm, str tx, .slice A2 al.length c2, .slice K2 ks.length d2] 31) = W := ⟨_, rfl⟩
  have hb0 : Below w.heap.size w W0 := hW0 ▸ (Below.refl _ w).alloc (Nat.le_refl _) _
  have hk2 : Bk W0 w.heap.size 31 #[str nm, str tx, .slice A2 al.length c2, .slice K2 ks.length d2] := hW0 ▸ Bk.new w 31 _
  have hd := deep_ok p nm tx al ks A2 K2 al.length c2 d2 0 W0 hp.symm (by omega) (hk.below hb0 (Nat.le_refl _)) (ha.below hb0 (Nat.le_refl _))
  have e0 : ((0 : Nat) : Int) = 0 := rfl
  rw [e0] at hd
  have HD := Lib.hid hd
  have HP := Lib.hid hp
  have HA := Lib.hid ha
  have HK := Lib.hid hk
  have HB0 := Lib.hid hb0
  have HK2 := Lib.hid hk2
  dsimp only [str] at hk2 hW0 HD HK2 ⊢
  have y0 : W0.cell? ⟨w.heap.size, 0, none⟩ = some (.string ⟨nm.toArray⟩) := hk2.cell 0
  have y1 : W0.cell? ⟨w.heap.size, 1, none⟩ = some (.string ⟨tx.toArray⟩) := hk2.cell 1
  have y2 : W0.cell? ⟨w.heap.size, 2, none⟩ = some (.slice A2 al.length c2) := hk2.cell 2
  have y3 : W0.cell? ⟨w.heap.size, 3, none⟩ = some (.slice K2 ks.length d2) := hk2.cell 3
  have ly := hk2.lt
  have hz0 := hb0.size
  have HW0 := Lib.hid hW0
  clear hp ha hk hb0 hk2 hd e0 hW0
  go_enter Try.func8, Try.ntmps8
  go_upto_region 1 with fail
  rw [HW0.out]
  clear HW0
  go_upto_if 13 with (go_at_call 22; refine (HD.out).mono ?_; rintro e w1 ⟨R, rfl, hR1, hR2, hR3, hb1⟩; have HR3 := Lib.hid hR3; have HB1 := Lib.hid hb1; clear hb1 hR2 hR3)
  clear y0 y1 y2 y3
  have HBW := Lib.hid (HB0.out.trans (HB1.out.mono hz0))
  by_cases hR : R < 500
  · have i2 : ¬ ((500 : Int) ≤ (R : Int)) := by omega
    have hps : psize p ≤ 2000 := by have := HR3.out (by omega); omega
    have HPS := Lib.hid hps
    have hk21 := HK2.out.below HB1.out HK2.out.lt
    have y0 : w1.cell? ⟨w.heap.size, 0, none⟩ = some (.string ⟨nm.toArray⟩) := hk21.cell 0
    have y1 : w1.cell? ⟨w.heap.size, 1, none⟩ = some (.string ⟨tx.toArray⟩) := hk21.cell 1
    have y2 : w1.cell? ⟨w.heap.size, 2, none⟩ = some (.slice A2 al.length c2) := hk21.cell 2
    have y3 : w1.cell? ⟨w.heap.size, 3, none⟩ = some (.slice K2 ks.length d2) := hk21.cell 3
    have ly1 := hk21.lt
    have HK21 := Lib.hid hk21
    have HPL := Lib.hid (plain_ok p nm tx al ks A2 K2 c2 d2 w1 w1 HP.out.symm HPS.out (HK.out.below HBW.out (Nat.le_refl _)) (Below.refl _ _))
    dsimp only [str] at HPL
    clear hps hk21 HB1 HB0 HK2
    go_upto_region 4 with (first
      | (go_at_call 24; refine (HPL.out).mono ?_; rintro e w2 ⟨K3, d3, rfl, hkr, hb2⟩; have HKR := Lib.hid (hkr.read hb2); have HB2 := Lib.hid hb2; have HPT := Lib.hid (part_ok p nm tx al ks A2 K3 c2 d3 w2 w2 HP.out.symm HPS.out HKR.out (Below.refl _ _)); dsimp only [str] at HPT ⊢; clear hkr hb2)
      | (go_at_call 35; refine (HPT.out).mono ?_; rintro e w3 ⟨K4, d4, rfl, hkr, hb3⟩; have HKQ := Lib.hid (hkr.read hb3); have HB3 := Lib.hid hb3; dsimp only [str]; clear hkr hb3))
    clear y0 y1 y2 y3 HPL HPT HKR
    refine wp_gen (fun W => Below w3.heap.size w3 W ∧ Bk W w3.heap.size 31 #[.string ⟨nm.toArray⟩, .string ⟨tx.toArray⟩, .slice A2 al.length c2, .slice K4 ks.length d4]) ⟨(Below.refl _ _).alloc (Nat.le_refl _) _, Bk.new w3 31 _⟩ ?_
    rintro W4 ⟨hb4, hkq⟩
    have hz2 := HB2.out.size
    have hz3 := HB3.out.size
    have hb14 : Below w1.heap.size w1 W4 := HB2.out.trans ((HB3.out.trans (hb4.mono hz3)).mono hz2)
    have HBW4 := Lib.hid (HBW.out.trans (hb14.mono HBW.out.size))
    have HP4 := Lib.hid (HK21.out.below hb14 HK21.out.lt)
    have x0 : W4.cell? ⟨w3.heap.size, 0, none⟩ = some (.string ⟨nm.toArray⟩) := hkq.cell 0
    have x1 : W4.cell? ⟨w3.heap.size, 1, none⟩ = some (.string ⟨tx.toArray⟩) := hkq.cell 1
    have x2 : W4.cell? ⟨w3.heap.size, 2, none⟩ = some (.slice A2 al.length c2) := hkq.cell 2
    have x3 : W4.cell? ⟨w3.heap.size, 3, none⟩ = some (.slice K4 ks.length d4) := hkq.cell 3
    have lq := hkq.lt
    have HKQ4 := Lib.hid (HKQ.out.below hb4 (Nat.le_refl _))
    have HA4 := Lib.hid (HA.out.below HBW4.out (Nat.le_refl _))
    have HM4 := Lib.hid (make_any p nm tx al ks A2 K4 c2 d4 W4 HP.out.symm HA4.out HKQ4.out)
    dsimp only [str] at HM4
    have HQ4 := Lib.hid hkq
    clear hkq hb14 hb4 HKQ HB2 HB3 HK21 HBW
    go_upto_region 5 with (go_at_call 10; refine (HM4.out).mono ?_; rintro e w5 hm; obtain ⟨A5, n5, c5, rfl, hot5, hn5, hb5⟩ := make_one hm; have HOT5 := Lib.hid hot5; have HN5 := Lib.hid hn5; have HB5 := Lib.hid hb5; clear hm hot5 hn5 hb5)
    refine wp_gen (fun W => Below w5.heap.size w5 W ∧ Bk W w5.heap.size 24 #[.slice A5 n5 c5]) ⟨(Below.refl _ _).alloc (Nat.le_refl _) _, Bk.new w5 24 _⟩ ?_
    clear x0 x1 x2 x3
    rintro W6 ⟨hb6, hka⟩
    have hz5 := HB5.out.size
    have hb46 : Below W4.heap.size W4 W6 := HB5.out.trans (hb6.mono hz5)
    have hq6 := HQ4.out.below hb46 HQ4.out.lt
    have x0 : W6.cell? ⟨w3.heap.size, 0, none⟩ = some (.string ⟨nm.toArray⟩) := hq6.cell 0
    have x1 : W6.cell? ⟨w3.heap.size, 1, none⟩ = some (.string ⟨tx.toArray⟩) := hq6.cell 1
    have x2 : W6.cell? ⟨w3.heap.size, 2, none⟩ = some (.slice A2 al.length c2) := hq6.cell 2
    have x3 : W6.cell? ⟨w3.heap.size, 3, none⟩ = some (.slice K4 ks.length d4) := hq6.cell 3
    have lq6 := hq6.lt
    have HM6 := Lib.hid (make_any p nm tx al ks A2 K4 c2 d4 W6 HP.out.symm (HA4.out.below hb46 (Nat.le_refl _)) (HKQ4.out.below hb46 (Nat.le_refl _)))
    dsimp only [str] at HM6
    have HKA6 := Lib.hid hka
    have HOT6 := Lib.hid (HOT5.out.below hb6)
    have HP6 := Lib.hid (HP4.out.below hb46 HP4.out.lt)
    have HBW6 := Lib.hid (HBW4.out.trans (hb46.mono HBW4.out.size))
    clear hb6 hka hb46 hq6 HM4 HOT5 HB5 HQ4 HP4 HKQ4 HA4 HBW4 lq
    go_upto_region 6 with (go_at_call 10; refine (HM6.out).mono ?_; rintro e w7 hm; obtain ⟨A7, n7, c7, rfl, hot7, hn7, hb7⟩ := make_one hm; have HOT7 := Lib.hid hot7; have HN7 := Lib.hid hn7; have HB7 := Lib.hid hb7; clear hm hot7 hn7 hb7)
    refine wp_gen (fun W => Below w7.heap.size w7 W ∧ Bk W w7.heap.size 24 #[.slice A7 n7 c7]) ⟨(Below.refl _ _).alloc (Nat.le_refl _) _, Bk.new w7 24 _⟩ ?_
    clear x0 x1 x2 x3
    rintro W8 ⟨hb8, hkb⟩
    have hz7 := HB7.out.size
    have HB78 := Lib.hid hb8
    have HKB8 := Lib.hid hkb
    have HB68 := Lib.hid (HB7.out.trans (hb8.mono hz7))
    clear hb8 hkb HM6 HB7
    obtain ⟨F, hF⟩ : ∃ F, rightE (treeOf p) = F := ⟨_, rfl⟩
    rw [hF] at HOT6 HN5 HOT7 HN7 ⊢
    by_cases hF0 : F = 0
    · subst hF0
      rw [if_pos rfl] at HOT6 HN5 HOT7 HN7
      have hn5 := HN5.out
      have hn7 := HN7.out
      have hsB := right_saidB hF
      have hcn : cnt p ≤ 2000 := by have := cnt_psize p; have := HPS.out; omega
      have hlen : (treeOf p).length = n5 := by rw [treeOf_length, hn5]
      have hroot : partF (treeOf p) n5 0 = cleanP p := part_root p (by omega)
      have HROOT := Lib.hid hroot
      have HSB := Lib.hid hsB
      have HLEN := Lib.hid hlen
      have hn5b : n5 ≤ 2000 := by omega
      have hn7b : n7 ≤ 2000 := by omega
      have HCP := Lib.hid (copy_any A5 n5 c5 (treeOf p) hlen (by omega) W8 ((HOT6.out.below HB68.out).row HTB.out))
      have hka8 := HKA6.out.below HB68.out HKA6.out.lt
      have z5 : W8.cell? ⟨w5.heap.size, 0, none⟩ = some (.slice A5 n5 c5) := hka8.cell 0
      have lz5 := hka8.lt
      clear hn5 hn7 hsB hF hcn hlen hroot HN5 HN7 hka8
      go_upto_region 9 with (go_at_call 19; refine (HCP.out).mono ?_; rintro e w9 ⟨A9, c9, rfl, hot9, hb9⟩; have HOT9 := Lib.hid hot9; have HB9 := Lib.hid hb9; clear hot9 hb9)
      refine wp_gen (fun W => Below w9.heap.size w9 W ∧ Bk W w9.heap.size 24 #[.slice A9 n5 c9]) ⟨(Below.refl _ _).alloc (Nat.le_refl _) _, Bk.new w9 24 _⟩ ?_
      clear z5 lz5 HCP
      rintro W10 ⟨hb10, hkc⟩
      have hz8 := HB78.out.size
      have hz9 := HB9.out.size
      have hb810 : Below W8.heap.size W8 W10 := HB9.out.trans (hb10.mono hz9)
      have HSP := Lib.hid (spoil_any W6.heap.size n7 c7 A7 (treeOf p) w7 W10 HOT7.out hz7 (by omega) (HB78.out.trans (hb810.mono hz8)))
      have hkb10 := HKB8.out.below hb810 HKB8.out.lt
      have z7 : W10.cell? ⟨w7.heap.size, 0, none⟩ = some (.slice A7 n7 c7) := hkb10.cell 0
      have lz7 := hkb10.lt
      have HB610 := Lib.hid (HB68.out.trans (hb810.mono HB68.out.size))
      have HKC10 := Lib.hid hkc
      have HOT10 := Lib.hid (HOT9.out.below hb10)
      clear hb10 hkc hb810 hkb10 HOT9 HKB8 HB9 HOT7 HB78
      go_upto_region 10 with (go_at_call 36; refine (HSP.out).mono ?_; rintro e w11 ⟨rfl, hb11, hsame⟩; have HB11 := Lib.hid hb11; have HSAME := Lib.hid hsame; clear hb11 hsame)
      clear z7 lz7 HSP
      have hb611 : Below W6.heap.size W6 w11 := HB610.out.trans HB11.out
      have HBW11 := Lib.hid (HBW6.out.trans (hb611.mono HBW6.out.size))
      have HP11 := Lib.hid (HP6.out.below hb611 HP6.out.lt)
      have HKA11 := Lib.hid (HKA6.out.below hb611 HKA6.out.lt)
      have HRA11 := Lib.hid ((HOT6.out.below hb611).row HTB.out)
      have hkc11 : Bk w11 w9.heap.size 24 #[.slice A9 n5 c9] := (HSAME.out _ (by omega) HKC10.out.lt).trans HKC10.out
      have HKC11 := Lib.hid hkc11
      have HRC11 := Lib.hid ((HOT10.out.same (fun k h1 h2 => HSAME.out k (by omega) h2)).row HTB.out)
      have hka11 := HKA11.out
      have z5 : w11.cell? ⟨w5.heap.size, 0, none⟩ = some (.slice A5 n5 c5) := hka11.cell 0
      have lz5 := hka11.lt
      have HPR := Lib.hid (parts_any A5 n5 c5 (treeOf p) HLEN.out (by omega) HSB.out w11 HRA11.out)
      rw [HROOT.out] at HPR
      clear hb611 hkc11 hka11 HKC10 HOT10 HSAME HB11 HB610 HKA6 HOT6 HP6 HBW6 HB68
      go_upto_region 11 with (go_at_call 32; refine (HPR.out).mono ?_; rintro e w12 ⟨va, vk, rfl, hao, hqr, hb12⟩; have HAO := Lib.hid hao; obtain ⟨Aa, ca, rfl, -, -, hm4, -⟩ := hao; obtain ⟨Ak, ck, rfl, -⟩ := hqr; have HB12 := Lib.hid hb12; dsimp only [str]; clear hb12)
      clear z5 lz5 HPR
      have hst0 := WrSt.start HAO.out HB12.out #[.string ⟨(cleanP p).name.toArray⟩, .string ⟨(cleanP p).text.toArray⟩, .slice Aa (cleanP p).attrs.length ca, .slice Ak (cleanP p).kids.length ck]
      refine wp_gen (fun W => WrSt w11 w12.heap.size #[.string ⟨(cleanP p).name.toArray⟩, .string ⟨(cleanP p).text.toArray⟩, .slice Aa (cleanP p).attrs.length ca, .slice Ak (cleanP p).kids.length ck] Aa (cleanP p).attrs.length W) hst0 ?_
      clear hst0 HAO HB12
      obtain ⟨m, hm⟩ : ∃ m, (cleanP p).attrs.length = m := ⟨_, rfl⟩
      obtain ⟨bx, hbx⟩ : ∃ b, w12.heap.size = b := ⟨_, rfl⟩
      rw [hm] at hm4
      rw [hm, hbx]
      clear hm hbx
      obtain ⟨N0, hN0⟩ : ∃ x, (cleanP p).name.toArray = x := ⟨_, rfl⟩
      obtain ⟨T0, hT0⟩ : ∃ x, (cleanP p).text.toArray = x := ⟨_, rfl⟩
      obtain ⟨V0, hV0⟩ : ∃ x, Value.slice Ak (cleanP p).kids.length ck = x := ⟨_, rfl⟩
      rw [hN0, hT0, hV0]
      clear hN0 hT0 hV0
      rintro W13 hst13
      have HST13 := Lib.hid hst13
      clear hst13
      go_upto_region 12 with fail
      go_loopg [10] m (fun gk i wr => ∃ k : Nat, k + gk = m ∧ i = .int .i64 (k : Int) ∧ Hid (WrSt w11 bx #[.string ⟨N0⟩, .string ⟨T0⟩, .slice Aa m ca, V0] Aa m wr))
      case atStart => exact ⟨0, by omega, rfl, HST13⟩
      case round =>
        obtain ⟨k, hk, rfl, hst⟩ := hrel
        have t2 : wr.cell? ⟨bx, 2, none⟩ = some (.slice Aa m ca) := hst.out.t.cell 2
        have lbx := hst.out.t.lt
        by_cases hlk : k < m
        · have i1 : (k : Int) < (m : Int) := by omega
          obtain ⟨b, off, rfl, -, -, hbl, hfz, hcs⟩ := hst.out.cells (by omega)
          obtain ⟨⟨v0, s0⟩, v1, s1⟩ := hcs k hlk
          have HN : Hid (∀ u1 u2, WrSt w11 bx #[.string ⟨N0⟩, .string ⟨T0⟩, .slice (some ⟨b, off, none⟩) m ca, V0] (some ⟨b, off, none⟩) m ((wr.setCell ⟨b, off + k * 2, none⟩ u1).setCell ⟨b, off + k * 2 + 1, none⟩ u2)) := Lib.hid (fun u1 u2 => (hst.out.set (by omega) u1).set (by omega) u2)
          clear hcs
          go_wp2_with fail
          go_roundg (gk - 1)
          case measure => omega
          case rel => exact ⟨k + 1, by omega, by go_num, Lib.hid (HN.out _ _)⟩
        · have hb14 := hst.out.bl
          clear hst
          have HBW14 := Lib.hid (HBW11.out.trans (hb14.mono HBW11.out.size))
          have hp14 := HP11.out.below hb14 HP11.out.lt
          have y0 : wr.cell? ⟨w.heap.size, 0, none⟩ = some (.string ⟨nm.toArray⟩) := hp14.cell 0
          have y1 : wr.cell? ⟨w.heap.size, 1, none⟩ = some (.string ⟨tx.toArray⟩) := hp14.cell 1
          have y2 : wr.cell? ⟨w.heap.size, 2, none⟩ = some (.slice A2 al.length c2) := hp14.cell 2
          have y3 : wr.cell? ⟨w.heap.size, 3, none⟩ = some (.slice K2 ks.length d2) := hp14.cell 3
          have ly14 := hp14.lt
          have hka14 := HKA11.out.below hb14 HKA11.out.lt
          have z5 : wr.cell? ⟨w5.heap.size, 0, none⟩ = some (.slice A5 n5 c5) := hka14.cell 0
          have lz5 := hka14.lt
          have hkc14 := HKC11.out.below hb14 HKC11.out.lt
          have z9 : wr.cell? ⟨w9.heap.size, 0, none⟩ = some (.slice A9 n5 c9) := hkc14.cell 0
          have lz9 := hkc14.lt
          have HRA := Lib.hid (HRA11.out.below hb14 (Nat.le_refl _))
          have HRC := Lib.hid (HRC11.out.below hb14 (Nat.le_refl _))
          clear hb14 hp14 hka14 hkc14
          obtain rfl : k = m := by omega
          go_upto_region 15 with fail
          clear t2 lbx
          have eX := fun y b o => ext_cell wr.heap.size wr y b o
          have HG0 := Lib.hid ((Below.refl wr.heap.size wr).drew)
          refine region_U (fun w' => ∃ x, w' = ext wr.heap.size wr x) (by kernel_rfl) ?_
          refine wpU_take 0 rfl (by kernel_rfl) ?_; dsimp only [List.getElem_toArray, List.getElem_cons_zero, List.getElem_cons_succ]; go_big_quiet_step (fail); refine wpQuiet_nil ?_
          refine wpU_take 1 rfl (by kernel_rfl) ?_; dsimp only [List.getElem_toArray, List.getElem_cons_zero, List.getElem_cons_succ]; go_big_quiet_step (fail); refine wpQuiet_nil ?_
          have HC := Lib.hid (sameTree_yes A5 A9 n5 c5 c9 (treeOf p) HLEN.out (by omega) wr.drew (HRA.out.below HG0.out (Nat.le_refl _)) (HRC.out.below HG0.out (Nat.le_refl _)))
          refine wpU_alone 2 rfl (by kernel_rfl) (of_below HG0.out) ?_
          go_wp2_with (go_at_call 21; refine (HC.out).mono ?_; rintro e v1 ⟨rfl, hb1⟩; have HG1 := Lib.hid (HG0.out.trans (hb1.mono HG0.out.size)); clear hb1)
          refine only_on ?_
          clear HC
          refine wpU_take 3 rfl (by kernel_rfl) ?_; dsimp only [List.getElem_toArray, List.getElem_cons_zero, List.getElem_cons_succ]; go_big_quiet_step (fail); refine wpQuiet_nil ?_
          refine wpU_take 4 rfl (by kernel_rfl) ?_; dsimp only [List.getElem_toArray, List.getElem_cons_zero, List.getElem_cons_succ]; go_big_quiet_step (fail); refine wpQuiet_nil ?_
          refine wpU_take 6 rfl (by kernel_rfl) ?_; dsimp only [List.getElem_toArray, List.getElem_cons_zero, List.getElem_cons_succ]; go_big_quiet_step (fail); refine wpQuiet_nil ?_
          have HC := Lib.hid (parts_any A5 n5 c5 (treeOf p) HLEN.out (by omega) HSB.out v1 (HRA.out.below HG1.out (Nat.le_refl _)))
          rw [HROOT.out] at HC
          refine wpU_alone 5 rfl (by kernel_rfl) (of_below HG1.out) ?_
          go_wp2_with (go_at_call 32; refine (HC.out).mono ?_; rintro e v2 hpo; obtain ⟨Ad, Ae, ca', ck', rfl, hpa, hpk, hb1⟩ := parts_shape hpo; have HPA := Lib.hid hpa; have HPK := Lib.hid hpk; have HV2 := Lib.hid hb1; have HG2 := Lib.hid (HG1.out.trans (hb1.mono HG1.out.size)); dsimp only [str]; clear hpo hpa hpk hb1)
          refine only_on ?_
          clear HC
          have hbv := HBW14.out.trans (HG2.out.mono HBW14.out.size)
          have HC := Lib.hid (clean_ok p nm tx al ks A2 K2 c2 d2 v2 v2 HP.out.symm HPS.out (HA.out.below hbv (Nat.le_refl _)) (HK.out.below hbv (Nat.le_refl _)) (Below.refl _ _))
          dsimp only [str] at HC
          clear hbv
          refine wpU_alone 7 rfl (by kernel_rfl) (of_below HG2.out) ?_
          go_wp2_with (go_at_call 34; refine (HC.out).mono ?_; rintro e v3 ⟨vb, Kb, db, rfl, hva, hkr, hb1⟩; have hkb := hkr.read hb1; have hvb := hva.below hb1 (Nat.le_refl _); obtain ⟨Ab, cb, rfl, -⟩ := hva.ex; have HVA := Lib.hid hvb; have HVK := Lib.hid hkb; have HV3 := Lib.hid hb1; have HG3 := Lib.hid (HG2.out.trans (hb1.mono HG2.out.size)); dsimp only [str]; clear hva hkr hb1 hkb hvb)
          refine only_on ?_
          clear HC
          have HC := Lib.hid (same_ok (cleanP p) (cleanP p).name (cleanP p).text (cleanP p).attrs (cleanP p).kids Ad Ae Ab Kb ca' ck' cb db v3 (Pt.eta _) (HPA.out.below HV3.out (Nat.le_refl _)) (HPK.out.below HV3.out (Nat.le_refl _)) HVA.out HVK.out)
          dsimp only [str] at HC
          refine wpU_alone 8 rfl (by kernel_rfl) (of_below HG3.out) ?_
          go_wp2_with (go_at_call 33; refine (HC.out).mono ?_; rintro e v4 ⟨rfl, hb1⟩; have HG4 := Lib.hid (HG3.out.trans (hb1.mono HG3.out.size)); clear hb1)
          refine only_on ?_
          clear HC
          refine wpU_take 9 rfl (by kernel_rfl) ?_; dsimp only [List.getElem_toArray, List.getElem_cons_zero, List.getElem_cons_succ]; go_big_quiet_step (fail); refine wpQuiet_nil ?_
          refine wpU_take 10 rfl (by kernel_rfl) ?_; dsimp only [List.getElem_toArray, List.getElem_cons_zero, List.getElem_cons_succ]; go_big_quiet_step (fail); refine wpQuiet_nil ?_
          refine wpU_alone 11 rfl (by kernel_rfl) (of_below HG4.out) ?_
          go_wp2_with (go_at_call 18; refine (known_any _).mono ?_; rintro e v5 ⟨rfl, hb1⟩; have HG5 := Lib.hid (HG4.out.trans (hb1.mono HG4.out.size)); clear hb1)
          refine only_on ?_
          refine wpU_take 12 rfl (by kernel_rfl) ?_; dsimp only [List.getElem_toArray, List.getElem_cons_zero, List.getElem_cons_succ]; go_big_quiet_step (fail); refine wpQuiet_nil ?_
          refine wpU_take 13 rfl (by kernel_rfl) ?_; dsimp only [List.getElem_toArray, List.getElem_cons_zero, List.getElem_cons_succ]; go_big_quiet_step (fail); refine wpQuiet_nil ?_
          refine wpU_end (by kernel_rfl) (of_below HG5.out) ?_
          have HFIN := Lib.hid (HBW14.out.trans (HG5.out.mono HBW14.out.size))
          go_wp2
          go_ret
          exact ⟨rfl, HFIN.out⟩
    · rw [if_neg hF0] at HOT6 HN5 HOT7 HN7
      have i4 : (F != 0) = true := by simpa using hF0
      have HBW8 := Lib.hid (HBW6.out.trans (HB68.out.mono HBW6.out.size))
      go_wp2_with (go_at_call 18; refine (known_any _).mono ?_; rintro e v5 ⟨rfl, hb1⟩; have HFIN := Lib.hid (HBW8.out.trans (hb1.mono HBW8.out.size)); clear hb1)
      go_ret
      exact ⟨rfl, HFIN.out⟩
  · have i2 : (500 : Int) ≤ (R : Int) := by omega
    go_wp2_with (go_at_call 18; refine (known_any _).mono ?_; rintro e w8 ⟨rfl, hb8⟩; have HB8 := Lib.hid (HBW.out.trans (hb8.mono HBW.out.size)); clear hb8)
    go_ret
    exact ⟨rfl, HB8.out⟩
end Go.Proofs.Ytofllmofdenadaa
