/- DomMakes walked. No conditions but that nothing is endless. -/
import Derived.Test.YtofllmofdenadaaEe
import Derived.Test.YtofllmofdenadaaDu
namespace Go.Proofs.Ytofllmofdenadaa
set_option linter.unusedVariables false
open Go.RowKit Go.Proofs.Fm Go.Proofs.Fb Go.Proofs.Fd Go.Proofs.Fc

/-- what Make answers, in one form -/
theorem MakeOut.one {p : Pt} {w w' : World} {e : Ending} (h : MakeOut p w e w') : ∃ (A : Option Addr) (n c : Nat), e = .returned (.tuple #[.agg #[.slice A n c], .int .i64 (rightE (treeOf p))]) ∧ OTree w.heap.size w' A n c (if rightE (treeOf p) = 0 then treeOf p else []) ∧ n = (if rightE (treeOf p) = 0 then cnt p else 0) ∧ Below w.heap.size w w' := by
  obtain ⟨hb, ⟨h0, rfl⟩ | ⟨h0, A, c, rfl, ho⟩⟩ := h
  · exact ⟨none, 0, 0, rfl, by rw [if_neg h0]; exact OTree.nil _ _, by rw [if_neg h0], hb⟩
  · exact ⟨A, cnt p, c, by rw [h0], by rw [if_pos h0]; exact ho, by rw [if_pos h0], hb⟩
set_option maxRecDepth 100000 in
set_option maxHeartbeats 4000000 in
theorem makes_walk (w : World) (nm tx : Str) (al : List Att) (ks : List Pt) (A K : Option Addr) (c d : Nat) (ha : AVal w (.slice A al.length c) al) (hk : KVal w (.slice K ks.length d) ks) :
    Calls Try.prog 5 #[.agg #[str nm, str tx, .slice A al.length c, .slice K ks.length d]] w fun e w' => e = .returned (.bool true) ∧ Below w.heap.size w w' := by
  obtain ⟨p, hp⟩ : ∃ p, Pt.mk nm tx al ks = p := ⟨_, rfl⟩
  have HTB : Hid (AttB (treeOf p)) := Lib.hid (by rw [← hp]; exact tree_bound ha hk)
  obtain ⟨W0, hW0⟩ : ∃ W, w.alloc (.cells #[str nm, str tx, .slice A al.length c, .slice K ks.length d] 31) = W := ⟨_, rfl⟩
  have hb0 : Below w.heap.size w W0 := hW0 ▸ (Below.refl _ w).alloc (Nat.le_refl _) _
  have hk0 : Bk W0 w.heap.size 31 #[str nm, str tx, .slice A al.length c, .slice K ks.length d] := hW0 ▸ Bk.new w 31 _
  have hd := deep_ok p nm tx al ks A K al.length c d 0 W0 hp.symm (by omega) (hk.below hb0 (Nat.le_refl _)) (ha.below hb0 (Nat.le_refl _))
  have HD := Lib.hid hd
  have e0 : ((0 : Nat) : Int) = 0 := rfl
  rw [e0] at HD
  have HP := Lib.hid hp
  have HA := Lib.hid ha
  have HK := Lib.hid hk
  have HB0 := Lib.hid hb0
  have HK0 := Lib.hid hk0
  dsimp only [str] at hk0 hW0 HD ⊢
  have y0 : W0.cell? ⟨w.heap.size, 0, none⟩ = some (.string ⟨nm.toArray⟩) := hk0.cell 0
  have y1 : W0.cell? ⟨w.heap.size, 1, none⟩ = some (.string ⟨tx.toArray⟩) := hk0.cell 1
  have y2 : W0.cell? ⟨w.heap.size, 2, none⟩ = some (.slice A al.length c) := hk0.cell 2
  have y3 : W0.cell? ⟨w.heap.size, 3, none⟩ = some (.slice K ks.length d) := hk0.cell 3
  have ly := hk0.lt
  have hz0 := hb0.size
  have HW0 := Lib.hid hW0
  clear hp ha hk hb0 hk0 hd e0 hW0
  go_enter Try.func5, Try.ntmps5
  go_upto_region 1 with fail
  rw [HW0.out]
  clear HW0
  go_upto_if 9 with (go_at_call 22; refine (HD.out).mono ?_; rintro e w1 ⟨R, rfl, hR1, hR2, hR3, hb1⟩; have HR3 := Lib.hid hR3; have HB1 := Lib.hid hb1; clear hb1 hR2 hR3)
  clear y0 y1 y2 y3
  have HBW := Lib.hid (HB0.out.trans (HB1.out.mono hz0))
  by_cases hR : R < 2000
  · have i1 : ¬ ((2000 : Int) ≤ (R : Int)) := by omega
    have hps : psize p ≤ 2000 := by have := HR3.out hR; omega
    have HPS := Lib.hid hps
    have hk1 := HK0.out.below HB1.out HK0.out.lt
    have ha1 := HA.out.below HBW.out (Nat.le_refl _)
    have hkk1 := HK.out.below HBW.out (Nat.le_refl _)
    have HM := Lib.hid (make_any p nm tx al ks A K c d w1 HP.out.symm ha1 hkk1)
    dsimp only [str] at hk1 HM
    have y0 : w1.cell? ⟨w.heap.size, 0, none⟩ = some (.string ⟨nm.toArray⟩) := hk1.cell 0
    have y1 : w1.cell? ⟨w.heap.size, 1, none⟩ = some (.string ⟨tx.toArray⟩) := hk1.cell 1
    have y2 : w1.cell? ⟨w.heap.size, 2, none⟩ = some (.slice A al.length c) := hk1.cell 2
    have y3 : w1.cell? ⟨w.heap.size, 3, none⟩ = some (.slice K ks.length d) := hk1.cell 3
    have ly1 := hk1.lt
    have HK1 := Lib.hid hk1
    have HA1 := Lib.hid ha1
    have HKK1 := Lib.hid hkk1
    clear hps hk1 ha1 hkk1
    go_upto_region 4 with (go_at_call 10; refine (HM.out).mono ?_; rintro e w2 hm; obtain ⟨A1, n1, c1, rfl, hot1, hn1, hb2⟩ := hm.one; have HOT1 := Lib.hid hot1; have HN1 := Lib.hid hn1; have HB2 := Lib.hid hb2; clear hm hot1 hn1 hb2)
    clear y0 y1 y2 y3
    refine wp_gen (fun W => Below w2.heap.size w2 W ∧ Bk W w2.heap.size 24 #[.slice A1 n1 c1]) ⟨(Below.refl _ _).alloc (Nat.le_refl _) _, Bk.new w2 24 _⟩ ?_
    rintro W3 ⟨hb3, hk3⟩
    have hz1 := HB2.out.size
    have hb13 := HB2.out.trans (hb3.mono hz1)
    have hkp := HK1.out.below hb13 HK1.out.lt
    have ha3 := HA1.out.below hb13 (Nat.le_refl _)
    have hkk3 := HKK1.out.below hb13 (Nat.le_refl _)
    have HPL := Lib.hid (plain_ok p nm tx al ks A K c d W3 W3 HP.out.symm HPS.out hkk3 (Below.refl _ _))
    dsimp only [str] at hkp HPL
    have y0 : W3.cell? ⟨w.heap.size, 0, none⟩ = some (.string ⟨nm.toArray⟩) := hkp.cell 0
    have y1 : W3.cell? ⟨w.heap.size, 1, none⟩ = some (.string ⟨tx.toArray⟩) := hkp.cell 1
    have y2 : W3.cell? ⟨w.heap.size, 2, none⟩ = some (.slice A al.length c) := hkp.cell 2
    have y3 : W3.cell? ⟨w.heap.size, 3, none⟩ = some (.slice K ks.length d) := hkp.cell 3
    have ly3 := hkp.lt
    have HK3 := Lib.hid hk3
    have HA3 := Lib.hid ha3
    have HB13 := Lib.hid hb13
    have HOT3 := Lib.hid (HOT1.out.below hb3)
    clear hb3 hk3 hb13 hkp ha3 hkk3
    go_upto_region 5 with (first
      | (go_at_call 24; refine (HPL.out).mono ?_; rintro e w4 ⟨K2, d2, rfl, hkr, hb4⟩; have HB4 := Lib.hid hb4; have HRM := Lib.hid (refMake_any p nm tx al ks A K2 c d2 w4 HP.out.symm HPS.out (HA3.out.below hb4 (Nat.le_refl _)) (hkr.read hb4)); dsimp only [str] at HRM ⊢; clear hkr hb4)
      | (go_at_call 23; refine (HRM.out).mono ?_; rintro e w5 hm; obtain ⟨A2, n2, c2, rfl, hot2, hn2, hb5⟩ := hm.one; have HOT2 := Lib.hid hot2; have HN2 := Lib.hid hn2; have HB5 := Lib.hid hb5; clear hm hot2 hn2 hb5))
    clear y0 y1 y2 y3
    refine wp_gen (fun W => Below w5.heap.size w5 W ∧ Bk W w5.heap.size 24 #[.slice A2 n2 c2]) ⟨(Below.refl _ _).alloc (Nat.le_refl _) _, Bk.new w5 24 _⟩ ?_
    rintro W6 ⟨hb6, hk6⟩
    have hz4 := HB4.out.size
    have hz5 := HB5.out.size
    have hb36 := HB4.out.trans ((HB5.out.trans (hb6.mono hz5)).mono hz4)
    have hk36 := HK3.out.below hb36 HK3.out.lt
    have z1 : W6.cell? ⟨w2.heap.size, 0, none⟩ = some (.slice A1 n1 c1) := hk36.cell 0
    have z2 : W6.cell? ⟨w5.heap.size, 0, none⟩ = some (.slice A2 n2 c2) := hk6.cell 0
    have lz1 := hk36.lt
    have lz2 := hk6.lt
    obtain ⟨E, hE⟩ : ∃ E, rightE (treeOf p) = E := ⟨_, rfl⟩
    rw [hE] at HOT3 HOT2 HN1 HN2
    have hlb : AttB (if E = 0 then treeOf p else []) := by
      split
      · exact HTB.out
      · intro x hx; cases hx
    have hnn : n1 = n2 := HN1.out.trans HN2.out.symm
    subst hnn
    have hnr : n1 ≤ 2000 := by rw [HN1.out]; have := cnt_psize p; have := HPS.out; split <;> omega
    have hr1 := (HOT3.out.below hb36).row hlb
    have hr2 := (HOT2.out.below hb6).row hlb
    have HS := Lib.hid (sameTree_yes A1 A2 n1 c1 c2 _ HOT2.out.len (by omega) W6 hr1 hr2)
    have HALL := Lib.hid (HBW.out.trans ((HB13.out.trans (hb36.mono (by have := HB13.out.size; omega))).mono (by have := HBW.out.size; omega)))
    have hee : (E == E) = true := by simp
    rw [hE]
    clear hb6 hk6 hb36 hk36 hlb hr1 hr2 hE
    go_wp2_with (first
      | (go_at_call 21; refine (HS.out).mono ?_; rintro e w7 ⟨rfl, hb7⟩; have HB7 := Lib.hid hb7; clear hb7)
      | (go_at_call 18; refine (known_any _).mono ?_; rintro e w8 ⟨rfl, hb8⟩; have HB8 := Lib.hid (HALL.out.trans ((HB7.out.trans (hb8.mono HB7.out.size)).mono HALL.out.size)); clear hb8))
    go_ret
    exact ⟨rfl, HB8.out⟩
  · have i1 : (2000 : Int) ≤ (R : Int) := by omega
    go_wp2_with (go_at_call 18; refine (known_any _).mono ?_; rintro e w8 ⟨rfl, hb8⟩; have HB8 := Lib.hid (HBW.out.trans (hb8.mono HBW.out.size)); clear hb8)
    go_ret
    exact ⟨rfl, HB8.out⟩
end Go.Proofs.Ytofllmofdenadaa
