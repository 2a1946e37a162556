/- DomAsks where the tree is right: walked. No conditions but that the tree has at most 300 nodes. -/
import Derived.Test.YtofllmofdenadaaMa
namespace Go.Proofs.Ytofllmofdenadaa
set_option linter.unusedVariables false
open Go.RowKit Go.Shelf Go.Proofs.Fm Go.Proofs.Fb Go.Proofs.Fd Go.Proofs.Fc
attribute [local go_sem] Oper.semAt_some

set_option maxRecDepth 100000 in
set_option maxHeartbeats 8000000 in
theorem asks_main (A : Option Addr) (n c : Nat) (l : List Nd) (hl : l.length = n) (hn : n ≤ 300) (hE : rightE l = 0) (i f s : Int) (hs64 : -9223372036854775808 ≤ s ∧ s ≤ 9223372036854775807) (hf64 : -9223372036854775808 ≤ f ∧ f ≤ 9223372036854775807) (nm : Str) (w : World) (ha : NRow w A l) :
    Calls Try.prog 6 #[.agg #[.slice A n c], .int .i64 i, .int .i64 f, .int .i64 s, str nm] w fun e w' => e = .returned (.bool true) ∧ Below w.heap.size w w' := by
  obtain ⟨i0, hi0, hz0, hz1, hz2⟩ := info_parts intInfo
  have HI0 := Lib.hid hi0
  have HZ0 := Lib.hid hz0
  have HZ1 := Lib.hid hz1
  have HZ2 := Lib.hid hz2
  obtain ⟨W0, hW0⟩ : ∃ W, (w.alloc (.cells #[.slice A n c] 24)).alloc (.cells #[.int .i64 s] 3) = W := ⟨_, rfl⟩
  have hb0 : Below w.heap.size w W0 := hW0 ▸ ((Below.refl _ w).alloc (Nat.le_refl _) _).alloc (by simp) _
  have hk1 : Bk W0 w.heap.size 24 #[.slice A n c] := hW0 ▸ (Bk.new w 24 _).alloc _
  have hk2 : Bk W0 (w.heap.size + 1) 3 #[.int .i64 s] := hW0 ▸ (by simpa using Bk.new (w.alloc (.cells #[.slice A n c] 24)) 3 #[.int .i64 s])
  have z1 : W0.cell? ⟨w.heap.size, 0, none⟩ = some (.slice A n c) := hk1.cell 0
  have l1 := hk1.lt
  have HB0 := Lib.hid hb0
  have HK1 := Lib.hid hk1
  have HK2 := Lib.hid hk2
  have HW0 := Lib.hid hW0
  have HA0 := Lib.hid (ha.below hb0 (Nat.le_refl _))
  have hs := (right_said hE).1
  have HS := Lib.hid hs
  have HR := Lib.hid (refRight_any A n c l hl (by omega) W0 HA0.out)
  rw [hE] at HR
  have hpos : 0 < n := by have := hs.pos; omega
  have i1 : ¬ ((300 : Int) < (n : Int)) := by omega
  clear hb0 hk1 hk2 hW0 ha hE hs hi0 hz0 hz1 hz2
  dsimp only [str]
  refine callsIn_wide.1 (callsIn_of_wp_marks (n := 5) Try.func6 rfl trivial ?_ rfl)
  refine wpIn_wide.2 ?_
  simp only [Try.ntmps6, List.size_toArray, List.length_cons, List.length_nil, Nat.reduceAdd, Nat.reduceSub, Array.replicate_succ, Array.replicate_zero, List.push_toArray, List.append_toArray, List.nil_append, List.cons_append]
  go_upto_region 1 with fail
  rw [HW0.out]
  clear HW0
  go_upto_region 3 with (go_at_call 20; refine (HR.out).mono ?_; rintro e w1 ⟨rfl, hb1⟩; have HB1 := Lib.hid hb1; clear hb1)
  have HK11 := Lib.hid (HK1.out.below HB1.out HK1.out.lt)
  have HK21 := Lib.hid (HK2.out.below HB1.out HK2.out.lt)
  have HBW1 := Lib.hid (HB0.out.trans (HB1.out.mono HB0.out.size))
  have HA1 := Lib.hid (HA0.out.below HB1.out (Nat.le_refl _))
  have z1 : w1.cell? ⟨w.heap.size, 0, none⟩ = some (.slice A n c) := HK11.out.cell 0
  have l1 := HK11.out.lt
  have HT1 := Lib.hid (attr_any A n c l hl (by omega) i nm w1 HA1.out)
  obtain ⟨V, hV⟩ : ∃ V, attrW l i nm = V := ⟨_, rfl⟩
  rw [hV] at HT1
  obtain ⟨V1, V2⟩ := V
  dsimp only [str] at HT1
  clear HK1 HK2 HB0 HR HB1 HA0
  go_upto_region 4 with (go_at_call 12; refine (HT1.out).mono ?_; rintro e w2 ⟨rfl, hb2⟩; have HB2 := Lib.hid hb2; clear hb2)
  have HK12 := Lib.hid (HK11.out.below HB2.out HK11.out.lt)
  have HK22 := Lib.hid (HK21.out.below HB2.out HK21.out.lt)
  have HBW2 := Lib.hid (HBW1.out.trans (HB2.out.mono HBW1.out.size))
  have HA2 := Lib.hid (HA1.out.below HB2.out (Nat.le_refl _))
  have z2 : w2.cell? ⟨w.heap.size, 0, none⟩ = some (.slice A n c) := HK12.out.cell 0
  have l2 := HK12.out.lt
  have HT2 := Lib.hid (refAttr_any A n c l hl (by omega) i nm w2 HA2.out)
  rw [hV] at HT2
  dsimp only [str] at HT2
  clear HK11 HK21 HBW1 HA1 z1 l1 HT1 HB2 hV
  go_upto_region 5 with (go_at_call 25; refine (HT2.out).mono ?_; rintro e w3 ⟨rfl, hb3⟩; have HB3 := Lib.hid hb3; clear hb3)
  have HK13 := Lib.hid (HK12.out.below HB3.out HK12.out.lt)
  have HK23 := Lib.hid (HK22.out.below HB3.out HK22.out.lt)
  have HBW3 := Lib.hid (HBW2.out.trans (HB3.out.mono HBW2.out.size))
  have HA3 := Lib.hid (HA2.out.below HB3.out (Nat.le_refl _))
  have z3 : w3.cell? ⟨w.heap.size, 0, none⟩ = some (.slice A n c) := HK13.out.cell 0
  have l3 := HK13.out.lt
  clear HK12 HK22 HBW2 HA2 z2 l2 HT2 HB3
  have eX := fun y b o => ext_cell w3.heap.size w3 y b o
  have e0 : (V1 != V1) = false := by simp
  have hrow : ∀ W, Below w3.heap.size w3 W → NRow W A l := fun W h => HA3.out.below h (Nat.le_refl _)
  have HROW := Lib.hid hrow
  obtain ⟨D, hD⟩ : ∃ D, depthUp (par l) i n = D := ⟨_, rfl⟩
  obtain ⟨X, hX⟩ : ∃ X, indexE l i = X := ⟨_, rfl⟩
  obtain ⟨K, hK⟩ : ∃ K, kidsI l n i = K := ⟨_, rfl⟩
  have hKn : K.length ≤ n := by rw [← hK]; exact kidsI_len _ _ _
  have HD := Lib.hid hD
  have HX := Lib.hid hX
  have HKE := Lib.hid hK
  have HBB := Lib.hid ((Below.refl w3.heap.size w3).drew)
  clear hrow hD hX hK
  refine region_U (fun w' => ∃ x, w' = ext w3.heap.size w3 x) (by kernel_rfl) ?_
  refine wpU_take 0 rfl (by kernel_rfl) ?_; dsimp only [List.getElem_toArray, List.getElem_cons_zero, List.getElem_cons_succ]; go_big_quiet_step (fail); refine wpQuiet_nil ?_
  refine wpU_take 1 rfl (by kernel_rfl) ?_; dsimp only [List.getElem_toArray, List.getElem_cons_zero, List.getElem_cons_succ]; go_big_quiet_step (fail); refine wpQuiet_nil ?_
  refine wpU_take 2 rfl (by kernel_rfl) ?_; dsimp only [List.getElem_toArray, List.getElem_cons_zero, List.getElem_cons_succ]; go_big_quiet_step (fail); refine wpQuiet_nil ?_
  refine wpU_take 3 rfl (by kernel_rfl) ?_; dsimp only [List.getElem_toArray, List.getElem_cons_zero, List.getElem_cons_succ]; go_big_quiet_step (fail); refine wpQuiet_nil ?_
  refine wpU_take 4 rfl (by kernel_rfl) ?_; dsimp only [List.getElem_toArray, List.getElem_cons_zero, List.getElem_cons_succ]; go_big_quiet_step (fail); refine wpQuiet_nil ?_
  refine wpU_take 5 rfl (by kernel_rfl) ?_; dsimp only [List.getElem_toArray, List.getElem_cons_zero, List.getElem_cons_succ]; go_big_quiet_step (fail); refine wpQuiet_nil ?_
  refine wpU_take 6 rfl (by kernel_rfl) ?_; dsimp only [List.getElem_toArray, List.getElem_cons_zero, List.getElem_cons_succ]; go_big_quiet_step (fail); refine wpQuiet_nil ?_
  refine wpU_take 7 rfl (by kernel_rfl) ?_; dsimp only [List.getElem_toArray, List.getElem_cons_zero, List.getElem_cons_succ]; go_big_quiet_step (fail); refine wpQuiet_nil ?_
  refine wpU_take 8 rfl (by kernel_rfl) ?_; dsimp only [List.getElem_toArray, List.getElem_cons_zero, List.getElem_cons_succ]; go_big_quiet_step (fail); refine wpQuiet_nil ?_
  refine wpU_take 9 rfl (by kernel_rfl) ?_; dsimp only [List.getElem_toArray, List.getElem_cons_zero, List.getElem_cons_succ]; go_big_quiet_step (fail); refine wpQuiet_nil ?_
  refine wpU_take 10 rfl (by kernel_rfl) ?_; dsimp only [List.getElem_toArray, List.getElem_cons_zero, List.getElem_cons_succ]; go_big_quiet_step (fail); refine wpQuiet_nil ?_
  refine wpU_take 12 rfl (by kernel_rfl) ?_; dsimp only [List.getElem_toArray, List.getElem_cons_zero, List.getElem_cons_succ]; go_big_quiet_step (fail); refine wpQuiet_nil ?_
  refine wpU_take 13 rfl (by kernel_rfl) ?_; dsimp only [List.getElem_toArray, List.getElem_cons_zero, List.getElem_cons_succ]; go_big_quiet_step (fail); refine wpQuiet_nil ?_
  have HC := Lib.hid (HD.out ▸ depth_any A n c l hl (by omega) i w3.drew (HROW.out _ HBB.out))
  refine wpU_alone 11 rfl (by kernel_rfl) (of_below HBB.out) ?_
  go_wp2_with (go_at_call 16; refine (HC.out).mono ?_; rintro e v1 ⟨rfl, hb1⟩; have HB1 := Lib.hid (HBB.out.trans (hb1.mono HBB.out.size)); clear hb1)
  refine only_on ?_
  clear HC
  have HC := Lib.hid (HD.out ▸ refDepth_any A n c l hl (by omega) (hl ▸ HS.out.ord) i v1 (HROW.out _ HB1.out))
  refine wpU_alone 14 rfl (by kernel_rfl) (of_below HB1.out) ?_
  go_wp2_with (go_at_call 26; refine (HC.out).mono ?_; rintro e v2 ⟨rfl, hb1⟩; have HB2 := Lib.hid (HB1.out.trans (hb1.mono HB1.out.size)); clear hb1)
  refine only_on ?_
  clear HC
  refine wpU_take 15 rfl (by kernel_rfl) ?_; dsimp only [List.getElem_toArray, List.getElem_cons_zero, List.getElem_cons_succ]; go_big_quiet_step (fail); refine wpQuiet_nil ?_
  refine wpU_take 16 rfl (by kernel_rfl) ?_; dsimp only [List.getElem_toArray, List.getElem_cons_zero, List.getElem_cons_succ]; go_big_quiet_step (fail); refine wpQuiet_nil ?_
  refine wpU_take 17 rfl (by kernel_rfl) ?_; dsimp only [List.getElem_toArray, List.getElem_cons_zero, List.getElem_cons_succ]; go_big_quiet_step (fail); refine wpQuiet_nil ?_
  refine wpU_take 18 rfl (by kernel_rfl) ?_; dsimp only [List.getElem_toArray, List.getElem_cons_zero, List.getElem_cons_succ]; go_big_quiet_step (fail); refine wpQuiet_nil ?_
  refine wpU_take 19 rfl (by kernel_rfl) ?_; dsimp only [List.getElem_toArray, List.getElem_cons_zero, List.getElem_cons_succ]; go_big_quiet_step (fail); refine wpQuiet_nil ?_
  refine wpU_take 21 rfl (by kernel_rfl) ?_; dsimp only [List.getElem_toArray, List.getElem_cons_zero, List.getElem_cons_succ]; go_big_quiet_step (fail); refine wpQuiet_nil ?_
  refine wpU_take 22 rfl (by kernel_rfl) ?_; dsimp only [List.getElem_toArray, List.getElem_cons_zero, List.getElem_cons_succ]; go_big_quiet_step (fail); refine wpQuiet_nil ?_
  have HC := Lib.hid (HX.out ▸ indexN_any A n c l hl (by omega) i v2 (HROW.out _ HB2.out))
  refine wpU_alone 20 rfl (by kernel_rfl) (of_below HB2.out) ?_
  go_wp2_with (go_at_call 17; refine (HC.out).mono ?_; rintro e v3 ⟨rfl, hb1⟩; have HB3 := Lib.hid (HB2.out.trans (hb1.mono HB2.out.size)); clear hb1)
  refine only_on ?_
  clear HC
  have HC := Lib.hid (HX.out ▸ refIndex_any A n c l hl (by omega) HS.out i v3 (HROW.out _ HB3.out))
  refine wpU_alone 23 rfl (by kernel_rfl) (of_below HB3.out) ?_
  go_wp2_with (go_at_call 27; refine (HC.out).mono ?_; rintro e v4 ⟨rfl, hb1⟩; have HB4 := Lib.hid (HB3.out.trans (hb1.mono HB3.out.size)); clear hb1)
  refine only_on ?_
  clear HC
  refine wpU_take 24 rfl (by kernel_rfl) ?_; dsimp only [List.getElem_toArray, List.getElem_cons_zero, List.getElem_cons_succ]; go_big_quiet_step (fail); refine wpQuiet_nil ?_
  refine wpU_take 25 rfl (by kernel_rfl) ?_; dsimp only [List.getElem_toArray, List.getElem_cons_zero, List.getElem_cons_succ]; go_big_quiet_step (fail); refine wpQuiet_nil ?_
  refine wpU_take 26 rfl (by kernel_rfl) ?_; dsimp only [List.getElem_toArray, List.getElem_cons_zero, List.getElem_cons_succ]; go_big_quiet_step (fail); refine wpQuiet_nil ?_
  refine wpU_take 27 rfl (by kernel_rfl) ?_; dsimp only [List.getElem_toArray, List.getElem_cons_zero, List.getElem_cons_succ]; go_big_quiet_step (fail); refine wpQuiet_nil ?_
  refine wpU_take 28 rfl (by kernel_rfl) ?_; dsimp only [List.getElem_toArray, List.getElem_cons_zero, List.getElem_cons_succ]; go_big_quiet_step (fail); refine wpQuiet_nil ?_
  refine wpU_take 30 rfl (by kernel_rfl) ?_; dsimp only [List.getElem_toArray, List.getElem_cons_zero, List.getElem_cons_succ]; go_big_quiet_step (fail); refine wpQuiet_nil ?_
  refine wpU_take 31 rfl (by kernel_rfl) ?_; dsimp only [List.getElem_toArray, List.getElem_cons_zero, List.getElem_cons_succ]; go_big_quiet_step (fail); refine wpQuiet_nil ?_
  have HC := Lib.hid (HKE.out ▸ kidsI_any A n c l hl (by omega) HS.out i v4 (HROW.out _ HB4.out))
  refine wpU_alone 29 rfl (by kernel_rfl) (of_below HB4.out) ?_
  go_wp2_with (go_at_call 15; refine (HC.out).mono ?_; rintro e v5 ⟨u1, rfl, ho1, hb1⟩; have HB5 := Lib.hid (HB4.out.trans (hb1.mono HB4.out.size)); have HO1 := Lib.hid ho1; clear hb1 ho1)
  refine only_on ?_
  clear HC
  have HC := Lib.hid (HKE.out ▸ refKidsI_any A n c l hl (by omega) HS.out i v5 (HROW.out _ HB5.out))
  refine wpU_alone 32 rfl (by kernel_rfl) (of_below HB5.out) ?_
  go_wp2_with (go_at_call 29; refine (HC.out).mono ?_; rintro e v6 ⟨u2, rfl, ho2, hb1⟩; have HB56 := Lib.hid hb1; have HB6 := Lib.hid (HB5.out.trans (hb1.mono HB5.out.size)); have HO2 := Lib.hid ho2; clear hb1 ho2)
  refine only_on ?_
  clear HC
  obtain ⟨A1, c1, rfl, hc1, hr1⟩ := own_reads (l := K.map fun j : Nat => (j : Int)) (by simp) (ints_ivals K ▸ HO1.out)
  obtain ⟨A2, c2, rfl, hc2, hr2⟩ := own_reads (l := K.map fun j : Nat => (j : Int)) (by simp) (ints_ivals K ▸ HO2.out)
  have hr1' := hr1.below HB56.out (Nat.le_refl _)
  have HC := Lib.hid (B_int.same_any A1 A2 c1 c2 (K.map fun j : Nat => (j : Int)) (K.map fun j : Nat => (j : Int)) v6 hr1' hr2 (by simp; omega))
  rw [decide_eq_true rfl, List.length_map] at HC
  clear hc1 hr1 hc2 hr2 hr1'
  refine wpU_alone 33 rfl (by kernel_rfl) (of_below HB6.out) ?_
  go_wp2_with (go_at_call 28; refine (HC.out).mono ?_; rintro e v7 ⟨rfl, q, rfl⟩; have HB7 := Lib.hid (below_drewN HB6.out q))
  refine only_on ?_
  clear HC
  refine wpU_take 34 rfl (by kernel_rfl) ?_; dsimp only [List.getElem_toArray, List.getElem_cons_zero, List.getElem_cons_succ]; go_big_quiet_step (fail); refine wpQuiet_nil ?_
  refine wpU_take 35 rfl (by kernel_rfl) ?_; dsimp only [List.getElem_toArray, List.getElem_cons_zero, List.getElem_cons_succ]; go_big_quiet_step (fail); refine wpQuiet_nil ?_
  refine wpU_end (by kernel_rfl) (of_below HB7.out) ?_
  refine exit_gen (fun W => Below w3.heap.size w3 W) HB7.out ?_
  clear eX e0 HD HX HKE HBB HB1 HB2 HB3 HB4 HB5 HB56 HB6 HB7 HO1 HO2 hKn
  rintro w4 hb4
  have HK14 := Lib.hid (HK13.out.below hb4 HK13.out.lt)
  have HK24 := Lib.hid (HK23.out.below hb4 HK23.out.lt)
  have HBW4 := Lib.hid (HBW3.out.trans (hb4.mono HBW3.out.size))
  have HA4 := Lib.hid (HA3.out.below hb4 (Nat.le_refl _))
  have z4 : w4.cell? ⟨w.heap.size, 0, none⟩ = some (.slice A n c) := HK14.out.cell 0
  have l4 := HK14.out.lt
  clear hb4 HROW HK13 HK23 HBW3 HA3 z3 l3
  obtain ⟨g, e, hsp⟩ := span_of l n f
  have HSP := Lib.hid hsp
  clear hsp
  go_upto_region 9 with fail
  go_loopg [15, 16] n (fun gk v k wr => ∃ i : Nat, i + gk = n ∧ k = .int .i64 (i : Int) ∧ Hid (wr.ownsRow w4.heap.size 3 1 v (min i e - g) (ivals (nums (g : Int) (min i e - g)))) ∧ Hid (Below w4.heap.size w4 wr))
  case atStart => exact ⟨0, by omega, rfl, Lib.hid (by rw [show min 0 e - g = 0 by omega]; exact World.ownsRow_nil _ _ _ _), Lib.hid (Below.refl _ _)⟩
  case round =>
    obtain ⟨k, hk, rfl, ho, hb⟩ := hrel
    have hzw := hb.out.size
    have z5 : wr.cell? ⟨w.heap.size, 0, none⟩ = some (.slice A n c) := (HK14.out.below hb.out HK14.out.lt).cell 0
    have l5 : w.heap.size < wr.heap.size := by omega
    clear z4
    by_cases hlt : k < n
    · have i2 : (k : Int) < (n : Int) := by omega
      obtain ⟨hw1, hw2⟩ := want_step g e k
      by_cases hf0 : 0 ≤ f
      · by_cases hfn : f < (n : Int)
        · obtain ⟨hf1, hf2, hf3, hf4⟩ := HSP.out.yes ⟨hf0, hfn⟩
          have hbi := below_iff (p := par l) (n := n) (f := g) (i := k) (hl ▸ HS.out.ord) hf2 hlt
          have HC := Lib.hid (refBelow_any A n c l hl (by omega) (hl ▸ HS.out.ord) f k hlt wr (HA4.out.below hb.out (Nat.le_refl _)))
          rw [← hf3, ← hf1] at hbi
          by_cases hov : overB (par l) (k : Int) f = true
          · rw [hov] at HC
            have HW := Lib.hid (hw1 (hbi.1 hov))
            have HN : Hid (min (k + 1) e - g = (min k e - g) + 1) := Lib.hid (by have := hbi.1 hov; omega)
            obtain ⟨M, hM⟩ : ∃ M, min k e - g = M := ⟨_, rfl⟩
            have hMn : M ≤ 300 := by omega
            rw [hM] at ho HN HW
            clear hw1 hw2 hbi hov hM hf1 hf3 hf4
            go_wp2_with (first
              | (go_at_call 30; refine (HC.out).mono ?_; rintro e5 w5 ⟨rfl, hb5⟩; have HB5 := Lib.hid hb5; clear hb5)
              | (at_builtin; refine wpList_append_elt rfl (.tmp 103) (.tmp 105) 39 rfl w4.heap.size 3 i0 _ 1 8 Try.underlying39 HI0.out HZ0.out HZ1.out HZ2.out rfl (by omega) u15 M (ivals (nums (g : Int) M)) rfl (ho.out.kept (row := none) ⟨HB5.out.os, HB5.out.tape, HB5.out.output, HB5.out.size, fun k hk _ => HB5.out.block k hk⟩ (by rcases u15.ownBlock with _ | g <;> simp)) [.int .i64 (k : Int)] rfl rfl (by simp [Value.oneCell']) (by unfold maxLen; omega) (by omega) (by have := HB5.out.size; omega) ?_; intro g2 cap w6 ho6 hg6 hat6 hlt6 hb6; have HO6 := Lib.hid ho6; have HB6 := Lib.hid ((hb.out.trans (HB5.out.mono hzw)).trans hb6); clear ho6 hg6 hat6 hb6))
            go_roundg (gk - 1)
            case measure => omega
            case rel => exact ⟨k + 1, by omega, by go_num, Lib.hid (by rw [HN.out]; rw [HN.out] at HW; rw [HW.out]; have := HO6.out; unfold ivals at this ⊢; rw [List.map_append]; exact this), HB6⟩
          · have hov' : overB (par l) (k : Int) f = false := by simpa using hov
            rw [hov'] at HC
            have HN : Hid (min (k + 1) e - g = min k e - g) := Lib.hid (by have h9 : ¬ (g ≤ k ∧ k < e) := fun x => hov (hbi.2 x); omega)
            clear hw1 hw2 hbi hov hov' hf1 hf3 hf4
            go_wp2_with (go_at_call 30; refine (HC.out).mono ?_; rintro e5 w5 ⟨rfl, hb5⟩; have HB5 := Lib.hid hb5; clear hb5)
            go_roundg (gk - 1)
            case measure => omega
            case rel => exact ⟨k + 1, by omega, by go_num, Lib.hid (by rw [HN.out]; exact ho.out.kept (row := none) ⟨HB5.out.os, HB5.out.tape, HB5.out.output, HB5.out.size, fun k hk _ => HB5.out.block k hk⟩ (by rcases u15.ownBlock with _ | g <;> simp)), Lib.hid (hb.out.trans (HB5.out.mono hzw))⟩
        · have he0 := HSP.out.no (fun x => hfn x.2)
          have HN : Hid (min (k + 1) e - g = min k e - g) := Lib.hid (by omega)
          clear hw1 hw2 he0
          go_wp2
          go_roundg (gk - 1)
          case measure => omega
          case rel => exact ⟨k + 1, by omega, by go_num, Lib.hid (by rw [HN.out]; exact ho.out), hb⟩
      · have he0 := HSP.out.no (fun x => hf0 x.1)
        have HN : Hid (min (k + 1) e - g = min k e - g) := Lib.hid (by omega)
        clear hw1 hw2 he0
        go_wp2
        go_roundg (gk - 1)
        case measure => omega
        case rel => exact ⟨k + 1, by omega, by go_num, Lib.hid (by rw [HN.out]; exact ho.out), hb⟩
    · obtain rfl : k = n := by omega
      have hN := HSP.out.nums
      have HW : Hid (wr.ownsRow w4.heap.size 3 1 u15 (e - g) (ivals (nums f (e - g)))) := Lib.hid (by have := ho.out; rw [hN, Nat.min_eq_right HSP.out.le] at this; exact this)
      clear hN ho
      have hk5 := HK14.out.below hb.out HK14.out.lt
      have hk6 := HK24.out.below hb.out HK24.out.lt
      have ha5 := HA4.out.below hb.out (Nat.le_refl _)
      have HK15 := Lib.hid hk5
      have HK25 := Lib.hid hk6
      have HA5 := Lib.hid ha5
      have HBW5 := Lib.hid (HBW4.out.trans (hb.out.mono HBW4.out.size))
      have hk0 : e - g ≤ 300 := by have := HSP.out.le; omega
      have HL := Lib.hid (allI_any A k c l hl (by omega) HSP.out wr ha5)
      obtain ⟨A', c', rfl, hAc, hWR⟩ := own_reads (nums_length f (e - g)) HW.out
      obtain ⟨k0, hk0e⟩ : ∃ k0, e - g = k0 := ⟨_, rfl⟩
      rw [hk0e] at hk0 HL hAc hWR HW ⊢
      have hk0n : f + (k0 : Int) ≤ 9223372036854775807 := by
        by_cases c1 : 0 ≤ f ∧ f < (k : Int)
        · omega
        · have := HSP.out.no c1; omega
      have HWR := Lib.hid hWR
      have HWO := Lib.hid HW.out
      have l24 := HK24.out.lt
      clear hk5 hk6 ha5 HK14 HK24 HA4 HBW4 HW hb hk0e hWR l4 HSP
      go_upto_region 14 with (go_at_call 13; refine (HL.out).mono ?_; rintro e6 w6 ⟨B3, B5, rfl, hB3, hB5, hk3, hk5, hb6⟩; have HK3 := Lib.hid hk3; have HK5 := Lib.hid hk5; have HB6 := Lib.hid hb6; clear hk3 hk5 hb6)
      have hnil := func_is_some #[] #[.pointer (some ⟨B3, 0, none⟩), .pointer (some ⟨B5, 0, none⟩)] (.func 44)
      have HK16 := Lib.hid (HK15.out.below HB6.out HK15.out.lt)
      have HK26 := Lib.hid (HK25.out.below HB6.out HK25.out.lt)
      have HBW6 := Lib.hid (HBW5.out.trans (HB6.out.mono HBW5.out.size))
      have HWR6 := Lib.hid (HWR.out.below HB6.out (Nat.le_refl _))
      have z6 : w6.cell? ⟨w.heap.size + 1, 0, none⟩ = some (.int .i64 s) := HK26.out.cell 0
      have z7 : w6.frozen? ⟨w.heap.size + 1, 0, none⟩ = false := HK26.out.frozen 0
      have l6 := HK26.out.lt
      have HC := Lib.hid (within_any s hs64 w6)
      clear HK15 HK25 HBW5 HWR HL HA5 z5 l5
      go_upto_region 17 with (go_at_call 31; refine (HC.out).mono ?_; rintro e7 w7 ⟨⟨s', hs', rfl⟩, rfl⟩)
      clear hnil HC
      refine wp_gen (AskW w w4.heap.size A' c' k0 f s' B3 B5) ⟨HBW6.out.setCell (p := ⟨w.heap.size + 1, 0, none⟩) (Nat.le_succ _) _, by simpa using HK26.out.set_ 0 (.int .i64 (s' : Int)), ownsRow_setCell_below (own_below HWO.out HB6.out) (by show w.heap.size + 1 < w4.heap.size; omega) _, HK3.out.far (p := ⟨w.heap.size + 1, 0, none⟩) (by show B3 ≠ w.heap.size + 1; omega) _, HK5.out.far (p := ⟨w.heap.size + 1, 0, none⟩) (by show B5 ≠ w.heap.size + 1; omega) _⟩ ?_
      clear HBW6 HK16 HK26 HWR6 HWO HB6 HK3 HK5 z6 z7 l6
      rintro W7 hA7
      go_upto_region 18 with fail
      refine wp_gen (fun W => AskW w w4.heap.size A' c' k0 f s' B3 B5 W ∧ Bk W W7.heap.size 3 #[.int .i64 0]) ⟨hA7.below ((Below.refl _ _).alloc (Nat.le_refl _) _), Bk.new W7 3 _⟩ ?_
      obtain ⟨T0, hT0⟩ : ∃ b, W7.heap.size = b := ⟨_, rfl⟩
      rw [hT0]
      clear hA7 hT0
      rintro W8 ⟨hA8, hT8⟩
      have HAW := Lib.hid hA8
      have HT := Lib.hid hT8
      clear hA8 hT8
      refine wp_loop_turns 3 (turns_step ?_)
      have t0 : W8.cell? ⟨T0, 0, none⟩ = some (.int .i64 0) := HT.out.cell 0
      have lt0 := HT.out.lt
      have hwW8 : w.heap.size ≤ W8.heap.size := HAW.out.bl.size
      go_upto_region 21 with fail
      refine wp_gen (AskI W8 []) ⟨⟨_, Boxed.new W8 39 _, World.ownsRow_nil _ _ _ _, trivial⟩, (Below.refl _ _).alloc (Nat.le_refl _) _⟩ ?_
      rintro W9 hI9
      have hszW : W8.heap.size < W9.heap.size := by obtain ⟨⟨v9, hv9, -⟩, -⟩ := hI9; exact hv9.lt
      have hq3 := HAW.out.k3.below hI9.2 HAW.out.k3.lt
      have hq5 := HAW.out.k5.below hI9.2 HAW.out.k5.lt
      have lq5 := HAW.out.k5.lt
      have HQ3 := Lib.hid hq3
      have HQ5 := Lib.hid hq5
      have HI9 := Lib.hid hI9
      clear hq3 hq5 hI9 t0
      go_wp2
      refine (wpIn_wide (n := 5)).1 ?_
      refine wpIn_rangeFunc_ownF rfl (by omega) (gf := 44) (lb := #[.pointer (some ⟨B3, 0, none⟩), .pointer (some ⟨B5, 0, none⟩)]) rfl trivial (enters_of Try.func44 (by kernel_rfl) rfl)
        (all_stops Fence.wide 4 trivial rfl (by omega) B3 B5 W8.heap.size f k0 hf64.1 hk0n lq5 W9 (HQ3.out.cell 0) (by simpa using HQ5.out.cell 0) HQ3.out.lt HQ5.out.lt) belowK_t (belowK_b (Nat.le_of_lt hszW)) (Below.refl _ _) (fun _ => rfl)
        (AskI W8) (fun _ _ _ => False) (askI_own (Nat.le_of_lt hszW)) (fun _ => fun _ _ _ _ hs _ _ => hs) HI9.out ?a1 ?assign ?body ?done ?stop
      case assign =>
        intro r x W K hK
        gi_wp2
        exact hK
      case body =>
        rintro r pre x W ⟨⟨v, hv, hrow, -⟩, hb⟩ hlen
        have hz := hb.size
        have vc := hv.cell
        have vl := hv.lt
        have hT9 := HT.out.below hb HT.out.lt
        have h89 := HAW.out.b8.below hb HAW.out.b8.lt
        have hlT := HT.out.lt
        have hl8 := HAW.out.b8.lt
        have ne1 : T0 ≠ W8.heap.size := by omega
        have ne8 : w.heap.size + 1 ≠ W8.heap.size := by omega
        gi_wp2_with (gi_at_builtin; refine wpListIn_append_own _ rfl (.tmp 120) (.tmp 122) 39 rfl W8.heap.size 3 i0 _ 1 8 Try.underlying39 HI0.out HZ0.out HZ1.out HZ2.out rfl (by decide) v pre.length (ivals pre) rfl (hrow.alloc _) ⟨W.heap.size, 0, none⟩ 1 1 [.int .i64 x] rfl rfl (news_lit W 3 [.int .i64 x]) (by simp [Value.oneCell']) (by unfold maxLen; omega) (by omega) (by simp; omega) ?_; intro v' w1 hown' hgrow _; obtain ⟨g', cap', rfl⟩ := ownsRow_succ hown'; obtain ⟨hv1, hv2, hr2, hk2, hb2⟩ := hv.appended (by decide) hrow hz (Nat.le_refl _) hown' hgrow; have hT1 := (hT9.alloc (.cells #[.int .i64 x] 3)).grown hgrow (fun e => by have := (hrow.lt _ e.symm).1; omega); have h81 := (h89.alloc (.cells #[.int .i64 x] 3)).grown hgrow (fun e => by have := (hrow.lt _ e.symm).1; omega); have u0 : w1.cell? ⟨T0, 0, none⟩ = some (.int .i64 0) := hT1.cell 0; have u8 : w1.cell? ⟨w.heap.size + 1, 0, none⟩ = some (.int .i64 (s' : Int)) := h81.cell 0; have hc1 := hv1.cell; have hf1 := hv1.frozen; have lT1 := hT1.lt; have l81 := h81.lt; have lv1 := hv1.lt; have hc2 := hv2.cell; have HV2 := Lib.hid hv2; have HR2 := Lib.hid hr2; have HK2' := Lib.hid hk2; have HB2' := Lib.hid hb2; have HBP := Lib.hid hb; clear hv1 hv2 hr2 hk2 hb2 hT1 h81 hown' hgrow hv hrow hb vc vl hT9 h89)
        exact ⟨HK2'.out, HB2'.out, ⟨_, HV2.out, by have := HR2.out; simpa [ivals] using this, trivial⟩, HBP.out.trans HB2'.out⟩
      case stop =>
        rintro D cc pre W hD _ hx hK
        exact hx.elim
      case done =>
        rintro D xs W hD rfl hI hK
        have HI := Lib.hid hI
        have HWW := Lib.hid (HAW.out.below hI.2)
        have HTT := Lib.hid (HT.out.below hI.2 HT.out.lt)
        have HKD := Lib.hid hK
        have hDlt := (Array.getElem?_eq_some_iff.1 hK).1
        clear hI hK HQ3 HQ5 HI9 HT HAW lt0 lq5
        have hjk : k0 ≤ k0 := Nat.le_refl _
        obtain ⟨vg, hvg, hog, -⟩ := HI.out.1
        rw [nums_length] at hog
        obtain ⟨A3, c3, rfl, hc3, hr3⟩ := own_reads (nums_length f k0) hog
        obtain ⟨A5, c5, hwe, hcw, hrw⟩ := own_reads (nums_length f k0) HWW.out.own
        obtain ⟨rfl, rfl⟩ : A' = A5 ∧ c' = c5 := by injection hwe with h1 h2 h3; exact ⟨h1, h3⟩
        have x0 : W.cell? ⟨T0, 0, none⟩ = some (.int .i64 0) := HTT.out.cell 0
        have x1 : W.cell? ⟨W8.heap.size, 0, none⟩ = some (.slice A3 k0 c3) := hvg.cell
        have m0 := HTT.out.lt
        have m1 := hvg.lt
        have hgt : decide (k0 < k0) = false := decide_eq_false (by omega)
        have hcl : k0 ≤ c' := by omega
        have eX := fun y b o => ext_cell W.heap.size W y b o
        have hbe := fun y => ext_below W.heap.size W y
        have hr3' := hr3
        have hs1 : ∀ y, Calls Try.prog 28 #[.slice A3 k0 c3, .slice A' k0 c'] (ext W.heap.size W y) fun e w' => e = .returned (.bool true) ∧ Below (ext W.heap.size W y).heap.size (ext W.heap.size W y) w' := fun y => by
          have h := B_int.same_any A3 A' c3 c' (nums f k0) (nums f k0) (ext W.heap.size W y) (hr3.below (hbe y) (Nat.le_refl _)) ((nums_take (f := f) hjk ▸ hrw.take k0).below (hbe y) (Nat.le_refl _)) (by rw [nums_length]; omega)
          rw [nums_length, decide_eq_true rfl] at h
          exact h.mono fun e w' ⟨he, q, hq⟩ => ⟨he, hq ▸ below_drewN (Below.refl _ _) q⟩
        have HC := Lib.hid (fun y => call_of (hs1 y) (Nat.le_refl _))
        clear hs1 hr3 hr3' hrw hbe hwe hvg hog
        go_upto_region 25 with fail
        refine region_ext W.heap.size (by kernel_rfl) (by kernel_rfl) ?_
        repeat go_big_quiet_step ((go_at_call 28; with_reducible exact HC.out _))
        refine wpQuiet_nil ?_
        intro WE hbE
        have x2 : WE.cell? ⟨T0, 0, none⟩ = some (.int .i64 0) := (hbE.cell (p := ⟨T0, 0, none⟩) m0).trans x0
        have m2 : T0 < WE.heap.size := by have := hbE.size; omega
        have HWE := Lib.hid (HWW.out.below hbE)
        have HBE := Lib.hid hbE
        clear hbE eX x0 x1 HC hgt hcl HI HWW HTT
        have HD := Lib.hid ((HBE.out.block D hDlt).trans HKD.out)
        clear HKD HBE
        go_wp2
        refine turns_step ?_
        refine wp_gen (fun X => AskW w w4.heap.size A' c' k0 f s' B3 B5 X ∧ Bk X WE.heap.size 3 #[.int .i64 1] ∧ X.heap[D]? = some (.deferred (some []))) ⟨HWE.out.below ((Below.refl _ _).alloc (Nat.le_refl _) _), Bk.new WE 3 _, (Below.heap_alloc WE _ D (Array.getElem?_eq_some_iff.1 HD.out).1).trans HD.out⟩ ?_
        obtain ⟨T1, hT1⟩ : ∃ b, WE.heap.size = b := ⟨_, rfl⟩
        rw [hT1]
        clear hT1 HWE HD m0 m1 m2 x2 hDlt
        rintro W10 ⟨hA10, hT10, hD10⟩
        have HAW := Lib.hid hA10
        have HT := Lib.hid hT10
        have HD0 := Lib.hid hD10
        have hD0lt := (Array.getElem?_eq_some_iff.1 hD10).1
        clear hA10 hT10 hD10
        have t0 : W10.cell? ⟨T1, 0, none⟩ = some (.int .i64 1) := HT.out.cell 0
        have lt0 := HT.out.lt
        have hwW10 : w.heap.size ≤ W10.heap.size := HAW.out.bl.size
        go_upto_region 21 with fail
        refine wp_gen (AskI W10 []) ⟨⟨_, Boxed.new W10 39 _, World.ownsRow_nil _ _ _ _, trivial⟩, (Below.refl _ _).alloc (Nat.le_refl _) _⟩ ?_
        rintro W11 hI11
        have hszW : W10.heap.size < W11.heap.size := by obtain ⟨⟨v11, hv11, -⟩, -⟩ := hI11; exact hv11.lt
        have hq3 := HAW.out.k3.below hI11.2 HAW.out.k3.lt
        have hq5 := HAW.out.k5.below hI11.2 HAW.out.k5.lt
        have lq5 := HAW.out.k5.lt
        have HQ3 := Lib.hid hq3
        have HQ5 := Lib.hid hq5
        have HI11 := Lib.hid hI11
        clear hq3 hq5 hI11 t0
        go_wp2
        refine (wpIn_wide (n := 5)).1 ?_
        refine wpIn_rangeFunc_ownF rfl (by omega) (gf := 44) (lb := #[.pointer (some ⟨B3, 0, none⟩), .pointer (some ⟨B5, 0, none⟩)]) rfl trivial (enters_of Try.func44 (by kernel_rfl) rfl)
          (all_stops Fence.wide 4 trivial rfl (by omega) B3 B5 W10.heap.size f k0 hf64.1 hk0n lq5 W11 (HQ3.out.cell 0) (by simpa using HQ5.out.cell 0) HQ3.out.lt HQ5.out.lt) belowK_t (belowK_b (Nat.le_of_lt hszW)) (Below.refl _ _) (fun _ => rfl)
          (AskI W10) (fun cc pre W => cc = Code.exit 4 ∧ AskI W10 pre W) (askI_own (Nat.le_of_lt hszW)) (fun _ => OwnFrom.and (ownFrom_pure _ _) (askI_own (Nat.le_of_lt hszW))) HI11.out ?a1b ?assignb ?bodyb ?doneb ?stopb
        case assignb =>
          intro r x W K hK
          gi_wp2
          exact hK
        case bodyb =>
          rintro r pre x W ⟨⟨v, hv, hrow, -⟩, hb⟩ hlen
          have hz := hb.size
          have vc := hv.cell
          have vl := hv.lt
          have hT9 := HT.out.below hb HT.out.lt
          have h89 := HAW.out.b8.below hb HAW.out.b8.lt
          have hlT := HT.out.lt
          have hl8 := HAW.out.b8.lt
          have ne1 : T1 ≠ W10.heap.size := by omega
          have ne8 : w.heap.size + 1 ≠ W10.heap.size := by omega
          gi_wp2_with (gi_at_builtin; refine wpListIn_append_own _ rfl (.tmp 120) (.tmp 122) 39 rfl W10.heap.size 3 i0 _ 1 8 Try.underlying39 HI0.out HZ0.out HZ1.out HZ2.out rfl (by decide) v pre.length (ivals pre) rfl (hrow.alloc _) ⟨W.heap.size, 0, none⟩ 1 1 [.int .i64 x] rfl rfl (news_lit W 3 [.int .i64 x]) (by simp [Value.oneCell']) (by unfold maxLen; omega) (by omega) (by simp; omega) ?_; intro v' w1 hown' hgrow _; obtain ⟨g', cap', rfl⟩ := ownsRow_succ hown'; obtain ⟨hv1, hv2, hr2, hk2, hb2⟩ := hv.appended (by decide) hrow hz (Nat.le_refl _) hown' hgrow; have hT1 := (hT9.alloc (.cells #[.int .i64 x] 3)).grown hgrow (fun e => by have := (hrow.lt _ e.symm).1; omega); have h81 := (h89.alloc (.cells #[.int .i64 x] 3)).grown hgrow (fun e => by have := (hrow.lt _ e.symm).1; omega); have u0 : w1.cell? ⟨T1, 0, none⟩ = some (.int .i64 1) := hT1.cell 0; have u8 : w1.cell? ⟨w.heap.size + 1, 0, none⟩ = some (.int .i64 (s' : Int)) := h81.cell 0; have hc1 := hv1.cell; have hf1 := hv1.frozen; have lT1 := hT1.lt; have l81 := h81.lt; have lv1 := hv1.lt; have hc2 := hv2.cell; have HV2 := Lib.hid hv2; have HR2 := Lib.hid hr2; have HK2' := Lib.hid hk2; have HB2' := Lib.hid hb2; have HBP := Lib.hid hb; clear hv1 hv2 hr2 hk2 hb2 hT1 h81 hown' hgrow hv hrow hb vc vl hT9 h89)
          · exact ⟨HK2'.out, rfl, ⟨_, HV2.out, by have := HR2.out; simpa [ivals] using this, trivial⟩, HBP.out.trans HB2'.out⟩
          · exact ⟨HK2'.out, HB2'.out, ⟨_, HV2.out, by have := HR2.out; simpa [ivals] using this, trivial⟩, HBP.out.trans HB2'.out⟩
        case stopb =>
          rintro D2 cc pre W hD2 ⟨j, hjk, rfl⟩ ⟨rfl, hI⟩ hK
          refine wpIn_wide.2 ?_
          have HI := Lib.hid hI
          have HWW := Lib.hid (HAW.out.below hI.2)
          have HTT := Lib.hid (HT.out.below hI.2 HT.out.lt)
          have HKD := Lib.hid hK
          have hDlt := (Array.getElem?_eq_some_iff.1 hK).1
          have HD1' := Lib.hid ((hI.2.block D hD0lt).trans HD0.out)
          have hD1lt : D < W.heap.size := by have := hI.2.size; omega
          clear hI hK HQ3 HQ5 HI11 HT HAW lt0 lq5
          obtain ⟨vg, hvg, hog, -⟩ := HI.out.1
          rw [nums_length] at hog
          obtain ⟨A3, c3, rfl, hc3, hr3⟩ := own_reads (nums_length f j) hog
          obtain ⟨A5, c5, hwe, hcw, hrw⟩ := own_reads (nums_length f k0) HWW.out.own
          obtain ⟨rfl, rfl⟩ : A' = A5 ∧ c' = c5 := by injection hwe with h1 h2 h3; exact ⟨h1, h3⟩
          have x0 : W.cell? ⟨T1, 0, none⟩ = some (.int .i64 1) := HTT.out.cell 0
          have x1 : W.cell? ⟨W10.heap.size, 0, none⟩ = some (.slice A3 j c3) := hvg.cell
          have m0 := HTT.out.lt
          have m1 := hvg.lt
          have hgt : decide (k0 < j) = false := decide_eq_false (by omega)
          have hcl : j ≤ c' := by omega
          have eX := fun y b o => ext_cell W.heap.size W y b o
          have hbe := fun y => ext_below W.heap.size W y
          have hr3' := hr3
          have hs1 : ∀ y, Calls Try.prog 28 #[.slice A3 j c3, .slice A' j c'] (ext W.heap.size W y) fun e w' => e = .returned (.bool true) ∧ Below (ext W.heap.size W y).heap.size (ext W.heap.size W y) w' := fun y => by
            have h := B_int.same_any A3 A' c3 c' (nums f j) (nums f j) (ext W.heap.size W y) (hr3.below (hbe y) (Nat.le_refl _)) ((nums_take (f := f) hjk ▸ hrw.take j).below (hbe y) (Nat.le_refl _)) (by rw [nums_length]; omega)
            rw [nums_length, decide_eq_true rfl] at h
            exact h.mono fun e w' ⟨he, q, hq⟩ => ⟨he, hq ▸ below_drewN (Below.refl _ _) q⟩
          have HC := Lib.hid (fun y => call_of (hs1 y) (Nat.le_refl _))
          clear hs1 hr3 hr3' hrw hbe hwe hvg hog
          go_upto_region 25 with fail
          refine region_ext W.heap.size (by kernel_rfl) (by kernel_rfl) ?_
          repeat go_big_quiet_step ((go_at_call 28; with_reducible exact HC.out _))
          refine wpQuiet_nil ?_
          intro WE hbE
          have x2 : WE.cell? ⟨T1, 0, none⟩ = some (.int .i64 1) := (hbE.cell (p := ⟨T1, 0, none⟩) m0).trans x0
          have m2 : T1 < WE.heap.size := by have := hbE.size; omega
          have HWE := Lib.hid (HWW.out.below hbE)
          have HBE := Lib.hid hbE
          clear hbE eX x0 x1 HC hgt hcl HI HWW HTT
          have HDD := Lib.hid ((HBE.out.block D2 hDlt).trans HKD.out)
          have HD1 := Lib.hid ((HBE.out.block D hD1lt).trans HD1'.out)
          clear HKD HBE HD1'
          go_wp2
          refine turns_step ?_
          refine wp_gen (fun X => Below w.heap.size w X ∧ Bk X WE.heap.size 3 #[.int .i64 2] ∧ X.heap[D]? = some (.deferred (some [])) ∧ X.heap[D2]? = some (.deferred (some []))) ⟨(HWE.out.below ((Below.refl _ _).alloc (Nat.le_refl _) _)).bl, Bk.new WE 3 _, (Below.heap_alloc WE _ D (Array.getElem?_eq_some_iff.1 HD1.out).1).trans HD1.out, (Below.heap_alloc WE _ D2 (Array.getElem?_eq_some_iff.1 HDD.out).1).trans HDD.out⟩ ?_
          obtain ⟨T2, hT2⟩ : ∃ b, WE.heap.size = b := ⟨_, rfl⟩
          rw [hT2]
          clear hT2 HWE HDD HD1 m0 m1 m2 x2
          rintro W12 ⟨hb12, hT12, hD12, hE12⟩
          have t0 : W12.cell? ⟨T2, 0, none⟩ = some (.int .i64 2) := hT12.cell 0
          have lt0 := hT12.lt
          have HB12 := Lib.hid hb12
          have HD12 := Lib.hid hD12
          have HE12 := Lib.hid hE12
          clear hb12 hT12 hD12 hE12
          go_wp2_with (go_at_call 18; refine (known_any _).mono ?_; rintro e13 w13 ⟨rfl, hb13⟩; have HB13 := Lib.hid hb13; clear hb13)
          have hD13 : w13.heap[D]? = some (.deferred (some [])) := (HB13.out.block D (Array.getElem?_eq_some_iff.1 HD12.out).1).trans HD12.out
          have hE13 : w13.heap[D2]? = some (.deferred (some [])) := (HB13.out.block D2 (Array.getElem?_eq_some_iff.1 HE12.out).1).trans HE12.out
          have hne : D ≠ D2 := by omega
          have hD14 : (w13.putObj D2 (.deferred none)).heap[D]? = some (.deferred (some [])) := (World.putObj_heap_other hne).trans hD13
          have hwD : w.heap.size ≤ D := by omega
          have hwE : w.heap.size ≤ D2 := by omega
          refine ⟨by simp, .inl ⟨_, _, rfl, run_takeDeferred hE13, ?_⟩⟩
          refine ⟨by simp, .inl ⟨_, _, rfl, run_takeDeferred hD14, ?_⟩⟩
          refine ⟨.bool true, by simp [results, Try.results6, go_sem], rfl, ?_⟩
          exact ((HB12.out.trans (HB13.out.mono HB12.out.size)).trans (belowK_b (w := w) (Nat.le_refl _) _ D2 _ _ hwE hE13 rfl rfl)).trans (belowK_b (w := w) (Nat.le_refl _) _ D _ _ hwD hD14 rfl rfl)
        case doneb =>
          rintro D2 xs W hD2 rfl hI hK
          have HI := Lib.hid hI
          have HWW := Lib.hid (HAW.out.below hI.2)
          have HTT := Lib.hid (HT.out.below hI.2 HT.out.lt)
          have HKD := Lib.hid hK
          have hDlt := (Array.getElem?_eq_some_iff.1 hK).1
          have HD1' := Lib.hid ((hI.2.block D hD0lt).trans HD0.out)
          have hD1lt : D < W.heap.size := by have := hI.2.size; omega
          clear hI hK HQ3 HQ5 HI11 HT HAW lt0 lq5
          have hjk : k0 ≤ k0 := Nat.le_refl _
          obtain ⟨vg, hvg, hog, -⟩ := HI.out.1
          rw [nums_length] at hog
          obtain ⟨A3, c3, rfl, hc3, hr3⟩ := own_reads (nums_length f k0) hog
          obtain ⟨A5, c5, hwe, hcw, hrw⟩ := own_reads (nums_length f k0) HWW.out.own
          obtain ⟨rfl, rfl⟩ : A' = A5 ∧ c' = c5 := by injection hwe with h1 h2 h3; exact ⟨h1, h3⟩
          have x0 : W.cell? ⟨T1, 0, none⟩ = some (.int .i64 1) := HTT.out.cell 0
          have x1 : W.cell? ⟨W10.heap.size, 0, none⟩ = some (.slice A3 k0 c3) := hvg.cell
          have m0 := HTT.out.lt
          have m1 := hvg.lt
          have hgt : decide (k0 < k0) = false := decide_eq_false (by omega)
          have hcl : k0 ≤ c' := by omega
          have eX := fun y b o => ext_cell W.heap.size W y b o
          have hbe := fun y => ext_below W.heap.size W y
          have hr3' := hr3
          have hs1 : ∀ y, Calls Try.prog 28 #[.slice A3 k0 c3, .slice A' k0 c'] (ext W.heap.size W y) fun e w' => e = .returned (.bool true) ∧ Below (ext W.heap.size W y).heap.size (ext W.heap.size W y) w' := fun y => by
            have h := B_int.same_any A3 A' c3 c' (nums f k0) (nums f k0) (ext W.heap.size W y) (hr3.below (hbe y) (Nat.le_refl _)) ((nums_take (f := f) hjk ▸ hrw.take k0).below (hbe y) (Nat.le_refl _)) (by rw [nums_length]; omega)
            rw [nums_length, decide_eq_true rfl] at h
            exact h.mono fun e w' ⟨he, q, hq⟩ => ⟨he, hq ▸ below_drewN (Below.refl _ _) q⟩
          have HC := Lib.hid (fun y => call_of (hs1 y) (Nat.le_refl _))
          clear hs1 hr3 hr3' hrw hbe hwe hvg hog
          go_upto_region 25 with fail
          refine region_ext W.heap.size (by kernel_rfl) (by kernel_rfl) ?_
          repeat go_big_quiet_step ((go_at_call 28; with_reducible exact HC.out _))
          refine wpQuiet_nil ?_
          intro WE hbE
          have x2 : WE.cell? ⟨T1, 0, none⟩ = some (.int .i64 1) := (hbE.cell (p := ⟨T1, 0, none⟩) m0).trans x0
          have m2 : T1 < WE.heap.size := by have := hbE.size; omega
          have HWE := Lib.hid (HWW.out.below hbE)
          have HBE := Lib.hid hbE
          clear hbE eX x0 x1 HC hgt hcl HI HWW HTT
          have HDD := Lib.hid ((HBE.out.block D2 hDlt).trans HKD.out)
          have HD1 := Lib.hid ((HBE.out.block D hD1lt).trans HD1'.out)
          clear HKD HBE HD1'
          go_wp2
          refine turns_step ?_
          refine wp_gen (fun X => Below w.heap.size w X ∧ Bk X WE.heap.size 3 #[.int .i64 2] ∧ X.heap[D]? = some (.deferred (some [])) ∧ X.heap[D2]? = some (.deferred (some []))) ⟨(HWE.out.below ((Below.refl _ _).alloc (Nat.le_refl _) _)).bl, Bk.new WE 3 _, (Below.heap_alloc WE _ D (Array.getElem?_eq_some_iff.1 HD1.out).1).trans HD1.out, (Below.heap_alloc WE _ D2 (Array.getElem?_eq_some_iff.1 HDD.out).1).trans HDD.out⟩ ?_
          obtain ⟨T2, hT2⟩ : ∃ b, WE.heap.size = b := ⟨_, rfl⟩
          rw [hT2]
          clear hT2 HWE HDD HD1 m0 m1 m2 x2
          rintro W12 ⟨hb12, hT12, hD12, hE12⟩
          have t0 : W12.cell? ⟨T2, 0, none⟩ = some (.int .i64 2) := hT12.cell 0
          have lt0 := hT12.lt
          have HB12 := Lib.hid hb12
          have HD12 := Lib.hid hD12
          have HE12 := Lib.hid hE12
          clear hb12 hT12 hD12 hE12
          go_wp2_with (go_at_call 18; refine (known_any _).mono ?_; rintro e13 w13 ⟨rfl, hb13⟩; have HB13 := Lib.hid hb13; clear hb13)
          have hD13 : w13.heap[D]? = some (.deferred (some [])) := (HB13.out.block D (Array.getElem?_eq_some_iff.1 HD12.out).1).trans HD12.out
          have hE13 : w13.heap[D2]? = some (.deferred (some [])) := (HB13.out.block D2 (Array.getElem?_eq_some_iff.1 HE12.out).1).trans HE12.out
          have hne : D ≠ D2 := by omega
          have hD14 : (w13.putObj D2 (.deferred none)).heap[D]? = some (.deferred (some [])) := (World.putObj_heap_other hne).trans hD13
          have hwD : w.heap.size ≤ D := by omega
          have hwE : w.heap.size ≤ D2 := by omega
          refine ⟨by simp, .inl ⟨_, _, rfl, run_takeDeferred hE13, ?_⟩⟩
          refine ⟨by simp, .inl ⟨_, _, rfl, run_takeDeferred hD14, ?_⟩⟩
          refine ⟨.bool true, by simp [results, Try.results6, go_sem], rfl, ?_⟩
          exact ((HB12.out.trans (HB13.out.mono HB12.out.size)).trans (belowK_b (w := w) (Nat.le_refl _) _ D2 _ _ hwE hE13 rfl rfl)).trans (belowK_b (w := w) (Nat.le_refl _) _ D _ _ hwD hD14 rfl rfl)
end Go.Proofs.Ytofllmofdenadaa
