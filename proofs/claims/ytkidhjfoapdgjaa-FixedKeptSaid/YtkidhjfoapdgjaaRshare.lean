import Derived.Test.YtkidhjfoapdgjaaShare
import Derived.Test.YtkidhjfoapdgjaaMark
namespace Go.Proofs.Ytkidhjfoapdgjaa
set_option linter.unusedVariables false
open Go.RowKit Go.Proofs.Fx Go.Proofs.Fm Go.Proofs.Fo

theorem share_row2 {w wr : World} {gR k : Nat} {T u : Int} {xs ys zs : List Int} (hI : Hid (IB wr w.heap.size 2 .i64 ys)) (hJ : Hid (IB wr gR 2 .i64 zs)) (hne1 : ¬ (w.heap.size = gR)) (hne2 : ¬ (gR = w.heap.size))
    (hy : Hid (ys.length = xs.length ∧ ys.take k = (bases T xs).take k)) (hz : Hid (zs.length = xs.length ∧ zs.take k = (rems T xs).take k)) (hb : RowKit.Below w.heap.size w wr)
    (hBG : Hid ((bases T xs).getD k 0 = T * wt u / wsum xs)) (hRG : Hid ((rems T xs).getD k 0 = T * wt u % wsum xs)) (hk : k < xs.length) (hgR : w.heap.size ≤ gR) :
    Hid (IB ((wr.setCell ⟨w.heap.size, k, none⟩ (.int .i64 (T * clamp u 0 65536 / wsum xs))).setCell ⟨gR, k, none⟩ (.int .i64 (T * clamp u 0 65536 % wsum xs))) w.heap.size 2 .i64 (ys.set k (T * clamp u 0 65536 / wsum xs)) ∧
      IB ((wr.setCell ⟨w.heap.size, k, none⟩ (.int .i64 (T * clamp u 0 65536 / wsum xs))).setCell ⟨gR, k, none⟩ (.int .i64 (T * clamp u 0 65536 % wsum xs))) gR 2 .i64 (zs.set k (T * clamp u 0 65536 % wsum xs)) ∧
      Hid ((ys.set k (T * clamp u 0 65536 / wsum xs)).length = xs.length ∧ (ys.set k (T * clamp u 0 65536 / wsum xs)).take (k + 1) = (bases T xs).take (k + 1)) ∧
      Hid ((zs.set k (T * clamp u 0 65536 % wsum xs)).length = xs.length ∧ (zs.set k (T * clamp u 0 65536 % wsum xs)).take (k + 1) = (rems T xs).take (k + 1)) ∧
      RowKit.Below w.heap.size w ((wr.setCell ⟨w.heap.size, k, none⟩ (.int .i64 (T * clamp u 0 65536 / wsum xs))).setCell ⟨gR, k, none⟩ (.int .i64 (T * clamp u 0 65536 % wsum xs)))) :=
  ⟨((hI.out.set_ k _).far (p := ⟨gR, k, none⟩) hne1 _), ((hJ.out.far (p := ⟨w.heap.size, k, none⟩) hne2 _).set_ k _),
    set_part (bases_length T xs) hy.out hk hBG.out, set_part (rems_length T xs) hz.out hk hRG.out,
    ((hb.setCell (p := ⟨w.heap.size, k, none⟩) (Nat.le_refl _) _).setCell (p := ⟨gR, k, none⟩) hgR _)⟩
theorem rems_nonneg {T : Int} {xs : List Int} (h : wsum xs ≠ 0) : ∀ i, i < (rems T xs).length → 0 ≤ (rems T xs).getD i 0 := by
  intro i hi
  rw [List.getD_eq_getElem?_getD, List.getElem?_eq_getElem hi, Option.getD_some]
  exact (rems_bd h _ (List.getElem_mem hi)).1

set_option maxHeartbeats 3200000 in
theorem rshare_any (t : Int) (A : Option Addr) (c : Nat) (xs : List Int) (w : World) (ha : Row w .i64 A xs) (hx : xs.length ≤ 17592186044416) :
    Calls Try.prog 27 #[.int .i64 t, .slice A xs.length c] w fun e w' => ∃ g, e = .returned (.slice (some ⟨g, 0, none⟩) xs.length xs.length) ∧ w.heap.size ≤ g ∧
      IB w' g 2 .i64 (share t xs) ∧ RowKit.Below w.heap.size w w' := by
  obtain ⟨i0, hi0, hz0, hs0, hb0⟩ := info_parts Try.info2
  have Hb0 : i0.bytes ≤ 8 := by omega
  have HZ := Lib.hid hz0
  have HS := Lib.hid hs0
  clear hz0 hs0 hb0
  have hT := tot_bd t
  unfold tot at hT
  go_enter Try.func27, Try.ntmps27
  go_wp2_with (first
    | (refine wpList_make_ints _ rfl (.tmp 17) (.tmp 17) 25 rfl 2 .i64 i0 Try.underlying25 hi0 HZ.out HS.out Hb0 .i64 .i64 _ _ xs.length rfl rfl (by omega) (by omega) (by omega) ?_; intro w1 h1 hb1)
    | (refine wpList_make_ints _ rfl (.tmp 20) (.tmp 20) 25 rfl 2 .i64 i0 Try.underlying25 hi0 HZ.out HS.out Hb0 .i64 .i64 _ _ xs.length rfl rfl (by omega) (by omega) (by omega) ?_; intro w2 h2 hb2)
    | (go_at_call 36; refine (in_any _ _ _ (by omega) _).mono ?_; rintro e w' ⟨rfl, rfl⟩))
  have hlt1 := h1.lt
  have hbb : RowKit.Below w.heap.size w w2 := hb1.trans (hb2.mono hb1.size)
  have h1' := h1.below hb2 hlt1
  clear h1 hb1 hb2
  generalize hTT : clamp t 0 70368744177664 = T at hT ⊢
  have HTT := Lib.hid hTT
  clear hTT
  generalize w1.heap.size = gR at *
  have hgR : w.heap.size ≤ gR := by omega
  go_loop [7, 8] (fun s i => ∃ (k : Nat), k ≤ xs.length ∧ i = .int .i64 k ∧ s = .int .i64 (wsum (xs.take k))) (fun _ i => xs.length - (intOf i).toNat)
  case atStart => exact ⟨0, by omega, rfl, rfl⟩
  case round =>
    obtain ⟨k, hk, rfl, rfl⟩ := hrel
    by_cases hlt : k < xs.length
    · obtain ⟨b, o, rfl, hc⟩ := (ha.below hbb (Nat.le_refl _)).at_ hlt
      have g1 := hc k hlt
      have HS' := Lib.hid (wsum_step xs k hlt)
      have hb := wsum_bd (xs.take k)
      have hl : (xs.take k).length ≤ k := List.length_take_le _ _
      generalize xs.getD k 0 = u at g1 HS'
      have hu := clamp_bd u 0 65536 (by omega)
      have hb1 : 0 ≤ wsum (xs.take k) := hb.1
      have hb2 : wsum (xs.take k) ≤ 1152921504606846976 := by omega
      clear hc ha hb hl
      go_wp2_with (go_at_call 36; refine (in_any _ _ _ (by omega) _).mono ?_; rintro e w' ⟨rfl, rfl⟩)
      go_round
      case rel => exact ⟨k + 1, by omega, by go_num, by rw [HS'.out]⟩
      case measure => simp [intOf]; omega
    · have hke : k = xs.length := by omega
      subst hke
      rw [List.take_of_length_le (Nat.le_refl xs.length)]
      by_cases h0 : wsum xs = 0
      · have H0 := Lib.hid h0
        have h00 : (wsum xs == 0) = true := by simpa using h0
        clear h0
        go_wp2
        go_ret
        exact ⟨w.heap.size, rfl, Nat.le_refl _, by rw [share, if_pos H0.out]; exact h1', hbb⟩
      · have H0 := Lib.hid h0
        have h00 : (wsum xs == 0) = false := by simpa using h0
        have hp := wsum_pos h0
        have hsw := wsum_bd xs
        have hsb : wsum xs ≤ 1152921504606846976 := by omega
        clear hsw h0
        go_wp2
        go_loopw [9, 10] (fun l i wr => ∃ (k : Nat) (ys zs : List Int), k ≤ xs.length ∧ i = .int .i64 k ∧ l = .int .i64 (T - sumL ((bases T xs).take k)) ∧ IB wr w.heap.size 2 .i64 ys ∧ IB wr gR 2 .i64 zs ∧ Hid (ys.length = xs.length ∧ ys.take k = (bases T xs).take k) ∧
          Hid (zs.length = xs.length ∧ zs.take k = (rems T xs).take k) ∧ RowKit.Below w.heap.size w wr) (fun _ i _ => xs.length - (intOf i).toNat)
        case atStart => exact ⟨0, _, _, Nat.zero_le _, rfl, by simp [sumL], h1', h2, ⟨by simp, rfl⟩, ⟨by simp, rfl⟩, hbb⟩
        case round =>
          obtain ⟨k, ys, zs, hk, rfl, rfl, hI, hJ, hy, hz, hb⟩ := hrel
          by_cases hlt : k < xs.length
          · obtain ⟨b, o, rfl, hc⟩ := (ha.below hb (Nat.le_refl _)).at_ hlt
            have g0 := hc k hlt
            have hy1 := hy.out.1
            have hz1 := hz.out.1
            have hI' := Lib.hid hI
            have hJ' := Lib.hid hJ
            have g1 := hI.cell (i := k) (by omega)
            have g2 := hI.frozen k
            have g3 := hJ.cell (i := k) (by omega)
            have g4 := hJ.frozen k
            have hSB := Lib.hid (sumL_step (bases T xs) k (by rw [bases_length]; exact hlt))
            have hBG := Lib.hid (bases_getD T xs hlt)
            have hRG := Lib.hid (rems_getD T xs hlt)
            have hlb := bases_take hT.1 H0.out k
            have hlb' := bases_take hT.1 H0.out (k + 1)
            generalize xs.getD k 0 = u at g0 hBG hRG
            generalize ys.getD k 0 = oy at g1
            generalize zs.getD k 0 = oz at g3
            have hu := wt_bd u
            unfold wt at hu
            have hm := mul_bd (a := T) (f := clamp u 0 65536) (by omega) (by omega) (by omega) (by omega)
            have hm0 : 0 ≤ T * clamp u 0 65536 := Int.mul_nonneg hT.1 hu.1
            have i1 : (k : Int) < (xs.length : Int) := by omega
            have hne1 : ¬ (w.heap.size = gR) := by omega
            have hne2 : ¬ (gR = w.heap.size) := by omega
            have hq := quo_nn (T * clamp u 0 65536) (wsum xs) hp hm0 hm.2
            have FI := share_row2 hI' hJ' hne1 hne2 hy hz hb hBG hRG hlt hgR
            clear hc hy1 hz1 ha hI hJ
            go_wp2_with (go_at_call 36; refine (in_any _ _ _ (by omega) _).mono ?_; rintro e w' ⟨rfl, rfl⟩)
            go_roundw
            case rel => exact ⟨k + 1, _, _, by omega, by go_num, share_left hSB hBG, FI.out.1, FI.out.2.1, FI.out.2.2.1, FI.out.2.2.2.1, FI.out.2.2.2.2⟩
            case measure => simp [intOf]; omega
          · have hke : k = xs.length := by omega
            subst hke
            have hys : ys = bases T xs := by
              have := hy.out.2
              rwa [List.take_of_length_le (by rw [hy.out.1]; omega), List.take_of_length_le (by rw [bases_length]; omega)] at this
            have hzs : zs = rems T xs := by
              have := hz.out.2
              rwa [List.take_of_length_le (by rw [hz.out.1]; omega), List.take_of_length_le (by rw [rems_length]; omega)] at this
            subst hys hzs
            have hlb := left_bd hT.1 H0.out
            have hle := left_le hT.1 H0.out
            obtain ⟨L, hL⟩ : ∃ L : Nat, T - sumL ((bases T xs).take xs.length) = L := by
              rw [List.take_of_length_le (by rw [bases_length]; omega)]
              exact ⟨(left_ T xs).toNat, by unfold left_ at *; omega⟩
            have hLl : left_ T xs = L := by
              rw [List.take_of_length_le (by rw [bases_length]; omega)] at hL
              exact hL
            have hLn : L ≤ xs.length := by omega
            have hn0 : 0 < xs.length := by
              rcases Nat.eq_zero_or_pos xs.length with e | e
              · have : xs = [] := List.eq_nil_of_length_eq_zero e
                subst this; simp [wsum_nil] at hp
              · exact e
            rw [hL]
            have HL := Lib.hid hLl
            clear hL hLl hlb hle hy hz ha h1' h2 hbb
            have hne1 : ¬ (w.heap.size = gR) := by omega
            have hne2 : ¬ (gR = w.heap.size) := by omega
            go_wp2
            go_loopw [9] (fun l wq => ∃ (m : Nat), m ≤ L ∧ l = .int .i64 ((L : Int) - m) ∧ IB wq w.heap.size 2 .i64 (bump (bases T xs) (rems T xs) m) ∧ IB wq gR 2 .i64 (marks (rems T xs) m) ∧ RowKit.Below w.heap.size w wq) (fun l _ => (intOf l).toNat)
            case atStart => exact ⟨0, Nat.zero_le _, by simp, by rw [bump_zero]; exact hI, by rw [marks_zero]; exact hJ, hb⟩
            case round =>
              obtain ⟨m, hm, rfl, hI, hJ, hb⟩ := hrel
              by_cases hlt : m < L
              · have i0 : 0 < (L : Int) - (m : Int) := by omega
                go_wp2
                obtain ⟨wo, rfl⟩ : ∃ wo : World, wo = wr := ⟨_, rfl⟩
                go_loopw [12, 13] (fun b i wq => ∃ (p j q : Nat), b = .int .i64 p ∧ i = .int .i64 j ∧ j ≤ xs.length ∧ p < j ∧ Hid (BestOf (marks (rems T xs) m) p j) ∧ wq = wo.drewN q) (fun _ i _ => xs.length - (intOf i).toNat)
                case atStart => exact ⟨0, 1, 0, rfl, rfl, by omega, by omega, BestOf.one _, rfl⟩
                case round =>
                  obtain ⟨p, j, q, rfl, rfl, hj, hpj, hB, rfl⟩ := hrel
                  by_cases hjl : j < xs.length
                  · have g1 := hJ.cell (i := j) (by rw [marks_length, rems_length]; exact hjl)
                    have g2 := hJ.cell (i := p) (by rw [marks_length, rems_length]; omega)
                    generalize hvj : (marks (rems T xs) m).getD j 0 = vj at g1
                    generalize hvp : (marks (rems T xs) m).getD p 0 = vp at g2
                    have HVJ := Lib.hid hvj
                    have HVP := Lib.hid hvp
                    clear hvj hvp hI hJ
                    have i1 : (j : Int) < (xs.length : Int) := by omega
                    have i2 : (p : Int) < (xs.length : Int) := by omega
                    go_wp2
                    go_quiet (fail)
                    go_wp2
                    · have hv : vp < vj := by assumption
                      have hB' := Lib.hid (hB.out.more (by rw [HVP.out, HVJ.out]; exact hv))
                      go_roundw
                      case rel => exact ⟨j, j + 1, q + nq, rfl, by go_num, by omega, by omega, hB'.out, rfl⟩
                      case measure => simp [intOf]; omega
                    · have hv : vj ≤ vp := by assumption
                      have hB' := Lib.hid (hB.out.same (by rw [HVP.out, HVJ.out]; exact hv))
                      go_roundw
                      case rel => exact ⟨p, j + 1, q + nq, rfl, by go_num, by omega, by omega, hB'.out, rfl⟩
                      case measure => simp [intOf]; omega
                  · have hje : j = xs.length := by omega
                    subst hje
                    have hrk : rank (rems T xs) p = m := by
                      have h := hB.out
                      have hl := rems_length T xs
                      exact BestOf.rank_ (by rw [hl]; exact h) (by rw [hl]; omega) (rems_nonneg H0.out)
                    have g1 := hI.cell (i := p) (by rw [bump_length, bases_length]; exact hpj)
                    have g2 := hI.frozen p
                    have g3 := hJ.cell (i := p) (by rw [marks_length, rems_length]; exact hpj)
                    have g4 := hJ.frozen p
                    have hbd := bump_bd hT hp (ws := xs) hpj m
                    have hI' := Lib.hid ((share_bump hpj hrk hI).far (p := ⟨gR, p, none⟩) hne1 (.int .i64 (-1)))
                    have hJ' := Lib.hid ((hJ.far (p := ⟨w.heap.size, p, none⟩) hne2 (.int .i64 ((bump (bases T xs) (rems T xs) m).getD p 0 + 1))).set_ p (-1))
                    rw [← marks_step (by rw [rems_length]; exact hpj) hrk] at hJ'
                    have hb' := ((hb.setCell (p := ⟨w.heap.size, p, none⟩) (Nat.le_refl _) (.int .i64 ((bump (bases T xs) (rems T xs) m).getD p 0 + 1))).setCell (p := ⟨gR, p, none⟩) hgR (.int .i64 (-1)))
                    clear hI hJ hB hrk
                    generalize (bump (bases T xs) (rems T xs) m).getD p 0 = y at *
                    generalize (marks (rems T xs) m).getD p 0 = z at *
                    have i2 : (p : Int) < (xs.length : Int) := by omega
                    go_wp2
                    go_roundw
                    case rel => exact ⟨m + 1, by omega, by go_num, hI'.out, hJ'.out, below_drewN hb' q⟩
                    case measure => simp [intOf]; omega
              · have hme : m = L := by omega
                subst hme
                have i0 : ¬ 0 < (m : Int) - (m : Int) := by omega
                go_wp2
                go_ret
                refine ⟨w.heap.size, rfl, Nat.le_refl _, ?_, hb⟩
                rw [share, if_neg H0.out]
                unfold tot
                rw [HTT.out, HL.out, Int.toNat_natCast]
                exact hI
end Go.Proofs.Ytkidhjfoapdgjaa
