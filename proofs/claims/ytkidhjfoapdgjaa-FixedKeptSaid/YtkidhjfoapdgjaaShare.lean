import Derived.Test.YtkidhjfoapdgjaaGreat
import Derived.Test.YtkidhjfoapdgjaaShr
import Derived.RegionTactic
import Derived.BigRegion
namespace Go.Proofs.Ytkidhjfoapdgjaa
set_option linter.unusedVariables false
open Go.RowKit Go.Proofs.Fx Go.Proofs.Fm Go.Proofs.Fo

set_option maxHeartbeats 800000 in
theorem share_zero (t : Int) (A : Option Addr) (c : Nat) (xs : List Int) (w : World) (ha : Row w .i64 A xs) (hx : xs.length ≤ 17592186044416) (h0 : wsum xs = 0) :
    Calls Try.prog 13 #[.int .i64 t, .slice A xs.length c] w fun e w' => ∃ g, e = .returned (.slice (some ⟨g, 0, none⟩) xs.length xs.length) ∧ w.heap.size ≤ g ∧
      IB w' g 2 .i64 (share t xs) ∧ Below w.heap.size w w' := by
  obtain ⟨i0, hi0, hz0, hs0, hb0⟩ := info_parts Try.info2
  have Hb0 : i0.bytes ≤ 8 := by omega
  have HZ := Lib.hid hz0
  have HS := Lib.hid hs0
  clear hz0 hs0 hb0
  have H0 := Lib.hid h0
  have h00 : (wsum xs == 0) = true := by simpa using h0
  clear h0
  go_enter Try.func13, Try.ntmps13
  go_wp2_with (first
    | (refine wpList_make_ints _ rfl (.tmp 15) (.tmp 15) 25 rfl 2 .i64 i0 Try.underlying25 hi0 HZ.out HS.out Hb0 .i64 .i64 _ _ xs.length rfl rfl (by omega) (by omega) (by omega) ?_; intro w1 h1 hb1)
    | (go_at_call 33; refine (wsum_any _ _ xs _ (ha.below hb1 (Nat.le_refl _)) hx).mono ?_; rintro e w' ⟨rfl, rfl⟩))
  go_ret
  exact ⟨w.heap.size, rfl, Nat.le_refl _, by rw [share, if_pos H0.out]; exact h1, hb1⟩

theorem quo_nn (n s : Int) (hs : 1 ≤ s) (h : 0 ≤ n) (h' : n ≤ 4611686018427387904) : 0 ≤ n / s ∧ n / s ≤ 4611686018427387904 :=
  ⟨Int.ediv_nonneg h (by omega), Int.le_trans (Int.ediv_le_self s h) h'⟩
theorem set_part {l ys : List Int} {k : Nat} {v : Int} {n : Nat} (hl : l.length = n) (hy : ys.length = n ∧ ys.take k = l.take k) (hk : k < n) (hv : l.getD k 0 = v) : (ys.set k v).length = n ∧ (ys.set k v).take (k + 1) = l.take (k + 1) := by
  refine ⟨by simpa using hy.1, ?_⟩
  rw [take_set (by omega), hy.2, List.take_succ_eq_append_getElem (by omega), ← hv]
  simp [hl, hk]
/-- what one round of the first loop leaves -/
theorem share_row {w wr : World} {gR k : Nat} {T u : Int} {xs ys zs : List Int} (hI : Hid (IB wr w.heap.size 2 .i64 ys)) (hJ : Hid (IB wr gR 2 .i64 zs)) (hne1 : ¬ (w.heap.size = gR)) (hne2 : ¬ (gR = w.heap.size))
    (hy : Hid (ys.length = xs.length ∧ ys.take k = (bases T xs).take k)) (hz : Hid (zs.length = xs.length ∧ zs.take k = (rems T xs).take k)) (hb : RowKit.Below w.heap.size w wr)
    (hBG : Hid ((bases T xs).getD k 0 = T * wt u / wsum xs)) (hRG : Hid ((rems T xs).getD k 0 = T * wt u % wsum xs)) (hk : k < xs.length) (hgR : w.heap.size ≤ gR) :
    Hid (IB ((wr.setCell ⟨w.heap.size, k, none⟩ (.int .i64 (T * clamp u 0 65536 / wsum xs))).setCell ⟨gR, k, none⟩ (.int .i64 (T * clamp u 0 65536 % wsum xs))).drew w.heap.size 2 .i64 (ys.set k (T * clamp u 0 65536 / wsum xs)) ∧
      IB ((wr.setCell ⟨w.heap.size, k, none⟩ (.int .i64 (T * clamp u 0 65536 / wsum xs))).setCell ⟨gR, k, none⟩ (.int .i64 (T * clamp u 0 65536 % wsum xs))).drew gR 2 .i64 (zs.set k (T * clamp u 0 65536 % wsum xs)) ∧
      Hid ((ys.set k (T * clamp u 0 65536 / wsum xs)).length = xs.length ∧ (ys.set k (T * clamp u 0 65536 / wsum xs)).take (k + 1) = (bases T xs).take (k + 1)) ∧
      Hid ((zs.set k (T * clamp u 0 65536 % wsum xs)).length = xs.length ∧ (zs.set k (T * clamp u 0 65536 % wsum xs)).take (k + 1) = (rems T xs).take (k + 1)) ∧
      RowKit.Below w.heap.size w ((wr.setCell ⟨w.heap.size, k, none⟩ (.int .i64 (T * clamp u 0 65536 / wsum xs))).setCell ⟨gR, k, none⟩ (.int .i64 (T * clamp u 0 65536 % wsum xs))).drew) :=
  ⟨((hI.out.set_ k _).far (p := ⟨gR, k, none⟩) hne1 _).drew, ((hJ.out.far (p := ⟨w.heap.size, k, none⟩) hne2 _).set_ k _).drew,
    set_part (bases_length T xs) hy.out hk hBG.out, set_part (rems_length T xs) hz.out hk hRG.out,
    ((hb.setCell (p := ⟨w.heap.size, k, none⟩) (Nat.le_refl _) _).setCell (p := ⟨gR, k, none⟩) hgR _).drew⟩
theorem share_left {T u : Int} {xs : List Int} {k : Nat} (hSB : Hid (sumL ((bases T xs).take (k + 1)) = sumL ((bases T xs).take k) + (bases T xs).getD k 0)) (hBG : Hid ((bases T xs).getD k 0 = T * wt u / wsum xs)) :
    Value.int .i64 (T - sumL ((bases T xs).take k) - T * clamp u 0 65536 / wsum xs) = .int .i64 (T - sumL ((bases T xs).take (k + 1))) := by
  rw [hSB.out, hBG.out]
  unfold wt
  congr 1
  omega

theorem ord_at (T : Int) (xs : List Int) {k : Nat} (hk : k < xs.length) : ∃ i : Nat, i < xs.length ∧ rank (rems T xs) i = k ∧ ((ordF (rems T xs) xs.length).map (fun x => (x.val : Int))).getD k 0 = (i : Int) := by
  obtain ⟨h1, h2⟩ := ordF_rank (rems T xs) k (by rw [rems_length]; exact hk)
  rw [rems_length] at h1 h2
  refine ⟨_, h2, h1, ?_⟩
  simp [ordF_length, hk]
theorem bump_bd {T : Int} {ws : List Int} (hT : 0 ≤ T ∧ T ≤ 70368744177664) (hp : 1 ≤ wsum ws) {i : Nat} (hi : i < ws.length) (k : Nat) : 0 ≤ (bump (bases T ws) (rems T ws) k).getD i 0 ∧ (bump (bases T ws) (rems T ws) k).getD i 0 ≤ 4611686018427387905 := by
  rw [bump_getD _ _ _ (by rw [bases_length]; exact hi), bases_getD T ws hi]
  have hu := wt_bd (ws.getD i 0)
  have hm := mul_bd (a := T) (f := wt (ws.getD i 0)) (by omega) (by omega) (by omega) (by omega)
  have h := quo_nn _ _ hp (Int.mul_nonneg hT.1 hu.1) hm.2
  split <;> omega
theorem share_bump {T : Int} {xs : List Int} {wq : World} {g k i : Nat} (hi : i < xs.length) (hr : rank (rems T xs) i = k) (hI : IB wq g 2 .i64 (bump (bases T xs) (rems T xs) k)) :
    IB (wq.setCell ⟨g, i, none⟩ (.int .i64 ((bump (bases T xs) (rems T xs) k).getD i 0 + 1))) g 2 .i64 (bump (bases T xs) (rems T xs) (k + 1)) := by
  rw [bump_step (by rw [bases_length, rems_length]) (by rw [rems_length]; exact hi) hr]
  exact hI.set_ i _

set_option maxHeartbeats 1600000 in
theorem share_some (t : Int) (A : Option Addr) (c : Nat) (xs : List Int) (w : World) (ha : Row w .i64 A xs) (hx : xs.length ≤ 17592186044416) (h0 : wsum xs ≠ 0) :
    Calls Try.prog 13 #[.int .i64 t, .slice A xs.length c] w fun e w' => ∃ g, e = .returned (.slice (some ⟨g, 0, none⟩) xs.length xs.length) ∧ w.heap.size ≤ g ∧
      IB w' g 2 .i64 (share t xs) ∧ Below w.heap.size w w' := by
  obtain ⟨i0, hi0, hz0, hs0, hb0⟩ := info_parts Try.info2
  have Hb0 : i0.bytes ≤ 8 := by omega
  have HZ := Lib.hid hz0
  have HS := Lib.hid hs0
  clear hz0 hs0 hb0
  have H0 := Lib.hid h0
  have h00 : (wsum xs == 0) = false := by simpa using h0
  have hp := wsum_pos h0
  have hT := tot_bd t
  unfold tot at hT
  clear h0
  go_enter Try.func13, Try.ntmps13
  go_wp2_with (first
    | (refine wpList_make_ints _ rfl (.tmp 15) (.tmp 15) 25 rfl 2 .i64 i0 Try.underlying25 hi0 HZ.out HS.out Hb0 .i64 .i64 _ _ xs.length rfl rfl (by omega) (by omega) (by omega) ?_; intro w1 h1 hb1)
    | (refine wpList_make_ints _ rfl (.tmp 26) (.tmp 26) 25 rfl 2 .i64 i0 Try.underlying25 hi0 HZ.out HS.out Hb0 .i64 .i64 _ _ xs.length rfl rfl (by omega) (by omega) (by omega) ?_; intro w2 h2 hb2)
    | (go_at_call 33; refine (wsum_any _ _ xs _ (ha.below hb1 (Nat.le_refl _)) hx).mono ?_; rintro e w' ⟨rfl, rfl⟩)
    | (go_at_call 31; refine (between_any _ _ _ _).mono ?_; rintro e w' ⟨rfl, rfl⟩))
  have hlt1 := h1.lt
  have hbb : RowKit.Below w.heap.size w w2 := hb1.trans (hb2.mono hb1.size)
  have h1' := h1.below hb2 hlt1
  clear h1 hb1 hb2
  generalize hTT : clamp t 0 70368744177664 = T at hT ⊢
  have HTT := Lib.hid hTT
  clear hTT
  generalize w1.heap.size = gR at *
  have hsw := wsum_bd xs
  have hsb : wsum xs ≤ 1152921504606846976 := by omega
  have hgR : w.heap.size ≤ gR := by omega
  clear hsw
  go_loopw [7, 30] (fun l i wr => ∃ (k : Nat) (ys zs : List Int), k ≤ xs.length ∧ i = .int .i64 k ∧ l = .int .i64 (T - sumL ((bases T xs).take k)) ∧ IB wr w.heap.size 2 .i64 ys ∧ IB wr gR 2 .i64 zs ∧ Hid (ys.length = xs.length ∧ ys.take k = (bases T xs).take k) ∧
      Hid (zs.length = xs.length ∧ zs.take k = (rems T xs).take k) ∧ RowKit.Below w.heap.size w wr) (fun _ i _ => xs.length - (intOf i).toNat)
  case atStart => exact ⟨0, _, _, Nat.zero_le _, rfl, by simp [sumL], h1', h2, ⟨by simp, rfl⟩, ⟨by simp, rfl⟩, hbb⟩
  case round =>
    obtain ⟨k, ys, zs, hk, rfl, rfl, hI, hJ, hy, hz, hb⟩ := hrel
    by_cases hlt : k < xs.length
    · obtain ⟨b, o, rfl, hc⟩ := (ha.below hb (Nat.le_refl _)).at_ hlt
      have g0 := hc k hlt
      have hy1 := hy.out.1
      have hz1 := hz.out.1
      have hI' := Lib.hid hI
      have hJ' := Lib.hid hJ
      have g1 := hI.cell (i := k) (by omega)
      have g2 := hI.frozen k
      have g3 := hJ.cell (i := k) (by omega)
      have g4 := hJ.frozen k
      have hSB := Lib.hid (sumL_step (bases T xs) k (by rw [bases_length]; exact hlt))
      have hBG := Lib.hid (bases_getD T xs hlt)
      have hRG := Lib.hid (rems_getD T xs hlt)
      have hlb := bases_take hT.1 H0.out k
      have hlb' := bases_take hT.1 H0.out (k + 1)
      generalize xs.getD k 0 = u at g0 hBG hRG
      generalize ys.getD k 0 = oy at g1
      generalize zs.getD k 0 = oz at g3
      have hu := wt_bd u
      unfold wt at hu
      have hm := mul_bd (a := T) (f := clamp u 0 65536) (by omega) (by omega) (by omega) (by omega)
      have hm0 : 0 ≤ T * clamp u 0 65536 := Int.mul_nonneg hT.1 hu.1
      have i1 : (k : Int) < (xs.length : Int) := by omega
      clear hc hy1 hz1 ha hI hJ
      go_wp2_with (go_at_call 34; refine (weight_any _ _).mono ?_; rintro e w' ⟨rfl, rfl⟩)
      have hne1 : ¬ (w.heap.size = gR) := by omega
      have hne2 : ¬ (gR = w.heap.size) := by omega
      have hq := quo_nn (T * clamp u 0 65536) (wsum xs) hp hm0 hm.2
      have FI := share_row hI' hJ' hne1 hne2 hy hz hb hBG hRG hlt hgR
      go_region
      go_wp2
      go_roundw
      case rel => exact ⟨k + 1, _, _, by omega, by go_num, share_left hSB hBG, FI.out.1, FI.out.2.1, FI.out.2.2.1, FI.out.2.2.2.1, FI.out.2.2.2.2⟩
      case measure => simp [intOf]; omega
    · have hke : k = xs.length := by omega
      subst hke
      have hys : ys = bases T xs := by
        have := hy.out.2
        rwa [List.take_of_length_le (by rw [hy.out.1]; omega), List.take_of_length_le (by rw [bases_length]; omega)] at this
      have hzs : zs = rems T xs := by
        have := hz.out.2
        rwa [List.take_of_length_le (by rw [hz.out.1]; omega), List.take_of_length_le (by rw [rems_length]; omega)] at this
      subst hys hzs
      have hlb := left_bd hT.1 H0.out
      have hle := left_le hT.1 H0.out
      obtain ⟨L, hL⟩ : ∃ L : Nat, T - sumL ((bases T xs).take xs.length) = L := by
        rw [List.take_of_length_le (by rw [bases_length]; omega)]
        exact ⟨(left_ T xs).toNat, by unfold left_ at *; omega⟩
      have hLl : left_ T xs = L := by
        rw [List.take_of_length_le (by rw [bases_length]; omega)] at hL
        exact hL
      have hLn : L ≤ xs.length := by omega
      have hn0 : 0 < xs.length := by
        rcases Nat.eq_zero_or_pos xs.length with e | e
        · have : xs = [] := List.eq_nil_of_length_eq_zero e
          subst this; simp [wsum_nil] at hp
        · exact e
      have hgr := great_any (rems T xs) (some ⟨gR, 0, none⟩) xs.length wr (by rw [rems_length]; exact hn0) (by rw [rems_length]; exact hx) hJ.row
      have hrl := rems_length T xs
      rw [hrl] at hgr
      have HGR := Lib.hid hgr
      rw [hL]
      have HL := Lib.hid hLl
      have HI := Lib.hid hI
      clear hgr hrl hL hLl hI hJ hlb hle hy hz ha
      go_wp2_with (go_at_call 35; refine (HGR.out).mono ?_; rintro e w3 ⟨g3, rfl, hg3, hO, hb3⟩)
      have hI3 := (HI.out).below hb3 HI.out.lt
      have hbw := hb.trans (hb3.mono hb.size)
      have hg0 : w.heap.size < wr.heap.size := HI.out.lt
      clear hb3 HGR HI hb
      go_loopw [63] (fun i wq => ∃ (k : Nat), k ≤ L ∧ i = .int .i64 k ∧ IB wq w.heap.size 2 .i64 (bump (bases T xs) (rems T xs) k) ∧ IB wq g3 3 .i64 ((ordF (rems T xs) xs.length).map (fun x => (x.val : Int))) ∧ RowKit.Below w.heap.size w wq) (fun i _ => L - (intOf i).toNat)
      case atStart => exact ⟨0, Nat.zero_le _, rfl, by rw [bump_zero]; exact hI3, hO, hbw⟩
      case round =>
        obtain ⟨k, hk, rfl, hI, hJ, hb⟩ := hrel
        by_cases hlt : k < L
        · have hord := ord_at T xs (by omega : k < xs.length)
          obtain ⟨i, hi, hrk, hgo⟩ := hord
          have g1 := hJ.cell (i := k) (by rw [List.length_map, ordF_length]; omega)
          rw [hgo] at g1
          have g2 := hI.cell (i := i) (by rw [bump_length, bases_length]; exact hi)
          have g3' := hI.frozen i
          have hbd := bump_bd hT hp (ws := xs) hi k
          have hI' := Lib.hid (share_bump hi hrk hI)
          have hJ' := hJ.far (p := ⟨w.heap.size, i, none⟩) (by show g3 ≠ w.heap.size; omega) (.int .i64 ((bump (bases T xs) (rems T xs) k).getD i 0 + 1))
          have hb' := hb.setCell (p := ⟨w.heap.size, i, none⟩) (Nat.le_refl _) (.int .i64 ((bump (bases T xs) (rems T xs) k).getD i 0 + 1))
          have HGO := Lib.hid hgo
          clear hgo hI hJ hI3 hO hrk
          generalize (bump (bases T xs) (rems T xs) k).getD i 0 = y at *
          have i1 : (k : Int) < (L : Int) := by omega
          have i2 : (i : Int) < (xs.length : Int) := by omega
          go_wp2
          go_roundw
          case rel => exact ⟨k + 1, by omega, by go_num, hI'.out, hJ', hb'⟩
          case measure => simp [intOf]; omega
        · have hke : k = L := by omega
          subst hke
          go_wp2
          go_ret
          refine ⟨w.heap.size, rfl, Nat.le_refl _, ?_, hb⟩
          rw [share, if_neg H0.out]
          unfold tot
          rw [HTT.out, HL.out, Int.toNat_natCast]
          exact hI

/-- fixed.Share: a new block with the shares. -/
theorem share_any (t : Int) (A : Option Addr) (c : Nat) (xs : List Int) (w : World) (ha : Row w .i64 A xs) (hx : xs.length ≤ 17592186044416) :
    Calls Try.prog 13 #[.int .i64 t, .slice A xs.length c] w fun e w' => ∃ g, e = .returned (.slice (some ⟨g, 0, none⟩) xs.length xs.length) ∧ w.heap.size ≤ g ∧
      IB w' g 2 .i64 (share t xs) ∧ RowKit.Below w.heap.size w w' := by
  by_cases h0 : wsum xs = 0
  · exact share_zero t A c xs w ha hx h0
  · exact share_some t A c xs w ha hx h0
end Go.Proofs.Ytkidhjfoapdgjaa
