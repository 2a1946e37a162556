/- The document's own kids of a node of a tree that is as said: casementref5's Kids. No conditions but that the list is not endless. -/
import Derived.Test.YtofllmofdenadaaDl
namespace Go.Proofs.Ytofllmofdenadaa
set_option linter.unusedVariables false
open Go.RowKit Go.Proofs.Fm Go.Proofs.Fb Go.Proofs.Fd Go.Proofs.Fc

set_option maxHeartbeats 2000000 in
theorem refKids_any (A : Option Addr) (n c : Nat) (l : List Nd) (hl : l.length = n) (hn : n ≤ 1099511627776) (hs : SaidF l) (i : Nat) (hi : i < n) (w : World) (ha : NRow w A l) :
    Calls Try.prog 29 #[.agg #[.slice A n c], .int .i64 (i : Int)] w (KidsOut (kidsOf (par l) n i) w) := by
  obtain ⟨i0, hi0, hz0, hz1, hz2⟩ := info_parts intInfo
  have HI0 := Lib.hid hi0
  have HZ0 := Lib.hid hz0
  have HZ1 := Lib.hid hz1
  have HZ2 := Lib.hid hz2
  have hb0 : Below w.heap.size w (w.alloc (.cells #[.slice A n c] 24)) := (Below.refl _ _).alloc (Nat.le_refl _) _
  have HB0 := Lib.hid hb0
  have HBK := Lib.hid (Bk.new w 24 #[.slice A n c])
  have HA := Lib.hid (ha.below hb0 (Nat.le_refl _))
  have HS := Lib.hid hs
  obtain ⟨b, off, rfl, hat⟩ := ha.at_ (i := i) (by omega)
  clear ha hb0 hi0 hz0 hz1 hz2 hat
  obtain ⟨K, hK⟩ : ∃ K, kidsOf (par l) n i = K := ⟨_, rfl⟩
  obtain ⟨k1, -, k3⟩ := kids_links (par l) i n
  rw [hK] at k1
  have kb : ∀ m (h : m < K.length), K[m]'h < n ∧ (i : Int) < ((K[m]'h : Nat) : Int) := fun m h => by
    have := kidsOf_lt (p := par l) (n := n) (i := i) (j := K[m]'h) (by rw [hK]; exact List.getElem_mem h)
    refine ⟨this.1, ?_⟩
    by_cases h0 : K[m]'h = 0
    · have hr := ((ordB_iff _ _).1 hs.ord).1
      rw [h0] at this; omega
    · have := ord_lt hs.ord (i := K[m]'h) (by omega) (by omega); omega
  have kn : ∀ m (h : m < K.length), nxt (par l) n (K[m]'h) = nth K (m + 1) := fun m h => by
    have h' : m < (kidsOf (par l) n i).length := by rw [hK]; exact h
    have := k3 m h'
    simpa only [hK] using this
  have hkl : K.length ≤ n := by rw [← hK]; unfold kidsOf; exact Nat.le_trans (List.length_filter_le _ _) (by simp)
  have HKB := Lib.hid kb
  have HKN := Lib.hid kn
  have HK1 := Lib.hid k1
  rw [hK]
  clear k1 k3 kb kn hK hs
  have i1 : (i : Int) < (n : Int) := by omega
  have i0' : ¬ ((i : Int) < 0) := by omega
  have i3 : ¬ ((n : Int) ≤ (i : Int)) := by omega
  obtain ⟨W0, hW0⟩ : ∃ W, w.alloc (.cells #[.slice (some ⟨b, off, none⟩) n c] 24) = W := ⟨_, rfl⟩
  rw [hW0] at HB0 HBK HA
  have HW0 := Lib.hid hW0
  have HB1 := Lib.hid HB0.out
  have HBK1 := Lib.hid HBK.out
  have HA1 := Lib.hid HA.out
  obtain ⟨b', off', he, hat⟩ := HA1.out.at_ (i := i) (by omega)
  obtain ⟨rfl, rfl⟩ : b' = b ∧ off' = off := by injection he with he; injection he with h1 h2; exact ⟨h1.symm, h2.symm⟩
  have x5 := hat.c5
  rw [HS.out.first i (by omega), hl, HK1.out] at x5
  have z0 : W0.cell? ⟨w.heap.size, 0, none⟩ = some (.slice (some ⟨b', off', none⟩) n c) := HBK1.out.cell 0
  have lb := hat.lt
  have lz := HBK1.out.lt
  clear hat he hW0
  go_enter Try.func29, Try.ntmps29
  go_upto_region 1 with fail
  rw [HW0.out]
  clear HW0
  go_upto_region 5 with fail
  clear x5 z0
  go_loopg [5, 6] K.length (fun gm v k wr => ∃ m, m + gm = K.length ∧ k = .int .i64 (nth K m) ∧ Hid (wr.ownsRow W0.heap.size 3 1 v m (ints (K.take m))) ∧ Hid (Below W0.heap.size W0 wr))
  case atStart => exact ⟨0, by omega, rfl, Lib.hid (World.ownsRow_nil _ _ _ _), Lib.hid (Below.refl _ _)⟩
  case round =>
    obtain ⟨m, hm, rfl, ho, hb⟩ := hrel
    have hzw := hb.out.size
    have z0 : wr.cell? ⟨w.heap.size, 0, none⟩ = some (.slice (some ⟨b', off', none⟩) n c) := (HBK1.out.below hb.out HBK1.out.lt).cell 0
    by_cases hlt : m < K.length
    · obtain ⟨a3, a4⟩ := HKB.out m hlt
      have HTK := Lib.hid (ints_take hlt)
      have HNX := Lib.hid (HKN.out m hlt)
      have HNI := Lib.hid (nth_in hlt)
      obtain ⟨j, hj⟩ : ∃ j, K[m]'hlt = j := ⟨_, rfl⟩
      rw [hj] at a3 a4 HTK HNX HNI
      rw [HNI.out]
      clear hj
      have i2 : (j : Int) < (n : Int) := by omega
      have hbk2 := HBK1.out.below hb.out HBK1.out.lt
      have HROW := Lib.hid (fun W (h : Below W0.heap.size W0 W) => HA1.out.below h (Nat.le_refl _))
      go_upto_region 6 with (at_builtin; refine wpList_append_elt rfl (.tmp 30) (.tmp 32) 39 rfl W0.heap.size 3 i0 _ 1 8 Try.underlying39 HI0.out HZ0.out HZ1.out HZ2.out rfl (by omega) u5 m (ints (K.take m)) rfl ho.out [.int .i64 (j : Int)] rfl rfl (by simp [Value.oneCell']) (by unfold maxLen; omega) (by omega) hzw ?_; intro g cap w3 ho3 hg3 hat3 hlt3 hb3; have HO3 := Lib.hid ho3; have HB3 := Lib.hid (hb.out.trans hb3); clear ho3 hg3 hat3 hb3)
      have z3 : w3.cell? ⟨w.heap.size, 0, none⟩ = some (.slice (some ⟨b', off', none⟩) n c) := (HBK1.out.below HB3.out HBK1.out.lt).cell 0
      obtain ⟨b2, off2, he2, hat2⟩ := (HROW.out w3 HB3.out).at_ (i := j) (by omega)
      obtain ⟨rfl, rfl⟩ : b2 = b' ∧ off2 = off' := by injection he2 with he2; injection he2 with h1 h2; exact ⟨h1.symm, h2.symm⟩
      have x8 := hat2.c8
      rw [HS.out.next j (by omega), hl, HNX.out] at x8
      obtain ⟨NX, hNX⟩ : ∃ x, nth K (m + 1) = x := ⟨_, rfl⟩
      rw [hNX] at x8
      have HNXX := Lib.hid hNX
      clear hat2 he2 z0 hNX
      go_wp2
      go_roundg (gk - 1)
      case measure => omega
      case rel => exact ⟨m + 1, by omega, by rw [HNXX.out], Lib.hid (by rw [← HTK.out]; exact HO3.out), HB3⟩
    · obtain rfl : m = K.length := by omega
      have hno : nth K K.length = -1 := nth_out (Nat.le_refl _)
      rw [hno]
      clear hno
      go_wp2
      go_ret
      refine ⟨_, rfl, ?_, HB1.out.trans (hb.out.mono HB1.out.size)⟩
      have := ho.out
      rw [List.take_of_length_le (Nat.le_refl _)] at this
      exact own_less this HB1.out.size
end Go.Proofs.Ytofllmofdenadaa
