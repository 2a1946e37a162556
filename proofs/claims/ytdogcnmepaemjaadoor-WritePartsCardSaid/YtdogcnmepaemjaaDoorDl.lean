/- The kids of a node of a tree that is as said: dom's Kids. No conditions but that the list is not endless. -/
import Derived.Test.YtdogcnmepaemjaaDoorDd
import Derived.Test.YtdogcnmepaemjaaDoorDk
import Derived.Test.YtdogcnmepaemjaaDoorOne
namespace Go.Proofs.YtdogcnmepaemjaaDoor
set_option linter.unusedVariables false
open Go.RowKit Go.Proofs.Fm Go.Proofs.Fb Go.Proofs.Fd Go.Proofs.Fc

/-- what is known of a tree that is as said -/
structure SaidF (l : List Nd) : Prop where
  pos : 0 < l.length
  root : ∀ h : 0 < l.length, (l[0]'h).kind = 1
  ord : ordB (par l) l.length = true
  first : ∀ i (h : i < l.length), (l[i]'h).first = fst (par l) l.length i
  last : ∀ i (h : i < l.length), (l[i]'h).last = lst (par l) l.length i
  prev : ∀ i (h : i < l.length), (l[i]'h).prev = lst (par l) i (par l i)
  next : ∀ i (h : i < l.length), (l[i]'h).next = nxt (par l) l.length i
  well : ∀ i (h : i < l.length), wellB (l[i]'h) = true
theorem said_facts {l : List Nd} (h : saidB l = true) : SaidF l := by
  cases l with
  | nil => cases h
  | cons x t =>
    have h1 : (decide (x.kind = 1) && ordB (par (x :: t)) (x :: t).length && eachB (x :: t)) = true := h
    rw [Bool.and_eq_true, Bool.and_eq_true, decide_eq_true_eq] at h1
    obtain ⟨⟨h1, h2⟩, h3⟩ := h1
    have h4 : ∀ i (hi : i < (x :: t).length), (linkB (par (x :: t)) (x :: t).length i ((x :: t)[i]'hi) && wellB ((x :: t)[i]'hi)) = true := by
      intro i hi
      have := List.all_eq_true.1 h3 i (List.mem_range.2 hi)
      simpa only [List.getElem?_eq_getElem hi] using this
    have h5 : ∀ i (hi : i < (x :: t).length), ((x :: t)[i]'hi).first = fst (par (x :: t)) (x :: t).length i ∧ ((x :: t)[i]'hi).last = lst (par (x :: t)) (x :: t).length i ∧ ((x :: t)[i]'hi).prev = lst (par (x :: t)) i (par (x :: t) i) ∧ ((x :: t)[i]'hi).next = nxt (par (x :: t)) (x :: t).length i := by
      intro i hi
      have := h4 i hi
      rw [Bool.and_eq_true] at this
      have := this.1
      unfold linkB lkAt at this
      simp only [Bool.and_eq_true, beq_iff_eq] at this
      exact ⟨this.1.1.1, this.1.1.2, this.1.2, this.2⟩
    exact ⟨by simp, fun _ => h1, h2, fun i hi => (h5 i hi).1, fun i hi => (h5 i hi).2.1, fun i hi => (h5 i hi).2.2.1, fun i hi => (h5 i hi).2.2.2, fun i hi => (Bool.and_eq_true _ _ ▸ h4 i hi).2⟩

theorem intInfo : (Tryd.prog.info? 3).map (fun i => (i.zero, i.size, i.bytes)) = some (some (.int .i64 0), 1, 8) := by kernel_rfl
/-- numbers of nodes as values -/
def ints (l : List Nat) : List Value := l.map fun j : Nat => Value.int .i64 (j : Int)
theorem ints_take {l : List Nat} {m : Nat} (h : m < l.length) : ints (l.take m) ++ [Value.int .i64 ((l[m]'h : Nat) : Int)] = ints (l.take (m + 1)) := by
  rw [List.take_succ_eq_append_getElem h]; unfold ints; rw [List.map_append]; rfl
theorem own_less {w : World} {base base' e size n : Nat} {v : Value} {xs : List Value} (h : w.ownsRow base e size v n xs) (hb : base' ≤ base) : w.ownsRow base' e size v n xs := by
  refine ⟨h.1, ?_⟩
  rcases h.2 with h | ⟨g, cap, cur, h1, h2, h3⟩
  · exact .inl h
  · exact .inr ⟨g, cap, cur, h1, Nat.le_trans hb h2, h3⟩
def ahead (i : Int) (K : List Nat) (m : Nat) : Int := if m = 0 then i else nth K (m - 1)
theorem kids_no (A : Option Addr) (n c : Nat) (i : Int) (h : ¬ (0 ≤ i ∧ i < (n : Int))) (w : World) :
    Calls Tryd.prog 24 #[.agg #[.slice A n c], .int .i64 i] w fun e w' => e = .returned (.slice none 0 0) ∧ Below w.heap.size w w' := by
  have hb0 : Below w.heap.size w (w.alloc (.cells #[.slice A n c] 24)) := (Below.refl _ _).alloc (Nat.le_refl _) _
  go_enter Tryd.func24, Tryd.ntmps24
  go_wp2_with (go_at_call 41; refine (has_no A n c i h _).mono ?_; rintro e w1 ⟨rfl, hb1⟩; have HB1 := Lib.hid (hb0.trans (hb1.mono (by simp))); clear hb1)
  go_ret
  exact ⟨rfl, HB1.out⟩
def KidsOut (K : List Nat) (w : World) (e : Ending) (w' : World) : Prop := ∃ v, e = .returned v ∧ w'.ownsRow w.heap.size 3 1 v K.length (ints K) ∧ Below w.heap.size w w'
set_option maxHeartbeats 2000000 in
theorem kids_any (A : Option Addr) (n c : Nat) (l : List Nd) (hl : l.length = n) (hn : n ≤ 1099511627776) (hs : SaidF l) (i : Nat) (hi : i < n) (w : World) (ha : NRow w A l) :
    Calls Tryd.prog 24 #[.agg #[.slice A n c], .int .i64 (i : Int)] w (KidsOut (kidsOf (par l) n i) w) := by
  obtain ⟨i0, hi0, hz0, hz1, hz2⟩ := info_parts intInfo
  have HI0 := Lib.hid hi0
  have HZ0 := Lib.hid hz0
  have HZ1 := Lib.hid hz1
  have HZ2 := Lib.hid hz2
  have hb0 : Below w.heap.size w (w.alloc (.cells #[.slice A n c] 24)) := (Below.refl _ _).alloc (Nat.le_refl _) _
  have HB0 := Lib.hid hb0
  have HBK := Lib.hid (Bk.new w 24 #[.slice A n c])
  have HA := Lib.hid (ha.below hb0 (Nat.le_refl _))
  have HS := Lib.hid hs
  obtain ⟨b, off, rfl, hat⟩ := ha.at_ (i := i) (by omega)
  clear ha hb0 hi0 hz0 hz1 hz2 hat
  obtain ⟨K, hK⟩ : ∃ K, kidsOf (par l) n i = K := ⟨_, rfl⟩
  obtain ⟨k1, -, k3⟩ := kids_links (par l) i n
  rw [hK] at k1
  have kb : ∀ m (h : m < K.length), K[m]'h < n ∧ (i : Int) < ((K[m]'h : Nat) : Int) := fun m h => by
    have := kidsOf_lt (p := par l) (n := n) (i := i) (j := K[m]'h) (by rw [hK]; exact List.getElem_mem h)
    refine ⟨this.1, ?_⟩
    by_cases h0 : K[m]'h = 0
    · have hr := ((ordB_iff _ _).1 hs.ord).1
      rw [h0] at this; omega
    · have := ord_lt hs.ord (i := K[m]'h) (by omega) (by omega); omega
  have ks : ∀ m (h : m < K.length), ahead i K m < ((K[m]'h : Nat) : Int) ∧ 0 ≤ ahead i K m := fun m h => by
    unfold ahead
    split
    · exact ⟨(kb m h).2, by omega⟩
    · rw [nth_in (by omega)]
      have hp := List.pairwise_iff_getElem.1 (hK ▸ kids_sorted (par l) i n) (m - 1) m (by omega) h (by omega)
      omega
  have ke : 0 ≤ ahead i K K.length := by
    unfold ahead
    split
    · omega
    · rw [nth_in (by omega)]; omega
  have kn : ∀ m (h : m < K.length), nxt (par l) n (K[m]'h) = nth K (m + 1) := fun m h => by
    have h' : m < (kidsOf (par l) n i).length := by rw [hK]; exact h
    have := k3 m h'
    simpa only [hK] using this
  have hkl : K.length ≤ n := by rw [← hK]; unfold kidsOf; exact Nat.le_trans (List.length_filter_le _ _) (by simp)
  have HKB := Lib.hid kb
  have HKS := Lib.hid ks
  have HKN := Lib.hid kn
  have HK1 := Lib.hid k1
  have HKE := Lib.hid ke
  have HHAS := Lib.hid (has_yes (some ⟨b, off, none⟩) n c i (by omega) (by omega))
  rw [hK]
  clear k1 k3 kb ks kn hK hs ke
  go_enter Tryd.func24, Tryd.ntmps24
  go_upto_region 5 with (go_at_call 41; refine (HHAS.out _).mono ?_; rintro e W0 ⟨rfl, hbb⟩; have HB1 := Lib.hid (HB0.out.trans (hbb.mono (by simp))); have HBK1 := Lib.hid (HBK.out.below hbb HBK.out.lt); have HA1 := Lib.hid (HA.out.below hbb (Nat.le_refl _)); clear hbb)
  obtain ⟨b', off', he, hat⟩ := HA1.out.at_ (i := i) (by omega)
  obtain ⟨rfl, rfl⟩ : b' = b ∧ off' = off := by injection he with he; injection he with h1 h2; exact ⟨h1.symm, h2.symm⟩
  have x5 := hat.c5
  rw [HS.out.first i (by omega), hl, HK1.out] at x5
  have z0 : W0.cell? ⟨w.heap.size, 0, none⟩ = some (.slice (some ⟨b', off', none⟩) n c) := HBK1.out.cell 0
  have i1 : (i : Int) < (n : Int) := by omega
  clear hat he
  go_upto_region 6 with fail
  clear x5 z0
  go_loopg [5, 6, 7] K.length (fun gm v a k wr => ∃ m, m + gm = K.length ∧ a = .int .i64 (ahead i K m) ∧ k = .int .i64 (nth K m) ∧ Hid (wr.ownsRow W0.heap.size 3 1 v m (ints (K.take m))) ∧ Hid (Below W0.heap.size W0 wr))
  case atStart => exact ⟨0, by omega, rfl, rfl, Lib.hid (World.ownsRow_nil _ _ _ _), Lib.hid (Below.refl _ _)⟩
  case round =>
    obtain ⟨m, hm, rfl, rfl, ho, hb⟩ := hrel
    have hzw := hb.out.size
    have z0 : wr.cell? ⟨w.heap.size, 0, none⟩ = some (.slice (some ⟨b', off', none⟩) n c) := (HBK1.out.below hb.out HBK1.out.lt).cell 0
    by_cases hlt : m < K.length
    · obtain ⟨a1, a2⟩ := HKS.out m hlt
      obtain ⟨a3, a4⟩ := HKB.out m hlt
      have HTK := Lib.hid (ints_take hlt)
      have HNX := Lib.hid (HKN.out m hlt)
      have HNI := Lib.hid (nth_in hlt)
      obtain ⟨j, hj⟩ : ∃ j, K[m]'hlt = j := ⟨_, rfl⟩
      rw [hj] at a1 a3 a4 HTK HNX HNI
      rw [HNI.out]
      obtain ⟨AH, hAH⟩ : ∃ x, ahead i K m = x := ⟨_, rfl⟩
      rw [hAH] at a1 a2 ⊢
      have HAJ : Hid (ahead i K (m + 1) = (j : Int)) := Lib.hid (by unfold ahead; rw [if_neg (by omega), Nat.add_sub_cancel]; exact HNI.out)
      clear hj hAH
      have i2 : (j : Int) < (n : Int) := by omega
      have hbk2 := HBK1.out.below hb.out HBK1.out.lt
      have HROW := Lib.hid (fun W (h : Below W0.heap.size W0 W) => HA1.out.below h (Nat.le_refl _))
      go_upto_region 9 with (at_builtin; refine wpList_append_elt rfl (.tmp 35) (.tmp 37) 58 rfl W0.heap.size 3 i0 _ 1 8 Tryd.underlying58 HI0.out HZ0.out HZ1.out HZ2.out rfl (by omega) u5 m (ints (K.take m)) rfl ho.out [.int .i64 (j : Int)] rfl rfl (by simp [Value.oneCell']) (by unfold maxLen; omega) (by omega) hzw ?_; intro g cap w3 ho3 hg3 hat3 hlt3 hb3; have HO3 := Lib.hid ho3; have HB3 := Lib.hid (hb.out.trans hb3); clear ho3 hg3 hat3 hb3)
      have z3 : w3.cell? ⟨w.heap.size, 0, none⟩ = some (.slice (some ⟨b', off', none⟩) n c) := (HBK1.out.below HB3.out HBK1.out.lt).cell 0
      obtain ⟨b2, off2, he2, hat2⟩ := (HROW.out w3 HB3.out).at_ (i := j) (by omega)
      obtain ⟨rfl, rfl⟩ : b2 = b' ∧ off2 = off' := by injection he2 with he2; injection he2 with h1 h2; exact ⟨h1.symm, h2.symm⟩
      have x8 := hat2.c8
      rw [HS.out.next j (by omega), hl, HNX.out] at x8
      obtain ⟨NX, hNX⟩ : ∃ x, nth K (m + 1) = x := ⟨_, rfl⟩
      rw [hNX] at x8
      have HNXX := Lib.hid hNX
      clear hat2 he2 z0 hNX
      go_wp2
      go_roundg (gk - 1)
      case measure => omega
      case rel => exact ⟨m + 1, by omega, by rw [HAJ.out], by rw [HNXX.out], Lib.hid (by rw [← HTK.out]; exact HO3.out), HB3⟩
    · obtain rfl : m = K.length := by omega
      have hno : nth K K.length = -1 := nth_out (Nat.le_refl _)
      have a5 : ¬ (ahead i K K.length < -1) := by have := HKE.out; omega
      rw [hno]
      obtain ⟨AH, hAH⟩ : ∃ x, ahead i K K.length = x := ⟨_, rfl⟩
      rw [hAH] at a5 ⊢
      clear hno hAH
      go_wp2
      go_ret
      refine ⟨_, rfl, ?_, HB1.out.trans (hb.out.mono HB1.out.size)⟩
      have := ho.out
      rw [List.take_of_length_le (Nat.le_refl _)] at this
      exact own_less this HB1.out.size
end Go.Proofs.YtdogcnmepaemjaaDoor
