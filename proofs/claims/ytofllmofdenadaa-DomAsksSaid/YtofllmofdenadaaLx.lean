/- DomWalk where the tree is right: walked. No conditions but that the tree has at most 300 nodes. -/
import Derived.Test.YtofllmofdenadaaLw
namespace Go.Proofs.Ytofllmofdenadaa
set_option linter.unusedVariables false
open Go.RowKit Go.Shelf Go.Proofs.Fm Go.Proofs.Fb Go.Proofs.Fd Go.Proofs.Fc
attribute [local go_sem] Oper.semAt_some

theorem wpIn_gen {F : Fence} {m : Nat} {P : Program} {c : Code} {Q : Exit → Act → World → Prop} {a : Act} {w : World} (S : World → Prop) (hS : S w) (h : ∀ W, S W → c.wpIn F m P Q a W) : c.wpIn F m P Q a w := h _ hS
theorem exit_gen {Q : Exit → Act → World → Prop} {e : Exit} {a : Act} {w : World} (S : World → Prop) (hS : S w) (h : ∀ W, S W → Q e a W) : Q e a w := h _ hS
theorem keeps_below {W W' : World} (h : Below W.heap.size W W') : KeepsOthers W W' := ⟨h.size, fun k o hk _ => (h.block k (Array.getElem?_eq_some_iff.1 hk).1).trans hk⟩
theorem nums_get {f : Int} {k j : Nat} (h : j < k) : (nums f k)[j]? = some (f + (j : Int)) := by simp [nums, h]
theorem nums_last {pre : List Int} {x : Int} {j : Nat} (h : pre ++ [x] = nums 0 j) : x = (pre.length : Int) := by
  have hl : pre.length + 1 = j := by have := congrArg List.length h; simpa [nums_length] using this
  have h1 : (pre ++ [x])[pre.length]? = some x := by simp
  rw [h, nums_get (by omega)] at h1
  injection h1 with h1
  omega
/-- what holds between two rounds -/
def WalkI (w2 : World) (pre : List Int) (W : World) : Prop := Bk W w2.heap.size 3 #[.int .i64 (pre.length : Int)] ∧ Below w2.heap.size w2 W
theorem walkI_own {w2 : World} {B : Nat} (h : w2.heap.size ≤ B) : OwnFrom B (WalkI w2) :=
  OwnFrom.and ((boxed_own w2.heap.size 3 (fun pre : List Int => .int .i64 (pre.length : Int))).from B) (ownFrom_below (Nat.le_refl _) h)
theorem anc_len (p : Nat → Int) : ∀ (m i : Nat), i ≤ m → (anc p i).length ≤ i + 1
  | 0, i, h => by
    obtain rfl : i = 0 := by omega
    rw [anc_stop p 0 (by omega)]; simp
  | m + 1, i, h => by
    by_cases c : 0 ≤ p i ∧ p i < (i : Int)
    · rw [anc_step p i c.1 c.2, List.length_cons]
      have := anc_len p m (p i).toNat (by omega)
      omega
    · rw [anc_stop p i c]; simp
theorem depth_bd (p : Nat → Int) (v : Int) (n : Nat) : 0 ≤ depthUp p v n ∧ depthUp p v n ≤ (n : Int) := by
  unfold depthUp
  by_cases c : 0 ≤ v ∧ v < (n : Int)
  · rw [if_pos c]
    have := anc_len p v.toNat v.toNat (Nat.le_refl _)
    omega
  · rw [if_neg c]; omega
theorem nrow_at {w : World} {b off : Nat} {l : List Nd} (h : NRow w (some ⟨b, off, none⟩) l) {i : Nat} (hi : i < l.length) : NAt w b (off + i * 9) (l[i]'hi) := by
  obtain ⟨b2, o2, he, hat⟩ := h.at_ hi
  injection he with he
  injection he with h1 h2
  subst h1; subst h2
  exact hat
def cntE (l : List Nd) (K : List Nat) (j : Nat) : Nat := ((K.take j).filter (elB l)).length
theorem cntE_succ (l : List Nd) (K : List Nat) (j : Nat) (h : j < K.length) : cntE l K (j + 1) = cntE l K j + (if elB l (K[j]'h) = true then 1 else 0) := by
  unfold cntE
  rw [List.take_succ_eq_append_getElem h, List.filter_append, List.length_append]
  by_cases c : elB l (K[j]'h) = true
  · simp [c]
  · simp [c]
theorem cntE_le (l : List Nd) (K : List Nat) (j : Nat) : cntE l K j ≤ j := by
  unfold cntE
  have := List.length_filter_le (elB l) (K.take j)
  rw [List.length_take] at this
  omega
theorem kids_len (p : Nat → Int) (n : Nat) (i : Int) : (kidsOf p n i).length ≤ n := by
  unfold kidsOf
  have := List.length_filter_le (fun j => p j == i) (List.range n)
  rwa [List.length_range] at this
set_option maxRecDepth 100000 in
set_option maxHeartbeats 4000000 in
theorem walk_main (A : Option Addr) (n c : Nat) (l : List Nd) (hl : l.length = n) (hn : n ≤ 300) (hE : rightE l = 0) (w : World) (ha : NRow w A l) :
    Calls Try.prog 9 #[.agg #[.slice A n c]] w fun e w' => e = .returned (.bool true) ∧ Below w.heap.size w w' := by
  obtain ⟨b, off, rfl, -⟩ := ha.at_ (i := 0) (by have := (right_said hE).1.pos; omega)
  obtain ⟨A, hAd⟩ : ∃ A, (some ⟨b, off, none⟩ : Option Addr) = A := ⟨_, rfl⟩
  rw [hAd] at ha ⊢
  have HAD := Lib.hid hAd
  clear hAd
  obtain ⟨W0, hW0⟩ : ∃ W, (w.alloc (.cells #[.slice A n c] 24)).alloc (.cells #[.bool false] 4) = W := ⟨_, rfl⟩
  have hb0 : Below w.heap.size w W0 := hW0 ▸ ((Below.refl _ w).alloc (Nat.le_refl _) _).alloc (by simp) _
  have hk1 : Bk W0 w.heap.size 24 #[.slice A n c] := hW0 ▸ (Bk.new w 24 _).alloc _
  have hk2 : Bk W0 (w.heap.size + 1) 4 #[.bool false] := hW0 ▸ (by simpa using Bk.new (w.alloc (.cells #[.slice A n c] 24)) 4 #[.bool false])
  have z1 : W0.cell? ⟨w.heap.size, 0, none⟩ = some (.slice A n c) := hk1.cell 0
  have l1 := hk1.lt
  have HB0 := Lib.hid hb0
  have HK1 := Lib.hid hk1
  have HK2 := Lib.hid hk2
  have HW0 := Lib.hid hW0
  have HA0 := Lib.hid (ha.below hb0 (Nat.le_refl _))
  have HR := Lib.hid (right_any A n c l hl (by omega) W0 HA0.out)
  rw [hE] at HR
  have hs := (right_said hE).1
  have hpos : 0 < n := by have := hs.pos; omega
  have HS := Lib.hid hs
  have i1 : ¬ ((300 : Int) < (n : Int)) := by omega
  clear hb0 hk1 hk2 hW0 ha hE hs
  refine callsIn_wide.1 (callsIn_of_wp_marks (n := 5) Try.func9 rfl trivial ?_ rfl)
  refine wpIn_wide.2 ?_
  simp only [Try.ntmps9, List.size_toArray, List.length_cons, List.length_nil, Nat.reduceAdd, Nat.reduceSub, Array.replicate_succ, Array.replicate_zero, List.push_toArray, List.append_toArray, List.nil_append, List.cons_append]
  go_upto_region 1 with fail
  rw [HW0.out]
  clear HW0
  go_upto_region 3 with (go_at_call 14; refine (HR.out).mono ?_; rintro e w1 ⟨rfl, hb1⟩; have HB1 := Lib.hid hb1; clear hb1)
  have HK1' := Lib.hid (HK1.out.below HB1.out HK1.out.lt)
  have HK2' := Lib.hid (HK2.out.below HB1.out HK2.out.lt)
  have HBW1 := Lib.hid (HB0.out.trans (HB1.out.mono HB0.out.size))
  have HA1 := Lib.hid (HA0.out.below HB1.out (Nat.le_refl _))
  have z1 : w1.cell? ⟨w.heap.size, 0, none⟩ = some (.slice A n c) := HK1'.out.cell 0
  have l1 := HK1'.out.lt
  have HL := Lib.hid (all_yes A n c l hl (by omega) 0 hpos w1 HA1.out)
  rw [← hl, end_root HS.out.ord HS.out.pos, hl] at HL
  clear HK1 HK2 HB0 HR HB1 HA0
  go_upto_region 4 with (go_at_call 13; refine (HL.out).mono ?_; rintro e w2 ⟨B3, B5, rfl, hB3, hB5, hk3, hk5, hb2⟩; have HK3 := Lib.hid hk3; have HK5 := Lib.hid hk5; have HB2 := Lib.hid hb2; clear hk3 hk5 hb2)
  have hnil := func_is_some #[] #[.pointer (some ⟨B3, 0, none⟩), .pointer (some ⟨B5, 0, none⟩)] (.func 44)
  go_upto_region 7 with fail
  refine wp_gen (WalkI w2 []) ⟨Bk.new w2 3 #[.int .i64 0], (Below.refl _ _).alloc (Nat.le_refl _) _⟩ ?_
  rintro W3 hI3
  have HI3 := Lib.hid hI3
  have HL1 := Lib.hid (HK1'.out.below HB2.out HK1'.out.lt)
  have HL2 := Lib.hid (HK2'.out.below HB2.out HK2'.out.lt)
  have HA2 := Lib.hid (HA1.out.below HB2.out (Nat.le_refl _))
  have HBW2 := Lib.hid (HBW1.out.trans (HB2.out.mono HBW1.out.size))
  clear hI3 HL HA1 z1 l1 HK1' HK2'
  go_wp2
  have hb35 : B3 < w2.heap.size ∧ B5 < w2.heap.size := ⟨HK3.out.lt, HK5.out.lt⟩
  have hsz3 : w2.heap.size < W3.heap.size := HI3.out.1.lt
  have hq3 := HK3.out.below HI3.out.2 hb35.1
  have hq5 := HK5.out.below HI3.out.2 hb35.2
  refine (wpIn_wide (n := 5)).1 ?_
  refine wpIn_rangeFunc_ownF rfl (by omega) (gf := 44) (lb := #[.pointer (some ⟨B3, 0, none⟩), .pointer (some ⟨B5, 0, none⟩)]) rfl trivial (enters_of Try.func44 (by kernel_rfl) rfl)
    (all_stops Fence.wide 4 trivial rfl (by omega) B3 B5 w2.heap.size 0 n (by omega) (by omega) hb35.2 W3 (hq3.cell 0) (by simpa using hq5.cell 0) hq3.lt hq5.lt) belowK_t (belowK_b (Nat.le_of_lt hsz3)) (Below.refl _ _) (fun _ => rfl)
    (WalkI w2) (fun _ pre _ => ¬ ∃ j, pre = nums 0 j) (walkI_own (Nat.le_of_lt hsz3)) (fun _ => ownFrom_pure _ _) HI3.out ?a1 ?assign ?body ?done ?stop
  case assign =>
    intro r x W K hK
    gi_wp2
    exact hK
  case stop =>
    rintro D cc pre W _ ⟨j, hj, rfl⟩ hx
    exact absurd ⟨j, rfl⟩ hx
  case done =>
    rintro D xs W hD rfl ⟨hbn, hbW⟩ hK
    rw [nums_length] at hbn
    have h1 := HL1.out.below hbW HL1.out.lt
    have x0 : W.cell? ⟨w2.heap.size, 0, none⟩ = some (.int .i64 (n : Int)) := hbn.cell 0
    have x1 : W.cell? ⟨w.heap.size, 0, none⟩ = some (.slice A n c) := h1.cell 0
    have m0 := hbn.lt
    have m1 := h1.lt
    have HKD := Lib.hid hK
    have HH2 := Lib.hid (HL2.out.below hbW HL2.out.lt)
    have HBW := Lib.hid (HBW2.out.trans (hbW.mono HBW2.out.size))
    have hD0 : w.heap.size + 1 < D := by have := HL2.out.lt; omega
    clear hK hbn hbW h1 hq3 hq5 HK3 HK5 HL1 HL2 HBW2 HI3 hb35
    go_wp2_with (go_at_call 18; refine (known_any _).mono ?_; rintro e w18 ⟨rfl, hb18⟩; have hk18 := HH2.out.below hb18 HH2.out.lt; have t0 : w18.cell? ⟨w.heap.size + 1, 0, none⟩ = some (.bool false) := hk18.cell 0; have tf : w18.frozen? ⟨w.heap.size + 1, 0, none⟩ = false := hk18.frozen 0; have lt18 := hk18.lt; have HB18 := Lib.hid hb18; clear hb18 hk18)
    have hD12 : D < W.heap.size := (Array.getElem?_eq_some_iff.1 HKD.out).1
    have hK18 : (w18.setCell ⟨w.heap.size + 1, 0, none⟩ (.bool true)).heap[D]? = some (.deferred (some [])) := (Below.heap_setCell _ ⟨w.heap.size + 1, 0, none⟩ _ D (by show D ≠ w.heap.size + 1; omega)).trans ((HB18.out.block D hD12).trans HKD.out)
    refine ⟨by simp, .inl ⟨_, _, rfl, run_takeDeferred hK18, ?_⟩⟩
    have hc5 := cell_kept (World.cell?_setCell_same' w18 ⟨w.heap.size + 1, 0, none⟩ (.bool true) (by rw [t0]; rfl)) (grownBy_putObj' _ D (.deferred none)) (fun r e => by cases e; exact ⟨_, hK18, rfl⟩)
    refine ⟨.bool true, ?_, rfl, ?_⟩
    · simp [results, Try.results9, go_sem, hc5]
    · exact ((HBW.out.trans (HB18.out.mono HBW.out.size)).setCell (p := ⟨w.heap.size + 1, 0, none⟩) (by show w.heap.size ≤ w.heap.size + 1; omega) _).trans (belowK_b (w := w) (Nat.le_refl _) _ D _ _ (by omega) hK18 rfl rfl)
  case body =>
    rintro r pre x W ⟨hk, hb⟩ hlen
    have hT := HL1.out.below hb HL1.out.lt
    have hR := HL2.out.below hb HL2.out.lt
    have y0 : W.cell? ⟨w2.heap.size, 0, none⟩ = some (.int .i64 (pre.length : Int)) := hk.cell 0
    have y1 : W.cell? ⟨w.heap.size, 0, none⟩ = some (.slice A n c) := hT.cell 0
    have y2 : W.cell? ⟨w.heap.size + 1, 0, none⟩ = some (.bool false) := hR.cell 0
    have yf : W.frozen? ⟨w.heap.size + 1, 0, none⟩ = false := hR.frozen 0
    have m0 := hk.lt
    have m1 := hT.lt
    have m2 := hR.lt
    have eX := fun y b o => ext_cell W.heap.size W y b o
    by_cases hx : x = (pre.length : Int)
    · subst hx
      obtain ⟨i, hi⟩ : ∃ i, pre.length = i := ⟨_, rfl⟩
      rw [hi] at y0 hlen ⊢
      have hA3 := HA2.out.below hb (Nat.le_refl _)
      obtain rfl := HAD.out
      have hil : i < l.length := by omega
      have hat := nrow_at hA3 hil
      have x4 := hat.c4
      rw [← par_get hil] at x4
      have mb := hat.lt
      have hD := depth_up HS.out.ord (a := i) hil
      rw [hl] at hD
      have hDb := depth_bd (par l) (par l i) n
      have hE1 := fun y => call_of (depth_any _ n c l hl (by omega) i (ext W.heap.size W y) (hA3.below (ext_below W.heap.size W y) (Nat.le_refl _))) (Nat.le_refl _)
      have hE2 := fun y => call_of (depth_any _ n c l hl (by omega) (par l i) (ext W.heap.size W y) (hA3.below (ext_below W.heap.size W y) (Nat.le_refl _))) (Nat.le_refl _)
      obtain ⟨D, hDe⟩ : ∃ D, depthUp (par l) (par l i) n = D := ⟨_, rfl⟩
      rw [hDe] at hD hDb hE2
      rw [hD, show 1 + D = D + 1 by omega] at hE1
      obtain ⟨P, hP⟩ : ∃ P, par l i = P := ⟨_, rfl⟩
      rw [hP] at x4 hE2
      have HP := Lib.hid hP
      have H1 := Lib.hid hE1
      have H2 := Lib.hid hE2
      have HA3 := Lib.hid hA3
      have HB := Lib.hid hb
      have HK := Lib.hid hk
      have HT := Lib.hid hT
      have HRR := Lib.hid hR
      have h4 : (i : Int) < (n : Int) := by omega
      have hd1 := hDb.1
      have hd2 := hDb.2
      clear hb hk hT hR hA3 hat hD hDe hP hE1 hE2 hil hDb
      by_cases h0 : 0 < i
      · gi_wp2
        refine region_ext_round W.heap.size (by kernel_rfl) (by kernel_rfl) (by kernel_rfl) ?_
        repeat go_big_quiet_step ((first | (go_at_call 16; with_reducible exact H1.out _) | (go_at_call 16; with_reducible exact H2.out _)))
        refine wpQuiet_nil ?_
        intro w4 hb4
        have HB4 := Lib.hid hb4
        clear hb4 x4 h0
        have hz4 := HB4.out.size
        have mq : w.heap.size < w4.heap.size := by omega
        have q0 : w4.cell? ⟨w.heap.size, 0, none⟩ = some (.slice (some ⟨b, off, none⟩) n c) := (HB4.out.cell (p := ⟨w.heap.size, 0, none⟩) m1).trans y1
        have hA4 := HA3.out.below HB4.out (Nat.le_refl _)
        have HKC := Lib.hid (kids_any _ n c l hl (by omega) HS.out i (by omega) w4 hA4)
        have HA4 := Lib.hid hA4
        clear y0 y1 y2 yf eX H1 H2 hA4
        obtain ⟨K, hK⟩ : ∃ K, kidsOf (par l) n i = K := ⟨_, rfl⟩
        rw [hK] at HKC
        have hKn : K.length ≤ n := by rw [← hK]; exact kids_len _ _ _
        have HKE := Lib.hid hK
        clear hK
        gi_wp2_with (refine ⟨trivial, ?_⟩; gi_at_call 15; refine (CallsIn.inRound r (callsIn_wide.2 HKC.out)).mono ?_; rintro e w5 ⟨v, rfl, hown, hb5⟩; have HOWN := Lib.hid hown; have HB5 := Lib.hid hb5; obtain ⟨A', c', rfl⟩ := own_form hown; clear hown hb5)
        have hz5 := HB5.out.size
        gi_loopw [7, 8] (fun ix k wr => ∃ j : Nat, j ≤ K.length ∧ k = .int .i64 (j : Int) ∧ ix = .int .i64 ((cntE l K j : Int) + 1) ∧ Below w5.heap.size w5 wr) (fun ix k wr => (K.length - (intOf k).toNat))
        case atStart => exact ⟨0, Nat.zero_le _, rfl, by simp [cntE], Below.refl _ _⟩
        case round =>
          obtain ⟨j, hj, rfl, rfl, hbr⟩ := hrel
          have hzr := hbr.size
          have p0 : wr.cell? ⟨w.heap.size, 0, none⟩ = some (.slice (some ⟨b, off, none⟩) n c) := (hbr.cell (p := ⟨w.heap.size, 0, none⟩) (by show w.heap.size < w5.heap.size; omega)).trans ((HB5.out.cell (p := ⟨w.heap.size, 0, none⟩) mq).trans q0)
          have mr : w.heap.size < wr.heap.size := by omega
          by_cases hlt : j < K.length
          · have i1 : (j : Int) < (K.length : Int) := by omega
            obtain ⟨g, c2, hv, hg1, -, hcells⟩ := own_at HOWN.out (by omega)
            injection hv with hv1 hv2 hv3
            subst hv1; subst hv3
            have hgr : ∀ m (hm : m < K.length), wr.cell? ⟨g, m, none⟩ = some (.int .i64 ((K[m]'hm : Nat) : Int)) ∧ g < w5.heap.size := fun m hm => by
              have h5 := hcells m _ (by unfold ints; rw [List.getElem?_map, List.getElem?_eq_getElem hm]; rfl)
              have hgl : g < w5.heap.size := World.block_lt_of_cell? _ _ h5
              exact ⟨(hbr.cell (p := ⟨g, m, none⟩) hgl).trans h5, hgl⟩
            obtain ⟨x, hxe⟩ : ∃ x, K[j]'hlt = x := ⟨_, rfl⟩
            have g0 := (hgr j hlt).1
            have hgl := (hgr j hlt).2
            have mg : g < wr.heap.size := by omega
            rw [hxe] at g0
            have hxk := kidsOf_lt (p := par l) (n := n) (i := (i : Int)) (j := x) (by rw [HKE.out, ← hxe]; exact List.getElem_mem hlt)
            have hxl : x < l.length := by omega
            have hx4 : (x : Int) < (n : Int) := by omega
            have hatr := nrow_at ((HA4.out.below HB5.out (Nat.le_refl _)).below hbr (Nat.le_refl _)) hxl
            have n0 := hatr.c0
            have n4 := hatr.c4
            rw [← par_get hxl, hxk.2] at n4
            have mbr : b < wr.heap.size := hatr.lt
            have hcs := cntE_succ l K j hlt
            rw [hxe] at hcs
            have hcl := cntE_le l K j
            have hidx := kid_index HS.out (i := (i : Int)) j (by rw [hl, HKE.out]; exact hlt)
            have hIX := fun y => call_of (indexN_any _ n c l hl (by omega) (x : Int) (ext wr.heap.size wr y) (((HA4.out.below HB5.out (Nat.le_refl _)).below hbr (Nat.le_refl _)).below (ext_below wr.heap.size wr y) (Nat.le_refl _))) (Nat.le_refl _)
            rw [elB_get hxl] at hcs
            have hie : indexE l (x : Int) = if ((l[x]'hxl).kind == 1) = true then (cntE l K (j + 1) : Int) else 0 := by
              unfold indexE
              rw [Int.toNat_natCast, elB_get hxl]
              have hi2 : idxUp (prv l) (elB l) (x : Int) l.length = (cntE l K (j + 1) : Int) := by
                have h1 := hidx
                simp only [hl] at h1
                simp only [HKE.out] at h1
                rw [hxe] at h1
                rw [hl]; exact h1
              rw [hi2]
              by_cases ck : ((l[x]'hxl).kind == 1) = true
              · rw [if_pos ck, if_pos ⟨by omega, by omega, ck⟩]
              · rw [if_neg ck, if_neg (fun z => ck z.2.2)]
            obtain ⟨kd, hkd⟩ : ∃ kd, (l[x]'hxl).kind = kd := ⟨_, rfl⟩
            rw [hkd] at hcs hie n0
            obtain ⟨C, hC⟩ : ∃ C, cntE l K j = C := ⟨_, rfl⟩
            rw [hC] at hcs hcl ⊢
            have HID := Lib.hid hie
            have HCS := Lib.hid hcs
            have HXE := Lib.hid hxe
            have G0 := Lib.hid g0
            have P0 := Lib.hid p0
            have hbr' := Lib.hid hbr
            clear hie hcs hidx hxk hatr hxe hkd hC hIX hbr
            rcases j with _ | q
            · clear hgr
              gi_wp2
              refine region_drew_round (by kernel_rfl) (by kernel_rfl) (by kernel_rfl) ?_
              repeat go_big_quiet_step (fail)
              refine wpQuiet_nil ?_
              intro k1
              gi_wp2
              refine region_drew_round (by kernel_rfl) (by kernel_rfl) (by kernel_rfl) ?_
              repeat go_big_quiet_step (fail)
              refine wpQuiet_nil ?_
              intro k2
              clear p0 g0 n0 n4
              refine exit_gen (fun W => Below wr.heap.size wr W) (below_drewN (below_drewN (Below.refl _ _) _) _) ?_
              rintro W6 hb6
              have hz6 := hb6.size
              have p0 : W6.cell? ⟨w.heap.size, 0, none⟩ = some (.slice (some ⟨b, off, none⟩) n c) := (hb6.cell (p := ⟨w.heap.size, 0, none⟩) mr).trans P0.out
              have g0 : W6.cell? ⟨g, 0, none⟩ = some (.int .i64 (x : Int)) := (hb6.cell (p := ⟨g, 0, none⟩) mg).trans G0.out
              have HB6 := Lib.hid (hbr'.out.trans (hb6.mono (by omega)))
              have hix := fun y => call_of (indexN_any _ n c l hl (by omega) (x : Int) (ext W6.heap.size W6 y) ((((HA4.out.below HB5.out (Nat.le_refl _)).below hbr'.out (Nat.le_refl _)).below hb6 (Nat.le_refl _)).below (ext_below W6.heap.size W6 y) (Nat.le_refl _))) (Nat.le_refl _)
              rw [HID.out] at hix
              have mr6 : w.heap.size < W6.heap.size := by omega
              have mg6 : g < W6.heap.size := by omega
              clear hb6
              by_cases ck : (kd == 1) = true
              · rw [if_pos ck, HCS.out, if_pos ck] at hix
                have hcs := HCS.out
                rw [if_pos ck] at hcs
                have HC1 := Lib.hid hcs
                have HIX := Lib.hid hix
                have eX := fun y b o => ext_cell W6.heap.size W6 y b o
                clear hix hcs
                gi_wp2
                refine region_ext_round W6.heap.size (by kernel_rfl) (by kernel_rfl) (by kernel_rfl) ?_
                repeat go_big_quiet_step ((go_at_call 17; with_reducible exact HIX.out _))
                refine wpQuiet_nil ?_
                intro w7 hb7
                have HB7 := Lib.hid (HB6.out.trans (hb7.mono (by omega)))
                clear hb7
                gi_wp2
                go_roundw
                case rel => exact ⟨0 + 1, by omega, by go_num, by rw [HC1.out]; go_num, HB7.out⟩
                case measure => simp [intOf]; omega
              · have ck' : (kd == 1) = false := by simpa using ck
                have hcs := HCS.out
                rw [if_neg ck] at hcs
                have HC1 := Lib.hid hcs
                clear hix hcs ck
                gi_wp2
                go_roundw
                case rel => exact ⟨0 + 1, by omega, by go_num, by rw [HC1.out]; go_num, HB6.out⟩
                case measure => simp [intOf]; omega
            · have h0 : 0 < q + 1 := by omega
              have g1 := (hgr q (by omega)).1
              have hlt2 : K[q]'(by omega) < x := by
                have hs := kids_sorted (par l) (i : Int) n
                rw [HKE.out] at hs
                have := List.pairwise_iff_getElem.1 hs q (q + 1) (by omega) hlt (by omega)
                rw [HXE.out] at this
                exact this
              obtain ⟨y, hy⟩ : ∃ y, K[q]'(by omega) = y := ⟨_, rfl⟩
              rw [hy] at g1 hlt2
              have hd : decide ((x : Int) ≤ (y : Int)) = false := decide_eq_false (by omega)
              have hd' : decide (x ≤ y) = false := decide_eq_false (by omega)
              have i2 : (q : Int) < (K.length : Int) := by omega
              have i3 : (q : Int) + 1 < (K.length : Int) := by omega
              clear hgr hy hlt2
              gi_wp2
              refine region_drew_round (by kernel_rfl) (by kernel_rfl) (by kernel_rfl) ?_
              repeat go_big_quiet_step (fail)
              refine wpQuiet_nil ?_
              intro k1
              gi_wp2
              refine region_drew_round (by kernel_rfl) (by kernel_rfl) (by kernel_rfl) ?_
              repeat go_big_quiet_step (fail)
              refine wpQuiet_nil ?_
              intro k2
              clear p0 g0 n0 n4
              refine exit_gen (fun W => Below wr.heap.size wr W) (below_drewN (below_drewN (Below.refl _ _) _) _) ?_
              rintro W6 hb6
              have hz6 := hb6.size
              have p0 : W6.cell? ⟨w.heap.size, 0, none⟩ = some (.slice (some ⟨b, off, none⟩) n c) := (hb6.cell (p := ⟨w.heap.size, 0, none⟩) mr).trans P0.out
              have g0 : W6.cell? ⟨g, (q + 1), none⟩ = some (.int .i64 (x : Int)) := (hb6.cell (p := ⟨g, (q + 1), none⟩) mg).trans G0.out
              have HB6 := Lib.hid (hbr'.out.trans (hb6.mono (by omega)))
              have hix := fun y => call_of (indexN_any _ n c l hl (by omega) (x : Int) (ext W6.heap.size W6 y) ((((HA4.out.below HB5.out (Nat.le_refl _)).below hbr'.out (Nat.le_refl _)).below hb6 (Nat.le_refl _)).below (ext_below W6.heap.size W6 y) (Nat.le_refl _))) (Nat.le_refl _)
              rw [HID.out] at hix
              have mr6 : w.heap.size < W6.heap.size := by omega
              have mg6 : g < W6.heap.size := by omega
              clear hb6
              by_cases ck : (kd == 1) = true
              · rw [if_pos ck, HCS.out, if_pos ck] at hix
                have hcs := HCS.out
                rw [if_pos ck] at hcs
                have HC1 := Lib.hid hcs
                have HIX := Lib.hid hix
                have eX := fun y b o => ext_cell W6.heap.size W6 y b o
                clear hix hcs
                gi_wp2
                refine region_ext_round W6.heap.size (by kernel_rfl) (by kernel_rfl) (by kernel_rfl) ?_
                repeat go_big_quiet_step ((go_at_call 17; with_reducible exact HIX.out _))
                refine wpQuiet_nil ?_
                intro w7 hb7
                have HB7 := Lib.hid (HB6.out.trans (hb7.mono (by omega)))
                clear hb7
                gi_wp2
                go_roundw
                case rel => exact ⟨(q + 1) + 1, by omega, by go_num, by rw [HC1.out]; go_num, HB7.out⟩
                case measure => simp [intOf]; omega
              · have ck' : (kd == 1) = false := by simpa using ck
                have hcs := HCS.out
                rw [if_neg ck] at hcs
                have HC1 := Lib.hid hcs
                clear hix hcs ck
                gi_wp2
                go_roundw
                case rel => exact ⟨(q + 1) + 1, by omega, by go_num, by rw [HC1.out]; go_num, HB6.out⟩
                case measure => simp [intOf]; omega
          · obtain rfl : j = K.length := by omega
            have i1 : ¬ ((K.length : Int) < (K.length : Int)) := by omega
            have hb5' : Below W.heap.size W wr := (HB4.out.trans (HB5.out.mono hz4)).trans (hbr.mono (by omega))
            have hkr := HK.out.below hb5' HK.out.lt
            rw [hi] at hkr
            have k0 : wr.cell? ⟨w2.heap.size, 0, none⟩ = some (.int .i64 (i : Int)) := hkr.cell 0
            have kf : wr.frozen? ⟨w2.heap.size, 0, none⟩ = false := hkr.frozen 0
            have kl := hkr.lt
            have HBR := Lib.hid hb5'
            have HKR := Lib.hid hkr
            clear hbr hkr hb5' HKC
            gi_wp2
            refine ⟨(keeps_below HBR.out).trans (KeepsOthers.setCell _ _ _), ((HBR.out.mono HB.out.size).setCell (p := ⟨w2.heap.size, 0, none⟩) (Nat.le_refl _) _), ?_, ?_⟩
            · have := HKR.out.set_ 0 (.int .i64 ((i : Int) + 1))
              simpa [hi] using this
            · exact (HB.out.trans (HBR.out.mono HB.out.size)).setCell (p := ⟨w2.heap.size, 0, none⟩) (Nat.le_refl _) _
      · have hd : decide (0 < i) = false := by simpa using h0
        gi_wp2
        refine region_ext_round W.heap.size (by kernel_rfl) (by kernel_rfl) (by kernel_rfl) ?_
        repeat go_big_quiet_step (fail)
        refine wpQuiet_nil ?_
        intro w4 hb4
        have HB4 := Lib.hid hb4
        clear hb4 x4 h0 hd
        have hz4 := HB4.out.size
        have mq : w.heap.size < w4.heap.size := by omega
        have q0 : w4.cell? ⟨w.heap.size, 0, none⟩ = some (.slice (some ⟨b, off, none⟩) n c) := (HB4.out.cell (p := ⟨w.heap.size, 0, none⟩) m1).trans y1
        have hA4 := HA3.out.below HB4.out (Nat.le_refl _)
        have HKC := Lib.hid (kids_any _ n c l hl (by omega) HS.out i (by omega) w4 hA4)
        have HA4 := Lib.hid hA4
        clear y0 y1 y2 yf eX H1 H2 hA4
        obtain ⟨K, hK⟩ : ∃ K, kidsOf (par l) n i = K := ⟨_, rfl⟩
        rw [hK] at HKC
        have hKn : K.length ≤ n := by rw [← hK]; exact kids_len _ _ _
        have HKE := Lib.hid hK
        clear hK
        gi_wp2_with (refine ⟨trivial, ?_⟩; gi_at_call 15; refine (CallsIn.inRound r (callsIn_wide.2 HKC.out)).mono ?_; rintro e w5 ⟨v, rfl, hown, hb5⟩; have HOWN := Lib.hid hown; have HB5 := Lib.hid hb5; obtain ⟨A', c', rfl⟩ := own_form hown; clear hown hb5)
        have hz5 := HB5.out.size
        gi_loopw [7, 8] (fun ix k wr => ∃ j : Nat, j ≤ K.length ∧ k = .int .i64 (j : Int) ∧ ix = .int .i64 ((cntE l K j : Int) + 1) ∧ Below w5.heap.size w5 wr) (fun ix k wr => (K.length - (intOf k).toNat))
        case atStart => exact ⟨0, Nat.zero_le _, rfl, by simp [cntE], Below.refl _ _⟩
        case round =>
          obtain ⟨j, hj, rfl, rfl, hbr⟩ := hrel
          have hzr := hbr.size
          have p0 : wr.cell? ⟨w.heap.size, 0, none⟩ = some (.slice (some ⟨b, off, none⟩) n c) := (hbr.cell (p := ⟨w.heap.size, 0, none⟩) (by show w.heap.size < w5.heap.size; omega)).trans ((HB5.out.cell (p := ⟨w.heap.size, 0, none⟩) mq).trans q0)
          have mr : w.heap.size < wr.heap.size := by omega
          by_cases hlt : j < K.length
          · have i1 : (j : Int) < (K.length : Int) := by omega
            obtain ⟨g, c2, hv, hg1, -, hcells⟩ := own_at HOWN.out (by omega)
            injection hv with hv1 hv2 hv3
            subst hv1; subst hv3
            have hgr : ∀ m (hm : m < K.length), wr.cell? ⟨g, m, none⟩ = some (.int .i64 ((K[m]'hm : Nat) : Int)) ∧ g < w5.heap.size := fun m hm => by
              have h5 := hcells m _ (by unfold ints; rw [List.getElem?_map, List.getElem?_eq_getElem hm]; rfl)
              have hgl : g < w5.heap.size := World.block_lt_of_cell? _ _ h5
              exact ⟨(hbr.cell (p := ⟨g, m, none⟩) hgl).trans h5, hgl⟩
            obtain ⟨x, hxe⟩ : ∃ x, K[j]'hlt = x := ⟨_, rfl⟩
            have g0 := (hgr j hlt).1
            have hgl := (hgr j hlt).2
            have mg : g < wr.heap.size := by omega
            rw [hxe] at g0
            have hxk := kidsOf_lt (p := par l) (n := n) (i := (i : Int)) (j := x) (by rw [HKE.out, ← hxe]; exact List.getElem_mem hlt)
            have hxl : x < l.length := by omega
            have hx4 : (x : Int) < (n : Int) := by omega
            have hatr := nrow_at ((HA4.out.below HB5.out (Nat.le_refl _)).below hbr (Nat.le_refl _)) hxl
            have n0 := hatr.c0
            have n4 := hatr.c4
            rw [← par_get hxl, hxk.2] at n4
            have mbr : b < wr.heap.size := hatr.lt
            have hcs := cntE_succ l K j hlt
            rw [hxe] at hcs
            have hcl := cntE_le l K j
            have hidx := kid_index HS.out (i := (i : Int)) j (by rw [hl, HKE.out]; exact hlt)
            have hIX := fun y => call_of (indexN_any _ n c l hl (by omega) (x : Int) (ext wr.heap.size wr y) (((HA4.out.below HB5.out (Nat.le_refl _)).below hbr (Nat.le_refl _)).below (ext_below wr.heap.size wr y) (Nat.le_refl _))) (Nat.le_refl _)
            rw [elB_get hxl] at hcs
            have hie : indexE l (x : Int) = if ((l[x]'hxl).kind == 1) = true then (cntE l K (j + 1) : Int) else 0 := by
              unfold indexE
              rw [Int.toNat_natCast, elB_get hxl]
              have hi2 : idxUp (prv l) (elB l) (x : Int) l.length = (cntE l K (j + 1) : Int) := by
                have h1 := hidx
                simp only [hl] at h1
                simp only [HKE.out] at h1
                rw [hxe] at h1
                rw [hl]; exact h1
              rw [hi2]
              by_cases ck : ((l[x]'hxl).kind == 1) = true
              · rw [if_pos ck, if_pos ⟨by omega, by omega, ck⟩]
              · rw [if_neg ck, if_neg (fun z => ck z.2.2)]
            obtain ⟨kd, hkd⟩ : ∃ kd, (l[x]'hxl).kind = kd := ⟨_, rfl⟩
            rw [hkd] at hcs hie n0
            obtain ⟨C, hC⟩ : ∃ C, cntE l K j = C := ⟨_, rfl⟩
            rw [hC] at hcs hcl ⊢
            have HID := Lib.hid hie
            have HCS := Lib.hid hcs
            have HXE := Lib.hid hxe
            have G0 := Lib.hid g0
            have P0 := Lib.hid p0
            have hbr' := Lib.hid hbr
            clear hie hcs hidx hxk hatr hxe hkd hC hIX hbr
            rcases j with _ | q
            · clear hgr
              gi_wp2
              refine region_drew_round (by kernel_rfl) (by kernel_rfl) (by kernel_rfl) ?_
              repeat go_big_quiet_step (fail)
              refine wpQuiet_nil ?_
              intro k1
              gi_wp2
              refine region_drew_round (by kernel_rfl) (by kernel_rfl) (by kernel_rfl) ?_
              repeat go_big_quiet_step (fail)
              refine wpQuiet_nil ?_
              intro k2
              clear p0 g0 n0 n4
              refine exit_gen (fun W => Below wr.heap.size wr W) (below_drewN (below_drewN (Below.refl _ _) _) _) ?_
              rintro W6 hb6
              have hz6 := hb6.size
              have p0 : W6.cell? ⟨w.heap.size, 0, none⟩ = some (.slice (some ⟨b, off, none⟩) n c) := (hb6.cell (p := ⟨w.heap.size, 0, none⟩) mr).trans P0.out
              have g0 : W6.cell? ⟨g, 0, none⟩ = some (.int .i64 (x : Int)) := (hb6.cell (p := ⟨g, 0, none⟩) mg).trans G0.out
              have HB6 := Lib.hid (hbr'.out.trans (hb6.mono (by omega)))
              have hix := fun y => call_of (indexN_any _ n c l hl (by omega) (x : Int) (ext W6.heap.size W6 y) ((((HA4.out.below HB5.out (Nat.le_refl _)).below hbr'.out (Nat.le_refl _)).below hb6 (Nat.le_refl _)).below (ext_below W6.heap.size W6 y) (Nat.le_refl _))) (Nat.le_refl _)
              rw [HID.out] at hix
              have mr6 : w.heap.size < W6.heap.size := by omega
              have mg6 : g < W6.heap.size := by omega
              clear hb6
              by_cases ck : (kd == 1) = true
              · rw [if_pos ck, HCS.out, if_pos ck] at hix
                have hcs := HCS.out
                rw [if_pos ck] at hcs
                have HC1 := Lib.hid hcs
                have HIX := Lib.hid hix
                have eX := fun y b o => ext_cell W6.heap.size W6 y b o
                clear hix hcs
                gi_wp2
                refine region_ext_round W6.heap.size (by kernel_rfl) (by kernel_rfl) (by kernel_rfl) ?_
                repeat go_big_quiet_step ((go_at_call 17; with_reducible exact HIX.out _))
                refine wpQuiet_nil ?_
                intro w7 hb7
                have HB7 := Lib.hid (HB6.out.trans (hb7.mono (by omega)))
                clear hb7
                gi_wp2
                go_roundw
                case rel => exact ⟨0 + 1, by omega, by go_num, by rw [HC1.out]; go_num, HB7.out⟩
                case measure => simp [intOf]; omega
              · have ck' : (kd == 1) = false := by simpa using ck
                have hcs := HCS.out
                rw [if_neg ck] at hcs
                have HC1 := Lib.hid hcs
                clear hix hcs ck
                gi_wp2
                go_roundw
                case rel => exact ⟨0 + 1, by omega, by go_num, by rw [HC1.out]; go_num, HB6.out⟩
                case measure => simp [intOf]; omega
            · have h0 : 0 < q + 1 := by omega
              have g1 := (hgr q (by omega)).1
              have hlt2 : K[q]'(by omega) < x := by
                have hs := kids_sorted (par l) (i : Int) n
                rw [HKE.out] at hs
                have := List.pairwise_iff_getElem.1 hs q (q + 1) (by omega) hlt (by omega)
                rw [HXE.out] at this
                exact this
              obtain ⟨y, hy⟩ : ∃ y, K[q]'(by omega) = y := ⟨_, rfl⟩
              rw [hy] at g1 hlt2
              have hd : decide ((x : Int) ≤ (y : Int)) = false := decide_eq_false (by omega)
              have hd' : decide (x ≤ y) = false := decide_eq_false (by omega)
              have i2 : (q : Int) < (K.length : Int) := by omega
              have i3 : (q : Int) + 1 < (K.length : Int) := by omega
              clear hgr hy hlt2
              gi_wp2
              refine region_drew_round (by kernel_rfl) (by kernel_rfl) (by kernel_rfl) ?_
              repeat go_big_quiet_step (fail)
              refine wpQuiet_nil ?_
              intro k1
              gi_wp2
              refine region_drew_round (by kernel_rfl) (by kernel_rfl) (by kernel_rfl) ?_
              repeat go_big_quiet_step (fail)
              refine wpQuiet_nil ?_
              intro k2
              clear p0 g0 n0 n4
              refine exit_gen (fun W => Below wr.heap.size wr W) (below_drewN (below_drewN (Below.refl _ _) _) _) ?_
              rintro W6 hb6
              have hz6 := hb6.size
              have p0 : W6.cell? ⟨w.heap.size, 0, none⟩ = some (.slice (some ⟨b, off, none⟩) n c) := (hb6.cell (p := ⟨w.heap.size, 0, none⟩) mr).trans P0.out
              have g0 : W6.cell? ⟨g, (q + 1), none⟩ = some (.int .i64 (x : Int)) := (hb6.cell (p := ⟨g, (q + 1), none⟩) mg).trans G0.out
              have HB6 := Lib.hid (hbr'.out.trans (hb6.mono (by omega)))
              have hix := fun y => call_of (indexN_any _ n c l hl (by omega) (x : Int) (ext W6.heap.size W6 y) ((((HA4.out.below HB5.out (Nat.le_refl _)).below hbr'.out (Nat.le_refl _)).below hb6 (Nat.le_refl _)).below (ext_below W6.heap.size W6 y) (Nat.le_refl _))) (Nat.le_refl _)
              rw [HID.out] at hix
              have mr6 : w.heap.size < W6.heap.size := by omega
              have mg6 : g < W6.heap.size := by omega
              clear hb6
              by_cases ck : (kd == 1) = true
              · rw [if_pos ck, HCS.out, if_pos ck] at hix
                have hcs := HCS.out
                rw [if_pos ck] at hcs
                have HC1 := Lib.hid hcs
                have HIX := Lib.hid hix
                have eX := fun y b o => ext_cell W6.heap.size W6 y b o
                clear hix hcs
                gi_wp2
                refine region_ext_round W6.heap.size (by kernel_rfl) (by kernel_rfl) (by kernel_rfl) ?_
                repeat go_big_quiet_step ((go_at_call 17; with_reducible exact HIX.out _))
                refine wpQuiet_nil ?_
                intro w7 hb7
                have HB7 := Lib.hid (HB6.out.trans (hb7.mono (by omega)))
                clear hb7
                gi_wp2
                go_roundw
                case rel => exact ⟨(q + 1) + 1, by omega, by go_num, by rw [HC1.out]; go_num, HB7.out⟩
                case measure => simp [intOf]; omega
              · have ck' : (kd == 1) = false := by simpa using ck
                have hcs := HCS.out
                rw [if_neg ck] at hcs
                have HC1 := Lib.hid hcs
                clear hix hcs ck
                gi_wp2
                go_roundw
                case rel => exact ⟨(q + 1) + 1, by omega, by go_num, by rw [HC1.out]; go_num, HB6.out⟩
                case measure => simp [intOf]; omega
          · obtain rfl : j = K.length := by omega
            have i1 : ¬ ((K.length : Int) < (K.length : Int)) := by omega
            have hb5' : Below W.heap.size W wr := (HB4.out.trans (HB5.out.mono hz4)).trans (hbr.mono (by omega))
            have hkr := HK.out.below hb5' HK.out.lt
            rw [hi] at hkr
            have k0 : wr.cell? ⟨w2.heap.size, 0, none⟩ = some (.int .i64 (i : Int)) := hkr.cell 0
            have kf : wr.frozen? ⟨w2.heap.size, 0, none⟩ = false := hkr.frozen 0
            have kl := hkr.lt
            have HBR := Lib.hid hb5'
            have HKR := Lib.hid hkr
            clear hbr hkr hb5' HKC
            gi_wp2
            refine ⟨(keeps_below HBR.out).trans (KeepsOthers.setCell _ _ _), ((HBR.out.mono HB.out.size).setCell (p := ⟨w2.heap.size, 0, none⟩) (Nat.le_refl _) _), ?_, ?_⟩
            · have := HKR.out.set_ 0 (.int .i64 ((i : Int) + 1))
              simpa [hi] using this
            · exact (HB.out.trans (HBR.out.mono HB.out.size)).setCell (p := ⟨w2.heap.size, 0, none⟩) (Nat.le_refl _) _
    · have hne : (x != (pre.length : Int)) = true := by simpa using hx
      have HB := Lib.hid hb
      have HF := Lib.hid (show ¬ ∃ j, pre ++ [x] = nums 0 j from fun ⟨j, hj⟩ => hx (nums_last hj))
      clear hk hb hT hR hx
      gi_wp2
      refine region_ext_round W.heap.size (by kernel_rfl) (by kernel_rfl) (by kernel_rfl) ?_
      repeat go_big_quiet_step (fail)
      refine wpQuiet_nil ?_
      intro w4 hb4
      have q2 : w4.cell? ⟨w.heap.size + 1, 0, none⟩ = some (.bool false) := (hb4.cell (p := ⟨w.heap.size + 1, 0, none⟩) m2).trans y2
      have qf : w4.frozen? ⟨w.heap.size + 1, 0, none⟩ = false := (hb4.frozen (p := ⟨w.heap.size + 1, 0, none⟩) m2).trans yf
      have hz4 := hb4.size
      have HB4 := Lib.hid hb4
      clear hb4
      gi_wp2
      exact ⟨(keeps_below HB4.out).trans (KeepsOthers.setCell _ _ _), HF.out⟩
theorem walk_walk (w : World) (A : Option Addr) (n c : Nat) (l : List Nd) (hl : l.length = n) (hn : n * 104 ≤ 140737488355328) (ha : NRow w A l) : Calls Try.prog 9 #[.agg #[.slice A n c]] w fun e w' => e = .returned (.bool true) ∧ Below w.heap.size w w' := by
  by_cases h : n ≤ 300 ∧ rightE l = 0
  · exact walk_main A n c l hl h.1 h.2 w ha
  · exact walk_off A n c l hl (by omega) h w ha
end Go.Proofs.Ytofllmofdenadaa
