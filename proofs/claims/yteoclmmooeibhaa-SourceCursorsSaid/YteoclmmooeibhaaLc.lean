/- SourceCursors: the law's walk. The condition: what is handed in is no longer than the form's reach. -/
import Derived.Test.YteoclmmooeibhaaKn
import Derived.Test.YteoclmmooeibhaaCu
namespace Go.Proofs.Yteoclmmooeibhaa.cu
set_option linter.unusedVariables false
open Go.Proofs.Yteoclmmooeibhaa Go.RowKit Go.Proofs.Fm Go.Proofs.Fb Go.Proofs.Fu

theorem far_cur {w : World} {base b n c k g : Nat} {A : Option Addr} {xs : List Int} (h : Cur w base b A n c k xs) (hl : g < base) (i : Nat) (v : Value) : Cur (w.setCell ⟨g, i, none⟩ v) base b A n c k xs :=
  h.grown (grown_set (World.grownBy.refl w (some g)) i v) hl
theorem moved_below {w W w' : World} {B b q : Nat} {v : Value} (h : Below B w W) (hb : B ≤ b) (he : (W.drewN q).setCell ⟨b, 1, none⟩ v = w') : Below B w w' := by
  subst he; exact (below_drewN h q).setCell (p := ⟨b, 1, none⟩) hb _

theorem below_grown {w w' : World} (h : Below w.heap.size w w') : w.grownBy w' none := ⟨h.os, h.tape, h.output, h.size, fun k hk _ => h.block k hk⟩
/-- what every round of the asking keeps -/
structure Asks (w W1 wr : World) (B2 b : Nat) (A : Option Addr) (n c k : Nat) (xs : List Int) : Prop where
  cur : Cur wr B2 b A n c k xs
  b0 : Below w.heap.size w wr
  b1 : Below W1.heap.size W1 wr
theorem Asks.drewN {w W1 wr : World} {B2 b n c k : Nat} {A : Option Addr} {xs : List Int} (h : Asks w W1 wr B2 b A n c k xs) (q : Nat) : Asks w W1 (wr.drewN q) B2 b A n c k xs := ⟨h.cur.drewN q, below_drewN h.b0 q, below_drewN h.b1 q⟩

set_option maxRecDepth 1000000 in
set_option maxHeartbeats 4000000 in
theorem cursors_walk (w : World) (A : Option Addr) (n c : Nat) (xs : List Int) (ha : Row w .i64 A xs) (hn : xs.length = n) (hw : ∀ x ∈ xs, (Lit.int .i64 x).wf = true) (hb : n * Try.prog.bytesOf 3 ≤ 140737488351232) (hc : n ≤ c) (hA : A = none → c = 0)
    (A' : Option Addr) (m c' : Nat) (ys : List Int) (ha' : Row w .i64 A' ys) (hm : ys.length = m) (hw' : ∀ x ∈ ys, (Lit.int .i64 x).wf = true) (hb' : m * Try.prog.bytesOf 3 ≤ 140737488351232) (hc' : m ≤ c') (hA' : A' = none → c' = 0) :
    Calls Try.prog 6 #[.slice A n c, .slice A' m c'] w fun e w' => e = .returned (.bool true) ∧ Below w.heap.size w w' := by
  have hbo : Try.prog.bytesOf 3 = 8 := by kernel_rfl
  rw [hbo] at hb hb'
  have hx : n ≤ 17592186044416 := by omega
  have hm' : m ≤ 17592186044416 := by omega
  obtain ⟨i0, hi0, hz0, hs0, hb0⟩ := info_parts Try.intInfo
  have HN := Lib.hid hn
  have HM := Lib.hid hm
  have HA := Lib.hid ha
  have HA' := Lib.hid ha'
  have HZ := Lib.hid hz0
  have HS := Lib.hid hs0
  have HB := Lib.hid hb0
  have HNIL := Lib.hid hA
  clear hn hm ha ha' hz0 hs0 hb0 hw hw' hbo hA hb hb' hc
  go_enter Try.func6, Try.ntmps6
  go_wp2_with (first
    | (refine wpList_append_ints rfl (.tmp 16) (.tmp 17) 29 rfl w.heap.size 3 .i64 i0 8 Try.underlying29 hi0 HZ.out HS.out HB.out (.slice (some ⟨w.heap.size, 0, none⟩) 0 0) 0 [] rfl (own_empty w w.heap.size 3 (Nat.le_refl _)) A n c xs rfl HN.out (HA.out.below ((Below.refl w.heap.size w).alloc (Nat.le_refl _) _) (Nat.le_refl _)) HNIL.out (by simp [maxLen]; omega) (by omega) (by simp) ?_; intro Aw cw W1 hO1 hg1 hat1; have HB1 : Hid (Below w.heap.size w W1) := ((Below.refl w.heap.size w).alloc (Nat.le_refl _) _).grown hg1 (by simp) (fun k hk => by simp [Value.ownBlock] at hk; omega); simp only [Nat.zero_add, List.nil_append] at hO1; have HO1 := Lib.hid hO1; clear hg1 hat1 hO1)
    | (refine wpList_append_ints rfl (.tmp 19) (.tmp 20) 29 rfl W1.heap.size 3 .i64 i0 8 Try.underlying29 hi0 HZ.out HS.out HB.out (.slice (some ⟨W1.heap.size, 0, none⟩) 0 0) 0 [] rfl (own_empty W1 W1.heap.size 3 (Nat.le_refl _)) A n c xs rfl HN.out ((HA.out.below HB1.out (Nat.le_refl _)).below ((Below.refl W1.heap.size W1).alloc (Nat.le_refl _) _) (Nat.le_refl _)) HNIL.out (by simp [maxLen]; omega) (by omega) (by simp) ?_; intro Ai ci W2 hO2 hg2 hat2; have HB2 : Hid (Below W1.heap.size W1 W2) := ((Below.refl W1.heap.size W1).alloc (Nat.le_refl _) _).grown hg2 (by simp) (fun k hk => by simp [Value.ownBlock] at hk; omega); simp only [Nat.zero_add, List.nil_append] at hO2; have HO2 := Lib.hid hO2; clear hg2 hat2 hO2)
    | (go_at_call 9; refine (new_any Ai n ci xs HN.out W2 (own_row HO2.out) hx).mono ?_; rintro e W3 ⟨b, A3, c3, rfl, hC, hb3⟩; have HC := Lib.hid hC; have HB3 := Lib.hid hb3; clear hC hb3))
  have HOI := Lib.hid ((HO2.out).kept (below_grown HB3.out) (by rcases (Value.slice Ai n ci).ownBlock with _ | _ <;> simp))
  have HB12 := Lib.hid (HB2.out.trans (HB3.out.mono HB2.out.size))
  have HB02 := Lib.hid (HB1.out.trans (HB12.out.mono HB1.out.size))
  have s01 := HB1.out.size
  have s12 := HB2.out.size
  have s23 := HB3.out.size
  obtain ⟨B2, hB2⟩ : ∃ B2, W2.heap.size = B2 := ⟨_, rfl⟩
  rw [hB2] at HC s12 s23
  have hbB := HC.out.hb
  have HBB := Lib.hid hB2
  clear hB2
  go_loopw [8] (fun i wr => ∃ (k : Nat), k ≤ n ∧ i = .int .i64 k ∧ Asks w W1 wr B2 b A3 n c3 0 xs ∧ (0 < n → ∃ g cs, Ai = some ⟨g, 0, none⟩ ∧ W1.heap.size ≤ g ∧ g < B2 ∧ Bk wr g 3 cs ∧ n ≤ cs.size)) (fun i _ => n - (intOf i).toNat)
  case atStart =>
    refine ⟨0, Nat.zero_le _, rfl, ⟨HC.out, HB02.out, HB12.out⟩, fun h0 => ?_⟩
    rcases HOI.out.2 with ⟨_, h⟩ | ⟨g, cap, cur, hv, hg1, hg2, hg3, _, hg5, _⟩
    · omega
    · injection hv with e1 _ e3
      have hlt := (HO2.out.lt g (by rw [e1]; rfl)).2
      exact ⟨g, cur, e1, hg1, by rw [← HBB.out]; exact hlt, hg2, by omega⟩
  case round =>
    obtain ⟨k, hk, rfl, hR, hI⟩ := hrel
    by_cases hlt : k < n
    · obtain ⟨g, cs, rfl, hg1, hg2, hI, hcs⟩ := hI (by omega)
      have g1 := hI.cell k
      have g2 := hI.frozen k
      rw [Array.getElem?_eq_getElem (by omega)] at g1
      generalize cs[k] = u at g1
      have HI := Lib.hid (hI.set_ k (.int .i64 (-5)))
      have HR := Lib.hid (Asks.mk (w := w) (W1 := W1) (far_cur hR.cur hg2 k (.int .i64 (-5))) (hR.b0.setCell (p := ⟨g, k, none⟩) (show w.heap.size ≤ g by omega) _) (hR.b1.setCell (p := ⟨g, k, none⟩) hg1 _))
      have i1 : (k : Int) < (n : Int) := by omega
      clear hI hR
      go_wp2
      go_roundw
      case rel => exact ⟨k + 1, by omega, by go_num, HR.out, fun _ => ⟨g, _, rfl, hg1, hg2, HI.out, by simpa using hcs⟩⟩
      case measure => simp [intOf]; omega
    · have i1 : ¬ ((k : Int) < (n : Int)) := by omega
      clear hlt hk
      have HR := Lib.hid hR
      clear hR hI
      go_wp2
      go_loopw [9, 10] (fun t i wq => ∃ (k t' : Nat), k ≤ m ∧ i = .int .i64 k ∧ t = .int .i64 t' ∧ Asks w W1 wq B2 b A3 n c3 t' xs) (fun _ i _ => m - (intOf i).toNat)
      case atStart => exact ⟨0, 0, Nat.zero_le _, rfl, rfl, HR.out⟩
      case round =>
        obtain ⟨k, t, hk, rfl, rfl, hR⟩ := hrel
        have ht := hR.cur.le
        by_cases hlt : k < m ∧ k < 100
        · obtain ⟨ba, oa, rfl, hca⟩ := (HA'.out.below hR.b0 (Nat.le_refl _)).at_ (i := k) (by rw [HM.out]; exact hlt.1)
          have ga := hca k (by rw [HM.out]; exact hlt.1)
          have i1 : (k : Int) < (m : Int) := by omega
          have i2 : (k : Int) < 100 := by omega
          clear hca HR
          have HR := Lib.hid hR
          generalize ys.getD k 0 = u at ga
          by_cases hu : 0 ≤ u ∧ u < (n : Int) - (t : Int)
          · obtain ⟨j, rfl⟩ := Int.eq_ofNat_of_zero_le hu.1
            have ht1 : t < n := by omega
            obtain ⟨bw, ow, rfl, hcw⟩ := ((own_row HO1.out).below hR.b1 (Nat.le_refl _)).at_ (i := t + j) (by rw [HN.out]; omega)
            have gw := hcw (t + j) (by rw [HN.out]; omega)
            obtain ⟨v, hv⟩ : ∃ v, xs.getD t 0 = v := ⟨_, rfl⟩
            have HV := Lib.hid hv
            have HW : Hid (∀ W, Below W1.heap.size W1 W → W.cell? ⟨bw, ow + t, none⟩ = some (.int .i64 v)) := fun W hW => by
              obtain ⟨bw', ow', e, hcw'⟩ := ((own_row HO1.out).below hW (Nat.le_refl _)).at_ (i := t) (by rw [HN.out]; omega)
              injection e with e; injection e with e1 e2; subst e1 e2
              have := hcw' t (by rw [HN.out]; omega)
              rwa [hv] at this
            have hp := peek_yes hR.cur hx j (by omega)
            generalize xs.getD (t + j) 0 = x at gw hp
            have HP := Lib.hid hp
            have j1 : (0 : Int) ≤ (j : Int) := by omega
            have j2 : (j : Int) < (n : Int) - (t : Int) := by omega
            have j3 : (t : Int) + (j : Int) < (n : Int) := by omega
            have j4 : (t : Int) < (n : Int) := by omega
            clear hcw hp hR hu hv
            rcases hbe : ((j : Int) % 2 == 0) with _ | _
            · go_wp2_with (first | (go_at_call 11; with_reducible (refine Calls.mono (HP.out) ?_); rintro e wp ⟨rfl, q, rfl⟩; have HC1 := Lib.hid (HR.out.drewN q)) | (go_at_call 12; with_reducible (refine Calls.mono (at_any HC1.out.cur) ?_); rintro e wc ⟨rfl, rfl⟩) | (go_at_call 13; with_reducible (refine Calls.mono (left_any HC1.out.cur hx) ?_); rintro e wd ⟨rfl, qd, rfl⟩))
              go_roundw
              case rel => exact ⟨k + 1, t, by omega, by go_num, by go_num, HR.out.drewN _⟩
              case measure => simp [intOf]; omega
            · have g4 := HW.out _ (HR.out.b1)
              go_wp2_with (first | (go_at_call 11; with_reducible (refine Calls.mono (HP.out) ?_); rintro e wp ⟨rfl, q, rfl⟩; have HC1 := Lib.hid (HR.out.drewN q)) | (go_at_call 10; with_reducible (refine Calls.mono (next_yes HC1.out.cur hx ht1) ?_); rintro e wn ⟨rfl, hCn, qn, hen⟩; rw [HV.out]; have HC2 := Lib.hid (Asks.mk hCn (moved_below HC1.out.b0 (by omega) hen) (moved_below HC1.out.b1 (by omega) hen)); have g5 := HW.out _ HC2.out.b1; clear hCn hen) | (go_at_call 12; with_reducible (refine Calls.mono (at_any HC2.out.cur) ?_); rintro e wc ⟨rfl, rfl⟩) | (go_at_call 13; with_reducible (refine Calls.mono (left_any HC2.out.cur hx) ?_); rintro e wd ⟨rfl, qd, rfl⟩))
              go_roundw
              case rel => exact ⟨k + 1, t + 1, by omega, by go_num, by go_num, HC2.out.drewN _⟩
              case measure => simp [intOf]; omega
          · have hp := peek_no hR.cur hx u (by omega)
            have HP := Lib.hid hp
            by_cases hu0 : u < 0
            · have j1 : ¬ ((0 : Int) ≤ u) := by omega
              by_cases ht1 : t < n
              · obtain ⟨bw, ow, rfl, hcw⟩ := ((own_row HO1.out).below hR.b1 (Nat.le_refl _)).at_ (i := t) (by rw [HN.out]; omega)
                obtain ⟨v, hv⟩ : ∃ v, xs.getD t 0 = v := ⟨_, rfl⟩
                have HV := Lib.hid hv
                have HW : Hid (∀ W, Below W1.heap.size W1 W → W.cell? ⟨bw, ow + t, none⟩ = some (.int .i64 v)) := fun W hW => by
                  obtain ⟨bw', ow', e, hcw'⟩ := ((own_row HO1.out).below hW (Nat.le_refl _)).at_ (i := t) (by rw [HN.out]; omega)
                  injection e with e; injection e with e1 e2; subst e1 e2
                  have := hcw' t (by rw [HN.out]; omega)
                  rwa [hv] at this
                have j4 : (t : Int) < (n : Int) := by omega
                clear hcw hp hR hv hu
                rcases hbe : (Int.tmod u 2 == 0) with _ | _
                · go_wp2_with (first | (go_at_call 11; with_reducible (refine Calls.mono (HP.out) ?_); rintro e wp ⟨rfl, q, rfl⟩; have HC1 := Lib.hid (HR.out.drewN q)) | (go_at_call 12; with_reducible (refine Calls.mono (at_any HC1.out.cur) ?_); rintro e wc ⟨rfl, rfl⟩) | (go_at_call 13; with_reducible (refine Calls.mono (left_any HC1.out.cur hx) ?_); rintro e wd ⟨rfl, qd, rfl⟩))
                  go_roundw
                  case rel => exact ⟨k + 1, t, by omega, by go_num, by go_num, HR.out.drewN _⟩
                  case measure => simp [intOf]; omega
                · have g4 := HW.out _ (HR.out.b1)
                  go_wp2_with (first | (go_at_call 11; with_reducible (refine Calls.mono (HP.out) ?_); rintro e wp ⟨rfl, q, rfl⟩; have HC1 := Lib.hid (HR.out.drewN q)) | (go_at_call 10; with_reducible (refine Calls.mono (next_yes HC1.out.cur hx ht1) ?_); rintro e wn ⟨rfl, hCn, qn, hen⟩; rw [HV.out]; have HC2 := Lib.hid (Asks.mk hCn (moved_below HC1.out.b0 (by omega) hen) (moved_below HC1.out.b1 (by omega) hen)); have g5 := HW.out _ HC2.out.b1; clear hCn hen) | (go_at_call 12; with_reducible (refine Calls.mono (at_any HC2.out.cur) ?_); rintro e wc ⟨rfl, rfl⟩) | (go_at_call 13; with_reducible (refine Calls.mono (left_any HC2.out.cur hx) ?_); rintro e wd ⟨rfl, qd, rfl⟩))
                  go_roundw
                  case rel => exact ⟨k + 1, t + 1, by omega, by go_num, by go_num, HC2.out.drewN _⟩
                  case measure => simp [intOf]; omega
              · have htn : t = n := by omega
                have j4 : ¬ ((t : Int) < (n : Int)) := by omega
                clear hp hR hu
                rcases hbe : (Int.tmod u 2 == 0) with _ | _
                · go_wp2_with (first | (go_at_call 11; with_reducible (refine Calls.mono (HP.out) ?_); rintro e wp ⟨rfl, q, rfl⟩; have HC1 := Lib.hid (HR.out.drewN q)) | (go_at_call 12; with_reducible (refine Calls.mono (at_any HC1.out.cur) ?_); rintro e wc ⟨rfl, rfl⟩) | (go_at_call 13; with_reducible (refine Calls.mono (left_any HC1.out.cur hx) ?_); rintro e wd ⟨rfl, qd, rfl⟩))
                  go_roundw
                  case rel => exact ⟨k + 1, t, by omega, by go_num, by go_num, HR.out.drewN _⟩
                  case measure => simp [intOf]; omega
                · go_wp2_with (first | (go_at_call 11; with_reducible (refine Calls.mono (HP.out) ?_); rintro e wp ⟨rfl, q, rfl⟩; have HC1 := Lib.hid (HR.out.drewN q)) | (go_at_call 10; with_reducible (refine Calls.mono (next_no HC1.out.cur hx htn) ?_); rintro e wn ⟨rfl, qn, rfl⟩; have HC2 := Lib.hid (HR.out.drewN (q + qn))) | (go_at_call 12; with_reducible (refine Calls.mono (at_any HC2.out.cur) ?_); rintro e wc ⟨rfl, rfl⟩) | (go_at_call 13; with_reducible (refine Calls.mono (left_any HC2.out.cur hx) ?_); rintro e wd ⟨rfl, qd, rfl⟩))
                  go_roundw
                  case rel => exact ⟨k + 1, t, by omega, by go_num, by go_num, HR.out.drewN _⟩
                  case measure => simp [intOf]; omega
            · obtain ⟨j, rfl⟩ := Int.eq_ofNat_of_zero_le (show 0 ≤ u by omega)
              have j1 : (0 : Int) ≤ (j : Int) := by omega
              have j2 : ¬ ((j : Int) < (n : Int) - (t : Int)) := by omega
              by_cases ht1 : t < n
              · obtain ⟨bw, ow, rfl, hcw⟩ := ((own_row HO1.out).below hR.b1 (Nat.le_refl _)).at_ (i := t) (by rw [HN.out]; omega)
                obtain ⟨v, hv⟩ : ∃ v, xs.getD t 0 = v := ⟨_, rfl⟩
                have HV := Lib.hid hv
                have HW : Hid (∀ W, Below W1.heap.size W1 W → W.cell? ⟨bw, ow + t, none⟩ = some (.int .i64 v)) := fun W hW => by
                  obtain ⟨bw', ow', e, hcw'⟩ := ((own_row HO1.out).below hW (Nat.le_refl _)).at_ (i := t) (by rw [HN.out]; omega)
                  injection e with e; injection e with e1 e2; subst e1 e2
                  have := hcw' t (by rw [HN.out]; omega)
                  rwa [hv] at this
                have j4 : (t : Int) < (n : Int) := by omega
                clear hcw hp hR hv hu
                rcases hbe : ((j : Int) % 2 == 0) with _ | _
                · go_wp2_with (first | (go_at_call 11; with_reducible (refine Calls.mono (HP.out) ?_); rintro e wp ⟨rfl, q, rfl⟩; have HC1 := Lib.hid (HR.out.drewN q)) | (go_at_call 12; with_reducible (refine Calls.mono (at_any HC1.out.cur) ?_); rintro e wc ⟨rfl, rfl⟩) | (go_at_call 13; with_reducible (refine Calls.mono (left_any HC1.out.cur hx) ?_); rintro e wd ⟨rfl, qd, rfl⟩))
                  go_roundw
                  case rel => exact ⟨k + 1, t, by omega, by go_num, by go_num, HR.out.drewN _⟩
                  case measure => simp [intOf]; omega
                · have g4 := HW.out _ (HR.out.b1)
                  go_wp2_with (first | (go_at_call 11; with_reducible (refine Calls.mono (HP.out) ?_); rintro e wp ⟨rfl, q, rfl⟩; have HC1 := Lib.hid (HR.out.drewN q)) | (go_at_call 10; with_reducible (refine Calls.mono (next_yes HC1.out.cur hx ht1) ?_); rintro e wn ⟨rfl, hCn, qn, hen⟩; rw [HV.out]; have HC2 := Lib.hid (Asks.mk hCn (moved_below HC1.out.b0 (by omega) hen) (moved_below HC1.out.b1 (by omega) hen)); have g5 := HW.out _ HC2.out.b1; clear hCn hen) | (go_at_call 12; with_reducible (refine Calls.mono (at_any HC2.out.cur) ?_); rintro e wc ⟨rfl, rfl⟩) | (go_at_call 13; with_reducible (refine Calls.mono (left_any HC2.out.cur hx) ?_); rintro e wd ⟨rfl, qd, rfl⟩))
                  go_roundw
                  case rel => exact ⟨k + 1, t + 1, by omega, by go_num, by go_num, HC2.out.drewN _⟩
                  case measure => simp [intOf]; omega
              · have htn : t = n := by omega
                have j4 : ¬ ((t : Int) < (n : Int)) := by omega
                clear hp hR hu
                rcases hbe : ((j : Int) % 2 == 0) with _ | _
                · go_wp2_with (first | (go_at_call 11; with_reducible (refine Calls.mono (HP.out) ?_); rintro e wp ⟨rfl, q, rfl⟩; have HC1 := Lib.hid (HR.out.drewN q)) | (go_at_call 12; with_reducible (refine Calls.mono (at_any HC1.out.cur) ?_); rintro e wc ⟨rfl, rfl⟩) | (go_at_call 13; with_reducible (refine Calls.mono (left_any HC1.out.cur hx) ?_); rintro e wd ⟨rfl, qd, rfl⟩))
                  go_roundw
                  case rel => exact ⟨k + 1, t, by omega, by go_num, by go_num, HR.out.drewN _⟩
                  case measure => simp [intOf]; omega
                · go_wp2_with (first | (go_at_call 11; with_reducible (refine Calls.mono (HP.out) ?_); rintro e wp ⟨rfl, q, rfl⟩; have HC1 := Lib.hid (HR.out.drewN q)) | (go_at_call 10; with_reducible (refine Calls.mono (next_no HC1.out.cur hx htn) ?_); rintro e wn ⟨rfl, qn, rfl⟩; have HC2 := Lib.hid (HR.out.drewN (q + qn))) | (go_at_call 12; with_reducible (refine Calls.mono (at_any HC2.out.cur) ?_); rintro e wc ⟨rfl, rfl⟩) | (go_at_call 13; with_reducible (refine Calls.mono (left_any HC2.out.cur hx) ?_); rintro e wd ⟨rfl, qd, rfl⟩))
                  go_roundw
                  case rel => exact ⟨k + 1, t, by omega, by go_num, by go_num, HR.out.drewN _⟩
                  case measure => simp [intOf]; omega
        · have HR2 := Lib.hid hR
          clear hR HR
          by_cases hk1 : k < m
          · have i1 : (k : Int) < (m : Int) := by omega
            have i2 : ¬ ((k : Int) < 100) := by omega
            go_wp2_with (go_at_call 14; refine (known_any _).mono ?_; rintro e we ⟨rfl, hbe⟩)
            go_ret
            exact ⟨rfl, HR2.out.b0.trans (hbe.mono HR2.out.b0.size)⟩
          · have i1 : ¬ ((k : Int) < (m : Int)) := by omega
            go_wp2_with (go_at_call 14; refine (known_any _).mono ?_; rintro e we ⟨rfl, hbe⟩)
            go_ret
            exact ⟨rfl, HR2.out.b0.trans (hbe.mono HR2.out.b0.size)⟩
end Go.Proofs.Yteoclmmooeibhaa.cu
