/- Attributes held against others, one by one; nodes and trees that are the same: the statements' Same, SameNode, SameTree. No conditions but that the lists are not endless. -/
import Derived.Test.YtofllmofdenadaaDr
import Derived.Test.YtofllmofdenadaaBase
import Derived.Test.YtofllmofdenadaaCls
import Derived.Test.YtofllmofdenadaaBlk
import Derived.Deep.LoopGhost
import Derived.Deep.DeepCutAuto
import Derived.BigQuiet
import Derived.Deep.QuietTactic
namespace Go.Proofs.Ytofllmofdenadaa
set_option linter.unusedVariables false
open Go.RowKit Go.Proofs.Fm Go.Proofs.Fb Go.Proofs.Fd Go.Proofs.Fc

theorem drop_att {al : List Att} {k : Nat} (h : k < al.length) : al.drop k = al[k]'h :: al.drop (k + 1) := List.drop_eq_getElem_cons h
theorem neq_attr (x1 x2 y1 y2 : List UInt8) (w : World) : (binOp .neq 66 (.agg #[.string ⟨x1.toArray⟩, .string ⟨x2.toArray⟩]) (.agg #[.string ⟨y1.toArray⟩, .string ⟨y2.toArray⟩])).run Try.prog w = .ok (.bool (!decide ((x1, x2) = (y1, y2)))) w := by
  by_cases h1 : x1 = y1 <;> by_cases h2 : x2 = y2 <;> simp [go_sem, h1, h2]
theorem eql_attr (x1 x2 y1 y2 : List UInt8) (w : World) : (binOp .eql 66 (.agg #[.string ⟨x1.toArray⟩, .string ⟨x2.toArray⟩]) (.agg #[.string ⟨y1.toArray⟩, .string ⟨y2.toArray⟩])).run Try.prog w = .ok (.bool (decide ((x1, x2) = (y1, y2)))) w := by
  by_cases h1 : x1 = y1 <;> by_cases h2 : x2 = y2 <;> simp [go_sem, h1, h2, Result.andThen]
set_option maxHeartbeats 2000000 in
theorem same_attr (A B : Option Addr) (n m c d : Nat) (al bl : List Att) (hn : al.length = n) (hm : bl.length = m) (hx : n ≤ 4398046511104) {w : World} (ha : ARow w A al) (hb : ARow w B bl) :
    Calls Try.prog 51 #[.slice A n c, .slice B m d] w fun e w' => e = .returned (.bool (decide (al = bl))) ∧ ∃ q, w.drewN q = w' := by
  by_cases hl : n = m
  · have h2 : ((n : Int) != (m : Int)) = false := by rw [bne_eq_false_iff_eq]; omega
    have HL := Lib.hid hl
    clear hl
    go_enter Try.func51, Try.ntmps51
    go_wp2
    go_loopg [5] n (fun gk i wr => ∃ k q : Nat, k + gk = n ∧ i = .int .i64 k ∧ Hid (decide (al.drop k = bl.drop k) = decide (al = bl)) ∧ wr = w.drewN q)
    case atStart => exact ⟨0, 0, by omega, rfl, Lib.hid rfl, rfl⟩
    case round =>
      obtain ⟨k, q, hk, rfl, ht, rfl⟩ := hrel
      by_cases hlt : k < n
      · have hlm := HL.out
        have hka : k < al.length := by omega
        have hkb : k < bl.length := by omega
        obtain ⟨b1, o1, rfl, hc1⟩ := ha (by intro e; subst e; simp at hka)
        obtain ⟨b2, o2, rfl, hc2⟩ := hb (by intro e; subst e; simp at hkb)
        obtain ⟨g1, g2⟩ := hc1 k hka
        obtain ⟨g3, g4⟩ := hc2 k hkb
        have HA := Lib.hid (drop_att hka)
        have HB := Lib.hid (drop_att hkb)
        obtain ⟨⟨x1, x2⟩, hx⟩ : ∃ x, (al[k]'hka) = x := ⟨_, rfl⟩
        obtain ⟨⟨y1, y2⟩, hy⟩ : ∃ x, (bl[k]'hkb) = x := ⟨_, rfl⟩
        rw [hx] at g1 g2 HA
        rw [hy] at g3 g4 HB
        dsimp only [str] at g1 g2 g3 g4
        have i1 : (k : Int) < (n : Int) := by omega
        have i2 : (k : Int) < (m : Int) := by omega
        have hne := fun W => neq_attr x1 x2 y1 y2 W
        obtain ⟨z, hz⟩ : ∃ z, decide ((x1, x2) = (y1, y2)) = z := ⟨_, rfl⟩
        rw [hz] at hne
        have HZ := Lib.hid hz
        clear hc1 hc2 ha hb hx hy hlm hz
        rcases z with _ | _
        · simp only [Bool.not_false] at hne
          go_wp2
          go_quiet (fail)
          go_wp2
          go_ret
          refine ⟨?_, q + nq, (World.drewN_drewN _ _ _).symm⟩
          have h1 := ht.out
          rw [HA.out, HB.out] at h1
          rw [← h1, decide_eq_false (fun e => absurd (List.cons.inj e).1 (of_decide_eq_false HZ.out))]; rfl
        · simp only [Bool.not_true] at hne
          go_wp2
          go_quiet (fail)
          go_wp2
          go_roundg (gk - 1)
          case measure => omega
          case rel =>
            refine ⟨k + 1, q + nq, by omega, by go_num, Lib.hid ?_, rfl⟩
            have h1 := ht.out
            rw [HA.out, HB.out, of_decide_eq_true HZ.out] at h1
            rw [← h1]
            exact decide_eq_decide.2 ⟨fun e => by rw [e], fun e => (List.cons.inj e).2⟩
      · have hke : k = n := by omega
        subst hke
        go_wp2
        go_ret
        have h1 := ht.out
        have hlm := HL.out
        rw [List.drop_eq_nil_of_le (by omega), List.drop_eq_nil_of_le (by omega)] at h1
        exact ⟨by rw [← h1]; rfl, q, rfl⟩
  · have h1 : decide (al = bl) = false := by
      rw [decide_eq_false_iff_not]; intro e; exact hl (by rw [← hn, ← hm, e])
    have H1 := Lib.hid h1
    have h2 : ((n : Int) != (m : Int)) = true := by rw [bne_iff_ne]; omega
    clear ha hb h1 hl
    go_enter Try.func51, Try.ntmps51
    go_wp2
    go_ret
    exact ⟨by rw [H1.out]; rfl, 0, rfl⟩
theorem same_stay (A B : Option Addr) (n m c d : Nat) (al bl : List Att) (hn : al.length = n) (hm : bl.length = m) (hx : n ≤ 4398046511104) {w : World} (ha : ARow w A al) (hb : ARow w B bl) :
    Calls Try.prog 51 #[.slice A n c, .slice B m d] w fun e w' => e = .returned (.bool (decide (al = bl))) ∧ Below w.heap.size w w' :=
  (same_attr A B n m c d al bl hn hm hx ha hb).mono fun _ _ ⟨h1, q, h2⟩ => ⟨h1, h2 ▸ below_drewN (Below.refl _ _) q⟩
set_option maxHeartbeats 2000000 in
theorem sameNode_yes (x : Nd) (v u : Value) (w : World) (ha : AVal w v x.attrs) (hb : AVal w u x.attrs) :
    Calls Try.prog 48 #[.agg (ndCells x v).toArray, .agg (ndCells x u).toArray] w fun e w' => e = .returned (.bool true) ∧ Below w.heap.size w w' := by
  obtain ⟨A, c, rfl, har, hac, hlim, -⟩ := ha.ex
  obtain ⟨B, d, rfl, hbr, -⟩ := hb.ex
  have hb0 : Below w.heap.size w ((w.alloc (.cells (ndCells x (.slice A x.attrs.length c)).toArray 68)).alloc (.cells (ndCells x (.slice B x.attrs.length d)).toArray 68)) := ((Below.refl _ w).alloc (Nat.le_refl _) _).alloc (by simp) _
  have HS := Lib.hid (same_attr A B x.attrs.length x.attrs.length c d x.attrs x.attrs rfl rfl hlim (har.below hb0 (Nat.le_refl _)) (hbr.below hb0 (Nat.le_refl _)))
  rw [decide_eq_true rfl] at HS
  have HB0 := Lib.hid hb0
  clear har hbr hb0 ha hb
  obtain ⟨K, NM, TX, al, PA, FI, LA, PR, NX⟩ := x
  dsimp only [ndCells, str] at HS HB0 hlim hac ⊢
  go_enter Try.func48, Try.ntmps48
  go_wp2_with (go_at_call 51; refine (HS.out).mono ?_; rintro e w1 ⟨rfl, q, rfl⟩)
  go_ret
  exact ⟨rfl, below_drewN HB0.out q⟩
set_option maxHeartbeats 2000000 in
theorem sameTree_yes (A B : Option Addr) (n c d : Nat) (l : List Nd) (hl : l.length = n) (hn : n ≤ 4398046511104) (w : World) (ha : NRow w A l) (hb : NRow w B l) :
    Calls Try.prog 21 #[.agg #[.slice A n c], .agg #[.slice B n d]] w fun e w' => e = .returned (.bool true) ∧ Below w.heap.size w w' := by
  have hb0 : Below w.heap.size w ((w.alloc (.cells #[.slice A n c] 24)).alloc (.cells #[.slice B n d] 24)) := ((Below.refl _ w).alloc (Nat.le_refl _) _).alloc (by simp) _
  have HA := Lib.hid ha
  have HB := Lib.hid hb
  have HB0 := Lib.hid hb0
  clear ha hb hb0
  go_enter Try.func21, Try.ntmps21
  go_upto_region 4 with fail
  refine wp_gen (fun W => Below w.heap.size w W ∧ Bk W w.heap.size 24 #[.slice A n c] ∧ Bk W (w.heap.size + 1) 24 #[.slice B n d]) ⟨HB0.out, (Bk.new w 24 _).alloc _, by simpa using Bk.new (w.alloc (.cells #[.slice A n c] 24)) 24 #[.slice B n d]⟩ ?_
  rintro W0 ⟨hw0, hk1, hk2⟩
  have HW0 := Lib.hid hw0
  have HK1 := Lib.hid hk1
  have HK2 := Lib.hid hk2
  have hz0 := hw0.size
  clear hw0 hk1 hk2 HB0
  go_loopg [5] n (fun gk i wr => ∃ k : Nat, k + gk = n ∧ i = .int .i64 (k : Int) ∧ Hid (Below W0.heap.size W0 wr))
  case atStart => exact ⟨0, by omega, rfl, Lib.hid (Below.refl _ _)⟩
  case round =>
    obtain ⟨k, hk, rfl, hb⟩ := hrel
    have hbk1 := HK1.out.below hb.out HK1.out.lt
    have hbk2 := HK2.out.below hb.out HK2.out.lt
    have z1 : wr.cell? ⟨w.heap.size, 0, none⟩ = some (.slice A n c) := hbk1.cell 0
    have z2 : wr.cell? ⟨w.heap.size + 1, 0, none⟩ = some (.slice B n d) := hbk2.cell 0
    have l1 : w.heap.size < wr.heap.size := hbk1.lt
    have l2 : w.heap.size + 1 < wr.heap.size := hbk2.lt
    have HBW := Lib.hid (HW0.out.trans (hb.out.mono hz0))
    by_cases hlk : k < n
    · have hkl : k < l.length := by omega
      have i1 : (k : Int) < (n : Int) := by omega
      obtain ⟨b1, o1, rfl, h1⟩ := (HA.out.below HBW.out (Nat.le_refl _)).at_ hkl
      obtain ⟨b2, o2, rfl, h2⟩ := (HB.out.below HBW.out (Nat.le_refl _)).at_ hkl
      obtain ⟨x, hx⟩ : ∃ x, (l[k]'hkl) = x := ⟨_, rfl⟩
      rw [hx] at h1 h2
      obtain ⟨v, hv, hav⟩ := h1.c3
      obtain ⟨u, hu, hau⟩ := h2.c3
      obtain ⟨A1, d1, rfl, -⟩ := hav.ex
      obtain ⟨A2, d2, rfl, -⟩ := hau.ex
      obtain ⟨c0, c1, c2, -, c4, c5, c6, c7, c8⟩ := h1
      obtain ⟨e0, e1, e2, -, e4, e5, e6, e7, e8⟩ := h2
      have m1 : b1 < wr.heap.size := World.block_lt_of_cell? _ _ c0
      have m2 : b2 < wr.heap.size := World.block_lt_of_cell? _ _ e0
      have HS := Lib.hid (fun y => call_of (sameNode_yes x (.slice A1 x.attrs.length d1) (.slice A2 x.attrs.length d2) (ext wr.heap.size wr y) (hav.below (ext_below wr.heap.size wr y) (Nat.le_refl _)) (hau.below (ext_below wr.heap.size wr y) (Nat.le_refl _))) (Nat.le_refl _))
      unfold ndCells at HS
      dsimp only [str] at HS c1 c2 e1 e2
      have eX := fun y b o => ext_cell wr.heap.size wr y b o
      clear hx hav hau hbk1 hbk2
      go_upto_region 6 with fail
      refine region_ext wr.heap.size (by kernel_rfl) (by kernel_rfl) ?_
      repeat quiet_step ((go_at_call 48; exact HS.out _))
      refine wpQuiet_nil ?_
      intro w4 hb4
      have HB4 := Lib.hid (hb.out.trans (hb4.mono hb.out.size))
      clear hb4 c0 c1 c2 c4 c5 c6 c7 c8 e0 e1 e2 e4 e5 e6 e7 e8 hv hu z1 z2 eX
      go_wp2
      go_roundg (gk - 1)
      case measure => omega
      case rel => exact ⟨k + 1, by omega, by go_num, HB4⟩
    · obtain rfl : k = n := by omega
      clear hbk1 hbk2
      go_wp2
      go_ret
      exact ⟨rfl, HBW.out⟩
end Go.Proofs.Ytofllmofdenadaa
