/- Two parts that read alike are the same: the statements' same. No conditions but that nothing is endless. -/
import Derived.Test.YtofllmofdenadaaEa
import Derived.Test.YtofllmofdenadaaDu
namespace Go.Proofs.Ytofllmofdenadaa
set_option linter.unusedVariables false
open Go.RowKit Go.Proofs.Fm Go.Proofs.Fb Go.Proofs.Fd Go.Proofs.Fc

def SameSpec (p : Pt) : Prop := ∀ (nm tx : Str) (al : List Att) (ks : List Pt) (A K B L : Option Addr) (c d c2 d2 : Nat) (w : World), p = .mk nm tx al ks → AVal w (.slice A al.length c) al → KVal w (.slice K ks.length d) ks → AVal w (.slice B al.length c2) al → KVal w (.slice L ks.length d2) ks →
  Calls Try.prog 33 #[.agg #[str nm, str tx, .slice A al.length c, .slice K ks.length d], .agg #[str nm, str tx, .slice B al.length c2, .slice L ks.length d2]] w fun e w' => e = .returned (.bool true) ∧ Below w.heap.size w w'
set_option maxHeartbeats 4000000 in
theorem same_ok (p : Pt) : SameSpec p := by
  refine Pt.ind (C := SameSpec) (fun p ih => ?_) p
  intro nm tx al ks A K B L c d c2 d2 w hp ha hk hb hl
  obtain ⟨W0, hW0⟩ : ∃ W, (w.alloc (.cells #[str nm, str tx, .slice A al.length c, .slice K ks.length d] 31)).alloc (.cells #[str nm, str tx, .slice B al.length c2, .slice L ks.length d2] 31) = W := ⟨_, rfl⟩
  have hb0 : Below w.heap.size w W0 := hW0 ▸ ((Below.refl _ w).alloc (Nat.le_refl _) _).alloc (by simp) _
  have hk1 : Bk W0 w.heap.size 31 #[str nm, str tx, .slice A al.length c, .slice K ks.length d] := hW0 ▸ (Bk.new w 31 _).alloc _
  have hk2 : Bk W0 (w.heap.size + 1) 31 #[str nm, str tx, .slice B al.length c2, .slice L ks.length d2] := hW0 ▸ (by simpa using Bk.new (w.alloc (.cells #[str nm, str tx, .slice A al.length c, .slice K ks.length d] 31)) 31 #[str nm, str tx, .slice B al.length c2, .slice L ks.length d2])
  obtain ⟨A', c', hae, har, hac, hlim, -⟩ := (ha.below hb0 (Nat.le_refl _)).ex
  obtain ⟨B', c2', hbe, hbr, -, -, -⟩ := (hb.below hb0 (Nat.le_refl _)).ex
  obtain ⟨rfl, rfl⟩ : A = A' ∧ c = c' := by injection hae with h1 h2 h3; exact ⟨h1, h3⟩
  obtain ⟨rfl, rfl⟩ : B = B' ∧ c2 = c2' := by injection hbe with h1 h2 h3; exact ⟨h1, h3⟩
  have HS := Lib.hid (same_attr A B al.length al.length c c2 al al rfl rfl hlim har hbr)
  rw [decide_eq_true rfl] at HS
  obtain ⟨K', d', hkv, hkd, hdm, hkn, hkc0⟩ := hk
  have hkc : ks = [] ∨ ∃ b' off, K = some ⟨b', off, none⟩ ∧ PCells w b' off ks := by injection hkv with h1 h2 h3; rw [h1]; exact hkc0
  obtain ⟨L', e', hlv, hld, hlm, hln, hlc0⟩ := hl
  have hlc : ks = [] ∨ ∃ b' off, L = some ⟨b', off, none⟩ ∧ PCells w b' off ks := by injection hlv with h1 h2 h3; rw [h1]; exact hlc0
  have HKC := Lib.hid hkc
  have HLC := Lib.hid hlc
  have HIH := Lib.hid (show ∀ k ∈ ks, SameSpec k from fun k hk => ih k (by rw [hp]; exact hk))
  have hkl : ks.length ≤ 9223372036854775807 := by omega
  have HB0 := Lib.hid hb0
  have HK1 := Lib.hid hk1
  have HK2 := Lib.hid hk2
  have HW0 := Lib.hid hW0
  dsimp only [str] at hk1 hk2 HW0 ⊢
  have y0 : W0.cell? ⟨w.heap.size, 0, none⟩ = some (.string ⟨nm.toArray⟩) := hk1.cell 0
  have y1 : W0.cell? ⟨w.heap.size, 1, none⟩ = some (.string ⟨tx.toArray⟩) := hk1.cell 1
  have y2 : W0.cell? ⟨w.heap.size, 2, none⟩ = some (.slice A al.length c) := hk1.cell 2
  have y3 : W0.cell? ⟨w.heap.size, 3, none⟩ = some (.slice K ks.length d) := hk1.cell 3
  have z0 : W0.cell? ⟨w.heap.size + 1, 0, none⟩ = some (.string ⟨nm.toArray⟩) := hk2.cell 0
  have z1 : W0.cell? ⟨w.heap.size + 1, 1, none⟩ = some (.string ⟨tx.toArray⟩) := hk2.cell 1
  have z2 : W0.cell? ⟨w.heap.size + 1, 2, none⟩ = some (.slice B al.length c2) := hk2.cell 2
  have z3 : W0.cell? ⟨w.heap.size + 1, 3, none⟩ = some (.slice L ks.length d2) := hk2.cell 3
  have l1 := hk1.lt
  have l2 := hk2.lt
  clear ha hb har hbr hkv hkd hdm hkn hkc0 hkc hlv hld hlm hln hlc0 hlc ih hp hb0 hk1 hk2 hW0 hae hbe
  go_enter Try.func33, Try.ntmps33
  go_upto_region 1 with fail
  rw [HW0.out]
  clear HW0
  have hdr : ∀ q, Below W0.heap.size W0 (W0.drewN q) := fun q => below_drewN (Below.refl _ _) q
  have HDR := Lib.hid hdr
  clear hdr
  go_upto_region 4 with (go_at_call 51; refine (HS.out).mono ?_; rintro e w1 ⟨rfl, q, rfl⟩)
  refine wp_gen (fun W => Below W0.heap.size W0 W) (HDR.out _) ?_
  clear y0 y1 y2 y3 z0 z1 z2 z3 HS
  rintro W1 hw1
  have hk1 := HK1.out.below hw1 HK1.out.lt
  have hk2 := HK2.out.below hw1 HK2.out.lt
  have HA1 := Lib.hid hk1
  have HA2 := Lib.hid hk2
  have HBW1 := Lib.hid (HB0.out.trans (hw1.mono HB0.out.size))
  clear hk1 hk2 hw1 HK1 HK2 HB0 HDR l1 l2
  go_loopg [5] ks.length (fun gk i wr => ∃ j : Nat, j + gk = ks.length ∧ i = .int .i64 (j : Int) ∧ Hid (Below W1.heap.size W1 wr))
  case atStart => exact ⟨0, by omega, rfl, Lib.hid (Below.refl _ _)⟩
  case round =>
    obtain ⟨j, hj, rfl, hb⟩ := hrel
    have hbk1 := HA1.out.below hb.out HA1.out.lt
    have hbk2 := HA2.out.below hb.out HA2.out.lt
    have z1 : wr.cell? ⟨w.heap.size, 3, none⟩ = some (.slice K ks.length d) := hbk1.cell 3
    have z2 : wr.cell? ⟨w.heap.size + 1, 3, none⟩ = some (.slice L ks.length d2) := hbk2.cell 3
    have l1 := hbk1.lt
    have l2 := hbk2.lt
    have HBW := Lib.hid (HBW1.out.trans (hb.out.mono HBW1.out.size))
    clear hbk1 hbk2
    by_cases hlt : j < ks.length
    · have i1 : (j : Int) < (ks.length : Int) := by omega
      rcases HKC.out with hk0 | ⟨b1, o1, rfl, hkc⟩
      · rw [hk0] at hlt; simp at hlt
      rcases HLC.out with hl0 | ⟨b2, o2, rfl, hlc⟩
      · rw [hl0] at hlt; simp at hlt
      obtain ⟨nm1, tx1, al1, ks1, A1, c1, K1, d1, hkj, q0, q1, q2, q3, hva, hvk, hbw⟩ := kid_cells hkc hlt
      obtain ⟨nm3, tx3, al3, ks3, A3, c3, K3, d3, hlj, r0, r1, r2, r3, hua, huk, hbu⟩ := kid_cells hlc hlt
      have heq := hkj.symm.trans hlj
      injection heq with h1 h2 h3 h4
      subst h1; subst h2; subst h3; subst h4
      have hsp := HIH.out _ (List.getElem_mem hlt)
      rw [hkj] at hsp
      have q0 := (HBW.out.cell (p := ⟨b1, o1 + j * 4, none⟩) hbw).trans q0
      have q1 := (HBW.out.cell (p := ⟨b1, o1 + j * 4 + 1, none⟩) hbw).trans q1
      have q2 := (HBW.out.cell (p := ⟨b1, o1 + j * 4 + 2, none⟩) hbw).trans q2
      have q3 := (HBW.out.cell (p := ⟨b1, o1 + j * 4 + 3, none⟩) hbw).trans q3
      have r0 := (HBW.out.cell (p := ⟨b2, o2 + j * 4, none⟩) hbu).trans r0
      have r1 := (HBW.out.cell (p := ⟨b2, o2 + j * 4 + 1, none⟩) hbu).trans r1
      have r2 := (HBW.out.cell (p := ⟨b2, o2 + j * 4 + 2, none⟩) hbu).trans r2
      have r3 := (HBW.out.cell (p := ⟨b2, o2 + j * 4 + 3, none⟩) hbu).trans r3
      have m1 : b1 < wr.heap.size := by have := HBW.out.size; omega
      have m2 : b2 < wr.heap.size := by have := HBW.out.size; omega
      have hbe := fun y => HBW.out.trans ((ext_below wr.heap.size wr y).mono HBW.out.size)
      have HC := Lib.hid (fun y => call_of (hsp nm1 tx1 al1 ks1 A1 K1 A3 K3 c1 d1 c3 d3 (ext wr.heap.size wr y) rfl (hva.below (hbe y) (Nat.le_refl _)) (hvk.below (hbe y) (Nat.le_refl _)) (hua.below (hbe y) (Nat.le_refl _)) (huk.below (hbe y) (Nat.le_refl _))) (Nat.le_refl _))
      dsimp only [str] at HC q0 q1 r0 r1
      have eX := fun y b o => ext_cell wr.heap.size wr y b o
      clear hkj hlj hkc hlc hva hvk hua huk hbw hbu hsp hbe
      go_upto_region 6 with fail
      refine region_ext wr.heap.size (by kernel_rfl) (by kernel_rfl) ?_
      repeat quiet_step ((go_at_call 33; exact HC.out _))
      refine wpQuiet_nil ?_
      intro w4 hb4
      have HB4 := Lib.hid (hb.out.trans (hb4.mono hb.out.size))
      clear hb4 q0 q1 q2 q3 r0 r1 r2 r3 z1 z2 eX
      go_wp2
      go_roundg (gk - 1)
      case measure => omega
      case rel => exact ⟨j + 1, by omega, by go_num, HB4⟩
    · obtain rfl : j = ks.length := by omega
      go_wp2
      go_ret
      exact ⟨rfl, HBW.out⟩
end Go.Proofs.Ytofllmofdenadaa
