/- Do nodes stand in document order: dom's inOrder. No conditions but that the list is not endless. -/
import Derived.Test.YtdogcnmepaemjaaDoorDg
namespace Go.Proofs.YtdogcnmepaemjaaDoor
set_option linter.unusedVariables false
open Go.RowKit Go.Proofs.Fm Go.Proofs.Fb Go.Proofs.Fd Go.Proofs.Fc

set_option maxHeartbeats 2000000 in
theorem order_any (A : Option Addr) (n c : Nat) (l : List Nd) (hl : l.length = n) (h0 : 0 < n) (hn : n ≤ 1099511627776) (w : World) (ha : NRow w A l) :
    Calls Tryd.prog 44 #[.slice A n c] w fun e w' => e = .returned (.bool (ordB (par l) n)) ∧ w' = w := by
  obtain ⟨b, off, rfl, hat⟩ := ha (by intro e; subst e; simp at hl; omega)
  have hcell : ∀ i, i < n → w.cell? ⟨b, off + i * 9 + 4, none⟩ = some (.int .i64 (par l i)) := fun i hi => by rw [par_get (l := l) (i := i) (by omega)]; exact (hat i (by omega)).c4
  have HC := Lib.hid hcell
  have z0 := hcell 0 h0
  rw [Nat.zero_mul, Nat.add_zero] at z0
  clear hat hcell ha
  have i0 : (0 : Int) < (n : Int) := by omega
  by_cases hr : par l 0 = -1
  · have hr1 : (par l 0 != -1) = false := by rw [hr]; rfl
    have HO := Lib.hid (show ordB (par l) 1 = true from (ordB_iff _ _).2 ⟨hr, fun i a b => by omega⟩)
    have HRT := Lib.hid hr
    obtain ⟨P0, hP0⟩ : ∃ P, par l 0 = P := ⟨_, rfl⟩
    rw [hP0] at z0 hr1
    clear hr hP0
    go_enter Tryd.func44, Tryd.ntmps44
    go_wp2
    clear z0 hr1
    go_loopg [3] (n - 1) (fun gk i wr => ∃ k : Nat, k + gk = n ∧ 1 ≤ k ∧ i = .int .i64 (k : Int) ∧ Hid (ordB (par l) k = true) ∧ wr = w)
    case atStart => exact ⟨1, by omega, by omega, rfl, HO, rfl⟩
    case round =>
      obtain ⟨k, hk, hk1, rfl, ho, rfl⟩ := hrel
      by_cases hlk : k < n
      · have i1 : (k : Int) < (n : Int) := by omega
        have x4 := HC.out k hlk
        obtain ⟨P, hP⟩ : ∃ P, par l k = P := ⟨_, rfl⟩
        rw [hP] at x4
        have HP := Lib.hid hP
        have m1 : (k : Int) - 1 = ((k - 1 : Nat) : Int) := by omega
        clear hP
        go_upto_region 8 with fail
        obtain ⟨gA, rfl⟩ : ∃ g, g = gk := ⟨gk, rfl⟩
        obtain ⟨wA, rfl⟩ : ∃ x, x = wr := ⟨wr, rfl⟩
        go_loopg [5] k (fun gi o wr => ∃ j : Nat, j ≤ gi ∧ j < k ∧ o = .int .i64 (j : Int) ∧ Hid (onWay (par l) (k - 1) P = onWay (par l) j P) ∧ wr = wA)
        case atStart => exact ⟨k - 1, by omega, by omega, rfl, Lib.hid rfl, rfl⟩
        case round =>
          obtain ⟨j, hj, hjk, rfl, hw, rfl⟩ := hrel
          by_cases h1 : P < (j : Int)
          · by_cases h2 : 0 < j
            · have y4 := HC.out j (by omega)
              have hlt := ord_lt ho.out h2 hjk
              have hst := onWay_step (par l) j P hlt.1 hlt.2 (by omega)
              obtain ⟨q, hq⟩ := Int.eq_ofNat_of_zero_le hlt.1
              rw [hq, Int.toNat_natCast] at hst
              rw [hq] at y4
              have hqj : q < j := by omega
              have HS := Lib.hid hst
              have i3 : (j : Int) < (n : Int) := by omega
              have i4 : (0 : Int) < (j : Int) := by omega
              clear hst hlt hq
              go_wp2
              go_roundg q
              case measure => omega
              case rel => exact ⟨q, Nat.le_refl _, by omega, rfl, Lib.hid (hw.out.trans HS.out), rfl⟩
            · obtain rfl : j = 0 := by omega
              have hno : onWay (par l) (k - 1) P = false := by
                rw [hw.out]
                rcases hb : onWay (par l) 0 P with _ | _
                · rfl
                · have := onWay_le _ _ _ hb; omega
              have HF := Lib.hid (ord_not (p := par l) (n := n) (by omega) hlk (by rw [HP.out]; exact hno))
              have t1 : (((0 : Nat) : Int) != P) = true := by rw [bne_iff_ne]; omega
              have t2 : ((0 : Int) != P) = true := t1
              clear hno hw
              go_wp2
              go_ret
              exact ⟨by rw [HF.out]; rfl, rfl⟩
          · by_cases he : P = (j : Int)
            · have hyes : onWay (par l) (k - 1) (par l k) = true := by
                rw [HP.out, hw.out, he]; exact onWay_self _ _
              have HO2 := Lib.hid (ord_succ ho.out (by omega) hyes)
              have t1 : ((j : Int) != P) = false := by rw [he]; simp
              clear hyes hw
              subst he
              go_wp2
              go_roundg (gA - 1)
              case measure => omega
              case rel => exact ⟨k + 1, by omega, by omega, by go_num, HO2, rfl⟩
            · have hno : onWay (par l) (k - 1) P = false := by
                rw [hw.out]
                rcases hb : onWay (par l) j P with _ | _
                · rfl
                · have := onWay_le _ _ _ hb; omega
              have HF := Lib.hid (ord_not (p := par l) (n := n) (by omega) hlk (by rw [HP.out]; exact hno))
              have t1 : ((j : Int) != P) = true := by rw [bne_iff_ne]; omega
              clear hno hw
              go_wp2
              go_ret
              exact ⟨by rw [HF.out]; rfl, rfl⟩
      · obtain rfl : k = n := by omega
        go_wp2
        go_ret
        exact ⟨by rw [ho.out]; rfl, rfl⟩
  · have hr1 : (par l 0 != -1) = true := by rw [bne_iff_ne]; exact hr
    have HF := Lib.hid (ord_root (n := n) hr)
    obtain ⟨P0, hP0⟩ : ∃ P, par l 0 = P := ⟨_, rfl⟩
    rw [hP0] at z0 hr1
    clear hr hP0
    go_enter Tryd.func44, Tryd.ntmps44
    go_wp2
    go_ret
    exact ⟨by rw [HF.out]; rfl, rfl⟩
end Go.Proofs.YtdogcnmepaemjaaDoor
