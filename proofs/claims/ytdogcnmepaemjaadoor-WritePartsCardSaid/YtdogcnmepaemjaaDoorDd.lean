/- Is there a node of a number; how deep a node lies; does one lie too deep: dom's has, Depth, tooDeep. No conditions but that the list is not endless. -/
import Derived.Test.YtdogcnmepaemjaaDoorDb
namespace Go.Proofs.YtdogcnmepaemjaaDoor
set_option linter.unusedVariables false
open Go.RowKit Go.Proofs.Fm Go.Proofs.Fb Go.Proofs.Fd Go.Proofs.Fc

theorem has_yes (A : Option Addr) (n c : Nat) (i : Int) (h0 : 0 ≤ i) (h1 : i < (n : Int)) (w : World) :
    Calls Tryd.prog 41 #[.agg #[.slice A n c], .int .i64 i] w fun e w' => e = .returned (.bool true) ∧ Below w.heap.size w w' := by
  go_enter Tryd.func41, Tryd.ntmps41
  go_wp2
  go_ret
  exact ⟨rfl, (Below.refl _ _).alloc (Nat.le_refl _) _⟩
theorem has_no (A : Option Addr) (n c : Nat) (i : Int) (h : ¬ (0 ≤ i ∧ i < (n : Int))) (w : World) :
    Calls Tryd.prog 41 #[.agg #[.slice A n c], .int .i64 i] w fun e w' => e = .returned (.bool false) ∧ Below w.heap.size w w' := by
  by_cases h0 : 0 ≤ i
  · have h1 : ¬ (i < (n : Int)) := fun x => h ⟨h0, x⟩
    go_enter Tryd.func41, Tryd.ntmps41
    go_wp2
    go_ret
    exact ⟨rfl, (Below.refl _ _).alloc (Nat.le_refl _) _⟩
  · go_enter Tryd.func41, Tryd.ntmps41
    go_wp2
    go_ret
    exact ⟨rfl, (Below.refl _ _).alloc (Nat.le_refl _) _⟩
/-- how deep: of no node 0 -/
def depthUp (p : Nat → Int) (v b : Int) : Int := if 0 ≤ v ∧ v < b then ((anc p v.toNat).length : Int) else 0
theorem depthUp_step (p : Nat → Int) (a : Nat) (b : Int) (h : (a : Int) < b) : depthUp p a b = 1 + depthUp p (p a) a := by
  unfold depthUp
  rw [if_pos ⟨by omega, h⟩, Int.toNat_natCast]
  by_cases c : 0 ≤ p a ∧ p a < (a : Int)
  · rw [if_pos c, anc_step p a c.1 c.2, List.length_cons]; omega
  · rw [if_neg c, anc_stop p a c]; rfl
theorem depthUp_no (p : Nat → Int) (v b : Int) (h : ¬ (0 ≤ v ∧ v < b)) : depthUp p v b = 0 := if_neg h
set_option maxHeartbeats 1000000 in
theorem depth_any (A : Option Addr) (n c : Nat) (l : List Nd) (hl : l.length = n) (hn : n ≤ 4398046511104) (i : Int) (w : World) (ha : NRow w A l) :
    Calls Tryd.prog 47 #[.agg #[.slice A n c], .int .i64 i] w fun e w' => e = .returned (.int .i64 (depthUp (par l) i n)) ∧ Below w.heap.size w w' := by
  have hb0 : Below w.heap.size w (w.alloc (.cells #[.slice A n c] 24)) := (Below.refl _ _).alloc (Nat.le_refl _) _
  have HR := Lib.hid (ha.below hb0 (Nat.le_refl _))
  have HB := Lib.hid hb0
  clear ha hb0
  go_enter Tryd.func47, Tryd.ntmps47
  go_wp2
  go_loopg [1, 5, 6] n (fun gk v d b wr => ∃ (y z : Int) (k : Nat), v = .int .i64 y ∧ d = .int .i64 z ∧ b = .int .i64 (k : Int) ∧ k ≤ gk ∧ k ≤ n ∧ 0 ≤ z ∧ z + k ≤ n ∧ Hid (z + depthUp (par l) y k = depthUp (par l) i n) ∧ wr = w.alloc (.cells #[.slice A n c] 24))
  case atStart => exact ⟨i, 0, n, rfl, rfl, rfl, Nat.le_refl _, Nat.le_refl _, by omega, by omega, Lib.hid (by omega), rfl⟩
  case round =>
    obtain ⟨y, z, k, rfl, rfl, rfl, hkg, hkn, hz0, hzk, hr, rfl⟩ := hrel
    by_cases hc : 0 ≤ y ∧ y < (k : Int)
    · obtain ⟨a, rfl⟩ := Int.eq_ofNat_of_zero_le hc.1
      obtain ⟨-, h1⟩ := hc
      have hal : a < l.length := by omega
      obtain ⟨b, off, rfl, hat⟩ := HR.out.at_ hal
      have hp := par_get hal
      have hs := depthUp_step (par l) a k h1
      have x4 := hat.c4
      have hlt : b < w.heap.size + 1 := by have := hat.lt; simpa using this
      obtain ⟨P, hP⟩ : ∃ P, par l a = P := ⟨_, rfl⟩
      rw [hP] at hs
      rw [← hp, hP] at x4
      have HS := Lib.hid hs
      have h3 : 0 ≤ (a : Int) := by omega
      have h4 : (a : Int) < (n : Int) := by omega
      clear hat hp hs hP
      go_wp2
      go_roundg a
      case measure => omega
      case rel => exact ⟨_, _, a, rfl, rfl, rfl, Nat.le_refl _, by omega, by omega, by omega, Lib.hid (by have := hr.out; have := HS.out; omega), rfl⟩
    · have hno := depthUp_no (par l) y k hc
      have HF : Hid (z = depthUp (par l) i n) := Lib.hid (by have := hr.out; omega)
      clear hno hr
      by_cases h0 : 0 ≤ y
      · have h1 : ¬ (y < (k : Int)) := fun x => hc ⟨h0, x⟩
        go_wp2
        go_ret
        exact ⟨by rw [← HF.out]; rfl, HB.out⟩
      · go_wp2
        go_ret
        exact ⟨by rw [← HF.out]; rfl, HB.out⟩
theorem deepB_yes {l : List Nd} {k : Nat} (hk : k < l.length) (h : 256 < depthUp (par l) k l.length) : deepB l = true := by
  unfold depthUp at h
  rw [if_pos ⟨by omega, by omega⟩, Int.toNat_natCast] at h
  exact List.any_eq_true.2 ⟨k, List.mem_range.2 hk, decide_eq_true (by omega)⟩
theorem deepB_no {l : List Nd} (h : ∀ k, k < l.length → ¬ (256 < depthUp (par l) k l.length)) : deepB l = false := by
  unfold deepB
  rw [List.any_eq_false]
  intro k hk
  have hk := List.mem_range.1 hk
  have := h k hk
  unfold depthUp at this
  rw [if_pos ⟨by omega, by omega⟩, Int.toNat_natCast] at this
  simp only [decide_eq_true_eq]
  omega
set_option maxHeartbeats 1000000 in
theorem deep_any (A : Option Addr) (n c : Nat) (l : List Nd) (hl : l.length = n) (hn : n ≤ 4398046511104) (w : World) (ha : NRow w A l) :
    Calls Tryd.prog 35 #[.agg #[.slice A n c]] w fun e w' => e = .returned (.bool (deepB l)) ∧ Below w.heap.size w w' := by
  have hb0 : Below w.heap.size w (w.alloc (.cells #[.slice A n c] 24)) := (Below.refl _ _).alloc (Nat.le_refl _) _
  have HA := Lib.hid ha
  have HBK := Lib.hid (Bk.new w 24 #[.slice A n c])
  have HB0 := Lib.hid hb0
  clear ha hb0
  go_enter Tryd.func35, Tryd.ntmps35
  go_upto_region 2 with fail
  obtain ⟨W0, hW0⟩ : ∃ W, w.alloc (.cells #[.slice A n c] 24) = W := ⟨_, rfl⟩
  rw [hW0] at HBK HB0 ⊢
  clear hW0
  go_loopg [7] n (fun gk i wr => ∃ k : Nat, k + gk = n ∧ i = .int .i64 (k : Int) ∧ Below W0.heap.size W0 wr ∧ Hid (∀ j, j < k → ¬ (256 < depthUp (par l) j n)))
  case atStart => exact ⟨0, by omega, rfl, Below.refl _ _, Lib.hid (fun j hj => by omega)⟩
  case round =>
    obtain ⟨k, hk, rfl, hb, hr⟩ := hrel
    have hz := hb.size
    have hz0 := HB0.out.size
    have HB := Lib.hid (HB0.out.trans (hb.mono hz0))
    have HBW := Lib.hid hb
    by_cases hlk : k < n
    · have hcell : wr.cell? ⟨w.heap.size, 0, none⟩ = some (.slice A n c) := ((HBK.out.below hb HBK.out.lt).cell 0)
      have i1 : (k : Int) < (n : Int) := by omega
      have HD := Lib.hid (depth_any A n c l hl hn k wr (HA.out.below HB.out (Nat.le_refl _)))
      obtain ⟨D, hD⟩ : ∃ D, depthUp (par l) k n = D := ⟨_, rfl⟩
      rw [hD] at HD
      have HDD := Lib.hid hD
      clear hb hD
      by_cases hd : 256 < D
      · go_wp2_with (go_at_call 47; refine (HD.out).mono ?_; rintro e w1 ⟨rfl, hb1⟩; have HB1 := Lib.hid (HB.out.trans (hb1.mono (Nat.le_trans hz0 hz))); clear hb1)
        go_ret
        exact ⟨by rw [deepB_yes (l := l) (k := k) (by omega) (by rw [hl, HDD.out]; exact hd)]; rfl, HB1.out⟩
      · go_wp2_with (go_at_call 47; refine (HD.out).mono ?_; rintro e w1 ⟨rfl, hb1⟩; have HB1 := Lib.hid (HBW.out.trans (hb1.mono hz)); clear hb1)
        go_roundg (gk - 1)
        case measure => omega
        case rel =>
          refine ⟨k + 1, by omega, by go_num, HB1.out, Lib.hid (fun j hj => ?_)⟩
          by_cases e : j = k
          · subst e; rw [HDD.out]; exact hd
          · exact hr.out j (by omega)
    · obtain rfl : k = n := by omega
      go_wp2
      go_ret
      exact ⟨by rw [deepB_no (l := l) (fun j hj => by rw [hl]; have := hr.out j (by omega); omega)]; rfl, HB.out⟩
end Go.Proofs.YtdogcnmepaemjaaDoor
