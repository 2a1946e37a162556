import Derived.Test.YtkidhjfoapdgjaaNv
import Derived.Test.YtkidhjfoapdgjaaShp
import Derived.Deep.DeepCutAuto
namespace Go.Proofs.Ytkidhjfoapdgjaa
set_option linter.unusedVariables false
open Go.RowKit Go.Proofs.Fx Go.Proofs.Fm Go.Proofs.Fo

set_option maxRecDepth 100000 in
set_option maxHeartbeats 4000000 in
theorem whole_mid_small (t : Int) (A : Option Addr) (n cap : Nat) (xs : List Int) (hn : xs.length = n) (w : World) (ha : Row w .i64 A xs) (hx : n ≤ 300) (ht : 0 ≤ t) (ht' : t ≤ 70368744177664) :
    Calls Try.prog 7 #[.int .i64 t, .slice A n cap] w fun e w' => e = .returned (.bool true) ∧ Below w.heap.size w w' := by
  have HN := Lib.hid hn
  have hx' : n ≤ 17592186044416 := by omega
  have h1 : ((n : Int) != (n : Int)) = false := by simp
  clear hn
  go_enter Try.func7, Try.ntmps7
  go_wp2_with (first
    | (go_at_call 13; refine (share_n _ _ _ _ xs HN.out _ ha hx').mono ?_; rintro e w1 ⟨g, rfl, hg, hI, hb1⟩))
  have ha1 := ha.below hb1 (Nat.le_refl _)
  clear ha
  go_loopw [6, 7, 8] (fun s b i wr => ∃ (k q : Nat) (v : Bool), k ≤ n ∧ i = .int .i64 k ∧ s = .int .i64 (sumL ((share t xs).take k)) ∧ b = .bool v ∧ Hid (v = some_ xs k) ∧ wr = w1.drewN q) (fun _ _ i _ => n - (intOf i).toNat)
  case atStart => exact ⟨0, 0, false, by omega, rfl, rfl, rfl, rfl, rfl⟩
  case round =>
    obtain ⟨k, q, v, hk, rfl, rfl, rfl, hv, rfl⟩ := hrel
    by_cases hlt : k < n
    · have hkx : k < xs.length := by rw [HN.out]; exact hlt
      obtain ⟨b, o, rfl, hc⟩ := ha1.at_ hkx
      have g1 := hc k hkx
      have g2 := hI.cell (i := k) (by rw [share_length]; exact hkx)
      have hnn := share_nonneg t xs hkx
      have hz := fun h => share_none (t := t) hkx (wt_zero h)
      have HSS := Lib.hid (sumL_step (share t xs) k (by rw [share_length]; exact hkx))
      have HST := Lib.hid (some_step xs k hkx)
      have hp1 := share_part t xs k
      have hp2 := share_part t xs (k + 1)
      have hg3 : 0 < k → w1.cell? ⟨b, o + (k - 1), none⟩ = some (.int .i64 (xs.getD (k - 1) 0)) := fun _ => hc (k - 1) (by omega)
      have hg4 : 0 < k → w1.cell? ⟨g, k - 1, none⟩ = some (.int .i64 ((share t xs).getD (k - 1) 0)) := fun _ => hI.cell (by rw [share_length]; omega)
      have hnx : 0 < k → xs.getD k 0 ≤ 65536 → xs.getD (k - 1) 0 < xs.getD k 0 → (share t xs).getD (k - 1) 0 ≤ (share t xs).getD k 0 := fun h0 h1 h2 => by
        have := share_next (t := t) (xs := xs) (i := k - 1) (by omega) (by rw [Nat.sub_add_cancel (by omega)]; exact h1) (by rw [Nat.sub_add_cancel (by omega)]; exact h2)
        rwa [Nat.sub_add_cancel (by omega)] at this
      clear hc hI
      generalize xs.getD k 0 = x at *
      generalize xs.getD (k - 1) 0 = y at *
      generalize (share t xs).getD k 0 = u at *
      generalize (share t xs).getD (k - 1) 0 = z at *
      have i1 : (k : Int) < (n : Int) := by omega
      go_upto_region 15 with fail
      go_cut [7] (fun s7 wx => ∃ v' : Bool, s7 = .bool v' ∧ Hid (v' = some_ xs (k + 1)) ∧ wx = w1.drewN q)
      case first =>
        have hv' : ∀ v' : Bool, (v || decide (0 < x)) = v' → Hid (v' = some_ xs (k + 1)) := fun v' h => by
          show _ = _
          rw [HST.out, ← h, hv.out]
        cases v
        · by_cases hx0 : 0 < x
          · go_wp2_with fail
            go_meet
            exact ⟨true, rfl, hv' true (by simp [hx0]), rfl⟩
          · go_wp2_with fail
            go_meet
            exact ⟨false, rfl, hv' false (by simp [hx0]), rfl⟩
        · go_wp2_with fail
          go_meet
          exact ⟨true, rfl, hv' true (by simp), rfl⟩
      case rest =>
        obtain ⟨v', rfl, hv', rfl⟩ := hcut
        clear hv HST
        have i5 : ∀ (_ : 0 < k), 0 ≤ (k : Int) - 1 ∧ (k : Int) - 1 < (n : Int) ∧ ((k : Int) - 1).toNat = k - 1 ∧ IntKind.i64.wrap ((k : Int) - 1) = (k : Int) - 1 := fun h => ⟨by omega, by omega, by omega, IntWalk.i64_in _ (by omega)⟩
        go_upto_region 16 with fail
        go_cut [93] (fun s wx => s = .bool false ∧ ∃ q' : Nat, wx = w1.drewN q')
        case first =>
          rcases Nat.lt_or_ge 0 k with h0 | h0
          rotate_left
          · have hz1 : x ≤ 0 → u = 0 := hz
            have d0 : decide (0 < k) = false := by simpa using h0
            have d0' : decide ((0 : Int) < (k : Int)) = false := by simpa using h0
            clear h0
            clear hz hnx hg3 hg4 i5 hv'
            by_cases e1 : x ≤ 0
            · have hu : u = 0 := hz1 e1
              subst hu
              clear hz1
              go_quiet (fail)
              go_wp2_with fail
              go_meet
              exact ⟨rfl, q + nq, by first | rfl | exact World.drewN_drewN _ _ _⟩
            · have d4 : decide (u < 0) = false := by simpa using hnn
              have d1 : decide (x ≤ 0) = false := by simpa using e1
              clear hz1
              go_quiet (fail)
              go_wp2_with fail
              go_meet
              exact ⟨rfl, q + nq, by first | rfl | exact World.drewN_drewN _ _ _⟩
          · have g3 := hg3 h0
            have g4 := hg4 h0
            obtain ⟨j1, j2, j3, j4⟩ := i5 h0
            have j5 : 1 ≤ (k : Int) := by omega
            have hz1 : x ≤ 0 → u = 0 := hz
            have hnx1 : x ≤ 65536 → y < x → z ≤ u := hnx h0
            clear hz hnx hg3 hg4 i5 hv'
            rcases (show (x ≤ 0 ∧ y < x) ∨ (x ≤ 0 ∧ x ≤ y) ∨ (0 < x ∧ x ≤ 65536 ∧ y < x) ∨ (0 < x ∧ x ≤ 65536 ∧ x ≤ y) ∨ (0 < x ∧ 65536 < x) from by omega) with ⟨e1, e2⟩ | ⟨e1, e2⟩ | ⟨e1, e3, e2⟩ | ⟨e1, e3, e2⟩ | ⟨e1, e3⟩
            · have hu : u = 0 := hz1 e1
              subst hu
              have hzu := hnx1 (by omega) e2
              have d2 : decide ((0 : Int) < z) = false := by simpa using hzu
              have d3 : x ≤ 65536 := by omega
              clear hz1 hnx1
              go_quiet (fail)
              go_wp2_with fail
              go_meet
              exact ⟨rfl, q + nq, by first | rfl | exact World.drewN_drewN _ _ _⟩
            · have hu : u = 0 := hz1 e1
              subst hu
              have d2 : decide (y < x) = false := by simpa using e2
              have d3 : x ≤ 65536 := by omega
              clear hz1 hnx1
              go_quiet (fail)
              go_wp2_with fail
              go_meet
              exact ⟨rfl, q + nq, by first | rfl | exact World.drewN_drewN _ _ _⟩
            · have hzu := hnx1 e3 e2
              have d4 : decide (u < 0) = false := by simpa using hnn
              have d1 : decide (x ≤ 0) = false := by simpa using e1
              have d2 : decide (u < z) = false := by simpa using hzu
              clear hz1 hnx1
              go_quiet (fail)
              go_wp2_with fail
              go_meet
              exact ⟨rfl, q + nq, by first | rfl | exact World.drewN_drewN _ _ _⟩
            · have d4 : decide (u < 0) = false := by simpa using hnn
              have d1 : decide (x ≤ 0) = false := by simpa using e1
              have d2 : decide (y < x) = false := by simpa using e2
              clear hz1 hnx1
              go_quiet (fail)
              go_wp2_with fail
              go_meet
              exact ⟨rfl, q + nq, by first | rfl | exact World.drewN_drewN _ _ _⟩
            · have d4 : decide (u < 0) = false := by simpa using hnn
              have d1 : decide (x ≤ 0) = false := by simpa using e1
              have d2 : decide (x ≤ 65536) = false := by simpa using e3
              clear hz1 hnx1
              go_quiet (fail)
              go_wp2_with fail
              go_meet
              exact ⟨rfl, q + nq, by first | rfl | exact World.drewN_drewN _ _ _⟩
        case rest =>
          obtain ⟨rfl, q', rfl⟩ := hcut
          clear hg3 hg4 hnx hz i5
          have hub : u ≤ 70368744177664 := by have := HSS.out; omega
          go_wp2
          go_roundw
          case rel => exact ⟨k + 1, q', v', by omega, by go_num, by rw [HSS.out], rfl, hv', rfl⟩
          case measure => simp [intOf]; omega
    · have hke : k = n := by omega
      subst hke
      have hS : sumL ((share t xs).take k) = if wsum xs = 0 then 0 else tot t := by
        rw [List.take_of_length_le (by rw [share_length, HN.out]; omega)]
        by_cases h : wsum xs = 0
        · rw [if_pos h, share_sum0 h]
        · rw [if_neg h, share_sum h]
      have hvv : v = !decide (wsum xs = 0) := by
        have := hv.out
        rwa [← HN.out, some_all] at this
      have htt : tot t = t := clamp_in ht ht'
      rw [hS]
      by_cases h : wsum xs = 0
      · rw [if_pos h]
        have hvf : v = false := by rw [hvv, decide_eq_true h]; rfl
        subst hvf
        clear hS hvv hv htt h
        by_cases h0 : t = 0
        · have e1 : ((0 : Int) == t) = true := by simpa using h0.symm
          clear h0
          go_wp2_with (go_at_call 16; refine (known_any _).mono ?_; rintro e w6 ⟨rfl, hb6⟩)
          go_ret
          exact ⟨rfl, (below_drewN hb1 _).trans (hb6.mono hb1.size)⟩
        · have e1 : ((0 : Int) == t) = false := by simpa using fun h => h0 h.symm
          clear h0
          go_wp2_with (go_at_call 16; refine (known_any _).mono ?_; rintro e w6 ⟨rfl, hb6⟩)
          go_ret
          exact ⟨rfl, (below_drewN hb1 _).trans (hb6.mono hb1.size)⟩
      · rw [if_neg h, htt]
        clear hS hvv hv htt h
        go_wp2_with (go_at_call 16; refine (known_any _).mono ?_; rintro e w6 ⟨rfl, hb6⟩)
        go_ret
        exact ⟨rfl, (below_drewN hb1 _).trans (hb6.mono hb1.size)⟩
end Go.Proofs.Ytkidhjfoapdgjaa
