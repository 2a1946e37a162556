/- The document's own answer on attributes and on a node by itself: casementref5's attrs and plain. No conditions but that lists are not endless. -/
import Derived.Test.YtofllmofdenadaaDe
namespace Go.Proofs.Ytofllmofdenadaa
set_option linter.unusedVariables false
open Go.RowKit Go.Proofs.Fm Go.Proofs.Fb Go.Proofs.Fd Go.Proofs.Fc

theorem attrsB_all {al : List Att} (h : ∀ i, i < al.length → attrOk al i = true) : attrsB al = decide (al.length ≤ 64) := by
  rw [attrsB_eq]
  have : (List.range al.length).all (attrOk al) = true := by
    rw [List.all_eq_true]
    exact fun i hi => h i (List.mem_range.1 hi)
  rw [this, Bool.and_true]
set_option maxHeartbeats 2000000 in
theorem refAttrs_any (A : Option Addr) (n c : Nat) (al : List Att) (hn : al.length = n) (hx : n ≤ 4398046511104) (w : World) (ha : ARow w A al) :
    Calls Try.prog 58 #[.slice A n c] w fun e w' => e = .returned (.bool (attrsB al)) ∧ ∃ q, w.drewN q = w' := by
  have HA := Lib.hid ha
  clear ha
  go_enter Try.func58, Try.ntmps58
  go_wp2
  go_loopg [3] n (fun gk i wr => ∃ k q : Nat, k + gk = n ∧ i = .int .i64 k ∧ Hid (∀ i, i < k → attrOk al i = true) ∧ wr = w.drewN q)
  case atStart => exact ⟨0, 0, by omega, rfl, Lib.hid (fun i hi => by omega), rfl⟩
  case round =>
    obtain ⟨k, q, hk, rfl, ho, rfl⟩ := hrel
    by_cases hlt : k < n
    · have hka : k < al.length := by omega
      obtain ⟨b, off, rfl, hc⟩ := HA.out (by intro e; subst e; simp at hka)
      obtain ⟨g1, -⟩ := hc k hka
      have HC := Lib.hid hc
      obtain ⟨nm, hnm⟩ : ∃ x, (al[k]'hka).1 = x := ⟨_, rfl⟩
      rw [hnm] at g1
      have HNM := Lib.hid hnm
      have i1 : (k : Int) < (n : Int) := by omega
      have hbad : attrOk al k = false → attrsB al = false := attrsB_bad hka
      have hok : attrOk al k = (!(nm == []) && !((al.take k).any fun b => b.1 == nm)) := by unfold attrOk; rw [getD_of hka, HNM.out]
      have HBAD := Lib.hid hbad
      have HOK := Lib.hid hok
      clear hc hnm hbad hok
      dsimp only [str] at g1
      rcases nm with _ | ⟨n0, nt⟩
      · have HF : Hid (attrsB al = false) := Lib.hid (HBAD.out (by rw [HOK.out]; rfl))
        go_wp2
        go_ret
        exact ⟨by rw [HF.out]; rfl, q, rfl⟩
      · obtain ⟨gA, rfl⟩ : ∃ g, g = gk := ⟨gk, rfl⟩
        go_upto_region 7 with fail
        go_loopg [4] k (fun gi j wz => ∃ m r : Nat, m + gi = k ∧ j = .int .i64 m ∧ Hid (((al.take m).any fun b => b.1 == (n0 :: nt)) = false) ∧ wz = w.drewN r)
        case atStart => exact ⟨0, q, by omega, rfl, Lib.hid rfl, rfl⟩
        case round =>
          obtain ⟨m, r, hm, rfl, hno, rfl⟩ := hrel
          by_cases hmk : m < k
          · have hma : m < al.length := by omega
            obtain ⟨g3, -⟩ := HC.out m hma
            obtain ⟨mn, hmn⟩ : ∃ x, (al[m]'hma).1 = x := ⟨_, rfl⟩
            rw [hmn] at g3
            have HMN := Lib.hid hmn
            have i2 : (m : Int) < (k : Int) := by omega
            have i3 : (m : Int) < (n : Int) := by omega
            clear hmn
            dsimp only [str] at g3
            rcases hq : (mn == (n0 :: nt)) with _ | _
            · have HQ := Lib.hid hq
              have hq' : ¬ mn = (n0 :: nt) := by intro e; rw [e] at hq; simp at hq
              go_wp2
              go_quiet (fail)
              go_wp2
              go_roundg (gk - 1)
              case measure => omega
              case rel => exact ⟨m + 1, r + nq, by omega, by go_num, Lib.hid (any_take_succ hma hno.out (by rw [HMN.out]; exact HQ.out)), rfl⟩
            · have hq' : mn = (n0 :: nt) := beq_iff_eq.1 hq
              subst hq'
              have HF : Hid (attrsB al = false) := Lib.hid (HBAD.out (by
                rw [HOK.out]
                have : ((al.take k).any fun b => b.1 == (n0 :: nt)) = true := by
                  rw [List.any_eq_true]
                  exact ⟨al[m]'hma, by rw [List.mem_take_iff_getElem]; exact ⟨m, by omega, rfl⟩, by rw [HMN.out]; simp⟩
                rw [this, Bool.not_true, Bool.and_false]))
              clear hq
              go_wp2
              go_quiet (fail)
              go_wp2
              go_ret
              exact ⟨by rw [HF.out]; rfl, r + nq, (World.drewN_drewN _ _ _).symm⟩
          · obtain rfl : m = k := by omega
            have HK : Hid (attrOk al m = true) := Lib.hid (by rw [HOK.out, hno.out]; rfl)
            go_wp2
            go_roundg (gA - 1)
            case measure => omega
            case rel =>
              refine ⟨m + 1, r, by omega, by go_num, Lib.hid (fun i hi => ?_), rfl⟩
              by_cases e : i = m
              · subst e; exact HK.out
              · exact ho.out i (by omega)
    · obtain rfl : k = n := by omega
      have HF : Hid (attrsB al = decide (k ≤ 64)) := Lib.hid (by rw [attrsB_all (fun i hi => ho.out i (by omega)), hn])
      rcases hd : decide (k ≤ 64) with _ | _
      · have i5 : ¬ ((k : Int) ≤ 64) := by have := of_decide_eq_false hd; omega
        have HD := Lib.hid hd
        clear hd
        go_wp2
        go_ret
        exact ⟨by rw [HF.out, HD.out]; rfl, q, rfl⟩
      · have i5 : (k : Int) ≤ 64 := by have := of_decide_eq_true hd; omega
        have HD := Lib.hid hd
        clear hd
        go_wp2
        go_ret
        exact ⟨by rw [HF.out, HD.out]; rfl, q, rfl⟩
/-- is a node by itself right, as the document's own answer asks it -/
def plainB (x : Nd) : Bool :=
  if x.kind = 1 then !(x.name == []) && (x.text == []) && attrsB x.attrs
  else decide (x.kind = 2) && (x.name == []) && !(x.text == []) && decide (x.attrs.length = 0) && decide (x.first = -1) && decide (x.last = -1)
set_option maxHeartbeats 4000000 in
theorem refPlain_any (x : Nd) (v : Value) (w : World) (ha : AVal w v x.attrs) :
    Calls Try.prog 47 #[.agg (ndCells x v).toArray] w fun e w' => e = .returned (.bool (plainB x)) ∧ Below w.heap.size w w' := by
  obtain ⟨A, c, rfl, har, hac, hlim, hnil⟩ := ha.ex
  have hb0 : Below w.heap.size w (w.alloc (.cells (ndCells x (.slice A x.attrs.length c)).toArray 68)) := (Below.refl _ _).alloc (Nat.le_refl _) _
  have HA := Lib.hid (refAttrs_any A x.attrs.length c x.attrs rfl hlim _ (har.below hb0 (Nat.le_refl _)))
  have HB0 := Lib.hid hb0
  clear har hb0 ha
  obtain ⟨R, hR⟩ : ∃ R, plainB x = R := ⟨_, rfl⟩
  rw [hR]
  obtain ⟨K, NM, TX, al, PA, FI, LA, PR, NX⟩ := x
  dsimp only at HA HB0 hR hac hlim ⊢
  have HR := Lib.hid hR
  obtain ⟨AB, hAB⟩ : ∃ b, attrsB al = b := ⟨_, rfl⟩
  rw [hAB] at HA
  have HAB := Lib.hid hAB
  clear hR hAB
  dsimp only [str, ndCells] at HA HB0 ⊢
  by_cases k1 : K = 1
  · subst k1
    rcases NM with _ | ⟨n0, nt⟩
    · obtain rfl : false = R := by rw [← HR.out]; simp [plainB]
      go_enter Try.func47, Try.ntmps47
      go_wp2_with fail
      go_ret
      exact ⟨rfl, HB0.out⟩
    · rcases TX with _ | ⟨t0, tt⟩
      · obtain rfl : AB = R := by rw [← HR.out, ← HAB.out]; simp [plainB]
        go_enter Try.func47, Try.ntmps47
        go_wp2_with (go_at_call 58; refine (HA.out).mono ?_; rintro e w1 ⟨rfl, q, rfl⟩)
        go_ret
        exact ⟨rfl, below_drewN HB0.out q⟩
      · obtain rfl : false = R := by rw [← HR.out]; simp [plainB]
        go_enter Try.func47, Try.ntmps47
        go_wp2_with fail
        go_ret
        exact ⟨rfl, HB0.out⟩
  · have k1' : (K == 1) = false := beq_eq_false_iff_ne.2 k1
    by_cases k2 : K = 2
    · subst k2
      rcases NM with _ | ⟨n0, nt⟩
      · rcases TX with _ | ⟨t0, tt⟩
        · obtain rfl : false = R := by rw [← HR.out]; simp [plainB]
          go_enter Try.func47, Try.ntmps47
          go_wp2_with fail
          go_ret
          exact ⟨rfl, HB0.out⟩
        · by_cases h0 : al.length = 0
          · have l0 : ((al.length : Int) == 0) = true := by rw [h0]; rfl
            have h0' : al = [] := List.eq_nil_of_length_eq_zero h0
            have HH0 := Lib.hid h0'
            clear h0 h0'
            by_cases f0 : FI = -1
            · subst f0
              by_cases f1 : LA = -1
              · subst f1
                obtain rfl : true = R := by rw [← HR.out]; simp [plainB, HH0.out]
                go_enter Try.func47, Try.ntmps47
                go_wp2_with fail
                go_ret
                exact ⟨rfl, HB0.out⟩
              · have f1' : (LA == -1) = false := beq_eq_false_iff_ne.2 f1
                obtain rfl : false = R := by rw [← HR.out]; simp [plainB, f1]
                go_enter Try.func47, Try.ntmps47
                go_wp2_with fail
                go_ret
                exact ⟨rfl, HB0.out⟩
            · have f0' : (FI == -1) = false := beq_eq_false_iff_ne.2 f0
              obtain rfl : false = R := by rw [← HR.out]; simp [plainB, f0]
              go_enter Try.func47, Try.ntmps47
              go_wp2_with fail
              go_ret
              exact ⟨rfl, HB0.out⟩
          · have l0 : ((al.length : Int) == 0) = false := beq_eq_false_iff_ne.2 (by omega)
            have h0' : ¬ al = [] := fun e => h0 (by rw [e]; rfl)
            obtain rfl : false = R := by rw [← HR.out]; simp [plainB, h0']
            clear h0'
            go_enter Try.func47, Try.ntmps47
            go_wp2_with fail
            go_ret
            exact ⟨rfl, HB0.out⟩
      · obtain rfl : false = R := by rw [← HR.out]; simp [plainB]
        go_enter Try.func47, Try.ntmps47
        go_wp2_with fail
        go_ret
        exact ⟨rfl, HB0.out⟩
    · have k2' : (K == 2) = false := beq_eq_false_iff_ne.2 k2
      obtain rfl : false = R := by rw [← HR.out, plainB]; simp [k1, k2]
      go_enter Try.func47, Try.ntmps47
      go_wp2_with fail
      go_ret
      exact ⟨rfl, HB0.out⟩
end Go.Proofs.Ytofllmofdenadaa
