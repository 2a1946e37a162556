/- What a canonical tree asks of an attribute's name. No conditions. -/
import Derived.Test.YtdogcnmepaemjaaDoorRf
import Derived.Test.YtdogcnmepaemjaaDoorRe
namespace Go.Proofs.YtdogcnmepaemjaaDoor
set_option linter.unusedVariables false
open Go.RowKit Go.Proofs.Fm Go.Proofs.Fb Go.Proofs.Fk Go.Proofs.Fu Go.Proofs.Fr

/-- what is left to be asked of a name from a place on -/
def nameAt (f : Bool) : List Int → Bool
  | [] => true
  | r :: t => (smallI r || (!f && behindI r)) && nameAt false t
theorem nameAt_more : ∀ l, nameAt false l = l.all fun r => smallI r || behindI r
  | [] => rfl
  | r :: t => by rw [nameAt, nameAt_more t]; simp
theorem nameAt_eq (l : List Int) : nameAt true l = nameL l := by
  cases l with
  | nil => rfl
  | cons r t => rw [nameAt, nameAt_more]; simp [nameL]
set_option maxHeartbeats 4000000 in
set_option maxRecDepth 100000 in
theorem plainName_any (s : ByteArray) (w : World) :
    Calls Tryd.prog 40 #[.string s] w fun e w' => e = .returned (.bool (nameL (runesI s.data.toList))) ∧ Below w.heap.size w w' := by
  have HI := Lib.hid (fun pos => (Below.refl w.heap.size w).alloc (Nat.le_refl _) (.stringIter s pos))
  rw [← nameAt_eq]
  obtain ⟨NM, hNM⟩ : ∃ NM, nameAt true (runesI s.data.toList) = NM := ⟨_, rfl⟩
  rw [hNM]
  have HNM := Lib.hid hNM
  clear hNM
  go_enter Tryd.func40, Tryd.ntmps40
  go_upto_region 2 with fail
  go_loopg [] s.size (fun gk wr => ∃ pos : Nat, s.size ≤ pos + gk ∧ Hid (nameAt true (runesI s.data.toList) = nameAt (pos == 0) (runesI (s.data.toList.drop pos))) ∧ wr = w.iter s pos)
  case atStart => exact ⟨0, by omega, Lib.hid rfl, rfl⟩
  case round =>
    obtain ⟨pos, hk, hst, rfl⟩ := hrel
    by_cases hp : pos < s.size
    · have hnx : ∀ ty, (Instr.next (.pointer (some ⟨w.heap.size, 0, none⟩)) true ty).run Tryd.prog (w.iter s pos) = _ := fun ty => run_next_any w s pos ty hp
      have hr := runesI_at s pos hp
      obtain ⟨h1, h2, h3, h4⟩ := pos_step s pos hp
      obtain ⟨R, hR⟩ : ∃ R, (Utf8.decode s pos).1 = R := ⟨_, rfl⟩
      obtain ⟨D, hD⟩ : ∃ D, (Utf8.decode s pos).2 = D := ⟨_, rfl⟩
      rw [hR, hD] at hnx hr
      rw [hD] at h3 h4
      have hst2 := hst.out
      rw [hr, nameAt] at hst2
      have HST := Lib.hid hst2
      have hpd : (pos + D == 0) = false := by rw [beq_eq_false_iff_ne]; omega
      have HNO : Hid ((smallI (R : Int) || (!(pos == 0) && behindI (R : Int))) = false → nameAt true (runesI s.data.toList) = false) := Lib.hid (fun h => by rw [HST.out, h]; rfl)
      have HYES : Hid ((smallI (R : Int) || (!(pos == 0) && behindI (R : Int))) = true → nameAt true (runesI s.data.toList) = nameAt (pos + D == 0) (runesI (s.data.toList.drop (pos + D)))) := Lib.hid (fun h => by rw [HST.out, h, hpd]; rfl)
      clear hR hD h1 h2 hr hst hst2 HST hpd
      have close : ∀ (SM BH P0 : Bool), smallI (R : Int) = SM → behindI (R : Int) = BH → (pos == 0) = P0 → True := fun _ _ _ _ _ _ => trivial
      have S0 : smallI (R : Int) = (decide (97 ≤ (R : Int)) && decide ((R : Int) ≤ 122)) := rfl
      have B0 : behindI (R : Int) = (((R : Int) == 45) || (decide (48 ≤ (R : Int)) && decide ((R : Int) ≤ 57))) := rfl
      rw [S0, B0] at HNO HYES
      clear close S0 B0
      rw [HNM.out] at HNO HYES
      rcases b1 : decide (97 ≤ (R : Int)) with _ | _
      all_goals rcases b2 : decide ((R : Int) ≤ 122) with _ | _
      all_goals rcases b3 : ((R : Int) == 45) with _ | _
      all_goals rcases b4 : decide (48 ≤ (R : Int)) with _ | _
      all_goals rcases b5 : decide ((R : Int) ≤ 57) with _ | _
      all_goals rcases b6 : (pos == 0) with _ | _
      all_goals rw [b1, b2, b3, b4, b5, b6] at HNO HYES
      all_goals have b7 : ((pos : Int) == 0) = (pos == 0) := by (rw [Bool.eq_iff_iff, beq_iff_eq, beq_iff_eq]; omega)
      all_goals rw [b6] at b7
      all_goals clear b6
      all_goals first
        | (exfalso; simp only [decide_eq_true_eq, decide_eq_false_iff_not, beq_iff_eq, beq_eq_false_iff_ne] at b1 b2 b3 b4 b5; omega)
        | (have HN := Lib.hid (HNO.out rfl)
           clear HNO HYES
           go_wp2
           go_ret
           rw [HN.out]
           exact ⟨rfl, HI.out _⟩)
        | (have HY := Lib.hid (HYES.out rfl)
           clear HNO HYES
           go_wp2
           go_roundg (gk - D)
           case measure => omega
           case rel => exact ⟨pos + D, by omega, Lib.hid (HNM.out.trans HY.out), rfl⟩)
    · have hps2 : ¬ pos < s.size := hp
      have hnx : ∀ ty, (Instr.next (.pointer (some ⟨w.heap.size, 0, none⟩)) true ty).run Tryd.prog (w.iter s pos) = _ := fun ty => run_next_end w s pos ty hp
      have HEND : Hid (nameAt true (runesI s.data.toList) = true) := Lib.hid (by
        rw [hst.out, List.drop_of_length_le (show s.data.toList.length ≤ pos by rw [size_list]; omega)]
        rfl)
      clear hst hps2
      rw [HNM.out] at HEND
      go_wp2
      go_ret
      rw [HEND.out]
      exact ⟨rfl, HI.out _⟩
end Go.Proofs.YtdogcnmepaemjaaDoor
