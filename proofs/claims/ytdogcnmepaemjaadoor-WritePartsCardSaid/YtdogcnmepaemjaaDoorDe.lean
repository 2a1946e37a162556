/- A node's links; is a node by itself as it must be; a kid is put behind the others: dom's linksOf, wellMade, addKid. No conditions but that lists are not endless. -/
import Derived.Test.YtdogcnmepaemjaaDoorDc5
namespace Go.Proofs.YtdogcnmepaemjaaDoor
set_option linter.unusedVariables false
open Go.RowKit Go.Proofs.Fm Go.Proofs.Fb Go.Proofs.Fd Go.Proofs.Fc

def ndVal (x : Nd) (v : Value) : Value := .agg #[.int .i64 x.kind, str x.name, str x.text, v, .int .i64 x.parent, .int .i64 x.first, .int .i64 x.last, .int .i64 x.prev, .int .i64 x.next]
theorem linksOf_any (x : Nd) (v : Value) (w : World) :
    Calls Tryd.prog 45 #[ndVal x v] w fun e w' => e = .returned (.agg #[.int .i64 x.first, .int .i64 x.last, .int .i64 x.prev, .int .i64 x.next]) ∧ Below w.heap.size w w' := by
  unfold ndVal
  dsimp only [str]
  go_enter Tryd.func45, Tryd.ntmps45
  go_wp2
  refine bodyPost_ret (v := .agg #[.int .i64 x.first, .int .i64 x.last, .int .i64 x.prev, .int .i64 x.next]) (by simp [results, Tryd.results45, go_sem]) rfl ⟨rfl, ?_⟩
  exact ((Below.refl _ _).alloc (Nat.le_refl _) _).alloc (by simp) _

set_option maxHeartbeats 2000000 in
theorem well_any (x : Nd) (v : Value) (w : World) (ha : AVal w v x.attrs) :
    Calls Tryd.prog 46 #[ndVal x v] w fun e w' => e = .returned (.bool (wellB x)) ∧ Below w.heap.size w w' := by
  obtain ⟨A, c, rfl, har, hac, hlim, hnil⟩ := ha.ex
  have hb0 : Below w.heap.size w (w.alloc (.cells #[.int .i64 x.kind, str x.name, str x.text, .slice A x.attrs.length c, .int .i64 x.parent, .int .i64 x.first, .int .i64 x.last, .int .i64 x.prev, .int .i64 x.next] 41)) := (Below.refl _ _).alloc (Nat.le_refl _) _
  have HA := Lib.hid (attrs_any A x.attrs.length c x.attrs rfl hlim hac _ (har.below hb0 (Nat.le_refl _)))
  have HB0 := Lib.hid hb0
  clear har hb0 ha
  obtain ⟨R, hR⟩ : ∃ R, wellB x = R := ⟨_, rfl⟩
  rw [hR]
  unfold ndVal
  obtain ⟨K, NM, TX, al, PA, FI, LA, PR, NX⟩ := x
  dsimp only at HA HB0 hR hac hlim ⊢
  have HR := Lib.hid hR
  obtain ⟨AB, hAB⟩ : ∃ b, attrsB al = b := ⟨_, rfl⟩
  rw [hAB] at HA
  have HAB := Lib.hid hAB
  clear hR hAB
  dsimp only [str] at HA HB0 ⊢
  by_cases k1 : K = 1
  · subst k1
    rcases NM with _ | ⟨n0, nt⟩
    · obtain rfl : false = R := by rw [← HR.out]; simp [wellB]
      go_enter Tryd.func46, Tryd.ntmps46
      go_wp2_with fail
      go_ret
      exact ⟨rfl, HB0.out⟩
    · rcases TX with _ | ⟨t0, tt⟩
      · obtain rfl : AB = R := by rw [← HR.out, ← HAB.out]; simp [wellB]
        go_enter Tryd.func46, Tryd.ntmps46
        go_wp2_with (go_at_call 52; refine (HA.out).mono ?_; rintro e w1 ⟨rfl, hb1⟩; have HB1 := Lib.hid (HB0.out.trans (hb1.mono (by simp))); clear hb1)
        go_ret
        exact ⟨rfl, HB1.out⟩
      · obtain rfl : false = R := by rw [← HR.out]; simp [wellB]
        go_enter Tryd.func46, Tryd.ntmps46
        go_wp2_with fail
        go_ret
        exact ⟨rfl, HB0.out⟩
  · have k1' : (K == 1) = false := beq_eq_false_iff_ne.2 k1
    by_cases k2 : K = 2
    · subst k2
      rcases TX with _ | ⟨t0, tt⟩
      · obtain rfl : false = R := by rw [← HR.out]; simp [wellB]
        go_enter Tryd.func46, Tryd.ntmps46
        go_wp2_with fail
        go_ret
        exact ⟨rfl, HB0.out⟩
      · rcases NM with _ | ⟨n0, nt⟩
        · by_cases h0 : al.length = 0
          · have h0' : al = [] := List.eq_nil_of_length_eq_zero h0
            have l0 : ((al.length : Int) == 0) = true := by rw [h0]; rfl
            by_cases f0 : FI < 0
            · obtain rfl : true = R := by rw [← HR.out]; simp [wellB, h0', f0]
              clear h0 h0'
              go_enter Tryd.func46, Tryd.ntmps46
              go_wp2_with fail
              go_ret
              exact ⟨rfl, HB0.out⟩
            · obtain rfl : false = R := by rw [← HR.out]; simp [wellB, f0]
              clear h0 h0'
              go_enter Tryd.func46, Tryd.ntmps46
              go_wp2_with fail
              go_ret
              exact ⟨rfl, HB0.out⟩
          · have l0 : ((al.length : Int) == 0) = false := beq_eq_false_iff_ne.2 (by omega)
            obtain rfl : false = R := by rw [← HR.out]; simp [wellB, h0]
            go_enter Tryd.func46, Tryd.ntmps46
            go_wp2_with fail
            go_ret
            exact ⟨rfl, HB0.out⟩
        · obtain rfl : false = R := by rw [← HR.out]; simp [wellB]
          go_enter Tryd.func46, Tryd.ntmps46
          go_wp2_with fail
          go_ret
          exact ⟨rfl, HB0.out⟩
    · have k2' : (K == 2) = false := beq_eq_false_iff_ne.2 k2
      obtain rfl : false = R := by rw [← HR.out, wellB]; simp [k1, k2]
      go_enter Tryd.func46, Tryd.ntmps46
      go_wp2_with fail
      go_ret
      exact ⟨rfl, HB0.out⟩
end Go.Proofs.YtdogcnmepaemjaaDoor
