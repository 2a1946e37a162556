/- Attributes and tokens held against others. No conditions but that the lists are not endless. -/
import Derived.Test.YtnpoipjnnlbnfaaDoorVl
import Derived.Test.YtnpoipjnnlbnfaaDoorCls
import Derived.BigQuiet
import Derived.Deep.QuietTactic
namespace Go.Proofs.YtnpoipjnnlbnfaaDoor
set_option linter.unusedVariables false
open Go.RowKit Go.Proofs.Fm Go.Proofs.Fb Go.Proofs.Fk Go.Proofs.Fs Go.Proofs.Fc

theorem drop_att {al : List Att} {k : Nat} (h : k < al.length) : al.drop k = al[k]'h :: al.drop (k + 1) := List.drop_eq_getElem_cons h
theorem neq_attr (x1 x2 y1 y2 : List UInt8) (w : World) : (binOp .neq 29 (.agg #[.string ⟨x1.toArray⟩, .string ⟨x2.toArray⟩]) (.agg #[.string ⟨y1.toArray⟩, .string ⟨y2.toArray⟩])).run Tryd.prog w = .ok (.bool (!decide ((x1, x2) = (y1, y2)))) w := by
  by_cases h1 : x1 = y1 <;> by_cases h2 : x2 = y2 <;> simp [go_sem, h1, h2]
theorem eql_attr (x1 x2 y1 y2 : List UInt8) (w : World) : (binOp .eql 29 (.agg #[.string ⟨x1.toArray⟩, .string ⟨x2.toArray⟩]) (.agg #[.string ⟨y1.toArray⟩, .string ⟨y2.toArray⟩])).run Tryd.prog w = .ok (.bool (decide ((x1, x2) = (y1, y2)))) w := by
  by_cases h1 : x1 = y1 <;> by_cases h2 : x2 = y2 <;> simp [go_sem, h1, h2, Result.andThen]
set_option maxHeartbeats 2000000 in
theorem same_attr (A B : Option Addr) (n m c d : Nat) (al bl : List Att) (hn : al.length = n) (hm : bl.length = m) (hx : n ≤ 4294967296) {w : World} (ha : ARow w A al) (hb : ARow w B bl) :
    Calls Tryd.prog 53 #[.slice A n c, .slice B m d] w fun e w' => e = .returned (.bool (decide (al = bl))) ∧ ∃ q, w.drewN q = w' := by
  by_cases hl : n = m
  · have h2 : ((n : Int) != (m : Int)) = false := by rw [bne_eq_false_iff_eq]; omega
    have HL := Lib.hid hl
    clear hl
    go_enter Tryd.func53, Tryd.ntmps53
    go_wp2
    go_loopg [5] n (fun gk i wr => ∃ k q : Nat, k + gk = n ∧ i = .int .i64 k ∧ Hid (decide (al.drop k = bl.drop k) = decide (al = bl)) ∧ wr = w.drewN q)
    case atStart => exact ⟨0, 0, by omega, rfl, Lib.hid rfl, rfl⟩
    case round =>
      obtain ⟨k, q, hk, rfl, ht, rfl⟩ := hrel
      by_cases hlt : k < n
      · have hlm := HL.out
        have hka : k < al.length := by omega
        have hkb : k < bl.length := by omega
        obtain ⟨b1, o1, rfl, hc1⟩ := ha (by intro e; subst e; simp at hka)
        obtain ⟨b2, o2, rfl, hc2⟩ := hb (by intro e; subst e; simp at hkb)
        obtain ⟨g1, g2⟩ := hc1 k hka
        obtain ⟨g3, g4⟩ := hc2 k hkb
        have HA := Lib.hid (drop_att hka)
        have HB := Lib.hid (drop_att hkb)
        obtain ⟨⟨x1, x2⟩, hx⟩ : ∃ x, (al[k]'hka) = x := ⟨_, rfl⟩
        obtain ⟨⟨y1, y2⟩, hy⟩ : ∃ x, (bl[k]'hkb) = x := ⟨_, rfl⟩
        rw [hx] at g1 g2 HA
        rw [hy] at g3 g4 HB
        dsimp only [str] at g1 g2 g3 g4
        have i1 : (k : Int) < (n : Int) := by omega
        have i2 : (k : Int) < (m : Int) := by omega
        have hne := fun W => neq_attr x1 x2 y1 y2 W
        obtain ⟨z, hz⟩ : ∃ z, decide ((x1, x2) = (y1, y2)) = z := ⟨_, rfl⟩
        rw [hz] at hne
        have HZ := Lib.hid hz
        clear hc1 hc2 ha hb hx hy hlm hz
        rcases z with _ | _
        · simp only [Bool.not_false] at hne
          go_wp2
          go_quiet (fail)
          go_wp2
          go_ret
          refine ⟨?_, q + nq, (World.drewN_drewN _ _ _).symm⟩
          have h1 := ht.out
          rw [HA.out, HB.out] at h1
          rw [← h1, decide_eq_false (fun e => absurd (List.cons.inj e).1 (of_decide_eq_false HZ.out))]; rfl
        · simp only [Bool.not_true] at hne
          go_wp2
          go_quiet (fail)
          go_wp2
          go_roundg (gk - 1)
          case measure => omega
          case rel =>
            refine ⟨k + 1, q + nq, by omega, by go_num, Lib.hid ?_, rfl⟩
            have h1 := ht.out
            rw [HA.out, HB.out, of_decide_eq_true HZ.out] at h1
            rw [← h1]
            exact decide_eq_decide.2 ⟨fun e => by rw [e], fun e => (List.cons.inj e).2⟩
      · have hke : k = n := by omega
        subst hke
        go_wp2
        go_ret
        have h1 := ht.out
        have hlm := HL.out
        rw [List.drop_eq_nil_of_le (by omega), List.drop_eq_nil_of_le (by omega)] at h1
        exact ⟨by rw [← h1]; rfl, q, rfl⟩
  · have h1 : decide (al = bl) = false := by
      rw [decide_eq_false_iff_not]; intro e; exact hl (by rw [← hn, ← hm, e])
    have H1 := Lib.hid h1
    have h2 : ((n : Int) != (m : Int)) = true := by rw [bne_iff_ne]; omega
    clear ha hb h1 hl
    go_enter Tryd.func53, Tryd.ntmps53
    go_wp2
    go_ret
    exact ⟨by rw [H1.out]; rfl, 0, rfl⟩
end Go.Proofs.YtnpoipjnnlbnfaaDoor
