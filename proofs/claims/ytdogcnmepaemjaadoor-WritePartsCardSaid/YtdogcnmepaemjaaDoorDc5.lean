/- Are attributes as a tree wants them: dom's rightAttrs. No conditions but that the list is not endless. -/
import Derived.Test.YtdogcnmepaemjaaDoorDb
namespace Go.Proofs.YtdogcnmepaemjaaDoor
set_option linter.unusedVariables false
open Go.RowKit Go.Proofs.Fm Go.Proofs.Fb Go.Proofs.Fd Go.Proofs.Fc

def attrOk (al : List Att) (i : Nat) : Bool := !((al.getD i ([], [])).1 == []) && !((al.take i).any fun b => b.1 == (al.getD i ([], [])).1)
theorem attrsB_eq (al : List Att) : attrsB al = (decide (al.length ≤ 64) && (List.range al.length).all (attrOk al)) := rfl
theorem attrsB_long {al : List Att} (h : ¬ al.length ≤ 64) : attrsB al = false := by rw [attrsB_eq, decide_eq_false h]; rfl
theorem attrsB_bad {al : List Att} {k : Nat} (hk : k < al.length) (h : attrOk al k = false) : attrsB al = false := by
  rw [attrsB_eq]
  have : (List.range al.length).all (attrOk al) = false := by
    rw [List.all_eq_false]
    exact ⟨k, List.mem_range.2 hk, by simp [h]⟩
  rw [this, Bool.and_false]
theorem attrsB_good {al : List Att} (hl : al.length ≤ 64) (h : ∀ i, i < al.length → attrOk al i = true) : attrsB al = true := by
  rw [attrsB_eq, decide_eq_true hl, Bool.true_and, List.all_eq_true]
  exact fun i hi => h i (List.mem_range.1 hi)
theorem getD_of {al : List Att} {k : Nat} (hk : k < al.length) : al.getD k ([], []) = al[k]'hk := by simp [hk]
theorem findI_ge {al : List Att} {nm : Str} (h : (al.any fun b => b.1 == nm) = true) : 0 ≤ findI al nm := by
  unfold findI
  split
  · omega
  · rename_i hn
    rw [List.findIdx?_eq_none_iff] at hn
    obtain ⟨x, hx, hq⟩ := List.any_eq_true.1 h
    have := hn x hx
    simp_all
set_option maxHeartbeats 2000000 in
theorem attrs_any (A : Option Addr) (n c : Nat) (al : List Att) (hn : al.length = n) (hx : n ≤ 4398046511104) (hnc : n ≤ c) (w : World) (ha : ARow w A al) :
    Calls Tryd.prog 52 #[.slice A n c] w fun e w' => e = .returned (.bool (attrsB al)) ∧ Below w.heap.size w w' := by
  by_cases h64 : n ≤ 64
  · have d64 : decide ((64 : Int) < (n : Int)) = false := by simp; omega
    go_enter Tryd.func52, Tryd.ntmps52
    go_wp2
    go_loopg [10] n (fun gk i wr => ∃ k, k + gk = n ∧ i = .int .i64 (k : Int) ∧ Below w.heap.size w wr ∧ Hid (∀ i, i < k → attrOk al i = true))
    case atStart => exact ⟨0, by omega, rfl, Below.refl _ _, Lib.hid (fun i hi => by omega)⟩
    case round =>
      obtain ⟨k, hk, rfl, hb, hr⟩ := hrel
      by_cases hlk : k < n
      · have hka : k < al.length := by omega
        have hrow := ha.below hb (Nat.le_refl _)
        have HAR := Lib.hid hrow
        obtain ⟨b, off, rfl, hcc⟩ := hrow (by intro e; subst e; simp at hka)
        obtain ⟨c1, c2⟩ := hcc k hka
        have i1 : (k : Int) < (n : Int) := by omega
        have hz := hb.size
        have HB := Lib.hid hb
        obtain ⟨x, hx2⟩ : ∃ x, (al[k]'hka) = x := ⟨_, rfl⟩
        rw [hx2] at c1 c2
        have HX := Lib.hid hx2
        clear hcc hrow hx2 hb ha
        have hat := World.block_lt_of_cell? _ _ c1
        dsimp only [str] at c1 c2
        go_upto_region 6 with fail
        refine wp_gen (fun W => Below wr.heap.size wr W ∧ Bk W wr.heap.size 70 #[str x.1, str x.2]) ⟨(Below.refl _ _).alloc (Nat.le_refl _) _, Bk.new wr 70 _⟩ ?_
        rintro W ⟨hbW, hkW⟩
        have hlt := hkW.lt
        have x0 : W.cell? ⟨wr.heap.size, 0, none⟩ = some (.string ⟨x.1.toArray⟩) := hkW.cell 0
        have hrowW := HAR.out.below hbW (Nat.le_refl _)
        have HF := Lib.hid (fun y => call_of (find_any (some ⟨b, off, none⟩) k c (al.take k) x.1 (by rw [List.length_take]; omega) (by omega) (ext W.heap.size W y) ((hrowW.take k).below (ext_below W.heap.size W y) (Nat.le_refl _))) (Nat.le_refl _))
        have HBW := Lib.hid (HB.out.trans (hbW.mono hz))
        have hkc : (k : Int) ≤ (c : Int) := by omega
        dsimp only [str] at HF
        clear hbW hkW hrowW c1 c2
        have e2 := fun y b o => ext_cell W.heap.size W y b o
        rcases hq : (x.1 == []) with _ | _
        · have hem : x.1.isEmpty = false := by rcases hh : x.1 with _ | ⟨u, v⟩; (rw [hh] at hq; cases hq); rfl
          rcases hq2 : ((al.take k).any fun b => b.1 == x.1) with _ | _
          · have hfv : findI (al.take k) x.1 = -1 := find_none hq2
            rw [hfv] at HF
            have HQ := Lib.hid hq
            have HQ2 := Lib.hid hq2
            clear hq hq2 hfv
            refine region_ext W.heap.size (by kernel_rfl) (by kernel_rfl) ?_
            repeat quiet_step ((go_at_call 55; exact HF.out _))
            refine wpQuiet_nil ?_
            intro w4 hb4
            have HB4 := Lib.hid (HBW.out.trans (hb4.mono HBW.out.size))
            clear hb4
            go_wp2
            go_roundg (gk - 1)
            case measure => omega
            case rel =>
              refine ⟨k + 1, by omega, by go_num, HB4.out, Lib.hid (fun i hi => ?_)⟩
              by_cases e : i = k
              · subst e
                unfold attrOk
                rw [getD_of hka, HX.out, HQ.out, HQ2.out]; rfl
              · exact hr.out i (by omega)
          · have hfv : 0 ≤ findI (al.take k) x.1 := findI_ge hq2
            obtain ⟨v, hv⟩ : ∃ v, findI (al.take k) x.1 = v := ⟨_, rfl⟩
            rw [hv] at HF hfv
            have HQ2 := Lib.hid hq2
            clear hq hq2 hv
            refine region_ext W.heap.size (by kernel_rfl) (by kernel_rfl) ?_
            repeat quiet_step ((go_at_call 55; exact HF.out _))
            refine wpQuiet_nil ?_
            intro w4 hb4
            have HB4 := Lib.hid (HBW.out.trans (hb4.mono HBW.out.size))
            clear hb4
            go_wp2
            go_ret
            refine ⟨?_, HB4.out⟩
            rw [attrsB_bad hka (by unfold attrOk; rw [getD_of hka, HX.out, HQ2.out, Bool.not_true, Bool.and_false])]; rfl
        · have hem : x.1.isEmpty = true := by rw [beq_iff_eq.1 hq]; rfl
          have HQ := Lib.hid hq
          clear hq
          refine region_ext W.heap.size (by kernel_rfl) (by kernel_rfl) ?_
          repeat quiet_step (fail)
          refine wpQuiet_nil ?_
          intro w4 hb4
          have HB4 := Lib.hid (HBW.out.trans (hb4.mono HBW.out.size))
          clear hb4
          go_wp2
          go_ret
          refine ⟨?_, HB4.out⟩
          rw [attrsB_bad hka (by unfold attrOk; rw [getD_of hka, HX.out, HQ.out, Bool.not_true, Bool.false_and])]; rfl
      · obtain rfl : k = n := by omega
        go_wp2
        go_ret
        exact ⟨by rw [attrsB_good (by omega) (fun i hi => hr.out i (by omega))]; rfl, hb⟩
  · have d64 : decide ((64 : Int) < (n : Int)) = true := by simp; omega
    go_enter Tryd.func52, Tryd.ntmps52
    go_wp2
    go_ret
    exact ⟨by rw [attrsB_long (by omega)]; rfl, Below.refl _ _⟩
end Go.Proofs.YtdogcnmepaemjaaDoor
