/- Markup walked. Conditions: texts are not endless, all that is written has at most 2^46 bytes. -/
import Derived.Test.YtdogcnmepaemjaaDoorRn
namespace Go.Proofs.YtdogcnmepaemjaaDoor
set_option linter.unusedVariables false
open Go.RowKit Go.Proofs.Fm Go.Proofs.Fb Go.Proofs.Fu Go.Proofs.Fr Go.Proofs.Fd Go.Proofs.Fc

def markupW (l : List Nd) : Str := if rightE l = 0 then markF l l.length 0 else []
/-- what is asked of a tree that is to be written -/
structure MarkOk (l : List Nd) : Prop where
  tag : ∀ x ∈ l, x.kind ≠ 2 → TagOk x
  text : ∀ x ∈ l, x.text.length ≤ 17592186044416
  all : (markF l l.length 0).length ≤ 70368744177664
set_option maxHeartbeats 4000000 in
set_option maxRecDepth 100000 in
theorem markup_any (A : Option Addr) (n c : Nat) (l : List Nd) (hl : l.length = n) (hn : n ≤ 1099511627776) (hm : rightE l = 0 → MarkOk l) (w : World) (ha : NRow w A l) :
    Calls Tryd.prog 8 #[.agg #[.slice A n c]] w fun e w' => e = .returned (.string ⟨(markupW l).toArray⟩) ∧ Below w.heap.size w w' := by
  have hb0 : Below w.heap.size w (w.alloc (.cells #[.slice A n c] 24)) := (Below.refl _ _).alloc (Nat.le_refl _) _
  have hk0 := Bk.new w 24 #[.slice A n c]
  have HR := Lib.hid (fun W (h : Below w.heap.size w W) => right_any A n c l hl (by omega) W (ha.below h (Nat.le_refl _)))
  have HROW := Lib.hid (fun W (h : Below w.heap.size w W) => ha.below h (Nat.le_refl _))
  unfold markupW
  by_cases hr : rightE l = 0
  · rw [if_pos hr]
    have hT : TreeOk l := ⟨(right_said hr).1, (hm hr).tag, (hm hr).text⟩
    have hpos := hT.said.pos
    rw [hr] at HR
    have HALL := Lib.hid (hm hr).all
    have HWR := Lib.hid (writes_any l hT (by omega) l.length)
    obtain ⟨T, hTe⟩ : ∃ t, markF l l.length 0 = t := ⟨_, rfl⟩
    rw [hTe]
    have HTE := Lib.hid hTe
    clear hr ha hm hTe
    go_enter Tryd.func8, Tryd.ntmps8
    go_upto_region 1 with fail
    refine wp_gen (fun W => Below w.heap.size w W ∧ Bk W w.heap.size 24 #[.slice A n c]) ⟨hb0, hk0⟩ ?_
    rintro W ⟨hb1, hk1⟩
    have s0 : W.cell? ⟨w.heap.size, 0, none⟩ = some (.slice A n c) := hk1.cell 0
    have HB := Lib.hid hb1
    have HK := Lib.hid hk1
    clear hb0 hk0 hb1 hk1
    go_upto_region 3 with (go_at_call 18; refine (HR.out _ HB.out).mono ?_; rintro e w1 ⟨rfl, b1⟩; have HB1 := Lib.hid (HB.out.trans (b1.mono HB.out.size)); have HK1 := Lib.hid (HK.out.below b1 HK.out.lt); clear b1)
    go_upto_region 6 with fail
    have hlt := HK1.out.lt
    have hst0 : WSt w A n c w.heap.size w1.heap.size (w1.heap.size + 1) [] ((w1.alloc (.cells #[.pointer none, .slice none 0 0] 56)).alloc (.cells #[.func (.func 23) #[] #[.pointer (some ⟨w.heap.size, 0, none⟩), .pointer (some ⟨w1.heap.size, 0, none⟩), .pointer (some ⟨w1.heap.size + 1, 0, none⟩)]] 57)) :=
      ⟨(HK1.out.alloc _).alloc _, bk_new2 w1 _ 57 _, (bld_new w1).alloc _, (HB1.out.alloc HB1.out.size _).alloc (by simp; omega) _, Nat.le_refl _, hlt, Nat.lt_succ_self _⟩
    have hge : w.heap.size ≤ w1.heap.size := HB1.out.size
    refine wp_gen (fun W => WSt w A n c w.heap.size w1.heap.size (w1.heap.size + 1) [] W) hst0 ?_
    obtain ⟨bb, hbb⟩ : ∃ b, w1.heap.size = b := ⟨_, rfl⟩
    rw [hbb] at hge hlt ⊢
    intro W5 hst5
    have f5 : W5.cell? ⟨bb + 1, 0, none⟩ = some (.func (.func 23) #[] #[.pointer (some ⟨w.heap.size, 0, none⟩), .pointer (some ⟨bb, 0, none⟩), .pointer (some ⟨bb + 1, 0, none⟩)]) := hst5.fb.cell 0
    have hw := HWR.out w W5 A n c w.heap.size bb (bb + 1) 0 [] hl HROW.out hst5 (by omega) (by omega) HALL.out
    rw [List.nil_append, HTE.out] at hw
    have HW := Lib.hid hw
    clear hst5 hw hst0 hbb HB HK HB1 HK1 s0 HWR HROW HR HALL
    go_wp2_with (first
      | (go_at_call 23; refine (HW.out).mono ?_; rintro e w8 ⟨rfl, st8, wr8⟩; have HS8 := Lib.hid st8; have HBU := Lib.hid (built st8.bld (Nat.le_of_lt st8.bld.lt.2)); clear st8 wr8)
      | (go_at_call 29; refine (HBU.out).mono ?_; rintro e w9 ⟨rfl, _, bl9, _⟩))
    go_ret
    exact ⟨rfl, HS8.out.bl.trans (bl9.mono hge)⟩
  · rw [if_neg hr]
    obtain ⟨R, hR⟩ : ∃ R, rightE l = R := ⟨_, rfl⟩
    rw [hR] at HR hr
    have d1 : (R != 0) = true := by rw [bne_iff_ne]; exact hr
    have d2 : (R == 0) = false := by rw [beq_eq_false_iff_ne]; exact hr
    clear hR hm
    go_enter Tryd.func8, Tryd.ntmps8
    go_upto_region 1 with fail
    refine wp_gen (fun W => Below w.heap.size w W ∧ Bk W w.heap.size 24 #[.slice A n c]) ⟨hb0, hk0⟩ ?_
    rintro W ⟨hb1, hk1⟩
    have s0 : W.cell? ⟨w.heap.size, 0, none⟩ = some (.slice A n c) := hk1.cell 0
    have HB := Lib.hid hb1
    clear hb0 hk0 hb1 hk1
    go_wp2_with (go_at_call 18; refine (HR.out _ HB.out).mono ?_; rintro e w1 ⟨rfl, b1⟩; have HB1 := Lib.hid (HB.out.trans (b1.mono HB.out.size)); clear b1)
    go_ret
    exact ⟨rfl, HB1.out⟩
end Go.Proofs.YtdogcnmepaemjaaDoor
