/- DomRight walked. No conditions but that the list is not endless. -/
import Derived.Test.YtofllmofdenadaaDx
import Derived.Test.YtofllmofdenadaaDy
import Derived.Test.YtofllmofdenadaaDt
import Derived.Test.YtofllmofdenadaaDu
namespace Go.Proofs.Ytofllmofdenadaa
set_option linter.unusedVariables false
open Go.RowKit Go.Proofs.Fm Go.Proofs.Fb Go.Proofs.Fd Go.Proofs.Fc

theorem NRow.bound {w : World} {A : Option Addr} {l : List Nd} (h : NRow w A l) : ∀ x ∈ l, x.attrs.length ≤ 4398046511104 := by
  intro x hx
  obtain ⟨i, hi, rfl⟩ := List.getElem_of_mem hx
  obtain ⟨b, off, -, hat⟩ := h.at_ hi
  obtain ⟨v, -, hav⟩ := hat.c3
  obtain ⟨A1, c1, -, -, -, h1, -⟩ := hav.ex
  exact h1
set_option maxHeartbeats 4000000 in
theorem right_walk (w : World) (A : Option Addr) (n c : Nat) (l : List Nd) (hl : l.length = n) (hn : n * 104 ≤ 140737488355328) (ha : NRow w A l) :
    Calls Try.prog 4 #[.agg #[.slice A n c]] w fun e w' => e = .returned (.bool true) ∧ Below w.heap.size w w' := by
  have hb0 : Below w.heap.size w (w.alloc (.cells #[.slice A n c] 24)) := (Below.refl _ _).alloc (Nat.le_refl _) _
  by_cases hbig : 500 < n ∧ n ≤ 4096
  · have i1 : (500 : Int) < (n : Int) := by omega
    have i2 : (n : Int) ≤ 4096 := by omega
    have HK := Lib.hid (known_any (w.alloc (.cells #[.slice A n c] 24)))
    have HB0 := Lib.hid hb0
    clear hbig hb0 ha
    go_enter Try.func4, Try.ntmps4
    go_wp2_with (go_at_call 18; refine (HK.out).mono ?_; rintro e w1 ⟨rfl, hb1⟩; have HB1 := Lib.hid (HB0.out.trans (hb1.mono (by simp))); clear hb1)
    go_ret
    exact ⟨rfl, HB1.out⟩
  · have hk0 := Bk.new w 24 #[.slice A n c]
    have HB0 := Lib.hid hb0
    have HA := Lib.hid ha
    have HBD := Lib.hid (NRow.bound ha)
    have hcp := copy_any A n c l hl hn (w.alloc (.cells #[.slice A n c] 24)) (ha.below hb0 (Nat.le_refl _))
    have HCP := Lib.hid hcp
    have HK0 := Lib.hid hk0
    clear hb0 ha hcp hk0
    have main : ∀ (T : Prop), (T ↔ T) := fun T => Iff.rfl
    by_cases h5 : 500 < n
    · have i1 : (500 : Int) < (n : Int) := by omega
      have i2 : ¬ ((n : Int) ≤ 4096) := by omega
      clear hbig main
      go_enter Try.func4, Try.ntmps4
      go_upto_region 4 with (go_at_call 19; refine (HCP.out).mono ?_; rintro e w1 ⟨A2, c2, rfl, hot, hb1⟩; have HOT := Lib.hid hot; have HB1 := Lib.hid (HB0.out.trans (hb1.mono (by simp))); have HK1 := Lib.hid (HK0.out.below hb1 HK0.out.lt); clear hot hb1)
      have hrow2 := HOT.out.row HBD.out
      refine wp_gen (fun W => Below w1.heap.size w1 W ∧ Bk W w1.heap.size 24 #[.slice A2 n c2]) ⟨(Below.refl _ _).alloc (Nat.le_refl _) _, Bk.new w1 24 _⟩ ?_
      rintro W ⟨hbW, hkW⟩
      have hz1 := HB1.out.size
      have HBW := Lib.hid (HB1.out.trans (hbW.mono hz1))
      have hk1 := HK1.out.below hbW HK1.out.lt
      have z0 : W.cell? ⟨w.heap.size, 0, none⟩ = some (.slice A n c) := hk1.cell 0
      have z1 : W.cell? ⟨w1.heap.size, 0, none⟩ = some (.slice A2 n c2) := hkW.cell 0
      have l0 : w.heap.size < W.heap.size := hk1.lt
      have l1 : w1.heap.size < W.heap.size := hkW.lt
      have hrA := HA.out.below HBW.out (Nat.le_refl _)
      have hrB := hrow2.below hbW (Nat.le_refl _)
      have H14 := Lib.hid (fun y => call_of (right_any A2 n c2 l hl (by omega) (ext W.heap.size W y) (hrB.below (ext_below W.heap.size W y) (Nat.le_refl _))) (Nat.le_refl _))
      have H20 := Lib.hid (fun y => call_of (refRight_any A n c l hl (by omega) (ext W.heap.size W y) (hrA.below (ext_below W.heap.size W y) (Nat.le_refl _))) (Nat.le_refl _))
      have H21 := Lib.hid (fun y => call_of (sameTree_yes A A2 n c c2 l hl (by omega) (ext W.heap.size W y) (hrA.below (ext_below W.heap.size W y) (Nat.le_refl _)) (hrB.below (ext_below W.heap.size W y) (Nat.le_refl _))) (Nat.le_refl _))
      have H18 := Lib.hid (fun y => call_of (known_any (ext W.heap.size W y)) (Nat.le_refl _))
      obtain ⟨E, hE⟩ : ∃ E, rightE l = E := ⟨_, rfl⟩
      rw [hE] at H14 H20
      have eX := fun y b o => ext_cell W.heap.size W y b o
      clear hbW hkW hk1 hrA hrB hrow2 hE
      refine region_ext W.heap.size (by kernel_rfl) (by kernel_rfl) ?_
      repeat quiet_step ((first | (go_at_call 14; exact H14.out _) | (go_at_call 20; exact H20.out _) | (go_at_call 21; exact H21.out _) | (go_at_call 18; exact H18.out _)))
      refine wpQuiet_nil ?_
      intro w4 hb4
      have HB4 := Lib.hid (HBW.out.trans (hb4.mono HBW.out.size))
      clear hb4
      go_wp2
      go_ret
      exact ⟨rfl, HB4.out⟩
    · have i1 : ¬ ((500 : Int) < (n : Int)) := by omega
      clear hbig main
      go_enter Try.func4, Try.ntmps4
      go_upto_region 4 with (go_at_call 19; refine (HCP.out).mono ?_; rintro e w1 ⟨A2, c2, rfl, hot, hb1⟩; have HOT := Lib.hid hot; have HB1 := Lib.hid (HB0.out.trans (hb1.mono (by simp))); have HK1 := Lib.hid (HK0.out.below hb1 HK0.out.lt); clear hot hb1)
      have hrow2 := HOT.out.row HBD.out
      refine wp_gen (fun W => Below w1.heap.size w1 W ∧ Bk W w1.heap.size 24 #[.slice A2 n c2]) ⟨(Below.refl _ _).alloc (Nat.le_refl _) _, Bk.new w1 24 _⟩ ?_
      rintro W ⟨hbW, hkW⟩
      have hz1 := HB1.out.size
      have HBW := Lib.hid (HB1.out.trans (hbW.mono hz1))
      have hk1 := HK1.out.below hbW HK1.out.lt
      have z0 : W.cell? ⟨w.heap.size, 0, none⟩ = some (.slice A n c) := hk1.cell 0
      have z1 : W.cell? ⟨w1.heap.size, 0, none⟩ = some (.slice A2 n c2) := hkW.cell 0
      have l0 : w.heap.size < W.heap.size := hk1.lt
      have l1 : w1.heap.size < W.heap.size := hkW.lt
      have hrA := HA.out.below HBW.out (Nat.le_refl _)
      have hrB := hrow2.below hbW (Nat.le_refl _)
      have H14 := Lib.hid (fun y => call_of (right_any A2 n c2 l hl (by omega) (ext W.heap.size W y) (hrB.below (ext_below W.heap.size W y) (Nat.le_refl _))) (Nat.le_refl _))
      have H20 := Lib.hid (fun y => call_of (refRight_any A n c l hl (by omega) (ext W.heap.size W y) (hrA.below (ext_below W.heap.size W y) (Nat.le_refl _))) (Nat.le_refl _))
      have H21 := Lib.hid (fun y => call_of (sameTree_yes A A2 n c c2 l hl (by omega) (ext W.heap.size W y) (hrA.below (ext_below W.heap.size W y) (Nat.le_refl _)) (hrB.below (ext_below W.heap.size W y) (Nat.le_refl _))) (Nat.le_refl _))
      have H18 := Lib.hid (fun y => call_of (known_any (ext W.heap.size W y)) (Nat.le_refl _))
      obtain ⟨E, hE⟩ : ∃ E, rightE l = E := ⟨_, rfl⟩
      rw [hE] at H14 H20
      have eX := fun y b o => ext_cell W.heap.size W y b o
      clear hbW hkW hk1 hrA hrB hrow2 hE
      refine region_ext W.heap.size (by kernel_rfl) (by kernel_rfl) ?_
      repeat quiet_step ((first | (go_at_call 14; exact H14.out _) | (go_at_call 20; exact H20.out _) | (go_at_call 21; exact H21.out _) | (go_at_call 18; exact H18.out _)))
      refine wpQuiet_nil ?_
      intro w4 hb4
      have HB4 := Lib.hid (HBW.out.trans (hb4.mono HBW.out.size))
      clear hb4
      go_wp2
      go_ret
      exact ⟨rfl, HB4.out⟩
end Go.Proofs.Ytofllmofdenadaa
