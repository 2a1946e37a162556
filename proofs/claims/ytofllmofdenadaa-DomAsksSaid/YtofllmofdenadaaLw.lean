/- DomWalk where the tree is too large or not right. No conditions but that the list is not endless. -/
import Derived.Test.YtofllmofdenadaaIh
import Derived.Test.YtofllmofdenadaaGe
import Derived.Test.YtofllmofdenadaaRa
namespace Go.Proofs.Ytofllmofdenadaa
set_option linter.unusedVariables false
open Go.RowKit Go.Shelf Go.Proofs.Fm Go.Proofs.Fb Go.Proofs.Fd Go.Proofs.Fc

theorem func_is_some (cs ds : Array Value) (f : Fn) (W : World) : (binOp BinOp.eql 36 (.func f cs ds) .nilFunc).run Try.prog W = .ok (.bool false) W := by rfl
theorem right_said {l : List Nd} (h : rightE l = 0) : SaidF l ∧ l.length ≤ 4096 := by
  unfold rightE at h
  by_cases h1 : 4096 < l.length
  · rw [if_pos h1] at h; omega
  · rw [if_neg h1] at h
    by_cases h2 : saidB l = false
    · rw [if_pos h2] at h; omega
    · exact ⟨said_facts (by simpa using h2), by omega⟩
set_option maxHeartbeats 1000000 in
theorem walk_off (A : Option Addr) (n c : Nat) (l : List Nd) (hl : l.length = n) (hn : n ≤ 4398046511104) (h : ¬ (n ≤ 300 ∧ rightE l = 0)) (w : World) (ha : NRow w A l) :
    Calls Try.prog 9 #[.agg #[.slice A n c]] w fun e w' => e = .returned (.bool true) ∧ Below w.heap.size w w' := by
  obtain ⟨W0, hW0⟩ : ∃ W, (w.alloc (.cells #[.slice A n c] 24)).alloc (.cells #[.bool false] 4) = W := ⟨_, rfl⟩
  have hb0 : Below w.heap.size w W0 := hW0 ▸ ((Below.refl _ w).alloc (Nat.le_refl _) _).alloc (by simp) _
  have hk1 : Bk W0 w.heap.size 24 #[.slice A n c] := hW0 ▸ (Bk.new w 24 _).alloc _
  have hk2 : Bk W0 (w.heap.size + 1) 4 #[.bool false] := hW0 ▸ (by simpa using Bk.new (w.alloc (.cells #[.slice A n c] 24)) 4 #[.bool false])
  have z1 : W0.cell? ⟨w.heap.size, 0, none⟩ = some (.slice A n c) := hk1.cell 0
  have l1 := hk1.lt
  have HB0 := Lib.hid hb0
  have HK2 := Lib.hid hk2
  have HW0 := Lib.hid hW0
  have HR := Lib.hid (right_any A n c l hl hn W0 (ha.below hb0 (Nat.le_refl _)))
  have HH := Lib.hid h
  obtain ⟨E, hE⟩ : ∃ E, rightE l = E := ⟨_, rfl⟩
  rw [hE] at HR HH
  clear hb0 hk1 hk2 hW0 ha hE h
  go_enter Try.func9, Try.ntmps9
  go_upto_region 1 with fail
  rw [HW0.out]
  clear HW0
  by_cases hbig : 300 < n
  · have i1 : (300 : Int) < (n : Int) := by omega
    go_upto_region 2 with fail
    go_wp2_with (go_at_call 18; refine (known_any _).mono ?_; rintro e w1 ⟨rfl, hb1⟩; have hk := HK2.out.below hb1 HK2.out.lt; have t0 : w1.cell? ⟨w.heap.size + 1, 0, none⟩ = some (.bool false) := hk.cell 0; have tf : w1.frozen? ⟨w.heap.size + 1, 0, none⟩ = false := hk.frozen 0; have lt := hk.lt; have HB1 := Lib.hid (HB0.out.trans (hb1.mono HB0.out.size)); clear hb1 hk)
    exact bodyPost_ret (v := .bool true) (by simp [results, Try.results9, go_sem, t0]) rfl ⟨rfl, HB1.out.setCell (p := ⟨w.heap.size + 1, 0, none⟩) (Nat.le_succ _) _⟩
  · have i1 : ¬ ((300 : Int) < (n : Int)) := by omega
    have hne : E ≠ 0 := fun e => HH.out ⟨by omega, e⟩
    have i2 : (E == 0) = false := by simpa using hne
    have hk := HK2
    go_upto_region 2 with (go_at_call 14; refine (HR.out).mono ?_; rintro e w1 ⟨rfl, hb1⟩; have hk := HK2.out.below hb1 HK2.out.lt; have HK3 := Lib.hid hk; have HB1 := Lib.hid (HB0.out.trans (hb1.mono HB0.out.size)); clear hb1 hk)
    go_wp2_with (go_at_call 18; refine (known_any _).mono ?_; rintro e w2 ⟨rfl, hb1⟩; have hk := HK3.out.below hb1 HK3.out.lt; have t0 : w2.cell? ⟨w.heap.size + 1, 0, none⟩ = some (.bool false) := hk.cell 0; have tf : w2.frozen? ⟨w.heap.size + 1, 0, none⟩ = false := hk.frozen 0; have lt := hk.lt; have HB2 := Lib.hid (HB1.out.trans (hb1.mono HB1.out.size)); clear hb1 hk)
    exact bodyPost_ret (v := .bool true) (by simp [results, Try.results9, go_sem, t0]) rfl ⟨rfl, HB2.out.setCell (p := ⟨w.heap.size + 1, 0, none⟩) (Nat.le_succ _) _⟩
end Go.Proofs.Ytofllmofdenadaa
