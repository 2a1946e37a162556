import Derived.Test.YtkidhjfoapdgjaaGf
namespace Go.Proofs.Ytkidhjfoapdgjaa
set_option linter.unusedVariables false
open Go.RowKit Go.Proofs.Fx Go.Proofs.Fm Go.Proofs.Fo Go.Sort Go.Shelf Go.Lib

theorem places_take (n k : Nat) (hk : k ≤ n) : (places n).take k = places k := by
  unfold places; rw [← List.map_take, List.take_range, Nat.min_eq_left hk]
theorem places_succ (k : Nat) : places (k + 1) = places k ++ [(k : Int)] := by
  unfold places; rw [List.range_succ, List.map_append]; rfl

set_option maxHeartbeats 800000 in
theorem great_any (r : List Int) (A : Option Addr) (c : Nat) (w : World) (hn : 0 < r.length) (hle : r.length ≤ 17592186044416) (hr : Row w .i64 A r) :
    Calls Try.prog 35 #[.slice A r.length c] w fun e w' => ∃ g, e = .returned (.slice (some ⟨g, 0, none⟩) r.length r.length) ∧ w.heap.size ≤ g ∧
      IB w' g 3 .i64 ((ordF r r.length).map (fun x => (x.val : Int))) ∧ Below w.heap.size w w' := by
  obtain ⟨i0, hi0, hz0, hs0, hb0⟩ := info_parts Try.info3
  have Hb0 : i0.bytes ≤ 8 := by omega
  have HZ := Lib.hid hz0
  have HS := Lib.hid hs0
  clear hz0 hs0 hb0
  have hmf : ∀ (fn : Fn) (first cap : Array Value) (w : World), (Instr.makeFunc fn first cap).run Try.prog w = .ok (.func fn first cap) w := fun _ _ _ _ => rfl
  go_enter Try.func35, Try.ntmps35
  go_wp2_with (first
    | (refine wpList_make_ints _ rfl (.tmp 6) (.tmp 6) 42 rfl 3 .i64 i0 Try.underlying42 hi0 HZ.out HS.out Hb0 .i64 .i64 _ _ r.length rfl rfl (by omega) (by omega) (by omega) ?_; intro w1 h1 hb1))
  have hB1 : Below w.heap.size w w1 := ((Below.refl _ _).alloc (Nat.le_refl _) _).trans (hb1.mono (by simp))
  have hx1 : w1.cell? ⟨w.heap.size, 0, none⟩ = some (.slice A r.length c) := by
    rw [hb1.cell (by simp)]
    rw [cell_of_row _ _ _ _ _ _ (heap_alloc_new w _)]; rfl
  have hx0 : (w.alloc (.cells #[.slice A r.length c] 25)).heap.size = w.heap.size + 1 := by simp
  rw [hx0] at h1 hb1
  clear hx0 hb1
  go_loopw [10] (fun i wr => ∃ (k : Nat) (ys : List Int), k ≤ r.length ∧ i = .int .i64 k ∧ IB wr (w.heap.size + 1) 3 .i64 ys ∧ Hid (ys.length = r.length) ∧ Hid (ys.take k = places k) ∧ RowKit.Below w.heap.size w wr ∧
      wr.cell? ⟨w.heap.size, 0, none⟩ = some (.slice A r.length c)) (fun i _ => r.length - (intOf i).toNat)
  case atStart => exact ⟨0, _, Nat.zero_le _, rfl, h1, by show _ = _; simp, rfl, hB1, hx1⟩
  case round =>
    obtain ⟨k, ys, hk, rfl, hI, hy, ht, hb, hx⟩ := hrel
    by_cases hlt : k < r.length
    · have hyl : ys.length = r.length := hy.out
      have g1 := hI.cell (i := k) (by omega)
      have g2 := hI.frozen k
      have hI' := hI.set_ k k
      have hy' : Hid ((ys.set k (k : Int)).length = r.length) := by show _ = _; simpa using hyl
      have ht' : Hid ((ys.set k (k : Int)).take (k + 1) = places (k + 1)) := by
        show _ = _
        rw [take_set (by omega), ht.out, places_succ]
      have hb' := hb.setCell (p := ⟨w.heap.size + 1, k, none⟩) (by simp) (.int .i64 k)
      have hx' : (wr.setCell ⟨w.heap.size + 1, k, none⟩ (.int .i64 k)).cell? ⟨w.heap.size, 0, none⟩ = some (.slice A r.length c) := by
        rw [World.cell?_setCell_other _ _ _ _ (by intro e; simp at e)]; exact hx
      have i1 : (k : Int) < (r.length : Int) := by omega
      clear hI hyl
      go_wp2
      go_roundw
      case rel => exact ⟨k + 1, _, by omega, by go_num, hI', hy', ht', hb', hx'⟩
      case measure => simp [intOf]; omega
    · have hke : k = r.length := by omega
      subst hke
      have hys : ys = places r.length := by
        have := ht.out; rwa [List.take_of_length_le (by have := hy.out; omega)] at this
      subst hys
      have hsrt := sort_any r A c wr (w.heap.size + 1) w.heap.size hn hle hI hx (by omega) (hr.below hb (Nat.le_refl _)) (fun b o e => by
        obtain ⟨b', o', e', hc⟩ := hr.at_ hn
        rw [e] at e'; injection e' with e'; injection e' with e1 e2
        have := World.block_lt_of_cell? _ _ (hc 0 hn)
        simp only at this
        omega)
      have HSRT := Lib.hid hsrt
      clear hsrt hI hx hr hy ht
      go_wp2_with (go_at_call 38; refine (HSRT.out).mono ?_; rintro e w' ⟨rfl, hI2, hg2⟩)
      go_ret
      exact ⟨w.heap.size + 1, rfl, by omega, hI2, hb.grown hg2 hb.size (fun k hk => by injection hk with hk; omega)⟩
end Go.Proofs.Ytkidhjfoapdgjaa
