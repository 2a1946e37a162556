import Derived.Test.YtkidhjfoapdgjaaSame
import Derived.Laws.CopyOwn
import Derived.LoopTactic
namespace Go.Proofs.Ytkidhjfoapdgjaa
set_option linter.unusedVariables false
open Go.RowKit Go.Proofs.Fx Go.Proofs.Fm

theorem Try.info2 : (Try.prog.info? 2).map (fun i => (i.zero, i.size, i.bytes)) = some (some (.int .i64 0), 1, 8) := by kernel_rfl
theorem Try.info3 : (Try.prog.info? 3).map (fun i => (i.zero, i.size, i.bytes)) = some (some (.int .i64 0), 1, 8) := by kernel_rfl
theorem Try.size2 : (Try.prog.info? 2).map (·.size) = some 1 := by kernel_rfl

theorem roomy_copy (xs : List Int) : splice ((List.replicate (xs.length + 80) (0 : Int)).map (Value.int .i64)) 0 (xs.map (Value.int .i64)) = (xs ++ List.replicate 80 (0 : Int)).map (Value.int .i64) := by
  simp [splice]

theorem roomy_step {xs ys : List Int} {m : Int} {k : Nat} (hy : ys.length = xs.length + 80) (hk : xs.length ≤ k) (hk' : k < xs.length + 80) (ht : ys.take k = xs ++ List.replicate (k - xs.length) m) :
    (ys.set k m).length = xs.length + 80 ∧ (ys.set k m).take (k + 1) = xs ++ List.replicate (k + 1 - xs.length) m := by
  refine ⟨by simpa using hy, ?_⟩
  rw [take_set (by omega), ht, show k + 1 - xs.length = (k - xs.length) + 1 from by omega, List.replicate_succ', List.append_assoc]

set_option maxHeartbeats 400000 in
theorem roomy_any (A : Option Addr) (c : Nat) (xs : List Int) (m : Int) (w : World) (ha : Row w .i64 A xs) (hx : xs.length ≤ 17592186044416) :
    Calls Try.prog 17 #[.slice A xs.length c, .int .i64 m] w fun e w' => ∃ g, e = .returned (.slice (some ⟨g, 0, none⟩) (xs.length + 80) (xs.length + 80)) ∧ w.heap.size ≤ g ∧
      IB w' g 2 .i64 (xs ++ List.replicate 80 m) ∧ Below w.heap.size w w' := by
  obtain ⟨i0, hi0, hz0, hs0, hb0⟩ := info_parts Try.info2
  have Hb0 : i0.bytes ≤ 8 := by omega
  have HZ := Lib.hid hz0
  have HS := Lib.hid hs0
  clear hz0 hs0 hb0
  have hpos : 0 < (xs.map (Value.int .i64)).length → ∀ w1, Below w.heap.size w w1 → ∃ ad, A = some ad ∧ ∀ j v, (xs.map (Value.int .i64))[j]? = some v → w1.cell? (ad.add j) = some v := by
    intro h w1 hb
    have hne : xs ≠ [] := by intro e; subst e; simp at h
    exact (ha.below hb (Nat.le_refl _)).src hne
  go_enter Try.func17, Try.ntmps17
  go_wp2_with (first
    | (refine wpList_make_ints _ rfl (.tmp 9) (.tmp 9) 25 rfl 2 .i64 i0 Try.underlying25 hi0 HZ.out HS.out Hb0 .i64 .i64 _ _ (xs.length + 80) rfl rfl (by omega) (by omega) (by omega) ?_; intro w1 h1 hb1)
    | (refine wpList_copy_splice rfl (.tmp 11) (.tmp 12) 25 25 rfl 2 Try.underlying25 Try.size2 _ A _ _ xs.length c rfl rfl w.heap.size 0 ((List.replicate (xs.length + 80) (0 : Int)).map (Value.int .i64)) 2 h1 (xs.map (Value.int .i64)) (by simp) (fun h => ⟨rfl, hpos h _ hb1⟩) (by simp) (by simp [Value.oneCell']) w.heap.size w hb1 (Nat.le_refl _) ?_; intro w2 HG2 hB2))
  have h2 : IB w2 w.heap.size 2 .i64 (xs ++ List.replicate 80 (0 : Int)) := by
    have := HG2.out
    rwa [roomy_copy] at this
  clear HG2 h1 hb1 hpos
  go_loopw [6] (fun i wr => ∃ (k : Nat) (ys : List Int), xs.length ≤ k ∧ k ≤ xs.length + 80 ∧ i = .int .i64 k ∧ IB wr w.heap.size 2 .i64 ys ∧ ys.length = xs.length + 80 ∧ Hid (ys.take k = xs ++ List.replicate (k - xs.length) m) ∧ Below w.heap.size w wr) (fun i _ => xs.length + 80 - (intOf i).toNat)
  case atStart => exact ⟨xs.length, _, Nat.le_refl _, by omega, rfl, h2, by simp, by show _ = _; simp, hB2⟩
  case round =>
    obtain ⟨k, ys, hk, hk', rfl, hI, hy, ht, hb⟩ := hrel
    by_cases hlt : k < xs.length + 80
    · have g1 := hI.cell (i := k) (by omega)
      have g2 := hI.frozen k
      have hI' := hI.set_ k m
      have hs := Lib.hid (roomy_step hy hk hlt ht.out)
      have hb' := hb.setCell (p := ⟨w.heap.size, k, none⟩) (Nat.le_refl _) (.int .i64 m)
      clear hI
      have i1 : (k : Int) < (xs.length : Int) + 80 := by omega
      go_wp2
      go_roundw
      case rel => exact ⟨k + 1, _, by omega, by omega, by go_num, hI', hs.out.1, hs.out.2, hb'⟩
      case measure => simp [intOf]; omega
    · have hke : k = xs.length + 80 := by omega
      subst hke
      go_wp2
      go_ret
      refine ⟨w.heap.size, rfl, Nat.le_refl _, ?_, hb⟩
      have := ht.out
      rw [List.take_of_length_le (by omega), Nat.add_sub_cancel_left] at this
      rwa [this] at hI
end Go.Proofs.Ytkidhjfoapdgjaa
