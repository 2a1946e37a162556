/- Roomy, at lists of byte. No conditions but that the list is not endless. -/
import Derived.Test.YteoclmmooeibhaaBSamebyte
import Derived.Laws.CopyOwn
import Derived.LoopTactic
namespace Go.Proofs.Yteoclmmooeibhaa.B_byte
set_option linter.unusedVariables false
open Go.Proofs.Yteoclmmooeibhaa Go.RowKit Go.Proofs.Fm

theorem Try.info5 : (Try.prog.info? 5).map (fun i => (i.zero, i.size, i.bytes)) = some (some (.int .u8 0), 1, 1) := by kernel_rfl
theorem Try.size5 : (Try.prog.info? 5).map (·.size) = some 1 := by kernel_rfl

theorem roomy_copy (xs : List Int) : splice ((List.replicate (xs.length + 80) (0 : Int)).map (Value.int .u8)) 0 (xs.map (Value.int .u8)) = (xs ++ List.replicate 80 (0 : Int)).map (Value.int .u8) := by
  simp [splice]

theorem roomy_step {xs ys : List Int} {m : Int} {k : Nat} (hy : ys.length = xs.length + 80) (hk : xs.length ≤ k) (hk' : k < xs.length + 80) (ht : ys.take k = xs ++ List.replicate (k - xs.length) m) :
    (ys.set k m).length = xs.length + 80 ∧ (ys.set k m).take (k + 1) = xs ++ List.replicate (k + 1 - xs.length) m := by
  refine ⟨by simpa using hy, ?_⟩
  rw [take_set (by omega), ht, show k + 1 - xs.length = (k - xs.length) + 1 from by omega, List.replicate_succ', List.append_assoc]

set_option maxHeartbeats 400000 in
theorem roomy_any (A : Option Addr) (c : Nat) (xs : List Int) (m : Int) (w : World) (ha : Row w .u8 A xs) (hx : xs.length ≤ 140737488351232) :
    Calls Try.prog 15 #[.slice A xs.length c, .int .u8 m] w fun e w' => ∃ g, e = .returned (.slice (some ⟨g, 0, none⟩) (xs.length + 80) (xs.length + 80)) ∧ w.heap.size ≤ g ∧
      IB w' g 5 .u8 (xs ++ List.replicate 80 m) ∧ Below w.heap.size w w' := by
  obtain ⟨i0, hi0, hz0, hs0, hb0⟩ := info_parts Try.info5
  have Hb0 : i0.bytes * (xs.length + 80) ≤ 281474976710656 := by rw [hb0]; omega
  have HZ := Lib.hid hz0
  have HS := Lib.hid hs0
  clear hz0 hs0 hb0
  have hpos : 0 < (xs.map (Value.int .u8)).length → ∀ w1, Below w.heap.size w w1 → ∃ ad, A = some ad ∧ ∀ j v, (xs.map (Value.int .u8))[j]? = some v → w1.cell? (ad.add j) = some v := by
    intro h w1 hb
    have hne : xs ≠ [] := by intro e; subst e; simp at h
    exact (ha.below hb (Nat.le_refl _)).src hne
  go_enter Try.func15, Try.ntmps15
  go_wp2_with (first
    | (refine wpList_make_big _ rfl (.tmp 9) (.tmp 9) 26 rfl 5 .u8 i0 Try.underlying26 hi0 HZ.out HS.out .i64 .i64 _ _ (xs.length + 80) rfl rfl (by omega) (by omega) Hb0 (by omega) ?_; intro w1 h1 hb1)
    | (refine wpList_copy_splice rfl (.tmp 11) (.tmp 12) 26 26 rfl 5 Try.underlying26 Try.size5 _ A _ _ xs.length c rfl rfl w.heap.size 0 ((List.replicate (xs.length + 80) (0 : Int)).map (Value.int .u8)) 5 h1 (xs.map (Value.int .u8)) (by simp) (fun h => ⟨rfl, hpos h _ hb1⟩) (by simp) (by simp [Value.oneCell']) w.heap.size w hb1 (Nat.le_refl _) ?_; intro w2 HG2 hB2))
  have h2 : IB w2 w.heap.size 5 .u8 (xs ++ List.replicate 80 (0 : Int)) := by
    have := HG2.out
    rwa [roomy_copy] at this
  clear HG2 h1 hb1 hpos
  go_loopw [6] (fun i wr => ∃ (k : Nat) (ys : List Int), xs.length ≤ k ∧ k ≤ xs.length + 80 ∧ i = .int .i64 k ∧ IB wr w.heap.size 5 .u8 ys ∧ ys.length = xs.length + 80 ∧ Hid (ys.take k = xs ++ List.replicate (k - xs.length) m) ∧ Below w.heap.size w wr) (fun i _ => xs.length + 80 - (intOf i).toNat)
  case atStart => exact ⟨xs.length, _, Nat.le_refl _, by omega, rfl, h2, by simp, by show _ = _; simp, hB2⟩
  case round =>
    obtain ⟨k, ys, hk, hk', rfl, hI, hy, ht, hb⟩ := hrel
    by_cases hlt : k < xs.length + 80
    · have g1 := hI.cell (i := k) (by omega)
      have g2 := hI.frozen k
      have hI' := hI.set_ k m
      have hs := Lib.hid (roomy_step hy hk hlt ht.out)
      have hb' := hb.setCell (p := ⟨w.heap.size, k, none⟩) (Nat.le_refl _) (.int .u8 m)
      clear hI
      have i1 : (k : Int) < (xs.length : Int) + 80 := by omega
      go_wp2
      go_roundw
      case rel => exact ⟨k + 1, _, by omega, by omega, by go_num, hI', hs.out.1, hs.out.2, hb'⟩
      case measure => simp [intOf]; omega
    · have hke : k = xs.length + 80 := by omega
      subst hke
      go_wp2
      go_ret
      refine ⟨w.heap.size, rfl, Nat.le_refl _, ?_, hb⟩
      have := ht.out
      rw [List.take_of_length_le (by omega), Nat.add_sub_cancel_left] at this
      rwa [this] at hI
theorem roomy_n (A : Option Addr) (n c : Nat) (xs : List Int) (hn : xs.length = n) (m : Int) (w : World) (ha : Row w .u8 A xs) (hx : n ≤ 140737488351232) :
    Calls Try.prog 15 #[.slice A n c, .int .u8 m] w fun e w' => ∃ g, e = .returned (.slice (some ⟨g, 0, none⟩) (n + 80) (n + 80)) ∧ w.heap.size ≤ g ∧
      IB w' g 5 .u8 (xs ++ List.replicate 80 m) ∧ Below w.heap.size w w' := by
  subst hn; exact roomy_any A c xs m w ha hx
theorem room_row {w : World} {g : Nat} {xs : List Int} {m : Int} (h : IB w g 5 .u8 (xs ++ List.replicate 80 m)) : Row w .u8 (some ⟨g, 0, none⟩) xs := by
  have := h.row.take xs.length
  rwa [List.take_left] at this
end Go.Proofs.Yteoclmmooeibhaa.B_byte
