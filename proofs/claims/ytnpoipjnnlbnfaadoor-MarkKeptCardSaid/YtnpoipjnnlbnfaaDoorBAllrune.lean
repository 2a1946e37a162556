/- Same, at lists of rune. No conditions. Roomy, at lists of rune. No conditions but that the list is not endless. Intact, at lists of rune: true where they are as they were. No conditions. -/
import Derived.Test.YtnpoipjnnlbnfaaDoorBase
import Derived.Test.YtnpoipjnnlbnfaaDoorMem
import Derived.LoopTactic
import Derived.Deep.QuietTactic
import Derived.BigQuiet
import Derived.Laws.CopyOwn
namespace Go.Proofs.YtnpoipjnnlbnfaaDoor.B_rune
set_option linter.unusedVariables false
open Go.Proofs.YtnpoipjnnlbnfaaDoor Go.RowKit Go.Proofs.Fm

set_option maxHeartbeats 400000 in
theorem same_any (A B : Option Addr) (c d : Nat) (xs ys : List Int) (w : World) (ha : Row w .i32 A xs) (hb : Row w .i32 B ys) (hx : xs.length ≤ 9223372036854775807) :
    Calls Tryd.prog 51 #[.slice A xs.length c, .slice B ys.length d] w fun e w' => e = .returned (.bool (decide (xs = ys))) ∧ ∃ q, w.drewN q = w' := by
  by_cases hl : xs.length = ys.length
  · have h2 : ((xs.length : Int) != (ys.length : Int)) = false := by rw [bne_eq_false_iff_eq]; omega
    have HL := Lib.hid hl
    have hle : ys.length ≤ xs.length := by omega
    have hle' : xs.length ≤ ys.length := by omega
    clear hl
    go_enter Tryd.func51, Tryd.ntmps51
    go_wp2
    go_loopw [5] (fun i wr => ∃ k q : Nat, k ≤ xs.length ∧ i = .int .i64 k ∧ Hid (xs.take k = ys.take k) ∧ wr = w.drewN q) (fun i _ => xs.length - (intOf i).toNat)
    case atStart => exact ⟨0, 0, Nat.zero_le _, rfl, rfl, rfl⟩
    case round =>
      obtain ⟨k, q, hk, rfl, ht, rfl⟩ := hrel
      by_cases hlt : k < xs.length
      · obtain ⟨b1, o1, rfl, hc1⟩ := ha.at_ hlt
        obtain ⟨b2, o2, rfl, hc2⟩ := hb.at_ (i := k) (by omega)
        have g1 := hc1 k hlt
        have g2 := hc2 k (by omega)
        clear hc1 hc2 ha hb
        generalize hu : xs.getD k 0 = u at g1
        generalize hv : ys.getD k 0 = v at g2
        have HU := Lib.hid hu
        have HV := Lib.hid hv
        clear hu hv
        have i1 : (k : Int) < (xs.length : Int) := by omega
        have i2 : (k : Int) < (ys.length : Int) := by omega
        go_wp2
        go_quiet (fail)
        go_wp2
        · have hne : (u != v) = true := by assumption
          go_ret
          exact ⟨by rw [take_part hlt (by omega) (by rw [HU.out, HV.out]; simpa using hne)]; rfl, q + nq, (World.drewN_drewN _ _ _).symm⟩
        · have he : (u != v) = false := by assumption
          have hs := Lib.hid (take_step hlt (by omega) ht.out (by rw [HU.out, HV.out]; simpa using he))
          clear he
          go_roundw
          case rel => exact ⟨k + 1, q + nq, by omega, by go_num, hs, rfl⟩
          case measure => simp [intOf]; omega
      · have hke : k = xs.length := by omega
        subst hke
        go_wp2
        go_ret
        have h1 : xs = ys := by
          have := ht.out; rwa [List.take_of_length_le (Nat.le_refl _), List.take_of_length_le hle] at this
        exact ⟨by rw [decide_eq_true h1]; rfl, q, rfl⟩
  · have h1 : decide (xs = ys) = false := by
      rw [decide_eq_false_iff_not]; intro e; exact hl (by rw [e])
    have H1 := Lib.hid h1
    clear h1
    have h2 : ((xs.length : Int) != (ys.length : Int)) = true := by rw [bne_iff_ne]; omega
    clear ha hb
    go_enter Tryd.func51, Tryd.ntmps51
    go_wp2
    go_ret
    exact ⟨by rw [H1.out]; rfl, 0, rfl⟩
theorem same_n (A B : Option Addr) (n c d : Nat) (xs : List Int) (hn : xs.length = n) (w : World) (ha : Row w .i32 A xs) (hb : Row w .i32 B xs) (hx : n ≤ 17592186044416) :
    Calls Tryd.prog 51 #[.slice A n c, .slice B n d] w fun e w' => e = .returned (.bool true) ∧ ∃ q, w.drewN q = w' := by
  subst hn
  have h := same_any A B c d xs xs w ha hb (by omega)
  rw [decide_eq_true rfl] at h
  exact h
end Go.Proofs.YtnpoipjnnlbnfaaDoor.B_rune
namespace Go.Proofs.YtnpoipjnnlbnfaaDoor.B_rune
set_option linter.unusedVariables false
open Go.Proofs.YtnpoipjnnlbnfaaDoor Go.RowKit Go.Proofs.Fm

theorem Tryd.info21 : (Tryd.prog.info? 21).map (fun i => (i.zero, i.size, i.bytes)) = some (some (.int .i32 0), 1, 4) := by kernel_rfl
theorem Tryd.size21 : (Tryd.prog.info? 21).map (·.size) = some 1 := by kernel_rfl

theorem roomy_copy (xs : List Int) : splice ((List.replicate (xs.length + 80) (0 : Int)).map (Value.int .i32)) 0 (xs.map (Value.int .i32)) = (xs ++ List.replicate 80 (0 : Int)).map (Value.int .i32) := by
  simp [splice]

theorem roomy_step {xs ys : List Int} {m : Int} {k : Nat} (hy : ys.length = xs.length + 80) (hk : xs.length ≤ k) (hk' : k < xs.length + 80) (ht : ys.take k = xs ++ List.replicate (k - xs.length) m) :
    (ys.set k m).length = xs.length + 80 ∧ (ys.set k m).take (k + 1) = xs ++ List.replicate (k + 1 - xs.length) m := by
  refine ⟨by simpa using hy, ?_⟩
  rw [take_set (by omega), ht, show k + 1 - xs.length = (k - xs.length) + 1 from by omega, List.replicate_succ', List.append_assoc]

set_option maxHeartbeats 400000 in
theorem roomy_any (A : Option Addr) (c : Nat) (xs : List Int) (m : Int) (w : World) (ha : Row w .i32 A xs) (hx : xs.length ≤ 17592186044416) :
    Calls Tryd.prog 20 #[.slice A xs.length c, .int .i32 m] w fun e w' => ∃ g, e = .returned (.slice (some ⟨g, 0, none⟩) (xs.length + 80) (xs.length + 80)) ∧ w.heap.size ≤ g ∧
      IB w' g 21 .i32 (xs ++ List.replicate 80 m) ∧ Below w.heap.size w w' := by
  obtain ⟨i0, hi0, hz0, hs0, hb0⟩ := info_parts Tryd.info21
  have Hb0 : i0.bytes * (xs.length + 80) ≤ 281474976710656 := by rw [hb0]; omega
  have HZ := Lib.hid hz0
  have HS := Lib.hid hs0
  clear hz0 hs0 hb0
  have hpos : 0 < (xs.map (Value.int .i32)).length → ∀ w1, Below w.heap.size w w1 → ∃ ad, A = some ad ∧ ∀ j v, (xs.map (Value.int .i32))[j]? = some v → w1.cell? (ad.add j) = some v := by
    intro h w1 hb
    have hne : xs ≠ [] := by intro e; subst e; simp at h
    exact (ha.below hb (Nat.le_refl _)).src hne
  go_enter Tryd.func20, Tryd.ntmps20
  go_wp2_with (first
    | (refine wpList_make_big _ rfl (.tmp 9) (.tmp 9) 32 rfl 21 .i32 i0 Tryd.underlying32 hi0 HZ.out HS.out .i64 .i64 _ _ (xs.length + 80) rfl rfl (by omega) (by omega) Hb0 (by omega) ?_; intro w1 h1 hb1)
    | (refine wpList_copy_splice rfl (.tmp 11) (.tmp 12) 32 32 rfl 21 Tryd.underlying32 Tryd.size21 _ A _ _ xs.length c rfl rfl w.heap.size 0 ((List.replicate (xs.length + 80) (0 : Int)).map (Value.int .i32)) 21 h1 (xs.map (Value.int .i32)) (by simp) (fun h => ⟨rfl, hpos h _ hb1⟩) (by simp) (by simp [Value.oneCell']) w.heap.size w hb1 (Nat.le_refl _) ?_; intro w2 HG2 hB2))
  have h2 : IB w2 w.heap.size 21 .i32 (xs ++ List.replicate 80 (0 : Int)) := by
    have := HG2.out
    rwa [roomy_copy] at this
  clear HG2 h1 hb1 hpos
  go_loopw [6] (fun i wr => ∃ (k : Nat) (ys : List Int), xs.length ≤ k ∧ k ≤ xs.length + 80 ∧ i = .int .i64 k ∧ IB wr w.heap.size 21 .i32 ys ∧ ys.length = xs.length + 80 ∧ Hid (ys.take k = xs ++ List.replicate (k - xs.length) m) ∧ Below w.heap.size w wr) (fun i _ => xs.length + 80 - (intOf i).toNat)
  case atStart => exact ⟨xs.length, _, Nat.le_refl _, by omega, rfl, h2, by simp, by show _ = _; simp, hB2⟩
  case round =>
    obtain ⟨k, ys, hk, hk', rfl, hI, hy, ht, hb⟩ := hrel
    by_cases hlt : k < xs.length + 80
    · have g1 := hI.cell (i := k) (by omega)
      have g2 := hI.frozen k
      have hI' := hI.set_ k m
      have hs := Lib.hid (roomy_step hy hk hlt ht.out)
      have hb' := hb.setCell (p := ⟨w.heap.size, k, none⟩) (Nat.le_refl _) (.int .i32 m)
      clear hI
      have i1 : (k : Int) < (xs.length : Int) + 80 := by omega
      go_wp2
      go_roundw
      case rel => exact ⟨k + 1, _, by omega, by omega, by go_num, hI', hs.out.1, hs.out.2, hb'⟩
      case measure => simp [intOf]; omega
    · have hke : k = xs.length + 80 := by omega
      subst hke
      go_wp2
      go_ret
      refine ⟨w.heap.size, rfl, Nat.le_refl _, ?_, hb⟩
      have := ht.out
      rw [List.take_of_length_le (by omega), Nat.add_sub_cancel_left] at this
      rwa [this] at hI
theorem roomy_n (A : Option Addr) (n c : Nat) (xs : List Int) (hn : xs.length = n) (m : Int) (w : World) (ha : Row w .i32 A xs) (hx : n ≤ 17592186044416) :
    Calls Tryd.prog 20 #[.slice A n c, .int .i32 m] w fun e w' => ∃ g, e = .returned (.slice (some ⟨g, 0, none⟩) (n + 80) (n + 80)) ∧ w.heap.size ≤ g ∧
      IB w' g 21 .i32 (xs ++ List.replicate 80 m) ∧ Below w.heap.size w w' := by
  subst hn; exact roomy_any A c xs m w ha hx
theorem room_row {w : World} {g : Nat} {xs : List Int} {m : Int} (h : IB w g 21 .i32 (xs ++ List.replicate 80 m)) : Row w .i32 (some ⟨g, 0, none⟩) xs := by
  have := h.row.take xs.length
  rwa [List.take_left] at this
end Go.Proofs.YtnpoipjnnlbnfaaDoor.B_rune
namespace Go.Proofs.YtnpoipjnnlbnfaaDoor.B_rune
set_option linter.unusedVariables false
open Go.Proofs.YtnpoipjnnlbnfaaDoor Go.RowKit Go.Proofs.Fm

theorem getD_rep (xs : List Int) (m : Int) (k : Nat) (h : xs.length ≤ k) (h' : k < xs.length + 80) : (xs ++ List.replicate 80 m).getD k 0 = m := by
  rw [List.getD_eq_getElem?_getD, List.getElem?_append_right h, List.getElem?_replicate_of_lt (by omega)]; rfl

set_option maxHeartbeats 400000 in
theorem intact_yes (g : Nat) (A : Option Addr) (c : Nat) (xs : List Int) (m : Int) (w : World) (hI : IB w g 21 .i32 (xs ++ List.replicate 80 m)) (ha : Row w .i32 A xs) (hx : xs.length ≤ 17592186044416) :
    Calls Tryd.prog 24 #[.slice (some ⟨g, 0, none⟩) (xs.length + 80) (xs.length + 80), .slice A xs.length c, .int .i32 m] w fun e w' => e = .returned (.bool true) ∧ ∃ q, w.drewN q = w' := by
  have hr : Row w .i32 (some ⟨g, 0, none⟩) xs := by
    have := hI.row.take xs.length
    rwa [List.take_left] at this
  have hs := same_any (some ⟨g, 0, none⟩) A (xs.length + 80) c xs xs w hr ha (by omega)
  rw [decide_eq_true rfl] at hs
  have HS := Lib.hid hs
  have h1 : ((xs.length : Int) + 80 != (xs.length : Int) + 80) = false := by simp
  clear hr hs ha
  go_enter Tryd.func24, Tryd.ntmps24
  go_wp2_with (go_at_call 51; refine (HS.out).mono ?_; rintro e w' ⟨rfl, q, rfl⟩)
  go_loopw [7] (fun i wr => ∃ (k : Nat), xs.length ≤ k ∧ k ≤ xs.length + 80 ∧ i = .int .i64 k ∧ ∃ q, wr = w.drewN q) (fun i _ => xs.length + 80 - (intOf i).toNat)
  case atStart => exact ⟨xs.length, Nat.le_refl _, by omega, rfl, _, rfl⟩
  case round =>
    obtain ⟨k, hk, hk', rfl, q', rfl⟩ := hrel
    by_cases hlt : k < xs.length + 80
    · have g1 := hI.cell (i := k) (by simp; omega)
      rw [getD_rep xs m k hk hlt] at g1
      have i1 : (k : Int) < (xs.length : Int) + 80 := by omega
      go_wp2
      go_roundw
      case rel => exact ⟨k + 1, by omega, by omega, by go_num, _, rfl⟩
      case measure => simp [intOf]; omega
    · have hke : k = xs.length + 80 := by omega
      subst hke
      go_wp2
      go_ret
      exact ⟨rfl, q', rfl⟩
theorem intact_n (g : Nat) (A : Option Addr) (n c : Nat) (xs : List Int) (hn : xs.length = n) (m : Int) (w : World) (hI : IB w g 21 .i32 (xs ++ List.replicate 80 m)) (ha : Row w .i32 A xs) (hx : n ≤ 17592186044416) :
    Calls Tryd.prog 24 #[.slice (some ⟨g, 0, none⟩) (n + 80) (n + 80), .slice A n c, .int .i32 m] w fun e w' => e = .returned (.bool true) ∧ ∃ q, w.drewN q = w' := by
  subst hn; exact intact_yes g A c xs m w hI ha hx
end Go.Proofs.YtnpoipjnnlbnfaaDoor.B_rune
