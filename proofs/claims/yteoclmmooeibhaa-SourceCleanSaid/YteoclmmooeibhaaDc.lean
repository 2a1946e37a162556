/- source.Decode: bytes as runes, in a block of its own. No conditions. -/
import Derived.Test.YteoclmmooeibhaaBase
import Derived.Test.YteoclmmooeibhaaMr
import Derived.Test.YteoclmmooeibhaaUtf
namespace Go.Proofs.Yteoclmmooeibhaa
set_option linter.unusedVariables false
open Go.RowKit Go.Proofs.Fm Go.Proofs.Fb Go.Proofs.Fu

theorem Try.runeInfo : (Try.prog.info? 21).map (fun i => (i.zero, i.size, i.bytes)) = some (some (.int .i32 0), 1, 4) := by kernel_rfl

/-- too long: none, and the reason -/
theorem decode_long (A : Option Addr) (n c : Nat) (w : World) (h : 65536 < n) :
    Calls Try.prog 8 #[.slice A n c] w fun e w' => e = .returned (.tuple #[.slice none 0 0, .int .i64 3]) ∧ w = w' := by
  have h1 : (65536 : Int) < (n : Int) := by omega
  go_enter Try.func8, Try.ntmps8
  go_wp2
  go_ret2
  exact ⟨rfl, rfl⟩

/-- one place of the room filled -/
theorem fill_step {acc zs : List Int} {v : Int} (h : 0 < zs.length) : (acc ++ zs).set acc.length v = (acc ++ [v]) ++ zs.drop 1 := by
  rcases zs with _ | ⟨z, zs⟩
  · simp at h
  · simp

theorem new_cell (w : World) (v : Value) (t : TypeId) : (w.alloc (.cells #[v] t)).cell? ⟨w.heap.size, 0, none⟩ = some v := by
  rw [cell_of_row _ w.heap.size 0 #[v] t (0, 0) (heap_alloc_new w _)]; rfl
/-- the world behind one append of the loop -/
theorem fill_world {w W w' : World} {g j pos : Nat} {s : ByteArray} {o : Obj} (hit : W.heap[j]? = some (.stringIter s pos)) (hb : Below g w W) (hgr : (W.alloc o).grownBy w' (some g)) (hgj : g < j) :
    w'.heap[j]? = some (.stringIter s pos) ∧ Below g w w' := by
  have hlt : j < W.heap.size := (Array.getElem?_eq_some_iff.1 hit).1
  refine ⟨(hgr.block j (by simp; omega) (by simp; omega)).trans ((Below.heap_alloc W o j hlt).trans hit), ?_⟩
  exact (hb.alloc (by omega) o).grown hgr (by simp; omega) (fun k hk => by injection hk with hk; omega)

set_option maxRecDepth 1000000 in
set_option maxHeartbeats 4000000 in
theorem decode_any (A : Option Addr) (n c : Nat) (xs : List Int) (hn : xs.length = n) (w : World) (ha : Row w .u8 A xs) (hx : n ≤ 65536) :
    Calls Try.prog 8 #[.slice A n c] w fun e w' => ∃ zs, e = .returned (.tuple #[.slice (some ⟨w.heap.size, 0, none⟩) (dec xs).length n, .int .i64 0]) ∧
      IB w' w.heap.size 21 .i32 (dec xs ++ zs) ∧ (dec xs).length + zs.length = n ∧ Below w.heap.size w w' := by
  obtain ⟨i0, hi0, hz0, hs0, hb0⟩ := info_parts Try.runeInfo
  have Hb0 : i0.bytes * n ≤ 281474976710656 := by rw [hb0]; omega
  have h1 : ¬ ((65536 : Int) < (n : Int)) := by omega
  have HN := Lib.hid hn
  have hcv : ∀ w1, Below w.heap.size w w1 → ∀ dst, Try.prog.underlying dst = some .string → (convert 26 dst (.slice A n c)).run Try.prog w1 = .ok (.string (strOfNums xs)) w1 :=
    fun w1 hb => run_text w1 26 5 Try.underlying26 Try.underlying5 A n c xs hn (ha.below hb (Nat.le_refl _))
  go_enter Try.func8, Try.ntmps8
  go_wp2_with (first
    | (refine wpList_make_room _ rfl (.const (.int .i64 0)) (.tmp 12) 22 rfl 21 .i32 i0 Try.underlying22 hi0 hz0 hs0 .i64 .i64 _ n rfl rfl rfl Hb0 (by omega) ?_; intro w1 hw1 hb1; have hcv1 := hcv _ hb1 9 Try.underlying9)
    | fail)
  have hsz1 : w.heap.size < w1.heap.size := hw1.lt
  have hss : (strOfNums xs).size = n := by rw [strOfNums_size, hn]
  have hit := World.iter_heap w1 (strOfNums xs) 0
  have hI1 : IB (w1.iter (strOfNums xs) 0) w.heap.size 21 .i32 (List.replicate n 0) := hw1.alloc _
  have hB1 : Below w.heap.size w (w1.iter (strOfNums xs) 0) := hb1.alloc (by omega) _
  clear hcv hcv1 ha hw1 hb1
  obtain ⟨j, hj⟩ : ∃ j, w1.heap.size = j := ⟨_, rfl⟩
  rw [hj] at hit hsz1 ⊢
  go_loopw [4, 5] (fun v b wr => ∃ (pos : Nat) (acc zs : List Int) (bb : Bool), v = .slice (some ⟨w.heap.size, 0, none⟩) acc.length n ∧ b = .bool bb ∧ IB wr w.heap.size 21 .i32 (acc ++ zs) ∧ acc.length + zs.length = n ∧ acc.length ≤ pos ∧ pos ≤ n ∧
      wr.heap[j]? = some (.stringIter (strOfNums xs) pos) ∧ Below w.heap.size w wr ∧ Hid (acc ++ clean bb (runesB ((bytesOf xs).drop pos)) = dec xs)) (fun _ _ wr => n - wr.iterPos j)
  case atStart => exact ⟨0, [], _, false, rfl, rfl, hI1, by simp, by simp, by omega, hit, hB1, rfl⟩
  case round =>
    obtain ⟨pos, acc, zs, bb, rfl, rfl, hI, hlen, hap, hpn, hit, hbw, hac⟩ := hrel
    by_cases hp : pos < n
    · have hnx : ∀ ty, (Instr.next (.pointer (some ⟨j, 0, none⟩)) true ty).run Try.prog wr = _ := fun ty => Lib.run_next_any_at wr j (strOfNums xs) pos ty hit (by omega)
      have hd1 := width_ge xs pos
      have hd2 := width_le xs pos (by omega)
      have hr1 := rune_small xs pos
      have hst := Lib.hid (runes_at xs pos (by omega))
      have HI2 := Lib.hid (hI.iter (j := j) (pos := pos + (Utf8.decode (strOfNums xs) pos).2) (strOfNums xs) (by omega))
      have HIT2 := Lib.hid (Lib.iterAt_heap wr j (strOfNums xs) pos (pos + (Utf8.decode (strOfNums xs) pos).2) hit)
      have HB2 := Lib.hid (Lib.below_iterAt hbw (k := j) (by omega) (strOfNums xs) (pos + (Utf8.decode (strOfNums xs) pos).2))
      have HS := Lib.hid hs0
      obtain ⟨W, hW⟩ : ∃ W, wr.iterAt j (strOfNums xs) (pos + (Utf8.decode (strOfNums xs) pos).2) = W := ⟨_, rfl⟩
      rw [hW] at hnx HI2 HIT2 HB2
      clear hW
      obtain ⟨r, hr⟩ : ∃ r, (Utf8.decode (strOfNums xs) pos).1 = r := ⟨_, rfl⟩
      obtain ⟨d, hd⟩ : ∃ d, (Utf8.decode (strOfNums xs) pos).2 = d := ⟨_, rfl⟩
      rw [hr] at hnx hr1 hst
      rw [hd] at hd1 hd2 hst HIT2
      clear hr hd hI hbw hs0
      have hjW : j < W.heap.size := (Array.getElem?_eq_some_iff.1 HIT2.out).1
      by_cases c1 : r = 10 ∧ bb = true
      · obtain ⟨rfl, rfl⟩ := c1
        go_wp2
        go_roundw
        case rel =>
          refine ⟨pos + d, acc, zs, false, rfl, rfl, HI2.out, hlen, by omega, by omega, HIT2.out, HB2.out, ?_⟩
          have hh := hac.out
          rw [hst.out, clean_10] at hh
          exact hh
        case measure => simp [World.iterPos, HIT2.out, hit]; omega
      · have q1 : ((r : Int) == 10 && bb) = false := by
          rcases bb with _ | _
          · simp
          · have : r ≠ 10 := fun e => c1 ⟨e, rfl⟩
            simp; omega
        by_cases c2 : r = 13
        · subst c2
          rcases bb with _ | _
          all_goals
            go_wp2_with (refine wpList_append_slot rfl (.tmp 33) (.tmp 34) 22 rfl 21 .i32 i0 Try.underlying22 hi0 HS.out w.heap.size acc.length n _ (HI2.out.alloc _) rfl (by simp; omega) (by omega) W.heap.size 1 _ rfl (new_cell W _ 21) ?_; intro W2 hI3 hg3; have F3 := Lib.hid (fill_world HIT2.out HB2.out hg3 hsz1); have HI3 := Lib.hid hI3; clear hI3 hg3)
            go_roundw
            case rel =>
              refine ⟨pos + d, acc ++ [10], zs.drop 1, _, by rw [List.length_append]; rfl, rfl, ?_, by simp; omega, by simp; omega, by omega, F3.out.1, F3.out.2, ?_⟩
              · have := HI3.out
                rwa [fill_step (by omega)] at this
              · have hh := hac.out
                rw [hst.out] at hh
                show _ = _
                rw [← hh, clean_13, List.append_assoc]; rfl
            case measure => simp [World.iterPos, F3.out.1, hit]; omega
        · by_cases c3 : r = 0
          · subst c3
            rcases bb with _ | _
            all_goals
              go_wp2_with (refine wpList_append_slot rfl (.tmp 39) (.tmp 40) 22 rfl 21 .i32 i0 Try.underlying22 hi0 HS.out w.heap.size acc.length n _ (HI2.out.alloc _) rfl (by simp; omega) (by omega) W.heap.size 1 _ rfl (new_cell W _ 21) ?_; intro W2 hI3 hg3; have F3 := Lib.hid (fill_world HIT2.out HB2.out hg3 hsz1); have HI3 := Lib.hid hI3; clear hI3 hg3)
              go_roundw
              case rel =>
                refine ⟨pos + d, acc ++ [65533], zs.drop 1, _, by rw [List.length_append]; rfl, rfl, ?_, by simp; omega, by simp; omega, by omega, F3.out.1, F3.out.2, ?_⟩
                · have := HI3.out
                  rwa [fill_step (by omega)] at this
                · have hh := hac.out
                  rw [hst.out] at hh
                  show _ = _
                  rw [← hh, clean_0, List.append_assoc]; rfl
              case measure => simp [World.iterPos, F3.out.1, hit]; omega
          · have q2 : ((r : Int) == 13) = false := by simp; omega
            have q3 : ((r : Int) == 0) = false := by simp; omega
            rcases bb with _ | _
            · rcases Nat.decEq r 10 with q4 | q4
              · have q5 : ((r : Int) == 10) = false := by simp; omega
                go_wp2_with (refine wpList_append_slot rfl (.tmp 20) (.tmp 22) 22 rfl 21 .i32 i0 Try.underlying22 hi0 HS.out w.heap.size acc.length n _ (HI2.out.alloc _) rfl (by simp; omega) (by omega) W.heap.size 1 _ rfl (new_cell W _ 21) ?_; intro W2 hI3 hg3; have F3 := Lib.hid (fill_world HIT2.out HB2.out hg3 hsz1); have HI3 := Lib.hid hI3; clear hI3 hg3)
                go_roundw
                case rel =>
                  refine ⟨pos + d, acc ++ [(r : Int)], zs.drop 1, _, by rw [List.length_append]; rfl, rfl, ?_, by simp; omega, by simp; omega, by omega, F3.out.1, F3.out.2, ?_⟩
                  · have := HI3.out
                    rwa [fill_step (by omega)] at this
                  · have hh := hac.out
                    rw [hst.out] at hh
                    show _ = _
                    rw [← hh, clean_r _ _ _ c1 c2 c3, List.append_assoc]; rfl
                case measure => simp [World.iterPos, F3.out.1, hit]; omega
              · subst q4
                go_wp2_with (refine wpList_append_slot rfl (.tmp 20) (.tmp 22) 22 rfl 21 .i32 i0 Try.underlying22 hi0 HS.out w.heap.size acc.length n _ (HI2.out.alloc _) rfl (by simp; omega) (by omega) W.heap.size 1 _ rfl (new_cell W _ 21) ?_; intro W2 hI3 hg3; have F3 := Lib.hid (fill_world HIT2.out HB2.out hg3 hsz1); have HI3 := Lib.hid hI3; clear hI3 hg3)
                go_roundw
                case rel =>
                  refine ⟨pos + d, acc ++ [((10 : Nat) : Int)], zs.drop 1, _, by rw [List.length_append]; rfl, rfl, ?_, by simp; omega, by simp; omega, by omega, F3.out.1, F3.out.2, ?_⟩
                  · have := HI3.out
                    rwa [fill_step (by omega)] at this
                  · have hh := hac.out
                    rw [hst.out] at hh
                    show _ = _
                    rw [← hh, clean_r _ _ _ c1 c2 c3, List.append_assoc]; rfl
                case measure => simp [World.iterPos, F3.out.1, hit]; omega
            · have q5 : ((r : Int) == 10) = false := by
                have : r ≠ 10 := fun e => c1 ⟨e, rfl⟩
                simp; omega
              go_wp2_with (refine wpList_append_slot rfl (.tmp 20) (.tmp 22) 22 rfl 21 .i32 i0 Try.underlying22 hi0 HS.out w.heap.size acc.length n _ (HI2.out.alloc _) rfl (by simp; omega) (by omega) W.heap.size 1 _ rfl (new_cell W _ 21) ?_; intro W2 hI3 hg3; have F3 := Lib.hid (fill_world HIT2.out HB2.out hg3 hsz1); have HI3 := Lib.hid hI3; clear hI3 hg3)
              go_roundw
              case rel =>
                refine ⟨pos + d, acc ++ [(r : Int)], zs.drop 1, _, by rw [List.length_append]; rfl, rfl, ?_, by simp; omega, by simp; omega, by omega, F3.out.1, F3.out.2, ?_⟩
                · have := HI3.out
                  rwa [fill_step (by omega)] at this
                · have hh := hac.out
                  rw [hst.out] at hh
                  show _ = _
                  rw [← hh, clean_r _ _ _ c1 c2 c3, List.append_assoc]; rfl
              case measure => simp [World.iterPos, F3.out.1, hit]; omega
    · have hnx : ∀ ty, (Instr.next (.pointer (some ⟨j, 0, none⟩)) true ty).run Try.prog wr = _ := fun ty => Lib.run_next_end_at wr j (strOfNums xs) pos ty hit (by omega)
      go_wp2
      go_ret2
      have hh := hac.out
      rw [runes_over xs pos (by omega)] at hh
      simp only [clean, List.append_nil] at hh
      subst hh
      exact ⟨zs, rfl, hI, hlen, hbw⟩
end Go.Proofs.Yteoclmmooeibhaa
