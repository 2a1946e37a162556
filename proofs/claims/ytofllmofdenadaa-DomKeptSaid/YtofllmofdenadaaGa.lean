/- An iterator over numbers: what dom's All hands back, ranged over. No conditions. -/
import Derived.Test.YtofllmofdenadaaDd
import Derived.RangeFuncNested
import Derived.RangeFuncBound
import Derived.RangeFuncCalls
import Derived.RangeFuncLeaves
import Derived.RangeFuncFrom
import Derived.Shelf.Abstract
import Derived.Shelf.RegionOpen
import Derived.WalkKit
import Derived.OwnWalkIn
import Derived.TacticsInMore
import Derived.LoopNIn
import Derived.LoopIn
namespace Go.Proofs.Ytofllmofdenadaa
set_option linter.unusedVariables false
open Go.RowKit Go.Shelf Go.Proofs.Fm Go.Proofs.Fb Go.Proofs.Fd Go.Proofs.Fc
attribute [local go_sem] Oper.semAt_some

/-- the numbers from f on, k of them -/
def nums (f : Int) (k : Nat) : List Int := (List.range k).map fun (j : Nat) => f + (j : Int)
theorem nums_succ (f : Int) (k : Nat) : nums f (k + 1) = nums f k ++ [f + (k : Int)] := by simp [nums, List.range_succ]
theorem nums_length (f : Int) (k : Nat) : (nums f k).length = k := by simp [nums]
set_option maxRecDepth 100000 in
set_option maxHeartbeats 2000000 in
theorem all1_in (F : Fence) (n : Nat) (h44 : F.fn 44) (hro : F.round = none) (hn : 1 ≤ n) (l B3 B5 n₀ : Nat) (f : Int) (k : Nat) (hf : -9223372036854775808 ≤ f) (he : f + (k : Int) ≤ 9223372036854775807) (hb : B5 < n₀) (J Jx : List Int → World → Prop)
    (hY : ∀ pre x W, J pre W → pre.length < k → YieldAt F (n - 1) Try.prog l #[.int .i64 x] W fun e W' =>
      (e = .returned (.bool true) ∧ J (pre ++ [x]) W' ∧ Below n₀ W W') ∨ (e = .returned (.bool false) ∧ Jx (pre ++ [x]) W'))
    (W : World) (h3 : W.cell? ⟨B3, 0, none⟩ = some (.int .i64 f)) (h5 : W.cell? ⟨B5, 0, none⟩ = some (.int .i64 (f + (k : Int)))) (h0 : J [] W) :
    CallsIn F n Try.prog 44 #[.func (.yield l) #[] #[], .pointer (some ⟨B3, 0, none⟩), .pointer (some ⟨B5, 0, none⟩)] W fun e W' => (∃ v, e = .returned v) ∧
      ((∃ ys, ys = nums f k ∧ J ys W') ∨ (∃ pre, (∃ j, j ≤ k ∧ pre = nums f j) ∧ Jx pre W')) := by
  refine callsIn_of_wp Try.func44 rfl h44 ?_ hro
  simp only [Try.ntmps44, List.size_toArray, List.length_cons, List.length_nil, Nat.reduceAdd, Nat.reduceSub, Array.replicate_succ, Array.replicate_zero, List.push_toArray, List.append_toArray, List.nil_append, List.cons_append]
  gi_wp2
  gi_loopw [4] (fun i wr => ∃ j : Nat, j ≤ k ∧ i = .int .i64 (f + (j : Int)) ∧ J (nums f j) wr ∧ Below n₀ W wr)
    (fun i _ => (f + (k : Int) - intOf i).toNat)
  case atStart => exact ⟨0, Nat.zero_le _, by simp, by simpa [nums] using h0, Below.refl _ _⟩
  case round =>
    obtain ⟨j, hj, rfl, hJs, hnx⟩ := hrel
    have h5' := (hnx.cell (p := ⟨B5, 0, none⟩) hb).trans h5
    by_cases hlt : j < k
    · obtain ⟨fn, tmps, assign, body, hy, hR⟩ := hY _ (f + (j : Int)) wr hJs (by rw [nums_length]; exact hlt)
      have i1 : f + (j : Int) < f + (k : Int) := by omega
      gi_wp2
      refine hR.mono ?_
      rintro e W3 (⟨rfl, hJ3, hk3⟩ | ⟨rfl, hJx3⟩)
      · gi_wp2
        go_roundw
        case rel => exact ⟨j + 1, by omega, by go_num, by rw [nums_succ]; exact hJ3, hnx.trans hk3⟩
        case measure => simp [intOf]; omega
      · gi_wp2
        refine bodyPost_ret (results_none rfl _ _ _) rfl ?_
        exact ⟨⟨_, rfl⟩, .inr ⟨_, ⟨j + 1, by omega, (nums_succ _ _).symm⟩, hJx3⟩⟩
    · obtain rfl : j = k := by omega
      have i1 : ¬ (f + (j : Int) < f + (j : Int)) := by omega
      gi_wp2
      go_end0
      first | exact ⟨⟨_, rfl⟩, .inl ⟨_, rfl, hJs⟩⟩ | exact ⟨⟨_, rfl⟩, .inl hJs⟩
theorem all_stops (F : Fence) (n : Nat) (h44 : F.fn 44) (hro : F.round = none) (hn : 1 ≤ n) (B3 B5 n₀ : Nat) (f : Int) (k : Nat) (hf : -9223372036854775808 ≤ f) (he : f + (k : Int) ≤ 9223372036854775807) (hb : B5 < n₀) (w : World) (h3 : w.cell? ⟨B3, 0, none⟩ = some (.int .i64 f)) (h5 : w.cell? ⟨B5, 0, none⟩ = some (.int .i64 (f + (k : Int)))) (hb3 : B3 < w.heap.size) (hb5 : B5 < w.heap.size) :
    SeqStopsK F n Try.prog 44 #[.pointer (some ⟨B3, 0, none⟩), .pointer (some ⟨B5, 0, none⟩)] (fun x : Int => #[Value.int .i64 x]) (Below n₀) (fun ys => ys = nums f k) (fun pre => ∃ j, j ≤ k ∧ pre = nums f j) k w := fun l J Jx W hW _ _ hY h0 =>
  all1_in F n h44 hro hn l B3 B5 n₀ f k hf he hb J Jx hY W ((hW.cell (p := ⟨B3, 0, none⟩) hb3).trans h3) ((hW.cell (p := ⟨B5, 0, none⟩) hb5).trans h5) h0
end Go.Proofs.Ytofllmofdenadaa
