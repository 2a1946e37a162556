import Derived.Test.YtkidhjfoapdgjaaCmp
import Derived.Sort.Grow
namespace Go.Proofs.Ytkidhjfoapdgjaa
set_option linter.unusedVariables false
open Go.RowKit Go.Proofs.Fx Go.Proofs.Fm Go.Sort

theorem turn_ {P : Program} {f : FuncId} {args : Array Value} {w : World} {v : Value} (h : Calls P f args w fun e w' => e = .returned v ∧ w = w') : Calls P f args w fun e w' => e = .returned v ∧ w' = w :=
  h.mono fun _ _ ⟨a, b⟩ => ⟨a, b.symm⟩

theorem cell0_new (w : World) (a b : Value) (t : TypeId) : (w.alloc (.cells #[a, b] t)).drew.cell? ⟨w.heap.size, 0, none⟩ = some a := by
  have h : (w.alloc (.cells #[a, b] t)).drew.heap[w.heap.size]? = some (.cells #[a, b] t (0, 0)) := heap_alloc_new w _
  rw [cell_of_row _ _ _ _ _ _ h]; rfl
theorem cell1_new (w : World) (a b : Value) (t : TypeId) : (w.alloc (.cells #[a, b] t)).drew.cell? ⟨w.heap.size, 1, none⟩ = some b := by
  have h : (w.alloc (.cells #[a, b] t)).drew.heap[w.heap.size]? = some (.cells #[a, b] t (0, 0)) := heap_alloc_new w _
  rw [cell_of_row _ _ _ _ _ _ h]; rfl

set_option maxHeartbeats 400000 in
theorem clos39 (bx b o n c : Nat) (x y : Int) (i k : Nat) (w : World) (hbx : w.cell? ⟨bx, 0, none⟩ = some (.slice (some ⟨b, o, none⟩) n c)) (hi : i < n) (hk : k < n) (hn : n ≤ 17592186044416)
    (hx : w.cell? ⟨b, o + k, none⟩ = some (.int .i64 x)) (hy : w.cell? ⟨b, o + i, none⟩ = some (.int .i64 y)) :
    Calls Try.prog 39 #[.int .i64 i, .int .i64 k, .pointer (some ⟨bx, 0, none⟩)] w fun e w' => e = .returned (.int .i64 (orv (cmpv x y) (cmpv i k))) ∧ ∃ q os', w' = grow (w.drewN q) os' := by
  have i1 : (k : Int) < (n : Int) := by omega
  have i2 : (i : Int) < (n : Int) := by omega
  go_enter Try.func39, Try.ntmps39
  go_wp2
  go_still_tail 12, (by kernel_rfl)
  still_call (turn_ (cmp41 _ _ _))
  still_step
  still_step
  still_call (turn_ (cmp42 _ _ _))
  refine wpStill_nil ?_
  change wpList _ _ _ _ _ w.drew
  go_wp2_with fail
  refine (or40 _ _ (cmpv x y) (cmpv i k) _ (cell0_new _ _ _ _) (cell1_new _ _ _ _)).mono ?_
  rintro e w' ⟨rfl, rfl⟩
  go_wp2
  go_ret
  exact ⟨rfl, 1, #[.cells #[.int .i64 (cmpv x y), .int .i64 (cmpv i k)] 3], by rw [← alloc_eq_grow]; rfl⟩
end Go.Proofs.Ytkidhjfoapdgjaa
