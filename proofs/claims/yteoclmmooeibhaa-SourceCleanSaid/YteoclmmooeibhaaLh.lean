/- SourceClean: the law's walk. No conditions but the arguments' own. -/
import Derived.Test.YteoclmmooeibhaaKn
import Derived.Test.YteoclmmooeibhaaMt
import Derived.Test.YteoclmmooeibhaaBSamerune
import Derived.Test.YteoclmmooeibhaaRf
namespace Go.Proofs.Yteoclmmooeibhaa.cl
set_option linter.unusedVariables false
open Go.Proofs.Yteoclmmooeibhaa Go.RowKit Go.Proofs.Fm Go.Proofs.Fb Go.Proofs.Fu

theorem Try.byteInfo : (Try.prog.info? 5).map (fun i => (i.zero, i.size, i.bytes)) = some (some (.int .u8 0), 1, 1) := by kernel_rfl
/-- source.Decode where its answer is known by name -/
theorem decode_is (A : Option Addr) (n c : Nat) (xs : List Int) (hn : xs.length = n) (w : World) (ha : Row w .u8 A xs) (hx : n ≤ 65536) (ys : List Int) (k : Nat) (hd : dec xs = ys) (hk : ys.length = k) :
    Calls Try.prog 8 #[.slice A n c] w fun e w' => ∃ g, e = .returned (.tuple #[.slice (some ⟨g, 0, none⟩) k n, .int .i64 0]) ∧
      Row w' .i32 (some ⟨g, 0, none⟩) ys ∧ w.heap.size ≤ g ∧ Below w.heap.size w w' := by
  subst hd hk; exact decode_row A n c xs hn w ha hx
theorem good_at {ys : List Int} (h : ∀ x ∈ ys, Fu.Good x) {i : Nat} (hi : i < ys.length) : Fu.Good (ys.getD i 0) := by
  rw [List.getD_eq_getElem?_getD, List.getElem?_eq_getElem hi]; exact h _ (List.getElem_mem hi)
/-- a text that is cut keeps its bytes -/
theorem below_new {w W : World} (h : Below w.heap.size w W) (o : Obj) : Below w.heap.size w (W.alloc o) := h.alloc h.size o
end Go.Proofs.Yteoclmmooeibhaa.cl
