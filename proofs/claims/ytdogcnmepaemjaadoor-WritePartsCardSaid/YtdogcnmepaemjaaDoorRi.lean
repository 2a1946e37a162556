/- Plain facts: a canonical tree, node by node. No walk. No conditions. -/
import Derived.Test.YtdogcnmepaemjaaDoorRh
import Derived.Test.YtdogcnmepaemjaaDoorOt
namespace Go.Proofs.YtdogcnmepaemjaaDoor
set_option linter.unusedVariables false
open Go.RowKit Go.Proofs.Fm Go.Proofs.Fb Go.Proofs.Fu Go.Proofs.Fr Go.Proofs.Fd Go.Proofs.Fc

def nmN (l : List Nd) (i : Nat) : Str := match l[i]? with | some x => x.name | none => []
def kdN (l : List Nd) (i : Nat) : Int := match l[i]? with | some x => x.kind | none => 0
theorem nmN_get {l : List Nd} {i : Nat} (h : i < l.length) : nmN l i = (l[i]'h).name := by simp [nmN, List.getElem?_eq_getElem h]
theorem kdN_get {l : List Nd} {i : Nat} (h : i < l.length) : kdN l i = (l[i]'h).kind := by simp [kdN, List.getElem?_eq_getElem h]
/-- of the first k nodes: does each stand in a p? -/
def inPs (l : List Nd) : Nat → List Bool
  | 0 => []
  | k + 1 => inPs l k ++ [if k = 0 then false else (nmN l (par l k).toNat == [112]) || (inPs l k).getD (par l k).toNat false]
theorem inPs_length (l : List Nd) : ∀ k, (inPs l k).length = k
  | 0 => rfl
  | k + 1 => by rw [inPs, List.length_append, inPs_length l k]; rfl
/-- is node k such as comes back where it stands? -/
def okN (l : List Nd) (k : Nat) : Bool :=
  match l[k]? with
  | none => true
  | some x => comesB x && holdB (nmN l (par l k).toNat) x.name && !((inPs l (k + 1)).getD k false && endsB x.name) && !((x.kind == 2) && decide (0 ≤ x.next) && (kdN l x.next.toNat == 2))
/-- are all nodes from 1 up to k such? -/
def okTo (l : List Nd) (k : Nat) : Bool := (List.range k).all fun i => i == 0 || okN l i
def canonB (l : List Nd) : Bool := match l with
  | [] => false
  | x :: _ => decide (rightE l = 0) && x.name == [114, 111, 111, 116] && x.attrs.isEmpty && okTo l l.length
theorem okTo_succ (l : List Nd) {k : Nat} (h : 0 < k) : okTo l (k + 1) = (okTo l k && okN l k) := by
  unfold okTo
  rw [List.range_succ, List.all_append]
  have : (k == 0) = false := by rw [beq_eq_false_iff_ne]; omega
  simp [this]
theorem okTo_no (l : List Nd) {k n : Nat} (h0 : 0 < k) (h : k < n) (hb : okN l k = false) : okTo l n = false := by
  unfold okTo
  rw [List.all_eq_false]
  refine ⟨k, List.mem_range.2 h, ?_⟩
  have : (k == 0) = false := by rw [beq_eq_false_iff_ne]; omega
  simp [this, hb]
theorem nxt_bd (p : Nat → Int) (j : Nat) : ∀ k, -1 ≤ nxt p k j ∧ nxt p k j < (k : Int)
  | 0 => by simp [nxt]
  | k + 1 => by
    have := nxt_bd p j k
    unfold nxt
    split <;> omega
theorem par_bd {l : List Nd} (h : SaidF l) {i : Nat} (h0 : 0 < i) (hi : i < l.length) : 0 ≤ par l i ∧ par l i < (i : Int) := by
  have := (ordB_iff _ _).1 h.ord
  have := onWay_le _ _ _ (this.2 i h0 hi)
  omega
theorem right_said {l : List Nd} (h : rightE l = 0) : SaidF l ∧ l.length ≤ 4096 := by
  unfold rightE at h
  split at h
  · cases h
  · split at h
    · cases h
    · rename_i h1 h2
      exact ⟨said_facts (by simpa using h2), by omega⟩
/-- the cells of the list of answers, k of n known -/
def inCells (l : List Nd) (n k : Nat) : List Value := ((inPs l k) ++ List.replicate (n - k) false).map Value.bool
theorem inCells_get {l : List Nd} {n k i : Nat} (h : i < k) (hk : k ≤ n) : (inCells l n k)[i]? = some (.bool ((inPs l k).getD i false)) := by
  have : i < (inPs l k).length := by rw [inPs_length]; exact h
  unfold inCells
  rw [List.getElem?_map, List.getElem?_append_left this, List.getD_eq_getElem?_getD, List.getElem?_eq_getElem this]; rfl
theorem inCells_set {l : List Nd} {n k : Nat} (hk : k < n) : (inCells l n k).set k (.bool (if k = 0 then false else (nmN l (par l k).toNat == [112]) || (inPs l k).getD (par l k).toNat false)) = inCells l n (k + 1) := by
  have e : n - k = (n - (k + 1)) + 1 := by omega
  unfold inCells
  rw [e, List.replicate_succ, inPs, List.append_assoc]
  simp only [List.map_append, List.map_cons, List.map_nil]
  rw [List.set_append_right _ _ (by rw [List.length_map, inPs_length]; exact Nat.le_refl _), List.length_map, inPs_length, Nat.sub_self]
  rfl
theorem inCells_one {l : List Nd} {n : Nat} (hn : 0 < n) : inCells l n 1 = List.replicate n (.bool false) := by
  obtain ⟨m, rfl⟩ : ∃ m, n = m + 1 := ⟨n - 1, by omega⟩
  simp [inCells, inPs, List.replicate_succ]
end Go.Proofs.YtdogcnmepaemjaaDoor
