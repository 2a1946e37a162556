/- Plain facts: the part that a node of a list stands for; of what a part became it is that part without what is not looked at. No walk. No conditions. -/
import Derived.Test.YtofllmofdenadaaEh
namespace Go.Proofs.Ytofllmofdenadaa
set_option linter.unusedVariables false
open Go.RowKit Go.Proofs.Fm Go.Proofs.Fb Go.Proofs.Fd Go.Proofs.Fc

/-- what is not looked at does not come into the tree -/
theorem pre_clean (p : Pt) : ∀ (parent : Int) (n : Nat), pre (cleanP p) parent n = pre p parent n := by
  refine Pt.ind (C := fun p => ∀ (parent : Int) (n : Nat), pre (cleanP p) parent n = pre p parent n) (fun p ih parent n => ?_) p
  have hL : ∀ (ks : List Pt), (∀ k ∈ ks, k ∈ p.kids) → ∀ (r n : Nat), preL (ks.map cleanP) r n = preL ks r n := by
    intro ks
    induction ks with
    | nil => intro _ r n; rfl
    | cons k t iht => intro hk r n; rw [List.map_cons, preL_cons, preL_cons, ih k (hk k (.head _)), iht (fun x hx => hk x (.tail _ hx))]
  obtain ⟨nm, tx, al, ks⟩ := p
  by_cases c : nm = []
  · subst c
    rw [cleanP_text, pre_eq, pre_eq]
    simp [Pt.node, Pt.name]
  · rw [cleanP_named c, pre_eq, pre_eq]
    have e1 : (Pt.mk nm [] al (ks.map cleanP)).name = nm := rfl
    have e2 : (Pt.mk nm tx al ks).name = nm := rfl
    have e3 : (Pt.mk nm [] al (ks.map cleanP)).kids = ks.map cleanP := rfl
    have e4 : (Pt.mk nm tx al ks).kids = ks := rfl
    rw [e1, e2, e3, e4, if_neg c, if_neg c, hL ks (fun k hk => hk)]
    simp [Pt.node, c]
theorem treeOf_clean (p : Pt) : treeOf (cleanP p) = treeOf p := by unfold treeOf; rw [pre_clean]
/-- the part that node i stands for -/
def partF (l : List Nd) : Nat → Nat → Pt
  | 0, i => match l[i]? with | some x => .mk x.name x.text x.attrs [] | none => .mk [] [] [] []
  | f + 1, i => match l[i]? with | some x => .mk x.name x.text x.attrs ((kidsOf (par l) l.length i).map (partF l f)) | none => .mk [] [] [] []
/-- two lists that go up and have the same members are the same -/
theorem up_eq : ∀ {a b : List Nat}, a.Pairwise (· < ·) → b.Pairwise (· < ·) → (∀ x, x ∈ a ↔ x ∈ b) → a = b
  | [], [], _, _, _ => rfl
  | [], y :: b, _, _, h => by have := (h y).2 (.head _); cases this
  | x :: a, [], _, _, h => by have := (h x).1 (.head _); cases this
  | x :: a, y :: b, ha, hb, h => by
    rw [List.pairwise_cons] at ha hb
    have hxy : x = y := by
      have h1 := (h x).1 (.head _)
      have h2 := (h y).2 (.head _)
      rcases List.mem_cons.1 h1 with e | h1
      · exact e
      · rcases List.mem_cons.1 h2 with e | h2
        · exact e.symm
        · have := ha.1 y h2; have := hb.1 x h1; omega
    subst hxy
    rw [up_eq ha.2 hb.2 (fun z => ⟨fun hz => ?_, fun hz => ?_⟩)]
    · rcases List.mem_cons.1 ((h z).1 (.tail _ hz)) with e | h1
      · subst e; have := ha.1 z hz; omega
      · exact h1
    · rcases List.mem_cons.1 ((h z).2 (.tail _ hz)) with e | h1
      · subst e; have := hb.1 z hz; omega
      · exact h1
/-- behind its first node a part's nodes hang on nodes of that part -/
theorem pre_inner (p : Pt) : ∀ (parent : Int) (n m : Nat) (h : m < (pre p parent n).length), 0 < m → (n : Int) ≤ ((pre p parent n)[m]'h).parent ∧ ((pre p parent n)[m]'h).parent < ((n + m : Nat) : Int) := by
  refine Pt.ind (C := fun p => ∀ (parent : Int) (n m : Nat) (h : m < (pre p parent n).length), 0 < m → (n : Int) ≤ ((pre p parent n)[m]'h).parent ∧ ((pre p parent n)[m]'h).parent < ((n + m : Nat) : Int)) (fun p ih parent n m h h0 => ?_) p
  have hL : ∀ (ks : List Pt), (∀ k ∈ ks, k ∈ p.kids) → ∀ (r n m : Nat) (h : m < (preL ks r n).length), r < n → (r : Int) ≤ ((preL ks r n)[m]'h).parent ∧ ((preL ks r n)[m]'h).parent < ((n + m : Nat) : Int) := by
    intro ks
    induction ks with
    | nil => intro _ r n m h; rw [preL_nil] at h; simp at h
    | cons k t iht =>
      intro hk r n m h hr
      have he := preL_cons k t r n
      by_cases c : m < (pre k r n).length
      · have e1 : (preL (k :: t) r n)[m]'h = (pre k r n)[m]'c := by simp only [he, List.getElem_append_left c]
        rw [e1]
        by_cases cm : m = 0
        · subst cm
          have e2 : (pre k (r : Int) n)[0]'c = k.node (r : Int) := by simp only [pre_eq, List.getElem_cons_zero]
          rw [e2, k.node_parent]; omega
        · have := ih k (hk k (.head _)) (r : Int) n m c (by omega); omega
      · have hm' : m - (pre k r n).length < (preL t r (n + (pre k r n).length)).length := by rw [he, List.length_append] at h; omega
        have e1 : (preL (k :: t) r n)[m]'h = (preL t r (n + (pre k r n).length))[m - (pre k r n).length]'hm' := by simp only [he, List.getElem_append_right (Nat.le_of_not_lt c)]
        rw [e1]
        have := iht (fun x hx => hk x (.tail _ hx)) r (n + (pre k r n).length) _ hm' (by omega)
        omega
  have he := pre_eq p parent n
  by_cases c : p.name = []
  · rw [he, if_pos c] at h; simp at h; omega
  · obtain ⟨m', rfl⟩ : ∃ m', m = m' + 1 := ⟨m - 1, by omega⟩
    have hm' : m' < (preL p.kids n (n + 1)).length := by rw [he, if_neg c] at h; simpa using h
    have e1 : (pre p parent n)[m' + 1]'h = (preL p.kids n (n + 1))[m']'hm' := by simp only [he, if_neg c, List.getElem_cons_succ]
    rw [e1]
    have := hL p.kids (fun k hk => hk) n (n + 1) m' hm' (by omega)
    omega
end Go.Proofs.Ytofllmofdenadaa
