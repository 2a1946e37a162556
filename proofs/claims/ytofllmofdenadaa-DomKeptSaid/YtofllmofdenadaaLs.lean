/- Small words on walks: a world under a new name, a node of a row, how many kids; attributes that are not endless. No conditions. -/
import Derived.Test.YtofllmofdenadaaDo
import Derived.RangeFuncCalls
import Derived.RangeFuncNested
namespace Go.Proofs.Ytofllmofdenadaa
set_option linter.unusedVariables false
open Go.RowKit Go.Proofs.Fm Go.Proofs.Fb Go.Proofs.Fd Go.Proofs.Fc

theorem wpIn_gen {F : Fence} {m : Nat} {P : Program} {c : Code} {Q : Exit → Act → World → Prop} {a : Act} {w : World} (S : World → Prop) (hS : S w) (h : ∀ W, S W → c.wpIn F m P Q a W) : c.wpIn F m P Q a w := h _ hS
theorem exit_gen {Q : Exit → Act → World → Prop} {e : Exit} {a : Act} {w : World} (S : World → Prop) (hS : S w) (h : ∀ W, S W → Q e a W) : Q e a w := h _ hS
theorem keeps_below {W W' : World} (h : Below W.heap.size W W') : KeepsOthers W W' := ⟨h.size, fun k o hk _ => (h.block k (Array.getElem?_eq_some_iff.1 hk).1).trans hk⟩
theorem nrow_at {w : World} {b off : Nat} {l : List Nd} (h : NRow w (some ⟨b, off, none⟩) l) {i : Nat} (hi : i < l.length) : NAt w b (off + i * 9) (l[i]'hi) := by
  obtain ⟨b2, o2, he, hat⟩ := h.at_ hi
  injection he with he
  injection he with h1 h2
  subst h1; subst h2
  exact hat
theorem kids_len (p : Nat → Int) (n : Nat) (i : Int) : (kidsOf p n i).length ≤ n := by
  unfold kidsOf
  have := List.length_filter_le (fun j => p j == i) (List.range n)
  rwa [List.length_range] at this
theorem right_said {l : List Nd} (h : rightE l = 0) : SaidF l ∧ l.length ≤ 4096 := by
  unfold rightE at h
  by_cases h1 : 4096 < l.length
  · rw [if_pos h1] at h; omega
  · rw [if_neg h1] at h
    by_cases h2 : saidB l = false
    · rw [if_pos h2] at h; omega
    · exact ⟨said_facts (by simpa using h2), by omega⟩
def AttB (l : List Nd) : Prop := ∀ x ∈ l, x.attrs.length ≤ 4398046511104
theorem cnt_psize (p : Pt) : cnt p ≤ psize p := by
  refine Pt.ind (C := fun p => cnt p ≤ psize p) (fun p ih => ?_) p
  have hL : ∀ (ks : List Pt), (∀ k ∈ ks, k ∈ p.kids) → cntL ks ≤ psizeL ks := by
    intro ks
    induction ks with
    | nil => intro _; rw [cntL_nil]; omega
    | cons k t iht =>
      intro hk
      rw [cntL_cons, psizeL_cons]
      have h1 := ih k (hk k (.head _))
      have h2 := iht (fun x hx => hk x (.tail _ hx))
      omega
  rw [cnt_eq, psize_eq]
  have := hL p.kids (fun k hk => hk)
  split <;> omega
theorem node_bound {nm tx : Str} {al : List Att} {ks : List Pt} {parent : Int} (h : al.length ≤ 4398046511104) : ((Pt.mk nm tx al ks).node parent).attrs.length ≤ 4398046511104 := by
  by_cases c : nm = [] <;> simp [Pt.node, c, h]
theorem pcell_bound {w : World} (p : Pt) : ∀ (b o : Nat), PCell w b o p → ∀ (parent : Int) (n : Nat), AttB (pre p parent n) := by
  refine Pt.ind (C := fun p => ∀ (b o : Nat), PCell w b o p → ∀ (parent : Int) (n : Nat), AttB (pre p parent n)) (fun p ih b o h parent n => ?_) p
  have hL : ∀ (ks : List Pt), (∀ k ∈ ks, k ∈ p.kids) → ∀ (b o : Nat), PCells w b o ks → ∀ (parent n : Nat), AttB (preL ks parent n) := by
    intro ks
    induction ks with
    | nil => intro _ b o _ parent n x hx; rw [preL_nil] at hx; cases hx
    | cons k t iht =>
      intro hk b o h parent n x hx
      rw [PCells_cons] at h
      rw [preL_cons] at hx
      rcases List.mem_append.1 hx with hx | hx
      · exact ih k (hk k (.head _)) b o h.1 _ _ x hx
      · exact iht (fun x hx => hk x (.tail _ hx)) b _ h.2 _ _ x hx
  rw [PCell_eq] at h
  obtain ⟨h1, h2, ⟨va, h3, ha⟩, vk, h4, A, c, rfl, h5, h6, h7, h8⟩ := h
  intro x hx
  rw [pre_eq] at hx
  rcases List.mem_cons.1 hx with rfl | hx
  · obtain ⟨nm, tx, al, ks⟩ := p
    obtain ⟨A1, c1, -, -, -, hb, -⟩ := ha.ex
    exact node_bound hb
  · by_cases c : p.name = []
    · rw [if_pos c] at hx; cases hx
    · rw [if_neg c] at hx
      rcases h8 with h8 | ⟨b', off, h9, h10⟩
      · rw [h8, preL_nil] at hx; cases hx
      · exact hL _ (fun k hk => hk) _ _ h10 _ _ x hx
theorem part_bound {w : World} {nm tx : Str} {al : List Att} {ks : List Pt} {va vk : Value} (ha : AVal w va al) (hk : KVal w vk ks) (parent : Int) (n : Nat) : AttB (pre (.mk nm tx al ks) parent n) := by
  obtain ⟨A, c, rfl, h5, h6, h7, h8⟩ := hk
  have hL : ∀ (ts : List Pt) (b o : Nat), PCells w b o ts → ∀ (parent n : Nat), AttB (preL ts parent n) := by
    intro ts
    induction ts with
    | nil => intro b o _ parent n x hx; rw [preL_nil] at hx; cases hx
    | cons k t iht =>
      intro b o h parent n x hx
      rw [PCells_cons] at h
      rw [preL_cons] at hx
      rcases List.mem_append.1 hx with hx | hx
      · exact pcell_bound k b o h.1 _ _ x hx
      · exact iht b _ h.2 _ _ x hx
  intro x hx
  rw [pre_eq] at hx
  rcases List.mem_cons.1 hx with rfl | hx
  · obtain ⟨A1, c1, -, -, -, hb, -⟩ := ha.ex
    exact node_bound hb
  · by_cases c : (Pt.mk nm tx al ks).name = []
    · rw [if_pos c] at hx; cases hx
    · rw [if_neg c] at hx
      rcases h8 with h8 | ⟨b', off, h9, h10⟩
      · have : (Pt.mk nm tx al ks).kids = [] := h8
        rw [this, preL_nil] at hx; cases hx
      · exact hL ks _ _ h10 _ _ x hx
theorem tree_bound {w : World} {nm tx : Str} {al : List Att} {ks : List Pt} {va vk : Value} (ha : AVal w va al) (hk : KVal w vk ks) : AttB (treeOf (.mk nm tx al ks)) := by
  intro x hx
  unfold treeOf linkL at hx
  obtain ⟨i, hi, rfl⟩ := List.getElem_of_mem hx
  rw [List.getElem_mapIdx]
  have hi' : i < (pre (Pt.mk nm tx al ks) (-1) 0).length := by simpa using hi
  exact part_bound ha hk (-1) 0 ((pre (Pt.mk nm tx al ks) (-1) 0)[i]'hi') (List.getElem_mem hi')
theorem OTree.nil (base : Nat) (w : World) : OTree base w none 0 0 [] := ⟨[], rfl, World.ownsRow_nil _ _ _ _, by simp⟩
end Go.Proofs.Ytofllmofdenadaa
