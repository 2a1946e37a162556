/- Plain facts: every list of nodes that is as said is the tree of some part, and of its own. No walk. No conditions. -/
import Derived.Test.YtofllmofdenadaaHd
namespace Go.Proofs.Ytofllmofdenadaa
set_option linter.unusedVariables false
open Go.RowKit Go.Proofs.Fm Go.Proofs.Fb Go.Proofs.Fd Go.Proofs.Fc

/-- a node that is well made is some leaf's -/
theorem well_leaf {x : Nd} (h : wellB x = true) : ∃ q : Pt, cnt q = 1 ∧ q.node x.parent = bare x ∧ (x.kind = 1 → q.name ≠ []) := by
  obtain ⟨K, nm, tx, al, P, F, La, Pr, N⟩ := x
  unfold wellB at h
  dsimp only at h
  by_cases c : K = 1
  · rw [if_pos c] at h
    simp only [Bool.and_eq_true, Bool.not_eq_true', beq_iff_eq, beq_eq_false_iff_ne] at h
    obtain ⟨⟨h1, h2⟩, -⟩ := h
    refine ⟨.mk nm [] al [], ?_, ?_, fun _ => h1⟩
    · rw [cnt_eq, if_neg (show (Pt.mk nm [] al []).name ≠ [] from h1)]; rfl
    · simp [Pt.node, bare, h1, h2, c]
  · rw [if_neg c] at h
    by_cases c2 : K = 2
    · rw [if_pos c2] at h
      simp only [Bool.and_eq_true, Bool.not_eq_true', beq_iff_eq, beq_eq_false_iff_ne, decide_eq_true_eq] at h
      obtain ⟨⟨⟨h1, h2⟩, h3⟩, -⟩ := h
      have h4 : al = [] := List.eq_nil_of_length_eq_zero h3
      refine ⟨.mk [] tx [] [], ?_, ?_, fun e => absurd e c⟩
      · rw [cnt_eq, if_pos (show (Pt.mk [] tx [] []).name = [] from rfl)]
      · simp [Pt.node, bare, h2, h4, c2]
    · rw [if_neg c2] at h; cases h
theorem take_par {l : List Nd} {k j : Nat} (h : j < k) : par (l.take k) j = par l j := by
  unfold par
  rw [List.getElem?_take]
  rw [if_pos h]
theorem said_pre {l : List Nd} (h : SaidF l) : ∀ k, 0 < k → k ≤ l.length → ∃ p, cnt p = k ∧ pre p (-1) 0 = (l.take k).map bare
  | 0, h0, _ => by omega
  | 1, _, hk => by
    have hpos := h.pos
    obtain ⟨q, h1, h2, h3⟩ := well_leaf (h.well 0 hpos)
    have hp : (l[0]'hpos).parent = -1 := by rw [← par_get hpos]; exact ((ordB_iff _ _).1 h.ord).1
    rw [hp] at h2
    refine ⟨q, h1, ?_⟩
    have hc := pre_cnt q (-1) 0
    have he := pre_eq q (-1) 0
    rw [he, List.length_cons] at hc
    have hnil : (if q.name = [] then ([] : List Nd) else preL q.kids 0 (0 + 1)) = [] := List.eq_nil_of_length_eq_zero (by omega)
    have ht : l.take 1 = [l[0]'hpos] := by
      have := List.take_succ_eq_append_getElem (l := l) (i := 0) hpos
      simpa using this
    rw [he, hnil, ht, h2]
    rfl
  | k + 2, _, hk => by
    obtain ⟨p, hc, hp⟩ := said_pre h (k + 1) (by omega) (by omega)
    have hx : k + 1 < l.length := by omega
    have hlen : (l.take (k + 1)).length = k + 1 := by rw [List.length_take]; omega
    have hlies : Lies (l.take (k + 1)) p [] [] (-1) := ⟨by rw [← hp]; simp, by simp, fun j hj => by simp at hj, fun j h1 h2 => by rw [hlen] at h2; simp at h1; omega⟩
    have ho := ((ordB_iff _ _).1 h.ord).2 (k + 1) (by omega) hx
    unfold onWay at ho
    rw [List.any_eq_true] at ho
    obtain ⟨a, ha, haP⟩ := ho
    have haP : ((a : Nat) : Int) = par l (k + 1) := by simpa using haP
    have hanc : anc (par (l.take (k + 1))) k = anc (par l) k := anc_congr _ _ k k (Nat.le_refl _) (fun j hj => take_par (by omega))
    have ha' : a ∈ anc (par (l.take (k + 1))) (([] : List Nd).length + cnt p - 1) := by
      rw [hc]
      simpa [hanc] using ha
    have hedge : Edge p 0 a := by
      rcases hlies.way a ha' with h1 | ⟨h1, -⟩
      · exact h1
      · omega
    have hal : a < l.length := by have := ord_lt h.ord (i := k + 1) (by omega) hx; omega
    obtain ⟨q, q1, q2, -⟩ := well_leaf (h.well (k + 1) hx)
    have hpar : (l[k + 1]'hx).parent = ((a : Nat) : Int) := by rw [← par_get hx]; exact haP.symm
    rw [hpar] at q2
    have hnamed : Named p 0 a := by
      rcases hedge.named_or with h1 | ⟨m, hm, h1, h2⟩
      · exact h1
      · exfalso
        obtain rfl : m = a := by omega
        have hmk : m < k + 1 := by rw [pre_cnt, hc] at hm; exact hm
        have e1 : (pre p (-1) 0)[m]'hm = bare (l[m]'hal) := by
          simp only [hp, List.getElem_map, List.getElem_take]
        rw [e1] at h2
        have h2 : (l[m]'hal).name = [] := h2
        have hw := h.well m hal
        unfold wellB at hw
        have hkid : m + 0 = m := rfl
        have hf := h.first m hal
        have hkm : k + 1 ∈ kidsOf (par l) l.length (m : Nat) := kidsOf_mem hx haP.symm
        have hfn := (kids_links (par l) (m : Nat) l.length).1
        have h0 : 0 < (kidsOf (par l) l.length (m : Nat)).length := List.length_pos_of_mem hkm
        rw [nth_in h0] at hfn
        by_cases c : (l[m]'hal).kind = 1
        · rw [if_pos c, h2] at hw
          simp at hw
        · rw [if_neg c] at hw
          by_cases c2 : (l[m]'hal).kind = 2
          · rw [if_pos c2] at hw
            simp only [Bool.and_eq_true, decide_eq_true_eq] at hw
            have := hw.2
            omega
          · rw [if_neg c2] at hw; cases hw
    obtain ⟨p', c', hp'⟩ := hnamed.grow q q1
    refine ⟨p', by omega, ?_⟩
    rw [hp', hp, q2, List.take_succ_eq_append_getElem hx, List.map_append]
    rfl
/-- every list that is as said is a part's tree -/
theorem said_tree {l : List Nd} (h : SaidF l) : ∃ p, treeOf p = l := by
  obtain ⟨p, hc, hp⟩ := said_pre h l.length h.pos (Nat.le_refl _)
  rw [List.take_length] at hp
  refine ⟨p, ?_⟩
  unfold treeOf
  rw [hp]
  unfold linkL
  have hpar : par (l.map bare) = par l := funext (par_bare l)
  rw [hpar, List.length_map]
  apply List.ext_getElem
  · simp
  · intro i h1 h2
    rw [List.getElem_mapIdx, List.getElem_map]
    unfold lkAt setLk bare
    rw [← h.first i h2, ← h.last i h2, ← h.prev i h2, ← h.next i h2]
/-- the part that the root of such a list stands for becomes that list again -/
theorem said_back {l : List Nd} (h : SaidF l) {f : Nat} (hf : l.length ≤ f) : treeOf (partF l f 0) = l := by
  obtain ⟨p, rfl⟩ := said_tree h
  rw [part_root p (by rw [← treeOf_length]; exact hf), treeOf_clean]
end Go.Proofs.Ytofllmofdenadaa
