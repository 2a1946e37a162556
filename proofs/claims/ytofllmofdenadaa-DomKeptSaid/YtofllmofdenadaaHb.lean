/- Plain facts: what the nodes of a part stand for is that part, cleaned. No walk. No conditions. -/
import Derived.Test.YtofllmofdenadaaHa
namespace Go.Proofs.Ytofllmofdenadaa
set_option linter.unusedVariables false
open Go.RowKit Go.Proofs.Fm Go.Proofs.Fb Go.Proofs.Fd Go.Proofs.Fc

def starts : List Pt → Nat → List Nat
  | [], _ => []
  | k :: t, n => n :: starts t (n + cnt k)
theorem cnt_pos (p : Pt) : 0 < cnt p := by have := pre_pos p 0 0; rwa [pre_cnt] at this
theorem starts_bd : ∀ (ks : List Pt) (n x : Nat), x ∈ starts ks n → n ≤ x ∧ x < n + cntL ks
  | [], n, x, h => by cases h
  | k :: t, n, x, h => by
    have := cnt_pos k
    rw [cntL_cons]
    rcases List.mem_cons.1 h with rfl | h
    · omega
    · have := starts_bd t _ x h; omega
theorem starts_up : ∀ (ks : List Pt) (n : Nat), (starts ks n).Pairwise (· < ·)
  | [], n => List.Pairwise.nil
  | k :: t, n => by
    rw [starts, List.pairwise_cons]
    exact ⟨fun x hx => by have := starts_bd t _ x hx; have := cnt_pos k; omega, starts_up t _⟩
/-- of nodes below r: they hang on r where a kid begins, else on nodes from there on -/
theorem preL_root : ∀ (ks : List Pt) (r n m : Nat) (h : m < (preL ks r n).length), r < n → (((preL ks r n)[m]'h).parent = (r : Int) ∧ n + m ∈ starts ks n ∨ (n : Int) ≤ ((preL ks r n)[m]'h).parent ∧ n + m ∉ starts ks n) ∧ ((preL ks r n)[m]'h).parent < ((n + m : Nat) : Int)
  | [], r, n, m, h, hr => by rw [preL_nil] at h; simp at h
  | k :: t, r, n, m, h, hr => by
    have he := preL_cons k t r n
    have hcl := pre_cnt k (r : Int) n
    have hst : starts (k :: t) n = n :: starts t (n + cnt k) := rfl
    by_cases c : m < (pre k r n).length
    · have e1 : (preL (k :: t) r n)[m]'h = (pre k r n)[m]'c := by simp only [he, List.getElem_append_left c]
      rw [e1, hst]
      by_cases cm : m = 0
      · subst cm
        have e2 : (pre k (r : Int) n)[0]'c = k.node (r : Int) := by simp only [pre_eq, List.getElem_cons_zero]
        rw [e2, k.node_parent]
        exact ⟨.inl ⟨rfl, by simp⟩, by omega⟩
      · have hi := pre_inner k (r : Int) n m c (by omega)
        refine ⟨.inr ⟨hi.1, fun hin => ?_⟩, hi.2⟩
        rcases List.mem_cons.1 hin with e | hin
        · omega
        · have := starts_bd t _ _ hin; omega
    · have he' : preL (k :: t) r n = pre k r n ++ preL t r (n + cnt k) := by rw [he, hcl]
      have hm' : m - cnt k < (preL t r (n + cnt k)).length := by rw [he', List.length_append, hcl] at h; omega
      have e1 : (preL (k :: t) r n)[m]'h = (preL t r (n + cnt k))[m - cnt k]'hm' := by simp only [he', List.getElem_append_right (Nat.le_of_not_lt c), hcl]
      have hp := cnt_pos k
      have hi := preL_root t r (n + cnt k) _ hm' (by omega)
      have hnm : n + cnt k + (m - cnt k) = n + m := by omega
      rw [hnm] at hi
      rw [e1, hst]
      refine ⟨?_, hi.2⟩
      rcases hi.1 with ⟨h1, h2⟩ | ⟨h1, h2⟩
      · exact .inl ⟨h1, List.mem_cons.2 (.inr h2)⟩
      · refine .inr ⟨by omega, fun hin => ?_⟩
        rcases List.mem_cons.1 hin with e | hin
        · omega
        · exact h2 hin
/-- a part's nodes lie in a list: from X's end on, the others not hanging on them -/
structure Lies (L : List Nd) (p : Pt) (X Y : List Nd) (parent : Int) : Prop where
  eq : L.map bare = X ++ pre p parent X.length ++ Y
  par_lt : parent < (X.length : Int)
  fore : ∀ j, j < X.length → par L j < (X.length : Int)
  hind : ∀ j, X.length + cnt p ≤ j → j < L.length → par L j < (X.length : Int) ∨ ((X.length + cnt p : Nat) : Int) ≤ par L j
theorem Lies.len {L X Y : List Nd} {p : Pt} {parent : Int} (h : Lies L p X Y parent) : L.length = X.length + cnt p + Y.length := by
  have := congrArg List.length h.eq
  rw [List.length_map, List.length_append, List.length_append, pre_cnt] at this
  exact this
theorem Lies.at_ {L X Y : List Nd} {p : Pt} {parent : Int} (h : Lies L p X Y parent) (m : Nat) (hm : m < (pre p parent X.length).length) : ∃ x, L[X.length + m]? = some x ∧ bare x = (pre p parent X.length)[m]'hm := by
  have hl := h.len
  have hc := pre_cnt p parent X.length
  have h1 : X.length + m < L.length := by omega
  refine ⟨L[X.length + m]'h1, List.getElem?_eq_getElem h1, ?_⟩
  have e : (L.map bare)[X.length + m]? = (X ++ pre p parent X.length ++ Y)[X.length + m]? := by rw [h.eq]
  rw [List.getElem?_map, List.getElem?_eq_getElem h1, List.append_assoc, List.getElem?_append_right (by omega), List.getElem?_append_left (by omega), Nat.add_sub_cancel_left, List.getElem?_eq_getElem hm] at e
  simpa using e
theorem Lies.par_at {L X Y : List Nd} {p : Pt} {parent : Int} (h : Lies L p X Y parent) (m : Nat) (hm : m < (pre p parent X.length).length) : par L (X.length + m) = ((pre p parent X.length)[m]'hm).parent := by
  obtain ⟨x, h1, h2⟩ := h.at_ m hm
  rw [← h2, bare_parent]
  unfold par
  rw [h1]
theorem Lies.kids {L X Y : List Nd} {p : Pt} {parent : Int} (h : Lies L p X Y parent) (hn : p.name ≠ []) : kidsOf (par L) L.length (X.length : Nat) = starts p.kids (X.length + 1) := by
  have hl := h.len
  have hc := pre_cnt p parent X.length
  have hcp : cnt p = 1 + cntL p.kids := by rw [cnt_eq, if_neg hn]
  have he : pre p parent X.length = p.node parent :: preL p.kids X.length (X.length + 1) := by rw [pre_eq, if_neg hn]
  have hkl := preL_cnt p.kids X.length (X.length + 1)
  have hin : ∀ m (hm : m < (preL p.kids X.length (X.length + 1)).length), par L (X.length + 1 + m) = ((preL p.kids X.length (X.length + 1))[m]'hm).parent := fun m hm => by
    have hm' : m + 1 < (pre p parent X.length).length := by rw [he, List.length_cons]; omega
    have := h.par_at (m + 1) hm'
    rw [show X.length + (m + 1) = X.length + 1 + m by omega] at this
    rw [this]
    simp only [he, List.getElem_cons_succ]
  refine up_eq (kids_sorted _ _ _) (starts_up _ _) (fun x => ⟨fun hx => ?_, fun hx => ?_⟩)
  · obtain ⟨h1, h2⟩ := kidsOf_lt hx
    by_cases c1 : x < X.length
    · have := h.fore x c1; omega
    · by_cases c2 : x = X.length
      · exfalso
        have h0 : 0 < (pre p parent X.length).length := by omega
        have := h.par_at 0 h0
        have e2 : (pre p parent X.length)[0]'h0 = p.node parent := by simp only [he, List.getElem_cons_zero]
        rw [e2, p.node_parent, Nat.add_zero, ← c2, h2] at this
        have := h.par_lt
        omega
      · by_cases c3 : x < X.length + cnt p
        · have hm : x - (X.length + 1) < (preL p.kids X.length (X.length + 1)).length := by omega
          have e1 := hin _ hm
          rw [show X.length + 1 + (x - (X.length + 1)) = x by omega, h2] at e1
          have hr := (preL_root p.kids X.length (X.length + 1) _ hm (by omega)).1
          rw [← e1, show X.length + 1 + (x - (X.length + 1)) = x by omega] at hr
          rcases hr with ⟨-, hr⟩ | ⟨hr, -⟩
          · exact hr
          · omega
        · have := h.hind x (by omega) h1; omega
  · have hb := starts_bd _ _ _ hx
    have hm : x - (X.length + 1) < (preL p.kids X.length (X.length + 1)).length := by omega
    have e1 := hin _ hm
    have hr := (preL_root p.kids X.length (X.length + 1) _ hm (by omega)).1
    rw [show X.length + 1 + (x - (X.length + 1)) = x by omega] at hr e1
    rcases hr with ⟨hr, -⟩ | ⟨-, hr⟩
    · exact kidsOf_mem (by omega) (e1.trans hr)
    · exact absurd hx hr
end Go.Proofs.Ytofllmofdenadaa
