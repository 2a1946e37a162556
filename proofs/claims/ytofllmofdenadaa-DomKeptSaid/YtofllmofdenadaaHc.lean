/- Plain facts: of the tree that a part became, the root stands for that part, cleaned. No walk. No conditions. -/
import Derived.Test.YtofllmofdenadaaHb
namespace Go.Proofs.Ytofllmofdenadaa
set_option linter.unusedVariables false
open Go.RowKit Go.Proofs.Fm Go.Proofs.Fb Go.Proofs.Fd Go.Proofs.Fc

theorem Lies.par_root {L X Y : List Nd} {p : Pt} {parent : Int} (h : Lies L p X Y parent) : par L X.length = parent := by
  have h0 := pre_pos p parent X.length
  have := h.par_at 0 h0
  have e2 : (pre p parent X.length)[0]'h0 = p.node parent := by simp only [pre_eq, List.getElem_cons_zero]
  rw [e2, p.node_parent, Nat.add_zero] at this
  exact this
theorem Lies.par_kid {L X Y : List Nd} {p : Pt} {parent : Int} (h : Lies L p X Y parent) (hn : p.name ≠ []) (m : Nat) (hm : m < (preL p.kids X.length (X.length + 1)).length) : par L (X.length + 1 + m) = ((preL p.kids X.length (X.length + 1))[m]'hm).parent := by
  have he : pre p parent X.length = p.node parent :: preL p.kids X.length (X.length + 1) := by rw [pre_eq, if_neg hn]
  have hm' : m + 1 < (pre p parent X.length).length := by rw [he, List.length_cons]; omega
  have := h.par_at (m + 1) hm'
  rw [show X.length + (m + 1) = X.length + 1 + m by omega] at this
  rw [this]
  simp only [he, List.getElem_cons_succ]
theorem Lies.kids_text {L X Y : List Nd} {p : Pt} {parent : Int} (h : Lies L p X Y parent) (hn : p.name = []) : kidsOf (par L) L.length (X.length : Nat) = [] := by
  have hcp : cnt p = 1 := by rw [cnt_eq, if_pos hn]
  rw [List.eq_nil_iff_forall_not_mem]
  intro x hx
  obtain ⟨h1, h2⟩ := kidsOf_lt hx
  by_cases c1 : x < X.length
  · have := h.fore x c1; omega
  · by_cases c2 : x = X.length
    · have := h.par_root; have := h.par_lt; rw [c2] at h2; omega
    · have := h.hind x (by omega) h1; omega
/-- a kid's nodes lie in the same list -/
theorem Lies.kid {L X Y : List Nd} {p k : Pt} {parent : Int} {done t : List Pt} (h : Lies L p X Y parent) (hn : p.name ≠ []) (hk : p.kids = done ++ k :: t) :
    ∃ X' Y', X'.length = X.length + 1 + cntL done ∧ Lies L k X' Y' (X.length : Nat) := by
  have hcp : cnt p = 1 + cntL p.kids := by rw [cnt_eq, if_neg hn]
  have hck : cntL p.kids = cntL done + (cnt k + cntL t) := by rw [hk, cntL_append, cntL_cons]
  have hpl : preL p.kids X.length (X.length + 1) = preL done X.length (X.length + 1) ++ (pre k (X.length : Nat) (X.length + 1 + cntL done) ++ preL t X.length (X.length + 1 + cntL done + cnt k)) := by
    rw [hk, preL_append, preL_cons, preL_cnt, pre_cnt]
  have hXl : (X ++ p.node parent :: preL done X.length (X.length + 1)).length = X.length + 1 + cntL done := by
    rw [List.length_append, List.length_cons, preL_cnt]; omega
  have hlen := h.len
  have hpkl := preL_cnt p.kids X.length (X.length + 1)
  refine ⟨X ++ p.node parent :: preL done X.length (X.length + 1), preL t X.length (X.length + 1 + cntL done + cnt k) ++ Y, hXl, ?_, ?_, ?_, ?_⟩
  · rw [h.eq, pre_eq, if_neg hn, hpl, hXl]
    simp only [List.append_assoc, List.cons_append]
  · rw [hXl]; omega
  · rw [hXl]
    intro j hj
    by_cases c1 : j < X.length
    · have := h.fore j c1; omega
    · by_cases c2 : j = X.length
      · subst c2; have := h.par_root; have := h.par_lt; omega
      · have hm : j - (X.length + 1) < (preL p.kids X.length (X.length + 1)).length := by omega
        have e1 := h.par_kid hn _ hm
        have hr := (preL_root p.kids X.length (X.length + 1) _ hm (by omega)).2
        rw [← e1, show X.length + 1 + (j - (X.length + 1)) = j by omega] at hr
        omega
  · rw [hXl]
    intro j hj hjl
    by_cases c3 : j < X.length + cnt p
    · have hm : j - (X.length + 1) < (preL p.kids X.length (X.length + 1)).length := by omega
      have e1 := h.par_kid hn _ hm
      rw [show X.length + 1 + (j - (X.length + 1)) = j by omega] at e1
      have hm2 : j - (X.length + 1) - (cntL done + cnt k) < (preL t X.length (X.length + 1 + cntL done + cnt k)).length := by rw [preL_cnt]; omega
      have e2 : (preL p.kids X.length (X.length + 1))[j - (X.length + 1)]'hm = (preL t X.length (X.length + 1 + cntL done + cnt k))[j - (X.length + 1) - (cntL done + cnt k)]'hm2 := by
        have a1 := preL_cnt done X.length (X.length + 1)
        have a2 := pre_cnt k (X.length : Nat) (X.length + 1 + cntL done)
        simp only [hpl]
        rw [List.getElem_append_right (by omega), List.getElem_append_right (by omega)]
        congr 1
        omega
      have hr := (preL_root t X.length (X.length + 1 + cntL done + cnt k) _ hm2 (by omega)).1
      rw [← e2, ← e1] at hr
      rcases hr with ⟨hr, -⟩ | ⟨hr, -⟩
      · left; omega
      · right; exact hr
    · have := h.hind j (by omega) hjl; omega
theorem partF_clean (p : Pt) : ∀ (L X Y : List Nd) (parent : Int) (f : Nat), Lies L p X Y parent → cnt p ≤ f → partF L f X.length = cleanP p := by
  refine Pt.ind (C := fun p => ∀ (L X Y : List Nd) (parent : Int) (f : Nat), Lies L p X Y parent → cnt p ≤ f → partF L f X.length = cleanP p) (fun p ih L X Y parent f h hf => ?_) p
  have hpos := cnt_pos p
  obtain ⟨f', rfl⟩ : ∃ f', f = f' + 1 := ⟨f - 1, by omega⟩
  obtain ⟨x, h1, h2⟩ := h.at_ 0 (pre_pos p parent X.length)
  have e2 : (pre p parent X.length)[0]'(pre_pos p parent X.length) = p.node parent := by simp only [pre_eq, List.getElem_cons_zero]
  rw [e2] at h2
  rw [Nat.add_zero] at h1
  rw [partF, h1]
  dsimp only
  have en : x.name = (p.node parent).name := by rw [← h2]; rfl
  have et : x.text = (p.node parent).text := by rw [← h2]; rfl
  have ea : x.attrs = (p.node parent).attrs := by rw [← h2]; rfl
  rw [en, et, ea]
  by_cases c : p.name = []
  · rw [h.kids_text c]
    obtain ⟨nm, tx, al, ks⟩ := p
    have c' : nm = [] := c
    subst c'
    rw [cleanP_text]
    simp [Pt.node]
  · rw [h.kids c]
    have hcp : cnt p = 1 + cntL p.kids := by rw [cnt_eq, if_neg c]
    have haux : ∀ (todo done : List Pt), p.kids = done ++ todo → (starts todo (X.length + 1 + cntL done)).map (partF L f') = todo.map cleanP := by
      intro todo
      induction todo with
      | nil => intro done _; rfl
      | cons k t iht =>
        intro done hd
        obtain ⟨X', Y', hl, hlies⟩ := h.kid c hd
        have hck : cntL p.kids = cntL done + (cnt k + cntL t) := by rw [hd, cntL_append, cntL_cons]
        have hkm : k ∈ p.kids := by rw [hd]; simp
        have h3 := ih k hkm L X' Y' _ f' hlies (by omega)
        rw [hl] at h3
        have h4 := iht (done ++ [k]) (by rw [hd]; simp)
        have e9 : X.length + 1 + cntL (done ++ [k]) = X.length + 1 + cntL done + cnt k := by rw [cntL_append, cntL_cons, cntL_nil]; omega
        rw [e9] at h4
        rw [starts, List.map_cons, List.map_cons, h3, h4]
    have hk := haux p.kids [] rfl
    rw [cntL_nil, Nat.add_zero] at hk
    rw [hk]
    obtain ⟨nm, tx, al, ks⟩ := p
    have c' : nm ≠ [] := c
    rw [cleanP_named c']
    simp [Pt.node, c', Pt.kids]
/-- of the tree that a part became the root stands for the part, cleaned -/
theorem part_root (p : Pt) {f : Nat} (hf : cnt p ≤ f) : partF (treeOf p) f 0 = cleanP p := by
  refine partF_clean p (treeOf p) [] [] (-1) f ⟨?_, by simp, fun j hj => by simp at hj, fun j h1 h2 => ?_⟩ hf
  · have h := lay_ok p [] (-1) (-1) (.inl ⟨rfl, rfl⟩)
    rw [lay_tree] at h
    have := h.bares
    simpa using this
  · rw [treeOf_length] at h2
    simp at h1; omega
end Go.Proofs.Ytofllmofdenadaa
