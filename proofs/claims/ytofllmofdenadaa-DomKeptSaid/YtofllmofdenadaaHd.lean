/- Plain facts: every list of nodes that is as said is the tree of some part. No walk. No conditions. -/
import Derived.Test.YtofllmofdenadaaHc
import Derived.Test.YtofllmofdenadaaDl
namespace Go.Proofs.Ytofllmofdenadaa
set_option linter.unusedVariables false
open Go.RowKit Go.Proofs.Fm Go.Proofs.Fb Go.Proofs.Fd Go.Proofs.Fc

/-- the nodes on the right edge of a part: its own, then its last kid's -/
inductive Edge : Pt → Nat → Nat → Prop
  | own (p : Pt) (n : Nat) : Edge p n n
  | kid {nm tx : Str} {al : List Att} (done : List Pt) (k : Pt) {n a : Nat} (hn : nm ≠ []) (h : Edge k (n + 1 + cntL done) a) : Edge (.mk nm tx al (done ++ [k])) n a
/-- the name of the node at a on the right edge -/
inductive Named : Pt → Nat → Nat → Prop
  | own {nm tx : Str} {al : List Att} {ks : List Pt} (n : Nat) (hn : nm ≠ []) : Named (.mk nm tx al ks) n n
  | kid {nm tx : Str} {al : List Att} (done : List Pt) (k : Pt) {n a : Nat} (hn : nm ≠ []) (h : Named k (n + 1 + cntL done) a) : Named (.mk nm tx al (done ++ [k])) n a
theorem Edge.named_or {p : Pt} {n a : Nat} (h : Edge p n a) : Named p n a ∨ ∃ m, ∃ h : m < (pre p (-1) n).length, n + m = a ∧ ((pre p (-1) n)[m]'h).name = [] := by
  induction h with
  | own p n =>
    obtain ⟨nm, tx, al, ks⟩ := p
    by_cases c : nm = []
    · refine .inr ⟨0, pre_pos _ _ _, by omega, ?_⟩
      simp only [pre_eq, List.getElem_cons_zero]
      simp [Pt.node, c]
    · exact .inl (.own n c)
  | @kid nm tx al done k n a hn h ih =>
    rcases ih with ih | ⟨m, hm, h1, h2⟩
    · exact .inl (.kid done k hn ih)
    · right
      have he : pre (.mk nm tx al (done ++ [k])) (-1) n = (Pt.mk nm tx al (done ++ [k])).node (-1) :: (preL done n (n + 1) ++ pre k (n : Int) (n + 1 + cntL done)) := by
        have e : (Pt.mk nm tx al (done ++ [k])).kids = done ++ [k] := rfl
        rw [pre_eq, if_neg (show (Pt.mk nm tx al (done ++ [k])).name ≠ [] from hn), e, preL_append, preL_cons, preL_nil, List.append_nil, preL_cnt]
      have hm' : m < (pre k (n : Int) (n + 1 + cntL done)).length := by rw [pre_cnt] at hm ⊢; exact hm
      have hl := preL_cnt done n (n + 1)
      have hlt : 1 + cntL done + m < (pre (.mk nm tx al (done ++ [k])) (-1) n).length := by rw [he, List.length_cons, List.length_append]; omega
      refine ⟨1 + cntL done + m, hlt, by omega, ?_⟩
      have hname : ∀ (q : Pt) (u v : Int) (n m : Nat) (h : m < (pre q u n).length) (h' : m < (pre q v n).length), ((pre q u n)[m]'h).name = ((pre q v n)[m]'h').name := fun q u v n m h h' => by
        cases m with
        | zero =>
          simp only [pre_eq, List.getElem_cons_zero]
          obtain ⟨a1, a2, a3, a4⟩ := q
          by_cases c : a1 = [] <;> simp [Pt.node, c]
        | succ m => simp only [pre_eq, List.getElem_cons_succ]
      have e1 : (pre (.mk nm tx al (done ++ [k])) (-1) n)[1 + cntL done + m]'hlt = (pre k (n : Int) (n + 1 + cntL done))[m]'hm' := by
        simp only [he]
        rw [List.getElem_cons, dif_neg (by omega), List.getElem_append_right (by omega)]
        congr 1
        omega
      rw [e1, ← h2]
      exact hname _ _ _ _ _ _ _
/-- a leaf more, below a node of the right edge that has a name -/
theorem Named.grow {p : Pt} {n a : Nat} (h : Named p n a) (q : Pt) (hq : cnt q = 1) : ∃ p', cnt p' = cnt p + 1 ∧ ∀ parent, pre p' parent n = pre p parent n ++ [q.node (a : Int)] := by
  have hpq : ∀ (u : Int) (n : Nat), pre q u n = [q.node u] := fun u n => by
    have h1 := pre_cnt q u n
    have h2 := pre_eq q u n
    rw [h2, List.length_cons] at h1
    rw [h2]
    congr 1
    exact List.eq_nil_of_length_eq_zero (by omega)
  induction h with
  | @own nm tx al ks n hn =>
    refine ⟨.mk nm tx al (ks ++ [q]), ?_, fun parent => ?_⟩
    · rw [cnt_eq, cnt_eq, if_neg (show (Pt.mk nm tx al (ks ++ [q])).name ≠ [] from hn), if_neg (show (Pt.mk nm tx al ks).name ≠ [] from hn)]
      show 1 + cntL (ks ++ [q]) = 1 + cntL ks + 1
      rw [cntL_append, cntL_cons, cntL_nil]; omega
    · have e : (Pt.mk nm tx al (ks ++ [q])).kids = ks ++ [q] := rfl
      have e2 : (Pt.mk nm tx al ks).kids = ks := rfl
      rw [pre_eq, pre_eq, if_neg (show (Pt.mk nm tx al (ks ++ [q])).name ≠ [] from hn), if_neg (show (Pt.mk nm tx al ks).name ≠ [] from hn), e, e2, preL_append, preL_cons, preL_nil, List.append_nil, hpq]
      rfl
  | @kid nm tx al done k n a hn h ih =>
    obtain ⟨k', hc, hk⟩ := ih
    refine ⟨.mk nm tx al (done ++ [k']), ?_, fun parent => ?_⟩
    · rw [cnt_eq, cnt_eq, if_neg (show (Pt.mk nm tx al (done ++ [k'])).name ≠ [] from hn), if_neg (show (Pt.mk nm tx al (done ++ [k])).name ≠ [] from hn)]
      show 1 + cntL (done ++ [k']) = 1 + cntL (done ++ [k]) + 1
      rw [cntL_append, cntL_append, cntL_cons, cntL_cons, cntL_nil, hc]; omega
    · have e : (Pt.mk nm tx al (done ++ [k'])).kids = done ++ [k'] := rfl
      have e2 : (Pt.mk nm tx al (done ++ [k])).kids = done ++ [k] := rfl
      rw [pre_eq, pre_eq, if_neg (show (Pt.mk nm tx al (done ++ [k'])).name ≠ [] from hn), if_neg (show (Pt.mk nm tx al (done ++ [k])).name ≠ [] from hn), e, e2, preL_append, preL_append, preL_cons, preL_cons, preL_nil, preL_nil, List.append_nil, List.append_nil, preL_cnt, hk]
      rw [List.cons_append, List.append_assoc]
      rfl
/-- the way up from a part's last node: its right edge, then what stands over the part -/
theorem Lies.way {p : Pt} : ∀ {L X Y : List Nd} {parent : Int}, Lies L p X Y parent → ∀ a ∈ anc (par L) (X.length + cnt p - 1), Edge p X.length a ∨ (0 ≤ parent ∧ a ∈ anc (par L) parent.toNat) := by
  refine Pt.ind (C := fun p => ∀ {L X Y : List Nd} {parent : Int}, Lies L p X Y parent → ∀ a ∈ anc (par L) (X.length + cnt p - 1), Edge p X.length a ∨ (0 ≤ parent ∧ a ∈ anc (par L) parent.toNat)) (fun p ih L X Y parent h a ha => ?_) p
  have hroot : ∀ a ∈ anc (par L) X.length, Edge p X.length a ∨ (0 ≤ parent ∧ a ∈ anc (par L) parent.toNat) := fun a ha => by
    have hp := h.par_root
    have hlt := h.par_lt
    by_cases c : 0 ≤ parent
    · rw [anc_step _ _ (by rw [hp]; exact c) (by rw [hp]; exact hlt), hp] at ha
      rcases List.mem_cons.1 ha with rfl | ha
      · exact .inl (.own _ _)
      · exact .inr ⟨c, ha⟩
    · rw [anc_stop _ _ (by rw [hp]; omega)] at ha
      rw [List.mem_singleton.1 ha]
      exact .inl (.own _ _)
  by_cases c : p.name = []
  · have hcp : cnt p = 1 := by rw [cnt_eq, if_pos c]
    rw [hcp, Nat.add_sub_cancel] at ha
    exact hroot a ha
  · have hcp : cnt p = 1 + cntL p.kids := by rw [cnt_eq, if_neg c]
    rcases List.eq_nil_or_concat p.kids with hk | ⟨done, k, hk⟩
    · rw [hcp, hk, cntL_nil, Nat.add_zero, Nat.add_sub_cancel] at ha
      exact hroot a ha
    · have hk' : p.kids = done ++ k :: [] := by rw [hk]; simp
      obtain ⟨X', Y', hl, hlies⟩ := h.kid c hk'
      have hck : cntL p.kids = cntL done + cnt k := by rw [hk', cntL_append, cntL_cons, cntL_nil, Nat.add_zero]
      have e : X.length + cnt p - 1 = X'.length + cnt k - 1 := by omega
      rw [e] at ha
      have hkm : k ∈ p.kids := by rw [hk']; simp
      rcases ih k hkm hlies a ha with h1 | ⟨-, h1⟩
      · left
        obtain ⟨nm, tx, al, ks⟩ := p
        have hks : ks = done ++ [k] := hk'
        subst hks
        rw [hl] at h1
        exact .kid done k c h1
      · rw [Int.toNat_natCast] at h1
        exact hroot a h1
end Go.Proofs.Ytofllmofdenadaa
