/- The document's own laying of a part, in memory: the statements' Lay. No conditions but that there are not too many parts. -/
import Derived.Test.YtofllmofdenadaaDy
import Derived.Test.YtofllmofdenadaaDt
import Derived.Test.YtofllmofdenadaaEa
namespace Go.Proofs.Ytofllmofdenadaa
set_option linter.unusedVariables false
open Go.RowKit Go.Proofs.Fm Go.Proofs.Fb Go.Proofs.Fd Go.Proofs.Fc

theorem setLast_length (l : List Nd) (i : Nat) (k : Int) : (setLast l i k).length = l.length := by unfold setLast; simp
theorem layK_len {ks : List Pt} (ih : ∀ k ∈ ks, ∀ (l : List Nd) (parent prev : Int), (layF l k parent prev).length = l.length + cnt k) : ∀ (l : List Nd) (r : Nat) (last : Int), (layK l ks r last).1.length = l.length + cntL ks := by
  induction ks with
  | nil => intro l r last; rw [layK_nil, cntL_nil]; rfl
  | cons k t iht =>
    intro l r last
    rw [layK_cons, iht (fun x hx => ih x (.tail _ hx)), tell_length, ih k (.head _), cntL_cons]; omega
theorem layF_length (p : Pt) : ∀ (l : List Nd) (parent prev : Int), (layF l p parent prev).length = l.length + cnt p := by
  refine Pt.ind (C := fun p => ∀ (l : List Nd) (parent prev : Int), (layF l p parent prev).length = l.length + cnt p) (fun p ih l parent prev => ?_) p
  rw [layF_eq, cnt_eq]
  by_cases c : p.name = []
  · rw [if_pos c, if_pos c]; simp
  · rw [if_neg c, if_neg c, setLast_length, layK_len ih]; simp; omega
theorem layK_length (ks : List Pt) (l : List Nd) (r : Nat) (last : Int) : (layK l ks r last).1.length = l.length + cntL ks := layK_len (fun k _ => layF_length k) l r last
theorem layK_succ {ks : List Pt} {j : Nat} (h : j < ks.length) (l : List Nd) (r : Nat) (last : Int) : layK l (ks.take (j + 1)) r last = (tell (layF (layK l (ks.take j) r last).1 (ks[j]'h) r (layK l (ks.take j) r last).2) r (layK l (ks.take j) r last).2 (layK l (ks.take j) r last).1.length, ((layK l (ks.take j) r last).1.length : Int)) := by
  rw [List.take_succ_eq_append_getElem h, layK_append, layK_cons, layK_nil]

theorem OTree.len {base n c : Nat} {w : World} {A : Option Addr} {l : List Nd} (h : OTree base w A n c l) : l.length = n := by
  obtain ⟨rs, h1, h2, h3⟩ := h
  have := h2.1
  rw [rawCells_length] at this
  rw [← h1, List.length_map]; omega
theorem OTree.some_ {base n c : Nat} {w : World} {A : Option Addr} {l : List Nd} (h : OTree base w A n c l) (hn : 0 < n) : ∃ g, A = some ⟨g, 0, none⟩ ∧ base ≤ g ∧ g < w.heap.size := by
  obtain ⟨rs, h1, h2, h3⟩ := h
  rcases h2.2 with ⟨hv, h0⟩ | ⟨g, cap, cur, hv, hb, hh, _⟩
  · omega
  · injection hv with e1 e2 e3
    exact ⟨g, e1, hb, (Array.getElem?_eq_some_iff.1 hh).1⟩
theorem OTree.ne {base n c b t : Nat} {w : World} {A : Option Addr} {l : List Nd} {cs : Array Value} (h : OTree base w A n c l) (hb : Bk w b t cs) (ht : 68 ≠ t) : (Value.slice A n c).ownBlock ≠ some b := by
  obtain ⟨rs, h1, h2, h3⟩ := h
  exact own_ne h2 hb ht
theorem OTree.cell {base n c g : Nat} {w : World} {l : List Nd} (h : OTree base w (some ⟨g, 0, none⟩) n c l) (o : Nat) (ho : o < n * 9) : (∃ u, w.cell? ⟨g, o, none⟩ = some u) ∧ w.frozen? ⟨g, o, none⟩ = false ∧ g < w.heap.size := by
  obtain ⟨rs, h1, h2, h3⟩ := h
  have hl := h2.1
  exact ⟨⟨_, (h2.cellAt o (by omega)).trans (List.getElem?_eq_getElem (by omega))⟩, h2.frozenAt _, (h2.lt g rfl).2⟩
/-- a field of a node is written that is not its attributes -/
theorem OTree.write {base n c g k j : Nat} {w : World} {l : List Nd} (h : OTree base w (some ⟨g, 0, none⟩) n c l) (hk : k < n) (hj : j < 9) (u : Value) (f : Nd → Nd) (hf : ∀ x v, (ndCells x v).set j u = ndCells (f x) v) (ha : ∀ x, (f x).attrs = x.attrs) : OTree base (w.setCell ⟨g, k * 9 + j, none⟩ u) (some ⟨g, 0, none⟩) n c (l.modify k f) := by
  have hl := h.len
  obtain ⟨rs, h1, h2, h3⟩ := h
  have hkr : k < rs.length := by rw [← h1, List.length_map] at hl; omega
  refine ⟨rs.set k (f (rs[k]'hkr).1, (rs[k]'hkr).2), ?_, ?_, ?_⟩
  · rw [List.map_set, ← h1]
    apply List.ext_getElem?
    intro i
    rw [List.getElem?_set, List.getElem?_modify]
    by_cases e : k = i
    · subst e
      simp [hkr]
    · simp [e]
  · have := (h2.stored (k * 9 + j) u).1
    rwa [raw_set rs k j u (f (rs[k]'hkr).1, (rs[k]'hkr).2) hkr hj (hf _ _)] at this
  · intro q hq
    have hst : ∀ q ∈ rs, (w.setCell ⟨g, k * 9 + j, none⟩ u).ownsRow base 66 2 q.2 q.1.attrs.length (attrCells q.1.attrs) := fun q hq => by
      refine ownsRow_setCell_other (h3 q hq) ?_ _
      rcases own_own (h3 q hq) h2 (by decide) with h | h
      · rw [h]; simp
      · exact h
    rcases List.mem_or_eq_of_mem_set hq with hq | rfl
    · exact hst q hq
    · have := hst _ (List.getElem_mem hkr)
      simp only [ha]
      exact this
/-- a node more -/
theorem OTree.push {base n c g cap : Nat} {w w5 : World} {A : Option Addr} {l : List Nd} {rs : List Rn} (h1 : rs.map (·.1) = l) (h2 : w.ownsRow base 68 9 (.slice A n c) n (rawCells rs)) (h3 : ∀ q ∈ rs, w.ownsRow base 66 2 q.2 q.1.attrs.length (attrCells q.1.attrs)) (x : Nd) (va : Value) (hx : w.ownsRow base 66 2 va x.attrs.length (attrCells x.attrs))
    (hr : w5.ownsRow base 68 9 (.slice (some ⟨g, 0, none⟩) (n + 1) cap) (n + 1) (rawCells rs ++ ndCells x va)) (hg : w.grownBy w5 (Value.slice A n c).ownBlock) : OTree base w5 (some ⟨g, 0, none⟩) (n + 1) cap (l ++ [x]) := by
  refine ⟨rs ++ [(x, va)], by rw [List.map_append, h1]; rfl, ?_, ?_⟩
  · rw [rawCells_append]
    have e : rawCells [((x, va) : Rn)] = ndCells x va := by simp [rawCells]
    rw [e]; exact hr
  · intro q hq
    rcases List.mem_append.1 hq with hq | hq
    · exact (h3 q hq).kept hg (own_own (h3 q hq) h2 (by decide))
    · rw [List.mem_singleton.1 hq]
      exact hx.kept hg (own_own hx h2 (by decide))

/-- what stands while a part is laid: Wc is the world when the call began, ob the block of the list that it was given -/
structure LaySt (W0 Wc : World) (ob : Option Nat) (A : Option Addr) (n c : Nat) (m : List Nd) (W : World) : Prop where
  tree : OTree W0.heap.size W A n c m
  gr : Wc.grownBy W ob
  at_ : ∀ g, (Value.slice A n c).ownBlock = some g → Wc.heap.size ≤ g ∨ ob = some g
theorem grown_then {a b' c : World} {row row' : Option Nat} (h : a.grownBy b' row) (k : b'.grownBy c row') (hr : ∀ j, row' = some j → a.heap.size ≤ j ∨ row = some j) : a.grownBy c row :=
  ⟨k.os.trans h.os, k.tape.trans h.tape, k.output.trans h.output, Nat.le_trans h.size k.size, fun i hi hne =>
    (k.block i (Nat.lt_of_lt_of_le hi h.size) (fun e => by
      rcases hr i e.symm with h1 | h1
      · omega
      · exact hne h1.symm)).trans (h.block i hi hne)⟩
theorem LaySt.next {W0 Wc W W' : World} {ob : Option Nat} {A A' : Option Addr} {n c n' c' : Nat} {m m' : List Nd} (h : LaySt W0 Wc ob A n c m W) (h' : LaySt W0 W (Value.slice A n c).ownBlock A' n' c' m' W') : LaySt W0 Wc ob A' n' c' m' W' :=
  ⟨h'.tree, grown_then h.gr h'.gr h.at_, fun g hg => by
    rcases h'.at_ g hg with h1 | h1
    · exact .inl (Nat.le_trans h.gr.size h1)
    · exact h.at_ g h1⟩
theorem LaySt.write {W0 Wc W : World} {ob : Option Nat} {g n c k j : Nat} {m : List Nd} (h : LaySt W0 Wc ob (some ⟨g, 0, none⟩) n c m W) (hk : k < n) (hj : j < 9) (u : Value) (f : Nd → Nd) (hf : ∀ x v, (ndCells x v).set j u = ndCells (f x) v) (ha : ∀ x, (f x).attrs = x.attrs) : LaySt W0 Wc ob (some ⟨g, 0, none⟩) n c (m.modify k f) (W.setCell ⟨g, k * 9 + j, none⟩ u) := by
  refine ⟨h.tree.write hk hj u f hf ha, ?_, h.at_⟩
  obtain ⟨rs, h1, h2, h3⟩ := h.tree
  exact grown_then h.gr (h2.stored (k * 9 + j) u).2 (fun j hj => h.at_ j (by simpa [Value.ownBlock] using hj))
theorem LaySt.below {W0 Wc W : World} {ob : Option Nat} {A : Option Addr} {n c : Nat} {m : List Nd} (h : LaySt W0 Wc ob A n c m W) (hb : Below W0.heap.size W0 Wc) (hob : ∀ k, ob = some k → W0.heap.size ≤ k) : Below W0.heap.size W0 W := hb.grown h.gr hb.size hob
def LayOut (W0 W : World) (ob : Option Nat) (m : List Nd) (e : Ending) (w' : World) : Prop := ∃ A c, e = .returned (.slice A m.length c) ∧ LaySt W0 W ob A m.length c m w'
def LaySpec (p : Pt) : Prop := ∀ (nm tx : Str) (al : List Att) (ks : List Pt) (A K A0 : Option Addr) (c d n0 c0 : Nat) (l : List Nd) (parent prev : Int) (W0 W : World), p = .mk nm tx al ks → AVal W0 (.slice A al.length c) al → KVal W0 (.slice K ks.length d) ks →
  Below W0.heap.size W0 W → OTree W0.heap.size W A0 n0 c0 l → n0 + cnt p ≤ 1000000 →
  Calls Try.prog 49 #[.slice A0 n0 c0, .agg #[str nm, str tx, .slice A al.length c, .slice K ks.length d], .int .i64 parent, .int .i64 prev] W (LayOut W0 W (Value.slice A0 n0 c0).ownBlock (layF l p parent prev))
end Go.Proofs.Ytofllmofdenadaa
