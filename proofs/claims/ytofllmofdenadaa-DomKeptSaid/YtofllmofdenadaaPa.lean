/- Words on memory: parts whose cells, those of their attributes among them, lie in blocks of some kind; a row of them that is filled place by place. No conditions. -/
import Derived.Test.YtofllmofdenadaaDs2
namespace Go.Proofs.Fd
set_option linter.unusedVariables false
open Go.RowKit Go.Proofs.Fb

theorem frozen_of_block {w w' : World} {b : Nat} (h : w'.heap[b]? = w.heap[b]?) (o : Nat) : w'.frozen? ⟨b, o, none⟩ = w.frozen? ⟨b, o, none⟩ := by
  unfold World.frozen?
  simp only [h]
/-- a list of attributes, its cells in blocks of some kind -/
def AOk (w : World) (S : Nat → Prop) (v : Value) (al : List Att) : Prop := ∃ A c, v = .slice A al.length c ∧ ARow w A al ∧ al.length ≤ c ∧ al.length ≤ 4398046511104 ∧ (A = none → c = 0) ∧ ∀ b off, al ≠ [] → A = some ⟨b, off, none⟩ → S b ∧ ∀ o, w.frozen? ⟨b, o, none⟩ = false
theorem AOk.val {w : World} {S : Nat → Prop} {v : Value} {al : List Att} (h : AOk w S v al) : AVal w v al := by
  obtain ⟨A, c, h1, h2, h3, h4, h5, -⟩ := h
  exact ⟨A, c, h1, h2, h3, h4, h5⟩
theorem AOk.map {w w' : World} {S S' : Nat → Prop} {v : Value} {al : List Att} (h : AOk w S v al) (hS : ∀ k, S k → S' k) (hb : ∀ k, S k → w'.heap[k]? = w.heap[k]?) : AOk w' S' v al := by
  obtain ⟨A, c, h1, h2, h3, h4, h5, h6⟩ := h
  refine ⟨A, c, h1, fun hx => ?_, h3, h4, h5, fun b off hx e => ⟨hS b (h6 b off hx e).1, fun o => (frozen_of_block (hb b (h6 b off hx e).1) o).trans ((h6 b off hx e).2 o)⟩⟩
  obtain ⟨b, off, rfl, hc⟩ := h2 hx
  have hSb := (h6 b off hx rfl).1
  have e : ∀ j, w'.cell? ⟨b, j, none⟩ = w.cell? ⟨b, j, none⟩ := fun j => World.cell?_of_block (a := ⟨b, j, none⟩) (hb b hSb)
  exact ⟨b, off, rfl, fun i hi => ⟨(e _).trans (hc i hi).1, (e _).trans (hc i hi).2⟩⟩
theorem AOk.nil (w : World) (S : Nat → Prop) : AOk w S (.slice none 0 0) [] := ⟨none, 0, rfl, ARow.nil _ _, Nat.le_refl _, by simp, fun _ => rfl, fun _ _ h => absurd rfl h⟩
/-- at offset o of block b stands the part p; its blocks, and those below it, are of the kind S; its attributes', too -/
def QCell (w : World) (S : Nat → Prop) : Nat → Nat → Pt → Prop
  | b, o, .mk nm tx al ks => S b ∧ w.cell? ⟨b, o, none⟩ = some (str nm) ∧ w.cell? ⟨b, o + 1, none⟩ = some (str tx) ∧ (∃ va, w.cell? ⟨b, o + 2, none⟩ = some va ∧ AOk w S va al) ∧
      ∃ A c, w.cell? ⟨b, o + 3, none⟩ = some (.slice A ks.length c) ∧ ks.length ≤ c ∧ c ≤ 9223372036854775807 ∧ (A = none → c = 0) ∧ (ks = [] ∨ ∃ b' off, A = some ⟨b', off, none⟩ ∧ QCells w S b' off ks)
where QCells (w : World) (S : Nat → Prop) : Nat → Nat → List Pt → Prop
  | _, _, [] => True
  | b, o, k :: t => QCell w S b o k ∧ QCells w S b (o + 4) t
abbrev QCells := QCell.QCells
def QRes (w : World) (S : Nat → Prop) (v : Value) (ks : List Pt) : Prop := ∃ A c, v = .slice A ks.length c ∧ ks.length ≤ c ∧ c ≤ 9223372036854775807 ∧ (A = none → c = 0) ∧ (ks = [] ∨ ∃ b' off, A = some ⟨b', off, none⟩ ∧ QCells w S b' off ks)
theorem QCell_eq (w : World) (S : Nat → Prop) (b o : Nat) (p : Pt) : QCell w S b o p ↔ S b ∧ w.cell? ⟨b, o, none⟩ = some (str p.name) ∧ w.cell? ⟨b, o + 1, none⟩ = some (str p.text) ∧ (∃ va, w.cell? ⟨b, o + 2, none⟩ = some va ∧ AOk w S va p.attrs) ∧ ∃ vk, w.cell? ⟨b, o + 3, none⟩ = some vk ∧ QRes w S vk p.kids := by
  obtain ⟨nm, tx, al, ks⟩ := p
  rw [QCell]
  constructor
  · rintro ⟨h0, h1, h2, h3, A, c, h4, h5⟩; exact ⟨h0, h1, h2, h3, _, h4, A, c, rfl, h5⟩
  · rintro ⟨h0, h1, h2, h3, _, h4, A, c, rfl, h5⟩; exact ⟨h0, h1, h2, h3, A, c, h4, h5⟩
theorem QCells_nil (w : World) (S : Nat → Prop) (b o : Nat) : QCells w S b o [] := by unfold QCells; rw [QCell.QCells]; trivial
theorem QCells_cons (w : World) (S : Nat → Prop) (b o : Nat) (k : Pt) (t : List Pt) : QCells w S b o (k :: t) ↔ QCell w S b o k ∧ QCells w S b (o + 4) t := by unfold QCells; rw [QCell.QCells]
/-- kept where the blocks of that kind are; of a wider kind; read like any other -/
theorem qcell_map {w w' : World} {S S' : Nat → Prop} (hS : ∀ k, S k → S' k) (hb : ∀ k, S k → w'.heap[k]? = w.heap[k]?) (p : Pt) : ∀ (b o : Nat), QCell w S b o p → QCell w' S' b o p := by
  refine Pt.ind (C := fun p => ∀ (b o : Nat), QCell w S b o p → QCell w' S' b o p) (fun p ih b o h => ?_) p
  have hL : ∀ (ks : List Pt), (∀ k ∈ ks, k ∈ p.kids) → ∀ (b o : Nat), QCells w S b o ks → QCells w' S' b o ks := by
    intro ks
    induction ks with
    | nil => intro _ b o _; exact QCells_nil _ _ _ _
    | cons k t iht =>
      intro hk b o h
      rw [QCells_cons] at h ⊢
      exact ⟨ih k (hk k (.head _)) b o h.1, iht (fun x hx => hk x (.tail _ hx)) b _ h.2⟩
  rw [QCell_eq] at h ⊢
  obtain ⟨h0, h1, h2, ⟨va, h3, ha⟩, vk, h4, A, c, rfl, h5, h6, h7, h8⟩ := h
  have e : ∀ j, w'.cell? ⟨b, j, none⟩ = w.cell? ⟨b, j, none⟩ := fun j => World.cell?_of_block (a := ⟨b, j, none⟩) (hb b h0)
  refine ⟨hS b h0, (e _).trans h1, (e _).trans h2, ⟨va, (e _).trans h3, ha.map hS hb⟩, _, (e _).trans h4, A, c, rfl, h5, h6, h7, ?_⟩
  rcases h8 with h8 | ⟨b', off, h9, h10⟩
  · exact .inl h8
  · exact .inr ⟨b', off, h9, hL _ (fun k hk => hk) _ _ h10⟩
theorem qcells_map {w w' : World} {S S' : Nat → Prop} (hS : ∀ k, S k → S' k) (hb : ∀ k, S k → w'.heap[k]? = w.heap[k]?) : ∀ (ks : List Pt) (b o : Nat), QCells w S b o ks → QCells w' S' b o ks
  | [], b, o, _ => QCells_nil _ _ _ _
  | k :: t, b, o, h => by
    rw [QCells_cons] at h ⊢
    exact ⟨qcell_map hS hb k b o h.1, qcells_map hS hb t b _ h.2⟩
theorem QRes.map {w w' : World} {S S' : Nat → Prop} {v : Value} {ks : List Pt} (h : QRes w S v ks) (hS : ∀ k, S k → S' k) (hb : ∀ k, S k → w'.heap[k]? = w.heap[k]?) : QRes w' S' v ks := by
  obtain ⟨A, c, rfl, h5, h6, h7, h8⟩ := h
  refine ⟨A, c, rfl, h5, h6, h7, ?_⟩
  rcases h8 with h8 | ⟨b', off, h9, h10⟩
  · exact .inl h8
  · exact .inr ⟨b', off, h9, qcells_map hS hb _ _ _ h10⟩
theorem qcell_read {w : World} {S : Nat → Prop} (p : Pt) : ∀ (b o : Nat), QCell w S b o p → PCell w b o p := by
  refine Pt.ind (C := fun p => ∀ (b o : Nat), QCell w S b o p → PCell w b o p) (fun p ih b o h => ?_) p
  have hL : ∀ (ks : List Pt), (∀ k ∈ ks, k ∈ p.kids) → ∀ (b o : Nat), QCells w S b o ks → PCells w b o ks := by
    intro ks
    induction ks with
    | nil => intro _ b o _; exact PCells_nil _ _ _
    | cons k t iht =>
      intro hk b o h
      rw [QCells_cons] at h
      rw [PCells_cons]
      exact ⟨ih k (hk k (.head _)) b o h.1, iht (fun x hx => hk x (.tail _ hx)) b _ h.2⟩
  rw [QCell_eq] at h
  rw [PCell_eq]
  obtain ⟨h0, h1, h2, ⟨va, h3, ha⟩, vk, h4, A, c, rfl, h5, h6, h7, h8⟩ := h
  have ha' := ha.val
  refine ⟨h1, ?_, ⟨va, h3, ?_⟩, _, h4, A, c, rfl, h5, h6, h7, ?_⟩
  · obtain ⟨nm, tx, al, ks⟩ := p; exact h2
  · obtain ⟨nm, tx, al, ks⟩ := p; exact ha'
  · rcases h8 with h8 | ⟨b', off, h9, h10⟩
    · exact .inl h8
    · exact .inr ⟨b', off, h9, hL _ (fun k hk => hk) _ _ h10⟩
theorem QRes.read {w : World} {S : Nat → Prop} {v : Value} {ks : List Pt} (h : QRes w S v ks) : KVal w v ks := by
  obtain ⟨A, c, rfl, h5, h6, h7, h8⟩ := h
  refine ⟨A, c, rfl, h5, h6, h7, ?_⟩
  rcases h8 with h8 | ⟨b', off, h9, h10⟩
  · exact .inl h8
  · refine .inr ⟨b', off, h9, ?_⟩
    have : ∀ (ks : List Pt) (o : Nat), QCells w S b' o ks → PCells w b' o ks := by
      intro ks
      induction ks with
      | nil => intro o _; exact PCells_nil _ _ _
      | cons k t ih => intro o h; rw [QCells_cons] at h; rw [PCells_cons]; exact ⟨qcell_read k _ _ h.1, ih _ h.2⟩
    exact this _ _ h10
theorem QRes.nil (w : World) (S : Nat → Prop) : QRes w S (.slice none 0 0) [] := ⟨none, 0, rfl, by simp, by omega, fun _ => rfl, .inl rfl⟩
/-- a row of the call's own holds parts -/
theorem res_of {W : World} {base tE : Nat} {v : Value} {rs : List Rk} {S : Nat → Prop} (own : W.ownsRow base tE 4 v rs.length (rkCells rs)) (each : ∀ q ∈ rs, AOk W S q.2.1 q.1.attrs ∧ QRes W S q.2.2 q.1.kids) (hS : ∀ g, v.ownBlock = some g → S g) : QRes W S v (rs.map (·.1)) := by
  rcases own.2 with ⟨rfl, h0⟩ | ⟨g, cap, cur, rfl, hb, hh, hnc, hcm, hcs, htk⟩
  · have : rs = [] := List.eq_nil_of_length_eq_zero h0
    subst this; exact QRes.nil _ _
  · have hgl : g < W.heap.size := (Array.getElem?_eq_some_iff.1 hh).1
    have hSg := hS g rfl
    refine ⟨some ⟨g, 0, none⟩, cap, by rw [List.length_map], by rw [List.length_map]; exact hnc, by have := hcm; unfold maxLen at this; omega, (fun e => by cases e), .inr ⟨g, 0, rfl, ?_⟩⟩
    have hall : ∀ (ts : List Rk) (i : Nat), ts = rs.drop i → QCells W S g (0 + i * 4) (ts.map (·.1)) := by
      intro ts
      induction ts with
      | nil => intro i _; exact QCells_nil _ _ _ _
      | cons q t ih =>
        intro i hi
        have hil : i < rs.length := by
          rcases Nat.lt_or_ge i rs.length with h | h
          · exact h
          · rw [List.drop_eq_nil_of_le h] at hi; cases hi
        have hd := List.drop_eq_getElem_cons hil
        rw [← hi] at hd
        injection hd with e1 e2
        have hq : q ∈ rs := by rw [e1]; exact List.getElem_mem hil
        rw [List.map_cons, QCells_cons]
        have hc : ∀ j, j < 4 → ∀ u, (ptCells q)[j]? = some u → W.cell? ⟨g, 0 + i * 4 + j, none⟩ = some u := by
          intro j hj u hu
          have := own.cells (g := g) rfl (i * 4 + j) u (by rw [rkCells_get rs i hil j hj, ← e1]; exact hu)
          rwa [addr_add, ← Nat.zero_add (i * 4)] at this
        refine ⟨(QCell_eq _ _ _ _ _).2 ⟨hSg, hc 0 (by omega) _ rfl, hc 1 (by omega) _ rfl, ⟨_, hc 2 (by omega) _ rfl, (each q hq).1⟩, _, hc 3 (by omega) _ rfl, (each q hq).2⟩, ?_⟩
        have := ih (i + 1) e2
        rwa [show 0 + (i + 1) * 4 = 0 + i * 4 + 4 by omega] at this
    exact hall rs 0 rfl
/-- a place of a row of parts is written -/
theorem set4_get (cs : Array Value) (o : Nat) (h : o + 3 < cs.size) (a b c d : Value) (j : Nat) (hj : j < 4) : ((((cs.setIfInBounds o a).setIfInBounds (o + 1) b).setIfInBounds (o + 2) c).setIfInBounds (o + 3) d)[o + j]? = [a, b, c, d][j]? := by
  have hc : j = 0 ∨ j = 1 ∨ j = 2 ∨ j = 3 := by omega
  rcases hc with rfl | rfl | rfl | rfl
  · rw [Array.getElem?_setIfInBounds_ne (by omega), Array.getElem?_setIfInBounds_ne (by omega), Array.getElem?_setIfInBounds_ne (by omega), Nat.add_zero, Array.getElem?_setIfInBounds_self_of_lt (by omega)]; rfl
  · rw [Array.getElem?_setIfInBounds_ne (by omega), Array.getElem?_setIfInBounds_ne (by omega), Array.getElem?_setIfInBounds_self_of_lt (by simp only [Array.size_setIfInBounds]; omega)]; rfl
  · rw [Array.getElem?_setIfInBounds_ne (by omega), Array.getElem?_setIfInBounds_self_of_lt (by simp only [Array.size_setIfInBounds]; omega)]; rfl
  · rw [Array.getElem?_setIfInBounds_self_of_lt (by simp only [Array.size_setIfInBounds]; omega)]; rfl
theorem set4_far (cs : Array Value) (o : Nat) (a b c d : Value) (k : Nat) (hk : k < o ∨ o + 3 < k) : ((((cs.setIfInBounds o a).setIfInBounds (o + 1) b).setIfInBounds (o + 2) c).setIfInBounds (o + 3) d)[k]? = cs[k]? := by
  rw [Array.getElem?_setIfInBounds_ne (by omega), Array.getElem?_setIfInBounds_ne (by omega), Array.getElem?_setIfInBounds_ne (by omega), Array.getElem?_setIfInBounds_ne (by omega)]
theorem rk_get (rs : List Rk) (i : Nat) (h : i < rs.length) (j : Nat) (hj : j < 4) : (rkCells rs).toArray[i * 4 + j]? = (ptCells (rs[i]'h))[j]? := by
  simpa using rkCells_get rs i h j hj
theorem rk_set (rs : List Rk) (i : Nat) (hi : i < rs.length) (q : Rk) : (rkCells (rs.set i q)).toArray = ((((rkCells rs).toArray.setIfInBounds (i * 4) (str q.1.name)).setIfInBounds (i * 4 + 1) (str q.1.text)).setIfInBounds (i * 4 + 2) q.2.1).setIfInBounds (i * 4 + 3) q.2.2 := by
  have hl : (rkCells rs).length = rs.length * 4 := rkCells_length rs
  have hl' : (rkCells (rs.set i q)).length = rs.length * 4 := by rw [rkCells_length, List.length_set]
  refine Array.ext_getElem? fun k => ?_
  by_cases hk : k < rs.length * 4
  · obtain ⟨m, j, hj, rfl⟩ : ∃ m j, j < 4 ∧ k = m * 4 + j := ⟨k / 4, k % 4, Nat.mod_lt _ (by omega), by omega⟩
    have hm : m < rs.length := by omega
    rw [rk_get (rs.set i q) m (by rw [List.length_set]; exact hm) j hj]
    by_cases e : m = i
    · subst e
      rw [List.getElem_set_self, set4_get _ _ (by simp only [List.size_toArray]; omega) _ _ _ _ j hj]
      rfl
    · rw [List.getElem_set_ne (fun x => e x.symm), set4_far _ _ _ _ _ _ _ (by omega), rk_get rs m hm j hj]
  · rw [Array.getElem?_eq_none (by simp only [List.size_toArray]; omega), Array.getElem?_eq_none (by simp only [Array.size_setIfInBounds, List.size_toArray]; omega)]
end Go.Proofs.Fd
