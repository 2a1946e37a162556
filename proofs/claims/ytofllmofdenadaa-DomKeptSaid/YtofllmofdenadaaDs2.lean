/- Words on memory: parts of the call's own, whose cells lie in blocks of some kind; a list of them that grows. No conditions. -/
import Derived.Test.YtofllmofdenadaaDq
import Derived.Test.YtofllmofdenadaaOne
namespace Go.Proofs.Fd
set_option linter.unusedVariables false
open Go.RowKit Go.Proofs.Fb

def Pt.text : Pt → Str | .mk _ tx _ _ => tx
def Pt.attrs : Pt → List Att | .mk _ _ al _ => al
/-- at offset o of block b stands the part p; its blocks, and those below it, are of the kind S; its attributes read in W0 -/
def RCell (W0 w : World) (S : Nat → Prop) : Nat → Nat → Pt → Prop
  | b, o, .mk nm tx al ks => S b ∧ w.cell? ⟨b, o, none⟩ = some (str nm) ∧ w.cell? ⟨b, o + 1, none⟩ = some (str tx) ∧ (∃ va, w.cell? ⟨b, o + 2, none⟩ = some va ∧ AVal W0 va al) ∧
      ∃ A c, w.cell? ⟨b, o + 3, none⟩ = some (.slice A ks.length c) ∧ ks.length ≤ c ∧ c ≤ 9223372036854775807 ∧ (A = none → c = 0) ∧ (ks = [] ∨ ∃ b' off, A = some ⟨b', off, none⟩ ∧ RCells W0 w S b' off ks)
where RCells (W0 w : World) (S : Nat → Prop) : Nat → Nat → List Pt → Prop
  | _, _, [] => True
  | b, o, k :: t => RCell W0 w S b o k ∧ RCells W0 w S b (o + 4) t
abbrev RCells := RCell.RCells
def KRes (W0 w : World) (S : Nat → Prop) (v : Value) (ks : List Pt) : Prop := ∃ A c, v = .slice A ks.length c ∧ ks.length ≤ c ∧ c ≤ 9223372036854775807 ∧ (A = none → c = 0) ∧ (ks = [] ∨ ∃ b' off, A = some ⟨b', off, none⟩ ∧ RCells W0 w S b' off ks)
theorem RCell_eq (W0 w : World) (S : Nat → Prop) (b o : Nat) (p : Pt) : RCell W0 w S b o p ↔ S b ∧ w.cell? ⟨b, o, none⟩ = some (str p.name) ∧ w.cell? ⟨b, o + 1, none⟩ = some (str p.text) ∧ (∃ va, w.cell? ⟨b, o + 2, none⟩ = some va ∧ AVal W0 va p.attrs) ∧ ∃ vk, w.cell? ⟨b, o + 3, none⟩ = some vk ∧ KRes W0 w S vk p.kids := by
  obtain ⟨nm, tx, al, ks⟩ := p
  rw [RCell]
  constructor
  · rintro ⟨h0, h1, h2, h3, A, c, h4, h5⟩; exact ⟨h0, h1, h2, h3, _, h4, A, c, rfl, h5⟩
  · rintro ⟨h0, h1, h2, h3, _, h4, A, c, rfl, h5⟩; exact ⟨h0, h1, h2, h3, A, c, h4, h5⟩
theorem RCells_nil (W0 w : World) (S : Nat → Prop) (b o : Nat) : RCells W0 w S b o [] := by unfold RCells; rw [RCell.RCells]; trivial
theorem RCells_cons (W0 w : World) (S : Nat → Prop) (b o : Nat) (k : Pt) (t : List Pt) : RCells W0 w S b o (k :: t) ↔ RCell W0 w S b o k ∧ RCells W0 w S b (o + 4) t := by unfold RCells; rw [RCell.RCells]
/-- kept where the blocks of that kind are; of a wider kind; read like any other -/
theorem rcell_map {W0 w w' : World} {S S' : Nat → Prop} (hS : ∀ k, S k → S' k) (hb : ∀ k, S k → w'.heap[k]? = w.heap[k]?) (p : Pt) : ∀ (b o : Nat), RCell W0 w S b o p → RCell W0 w' S' b o p := by
  refine Pt.ind (C := fun p => ∀ (b o : Nat), RCell W0 w S b o p → RCell W0 w' S' b o p) (fun p ih b o h => ?_) p
  have hL : ∀ (ks : List Pt), (∀ k ∈ ks, k ∈ p.kids) → ∀ (b o : Nat), RCells W0 w S b o ks → RCells W0 w' S' b o ks := by
    intro ks
    induction ks with
    | nil => intro _ b o _; exact RCells_nil _ _ _ _ _
    | cons k t iht =>
      intro hk b o h
      rw [RCells_cons] at h ⊢
      exact ⟨ih k (hk k (.head _)) b o h.1, iht (fun x hx => hk x (.tail _ hx)) b _ h.2⟩
  rw [RCell_eq] at h ⊢
  obtain ⟨h0, h1, h2, ⟨va, h3, ha⟩, vk, h4, A, c, rfl, h5, h6, h7, h8⟩ := h
  have e : ∀ j, w'.cell? ⟨b, j, none⟩ = w.cell? ⟨b, j, none⟩ := fun j => World.cell?_of_block (a := ⟨b, j, none⟩) (hb b h0)
  refine ⟨hS b h0, (e _).trans h1, (e _).trans h2, ⟨va, (e _).trans h3, ha⟩, _, (e _).trans h4, A, c, rfl, h5, h6, h7, ?_⟩
  rcases h8 with h8 | ⟨b', off, h9, h10⟩
  · exact .inl h8
  · exact .inr ⟨b', off, h9, hL _ (fun k hk => hk) _ _ h10⟩
theorem rcells_map {W0 w w' : World} {S S' : Nat → Prop} (hS : ∀ k, S k → S' k) (hb : ∀ k, S k → w'.heap[k]? = w.heap[k]?) : ∀ (ks : List Pt) (b o : Nat), RCells W0 w S b o ks → RCells W0 w' S' b o ks
  | [], b, o, _ => RCells_nil _ _ _ _ _
  | k :: t, b, o, h => by
    rw [RCells_cons] at h ⊢
    exact ⟨rcell_map hS hb k b o h.1, rcells_map hS hb t b _ h.2⟩
theorem KRes.map {W0 w w' : World} {S S' : Nat → Prop} {v : Value} {ks : List Pt} (h : KRes W0 w S v ks) (hS : ∀ k, S k → S' k) (hb : ∀ k, S k → w'.heap[k]? = w.heap[k]?) : KRes W0 w' S' v ks := by
  obtain ⟨A, c, rfl, h5, h6, h7, h8⟩ := h
  refine ⟨A, c, rfl, h5, h6, h7, ?_⟩
  rcases h8 with h8 | ⟨b', off, h9, h10⟩
  · exact .inl h8
  · exact .inr ⟨b', off, h9, rcells_map hS hb _ _ _ h10⟩
theorem rcell_read {W0 w : World} {S : Nat → Prop} (hb : Below W0.heap.size W0 w) (p : Pt) : ∀ (b o : Nat), RCell W0 w S b o p → PCell w b o p := by
  refine Pt.ind (C := fun p => ∀ (b o : Nat), RCell W0 w S b o p → PCell w b o p) (fun p ih b o h => ?_) p
  have hL : ∀ (ks : List Pt), (∀ k ∈ ks, k ∈ p.kids) → ∀ (b o : Nat), RCells W0 w S b o ks → PCells w b o ks := by
    intro ks
    induction ks with
    | nil => intro _ b o _; exact PCells_nil _ _ _
    | cons k t iht =>
      intro hk b o h
      rw [RCells_cons] at h
      rw [PCells_cons]
      exact ⟨ih k (hk k (.head _)) b o h.1, iht (fun x hx => hk x (.tail _ hx)) b _ h.2⟩
  rw [RCell_eq] at h
  rw [PCell_eq]
  obtain ⟨h0, h1, h2, ⟨va, h3, ha⟩, vk, h4, A, c, rfl, h5, h6, h7, h8⟩ := h
  have ha' := ha.below hb (Nat.le_refl _)
  refine ⟨h1, ?_, ⟨va, h3, ?_⟩, _, h4, A, c, rfl, h5, h6, h7, ?_⟩
  · obtain ⟨nm, tx, al, ks⟩ := p; exact h2
  · obtain ⟨nm, tx, al, ks⟩ := p; exact ha'
  · rcases h8 with h8 | ⟨b', off, h9, h10⟩
    · exact .inl h8
    · exact .inr ⟨b', off, h9, hL _ (fun k hk => hk) _ _ h10⟩
theorem KRes.read {W0 w : World} {S : Nat → Prop} {v : Value} {ks : List Pt} (h : KRes W0 w S v ks) (hb : Below W0.heap.size W0 w) : KVal w v ks := by
  obtain ⟨A, c, rfl, h5, h6, h7, h8⟩ := h
  refine ⟨A, c, rfl, h5, h6, h7, ?_⟩
  rcases h8 with h8 | ⟨b', off, h9, h10⟩
  · exact .inl h8
  · refine .inr ⟨b', off, h9, ?_⟩
    have : ∀ (ks : List Pt) (o : Nat), RCells W0 w S b' o ks → PCells w b' o ks := by
      intro ks
      induction ks with
      | nil => intro o _; exact PCells_nil _ _ _
      | cons k t ih => intro o h; rw [RCells_cons] at h; rw [PCells_cons]; exact ⟨rcell_read hb k _ _ h.1, ih _ h.2⟩
    exact this _ _ h10
theorem KRes.nil (W0 w : World) (S : Nat → Prop) : KRes W0 w S (.slice none 0 0) [] := ⟨none, 0, rfl, by simp, by omega, fun _ => rfl, .inl rfl⟩
/-- parts with the values of their attributes and kids; their cells -/
abbrev Rk := Pt × Value × Value
def ptCells (q : Rk) : List Value := [str q.1.name, str q.1.text, q.2.1, q.2.2]
def rkCells (rs : List Rk) : List Value := (rs.map ptCells).flatten
theorem rkCells_append (rs ts : List Rk) : rkCells (rs ++ ts) = rkCells rs ++ rkCells ts := by simp [rkCells]
theorem rkCells_length (rs : List Rk) : (rkCells rs).length = rs.length * 4 := by
  induction rs with
  | nil => rfl
  | cons a t ih =>
    have : rkCells (a :: t) = ptCells a ++ rkCells t := rfl
    rw [this, List.length_append, ih, List.length_cons]
    have : (ptCells a).length = 4 := rfl
    omega
theorem rkCells_get : ∀ (rs : List Rk) (i : Nat) (h : i < rs.length) (j : Nat), j < 4 → (rkCells rs)[i * 4 + j]? = (ptCells (rs[i]'h))[j]?
  | [], i, h, j, hj => by simp at h
  | q :: t, 0, h, j, hj => by
    have e : rkCells (q :: t) = ptCells q ++ rkCells t := rfl
    have l4 : (ptCells q).length = 4 := rfl
    rw [e, List.getElem?_append_left (by omega)]
    simp
  | q :: t, i + 1, h, j, hj => by
    have e : rkCells (q :: t) = ptCells q ++ rkCells t := rfl
    have l4 : (ptCells q).length = 4 := rfl
    rw [e, List.getElem?_append_right (by omega), l4, show (i + 1) * 4 + j - 4 = i * 4 + j by omega]
    simpa using rkCells_get t i (by simpa using h) j hj
/-- a list of parts of the call's own: its blocks from lo on, the parts' blocks apart from the list's own -/
structure Grows (W0 W : World) (lo tE : Nat) (v : Value) (rs : List Rk) : Prop where
  own : W.ownsRow lo tE 4 v rs.length (rkCells rs)
  each : ∀ q ∈ rs, AVal W0 q.2.1 q.1.attrs ∧ KRes W0 W (fun x => lo ≤ x ∧ x < W.heap.size ∧ v.ownBlock ≠ some x) q.2.2 q.1.kids
theorem Grows.below {W0 W W' : World} {lo tE : Nat} {v : Value} {rs : List Rk} (h : Grows W0 W lo tE v rs) (hb : Below W.heap.size W W') : Grows W0 W' lo tE v rs := by
  refine ⟨h.own.kept (row := none) ⟨hb.os, hb.tape, hb.output, hb.size, fun k hk _ => hb.block k hk⟩ (by rcases v.ownBlock with _ | g <;> simp), fun q hq => ⟨(h.each q hq).1, (h.each q hq).2.map (fun k hk => ⟨hk.1, Nat.lt_of_lt_of_le hk.2.1 hb.size, hk.2.2⟩) (fun k hk => hb.block k hk.2.1)⟩⟩
/-- one part more -/
theorem Grows.add {W0 W w5 : World} {lo tE g cap : Nat} {v : Value} {rs : List Rk} (h : Grows W0 W lo tE v rs) (q : Rk) (ha : AVal W0 q.2.1 q.1.attrs) {S : Nat → Prop} (hk : KRes W0 W S q.2.2 q.1.kids) (hS : ∀ x, S x → lo ≤ x ∧ x < W.heap.size ∧ v.ownBlock ≠ some x)
    (ho : w5.ownsRow lo tE 4 (.slice (some ⟨g, 0, none⟩) (rs.length + 1) cap) (rs.length + 1) (rkCells rs ++ ptCells q)) (hg : W.grownBy w5 v.ownBlock) (hat : v.ownBlock = some g ∨ W.heap.size ≤ g) : Grows W0 w5 lo tE (.slice (some ⟨g, 0, none⟩) (rs.length + 1) cap) (rs ++ [q]) := by
  have hblk : ∀ x, x < W.heap.size → v.ownBlock ≠ some x → w5.heap[x]? = W.heap[x]? := fun x h1 h2 => hg.block x h1 (fun e => h2 e.symm)
  have hne : ∀ x, x < W.heap.size → v.ownBlock ≠ some x → (Value.slice (some ⟨g, 0, none⟩) (rs.length + 1) cap).ownBlock ≠ some x := fun x h1 h2 e => by
    have e : g = x := by simpa [Value.ownBlock] using e
    subst e
    rcases hat with h | h
    · exact h2 h
    · omega
  refine ⟨?_, fun r hr => ?_⟩
  · rw [rkCells_append, List.length_append]
    have e : rkCells [q] = ptCells q := by simp [rkCells]
    rw [e]; exact ho
  · rcases List.mem_append.1 hr with hr | hr
    · exact ⟨(h.each r hr).1, (h.each r hr).2.map (fun k hk => ⟨hk.1, Nat.lt_of_lt_of_le hk.2.1 hg.size, hne k hk.2.1 hk.2.2⟩) (fun k hk => hblk k hk.2.1 hk.2.2)⟩
    · rw [List.mem_singleton.1 hr]
      exact ⟨ha, hk.map (fun k hk => ⟨(hS k hk).1, Nat.lt_of_lt_of_le (hS k hk).2.1 hg.size, hne k (hS k hk).2.1 (hS k hk).2.2⟩) (fun k hk => hblk k (hS k hk).2.1 (hS k hk).2.2)⟩
/-- a store elsewhere, below the list's blocks -/
theorem Grows.far {W0 W : World} {lo tE b o : Nat} {v u : Value} {rs : List Rk} (h : Grows W0 W lo tE v rs) (hb : b < lo) : Grows W0 (W.setCell ⟨b, o, none⟩ u) lo tE v rs := by
  refine ⟨ownsRow_setCell_below h.own (by show b < lo; omega) u, fun q hq => ⟨(h.each q hq).1, (h.each q hq).2.map (fun k hk => ⟨hk.1, by simpa [World.setCell] using hk.2.1, hk.2.2⟩) (fun k hk => Below.heap_setCell W ⟨b, o, none⟩ u k (by show k ≠ b; omega))⟩⟩
/-- what has grown is a list of parts -/
theorem Grows.res {W0 W : World} {lo tE : Nat} {v : Value} {rs : List Rk} (h : Grows W0 W lo tE v rs) : KRes W0 W (fun x => lo ≤ x ∧ x < W.heap.size) v (rs.map (·.1)) := by
  rcases h.own.2 with ⟨rfl, h0⟩ | ⟨g, cap, cur, rfl, hb, hh, hnc, hcm, hcs, htk⟩
  · have : rs = [] := List.eq_nil_of_length_eq_zero h0
    subst this; exact KRes.nil _ _ _
  · have hgl : g < W.heap.size := (Array.getElem?_eq_some_iff.1 hh).1
    refine ⟨some ⟨g, 0, none⟩, cap, by rw [List.length_map], by rw [List.length_map]; exact hnc, by have := hcm; unfold maxLen at this; omega, (fun e => by cases e), .inr ⟨g, 0, rfl, ?_⟩⟩
    have hall : ∀ (ts : List Rk) (i : Nat), ts = rs.drop i → RCells W0 W (fun x => lo ≤ x ∧ x < W.heap.size) g (0 + i * 4) (ts.map (·.1)) := by
      intro ts
      induction ts with
      | nil => intro i _; exact RCells_nil _ _ _ _ _
      | cons q t ih =>
        intro i hi
        have hil : i < rs.length := by
          rcases Nat.lt_or_ge i rs.length with h | h
          · exact h
          · rw [List.drop_eq_nil_of_le h] at hi; cases hi
        have hd := List.drop_eq_getElem_cons hil
        rw [← hi] at hd
        injection hd with e1 e2
        have hq : q ∈ rs := by rw [e1]; exact List.getElem_mem hil
        rw [List.map_cons, RCells_cons]
        have hc : ∀ j, j < 4 → ∀ u, (ptCells q)[j]? = some u → W.cell? ⟨g, 0 + i * 4 + j, none⟩ = some u := by
          intro j hj u hu
          have := h.own.cells (g := g) rfl (i * 4 + j) u (by rw [rkCells_get rs i hil j hj, ← e1]; exact hu)
          rwa [addr_add, ← Nat.zero_add (i * 4)] at this
        refine ⟨(RCell_eq _ _ _ _ _ _).2 ⟨⟨hb, hgl⟩, hc 0 (by omega) _ rfl, hc 1 (by omega) _ rfl, ⟨_, hc 2 (by omega) _ rfl, (h.each q hq).1⟩, _, hc 3 (by omega) _ rfl, (h.each q hq).2.map (fun k hk => ⟨hk.1, hk.2.1⟩) (fun _ _ => rfl)⟩, ?_⟩
        have := ih (i + 1) e2
        rwa [show 0 + (i + 1) * 4 = 0 + i * 4 + 4 by omega] at this
    exact hall rs 0 rfl
end Go.Proofs.Fd
