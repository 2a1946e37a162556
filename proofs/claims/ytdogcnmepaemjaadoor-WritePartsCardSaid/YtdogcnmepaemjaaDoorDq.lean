/- Words on memory: what a tree is made of, as it is read; a list of nodes of the call's own. No conditions. -/
import Derived.Test.YtdogcnmepaemjaaDoorDp
import Derived.Test.YtdogcnmepaemjaaDoorDr
namespace Go.Proofs.Fd
set_option linter.unusedVariables false
open Go.RowKit Go.Proofs.Fb

/-- at offset o of block b stands the part p, with all below it -/
def PCell (w : World) : Nat → Nat → Pt → Prop
  | b, o, .mk nm tx al ks => w.cell? ⟨b, o, none⟩ = some (str nm) ∧ w.cell? ⟨b, o + 1, none⟩ = some (str tx) ∧ (∃ va, w.cell? ⟨b, o + 2, none⟩ = some va ∧ AVal w va al) ∧
      ∃ A c, w.cell? ⟨b, o + 3, none⟩ = some (.slice A ks.length c) ∧ ks.length ≤ c ∧ c ≤ 9223372036854775807 ∧ (A = none → c = 0) ∧ (ks = [] ∨ ∃ b' off, A = some ⟨b', off, none⟩ ∧ PCells w b' off ks)
where PCells (w : World) : Nat → Nat → List Pt → Prop
  | _, _, [] => True
  | b, o, k :: t => PCell w b o k ∧ PCells w b (o + 4) t
abbrev PCells := PCell.PCells
/-- a slice that holds parts -/
def KVal (w : World) (v : Value) (ks : List Pt) : Prop := ∃ A c, v = .slice A ks.length c ∧ ks.length ≤ c ∧ c ≤ 9223372036854775807 ∧ (A = none → c = 0) ∧ (ks = [] ∨ ∃ b' off, A = some ⟨b', off, none⟩ ∧ PCells w b' off ks)
theorem PCell_eq (w : World) (b o : Nat) (p : Pt) : PCell w b o p ↔ w.cell? ⟨b, o, none⟩ = some (str p.name) ∧ w.cell? ⟨b, o + 1, none⟩ = some (str (match p with | .mk _ tx _ _ => tx)) ∧ (∃ va, w.cell? ⟨b, o + 2, none⟩ = some va ∧ AVal w va (match p with | .mk _ _ al _ => al)) ∧ ∃ vk, w.cell? ⟨b, o + 3, none⟩ = some vk ∧ KVal w vk p.kids := by
  obtain ⟨nm, tx, al, ks⟩ := p
  rw [PCell]
  constructor
  · rintro ⟨h1, h2, h3, A, c, h4, h5⟩; exact ⟨h1, h2, h3, _, h4, A, c, rfl, h5⟩
  · rintro ⟨h1, h2, h3, _, h4, A, c, rfl, h5⟩; exact ⟨h1, h2, h3, A, c, h4, h5⟩
theorem PCells_nil (w : World) (b o : Nat) : PCells w b o [] := by unfold PCells; rw [PCell.PCells]; trivial
theorem PCells_cons (w : World) (b o : Nat) (k : Pt) (t : List Pt) : PCells w b o (k :: t) ↔ PCell w b o k ∧ PCells w b (o + 4) t := by unfold PCells; rw [PCell.PCells]
theorem PCells_get {w : World} {b : Nat} : ∀ {ks : List Pt} {o : Nat}, PCells w b o ks → ∀ (i : Nat) (h : i < ks.length), PCell w b (o + i * 4) (ks[i]'h)
  | [], o, hp, i, h => by simp at h
  | k :: t, o, hp, 0, h => by simpa using ((PCells_cons w b o k t).1 hp).1
  | k :: t, o, hp, i + 1, h => by
    have := PCells_get ((PCells_cons w b o k t).1 hp).2 i (by simpa using h)
    rw [show o + (i + 1) * 4 = o + 4 + i * 4 by omega]
    simpa using this
theorem pcell_below {w w' : World} {B : Nat} (hb : Below B w w') (hB : w.heap.size ≤ B) (p : Pt) : ∀ (b o : Nat), PCell w b o p → PCell w' b o p := by
  refine Pt.ind (C := fun p => ∀ (b o : Nat), PCell w b o p → PCell w' b o p) (fun p ih b o h => ?_) p
  have hL : ∀ (ks : List Pt), (∀ k ∈ ks, k ∈ p.kids) → ∀ (b o : Nat), PCells w b o ks → PCells w' b o ks := by
    intro ks
    induction ks with
    | nil => intro _ b o _; exact PCells_nil _ _ _
    | cons k t iht =>
      intro hk b o h
      rw [PCells_cons] at h ⊢
      exact ⟨ih k (hk k (.head _)) b o h.1, iht (fun x hx => hk x (.tail _ hx)) b _ h.2⟩
  rw [PCell_eq] at h ⊢
  obtain ⟨h1, h2, ⟨va, h3, ha⟩, vk, h4, A, c, rfl, h5, h6, h7, h8⟩ := h
  have hlt : b < w.heap.size := World.block_lt_of_cell? _ _ h1
  have e : ∀ j, w'.cell? ⟨b, j, none⟩ = w.cell? ⟨b, j, none⟩ := fun j => hb.cell (p := ⟨b, j, none⟩) (by show b < B; omega)
  refine ⟨(e _).trans h1, (e _).trans h2, ⟨va, (e _).trans h3, ha.below hb hB⟩, _, (e _).trans h4, A, c, rfl, h5, h6, h7, ?_⟩
  rcases h8 with h8 | ⟨b', off, h9, h10⟩
  · exact .inl h8
  · exact .inr ⟨b', off, h9, hL _ (fun k hk => hk) _ _ h10⟩
theorem KVal.below {w w' : World} {B : Nat} {v : Value} {ks : List Pt} (h : KVal w v ks) (hb : Below B w w') (hB : w.heap.size ≤ B) : KVal w' v ks := by
  obtain ⟨A, c, rfl, h5, h6, h7, h8⟩ := h
  refine ⟨A, c, rfl, h5, h6, h7, ?_⟩
  rcases h8 with h8 | ⟨b', off, h9, h10⟩
  · exact .inl h8
  · refine .inr ⟨b', off, h9, ?_⟩
    have : ∀ (ks : List Pt) (o : Nat), PCells w b' o ks → PCells w' b' o ks := by
      intro ks
      induction ks with
      | nil => intro o _; exact PCells_nil _ _ _
      | cons k t ih => intro o h; rw [PCells_cons] at h ⊢; exact ⟨pcell_below hb hB k _ _ h.1, ih _ h.2⟩
    exact this _ _ h10

/-- nodes with the values of their attributes; their cells -/
abbrev Rn := Nd × Value
def rawCells (rs : List Rn) : List Value := (rs.map fun q => ndCells q.1 q.2).flatten
theorem ndCells_length (x : Nd) (v : Value) : (ndCells x v).length = 9 := rfl
theorem rawCells_cons (q : Rn) (rs : List Rn) : rawCells (q :: rs) = ndCells q.1 q.2 ++ rawCells rs := rfl
theorem rawCells_append (rs ts : List Rn) : rawCells (rs ++ ts) = rawCells rs ++ rawCells ts := by simp [rawCells]
theorem rawCells_length (rs : List Rn) : (rawCells rs).length = rs.length * 9 := by
  induction rs with
  | nil => rfl
  | cons a t ih => rw [rawCells_cons, List.length_append, ndCells_length, ih, List.length_cons]; omega
theorem rawCells_get : ∀ (rs : List Rn) (i : Nat) (h : i < rs.length) (j : Nat), j < 9 → (rawCells rs)[i * 9 + j]? = (ndCells (rs[i]'h).1 (rs[i]'h).2)[j]?
  | [], i, h, j, hj => by simp at h
  | q :: t, 0, h, j, hj => by
    rw [rawCells_cons, List.getElem?_append_left (by rw [ndCells_length]; omega)]
    simp
  | q :: t, i + 1, h, j, hj => by
    rw [rawCells_cons, List.getElem?_append_right (by rw [ndCells_length]; omega), ndCells_length]
    rw [show (i + 1) * 9 + j - 9 = i * 9 + j by omega]
    simpa using rawCells_get t i (by simpa using h) j hj
/-- what the call owns reads as nodes, if their attributes read so -/
theorem NRow.of_raw {w : World} {base tE : Nat} {A : Option Addr} {n c : Nat} {rs : List Rn} (h : w.ownsRow base tE 9 (.slice A n c) n (rawCells rs)) (ha : ∀ q ∈ rs, AVal w q.2 q.1.attrs) : NRow w A (rs.map (·.1)) := by
  intro hx
  have hlen : rs.length = n := by have := h.1; rw [rawCells_length] at this; omega
  have hl : 0 < n := by rcases rs with _ | ⟨q, t⟩; exact absurd rfl hx; simp at hlen; omega
  obtain ⟨g, cap, hv, _, _⟩ := h.form hl
  injection hv with e1 _ e3
  subst e1
  refine ⟨g, 0, rfl, fun i hi => ?_⟩
  have hi' : i < rs.length := by simpa using hi
  have hc : ∀ j, j < 9 → ∀ u, (ndCells (rs[i]'hi').1 (rs[i]'hi').2)[j]? = some u → w.cell? ⟨g, 0 + i * 9 + j, none⟩ = some u := by
    intro j hj u hu
    have := h.cells (g := g) rfl (i * 9 + j) u (by rw [rawCells_get rs i hi' j hj]; exact hu)
    rwa [addr_add, ← Nat.zero_add (i * 9)] at this
  rw [List.getElem_map]
  exact ⟨hc 0 (by omega) _ rfl, hc 1 (by omega) _ rfl, hc 2 (by omega) _ rfl, ⟨_, hc 3 (by omega) _ rfl, ha _ (List.getElem_mem hi')⟩, hc 4 (by omega) _ rfl, hc 5 (by omega) _ rfl, hc 6 (by omega) _ rfl, hc 7 (by omega) _ rfl, hc 8 (by omega) _ rfl⟩
end Go.Proofs.Fd
