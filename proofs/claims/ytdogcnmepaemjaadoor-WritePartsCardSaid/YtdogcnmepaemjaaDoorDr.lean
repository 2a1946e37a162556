/- Words on memory: lists of attributes and lists of nodes, as they are read. No conditions. -/
import Derived.Test.YtdogcnmepaemjaaDoorDa
import Derived.Test.YtdogcnmepaemjaaDoorBook
import Derived.Below
import Derived.Lib.Hide
namespace Go.Proofs.Fd
set_option linter.unusedVariables false
open Go.RowKit Go.Proofs.Fb

/-- a text as a value -/
def str (l : List UInt8) : Value := .string ⟨l.toArray⟩
/-- the cells of a list of attributes -/
def attrCells (al : List Att) : List Value := (al.map fun a => [str a.1, str a.2]).flatten
theorem attrCells_length (al : List Att) : (attrCells al).length = al.length * 2 := by
  induction al with
  | nil => rfl
  | cons a t ih =>
    have : attrCells (a :: t) = [str a.1, str a.2] ++ attrCells t := rfl
    rw [this, List.length_append, ih]; simp; omega
theorem attrCells_append (al bs : List Att) : attrCells (al ++ bs) = attrCells al ++ attrCells bs := by simp [attrCells]
theorem attrCells_get : ∀ (al : List Att) (i : Nat) (h : i < al.length), (attrCells al)[i * 2]? = some (str (al[i]'h).1) ∧ (attrCells al)[i * 2 + 1]? = some (str (al[i]'h).2)
  | [], i, h => by simp at h
  | a :: t, 0, h => by
    have : attrCells (a :: t) = [str a.1, str a.2] ++ attrCells t := rfl
    rw [this]; simp
  | a :: t, i + 1, h => by
    have : attrCells (a :: t) = [str a.1, str a.2] ++ attrCells t := rfl
    have ih := attrCells_get t i (by simpa using h)
    have e1 : (i + 1) * 2 = i * 2 + 2 := by omega
    have e2 : i * 2 + 2 + 1 = i * 2 + 1 + 2 := by omega
    rw [this, e1, e2]
    simpa using ih
theorem attrCells_one (al : List Att) : ∀ u ∈ attrCells al, u.oneCell' = true := by
  intro u hu
  obtain ⟨l, hl, hu⟩ := List.mem_flatten.1 hu
  obtain ⟨a, _, rfl⟩ := List.mem_map.1 hl
  simp at hu
  rcases hu with rfl | rfl <;> rfl
/-- the slice at A reads as the attributes al -/
def ARow (w : World) (A : Option Addr) (al : List Att) : Prop := al ≠ [] → ∃ b off, A = some ⟨b, off, none⟩ ∧ ∀ (i : Nat) (h : i < al.length), w.cell? ⟨b, off + i * 2, none⟩ = some (str (al[i]'h).1) ∧ w.cell? ⟨b, off + i * 2 + 1, none⟩ = some (str (al[i]'h).2)
theorem ARow.nil (w : World) (A : Option Addr) : ARow w A [] := fun h => absurd rfl h
theorem ARow.below {w w' : World} {A : Option Addr} {al : List Att} {B : Nat} (h : ARow w A al) (hb : Below B w w') (hB : w.heap.size ≤ B) : ARow w' A al := by
  intro hx
  obtain ⟨b, off, rfl, hc⟩ := h hx
  refine ⟨b, off, rfl, fun i hi => ?_⟩
  obtain ⟨h1, h2⟩ := hc i hi
  have h3 : b < w.heap.size := World.block_lt_of_cell? _ _ h1
  exact ⟨by rw [hb.cell (by show b < B; omega)]; exact h1, by rw [hb.cell (by show b < B; omega)]; exact h2⟩
theorem ARow.take {w : World} {A : Option Addr} {al : List Att} (h : ARow w A al) (k : Nat) : ARow w A (al.take k) := by
  intro hx
  obtain ⟨b, off, rfl, hc⟩ := h (by intro e; subst e; simp at hx)
  refine ⟨b, off, rfl, fun i hi => ?_⟩
  have hi' : i < al.length := by rw [List.length_take] at hi; omega
  rw [List.getElem_take]
  exact hc i hi'
theorem addr_add (g j : Nat) : (⟨g, 0, none⟩ : Addr).add j = ⟨g, j, none⟩ := by unfold Addr.add; split <;> simp_all
theorem ARow.of_own {w : World} {base tE : Nat} {A : Option Addr} {n c : Nat} {al : List Att} (h : w.ownsRow base tE 2 (.slice A n c) n (attrCells al)) (hn : al.length = n) : ARow w A al := by
  intro hx
  have hl : 0 < n := by rw [← hn]; exact List.length_pos_iff.2 hx
  obtain ⟨g, cap, hv, _, _⟩ := h.form hl
  injection hv with e1 _ e3
  subst e1
  refine ⟨g, 0, rfl, fun i hi => ?_⟩
  obtain ⟨h1, h2⟩ := attrCells_get al i hi
  have c1 := h.cells (g := g) rfl (i * 2) _ h1
  have c2 := h.cells (g := g) rfl (i * 2 + 1) _ h2
  rw [addr_add] at c1 c2
  exact ⟨by rw [Nat.zero_add]; exact c1, by rw [Nat.zero_add]; exact c2⟩

/-- the list of attributes that a slice's value stands for -/
structure AVal (w : World) (v : Value) (al : List Att) : Prop where
  ex : ∃ A c, v = .slice A al.length c ∧ ARow w A al ∧ al.length ≤ c ∧ al.length ≤ 4398046511104 ∧ (A = none → c = 0)
theorem AVal.below {w w' : World} {v : Value} {al : List Att} {B : Nat} (h : AVal w v al) (hb : Below B w w') (hB : w.heap.size ≤ B) : AVal w' v al := by
  obtain ⟨A, c, e, h1, h2⟩ := h.ex
  exact ⟨A, c, e, h1.below hb hB, h2⟩
theorem AVal.nil (w : World) : AVal w (.slice none 0 0) [] := ⟨none, 0, rfl, ARow.nil _ _, Nat.le_refl _, by simp, fun _ => rfl⟩

/-- the cells of a node, its list of attributes as a value -/
def ndCells (x : Nd) (v : Value) : List Value := [.int .i64 x.kind, str x.name, str x.text, v, .int .i64 x.parent, .int .i64 x.first, .int .i64 x.last, .int .i64 x.prev, .int .i64 x.next]
/-- at offset o of block b stands the node x -/
structure NAt (w : World) (b o : Nat) (x : Nd) : Prop where
  c0 : w.cell? ⟨b, o, none⟩ = some (.int .i64 x.kind)
  c1 : w.cell? ⟨b, o + 1, none⟩ = some (str x.name)
  c2 : w.cell? ⟨b, o + 2, none⟩ = some (str x.text)
  c3 : ∃ v, w.cell? ⟨b, o + 3, none⟩ = some v ∧ AVal w v x.attrs
  c4 : w.cell? ⟨b, o + 4, none⟩ = some (.int .i64 x.parent)
  c5 : w.cell? ⟨b, o + 5, none⟩ = some (.int .i64 x.first)
  c6 : w.cell? ⟨b, o + 6, none⟩ = some (.int .i64 x.last)
  c7 : w.cell? ⟨b, o + 7, none⟩ = some (.int .i64 x.prev)
  c8 : w.cell? ⟨b, o + 8, none⟩ = some (.int .i64 x.next)
theorem NAt.lt {w : World} {b o : Nat} {x : Nd} (h : NAt w b o x) : b < w.heap.size := World.block_lt_of_cell? _ _ h.c0
theorem NAt.below {w w' : World} {b o : Nat} {x : Nd} {B : Nat} (h : NAt w b o x) (hb : Below B w w') (hB : w.heap.size ≤ B) : NAt w' b o x := by
  have h3 := h.lt
  have e : ∀ j, w'.cell? ⟨b, j, none⟩ = w.cell? ⟨b, j, none⟩ := fun j => hb.cell (p := ⟨b, j, none⟩) (by show b < B; omega)
  obtain ⟨v, hv, ha⟩ := h.c3
  exact ⟨(e _).trans h.c0, (e _).trans h.c1, (e _).trans h.c2, ⟨v, (e _).trans hv, ha.below hb hB⟩, (e _).trans h.c4, (e _).trans h.c5, (e _).trans h.c6, (e _).trans h.c7, (e _).trans h.c8⟩
/-- the slice at A reads as the nodes l -/
def NRow (w : World) (A : Option Addr) (l : List Nd) : Prop := l ≠ [] → ∃ b off, A = some ⟨b, off, none⟩ ∧ ∀ (i : Nat) (h : i < l.length), NAt w b (off + i * 9) (l[i]'h)
theorem NRow.nil (w : World) (A : Option Addr) : NRow w A [] := fun h => absurd rfl h
theorem NRow.below {w w' : World} {A : Option Addr} {l : List Nd} {B : Nat} (h : NRow w A l) (hb : Below B w w') (hB : w.heap.size ≤ B) : NRow w' A l := by
  intro hx
  obtain ⟨b, off, rfl, hc⟩ := h hx
  exact ⟨b, off, rfl, fun i hi => (hc i hi).below hb hB⟩
theorem NRow.at_ {w : World} {A : Option Addr} {l : List Nd} (h : NRow w A l) {i : Nat} (hi : i < l.length) : ∃ b off, A = some ⟨b, off, none⟩ ∧ NAt w b (off + i * 9) (l[i]'hi) := by
  obtain ⟨b, off, e, hc⟩ := h (by intro e; subst e; simp at hi)
  exact ⟨b, off, e, hc i hi⟩
theorem NRow.drewN {w : World} {A : Option Addr} {l : List Nd} (h : NRow w A l) (n : Nat) : NRow (w.drewN n) A l := h.below (Fm.below_drewN (Below.refl w.heap.size w) n) (Nat.le_refl _)
end Go.Proofs.Fd
