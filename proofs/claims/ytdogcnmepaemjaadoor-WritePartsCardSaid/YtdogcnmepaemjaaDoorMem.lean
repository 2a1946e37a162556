/- Words on memory for the walks of layer 1: a slice of integers that reads as a list. No conditions. -/
import Derived.WalkKit
import Derived.Laws.MakeOwn
import Derived.Laws.Rows
import Derived.Deep.Draws
namespace Go.Proofs.Fm
set_option linter.unusedVariables false
open Go.RowKit

/-- The slice at address A reads as the numbers xs. -/
def Row (w : World) (k : IntKind) (A : Option Addr) (xs : List Int) : Prop :=
  xs ≠ [] → ∃ b off, A = some ⟨b, off, none⟩ ∧ ∀ j, j < xs.length → w.cell? ⟨b, off + j, none⟩ = some (.int k (xs.getD j 0))

theorem Row.nil (w : World) (k : IntKind) (A : Option Addr) : Row w k A [] := fun h => absurd rfl h
theorem Row.at_ {w : World} {k : IntKind} {A : Option Addr} {xs : List Int} (h : Row w k A xs) {i : Nat} (hi : i < xs.length) :
    ∃ b off, A = some ⟨b, off, none⟩ ∧ ∀ j, j < xs.length → w.cell? ⟨b, off + j, none⟩ = some (.int k (xs.getD j 0)) :=
  h (by intro e; subst e; simp at hi)
theorem Row.drewN {w : World} {k : IntKind} {A : Option Addr} {xs : List Int} (h : Row w k A xs) (n : Nat) : Row (w.drewN n) k A xs := h
theorem Row.lt {w : World} {k : IntKind} {b off : Nat} {xs : List Int} (h : Row w k (some ⟨b, off, none⟩) xs) (hx : xs ≠ []) : b < w.heap.size := by
  obtain ⟨b', off', e, hc⟩ := h hx
  have hl : 0 < xs.length := List.length_pos_iff.2 hx
  injection e with e; injection e with e1 e2; subst e1 e2
  exact World.block_lt_of_cell? _ _ (hc 0 hl)
/-- It reads so in every world that is, below B, as w was. -/
theorem Row.below {w w' : World} {k : IntKind} {A : Option Addr} {xs : List Int} {B : Nat} (h : Row w k A xs) (hb : Below B w w') (hB : w.heap.size ≤ B) : Row w' k A xs := by
  intro hx
  obtain ⟨b, off, rfl, hc⟩ := h hx
  refine ⟨b, off, rfl, fun j hj => ?_⟩
  have h1 := hc j hj
  have h2 : b < w.heap.size := World.block_lt_of_cell? _ _ h1
  rw [hb.cell (by show b < B; omega)]
  exact h1
theorem Row.src {w : World} {k : IntKind} {A : Option Addr} {xs : List Int} (h : Row w k A xs) (hx : xs ≠ []) :
    ∃ ad, A = some ad ∧ ∀ j v, (xs.map (Value.int k))[j]? = some v → w.cell? (ad.add j) = some v := by
  obtain ⟨b, off, rfl, hc⟩ := h hx
  refine ⟨_, rfl, fun j v hv => ?_⟩
  simp only [List.getElem?_map, Option.map_eq_some_iff] at hv
  obtain ⟨u, hu, rfl⟩ := hv
  obtain ⟨hj, rfl⟩ := List.getElem?_eq_some_iff.1 hu
  have h1 := hc j hj
  rw [show xs.getD j 0 = xs[j] from by simp [hj]] at h1
  by_cases h0 : j = 0
  · subst h0; simpa [Addr.add] using h1
  · simpa [Addr.add, h0] using h1
theorem Row.take {w : World} {k : IntKind} {A : Option Addr} {xs : List Int} (h : Row w k A xs) (n : Nat) : Row w k A (xs.take n) := by
  intro hx
  obtain ⟨b, off, rfl, hc⟩ := h (by intro e; subst e; simp at hx)
  refine ⟨b, off, rfl, fun j hj => ?_⟩
  have h1 := hc j (by simp at hj; omega)
  rw [h1, List.getD_eq_getElem?_getD, List.getD_eq_getElem?_getD, List.getElem?_take_of_lt (by simp at hj; omega)]

/-- Block g is just the numbers xs, of element type t, none frozen. -/
def IB (w : World) (g : Nat) (t : TypeId) (k : IntKind) (xs : List Int) : Prop := w.heap[g]? = some (.cells (xs.map (Value.int k)).toArray t (0, 0))

section
variable {w w' : World} {g : Nat} {t : TypeId} {k : IntKind} {xs : List Int}
theorem IB.lt (h : IB w g t k xs) : g < w.heap.size := by
  rcases Nat.lt_or_ge g w.heap.size with hlt | hge
  · exact hlt
  · unfold IB at h; rw [Array.getElem?_eq_none hge] at h; cases h
theorem IB.cell (h : IB w g t k xs) {i : Nat} (hi : i < xs.length) : w.cell? ⟨g, i, none⟩ = some (.int k (xs.getD i 0)) := by
  rw [cell_of_row w g i _ t (0, 0) h]
  simp [List.getElem?_eq_getElem hi]
theorem IB.frozen (h : IB w g t k xs) (i : Nat) : w.frozen? ⟨g, i, none⟩ = false := by
  unfold IB at h
  simp [World.frozen?, h]
theorem IB.row (h : IB w g t k xs) : Row w k (some ⟨g, 0, none⟩) xs := fun _ => ⟨g, 0, rfl, fun j hj => by rw [Nat.zero_add]; exact h.cell hj⟩
theorem IB.drew (h : IB w g t k xs) : IB w.drew g t k xs := h
theorem IB.drewN (h : IB w g t k xs) (n : Nat) : IB (w.drewN n) g t k xs := h
theorem IB.alloc (h : IB w g t k xs) (o : Obj) : IB (w.alloc o) g t k xs := (Below.heap_alloc w o g h.lt).trans h
theorem IB.set_ (h : IB w g t k xs) (i : Nat) (v : Int) : IB (w.setCell ⟨g, i, none⟩ (.int k v)) g t k (xs.set i v) := by
  unfold IB at h ⊢
  simp [World.setCell, Array.getElem?_modify, h, List.map_set]
theorem IB.far (h : IB w g t k xs) {p : Addr} (hp : g ≠ p.block) (u : Value) : IB (w.setCell p u) g t k xs := (Below.heap_setCell w p u g hp).trans h
theorem IB.below {B : Nat} (h : IB w g t k xs) (hb : Below B w w') (hg : g < B) : IB w' g t k xs := (hb.block g hg).trans h
/-- two blocks of different element types differ -/
theorem IB.ne_ {g' : Nat} {t' : TypeId} {k' : IntKind} {ys : List Int} (h : IB w g t k xs) (h' : IB w g' t' k' ys) (hne : t ≠ t') : g ≠ g' := by
  rintro rfl
  unfold IB at h h'
  rw [h] at h'
  injection h' with h'
  injection h' with _ ht
  exact hne ht
end

theorem below_drewN {B : Nat} {a w : World} (h : Below B a w) (n : Nat) : Below B a (w.drewN n) := ⟨h.os, h.tape, h.output, h.size, h.block⟩

/-- 'make([]T, n)' of integers: a block of n zeros, whatever their width. -/
theorem wpList_make_big {P : Program} (w : World) {ops : Array Oper} {rest : List Oper} {o : Oper} {a : Act} {Q : Exit → Act → World → Prop}
    (hg : o.guard = none) (l c : Operand) (t : TypeId) (hop : o.op = Op.makeSlice t l c)
    (e : TypeId) (k : IntKind) (i : TypeInfo) (h1 : P.underlying t = some (.slice e)) (h2 : P.info? e = some i) (h3 : i.zero = some (.int k 0)) (h4 : i.size = 1)
    (kl kc : IntKind) (L C : Int) (n : Nat) (hl : a.eval l = .int kl L) (hc : a.eval c = .int kc C) (hL : L = (n : Int)) (hC : C = (n : Int)) (h5 : i.bytes * n ≤ 281474976710656) (hn : n ≤ 281474976710656)
    (hK : ∀ w', IB w' w.heap.size e k (List.replicate n 0) → Below w.heap.size w w' → wpList P ops Q rest (a.put o.dst (.slice (some ⟨w.heap.size, 0, none⟩) n n)) w') :
    wpList P ops Q (o :: rest) a w := by
  refine wpList_plain hg fun K hK' => ?_
  subst hL
  subst hC
  have hb : (i.bytes : Int) * (n : Int) ≤ 281474976710656 := by
    have h' : ((i.bytes * n : Nat) : Int) ≤ 281474976710656 := by omega
    rwa [Int.natCast_mul] at h'
  have hrun := run_make (P := P) w t e i _ h1 h2 h3 kl kc n n (by omega) (by omega) hb (by omega)
  have hX : IB (w.alloc (.cells (madeCells (Value.int k 0).cells ((n : Int).toNat * i.size)) e)) w.heap.size e k (List.replicate n 0) := by
    unfold IB
    rw [heap_alloc_new, h4, Nat.mul_one, Int.toNat_natCast]
    have : madeCells (Value.int k 0).cells n = ((List.replicate n (0 : Int)).map (Value.int k)).toArray := by
      apply Array.ext
      · simp [madeCells]
      · intro j hj1 hj2
        simp [madeCells, Value.cells, Nat.mod_one]
    rw [this]
  have hY := hK _ hX ((Below.refl _ _).alloc (Nat.le_refl _) _)
  unfold Oper.wp
  simp [execOp, hop, hl, hc, hrun, Result.andThen]
  exact hK' _ _ hY
/-- 'make([]T, n)' of integers of eight bytes or fewer: a block of n zeros. -/
theorem wpList_make_ints {P : Program} (w : World) {ops : Array Oper} {rest : List Oper} {o : Oper} {a : Act} {Q : Exit → Act → World → Prop}
    (hg : o.guard = none) (l c : Operand) (t : TypeId) (hop : o.op = Op.makeSlice t l c)
    (e : TypeId) (k : IntKind) (i : TypeInfo) (h1 : P.underlying t = some (.slice e)) (h2 : P.info? e = some i) (h3 : i.zero = some (.int k 0)) (h4 : i.size = 1) (h5 : i.bytes ≤ 8)
    (kl kc : IntKind) (L C : Int) (n : Nat) (hl : a.eval l = .int kl L) (hc : a.eval c = .int kc C) (hL : L = (n : Int)) (hC : C = (n : Int)) (hn : n ≤ 35184372088832)
    (hK : ∀ w', IB w' w.heap.size e k (List.replicate n 0) → Below w.heap.size w w' → wpList P ops Q rest (a.put o.dst (.slice (some ⟨w.heap.size, 0, none⟩) n n)) w') :
    wpList P ops Q (o :: rest) a w :=
  wpList_make_big w hg l c t hop e k i h1 h2 h3 h4 kl kc L C n hl hc hL hC (Nat.le_trans (Nat.mul_le_mul h5 hn) (by omega)) (by omega) hK

theorem take_set {ys : List Int} {k : Nat} (h : k < ys.length) (m : Int) : (ys.set k m).take (k + 1) = ys.take k ++ [m] := by
  rw [List.take_succ_eq_append_getElem (by simpa using h)]
  simp [List.take_set_of_le]
end Go.Proofs.Fm
