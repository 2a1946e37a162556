/- Lists of attributes: what their cells are; is there one of a name. No conditions but that the list is not endless. -/
import Derived.Test.YtnpoipjnnlbnfaaDoorVi
import Derived.Test.YtnpoipjnnlbnfaaDoorVf
import Derived.Test.YtnpoipjnnlbnfaaDoorVs
import Derived.Deep.AppendLies
namespace Go.Proofs.YtnpoipjnnlbnfaaDoor
set_option linter.unusedVariables false
open Go.RowKit Go.Proofs.Fm Go.Proofs.Fb Go.Proofs.Fk Go.Proofs.Fs

/-- a text as a value -/
def str (l : List UInt8) : Value := .string ⟨l.toArray⟩
/-- the cells of a list of attributes -/
def attrCells (al : List Att) : List Value := (al.map fun a => [str a.1, str a.2]).flatten
theorem attrCells_length (al : List Att) : (attrCells al).length = al.length * 2 := by
  induction al with
  | nil => rfl
  | cons a t ih =>
    have : attrCells (a :: t) = [str a.1, str a.2] ++ attrCells t := rfl
    rw [this, List.length_append, ih]; simp; omega
theorem attrCells_append (al bs : List Att) : attrCells (al ++ bs) = attrCells al ++ attrCells bs := by simp [attrCells]
theorem attrCells_get : ∀ (al : List Att) (i : Nat) (h : i < al.length), (attrCells al)[i * 2]? = some (str (al[i]'h).1) ∧ (attrCells al)[i * 2 + 1]? = some (str (al[i]'h).2)
  | [], i, h => by simp at h
  | a :: t, 0, h => by
    have : attrCells (a :: t) = [str a.1, str a.2] ++ attrCells t := rfl
    rw [this]; simp
  | a :: t, i + 1, h => by
    have : attrCells (a :: t) = [str a.1, str a.2] ++ attrCells t := rfl
    have ih := attrCells_get t i (by simpa using h)
    have e1 : (i + 1) * 2 = i * 2 + 2 := by omega
    have e2 : i * 2 + 2 + 1 = i * 2 + 1 + 2 := by omega
    rw [this, e1, e2]
    simpa using ih
theorem attrCells_one (al : List Att) : ∀ u ∈ attrCells al, u.oneCell' = true := by
  intro u hu
  obtain ⟨l, hl, hu⟩ := List.mem_flatten.1 hu
  obtain ⟨a, _, rfl⟩ := List.mem_map.1 hl
  simp at hu
  rcases hu with rfl | rfl <;> rfl
/-- the slice at A reads as the attributes as -/
def ARow (w : World) (A : Option Addr) (al : List Att) : Prop := al ≠ [] → ∃ b off, A = some ⟨b, off, none⟩ ∧ ∀ (i : Nat) (h : i < al.length), w.cell? ⟨b, off + i * 2, none⟩ = some (str (al[i]'h).1) ∧ w.cell? ⟨b, off + i * 2 + 1, none⟩ = some (str (al[i]'h).2)
theorem ARow.below {w w' : World} {A : Option Addr} {al : List Att} {B : Nat} (h : ARow w A al) (hb : Below B w w') (hB : w.heap.size ≤ B) : ARow w' A al := by
  intro hx
  obtain ⟨b, off, rfl, hc⟩ := h hx
  refine ⟨b, off, rfl, fun i hi => ?_⟩
  obtain ⟨h1, h2⟩ := hc i hi
  have h3 : b < w.heap.size := World.block_lt_of_cell? _ _ h1
  exact ⟨by rw [hb.cell (by show b < B; omega)]; exact h1, by rw [hb.cell (by show b < B; omega)]; exact h2⟩
theorem ARow.of_own {w : World} {base : Nat} {A : Option Addr} {n c : Nat} {al : List Att} (h : w.ownsRow base 29 2 (.slice A n c) n (attrCells al)) (hn : al.length = n) : ARow w A al := by
  intro hx
  have hl : 0 < n := by rw [← hn]; exact List.length_pos_iff.2 hx
  obtain ⟨g, cap, hv, _, _⟩ := h.form hl
  injection hv with e1 _ e3
  subst e1
  refine ⟨g, 0, rfl, fun i hi => ?_⟩
  obtain ⟨h1, h2⟩ := attrCells_get al i hi
  have c1 := h.cells (g := g) rfl (i * 2) _ h1
  have c2 := h.cells (g := g) rfl (i * 2 + 1) _ h2
  have hadd : ∀ j, (⟨g, 0, none⟩ : Addr).add j = ⟨g, j, none⟩ := fun j => by unfold Addr.add; split <;> simp_all
  rw [hadd] at c1 c2
  exact ⟨by rw [Nat.zero_add]; exact c1, by rw [Nat.zero_add]; exact c2⟩
set_option maxHeartbeats 1000000 in
theorem has_any (A : Option Addr) (n c : Nat) (al : List Att) (hn : al.length = n) (hx : n ≤ 4294967296) (nm : List UInt8) {w : World} (ha : ARow w A al) :
    Calls Tryd.prog 73 #[.slice A n c, .string ⟨nm.toArray⟩] w fun e w' => e = .returned (.bool (al.any (fun b => b.1 == nm))) ∧ Below w.heap.size w w' := by
  go_enter Tryd.func73, Tryd.ntmps73
  go_wp2
  go_loopg [9] n (fun gk i wr => ∃ k, k + gk = n ∧ i = .int .i64 (k : Int) ∧ Below w.heap.size w wr ∧ Hid ((al.drop k).any (fun b => b.1 == nm) = al.any (fun b => b.1 == nm)))
  case atStart => exact ⟨0, by omega, rfl, Below.refl _ _, Lib.hid rfl⟩
  case round =>
    obtain ⟨k, hk, rfl, hb, hr⟩ := hrel
    by_cases hlt : k < n
    · have hka : k < al.length := by omega
      have hrow := ha.below hb (Nat.le_refl _)
      obtain ⟨b, off, rfl, hc⟩ := hrow (by intro e; subst e; simp at hka)
      obtain ⟨c1, c2⟩ := hc k hka
      have i1 : (k : Int) < (n : Int) := by omega
      have hd : al.drop k = al[k]'hka :: al.drop (k + 1) := List.drop_eq_getElem_cons hka
      have HD := Lib.hid hd
      have hz := hb.size
      have HB := Lib.hid hb
      obtain ⟨x, hx⟩ : ∃ x, (al[k]'hka) = x := ⟨_, rfl⟩
      rw [hx] at c1 c2 HD
      clear hc hrow hd hx hb ha
      rcases hq : (x.1 == nm) with _ | _
      · have HQ := Lib.hid hq
        dsimp only [str] at c1 c2
        go_wp2
        go_roundg (gk - 1)
        case measure => omega
        case rel =>
          refine ⟨k + 1, by omega, by go_num, HB.out.alloc hz _, Lib.hid ?_⟩
          rw [← hr.out, HD.out, List.any_cons, HQ.out]; rfl
      · have HQ := Lib.hid hq
        dsimp only [str] at c1 c2
        go_wp2
        go_ret
        refine ⟨?_, HB.out.alloc hz _⟩
        rw [← hr.out, HD.out, List.any_cons, HQ.out]; rfl
    · have hke : k = n := by omega
      subst hke
      go_wp2
      go_ret
      refine ⟨?_, hb⟩
      have := hr.out
      rw [List.drop_eq_nil_of_le (by omega)] at this
      rw [← this]; rfl
end Go.Proofs.YtnpoipjnnlbnfaaDoor
