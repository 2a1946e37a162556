/- casementref4's reference: its table of names as mathematics. No conditions. -/
import Derived.Test.YtnpoipjnnlbnfaaDoorXa
namespace Go.Proofs.YtnpoipjnnlbnfaaDoor
set_option linter.unusedVariables false
open Go.RowKit Go.Proofs.Fe Go.Proofs.Fm Go.Proofs.Fb Go.Proofs.Fk Go.Proofs.Fs Go.Proofs.Fc Go.Proofs.Fu

def refTo (k : Nat) (o : Option (List UInt8 × Nat)) : Value := match o with
  | some (x, m) => .tuple #[.string ⟨x.toArray⟩, .int .i64 ((k + m : Nat) : Int)]
  | none => .tuple #[.string ⟨#[]⟩, .int .i64 0]
def nmT (i : Nat) : List UInt8 := ([[38, 97, 109, 112, 59], [38, 108, 116, 59], [38, 103, 116, 59], [38, 113, 117, 111, 116, 59], [38, 97, 112, 111, 115, 59], [38, 110, 98, 115, 112, 59]] : List (List UInt8)).getD i []
def rnT (i : Nat) : List UInt8 := ([[38], [60], [62], [34], [39], [194, 160]] : List (List UInt8)).getD i []
def refRest (s : List UInt8) : Option (List UInt8 × Nat) := match s with
  | _ :: c :: t => if c = 35 then (match t with
      | d :: u => if d = 120 ∨ d = 88 then numRef 16 3 u else numRef 10 2 t
      | [] => none) else none
  | _ => none
theorem nmT_len : ∀ i, i < 6 → 4 ≤ (nmT i).length ∧ (nmT i).length ≤ 6 := by decide
theorem refAt_named {l : List UInt8} {i : Nat} (hi : i < 6) (h1 : ∀ j, j < i → ¬ (nmT j <+: l)) (h2 : nmT i <+: l) : refAt l = some (rnT i, (nmT i).length) := by
  have hc : i = 0 ∨ i = 1 ∨ i = 2 ∨ i = 3 ∨ i = 4 ∨ i = 5 := by omega
  unfold refAt
  rcases hc with rfl | rfl | rfl | rfl | rfl | rfl
  · rw [if_pos (show [38, 97, 109, 112, 59] <+: l from h2)]; rfl
  · rw [if_neg (show ¬ ([38, 97, 109, 112, 59] <+: l) from h1 0 (by omega)), if_pos (show [38, 108, 116, 59] <+: l from h2)]; rfl
  · rw [if_neg (show ¬ ([38, 97, 109, 112, 59] <+: l) from h1 0 (by omega)), if_neg (show ¬ ([38, 108, 116, 59] <+: l) from h1 1 (by omega)), if_pos (show [38, 103, 116, 59] <+: l from h2)]; rfl
  · rw [if_neg (show ¬ ([38, 97, 109, 112, 59] <+: l) from h1 0 (by omega)), if_neg (show ¬ ([38, 108, 116, 59] <+: l) from h1 1 (by omega)), if_neg (show ¬ ([38, 103, 116, 59] <+: l) from h1 2 (by omega)), if_pos (show [38, 113, 117, 111, 116, 59] <+: l from h2)]; rfl
  · rw [if_neg (show ¬ ([38, 97, 109, 112, 59] <+: l) from h1 0 (by omega)), if_neg (show ¬ ([38, 108, 116, 59] <+: l) from h1 1 (by omega)), if_neg (show ¬ ([38, 103, 116, 59] <+: l) from h1 2 (by omega)), if_neg (show ¬ ([38, 113, 117, 111, 116, 59] <+: l) from h1 3 (by omega)), if_pos (show [38, 97, 112, 111, 115, 59] <+: l from h2)]; rfl
  · rw [if_neg (show ¬ ([38, 97, 109, 112, 59] <+: l) from h1 0 (by omega)), if_neg (show ¬ ([38, 108, 116, 59] <+: l) from h1 1 (by omega)), if_neg (show ¬ ([38, 103, 116, 59] <+: l) from h1 2 (by omega)), if_neg (show ¬ ([38, 113, 117, 111, 116, 59] <+: l) from h1 3 (by omega)), if_neg (show ¬ ([38, 97, 112, 111, 115, 59] <+: l) from h1 4 (by omega)), if_pos (show [38, 110, 98, 115, 112, 59] <+: l from h2)]; rfl
theorem refAt_rest {l : List UInt8} (h1 : ∀ j, j < 6 → ¬ (nmT j <+: l)) : refAt l = refRest l := by
  unfold refAt
  rw [if_neg (show ¬ ([38, 97, 109, 112, 59] <+: l) from h1 0 (by omega)), if_neg (show ¬ ([38, 108, 116, 59] <+: l) from h1 1 (by omega)), if_neg (show ¬ ([38, 103, 116, 59] <+: l) from h1 2 (by omega)), if_neg (show ¬ ([38, 113, 117, 111, 116, 59] <+: l) from h1 3 (by omega)), if_neg (show ¬ ([38, 97, 112, 111, 115, 59] <+: l) from h1 4 (by omega)), if_neg (show ¬ ([38, 110, 98, 115, 112, 59] <+: l) from h1 5 (by omega))]
  rfl
theorem pre_ext (s : ByteArray) (k : Nat) (p : List UInt8) (hk : k + p.length ≤ s.size) : (p <+: s.data.toList.drop k) ↔ s.extract k (k + p.length) = ⟨p.toArray⟩ := by
  have hx : (s.extract k (k + p.length)).data.toList = (s.data.toList.drop k).take p.length := by
    rw [ByteArray.data_extract, Array.toList_extract]
    simp [List.extract, List.take_drop]
  have hlen : ((s.data.toList.drop k).take p.length).length = p.length := by
    rw [List.length_take, List.length_drop, size_data]; omega
  constructor
  · intro h
    apply ByteArray.ext
    apply Array.toList_inj.1
    rw [hx, List.prefix_iff_eq_take.1 h]
    simp
  · intro h
    rw [List.prefix_iff_eq_take, ← hx, h]
theorem pre_no (s : ByteArray) (k : Nat) (p : List UInt8) (hk : s.size < k + p.length) (hp : p ≠ []) : ¬ (p <+: s.data.toList.drop k) := by
  intro h
  have := h.length_le
  rw [List.length_drop, size_data] at this
  have := List.length_pos_iff.2 hp
  omega
end Go.Proofs.YtnpoipjnnlbnfaaDoor
