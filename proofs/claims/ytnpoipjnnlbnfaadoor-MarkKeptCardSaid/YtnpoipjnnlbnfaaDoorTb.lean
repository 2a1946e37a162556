/- The library's texts at this seat in plain words: strings.Builder, Map, Cut, HasPrefix; what of the world they lean on. No conditions. -/
import Derived.Test.YtnpoipjnnlbnfaaDoorTx
import Derived.Test.YtnpoipjnnlbnfaaDoorBase
import Derived.Test.YtnpoipjnnlbnfaaDoorMt
import Derived.Test.YtnpoipjnnlbnfaaDoorVa
import Derived.Shelf.Strings.BuilderK
import Derived.Shelf.Strings.BuilderRune
import Derived.Shelf.Strings.Cut
import Derived.Shelf.Strings.Prefix
import Derived.Shelf.Strings.MapAny
namespace Go.Proofs.YtnpoipjnnlbnfaaDoor
set_option linter.unusedVariables false
open Go.RowKit Go.Proofs.Fm Go.Proofs.Fb

theorem grown_trans {w w' w'' : World} {row : Option Nat} (h : w.grownBy w' row) (k : w'.grownBy w'' row) : w.grownBy w'' row :=
  ⟨k.os.trans h.os, k.tape.trans h.tape, k.output.trans h.output, Nat.le_trans h.size k.size, fun j hj hne => (k.block j (Nat.lt_of_lt_of_le hj h.size) hne).trans (h.block j hj hne)⟩
theorem grown_below {w w' w'' : World} {row : Option Nat} {B : Nat} (h : w.grownBy w' row) (k : Below B w' w'') (hB : w.heap.size ≤ B) : w.grownBy w'' row :=
  ⟨k.os.trans h.os, k.tape.trans h.tape, k.output.trans h.output, Nat.le_trans h.size k.size, fun j hj hne => (k.block j (by omega)).trans (h.block j hj hne)⟩
theorem below_grown_any {w w' : World} (row : Option Nat) (k : Below w.heap.size w w') : w.grownBy w' row := grown_below (World.grownBy.refl w row) k (Nat.le_refl _)
theorem grown_to_below {w w' : World} {b B : Nat} (h : w.grownBy w' (some b)) (hb : B ≤ b) (hB : B ≤ w.heap.size) : Below B w w' :=
  (Below.refl B w).grown h hB (fun k hk => by injection hk with hk; omega)

/-! ### strings.Builder -/
/-- the builder at block b holds the bytes l; it and its buffer lie at or above B -/
def Bld (w : World) (B b : Nat) (l : List UInt8) : Prop := Lib.IsBuilderF 58 5 B b (Lib.byteCells l) w
theorem Bld.drewN {w : World} {B b : Nat} {l : List UInt8} (h : Bld w B b l) (n : Nat) : Bld (w.drewN n) B b l := h
theorem Bld.alloc {w : World} {B b : Nat} {l : List UInt8} (h : Bld w B b l) (o : Obj) : Bld (w.alloc o) B b l := Lib.IsBuilderF.alloc h o
theorem Bld.lt {w : World} {B b : Nat} {l : List UInt8} (h : Bld w B b l) : B ≤ b ∧ b < w.heap.size := by
  rcases h with h | h
  · exact ⟨h.1, h.lt⟩
  · exact ⟨h.1, h.lt⟩
theorem bld_new (w : World) : Bld (w.alloc (.cells #[.pointer none, .slice none 0 0] 58)) w.heap.size w.heap.size [] := Lib.IsBuilderF.of (Lib.fresh_isBuilder _ _ w)
theorem bldAt_grown {w w' : World} {T e B b j : Nat} {p : Value} {bs : List Value} (h : Lib.BuilderAtF T e B b p bs w) (hg : w.grownBy w' (some j)) (hj : j < B) : Lib.BuilderAtF T e B b p bs w' := by
  have hlt := h.lt
  obtain ⟨hB, v, hv, hown, hne⟩ := h
  refine ⟨hB, v, (hg.block b hlt (by simp; omega)).trans hv, hown.kept hg ?_, hne⟩
  right
  intro e
  have := (hown.lt _ e).1
  omega
theorem bldAt_below {w w' : World} {T e B b : Nat} {p : Value} {bs : List Value} (h : Lib.BuilderAtF T e B b p bs w) (hb : Below w.heap.size w w') : Lib.BuilderAtF T e B b p bs w' := by
  have hlt := h.lt
  obtain ⟨hB, v, hv, hown, hne⟩ := h
  exact ⟨hB, v, (hb.block b hlt).trans hv, hown.kept (below_grown_any none hb) (Classical.em _), hne⟩
/-- what lies, lies -/
theorem Bld.below {w w' : World} {B b : Nat} {l : List UInt8} (h : Bld w B b l) (hb : Below w.heap.size w w') : Bld w' B b l :=
  h.elim (fun x => .inl (bldAt_below x hb)) (fun x => .inr (bldAt_below x hb))
/-- a store elsewhere -/
theorem Bld.grown {w w' : World} {B b j : Nat} {l : List UInt8} (h : Bld w B b l) (hg : w.grownBy w' (some j)) (hj : j < B) : Bld w' B b l :=
  h.elim (fun x => .inl (bldAt_grown x hg hj)) (fun x => .inr (bldAt_grown x hg hj))

theorem write_rune {B b : Nat} {l : List UInt8} (r : Int) (hr0 : -2147483648 ≤ r) (hr1 : r ≤ 2147483647) {w : World} (h : Bld w B b l) (hlen : l.length + 4 ≤ 140737488355328) (hBw : B ≤ w.heap.size) :
    Calls Tryd.prog 65 #[.pointer (some ⟨b, 0, none⟩), .int .i32 r] w fun e w' => (∃ n : Int, e = .returned (.tuple #[.int .i64 n, .nilIface])) ∧ Bld w' B b (l ++ Lib.encodeRune r) ∧ Below B w w' ∧ Lib.OthersKept 5 (some b) w w' := by
  refine (Any.Builder_WriteRune_k Tryd.by168 Tryd.extra B b (Lib.byteCells l) r hr0 hr1 w h (by rw [Lib.byteCells_length]; exact hlen) hBw).mono ?_
  rintro e w' ⟨rfl, h1, h2, h3⟩
  refine ⟨⟨_, rfl⟩, ?_, h2, h3⟩
  unfold Bld
  rw [Lib.byteCells_append, Lib.byteCells_encodeRune]
  exact .inr h1
theorem write_string {B b : Nat} {l : List UInt8} (s : ByteArray) {w : World} (h : Bld w B b l) (hlen : l.length + s.size ≤ 140737488355328) (hBw : B ≤ w.heap.size) :
    Calls Tryd.prog 34 #[.pointer (some ⟨b, 0, none⟩), .string s] w fun e w' => (∃ n : Int, e = .returned (.tuple #[.int .i64 n, .nilIface])) ∧ Bld w' B b (l ++ s.data.toList) ∧ Below B w w' ∧ Lib.OthersKept 5 (some b) w w' := by
  refine (Any.Builder_WriteString_k Tryd.by166 Tryd.extra B b (Lib.byteCells l) s w h (by rw [Lib.byteCells_length]; exact hlen) hBw).mono ?_
  rintro e w' ⟨rfl, h1, h2, h3⟩
  refine ⟨⟨_, rfl⟩, ?_, h2, h3⟩
  unfold Bld
  rw [Lib.byteCells_append, ← Lib.strCells_eq]
  exact .inr h1
theorem built {B b : Nat} {l : List UInt8} {w : World} (h : Bld w B b l) (hBw : B ≤ w.heap.size) :
    Calls Tryd.prog 35 #[.pointer (some ⟨b, 0, none⟩)] w fun e w' => e = .returned (.string ⟨l.toArray⟩) ∧ Bld w' B b l ∧ Below B w w' ∧ Lib.OthersKept 5 (some b) w w' :=
  Any.Builder_String_any_k Tryd.by169 Tryd.extra B b l w h hBw

/-! ### what is leant on -/
/-- what mark.named holds, a text a cell -/
def namedT : List (List UInt8) := [[38, 97, 109, 112, 59], [38], [38, 108, 116, 59], [60], [38, 103, 116, 59], [62], [38, 113, 117, 111, 116, 59], [34], [38, 97, 112, 111, 115, 59], [39], [38, 110, 98, 115, 112, 59], [194, 160]]
/-- the variables of the library's own and of the program's that the walks lean on: they lie in the first blocks -/
structure Env (w : World) : Prop where
  sz : 4 ≤ w.heap.size
  tabs : Lib.Utf8Tabs 2 3 w
  max : ∃ m, w.cell? ⟨1, 0, none⟩ = some (.int .i64 m)
  named : ∀ j, j < 12 → w.cell? ⟨0, j, none⟩ = some (.string ⟨(namedT.getD j []).toArray⟩)
theorem Env.below {w w' : World} (h : Env w) {B : Nat} (hb : Below B w w') (hB : 4 ≤ B) : Env w' := by
  obtain ⟨m, hm⟩ := h.max
  refine ⟨Nat.le_trans h.sz hb.size, ?_, ⟨m, ?_⟩, ?_⟩
  · refine ⟨fun c hc => ?_, fun i hi => ?_⟩
    · rw [hb.cell (by show 2 < B; omega)]; exact h.tabs.1 c hc
    · obtain ⟨h1, h2⟩ := h.tabs.2 i hi
      exact ⟨by rw [hb.cell (by show 3 < B; omega)]; exact h1, by rw [hb.cell (by show 3 < B; omega)]; exact h2⟩
  · rw [hb.cell (by show 1 < B; omega)]; exact hm
  · intro j hj; rw [hb.cell (by show 0 < B; omega)]; exact h.named j hj

theorem has_prefix (s p : ByteArray) (w : World) :
    Calls Tryd.prog 57 #[.string s, .string p] w fun e w' => e = .returned (.bool (p.data.toList.isPrefixOf s.data.toList)) ∧ w' = w :=
  Any.strings_HasPrefix Tryd.by99 s p w
theorem cut_any (s sep : ByteArray) {w : World} (h : Env w) (hs : s.size < 4294967281) :
    Calls Tryd.prog 33 #[.string s, .string sep] w fun e w' => e = .returned (.tuple #[.string ⟨(Lib.cut s.data.toList sep.data.toList).1.toArray⟩, .string ⟨(Lib.cut s.data.toList sep.data.toList).2.1.toArray⟩, .bool (Lib.cut s.data.toList sep.data.toList).2.2]) ∧ ∃ n, w' = w.drewN n := by
  obtain ⟨m, hm⟩ := h.max
  exact Any.strings_Cut Tryd.by145 s sep m w hs hm
end Go.Proofs.YtnpoipjnnlbnfaaDoor
