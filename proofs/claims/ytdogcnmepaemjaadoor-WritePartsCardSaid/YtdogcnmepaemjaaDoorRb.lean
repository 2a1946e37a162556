/- The library's texts at this seat in plain words: strings.Builder, RuneLen, Contains at one byte; what of the world they lean on. No conditions. -/
import Derived.Test.YtdogcnmepaemjaaDoorTw
import Derived.Test.YtdogcnmepaemjaaDoorBase
import Derived.Test.YtdogcnmepaemjaaDoorMt
import Derived.Shelf.Small.Utf8
import Derived.Shelf.Unicode.DecodeSlow
import Derived.Shelf.Strings.Search3
import Derived.Shelf.Strings.BuilderK
namespace Go.Proofs.YtdogcnmepaemjaaDoor
set_option linter.unusedVariables false
open Go.RowKit Go.Proofs.Fm Go.Proofs.Fb

theorem grown_trans {w w' w'' : World} {row : Option Nat} (h : w.grownBy w' row) (k : w'.grownBy w'' row) : w.grownBy w'' row :=
  ⟨k.os.trans h.os, k.tape.trans h.tape, k.output.trans h.output, Nat.le_trans h.size k.size, fun j hj hne => (k.block j (Nat.lt_of_lt_of_le hj h.size) hne).trans (h.block j hj hne)⟩
theorem grown_below {w w' w'' : World} {row : Option Nat} {B : Nat} (h : w.grownBy w' row) (k : Below B w' w'') (hB : w.heap.size ≤ B) : w.grownBy w'' row :=
  ⟨k.os.trans h.os, k.tape.trans h.tape, k.output.trans h.output, Nat.le_trans h.size k.size, fun j hj hne => (k.block j (by omega)).trans (h.block j hj hne)⟩
theorem below_grown_any {w w' : World} (row : Option Nat) (k : Below w.heap.size w w') : w.grownBy w' row := grown_below (World.grownBy.refl w row) k (Nat.le_refl _)
theorem grown_to_below {w w' : World} {b B : Nat} (h : w.grownBy w' (some b)) (hb : B ≤ b) (hB : B ≤ w.heap.size) : Below B w w' :=
  (Below.refl B w).grown h hB (fun k hk => by injection hk with hk; omega)

/-! ### strings.Builder -/
/-- the builder at block b holds the bytes l; it and its buffer lie at or above B -/
def Bld (w : World) (B b : Nat) (l : List UInt8) : Prop := Lib.IsBuilderF 56 5 B b (Lib.byteCells l) w
theorem Bld.drewN {w : World} {B b : Nat} {l : List UInt8} (h : Bld w B b l) (n : Nat) : Bld (w.drewN n) B b l := h
theorem Bld.alloc {w : World} {B b : Nat} {l : List UInt8} (h : Bld w B b l) (o : Obj) : Bld (w.alloc o) B b l := Lib.IsBuilderF.alloc h o
theorem Bld.lt {w : World} {B b : Nat} {l : List UInt8} (h : Bld w B b l) : B ≤ b ∧ b < w.heap.size := by
  rcases h with h | h
  · exact ⟨h.1, h.lt⟩
  · exact ⟨h.1, h.lt⟩
theorem bld_new (w : World) : Bld (w.alloc (.cells #[.pointer none, .slice none 0 0] 56)) w.heap.size w.heap.size [] := Lib.IsBuilderF.of (Lib.fresh_isBuilder _ _ w)
theorem bldAt_grown {w w' : World} {T e B b j : Nat} {p : Value} {bs : List Value} (h : Lib.BuilderAtF T e B b p bs w) (hg : w.grownBy w' (some j)) (hj : j < B) : Lib.BuilderAtF T e B b p bs w' := by
  have hlt := h.lt
  obtain ⟨hB, v, hv, hown, hne⟩ := h
  refine ⟨hB, v, (hg.block b hlt (by simp; omega)).trans hv, hown.kept hg ?_, hne⟩
  right
  intro e
  have := (hown.lt _ e).1
  omega
theorem bldAt_below {w w' : World} {T e B b : Nat} {p : Value} {bs : List Value} (h : Lib.BuilderAtF T e B b p bs w) (hb : Below w.heap.size w w') : Lib.BuilderAtF T e B b p bs w' := by
  have hlt := h.lt
  obtain ⟨hB, v, hv, hown, hne⟩ := h
  exact ⟨hB, v, (hb.block b hlt).trans hv, hown.kept (below_grown_any none hb) (Classical.em _), hne⟩
/-- what lies, lies -/
theorem Bld.below {w w' : World} {B b : Nat} {l : List UInt8} (h : Bld w B b l) (hb : Below w.heap.size w w') : Bld w' B b l :=
  h.elim (fun x => .inl (bldAt_below x hb)) (fun x => .inr (bldAt_below x hb))
/-- a store elsewhere -/
theorem Bld.grown {w w' : World} {B b j : Nat} {l : List UInt8} (h : Bld w B b l) (hg : w.grownBy w' (some j)) (hj : j < B) : Bld w' B b l :=
  h.elim (fun x => .inl (bldAt_grown x hg hj)) (fun x => .inr (bldAt_grown x hg hj))

theorem write_string {B b : Nat} {l : List UInt8} (s : ByteArray) {w : World} (h : Bld w B b l) (hlen : l.length + s.size ≤ 140737488355328) (hBw : B ≤ w.heap.size) :
    Calls Tryd.prog 25 #[.pointer (some ⟨b, 0, none⟩), .string s] w fun e w' => (∃ n : Int, e = .returned (.tuple #[.int .i64 n, .nilIface])) ∧ Bld w' B b (l ++ s.data.toList) ∧ Below B w w' ∧ Lib.OthersKept 5 (some b) w w' := by
  refine (Any.Builder_WriteString_k Tryd.by166 Tryd.extra B b (Lib.byteCells l) s w h (by rw [Lib.byteCells_length]; exact hlen) hBw).mono ?_
  rintro e w' ⟨rfl, h1, h2, h3⟩
  refine ⟨⟨_, rfl⟩, ?_, h2, h3⟩
  unfold Bld
  rw [Lib.byteCells_append, ← Lib.strCells_eq]
  exact .inr h1
theorem built {B b : Nat} {l : List UInt8} {w : World} (h : Bld w B b l) (hBw : B ≤ w.heap.size) :
    Calls Tryd.prog 29 #[.pointer (some ⟨b, 0, none⟩)] w fun e w' => e = .returned (.string ⟨l.toArray⟩) ∧ Bld w' B b l ∧ Below B w w' ∧ Lib.OthersKept 5 (some b) w w' :=
  Any.Builder_String_any_k Tryd.by169 Tryd.extra B b l w h hBw

/-! ### what is leant on -/
/-- the library's own variables that the walks lean on: they lie in the first blocks -/
structure Env (w : World) : Prop where
  sz : 3 ≤ w.heap.size
  tabs : Lib.Utf8Tabs 0 1 w
theorem Env.below {w w' : World} (h : Env w) {B : Nat} (hb : Below B w w') (hB : 3 ≤ B) : Env w' := by
  refine ⟨Nat.le_trans h.sz hb.size, fun c hc => ?_, fun i hi => ?_⟩
  · rw [hb.cell (by show 0 < B; omega)]; exact h.tabs.1 c hc
  · obtain ⟨h1, h2⟩ := h.tabs.2 i hi
    exact ⟨by rw [hb.cell (by show 1 < B; omega)]; exact h1, by rw [hb.cell (by show 1 < B; omega)]; exact h2⟩
theorem Env.grow {w w' : World} (h : Env w) (hb : Below w.heap.size w w') : Env w' := h.below hb h.sz
theorem runeLen_any (r : Int) (w : World) : Calls Tryd.prog 31 #[.int .i32 r] w fun e w' => e = .returned (.int .i64 (Lib.runeLen r)) ∧ w' = w := Any.utf8_RuneLen Tryd.by118 r w
theorem contains1_any (s : ByteArray) (c : UInt8) (w : World) : Calls Tryd.prog 49 #[.string s, .string ⟨#[c]⟩] w fun e w' => e = .returned (.bool (decide (0 ≤ Lib.indexByte s.data.toList c))) ∧ w' = w := Any.strings_Contains_one Tryd.by144 s c w
end Go.Proofs.YtdogcnmepaemjaaDoor
