/- What stands in a node, as it is written: the model, and what is kept while it is written. No walk. -/
import Derived.Test.YtdogcnmepaemjaaDoorRl
namespace Go.Proofs.YtdogcnmepaemjaaDoor
set_option linter.unusedVariables false
open Go.RowKit Go.Proofs.Fm Go.Proofs.Fb Go.Proofs.Fu Go.Proofs.Fr Go.Proofs.Fd Go.Proofs.Fc

def markF (l : List Nd) : Nat → Nat → Str
  | 0, _ => []
  | f + 1, n => ((kidsOf (par l) l.length n).map fun k => match l[k]? with
    | none => []
    | some x => if x.kind = 2 then textW (nmN l n) x.text else tagW x ++ (if voidB x.name then [] else markF l f k ++ ([60, 47] ++ x.name ++ [62]))).flatten
/-- a kid as it is written -/
def pieceW (l : List Nd) (f n k : Nat) : Str := match l[k]? with
    | none => []
    | some x => if x.kind = 2 then textW (nmN l n) x.text else tagW x ++ (if voidB x.name then [] else markF l f k ++ ([60, 47] ++ x.name ++ [62]))
def piecesW (l : List Nd) (f n : Nat) (K : List Nat) : Str := (K.map (pieceW l f n)).flatten
theorem markF_eq (l : List Nd) (f n : Nat) : markF l (f + 1) n = piecesW l f n (kidsOf (par l) l.length n) := rfl
theorem piecesW_take {l : List Nd} {f n m : Nat} {K : List Nat} (h : m < K.length) : piecesW l f n (K.take (m + 1)) = piecesW l f n (K.take m) ++ pieceW l f n (K[m]'h) := by
  unfold piecesW
  rw [List.take_succ_eq_append_getElem h, List.map_append, List.flatten_append]
  simp only [List.map_cons, List.map_nil, List.flatten_cons, List.flatten_nil, List.append_nil]
theorem piecesW_le {l : List Nd} {f n : Nat} {K : List Nat} (m : Nat) : (piecesW l f n (K.take m)).length ≤ (piecesW l f n K).length := by
  unfold piecesW
  conv => rhs; rw [← List.take_append_drop m K]
  rw [List.map_append, List.flatten_append, List.length_append]; omega
/-- what may be written between two worlds: the builder at bb, and what is laid anew -/
structure Wr (bb : Nat) (W W' : World) : Prop where
  bl : Below bb W W'
  ok : Lib.OthersKept 5 (some bb) W W'
theorem Wr.refl (bb : Nat) (W : World) : Wr bb W W := ⟨Below.refl _ _, Lib.OthersKept.refl _ _ _⟩
theorem Wr.trans {bb : Nat} {a b c : World} (h : Wr bb a b) (k : Wr bb b c) : Wr bb a c := ⟨h.bl.trans k.bl, h.ok.trans k.ok⟩
theorem Wr.grow {bb : Nat} {W W' : World} (h : Below W.heap.size W W') (hb : bb ≤ W.heap.size) : Wr bb W W' :=
  ⟨h.mono hb, fun k o hk _ _ => by rw [h.block k (Array.getElem?_eq_some_iff.1 hk).1]; exact hk⟩
theorem Wr.bk {bb b t : Nat} {W W' : World} {cs : Array Value} (h : Wr bb W W') (hk : Bk W b t cs) (h5 : t ≠ 5) (hb : b ≠ bb) : Bk W' b t cs :=
  h.ok b _ hk (by simpa using hb) (fun c fz e => by injection e with _ e; exact h5 e)
/-- a list of numbers that lies in a block of its own -/
def KRow (W : World) (A : Option Addr) (K : List Nat) : Prop := K = [] ∨ ∃ g cur fz, A = some ⟨g, 0, none⟩ ∧ W.heap[g]? = some (.cells cur 3 fz) ∧ ∀ i (h : i < K.length), cur[i]? = some (.int .i64 ((K[i]'h : Nat) : Int))
theorem Wr.krow {bb : Nat} {W W' : World} {A : Option Addr} {K : List Nat} (h : Wr bb W W') (hk : KRow W A K) (hb : ∀ g o f, A = some ⟨g, o, f⟩ → g ≠ bb) : KRow W' A K := by
  rcases hk with hk | ⟨g, cur, fz, rfl, h1, h2⟩
  · exact .inl hk
  · refine .inr ⟨g, cur, fz, rfl, h.ok g _ h1 (by simpa using hb g 0 none rfl) (fun c fz e => ?_), h2⟩
    injection e with _ e
    exact absurd e (by decide)
theorem KRow.of_own {W : World} {base : Nat} {A : Option Addr} {n c : Nat} {K : List Nat} (h : W.ownsRow base 3 1 (.slice A n c) n (ints K)) (hn : K.length = n) : KRow W A K ∧ ∀ g o f, A = some ⟨g, o, f⟩ → base ≤ g := by
  rcases h.2 with ⟨h1, h0⟩ | ⟨g, cap, cur, h1, hb, hh, hnc, hcm, hcs, htk⟩
  · injection h1 with h1
    subst h1
    exact ⟨.inl (List.eq_nil_of_length_eq_zero (by omega)), fun g o f e => by cases e⟩
  · injection h1 with h1
    subst h1
    refine ⟨.inr ⟨g, cur, _, rfl, hh, fun i hi => ?_⟩, fun g' o f e => by cases e; exact hb⟩
    have h3 : (cur.toList.take (n * 1))[i]? = (ints K)[i]? := by rw [htk]
    rw [List.getElem?_take, if_pos (by omega), Array.getElem?_toList] at h3
    rw [h3]
    simp [ints, hi]
theorem KRow.cell {W : World} {A : Option Addr} {K : List Nat} (h : KRow W A K) {i : Nat} (hi : i < K.length) : ∃ g, A = some ⟨g, 0, none⟩ ∧ W.cell? ⟨g, i, none⟩ = some (.int .i64 ((K[i]'hi : Nat) : Int)) := by
  rcases h with h | ⟨g, cur, fz, rfl, h1, h2⟩
  · rw [h] at hi; simp at hi
  · exact ⟨g, rfl, by rw [cell_of_row W g i cur 3 fz h1]; exact h2 i hi⟩
/-- while a tree is written -/
structure WSt (w0 : World) (A : Option Addr) (n c bt bb bf : Nat) (acc : Str) (W : World) : Prop where
  tb : Bk W bt 24 #[.slice A n c]
  fb : Bk W bf 57 #[.func (.func 23) #[] #[.pointer (some ⟨bt, 0, none⟩), .pointer (some ⟨bb, 0, none⟩), .pointer (some ⟨bf, 0, none⟩)]]
  bld : Bld W bb bb acc
  bl : Below w0.heap.size w0 W
  h0 : w0.heap.size ≤ bt
  h1 : bt < bb
  h2 : bb < bf
theorem WSt.wr {w0 W W' : World} {A : Option Addr} {n c bt bb bf : Nat} {acc acc' : Str} (h : WSt w0 A n c bt bb bf acc W) (k : Wr bb W W') (hb : Bld W' bb bb acc') : WSt w0 A n c bt bb bf acc' W' :=
  ⟨k.bk h.tb (by decide) (by have := h.h1; omega), k.bk h.fb (by decide) (by have := h.h2; omega), hb, h.bl.trans (k.bl.mono (by have := h.h0; have := h.h1; omega)), h.h0, h.h1, h.h2⟩
theorem WSt.grow {w0 W W' : World} {A : Option Addr} {n c bt bb bf : Nat} {acc : Str} (h : WSt w0 A n c bt bb bf acc W) (k : Below W.heap.size W W') : WSt w0 A n c bt bb bf acc W' :=
  h.wr (Wr.grow k (Nat.le_of_lt h.bld.lt.2)) (h.bld.below k)
end Go.Proofs.YtdogcnmepaemjaaDoor
