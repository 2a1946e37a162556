/- Plain facts for DomWalk: all nodes of a tree that is as said are below its root; the kids' links back; the number of an element among the kids. No walk. No conditions. -/
import Derived.Test.YtofllmofdenadaaIb
import Derived.Test.YtofllmofdenadaaId
namespace Go.Proofs.Ytofllmofdenadaa
set_option linter.unusedVariables false
open Go.RowKit Go.Proofs.Fm Go.Proofs.Fb Go.Proofs.Fd Go.Proofs.Fc

theorem up_same : ∀ {a b : List Nat}, a.Pairwise (· < ·) → b.Pairwise (· < ·) → (∀ x, x ∈ a ↔ x ∈ b) → a = b
  | [], [], _, _, _ => rfl
  | [], y :: b, _, _, h => by have := (h y).2 (.head _); cases this
  | x :: a, [], _, _, h => by have := (h x).1 (.head _); cases this
  | x :: a, y :: b, ha, hb, h => by
    rw [List.pairwise_cons] at ha hb
    have hxy : x = y := by
      have h1 := (h x).1 (.head _)
      have h2 := (h y).2 (.head _)
      rcases List.mem_cons.1 h1 with e | h1
      · exact e
      · rcases List.mem_cons.1 h2 with e | h2
        · exact e.symm
        · have := ha.1 y h2; have := hb.1 x h1; omega
    subst hxy
    rw [up_same ha.2 hb.2 (fun z => ⟨fun hz => ?_, fun hz => ?_⟩)]
    · rcases List.mem_cons.1 ((h z).1 (.tail _ hz)) with e | h1
      · subst e; have := ha.1 z hz; omega
      · exact h1
    · rcases List.mem_cons.1 ((h z).2 (.tail _ hz)) with e | h1
      · subst e; have := hb.1 z hz; omega
      · exact h1
theorem end_root {p : Nat → Int} {n : Nat} (ho : ordB p n = true) (hn : 0 < n) : endN p n 0 = n := by
  have hbd := endR_bd p ((0 : Nat) : Int) n (n - (0 + 1)) (0 + 1) (by omega)
  have he : endN p n 0 = endR p ((0 : Nat) : Int) n (n - (0 + 1)) (0 + 1) := rfl
  rcases Nat.lt_or_ge (endN p n 0) n with c | c
  · exfalso
    rw [he] at c
    have h1 := endR_out p ((0 : Nat) : Int) n (n - (0 + 1)) (0 + 1) (by omega) c
    have h2 := ord_lt ho (i := endR p ((0 : Nat) : Int) n (n - (0 + 1)) (0 + 1)) (by omega) c
    omega
  · rw [he] at c ⊢; omega
/-- the kids ahead of a kid -/
theorem kids_take {p : Nat → Int} {n m : Nat} {i : Int} (h : m < (kidsOf p n i).length) : kidsOf p ((kidsOf p n i)[m]'h) i = (kidsOf p n i).take m := by
  have hs := kids_sorted p i n
  refine up_same (kids_sorted _ _ _) (hs.sublist (List.take_sublist _ _)) (fun x => ⟨fun hx => ?_, fun hx => ?_⟩)
  · obtain ⟨h1, h2⟩ := kidsOf_lt hx
    have hk := kidsOf_lt (p := p) (n := n) (i := i) (j := (kidsOf p n i)[m]'h) (List.getElem_mem h)
    have hmem := kidsOf_mem (p := p) (n := n) (i := i) (j := x) (by omega) h2
    obtain ⟨q, hq, hqx⟩ := List.getElem_of_mem hmem
    rw [List.mem_take_iff_getElem]
    refine ⟨q, ?_, hqx⟩
    rcases Nat.lt_or_ge q m with c | c
    · omega
    · exfalso
      by_cases e : q = m
      · subst e; omega
      · have := List.pairwise_iff_getElem.1 hs m q h hq (by omega); omega
  · obtain ⟨q, hq, hqx⟩ := List.mem_take_iff_getElem.1 hx
    have hlt := List.pairwise_iff_getElem.1 hs q m (by omega) h (by omega)
    have hk := kidsOf_lt (p := p) (n := n) (i := i) (j := x) (hqx ▸ List.getElem_mem (by omega))
    exact kidsOf_mem (by omega) hk.2
/-- a kid's link back is the kid ahead of it -/
theorem kid_prev {l : List Nd} (hs : SaidF l) {i : Int} {m : Nat} (h : m < (kidsOf (par l) l.length i).length) : prv l ((kidsOf (par l) l.length i)[m]'h) = if m = 0 then -1 else nth (kidsOf (par l) l.length i) (m - 1) := by
  have hk := kidsOf_lt (p := par l) (n := l.length) (i := i) (j := (kidsOf (par l) l.length i)[m]'h) (List.getElem_mem h)
  rw [prv_get hk.1, hs.prev _ hk.1, hk.2, (kids_links (par l) i _).2.1, kids_take h, List.length_take]
  have hmin : min m (kidsOf (par l) l.length i).length = m := by omega
  rw [hmin]
  by_cases c : m = 0
  · subst c; rfl
  · rw [if_neg c]
    unfold nth
    rw [List.getElem?_take, if_pos (by omega)]
/-- an element's number among the kids -/
theorem kid_index {l : List Nd} (hs : SaidF l) {i : Int} : ∀ (m : Nat) (h : m < (kidsOf (par l) l.length i).length), idxUp (prv l) (elB l) ((kidsOf (par l) l.length i)[m]'h : Nat) l.length = ((((kidsOf (par l) l.length i).take (m + 1)).filter (elB l)).length : Int)
  | 0, h => by
    have hk := kidsOf_lt (p := par l) (n := l.length) (i := i) (j := (kidsOf (par l) l.length i)[0]'h) (List.getElem_mem h)
    have hp := kid_prev hs h
    rw [if_pos rfl] at hp
    rw [idx_up hs rfl hk.1, hp, idxUp_no _ _ _ _ (by omega), List.take_succ_eq_append_getElem h]
    by_cases c : elB l ((kidsOf (par l) l.length i)[0]'h) = true
    · simp [c]
    · simp [c]
  | m + 1, h => by
    have hk := kidsOf_lt (p := par l) (n := l.length) (i := i) (j := (kidsOf (par l) l.length i)[m + 1]'h) (List.getElem_mem h)
    have hp := kid_prev hs h
    rw [if_neg (by omega), Nat.add_sub_cancel, nth_in (show m < (kidsOf (par l) l.length i).length by omega)] at hp
    have ih := kid_index (i := i) hs m (by omega)
    rw [idx_up hs rfl hk.1, hp, ih, List.take_succ_eq_append_getElem h, List.filter_append, List.length_append]
    by_cases c : elB l ((kidsOf (par l) l.length i)[m + 1]'h) = true
    · simp [c]; omega
    · simp [c]
end Go.Proofs.Ytofllmofdenadaa
