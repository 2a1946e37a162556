/- Plain facts for the document's own answer on trees: the way up as a row that is cut and lengthened; the links in nodes that are wanted. No walk. No conditions. -/
import Derived.Test.YtofllmofdenadaaDf
namespace Go.Proofs.Ytofllmofdenadaa
set_option linter.unusedVariables false
open Go.RowKit Go.Proofs.Fm Go.Proofs.Fb Go.Proofs.Fd Go.Proofs.Fc

/-- the way up is the one up to a node on it, and what is below -/
theorem anc_split (p : Nat → Int) : ∀ (n i : Nat), i ≤ n → ∀ j, j ∈ anc p i → ∃ t, anc p i = t ++ anc p j ∧ ∀ x ∈ t, j < x
  | n, i, hn, j, hj => by
    by_cases c : 0 ≤ p i ∧ p i < (i : Int)
    · rw [anc_step p i c.1 c.2] at hj ⊢
      rcases List.mem_cons.1 hj with rfl | hj
      · exact ⟨[], by rw [anc_step p j c.1 c.2]; rfl, by simp⟩
      · cases n with
        | zero => omega
        | succ n =>
          obtain ⟨t, h1, h2⟩ := anc_split p n (p i).toNat (by omega) j hj
          have hle := anc_le p _ _ (Nat.le_refl _) j hj
          exact ⟨i :: t, by rw [h1]; rfl, fun x hx => by
            rcases List.mem_cons.1 hx with rfl | hx
            · omega
            · exact h2 x hx⟩
    · rw [anc_stop p i c] at hj ⊢
      obtain rfl := List.mem_singleton.1 hj
      exact ⟨[], by rw [anc_stop p j c]; rfl, by simp⟩
def rowL (p : Nat → Int) (i : Nat) : List Nat := (anc p i).reverse
theorem rowL_length (p : Nat → Int) (i : Nat) : (rowL p i).length = (anc p i).length := by simp [rowL]
theorem rowL_pos (p : Nat → Int) (i : Nat) : 0 < (rowL p i).length := by
  obtain ⟨t, h⟩ := anc_head p i
  rw [rowL_length, h]; simp
theorem rowL_step {p : Nat → Int} {i : Nat} (h0 : 0 ≤ p i) (h1 : p i < (i : Int)) : rowL p i = rowL p (p i).toNat ++ [i] := by
  unfold rowL; rw [anc_step p i h0 h1]; simp
theorem rowL_mem {p : Nat → Int} {i j : Nat} : j ∈ rowL p i ↔ j ∈ anc p i := by simp [rowL]
/-- where the row ends with a node, it is that node's own -/
theorem rowL_take {p : Nat → Int} {i m j : Nat} (hm : m < (rowL p i).length) (hj : (rowL p i)[m]'hm = j) : (rowL p i).take (m + 1) = rowL p j := by
  have hmem : j ∈ anc p i := rowL_mem.1 (hj ▸ List.getElem_mem hm)
  obtain ⟨t, h1, h2⟩ := anc_split p i i (Nat.le_refl _) j hmem
  have hr : rowL p i = rowL p j ++ t.reverse := by unfold rowL; rw [h1]; simp
  obtain ⟨t', ht'⟩ := anc_head p j
  have hjl : rowL p j = t'.reverse ++ [j] := by unfold rowL; rw [ht']; simp
  by_cases hlt : m + 1 < (rowL p j).length
  · exfalso
    -- j stands in the row of j ahead of its end: but what is ahead of the end is less
    have hlen : (rowL p j).length = t'.length + 1 := by rw [hjl]; simp
    have hm1 : m < t'.reverse.length := by rw [List.length_reverse]; omega
    have e1 : (rowL p i)[m]'hm = t'.reverse[m]'hm1 := by
      simp only [hr, hjl, List.append_assoc]
      rw [List.getElem_append_left hm1]
    have hin : j ∈ t' := by
      rw [← List.mem_reverse, ← hj, e1]; exact List.getElem_mem hm1
    by_cases c : 0 ≤ p j ∧ p j < (j : Int)
    · rw [anc_step p j c.1 c.2] at ht'
      injection ht' with _ ht'
      rw [← ht'] at hin
      have := anc_le p _ _ (Nat.le_refl _) j hin
      omega
    · rw [anc_stop p j c] at ht'
      injection ht' with _ ht'
      rw [← ht'] at hin; cases hin
  · by_cases heq : m + 1 = (rowL p j).length
    · rw [hr, heq, List.take_left]
    · exfalso
      have hge : (rowL p j).length ≤ m := by omega
      have hm2 : m - (rowL p j).length < t.reverse.length := by rw [hr, List.length_append] at hm; omega
      have e1 : (rowL p i)[m]'hm = t.reverse[m - (rowL p j).length]'hm2 := by
        simp only [hr]
        rw [List.getElem_append_right hge]
      have hin : j ∈ t := by
        rw [← List.mem_reverse, ← hj, e1]; exact List.getElem_mem hm2
      have := h2 j hin
      omega
theorem rowL_no {p : Nat → Int} {i : Nat} {a : Int} (h : ∀ m (hm : m < (rowL p i).length), (((rowL p i)[m]'hm : Nat) : Int) ≠ a) : onWay p i a = false := by
  unfold onWay
  rw [List.any_eq_false]
  intro j hj
  obtain ⟨m, hm, rfl⟩ := List.getElem_of_mem (rowL_mem.2 hj)
  simpa using h m hm
theorem rowL_yes {p : Nat → Int} {i m : Nat} {a : Int} (hm : m < (rowL p i).length) (h : (((rowL p i)[m]'hm : Nat) : Int) = a) : onWay p i a = true := by
  unfold onWay
  rw [List.any_eq_true]
  exact ⟨_, rowL_mem.1 (List.getElem_mem hm), by simpa using h⟩

/-- the wanted links of the first k nodes, in a block of n nodes -/
def WtAt (p : Nat → Int) (k : Nat) (cs : Array Value) (i : Nat) : Prop := cs[i * 9 + 5]? = some (.int .i64 (fst p k i)) ∧ cs[i * 9 + 6]? = some (.int .i64 (lst p k i)) ∧ cs[i * 9 + 7]? = some (.int .i64 (lst p i (p i))) ∧ cs[i * 9 + 8]? = some (.int .i64 (nxt p k i))
def Wts (p : Nat → Int) (n k : Nat) (cs : Array Value) : Prop := cs.size = n * 9 ∧ ∀ i, i < k → WtAt p k cs i
/-- a node's own links, ahead of its being put below its parent: prev is v -/
def cs9 (cs : Array Value) (k : Nat) (a v : Int) : Array Value := ((((((((cs.setIfInBounds (k * 9) (.int .i64 0)).setIfInBounds (k * 9 + 1) (.string ⟨#[]⟩)).setIfInBounds (k * 9 + 2) (.string ⟨#[]⟩)).setIfInBounds (k * 9 + 3) (.slice none 0 0)).setIfInBounds (k * 9 + 4) (.int .i64 a)).setIfInBounds (k * 9 + 5) (.int .i64 (-1))).setIfInBounds (k * 9 + 6) (.int .i64 (-1))).setIfInBounds (k * 9 + 7) (.int .i64 v)).setIfInBounds (k * 9 + 8) (.int .i64 (-1))
theorem cs9_size (cs : Array Value) (k : Nat) (a v : Int) : (cs9 cs k a v).size = cs.size := by simp [cs9]
theorem cs9_ne {cs : Array Value} {k i j : Nat} {a v : Int} (hi : i ≠ k) (hj : j < 9) : (cs9 cs k a v)[i * 9 + j]? = cs[i * 9 + j]? := by
  unfold cs9
  rw [set_ne _ (by omega), set_ne _ (by omega), set_ne _ (by omega), set_ne _ (by omega), set_ne _ (by omega), set_ne _ (by omega), set_ne _ (by omega), set_ne _ (by omega), set_ne _ (by omega)]
theorem cs9_5 {cs : Array Value} {n k : Nat} {a v : Int} (hs : cs.size = n * 9) (hk : k < n) : (cs9 cs k a v)[k * 9 + 5]? = some (.int .i64 (-1)) := by
  unfold cs9
  rw [set_ne _ (by omega), set_ne _ (by omega), set_ne _ (by omega), set_at _ (by simp; omega)]
theorem cs9_6 {cs : Array Value} {n k : Nat} {a v : Int} (hs : cs.size = n * 9) (hk : k < n) : (cs9 cs k a v)[k * 9 + 6]? = some (.int .i64 (-1)) := by
  unfold cs9
  rw [set_ne _ (by omega), set_ne _ (by omega), set_at _ (by simp; omega)]
theorem cs9_7 {cs : Array Value} {n k : Nat} {a v : Int} (hs : cs.size = n * 9) (hk : k < n) : (cs9 cs k a v)[k * 9 + 7]? = some (.int .i64 v) := by
  unfold cs9
  rw [set_ne _ (by omega), set_at _ (by simp; omega)]
theorem cs9_8 {cs : Array Value} {n k : Nat} {a v : Int} (hs : cs.size = n * 9) (hk : k < n) : (cs9 cs k a v)[k * 9 + 8]? = some (.int .i64 (-1)) := by
  unfold cs9
  rw [set_at _ (by simp; omega)]
theorem Wts.first {p : Nat → Int} {n : Nat} {cs : Array Value} (hs : cs.size = n * 9) (hn : 0 < n) (h0 : p 0 = -1) : Wts p n 1 (cs9 cs 0 (-1) (-1)) := by
  refine ⟨by rw [cs9_size]; exact hs, fun i hi => ?_⟩
  obtain rfl : i = 0 := by omega
  have e1 : lst p 1 (0 : Nat) = -1 := lst_low p _ 1 (fun j hj => by obtain rfl : j = 0 := by omega
                                                                    omega)
  have e2 : fst p 1 (0 : Nat) = -1 := fst_low p _ 1 (fun j hj => by obtain rfl : j = 0 := by omega
                                                                    omega)
  refine ⟨?_, ?_, ?_, ?_⟩
  · rw [e2]; exact cs9_5 hs hn
  · rw [e1]; exact cs9_6 hs hn
  · exact cs9_7 hs hn
  · rw [nxt_low p 0 1 (by omega)]; exact cs9_8 hs hn
set_option maxHeartbeats 4000000 in
theorem Wts.next {p : Nat → Int} {n k P : Nat} {cs : Array Value} (h : Wts p n k cs) (hk : k < n) (hk0 : 0 < k) (ho : ordB p (k + 1) = true) (hP : p k = (P : Int)) (hPk : P < k) (v : Int) (hv : v = lst p k (p k)) :
    (v < 0 → Wts p n (k + 1) (((cs9 cs k P v).setIfInBounds (P * 9 + 5) (.int .i64 k)).setIfInBounds (P * 9 + 6) (.int .i64 k))) ∧
    (∀ u : Nat, v = (u : Int) → u < k → Wts p n (k + 1) (((cs9 cs k P v).setIfInBounds (u * 9 + 8) (.int .i64 k)).setIfInBounds (P * 9 + 6) (.int .i64 k))) := by
  have hs := h.1
  have hs0 : (cs9 cs k P v).size = n * 9 := by rw [cs9_size]; exact hs
  have kf : fst p (k + 1) (k : Nat) = -1 := fst_low p _ _ (fun j hj => ord_ne ho (by omega) (by omega))
  have kl : lst p (k + 1) (k : Nat) = -1 := lst_low p _ _ (fun j hj => ord_ne ho (by omega) (by omega))
  have kn : nxt p (k + 1) k = -1 := nxt_low p k _ (Nat.le_refl _)
  refine ⟨fun hneg => ⟨by simp [hs0], fun i hi => ?_⟩, fun u hu huk => ⟨by simp [hs0], fun i hi => ?_⟩⟩
  · by_cases ik : i = k
    · subst ik
      refine ⟨?_, ?_, ?_, ?_⟩
      · rw [set_ne _ (by omega), set_ne _ (by omega), kf]; exact cs9_5 hs hk
      · rw [set_ne _ (by omega), set_ne _ (by omega), kl]; exact cs9_6 hs hk
      · rw [set_ne _ (by omega), set_ne _ (by omega), cs9_7 hs hk, hv]
      · rw [set_ne _ (by omega), set_ne _ (by omega), kn]; exact cs9_8 hs hk
    · obtain ⟨c0, c1, c2, c3⟩ := h.2 i (by omega)
      have n3 : nxt p (k + 1) i = nxt p k i := nxt_same (by omega) (by omega)
      refine ⟨?_, ?_, ?_, ?_⟩
      · by_cases iP : i = P
        · subst iP; rw [set_ne _ (by omega), set_at _ (by omega), ← hP, fst_new (by omega)]
        · rw [set_ne _ (by omega), set_ne _ (by omega), fst_same (.inl (by omega)), cs9_ne ik (by omega)]; exact c0
      · by_cases iP : i = P
        · subst iP; rw [set_at _ (by rw [Array.size_setIfInBounds]; omega), ← hP, lst_new]
        · rw [set_ne _ (by omega), set_ne _ (by omega), lst_same (by omega), cs9_ne ik (by omega)]; exact c1
      · rw [set_ne _ (by omega), set_ne _ (by omega), cs9_ne ik (by omega)]; exact c2
      · rw [set_ne _ (by omega), set_ne _ (by omega), n3, cs9_ne ik (by omega)]; exact c3
  · by_cases ik : i = k
    · subst ik
      refine ⟨?_, ?_, ?_, ?_⟩
      · rw [set_ne _ (by omega), set_ne _ (by omega), kf]; exact cs9_5 hs hk
      · rw [set_ne _ (by omega), set_ne _ (by omega), kl]; exact cs9_6 hs hk
      · rw [set_ne _ (by omega), set_ne _ (by omega), cs9_7 hs hk, hv]
      · rw [set_ne _ (by omega), set_ne _ (by omega), kn]; exact cs9_8 hs hk
    · obtain ⟨c0, c1, c2, c3⟩ := h.2 i (by omega)
      refine ⟨?_, ?_, ?_, ?_⟩
      · rw [set_ne _ (by omega), set_ne _ (by omega), cs9_ne ik (by omega)]
        by_cases iP : i = P
        · subst iP; rw [fst_same (.inr (by rw [← hP]; omega))]; exact c0
        · rw [fst_same (.inl (by omega))]; exact c0
      · by_cases iP : i = P
        · subst iP; rw [set_at _ (by rw [Array.size_setIfInBounds]; omega), ← hP, lst_new]
        · rw [set_ne _ (by omega), set_ne _ (by omega), lst_same (by omega), cs9_ne ik (by omega)]; exact c1
      · rw [set_ne _ (by omega), set_ne _ (by omega), cs9_ne ik (by omega)]; exact c2
      · by_cases iv : i = u
        · subst iv; rw [set_ne _ (by omega), set_at _ (by omega), nxt_new (by omega) (by omega)]
        · rw [set_ne _ (by omega), set_ne _ (by omega), nxt_same (by omega) (by omega), cs9_ne ik (by omega)]; exact c3
/-- a list of the call's own, cut behind some of its elements -/
theorem own_take {w : World} {base e n m c : Nat} {g : Nat} {xs : List Value} (h : w.ownsRow base e 1 (.slice (some ⟨g, 0, none⟩) n c) n xs) (hm : m ≤ n) : w.ownsRow base e 1 (.slice (some ⟨g, 0, none⟩) m c) m (xs.take m) := by
  refine ⟨by have := h.1; simp [List.length_take]; omega, ?_⟩
  rcases h.2 with ⟨hv, _⟩ | ⟨g', cap, cur, hv, h1, h2, h3, h4, h5, h6⟩
  · cases hv
  · injection hv with e1 e2 e3
    injection e1 with e1; injection e1 with e1
    subst e1; subst e3
    refine .inr ⟨g, c, cur, rfl, h1, h2, by omega, h4, h5, ?_⟩
    rw [← h6, Nat.mul_one, Nat.mul_one, List.take_take]; congr 1; omega
end Go.Proofs.Ytofllmofdenadaa
