/- The links of nodes by their parents: dom's addKid and linksByParents. No conditions but that the list is not endless and in document order. -/
import Derived.Test.YtdogcnmepaemjaaDoorDe
namespace Go.Proofs.YtdogcnmepaemjaaDoor
set_option linter.unusedVariables false
open Go.RowKit Go.Proofs.Fm Go.Proofs.Fb Go.Proofs.Fd Go.Proofs.Fc

theorem cell_in {cs : Array Value} {n i j : Nat} (hs : cs.size = n * 4) (hi : i < n) (hj : j < 4) : ∃ u, cs[i * 4 + j]? = some u := ⟨_, Array.getElem?_eq_getElem (by omega)⟩
set_option maxHeartbeats 1000000 in
theorem addKid_none (g n P K : Nat) (hP : P < n) (hK : K < n) (hn : n ≤ 4398046511104) (v : Int) (hv : v < 0) (w : World) (cs : Array Value) (hb : Bk w g 74 cs) (hsz : cs.size = n * 4) (hl : cs[P * 4 + 1]? = some (.int .i64 v)) :
    Calls Tryd.prog 43 #[.slice (some ⟨g, 0, none⟩) n n, .int .i64 (P : Int), .int .i64 (K : Int)] w fun e w' => e = .returned (.tuple #[]) ∧ w' = ((w.setCell ⟨g, K * 4 + 2, none⟩ (.int .i64 v)).setCell ⟨g, P * 4 + 1, none⟩ (.int .i64 K)).setCell ⟨g, P * 4, none⟩ (.int .i64 K) := by
  have x1 : w.cell? ⟨g, P * 4 + 1, none⟩ = some (.int .i64 v) := (hb.cell _).trans hl
  obtain ⟨u2, h2⟩ := cell_in hsz hK (j := 2) (by omega)
  obtain ⟨u0, h0⟩ := cell_in hsz hP (j := 0) (by omega)
  have x2 : w.cell? ⟨g, K * 4 + 2, none⟩ = some u2 := (hb.cell _).trans h2
  have x0 : w.cell? ⟨g, P * 4, none⟩ = some u0 := (hb.cell _).trans h0
  have hf : ∀ i, w.frozen? ⟨g, i, none⟩ = false := hb.frozen
  clear hb hl h2 h0 hsz
  go_enter Tryd.func43, Tryd.ntmps43
  go_wp2_with fail
  go_end0
  exact ⟨rfl, rfl⟩
set_option maxHeartbeats 1000000 in
theorem addKid_some (g n P K v : Nat) (hP : P < n) (hK : K < n) (hn : n ≤ 4398046511104) (hv : v < n) (w : World) (cs : Array Value) (hb : Bk w g 74 cs) (hsz : cs.size = n * 4) (hl : cs[P * 4 + 1]? = some (.int .i64 (v : Int))) :
    Calls Tryd.prog 43 #[.slice (some ⟨g, 0, none⟩) n n, .int .i64 (P : Int), .int .i64 (K : Int)] w fun e w' => e = .returned (.tuple #[]) ∧ w' = ((w.setCell ⟨g, K * 4 + 2, none⟩ (.int .i64 v)).setCell ⟨g, P * 4 + 1, none⟩ (.int .i64 K)).setCell ⟨g, v * 4 + 3, none⟩ (.int .i64 K) := by
  have x1 : w.cell? ⟨g, P * 4 + 1, none⟩ = some (.int .i64 v) := (hb.cell _).trans hl
  obtain ⟨u2, h2⟩ := cell_in hsz hK (j := 2) (by omega)
  obtain ⟨u0, h0⟩ := cell_in hsz hv (j := 3) (by omega)
  have x2 : w.cell? ⟨g, K * 4 + 2, none⟩ = some u2 := (hb.cell _).trans h2
  have x0 : w.cell? ⟨g, v * 4 + 3, none⟩ = some u0 := (hb.cell _).trans h0
  have hf : ∀ i, w.frozen? ⟨g, i, none⟩ = false := hb.frozen
  clear hb hl h2 h0 hsz
  go_enter Tryd.func43, Tryd.ntmps43
  go_wp2_with fail
  go_end0
  exact ⟨rfl, rfl⟩

/-- the links of the first k nodes, as the parents p leave them, in block g of n places -/
def LkAt (p : Nat → Int) (k : Nat) (cs : Array Value) (i : Nat) : Prop := cs[i * 4]? = some (.int .i64 (fst p k i)) ∧ cs[i * 4 + 1]? = some (.int .i64 (lst p k i)) ∧ cs[i * 4 + 2]? = some (.int .i64 (lst p i (p i))) ∧ cs[i * 4 + 3]? = some (.int .i64 (nxt p k i))
def Lks (p : Nat → Int) (n k : Nat) (cs : Array Value) : Prop := cs.size = n * 4 ∧ ∀ i, i < k → LkAt p k cs i
theorem set_at {cs : Array Value} {a : Nat} (u : Value) (h : a < cs.size) : (cs.setIfInBounds a u)[a]? = some u := by simp [h]
theorem set_ne {cs : Array Value} {a b : Nat} (u : Value) (h : a ≠ b) : (cs.setIfInBounds a u)[b]? = cs[b]? := Array.getElem?_setIfInBounds_ne h
theorem lst_low (p : Nat → Int) (i : Int) : ∀ k, (∀ j, j < k → p j ≠ i) → lst p k i = -1
  | 0, _ => rfl
  | k + 1, h => by rw [lst_same (h k (by omega))]; exact lst_low p i k (fun j hj => h j (by omega))
theorem fst_low (p : Nat → Int) (i : Int) : ∀ k, (∀ j, j < k → p j ≠ i) → fst p k i = -1
  | 0, _ => rfl
  | k + 1, h => by rw [fst_same (.inl (h k (by omega)))]; exact fst_low p i k (fun j hj => h j (by omega))
/-- of nodes in order none up to i has i for its parent -/
theorem ord_ne {p : Nat → Int} {n : Nat} (h : ordB p n = true) {i j : Nat} (hj : j ≤ i) (hi : i < n) : p j ≠ (i : Int) := by
  by_cases h0 : j = 0
  · subst h0; have := ((ordB_iff p n).1 h).1; omega
  · have := ord_lt h (i := j) (by omega) (by omega); omega
/-- the new node's own links, ahead of its being put below its parent -/
def cs0 (cs : Array Value) (k : Nat) : Array Value := (((cs.setIfInBounds (k * 4) (.int .i64 (-1))).setIfInBounds (k * 4 + 1) (.int .i64 (-1))).setIfInBounds (k * 4 + 2) (.int .i64 (-1))).setIfInBounds (k * 4 + 3) (.int .i64 (-1))
theorem cs0_size (cs : Array Value) (k : Nat) : (cs0 cs k).size = cs.size := by simp [cs0]
theorem cs0_ne {cs : Array Value} {k i j : Nat} (hi : i ≠ k) (hj : j < 4) : (cs0 cs k)[i * 4 + j]? = cs[i * 4 + j]? := by
  unfold cs0
  rw [set_ne _ (by omega), set_ne _ (by omega), set_ne _ (by omega), set_ne _ (by omega)]
theorem cs0_at {cs : Array Value} {n k j : Nat} (hs : cs.size = n * 4) (hk : k < n) (hj : j < 4) : (cs0 cs k)[k * 4 + j]? = some (.int .i64 (-1)) := by
  unfold cs0
  by_cases h3 : j = 3
  · subst h3; rw [set_at _ (by simp; omega)]
  rw [set_ne _ (by omega)]
  by_cases h2 : j = 2
  · subst h2; rw [set_at _ (by simp; omega)]
  rw [set_ne _ (by omega)]
  by_cases h1 : j = 1
  · subst h1; rw [set_at _ (by simp; omega)]
  rw [set_ne _ (by omega)]
  obtain rfl : j = 0 := by omega
  rw [Nat.add_zero, set_at _ (by omega)]
theorem Lks.first {p : Nat → Int} {n : Nat} {cs : Array Value} (hs : cs.size = n * 4) (hn : 0 < n) (h0 : p 0 = -1) : Lks p n 1 (cs0 cs 0) := by
  refine ⟨by rw [cs0_size]; exact hs, fun i hi => ?_⟩
  obtain rfl : i = 0 := by omega
  have e1 : lst p 1 (0 : Nat) = -1 := lst_low p _ 1 (fun j hj => by obtain rfl : j = 0 := by omega
                                                                    omega)
  have e2 : fst p 1 (0 : Nat) = -1 := fst_low p _ 1 (fun j hj => by obtain rfl : j = 0 := by omega
                                                                    omega)
  refine ⟨?_, ?_, ?_, ?_⟩
  · rw [e2]; exact cs0_at (j := 0) hs hn (by omega)
  · rw [e1]; exact cs0_at (j := 1) hs hn (by omega)
  · exact cs0_at (j := 2) hs hn (by omega)
  · rw [nxt_low p 0 1 (by omega)]; exact cs0_at (j := 3) hs hn (by omega)
set_option maxHeartbeats 2000000 in
/-- a node is put below its parent: the first one, or behind another -/
theorem Lks.next {p : Nat → Int} {n k P : Nat} {cs : Array Value} (h : Lks p n k cs) (hk : k < n) (hk0 : 0 < k) (ho : ordB p n = true) (hP : p k = (P : Int)) (hPk : P < k) :
    (∀ v, (cs0 cs k)[P * 4 + 1]? = some (.int .i64 v) → v < 0 → Lks p n (k + 1) ((((cs0 cs k).setIfInBounds (k * 4 + 2) (.int .i64 v)).setIfInBounds (P * 4 + 1) (.int .i64 k)).setIfInBounds (P * 4) (.int .i64 k))) ∧
    (∀ v : Nat, (cs0 cs k)[P * 4 + 1]? = some (.int .i64 (v : Int)) → v < k → Lks p n (k + 1) ((((cs0 cs k).setIfInBounds (k * 4 + 2) (.int .i64 v)).setIfInBounds (P * 4 + 1) (.int .i64 k)).setIfInBounds (v * 4 + 3) (.int .i64 k))) ∧
    (cs0 cs k)[P * 4 + 1]? = some (.int .i64 (lst p k (p k))) := by
  have hs := h.1
  have hs0 : (cs0 cs k).size = n * 4 := by rw [cs0_size]; exact hs
  have hlast : (cs0 cs k)[P * 4 + 1]? = some (.int .i64 (lst p k (p k))) := by
    rw [cs0_ne (by omega) (by omega), (h.2 P hPk).2.1, hP]
  have kf : fst p (k + 1) (k : Nat) = -1 := fst_low p _ _ (fun j hj => ord_ne ho (by omega) hk)
  have kl : lst p (k + 1) (k : Nat) = -1 := lst_low p _ _ (fun j hj => ord_ne ho (by omega) hk)
  have kn : nxt p (k + 1) k = -1 := nxt_low p k _ (Nat.le_refl _)
  refine ⟨fun v hv hneg => ⟨by simp [hs0], fun i hi => ?_⟩, fun v hv hvk => ⟨by simp [hs0], fun i hi => ?_⟩, hlast⟩
  · have ev : v = lst p k (p k) := by rw [hlast] at hv; injection hv with hv; injection hv with _ hv; exact hv.symm
    subst ev
    by_cases ik : i = k
    · subst ik
      refine ⟨?_, ?_, ?_, ?_⟩
      · rw [set_ne _ (by omega), set_ne _ (by omega), set_ne _ (by omega), kf]; exact cs0_at (j := 0) hs hk (by omega)
      · rw [set_ne _ (by omega), set_ne _ (by omega), set_ne _ (by omega), kl]; exact cs0_at (j := 1) hs hk (by omega)
      · rw [set_ne _ (by omega), set_ne _ (by omega), set_at _ (by omega)]
      · rw [set_ne _ (by omega), set_ne _ (by omega), set_ne _ (by omega), kn]; exact cs0_at (j := 3) hs hk (by omega)
    · obtain ⟨c0, c1, c2, c3⟩ := h.2 i (by omega)
      have n3 : nxt p (k + 1) i = nxt p k i := nxt_same (by omega) (by omega)
      refine ⟨?_, ?_, ?_, ?_⟩
      · by_cases iP : i = P
        · subst iP; rw [set_at _ (by simp; omega), ← hP, fst_new hneg]
        · rw [set_ne _ (by omega), set_ne _ (by omega), set_ne _ (by omega), fst_same (.inl (by omega))]
          exact (cs0_ne (j := 0) ik (by omega)).trans c0
      · by_cases iP : i = P
        · subst iP; rw [set_ne _ (by omega), set_at _ (by simp; omega), ← hP, lst_new]
        · rw [set_ne _ (by omega), set_ne _ (by omega), set_ne _ (by omega), lst_same (by omega)]
          exact (cs0_ne (j := 1) ik (by omega)).trans c1
      · rw [set_ne _ (by omega), set_ne _ (by omega), set_ne _ (by omega)]
        exact (cs0_ne (j := 2) ik (by omega)).trans c2
      · rw [set_ne _ (by omega), set_ne _ (by omega), set_ne _ (by omega), n3]
        exact (cs0_ne (j := 3) ik (by omega)).trans c3
  · have ev : (v : Int) = lst p k (p k) := by rw [hlast] at hv; injection hv with hv; injection hv with _ hv; exact hv.symm
    by_cases ik : i = k
    · subst ik
      refine ⟨?_, ?_, ?_, ?_⟩
      · rw [set_ne _ (by omega), set_ne _ (by omega), set_ne _ (by omega), kf]; exact cs0_at (j := 0) hs hk (by omega)
      · rw [set_ne _ (by omega), set_ne _ (by omega), set_ne _ (by omega), kl]; exact cs0_at (j := 1) hs hk (by omega)
      · rw [set_ne _ (by omega), set_ne _ (by omega), set_at _ (by omega), ev]
      · rw [set_ne _ (by omega), set_ne _ (by omega), set_ne _ (by omega), kn]; exact cs0_at (j := 3) hs hk (by omega)
    · obtain ⟨c0, c1, c2, c3⟩ := h.2 i (by omega)
      refine ⟨?_, ?_, ?_, ?_⟩
      · rw [set_ne _ (by omega), set_ne _ (by omega), set_ne _ (by omega)]
        by_cases iP : i = P
        · subst iP; rw [fst_same (.inr (by rw [← hP]; omega))]; exact (cs0_ne (j := 0) ik (by omega)).trans c0
        · rw [fst_same (.inl (by omega))]; exact (cs0_ne (j := 0) ik (by omega)).trans c0
      · by_cases iP : i = P
        · subst iP; rw [set_ne _ (by omega), set_at _ (by simp; omega), ← hP, lst_new]
        · rw [set_ne _ (by omega), set_ne _ (by omega), set_ne _ (by omega), lst_same (by omega)]
          exact (cs0_ne (j := 1) ik (by omega)).trans c1
      · rw [set_ne _ (by omega), set_ne _ (by omega), set_ne _ (by omega)]
        exact (cs0_ne (j := 2) ik (by omega)).trans c2
      · by_cases iv : i = v
        · subst iv; rw [set_at _ (by simp; omega), nxt_new (by omega) ev.symm]
        · rw [set_ne _ (by omega), set_ne _ (by omega), set_ne _ (by omega), nxt_same (by omega) (by omega)]
          exact (cs0_ne (j := 3) ik (by omega)).trans c3
end Go.Proofs.YtdogcnmepaemjaaDoor
