/- Words on memory for books of lists of any element type, that let go of older lists: rows that begin behind their block's beginning, what a book holds. No conditions. What a book of lists holds, whatever its elements are: kept through each of Keep's steps, older lists let go. No conditions. Books of lists whatever their elements are: lists that are written over with marks. No conditions. -/
import Derived.Test.YtnpoipjnnlbnfaaDoorBook
namespace Go.Proofs.Fg
set_option linter.unusedVariables false
open Go.RowKit Go.Proofs.Fm Go.Proofs.Fb

/-- an owned row of one-cell values that may begin behind its block's beginning -/
def OffRow (w : World) (base : Nat) (t : TypeId) (v : Value) (n : Nat) (xs : List Value) : Prop :=
  xs.length = n ∧ ((v = .slice none 0 0 ∧ n = 0) ∨
    ∃ g off cap cur, v = .slice (some ⟨g, off, none⟩) n cap ∧ base ≤ g ∧ w.heap[g]? = some (.cells cur t (0, 0)) ∧ n ≤ cap ∧ cap ≤ maxLen ∧ cur.size = off + cap ∧ (cur.toList.drop off).take n = xs)
section
variable {w w' : World} {base : Nat} {t : TypeId} {v : Value} {n : Nat} {xs : List Value}
theorem OffRow.nil (w : World) (base : Nat) (t : TypeId) : OffRow w base t (.slice none 0 0) 0 [] := ⟨rfl, .inl ⟨rfl, rfl⟩⟩
theorem OffRow.lt (h : OffRow w base t v n xs) : ∀ k, v.ownBlock = some k → base ≤ k ∧ k < w.heap.size := by
  intro k hk
  rcases h.2 with ⟨rfl, _⟩ | ⟨g, off, cap, cur, rfl, hb, hg, _⟩
  · simp [Value.ownBlock] at hk
  · simp [Value.ownBlock] at hk
    subst hk
    exact ⟨hb, (Array.getElem?_eq_some_iff.1 hg).1⟩
theorem OffRow.same {k : Nat} (h : OffRow w base t v n xs) (hs : ∀ g, v.ownBlock = some g → w'.heap[g]? = w.heap[g]?) : OffRow w' base t v n xs := by
  refine ⟨h.1, ?_⟩
  rcases h.2 with hn | ⟨g, off, cap, cur, rfl, hb, hg, rest⟩
  · exact .inl hn
  · refine .inr ⟨g, off, cap, cur, rfl, hb, ?_, rest⟩
    rw [hs g rfl]; exact hg
theorem OffRow.kept {row : Option Nat} (h : OffRow w base t v n xs) (hg : w.grownBy w' row) (hne : v.ownBlock = none ∨ v.ownBlock ≠ row) : OffRow w' base t v n xs :=
  h.same (k := 0) fun g hv => hg.block g (h.lt g hv).2 (by
    rcases hne with e | e
    · rw [hv] at e; cases e
    · rw [hv] at e; exact e)
theorem OffRow.alloc (h : OffRow w base t v n xs) (o : Obj) : OffRow (w.alloc o) base t v n xs := h.kept (World.grownBy_alloc w o none) (by cases hv : v.ownBlock <;> simp)
theorem OffRow.drew (h : OffRow w base t v n xs) : OffRow w.drew base t v n xs := h
theorem OffRow.drewN (h : OffRow w base t v n xs) (q : Nat) : OffRow (w.drewN q) base t v n xs := h
theorem OffRow.far (h : OffRow w base t v n xs) {p : Addr} (hp : v.ownBlock ≠ some p.block) (u : Value) : OffRow (w.setCell p u) base t v n xs :=
  h.same (k := 0) fun g hv => Below.heap_setCell w p u g (fun e => hp (by rw [hv, e]))
theorem OffRow.ne {b : Nat} {cs : Array Value} {t' : TypeId} (h : OffRow w base t v n xs) (hg : Bk w b t' cs) (hne : t ≠ t') : v.ownBlock ≠ some b := by
  rcases h.2 with ⟨rfl, _⟩ | ⟨g', off, cap, cur, rfl, _, hh, _⟩
  · simp [Value.ownBlock]
  · intro he
    have : g' = b := by simpa [Value.ownBlock] using he
    subst this
    unfold Bk at hg
    rw [hh] at hg
    injection hg with hg
    injection hg with _ ht
    exact hne ht
theorem OffRow.ne_own {base' : Nat} {e : TypeId} {size n' : Nat} {v' : Value} {xs' : List Value} (h : OffRow w base t v n xs) (h' : w.ownsRow base' e size v' n' xs') (hne : t ≠ e) : v'.ownBlock = none ∨ v'.ownBlock ≠ v.ownBlock := by
  rcases h'.2 with ⟨rfl, _⟩ | ⟨g', cap, cur, rfl, _, hh, _⟩
  · exact .inl rfl
  · right
    have := h.ne (cs := cur) hh hne
    intro e
    exact this e.symm
theorem OffRow.form (h : OffRow w base t v n xs) : ∃ A c, v = .slice A n c ∧ n ≤ c ∧ c ≤ maxLen ∧ v.oneCell' = true := by
  rcases h.2 with ⟨rfl, rfl⟩ | ⟨g, off, cap, cur, rfl, _, _, hnc, hcm, _⟩
  · exact ⟨none, 0, rfl, Nat.le_refl _, by simp [maxLen], rfl⟩
  · exact ⟨_, _, rfl, hnc, hcm, rfl⟩
theorem OffRow.at_ (h : OffRow w base t v n xs) (hn : 0 < n) : ∃ g off c, v = .slice (some ⟨g, off, none⟩) n c ∧ base ≤ g ∧ n ≤ c ∧ c ≤ maxLen ∧ ∀ j u, xs[j]? = some u → w.cell? ⟨g, off + j, none⟩ = some u := by
  rcases h.2 with ⟨_, h0⟩ | ⟨g, off, cap, cur, rfl, hb, hh, hnc, hcm, hcs, htk⟩
  · omega
  · refine ⟨g, off, cap, rfl, hb, hnc, hcm, fun j u hu => ?_⟩
    rw [cell_of_row w g (off + j) cur t (0, 0) hh]
    rw [← htk, List.getElem?_take] at hu
    split at hu
    · rw [List.getElem?_drop] at hu
      simpa using hu
    · cases hu
/-- without the first one -/
theorem OffRow.tail {g off cap m : Nat} {A : Option Addr} (h : OffRow w base t (.slice (some ⟨g, off, none⟩) (m + 1) cap) (m + 1) xs) : OffRow w base t (.slice (some ⟨g, off + 1, none⟩) m (cap - 1)) m xs.tail := by
  rcases h.2 with ⟨hv, _⟩ | ⟨g', off', cap', cur, hv, hb, hh, hnc, hcm, hcs, htk⟩
  · cases hv
  · injection hv with e1 _ e3
    injection e1 with e1
    injection e1 with e1 e2
    subst e1 e2 e3
    refine ⟨by rw [List.length_tail, h.1]; rfl, .inr ⟨g, off + 1, cap - 1, cur, rfl, hb, hh, by omega, by omega, by omega, ?_⟩⟩
    rw [← htk, ← List.drop_one, List.drop_take, List.drop_drop, Nat.add_sub_cancel]
end

/-- append of one value to such a row -/
theorem run_append_off {P : Program} (w : World) (t ty e : TypeId) (base : Nat) (i : TypeInfo) (z : Value) (bytes : Nat) (ht : P.underlying t = some (.slice e)) (hi : P.info? e = some i) (hz : i.zero = some z)
    (hsize : i.size = 1) (hby : i.bytes = bytes) (hzs : z.cells.size = 1)
    (v : Value) (n : Nat) (xs : List Value) (hown : OffRow w base e v n xs)
    (ad : Addr) (c : Nat) (u : Value) (hu : w.cell? ad = some u) (h1 : u.oneCell' = true)
    (h63 : n + 1 ≤ maxLen) (hbytes : (n + 1) * bytes ≤ 140737488355328) (hbase : base ≤ w.heap.size) (H : Nat) (hH : w.heap.size = H) :
    ∃ g off cap w', (Builtin.append_ #[t, t] ty #[v, .slice (some ad) 1 c]).run P w = .ok (.slice (some ⟨g, off, none⟩) (n + 1) cap) w' ∧
      OffRow w' base e (.slice (some ⟨g, off, none⟩) (n + 1) cap) (n + 1) (xs ++ [u]) ∧ w.grownBy w' v.ownBlock ∧ (v.ownBlock = some g ∨ g = H) ∧ g < w'.heap.size := by
  subst hby hH
  have hsmall : n + 1 ≤ 9223372036854775807 := by simp only [maxLen] at h63; omega
  have hnews : ∀ j x, [u][j]? = some x → w.cell? (ad.add j) = some x := by
    intro j x hj
    rcases j with _ | j
    · simp only [List.getElem?_cons_zero, Option.some.injEq] at hj
      subst hj
      simpa [Addr.add] using hu
    · simp at hj
  have hxl : xs.length = n := hown.1
  have grown : ∀ (old : Nat), old < n + 1 → ∀ (row : Option Nat),
      OffRow (w.drew.alloc (.cells (xs.toArray ++ [u].toArray ++ Builtin.zeroCells z.cells (grownCap w (n + 1) old e - (n + 1))) e)) base e
        (.slice (some ⟨w.heap.size, 0, none⟩) (n + 1) (grownCap w (n + 1) old e)) (n + 1) (xs ++ [u]) ∧
      w.grownBy (w.drew.alloc (.cells (xs.toArray ++ [u].toArray ++ Builtin.zeroCells z.cells (grownCap w (n + 1) old e - (n + 1))) e)) row := by
    intro old ho row
    have hge := grownCap_ge w (n + 1) old e
    have hcm : grownCap w (n + 1) old e ≤ maxLen := grownCap_le_maxLen w (n + 1) old e h63
    refine ⟨⟨by simp [hxl], .inr ⟨w.heap.size, 0, _, _, rfl, hbase, heap_alloc_new w.drew _, hge, hcm, ?_, ?_⟩⟩, ⟨rfl, rfl, rfl, by simp, fun k hk _ => Below.heap_alloc w.drew _ k hk⟩⟩
    · simp only [Array.size_append, List.size_toArray, size_zeroCells, hzs, hxl, List.length_cons, List.length_nil]
      omega
    · simp only [List.drop_zero, Array.toList_append, List.append_assoc]
      rw [← List.append_assoc]
      have : n + 1 = (xs ++ [u]).length := by simp [hxl]
      rw [this]
      exact List.take_left
  rcases hown.2 with ⟨rfl, rfl⟩ | ⟨g, off, cap, cur, rfl, hbg, hg, hnc, hcm, hcs, htake⟩
  · have hx : xs = [] := List.eq_nil_of_length_eq_zero hxl
    subst hx
    have hr := run_append_nil (P := P) w t ty e i z ht hi hz ad 1 c [u] (by simp [hsize]) hnews (by omega) (by omega) (by have hb := hbytes; simp only [Nat.zero_add] at hb; omega)
    have hgr := grown 0 (by omega) (Value.ownBlock (.slice none 0 0))
    simp only [Nat.zero_add, List.nil_append, Array.empty_append] at hgr ⊢
    exact ⟨_, 0, _, _, hr, hgr.1, hgr.2, .inr rfl, by simp⟩
  · have hadd : (⟨g, off, none⟩ : Addr).add n = ⟨g, off + n, none⟩ := by unfold Addr.add; split <;> simp_all
    by_cases hroom : n + 1 ≤ cap
    · have hf := run_firstCells_some (P := P) w i.size 1 ad 1 c [u] (by simp [hsize]) hnews
      have hst := run_storeCells_at P g (off + n) e [u] 0 cur w hg (by simp; omega) (by simpa using h1)
      simp only [Nat.add_zero] at hst
      have hr : (Builtin.append_ #[t, t] ty #[.slice (some ⟨g, off, none⟩) n cap, .slice (some ad) 1 c]).run P w =
          .ok (.slice (some ⟨g, off, none⟩) (n + 1) cap) (w.setRow g (cur.toList.take (off + n) ++ [u] ++ cur.toList.drop (off + n + 1)).toArray) := by
        simp [Builtin.append_, run_underlying ht, sizeOf, typeInfo, hi, hsize, Builtin.lenOf, hroom, hadd]
        rw [hsize] at hf
        simp [hf, hst]
      refine ⟨g, off, cap, _, hr, ⟨by simp [hxl], .inr ⟨g, off, cap, _, rfl, hbg, setRow_heap w g cur _ e _ hg, hroom, hcm, ?_, ?_⟩⟩, ⟨rfl, rfl, rfl, by simp, fun k _ hk => setRow_other w g k _ (fun e => hk (by simp [Value.ownBlock, e]))⟩, .inl rfl, ?_⟩
      · simp; omega
      · have hto : cur.toList.take (off + n) = cur.toList.take off ++ xs := by
          rw [← htake, List.take_add]
        simp only [List.append_assoc]
        rw [hto, List.append_assoc]
        have hl : (cur.toList.take off).length = off := by simp; omega
        rw [List.drop_append_of_le_length (by omega), List.drop_eq_nil_of_le (by omega), List.nil_append, ← List.append_assoc]
        have : n + 1 = (xs ++ [u]).length := by simp [hxl]
        rw [this]
        exact List.take_left
      · have := (Array.getElem?_eq_some_iff.1 hg).1
        simp; exact this
    · have holds : ∀ j x, xs[j]? = some x → w.cell? ((⟨g, off, none⟩ : Addr).add j) = some x := by
        intro j x hj
        have hadj : (⟨g, off, none⟩ : Addr).add j = ⟨g, off + j, none⟩ := by unfold Addr.add; split <;> simp_all
        rw [hadj, cell_of_row w g (off + j) cur e (0, 0) hg]
        rw [← htake, List.getElem?_take] at hj
        split at hj
        · rw [List.getElem?_drop] at hj; simpa using hj
        · cases hj
      have hr := run_append_grow (P := P) w t ty e i z ht hi hz ⟨g, off, none⟩ n cap xs (by rw [hsize, hxl, Nat.mul_one]) holds ad 1 c [u] (by simp [hsize]) hnews (by omega) (by omega) (growslice_fits (by omega) hbytes)
      have hgr := grown cap (by omega) (Value.ownBlock (.slice (some ⟨g, off, none⟩) n cap))
      exact ⟨_, 0, _, _, hr, hgr.1, hgr.2, .inr rfl, by simp⟩
theorem wp_append_off {P : Program} {w : World} {o : Oper} {a : Act} {K : Act → World → Prop} {Q : Exit → Act → World → Prop} (s x : Operand) (t : TypeId)
    (ho : o.op = .call { callee := .builtin .append, args := #[s, x], argTypes := #[t, t] })
    (base : Nat) (e : TypeId) (i : TypeInfo) (z : Value) (bytes : Nat) (ht : P.underlying t = some (.slice e)) (hi : P.info? e = some i) (hz : i.zero = some z)
    (hsize : i.size = 1) (hby : i.bytes = bytes) (hzs : z.cells.size = 1)
    (v : Value) (n : Nat) (xs : List Value) (hs : a.eval s = v) (hown : OffRow w base e v n xs)
    (ad : Addr) (c : Nat) (u : Value) (hx : a.eval x = .slice (some ad) 1 c) (hu : w.cell? ad = some u) (h1 : u.oneCell' = true)
    (h63 : n + 1 ≤ maxLen) (hbytes : (n + 1) * bytes ≤ 140737488355328) (hbase : base ≤ w.heap.size) (H : Nat) (hH : w.heap.size = H)
    (h : ∀ g off cap w', OffRow w' base e (.slice (some ⟨g, off, none⟩) (n + 1) cap) (n + 1) (xs ++ [u]) → w.grownBy w' v.ownBlock → (v.ownBlock = some g ∨ g = H) → g < w'.heap.size → K (a.put o.dst (.slice (some ⟨g, off, none⟩) (n + 1) cap)) w') : o.wp P a w K Q := by
  obtain ⟨g, off, cap, w', hr, h2, h3, h4, h5⟩ := run_append_off (P := P) w t o.type e base i z bytes ht hi hz hsize hby hzs v n xs hown ad c u hu h1 h63 hbytes hbase H hH
  unfold Oper.wp execOp
  simp only [ho, resolve, invoke, builtin, Sem.run_bind, Sem.run_pure, Result.andThen_ok, List.map_toArray, List.map_cons, List.map_nil, hs, hx, hr]
  exact h g off cap w' h2 h3 h4 h5
theorem wpList_append_off {P : Program} {w : World} {ops : Array Oper} {rest : List Oper} {o : Oper} {a : Act} {Q : Exit → Act → World → Prop} (hgd : o.guard = none) (s x : Operand) (t : TypeId)
    (ho : o.op = .call { callee := .builtin .append, args := #[s, x], argTypes := #[t, t] })
    (base : Nat) (e : TypeId) (i : TypeInfo) (z : Value) (bytes : Nat) (ht : P.underlying t = some (.slice e)) (hi : P.info? e = some i) (hz : i.zero = some z)
    (hsize : i.size = 1) (hby : i.bytes = bytes) (hzs : z.cells.size = 1)
    (v : Value) (n : Nat) (xs : List Value) (hs : a.eval s = v) (hown : OffRow w base e v n xs)
    (ad : Addr) (c : Nat) (u : Value) (hx : a.eval x = .slice (some ad) 1 c) (hu : w.cell? ad = some u) (h1 : u.oneCell' = true)
    (h63 : n + 1 ≤ maxLen) (hbytes : (n + 1) * bytes ≤ 140737488355328) (hbase : base ≤ w.heap.size) (H : Nat) (hH : w.heap.size = H)
    (h : ∀ g off cap w', OffRow w' base e (.slice (some ⟨g, off, none⟩) (n + 1) cap) (n + 1) (xs ++ [u]) → w.grownBy w' v.ownBlock → (v.ownBlock = some g ∨ g = H) → g < w'.heap.size → wpList P ops Q rest (a.put o.dst (.slice (some ⟨g, off, none⟩) (n + 1) cap)) w') : wpList P ops Q (o :: rest) a w :=
  wpList_plain hgd fun _ hK => wp_append_off s x t ho base e i z bytes ht hi hz hsize hby hzs v n xs hs hown ad c u hx hu h1 h63 hbytes hbase H hH fun g off cap w' h2 h3 h4 h5 => hK _ _ (h g off cap w' h2 h3 h4 h5)
theorem step_append_off {P : Program} {w : World} {ops : Array Oper} {o : Oper} {a : Act} {K : Act → World → Prop} {Q : Exit → Act → World → Prop} {E : Prop} (hgd : o.guard = none) (s x : Operand) (t : TypeId)
    (ho : o.op = .call { callee := .builtin .append, args := #[s, x], argTypes := #[t, t] })
    (base : Nat) (e : TypeId) (i : TypeInfo) (z : Value) (bytes : Nat) (ht : P.underlying t = some (.slice e)) (hi : P.info? e = some i) (hz : i.zero = some z)
    (hsize : i.size = 1) (hby : i.bytes = bytes) (hzs : z.cells.size = 1)
    (v : Value) (n : Nat) (xs : List Value) (hs : a.eval s = v) (hown : OffRow w base e v n xs)
    (ad : Addr) (c : Nat) (u : Value) (hx : a.eval x = .slice (some ad) 1 c) (hu : w.cell? ad = some u) (h1 : u.oneCell' = true)
    (h63 : n + 1 ≤ maxLen) (hbytes : (n + 1) * bytes ≤ 140737488355328) (hbase : base ≤ w.heap.size) (H : Nat) (hH : w.heap.size = H)
    (h : ∀ g off cap w', OffRow w' base e (.slice (some ⟨g, off, none⟩) (n + 1) cap) (n + 1) (xs ++ [u]) → w.grownBy w' v.ownBlock → (v.ownBlock = some g ∨ g = H) → g < w'.heap.size → K (a.put o.dst (.slice (some ⟨g, off, none⟩) (n + 1) cap)) w') :
    if Region.wanted o (yielded ops a.tmps) = true then Oper.wp P o a w K Q else E := by
  have hw : Region.wanted o (yielded ops a.tmps) = true := by simp [Region.wanted, hgd]
  rw [if_pos hw]
  exact wp_append_off s x t ho base e i z bytes ht hi hz hsize hby hzs v n xs hs hown ad c u hx hu h1 h63 hbytes hbase H hH h

/-- 'append([]T(nil), l...)' of an owned list of elements of any size: an own copy -/
theorem step_copyG {P : Program} {w : World} {ops : Array Oper} {o : Oper} {a : Act} {K : Act → World → Prop} {Q : Exit → Act → World → Prop} {E : Prop} (hgd : o.guard = none) (s x : Operand) (t : TypeId)
    (ho : o.op = .call { callee := .builtin .append, args := #[s, x], argTypes := #[t, t] })
    (base : Nat) (e : TypeId) (i : TypeInfo) (z : Value) (sz bytes : Nat) (ht : P.underlying t = some (.slice e)) (hi : P.info? e = some i) (hz : i.zero = some z)
    (hsize : i.size = sz) (hby : i.bytes = bytes) (hzs : z.cells.size = sz) (hpos : 0 < sz) (hs : a.eval s = .slice none 0 0)
    (A : Option Addr) (n c : Nat) (xs : List Value) (hx : a.eval x = .slice A n c) (hown : w.ownsRow base e sz (.slice A n c) n xs) (h1 : ∀ u ∈ xs, u.oneCell' = true)
    (h63 : n ≤ maxLen) (hbytes : n * bytes ≤ 140737488355328) (hbase : base ≤ w.heap.size)
    (h : ∀ A' c' w', w'.ownsRow base e sz (.slice A' n c') n xs → w.grownBy w' (Value.slice none 0 0).ownBlock → (∀ g, (Value.slice A' n c').ownBlock = some g → g = w.heap.size) → K (a.put o.dst (.slice A' n c')) w') :
    if Region.wanted o (yielded ops a.tmps) = true then Oper.wp P o a w K Q else E := by
  have hw : Region.wanted o (yielded ops a.tmps) = true := by simp [Region.wanted, hgd]
  rw [if_pos hw]
  have hrun : ∃ u w', (Builtin.append_ #[t, t] o.type #[.slice none 0 0, .slice A n c]).run P w = .ok u w' ∧ w'.ownsRow base e sz u n xs ∧ w.grownBy w' (Value.slice none 0 0).ownBlock ∧ (∀ g, u.ownBlock = some g → g = w.heap.size) := by
    rcases hown.2 with ⟨hv, h0⟩ | ⟨g, cap, cur, hv, hb, hh, hnc, hcm, hcs, htk⟩
    · subst h0
      injection hv with e1 _ e3
      subst e1 e3
      have hxs : xs = [] := List.eq_nil_of_length_eq_zero (by simpa using hown.1)
      subst hxs
      exact ⟨.slice none 0 0, w, run_append_owned_none (P := P) (w := w) base t o.type e i sz ht hi (.slice none 0 0) 0 [] (World.ownsRow_nil _ _ _ _), World.ownsRow_nil _ _ _ _, World.grownBy.refl w _, by simp [Value.ownBlock]⟩
    · injection hv with e1 _ e3
      subst e1 e3
      obtain ⟨v', w', r1, r2, r3, _, r5⟩ := run_append_own_at (P := P) w base t o.type e i z sz bytes ht hi hz hsize hby hzs hpos (.slice none 0 0) 0 [] (World.ownsRow_nil _ _ _ _) ⟨g, 0, none⟩ n c xs hown.1
        (hown.cells rfl) h1 (by omega) (by rw [Nat.zero_add]; exact hbytes) hbase
      rw [Nat.zero_add, List.nil_append] at r2
      refine ⟨v', w', r1, r2, r3, fun k hk => ?_⟩
      rcases r5 with r5 | r5
      · rw [r5] at hk; simp [Value.ownBlock] at hk
      · rw [r5] at hk; injection hk with hk; exact hk.symm
  obtain ⟨u, w', hr, h2, h3, h4⟩ := hrun
  obtain ⟨A', c', rfl, _, _⟩ := own_slice h2
  unfold Oper.wp execOp
  simp only [ho, resolve, invoke, builtin, Sem.run_bind, Sem.run_pure, Result.andThen_ok, List.map_toArray, List.map_cons, List.map_nil, hs, hx, hr]
  exact h A' c' w' h2 h3 h4
end Go.Proofs.Fg
namespace Go.Proofs.Fg
set_option linter.unusedVariables false
open Go.RowKit Go.Proofs.Fm Go.Proofs.Fb

/-- one list that was kept: its value and its cells -/
abbrev KeptG := Value × List Value
def valsG (l : List KeptG) : List Value := l.map (·.1)
/-- a list that is owned, its cells as G says -/
def OwnG (G : List Value → Prop) (w : World) (base : Nat) (tE : TypeId) (sz : Nat) (p : KeptG) : Prop := (∃ n, w.ownsRow base tE sz p.1 n p.2) ∧ G p.2
theorem OwnG.map {G : List Value → Prop} {w w' : World} {base : Nat} {tE : TypeId} {sz : Nat} {p : KeptG} (h : OwnG G w base tE sz p) (f : ∀ v n xs, w.ownsRow base tE sz v n xs → w'.ownsRow base tE sz v n xs) : OwnG G w' base tE sz p := by
  obtain ⟨⟨n, hn⟩, h1⟩ := h
  exact ⟨⟨n, f _ _ _ hn⟩, h1⟩
theorem OwnG.form {G : List Value → Prop} {w : World} {base : Nat} {tE : TypeId} {sz : Nat} {p : KeptG} (h : OwnG G w base tE sz p) : ∃ A n c, p.1 = .slice A n c ∧ n ≤ c ∧ c ≤ maxLen ∧ p.1.oneCell' = true ∧ p.2.length = n * sz ∧ w.ownsRow base tE sz p.1 n p.2 := by
  obtain ⟨⟨n, hn⟩, h1⟩ := h
  have hl := hn.1
  rcases hn.2 with ⟨hv, h0⟩ | ⟨g, cap, cur, hv, hb, hh, hnc, hcm, hcs, htk⟩
  · exact ⟨none, 0, 0, hv, Nat.le_refl _, by simp [maxLen], by rw [hv]; rfl, by rw [hl, h0], by subst h0; exact hn⟩
  · exact ⟨_, n, cap, hv, hnc, hcm, by rw [hv]; rfl, hl, hn⟩
/-- a book at block bk: its two rows; all lists as they were; those that were kept apart from one another -/
structure BookW (G : List Value → Prop) (w : World) (base bk : Nat) (tE : TypeId) (sz : Nat) (tS tB : TypeId) (v1 v2 : Value) (h : Int) (vs us : List KeptG) : Prop where
  blk : Bk w bk tB #[v1, v2, .int .i64 h, .bool false]
  hbase : base ≤ bk
  o1 : OffRow w base tS v1 vs.length (valsG vs)
  o2 : OffRow w base tS v2 us.length (valsG us)
  ne : v1.ownBlock = none ∨ v1.ownBlock ≠ v2.ownBlock
  k1 : ∀ p ∈ vs, OwnG G w base tE sz p
  k2 : ∀ p ∈ us, OwnG G w base tE sz p
  same : us.map (·.2) = vs.map (·.2)
  apart : vs.Pairwise (fun p q => p.1.ownBlock = none ∨ p.1.ownBlock ≠ q.1.ownBlock)
section
variable {G : List Value → Prop} {w W : World} {base bk : Nat} {tE tS tB : TypeId} {sz : Nat} {v1 v2 : Value} {h : Int} {vs us : List KeptG}
theorem BookW.drewN (H : BookW G w base bk tE sz tS tB v1 v2 h vs us) (q : Nat) : BookW G (w.drewN q) base bk tE sz tS tB v1 v2 h vs us :=
  ⟨H.blk.drewN q, H.hbase, H.o1.drewN q, H.o2.drewN q, H.ne, H.k1, H.k2, H.same, H.apart⟩
/-- a cell of the book's own block that is set leaves all lists alone -/
theorem BookW.own_set (H : BookW G w base bk tE sz tS tB v1 v2 h vs us) (d2 : tE ≠ tB) (i : Nat) (u : Value) : ∀ v n xs, w.ownsRow base tE sz v n xs → (w.setCell ⟨bk, i, none⟩ u).ownsRow base tE sz v n xs := fun v n xs ho =>
  ownsRow_setCell_other ho (own_ne ho H.blk d2) u
theorem BookW.off_set (H : BookW G w base bk tE sz tS tB v1 v2 h vs us) (d3 : tS ≠ tB) (i : Nat) (u : Value) {v : Value} {n : Nat} {xs : List Value} (ho : OffRow w base tS v n xs) : OffRow (w.setCell ⟨bk, i, none⟩ u) base tS v n xs :=
  ho.far (ho.ne H.blk d3) u
theorem BookW.bad (H : BookW G w base bk tE sz tS tB v1 v2 h vs us) (d2 : tE ≠ tB) (d3 : tS ≠ tB) : BookW G (w.setCell ⟨bk, 3, none⟩ (.bool false)) base bk tE sz tS tB v1 v2 h vs us :=
  ⟨by have := H.blk.set_ 3 (.bool false); simpa using this, H.hbase, H.off_set d3 3 _ H.o1, H.off_set d3 3 _ H.o2, H.ne, fun p hp => (H.k1 p hp).map (H.own_set d2 3 _), fun p hp => (H.k2 p hp).map (H.own_set d2 3 _), H.same, H.apart⟩
theorem BookW.held (H : BookW G w base bk tE sz tS tB v1 v2 h vs us) (d2 : tE ≠ tB) (d3 : tS ≠ tB) (h' : Int) : BookW G (w.setCell ⟨bk, 2, none⟩ (.int .i64 h')) base bk tE sz tS tB v1 v2 h' vs us :=
  ⟨by have := H.blk.set_ 2 (.int .i64 h'); simpa using this, H.hbase, H.off_set d3 2 _ H.o1, H.off_set d3 2 _ H.o2, H.ne, fun p hp => (H.k1 p hp).map (H.own_set d2 2 _), fun p hp => (H.k2 p hp).map (H.own_set d2 2 _), H.same, H.apart⟩
/-- the first list and its copy are let go -/
theorem BookW.trim {g1 f1 c1 g2 f2 c2 : Nat} {p q : KeptG} (H : BookW G w base bk tE sz tS tB (.slice (some ⟨g1, f1, none⟩) (vs.length + 1) c1) (.slice (some ⟨g2, f2, none⟩) (us.length + 1) c2) h (p :: vs) (q :: us)) (d2 : tE ≠ tB) (d3 : tS ≠ tB) :
    BookW G ((w.setCell ⟨bk, 0, none⟩ (.slice (some ⟨g1, f1 + 1, none⟩) vs.length (c1 - 1))).setCell ⟨bk, 1, none⟩ (.slice (some ⟨g2, f2 + 1, none⟩) us.length (c2 - 1))) base bk tE sz tS tB
      (.slice (some ⟨g1, f1 + 1, none⟩) vs.length (c1 - 1)) (.slice (some ⟨g2, f2 + 1, none⟩) us.length (c2 - 1)) h vs us := by
  have b1 := H.blk.set_ 0 (.slice (some ⟨g1, f1 + 1, none⟩) vs.length (c1 - 1))
  have b2 := b1.set_ 1 (.slice (some ⟨g2, f2 + 1, none⟩) us.length (c2 - 1))
  have t1 : OffRow w base tS (.slice (some ⟨g1, f1 + 1, none⟩) vs.length (c1 - 1)) vs.length (valsG vs) := (show OffRow w base tS (.slice (some ⟨g1, f1, none⟩) (vs.length + 1) c1) (vs.length + 1) (valsG (p :: vs)) from H.o1).tail (A := none)
  have t2 : OffRow w base tS (.slice (some ⟨g2, f2 + 1, none⟩) us.length (c2 - 1)) us.length (valsG us) := (show OffRow w base tS (.slice (some ⟨g2, f2, none⟩) (us.length + 1) c2) (us.length + 1) (valsG (q :: us)) from H.o2).tail (A := none)
  have e1 := H.off_set d3 0 (.slice (some ⟨g1, f1 + 1, none⟩) vs.length (c1 - 1)) t1
  have e2 := H.off_set d3 0 (.slice (some ⟨g1, f1 + 1, none⟩) vs.length (c1 - 1)) t2
  refine ⟨by simpa using b2, H.hbase, e1.far (e1.ne b1 d3) _, e2.far (e2.ne b1 d3) _, ?_, ?_, ?_, ?_, ?_⟩
  · have := H.ne; simpa [Value.ownBlock] using this
  · intro x hx
    exact ((H.k1 x (by simp [hx])).map (H.own_set d2 0 _)).map fun v n xs ho => ownsRow_setCell_other ho (own_ne ho b1 d2) _
  · intro x hx
    exact ((H.k2 x (by simp [hx])).map (H.own_set d2 0 _)).map fun v n xs ho => ownsRow_setCell_other ho (own_ne ho b1 d2) _
  · have := H.same; simpa using (List.cons.inj (by simpa using this)).2
  · exact (List.pairwise_cons.1 H.apart).2
theorem BookW.drew (H : BookW G w base bk tE sz tS tB v1 v2 h vs us) : BookW G w.drew base bk tE sz tS tB v1 v2 h vs us := H.drewN 1
/-- the first list and its copy are let go, and what is held is reckoned anew -/
theorem BookW.trim_end {g1 f1 c1 g2 f2 c2 : Nat} (H : BookW G w base bk tE sz tS tB (.slice (some ⟨g1, f1, none⟩) vs.length c1) (.slice (some ⟨g2, f2, none⟩) us.length c2) h vs us) (d2 : tE ≠ tB) (d3 : tS ≠ tB) (h1 : 0 < vs.length) (hul : us.length = vs.length) (X : Int) :
    ∃ vs' us', BookW G (((w.setCell ⟨bk, 2, none⟩ (.int .i64 X)).setCell ⟨bk, 0, none⟩ (.slice (some ⟨g1, f1 + 1, none⟩) (vs.length - 1) (c1 - 1))).setCell ⟨bk, 1, none⟩ (.slice (some ⟨g2, f2 + 1, none⟩) (vs.length - 1) (c2 - 1))) base bk tE sz tS tB
      (.slice (some ⟨g1, f1 + 1, none⟩) (vs.length - 1) (c1 - 1)) (.slice (some ⟨g2, f2 + 1, none⟩) (vs.length - 1) (c2 - 1)) X vs' us' ∧ vs'.length = vs.length - 1 ∧ ∀ x ∈ vs', x ∈ vs := by
  rcases vs with _ | ⟨p, vs⟩
  · simp at h1
  · rcases us with _ | ⟨q, us⟩
    · simp at hul
    · have hl : us.length = vs.length := by simpa using hul
      have := (H.held d2 d3 X).trim d2 d3
      rw [hl] at this
      refine ⟨vs, us, ?_, by simp, fun x hx => by simp [hx]⟩
      simpa using this
theorem lensAt_of {A : Option Addr} {n c : Nat} (H : BookW G w base bk tE sz tS tB (.slice A n c) v2 h vs us) : w.cell? ⟨bk, 0, none⟩ = some (.slice A n c) := by
  rw [H.blk.cell]; rfl
/-- in a world that has only grown -/
theorem BookW.below (H : BookW G w base bk tE sz tS tB v1 v2 h vs us) (hb : Below w.heap.size w W) : BookW G W base bk tE sz tS tB v1 v2 h vs us := by
  have hg : w.grownBy W none := ⟨hb.os, hb.tape, hb.output, hb.size, fun k hk _ => hb.block k hk⟩
  have hn : ∀ v : Value, v.ownBlock = none ∨ v.ownBlock ≠ none := fun v => by rcases v.ownBlock with _ | _ <;> simp
  exact ⟨H.blk.grown hg (by simp), H.hbase, H.o1.kept hg (hn _), H.o2.kept hg (hn _), H.ne, fun p hp => (H.k1 p hp).map fun v n xs ho => ho.kept hg (hn _), fun p hp => (H.k2 p hp).map fun v n xs ho => ho.kept hg (hn _), H.same, H.apart⟩
theorem bookW_new (G : List Value → Prop) (w : World) (tE : TypeId) (sz : Nat) (tS tB : TypeId) : BookW G (w.alloc (.cells #[.slice none 0 0, .slice none 0 0, .int .i64 0, .bool false] tB)) w.heap.size w.heap.size tE sz tS tB (.slice none 0 0) (.slice none 0 0) 0 [] [] :=
  ⟨heap_alloc_new w _, Nat.le_refl _, OffRow.nil _ _ _, OffRow.nil _ _ _, .inl rfl, by simp, by simp, rfl, List.Pairwise.nil⟩

/-- rows of other elements than the book's own stay as they were -/
def Old (w W : World) (base : Nat) (tS tB : TypeId) : Prop := ∀ (e : TypeId) (size : Nat) (v : Value) (n : Nat) (xs : List Value), e ≠ tS → e ≠ tB → w.ownsRow base e size v n xs → W.ownsRow base e size v n xs
theorem Old.refl (w : World) (base : Nat) (tS tB : TypeId) : Old w w base tS tB := fun _ _ _ _ _ _ _ h => h
theorem Old.trans {w W W' : World} {base : Nat} {tS tB : TypeId} (h : Old w W base tS tB) (h' : Old W W' base tS tB) : Old w W' base tS tB := fun e z v n xs h1 h2 ho => h' e z v n xs h1 h2 (h e z v n xs h1 h2 ho)
theorem Old.drewN {w W : World} {base : Nat} {tS tB : TypeId} (h : Old w W base tS tB) (q : Nat) : Old w (W.drewN q) base tS tB := h
theorem Old.drew {w W : World} {base : Nat} {tS tB : TypeId} (h : Old w W base tS tB) : Old w W.drew base tS tB := h
theorem Old.set_ {w W : World} {base bk : Nat} {tS tB : TypeId} {cs : Array Value} (h : Old w W base tS tB) (hb : Bk W bk tB cs) (i : Nat) (u : Value) : Old w (W.setCell ⟨bk, i, none⟩ u) base tS tB := fun e z v n xs h1 h2 ho => by
  have h3 := h e z v n xs h1 h2 ho
  exact ownsRow_setCell_other h3 (own_ne h3 hb h2) u
/-- the world behind the first statement of Keep: the list is in the first row -/
structure MidG (w W : World) (base bk : Nat) (tE : TypeId) (sz : Nat) (tS tB : TypeId) (v1 v2 : Value) (h : Int) (vs us : List KeptG) (g1 f1 cp1 : Nat) (v : Value) : Prop where
  blk : Bk W bk tB #[.slice (some ⟨g1, f1, none⟩) (vs.length + 1) cp1, v2, .int .i64 h, .bool false]
  o1 : OffRow W base tS (.slice (some ⟨g1, f1, none⟩) (vs.length + 1) cp1) (vs.length + 1) (valsG vs ++ [v])
  o2 : OffRow W base tS v2 us.length (valsG us)
  ne : v2.ownBlock ≠ some g1
  old : Old w W base tS tB
  bel : Below base w W
  hbk : base ≤ bk
theorem midG {w1 : World} {g1 f1 cp1 : Nat} {v : Value} (hB : BookW G w base bk tE sz tS tB v1 v2 h vs us) (d1 : tE ≠ tS) (d2 : tE ≠ tB) (d3 : tS ≠ tB)
    (hbk1 : Bk w1 bk tB #[v1, v2, .int .i64 h, .bool false]) (hown1 : OffRow w1 base tS (.slice (some ⟨g1, f1, none⟩) (vs.length + 1) cp1) (vs.length + 1) (valsG vs ++ [v]))
    (hgrow1 : (w.alloc (.cells #[v] tS)).grownBy w1 v1.ownBlock) (hat1 : v1.ownBlock = some g1 ∨ g1 = w.heap.size + 1) (hbase : base ≤ w.heap.size) :
    MidG w (w1.setCell ⟨bk, 0, none⟩ (.slice (some ⟨g1, f1, none⟩) (vs.length + 1) cp1)) base bk tE sz tS tB v1 v2 h vs us g1 f1 cp1 v where
  blk := by have := hbk1.set_ 0 (.slice (some ⟨g1, f1, none⟩) (vs.length + 1) cp1); simpa using this
  o1 := hown1.far (hown1.ne hbk1 d3) _
  o2 := by
    have h2 := (hB.o2.alloc (.cells #[v] tS)).kept hgrow1 (by
      rcases hB.ne with e | e
      · rw [e]; rcases v2.ownBlock with _ | _ <;> simp
      · exact .inr (Ne.symm e))
    exact h2.far (h2.ne hbk1 d3) _
  ne := by
    rcases hat1 with e | e
    · rcases hB.ne with h' | h'
      · rw [e] at h'; cases h'
      · rw [← e]; exact Ne.symm h'
    · intro e'
      have := hB.o2.lt _ e'
      omega
  old := fun e z v' n xs he1 he2 ho => by
    have h1 := (ho.alloc (.cells #[v] tS)).kept hgrow1 (hB.o1.ne_own ho (Ne.symm he1))
    exact ownsRow_setCell_other h1 (own_ne h1 hbk1 he2) _
  bel := by
    have h1 : Below base w w1 := ((Below.refl base w).alloc hbase _).grown hgrow1 (by simp; omega) (fun k hk => (hB.o1.lt k hk).1)
    exact h1.setCell (p := ⟨bk, 0, none⟩) hB.hbase _
  hbk := hB.hbase
/-- the world behind the second: the copy is in the second row, too -/
structure Mid2G (w W : World) (base bk : Nat) (tE : TypeId) (sz : Nat) (tS tB : TypeId) (h : Int) (vs us : List KeptG) (g1 f1 cp1 g2 f2 cp2 : Nat) (v u : Value) (xs : List Value) : Prop where
  blk : Bk W bk tB #[.slice (some ⟨g1, f1, none⟩) (vs.length + 1) cp1, .slice (some ⟨g2, f2, none⟩) (us.length + 1) cp2, .int .i64 h, .bool false]
  o1 : OffRow W base tS (.slice (some ⟨g1, f1, none⟩) (vs.length + 1) cp1) (vs.length + 1) (valsG vs ++ [v])
  o2 : OffRow W base tS (.slice (some ⟨g2, f2, none⟩) (us.length + 1) cp2) (us.length + 1) (valsG us ++ [u])
  ne : g1 ≠ g2
  old : Old w W base tS tB
  ku : ∃ n, W.ownsRow base tE sz u n xs
  bel : Below base w W
theorem mid2G {W2 w3 w4 : World} {g1 f1 cp1 g2 f2 cp2 n : Nat} {v u : Value} {xs : List Value} (d1 : tE ≠ tS) (d2 : tE ≠ tB) (d3 : tS ≠ tB)
    (M : MidG w W2 base bk tE sz tS tB v1 v2 h vs us g1 f1 cp1 v) (hbase : base ≤ w.heap.size)
    (hgrowu : W2.drew.grownBy w3 (Value.slice none 0 0).ownBlock) (hownu : w3.ownsRow base tE sz u n xs)
    (hgrow2 : (w3.alloc (.cells #[u] tS)).grownBy w4 v2.ownBlock)
    (hown2 : OffRow w4 base tS (.slice (some ⟨g2, f2, none⟩) (us.length + 1) cp2) (us.length + 1) (valsG us ++ [u]))
    (hat2 : v2.ownBlock = some g2 ∨ g2 = w3.heap.size + 1) :
    Mid2G w (w4.setCell ⟨bk, 1, none⟩ (.slice (some ⟨g2, f2, none⟩) (us.length + 1) cp2)) base bk tE sz tS tB h vs us g1 f1 cp1 g2 f2 cp2 v u xs := by
  have hnil : ∀ v' : Value, v'.ownBlock = none ∨ v'.ownBlock ≠ (Value.slice none 0 0).ownBlock := fun v' => by
    rcases e : v'.ownBlock with _ | _ <;> simp [Value.ownBlock]
  have b3 : Bk w3 bk tB _ := Bk.grown (w := W2.drew) M.blk hgrowu (by simp [Value.ownBlock])
  have o23 : OffRow w3 base tS v2 us.length (valsG us) := OffRow.kept (w := W2.drew) M.o2 hgrowu (hnil _)
  have hne2 : some bk ≠ v2.ownBlock := fun e => o23.ne b3 d3 e.symm
  have b4 : Bk w4 bk tB _ := (b3.alloc _).grown hgrow2 hne2
  have o13 : OffRow w3 base tS (.slice (some ⟨g1, f1, none⟩) (vs.length + 1) cp1) (vs.length + 1) (valsG vs ++ [v]) := OffRow.kept (w := W2.drew) M.o1 hgrowu (hnil _)
  have o14 := (o13.alloc (.cells #[u] tS)).kept hgrow2 (.inr (by simpa [Value.ownBlock] using Ne.symm M.ne))
  have g1lt : g1 < w3.heap.size := (o13.lt g1 rfl).2
  have old4 : Old w3 (w4.setCell ⟨bk, 1, none⟩ (.slice (some ⟨g2, f2, none⟩) (us.length + 1) cp2)) base tS tB := fun e z v' n' xs' he1 he2 ho => by
    have h1 := (ho.alloc (.cells #[u] tS)).kept hgrow2 (o23.ne_own ho (Ne.symm he1))
    exact ownsRow_setCell_other h1 (own_ne h1 b4 he2) _
  refine ⟨by have := b4.set_ 1 (.slice (some ⟨g2, f2, none⟩) (us.length + 1) cp2); simpa using this, o14.far (o14.ne b4 d3) _, hown2.far (hown2.ne b4 d3) _, ?_, ?_, ⟨n, old4 _ _ _ _ _ d1 d2 hownu⟩, ?_⟩
  · rcases hat2 with e | e
    · intro e'; subst e'; exact M.ne e
    · omega
  · intro e z v' n' xs' he1 he2 ho
    exact old4 _ _ _ _ _ he1 he2 (World.ownsRow.kept (w := W2.drew) (M.old _ _ _ _ _ he1 he2 ho) hgrowu (hnil _))
  · have hsz : base ≤ W2.heap.size := Nat.le_trans hbase M.bel.size
    have hsz3 : base ≤ w3.heap.size := Nat.le_trans hsz hgrowu.size
    have h3 : Below base w w3 := M.bel.drew.grown hgrowu hsz (fun k hk => by simp [Value.ownBlock] at hk)
    have h4 : Below base w w4 := (h3.alloc hsz3 _).grown hgrow2 (by simp; omega) (fun k hk => (o23.lt k hk).1)
    exact h4.setCell (p := ⟨bk, 1, none⟩) M.hbk _
/-- behind the third the book holds one list more -/
theorem endG {g1 f1 cp1 g2 f2 cp2 : Nat} {v u : Value} {xs : List Value} (hB : BookW G w base bk tE sz tS tB v1 v2 h vs us) (d1 : tE ≠ tS) (d2 : tE ≠ tB) (d3 : tS ≠ tB)
    (M : Mid2G w W base bk tE sz tS tB h vs us g1 f1 cp1 g2 f2 cp2 v u xs) (hv : OwnG G w base tE sz (v, xs)) (hd : ∀ p ∈ vs, p.1.ownBlock = none ∨ p.1.ownBlock ≠ v.ownBlock) (h' : Int) :
    BookW G (W.setCell ⟨bk, 2, none⟩ (.int .i64 h')) base bk tE sz tS tB (.slice (some ⟨g1, f1, none⟩) (vs.length + 1) cp1) (.slice (some ⟨g2, f2, none⟩) (us.length + 1) cp2) h' (vs ++ [(v, xs)]) (us ++ [(u, xs)]) ∧
      Below base w (W.setCell ⟨bk, 2, none⟩ (.int .i64 h')) ∧ Old w (W.setCell ⟨bk, 2, none⟩ (.int .i64 h')) base tS tB := by
  have hs : ∀ v n xs, W.ownsRow base tE sz v n xs → (W.setCell ⟨bk, 2, none⟩ (.int .i64 h')).ownsRow base tE sz v n xs := fun v n xs ho => ownsRow_setCell_other ho (own_ne ho M.blk d2) _
  refine ⟨⟨by have := M.blk.set_ 2 (.int .i64 h'); simpa using this, hB.hbase, ?_, ?_, ?_, ?_, ?_, ?_, ?_⟩, M.bel.setCell (p := ⟨bk, 2, none⟩) hB.hbase _, M.old.set_ M.blk 2 _⟩
  · have := M.o1.far (M.o1.ne M.blk d3) (p := ⟨bk, 2, none⟩) (.int .i64 h')
    simpa [valsG] using this
  · have := M.o2.far (M.o2.ne M.blk d3) (p := ⟨bk, 2, none⟩) (.int .i64 h')
    simpa [valsG] using this
  · right; simpa [Value.ownBlock] using M.ne
  · intro p hp
    rcases List.mem_append.1 hp with hp | hp
    · exact ((hB.k1 p hp).map (fun v n xs => M.old _ _ v n xs d1 d2)).map hs
    · rw [List.mem_singleton.1 hp]; exact (hv.map (fun v n xs => M.old _ _ v n xs d1 d2)).map hs
  · intro p hp
    rcases List.mem_append.1 hp with hp | hp
    · exact ((hB.k2 p hp).map (fun v n xs => M.old _ _ v n xs d1 d2)).map hs
    · rw [List.mem_singleton.1 hp]
      obtain ⟨n, hn⟩ := M.ku
      exact ⟨⟨n, hs _ _ _ hn⟩, hv.2⟩
  · simp [hB.same]
  · rw [List.pairwise_append]
    refine ⟨hB.apart, by simp, fun p hp q hq => ?_⟩
    rw [List.mem_singleton.1 hq]
    exact hd p hp
/-- a pair of lists of one number, and where their slices are kept -/
theorem BookW.pair (H : BookW G w base bk tE sz tS tB v1 v2 h vs us) (hsz : 0 < sz) {i : Nat} (hi : i < vs.length) : ∃ A n c A' c' xs, (valsG vs)[i]? = some (.slice A n c) ∧ (valsG us)[i]? = some (.slice A' n c') ∧ xs.length = n * sz ∧ n ≤ c ∧ c ≤ maxLen ∧
    w.ownsRow base tE sz (.slice A n c) n xs ∧ w.ownsRow base tE sz (.slice A' n c') n xs ∧ G xs ∧ vs[i]? = some (.slice A n c, xs) := by
  have hul : us.length = vs.length := by have := congrArg List.length H.same; simpa using this
  have h1 := List.getElem_mem hi
  have h2 := List.getElem_mem (show i < us.length by omega)
  obtain ⟨A, n, c, e1, hnc, hcm, _, hl, ho⟩ := (H.k1 _ h1).form
  obtain ⟨A', n', c', e2, _, _, _, hl', ho'⟩ := (H.k2 _ h2).form
  have hs : us[i].2 = vs[i].2 := by
    have := congrArg (fun l => l[i]?) H.same
    simp [hi, show i < us.length by omega] at this
    exact this
  have hone := (H.k1 _ h1).2
  generalize hx1 : vs[i] = x1 at *
  generalize hx2 : us[i] = x2 at *
  obtain ⟨a1, b1⟩ := x1
  obtain ⟨a2, b2⟩ := x2
  simp only at e1 e2 hs ho ho' hl hl' hone
  subst e1 e2 hs
  obtain rfl : n' = n := Nat.eq_of_mul_eq_mul_right hsz (by omega)
  exact ⟨A, n', c, A', c', b2, by simp [valsG, hi, hx1], by simp [valsG, show i < us.length by omega, hx2], hl, hnc, hcm, ho, ho', hone, by rw [List.getElem?_eq_getElem hi, hx1]⟩
end
theorem heldS {wr : World} {tB : TypeId} {bk g1 f1 g2 f2 x1 x2 l1 l2 m1 m2 n c n' c' : Nat} {A A' : Option Addr} {held : Int} (hb : Bk wr bk tB #[.slice (some ⟨g1, f1, none⟩) l1 m1, .slice (some ⟨g2, f2, none⟩) l2 m2, .int .i64 held, .bool false]) (n1 : g1 ≠ bk) (n2 : g2 ≠ bk)
    (k1 : wr.cell? ⟨g1, x1, none⟩ = some (.slice A n c)) (k2 : wr.cell? ⟨g2, x2, none⟩ = some (.slice A' n' c')) (q : Nat) :
    ((wr.drewN q).setCell ⟨bk, 3, none⟩ (.bool false)).cell? ⟨bk, 0, none⟩ = some (.slice (some ⟨g1, f1, none⟩) l1 m1) ∧ ((wr.drewN q).setCell ⟨bk, 3, none⟩ (.bool false)).cell? ⟨bk, 1, none⟩ = some (.slice (some ⟨g2, f2, none⟩) l2 m2) ∧
      ((wr.drewN q).setCell ⟨bk, 3, none⟩ (.bool false)).cell? ⟨bk, 3, none⟩ = some (.bool false) ∧ ((wr.drewN q).setCell ⟨bk, 3, none⟩ (.bool false)).cell? ⟨g1, x1, none⟩ = some (.slice A n c) ∧
      ((wr.drewN q).setCell ⟨bk, 3, none⟩ (.bool false)).cell? ⟨g2, x2, none⟩ = some (.slice A' n' c') := by
  have h := (hb.drewN q).set_ 3 (.bool false)
  refine ⟨by rw [h.cell]; simp, by rw [h.cell]; simp, by rw [h.cell]; simp, ?_, ?_⟩
  · rw [World.cell?_setCell_other _ _ _ _ (by intro e; injection e with e; exact n1 e.symm)]; exact k1
  · rw [World.cell?_setCell_other _ _ _ _ (by intro e; injection e with e; exact n2 e.symm)]; exact k2
end Go.Proofs.Fg
namespace Go.Proofs.Fg
set_option linter.unusedVariables false
open Go.RowKit Go.Proofs.Fm Go.Proofs.Fb

/-- the first j elements of a block of c are marks -/
def UptoG (cs : Array Value) (sz c j : Nat) (mk : Nat → List Value) : Prop := cs.size = c * sz ∧ ∀ t, t < j → ∀ q, q < sz → cs[t * sz + q]? = (mk t)[q]?
theorem UptoG.zero {cs : Array Value} {sz c : Nat} (mk : Nat → List Value) (h : cs.size = c * sz) : UptoG cs sz c 0 mk := ⟨h, fun t ht => by omega⟩
theorem UptoG.step1 {cs : Array Value} {c j : Nat} {mk : Nat → List Value} {u : Value} (h : UptoG cs 1 c j mk) (hj : j < c) (hu : mk j = [u]) : UptoG (cs.setIfInBounds j u) 1 c (j + 1) mk := by
  refine ⟨by simpa using h.1, fun t ht q hq => ?_⟩
  obtain rfl : q = 0 := by omega
  have hs : cs.size = c := by simpa using h.1
  rw [Nat.mul_one, Nat.add_zero, Array.getElem?_setIfInBounds]
  by_cases e : j = t
  · subst e; simp [hs, hj, hu]
  · rw [if_neg e]
    have := h.2 t (by omega) 0 (by omega)
    simpa using this
theorem UptoG.step2 {cs : Array Value} {c j : Nat} {mk : Nat → List Value} {u v : Value} (h : UptoG cs 2 c j mk) (hj : j < c) (hu : mk j = [u, v]) : UptoG ((cs.setIfInBounds (j * 2) u).setIfInBounds (j * 2 + 1) v) 2 c (j + 1) mk := by
  have hs : cs.size = c * 2 := h.1
  refine ⟨by simpa using h.1, fun t ht q hq => ?_⟩
  rw [Array.getElem?_setIfInBounds, Array.getElem?_setIfInBounds]
  by_cases e : j = t
  · subst e
    rcases q with _ | _ | q
    · rw [if_neg (by omega), if_pos (by omega), if_pos (by omega), hu]; rfl
    · rw [if_pos (by omega), if_pos (by simp; omega), hu]; rfl
    · omega
  · rw [if_neg (by omega), if_neg (by omega)]
    exact h.2 t (by omega) q hq
/-- a list's whole room holds its own marks -/
def MarkedG (w : World) (tE : TypeId) (sz : Nat) (v : Value) (mk : Nat → List Value) : Prop := ∃ A n c, v = .slice A n c ∧ c ≤ maxLen ∧ (0 < c → ∃ g cs, A = some ⟨g, 0, none⟩ ∧ Bk w g tE cs ∧ UptoG cs sz c c mk)

/-- the lists ahead of i are marked, the others are as they were -/
structure MarkG (w0 w : World) (base bk : Nat) (tE : TypeId) (sz : Nat) (tS tB : TypeId) (v1 v2 : Value) (h : Int) (vs : List KeptG) (M : Nat → Nat → List Value) (i : Nat) : Prop where
  blk : Bk w bk tB #[v1, v2, .int .i64 h, .bool false]
  hbase : base ≤ bk
  o1 : OffRow w base tS v1 vs.length (valsG vs)
  done : ∀ p, p < i → ∀ x, vs[p]? = some x → MarkedG w tE sz x.1 (M p)
  todo : ∀ p, i ≤ p → ∀ x, vs[p]? = some x → ∃ n, w.ownsRow base tE sz x.1 n x.2
  bel : Below base w0 w
section
variable {w0 w w' : World} {base bk : Nat} {tE tS tB : TypeId} {sz : Nat} {v1 v2 : Value} {h : Int} {vs us : List KeptG} {M : Nat → Nat → List Value} {i : Nat}
theorem MarkG.start {G : List Value → Prop} (H : BookW G w base bk tE sz tS tB v1 v2 h vs us) (hb : Below base w0 w) (M : Nat → Nat → List Value) : MarkG w0 w base bk tE sz tS tB v1 v2 h vs M 0 :=
  ⟨H.blk, H.hbase, H.o1, fun p hp => by omega, fun p _ x hx => (H.k1 x (List.mem_of_getElem? hx)).1, hb⟩
theorem MarkG.drewN (H : MarkG w0 w base bk tE sz tS tB v1 v2 h vs M i) (n : Nat) : MarkG w0 (w.drewN n) base bk tE sz tS tB v1 v2 h vs M i :=
  ⟨H.blk, H.hbase, H.o1, H.done, H.todo, ⟨H.bel.os, H.bel.tape, H.bel.output, H.bel.size, H.bel.block⟩⟩
/-- one list is marked: what else there is is as it was -/
theorem MarkG.next {g n c : Nat} {xs : List Value} (H : MarkG w0 w base bk tE sz tS tB v1 v2 h vs M i)
    (hap : vs.Pairwise (fun p q => p.1.ownBlock = none ∨ p.1.ownBlock ≠ q.1.ownBlock)) (hx : vs[i]? = some (.slice (some ⟨g, 0, none⟩) n c, xs)) (hg : w.grownBy w' (some g)) (hgb : base ≤ g) (hB : base ≤ w.heap.size) (hc : c ≤ maxLen)
    (hbk : ∃ cs, Bk w' g tE cs ∧ UptoG cs sz c c (M i)) (hold : ∃ cs, Bk w g tE cs) (h1 : tE ≠ tB) (h2 : tE ≠ tS) : MarkG w0 w' base bk tE sz tS tB v1 v2 h vs M (i + 1) := by
  obtain ⟨cs, hold⟩ := hold
  have hi : i < vs.length := (List.getElem?_eq_some_iff.1 hx).1
  have hne : g ≠ bk := by
    intro e; subst e
    have h3 := hold; have h4 := H.blk
    unfold Bk at h3 h4
    rw [h3] at h4
    injection h4 with h4
    injection h4 with _ ht
    exact h1 ht
  refine ⟨H.blk.grown hg (by simpa using Ne.symm hne), H.hbase, ?_, ?_, ?_, H.bel.grown hg hB (fun q hq => by injection hq with hq; omega)⟩
  · exact H.o1.kept hg (.inr (H.o1.ne hold (Ne.symm h2)))
  · intro p hp x hxp
    rcases Nat.lt_or_ge p i with hpi | hpi
    · obtain ⟨A, n', c', hv, hcm, hm⟩ := H.done p hpi x hxp
      refine ⟨A, n', c', hv, hcm, fun hc => ?_⟩
      obtain ⟨g', cs', hA, hb', hu⟩ := hm hc
      refine ⟨g', cs', hA, hb'.grown hg ?_, hu⟩
      intro e
      injection e with e
      have hpl : p < vs.length := (List.getElem?_eq_some_iff.1 hxp).1
      have ha := (List.pairwise_iff_getElem.1 hap) p i hpl hi hpi
      have e1 := (List.getElem?_eq_some_iff.1 hxp).2
      have e2 := (List.getElem?_eq_some_iff.1 hx).2
      rw [e1, e2, hv, hA] at ha
      rcases ha with ha | ha
      · simp [Value.ownBlock] at ha
      · exact ha (by simp [Value.ownBlock, e])
    · have hpe : p = i := by omega
      subst hpe
      rw [hx] at hxp
      injection hxp with hxp
      subst hxp
      obtain ⟨cs', hbk, hu⟩ := hbk
      exact ⟨_, n, c, rfl, hc, fun _ => ⟨g, cs', rfl, hbk, hu⟩⟩
  · intro p hp x hxp
    obtain ⟨n', ho⟩ := H.todo p (by omega) x hxp
    refine ⟨n', ho.kept hg ?_⟩
    have hpl : p < vs.length := (List.getElem?_eq_some_iff.1 hxp).1
    have ha := (List.pairwise_iff_getElem.1 hap) i p hi hpl (by omega)
    have e1 := (List.getElem?_eq_some_iff.1 hxp).2
    have e2 := (List.getElem?_eq_some_iff.1 hx).2
    rw [e1, e2] at ha
    right
    rcases ha with ha | ha
    · simp [Value.ownBlock] at ha
    · intro e; exact ha (by rw [e]; rfl)
/-- a list without room is passed by -/
theorem MarkG.skip {n : Nat} {A : Option Addr} {xs : List Value} (H : MarkG w0 w base bk tE sz tS tB v1 v2 h vs M i) (hx : vs[i]? = some (.slice A n 0, xs)) : MarkG w0 w base bk tE sz tS tB v1 v2 h vs M (i + 1) := by
  refine ⟨H.blk, H.hbase, H.o1, ?_, fun p hp x hxp => H.todo p (by omega) x hxp, H.bel⟩
  intro p hp x hxp
  rcases Nat.lt_or_ge p i with hpi | hpi
  · exact H.done p hpi x hxp
  · have hpe : p = i := by omega
    subst hpe
    rw [hx] at hxp
    injection hxp with hxp
    subst hxp
    exact ⟨A, n, 0, rfl, by simp [maxLen], fun h => by omega⟩
/-- the slice of a kept list, all its room, and where it lies -/
theorem MarkG.todo_at (H : MarkG w0 w base bk tE sz tS tB v1 v2 h vs M i) (hi : i < vs.length) :
    ∃ A n c xs, vs[i]? = some (.slice A n c, xs) ∧ (valsG vs)[i]? = some (.slice A n c) ∧ n ≤ c ∧ c ≤ maxLen ∧ (0 < c → ∃ g cs, A = some ⟨g, 0, none⟩ ∧ base ≤ g ∧ Bk w g tE cs ∧ cs.size = c * sz) := by
  have hx : vs[i]? = some vs[i] := List.getElem?_eq_getElem hi
  obtain ⟨m, ho⟩ := H.todo i (Nat.le_refl _) _ hx
  generalize hp : vs[i] = p at *
  obtain ⟨v, xs⟩ := p
  rcases ho.2 with ⟨e1, e2⟩ | ⟨g, cap, cur, e1, e2, e3, e4, e5, e6, _⟩
  · simp only at e1
    subst e1
    exact ⟨none, 0, 0, xs, hx, by simp [valsG, hi, hp], Nat.le_refl _, by simp [maxLen], fun h => by omega⟩
  · simp only at e1
    subst e1
    exact ⟨_, m, cap, xs, hx, by simp [valsG, hi, hp], e4, e5, fun _ => ⟨g, cur, rfl, e2, e3, e6⟩⟩
theorem MarkG.done_at (H : MarkG w0 w base bk tE sz tS tB v1 v2 h vs M vs.length) {p : Nat} (hi : p < vs.length) :
    ∃ A n c, (valsG vs)[p]? = some (.slice A n c) ∧ c ≤ maxLen ∧ (0 < c → ∃ g cs, A = some ⟨g, 0, none⟩ ∧ Bk w g tE cs ∧ UptoG cs sz c c (M p)) := by
  obtain ⟨A, n, c, hv, hcm, hm⟩ := H.done p hi _ (List.getElem?_eq_getElem hi)
  exact ⟨A, n, c, by simp [valsG, hi, hv], hcm, hm⟩
end
end Go.Proofs.Fg
