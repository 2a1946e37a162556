/- Words on memory for the books of lists: what a book holds, and that it is kept. No conditions. -/
import Derived.Test.YtdogcnmepaemjaaDoorMem
import Derived.Deep.AppendLies
import Derived.Maps.AppendAt
import Derived.Laws.AppendOwnNone
import Derived.OneCell
import Derived.RegionTactic
namespace Go.Proofs.Fb
set_option linter.unusedVariables false
open Go.RowKit Go.Proofs.Fm

/-- block b is just the cells cs of type t, none frozen -/
def Bk (w : World) (b : Nat) (t : TypeId) (cs : Array Value) : Prop := w.heap[b]? = some (.cells cs t (0, 0))
section
variable {w w' : World} {b : Nat} {t : TypeId} {cs : Array Value}
theorem Bk.lt (h : Bk w b t cs) : b < w.heap.size := (Array.getElem?_eq_some_iff.1 h).1
theorem Bk.cell (h : Bk w b t cs) (i : Nat) : w.cell? ⟨b, i, none⟩ = cs[i]? := cell_of_row w b i cs t (0, 0) h
theorem Bk.frozen (h : Bk w b t cs) (i : Nat) : w.frozen? ⟨b, i, none⟩ = false := by
  unfold Bk at h; simp [World.frozen?, h]
theorem Bk.new (w : World) (t : TypeId) (cs : Array Value) : Bk (w.alloc (.cells cs t)) w.heap.size t cs := heap_alloc_new w _
theorem Bk.drew (h : Bk w b t cs) : Bk w.drew b t cs := h
theorem Bk.drewN (h : Bk w b t cs) (n : Nat) : Bk (w.drewN n) b t cs := h
theorem Bk.alloc (h : Bk w b t cs) (o : Obj) : Bk (w.alloc o) b t cs := (Below.heap_alloc w o b h.lt).trans h
theorem Bk.set_ (h : Bk w b t cs) (i : Nat) (u : Value) : Bk (w.setCell ⟨b, i, none⟩ u) b t (cs.setIfInBounds i u) := by
  unfold Bk at h ⊢
  simp [World.setCell, Array.getElem?_modify, h]
theorem Bk.far (h : Bk w b t cs) {p : Addr} (hp : b ≠ p.block) (u : Value) : Bk (w.setCell p u) b t cs := (Below.heap_setCell w p u b hp).trans h
theorem Bk.grown (h : Bk w b t cs) {row : Option Nat} (hb : w.grownBy w' row) (hg : some b ≠ row) : Bk w' b t cs := (hb.block b h.lt hg).trans h
theorem Bk.below {B : Nat} (h : Bk w b t cs) (hb : Below B w w') (hg : b < B) : Bk w' b t cs := (hb.block b hg).trans h
/-- an owned row of another element type lies in another block -/
theorem own_ne {base : Nat} {e : TypeId} {size n : Nat} {v : Value} {xs : List Value} (h : w.ownsRow base e size v n xs) (hg : Bk w b t cs) (hne : e ≠ t) : v.ownBlock ≠ some b := by
  rcases h.2 with ⟨rfl, _⟩ | ⟨g', cap, cur, rfl, _, hh, _⟩
  · simp [Value.ownBlock]
  · intro he
    have : g' = b := by simpa [Value.ownBlock] using he
    subst this
    unfold Bk at hg
    rw [hh] at hg
    injection hg with hg
    injection hg with _ ht
    exact hne ht
theorem own_own {base base' : Nat} {e e' : TypeId} {size size' n n' : Nat} {v v' : Value} {xs xs' : List Value} (h : w.ownsRow base e size v n xs) (h' : w.ownsRow base' e' size' v' n' xs') (hne : e ≠ e') : v.ownBlock = none ∨ v.ownBlock ≠ v'.ownBlock := by
  rcases h'.2 with ⟨rfl, _⟩ | ⟨g', cap, cur, rfl, _, hh, _⟩
  · rcases hv : v.ownBlock with _ | g
    · exact .inl rfl
    · right; simp [Value.ownBlock]
  · right
    exact own_ne (cs := cur) h hh hne
end

/-- one list that was kept: its value and its elements -/
abbrev Kept := Value × List Int
def vals (l : List Kept) : List Value := l.map (·.1)
def OwnI (w : World) (base : Nat) (tT : TypeId) (k : IntKind) (p : Kept) : Prop := w.ownsRow base tT 1 p.1 p.2.length (p.2.map (Value.int k))

/-- a book at block bk: its two rows, how much it holds; all lists as they were; those that were kept apart from one another -/
structure BookAt (w : World) (base bk : Nat) (tT tS tB : TypeId) (k : IntKind) (v1 v2 : Value) (vs us : List Kept) (held : Int) : Prop where
  blk : Bk w bk tB #[v1, v2, .int .i64 held, .bool false]
  hbase : base ≤ bk
  o1 : w.ownsRow base tS 1 v1 vs.length (vals vs)
  o2 : w.ownsRow base tS 1 v2 us.length (vals us)
  ne : v1.ownBlock = none ∨ v1.ownBlock ≠ v2.ownBlock
  k1 : ∀ p ∈ vs, OwnI w base tT k p
  k2 : ∀ p ∈ us, OwnI w base tT k p
  same : us.map (·.2) = vs.map (·.2)
  apart : vs.Pairwise (fun p q => p.1.ownBlock = none ∨ p.1.ownBlock ≠ q.1.ownBlock)

theorem OwnI.grown {w w' : World} {base : Nat} {tT : TypeId} {k : IntKind} {p : Kept} {row : Option Nat} (h : OwnI w base tT k p) (hg : w.grownBy w' row) (hne : p.1.ownBlock = none ∨ p.1.ownBlock ≠ row) : OwnI w' base tT k p :=
  World.ownsRow.kept h hg hne
theorem OwnI.far {w : World} {base : Nat} {tT t : TypeId} {k : IntKind} {p : Kept} {b : Nat} {cs : Array Value} (h : OwnI w base tT k p) (hb : Bk w b t cs) (hne : tT ≠ t) (i : Nat) (u : Value) : OwnI (w.setCell ⟨b, i, none⟩ u) base tT k p :=
  ownsRow_setCell_other h (own_ne h hb hne) u


/-- an owned slice value: a slice of that length, one cell -/
theorem own_slice {w : World} {base : Nat} {e : TypeId} {size n : Nat} {v : Value} {xs : List Value} (h : w.ownsRow base e size v n xs) : ∃ A c, v = .slice A n c ∧ n ≤ c ∧ v.oneCell' = true := by
  rcases h.2 with ⟨rfl, rfl⟩ | ⟨g, cap, cur, rfl, _, _, hnc, _⟩
  · exact ⟨none, 0, rfl, Nat.le_refl _, rfl⟩
  · exact ⟨_, _, rfl, hnc, rfl⟩

/-- 'append([]T(nil), l...)' of an owned list, nil and empty ones too: an own copy. -/
theorem step_copy {P : Program} {w : World} {ops : Array Oper} {o : Oper} {a : Act} {K : Act → World → Prop} {Q : Exit → Act → World → Prop} {E : Prop} (hgd : o.guard = none) (s x : Operand) (t : TypeId)
    (ho : o.op = .call { callee := .builtin .append, args := #[s, x], argTypes := #[t, t] })
    (base : Nat) (e : TypeId) (i : TypeInfo) (z : Value) (bytes : Nat) (ht : P.underlying t = some (.slice e)) (hi : P.info? e = some i) (hz : i.zero = some z)
    (hsize : i.size = 1) (hby : i.bytes = bytes) (hzs : z.cells.size = 1) (hs : a.eval s = .slice none 0 0)
    (A : Option Addr) (n c : Nat) (xs : List Value) (hx : a.eval x = .slice A n c) (hown : w.ownsRow base e 1 (.slice A n c) n xs) (h1 : ∀ u ∈ xs, u.oneCell' = true)
    (h63 : n ≤ maxLen) (hbytes : n * bytes ≤ 140737488355328) (hbase : base ≤ w.heap.size)
    (h : ∀ A' c' w', w'.ownsRow base e 1 (.slice A' n c') n xs → w.grownBy w' (Value.slice none 0 0).ownBlock → K (a.put o.dst (.slice A' n c')) w') :
    if Region.wanted o (yielded ops a.tmps) = true then Oper.wp P o a w K Q else E := by
  have hw : Region.wanted o (yielded ops a.tmps) = true := by simp [Region.wanted, hgd]
  rw [if_pos hw]
  have hrun : ∃ u w', (Builtin.append_ #[t, t] o.type #[.slice none 0 0, .slice A n c]).run P w = .ok u w' ∧ w'.ownsRow base e 1 u n xs ∧ w.grownBy w' (Value.slice none 0 0).ownBlock := by
    rcases hown.2 with ⟨hv, h0⟩ | ⟨g, cap, cur, hv, hb, hh, hnc, hcm, hcs, htk⟩
    · subst h0
      injection hv with e1 _ e3
      subst e1 e3
      have hxs : xs = [] := List.eq_nil_of_length_eq_zero (by simpa using hown.1)
      subst hxs
      exact ⟨.slice none 0 0, w, run_append_owned_none (P := P) (w := w) base t o.type e i 1 ht hi (.slice none 0 0) 0 [] (World.ownsRow_nil _ _ _ _), World.ownsRow_nil _ _ _ _, World.grownBy.refl w _⟩
    · injection hv with e1 _ e3
      subst e1 e3
      obtain ⟨v', w', r1, r2, r3, _, _⟩ := run_append_own_at (P := P) w base t o.type e i z 1 bytes ht hi hz hsize hby hzs (by omega) (.slice none 0 0) 0 [] (World.ownsRow_nil _ _ _ _) ⟨g, 0, none⟩ n c xs (by simpa using hown.1)
        (hown.cells rfl) h1 (by omega) (by rw [Nat.zero_add]; exact hbytes) hbase
      rw [Nat.zero_add, List.nil_append] at r2
      exact ⟨v', w', r1, r2, r3⟩
  obtain ⟨u, w', hr, h2, h3⟩ := hrun
  obtain ⟨A', c', rfl, _, _⟩ := own_slice h2
  unfold Oper.wp execOp
  simp only [ho, resolve, invoke, builtin, Sem.run_bind, Sem.run_pure, Result.andThen_ok, List.map_toArray, List.map_cons, List.map_nil, hs, hx, hr]
  exact h A' c' w' h2 h3

/-- an owned list reads as its elements -/
theorem OwnI.row {w : World} {base : Nat} {tT : TypeId} {k : IntKind} {A : Option Addr} {n c : Nat} {xs : List Int} (h : OwnI w base tT k (.slice A n c, xs)) : Row w k A xs ∧ xs.length = n ∧ n ≤ c := by
  have h' : w.ownsRow base tT 1 (.slice A n c) xs.length (xs.map (Value.int k)) := h
  obtain ⟨A', c', he, hnc, _⟩ := own_slice h'
  injection he with e1 e2 e3
  subst e1 e2 e3
  refine ⟨fun hx => ?_, rfl, hnc⟩
  obtain ⟨g, c', he, _, _⟩ := h'.form (List.length_pos_iff.2 hx)
  injection he with e1 _ _
  subst e1
  refine ⟨g, 0, rfl, fun j hj => ?_⟩
  have := h'.cells (g := g) rfl j (.int k (xs.getD j 0)) (by simp [hj])
  rw [Nat.zero_add]
  rcases Nat.eq_zero_or_pos j with e | e
  · subst e; simpa [Addr.add] using this
  · simpa [Addr.add, Nat.ne_of_gt e] using this
/-- the row of a book: where it lies, and what its cells hold -/
theorem own_at {w : World} {base : Nat} {e : TypeId} {n : Nat} {v : Value} {xs : List Value} (h : w.ownsRow base e 1 v n xs) (hn : 0 < n) : ∃ g c, v = .slice (some ⟨g, 0, none⟩) n c ∧ base ≤ g ∧ n ≤ c ∧ ∀ j u, xs[j]? = some u → w.cell? ⟨g, j, none⟩ = some u := by
  obtain ⟨g, c, rfl, hb, _⟩ := h.form hn
  obtain ⟨_, _, he, hnc, _⟩ := own_slice h
  injection he with _ _ he3
  refine ⟨g, c, rfl, hb, by omega, fun j u hu => ?_⟩
  have := h.cells (g := g) rfl j u hu
  rcases Nat.eq_zero_or_pos j with e | e
  · subst e; simpa [Addr.add] using this
  · simpa [Addr.add, Nat.ne_of_gt e] using this
/-- the i-th list of a book, and its copy -/
theorem BookAt.pair {w : World} {base bk : Nat} {tT tS tB : TypeId} {k : IntKind} {v1 v2 : Value} {vs us : List Kept} {held : Int} (h : BookAt w base bk tT tS tB k v1 v2 vs us held) {i : Nat} (hi : i < vs.length) :
    ∃ A n c A' c' xs, (vals vs)[i]? = some (.slice A n c) ∧ (vals us)[i]? = some (.slice A' n c') ∧ xs.length = n ∧ n ≤ c ∧ Row w k A xs ∧ Row w k A' xs ∧ (Value.slice A n c, xs) ∈ vs := by
  have hl : us.length = vs.length := by have := congrArg List.length h.same; simpa using this
  have hi' : i < us.length := by omega
  have o1 := h.k1 _ (List.getElem_mem hi)
  have o2 := h.k2 _ (List.getElem_mem hi')
  have hs : us[i].2 = vs[i].2 := by
    have := congrArg (fun l => l[i]?) h.same
    simpa [hi, hi'] using this
  obtain ⟨A, c, hA, _, _⟩ := own_slice o1
  obtain ⟨A', c', hA', _, _⟩ := own_slice o2
  rw [hs] at hA'
  refine ⟨A, _, c, A', c', vs[i].2, by simp [vals, hi, hA], by simp [vals, hi', hA'], rfl, ?_, ?_, ?_, ?_⟩
  · have o1' : OwnI w base tT k (.slice A vs[i].2.length c, vs[i].2) := by rw [← hA]; exact o1
    exact o1'.row.2.2
  · have o1' : OwnI w base tT k (.slice A vs[i].2.length c, vs[i].2) := by rw [← hA]; exact o1
    exact o1'.row.1
  · have o2' : OwnI w base tT k (.slice A' vs[i].2.length c', vs[i].2) := by rw [← hA', ← hs]; exact o2
    exact o2'.row.1
  · have : (Value.slice A vs[i].2.length c, vs[i].2) = vs[i] := by rw [← hA]
    rw [this]; exact List.getElem_mem hi
theorem BookAt.drewN {w : World} {base bk : Nat} {tT tS tB : TypeId} {k : IntKind} {v1 v2 : Value} {vs us : List Kept} {held : Int} (h : BookAt w base bk tT tS tB k v1 v2 vs us held) (n : Nat) : BookAt (w.drewN n) base bk tT tS tB k v1 v2 vs us held :=
  ⟨h.blk, h.hbase, h.o1, h.o2, h.ne, h.k1, h.k2, h.same, h.apart⟩
/-- a store into the book's own block of what is there already -/
theorem BookAt.bad {w : World} {base bk : Nat} {tT tS tB : TypeId} {k : IntKind} {v1 v2 : Value} {vs us : List Kept} {held : Int} (h : BookAt w base bk tT tS tB k v1 v2 vs us held) (h1 : tT ≠ tB) (h2 : tS ≠ tB) : BookAt (w.setCell ⟨bk, 3, none⟩ (.bool false)) base bk tT tS tB k v1 v2 vs us held := by
  refine ⟨?_, h.hbase, ?_, ?_, h.ne, ?_, ?_, h.same, h.apart⟩
  · exact h.blk.set_ 3 _
  · exact ownsRow_setCell_other h.o1 (own_ne h.o1 h.blk h2) _
  · exact ownsRow_setCell_other h.o2 (own_ne h.o2 h.blk h2) _
  · exact fun p hp => (h.k1 p hp).far h.blk h1 3 _
  · exact fun p hp => (h.k2 p hp).far h.blk h1 3 _

/-- all places of a slice, its room too, hold marks -/
def Marked (w : World) (tT : TypeId) (k : IntKind) (v : Value) (m : Int) : Prop := ∃ A n c, v = .slice A n c ∧ (0 < c → ∃ g, A = some ⟨g, 0, none⟩ ∧ Bk w g tT (Array.replicate c (.int k m)))
/-- the world while the marks are laid: the first i lists are marked, the others as they were -/
structure Marking (w0 w : World) (base bk : Nat) (tT tS tB : TypeId) (k : IntKind) (v1 v2 : Value) (vs : List Kept) (held : Int) (M : Nat → Int) (i : Nat) : Prop where
  blk : Bk w bk tB #[v1, v2, .int .i64 held, .bool false]
  hbase : base ≤ bk
  o1 : w.ownsRow base tS 1 v1 vs.length (vals vs)
  done : ∀ p, p < i → ∀ x, vs[p]? = some x → Marked w tT k x.1 (M p)
  todo : ∀ p, i ≤ p → ∀ x, vs[p]? = some x → OwnI w base tT k x
  bel : Below base w0 w

theorem Marking.start {w : World} {base bk : Nat} {tT tS tB : TypeId} {k : IntKind} {v1 v2 : Value} {vs us : List Kept} {held : Int} {w0 : World} (h : BookAt w base bk tT tS tB k v1 v2 vs us held) (hb : Below base w0 w) (M : Nat → Int) : Marking w0 w base bk tT tS tB k v1 v2 vs held M 0 :=
  ⟨h.blk, h.hbase, h.o1, fun p hp => by omega, fun p _ x hx => h.k1 x (List.mem_of_getElem? hx), hb⟩
theorem Marking.drewN {w0 w : World} {base bk : Nat} {tT tS tB : TypeId} {k : IntKind} {v1 v2 : Value} {vs : List Kept} {held : Int} {M : Nat → Int} {i : Nat} (h : Marking w0 w base bk tT tS tB k v1 v2 vs held M i) (n : Nat) : Marking w0 (w.drewN n) base bk tT tS tB k v1 v2 vs held M i :=
  ⟨h.blk, h.hbase, h.o1, h.done, h.todo, ⟨h.bel.os, h.bel.tape, h.bel.output, h.bel.size, h.bel.block⟩⟩
/-- one list is marked: what else there is is as it was -/
theorem Marking.next {w0 w w' : World} {base bk : Nat} {tT tS tB : TypeId} {k : IntKind} {v1 v2 : Value} {vs : List Kept} {held : Int} {M : Nat → Int} {i g n c : Nat} {xs : List Int} (h : Marking w0 w base bk tT tS tB k v1 v2 vs held M i)
    (hap : vs.Pairwise (fun p q => p.1.ownBlock = none ∨ p.1.ownBlock ≠ q.1.ownBlock)) (hx : vs[i]? = some (.slice (some ⟨g, 0, none⟩) n c, xs)) (hg : w.grownBy w' (some g)) (hgb : base ≤ g) (hB : base ≤ w.heap.size)
    (hbk : Bk w' g tT (Array.replicate c (.int k (M i)))) (hold : ∃ cs, Bk w g tT cs) (h1 : tT ≠ tB) (h2 : tT ≠ tS) : Marking w0 w' base bk tT tS tB k v1 v2 vs held M (i + 1) := by
  obtain ⟨cs, hold⟩ := hold
  have hi : i < vs.length := (List.getElem?_eq_some_iff.1 hx).1
  have hne : g ≠ bk := by
    intro e; subst e
    have h3 := hold; have h4 := h.blk
    unfold Bk at h3 h4
    rw [h3] at h4
    injection h4 with h4
    injection h4 with _ ht
    exact h1 ht
  refine ⟨h.blk.grown hg (by simpa using Ne.symm hne), h.hbase, ?_, ?_, ?_, h.bel.grown hg hB (fun q hq => by injection hq with hq; omega)⟩
  · exact h.o1.kept hg (.inr (own_ne h.o1 hold (Ne.symm h2)))
  · intro p hp x hxp
    rcases Nat.lt_or_ge p i with hpi | hpi
    · obtain ⟨A, n', c', hv, hm⟩ := h.done p hpi x hxp
      refine ⟨A, n', c', hv, fun hc => ?_⟩
      obtain ⟨g', hA, hb'⟩ := hm hc
      refine ⟨g', hA, hb'.grown hg ?_⟩
      intro e
      injection e with e
      have hpl : p < vs.length := (List.getElem?_eq_some_iff.1 hxp).1
      have ha := (List.pairwise_iff_getElem.1 hap) p i hpl hi hpi
      have e1 := (List.getElem?_eq_some_iff.1 hxp).2
      have e2 := (List.getElem?_eq_some_iff.1 hx).2
      rw [e1, e2, hv, hA] at ha
      rcases ha with ha | ha
      · simp [Value.ownBlock] at ha
      · exact ha (by simp [Value.ownBlock, e])
    · have hpe : p = i := by omega
      subst hpe
      rw [hx] at hxp
      injection hxp with hxp
      subst hxp
      exact ⟨_, n, c, rfl, fun _ => ⟨g, rfl, hbk⟩⟩
  · intro p hp x hxp
    refine (h.todo p (by omega) x hxp).grown hg ?_
    have hpl : p < vs.length := (List.getElem?_eq_some_iff.1 hxp).1
    have ha := (List.pairwise_iff_getElem.1 hap) i p hi hpl (by omega)
    have e1 := (List.getElem?_eq_some_iff.1 hxp).2
    have e2 := (List.getElem?_eq_some_iff.1 hx).2
    rw [e1, e2] at ha
    right
    rcases ha with ha | ha
    · simp [Value.ownBlock] at ha
    · intro e; exact ha (by rw [e]; rfl)
/-- a list without room is passed by -/
theorem Marking.skip {w0 w : World} {base bk : Nat} {tT tS tB : TypeId} {k : IntKind} {v1 v2 : Value} {vs : List Kept} {held : Int} {M : Nat → Int} {i n : Nat} {A : Option Addr} {xs : List Int} (h : Marking w0 w base bk tT tS tB k v1 v2 vs held M i)
    (hx : vs[i]? = some (.slice A n 0, xs)) : Marking w0 w base bk tT tS tB k v1 v2 vs held M (i + 1) := by
  refine ⟨h.blk, h.hbase, h.o1, ?_, fun p hp x hxp => h.todo p (by omega) x hxp, h.bel⟩
  intro p hp x hxp
  rcases Nat.lt_or_ge p i with hpi | hpi
  · exact h.done p hpi x hxp
  · have hpe : p = i := by omega
    subst hpe
    rw [hx] at hxp
    injection hxp with hxp
    subst hxp
    exact ⟨A, n, 0, rfl, fun h => by omega⟩
/-- behind a store into block g, only g has turned -/
theorem grown_set {w w' : World} {g : Nat} (h : w.grownBy w' (some g)) (i : Nat) (u : Value) : w.grownBy (w'.setCell ⟨g, i, none⟩ u) (some g) :=
  ⟨h.os, h.tape, h.output, by simpa [World.setCell] using h.size, fun q hq hne => (Below.heap_setCell w' ⟨g, i, none⟩ u q (fun e => hne (by rw [e]))).trans (h.block q hq hne)⟩
theorem grown_drewN {w w' : World} {row : Option Nat} (h : w.grownBy w' row) (n : Nat) : w.grownBy (w'.drewN n) row := ⟨h.os, h.tape, h.output, h.size, h.block⟩
/-- the first j places are marks -/
def Upto (cs : Array Value) (c j : Nat) (u : Value) : Prop := cs.size = c ∧ ∀ t, t < j → cs[t]? = some u
theorem Upto.step {cs : Array Value} {c j : Nat} {u : Value} (h : Upto cs c j u) (hj : j < c) : Upto (cs.setIfInBounds j u) c (j + 1) u := by
  refine ⟨by simpa using h.1, fun t ht => ?_⟩
  rw [Array.getElem?_setIfInBounds]
  by_cases e : j = t
  · subst e; simp [h.1, hj]
  · rw [if_neg e]; exact h.2 t (by omega)
theorem Upto.all {cs : Array Value} {c : Nat} {u : Value} (h : Upto cs c c u) : cs = Array.replicate c u := by
  apply Array.ext
  · simpa using h.1
  · intro i h1 h2
    have := h.2 i (by have := h.1; omega)
    rw [Array.getElem?_eq_getElem h1] at this
    injection this with this
    simp [this]
end Go.Proofs.Fb
