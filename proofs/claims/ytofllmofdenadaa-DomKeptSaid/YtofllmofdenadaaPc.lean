/- dom's Parts of a tree that is as said. No conditions but that it has no more than 4096 nodes. -/
import Derived.Test.YtofllmofdenadaaPb
import Derived.Test.YtofllmofdenadaaDn
namespace Go.Proofs.Ytofllmofdenadaa
set_option linter.unusedVariables false
open Go.RowKit Go.Shelf Go.Proofs.Fm Go.Proofs.Fb Go.Proofs.Fd Go.Proofs.Fc
attribute [local go_sem] Oper.semAt_some

theorem partInf : (Try.prog.info? 31).map (fun i => (i.zero, i.size, i.bytes)) = some (some (.agg #[.string ⟨#[]⟩, .string ⟨#[]⟩, .slice none 0 0, .slice none 0 0]), 4, 80) := by kernel_rfl
theorem made_get (a b c d : Value) (n i j : Nat) (hi : i < n) (hj : j < 4) : (madeCells #[a, b, c, d] (n * 4))[i * 4 + j]? = #[a, b, c, d][j]? := by
  have h1 : i * 4 + j < n * 4 := by omega
  have h2 : (i * 4 + j) % 4 = j := by omega
  unfold madeCells
  rw [Array.getElem?_map, Array.getElem?_range, if_pos h1]
  simp only [Option.map_some, List.size_toArray, List.length_cons, List.length_nil, Nat.reduceAdd, h2]
  have hc : j = 0 ∨ j = 1 ∨ j = 2 ∨ j = 3 := by omega
  rcases hc with rfl | rfl | rfl | rfl <;> rfl
def zRk : Rk := (zP, .slice none 0 0, .slice none 0 0)
theorem made_rk (n : Nat) : madeCells #[.string ⟨#[]⟩, .string ⟨#[]⟩, .slice none 0 0, .slice none 0 0] (n * 4) = (rkCells (List.replicate n zRk)).toArray := by
  have hl : (rkCells (List.replicate n zRk)).length = n * 4 := by rw [rkCells_length, List.length_replicate]
  refine Array.ext_getElem? fun k => ?_
  by_cases hk : k < n * 4
  · obtain ⟨m, j, hj, rfl⟩ : ∃ m j, j < 4 ∧ k = m * 4 + j := ⟨k / 4, k % 4, Nat.mod_lt _ (by omega), by omega⟩
    rw [made_get _ _ _ _ n m j (by omega) hj, rk_get _ m (by rw [List.length_replicate]; omega) j hj, List.getElem_replicate]
    have hc : j = 0 ∨ j = 1 ∨ j = 2 ∨ j = 3 := by omega
    rcases hc with rfl | rfl | rfl | rfl <;> rfl
  · rw [Array.getElem?_eq_none (by rw [size_madeCells]; omega), Array.getElem?_eq_none (by simp only [List.size_toArray]; omega)]
/-- the blocks of cells behind the array -/
def SC (W : World) (PB x : Nat) : Prop := PB < x ∧ ∃ o, W.heap[x]? = some o ∧ o.isCells = true
/-- the array as it is filled, places is having come up -/
structure PArr (l : List Nd) (PB : Nat) (is : List Nat) (W : World) (rs : List Rk) : Prop where
  pts : rs.map (·.1) = partsOf l is
  bk : Bk W PB 31 (rkCells rs).toArray
  each : ∀ q ∈ rs, AOk W (SC W PB) q.2.1 q.1.attrs ∧ QRes W (SC W PB) q.2.2 q.1.kids
theorem PArr.len {l : List Nd} {PB : Nat} {is : List Nat} {W : World} {rs : List Rk} (h : PArr l PB is W rs) : rs.length = l.length := by
  have := congrArg List.length h.pts
  rwa [List.length_map, partsOf_len] at this
theorem sc_map {W W' : World} {PB : Nat} (h : ∀ k, SC W PB k → W'.heap[k]? = W.heap[k]?) : ∀ k, SC W PB k → SC W' PB k := fun k hk => ⟨hk.1, by obtain ⟨o, h1, h2⟩ := hk.2; exact ⟨o, (h k hk).trans h1, h2⟩⟩
theorem PArr.map {l : List Nd} {PB : Nat} {is : List Nat} {W W' : World} {rs : List Rk} (h : PArr l PB is W rs) (hp : W'.heap[PB]? = W.heap[PB]?) (hk : ∀ k, SC W PB k → W'.heap[k]? = W.heap[k]?) : PArr l PB is W' rs :=
  ⟨h.pts, hp.trans h.bk, fun q hq => ⟨(h.each q hq).1.map (sc_map hk) hk, (h.each q hq).2.map (sc_map hk) hk⟩⟩
def PInv (l : List Nd) (PB : Nat) (w w3 : World) (is : List Nat) (W : World) : Prop := (∃ rs, PArr l PB is W rs) ∧ Bx PB w3.heap.size w3 W ∧ Below w.heap.size w W
theorem pinv_own {β : Type} {l : List Nd} {PB m : Nat} {w w3 : World} (f : β → List Nat) (hm : w3.heap.size ≤ m) (hw : w.heap.size ≤ w3.heap.size) : OwnFrom m (fun (s : β) W => PInv l PB w w3 (f s) W) := fun s W W' row hs hg hr => by
  obtain ⟨⟨rs, ha⟩, hb, hc⟩ := hs
  refine ⟨⟨rs, ha.map (hg.block PB ha.bk.lt fun e => ?_) fun k hk => ?_⟩, bx_own (β := β) (Nat.le_refl _) hm s W W' row hb hg hr, ownFrom_below (β := β) (Nat.le_refl _) (by omega) s W W' row hc hg hr⟩
  · obtain ⟨-, o, ho, hcc⟩ := hr PB e.symm
    rw [show W.heap[PB]? = _ from ha.bk] at ho; cases ho; cases hcc
  · obtain ⟨o, ho, hcc⟩ := hk.2
    refine hg.block k (Array.getElem?_eq_some_iff.1 ho).1 fun e => ?_
    obtain ⟨-, o', ho', hc'⟩ := hr k e.symm
    rw [ho] at ho'; cases ho'; rw [hcc] at hc'; cases hc'
/-- the node that has come, in a box; the frame behind it -/
def PAx {g : Nat → Nd × Value} {n : Nat} (m : Nat) (a1 : Bk3 g n → Nat → Option Addr → Nat → Nat → Act) (x : Bk3 g n) (a' : Act) (W : World) : Prop := ∃ X A k d, x.1.2.2 = Value.slice A k d ∧ m ≤ X ∧ Bk W X 68 (ndCells x.1.2.1 (.slice A k d)).toArray ∧ a' = a1 x X A k d
theorem pax_own {g : Nat → Nd × Value} {n m B : Nat} (a1 : Bk3 g n → Nat → Option Addr → Nat → Nat → Act) (x : Bk3 g n) (a' : Act) : OwnFrom B (fun (_ : Unit) W => PAx m a1 x a' W) := by
  rintro s W W' row ⟨X, A, k, d, h1, h2, h3, h4⟩ hg hr
  refine ⟨X, A, k, d, h1, h2, h3.grown hg (fun e => ?_), h4⟩
  obtain ⟨-, o, ho, hc⟩ := hr X e.symm
  rw [show W.heap[X]? = _ from h3] at ho; cases ho; cases hc
theorem grownBy_setCell2 (W : World) (b o : Nat) (v : Value) : W.grownBy (W.setCell ⟨b, o, none⟩ v) (some b) :=
  ⟨rfl, rfl, rfl, by simp [World.setCell], fun k _ hk => Below.heap_setCell W ⟨b, o, none⟩ v k (fun e => hk (by rw [e]))⟩
theorem own_low {W W' : World} {base e size n : Nat} {v : Value} {xs : List Value} (h : W.ownsRow base e size v n xs) (hb : Below W.heap.size W W') : W'.ownsRow base e size v n xs :=
  h.kept (row := none) ⟨hb.os, hb.tape, hb.output, hb.size, fun k hk _ => hb.block k hk⟩ (by rcases v.ownBlock with _ | g <;> simp)
/-- below the array all lies as it lay -/
theorem low_of {PB m : Nat} {w1 W3 W : World} (h : Below PB w1 W3) (hx : Bx PB m W3 W) (hm : PB ≤ m) : Below PB w1 W :=
  ⟨hx.os.trans h.os, hx.tape.trans h.tape, hx.output.trans h.output, Nat.le_trans h.size hx.size, fun q hq => (hx.block q (by omega) (by omega)).trans (h.block q hq)⟩
theorem rk_set3 (rs : List Rk) (i : Nat) (hi : i < rs.length) (nm tx : Str) (al al' : List Att) (ks ks' : List Pt) (va vk vk' : Value) : (rkCells (rs.set i (.mk nm tx al ks, va, vk))).toArray.setIfInBounds (i * 4 + 3) vk' = (rkCells (rs.set i (.mk nm tx al' ks', va, vk'))).toArray := by
  rw [rk_set rs i hi, rk_set rs i hi]
  refine Array.ext_getElem? fun k => ?_
  by_cases e : i * 4 + 3 = k
  · subst e
    rw [Array.getElem?_setIfInBounds_self, Array.getElem?_setIfInBounds_self]
    simp only [Array.size_setIfInBounds]
  · rw [Array.getElem?_setIfInBounds_ne e, Array.getElem?_setIfInBounds_ne e, Array.getElem?_setIfInBounds_ne e]
    rfl
/-- place i is being filled: R are the kids that stand in its list -/
structure Inner (PB : Nat) (rs : List Rk) (W : World) (i : Nat) (nm tx : Str) (al : List Att) (K : List Nat) (kv va : Value) (R : List Rk) (vk : Value) (wr : World) : Prop where
  bk : Bk wr PB 31 (rkCells (rs.set i (.mk nm tx al (R.map (·.1)), va, vk))).toArray
  own : wr.ownsRow W.heap.size 31 4 vk R.length (rkCells R)
  att : wr.ownsRow W.heap.size 66 2 va al.length (attrCells al)
  kid : wr.ownsRow W.heap.size 3 1 kv K.length (ints K)
  bx : Bx PB W.heap.size W wr
theorem bx_grown {B n₀ : Nat} {W w1 w2 : World} {row : Option Nat} (h : Bx B n₀ W w1) (hn : n₀ ≤ W.heap.size) (hg : w1.grownBy w2 row) (hr : ∀ g, row = some g → n₀ ≤ g) : Bx B n₀ W w2 :=
  ⟨hg.os.trans h.os, hg.tape.trans h.tape, hg.output.trans h.output, Nat.le_trans h.size hg.size, fun q hq hne => (hg.block q (by have := h.size; omega) (fun e => by have := hr q e.symm; omega)).trans (h.block q hq hne)⟩
theorem Inner.step {PB : Nat} {rs : List Rk} {W : World} {i : Nat} {nm tx : Str} {al : List Att} {K : List Nat} {kv va : Value} {R : List Rk} {vk : Value} {wr w6 : World} {vk' : Value} (h : Inner PB rs W i nm tx al K kv va R vk wr) (hPW : PB < W.heap.size) (hi : i < rs.length) (q : Rk)
    (hg : wr.grownBy w6 vk.ownBlock) (ho : w6.ownsRow W.heap.size 31 4 vk' (R.length + 1) (rkCells R ++ ptCells q)) : Inner PB rs W i nm tx al K kv va (R ++ [q]) vk' (w6.setCell ⟨PB, i * 4 + 3, none⟩ vk') := by
  have hrow : ∀ g, vk.ownBlock = some g → W.heap.size ≤ g := fun g e => (h.own.lt g e).1
  have hne : some PB ≠ vk.ownBlock := fun e => by have := hrow PB e.symm; omega
  refine ⟨?_, ?_, ?_, ?_, ?_⟩
  · have := (h.bk.grown hg hne).set_ (i * 4 + 3) vk'
    rwa [rk_set3 rs i hi nm tx al al _ ((R ++ [q]).map (·.1)) va vk vk'] at this
  · have e : rkCells (R ++ [q]) = rkCells R ++ ptCells q := by rw [rkCells_append]; simp [rkCells]
    rw [e, List.length_append]
    exact ownsRow_setCell_below ho (by show PB < W.heap.size; omega) _
  · refine ownsRow_setCell_below (h.att.kept hg ?_) (by show PB < W.heap.size; omega) _
    rcases own_own h.att h.own (by decide) with e | e
    · exact .inl e
    · exact .inr e
  · refine ownsRow_setCell_below (h.kid.kept hg ?_) (by show PB < W.heap.size; omega) _
    rcases own_own h.kid h.own (by decide) with e | e
    · exact .inl e
    · exact .inr e
  · exact (bx_grown h.bx (Nat.le_refl _) hg hrow).set_ _ _
/-- the last of the kids is written over -/
theorem Inner.over {PB : Nat} {rs : List Rk} {W : World} {i : Nat} {nm tx : Str} {al : List Att} {K : List Nat} {kv va : Value} {R : List Rk} {g cap : Nat} {wr : World} {z : Rk} (q : Rk) (hPW : PB < W.heap.size) (h : Inner PB rs W i nm tx al K kv va (R ++ [z]) (.slice (some ⟨g, 0, none⟩) (R.length + 1) cap) wr) :
    Inner PB rs W i nm tx al K kv va (R ++ [q]) (.slice (some ⟨g, 0, none⟩) (R.length + 1) cap) ((((wr.setCell ⟨g, R.length * 4, none⟩ (str q.1.name)).setCell ⟨g, R.length * 4 + 1, none⟩ (str q.1.text)).setCell ⟨g, R.length * 4 + 2, none⟩ q.2.1).setCell ⟨g, R.length * 4 + 3, none⟩ q.2.2) := by
  have hgW : W.heap.size ≤ g := (h.own.lt g rfl).1
  have far : ∀ {w : World} {e size n : Nat} {v : Value} {xs : List Value} (o : Nat) (u : Value), v.ownBlock = none ∨ v.ownBlock ≠ some g → w.ownsRow W.heap.size e size v n xs → (w.setCell ⟨g, o, none⟩ u).ownsRow W.heap.size e size v n xs := fun {w e size n v xs} o u hv ho => by
    refine ho.kept (grownBy_setCell2 w g o u) ?_
    rcases hv with e | e
    · exact .inl e
    · exact .inr e
  refine ⟨?_, ?_, ?_, ?_, ?_⟩
  · have e : rkCells (rs.set i (.mk nm tx al ((R ++ [q]).map (·.1)), va, (Value.slice (some ⟨g, 0, none⟩) (R.length + 1) cap))) = rkCells (rs.set i (.mk nm tx al ((R ++ [z]).map (·.1)), va, (Value.slice (some ⟨g, 0, none⟩) (R.length + 1) cap))) := by
      unfold rkCells
      rw [List.map_set, List.map_set]
      rfl
    rw [e]
    exact (((h.bk.far (p := ⟨g, R.length * 4, none⟩) (by show PB ≠ g; omega) _).far (p := ⟨g, R.length * 4 + 1, none⟩) (by show PB ≠ g; omega) _).far (p := ⟨g, R.length * 4 + 2, none⟩) (by show PB ≠ g; omega) _).far (p := ⟨g, R.length * 4 + 3, none⟩) (by show PB ≠ g; omega) _
  · have h0 := h.own
    rw [List.length_append, List.length_singleton] at h0 ⊢
    have h1 := (h0.stored (R.length * 4) (str q.1.name)).1
    have h2 := (h1.stored (R.length * 4 + 1) (str q.1.text)).1
    have h3 := (h2.stored (R.length * 4 + 2) q.2.1).1
    have h4 := (h3.stored (R.length * 4 + 3) q.2.2).1
    have e : rkCells (R ++ [q]) = ((((rkCells (R ++ [z])).set (R.length * 4) (str q.1.name)).set (R.length * 4 + 1) (str q.1.text)).set (R.length * 4 + 2) q.2.1).set (R.length * 4 + 3) q.2.2 := by
      have hl : (rkCells R).length = R.length * 4 := rkCells_length R
      have e1 : ∀ y : Rk, rkCells (R ++ [y]) = rkCells R ++ ptCells y := fun y => by rw [rkCells_append]; simp [rkCells]
      rw [e1, e1, ← hl]
      rw [List.set_append_right _ _ (Nat.le_refl _), List.set_append_right _ _ (by omega), List.set_append_right _ _ (by omega), List.set_append_right _ _ (by omega)]
      congr 1
      simp [ptCells]
    rw [e]
    exact h4
  · have hv : va.ownBlock = none ∨ va.ownBlock ≠ some g := own_own h.att h.own (by decide)
    exact far _ _ hv (far _ _ hv (far _ _ hv (far _ _ hv h.att)))
  · have hv : kv.ownBlock = none ∨ kv.ownBlock ≠ some g := own_own h.kid h.own (by decide)
    exact far _ _ hv (far _ _ hv (far _ _ hv (far _ _ hv h.kid)))
  · have step : ∀ {w : World} (o : Nat) (u : Value), Bx PB W.heap.size W w → Bx PB W.heap.size W (w.setCell ⟨g, o, none⟩ u) := fun {w} o u hb => bx_grown hb (Nat.le_refl _) (grownBy_setCell2 w g o u) (fun g' e => by cases e; exact hgW)
    exact step _ _ (step _ _ (step _ _ (step _ _ h.bx)))
theorem Inner.below {PB : Nat} {rs : List Rk} {W : World} {i : Nat} {nm tx : Str} {al : List Att} {K : List Nat} {kv va : Value} {R : List Rk} {vk : Value} {wr w' : World} (h : Inner PB rs W i nm tx al K kv va R vk wr) (hb : Below wr.heap.size wr w') : Inner PB rs W i nm tx al K kv va R vk w' :=
  ⟨h.bk.below hb h.bk.lt, own_low h.own hb, own_low h.att hb, own_low h.kid hb, h.bx.trans (Bx.of_below (hb.mono h.bx.size))⟩
theorem aok_own {w : World} {S : Nat → Prop} {base : Nat} {v : Value} {al : List Att} (h : w.ownsRow base 66 2 v al.length (attrCells al)) (hl : al.length ≤ 4398046511104) (hS : ∀ g, v.ownBlock = some g → S g) : AOk w S v al := by
  obtain ⟨A, c, rfl⟩ := own_form h
  obtain ⟨A', c', he, h2, h3, h4, h5⟩ := (aval_own h hl).ex
  injection he with e1 e2 e3
  subst e1; subst e3
  refine ⟨A, c, rfl, h2, h3, h4, h5, fun b off _ e => ⟨hS b (by rw [e]; rfl), fun o => ?_⟩⟩
  rcases h.2 with ⟨hv, -⟩ | ⟨g, cap, cur, hv, -⟩
  · injection hv with e1 _ _; rw [e] at e1; cases e1
  · injection hv with e1 e2 e3
    subst e1; injection e with e4; injection e4 with e5 e6
    subst e5
    exact h.frozenAt o
theorem own_sc {w : World} {base e size n PB : Nat} {v : Value} {xs : List Value} (h : w.ownsRow base e size v n xs) (hb : PB < base) : ∀ g, v.ownBlock = some g → SC w PB g := fun g hg => by
  have h1 := h.lt g hg
  rcases h.2 with ⟨rfl, -⟩ | ⟨g', cap, cur, rfl, _, hgb, _⟩
  · cases hg
  · obtain rfl : g' = g := by simpa [Value.ownBlock] using hg
    exact ⟨by omega, _, hgb, rfl⟩
/-- the place is filled -/
theorem Inner.filled {l : List Nd} {PB : Nat} {is : List Nat} {rs : List Rk} {W : World} {i : Nat} {nd : Nd} {K : List Nat} {kv va : Value} {vk : Value} {wr : World} (hrs : PArr l PB is W rs) (hil : i < l.length) (hnd : l[i]'hil = nd) (hK : kidsOf (par l) l.length (i : Int) = K) (hal : nd.attrs.length ≤ 4398046511104) (hPW : PB < W.heap.size)
    (h : Inner PB rs W i nd.name nd.text nd.attrs K kv va (K.map fun x => rs.getD x zRk) vk wr) : PArr l PB (is ++ [i]) wr (rs.set i (.mk nd.name nd.text nd.attrs ((K.map fun x => rs.getD x zRk).map (·.1)), va, vk)) := by
  have hrl := hrs.len
  have same : ∀ k, SC W PB k → wr.heap[k]? = W.heap[k]? := fun k hk => by
    obtain ⟨h1, o, h2, h3⟩ := hk
    exact h.bx.block k (Array.getElem?_eq_some_iff.1 h2).1 (by omega)
  have hold : ∀ q ∈ rs, AOk wr (SC wr PB) q.2.1 q.1.attrs ∧ QRes wr (SC wr PB) q.2.2 q.1.kids := fun q hq => ⟨(hrs.each q hq).1.map (sc_map same) same, (hrs.each q hq).2.map (sc_map same) same⟩
  refine ⟨?_, h.bk, fun q hq => ?_⟩
  · rw [List.map_set, hrs.pts, partsOf_snoc]
    congr 1
    unfold stepP
    rw [List.getElem?_eq_getElem hil, hnd, hK]
    dsimp only
    congr 1
    rw [List.map_map, ← hrs.pts]
    refine List.map_congr_left fun x _ => ?_
    simp only [Function.comp, List.getD_eq_getElem?_getD, List.getElem?_map]
    cases rs[x]? <;> rfl
  · rcases List.mem_or_eq_of_mem_set hq with hq | rfl
    · exact hold q hq
    · refine ⟨aok_own h.att hal (own_sc h.att hPW), res_of h.own (fun q hq => ?_) (own_sc h.own hPW)⟩
      obtain ⟨x, hx, rfl⟩ := List.mem_map.1 hq
      refine hold _ ?_
      rw [← hK] at hx
      have hxl := (kidsOf_lt hx).1
      rw [List.getD_eq_getElem?_getD, List.getElem?_eq_getElem (by omega)]
      exact List.getElem_mem _
/-- what Parts answers: a part, all of it in blocks of the call's own -/
def PartsOut (p : Pt) (w : World) (e : Ending) (w' : World) : Prop := ∃ (va vk : Value), e = .returned (.agg #[str p.name, str p.text, va, vk]) ∧ AOk w' (fun x => w.heap.size ≤ x) va p.attrs ∧ QRes w' (fun x => w.heap.size ≤ x) vk p.kids ∧ Below w.heap.size w w'
set_option maxRecDepth 100000 in
set_option maxHeartbeats 8000000 in
theorem parts_any (A : Option Addr) (n c : Nat) (l : List Nd) (hl : l.length = n) (hn : n ≤ 4096) (hs : saidB l = true) (w : World) (ha : NRow w A l) : Calls Try.prog 32 #[.agg #[.slice A n c]] w (PartsOut (partF l n 0) w) := by
  obtain ⟨ti, hi1, hz0, hz1, hz2⟩ := info_parts partInf
  have hsf := said_facts hs
  have hpos : 0 < n := by have := hsf.pos; omega
  obtain ⟨b, off, rfl, -⟩ := ha.at_ (i := 0) (by omega)
  have hmk : ∀ W, (Instr.makeSlice 29 (.int .i64 (n : Int)) (.int .i64 (n : Int))).run Try.prog W = .ok (.slice (some ⟨W.heap.size, 0, none⟩) n n) (W.alloc (.cells (rkCells (List.replicate n zRk)).toArray 31)) := fun W => by
    have h := run_make (P := Try.prog) W 29 31 ti _ Try.underlying29 hi1 hz0 .i64 .i64 (n : Int) (n : Int) (by omega) (by omega) (by rw [hz2]; omega) (by omega)
    rw [hz1, Int.toNat_natCast] at h
    rw [← made_rk n]
    exact h
  have HI1 := Lib.hid hi1
  have HZ0 := Lib.hid hz0
  have HZ1 := Lib.hid hz1
  have HZ2 := Lib.hid hz2
  have HS := Lib.hid hsf
  obtain ⟨W0, hW0⟩ : ∃ W, (w.alloc (.cells #[.slice (some ⟨b, off, none⟩) n c] 24)).alloc (.cells #[.string ⟨#[]⟩, .string ⟨#[]⟩, .slice none 0 0, .slice none 0 0] 31) = W := ⟨_, rfl⟩
  have hb0 : Below w.heap.size w W0 := hW0 ▸ ((Below.refl _ w).alloc (Nat.le_refl _) _).alloc (by simp) _
  have hk1 : Bk W0 w.heap.size 24 #[.slice (some ⟨b, off, none⟩) n c] := hW0 ▸ (Bk.new w 24 _).alloc _
  have hk2 : Bk W0 (w.heap.size + 1) 31 #[.string ⟨#[]⟩, .string ⟨#[]⟩, .slice none 0 0, .slice none 0 0] := hW0 ▸ (by simpa using Bk.new (w.alloc (.cells #[.slice (some ⟨b, off, none⟩) n c] 24)) 31 #[.string ⟨#[]⟩, .string ⟨#[]⟩, .slice none 0 0, .slice none 0 0])
  have z1 : W0.cell? ⟨w.heap.size, 0, none⟩ = some (.slice (some ⟨b, off, none⟩) n c) := hk1.cell 0
  have l1 := hk1.lt
  have HB0 := Lib.hid hb0
  have HK1 := Lib.hid hk1
  have HK2 := Lib.hid hk2
  have HW0 := Lib.hid hW0
  have HA0 := Lib.hid (ha.below hb0 (Nat.le_refl _))
  have HSD := Lib.hid (said_any _ n c l hl (by omega) W0 HA0.out)
  rw [hs] at HSD
  clear hb0 hk1 hk2 hW0 ha hs hi1 hz0 hz1 hz2 hsf
  refine callsIn_wide.1 (callsIn_of_wp_marks (n := 5) Try.func32 rfl trivial ?_ rfl)
  refine wpIn_wide.2 ?_
  simp only [Try.ntmps32, List.size_toArray, List.length_cons, List.length_nil, Nat.reduceAdd, Nat.reduceSub, Array.replicate_succ, Array.replicate_zero, List.push_toArray, List.append_toArray, List.nil_append, List.cons_append]
  go_upto_region 1 with fail
  rw [HW0.out]
  clear HW0
  go_upto_region 3 with (go_at_call 45; refine (HSD.out).mono ?_; rintro e w1 ⟨rfl, hb1⟩; have HB1 := Lib.hid hb1; clear hb1)
  have HK11 := Lib.hid (HK1.out.below HB1.out HK1.out.lt)
  have HK21 := Lib.hid (HK2.out.below HB1.out HK2.out.lt)
  have HBW1 := Lib.hid (HB0.out.trans (HB1.out.mono HB0.out.size))
  have HA1 := Lib.hid (HA0.out.below HB1.out (Nat.le_refl _))
  have z1 : w1.cell? ⟨w.heap.size, 0, none⟩ = some (.slice (some ⟨b, off, none⟩) n c) := HK11.out.cell 0
  have l1 := HK11.out.lt
  have l2 := HK21.out.lt
  clear HK1 HK2 HB0 HSD HB1 HA0
  go_upto_region 4 with fail
  refine wp_gen (fun W => Below w1.heap.size w1 W ∧ Bk W w1.heap.size 31 (rkCells (List.replicate n zRk)).toArray ∧ Bk W (w1.heap.size + 1) 29 #[.slice (some ⟨w1.heap.size, 0, none⟩) n n]) ?start ?_
  case start =>
    exact ⟨((Below.refl _ _).alloc (Nat.le_refl _) _).alloc (by simp) _, (Bk.new w1 31 _).alloc _, by simpa using Bk.new (w1.alloc (.cells (rkCells (List.replicate n zRk)).toArray 31)) 29 #[.slice (some ⟨w1.heap.size, 0, none⟩) n n]⟩
  clear hmk
  rintro W2 ⟨hb2, hp2, ht2⟩
  have HP2 := Lib.hid hp2
  have HT2 := Lib.hid ht2
  have HK12 := Lib.hid (HK11.out.below hb2 HK11.out.lt)
  have HK22 := Lib.hid (HK21.out.below hb2 HK21.out.lt)
  have HBW2 := Lib.hid (HBW1.out.trans (hb2.mono HBW1.out.size))
  have HA2 := Lib.hid (HA1.out.below hb2 (Nat.le_refl _))
  have z2 : W2.cell? ⟨w.heap.size, 0, none⟩ = some (.slice (some ⟨b, off, none⟩) n c) := HK12.out.cell 0
  have l12 := HK12.out.lt
  have hPT := ht2.lt
  have hb1w : b < w1.heap.size := (nrow_at HA1.out (i := 0) (by omega)).lt
  obtain ⟨PB, hPB⟩ : ∃ p, w1.heap.size = p := ⟨_, rfl⟩
  rw [hPB] at HP2 HT2 l1 l2 hPT hb1w ⊢
  have HB12 := Lib.hid hb2
  rw [hPB] at HB12
  have hA1s : w1.heap.size ≤ PB := by omega
  clear hb2 hp2 ht2 HK11 HK21 HBW1 z1
  go_upto_region 4 with fail
  go_wp2_with (go_at_call 50; refine (back_any _ _ _ _).mono ?_; rintro e w3 ⟨rfl, rfl⟩)
  obtain ⟨Bs, hBs⟩ : ∃ p, W2.heap.size = p := ⟨_, rfl⟩
  refine wp_gen (fun W => Below W2.heap.size W2 W ∧ Bk W Bs 22 #[.slice (some ⟨b, off, none⟩) n c]) ⟨(Below.refl _ _).alloc (Nat.le_refl _) _, by rw [← hBs]; exact Bk.new W2 22 _⟩ ?_
  rw [hBs] at hPT l12 ⊢
  rintro W3 ⟨hb3, hs3⟩
  have HP3 := Lib.hid (HP2.out.below hb3 (by omega))
  have HT3 := Lib.hid (HT2.out.below hb3 (by omega))
  have HK13 := Lib.hid (HK12.out.below hb3 (by omega))
  have HK23 := Lib.hid (HK22.out.below hb3 (by omega))
  have HBW3 := Lib.hid (HBW2.out.trans (hb3.mono (by have := HBW2.out.size; omega)))
  have hb13 : Below PB w1 W3 := HB12.out.trans (hb3.mono (by omega))
  have HB13 := Lib.hid hb13
  have HS3 := Lib.hid hs3
  have hBs3 := hs3.lt
  obtain ⟨gv, hgv⟩ : ∃ gv : Nat → Value, ∀ i (h : i < l.length), w1.cell? ⟨b, off + i * 9 + 3, none⟩ = some (gv i) ∧ AVal w1 (gv i) (l[i]'h).attrs :=
    ⟨fun i => if h : i < l.length then Classical.choose (nrow_at HA1.out h).c3 else undef, fun i h => by dsimp only; rw [dif_pos h]; exact Classical.choose_spec (nrow_at HA1.out h).c3⟩
  obtain ⟨g, hg⟩ : ∃ g : Nat → Nd × Value, ∀ i (h : i < l.length), g i = (l[i]'h, gv i) := ⟨fun i => ((l[i]?).getD ⟨0, [], [], [], 0, 0, 0, 0, 0⟩, gv i), fun i h => by dsimp only; rw [List.getElem?_eq_getElem h]; rfl⟩
  have hsl : ∀ i, i < n → ∃ A k d, (g i).2 = .slice A k d := fun i h => by
    rw [hg i (by omega)]
    obtain ⟨A, d, e, -⟩ := (hgv i (by omega)).2.ex
    exact ⟨A, _, d, e⟩
  have hgc : ∀ i, i < n → ∀ j, j < 9 → W3.cell? ⟨b, off + i * 9 + j, none⟩ = (ndCells (g i).1 (g i).2)[j]? := fun i h j hj => by
    have hat := nrow_at HA1.out (i := i) (by omega)
    rw [hg i (by omega), hb13.cell (p := ⟨b, off + i * 9 + j, none⟩) hb1w]
    have hc : j = 0 ∨ j = 1 ∨ j = 2 ∨ j = 3 ∨ j = 4 ∨ j = 5 ∨ j = 6 ∨ j = 7 ∨ j = 8 := by omega
    rcases hc with rfl | rfl | rfl | rfl | rfl | rfl | rfl | rfl | rfl
    · exact hat.c0
    · exact hat.c1
    · exact hat.c2
    · exact (hgv i (by omega)).1
    · exact hat.c4
    · exact hat.c5
    · exact hat.c6
    · exact hat.c7
    · exact hat.c8
  have HG := Lib.hid hg
  have HGV := Lib.hid hgv
  have HSL := Lib.hid hsl
  have hw3 : w.heap.size ≤ W3.heap.size := HBW3.out.size
  have h0 : PInv l PB w W3 [] W3 := ⟨⟨List.replicate n zRk, by rw [List.map_replicate, ← hl]; rfl, HP3.out, fun q hq => by rw [(List.mem_replicate.1 hq).2]; exact ⟨AOk.nil _ _, QRes.nil _ _⟩⟩, Bx.refl _ _ _, HBW3.out⟩
  have H0 := Lib.hid h0
  have HGC := Lib.hid hgc
  clear hb3 hs3 hb13 HB12 HP2 HT2 HK12 HK22 HBW2 HA2 z2 hg hgv hsl h0 hgc l1 l12
  refine (wpIn_wide (n := 5)).1 ?_
  refine wpIn_rangeFunc_ownH rfl (by omega) (gf := 59) (lb := #[.pointer (some ⟨Bs, 0, none⟩)]) rfl trivial (enters_of Try.func59 (by kernel_rfl) rfl)
    (back_stops2 Fence.wide 4 trivial rfl (by omega) Bs PB W3.heap.size b off n c g (by omega) HSL.out hBs3 (by omega) (by omega) (by omega) W3 (Nat.le_refl _) (HS3.out.cell 0) HGC.out) (fun h k => h.trans k) (Bx.put (Nat.le_refl _)) (Below.refl _ _) (fun _ => rfl)
    (fun pre W => PInv l PB w W3 (pre.map fun x => x.1.1) W) (fun _ _ _ => False) (pinv_own _ (Nat.le_refl _) hw3) (fun _ _ _ _ _ hs _ _ => hs) H0.out
    (PAx W3.heap.size ?a1) (fun x a' => pax_own _ x a') ?assign ?body ?done ?stop
  case assign =>
    intro r pre x W K hI hK
    obtain ⟨A, k, d, hv⟩ := HSL.out x.1.1 x.2.1
    have hv' : x.1.2.2 = .slice A k d := by rw [x.2.2]; exact hv
    dsimp only [backEnc]
    clear hv
    have hW3 : W3.heap.size ≤ W.heap.size := hI.2.1.size
    gi_wp2
    obtain ⟨X, hX⟩ : ∃ p, W.heap.size = p := ⟨_, rfl⟩
    rw [hX]
    have hfin := hK _ (W.alloc (.cells (ndCells x.1.2.1 (.slice A k d)).toArray 68)) ((KeepsOthers.alloc _ _).from _) (Bx.of_below ((Below.refl _ W).alloc hW3 _)) ((pinv_own (fun pre : List (Bk3 g n) => pre.map fun x => x.1.1) (Nat.le_refl _) hw3).alloc _ hI) ⟨X, A, k, d, hv', by omega, by rw [← hX]; exact Bk.new W 68 _, rfl⟩
    exact hfin
  case stop =>
    rintro D cc pre W _ _ hx _
    exact hx.elim
  case done =>
    rintro D xs W hD hxs ⟨⟨rs, hrs⟩, hbx, hbw⟩ hK
    rw [hxs] at hrs
    have hrl := hrs.len
    have hwh := parts_whole HS.out
    rw [hl] at hwh
    have hpt := hrs.pts
    have h0l : 0 < rs.length := by omega
    obtain ⟨q, hq⟩ : ∃ q, rs[0]'h0l = q := ⟨_, rfl⟩
    have hq1 : q.1 = partF l n 0 := by
      have h1 : (rs.map (·.1))[0]? = some q.1 := by rw [List.getElem?_map, List.getElem?_eq_getElem h0l, hq]; rfl
      rw [hpt, hwh] at h1
      injection h1 with h1
      exact h1.symm
    have heach := hrs.each q (by rw [← hq]; exact List.getElem_mem _)
    have zc : ∀ o, o < 4 → W.cell? ⟨PB, o, none⟩ = (ptCells q)[o]? := fun o ho => by
      have := (hrs.bk.cell (0 * 4 + o)).trans (rk_get rs 0 h0l o ho)
      rw [hq] at this
      rwa [show 0 * 4 + o = o by omega] at this
    obtain ⟨⟨nm, tx, al, ks⟩, va, vk⟩ := q
    obtain ⟨ha1, ha2⟩ := heach
    have HA1' := Lib.hid ha1
    have HA2' := Lib.hid ha2
    obtain ⟨Aa, da, hva, -⟩ := ha1
    obtain ⟨Ak, dk, hvk, -⟩ := ha2
    dsimp only [Pt.attrs, Pt.kids] at hva hvk
    subst hva; subst hvk
    have z0 : W.cell? ⟨PB, 0, none⟩ = some (.string ⟨nm.toArray⟩) := zc 0 (by omega)
    have z1 : W.cell? ⟨PB, 1, none⟩ = some (.string ⟨tx.toArray⟩) := zc 1 (by omega)
    have z2 : W.cell? ⟨PB, 2, none⟩ = some (.slice Aa al.length da) := zc 2 (by omega)
    have z3 : W.cell? ⟨PB, 3, none⟩ = some (.slice Ak ks.length dk) := zc 3 (by omega)
    have hT := hbx.bk HT3.out (by omega) (by omega)
    have yT : W.cell? ⟨PB + 1, 0, none⟩ = some (.slice (some ⟨PB, 0, none⟩) n n) := hT.cell 0
    have lT := hT.lt
    have hR2 := hbx.bk HK23.out (by omega) (by omega)
    have r0 : W.cell? ⟨w.heap.size + 1, 0, none⟩ = some (.string ⟨#[]⟩) := hR2.cell 0
    have r1 : W.cell? ⟨w.heap.size + 1, 1, none⟩ = some (.string ⟨#[]⟩) := hR2.cell 1
    have r2 : W.cell? ⟨w.heap.size + 1, 2, none⟩ = some (.slice none 0 0) := hR2.cell 2
    have r3 : W.cell? ⟨w.heap.size + 1, 3, none⟩ = some (.slice none 0 0) := hR2.cell 3
    have s0 : W.frozen? ⟨w.heap.size + 1, 0, none⟩ = false := hR2.frozen 0
    have s1 : W.frozen? ⟨w.heap.size + 1, 1, none⟩ = false := hR2.frozen 1
    have s2 : W.frozen? ⟨w.heap.size + 1, 2, none⟩ = false := hR2.frozen 2
    have s3 : W.frozen? ⟨w.heap.size + 1, 3, none⟩ = false := hR2.frozen 3
    have lR := hR2.lt
    have lP := hrs.bk.lt
    have i0n : (0 : Int) < (n : Int) := by omega
    have HKD := Lib.hid hK
    have HBW := Lib.hid hbw
    have HQ1 := Lib.hid hq1
    have HR2 := Lib.hid hR2
    have HRS := Lib.hid hrs
    clear hrs hbx hbw hK hpt hwh zc hq hq1 hT hR2 hxs
    go_wp2
    have hDW : D < W.heap.size := (Array.getElem?_eq_some_iff.1 HKD.out).1
    have hDn : D ≠ w.heap.size + 1 := by omega
    obtain ⟨Wf, hWf⟩ : ∃ X, ((((W.setCell ⟨w.heap.size + 1, 0, none⟩ (.string ⟨nm.toArray⟩)).setCell ⟨w.heap.size + 1, 1, none⟩ (.string ⟨tx.toArray⟩)).setCell ⟨w.heap.size + 1, 2, none⟩ (.slice Aa al.length da)).setCell ⟨w.heap.size + 1, 3, none⟩ (.slice Ak ks.length dk)) = X := ⟨_, rfl⟩
    have hbf : Bk Wf (w.heap.size + 1) 31 #[.string ⟨nm.toArray⟩, .string ⟨tx.toArray⟩, .slice Aa al.length da, .slice Ak ks.length dk] := by
      have := (((HR2.out.set_ 0 (.string ⟨nm.toArray⟩)).set_ 1 (.string ⟨tx.toArray⟩)).set_ 2 (.slice Aa al.length da)).set_ 3 (.slice Ak ks.length dk)
      rw [hWf] at this
      simpa using this
    have hoth : ∀ kk, kk ≠ w.heap.size + 1 → Wf.heap[kk]? = W.heap[kk]? := fun kk hk => by
      rw [← hWf]
      exact (Below.heap_setCell _ ⟨w.heap.size + 1, 3, none⟩ _ kk hk).trans ((Below.heap_setCell _ ⟨w.heap.size + 1, 2, none⟩ _ kk hk).trans ((Below.heap_setCell _ ⟨w.heap.size + 1, 1, none⟩ _ kk hk).trans (Below.heap_setCell _ ⟨w.heap.size + 1, 0, none⟩ _ kk hk)))
    have hbelow : Below w.heap.size w Wf := by
      rw [← hWf]
      exact (((HBW.out.setCell (p := ⟨w.heap.size + 1, 0, none⟩) (Nat.le_succ _) _).setCell (p := ⟨w.heap.size + 1, 1, none⟩) (Nat.le_succ _) _).setCell (p := ⟨w.heap.size + 1, 2, none⟩) (Nat.le_succ _) _).setCell (p := ⟨w.heap.size + 1, 3, none⟩) (Nat.le_succ _) _
    rw [hWf]
    have hKf : Wf.heap[D]? = some (.deferred (some [])) := (hoth D hDn).trans HKD.out
    refine ⟨by simp, .inl ⟨_, _, rfl, run_takeDeferred hKf, ?_⟩⟩
    have hbg : Bk (Wf.putObj D (.deferred none)) (w.heap.size + 1) 31 #[.string ⟨nm.toArray⟩, .string ⟨tx.toArray⟩, .slice Aa al.length da, .slice Ak ks.length dk] := (World.putObj_heap_other hDn.symm).trans hbf
    have c0 : (Wf.putObj D (.deferred none)).cell? ⟨w.heap.size + 1, 0, none⟩ = some (.string ⟨nm.toArray⟩) := hbg.cell 0
    have c1 : (Wf.putObj D (.deferred none)).cell? ⟨w.heap.size + 1, 1, none⟩ = some (.string ⟨tx.toArray⟩) := hbg.cell 1
    have c2 : (Wf.putObj D (.deferred none)).cell? ⟨w.heap.size + 1, 2, none⟩ = some (.slice Aa al.length da) := hbg.cell 2
    have c3 : (Wf.putObj D (.deferred none)).cell? ⟨w.heap.size + 1, 3, none⟩ = some (.slice Ak ks.length dk) := hbg.cell 3
    have same : ∀ kk, SC W PB kk → (Wf.putObj D (.deferred none)).heap[kk]? = W.heap[kk]? := fun kk hk => by
      obtain ⟨h1, o, h2, h3⟩ := hk
      have hkD : kk ≠ D := fun e => by subst e; rw [HKD.out] at h2; cases h2; cases h3
      exact (World.putObj_heap_other hkD).trans (hoth kk (by omega))
    have hsm : ∀ kk, SC W PB kk → w.heap.size ≤ kk := fun kk hk => by have := hk.1; omega
    refine ⟨.agg #[.string ⟨nm.toArray⟩, .string ⟨tx.toArray⟩, .slice Aa al.length da, .slice Ak ks.length dk], ?_, ?_⟩
    · simp [results, Try.results32, go_sem, c0, c1, c2, c3, Result.andThen]
    · rw [← HQ1.out]
      exact ⟨_, _, rfl, HA1'.out.map hsm same, HA2'.out.map hsm same, hbelow.trans (belowK_b (w := w) (Nat.le_refl _) _ D _ _ (by omega) hKf rfl rfl)⟩
  case body =>
    rintro r pre x a' W hlr ⟨rr, hrr⟩ ⟨⟨rs, hrs⟩, hbx, hbw⟩ ⟨X, A, k, d, hva, hX, hxk, rfl⟩ hlen
    obtain ⟨⟨i, nd, va⟩, hi, hgx⟩ := x
    dsimp only at hi hgx hva hxk
    have hil : i < l.length := by omega
    rw [HG.out i hil] at hgx
    obtain ⟨rfl, rfl⟩ : nd = l[i]'hil ∧ va = gv i := by injection hgx with h1 h2; exact ⟨h1, h2⟩
    have hbP : Below PB w1 W := ⟨hbx.os.trans HB13.out.os, hbx.tape.trans HB13.out.tape, hbx.output.trans HB13.out.output, Nat.le_trans HB13.out.size hbx.size, fun q hq => (hbx.block q (by omega) (by omega)).trans (HB13.out.block q hq)⟩
    have hat := (HGV.out i hil).2.below hbP hA1s
    rw [hva] at hat
    have hal : (l[i]'hil).attrs.length ≤ 4398046511104 := by obtain ⟨_, _, _, _, _, h6, _⟩ := hat.ex; exact h6
    have hrowW := HA1.out.below hbP hA1s
    have hT := hbx.bk HT3.out (by omega) (by omega)
    have hK1 := hbx.bk HK13.out (by omega) (by omega)
    have hxl := hxk.lt
    have hPl := hrs.bk.lt
    obtain ⟨nd, hnd⟩ : ∃ y, l[i]'hil = y := ⟨_, rfl⟩
    rw [hnd] at hat hxk hal
    have HND := Lib.hid hnd
    have y1 : W.cell? ⟨X, 1, none⟩ = some (.string ⟨nd.name.toArray⟩) := hxk.cell 1
    have y2 : W.cell? ⟨X, 2, none⟩ = some (.string ⟨nd.text.toArray⟩) := hxk.cell 2
    have y3 : W.cell? ⟨X, 3, none⟩ = some (.slice A k d) := hxk.cell 3
    have yT : W.cell? ⟨PB + 1, 0, none⟩ = some (.slice (some ⟨PB, 0, none⟩) n n) := hT.cell 0
    have lT : PB + 1 < W.heap.size := hT.lt
    have hW3 : W3.heap.size ≤ W.heap.size := hbx.size
    have eX := fun y b o => ext_cell W.heap.size W y b o
    have i1 : (i : Int) < (n : Int) := by omega
    have HC := Lib.hid (copied_any (.slice A k d) nd.attrs W.drew (hat.below ((Below.refl W.heap.size W).drew) (Nat.le_refl _)))
    have HRS := Lib.hid hrs
    have HBX := Lib.hid hbx
    have HBWW := Lib.hid hbw
    have HROW := Lib.hid hrowW
    have HT := Lib.hid hT
    have HKK := Lib.hid hK1
    clear hrs hbx hbw hgx hva hbP hat hrowW hT hK1 hnd hxk
    gi_wp2
    refine region_T (fun w' => ∃ y, w' = ext W.heap.size W y) 10 (by kernel_rfl) (by decide) ?_
    refine wpT_take 0 rfl (by kernel_rfl) (by kernel_rfl) (by omega) (by kernel_rfl) ?_; dsimp only [List.getElem_toArray, List.getElem_cons_zero, List.getElem_cons_succ]; go_big_quiet_step (fail); refine wpQuiet_nil ?_
    refine wpT_take 1 rfl (by kernel_rfl) (by kernel_rfl) (by omega) (by kernel_rfl) ?_; dsimp only [List.getElem_toArray, List.getElem_cons_zero, List.getElem_cons_succ]; go_big_quiet_step (fail); refine wpQuiet_nil ?_
    refine wpT_take 2 rfl (by kernel_rfl) (by kernel_rfl) (by omega) (by kernel_rfl) ?_; dsimp only [List.getElem_toArray, List.getElem_cons_zero, List.getElem_cons_succ]; go_big_quiet_step (fail); refine wpQuiet_nil ?_
    refine wpT_take 3 rfl (by kernel_rfl) (by kernel_rfl) (by omega) (by kernel_rfl) ?_; dsimp only [List.getElem_toArray, List.getElem_cons_zero, List.getElem_cons_succ]; go_big_quiet_step (fail); refine wpQuiet_nil ?_
    refine wpT_take 4 rfl (by kernel_rfl) (by kernel_rfl) (by omega) (by kernel_rfl) ?_; dsimp only [List.getElem_toArray, List.getElem_cons_zero, List.getElem_cons_succ]; go_big_quiet_step (fail); refine wpQuiet_nil ?_
    refine wpT_take 5 rfl (by kernel_rfl) (by kernel_rfl) (by omega) (by kernel_rfl) ?_; dsimp only [List.getElem_toArray, List.getElem_cons_zero, List.getElem_cons_succ]; go_big_quiet_step (fail); refine wpQuiet_nil ?_
    refine wpT_take 6 rfl (by kernel_rfl) (by kernel_rfl) (by omega) (by kernel_rfl) ?_; dsimp only [List.getElem_toArray, List.getElem_cons_zero, List.getElem_cons_succ]; go_big_quiet_step (fail); refine wpQuiet_nil ?_
    refine wpT_take 7 rfl (by kernel_rfl) (by kernel_rfl) (by omega) (by kernel_rfl) ?_; dsimp only [List.getElem_toArray, List.getElem_cons_zero, List.getElem_cons_succ]; go_big_quiet_step (fail); refine wpQuiet_nil ?_
    refine wpT_alone 8 rfl (by kernel_rfl) (by omega) (of_below (Below.refl _ _).drew) ?_
    gi_wp2_with (refine ⟨trivial, ?_⟩; gi_at_call 40; refine (CallsIn.inRound r (callsIn_wide.2 HC.out)).mono ?_; rintro e w5 ⟨v', rfl, hov, hb5⟩; obtain ⟨A', c', rfl⟩ := own_form hov; have HOV := Lib.hid hov; have HB5 := Lib.hid ((Below.refl W.heap.size W).drew.trans hb5); clear hov hb5)
    refine only_on ?_
    refine wpT_take 9 rfl (by kernel_rfl) (by kernel_rfl) (by omega) (by kernel_rfl) ?_; dsimp only [List.getElem_toArray, List.getElem_cons_zero, List.getElem_cons_succ]; go_big_quiet_step (fail); refine wpQuiet_nil ?_
    refine wpT_over (by kernel_rfl) (of_below HB5.out) ?_
    have hrl := HRS.out.len
    have hpb5 := HRS.out.bk.below HB5.out (by omega)
    have hc0 : ∀ o, w5.cell? ⟨PB, o, none⟩ = (rkCells rs).toArray[o]? := fun o => hpb5.cell o
    have hf0 : ∀ o, w5.frozen? ⟨PB, o, none⟩ = false := fun o => hpb5.frozen o
    have hsz : (rkCells rs).toArray.size = n * 4 := by rw [List.size_toArray, rkCells_length]; omega
    obtain ⟨cs, hcs⟩ : ∃ cs, (rkCells rs).toArray = cs := ⟨_, rfl⟩
    rw [hcs] at hc0 hsz
    have g0 : ∃ u, w5.cell? ⟨PB, i * 4, none⟩ = some u := ⟨_, (hc0 _).trans (Array.getElem?_eq_getElem (by omega))⟩
    have g1 : ∃ u, w5.cell? ⟨PB, i * 4 + 1, none⟩ = some u := ⟨_, (hc0 _).trans (Array.getElem?_eq_getElem (by omega))⟩
    have g2 : ∃ u, w5.cell? ⟨PB, i * 4 + 2, none⟩ = some u := ⟨_, (hc0 _).trans (Array.getElem?_eq_getElem (by omega))⟩
    have g3 : ∃ u, w5.cell? ⟨PB, i * 4 + 3, none⟩ = some u := ⟨_, (hc0 _).trans (Array.getElem?_eq_getElem (by omega))⟩
    obtain ⟨u0, g0⟩ := g0
    obtain ⟨u1, g1⟩ := g1
    obtain ⟨u2, g2⟩ := g2
    obtain ⟨u3, g3⟩ := g3
    have f0 := hf0 (i * 4)
    have f1 := hf0 (i * 4 + 1)
    have f2 := hf0 (i * 4 + 2)
    have f3 := hf0 (i * 4 + 3)
    have l5 := hpb5.lt
    have HPB5 := Lib.hid hpb5
    have HCS := Lib.hid hcs
    clear hpb5 hc0 hf0 hcs
    refine anyIn_alone 10 rfl (by kernel_rfl) ?_
    gi_wp2
    refine only_on ?_
    refine anyIn_alone 11 rfl (by kernel_rfl) ?_
    gi_wp2
    refine only_on ?_
    refine anyIn_end (by kernel_rfl) ?_
    have hbk7 := (((HPB5.out.set_ (i * 4) (str nd.name)).set_ (i * 4 + 1) (str nd.text)).set_ (i * 4 + 2) (.slice A' nd.attrs.length c')).set_ (i * 4 + 3) (.slice none 0 0)
    have hin0 : Inner PB rs W i nd.name nd.text nd.attrs [] (.slice none 0 0) (.slice A' nd.attrs.length c') [] (.slice none 0 0) ((((w5.setCell ⟨PB, i * 4, none⟩ (str nd.name)).setCell ⟨PB, i * 4 + 1, none⟩ (str nd.text)).setCell ⟨PB, i * 4 + 2, none⟩ (.slice A' nd.attrs.length c')).setCell ⟨PB, i * 4 + 3, none⟩ (.slice none 0 0)) := by
      refine ⟨?_, World.ownsRow_nil _ _ _ _, ?_, World.ownsRow_nil _ _ _ _, ((((Bx.of_below HB5.out).set_ _ _).set_ _ _).set_ _ _).set_ _ _⟩
      · rw [rk_set rs i (by omega)]; exact hbk7
      · have hl : PB < W.heap.size := hPl
        exact ownsRow_setCell_below (ownsRow_setCell_below (ownsRow_setCell_below (ownsRow_setCell_below HOV.out (a := ⟨PB, i * 4, none⟩) hl _) (a := ⟨PB, i * 4 + 1, none⟩) hl _) (a := ⟨PB, i * 4 + 2, none⟩) hl _) (a := ⟨PB, i * 4 + 3, none⟩) hl _
    refine exit_gen (Inner PB rs W i nd.name nd.text nd.attrs [] (.slice none 0 0) (.slice A' nd.attrs.length c') [] (.slice none 0 0)) hin0 ?_
    clear hbk7 hin0 HPB5 HCS HB5 HOV HC g0 g1 g2 g3 f0 f1 f2 f3 l5 hsz y1 y2 y3 yT
    rintro W7 hin7
    have hk17 := hin7.bx.bk HKK.out (by omega) (by omega)
    have x7 : W7.cell? ⟨w.heap.size, 0, none⟩ = some (.slice (some ⟨b, off, none⟩) n c) := hk17.cell 0
    have l7 := hk17.lt
    have hrow7 := HA1.out.below (low_of HB13.out (HBX.out.trans (hin7.bx.mono hW3)) (by omega)) hA1s
    have HIN7 := Lib.hid hin7
    have HKC := Lib.hid (kids_any _ n c l hl (by omega) HS.out i (by omega) W7 hrow7)
    obtain ⟨K, hK⟩ : ∃ K, kidsOf (par l) n i = K := ⟨_, rfl⟩
    rw [hK] at HKC
    have hKn : K.length ≤ n := by rw [← hK]; exact kids_len _ _ _
    have HKE := Lib.hid hK
    clear hin7 hk17 hrow7 hK
    gi_wp2_with (refine ⟨trivial, ?_⟩; gi_at_call 15; refine (CallsIn.inRound r (callsIn_wide.2 HKC.out)).mono ?_; rintro e w8 ⟨kv, rfl, hown, hb8⟩; obtain ⟨A8, c8, rfl⟩ := own_form hown; have HOWN := Lib.hid hown; have HB8 := Lib.hid hb8; clear hown hb8)
    have hin8 : Inner PB rs W i nd.name nd.text nd.attrs K (.slice A8 K.length c8) (.slice A' nd.attrs.length c') [] (.slice none 0 0) w8 := by
      have h := HIN7.out.below HB8.out
      exact ⟨h.bk, h.own, h.att, own_less HOWN.out (HIN7.out.bx.size), h.bx⟩
    have HIN8 := Lib.hid hin8
    clear hin8 HIN7 HKC HOWN HB8 x7 l7
    gi_loopw [37] (fun kx wr => ∃ j : Nat, j ≤ K.length ∧ kx = .int .i64 (j : Int) ∧ ∃ vk, Inner PB rs W i nd.name nd.text nd.attrs K (.slice A8 K.length c8) (.slice A' nd.attrs.length c') ((K.take j).map fun x => rs.getD x zRk) vk wr) (fun kx wr => K.length - (intOf kx).toNat)
    case atStart => exact ⟨0, Nat.zero_le _, rfl, _, HIN8.out⟩
    case round =>
      obtain ⟨j, hj, rfl, vk, hin⟩ := hrel
      clear HIN8
      by_cases hlt : j < K.length
      · have i2 : (j : Int) < (K.length : Int) := by omega
        obtain ⟨g8, c8', hv8, hg8, -, hcells⟩ := own_at hin.kid (by omega)
        injection hv8 with hv1 hv2 hv3
        subst hv1; subst hv3
        obtain ⟨x, hxe⟩ : ∃ x, K[j]'hlt = x := ⟨_, rfl⟩
        have gk : wr.cell? ⟨g8, j, none⟩ = some (.int .i64 (x : Int)) := hcells j _ (by unfold ints; rw [List.getElem?_map, List.getElem?_eq_getElem hlt, hxe]; rfl)
        have lk : g8 < wr.heap.size := World.block_lt_of_cell? _ _ gk
        have hxm : x ∈ kidsOf (par l) n (i : Int) := by rw [HKE.out, ← hxe]; exact List.getElem_mem hlt
        have hxn := (kidsOf_lt hxm).1
        have hix : i < x := said_kids HS.out i x (by rw [hl]; exact hxm)
        obtain ⟨R, hR⟩ : ∃ R, ((K.take j).map fun x => rs.getD x zRk) = R := ⟨_, rfl⟩
        have hRl : R.length = j := by rw [← hR, List.length_map, List.length_take]; omega
        have hRs : ((K.take (j + 1)).map fun x => rs.getD x zRk) = R ++ [rs.getD x zRk] := by rw [List.take_succ_eq_append_getElem hlt, List.map_append, hR, hxe]; rfl
        have hrl2 := HRS.out.len
        obtain ⟨q, hq⟩ : ∃ q, rs.getD x zRk = q := ⟨_, rfl⟩
        have hqx : rs[x]'(by omega) = q := by rw [← hq, List.getD_eq_getElem?_getD, List.getElem?_eq_getElem (by omega)]; rfl
        obtain ⟨ha1, ha2⟩ := HRS.out.each q (by rw [← hqx]; exact List.getElem_mem _)
        rw [hq] at hRs
        rw [hR] at hin
        obtain ⟨⟨nm2, tx2, al2, ks2⟩, va2, vk2⟩ := q
        obtain ⟨A2, d2, hva2, -⟩ := ha1
        obtain ⟨A3, d3, hvk2, -⟩ := ha2
        dsimp only [Pt.attrs, Pt.kids] at hva2 hvk2
        subst hva2; subst hvk2
        obtain ⟨Ak, ck, hvk⟩ := own_form hin.own
        rw [hRl] at hvk
        subst hvk
        have HIN := Lib.hid hin
        have HQX := Lib.hid hqx
        have HRE := Lib.hid hRs
        have HRL := Lib.hid hRl
        clear hin hqx hRs hR hcells hxm hq hxe
        gi_wp2
        have hmx : Try.prog.follows .mixedOrders = true := by kernel_rfl
        gi_region_with_o (fail)
        · refine exit_gen (fun W => Below wr.heap.size wr W) (((Below.refl _ _).alloc (Nat.le_refl _) _).drew) ?_
          rintro w9 hb9
          have hin9 := HIN.out.below hb9
          have hWr := HIN.out.bx.size
          have h9s : W.heap.size ≤ w9.heap.size := hin9.bx.size
          have hT9 := hin9.bx.bk HT.out lT (by omega)
          have zT : w9.cell? ⟨PB + 1, 0, none⟩ = some (.slice (some ⟨PB, 0, none⟩) n n) := hT9.cell 0
          have hrl3 := HRS.out.len
          have zc : ∀ y (hy : y < (rs.set i (Pt.mk nd.name nd.text nd.attrs (R.map (·.1)), Value.slice A' nd.attrs.length c', Value.slice Ak j ck)).length) o, o < 4 → w9.cell? ⟨PB, y * 4 + o, none⟩ = (ptCells ((rs.set i (Pt.mk nd.name nd.text nd.attrs (R.map (·.1)), Value.slice A' nd.attrs.length c', Value.slice Ak j ck))[y]'hy))[o]? := fun y hy o ho => (hin9.bk.cell _).trans (rk_get _ y hy o ho)
          have hsl2 : (rs.set i (Pt.mk nd.name nd.text nd.attrs (R.map (·.1)), Value.slice A' nd.attrs.length c', Value.slice Ak j ck)).length = n := by rw [List.length_set]; omega
          have zk : w9.cell? ⟨PB, i * 4 + 3, none⟩ = some (.slice Ak j ck) := by
            rw [zc i (by omega) 3 (by omega), List.getElem_set_self]; rfl
          have zx : ∀ o, o < 4 → w9.cell? ⟨PB, x * 4 + o, none⟩ = (ptCells (Pt.mk nm2 tx2 al2 ks2, Value.slice A2 al2.length d2, Value.slice A3 ks2.length d3))[o]? := fun o ho => by
            rw [zc x (by omega) o ho, List.getElem_set_ne (by omega), HQX.out]
          have zx0 : w9.cell? ⟨PB, x * 4, none⟩ = some (.string ⟨nm2.toArray⟩) := zx 0 (by omega)
          have zx1 : w9.cell? ⟨PB, x * 4 + 1, none⟩ = some (.string ⟨tx2.toArray⟩) := zx 1 (by omega)
          have zx2 : w9.cell? ⟨PB, x * 4 + 2, none⟩ = some (.slice A2 al2.length d2) := zx 2 (by omega)
          have zx3 : w9.cell? ⟨PB, x * 4 + 3, none⟩ = some (.slice A3 ks2.length d3) := zx 3 (by omega)
          have eX := fun y b o => ext_cell W.heap.size w9 y b o
          have hPT2 : PB < W.heap.size := hPl
          have ix1 : (x : Int) < (n : Int) := by omega
          have HIN9 := Lib.hid hin9
          have hown9 := hin9.own
          rw [HRL.out] at hown9
          have HOWN9 := Lib.hid hown9
          have hgrl := HRL.out
          clear hb9 hin9 hT9 zc zx gk lk hown9
          gi_wp2
          refine region_T (fun w' => ∃ y, w' = ext W.heap.size w9 y) 13 (by kernel_rfl) (by decide) ?_
          refine wpT_take 0 rfl (by kernel_rfl) (by kernel_rfl) (by omega) (by kernel_rfl) ?_; dsimp only [List.getElem_toArray, List.getElem_cons_zero, List.getElem_cons_succ]; go_big_quiet_step (fail); refine wpQuiet_nil ?_
          refine wpT_take 1 rfl (by kernel_rfl) (by kernel_rfl) (by omega) (by kernel_rfl) ?_; dsimp only [List.getElem_toArray, List.getElem_cons_zero, List.getElem_cons_succ]; go_big_quiet_step (fail); refine wpQuiet_nil ?_
          refine wpT_take 2 rfl (by kernel_rfl) (by kernel_rfl) (by omega) (by kernel_rfl) ?_; dsimp only [List.getElem_toArray, List.getElem_cons_zero, List.getElem_cons_succ]; go_big_quiet_step (fail); refine wpQuiet_nil ?_
          refine wpT_take 3 rfl (by kernel_rfl) (by kernel_rfl) (by omega) (by kernel_rfl) ?_; dsimp only [List.getElem_toArray, List.getElem_cons_zero, List.getElem_cons_succ]; go_big_quiet_step (fail); refine wpQuiet_nil ?_
          refine wpT_take 4 rfl (by kernel_rfl) (by kernel_rfl) (by omega) (by kernel_rfl) ?_; dsimp only [List.getElem_toArray, List.getElem_cons_zero, List.getElem_cons_succ]; go_big_quiet_step (fail); refine wpQuiet_nil ?_
          refine wpT_take 5 rfl (by kernel_rfl) (by kernel_rfl) (by omega) (by kernel_rfl) ?_; dsimp only [List.getElem_toArray, List.getElem_cons_zero, List.getElem_cons_succ]; go_big_quiet_step (fail); refine wpQuiet_nil ?_
          refine wpT_take 6 rfl (by kernel_rfl) (by kernel_rfl) (by omega) (by kernel_rfl) ?_; dsimp only [List.getElem_toArray, List.getElem_cons_zero, List.getElem_cons_succ]; go_big_quiet_step (fail); refine wpQuiet_nil ?_
          refine wpT_take 7 rfl (by kernel_rfl) (by kernel_rfl) (by omega) (by kernel_rfl) ?_; dsimp only [List.getElem_toArray, List.getElem_cons_zero, List.getElem_cons_succ]; go_big_quiet_step (fail); refine wpQuiet_nil ?_
          refine wpT_take 8 rfl (by kernel_rfl) (by kernel_rfl) (by omega) (by kernel_rfl) ?_; dsimp only [List.getElem_toArray, List.getElem_cons_zero, List.getElem_cons_succ]; go_big_quiet_step (fail); refine wpQuiet_nil ?_
          refine wpT_take 9 rfl (by kernel_rfl) (by kernel_rfl) (by omega) (by kernel_rfl) ?_; dsimp only [List.getElem_toArray, List.getElem_cons_zero, List.getElem_cons_succ]; go_big_quiet_step (fail); refine wpQuiet_nil ?_
          refine wpT_take 10 rfl (by kernel_rfl) (by kernel_rfl) (by omega) (by kernel_rfl) ?_; dsimp only [List.getElem_toArray, List.getElem_cons_zero, List.getElem_cons_succ]; go_big_quiet_step (fail); refine wpQuiet_nil ?_
          refine wpT_alone 11 rfl (by kernel_rfl) (by omega) (of_below (Below.refl _ _).drew) ?_
          gi_wp2
          refine only_on ?_
          refine wpT_alone 12 rfl (by kernel_rfl) (by omega) (of_below ((Below.refl _ _).drew.alloc h9s _)) ?_
          dsimp only [List.getElem_toArray, List.getElem_cons_zero, List.getElem_cons_succ]
          refine wpListIn_append_own _ rfl (.tmp 64) (.tmp 69) 29 rfl W.heap.size 31 ti _ 4 80 Try.underlying29 HI1.out HZ0.out HZ1.out HZ2.out rfl (by decide) (.slice Ak j ck) j (rkCells R) rfl (own_low HOWN9.out (((Below.refl _ _).alloc (Nat.le_refl _) _).drew)) ⟨w9.heap.size, 0, none⟩ 1 1 [.string ⟨nm2.toArray⟩, .string ⟨tx2.toArray⟩, .slice A2 al2.length d2, .slice A3 ks2.length d3] rfl rfl (fun jj uu hh => news_lit w9 31 [.string ⟨nm2.toArray⟩, .string ⟨tx2.toArray⟩, .slice A2 al2.length d2, .slice A3 ks2.length d3] jj uu hh) (by simp [Value.oneCell']) (by unfold maxLen; omega) (by omega) (by simp; omega) ?_
          intro v' w10 hown' hgrow _
          obtain ⟨g', cap', rfl⟩ := ownsRow_succ hown'
          have HGR := Lib.hid (show w9.grownBy w10 (Value.slice Ak j ck).ownBlock from grown_two (World.grownBy_alloc w9 _ none) ⟨hgrow.os, hgrow.tape, hgrow.output, hgrow.size, hgrow.block⟩)
          have HON := Lib.hid hown'
          clear hown' hgrow
          gi_wp2
          refine only_on ?_
          have hb10 : Below W.heap.size w9 w10 := (Below.refl W.heap.size w9).grown HGR.out h9s (fun g e => (HIN9.out.own.lt g e).1)
          have hne10 : some PB ≠ (Value.slice Ak j ck).ownBlock := fun e => by have := (HIN9.out.own.lt PB e.symm).1; omega
          have hbk10 := HIN9.out.bk.grown HGR.out hne10
          have zk10 : w10.cell? ⟨PB, i * 4 + 3, none⟩ = some (.slice Ak j ck) := by
            rw [hbk10.cell, rk_get _ i (by omega) 3 (by omega), List.getElem_set_self]; rfl
          have zf10 : w10.frozen? ⟨PB, i * 4 + 3, none⟩ = false := hbk10.frozen _
          have zl10 := hbk10.lt
          clear hbk10 hne10
          refine wpT_over (by kernel_rfl) (of_below hb10) ?_
          clear hb10 zT zk zx0 zx1 zx2 zx3 eX
          refine anyIn_alone 13 rfl (by kernel_rfl) ?_
          gi_wp2
          refine only_on ?_
          refine anyIn_alone 14 rfl (by kernel_rfl) ?_
          gi_wp2
          refine only_on ?_
          refine anyIn_alone 15 rfl (by kernel_rfl) ?_
          gi_wp2
          refine only_on ?_
          refine anyIn_end (by kernel_rfl) ?_
          have hend := HIN9.out.step hPT2 (by omega) (Pt.mk nm2 tx2 al2 ks2, Value.slice A2 al2.length d2, Value.slice A3 ks2.length d3) HGR.out (by rw [HRL.out]; exact HON.out)
          have HEND := Lib.hid hend
          clear hend
          gi_wp2
          go_roundw
          case rel => exact ⟨j + 1, by omega, by go_num, _, by rw [HRE.out]; exact HEND.out⟩
          case measure => simp [intOf]; omega
        · refine exit_gen (fun W => Below wr.heap.size wr W) (((Below.refl _ _).alloc (Nat.le_refl _) _).drew) ?_
          rintro w9 hb9
          have hin9 := HIN.out.below hb9
          have hWr := HIN.out.bx.size
          have h9s : W.heap.size ≤ w9.heap.size := hin9.bx.size
          have hT9 := hin9.bx.bk HT.out lT (by omega)
          have zT : w9.cell? ⟨PB + 1, 0, none⟩ = some (.slice (some ⟨PB, 0, none⟩) n n) := hT9.cell 0
          have hrl3 := HRS.out.len
          have zc : ∀ y (hy : y < (rs.set i (Pt.mk nd.name nd.text nd.attrs (R.map (·.1)), Value.slice A' nd.attrs.length c', Value.slice Ak j ck)).length) o, o < 4 → w9.cell? ⟨PB, y * 4 + o, none⟩ = (ptCells ((rs.set i (Pt.mk nd.name nd.text nd.attrs (R.map (·.1)), Value.slice A' nd.attrs.length c', Value.slice Ak j ck))[y]'hy))[o]? := fun y hy o ho => (hin9.bk.cell _).trans (rk_get _ y hy o ho)
          have hsl2 : (rs.set i (Pt.mk nd.name nd.text nd.attrs (R.map (·.1)), Value.slice A' nd.attrs.length c', Value.slice Ak j ck)).length = n := by rw [List.length_set]; omega
          have zk : w9.cell? ⟨PB, i * 4 + 3, none⟩ = some (.slice Ak j ck) := by
            rw [zc i (by omega) 3 (by omega), List.getElem_set_self]; rfl
          have zx : ∀ o, o < 4 → w9.cell? ⟨PB, x * 4 + o, none⟩ = (ptCells (Pt.mk nm2 tx2 al2 ks2, Value.slice A2 al2.length d2, Value.slice A3 ks2.length d3))[o]? := fun o ho => by
            rw [zc x (by omega) o ho, List.getElem_set_ne (by omega), HQX.out]
          have zx0 : w9.cell? ⟨PB, x * 4, none⟩ = some (.string ⟨nm2.toArray⟩) := zx 0 (by omega)
          have zx1 : w9.cell? ⟨PB, x * 4 + 1, none⟩ = some (.string ⟨tx2.toArray⟩) := zx 1 (by omega)
          have zx2 : w9.cell? ⟨PB, x * 4 + 2, none⟩ = some (.slice A2 al2.length d2) := zx 2 (by omega)
          have zx3 : w9.cell? ⟨PB, x * 4 + 3, none⟩ = some (.slice A3 ks2.length d3) := zx 3 (by omega)
          have eX := fun y b o => ext_cell W.heap.size w9 y b o
          have hPT2 : PB < W.heap.size := hPl
          have ix1 : (x : Int) < (n : Int) := by omega
          have HIN9 := Lib.hid hin9
          have hown9 := hin9.own
          rw [HRL.out] at hown9
          have HOWN9 := Lib.hid hown9
          have hgrl := HRL.out
          clear hb9 hin9 hT9 zc zx gk lk hown9
          gi_wp2
          refine region_T (fun w' => ∃ y, w' = ext W.heap.size w9 y) 11 (by kernel_rfl) (by decide) ?_
          refine wpT_take 0 rfl (by kernel_rfl) (by kernel_rfl) (by omega) (by kernel_rfl) ?_; dsimp only [List.getElem_toArray, List.getElem_cons_zero, List.getElem_cons_succ]; go_big_quiet_step (fail); refine wpQuiet_nil ?_
          refine wpT_take 1 rfl (by kernel_rfl) (by kernel_rfl) (by omega) (by kernel_rfl) ?_; dsimp only [List.getElem_toArray, List.getElem_cons_zero, List.getElem_cons_succ]; go_big_quiet_step (fail); refine wpQuiet_nil ?_
          refine wpT_take 2 rfl (by kernel_rfl) (by kernel_rfl) (by omega) (by kernel_rfl) ?_; dsimp only [List.getElem_toArray, List.getElem_cons_zero, List.getElem_cons_succ]; go_big_quiet_step (fail); refine wpQuiet_nil ?_
          refine wpT_take 3 rfl (by kernel_rfl) (by kernel_rfl) (by omega) (by kernel_rfl) ?_; dsimp only [List.getElem_toArray, List.getElem_cons_zero, List.getElem_cons_succ]; go_big_quiet_step (fail); refine wpQuiet_nil ?_
          refine wpT_take 4 rfl (by kernel_rfl) (by kernel_rfl) (by omega) (by kernel_rfl) ?_; dsimp only [List.getElem_toArray, List.getElem_cons_zero, List.getElem_cons_succ]; go_big_quiet_step (fail); refine wpQuiet_nil ?_
          refine wpT_take 5 rfl (by kernel_rfl) (by kernel_rfl) (by omega) (by kernel_rfl) ?_; dsimp only [List.getElem_toArray, List.getElem_cons_zero, List.getElem_cons_succ]; go_big_quiet_step (fail); refine wpQuiet_nil ?_
          refine wpT_take 6 rfl (by kernel_rfl) (by kernel_rfl) (by omega) (by kernel_rfl) ?_; dsimp only [List.getElem_toArray, List.getElem_cons_zero, List.getElem_cons_succ]; go_big_quiet_step (fail); refine wpQuiet_nil ?_
          refine wpT_take 7 rfl (by kernel_rfl) (by kernel_rfl) (by omega) (by kernel_rfl) ?_; dsimp only [List.getElem_toArray, List.getElem_cons_zero, List.getElem_cons_succ]; go_big_quiet_step (fail); refine wpQuiet_nil ?_
          refine wpT_take 8 rfl (by kernel_rfl) (by kernel_rfl) (by omega) (by kernel_rfl) ?_; dsimp only [List.getElem_toArray, List.getElem_cons_zero, List.getElem_cons_succ]; go_big_quiet_step (fail); refine wpQuiet_nil ?_
          refine wpT_take 9 rfl (by kernel_rfl) (by kernel_rfl) (by omega) (by kernel_rfl) ?_; dsimp only [List.getElem_toArray, List.getElem_cons_zero, List.getElem_cons_succ]; go_big_quiet_step (fail); refine wpQuiet_nil ?_
          refine wpT_alone 10 rfl (by kernel_rfl) (by omega) (of_below (Below.refl _ _).drew) ?_
          gi_wp2
          refine only_on ?_
          refine wpT_over (by kernel_rfl) (of_below ((Below.refl _ _).drew.alloc h9s _)) ?_
          clear zT zk zx0 zx1 zx2 zx3 eX
          refine anyIn_alone 11 rfl (by kernel_rfl) ?_
          dsimp only [List.getElem_toArray, List.getElem_cons_zero, List.getElem_cons_succ]
          refine wpListIn_append_own _ rfl (.tmp 47) (.tmp 53) 29 rfl W.heap.size 31 ti _ 4 80 Try.underlying29 HI1.out HZ0.out HZ1.out HZ2.out rfl (by decide) (.slice Ak j ck) j (rkCells R) rfl (own_low HOWN9.out (((Below.refl _ _).alloc (Nat.le_refl _) _).drew)) ⟨w9.heap.size, 0, none⟩ 1 1 [.string ⟨#[]⟩, .string ⟨#[]⟩, .slice none 0 0, .slice none 0 0] rfl rfl (fun jj uu hh => news_lit w9 31 [.string ⟨#[]⟩, .string ⟨#[]⟩, .slice none 0 0, .slice none 0 0] jj uu hh) (by simp [Value.oneCell']) (by unfold maxLen; omega) (by omega) (by simp; omega) ?_
          intro v' w10 hown' hgrow _
          obtain ⟨g', cap', rfl⟩ := ownsRow_succ hown'
          have HGR := Lib.hid (show w9.grownBy w10 (Value.slice Ak j ck).ownBlock from grown_two (World.grownBy_alloc w9 _ none) ⟨hgrow.os, hgrow.tape, hgrow.output, hgrow.size, hgrow.block⟩)
          have HON := Lib.hid hown'
          clear hown' hgrow
          gi_wp2
          refine only_on ?_
          have hne10 : some PB ≠ (Value.slice Ak j ck).ownBlock := fun e => by have := (HIN9.out.own.lt PB e.symm).1; omega
          have hbk10 := HIN9.out.bk.grown HGR.out hne10
          have zk10 : w10.cell? ⟨PB, i * 4 + 3, none⟩ = some (.slice Ak j ck) := by
            rw [hbk10.cell, rk_get _ i (by omega) 3 (by omega), List.getElem_set_self]; rfl
          have zf10 : w10.frozen? ⟨PB, i * 4 + 3, none⟩ = false := hbk10.frozen _
          have zl10 := hbk10.lt
          clear hbk10 hne10
          refine anyIn_alone 12 rfl (by kernel_rfl) ?_
          gi_wp2
          refine only_on ?_
          refine anyIn_alone 13 rfl (by kernel_rfl) ?_
          gi_wp2
          refine only_on ?_
          refine anyIn_alone 14 rfl (by kernel_rfl) ?_
          gi_wp2
          refine only_on ?_
          refine anyIn_end (by kernel_rfl) ?_
          have hmid := HIN9.out.step hPT2 (by omega) zRk HGR.out (by rw [HRL.out]; exact HON.out)
          refine exit_gen (fun W11 => Inner PB rs W i nd.name nd.text nd.attrs K (.slice (some ⟨g8, 0, none⟩) K.length c8) (.slice A' nd.attrs.length c') (R ++ [zRk]) (.slice (some ⟨g', 0, none⟩) (R.length + 1) cap') W11) (by rw [HRL.out]; exact hmid) ?_
          clear hmid zk10 zf10 zl10 HON HGR HIN9 HOWN9
          rintro W11 hin11
          have hw11 : ∀ o, o < (j + 1) * 4 → (∃ u, W11.cell? ⟨g', o, none⟩ = some u) ∧ W11.frozen? ⟨g', o, none⟩ = false := fun o ho => by
            have h := hin11.own
            rw [List.length_append, List.length_singleton, HRL.out] at h
            have hl := h.1
            exact ⟨⟨_, (h.cellAt o (by omega)).trans (List.getElem?_eq_getElem (by omega))⟩, h.frozenAt _⟩
          obtain ⟨⟨v0, s0⟩, t0⟩ := hw11 (j * 4) (by omega)
          obtain ⟨⟨v1, s1⟩, t1⟩ := hw11 (j * 4 + 1) (by omega)
          obtain ⟨⟨v2, s2⟩, t2⟩ := hw11 (j * 4 + 2) (by omega)
          obtain ⟨⟨v3, s3⟩, t3⟩ := hw11 (j * 4 + 3) (by omega)
          have lg := (hin11.own.lt g' rfl).2
          have HIN11 := Lib.hid hin11
          have ij1 : (j : Int) < (j : Int) + 1 := by omega
          clear hin11 hw11
          gi_wp2
          have hend := HIN11.out.over (Pt.mk nm2 tx2 al2 ks2, Value.slice A2 al2.length d2, Value.slice A3 ks2.length d3) hPT2
          rw [HRL.out] at hend
          have HEND := Lib.hid hend
          clear hend
          go_roundw
          case rel => exact ⟨j + 1, by omega, by go_num, _, by rw [HRE.out]; exact HEND.out⟩
          case measure => simp [intOf]; omega
      · obtain rfl : j = K.length := by omega
        have i2 : ¬ ((K.length : Int) < (K.length : Int)) := by omega
        have HIN := Lib.hid hin
        clear hin
        gi_wp2
        rw [List.take_length] at HIN
        have hfill := Inner.filled HRS.out hil HND.out (by rw [hl]; exact HKE.out) hal hPl HIN.out
        refine ⟨⟨HIN.out.bx.size, fun kk o hle hko hcl => ?_⟩, HIN.out.bx.mono hW3, ?_⟩
        · have hkl := (Array.getElem?_eq_some_iff.1 hko).1
          exact (HIN.out.bx.block kk hkl (by omega)).trans hko
        · have hex : ∃ rs, PArr l PB ((pre.map fun x => x.1.1) ++ [i]) wr rs := ⟨_, hfill⟩
          refine ⟨by rw [List.map_append]; exact hex, HBX.out.trans (HIN.out.bx.mono hW3), ?_⟩
          · exact HBWW.out.trans ⟨HIN.out.bx.os, HIN.out.bx.tape, HIN.out.bx.output, HIN.out.bx.size, fun kk hkk => HIN.out.bx.block kk (by omega) (by omega)⟩
end Go.Proofs.Ytofllmofdenadaa
