/- A tree of the call's own is written over: the statements' Spoil. Nothing of another's is touched. Conditions: it is the call's own, not endless. -/
import Derived.Test.YtofllmofdenadaaLs
namespace Go.Proofs.Ytofllmofdenadaa
set_option linter.unusedVariables false
open Go.RowKit Go.Proofs.Fm Go.Proofs.Fb Go.Proofs.Fd Go.Proofs.Fc

/-- a cell is written: what owned a row owns one still -/
theorem own_any {w : World} {base e size n : Nat} {v : Value} {xs : List Value} (h : w.ownsRow base e size v n xs) (g o : Nat) (u : Value) : ∃ xs', (w.setCell ⟨g, o, none⟩ u).ownsRow base e size v n xs' := by
  by_cases hg : v.ownBlock = some g
  · rcases h.2 with ⟨rfl, -⟩ | ⟨g', cap, cur, rfl, -⟩
    · simp [Value.ownBlock] at hg
    · have : g' = g := by simpa [Value.ownBlock] using hg
      subst this
      exact ⟨_, (h.stored o u).1⟩
  · exact ⟨xs, ownsRow_setCell_other h hg _⟩
/-- while a tree is written over: w0 the world when it was there, w the one when the call began, W the one now -/
structure SpSt (base : Nat) (w0 w : World) (A : Option Addr) (n c : Nat) (rs : List Rn) (k : Nat) (W : World) : Prop where
  t : Bk W w.heap.size 24 #[.slice A n c]
  row : ∃ cs, W.ownsRow base 68 9 (.slice A n c) n cs ∧ ∀ i (h : i < rs.length), k ≤ i → cs[i * 9 + 3]? = some (rs[i]'h).2
  each : ∀ q ∈ rs, ∃ cs, W.ownsRow base 66 2 q.2 q.1.attrs.length cs
  lim : ∀ g, (Value.slice A n c).ownBlock = some g → g < w0.heap.size
  lims : ∀ q ∈ rs, ∀ g, q.2.ownBlock = some g → g < w0.heap.size
  le : w0.heap.size ≤ w.heap.size
  bl : Below base w W
  kept : ∀ k, w0.heap.size ≤ k → k < w.heap.size → W.heap[k]? = w.heap[k]?
theorem SpSt.next {base n c k : Nat} {w0 w W : World} {A : Option Addr} {rs : List Rn} (h : SpSt base w0 w A n c rs k W) : SpSt base w0 w A n c rs (k + 1) W := by
  obtain ⟨cs, h1, h2⟩ := h.row
  exact { h with row := ⟨cs, h1, fun i hi hk => h2 i hi (by omega)⟩ }
theorem SpSt.setRow {base n c k g o : Nat} {w0 w W : World} {rs : List Rn} (h : SpSt base w0 w (some ⟨g, 0, none⟩) n c rs k W) (ho : o < k * 9) (u : Value) : SpSt base w0 w (some ⟨g, 0, none⟩) n c rs k (W.setCell ⟨g, o, none⟩ u) := by
  have hg : g < w0.heap.size := h.lim g rfl
  obtain ⟨cs, h1, h2⟩ := h.row
  have hb := (h1.lt g rfl).1
  refine ⟨h.t.far (p := ⟨g, o, none⟩) (by have := h.le; show w.heap.size ≠ g; omega) u, ⟨_, (h1.stored o u).1, fun i hi hk => ?_⟩, fun q hq => ?_, h.lim, h.lims, h.le, h.bl.setCell (p := ⟨g, o, none⟩) hb u, fun j hj hjw => ?_⟩
  · rw [List.getElem?_set_ne (by omega)]; exact h2 i hi hk
  · obtain ⟨xs, hx⟩ := h.each q hq
    exact own_any hx g o u
  · rw [Below.heap_setCell W ⟨g, o, none⟩ u j (by show j ≠ g; omega)]
    exact h.kept j hj hjw
theorem SpSt.setAttr {base n c k g o : Nat} {w0 w W : World} {A : Option Addr} {rs : List Rn} (h : SpSt base w0 w A n c rs k W) {q : Rn} (hq : q ∈ rs) (hg : q.2.ownBlock = some g) (u : Value) : SpSt base w0 w A n c rs k (W.setCell ⟨g, o, none⟩ u) := by
  have hgl := h.lims q hq g hg
  obtain ⟨cs, h1, h2⟩ := h.row
  obtain ⟨xs, hx⟩ := h.each q hq
  have hb := (hx.lt g hg).1
  refine ⟨h.t.far (p := ⟨g, o, none⟩) (by have := h.le; show w.heap.size ≠ g; omega) u, ⟨cs, ownsRow_setCell_other h1 ?_ u, h2⟩, fun q' hq' => ?_, h.lim, h.lims, h.le, h.bl.setCell (p := ⟨g, o, none⟩) hb u, fun j hj hjw => ?_⟩
  · rcases own_own h1 hx (by decide) with e | e
    · rw [e]; simp
    · rw [hg] at e; exact e
  · obtain ⟨ys, hy⟩ := h.each q' hq'
    exact own_any hy g o u
  · rw [Below.heap_setCell W ⟨g, o, none⟩ u j (by show j ≠ g; omega)]
    exact h.kept j hj hjw
theorem SpSt.start {base n c : Nat} {w0 w : World} {A : Option Addr} {l : List Nd} (ht : OTree base w0 A n c l) (hbs : base ≤ w0.heap.size) (hb : Below w0.heap.size w0 w) : ∃ rs : List Rn, rs.length = n ∧ SpSt base w0 w A n c rs 0 (w.alloc (.cells #[.slice A n c] 24)) := by
  obtain ⟨rs, h1, h2, h3⟩ := ht
  have hl := h2.1
  rw [rawCells_length] at hl
  refine ⟨rs, by omega, Bk.new w 24 _, ⟨_, (own_stays h2 hb).alloc _, fun i hi _ => ?_⟩, fun q hq => ⟨_, (own_stays (h3 q hq) hb).alloc _⟩, fun g hg => (h2.lt g hg).2, fun q hq g hg => ((h3 q hq).lt g hg).2, hb.size, (Below.refl _ w).alloc (Nat.le_trans hbs hb.size) _, fun k _ hk => Below.heap_alloc w _ k hk⟩
  rw [rawCells_get rs i hi 3 (by omega)]; rfl
def SpoilOut (base : Nat) (w0 w : World) (e : Ending) (w' : World) : Prop := e = .returned (.tuple #[]) ∧ Below base w w' ∧ ∀ k, w0.heap.size ≤ k → k < w.heap.size → w'.heap[k]? = w.heap[k]?
set_option maxHeartbeats 4000000 in
theorem spoil_any (base n c : Nat) (A : Option Addr) (l : List Nd) (w0 w : World) (ht : OTree base w0 A n c l) (hbs : base ≤ w0.heap.size) (hn : n ≤ 1000000) (hb : Below w0.heap.size w0 w) :
    Calls Try.prog 36 #[.agg #[.slice A n c]] w (SpoilOut base w0 w) := by
  obtain ⟨rs, hrl, hst0⟩ := SpSt.start ht hbs hb
  have HST0 := Lib.hid hst0
  have HRL := Lib.hid hrl
  clear ht hst0 hrl hb
  go_enter Try.func36, Try.ntmps36
  go_upto_region 2 with fail
  refine wp_gen (fun W => SpSt base w0 w A n c rs 0 W) HST0.out ?_
  rintro W1 hst1
  have HST1 := Lib.hid hst1
  clear hst1 HST0
  go_loopg [2] n (fun gk i wr => ∃ k : Nat, k + gk = n ∧ i = .int .i64 (k : Int) ∧ Hid (SpSt base w0 w A n c rs k wr))
  case atStart => exact ⟨0, by omega, rfl, HST1⟩
  case round =>
    obtain ⟨k, hk, rfl, hst⟩ := hrel
    have t1 : wr.cell? ⟨w.heap.size, 0, none⟩ = some (.slice A n c) := hst.out.t.cell 0
    have l1 : w.heap.size < wr.heap.size := hst.out.t.lt
    by_cases hlk : k < n
    · have hkr : k < rs.length := by have := HRL.out; omega
      have i1 : (k : Int) < (n : Int) := by omega
      obtain ⟨gA, rfl⟩ : ∃ g, g = gk := ⟨gk, rfl⟩
      obtain ⟨wA, rfl⟩ : ∃ x, x = wr := ⟨wr, rfl⟩
      obtain ⟨q, hq⟩ : ∃ q, rs[k]'hkr = q := ⟨_, rfl⟩
      have hqm : q ∈ rs := hq ▸ List.getElem_mem hkr
      have HROW : Hid (∀ W, SpSt base w0 w A n c rs k W → ∃ g, A = some ⟨g, 0, none⟩ ∧ g < W.heap.size ∧ W.cell? ⟨g, k * 9 + 3, none⟩ = some q.2 ∧ (∀ o, o < n * 9 → ∃ u, W.cell? ⟨g, o, none⟩ = some u) ∧ ∀ o, W.frozen? ⟨g, o, none⟩ = false) := Lib.hid (by
        intro W h
        obtain ⟨cs, h1, h2⟩ := h.row
        rcases h1.2 with ⟨-, h0⟩ | ⟨g, cap, cur, hv, -⟩
        · omega
        · injection hv with e1 e2 e3
          subst e1
          exact ⟨g, rfl, (h1.lt g rfl).2, ((h1.cellAt _ (by omega)).trans (h2 k hkr (Nat.le_refl _))).trans (by rw [hq]), fun o ho => ⟨_, (h1.cellAt o ho).trans (List.getElem?_eq_getElem (by rw [h1.1]; exact ho))⟩, h1.frozenAt⟩)
      obtain ⟨m, hm⟩ : ∃ m, q.1.attrs.length = m := ⟨_, rfl⟩
      obtain ⟨A1, c1, hq2, hm2⟩ : ∃ A1 c1, q.2 = .slice A1 m c1 ∧ m ≤ 9223372036854775807 := by
        obtain ⟨xs, hx⟩ := hst.out.each q hqm
        rw [hm] at hx
        obtain ⟨A1, c1, e⟩ := own_form hx
        refine ⟨A1, c1, e, ?_⟩
        rcases hx.2 with ⟨-, h0⟩ | ⟨g, cap, cur, -, -, -, h1, h2, -⟩
        · omega
        · unfold maxLen at h2; omega
      have HATT : Hid (∀ W, SpSt base w0 w A n c rs k W → ∀ p, p < m → ∃ g, A1 = some ⟨g, 0, none⟩ ∧ g < W.heap.size ∧ (∀ o, o < m * 2 → ∃ u, W.cell? ⟨g, o, none⟩ = some u) ∧ ∀ o, W.frozen? ⟨g, o, none⟩ = false) := Lib.hid (by
        intro W h p hp
        obtain ⟨xs, hx⟩ := h.each q hqm
        rw [hm, hq2] at hx
        rcases hx.2 with ⟨-, h0⟩ | ⟨g, cap, cur, hv, -⟩
        · omega
        · injection hv with e1 e2 e3
          subst e1
          exact ⟨g, rfl, (hx.lt g rfl).2, fun o ho => ⟨_, (hx.cellAt o ho).trans (List.getElem?_eq_getElem (by rw [hx.1]; exact ho))⟩, hx.frozenAt⟩)
      have HSET : Hid (∀ W g o u, SpSt base w0 w A n c rs k W → A1 = some ⟨g, 0, none⟩ → SpSt base w0 w A n c rs k (W.setCell ⟨g, o, none⟩ u)) := Lib.hid (fun W g o u h e => h.setAttr hqm (by rw [hq2, e]; rfl) u)
      have hst' := hst
      obtain ⟨g, rfl, hgl, c3, hcs, hfz⟩ := HROW.out wA hst.out
      rw [hq2] at c3
      clear hm hqm hcs hfz
      go_upto_region 5 with fail
      go_loopg [3] m (fun gi j wz => ∃ p : Nat, p + gi = m ∧ j = .int .i64 (p : Int) ∧ Hid (SpSt base w0 w (some ⟨g, 0, none⟩) n c rs k wz))
      case atStart => exact ⟨0, by omega, rfl, hst'⟩
      case round =>
        clear t1 l1 c3 hgl
        obtain ⟨p, hp, rfl, hsz⟩ := hrel
        have t1 : wr.cell? ⟨w.heap.size, 0, none⟩ = some (.slice (some ⟨g, 0, none⟩) n c) := hsz.out.t.cell 0
        have l1 : w.heap.size < wr.heap.size := hsz.out.t.lt
        obtain ⟨g', he', hgl, c3, hcs, hfz⟩ := HROW.out wr hsz.out
        obtain rfl : g = g' := by injection he' with he'; injection he'
        rw [hq2] at c3
        clear he'
        by_cases hpm : p < m
        · have i2 : (p : Int) < (m : Int) := by omega
          obtain ⟨g1, rfl, hgl1, hcs1, hfz1⟩ := HATT.out wr hsz.out p hpm
          obtain ⟨u0, s0⟩ := hcs1 (p * 2) (by omega)
          obtain ⟨u1, s1⟩ := hcs1 (p * 2 + 1) (by omega)
          clear hcs hcs1 hfz
          go_wp2_with fail
          go_roundg (gk - 1)
          case measure => omega
          case rel => exact ⟨p + 1, by omega, by go_num, Lib.hid (HSET.out _ _ _ _ (HSET.out _ _ _ _ hsz.out rfl) rfl)⟩
        · obtain rfl : p = m := by omega
          obtain ⟨u0, s0⟩ := hcs (k * 9) (by omega)
          obtain ⟨u1, s1⟩ := hcs (k * 9 + 1) (by omega)
          obtain ⟨u2, s2⟩ := hcs (k * 9 + 2) (by omega)
          obtain ⟨u4, s4⟩ := hcs (k * 9 + 4) (by omega)
          obtain ⟨u5, s5⟩ := hcs (k * 9 + 5) (by omega)
          obtain ⟨u6, s6⟩ := hcs (k * 9 + 6) (by omega)
          obtain ⟨u7, s7⟩ := hcs (k * 9 + 7) (by omega)
          obtain ⟨u8, s8⟩ := hcs (k * 9 + 8) (by omega)
          have HN := Lib.hid hsz.out.next
          clear hcs
          go_wp2_with fail
          go_roundg (gA - 1)
          case measure => omega
          case rel =>
            refine ⟨k + 1, by omega, by go_num, Lib.hid ?_⟩
            repeat (refine SpSt.setRow ?_ (by omega) _)
            exact HN.out
    · obtain rfl : k = n := by omega
      go_wp2_with fail
      go_end0
      exact ⟨rfl, hst.out.bl, hst.out.kept⟩
end Go.Proofs.Ytofllmofdenadaa
