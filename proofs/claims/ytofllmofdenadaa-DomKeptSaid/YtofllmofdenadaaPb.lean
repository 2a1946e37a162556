/- For dom's Parts: its array as it is filled, whatever the order; a class of worlds that leaves one block open; slices.Backward over the nodes of a list. No conditions but that the list is not endless. -/
import Derived.Test.YtofllmofdenadaaPa
import Derived.Test.YtofllmofdenadaaJa
import Derived.Test.YtofllmofdenadaaRc
import Derived.Test.YtofllmofdenadaaHe
import Derived.Test.YtofllmofdenadaaLs
namespace Go.Proofs.Ytofllmofdenadaa
set_option linter.unusedVariables false
open Go.RowKit Go.Shelf Go.Proofs.Fm Go.Proofs.Fb Go.Proofs.Fd Go.Proofs.Fc
attribute [local go_sem] Oper.semAt_some

def zP : Pt := .mk [] [] [] []
/-- place i is filled from node i and from what stands at its kids' places -/
def stepP (l : List Nd) (ps : List Pt) (i : Nat) : Pt := match l[i]? with | some x => .mk x.name x.text x.attrs ((kidsOf (par l) l.length (i : Int)).map fun k => ps.getD k zP) | none => zP
def partsOf (l : List Nd) (is : List Nat) : List Pt := is.foldl (fun ps i => ps.set i (stepP l ps i)) (List.replicate l.length zP)
theorem partsOf_snoc (l : List Nd) (is : List Nat) (i : Nat) : partsOf l (is ++ [i]) = (partsOf l is).set i (stepP l (partsOf l is) i) := by unfold partsOf; rw [List.foldl_append]; rfl
theorem partsOf_len (l : List Nd) (is : List Nat) : (partsOf l is).length = l.length := by
  have : ∀ (is : List Nat) (ps : List Pt), (is.foldl (fun ps i => ps.set i (stepP l ps i)) ps).length = ps.length := by
    intro is
    induction is with
    | nil => intro ps; rfl
    | cons i t ih => intro ps; rw [List.foldl_cons, ih, List.length_set]
  unfold partsOf
  rw [this, List.length_replicate]
/-- with enough steps it matters not how many -/
theorem partF_stable {l : List Nd} (hk : ∀ (i k : Nat), k ∈ kidsOf (par l) l.length (i : Int) → i < k) : ∀ (d f i : Nat), l.length - i ≤ d → d ≤ f → partF l f i = partF l d i
  | 0, f, i, h1, h2 => by
    have hn : l[i]? = none := List.getElem?_eq_none (by omega)
    cases f with
    | zero => rfl
    | succ f => rw [partF, partF, hn]
  | d + 1, f, i, h1, h2 => by
    obtain ⟨f', rfl⟩ : ∃ f', f = f' + 1 := ⟨f - 1, by omega⟩
    rw [partF, partF]
    cases hx : l[i]? with
    | none => rfl
    | some x =>
      dsimp only
      congr 1
      refine List.map_congr_left fun k hkm => ?_
      have := hk i k hkm
      exact partF_stable hk d f' k (by omega) (by omega)
/-- from n - 1 down to q -/
def down (n q : Nat) : List Nat := (List.range (n - q)).map fun j => n - 1 - j
theorem down_succ {n q : Nat} (h : q < n) : down n q = down n (q + 1) ++ [q] := by
  unfold down
  obtain ⟨d, hd⟩ : ∃ d, n - (q + 1) = d := ⟨_, rfl⟩
  rw [hd, show n - q = d + 1 by omega, List.range_succ, List.map_append]
  simp only [List.map_cons, List.map_nil]
  rw [show n - 1 - d = q by omega]
theorem parts_down {l : List Nd} (hk : ∀ (i k : Nat), k ∈ kidsOf (par l) l.length (i : Int) → i < k) : ∀ (d q : Nat), q + d = l.length → ∀ j, q ≤ j → j < l.length → (partsOf l (down l.length q)).getD j zP = partF l l.length j
  | 0, q, h, j, h1, h2 => by omega
  | d + 1, q, h, j, h1, h2 => by
    have ih := parts_down hk d (q + 1) (by omega)
    rw [down_succ (by omega), partsOf_snoc]
    by_cases e : j = q
    · subst e
      have hl := partsOf_len l (down l.length (j + 1))
      rw [List.getD_eq_getElem?_getD, List.getElem?_set_self (by omega), Option.getD_some]
      unfold stepP
      obtain ⟨m, hm⟩ : ∃ m, l.length = m + 1 := ⟨l.length - 1, by omega⟩
      have hp : partF l l.length j = partF l (m + 1) j := by rw [hm]
      rw [hp, partF, List.getElem?_eq_getElem h2]
      dsimp only
      congr 1
      refine List.map_congr_left fun k hkm => ?_
      have h3 := hk j k hkm
      have h4 := (kidsOf_lt hkm).1
      rw [ih k (by omega) h4, partF_stable hk m l.length k (by omega) (by omega)]
    · have := ih j (by omega) h2
      rw [List.getD_eq_getElem?_getD, List.getElem?_set_ne (fun x => e x.symm), ← List.getD_eq_getElem?_getD]
      exact this
theorem said_kids {l : List Nd} (hs : SaidF l) (i k : Nat) (h : k ∈ kidsOf (par l) l.length (i : Int)) : i < k := by
  obtain ⟨h1, h2⟩ := kidsOf_lt h
  by_cases e : k = 0
  · subst e; have := ((ordB_iff _ _).1 hs.ord).1; omega
  · have := ord_lt hs.ord (i := k) (by omega) h1; omega
/-- the whole array, filled from the last place to the first -/
theorem parts_whole {l : List Nd} (hs : SaidF l) : (partsOf l (down l.length 0))[0]? = some (partF l l.length 0) := by
  have h := parts_down (said_kids hs) l.length 0 (by omega) 0 (by omega) hs.pos
  have hl := partsOf_len l (down l.length 0)
  have hp := hs.pos
  rw [List.getD_eq_getElem?_getD, List.getElem?_eq_getElem (by omega), Option.getD_some] at h
  rw [List.getElem?_eq_getElem (by omega), h]

/-- below n₀ all lies as it lay, but for block B -/
structure Bx (B n₀ : Nat) (W W' : World) : Prop where
  os : W'.os = W.os
  tape : W'.tape = W.tape
  output : W'.output = W.output
  size : W.heap.size ≤ W'.heap.size
  block : ∀ k, k < n₀ → k ≠ B → W'.heap[k]? = W.heap[k]?
theorem Bx.refl (B n₀ : Nat) (W : World) : Bx B n₀ W W := ⟨rfl, rfl, rfl, Nat.le_refl _, fun _ _ _ => rfl⟩
theorem Bx.trans {B n₀ : Nat} {W W' W'' : World} (h : Bx B n₀ W W') (k : Bx B n₀ W' W'') : Bx B n₀ W W'' := ⟨k.os.trans h.os, k.tape.trans h.tape, k.output.trans h.output, Nat.le_trans h.size k.size, fun i hi hn => (k.block i hi hn).trans (h.block i hi hn)⟩
theorem Bx.of_below {B n₀ : Nat} {W W' : World} (h : Below n₀ W W') : Bx B n₀ W W' := ⟨h.os, h.tape, h.output, h.size, fun k hk _ => h.block k hk⟩
theorem Bx.mono {B n₀ m : Nat} {W W' : World} (h : Bx B n₀ W W') (hm : m ≤ n₀) : Bx B m W W' := ⟨h.os, h.tape, h.output, h.size, fun k hk hn => h.block k (Nat.lt_of_lt_of_le hk hm) hn⟩
theorem Bx.set_ {B n₀ : Nat} {W W' : World} (h : Bx B n₀ W W') (o : Nat) (u : Value) : Bx B n₀ W (W'.setCell ⟨B, o, none⟩ u) := ⟨h.os, h.tape, h.output, by simpa [World.setCell] using h.size, fun k hk hn => (Below.heap_setCell W' ⟨B, o, none⟩ u k hn).trans (h.block k hk hn)⟩
theorem Bx.put {B n₀ : Nat} {w : World} (hn : n₀ ≤ w.heap.size) (W : World) (l : Nat) (o o' : Obj) (hl : w.heap.size ≤ l) (h : W.heap[l]? = some o) (h1 : o.isCells = false) (h2 : o.isWalk = false) : Bx B n₀ W (W.putObj l o') := Bx.of_below (belowK_b hn W l o o' hl h h1 h2)
theorem Bx.cell {B n₀ : Nat} {W W' : World} (h : Bx B n₀ W W') (b o : Nat) (hb : b < n₀) (hn : b ≠ B) : W'.cell? ⟨b, o, none⟩ = W.cell? ⟨b, o, none⟩ := World.cell?_of_block (a := ⟨b, o, none⟩) (h.block b hb hn)
theorem Bx.bk {B n₀ b t : Nat} {cs : Array Value} {W W' : World} (h : Bx B n₀ W W') (hk : Bk W b t cs) (hb : b < n₀) (hn : b ≠ B) : Bk W' b t cs := (h.block b hb hn).trans hk
theorem bx_own {β : Type} {B n₀ m : Nat} {w₀ : World} (hn : n₀ ≤ w₀.heap.size) (hm : n₀ ≤ m) : OwnFrom m (fun (_ : β) W => Bx B n₀ w₀ W) := fun _ W W' row hs hg hr => by
  refine ⟨hg.os.trans hs.os, hg.tape.trans hs.tape, hg.output.trans hs.output, Nat.le_trans hs.size hg.size, fun k hk hne => ?_⟩
  refine (hg.block k (by have := hs.size; omega) (fun e => ?_)).trans (hs.block k hk hne)
  have := (hr k e.symm).1
  omega
/-- what comes of Backward, each known to be a node of the list -/
abbrev Bk3 (g : Nat → Nd × Value) (n : Nat) := { x : Bk2 // x.1 < n ∧ x.2 = g x.1 }
set_option maxRecDepth 100000 in
set_option maxHeartbeats 4000000 in
theorem back2_in (F : Fence) (m : Nat) (h59 : F.fn 59) (hro : F.round = none) (hm : 1 ≤ m) (l Bs B n₀ b off n c : Nat) (g : Nat → Nd × Value) (hn : n ≤ 4398046511104) (hsl : ∀ i, i < n → ∃ A k d, (g i).2 = .slice A k d) (hB : Bs < n₀) (hBn : Bs ≠ B) (hb : b < n₀) (hbn : b ≠ B) (J Jx : List (Bk3 g n) → World → Prop)
    (hY : ∀ pre x W, J pre W → pre.length < n → YieldAt F (m - 1) Try.prog l (backEnc x.1) W fun e W' =>
      (e = .returned (.bool true) ∧ J (pre ++ [x]) W' ∧ Bx B n₀ W W') ∨ (e = .returned (.bool false) ∧ Jx (pre ++ [x]) W'))
    (W : World) (hs : W.cell? ⟨Bs, 0, none⟩ = some (.slice (some ⟨b, off, none⟩) n c)) (hc : ∀ i, i < n → ∀ j, j < 9 → W.cell? ⟨b, off + i * 9 + j, none⟩ = (ndCells (g i).1 (g i).2)[j]?) (h0 : J [] W) :
    CallsIn F m Try.prog 59 #[.func (.yield l) #[] #[], .pointer (some ⟨Bs, 0, none⟩)] W fun e W' => (∃ v, e = .returned v) ∧
      ((∃ ys, ys.map (fun x => x.1.1) = down n 0 ∧ J ys W') ∨ (∃ pre, True ∧ Jx pre W')) := by
  have hbw : n ≠ 0 → b < W.heap.size := fun h => World.block_lt_of_cell? _ _ (hc 0 (by omega) 0 (by omega))
  refine callsIn_of_wp Try.func59 rfl h59 ?_ hro
  simp only [Try.ntmps59, List.size_toArray, List.length_cons, List.length_nil, Nat.reduceAdd, Nat.reduceSub, Array.replicate_succ, Array.replicate_zero, List.push_toArray, List.append_toArray, List.nil_append, List.cons_append]
  gi_wp2
  gi_loopw [3] (fun i wr => ∃ q : Nat, q ≤ n ∧ i = .int .i64 ((q : Int) - 1) ∧ (∃ ys : List (Bk3 g n), ys.map (fun x => x.1.1) = down n q ∧ J ys wr) ∧ Bx B n₀ W wr)
    (fun i _ => (intOf i + 1).toNat)
  case atStart => exact ⟨n, Nat.le_refl _, rfl, ⟨[], by simp [down], h0⟩, Bx.refl _ _ _⟩
  case round =>
    obtain ⟨q, hq, rfl, ⟨ys, hys, hJs⟩, hnx⟩ := hrel
    have hyl : ys.length = n - q := by have := congrArg List.length hys; simpa [down] using this
    have hs' := (hnx.cell Bs 0 hB hBn).trans hs
    rcases q with _ | q
    · have i1 : ¬ ((0 : Int) ≤ ((0 : Nat) : Int) - 1) := by omega
      gi_wp2
      go_end0
      exact ⟨⟨_, rfl⟩, .inl ⟨ys, hys, hJs⟩⟩
    · have e1 : ((q + 1 : Nat) : Int) - 1 = (q : Int) := by omega
      rw [e1]
      have hcell : ∀ j, j < 9 → wr.cell? ⟨b, off + q * 9 + j, none⟩ = (ndCells (g q).1 (g q).2)[j]? := fun j hj => (hnx.cell b (off + q * 9 + j) hb hbn).trans (hc q (by omega) j hj)
      obtain ⟨nx, hnv⟩ : ∃ nx : Bk3 g n, nx.1 = (q, g q) := ⟨⟨(q, g q), by show q < n; omega, rfl⟩, rfl⟩
      obtain ⟨fn, tmps, assign, body, hy, hR⟩ := hY ys nx wr hJs (by omega)
      have hlast : (ys ++ [nx]).map (fun x => x.1.1) = down n q := by rw [List.map_append, hys, List.map_cons, List.map_nil, hnv]; exact (down_succ (by omega)).symm
      have HLAST := Lib.hid hlast
      have HYS := Lib.hid hys
      obtain ⟨A, k, d, hv⟩ := hsl q (by omega)
      rw [hnv] at hy
      clear hlast hys hnv
      obtain ⟨y, hy0⟩ : ∃ y, g q = y := ⟨_, rfl⟩
      rw [hy0] at hcell hy hv
      obtain ⟨⟨kk, nm, tx, al, pa, fi, la, pr, nxx⟩, v⟩ := y
      obtain rfl : v = .slice A k d := hv
      have x0 : wr.cell? ⟨b, off + q * 9, none⟩ = some (.int .i64 kk) := hcell 0 (by omega)
      have x1 : wr.cell? ⟨b, off + q * 9 + 1, none⟩ = some (.string ⟨nm.toArray⟩) := hcell 1 (by omega)
      have x2 : wr.cell? ⟨b, off + q * 9 + 2, none⟩ = some (.string ⟨tx.toArray⟩) := hcell 2 (by omega)
      have x3 : wr.cell? ⟨b, off + q * 9 + 3, none⟩ = some (.slice A k d) := hcell 3 (by omega)
      have x4 : wr.cell? ⟨b, off + q * 9 + 4, none⟩ = some (.int .i64 pa) := hcell 4 (by omega)
      have x5 : wr.cell? ⟨b, off + q * 9 + 5, none⟩ = some (.int .i64 fi) := hcell 5 (by omega)
      have x6 : wr.cell? ⟨b, off + q * 9 + 6, none⟩ = some (.int .i64 la) := hcell 6 (by omega)
      have x7 : wr.cell? ⟨b, off + q * 9 + 7, none⟩ = some (.int .i64 pr) := hcell 7 (by omega)
      have x8 : wr.cell? ⟨b, off + q * 9 + 8, none⟩ = some (.int .i64 nxx) := hcell 8 (by omega)
      have i1 : (q : Int) < (n : Int) := by omega
      dsimp only [backEnc] at hy
      clear hcell hy0 e1
      gi_wp2
      refine hR.mono ?_
      rintro e W3 (⟨rfl, hJ3, hk3⟩ | ⟨rfl, hJx3⟩)
      · gi_wp2
        go_roundw
        case rel => exact ⟨q, by omega, rfl, ⟨_, HLAST.out, hJ3⟩, hnx.trans hk3⟩
        case measure => simp [intOf]
      · gi_wp2
        refine bodyPost_ret (results_none rfl _ _ _) rfl ?_
        exact ⟨⟨_, rfl⟩, .inr ⟨_, trivial, hJx3⟩⟩
theorem back_stops2 (F : Fence) (m : Nat) (h59 : F.fn 59) (hro : F.round = none) (hm : 1 ≤ m) (Bs B n₀ b off n c : Nat) (g : Nat → Nd × Value) (hn : n ≤ 4398046511104) (hsl : ∀ i, i < n → ∃ A k d, (g i).2 = .slice A k d) (hB : Bs < n₀) (hBn : Bs ≠ B) (hb : b < n₀) (hbn : b ≠ B) (w : World) (hn₀ : n₀ ≤ w.heap.size)
    (hs : w.cell? ⟨Bs, 0, none⟩ = some (.slice (some ⟨b, off, none⟩) n c)) (hc : ∀ i, i < n → ∀ j, j < 9 → w.cell? ⟨b, off + i * 9 + j, none⟩ = (ndCells (g i).1 (g i).2)[j]?) :
    SeqStopsK F m Try.prog 59 #[.pointer (some ⟨Bs, 0, none⟩)] (fun x : Bk3 g n => backEnc x.1) (Bx B n₀) (fun ys => ys.map (fun x => x.1.1) = down n 0) (fun _ => True) n w := fun l J Jx W hW _ _ hY h0 =>
  back2_in F m h59 hro hm l Bs B n₀ b off n c g hn hsl hB hBn hb hbn J Jx hY W ((hW.cell (p := ⟨Bs, 0, none⟩) (by show Bs < w.heap.size; omega)).trans hs)
    (fun i hi j hj => (hW.cell (p := ⟨b, off + i * 9 + j, none⟩) (by show b < w.heap.size; omega)).trans (hc i hi j hj)) h0
end Go.Proofs.Ytofllmofdenadaa
