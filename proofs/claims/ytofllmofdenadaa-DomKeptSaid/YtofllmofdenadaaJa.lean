/- slices.Backward over nodes, ranged over: from the last one to the first. No conditions but that the list is not endless. -/
import Derived.Test.YtofllmofdenadaaGa
import Derived.Test.YtofllmofdenadaaDq
namespace Go.Proofs.Ytofllmofdenadaa
set_option linter.unusedVariables false
open Go.RowKit Go.Shelf Go.Proofs.Fm Go.Proofs.Fb Go.Proofs.Fd Go.Proofs.Fc
attribute [local go_sem] Oper.semAt_some

/-- what comes of a node: its number, itself -/
abbrev Bk2 := Nat × Nd × Value
def backEnc (x : Bk2) : Array Value := #[.int .i64 (x.1 : Int), .agg #[.int .i64 x.2.1.kind, .string ⟨x.2.1.name.toArray⟩, .string ⟨x.2.1.text.toArray⟩, x.2.2, .int .i64 x.2.1.parent, .int .i64 x.2.1.first, .int .i64 x.2.1.last, .int .i64 x.2.1.prev, .int .i64 x.2.1.next]]
/-- all from the n-th node down to the q-th -/
def backs (g : Nat → Nd × Value) (n q : Nat) : List Bk2 := (List.range (n - q)).map fun (j : Nat) => (n - 1 - j, g (n - 1 - j))
theorem backs_succ (g : Nat → Nd × Value) {n q : Nat} (h : q < n) : backs g n q = backs g n (q + 1) ++ [(q, g q)] := by
  unfold backs
  obtain ⟨d, hd⟩ : ∃ d, n - (q + 1) = d := ⟨_, rfl⟩
  rw [hd, show n - q = d + 1 by omega, List.range_succ, List.map_append]
  simp only [List.map_cons, List.map_nil]
  rw [show n - 1 - d = q by omega]
theorem backs_length (g : Nat → Nd × Value) (n q : Nat) : (backs g n q).length = n - q := by simp [backs]
set_option maxRecDepth 100000 in
set_option maxHeartbeats 4000000 in
theorem back1_in (F : Fence) (m : Nat) (h59 : F.fn 59) (hro : F.round = none) (hm : 1 ≤ m) (l Bs n₀ b off n c : Nat) (g : Nat → Nd × Value) (hn : n ≤ 4398046511104) (hsl : ∀ i, i < n → ∃ A k d, (g i).2 = .slice A k d) (hB : Bs < n₀) (hb : b < n₀) (J Jx : List Bk2 → World → Prop)
    (hY : ∀ pre x W, J pre W → pre.length < n → YieldAt F (m - 1) Try.prog l (backEnc x) W fun e W' =>
      (e = .returned (.bool true) ∧ J (pre ++ [x]) W' ∧ Below n₀ W W') ∨ (e = .returned (.bool false) ∧ Jx (pre ++ [x]) W'))
    (W : World) (hs : W.cell? ⟨Bs, 0, none⟩ = some (.slice (some ⟨b, off, none⟩) n c)) (hc : ∀ i, i < n → ∀ j, j < 9 → W.cell? ⟨b, off + i * 9 + j, none⟩ = (ndCells (g i).1 (g i).2)[j]?) (h0 : J [] W) :
    CallsIn F m Try.prog 59 #[.func (.yield l) #[] #[], .pointer (some ⟨Bs, 0, none⟩)] W fun e W' => (∃ v, e = .returned v) ∧
      ((∃ ys, ys = backs g n 0 ∧ J ys W') ∨ (∃ pre, (∃ q, q ≤ n ∧ pre = backs g n q) ∧ Jx pre W')) := by
  have hbw : n ≠ 0 → b < W.heap.size := fun h => World.block_lt_of_cell? _ _ (hc 0 (by omega) 0 (by omega))
  refine callsIn_of_wp Try.func59 rfl h59 ?_ hro
  simp only [Try.ntmps59, List.size_toArray, List.length_cons, List.length_nil, Nat.reduceAdd, Nat.reduceSub, Array.replicate_succ, Array.replicate_zero, List.push_toArray, List.append_toArray, List.nil_append, List.cons_append]
  gi_wp2
  gi_loopw [3] (fun i wr => ∃ q : Nat, q ≤ n ∧ i = .int .i64 ((q : Int) - 1) ∧ J (backs g n q) wr ∧ Below n₀ W wr)
    (fun i _ => (intOf i + 1).toNat)
  case atStart => exact ⟨n, Nat.le_refl _, rfl, by simpa [backs] using h0, Below.refl _ _⟩
  case round =>
    obtain ⟨q, hq, rfl, hJs, hnx⟩ := hrel
    have hs' := (hnx.cell (p := ⟨Bs, 0, none⟩) hB).trans hs
    rcases q with _ | q
    · have i1 : ¬ ((0 : Int) ≤ ((0 : Nat) : Int) - 1) := by omega
      gi_wp2
      go_end0
      first | exact ⟨⟨_, rfl⟩, .inl ⟨_, rfl, hJs⟩⟩ | exact ⟨⟨_, rfl⟩, .inl hJs⟩
    · have e1 : ((q + 1 : Nat) : Int) - 1 = (q : Int) := by omega
      rw [e1]
      have hcell : ∀ j, j < 9 → wr.cell? ⟨b, off + q * 9 + j, none⟩ = (ndCells (g q).1 (g q).2)[j]? := fun j hj => (hnx.cell (p := ⟨b, off + q * 9 + j, none⟩) hb).trans (hc q (by omega) j hj)
      obtain ⟨fn, tmps, assign, body, hy, hR⟩ := hY _ (q, g q) wr hJs (by rw [backs_length]; omega)
      have hlast := backs_succ g (n := n) (q := q) (by omega)
      obtain ⟨A, k, d, hv⟩ := hsl q (by omega)
      obtain ⟨y, hy0⟩ : ∃ y, g q = y := ⟨_, rfl⟩
      rw [hy0] at hcell hy hR hv hlast
      obtain ⟨⟨kk, nm, tx, al, pa, fi, la, pr, nx⟩, v⟩ := y
      obtain rfl : v = .slice A k d := hv
      have x0 : wr.cell? ⟨b, off + q * 9, none⟩ = some (.int .i64 kk) := hcell 0 (by omega)
      have x1 : wr.cell? ⟨b, off + q * 9 + 1, none⟩ = some (.string ⟨nm.toArray⟩) := hcell 1 (by omega)
      have x2 : wr.cell? ⟨b, off + q * 9 + 2, none⟩ = some (.string ⟨tx.toArray⟩) := hcell 2 (by omega)
      have x3 : wr.cell? ⟨b, off + q * 9 + 3, none⟩ = some (.slice A k d) := hcell 3 (by omega)
      have x4 : wr.cell? ⟨b, off + q * 9 + 4, none⟩ = some (.int .i64 pa) := hcell 4 (by omega)
      have x5 : wr.cell? ⟨b, off + q * 9 + 5, none⟩ = some (.int .i64 fi) := hcell 5 (by omega)
      have x6 : wr.cell? ⟨b, off + q * 9 + 6, none⟩ = some (.int .i64 la) := hcell 6 (by omega)
      have x7 : wr.cell? ⟨b, off + q * 9 + 7, none⟩ = some (.int .i64 pr) := hcell 7 (by omega)
      have x8 : wr.cell? ⟨b, off + q * 9 + 8, none⟩ = some (.int .i64 nx) := hcell 8 (by omega)
      have i1 : (q : Int) < (n : Int) := by omega
      dsimp only [backEnc] at hy
      clear hcell hy0 e1
      gi_wp2
      refine hR.mono ?_
      rintro e W3 (⟨rfl, hJ3, hk3⟩ | ⟨rfl, hJx3⟩)
      · gi_wp2
        go_roundw
        case rel => exact ⟨q, by omega, rfl, by rw [hlast]; exact hJ3, hnx.trans hk3⟩
        case measure => simp [intOf]
      · gi_wp2
        refine bodyPost_ret (results_none rfl _ _ _) rfl ?_
        exact ⟨⟨_, rfl⟩, .inr ⟨_, ⟨q, by omega, hlast.symm⟩, hJx3⟩⟩
theorem back_stops (F : Fence) (m : Nat) (h59 : F.fn 59) (hro : F.round = none) (hm : 1 ≤ m) (Bs n₀ b off n c : Nat) (g : Nat → Nd × Value) (hn : n ≤ 4398046511104) (hsl : ∀ i, i < n → ∃ A k d, (g i).2 = .slice A k d) (hB : Bs < n₀) (hb : b < n₀) (w : World) (hn₀ : n₀ ≤ w.heap.size)
    (hs : w.cell? ⟨Bs, 0, none⟩ = some (.slice (some ⟨b, off, none⟩) n c)) (hc : ∀ i, i < n → ∀ j, j < 9 → w.cell? ⟨b, off + i * 9 + j, none⟩ = (ndCells (g i).1 (g i).2)[j]?) :
    SeqStopsK F m Try.prog 59 #[.pointer (some ⟨Bs, 0, none⟩)] backEnc (Below n₀) (fun ys => ys = backs g n 0) (fun pre => ∃ q, q ≤ n ∧ pre = backs g n q) n w := fun l J Jx W hW _ _ hY h0 =>
  back1_in F m h59 hro hm l Bs n₀ b off n c g hn hsl hB hb J Jx hY W ((hW.cell (p := ⟨Bs, 0, none⟩) (by show Bs < w.heap.size; omega)).trans hs)
    (fun i hi j hj => (hW.cell (p := ⟨b, off + i * 9 + j, none⟩) (by show b < w.heap.size; omega)).trans (hc i hi j hj)) h0
theorem back_any (A : Option Addr) (n c : Nat) (w : World) : Calls Try.prog 50 #[.slice A n c] w fun e w' => e = .returned (.func (.func 59) #[] #[.pointer (some ⟨w.heap.size, 0, none⟩)]) ∧ w' = w.alloc (.cells #[.slice A n c] 22) := by
  go_enter Try.func50, Try.ntmps50
  go_wp2
  go_ret
  exact ⟨rfl, rfl⟩
end Go.Proofs.Ytofllmofdenadaa
