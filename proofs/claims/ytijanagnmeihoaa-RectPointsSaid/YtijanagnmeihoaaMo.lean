/- RectMoves. No conditions. -/
import Derived.Test.YtijanagnmeihoaaRk
import Derived.Test.YtijanagnmeihoaaSm
namespace Go.Proofs.Ytijanagnmeihoaa
set_option linter.unusedVariables false
open Go.RowKit Go.Proofs.Fx Go.Proofs.Fc

theorem new_row (w : World) (t : TypeId) (l : List Int) : ∀ k, k < l.length → (w.alloc (.cells (l.map (Value.int .i64)).toArray t)).cell? ⟨w.heap.size, k, none⟩ = some (.int .i64 (nth l k)) := by
  intro k hk
  rw [(Blk.new w t _).cell k]
  simp [nth, List.getElem?_eq_getElem hk]

theorem new_row2 (w : World) (o : Obj) (t : TypeId) (l : List Int) : ∀ k, k < l.length → ((w.alloc o).alloc (.cells (l.map (Value.int .i64)).toArray t)).cell? ⟨w.heap.size + 1, k, none⟩ = some (.int .i64 (nth l k)) := by
  have := new_row (w.alloc o) t l
  rw [World.size_alloc] at this
  exact this
theorem new_row3 (w : World) (o o' : Obj) (t : TypeId) (l : List Int) : ∀ k, k < l.length → (((w.alloc o).alloc o').alloc (.cells (l.map (Value.int .i64)).toArray t)).cell? ⟨w.heap.size + 1 + 1, k, none⟩ = some (.int .i64 (nth l k)) := by
  have := new_row ((w.alloc o).alloc o') t l
  rw [World.size_alloc, World.size_alloc] at this
  exact this
set_option maxHeartbeats 400000 in
theorem moves_out_a (x y wd ht dx dy n : Int) (w : World) (hs : smF (nth [x, y, wd, ht, dx, dy, n]) 7 = false) :
    Calls Try.prog 5 #[.agg #[.int .i64 x, .int .i64 y, .int .i64 wd, .int .i64 ht], .int .i64 dx, .int .i64 dy, .int .i64 n] w fun e w' => e = .returned (.bool true) ∧ Below w.heap.size w w' := by
  go_enter Try.func5, Try.ntmps5
  go_wp2_with (first | (go_at_call 13; refine (small_any _ 7 _ (nth [x, y, wd, ht, dx, dy, n]) _ (by omega) (new_row2 _ _ _ [x, y, wd, ht, dx, dy, n])).mono ?_; rintro e w2 ⟨rfl, rfl⟩) | (go_at_call 12; refine (known_any _).mono ?_; rintro e w3 ⟨rfl, hb3⟩))
  go_ret
  exact ⟨rfl, under2 hb3⟩
set_option maxHeartbeats 400000 in
theorem moves_out_b (x y wd ht dx dy n : Int) (w : World) (hs : smF (nth [x, y, wd, ht, dx, dy, n]) 7 = true) (h1 : wd < 0) :
    Calls Try.prog 5 #[.agg #[.int .i64 x, .int .i64 y, .int .i64 wd, .int .i64 ht], .int .i64 dx, .int .i64 dy, .int .i64 n] w fun e w' => e = .returned (.bool true) ∧ Below w.heap.size w w' := by
  go_enter Try.func5, Try.ntmps5
  go_wp2_with (first | (go_at_call 13; refine (small_any _ 7 _ (nth [x, y, wd, ht, dx, dy, n]) _ (by omega) (new_row2 _ _ _ [x, y, wd, ht, dx, dy, n])).mono ?_; rintro e w2 ⟨rfl, rfl⟩) | (go_at_call 12; refine (known_any _).mono ?_; rintro e w3 ⟨rfl, hb3⟩))
  go_ret
  exact ⟨rfl, under2 hb3⟩
set_option maxHeartbeats 400000 in
theorem moves_out_c (x y wd ht dx dy n : Int) (w : World) (hs : smF (nth [x, y, wd, ht, dx, dy, n]) 7 = true) (h1 : 0 ≤ wd) (h2 : ht < 0) :
    Calls Try.prog 5 #[.agg #[.int .i64 x, .int .i64 y, .int .i64 wd, .int .i64 ht], .int .i64 dx, .int .i64 dy, .int .i64 n] w fun e w' => e = .returned (.bool true) ∧ Below w.heap.size w w' := by
  go_enter Try.func5, Try.ntmps5
  go_wp2_with (first | (go_at_call 13; refine (small_any _ 7 _ (nth [x, y, wd, ht, dx, dy, n]) _ (by omega) (new_row2 _ _ _ [x, y, wd, ht, dx, dy, n])).mono ?_; rintro e w2 ⟨rfl, rfl⟩) | (go_at_call 12; refine (known_any _).mono ?_; rintro e w3 ⟨rfl, hb3⟩))
  go_ret
  exact ⟨rfl, under2 hb3⟩
/-- not all within 2^40, or no width or height -/
theorem moves_out (x y wd ht dx dy n : Int) (w : World) (h : smF (nth [x, y, wd, ht, dx, dy, n]) 7 = false ∨ wd < 0 ∨ ht < 0) :
    Calls Try.prog 5 #[.agg #[.int .i64 x, .int .i64 y, .int .i64 wd, .int .i64 ht], .int .i64 dx, .int .i64 dy, .int .i64 n] w fun e w' => e = .returned (.bool true) ∧ Below w.heap.size w w' := by
  cases hs : smF (nth [x, y, wd, ht, dx, dy, n]) 7 with
  | false => exact moves_out_a x y wd ht dx dy n w hs
  | true =>
    rw [hs] at h
    by_cases h1 : wd < 0
    · exact moves_out_b x y wd ht dx dy n w hs h1
    · by_cases h2 : ht < 0
      · exact moves_out_c x y wd ht dx dy n w hs (by omega) h2
      · rcases h with h | h | h
        · cases h
        · exact absurd h h1
        · exact absurd h h2
theorem add_far {a b : Int} (ha : -8796093022208 ≤ a) (ha' : a ≤ 8796093022208) (hb : -8796093022208 ≤ b) (hb' : b ≤ 8796093022208) : add (sat (add (sat a) b)) (-b) = a := by
  rw [sat_in (n := a) (by omega) (by omega), add_mid ha ha' hb hb', sat_in (by omega) (by omega)]
  unfold add; rw [sat_in (n := a + b) (by omega) (by omega), sat_in (n := -b) (by omega) (by omega), sat_in (by omega) (by omega)]; omega
theorem move_k (x y wd ht dx dy : Int) (w : World) (hx : -1099511627776 ≤ x ∧ x ≤ 1099511627776) (hy : -1099511627776 ≤ y ∧ y ≤ 1099511627776) (hw : -1099511627776 ≤ wd ∧ wd ≤ 1099511627776) (hh : -1099511627776 ≤ ht ∧ ht ≤ 1099511627776)
    (hdx : -1099511627776 ≤ dx ∧ dx ≤ 1099511627776) (hdy : -1099511627776 ≤ dy ∧ dy ≤ 1099511627776) :
    Calls Try.prog 14 #[.agg #[.int .i64 x, .int .i64 y, .int .i64 wd, .int .i64 ht], .int .i64 dx, .int .i64 dy] w fun e w' => e = .returned (.agg #[.int .i64 (x + dx), .int .i64 (y + dy), .int .i64 wd, .int .i64 ht]) ∧ Below w.heap.size w w' := by
  have := move_any x y wd ht dx dy w
  rw [sat_in (n := x) (by omega) (by omega), sat_in (n := y) (by omega) (by omega), sat_in (n := wd) (by omega) (by omega), sat_in (n := ht) (by omega) (by omega), add_mid (by omega) (by omega) (by omega) (by omega), add_mid (by omega) (by omega) (by omega) (by omega)] at this
  exact this
theorem move_kk (x y wd ht dx dy : Int) (w : World) (hx : -1099511627776 ≤ x ∧ x ≤ 1099511627776) (hy : -1099511627776 ≤ y ∧ y ≤ 1099511627776) (hw : -1099511627776 ≤ wd ∧ wd ≤ 1099511627776) (hh : -1099511627776 ≤ ht ∧ ht ≤ 1099511627776)
    (hdx : -1099511627776 ≤ dx ∧ dx ≤ 1099511627776) (hdy : -1099511627776 ≤ dy ∧ dy ≤ 1099511627776) :
    Calls Try.prog 14 #[.agg #[.int .i64 (x + dx), .int .i64 (y + dy), .int .i64 wd, .int .i64 ht], .int .i64 (-dx), .int .i64 (-dy)] w fun e w' => e = .returned (.agg #[.int .i64 x, .int .i64 y, .int .i64 wd, .int .i64 ht]) ∧ Below w.heap.size w w' := by
  have := move_any (x + dx) (y + dy) wd ht (-dx) (-dy) w
  rw [sat_in (n := x + dx) (by omega) (by omega), sat_in (n := y + dy) (by omega) (by omega), sat_in (n := wd) (by omega) (by omega), sat_in (n := ht) (by omega) (by omega), add_mid (by omega) (by omega) (by omega) (by omega), add_mid (by omega) (by omega) (by omega) (by omega),
    show x + dx + -dx = x by omega, show y + dy + -dy = y by omega] at this
  exact this
theorem inset_k1 (x y wd ht n : Int) (w : World) (hx : -1099511627776 ≤ x ∧ x ≤ 1099511627776) (hy : -1099511627776 ≤ y ∧ y ≤ 1099511627776) (hw : 0 ≤ wd ∧ wd ≤ 1099511627776) (hh : 0 ≤ ht ∧ ht ≤ 1099511627776) (hn : 0 ≤ n) (hn1 : n ≤ wd / 2) (hn2 : n ≤ ht / 2) :
    Calls Try.prog 9 #[.agg #[.int .i64 x, .int .i64 y, .int .i64 wd, .int .i64 ht], .int .i64 n, .int .i64 n, .int .i64 n, .int .i64 n] w fun e w' => e = .returned (.agg #[.int .i64 (x + n), .int .i64 (y + n), .int .i64 (wd - n - n), .int .i64 (ht - n - n)]) ∧ Below w.heap.size w w' := by
  have := inset_any x y wd ht n n n n w
  rw [add_mid (by omega) (by omega) (by omega) (by omega), add_mid (by omega) (by omega) (by omega) (by omega), sub_mid (a := wd) (by omega) (by omega) (by omega) (by omega), sub_mid (a := ht) (by omega) (by omega) (by omega) (by omega),
    sub_mid (a := wd - n) (by omega) (by omega) (by omega) (by omega), sub_mid (a := ht - n) (by omega) (by omega) (by omega) (by omega), show mx 0 (wd - n - n) = wd - n - n by unfold mx; split <;> omega, show mx 0 (ht - n - n) = ht - n - n by unfold mx; split <;> omega] at this
  exact this
theorem inset_k2 (x y wd ht n : Int) (w : World) (hx : -1099511627776 ≤ x ∧ x ≤ 1099511627776) (hy : -1099511627776 ≤ y ∧ y ≤ 1099511627776) (hw : 0 ≤ wd ∧ wd ≤ 1099511627776) (hh : 0 ≤ ht ∧ ht ≤ 1099511627776) (hn : 0 ≤ n) (hn1 : n ≤ wd / 2) (hn2 : n ≤ ht / 2) :
    Calls Try.prog 9 #[.agg #[.int .i64 (x + n), .int .i64 (y + n), .int .i64 (wd - n - n), .int .i64 (ht - n - n)], .int .i64 (-n), .int .i64 (-n), .int .i64 (-n), .int .i64 (-n)] w fun e w' => e = .returned (.agg #[.int .i64 x, .int .i64 y, .int .i64 wd, .int .i64 ht]) ∧ Below w.heap.size w w' := by
  have := inset_any (x + n) (y + n) (wd - n - n) (ht - n - n) (-n) (-n) (-n) (-n) w
  rw [add_mid (by omega) (by omega) (by omega) (by omega), add_mid (by omega) (by omega) (by omega) (by omega), sub_mid (a := wd - n - n) (by omega) (by omega) (by omega) (by omega), sub_mid (a := ht - n - n) (by omega) (by omega) (by omega) (by omega),
    sub_mid (a := wd - n - n - -n) (by omega) (by omega) (by omega) (by omega), sub_mid (a := ht - n - n - -n) (by omega) (by omega) (by omega) (by omega), show wd - n - n - -n - -n = wd by omega, show ht - n - n - -n - -n = ht by omega,
    show x + n + -n = x by omega, show y + n + -n = y by omega, show mx 0 wd = wd by unfold mx; split <;> omega, show mx 0 ht = ht by unfold mx; split <;> omega] at this
  exact this
end Go.Proofs.Ytijanagnmeihoaa
