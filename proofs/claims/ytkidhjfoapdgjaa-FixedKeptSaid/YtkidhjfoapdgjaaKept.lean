import Derived.Test.YtkidhjfoapdgjaaApart
namespace Go.Proofs.Ytkidhjfoapdgjaa
set_option linter.unusedVariables false
open Go.RowKit Go.Proofs.Fx Go.Proofs.Fm Go.Proofs.Fb

theorem below_grown {w w' : World} (h : Below w.heap.size w w') : w.grownBy w' none := ⟨h.os, h.tape, h.output, h.size, fun k hk _ => h.block k hk⟩
theorem book_kept {w w' : World} {base bk : Nat} {v1 v2 : Value} {vs us : List Kept} {held : Int} (h : BookAt w base bk 2 25 38 .i64 v1 v2 vs us held) (hb : Below w.heap.size w w') : BookAt w' base bk 2 25 38 .i64 v1 v2 vs us held := by
  have hg := below_grown hb
  have hn : ∀ v : Value, v.ownBlock = none ∨ v.ownBlock ≠ none := fun v => by rcases v.ownBlock with _ | _ <;> simp
  exact ⟨h.blk.grown hg (by simp), h.hbase, h.o1.kept hg (hn _), h.o2.kept hg (hn _), h.ne, fun p hp => (h.k1 p hp).grown hg (hn _), fun p hp => (h.k2 p hp).grown hg (hn _), h.same, h.apart⟩
theorem own_of_IB {w : World} {base g n : Nat} {xs : List Int} (h : IB w g 2 .i64 xs) (hg : base ≤ g) (hn : xs.length = n) (hm : n ≤ maxLen) : OwnI w base 2 .i64 (.slice (some ⟨g, 0, none⟩) n n, xs) := by
  subst hn
  refine ⟨by simp, .inr ⟨g, xs.length, _, rfl, hg, h, Nat.le_refl _, hm, by simp, ?_⟩⟩
  rw [List.take_of_length_le (by simp)]
theorem book_new (w : World) : BookAt (w.alloc (.cells #[.slice none 0 0, .slice none 0 0, .int .i64 0, .bool false] 38)) w.heap.size w.heap.size 2 25 38 .i64 (.slice none 0 0) (.slice none 0 0) [] [] 0 :=
  ⟨heap_alloc_new w _, Nat.le_refl _, World.ownsRow_nil _ _ _ _, World.ownsRow_nil _ _ _ _, .inl rfl, by simp, by simp, rfl, List.Pairwise.nil⟩

set_option maxHeartbeats 3200000 in
theorem kept_small (t : Int) (A : Option Addr) (n cap : Nat) (xs : List Int) (hn : xs.length = n) (w : World) (ha : Row w .i64 A xs) (hx : n ≤ 100) :
    Calls Try.prog 9 #[.int .i64 t, .slice A n cap] w fun e w' => e = .returned (.bool true) ∧ Below w.heap.size w w' := by
  have HN := Lib.hid hn
  have hx' : n ≤ 17592186044416 := by omega
  have hl := (share_length t xs).trans hn
  have HL := Lib.hid hl
  clear hn hl
  go_enter Try.func9, Try.ntmps9
  go_wp2_with fail
  -- the book, and the first sharing out
  have hB0 := book_new w
  have hb0 : Below w.heap.size w (w.alloc (.cells #[.slice none 0 0, .slice none 0 0, .int .i64 0, .bool false] 38)) := (Below.refl _ _).alloc (Nat.le_refl _) _
  have hs0 : w.heap.size + 1 = (w.alloc (.cells #[.slice none 0 0, .slice none 0 0, .int .i64 0, .bool false] 38)).heap.size := by simp
  generalize w.alloc (.cells #[.slice none 0 0, .slice none 0 0, .int .i64 0, .bool false] 38) = W0 at *
  refine (share_n t A n cap xs HN.out _ (ha.below hb0 (Nat.le_refl _)) hx').mono ?_
  rintro e w1 ⟨g1, rfl, hg1, hI1, hb1⟩
  have hB1 := book_kept hB0 hb1
  have hc1 : Below w.heap.size w w1 := hb0.trans (hb1.mono hb0.size)
  have o1 := own_of_IB (base := w.heap.size) hI1 (by omega) HL.out (by unfold maxLen; omega)
  have g1lt := hI1.lt
  have HO1 := Lib.hid o1
  have HS0 := Lib.hid hs0
  clear o1 hI1 hB0 hb0 hb1 hs0
  go_wp2_with fail
  refine (keep_any w1 w.heap.size w.heap.size _ _ [] [] 0 (some ⟨g1, 0, none⟩) n n (share t xs) hB1 HO1.out HL.out (Nat.le_refl _) (by simp) (by simp) (by omega) (by omega) hc1.size).mono ?_
  rintro e w2 ⟨rfl, v1, v2, u1, hB2, hb2⟩
  have hc2 : Below w.heap.size w w2 := hc1.trans hb2
  have sz2 := hb2.size
  clear hB1 hb2
  go_wp2_with fail
  -- the second
  refine (share_n t A n cap xs HN.out _ (ha.below hc2 (Nat.le_refl _)) hx').mono ?_
  rintro e w3 ⟨g3, rfl, hg3, hI3, hb3⟩
  have hB3 := book_kept hB2 hb3
  have hc3 : Below w.heap.size w w3 := hc2.trans (hb3.mono hc2.size)
  have o3 := own_of_IB (base := w.heap.size) hI3 (Nat.le_trans hc2.size hg3) HL.out (by unfold maxLen; omega)
  have HO3 := Lib.hid o3
  clear o3 hI3 hB2 hb3
  go_wp2_with fail
  refine (keep_any w3 w.heap.size w.heap.size _ _ _ _ _ (some ⟨g3, 0, none⟩) n n (share t xs) hB3 HO3.out HL.out (Nat.le_refl _) (by
    intro p hp
    have e := List.mem_singleton.1 hp
    subst e
    right
    intro e
    simp [Value.ownBlock] at e
    omega) (by simp) (by omega) (by omega) hc3.size).mono ?_
  rintro e w4 ⟨rfl, v3, v4, u3, hB4, hb4⟩
  have hc4 : Below w.heap.size w w4 := hc3.trans hb4
  have HB4 := Lib.hid hB4
  clear hB3 hb4 hB4
  go_wp2_with fail
  refine (apart_any w4 w.heap.size w.heap.size _ _ _ _ _ HB4.out (by simp) (by
    intro p hp
    have hp' : p = (Value.slice (some ⟨g1, 0, none⟩) n n, share t xs) ∨ p = (Value.slice (some ⟨g3, 0, none⟩) n n, share t xs) := by simpa using hp
    have hL := HL.out
    rcases hp' with e | e <;> subst e <;> (show (share t xs).length ≤ _) <;> omega) hc4.size (by
    intro A' n' c' xs' hp
    have hp' : (A' = some ⟨g1, 0, none⟩ ∧ n' = n ∧ c' = n) ∧ xs' = share t xs ∨ (A' = some ⟨g3, 0, none⟩ ∧ n' = n ∧ c' = n) ∧ xs' = share t xs := by simpa using hp
    rcases hp' with ⟨⟨_, _, e⟩, _⟩ | ⟨⟨_, _, e⟩, _⟩ <;> omega)).mono ?_
  rintro e w5 ⟨rfl, hb5⟩
  have hc5 : Below w.heap.size w w5 := hc4.trans hb5
  go_wp2_with (go_at_call 16; refine (known_any _).mono ?_; rintro e w6 ⟨rfl, hb6⟩)
  go_ret
  exact ⟨rfl, hc5.trans (hb6.mono hc5.size)⟩

set_option maxHeartbeats 3200000 in
theorem kept_large (t : Int) (A : Option Addr) (n cap : Nat) (xs : List Int) (hn : xs.length = n) (w : World) (hza : Row w .i64 A xs) (hx : 100 < n) (hcp : n ≤ cap) :
    Calls Try.prog 9 #[.int .i64 t, .slice A n cap] w fun e w' => e = .returned (.bool true) ∧ Below w.heap.size w w' := by
  obtain ⟨ys, hy, ha⟩ : ∃ ys : List Int, ys.length = 100 ∧ Row w .i64 A ys := ⟨xs.take 100, by simp; omega, hza.take 100⟩
  have HN := Lib.hid hy
  have hx' : 100 ≤ 17592186044416 := by omega
  have hc3 : 100 ≤ cap := by omega
  have hl := (share_length t ys).trans hy
  have HL := Lib.hid hl
  clear hn hl hy hza
  go_enter Try.func9, Try.ntmps9
  go_wp2_with fail
  -- the book, and the first sharing out
  have hB0 := book_new w
  have hb0 : Below w.heap.size w (w.alloc (.cells #[.slice none 0 0, .slice none 0 0, .int .i64 0, .bool false] 38)) := (Below.refl _ _).alloc (Nat.le_refl _) _
  have hs0 : w.heap.size + 1 = (w.alloc (.cells #[.slice none 0 0, .slice none 0 0, .int .i64 0, .bool false] 38)).heap.size := by simp
  generalize w.alloc (.cells #[.slice none 0 0, .slice none 0 0, .int .i64 0, .bool false] 38) = W0 at *
  refine (share_n t A 100 cap ys HN.out _ (ha.below hb0 (Nat.le_refl _)) hx').mono ?_
  rintro e w1 ⟨g1, rfl, hg1, hI1, hb1⟩
  have hB1 := book_kept hB0 hb1
  have hc1 : Below w.heap.size w w1 := hb0.trans (hb1.mono hb0.size)
  have o1 := own_of_IB (base := w.heap.size) hI1 (by omega) HL.out (by unfold maxLen; omega)
  have g1lt := hI1.lt
  have HO1 := Lib.hid o1
  have HS0 := Lib.hid hs0
  clear o1 hI1 hB0 hb0 hb1 hs0
  go_wp2_with fail
  refine (keep_any w1 w.heap.size w.heap.size _ _ [] [] 0 (some ⟨g1, 0, none⟩) 100 100 (share t ys) hB1 HO1.out HL.out (Nat.le_refl _) (by simp) (by simp) (by omega) (by omega) hc1.size).mono ?_
  rintro e w2 ⟨rfl, v1, v2, u1, hB2, hb2⟩
  have hc2 : Below w.heap.size w w2 := hc1.trans hb2
  have sz2 := hb2.size
  clear hB1 hb2
  go_wp2_with fail
  -- the second
  refine (share_n t A 100 cap ys HN.out _ (ha.below hc2 (Nat.le_refl _)) hx').mono ?_
  rintro e w3 ⟨g3, rfl, hg3, hI3, hb3⟩
  have hB3 := book_kept hB2 hb3
  have hc3 : Below w.heap.size w w3 := hc2.trans (hb3.mono hc2.size)
  have o3 := own_of_IB (base := w.heap.size) hI3 (Nat.le_trans hc2.size hg3) HL.out (by unfold maxLen; omega)
  have HO3 := Lib.hid o3
  clear o3 hI3 hB2 hb3
  go_wp2_with fail
  refine (keep_any w3 w.heap.size w.heap.size _ _ _ _ _ (some ⟨g3, 0, none⟩) 100 100 (share t ys) hB3 HO3.out HL.out (Nat.le_refl _) (by
    intro p hp
    have e := List.mem_singleton.1 hp
    subst e
    right
    intro e
    simp [Value.ownBlock] at e
    omega) (by simp) (by omega) (by omega) hc3.size).mono ?_
  rintro e w4 ⟨rfl, v3, v4, u3, hB4, hb4⟩
  have hc4 : Below w.heap.size w w4 := hc3.trans hb4
  have HB4 := Lib.hid hB4
  clear hB3 hb4 hB4
  go_wp2_with fail
  refine (apart_any w4 w.heap.size w.heap.size _ _ _ _ _ HB4.out (by simp) (by
    intro p hp
    have hp' : p = (Value.slice (some ⟨g1, 0, none⟩) 100 100, share t ys) ∨ p = (Value.slice (some ⟨g3, 0, none⟩) 100 100, share t ys) := by simpa using hp
    have hL := HL.out
    rcases hp' with e | e <;> subst e <;> (show (share t ys).length ≤ _) <;> omega) hc4.size (by
    intro A' n' c' xs' hp
    have hp' : (A' = some ⟨g1, 0, none⟩ ∧ n' = 100 ∧ c' = 100) ∧ xs' = share t ys ∨ (A' = some ⟨g3, 0, none⟩ ∧ n' = 100 ∧ c' = 100) ∧ xs' = share t ys := by simpa using hp
    rcases hp' with ⟨⟨_, _, e⟩, _⟩ | ⟨⟨_, _, e⟩, _⟩ <;> omega)).mono ?_
  rintro e w5 ⟨rfl, hb5⟩
  have hc5 : Below w.heap.size w w5 := hc4.trans hb5
  go_wp2_with (go_at_call 16; refine (known_any _).mono ?_; rintro e w6 ⟨rfl, hb6⟩)
  go_ret
  exact ⟨rfl, hc5.trans (hb6.mono hc5.size)⟩
theorem kept_law (w : World) (t : Int) (_ : (Lit.int .i64 t).wf = true) (A : Option Addr) (n cap : Nat) (xs : List Int) (ha : Row w .i64 A xs) (hn : xs.length = n) (_ : ∀ x ∈ xs, (Lit.int .i64 x).wf = true) (hs : n * Try.prog.bytesOf 2 ≤ 140737488351232) (hc : n ≤ cap) :
    Calls Try.prog 9 #[.int .i64 t, .slice A n cap] w fun e w' => e = .returned (.bool true) ∧ Below w.heap.size w w' := by
  by_cases h : n ≤ 100
  · exact kept_small t A n cap xs hn w ha h
  · exact kept_large t A n cap xs hn w ha (by omega) hc
end Go.Proofs.Ytkidhjfoapdgjaa
