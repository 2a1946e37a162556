/- source.Cursor of int: New, Peek, Next, At, Left. No conditions but that the list is not endless. -/
import Derived.Test.YtnpoipjnnlbnfaaDoorBase
import Derived.Test.YtnpoipjnnlbnfaaDoorMr
import Derived.Lib.SliceRun
namespace Go.Proofs.YtnpoipjnnlbnfaaDoor.Cu_rune
set_option linter.unusedVariables false
open Go.Proofs.YtnpoipjnnlbnfaaDoor Go.RowKit Go.Proofs.Fm Go.Proofs.Fb

theorem Tryd.runeInfo : (Tryd.prog.info? 21).map (fun i => (i.zero, i.size, i.bytes)) = some (some (.int .i32 0), 1, 4) := by kernel_rfl

/-- a copy of a list of integers, in a block of its own -/
theorem clone_any (A : Option Addr) (n c : Nat) (xs : List Int) (hn : xs.length = n) (w : World) (ha : Row w .i32 A xs) (hx : n ≤ 17592186044416) :
    Calls Tryd.prog 59 #[.slice A n c] w fun e w' => ∃ A' c', e = .returned (.slice A' n c') ∧ w'.ownsRow w.heap.size 21 1 (.slice A' n c') n (xs.map (Value.int .i32)) ∧ Below w.heap.size w w' := by
  rcases A with _ | ad
  · have hys : xs = [] := by
      by_cases h : xs = []
      · exact h
      · obtain ⟨b, off, e, _⟩ := ha h; cases e
    subst hys
    obtain rfl : n = 0 := by simpa using hn.symm
    clear ha hn
    have keq : ∀ w : World, (binOp .eql 32 (.slice none 0 c) (.slice none 0 0)).run Tryd.prog w = .ok (.bool true) w := fun w => Lib.run_eql_slice_nil w 32 21 none 0 c 0 0 Tryd.underlying32
    go_enter Tryd.func59, Tryd.ntmps59
    go_wp2
    go_ret
    exact ⟨none, 0, rfl, World.ownsRow_nil _ _ _ _, Below.refl _ _⟩
  · obtain ⟨i0, hi0, hz0, hs0, hb0⟩ := info_parts Tryd.runeInfo
    have HN := Lib.hid hn
    have HA := Lib.hid ha
    have HZ := Lib.hid hz0
    have HS := Lib.hid hs0
    have HB := Lib.hid hb0
    clear hn ha hz0 hs0 hb0
    have keq : ∀ w : World, (binOp .eql 32 (.slice (some ad) n c) (.slice none 0 0)).run Tryd.prog w = .ok (.bool false) w := fun w => Lib.run_eql_slice_nil w 32 21 (some ad) n c 0 0 Tryd.underlying32
    go_enter Tryd.func59, Tryd.ntmps59
    go_wp2_with (refine wpList_append_ints rfl (.tmp 5) (.tmp 6) 32 rfl w.heap.size 21 .i32 i0 4 Tryd.underlying32 hi0 HZ.out HS.out HB.out (.slice (some ⟨w.heap.size, 0, none⟩) 0 0) 0 [] rfl (own_empty w w.heap.size 21 (Nat.le_refl _)) (some ad) n c xs rfl HN.out (HA.out.below ((Below.refl w.heap.size w).alloc (Nat.le_refl _) _) (Nat.le_refl _)) (by simp) (by simp [maxLen]; omega) (by omega) (by simp) ?_; intro A3 c3 W2 hO3 hg3 hat3; have hb3 : Below w.heap.size w W2 := ((Below.refl w.heap.size w).alloc (Nat.le_refl _) _).grown hg3 (by simp) (fun k hk => by simp [Value.ownBlock] at hk; omega); simp only [Nat.zero_add, List.nil_append] at hO3; clear hg3 hat3)
    go_ret
    exact ⟨A3, c3, rfl, hO3, hb3⟩

/-- a cursor at block b: its list xs, in memory of its own, and where it stands -/
structure Cur (w : World) (base b : Nat) (A : Option Addr) (n c k : Nat) (xs : List Int) : Prop where
  blk : Bk w b 95 #[.slice A n c, .int .i64 k]
  own : w.ownsRow base 21 1 (.slice A n c) n (xs.map (Value.int .i32))
  hb : base ≤ b
  le : k ≤ n
theorem Cur.drewN {w : World} {base b n c k : Nat} {A : Option Addr} {xs : List Int} (h : Cur w base b A n c k xs) (q : Nat) : Cur (w.drewN q) base b A n c k xs := ⟨h.blk.drewN q, h.own, h.hb, h.le⟩
theorem Cur.grown {w w' : World} {base b n c k g : Nat} {A : Option Addr} {xs : List Int} (h : Cur w base b A n c k xs) (hg : w.grownBy w' (some g)) (hl : g < base) : Cur w' base b A n c k xs := by
  refine ⟨h.blk.grown hg (by simp; have := h.hb; omega), h.own.kept hg ?_, h.hb, h.le⟩
  right
  intro e
  have := (h.own.lt _ e).1
  omega
theorem Cur.step {w : World} {base b n c k : Nat} {A : Option Addr} {xs : List Int} (h : Cur w base b A n c k xs) (hk : k < n) : Cur (w.setCell ⟨b, 1, none⟩ (.int .i64 ((k + 1 : Nat) : Int))) base b A n c (k + 1) xs := by
  refine ⟨?_, ownsRow_setCell_other h.own (own_ne h.own h.blk (by decide)) _, h.hb, hk⟩
  have := h.blk.set_ 1 (.int .i64 ((k + 1 : Nat) : Int))
  simpa using this
theorem Cur.cells {w : World} {base b n c k : Nat} {A : Option Addr} {xs : List Int} (h : Cur w base b A n c k xs) : w.cell? ⟨b, 0, none⟩ = some (.slice A n c) ∧ w.cell? ⟨b, 1, none⟩ = some (.int .i64 k) ∧ w.frozen? ⟨b, 1, none⟩ = false := by
  refine ⟨?_, ?_, h.blk.frozen 1⟩
  · rw [h.blk.cell]; rfl
  · rw [h.blk.cell]; rfl

theorem new_any (A : Option Addr) (n c : Nat) (xs : List Int) (hn : xs.length = n) (w : World) (ha : Row w .i32 A xs) (hx : n ≤ 17592186044416) :
    Calls Tryd.prog 38 #[.slice A n c] w fun e w' => ∃ b A' c', e = .returned (.pointer (some ⟨b, 0, none⟩)) ∧ Cur w' w.heap.size b A' n c' 0 xs ∧ Below w.heap.size w w' := by
  have hc := clone_any A n c xs hn w ha hx
  have HC := Lib.hid hc
  clear hc ha hn
  go_enter Tryd.func38, Tryd.ntmps38
  go_wp2_with (go_at_call 59; refine (HC.out).mono ?_; rintro e w1 ⟨A1, c1, rfl, hO, hb⟩)
  go_ret
  refine ⟨w1.heap.size, A1, c1, rfl, ⟨?_, hO.alloc _, hb.size, Nat.zero_le _⟩, hb.alloc hb.size _⟩
  exact heap_alloc_new w1 _

theorem left_any {w : World} {base b n c k : Nat} {A : Option Addr} {xs : List Int} (h : Cur w base b A n c k xs) (hx : n ≤ 17592186044416) :
    Calls Tryd.prog 60 #[.pointer (some ⟨b, 0, none⟩)] w fun e w' => e = .returned (.int .i64 ((n : Int) - (k : Int))) ∧ ∃ q, w.drewN q = w' := by
  obtain ⟨c0, c1, _⟩ := h.cells
  have hk := h.le
  clear h
  go_enter Tryd.func60, Tryd.ntmps60
  go_wp2
  go_quiet (fail)
  go_wp2
  go_ret
  exact ⟨ret_int (by go_num), _, rfl⟩
theorem peek_yes {w : World} {base b n c k : Nat} {A : Option Addr} {xs : List Int} (h : Cur w base b A n c k xs) (hx : n ≤ 17592186044416) (i : Nat) (hi : k + i < n) :
    Calls Tryd.prog 61 #[.pointer (some ⟨b, 0, none⟩), .int .i64 i] w fun e w' => e = .returned (.tuple #[.int .i32 (xs.getD (k + i) 0), .bool true]) ∧ ∃ q, w.drewN q = w' := by
  have hl := left_any h hx
  have HL := Lib.hid hl
  obtain ⟨c0, c1, _⟩ := h.cells
  have hlen := own_len h.own
  obtain ⟨g, off, rfl, hc⟩ := (own_row h.own).at_ (i := k + i) (by omega)
  have g1 := hc (k + i) (by omega)
  have j1 : ¬ ((i : Int) < 0) := by omega
  have j2 : ¬ ((n : Int) - (k : Int) ≤ (i : Int)) := by omega
  have j3 : (k : Int) + (i : Int) < (n : Int) := by omega
  clear hc h hl hlen
  go_enter Tryd.func61, Tryd.ntmps61
  go_wp2_with (go_at_call 60; refine (HL.out).mono ?_; rintro e w1 ⟨rfl, q, rfl⟩)
  go_quiet (fail)
  go_wp2
  go_ret2
  exact ⟨rfl, _, (World.drewN_drewN _ _ _).symm⟩
theorem peek_no {w : World} {base b n c k : Nat} {A : Option Addr} {xs : List Int} (h : Cur w base b A n c k xs) (hx : n ≤ 17592186044416) (i : Int) (hi : i < 0 ∨ (n : Int) - (k : Int) ≤ i) :
    Calls Tryd.prog 61 #[.pointer (some ⟨b, 0, none⟩), .int .i64 i] w fun e w' => e = .returned (.tuple #[.int .i32 0, .bool false]) ∧ ∃ q, w.drewN q = w' := by
  have hl := left_any h hx
  have HL := Lib.hid hl
  clear h hl
  by_cases h0 : i < 0
  · go_enter Tryd.func61, Tryd.ntmps61
    go_wp2
    go_ret2
    exact ⟨rfl, 0, rfl⟩
  · have h1 : (n : Int) - (k : Int) ≤ i := by omega
    clear hi
    go_enter Tryd.func61, Tryd.ntmps61
    go_wp2_with (go_at_call 60; refine (HL.out).mono ?_; rintro e w1 ⟨rfl, q, rfl⟩)
    go_ret2
    exact ⟨rfl, q, rfl⟩
theorem next_yes {w : World} {base b n c k : Nat} {A : Option Addr} {xs : List Int} (h : Cur w base b A n c k xs) (hx : n ≤ 17592186044416) (hk : k < n) :
    Calls Tryd.prog 64 #[.pointer (some ⟨b, 0, none⟩)] w fun e w' => e = .returned (.tuple #[.int .i32 (xs.getD k 0), .bool true]) ∧ Cur w' base b A n c (k + 1) xs ∧ ∃ q, (w.drewN q).setCell ⟨b, 1, none⟩ (.int .i64 ((k + 1 : Nat) : Int)) = w' := by
  have hp := peek_yes h hx 0 hk
  have HP := Lib.hid hp
  obtain ⟨c0, c1, f1⟩ := h.cells
  have H := Lib.hid h
  clear h hp
  go_enter Tryd.func64, Tryd.ntmps64
  go_wp2_with (go_at_call 61; refine (HP.out).mono ?_; rintro e w1 ⟨rfl, q, rfl⟩)
  go_ret2
  exact ⟨rfl, (H.out.drewN q).step hk, q, rfl⟩
theorem next_no {w : World} {base b n c k : Nat} {A : Option Addr} {xs : List Int} (h : Cur w base b A n c k xs) (hx : n ≤ 17592186044416) (hk : k = n) :
    Calls Tryd.prog 64 #[.pointer (some ⟨b, 0, none⟩)] w fun e w' => e = .returned (.tuple #[.int .i32 0, .bool false]) ∧ ∃ q, w.drewN q = w' := by
  have hp := peek_no h hx 0 (by omega)
  have HP := Lib.hid hp
  clear h hp
  go_enter Tryd.func64, Tryd.ntmps64
  go_wp2_with (go_at_call 61; refine (HP.out).mono ?_; rintro e w1 ⟨rfl, q, rfl⟩)
  go_ret2
  exact ⟨rfl, q, rfl⟩
end Go.Proofs.YtnpoipjnnlbnfaaDoor.Cu_rune
