/- Book's Keep, at lists of rune. No conditions but each contract's own. -/
import Derived.Test.YteoclmmooeibhaaBook
import Derived.Test.YteoclmmooeibhaaBSamerune
import Derived.Deep.RegionHeld3
import Derived.Deep.RegionLaw
import Derived.BigRegion
namespace Go.Proofs.Yteoclmmooeibhaa.B_rune
set_option linter.unusedVariables false
open Go.Proofs.Yteoclmmooeibhaa Go.RowKit Go.Proofs.Fm Go.Proofs.Fb

theorem Try.info22 : (Try.prog.info? 22).map (fun i => (i.zero, i.size, i.bytes)) = some (some (.slice none 0 0), 1, 24) := by kernel_rfl
theorem Try.info21' : (Try.prog.info? 21).map (fun i => (i.zero, i.size, i.bytes)) = some (some (.int .i32 0), 1, 4) := by kernel_rfl
theorem news_one (w : World) (u : Value) (t : TypeId) : ∀ j x, [u][j]? = some x → (w.alloc (.cells #[u] t)).cell? ((⟨w.heap.size, 0, none⟩ : Addr).add j) = some x :=
  World.news_of_block (cs := #[u]) (t := t) (fr := (0, 0)) (heap_alloc_new w _)

/-- the world behind the first statement of Keep: the list is in the first row -/
structure KeepMid (w W : World) (base bk : Nat) (v1 v2 : Value) (vs us : List Kept) (held : Int) (g1 cp1 : Nat) (v : Value) : Prop where
  blk : Bk W bk 44 #[.slice (some ⟨g1, 0, none⟩) (vs.length + 1) cp1, v2, .int .i64 held, .bool false]
  o1 : W.ownsRow base 22 1 (.slice (some ⟨g1, 0, none⟩) (vs.length + 1) cp1) (vs.length + 1) (vals vs ++ [v])
  o2 : W.ownsRow base 22 1 v2 us.length (vals us)
  ne : v2.ownBlock ≠ some g1
  old : ∀ v n xs, w.ownsRow base 21 1 v n xs → W.ownsRow base 21 1 v n xs
  bel : Below base w W
  hbk : base ≤ bk
theorem keep_base {w W : World} {base bk : Nat} {v1 v2 : Value} {vs us : List Kept} {held : Int} {g1 cp1 : Nat} {v : Value} (M : KeepMid w W base bk v1 v2 vs us held g1 cp1 v) : base ≤ bk := M.hbk
theorem keep_mid {w w1 : World} {base bk : Nat} {v1 v2 : Value} {vs us : List Kept} {held : Int} {g1 cp1 : Nat} {v : Value} (hB : BookAt w base bk 21 22 44 .i32 v1 v2 vs us held)
    (hbk1 : Bk w1 bk 44 #[v1, v2, .int .i64 held, .bool false]) (hown1 : w1.ownsRow base 22 1 (.slice (some ⟨g1, 0, none⟩) (vs.length + 1) cp1) (vs.length + 1) (vals vs ++ [v]))
    (hgrow1 : (w.alloc (.cells #[v] 22)).grownBy w1 v1.ownBlock) (hat1 : v1.ownBlock = some g1 ∨ g1 = w.heap.size + 1) (hlt1 : g1 < w1.heap.size) (hne1 : some bk ≠ v1.ownBlock) (hbase : base ≤ w.heap.size) :
    KeepMid w (w1.setCell ⟨bk, 0, none⟩ (.slice (some ⟨g1, 0, none⟩) (vs.length + 1) cp1)) base bk v1 v2 vs us held g1 cp1 v where
  blk := hbk1.set_ 0 _
  o1 := ownsRow_setCell_other hown1 (own_ne hown1 hbk1 (by decide)) _
  o2 := by
    have h2 := (hB.o2.alloc (.cells #[v] 22)).kept hgrow1 (by
      rcases hB.ne with h | h
      · rw [h]; rcases v2.ownBlock with _ | _ <;> simp
      · exact .inr (Ne.symm h))
    exact ownsRow_setCell_other h2 (own_ne h2 hbk1 (by decide)) _
  ne := by
    rcases hat1 with h | h
    · rcases hB.ne with h' | h'
      · rw [h] at h'; cases h'
      · rw [← h]; exact Ne.symm h'
    · intro e
      have := hB.o2.lt _ e
      omega
  old := fun v' n xs h => by
    have h1 := (h.alloc (.cells #[v] 22)).kept hgrow1 (by
      rcases own_own h hB.o1 (by decide) with e | e
      · exact .inl e
      · exact .inr e)
    exact ownsRow_setCell_other h1 (own_ne h1 hbk1 (by decide)) _
  bel := by
    have h1 : Below base w w1 := ((Below.refl base w).alloc hbase _).grown hgrow1 (by simp; omega) (fun k hk => (hB.o1.lt k hk).1)
    exact h1.setCell (p := ⟨bk, 0, none⟩) hB.hbase _
  hbk := hB.hbase

/-- the world behind the second statement of Keep: the copy is in the second row, too -/
structure KeepMid2 (w W : World) (base bk : Nat) (vs us : List Kept) (held : Int) (g1 cp1 g2 cp2 : Nat) (v u : Value) (xs : List Int) : Prop where
  blk : Bk W bk 44 #[.slice (some ⟨g1, 0, none⟩) (vs.length + 1) cp1, .slice (some ⟨g2, 0, none⟩) (us.length + 1) cp2, .int .i64 held, .bool false]
  o1 : W.ownsRow base 22 1 (.slice (some ⟨g1, 0, none⟩) (vs.length + 1) cp1) (vs.length + 1) (vals vs ++ [v])
  o2 : W.ownsRow base 22 1 (.slice (some ⟨g2, 0, none⟩) (us.length + 1) cp2) (us.length + 1) (vals us ++ [u])
  ne : g1 ≠ g2
  old : ∀ v n xs, w.ownsRow base 21 1 v n xs → W.ownsRow base 21 1 v n xs
  ku : OwnI W base 21 .i32 (u, xs)
  bel : Below base w W
theorem keep_mid2 {w W2 w3 w4 : World} {base bk : Nat} {v1 v2 : Value} {vs us : List Kept} {held : Int} {g1 cp1 g2 cp2 n : Nat} {v u : Value} {xs : List Int}
    (M : KeepMid w W2 base bk v1 v2 vs us held g1 cp1 v) (hbase : base ≤ w.heap.size) (hn : xs.length = n)
    (hgrowu : W2.drew.grownBy w3 (Value.slice none 0 0).ownBlock) (hownu : w3.ownsRow base 21 1 u n (xs.map (Value.int .i32)))
    (hgrow2 : (w3.alloc (.cells #[u] 22)).grownBy w4 v2.ownBlock)
    (hown2 : w4.ownsRow base 22 1 (.slice (some ⟨g2, 0, none⟩) (us.length + 1) cp2) (us.length + 1) (vals us ++ [u]))
    (hat2 : v2.ownBlock = some g2 ∨ g2 = w3.heap.size + 1) (hlt2 : g2 < w4.heap.size) :
    KeepMid2 w (w4.setCell ⟨bk, 1, none⟩ (.slice (some ⟨g2, 0, none⟩) (us.length + 1) cp2)) base bk vs us held g1 cp1 g2 cp2 v u xs := by
  have hnil : ∀ v' : Value, v'.ownBlock = none ∨ v'.ownBlock ≠ (Value.slice none 0 0).ownBlock := fun v' => by
    rcases h : v'.ownBlock with _ | _ <;> simp [Value.ownBlock]
  have b3 : Bk w3 bk 44 _ := Bk.grown (w := W2.drew) M.blk hgrowu (by simp [Value.ownBlock])
  have o23 : w3.ownsRow base 22 1 v2 us.length (vals us) := World.ownsRow.kept (w := W2.drew) M.o2 hgrowu (hnil _)
  have hne2 : some bk ≠ v2.ownBlock := fun e => own_ne o23 b3 (by decide) e.symm
  have b4 : Bk w4 bk 44 _ := (b3.alloc _).grown hgrow2 hne2
  have o13 : w3.ownsRow base 22 1 (.slice (some ⟨g1, 0, none⟩) (vs.length + 1) cp1) (vs.length + 1) (vals vs ++ [v]) := World.ownsRow.kept (w := W2.drew) M.o1 hgrowu (hnil _)
  have o14 := (o13.alloc (.cells #[u] 22)).kept hgrow2 (.inr (by simpa [Value.ownBlock] using Ne.symm M.ne))
  have g1lt : g1 < w3.heap.size := (o13.lt g1 rfl).2
  have old4 : ∀ v' n' (xs' : List Value), w3.ownsRow base 21 1 v' n' xs' → (w4.setCell ⟨bk, 1, none⟩ (.slice (some ⟨g2, 0, none⟩) (us.length + 1) cp2)).ownsRow base 21 1 v' n' xs' := fun v' n' xs' h => by
    have h1 := (h.alloc (.cells #[u] 22)).kept hgrow2 (by
      rcases own_own h o23 (by decide) with e | e
      · exact .inl e
      · exact .inr e)
    exact ownsRow_setCell_other h1 (own_ne h1 b4 (by decide)) _
  refine ⟨?_, ?_, ?_, ?_, ?_, ?_, ?_⟩
  · exact b4.set_ 1 _
  · exact ownsRow_setCell_other o14 (own_ne o14 b4 (by decide)) _
  · exact ownsRow_setCell_other hown2 (own_ne hown2 b4 (by decide)) _
  · rcases hat2 with h | h
    · intro e; subst e; exact M.ne h
    · omega
  · intro v' n' xs' h
    exact old4 _ _ _ (World.ownsRow.kept (w := W2.drew) (M.old _ _ _ h) hgrowu (hnil _))
  · show World.ownsRow _ _ _ _ _ _ _
    simp only [hn]
    exact old4 _ _ _ hownu
  · have hsz : base ≤ W2.heap.size := Nat.le_trans hbase M.bel.size
    have hsz3 : base ≤ w3.heap.size := Nat.le_trans hsz hgrowu.size
    have h3 : Below base w w3 := M.bel.drew.grown hgrowu hsz (fun k hk => by simp [Value.ownBlock] at hk)
    have h4 : Below base w w4 := (h3.alloc hsz3 _).grown hgrow2 (by simp; omega) (fun k hk => (o23.lt k hk).1)
    exact h4.setCell (p := ⟨bk, 1, none⟩) (by
      have := M.bel
      exact keep_base M) _

/-- what Keep leaves -/
def KeepPost (w : World) (base bk : Nat) (vs us : List Kept) (held : Int) (v : Value) (xs : List Int) (e : Ending) (w' : World) : Prop :=
  e = .returned (.tuple #[]) ∧ ∃ v1 v2 u, BookAt w' base bk 21 22 44 .i32 v1 v2 (vs ++ [(v, xs)]) (us ++ [(u, xs)]) held ∧ Below base w w'
theorem keep_end {w W : World} {base bk : Nat} {v1 v2 : Value} {vs us : List Kept} {held : Int} {g1 cp1 g2 cp2 : Nat} {v u : Value} {xs : List Int} (hB : BookAt w base bk 21 22 44 .i32 v1 v2 vs us held)
    (M : KeepMid2 w W base bk vs us held g1 cp1 g2 cp2 v u xs) (hv : OwnI w base 21 .i32 (v, xs)) (hd : ∀ p ∈ vs, p.1.ownBlock = none ∨ p.1.ownBlock ≠ v.ownBlock) (h : Int) :
    BookAt (W.setCell ⟨bk, 2, none⟩ (.int .i64 h)) base bk 21 22 44 .i32 (.slice (some ⟨g1, 0, none⟩) (vs.length + 1) cp1) (.slice (some ⟨g2, 0, none⟩) (us.length + 1) cp2) (vs ++ [(v, xs)]) (us ++ [(u, xs)]) h ∧
      Below base w (W.setCell ⟨bk, 2, none⟩ (.int .i64 h)) := by
  refine ⟨⟨?_, hB.hbase, ?_, ?_, ?_, ?_, ?_, ?_, ?_⟩, M.bel.setCell (p := ⟨bk, 2, none⟩) hB.hbase _⟩
  · exact M.blk.set_ 2 _
  · have := ownsRow_setCell_other M.o1 (own_ne M.o1 M.blk (by decide)) (a := ⟨bk, 2, none⟩) (.int .i64 h)
    simpa [vals] using this
  · have := ownsRow_setCell_other M.o2 (own_ne M.o2 M.blk (by decide)) (a := ⟨bk, 2, none⟩) (.int .i64 h)
    simpa [vals] using this
  · right; simpa [Value.ownBlock] using M.ne
  · intro p hp
    rcases List.mem_append.1 hp with hp | hp
    · have h1 : OwnI W base 21 .i32 p := M.old _ _ _ (hB.k1 p hp)
      exact h1.far M.blk (by decide) 2 _
    · have e := List.mem_singleton.1 hp
      subst e
      have h1 : OwnI W base 21 .i32 (v, xs) := M.old _ _ _ hv
      exact h1.far M.blk (by decide) 2 _
  · intro p hp
    rcases List.mem_append.1 hp with hp | hp
    · have h1 : OwnI W base 21 .i32 p := M.old _ _ _ (hB.k2 p hp)
      exact h1.far M.blk (by decide) 2 _
    · have e := List.mem_singleton.1 hp
      subst e
      exact M.ku.far M.blk (by decide) 2 _
  · simp [hB.same]
  · rw [List.pairwise_append]
    refine ⟨hB.apart, by simp, fun p hp q hq => ?_⟩
    have e := List.mem_singleton.1 hq
    subst e
    exact hd p hp

set_option maxRecDepth 100000 in
set_option maxHeartbeats 4000000 in
/-- (*Book).Keep, where the book does not let go of older lists. -/
theorem keep_any (w : World) (base bk : Nat) (v1 v2 : Value) (vs us : List Kept) (held : Int) (A : Option Addr) (n cap : Nat) (xs : List Int) (hB : BookAt w base bk 21 22 44 .i32 v1 v2 vs us held)
    (hv : OwnI w base 21 .i32 (.slice A n cap, xs)) (hn : xs.length = n) (hnc : n ≤ cap) (hd : ∀ p ∈ vs, p.1.ownBlock = none ∨ p.1.ownBlock ≠ (Value.slice A n cap).ownBlock) (hl : vs.length < 4000) (h1 : 0 ≤ held) (h2 : held + cap + 1 ≤ 1000000) (hbase : base ≤ w.heap.size) :
    Calls Try.prog 19 #[.pointer (some ⟨bk, 0, none⟩), .slice A n cap] w
      (KeepPost w base bk vs us (held + cap + 1) (.slice A n cap) xs) := by
  obtain ⟨i0, hi0, hz0, hz1, hz2⟩ := info_parts Try.info22
  have hbk := hB.blk
  have c0 := hbk.cell 0
  have c1 := hbk.cell 1
  have c2 := hbk.cell 2
  have c3 := hbk.cell 3
  simp at c0 c1 c2 c3
  have f0 := hbk.frozen 0
  have f1 := hbk.frozen 1
  have f2 := hbk.frozen 2
  have ho1 := hB.o1
  have hne1 : some bk ≠ v1.ownBlock := fun e => own_ne ho1 hbk (by decide) e.symm
  have hv0 := hv
  have hd0 := hd
  clear hd
  go_enter Try.func19, Try.ntmps19
  go_wp2_with (first
    | (at_builtin; refine wpList_append_lies _ rfl (.tmp 8) (.tmp 10) 42 rfl base 22 i0 _ 1 24 Try.underlying42 hi0 hz0 hz1 hz2 rfl (by omega) v1 vs.length (vals vs) rfl (ho1.alloc _) ⟨w.heap.size, 0, none⟩ 1 1 [.slice A n cap] rfl rfl (news_one w _ 22) (by simp [Value.oneCell']) (by omega) (by unfold maxLen; omega) (by omega) (by simp; omega) (w.heap.size + 1) (by simp) ?_; intro g1 cp1 w1 hown1 hgrow1 hat1 hlt1; have hbk1 := (hbk.alloc (.cells #[.slice A n cap] 22)).grown hgrow1 hne1; have c10 := hbk1.cell 0; have f10 := hbk1.frozen 0; simp at c10))
  -- what is known of the world behind the first statement
  have hga : (w.alloc (.cells #[.slice A n cap] 22)).grownBy (w1.setCell ⟨bk, 0, none⟩ (.slice (some ⟨g1, 0, none⟩) (vs.length + 1) cp1)) (some bk) ∨ True := .inr trivial
  obtain ⟨W2, hW2⟩ : ∃ W2, w1.setCell ⟨bk, 0, none⟩ (.slice (some ⟨g1, 0, none⟩) (vs.length + 1) cp1) = W2 := ⟨_, rfl⟩
  have M : Hid (KeepMid w W2 base bk v1 v2 vs us held g1 cp1 (.slice A n cap)) := by
    subst hW2
    exact keep_mid hB hbk1 hown1 hgrow1 hat1 hlt1 hne1 hbase
  rw [hW2]
  clear hga hW2 hbk1 c10 f10 hgrow1 hat1 hlt1 hown1 c0 c1 c2 c3 f0 f1 f2 ho1 hne1 hbk
  obtain ⟨i2, hi2, hy0, hy1, hy2⟩ := info_parts Try.info21'
  have b1 := M.out.blk
  have c1 := b1.cell 1
  simp at c1
  have f1 := b1.frozen 1
  have ho2 := M.out.o2
  have hv2 := M.out.old _ _ _ hv
  simp only [hn] at hv2
  have hsz : base ≤ W2.heap.size := Nat.le_trans hbase M.out.bel.size
  have hbl := b1.lt
  have hne2 : some bk ≠ v2.ownBlock := fun e => own_ne ho2 b1 (by decide) e.symm
  have hul : us.length ≤ 4000 := by have := congrArg List.length hB.same; simp at this; omega
  have HM := M
  clear M
  have hk2 : ∀ w3, W2.drew.grownBy w3 (Value.slice none 0 0).ownBlock → w3.ownsRow base 22 1 v2 us.length (vals us) := fun w3 h =>
    World.ownsRow.kept (w := W2.drew) ho2 h (by rcases v2.ownBlock with _ | _ <;> simp [Value.ownBlock])
  have hz3 : ∀ w3, W2.drew.grownBy w3 (Value.slice none 0 0).ownBlock → base ≤ w3.heap.size + 1 ∧ bk < w3.heap.size := fun w3 h => by
    have := h.size; have e : W2.drew.heap.size = W2.heap.size := rfl
    omega
  have hq3 : ∀ w3, W2.drew.grownBy w3 (Value.slice none 0 0).ownBlock → Bk w3 bk 44 #[.slice (some ⟨g1, 0, none⟩) (vs.length + 1) cp1, v2, .int .i64 held, .bool false] := fun w3 h =>
    Bk.grown (w := W2.drew) b1 h (by simp [Value.ownBlock])
  have hq4 : ∀ w3 w4 o, W2.drew.grownBy w3 (Value.slice none 0 0).ownBlock → (w3.alloc o).grownBy w4 v2.ownBlock → Bk w4 bk 44 #[.slice (some ⟨g1, 0, none⟩) (vs.length + 1) cp1, v2, .int .i64 held, .bool false] := fun w3 w4 o h h' =>
    Bk.grown ((hq3 w3 h).alloc o) h' hne2
  have HQ3 := Lib.hid hq3
  have HQ4 := Lib.hid hq4
  clear hq3 hq4
  go_region_law (first
      | ((refine step_copy (by rfl) (.const (.slice none 0 0)) (.tmp 19) 22 (by rfl) base 21 i2 _ 4 Try.underlying22 hi2 hy0 hy1 hy2 rfl (by rfl) A n cap (xs.map (Value.int .i32)) (by rfl) (by exact hv2) (by simp [Value.oneCell']) (by unfold maxLen; omega) (by omega) (by simpa using hsz) ?_; intro Au cu w3 hownu hgrowu; have hz3' := hz3 _ hgrowu; have cz3 : w3.cell? ⟨bk, 1, none⟩ = some v2 := ((HQ3.out _ hgrowu).cell 1).trans (by simp); have nz3 := World.new_ne w3 ⟨bk, 1, none⟩ cz3))
      | ((refine step_append_lies _ (by rfl) (.tmp 18) (.tmp 21) 42 (by rfl) base 22 i0 _ 1 24 Try.underlying42 hi0 hz0 hz1 hz2 rfl (by omega) v2 us.length (vals us) (by rfl) ((hk2 _ hgrowu).alloc _) ⟨w3.heap.size, 0, none⟩ 1 1 [.slice Au n cu] (by rfl) (by rfl) (news_one w3 _ 22) (by simp [Value.oneCell']) (by omega) (by unfold maxLen; omega) (by omega) (by simpa using hz3'.1) (w3.heap.size + 1) (by simp) ?_; intro g2 cp2 w4 hown2 hgrow2 hat2 hlt2; have fz4 := (HQ4.out _ _ _ hgrowu hgrow2).frozen 1; have cz4 : w4.cell? ⟨bk, 1, none⟩ = some v2 := ((HQ4.out _ _ _ hgrowu hgrow2).cell 1).trans (by simp))))
  all_goals
    obtain ⟨W4, hW4⟩ : ∃ W4, w4.setCell ⟨bk, 1, none⟩ (.slice (some ⟨g2, 0, none⟩) (us.length + 1) cp2) = W4 := ⟨_, rfl⟩
    have M2 : Hid (KeepMid2 w W4 base bk vs us held g1 cp1 g2 cp2 (.slice A n cap) (.slice Au n cu) xs) := by
      subst hW4
      exact keep_mid2 HM.out hbase hn hgrowu hownu hgrow2 hown2 hat2 hlt2
    have hnc' : 0 ≤ held + (cap : Int) := by omega
    rw [hW4]
    clear hW4 hgrowu hownu hgrow2 hown2 hat2 hlt2 fz4 cz4 nz3 cz3 hz3' HQ3 HQ4 hk2 hz3 hv2 ho2 c1 f1 b1 hne2 HM hbl hsz hv
    have d0 := M2.out.blk.cell 0
    have d1 := M2.out.blk.cell 1
    have d2 := M2.out.blk.cell 2
    have d3 := M2.out.blk.cell 3
    simp at d0 d1 d2 d3
    have e2 := M2.out.blk.frozen 2
    go_wp2
    refine wp_loop_rounds 1 ?_
    rw [rounds_succ]
    go_wp2
    all_goals
      go_end0
      exact ⟨rfl, _, _, _, keep_end hB M2.out hv0 hd0 _⟩
end Go.Proofs.Yteoclmmooeibhaa.B_rune
