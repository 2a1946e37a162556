/- Lists of attributes for books: what their cells are, and that Same of two alike is true. Book's Keep, at lists of casement/api.Attr, older lists let go. Book's Stays, at lists of casement/api.Attr, of a book that may have let go of older ones. Book's Apart, at lists of casement/api.Attr, structs of two texts whose mark is laid in new memory; of a book that may have let go of older ones. -/
import Derived.Test.YtnpoipjnnlbnfaaDoorBG
import Derived.Test.YtnpoipjnnlbnfaaDoorVm
import Derived.Deep.RegionHeld3
import Derived.Deep.RegionLaw
import Derived.BigRegion
import Derived.Deep.DeepCutAuto
import Derived.Test.YtnpoipjnnlbnfaaDoorBG
import Derived.Test.YtnpoipjnnlbnfaaDoorCls
namespace Go.Proofs.YtnpoipjnnlbnfaaDoor.G_attr
set_option linter.unusedVariables false
open Go.Proofs.YtnpoipjnnlbnfaaDoor Go.RowKit Go.Proofs.Fm Go.Proofs.Fb Go.Proofs.Fg Go.Proofs.Fk

theorem Tryd.info23 : (Tryd.prog.info? 23).map (fun i => (i.zero, i.size, i.bytes)) = some (some (.slice none 0 0), 1, 24) := by kernel_rfl
theorem Tryd.info29' : (Tryd.prog.info? 29).map (fun i => (i.zero, i.size, i.bytes)) = some (some (.agg #[.string ⟨#[]⟩, .string ⟨#[]⟩]), 2, 32) := by kernel_rfl
theorem zsize : (Value.agg #[.string ⟨#[]⟩, .string ⟨#[]⟩]).cells.size = 2 := rfl
/-- what the cells of such a list are -/
def G (xs : List Value) : Prop := ∃ al : List Att, al.length ≤ 64 ∧ xs = attrCells al
theorem G.one {xs : List Value} (h : G xs) : ∀ u ∈ xs, u.oneCell' = true := by
  obtain ⟨al, _, rfl⟩ := h
  exact attrCells_one al
/-- Same, of two owned lists of the same cells -/
theorem same_own {w : World} {base n c c' : Nat} {A A' : Option Addr} {xs : List Value} (hG : G xs) (h : w.ownsRow base 29 2 (.slice A n c) n xs) (h' : w.ownsRow base 29 2 (.slice A' n c') n xs) :
    Calls Tryd.prog 53 #[.slice A n c, .slice A' n c'] w fun e w' => e = .returned (.bool true) ∧ ∃ q, w.drewN q = w' := by
  obtain ⟨al, h64, rfl⟩ := hG
  have hl : al.length = n := by have := h.1; rw [attrCells_length] at this; omega
  have hs := same_attr A A' n n c c' al al hl hl (by omega) (ARow.of_own h hl) (ARow.of_own h' hl)
  rw [decide_eq_true rfl] at hs
  exact hs
theorem news_one (w : World) (u : Value) (t : TypeId) : (w.alloc (.cells #[u] t)).cell? ⟨w.heap.size, 0, none⟩ = some u := by
  rw [cell_of_row _ w.heap.size 0 #[u] t (0, 0) (heap_alloc_new w _)]; rfl
end Go.Proofs.YtnpoipjnnlbnfaaDoor.G_attr
namespace Go.Proofs.YtnpoipjnnlbnfaaDoor.G_attr
set_option linter.unusedVariables false
open Go.Proofs.YtnpoipjnnlbnfaaDoor Go.RowKit Go.Proofs.Fm Go.Proofs.Fb Go.Proofs.Fg

/-- how many lists the book at this block holds -/
def lensAt (w : World) (bk : Nat) : Nat := match w.cell? ⟨bk, 0, none⟩ with | some (.slice _ n _) => n | _ => 0

/-- what Keep leaves -/
def KeepPost (w : World) (base bk : Nat) (vs : List KeptG) (p : KeptG) (e : Ending) (w' : World) : Prop :=
  e = .returned (.tuple #[]) ∧ ∃ v1 v2 h' vs' us', BookW G w' base bk 29 2 23 48 v1 v2 h' vs' us' ∧ vs'.length ≤ 4000 ∧ (∀ x ∈ vs', x ∈ vs ∨ x = p) ∧ Below base w w' ∧ Old w w' base 23 48

set_option maxRecDepth 100000 in
set_option maxHeartbeats 8000000 in
theorem keep_any (w : World) (base bk : Nat) (v1 v2 : Value) (vs us : List KeptG) (h0 : Int) (A : Option Addr) (n cap : Nat) (xs : List Value) (hB : BookW G w base bk 29 2 23 48 v1 v2 h0 vs us)
    (hv : w.ownsRow base 29 2 (.slice A n cap) n xs) (hG : G xs) (hd : ∀ p ∈ vs, p.1.ownBlock = none ∨ p.1.ownBlock ≠ (Value.slice A n cap).ownBlock) (hl : vs.length ≤ 4000) (hn : n * 32 ≤ 140737488351232) (hbase : base ≤ w.heap.size) :
    Calls Tryd.prog 28 #[.pointer (some ⟨bk, 0, none⟩), .slice A n cap] w (KeepPost w base bk vs (.slice A n cap, xs)) := by
  obtain ⟨i0, hi0, hz0, hz1, hz2⟩ := info_parts Tryd.info23
  have hbk := hB.blk
  have c0 := hbk.cell 0
  have c1 := hbk.cell 1
  have c2 := hbk.cell 2
  have c3 := hbk.cell 3
  simp at c0 c1 c2 c3
  have f0 := hbk.frozen 0
  have f1 := hbk.frozen 1
  have f2 := hbk.frozen 2
  have ho1 := hB.o1
  have hne1 : some bk ≠ v1.ownBlock := fun e => ho1.ne hbk (by decide) e.symm
  have HD0 := Lib.hid hd
  have HB0 := Lib.hid hB
  have HG := Lib.hid hG
  have HV0 := Lib.hid hv
  clear hd hG hB
  go_enter Tryd.func28, Tryd.ntmps28
  go_wp2_with (first
    | (at_builtin; refine wpList_append_off rfl (.tmp 8) (.tmp 10) 46 rfl base 23 i0 _ 24 Tryd.underlying46 hi0 hz0 hz1 hz2 rfl v1 vs.length (valsG vs) rfl (ho1.alloc _) ⟨w.heap.size, 0, none⟩ 1 (.slice A n cap) rfl (news_one w _ 23) rfl (by unfold maxLen; omega) (by omega) (by simp; omega) (w.heap.size + 1) (by simp) ?_; intro g1 q1 cp1 w1 hown1 hgrow1 hat1 hlt1; have hbk1 := (hbk.alloc (.cells #[.slice A n cap] 23)).grown hgrow1 hne1; have c10 := hbk1.cell 0; have f10 := hbk1.frozen 0; simp at c10))
  obtain ⟨W2, hW2⟩ : ∃ W2, w1.setCell ⟨bk, 0, none⟩ (.slice (some ⟨g1, q1, none⟩) (vs.length + 1) cp1) = W2 := ⟨_, rfl⟩
  have M : Hid (MidG w W2 base bk 29 2 23 48 v1 v2 h0 vs us g1 q1 cp1 (.slice A n cap)) := by
    subst hW2
    exact midG HB0.out (by decide) (by decide) (by decide) hbk1 hown1 hgrow1 hat1 hbase
  rw [hW2]
  clear hW2 hbk1 c10 f10 hgrow1 hat1 hlt1 hown1 c0 c1 c2 c3 f0 f1 f2 ho1 hne1 hbk
  obtain ⟨i2, hi2, hy0, hy1, hy2⟩ := info_parts Tryd.info29'
  have b1 := M.out.blk
  have c1 := b1.cell 1
  simp at c1
  have f1 := b1.frozen 1
  have ho2 := M.out.o2
  have hv2 := M.out.old _ _ _ _ _ (by decide) (by decide) hv
  have hsz : base ≤ W2.heap.size := Nat.le_trans hbase M.out.bel.size
  have hbl := b1.lt
  have hne2 : some bk ≠ v2.ownBlock := fun e => ho2.ne b1 (by decide) e.symm
  have hul : us.length ≤ 4000 := by have := congrArg List.length HB0.out.same; simp at this; omega
  have HM := M
  clear M
  have hk2 : ∀ w3, W2.drew.grownBy w3 (Value.slice none 0 0).ownBlock → OffRow w3 base 23 v2 us.length (valsG us) := fun w3 h =>
    OffRow.kept (w := W2.drew) ho2 h (by rcases v2.ownBlock with _ | _ <;> simp [Value.ownBlock])
  have hz3 : ∀ w3, W2.drew.grownBy w3 (Value.slice none 0 0).ownBlock → base ≤ w3.heap.size + 1 ∧ bk < w3.heap.size := fun w3 h => by
    have := h.size; have e : W2.drew.heap.size = W2.heap.size := rfl
    omega
  have hq3 : ∀ w3, W2.drew.grownBy w3 (Value.slice none 0 0).ownBlock → Bk w3 bk 48 #[.slice (some ⟨g1, q1, none⟩) (vs.length + 1) cp1, v2, .int .i64 h0, .bool false] := fun w3 h =>
    Bk.grown (w := W2.drew) b1 h (by simp [Value.ownBlock])
  have hq4 : ∀ w3 w4 o, W2.drew.grownBy w3 (Value.slice none 0 0).ownBlock → (w3.alloc o).grownBy w4 v2.ownBlock → Bk w4 bk 48 #[.slice (some ⟨g1, q1, none⟩) (vs.length + 1) cp1, v2, .int .i64 h0, .bool false] := fun w3 w4 o h h' =>
    Bk.grown ((hq3 w3 h).alloc o) h' hne2
  have HQ3 := Lib.hid hq3
  have HQ4 := Lib.hid hq4
  have HONE := Lib.hid (G.one HG.out)
  clear hq3 hq4
  go_cut [] (fun wx => ∃ g2 q2 cp2 u, Mid2G w wx base bk 29 2 23 48 h0 vs us g1 q1 cp1 g2 q2 cp2 (.slice A n cap) u xs)
  case first =>
    go_region_law (first
        | ((refine step_copyG (by rfl) (.const (.slice none 0 0)) (.tmp 19) 23 (by rfl) base 29 i2 _ 2 32 Tryd.underlying23 hi2 hy0 hy1 hy2 zsize (by omega) (by rfl) A n cap xs (by rfl) (by exact hv2) HONE.out (by unfold maxLen; omega) (by omega) (by simpa using hsz) ?_; intro Au cu w3 hownu hgrowu hatu; clear hatu; have hz3' := hz3 _ hgrowu; have cz3 : w3.cell? ⟨bk, 1, none⟩ = some v2 := ((HQ3.out _ hgrowu).cell 1).trans (by simp); have nz3 := World.new_ne w3 ⟨bk, 1, none⟩ cz3))
        | ((refine step_append_off (by rfl) (.tmp 18) (.tmp 21) 46 (by rfl) base 23 i0 _ 24 Tryd.underlying46 hi0 hz0 hz1 hz2 rfl v2 us.length (valsG us) (by rfl) ((hk2 _ hgrowu).alloc _) ⟨w3.heap.size, 0, none⟩ 1 (.slice Au n cu) (by rfl) (news_one w3 _ 23) (by rfl) (by unfold maxLen; omega) (by omega) (by simpa using hz3'.1) (w3.heap.size + 1) (by simp) ?_; intro g2 q2 cp2 w4 hown2 hgrow2 hat2 hlt2; have fz4 := (HQ4.out _ _ _ hgrowu hgrow2).frozen 1; have cz4 : w4.cell? ⟨bk, 1, none⟩ = some v2 := ((HQ4.out _ _ _ hgrowu hgrow2).cell 1).trans (by simp))))
    all_goals
      go_wp2
      go_meet
      exact ⟨g2, q2, cp2, _, mid2G (by decide) (by decide) (by decide) HM.out hbase hgrowu hownu hgrow2 hown2 hat2⟩
  case rest =>
    obtain ⟨g2, q2, cp2, u, M2⟩ := hcut
    have M2 := Lib.hid M2
    clear HQ3 HQ4 hk2 hz3 hv2 ho2 c1 f1 b1 hne2 HM hbl hsz hv HONE
    have d0 := M2.out.blk.cell 0
    have d1 := M2.out.blk.cell 1
    have d2 := M2.out.blk.cell 2
    have d3 := M2.out.blk.cell 3
    simp at d0 d1 d2 d3
    have e2 := M2.out.blk.frozen 2
    go_wp2
    have HE := Lib.hid (endG HB0.out (by decide) (by decide) (by decide) M2.out ⟨⟨_, HV0.out⟩, HG.out⟩ HD0.out (wrap64 (wrap64 (h0 + (cap : Int)) + 1)))
    obtain ⟨W5, hW5⟩ : ∃ W5, wc.setCell ⟨bk, 2, none⟩ (.int .i64 (wrap64 (wrap64 (h0 + (cap : Int)) + 1))) = W5 := ⟨_, rfl⟩
    rw [hW5] at HE ⊢
    clear hW5 d0 d1 d2 d3 e2 M2
    generalize wrap64 (wrap64 (h0 + (cap : Int)) + 1) = h5 at HE
    have hlen : (vs ++ [((Value.slice A n cap, xs) : KeptG)]).length = vs.length + 1 := by simp
    have hlen2 : (us ++ [((u, xs) : KeptG)]).length = us.length + 1 := by simp
    have hpq : ∀ x ∈ vs ++ [((Value.slice A n cap, xs) : KeptG)], x ∈ vs ∨ x = (Value.slice A n cap, xs) := fun x hx => by simpa using hx
    rw [← hlen, ← hlen2] at HE
    have HPQ := Lib.hid hpq
    have hl5 : (vs ++ [((Value.slice A n cap, xs) : KeptG)]).length ≤ 4001 := by omega
    have hl6 : 1 ≤ (vs ++ [((Value.slice A n cap, xs) : KeptG)]).length := by omega
    generalize vs ++ [((Value.slice A n cap, xs) : KeptG)] = vs5 at HE HPQ hl5 hl6
    generalize us ++ [((u, xs) : KeptG)] = us5 at HE
    clear hlen hlen2 hpq
    go_loopw [] (fun wr => ∃ v1 v2 h' vs' us', BookW G wr base bk 29 2 23 48 v1 v2 h' vs' us' ∧ 1 ≤ vs'.length ∧ vs'.length ≤ 4001 ∧ (∀ x ∈ vs', x ∈ vs ∨ x = ((Value.slice A n cap, xs) : KeptG)) ∧ Below base w wr ∧ Old w wr base 23 48) (fun wr => lensAt wr bk)
    case atStart => exact ⟨_, _, h5, vs5, us5, HE.out.1, hl6, hl5, HPQ.out, HE.out.2.1, HE.out.2.2⟩
    case round =>
      obtain ⟨v3, v4, h6, vs6, us6, hB6, k1, k2, hp6, hb6, ho6⟩ := hrel
      clear HE HPQ hl5 hl6
      have hul6 : us6.length = vs6.length := by have := congrArg List.length hB6.same; simpa using this
      obtain ⟨g3, f3, c3, rfl, _, hc3, hcm3, ha3⟩ := hB6.o1.at_ k1
      obtain ⟨g4, f4, c4, rfl, _, hc4, hcm4, ha4⟩ := hB6.o2.at_ (by omega)
      have d0 := hB6.blk.cell 0
      have d1 := hB6.blk.cell 1
      have d2 := hB6.blk.cell 2
      have d3 := hB6.blk.cell 3
      simp at d0 d1 d2 d3
      have e0 := hB6.blk.frozen 0
      have e1 := hB6.blk.frozen 1
      have e2 := hB6.blk.frozen 2
      have e3 := hB6.blk.frozen 3
      have HB6 := Lib.hid hB6
      have HP6 := Lib.hid hp6
      have HBW := Lib.hid hb6
      have HOW := Lib.hid ho6
      clear hp6 hb6 ho6
      by_cases hgo : 1 < vs6.length ∧ (1000000 < h6 ∨ 4000 < vs6.length)
      · obtain ⟨A5, n5, c5, A6, c6, ys, p1, p2, _, hnc5, _, r1, r2, hG5, _⟩ := hB6.pair (by omega) (i := 0) (by omega)
        have q1 := ha3 0 _ p1
        have q2 := ha4 0 _ p2
        rw [Nat.add_zero] at q1 q2
        have HR1 := Lib.hid r1
        have HR2 := Lib.hid r2
        have HG5 := Lib.hid hG5
        have n1 : g3 ≠ bk := fun e => hB6.o1.ne hB6.blk (by decide) (by simp [Value.ownBlock, e])
        have n2 : g4 ≠ bk := fun e => hB6.o2.ne hB6.blk (by decide) (by simp [Value.ownBlock, e])
        have i1 : (1 : Int) < (vs6.length : Int) := by omega
        have i2 : (0 : Int) < (vs6.length : Int) := by omega
        have i3 : (0 : Int) < (us6.length : Int) := by omega
        have i4 : 0 < vs6.length := by omega
        have i5 : 0 < us6.length := by omega
        clear ha3 ha4 p1 p2 r1 r2 hG5 hB6
        by_cases hgh : 1000000 < h6
        · go_wp2
          go_region_held3 (fun w' => w'.cell? ⟨bk, 0, none⟩ = some (.slice (some ⟨g3, f3, none⟩) vs6.length c3) ∧ w'.cell? ⟨bk, 1, none⟩ = some (.slice (some ⟨g4, f4, none⟩) us6.length c4) ∧ w'.cell? ⟨bk, 3, none⟩ = some (.bool false) ∧
              w'.cell? ⟨g3, f3, none⟩ = some (.slice A5 n5 c5) ∧ w'.cell? ⟨g4, f4, none⟩ = some (.slice A6 n5 c6))
            (first | (go_keep; done) | exact heldS HB6.out.blk n1 n2 q1 q2 _)
            ((go_at_call 53; refine (same_own HG5.out (by exact HR1.out) (by exact HR2.out)).mono ?_; rintro e w' ⟨rfl, q, rfl⟩))
          go_wp2
          have t1 := (heldS HB6.out.blk n1 n2 q1 q2 (1 + q)).2.2.2.1
          have HB7 := Lib.hid ((HB6.out.drewN (1 + q)).bad (by decide) (by decide))
          have HW7 := Lib.hid ((below_drewN HBW.out (1 + q)).setCell (p := ⟨bk, 3, none⟩) HB6.out.hbase (.bool false))
          have HO7 := Lib.hid ((HOW.out.drewN (1 + q)).set_ (HB6.out.blk.drewN (1 + q)) 3 (.bool false))
          obtain ⟨W7, hW7⟩ : ∃ W7, (wr.drewN (1 + q)).setCell ⟨bk, 3, none⟩ (.bool false) = W7 := ⟨_, rfl⟩
          rw [hW7] at HB7 HW7 HO7 t1 ⊢
          clear hW7 q1 q2 d0 d1 d2 d3 e0 e1 e2 e3
          have d0 := HB7.out.blk.cell 0
          have d1 := HB7.out.blk.cell 1
          have d2 := HB7.out.blk.cell 2
          simp at d0 d1 d2
          have e0 := HB7.out.blk.frozen 0
          have e1 := HB7.out.blk.frozen 1
          have e2 := HB7.out.blk.frozen 2
          go_region
          go_wp2
          go_roundw
          case rel =>
            obtain ⟨vs7, us7, z1, z2, z3⟩ := HB7.out.trim_end (by decide) (by decide) (by omega) hul6 (wrap64 (wrap64 (h6 - (c5 : Int)) - 1))
            exact ⟨_, _, _, vs7, us7, z1.drew, by omega, by omega, fun x hx => HP6.out x (z3 x hx), (((HW7.out.setCell (p := ⟨bk, 2, none⟩) HB6.out.hbase _).setCell (p := ⟨bk, 0, none⟩) HB6.out.hbase _).setCell (p := ⟨bk, 1, none⟩) HB6.out.hbase _).drew, ((((HO7.out.set_ HB7.out.blk 2 _).set_ (HB7.out.blk.set_ 2 _) 0 _).set_ ((HB7.out.blk.set_ 2 _).set_ 0 _) 1 _)).drew⟩
          case measure =>
            obtain ⟨vs7, us7, z1, z2, z3⟩ := HB7.out.trim_end (by decide) (by decide) (by omega) hul6 (wrap64 (wrap64 (h6 - (c5 : Int)) - 1))
            have y1 := lensAt_of z1.drew
            have y2 := lensAt_of HB6.out
            unfold lensAt
            rw [y1, y2]
            simp only; omega
        · have i6 : (4000 : Int) < (vs6.length : Int) := by omega
          go_wp2
          go_region_held3 (fun w' => w'.cell? ⟨bk, 0, none⟩ = some (.slice (some ⟨g3, f3, none⟩) vs6.length c3) ∧ w'.cell? ⟨bk, 1, none⟩ = some (.slice (some ⟨g4, f4, none⟩) us6.length c4) ∧ w'.cell? ⟨bk, 3, none⟩ = some (.bool false) ∧
              w'.cell? ⟨g3, f3, none⟩ = some (.slice A5 n5 c5) ∧ w'.cell? ⟨g4, f4, none⟩ = some (.slice A6 n5 c6))
            (first | (go_keep; done) | exact heldS HB6.out.blk n1 n2 q1 q2 _)
            ((go_at_call 53; refine (same_own HG5.out (by exact HR1.out) (by exact HR2.out)).mono ?_; rintro e w' ⟨rfl, q, rfl⟩))
          go_wp2
          have t1 := (heldS HB6.out.blk n1 n2 q1 q2 (1 + q)).2.2.2.1
          have HB7 := Lib.hid ((HB6.out.drewN (1 + q)).bad (by decide) (by decide))
          have HW7 := Lib.hid ((below_drewN HBW.out (1 + q)).setCell (p := ⟨bk, 3, none⟩) HB6.out.hbase (.bool false))
          have HO7 := Lib.hid ((HOW.out.drewN (1 + q)).set_ (HB6.out.blk.drewN (1 + q)) 3 (.bool false))
          obtain ⟨W7, hW7⟩ : ∃ W7, (wr.drewN (1 + q)).setCell ⟨bk, 3, none⟩ (.bool false) = W7 := ⟨_, rfl⟩
          rw [hW7] at HB7 HW7 HO7 t1 ⊢
          clear hW7 q1 q2 d0 d1 d2 d3 e0 e1 e2 e3
          have d0 := HB7.out.blk.cell 0
          have d1 := HB7.out.blk.cell 1
          have d2 := HB7.out.blk.cell 2
          simp at d0 d1 d2
          have e0 := HB7.out.blk.frozen 0
          have e1 := HB7.out.blk.frozen 1
          have e2 := HB7.out.blk.frozen 2
          go_region
          go_wp2
          go_roundw
          case rel =>
            obtain ⟨vs7, us7, z1, z2, z3⟩ := HB7.out.trim_end (by decide) (by decide) (by omega) hul6 (wrap64 (wrap64 (h6 - (c5 : Int)) - 1))
            exact ⟨_, _, _, vs7, us7, z1.drew, by omega, by omega, fun x hx => HP6.out x (z3 x hx), (((HW7.out.setCell (p := ⟨bk, 2, none⟩) HB6.out.hbase _).setCell (p := ⟨bk, 0, none⟩) HB6.out.hbase _).setCell (p := ⟨bk, 1, none⟩) HB6.out.hbase _).drew, ((((HO7.out.set_ HB7.out.blk 2 _).set_ (HB7.out.blk.set_ 2 _) 0 _).set_ ((HB7.out.blk.set_ 2 _).set_ 0 _) 1 _)).drew⟩
          case measure =>
            obtain ⟨vs7, us7, z1, z2, z3⟩ := HB7.out.trim_end (by decide) (by decide) (by omega) hul6 (wrap64 (wrap64 (h6 - (c5 : Int)) - 1))
            have y1 := lensAt_of z1.drew
            have y2 := lensAt_of HB6.out
            unfold lensAt
            rw [y1, y2]
            simp only; omega
      · by_cases hone1 : 1 < vs6.length
        · have i1 : (1 : Int) < (vs6.length : Int) := by omega
          have i2 : ¬ (1000000 < h6) := by omega
          have i3 : ¬ ((4000 : Int) < (vs6.length : Int)) := by omega
          clear ha3 ha4 hB6
          go_wp2
          go_end0
          exact ⟨rfl, _, _, _, vs6, us6, HB6.out, by omega, HP6.out, HBW.out, HOW.out⟩
        · have i1 : ¬ ((1 : Int) < (vs6.length : Int)) := by omega
          clear ha3 ha4 hB6
          go_wp2
          go_end0
          exact ⟨rfl, _, _, _, vs6, us6, HB6.out, by omega, HP6.out, HBW.out, HOW.out⟩
end Go.Proofs.YtnpoipjnnlbnfaaDoor.G_attr
namespace Go.Proofs.YtnpoipjnnlbnfaaDoor.G_attr
set_option linter.unusedVariables false
open Go.Proofs.YtnpoipjnnlbnfaaDoor Go.RowKit Go.Proofs.Fm Go.Proofs.Fb Go.Proofs.Fg

/-- what Stays leaves -/
def StaysPost (w : World) (base bk : Nat) (v1 v2 : Value) (h : Int) (vs us : List KeptG) (e : Ending) (w' : World) : Prop :=
  e = .returned (.bool true) ∧ BookW G w' base bk 29 2 23 48 v1 v2 h vs us ∧ Below base w w'
set_option maxRecDepth 100000 in
set_option maxHeartbeats 4000000 in
/-- (*Book).Stays of a book whose lists are as they were: true. -/
theorem stays_any (w : World) (base bk : Nat) (v1 v2 : Value) (h : Int) (vs us : List KeptG) (hB : BookW G w base bk 29 2 23 48 v1 v2 h vs us) (hl : vs.length ≤ 4000) :
    Calls Tryd.prog 54 #[.pointer (some ⟨bk, 0, none⟩)] w (StaysPost w base bk v1 v2 h vs us) := by
  have hc0 := hB.blk.cell 0
  have hc3 := hB.blk.cell 3
  simp at hc0 hc3
  go_enter Tryd.func54, Tryd.ntmps54
  go_wp2
  go_loopw [3] (fun i wr => ∃ (j : Nat), j ≤ vs.length ∧ i = .int .i64 j ∧ BookW G wr base bk 29 2 23 48 v1 v2 h vs us ∧ Below base w wr) (fun i _ => vs.length - (intOf i).toNat)
  case atStart => exact ⟨0, Nat.zero_le _, rfl, hB, Below.refl _ _⟩
  case round =>
    obtain ⟨j, hj, rfl, hR, hb⟩ := hrel
    have c0 := hR.blk.cell 0
    have c1 := hR.blk.cell 1
    have c3 := hR.blk.cell 3
    simp at c0 c1 c3
    have f3 := hR.blk.frozen 3
    by_cases hlt : j < vs.length
    · obtain ⟨A, n, c, A', c', xs, h1, h2, _, hnc, _, r1, r2, hG, _⟩ := hR.pair (by omega) hlt
      have hul : us.length = vs.length := by have := congrArg List.length hR.same; simpa using this
      obtain ⟨g1, o1, m1, rfl, _, hm1, _, hg1⟩ := hR.o1.at_ (by omega)
      obtain ⟨g2, o2, m2, rfl, _, hm2, _, hg2⟩ := hR.o2.at_ (by omega)
      have k1 := hg1 j _ h1
      have k2 := hg2 j _ h2
      have i1 : (j : Int) < (vs.length : Int) := by omega
      have i2 : (j : Int) < (us.length : Int) := by omega
      have i0 : (0 : Int) ≤ (j : Int) := by omega
      have n1 : g1 ≠ bk := fun e => hR.o1.ne hR.blk (by decide) (by simp [Value.ownBlock, e])
      have n2 : g2 ≠ bk := fun e => hR.o2.ne hR.blk (by decide) (by simp [Value.ownBlock, e])
      have HR := Lib.hid hR
      have HG := Lib.hid hG
      have HR1 := Lib.hid r1
      have HR2 := Lib.hid r2
      clear hg1 hg2 h1 h2 hR hul hc0 hc3 hG r1 r2
      go_wp2
      go_region_held3 (fun w' => w'.cell? ⟨bk, 0, none⟩ = some (.slice (some ⟨g1, o1, none⟩) vs.length m1) ∧ w'.cell? ⟨bk, 1, none⟩ = some (.slice (some ⟨g2, o2, none⟩) us.length m2) ∧ w'.cell? ⟨bk, 3, none⟩ = some (.bool false) ∧
          w'.cell? ⟨g1, o1 + j, none⟩ = some (.slice A n c) ∧ w'.cell? ⟨g2, o2 + j, none⟩ = some (.slice A' n c'))
        (first | (go_keep; done) | exact heldS HR.out.blk n1 n2 k1 k2 _)
        ((go_at_call 53; refine (same_own HG.out (by exact HR1.out) (by exact HR2.out)).mono ?_; rintro e w' ⟨rfl, q, rfl⟩))
      go_wp2
      go_roundw
      case rel => exact ⟨j + 1, by omega, by go_num, (HR.out.drewN _).bad (by decide) (by decide), (below_drewN hb _).setCell (p := ⟨bk, 3, none⟩) HR.out.hbase _⟩
      case measure => simp [intOf]; omega
    · have hje : j = vs.length := by omega
      subst hje
      obtain ⟨A1, m1, rfl, _, _⟩ := hR.o1.form
      have HR := Lib.hid hR
      clear hR hB
      go_wp2
      go_ret
      exact ⟨rfl, HR.out, hb⟩
end Go.Proofs.YtnpoipjnnlbnfaaDoor.G_attr
namespace Go.Proofs.YtnpoipjnnlbnfaaDoor.G_attr
set_option linter.unusedVariables false
open Go.Proofs.YtnpoipjnnlbnfaaDoor Go.RowKit Go.Proofs.Fm Go.Proofs.Fb Go.Proofs.Fg Go.Proofs.Fc

/-- the marks, as cells -/
def MC2 (m0 m1 : Nat → Nat → ByteArray) (i j : Nat) : List Value := [.string (m0 i j), .string (m1 i j)]
theorem grown_more {w W W' : World} {row : Option Nat} (h : w.grownBy W row) (hb : Below W.heap.size W W') : w.grownBy W' row :=
  ⟨hb.os.trans h.os, hb.tape.trans h.tape, hb.output.trans h.output, Nat.le_trans h.size hb.size, fun k hk hne => (hb.block k (Nat.lt_of_lt_of_le hk h.size)).trans (h.block k hk hne)⟩
/-- what Apart leaves -/
def ApartPost (w : World) (base : Nat) (e : Ending) (w' : World) : Prop := e = .returned (.bool true) ∧ Below base w w'

set_option maxRecDepth 100000 in
set_option maxHeartbeats 8000000 in
/-- (*Book).Apart of a book whose lists are as they were and lie apart: true. -/
theorem apart_any (m0 m1 : Nat → Nat → ByteArray) (hneq : ∀ i j W, (binOp .neq 29 (.agg #[.string (m0 i j), .string (m1 i j)]) (.agg #[.string (m0 i j), .string (m1 i j)])).run Tryd.prog W = .ok (.bool false) W)
    (hmark : ∀ (i j : Nat) (w : World), i ≤ 4000 → j < 9223372036854775807 → Calls Tryd.prog 30 #[.int .i64 i, .int .i64 j] w fun e w' => e = .returned (.agg #[.string (m0 i j), .string (m1 i j)]) ∧ Below w.heap.size w w') (w : World) (base bk : Nat) (v1 v2 : Value) (h : Int) (vs us : List KeptG) (hB : BookW G w base bk 29 2 23 48 v1 v2 h vs us) (hl : vs.length ≤ 4000) (hbase : base ≤ w.heap.size) :
    Calls Tryd.prog 29 #[.pointer (some ⟨bk, 0, none⟩), .func (.func 30) #[] #[]] w (ApartPost w base) := by
  have HB := Lib.hid hB
  have HMK := Lib.hid hmark
  have HNQ := Lib.hid hneq
  clear hmark hneq
  have hst := stays_any w base bk v1 v2 h vs us hB hl
  have HST := Lib.hid hst
  clear hst hB
  go_enter Tryd.func29, Tryd.ntmps29
  go_wp2_with (go_at_call 54; refine (HST.out).mono ?_; rintro e w1 ⟨rfl, hB1, hb1⟩)
  have hap := hB1.apart
  have hm := Lib.hid (MarkG.start hB1 hb1 (MC2 m0 m1))
  have HAP := Lib.hid hap
  clear hap hB1 HST

  go_loopw [5] (fun i wr => ∃ (j : Nat), j ≤ vs.length ∧ i = .int .i64 j ∧ MarkG w wr base bk 29 2 23 48 v1 v2 h vs (MC2 m0 m1) j) (fun i _ => vs.length - (intOf i).toNat)
  case atStart => exact ⟨0, Nat.zero_le _, rfl, hm.out⟩
  case round =>
    obtain ⟨j, hj, rfl, hR⟩ := hrel
    have c0 := hR.blk.cell 0
    simp at c0
    by_cases hlt : j < vs.length
    · obtain ⟨A, n, c, xs, h1, h2, hnc, hcc, h3⟩ := hR.todo_at hlt
      obtain ⟨g1, o1, m1', rfl, _, hm1, _, hg1⟩ := hR.o1.at_ (by omega)
      have k1 := hg1 j _ h2
      have i1 : (j : Int) < (vs.length : Int) := by omega
      have i0 : (0 : Int) ≤ (j : Int) := by omega
      unfold maxLen at hcc
      have hz : base ≤ wr.heap.size := Nat.le_trans hbase hR.bel.size
      have i2 : (0 : Int) ≤ (c : Int) := by omega
      have HR := Lib.hid hR
      have H1 := Lib.hid h1
      have H3 := Lib.hid h3
      clear hg1 h1 h2 h3 hR hm
      go_wp2
      go_quiet (fail)
      go_wp2
      have HR2 := Lib.hid (HR.out.drewN nq)
      obtain ⟨W, hW⟩ : ∃ W, wr.drewN nq = W := ⟨_, rfl⟩
      rw [hW] at HR2 ⊢
      have hz2 : base ≤ W.heap.size := by rw [← hW]; exact hz
      have HC : Hid (0 < c → ∃ g cs, A = some ⟨g, 0, none⟩ ∧ base ≤ g ∧ Bk W g 29 cs ∧ cs.size = c * 2) := by
        rw [← hW]; exact H3.out
      clear hW HR H3 c0 k1
      rcases Nat.eq_zero_or_pos c with hc0 | hc0
      · subst hc0
        refine wp_loop_rounds 1 ?_
        rw [rounds_succ]
        go_wp2
        go_roundw
        case rel => exact ⟨j + 1, by omega, by go_num, HR2.out.skip H1.out⟩
        case measure => simp [intOf]; omega
      · obtain ⟨g, cs, rfl, hgb, hbg, hcs⟩ := HC.out hc0
        go_loopw [7] (fun i wq => ∃ (t : Nat) (cs' : Array Value), t ≤ c ∧ i = .int .i64 t ∧ Bk wq g 29 cs' ∧ UptoG cs' 2 c t (MC2 m0 m1 j) ∧ W.grownBy wq (some g)) (fun i _ => c - (intOf i).toNat)
        case atStart => exact ⟨0, cs, Nat.zero_le _, rfl, hbg, UptoG.zero _ hcs, World.grownBy.refl W _⟩
        case round =>
          obtain ⟨t, cs', ht, rfl, hb', hu, hgr⟩ := hrel
          by_cases htl : t < c
          · have htc : t * 2 < cs'.size := by have := hu.1; omega
            have htc1 : t * 2 + 1 < cs'.size := by have := hu.1; omega
            have HU := Lib.hid (hu.step2 htl (show MC2 m0 m1 j t = [.string (m0 j t), .string (m1 j t)] from rfl))
            have HBB := Lib.hid hb'
            have HGR := Lib.hid hgr
            clear hb' hu hgr
            have i3 : (t : Int) < (c : Int) := by omega
            have hj4 : j ≤ 4000 := by omega
            have ht4 : t < 9223372036854775807 := by omega
            obtain ⟨x0, hx0⟩ : ∃ x, m0 j t = x := ⟨_, rfl⟩
            obtain ⟨x1, hx1⟩ : ∃ x, m1 j t = x := ⟨_, rfl⟩
            have HMJ := Lib.hid (fun W => HMK.out j t W hj4 ht4)
            rw [hx0, hx1] at HMJ
            rw [hx0, hx1] at HU
            obtain ⟨y0, hy0⟩ : ∃ y, cs'[t * 2] = y := ⟨_, rfl⟩
            obtain ⟨y1, hy1⟩ : ∃ y, cs'[t * 2 + 1] = y := ⟨_, rfl⟩
            have HY0 : Hid (cs'[t * 2]? = some y0) := Lib.hid (by rw [Array.getElem?_eq_getElem htc, hy0])
            have HY1 : Hid (cs'[t * 2 + 1]? = some y1) := Lib.hid (by rw [Array.getElem?_eq_getElem htc1, hy1])
            clear hx0 hx1 hy0 hy1 htc htc1
            go_wp2_with (go_at_call 30; (with_reducible refine (HMJ.out _).mono ?_); rintro e w' ⟨rfl, hbw'⟩; have HB2 := Lib.hid (HBB.out.below hbw' HBB.out.lt); have HG2 := Lib.hid (grown_more HGR.out hbw'); clear hbw'; have g1' : w'.cell? ⟨g, t * 2, none⟩ = some y0 := (HB2.out.cell _).trans HY0.out; have g2' : w'.cell? ⟨g, t * 2 + 1, none⟩ = some y1 := (HB2.out.cell _).trans HY1.out; have g3' := HB2.out.frozen (t * 2); have g4' := HB2.out.frozen (t * 2 + 1))
            go_roundw
            case rel => exact ⟨t + 1, _, by omega, by go_num, (HB2.out.set_ (t * 2) (.string x0)).set_ (t * 2 + 1) (.string x1), HU.out, grown_set (grown_set HG2.out (t * 2) (.string x0)) (t * 2 + 1) (.string x1)⟩
            case measure => simp [intOf]; omega
          · have hte : t = c := by omega
            subst hte
            have hN : Hid (MarkG w wr base bk 29 2 23 48 (.slice (some ⟨g1, o1, none⟩) vs.length m1') v2 h vs (MC2 m0 m1) (j + 1)) :=
              HR2.out.next HAP.out H1.out hgr hgb hz2 (by unfold maxLen; omega) ⟨_, hb', hu⟩ ⟨cs, hbg⟩ (by decide) (by decide)
            clear hb' hu hgr
            go_wp2
            go_roundw
            case rel => exact ⟨j + 1, by omega, by go_num, hN.out⟩
            case measure => simp [intOf]; omega
    · have hje : j = vs.length := by omega
      subst hje
      clear hm
      obtain ⟨A1, m1', rfl, _, _⟩ := hR.o1.form
      have HR := Lib.hid hR
      clear hR
      go_wp2
      obtain ⟨wo, hwo⟩ : ∃ wo, wr = wo := ⟨_, rfl⟩
      rw [hwo] at HR c0 ⊢
      clear hwo
      go_loopw [8] (fun i wq => ∃ (j : Nat), j ≤ vs.length ∧ i = .int .i64 j ∧ Hid (Below wo.heap.size wo wq)) (fun i _ => vs.length - (intOf i).toNat)
      case atStart => exact ⟨0, Nat.zero_le _, rfl, Lib.hid (Below.refl _ _)⟩
      case round =>
        obtain ⟨j, hj, rfl, hbq⟩ := hrel
        have c0q : wr.cell? ⟨bk, 0, none⟩ = some (.slice A1 vs.length m1') := ((HR.out.blk.below hbq.out HR.out.blk.lt).cell 0).trans (by simp)
        clear c0
        by_cases hlt : j < vs.length
        · obtain ⟨A, n, c, h2, hcc, h3⟩ := HR.out.done_at hlt
          unfold maxLen at hcc
          obtain ⟨g1, o1, m1'', he, _, hm1, _, hg1⟩ := HR.out.o1.at_ (by omega)
          injection he with e1 e2 e3
          subst e1 e3
          clear e2
          have k1w := hg1 j _ h2
          have hlo1 : g1 < wo.heap.size := World.block_lt_of_cell? _ _ k1w
          have k1 : wr.cell? ⟨g1, o1 + j, none⟩ = some (.slice A n c) := by rw [hbq.out.cell (p := ⟨g1, o1 + j, none⟩) hlo1]; exact k1w
          have i1 : (j : Int) < (vs.length : Int) := by omega
          have i0 : (0 : Int) ≤ (j : Int) := by omega
          have i2 : (0 : Int) ≤ (c : Int) := by omega
          have H3 := Lib.hid h3
          clear hg1 h2 h3 k1w hlo1
          go_wp2
          go_quiet (fail)
          go_wp2
          have HBQ := Lib.hid (below_drewN hbq.out nq)
          obtain ⟨wp, hwp⟩ : ∃ wp, wr.drewN nq = wp := ⟨_, rfl⟩
          rw [hwp] at HBQ ⊢
          clear hwp c0q k1
          go_loopw [10] (fun i wq => ∃ (t : Nat), t ≤ c ∧ i = .int .i64 t ∧ Hid (Below wo.heap.size wo wq)) (fun i _ => c - (intOf i).toNat)
          case atStart => exact ⟨0, Nat.zero_le _, rfl, HBQ⟩
          case round =>
            obtain ⟨t, ht, rfl, hbt⟩ := hrel
            by_cases htl : t < c
            · obtain ⟨g, cs, rfl, hbg, hug⟩ := H3.out (by omega)
              have hgl := hbg.lt
              have hbg2 := hbg.below hbt.out hgl
              have g1' : wr.cell? ⟨g, t * 2, none⟩ = some (.string (m0 j t)) := by
                have e := hug.2 t htl 0 (by omega)
                exact (hbg2.cell _).trans e
              have g2' : wr.cell? ⟨g, t * 2 + 1, none⟩ = some (.string (m1 j t)) := by
                have e := hug.2 t htl 1 (by omega)
                exact (hbg2.cell _).trans e
              have hgq : g < wr.heap.size := hbg2.lt
              have i3 : (t : Int) < (c : Int) := by omega
              have i4 : (0 : Int) ≤ (t : Int) := by omega
              have hj4 : j ≤ 4000 := by omega
              have ht4 : t < 9223372036854775807 := by omega
              obtain ⟨x0, hx0⟩ : ∃ x, m0 j t = x := ⟨_, rfl⟩
              obtain ⟨x1, hx1⟩ : ∃ x, m1 j t = x := ⟨_, rfl⟩
              have hnq := HNQ.out j t
              have HMJ := Lib.hid (fun W => HMK.out j t W hj4 ht4)
              rw [hx0] at g1'
              rw [hx1] at g2'
              rw [hx0, hx1] at HMJ hnq
              have e1 := fun x b o => ext_cell wr.heap.size wr x b o
              have HBT := Lib.hid hbt.out
              clear hbg hug hbg2 hgl hx0 hx1 hbt
              go_wp2
              refine region_ext wr.heap.size (by kernel_rfl) (by kernel_rfl) ?_
              repeat quiet_step ((go_at_call 30; exact call_of (HMJ.out _) (Nat.le_refl _)))
              refine wpQuiet_nil ?_
              intro w3 hb3
              go_wp2
              go_roundw
              case rel => exact ⟨t + 1, by omega, by go_num, Lib.hid (HBT.out.trans (hb3.mono HBT.out.size))⟩
              case measure => simp [intOf]; omega
            · have hte : t = c := by omega
              subst hte
              go_wp2
              go_roundw
              case rel => exact ⟨j + 1, by omega, by go_num, hbt⟩
              case measure => simp [intOf]; omega
        · have hje : j = vs.length := by omega
          subst hje
          have hbk := HR.out.blk.below hbq.out HR.out.blk.lt
          have d1 := hbk.cell 1
          have d2 := hbk.cell 2
          simp at d1 d2
          have f0 := hbk.frozen 0
          have f1 := hbk.frozen 1
          have f2 := hbk.frozen 2
          have hbb := HR.out.hbase
          have hbl : Below base w wr := HR.out.bel.trans (hbq.out.mono (Nat.le_trans hbase HR.out.bel.size))
          clear hbk
          go_wp2
          go_ret
          exact ⟨rfl, ((hbl.setCell (p := ⟨bk, 0, none⟩) hbb _).setCell (p := ⟨bk, 1, none⟩) hbb _).setCell (p := ⟨bk, 2, none⟩) hbb _⟩
end Go.Proofs.YtnpoipjnnlbnfaaDoor.G_attr
