/- The walk of the document's own laying: the statements' Lay. No conditions but that there are not too many parts. -/
import Derived.Test.YtofllmofdenadaaEc
import Derived.Deep.RegionLaw
import Derived.Deep.DeepCutAuto
namespace Go.Proofs.Ytofllmofdenadaa
set_option linter.unusedVariables false
open Go.RowKit Go.Proofs.Fm Go.Proofs.Fb Go.Proofs.Fd Go.Proofs.Fc

/-- when the part's own node is made: W is the world when the call began -/
structure LayHead (W W2 : World) (px nx : Array Value) : Prop where
  bx : Bk W2 W.heap.size 52 px
  nd : Bk W2 (W.heap.size + 1) 68 nx
  gr : W.grownBy W2 none
/-- a part that is a text: one node -/
theorem lay_text (tx : Str) (al : List Att) (ks : List Pt) (A K A0 : Option Addr) (c d n0 c0 : Nat) (l : List Nd) (parent prev : Int) (W0 W : World) (hb : Below W0.heap.size W0 W) (ht : OTree W0.heap.size W A0 n0 c0 l) (hn : n0 ≤ 1000000) :
    Calls Try.prog 49 #[.slice A0 n0 c0, .agg #[str [], str tx, .slice A al.length c, .slice K ks.length d], .int .i64 parent, .int .i64 prev] W (LayOut W0 W (Value.slice A0 n0 c0).ownBlock (l ++ [⟨2, [], tx, [], parent, -1, -1, prev, -1⟩])) := by
  obtain ⟨i0, hi0, hz0, hz1, hz2⟩ := info_parts ndInfo
  have HL := Lib.hid ht.len
  have hbase := hb.size
  obtain ⟨rs, h1, h2, h3⟩ := ht
  have H1 := Lib.hid h1
  have H2 := Lib.hid h2
  have H3 := Lib.hid h3
  have HI0 := Lib.hid hi0
  have HZ0 := Lib.hid hz0
  have HZ1 := Lib.hid hz1
  have HZ2 := Lib.hid hz2
  clear hi0 hz0 hz1 hz2 h1 h2 h3 hb
  dsimp only [str]
  go_enter Try.func49, Try.ntmps49
  go_upto_region 5 with fail
  refine wp_gen (fun W2 => LayHead W W2 #[.string ⟨#[]⟩, .string ⟨tx.toArray⟩, .slice A al.length c, .slice K ks.length d] #[.int .i64 2, .string ⟨#[]⟩, .string ⟨tx.toArray⟩, .slice none 0 0, .int .i64 parent, .int .i64 (-1), .int .i64 (-1), .int .i64 prev, .int .i64 (-1)]) ⟨(Bk.new W 52 _).alloc _, by simpa using Bk.new (W.alloc (.cells #[.string ⟨#[]⟩, .string ⟨tx.toArray⟩, .slice A al.length c, .slice K ks.length d] 52)) 68 #[.int .i64 2, .string ⟨#[]⟩, .string ⟨tx.toArray⟩, .slice none 0 0, .int .i64 parent, .int .i64 (-1), .int .i64 (-1), .int .i64 prev, .int .i64 (-1)], grown_two (World.grownBy_alloc W _ none) (World.grownBy_alloc _ _ none)⟩ ?_
  rintro W2 ⟨hbx, hnd, hgr⟩
  have x0 : W2.cell? ⟨W.heap.size + 1, 0, none⟩ = some (.int .i64 2) := hnd.cell 0
  have x1 : W2.cell? ⟨W.heap.size + 1, 1, none⟩ = some (.string ⟨#[]⟩) := hnd.cell 1
  have x2 : W2.cell? ⟨W.heap.size + 1, 2, none⟩ = some (.string ⟨tx.toArray⟩) := hnd.cell 2
  have x3 : W2.cell? ⟨W.heap.size + 1, 3, none⟩ = some (.slice none 0 0) := hnd.cell 3
  have x4 : W2.cell? ⟨W.heap.size + 1, 4, none⟩ = some (.int .i64 parent) := hnd.cell 4
  have x5 : W2.cell? ⟨W.heap.size + 1, 5, none⟩ = some (.int .i64 (-1)) := hnd.cell 5
  have x6 : W2.cell? ⟨W.heap.size + 1, 6, none⟩ = some (.int .i64 (-1)) := hnd.cell 6
  have x7 : W2.cell? ⟨W.heap.size + 1, 7, none⟩ = some (.int .i64 prev) := hnd.cell 7
  have x8 : W2.cell? ⟨W.heap.size + 1, 8, none⟩ = some (.int .i64 (-1)) := hnd.cell 8
  have lx := hnd.lt
  have HOW2 := Lib.hid (H2.out.kept hgr (by rcases (Value.slice A0 n0 c0).ownBlock with _ | g <;> simp))
  have HBX := Lib.hid hbx
  have HGR := Lib.hid hgr
  have hs2 := hgr.size
  clear hbx hnd hgr
  go_wp2_with (at_builtin; go_loud (refine wpList_append_elt rfl (.tmp 33) (.tmp 35) 22 rfl W0.heap.size 68 i0 _ 9 104 Try.underlying22 HI0.out HZ0.out HZ1.out HZ2.out rfl (by omega) (.slice A0 n0 c0) n0 (rawCells rs) rfl HOW2.out (ndCells ⟨2, [], tx, [], parent, -1, -1, prev, -1⟩ (.slice none 0 0)) rfl rfl (by simp [ndCells, str, Value.oneCell']) (by unfold maxLen; omega) (by omega) (by omega) ?_; intro g cap w5 ho5 hg5 hat5 hlt5 hb5; have HG5 := Lib.hid hg5; have HAT5 := Lib.hid hat5; have HO5 := Lib.hid ho5; have z0 : w5.cell? ⟨W.heap.size, 0, none⟩ = some (.string ⟨#[]⟩) := (HBX.out.grown hg5 (fun e => own_ne HOW2.out HBX.out (by decide) e.symm)).cell 0; have lz : W.heap.size < w5.heap.size := Nat.lt_of_lt_of_le HBX.out.lt hg5.size; clear x0 x1 x2 x3 x4 x5 x6 x7 x8; clear ho5 hg5 hat5 hb5))
  go_ret
  have hgg : W.grownBy w5 (Value.slice A0 n0 c0).ownBlock := grown_two HGR.out HG5.out
  refine ⟨some ⟨g, 0, none⟩, cap, by rw [List.length_append, HL.out]; rfl, ?_, hgg, fun j hj => ?_⟩
  · rw [List.length_append, HL.out]
    exact OTree.push H1.out H2.out H3.out _ (.slice none 0 0) (World.ownsRow_nil _ _ _ _) HO5.out hgg
  · have e : g = j := by simpa [Value.ownBlock] using hj
    subst e
    rcases HAT5.out with h | h
    · exact .inr h
    · left; omega
theorem LayHead.of {W w6 : World} {px nx nx' : Array Value} (h : LayHead W w6 px nx) {w' : World} (hb : Below W.heap.size w6 w') (hx : Bk w' W.heap.size 52 px) (hn : Bk w' (W.heap.size + 1) 68 nx') : LayHead W w' px nx' :=
  ⟨hx, hn, hb.os.trans h.gr.os, hb.tape.trans h.gr.tape, hb.output.trans h.gr.output, Nat.le_trans h.gr.size hb.size, fun k hk hne => (hb.block k hk).trans (h.gr.block k hk hne)⟩
/-- the node of a part that has a name, written over the one that was there -/
theorem laid_node {W W2 w6 : World} {px : Array Value} {v0 v1 v2 v3 v4 v5 v6 v7 v8 u0 u1 u2 u3 u4 u5 u6 u7 u8 : Value} {al : List Att} (hh : LayHead W w6 px #[v0, v1, v2, v3, v4, v5, v6, v7, v8])
    (ho : w6.ownsRow W2.heap.size 66 2 u3 al.length (attrCells al)) (hl : W.heap.size + 1 < W2.heap.size) {w' : World}
    (hw : w' = ((((((((w6.setCell ⟨W.heap.size + 1, 0, none⟩ u0).setCell ⟨W.heap.size + 1, 1, none⟩ u1).setCell ⟨W.heap.size + 1, 2, none⟩ u2).setCell ⟨W.heap.size + 1, 3, none⟩ u3).setCell ⟨W.heap.size + 1, 4, none⟩ u4).setCell ⟨W.heap.size + 1, 5, none⟩ u5).setCell ⟨W.heap.size + 1, 6, none⟩ u6).setCell ⟨W.heap.size + 1, 7, none⟩ u7).setCell ⟨W.heap.size + 1, 8, none⟩ u8) :
    LayHead W w' px #[u0, u1, u2, u3, u4, u5, u6, u7, u8] ∧ w'.ownsRow W.heap.size 66 2 u3 al.length (attrCells al) := by
  subst hw
  have hf : ∀ {w : World} (o : Nat) (u : Value), Below W.heap.size w (w.setCell ⟨W.heap.size + 1, o, none⟩ u) := fun o u => (Below.refl _ _).setCell (p := ⟨W.heap.size + 1, o, none⟩) (by simp) u
  have hx : ∀ {w : World} (o : Nat) (u : Value), Bk w W.heap.size 52 px → Bk (w.setCell ⟨W.heap.size + 1, o, none⟩ u) W.heap.size 52 px := fun o u h => h.far (p := ⟨W.heap.size + 1, o, none⟩) (by simp) u
  have ho' : ∀ {w : World} (o : Nat) (u : Value), w.ownsRow W2.heap.size 66 2 u3 al.length (attrCells al) → (w.setCell ⟨W.heap.size + 1, o, none⟩ u).ownsRow W2.heap.size 66 2 u3 al.length (attrCells al) := fun o u h => ownsRow_setCell_below h (by show W.heap.size + 1 < W2.heap.size; omega) u
  have hn := ((((((((hh.nd.set_ 0 u0).set_ 1 u1).set_ 2 u2).set_ 3 u3).set_ 4 u4).set_ 5 u5).set_ 6 u6).set_ 7 u7).set_ 8 u8
  refine ⟨hh.of (((((((((hf _ _).trans (hf _ _)).trans (hf _ _)).trans (hf _ _)).trans (hf _ _)).trans (hf _ _)).trans (hf _ _)).trans (hf _ _)).trans (hf _ _)) (hx _ _ (hx _ _ (hx _ _ (hx _ _ (hx _ _ (hx _ _ (hx _ _ (hx _ _ (hx _ _ hh.bx))))))))) ?_, own_less (ho' _ _ (ho' _ _ (ho' _ _ (ho' _ _ (ho' _ _ (ho' _ _ (ho' _ _ (ho' _ _ (ho' _ _ ho))))))))) (by omega)⟩
  simpa using hn
set_option maxHeartbeats 4000000 in
theorem lay_any (p : Pt) : LaySpec p := by
  refine Pt.ind (C := LaySpec) (fun p ih => ?_) p
  intro nm tx al ks A K A0 c d n0 c0 l parent prev W0 W hp ha hk hb ht hn
  rcases nm with _ | ⟨m0, mt⟩
  · have e : layF l p parent prev = l ++ [⟨2, [], tx, [], parent, -1, -1, prev, -1⟩] := by rw [layF_eq, hp]; rfl
    rw [e]
    exact lay_text tx al ks A K A0 c d n0 c0 l parent prev W0 W hb ht (by omega)
  · obtain ⟨i0, hi0, hz0, hz1, hz2⟩ := info_parts ndInfo
    obtain ⟨ia, hia, hy0, hy1, hy2⟩ := info_parts attInfo
    have HIA := Lib.hid hia
    have HY0 := Lib.hid hy0
    have HY1 := Lib.hid hy1
    have HY2 := Lib.hid hy2
    have HL := Lib.hid ht.len
    have hbase := hb.size
    have hob : ∀ k, (Value.slice A0 n0 c0).ownBlock = some k → W0.heap.size ≤ k := fun k hk => by
      obtain ⟨rs, h1, h2, h3⟩ := ht
      exact (h2.lt k hk).1
    have HOB := Lib.hid hob
    obtain ⟨rs, h1, h2, h3⟩ := ht
    have H1 := Lib.hid h1
    have H2 := Lib.hid h2
    have H3 := Lib.hid h3
    have HI0 := Lib.hid hi0
    have HZ0 := Lib.hid hz0
    have HZ1 := Lib.hid hz1
    have HZ2 := Lib.hid hz2
    have HA := Lib.hid ha
    have HB := Lib.hid hb
    obtain ⟨K', d', hkv, hkd, hdm, hkn, hkc0⟩ := hk
    have hkc : ks = [] ∨ ∃ b' off, K = some ⟨b', off, none⟩ ∧ PCells W0 b' off ks := by injection hkv with h1 h2 h3; rw [h1]; exact hkc0
    have HKC := Lib.hid hkc
    have hcnt : cnt p = 1 + cntL ks := by rw [cnt_eq, hp, if_neg (by simp [Pt.name])]; rfl
    have HIH := Lib.hid (show ∀ k ∈ ks, LaySpec k from fun k hk => ih k (by rw [hp]; exact hk))
    obtain ⟨M0, hM0⟩ : ∃ M0, l ++ [(⟨1, m0 :: mt, [], al, parent, -1, -1, prev, -1⟩ : Nd)] = M0 := ⟨_, rfl⟩
    have hF : layF l p parent prev = setLast (layK M0 ks n0 (-1)).1 n0 (layK M0 ks n0 (-1)).2 := by
      rw [layF_eq, hp, if_neg (by simp [Pt.name]), ← hM0, ← HL.out]
      simp [Pt.laid, Pt.kids]
    have HF := Lib.hid hF
    have HM0 := Lib.hid hM0
    have hcn : n0 + 1 + cntL ks ≤ 1000000 := by omega
    have hkl : ks.length ≤ 9223372036854775807 := by omega
    clear hi0 hz0 hz1 hz2 hia hy0 hy1 hy2 h1 h2 h3 hb hob ha hkv hkd hdm hkn hkc0 hkc ih hF hM0 hcnt hp hn
    dsimp only [str]
    go_enter Try.func49, Try.ntmps49
    go_upto_if 23 with fail
    refine wp_gen (fun W2 => LayHead W W2 #[.string ⟨(m0 :: mt).toArray⟩, .string ⟨tx.toArray⟩, .slice A al.length c, .slice K ks.length d] #[.int .i64 2, .string ⟨#[]⟩, .string ⟨tx.toArray⟩, .slice none 0 0, .int .i64 parent, .int .i64 (-1), .int .i64 (-1), .int .i64 prev, .int .i64 (-1)]) ⟨(Bk.new W 52 _).alloc _, by simpa using Bk.new (W.alloc (.cells #[.string ⟨(m0 :: mt).toArray⟩, .string ⟨tx.toArray⟩, .slice A al.length c, .slice K ks.length d] 52)) 68 #[.int .i64 2, .string ⟨#[]⟩, .string ⟨tx.toArray⟩, .slice none 0 0, .int .i64 parent, .int .i64 (-1), .int .i64 (-1), .int .i64 prev, .int .i64 (-1)], grown_two (World.grownBy_alloc W _ none) (World.grownBy_alloc _ _ none)⟩ ?_
    rintro W2 hh
    have hnd := hh.nd
    have x0 : W2.cell? ⟨W.heap.size + 1, 0, none⟩ = some (.int .i64 2) := hnd.cell 0
    have x1 : W2.cell? ⟨W.heap.size + 1, 1, none⟩ = some (.string ⟨#[]⟩) := hnd.cell 1
    have x2 : W2.cell? ⟨W.heap.size + 1, 2, none⟩ = some (.string ⟨tx.toArray⟩) := hnd.cell 2
    have x3 : W2.cell? ⟨W.heap.size + 1, 3, none⟩ = some (.slice none 0 0) := hnd.cell 3
    have x4 : W2.cell? ⟨W.heap.size + 1, 4, none⟩ = some (.int .i64 parent) := hnd.cell 4
    have x5 : W2.cell? ⟨W.heap.size + 1, 5, none⟩ = some (.int .i64 (-1)) := hnd.cell 5
    have x6 : W2.cell? ⟨W.heap.size + 1, 6, none⟩ = some (.int .i64 (-1)) := hnd.cell 6
    have x7 : W2.cell? ⟨W.heap.size + 1, 7, none⟩ = some (.int .i64 prev) := hnd.cell 7
    have x8 : W2.cell? ⟨W.heap.size + 1, 8, none⟩ = some (.int .i64 (-1)) := hnd.cell 8
    have xf : ∀ i, W2.frozen? ⟨W.heap.size + 1, i, none⟩ = false := hnd.frozen
    have lx := hnd.lt
    have z0 : W2.cell? ⟨W.heap.size, 0, none⟩ = some (.string ⟨(m0 :: mt).toArray⟩) := hh.bx.cell 0
    have z2 : W2.cell? ⟨W.heap.size, 2, none⟩ = some (.slice A al.length c) := hh.bx.cell 2
    have lz : W.heap.size < W2.heap.size := hh.bx.lt
    have HH := Lib.hid hh
    have hs2 := hh.gr.size
    have hb2 : Below W0.heap.size W0 W2 := HB.out.grown hh.gr hbase (by simp)
    have hbd : Below W2.heap.size W2 (W2.drew.alloc (.cells #[] 66)) := (Below.refl _ _).drew.alloc (Nat.le_refl _) _
    have HAV2 := Lib.hid ((HA.out.below hb2 (Nat.le_refl _)).below hbd (Nat.le_refl _))
    have HBD := Lib.hid hbd
    have HOW : Hid ((W2.drew.alloc (.cells #[] 66)).ownsRow W2.heap.size 66 2 (.slice (some ⟨W2.heap.size, 0, none⟩) 0 0) 0 []) := Lib.hid (World.ownsRow_lit W2.drew #[] 0 (Nat.le_refl _) (by unfold maxLen; omega) rfl)
    have HKEEP := Lib.hid (fun w6 (hbb : Below W2.heap.size W2 w6) => (show Bk w6 (W.heap.size + 1) 68 _ ∧ Bk w6 W.heap.size 52 _ ∧ LayHead W w6 _ _ from ⟨hnd.below hbb lx, hh.bx.below hbb lz, hh.of (hbb.mono hs2) (hh.bx.below hbb lz) (hnd.below hbb lx)⟩))
    clear hh hnd hb2 hbd
    go_cut [] (fun W6 => ∃ A6 c6, LayHead W W6 #[.string ⟨(m0 :: mt).toArray⟩, .string ⟨tx.toArray⟩, .slice A al.length c, .slice K ks.length d] #[.int .i64 1, .string ⟨(m0 :: mt).toArray⟩, .string ⟨#[]⟩, .slice A6 al.length c6, .int .i64 parent, .int .i64 (-1), .int .i64 (-1), .int .i64 prev, .int .i64 (-1)] ∧ W6.ownsRow W.heap.size 66 2 (.slice A6 al.length c6) al.length (attrCells al))
    case first =>
      go_upto_region 4 with fail
      go_region_law (first
          | ((refine step_append_att (by rfl) (.tmp 26) (.tmp 28) (by rfl) W2.heap.size ia HIA.out HY0.out HY1.out HY2.out (.slice (some ⟨W2.heap.size, 0, none⟩) 0 0) (by rfl) HOW.out (.slice A al.length c) al (by rfl) HAV2.out (by simp) ?_; intro A6 c6 w6 ho6 hb6; have hbb := HBD.out.trans hb6; obtain ⟨hn6, hx6, hh6⟩ := HKEEP.out w6 hbb; have HH6 := Lib.hid hh6; have HN6 := Lib.hid hn6; have HX6 := Lib.hid hx6; have HO6 := Lib.hid ho6; have y0 : w6.cell? ⟨W.heap.size + 1, 0, none⟩ = some (.int .i64 2) := hn6.cell 0; have y1 : w6.cell? ⟨W.heap.size + 1, 1, none⟩ = some (.string ⟨#[]⟩) := hn6.cell 1; have y2 : w6.cell? ⟨W.heap.size + 1, 2, none⟩ = some (.string ⟨tx.toArray⟩) := hn6.cell 2; have y3 : w6.cell? ⟨W.heap.size + 1, 3, none⟩ = some (.slice none 0 0) := hn6.cell 3; have y4 : w6.cell? ⟨W.heap.size + 1, 4, none⟩ = some (.int .i64 parent) := hn6.cell 4; have y5 : w6.cell? ⟨W.heap.size + 1, 5, none⟩ = some (.int .i64 (-1)) := hn6.cell 5; have y6 : w6.cell? ⟨W.heap.size + 1, 6, none⟩ = some (.int .i64 (-1)) := hn6.cell 6; have y7 : w6.cell? ⟨W.heap.size + 1, 7, none⟩ = some (.int .i64 prev) := hn6.cell 7; have y8 : w6.cell? ⟨W.heap.size + 1, 8, none⟩ = some (.int .i64 (-1)) := hn6.cell 8; have yf : ∀ i, w6.frozen? ⟨W.heap.size + 1, i, none⟩ = false := hn6.frozen; have k0 : w6.cell? ⟨W.heap.size, 0, none⟩ = some (.string ⟨(m0 :: mt).toArray⟩) := hx6.cell 0; have k2 : w6.cell? ⟨W.heap.size, 2, none⟩ = some (.slice A al.length c) := hx6.cell 2; have ly := hn6.lt; have lk : W.heap.size < w6.heap.size := hx6.lt; clear hn6 hx6 hh6 ho6 hb6 hbb)))
      all_goals
        clear x0 x1 x2 x3 x4 x5 x6 x7 x8 xf z0 z2
        go_wp2
        go_meet
        exact ⟨A6, c6, laid_node HH6.out HO6.out lx rfl⟩
    case rest =>
    clear x0 x1 x2 x3 x4 x5 x6 x7 x8 xf z0 z2 HH HAV2 HBD HOW HKEEP hs2
    obtain ⟨A6, c6, hh, hat⟩ := hcut
    obtain ⟨W6, rfl⟩ : ∃ x, x = wc := ⟨_, rfl⟩
    have hnd := hh.nd
    have x0 : W6.cell? ⟨W.heap.size + 1, 0, none⟩ = some (.int .i64 1) := hnd.cell 0
    have x1 : W6.cell? ⟨W.heap.size + 1, 1, none⟩ = some (.string ⟨(m0 :: mt).toArray⟩) := hnd.cell 1
    have x2 : W6.cell? ⟨W.heap.size + 1, 2, none⟩ = some (.string ⟨#[]⟩) := hnd.cell 2
    have x3 : W6.cell? ⟨W.heap.size + 1, 3, none⟩ = some (.slice A6 al.length c6) := hnd.cell 3
    have x4 : W6.cell? ⟨W.heap.size + 1, 4, none⟩ = some (.int .i64 parent) := hnd.cell 4
    have x5 : W6.cell? ⟨W.heap.size + 1, 5, none⟩ = some (.int .i64 (-1)) := hnd.cell 5
    have x6 : W6.cell? ⟨W.heap.size + 1, 6, none⟩ = some (.int .i64 (-1)) := hnd.cell 6
    have x7 : W6.cell? ⟨W.heap.size + 1, 7, none⟩ = some (.int .i64 prev) := hnd.cell 7
    have x8 : W6.cell? ⟨W.heap.size + 1, 8, none⟩ = some (.int .i64 (-1)) := hnd.cell 8
    have lx' := hnd.lt
    have HOW2 := Lib.hid (H2.out.kept hh.gr (by rcases (Value.slice A0 n0 c0).ownBlock with _ | g <;> simp))
    have HBX := Lib.hid hh.bx
    have HGR := Lib.hid hh.gr
    have HATT := Lib.hid (own_less hat hbase)
    have HH3 : Hid (∀ q ∈ rs, W6.ownsRow W0.heap.size 66 2 q.2 q.1.attrs.length (attrCells q.1.attrs)) := Lib.hid (fun q hq => (H3.out q hq).kept hh.gr (by rcases q.2.ownBlock with _ | g <;> simp))
    have hs6 := hh.gr.size
    clear hh hnd hat lx lz
    go_upto_region 6 with (at_builtin; refine wpList_append_elt rfl (.tmp 33) (.tmp 35) 22 rfl W0.heap.size 68 i0 _ 9 104 Try.underlying22 HI0.out HZ0.out HZ1.out HZ2.out rfl (by omega) (.slice A0 n0 c0) n0 (rawCells rs) rfl HOW2.out (ndCells ⟨1, m0 :: mt, [], al, parent, -1, -1, prev, -1⟩ (.slice A6 al.length c6)) rfl rfl (by simp [ndCells, str, Value.oneCell']) (by unfold maxLen; omega) (by omega) (by omega) ?_; intro g cap w5 ho5 hg5 hat5 hlt5 hb5; have HG5 := Lib.hid hg5; have HAT5 := Lib.hid hat5; have HO5 := Lib.hid ho5; have HBX5 := Lib.hid (HBX.out.grown hg5 (fun e => own_ne HOW2.out HBX.out (by decide) e.symm)); clear x0 x1 x2 x3 x4 x5 x6 x7 x8; clear ho5 hg5 hat5 hb5)
    have hst0 : LaySt W0 W (Value.slice A0 n0 c0).ownBlock (some ⟨g, 0, none⟩) (n0 + 1) cap M0 w5 := by
      refine ⟨?_, grown_two HGR.out HG5.out, fun j hj => ?_⟩
      · rw [← HM0.out]
        exact OTree.push H1.out HOW2.out HH3.out _ (.slice A6 al.length c6) HATT.out HO5.out HG5.out
      · have e : g = j := by simpa [Value.ownBlock] using hj
        subst e
        rcases HAT5.out with h | h
        · exact .inr h
        · left; omega
    have HST0 := Lib.hid hst0
    have z0 : w5.cell? ⟨W.heap.size, 0, none⟩ = some (.string ⟨(m0 :: mt).toArray⟩) := HBX5.out.cell 0
    have lz : W.heap.size < w5.heap.size := HBX5.out.lt
    clear hst0 HO5 HG5 HAT5 HOW2 HH3 HATT HGR HBX hs6
    go_upto_region 10 with fail
    clear z0
    go_loopg [0, 11, 12] ks.length (fun gk tv lv iv wr => ∃ (j g n cc : Nat) (la : Int), j + gk = ks.length ∧ iv = .int .i64 (j : Int) ∧ tv = .slice (some ⟨g, 0, none⟩) n cc ∧ lv = .int .i64 la ∧ n0 < n ∧ n ≤ 1000000 ∧ la < (n : Int) ∧ -1 ≤ la ∧ Hid (LaySt W0 W (Value.slice A0 n0 c0).ownBlock (some ⟨g, 0, none⟩) n cc (layK M0 (ks.take j) n0 (-1)).1 wr) ∧ Hid (Bk wr W.heap.size 52 #[.string ⟨(m0 :: mt).toArray⟩, .string ⟨tx.toArray⟩, .slice A al.length c, .slice K ks.length d]) ∧ Hid (la = (layK M0 (ks.take j) n0 (-1)).2) ∧ Hid (n = n0 + 1 + cntL (ks.take j)))
    case atStart => exact ⟨0, g, n0 + 1, cap, -1, by omega, rfl, rfl, rfl, by omega, by omega, by omega, by omega, Lib.hid (by rw [List.take_zero, layK_nil]; exact HST0.out), HBX5, Lib.hid (by rw [List.take_zero, layK_nil]), Lib.hid (by rw [List.take_zero, cntL_nil])⟩
    case round =>
      obtain ⟨j, g, n, c1, la, hj, rfl, rfl, rfl, hn0, hnm, hla1, hla2, HST, HBK, HLA, HN⟩ := hrel
      clear HST0 HBX5
      have z3 : wr.cell? ⟨W.heap.size, 3, none⟩ = some (.slice K ks.length d) := HBK.out.cell 3
      have lz3 : W.heap.size < wr.heap.size := HBK.out.lt
      have HBR := Lib.hid (HST.out.below HB.out HOB.out)
      have HTL := Lib.hid HST.out.tree.len
      by_cases hlt : j < ks.length
      · have i1 : (j : Int) < (ks.length : Int) := by omega
        rcases HKC.out with hk0 | ⟨b', off, rfl, hkc⟩
        · rw [hk0] at hlt; simp at hlt
        · obtain ⟨nm', tx', al', ks', A1, ca, K1, d1, hkj, q0, q1, q2, q3, hva, hvk, hbw⟩ := kid_cells hkc hlt
          have hsp := HIH.out _ (List.getElem_mem hlt)
          have hct := cntL_take hlt
          have hcs := cntL_split ks (j + 1)
          have hks := layK_succ hlt M0 n0 (-1)
          rw [hkj] at hsp hct hks
          have hfl := layF_length (.mk nm' tx' al' ks') (layK M0 (ks.take j) n0 (-1)).1 n0 la
          have HCT := Lib.hid hct
          rw [← HLA.out] at hks
          have q0 := (HBR.out.cell (p := ⟨b', off + j * 4, none⟩) hbw).trans q0
          have q1 := (HBR.out.cell (p := ⟨b', off + j * 4 + 1, none⟩) hbw).trans q1
          have q2 := (HBR.out.cell (p := ⟨b', off + j * 4 + 2, none⟩) hbw).trans q2
          have q3 := (HBR.out.cell (p := ⟨b', off + j * 4 + 3, none⟩) hbw).trans q3
          have hbr : b' < wr.heap.size := by have := HBR.out.size; omega
          have hroom : n + cnt (.mk nm' tx' al' ks') ≤ 1000000 := by have := HN.out; omega
          have HC := Lib.hid (hsp nm' tx' al' ks' A1 K1 (some ⟨g, 0, none⟩) ca d1 n c1 (layK M0 (ks.take j) n0 (-1)).1 (n0 : Int) la W0 wr rfl hva hvk HBR.out HST.out.tree hroom)
          obtain ⟨F, hF⟩ : ∃ F, layF (layK M0 (ks.take j) n0 (-1)).1 (.mk nm' tx' al' ks') n0 la = F := ⟨_, rfl⟩
          rw [hF] at HC hks hfl
          obtain ⟨nf, hnf⟩ : ∃ nf, F.length = nf := ⟨_, rfl⟩
          have hnf1 : nf = n + cnt (.mk nm' tx' al' ks') := by rw [← hnf, hfl, HTL.out]
          have hcp : 0 < cnt (.mk nm' tx' al' ks') := by have := pre_pos (.mk nm' tx' al' ks') 0 0; rwa [pre_cnt] at this
          have hnf2 : nf ≤ 1000000 := by omega
          have hnn : n < nf := by omega
          have HKS := Lib.hid hks
          have HNF := Lib.hid hnf
          have HNF1 := Lib.hid hnf1
          clear hkj hkc hva hvk hbw hsp hct hcs hks hfl hF hnf hnf1 hcp hroom
          dsimp only [str] at q0 q1 HC
          go_upto_region 14 with (go_at_call 49; refine (HC.out).mono ?_; rintro e w2 ⟨A2, c2, rfl, hst2⟩; rw [HNF.out] at hst2 ⊢; obtain ⟨g2, rfl, hg2, hg2'⟩ := hst2.tree.some_ (by omega); have HNX := Lib.hid (HST.out.next hst2); have HBK2 := Lib.hid (HBK.out.grown hst2.gr (fun e => HST.out.tree.ne HBK.out (by decide) e.symm)); clear hst2)
          clear q0 q1 q2 q3 z3
          by_cases h0 : 0 ≤ la
          · obtain ⟨u, rfl⟩ := Int.eq_ofNat_of_zero_le h0
            have i2 : ((u : Int) < (nf : Int)) := by omega
            obtain ⟨⟨v8, s8⟩, f8, -⟩ := HNX.out.tree.cell (u * 9 + 8) (by omega)
            go_wp2
            go_roundg (gk - 1)
            case measure => omega
            case rel =>
              have e : tell F n0 ((u : Nat) : Int) (layK M0 (ks.take j) n0 (-1)).1.length = F.modify u (fun x => { x with next := (n : Int) }) := by
                rw [HTL.out]; unfold tell setNext; rw [if_pos (by omega), Int.toNat_natCast]
              refine ⟨j + 1, g2, nf, c2, (n : Int), by omega, by go_num, rfl, rfl, by omega, hnf2, by omega, by omega, Lib.hid ?_, Lib.hid (HBK2.out.far (p := ⟨g2, u * 9 + 8, none⟩) (fun h => HNX.out.tree.ne HBK2.out (by decide) (by simp at h; simp [Value.ownBlock, h])) _), Lib.hid ?_, Lib.hid ?_⟩
              · rw [HKS.out, e]
                exact HNX.out.write (k := u) (j := 8) (by omega) (by omega) (.int .i64 (n : Int)) (fun x => { x with next := (n : Int) }) (fun x v => rfl) (fun x => rfl)
              · rw [HKS.out, HTL.out]
              · rw [HNF1.out, HN.out, HCT.out]; omega
          · obtain ⟨⟨v5, s5⟩, f5, -⟩ := HNX.out.tree.cell (n0 * 9 + 5) (by omega)
            have i2 : ((n0 : Int) < (nf : Int)) := by omega
            go_wp2
            go_roundg (gk - 1)
            case measure => omega
            case rel =>
              have e : tell F n0 la (layK M0 (ks.take j) n0 (-1)).1.length = F.modify n0 (fun x => { x with first := (n : Int) }) := by
                rw [HTL.out]; unfold tell setFirst; rw [if_neg (by omega)]
              refine ⟨j + 1, g2, nf, c2, (n : Int), by omega, by go_num, rfl, rfl, by omega, hnf2, by omega, by omega, Lib.hid ?_, Lib.hid (HBK2.out.far (p := ⟨g2, n0 * 9 + 5, none⟩) (fun h => HNX.out.tree.ne HBK2.out (by decide) (by simp at h; simp [Value.ownBlock, h])) _), Lib.hid ?_, Lib.hid ?_⟩
              · rw [HKS.out, e]
                exact HNX.out.write (k := n0) (j := 5) (by omega) (by omega) (.int .i64 (n : Int)) (fun x => { x with first := (n : Int) }) (fun x v => rfl) (fun x => rfl)
              · rw [HKS.out, HTL.out]
              · rw [HNF1.out, HN.out, HCT.out]; omega
      · obtain rfl : j = ks.length := by omega
        have i1 : ¬ ((ks.length : Int) < (ks.length : Int)) := by omega
        obtain ⟨⟨v6, s6⟩, f6, hg6⟩ := HST.out.tree.cell (n0 * 9 + 6) (by omega)
        have i2 : ((n0 : Int) < (n : Int)) := by omega
        go_wp2
        go_ret
        have hll := HLA.out
        have htl := HTL.out
        rw [List.take_of_length_le (Nat.le_refl _)] at hll htl
        refine ⟨some ⟨g, 0, none⟩, c1, ?_, ?_⟩
        · rw [HF.out, setLast_length, htl]; rfl
        · have h1 := HST.out
          rw [List.take_of_length_le (Nat.le_refl _)] at h1
          rw [HF.out, setLast_length, htl, ← hll]
          exact h1.write (k := n0) (j := 6) (by omega) (by omega) (.int .i64 la) (fun x => { x with last := la }) (fun x v => rfl) (fun x => rfl)
end Go.Proofs.Ytofllmofdenadaa
