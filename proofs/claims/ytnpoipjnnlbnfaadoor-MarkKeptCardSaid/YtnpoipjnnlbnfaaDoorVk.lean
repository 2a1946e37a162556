/- A tag with its attributes, by labels and goto. No conditions but that the list is not endless. -/
import Derived.Test.YtnpoipjnnlbnfaaDoorVj
import Derived.Laws.ResultCell
namespace Go.Proofs.YtnpoipjnnlbnfaaDoor
set_option linter.unusedVariables false
open Go.RowKit Go.Proofs.Fm Go.Proofs.Fb Go.Proofs.Fk Go.Proofs.Fs

theorem bk_below {w w' : World} {b : Nat} {t : TypeId} {cs : Array Value} (h : Bk w b t cs) (hb : Below w.heap.size w w') : Bk w' b t cs := Bk.below h hb (Bk.lt h)
theorem bk_ne {w : World} {b b' : Nat} {t t' : TypeId} {cs cs' : Array Value} (h : Bk w b t cs) (h' : Bk w b' t' cs') (hne : t ≠ t') : b ≠ b' := by
  rintro rfl
  unfold Bk at h h'
  rw [h] at h'
  injection h' with h'
  injection h' with _ ht
  exact hne ht
/-- what the reading of a tag knows of the world: what is ahead; the tag so far; the attribute at hand; the result -/
structure Tg (B : Nat) (w W : World) (b : Nat) (R : List Int) (bt ba br : Nat) (nm : Str) (al : List Att) (an av : Str) (v : Value) : Prop where
  at_ : At B W b R
  hBw : B ≤ w.heap.size
  gr : w.grownBy W (some b)
  tg : Bk W bt 44 #[.int .i64 2, str nm, str [], v, .bool false]
  ow : W.ownsRow w.heap.size 29 2 v al.length (attrCells al)
  ab : Bk W ba 29 #[str an, str av]
  rs : Bk W br 44 #[.int .i64 0, str [], str [], .slice none 0 0, .bool false]
  ne : v.ownBlock ≠ some ba
  lo : w.heap.size ≤ bt ∧ w.heap.size ≤ ba ∧ w.heap.size ≤ br
  df : bt ≠ br
section
variable {w W W' : World} {B b bt ba br : Nat} {R R' : List Int} {nm an av : Str} {al : List Att} {v : Value}
theorem Tg.blt (h : Tg B w W b R bt ba br nm al an av v) : b < w.heap.size := Nat.lt_of_lt_of_le h.at_.lt.1 h.hBw
theorem Tg.wlt (h : Tg B w W b R bt ba br nm al an av v) : w.heap.size ≤ W.heap.size := h.gr.size
theorem Tg.Wlt (h : Tg B w W b R bt ba br nm al an av v) : B ≤ W.heap.size := Nat.le_trans h.hBw h.gr.size
/-- the cursor has gone on -/
theorem Tg.step (h : Tg B w W b R bt ba br nm al an av v) (ha : At B W' b R') (hg : W.grownBy W' (some b)) : Tg B w W' b R' bt ba br nm al an av v := by
  have hb := h.blt
  have hl := h.lo
  refine ⟨ha, h.hBw, grown_trans h.gr hg, h.tg.grown hg (by simp; omega), h.ow.kept hg (.inr (fun e => by have := (h.ow.lt _ e).1; omega)), h.ab.grown hg (by simp; omega), h.rs.grown hg (by simp; omega), h.ne, h.lo, h.df⟩
/-- new blocks are laid -/
theorem Tg.grow (h : Tg B w W b R bt ba br nm al an av v) (hb : Below W.heap.size W W') : Tg B w W' b R bt ba br nm al an av v := by
  refine ⟨h.at_.below hb h.Wlt, h.hBw, grown_below h.gr hb h.wlt, bk_below h.tg hb, own_below h.ow hb (fun g hg => (h.ow.lt _ hg).2), bk_below h.ab hb, bk_below h.rs hb, h.ne, h.lo, h.df⟩
theorem far_below {w W : World} {b c : Nat} (h : w.grownBy W (some b)) (hc : w.heap.size ≤ c) (i : Nat) (u : Value) : w.grownBy (W.setCell ⟨c, i, none⟩ u) (some b) :=
  ⟨h.os, h.tape, h.output, by simpa [World.setCell] using h.size, fun j hj hne => (Below.heap_setCell W ⟨c, i, none⟩ u j (by show j ≠ c; omega)).trans (h.block j hj hne)⟩
theorem At.far {B b c : Nat} {w : World} {L : List Int} (h : At B w b L) (hc : B ≤ c) (i : Nat) (u : Value) : At B (w.setCell ⟨c, i, none⟩ u) b L :=
  h.below ((Below.refl B w).setCell (p := ⟨c, i, none⟩) hc u) (Nat.le_refl _)
/-- the attribute at hand is written -/
theorem Tg.put (h : Tg B w W b R bt ba br nm al an av v) (an' av' : Str) : Tg B w ((W.setCell ⟨ba, 0, none⟩ (str an')).setCell ⟨ba, 1, none⟩ (str av')) b R bt ba br nm al an' av' v := by
  have hl := h.lo
  have n1 : bt ≠ ba := bk_ne h.tg h.ab (by decide)
  have n2 : br ≠ ba := bk_ne h.rs h.ab (by decide)
  refine ⟨(h.at_.far (Nat.le_trans h.hBw hl.2.1) 0 _).far (Nat.le_trans h.hBw hl.2.1) 1 _, h.hBw, far_below (far_below h.gr hl.2.1 0 _) hl.2.1 1 _, (h.tg.far (p := ⟨ba, 0, none⟩) n1 _).far (p := ⟨ba, 1, none⟩) n1 _, ?_, ?_, (h.rs.far (p := ⟨ba, 0, none⟩) n2 _).far (p := ⟨ba, 1, none⟩) n2 _, h.ne, h.lo, h.df⟩
  · exact ownsRow_setCell_other (ownsRow_setCell_other h.ow h.ne _) h.ne _
  · exact (h.ab.set_ 0 _).set_ 1 _
theorem Tg.putv (h : Tg B w W b R bt ba br nm al an av v) (av' : Str) : Tg B w (W.setCell ⟨ba, 1, none⟩ (str av')) b R bt ba br nm al an av' v := by
  have hl := h.lo
  have n1 : bt ≠ ba := bk_ne h.tg h.ab (by decide)
  have n2 : br ≠ ba := bk_ne h.rs h.ab (by decide)
  refine ⟨h.at_.far (Nat.le_trans h.hBw hl.2.1) 1 _, h.hBw, far_below h.gr hl.2.1 1 _, h.tg.far (p := ⟨ba, 1, none⟩) n1 _, ?_, ?_, h.rs.far (p := ⟨ba, 1, none⟩) n2 _, h.ne, h.lo, h.df⟩
  · exact ownsRow_setCell_other h.ow h.ne _
  · exact h.ab.set_ 1 _
/-- an attribute is appended to the tag's -/
theorem Tg.app (h : Tg B w W b R bt ba br nm al an av v) {o : Obj} {W2 : World} {g cap : Nat} {a : Att} (ho : W2.ownsRow w.heap.size 29 2 (.slice (some ⟨g, 0, none⟩) (al.length + 1) cap) (al.length + 1) (attrCells (al ++ [a])))
    (hg : (W.alloc o).grownBy W2 v.ownBlock) (hat : v.ownBlock = some g ∨ g = (W.alloc o).heap.size) : Tg B w (W2.setCell ⟨bt, 3, none⟩ (.slice (some ⟨g, 0, none⟩) (al.length + 1) cap)) b R bt ba br nm (al ++ [a]) an av (.slice (some ⟨g, 0, none⟩) (al.length + 1) cap) := by
  have h1 := h.grow ((Below.refl _ W).alloc (Nat.le_refl _) o)
  have hl := h.lo
  have ht : v.ownBlock ≠ some bt := own_ne h.ow h.tg (by decide)
  have hr : v.ownBlock ≠ some br := own_ne h.ow h.rs (by decide)
  have hlow : ∀ k, v.ownBlock = some k → w.heap.size ≤ k := fun k hk => (h.ow.lt _ hk).1
  have hB : Below w.heap.size (W.alloc o) W2 := (Below.refl _ _).grown hg (by simp; have := h.wlt; omega) hlow
  have tg2 := h1.tg.grown hg (fun e => ht e.symm)
  have rs2 := h1.rs.grown hg (fun e => hr e.symm)
  have ab2 := h1.ab.grown hg (fun e => h.ne e.symm)
  have hgb : (Value.slice (some ⟨g, 0, none⟩) (al.length + 1) cap).ownBlock = some g := rfl
  have hne : g ≠ ba := by
    rcases hat with e | e
    · intro e2; subst e2; exact h.ne e
    · have := h.ab.lt; simp at e; omega
  have hgt : some g ≠ some bt := by rw [← hgb]; exact own_ne ho tg2 (by decide)
  refine ⟨(h1.at_.below hB h.hBw).far (Nat.le_trans h.hBw hl.1) 3 _, h.hBw, far_below (grown_below h1.gr hB (Nat.le_refl _)) hl.1 3 _, ?_, ?_, ab2.far (p := ⟨bt, 3, none⟩) ((bk_ne tg2 ab2 (by decide)).symm) _, rs2.far (p := ⟨bt, 3, none⟩) h.df.symm _, ?_, h.lo, h.df⟩
  · exact tg2.set_ 3 _
  · rw [List.length_append]
    exact ownsRow_setCell_other ho (by rw [hgb]; exact hgt) _
  · rw [hgb]; intro e; injection e with e; exact hne e
end

theorem tg_start {w w2 : World} {B b : Nat} {R : List Int} (nm : Str) (hBw : B ≤ w.heap.size) (ha : At B w2 b R) (hg : w.grownBy w2 (some b)) (hr : Bk w2 w.heap.size 44 #[.int .i64 0, str [], str [], .slice none 0 0, .bool false]) :
    Tg B w ((w2.alloc (.cells #[.int .i64 2, str nm, str [], .slice none 0 0, .bool false] 44)).alloc (.cells #[str [], str []] 29)) b R w2.heap.size (w2.heap.size + 1) w.heap.size nm [] [] [] (.slice none 0 0) := by
  have hz := hg.size
  have hlt := hr.lt
  have b1 : Below w2.heap.size w2 ((w2.alloc (.cells #[.int .i64 2, str nm, str [], .slice none 0 0, .bool false] 44)).alloc (.cells #[str [], str []] 29)) := ((Below.refl _ w2).alloc (Nat.le_refl _) _).alloc (by simp) _
  refine ⟨ha.below b1 (Nat.le_trans hBw hz), hBw, grown_below hg b1 hz, ?_, World.ownsRow_nil _ _ _ _, ?_, bk_below hr b1, by simp [Value.ownBlock], ⟨hz, by omega, Nat.le_refl _⟩, by omega⟩
  · exact (Bk.new w2 _ _).alloc _
  · have := Bk.new (w2.alloc (.cells #[.int .i64 2, str nm, str [], .slice none 0 0, .bool false] 44)) 29 #[str [], str []]
    rwa [show (w2.alloc (.cells #[.int .i64 2, str nm, str [], .slice none 0 0, .bool false] 44)).heap.size = w2.heap.size + 1 by simp] at this
/-- a tag's result, read from its block -/
theorem tok_result {W : World} {br : Nat} {k : Int} {s1 s2 : ByteArray} {A : Option Addr} {n c : Nat} {cl : Bool} (h : Bk W br 44 #[.int .i64 k, .string s1, .string s2, .slice A n c, .bool cl]) (ts : Array Value) (ht : ts.getD 2 undef = .pointer (some ⟨br, 0, none⟩)) (ok : Bool) (h3 : ts.getD 3 undef = .bool ok) :
    (results Tryd.f42 ts).run Tryd.prog W = .ok (.tuple #[.agg #[.int .i64 k, .string s1, .string s2, .slice A n c, .bool cl], .bool ok]) W := by
  have c0 : W.cell? ⟨br, 0, none⟩ = some (.int .i64 k) := h.cell 0
  have c1 : W.cell? ⟨br, 1, none⟩ = some (.string s1) := h.cell 1
  have c2 : W.cell? ⟨br, 2, none⟩ = some (.string s2) := h.cell 2
  have c3 : W.cell? ⟨br, 3, none⟩ = some (.slice A n c) := h.cell 3
  have c4 : W.cell? ⟨br, 4, none⟩ = some (.bool cl) := h.cell 4
  rw [results_cell_tmp Tryd.results42, ht, h3]
  simp [go_sem, c0, c1, c2, c3, c4, Result.andThen]
theorem attrInfo : (Tryd.prog.info? 29).map (fun i => (i.zero, i.size, i.bytes)) = some (some (.agg #[.string ⟨#[]⟩, .string ⟨#[]⟩]), 2, 32) := by kernel_rfl
/-! ### attributes, one by one -/
theorem attrAt_eq {r : Int} {t u : List Int} (h : (t.dropWhile inAttr).dropWhile Fk.blank = 61 :: u) : attrAt (r :: t) = ((Fk.small (r :: t.takeWhile inAttr), (valAt (u.dropWhile Fk.blank)).1), (valAt (u.dropWhile Fk.blank)).2) := by
  simp only [attrAt, h, if_true]
theorem attrAt_ne {r : Int} {t : List Int} (h : ¬ ([61] <+: (t.dropWhile inAttr).dropWhile Fk.blank)) : attrAt (r :: t) = ((Fk.small (r :: t.takeWhile inAttr), []), (t.dropWhile inAttr).dropWhile Fk.blank) := by
  simp only [attrAt]
  split
  · rename_i e u he
    rw [he, List.cons_prefix_cons] at h
    have : e ≠ 61 := fun e1 => h ⟨e1.symm, List.nil_prefix⟩
    rw [if_neg this, he]
  · rename_i he; rw [he]
theorem eq_nz : noZero ⟨#[61]⟩ := by unfold noZero; decide
/-- what the reading of a tag hands back -/
def TagOut (B : Nat) (w w' : World) (b : Nat) (nm : Str) (G : Option (List Att × Bool × List Int)) (e : Ending) : Prop := match G with
  | none => e = .returned (.tuple #[.agg #[.int .i64 0, str [], str [], .slice none 0 0, .bool false], .bool false]) ∧ At B w' b []
  | some (al, cl, rest) => ∃ v, e = .returned (.tuple #[.agg #[.int .i64 2, str nm, str [], v, .bool cl], .bool true]) ∧ w'.ownsRow w.heap.size 29 2 v al.length (attrCells al) ∧ al.length ≤ 64 ∧ At B w' b rest
/-- the frame at a label -/
def FrT (b bt ba br : Nat) (sl : Bool) (a : Act) : Prop := ∃ u : Nat → Value, a = { tmps := #[.pointer (some ⟨b, 0, none⟩), undef, .pointer (some ⟨br, 0, none⟩), .bool false, .pointer (some ⟨bt, 0, none⟩), .pointer (some ⟨ba, 0, none⟩), (u 6), (u 7), .bool sl, (u 9), (u 10), (u 11), (u 12), (u 13), (u 14), (u 15), (u 16), (u 17), (u 18), (u 19), (u 20), (u 21), (u 22), (u 23), (u 24), (u 25), (u 26), (u 27), (u 28), (u 29), (u 30), (u 31), (u 32), (u 33), (u 34), (u 35), (u 36), (u 37), (u 38), (u 39), (u 40), (u 41), (u 42), (u 43), (u 44), (u 45), (u 46), (u 47), (u 48), (u 49), (u 50), (u 51), (u 52), (u 53), (u 54), (u 55), (u 56), (u 57), (u 58), (u 59), (u 60), (u 61), (u 62), (u 63), (u 64), (u 65), (u 66), (u 67), (u 68), (u 69), (u 70), (u 71), (u 72), (u 73), (u 74)], defers := [] }
theorem frT_intro {b bt ba br : Nat} {sl : Bool} (u6 u7 u9 u10 u11 u12 u13 u14 u15 u16 u17 u18 u19 u20 u21 u22 u23 u24 u25 u26 u27 u28 u29 u30 u31 u32 u33 u34 u35 u36 u37 u38 u39 u40 u41 u42 u43 u44 u45 u46 u47 u48 u49 u50 u51 u52 u53 u54 u55 u56 u57 u58 u59 u60 u61 u62 u63 u64 u65 u66 u67 u68 u69 u70 u71 u72 u73 u74 : Value) : FrT b bt ba br sl { tmps := #[.pointer (some ⟨b, 0, none⟩), undef, .pointer (some ⟨br, 0, none⟩), .bool false, .pointer (some ⟨bt, 0, none⟩), .pointer (some ⟨ba, 0, none⟩), u6, u7, .bool sl, u9, u10, u11, u12, u13, u14, u15, u16, u17, u18, u19, u20, u21, u22, u23, u24, u25, u26, u27, u28, u29, u30, u31, u32, u33, u34, u35, u36, u37, u38, u39, u40, u41, u42, u43, u44, u45, u46, u47, u48, u49, u50, u51, u52, u53, u54, u55, u56, u57, u58, u59, u60, u61, u62, u63, u64, u65, u66, u67, u68, u69, u70, u71, u72, u73, u74], defers := [] } := ⟨fun k => (#[undef, undef, undef, undef, undef, undef, u6, u7, undef, u9, u10, u11, u12, u13, u14, u15, u16, u17, u18, u19, u20, u21, u22, u23, u24, u25, u26, u27, u28, u29, u30, u31, u32, u33, u34, u35, u36, u37, u38, u39, u40, u41, u42, u43, u44, u45, u46, u47, u48, u49, u50, u51, u52, u53, u54, u55, u56, u57, u58, u59, u60, u61, u62, u63, u64, u65, u66, u67, u68, u69, u70, u71, u72, u73, u74] : Array Value).getD k undef, rfl⟩
def JT (B : Nat) (w : World) (b br : Nat) (nm : Str) (G : Option (List Att × Bool × List Int)) : Nat → Nat → Act → World → Prop
  | 0, n, a, W => ∃ bt ba sl, FrT b bt ba br sl a ∧ ∃ R al an av v, Tg B w W b R bt ba br nm al an av v ∧ n = 5 * R.length + 3 ∧ al.length ≤ 64 ∧ Hid (attrs R sl al = G)
  | 1, n, a, W => ∃ bt ba sl, FrT b bt ba br sl a ∧ ∃ t al an av v, Tg B w W b (62 :: t) bt ba br nm al an av v ∧ n = 5 * (t.length + 1) + 2 ∧ al.length ≤ 64 ∧ Hid (G = some (al, sl, t))
  | 2, n, a, W => ∃ bt ba sl, FrT b bt ba br sl a ∧ ∃ r t al an av v, Tg B w W b (r :: t) bt ba br nm al an av v ∧ n = 5 * (t.length + 1) + 2 ∧ al.length ≤ 64 ∧ Hid (attrs (attrAt (r :: t)).2 false (add al (attrAt (r :: t)).1) = G)
  | 3, n, a, W => ∃ bt ba, FrT b bt ba br false a ∧ ∃ u al an v, Tg B w W b (61 :: u) bt ba br nm al an [] v ∧ n = 5 * (u.length + 1) + 1 ∧ al.length ≤ 64 ∧ Hid (attrs (valAt (u.dropWhile Fk.blank)).2 false (add al (an, (valAt (u.dropWhile Fk.blank)).1)) = G)
  | 4, n, a, W => ∃ bt ba, FrT b bt ba br false a ∧ ∃ R al an av v, Tg B w W b R bt ba br nm al an av v ∧ n = 5 * R.length + 4 ∧ al.length ≤ 64 ∧ Hid (attrs R false (add al (an, av)) = G)
  | _, _, _, _ => False
theorem JT.only {B : Nat} {w : World} {b br : Nat} {nm : Str} {G : Option (List Att × Bool × List Int)} : ∀ l n a W, JT B w b br nm G l n a W → l < 5
  | 0, _, _, _, _ => by omega
  | 1, _, _, _, _ => by omega
  | 2, _, _, _, _ => by omega
  | 3, _, _, _, _ => by omega
  | 4, _, _, _, _ => by omega
  | _ + 5, _, _, _, h => h.elim
set_option maxHeartbeats 8000000 in
set_option maxRecDepth 100000 in
theorem readTag_any {B b : Nat} {w : World} {L : List Int} (h : At B w b L) (hB : B ≤ w.heap.size) (he : Env w) :
    Calls Tryd.prog 42 #[.pointer (some ⟨b, 0, none⟩)] w fun e w' => TagOut B w w' b (Fk.small (L.takeWhile inName)) (attrs (L.dropWhile inName) false []) e ∧ w.grownBy w' (some b) := by
  obtain ⟨nm, hnm⟩ : ∃ nm, Fk.small (L.takeWhile inName) = nm := ⟨_, rfl⟩
  obtain ⟨G, hG⟩ : ∃ G, attrs (L.dropWhile inName) false [] = G := ⟨_, rfl⟩
  rw [hnm, hG]
  have HE := Lib.hid (fun W (hg : w.grownBy W (some b)) => h.env he hB hg)
  have hbB : b < w.heap.size := Nat.lt_of_lt_of_le h.lt.1 hB
  have hlen := h.len
  have hl3 : (Fu.encB (L.takeWhile inName)).length < 35184372088832 := by
    have h1 := encB_le (L.takeWhile inName)
    have h2 := (List.takeWhile_sublist inName (l := L)).length_le
    omega
  have HNM := Lib.hid hnm
  have HGG := Lib.hid hG
  have hw4 := he.sz
  clear hnm hG he hlen
  go_enter Tryd.func42, Tryd.ntmps42
  go_wp2
  refine wp_scope_5 0 _ (JT B w b w.heap.size nm G) rfl rfl rfl rfl rfl rfl JT.only ?_ ?_ ?_ ?_ ?_ ?_
  · intro henter
    have HEN := Lib.hid henter
    clear henter
    have ha0 := h.below ((Below.refl _ w).alloc (Nat.le_refl _) (.cells #[.int .i64 0, .string ⟨#[]⟩, .string ⟨#[]⟩, .slice none 0 0, .bool false] 44)) hB
    have hB1 : ∀ o, B ≤ (w.alloc o).heap.size := fun o => by simp; omega
    have HA0 := Lib.hid ha0
    have HBR := Lib.hid (Bk.new w 44 #[.int .i64 0, .string ⟨#[]⟩, .string ⟨#[]⟩, .slice none 0 0, .bool false])
    have HG0 := Lib.hid (World.grownBy_alloc w (.cells #[.int .i64 0, .string ⟨#[]⟩, .string ⟨#[]⟩, .slice none 0 0, .bool false] 44) (some b))
    clear h ha0
    go_wp2_with (first
      | (go_at_call 67; refine (take_tag HA0.out (hB1 _)).mono ?_; rintro e w1 ⟨rfl, h1, g1⟩; have HA1 := Lib.hid h1; have HG1 := Lib.hid (grown_trans HG0.out g1); have HR1 := Lib.hid (HBR.out.grown g1 (by simp; omega)); clear h1 g1)
      | (go_at_call 66; refine (small_any (L.takeWhile inName) (HE.out _ HG1.out) hl3).mono ?_; rintro e w2 ⟨rfl, h2⟩; have hz2 := HG1.out.size; have HA2 := Lib.hid (HA1.out.below h2 (Nat.le_trans hB hz2)); have HG2 := Lib.hid (grown_below HG1.out h2 hz2); have HR2 := Lib.hid (bk_below HR1.out h2); rw [HNM.out]; clear h2))
    refine wp_label ?_
    rename_i K hK
    refine hK _ _ ?_
    exact HEN.out (5 * (L.dropWhile inName).length + 3) _ _ ⟨_, _, false, (frT_intro ..), L.dropWhile inName, [], [], [], .slice none 0 0, tg_start nm hB HA2.out HG2.out HR2.out, rfl, by simp, Lib.hid HGG.out⟩
  · rintro n a W ⟨bt, ba, sl, ⟨u, rfl⟩, R, al, an, av, v, ht, rfl, hal, hatt⟩ J' hJ'
    have HT := Lib.hid ht
    rcases R with _ | ⟨r, t⟩
    · have HPk := Lib.hid (peek_nil ht.at_)
      have hG : G = none := by rw [← hatt.out]; rfl
      have HGN := Lib.hid hG
      have hrs := ht.rs
      clear ht hG
      clear hrs
      go_wp2_with (go_at_call 61; refine (HPk.out).mono ?_; rintro e w1 ⟨rfl, h1, g1⟩; have HT1 := Lib.hid (HT.out.step h1 g1); clear h1 g1; have r0 : w1.cell? ⟨w.heap.size, 0, none⟩ = some (.int .i64 0) := HT1.out.rs.cell 0; have r1 : w1.cell? ⟨w.heap.size, 1, none⟩ = some (.string ⟨#[]⟩) := HT1.out.rs.cell 1; have r2 : w1.cell? ⟨w.heap.size, 2, none⟩ = some (.string ⟨#[]⟩) := HT1.out.rs.cell 2; have r3 : w1.cell? ⟨w.heap.size, 3, none⟩ = some (.slice none 0 0) := HT1.out.rs.cell 3; have r4 : w1.cell? ⟨w.heap.size, 4, none⟩ = some (.bool false) := HT1.out.rs.cell 4; have f0 := HT1.out.rs.frozen 0; have f1 := HT1.out.rs.frozen 1; have f2 := HT1.out.rs.frozen 2; have f3 := HT1.out.rs.frozen 3; have f4 := HT1.out.rs.frozen 4)
      rw [jumps_ret]
      have hbk := ((((HT1.out.rs.set_ 0 (.int .i64 0)).set_ 1 (.string ⟨#[]⟩)).set_ 2 (.string ⟨#[]⟩)).set_ 3 (.slice none 0 0)).set_ 4 (.bool false)
      have hlo := HT1.out.lo.2.2
      refine bodyPost_ret (tok_result (k := 0) (s1 := ⟨#[]⟩) (s2 := ⟨#[]⟩) (A := none) (n := 0) (c := 0) (cl := false) hbk _ rfl false rfl) rfl ⟨?_, ?_⟩
      · rw [HGN.out]
        have hlB := Nat.le_trans HT1.out.hBw hlo
        exact ⟨rfl, ((((HT1.out.at_.far hlB 0 _).far hlB 1 _).far hlB 2 _).far hlB 3 _).far hlB 4 _⟩
      · exact far_below (far_below (far_below (far_below (far_below HT1.out.gr hlo 0 _) hlo 1 _) hlo 2 _) hlo 3 _) hlo 4 _
    · have HPk := Lib.hid (peek_cons ht.at_)
      by_cases c62 : r = 62
      · subst c62
        have hG := attrs_end t sl al
        rw [hatt.out] at hG
        have HGN := Lib.hid hG
        clear ht hG
        go_wp2_with (go_at_call 61; refine (HPk.out).mono ?_; rintro e w1 ⟨rfl, h1, g1⟩; have HT1 := Lib.hid (HT.out.step h1 g1); clear h1 g1)
        go_step3
        exact hJ' 1 (5 * (t.length + 1) + 2) _ _ (by simp only [List.length_cons]; omega) ⟨bt, ba, sl, (frT_intro ..), t, al, an, av, v, HT1.out, rfl, hal, HGN⟩
      · have b62 : (r == 62) = false := by simp [c62]
        rcases hb : (Fk.blank r || r == 47) with _ | _
        · have hG := attrs_attr t sl al c62 hb
          rw [hatt.out] at hG
          have HGN := Lib.hid hG.symm
          have hb1 : Fk.blank r = false := by simpa using (Bool.or_eq_false_iff.1 hb).1
          have hb2 : (r != 47) = true := by have := (Bool.or_eq_false_iff.1 hb).2; simpa [bne] using this
          have HBL := Lib.hid (fun W => blank_any r W)
          rw [hb1] at HBL
          clear ht hG hb hb1 c62
          go_wp2_with (first
            | (go_at_call 61; refine (HPk.out).mono ?_; rintro e w1 ⟨rfl, h1, g1⟩; have HT1 := Lib.hid (HT.out.step h1 g1); clear h1 g1)
            | (go_at_call 69; refine (HBL.out _).mono ?_; rintro e w2 ⟨rfl, q, rfl⟩))
          go_step3
          exact hJ' 2 (5 * (t.length + 1) + 2) _ _ (by simp only [List.length_cons]; omega) ⟨bt, ba, sl, (frT_intro ..), r, t, al, an, av, v, HT1.out.step (HT1.out.at_.drewN q) (grown_drewN (World.grownBy.refl _ _) q), rfl, hal, HGN⟩
        · have hG := attrs_blank t sl al c62 hb
          rw [hatt.out] at hG
          have HGN := Lib.hid hG.symm
          have HBL := Lib.hid (fun W => blank_any r W)
          have hcase : (r != 47) = false ∨ ((r != 47) = true ∧ Fk.blank r = true) := by
            rcases h47 : (r == 47) with _ | _
            · right; rw [h47, Bool.or_false] at hb; exact ⟨by simp [bne, h47], hb⟩
            · left; simp [bne, h47]
          clear ht hG hb c62
          rcases hcase with hb2 | ⟨hb2, hb1⟩
          · go_wp2_with (first
              | (go_at_call 61; refine (HPk.out).mono ?_; rintro e w1 ⟨rfl, h1, g1⟩; have HT1 := Lib.hid (HT.out.step h1 g1); clear h1 g1)
              | (go_at_call 64; refine (next_some HT1.out.at_).mono ?_; rintro e w2 ⟨rfl, h2, g2⟩))
            go_step3
            exact hJ' 0 (5 * t.length + 3) _ _ (by simp only [List.length_cons]; omega) ⟨bt, ba, _, (frT_intro ..), t, al, an, av, v, HT1.out.step h2 g2, rfl, hal, HGN⟩
          · rw [hb1] at HBL
            clear hb1
            go_wp2_with (first
              | (go_at_call 61; refine (HPk.out).mono ?_; rintro e w1 ⟨rfl, h1, g1⟩; have HT1 := Lib.hid (HT.out.step h1 g1); clear h1 g1)
              | (go_at_call 69; refine (HBL.out _).mono ?_; rintro e w2 ⟨rfl, q, rfl⟩)
              | (go_at_call 64; refine (next_some (HT1.out.at_.drewN q)).mono ?_; rintro e w2 ⟨rfl, h2, g2⟩))
            go_step3
            exact hJ' 0 (5 * t.length + 3) _ _ (by simp only [List.length_cons]; omega) ⟨bt, ba, _, (frT_intro ..), t, al, an, av, v, HT1.out.step h2 (grown_trans (grown_drewN (World.grownBy.refl _ _) q) g2), rfl, hal, HGN⟩
  · rintro n a W ⟨bt, ba, sl, ⟨u, rfl⟩, t, al, an, av, v, ht, rfl, hal, hG⟩ J' hJ'
    have HT := Lib.hid ht
    clear ht
    obtain ⟨A, c, rfl, _, _⟩ := own_slice HT.out.ow
    go_wp2_with (go_at_call 64; refine (next_some HT.out.at_).mono ?_; rintro e w1 ⟨rfl, h1, g1⟩; have HT1 := Lib.hid (HT.out.step h1 g1); clear h1 g1; have t0 : w1.cell? ⟨bt, 0, none⟩ = some (.int .i64 2) := HT1.out.tg.cell 0; have t1 : w1.cell? ⟨bt, 1, none⟩ = some (.string ⟨nm.toArray⟩) := HT1.out.tg.cell 1; have t2 : w1.cell? ⟨bt, 2, none⟩ = some (.string ⟨#[]⟩) := HT1.out.tg.cell 2; have t3 : w1.cell? ⟨bt, 3, none⟩ = some (.slice A al.length c) := HT1.out.tg.cell 3; have t4 : w1.cell? ⟨bt, 4, none⟩ = some (.bool false) := HT1.out.tg.cell 4; have e4 := HT1.out.tg.frozen 4; have hd1 : (bt = w.heap.size) = False := eq_false HT1.out.df; have hd2 : (w.heap.size = bt) = False := eq_false HT1.out.df.symm; have r0 : w1.cell? ⟨w.heap.size, 0, none⟩ = some (.int .i64 0) := HT1.out.rs.cell 0; have r1 : w1.cell? ⟨w.heap.size, 1, none⟩ = some (.string ⟨#[]⟩) := HT1.out.rs.cell 1; have r2 : w1.cell? ⟨w.heap.size, 2, none⟩ = some (.string ⟨#[]⟩) := HT1.out.rs.cell 2; have r3 : w1.cell? ⟨w.heap.size, 3, none⟩ = some (.slice none 0 0) := HT1.out.rs.cell 3; have r4 : w1.cell? ⟨w.heap.size, 4, none⟩ = some (.bool false) := HT1.out.rs.cell 4; have f0 := HT1.out.rs.frozen 0; have f1 := HT1.out.rs.frozen 1; have f2 := HT1.out.rs.frozen 2; have f3 := HT1.out.rs.frozen 3; have f4 := HT1.out.rs.frozen 4)
    rw [jumps_ret]
    have hd := HT1.out.df.symm
    have hbk := (((((HT1.out.rs.far (p := ⟨bt, 4, none⟩) hd (.bool sl)).set_ 0 (.int .i64 2)).set_ 1 (.string ⟨nm.toArray⟩)).set_ 2 (.string ⟨#[]⟩)).set_ 3 (.slice A al.length c)).set_ 4 (.bool sl)
    have hlo := HT1.out.lo.2.2
    have hlt := HT1.out.lo.1
    have hnb : (Value.slice A al.length c).ownBlock ≠ some bt := own_ne HT1.out.ow HT1.out.tg (by decide)
    have hnr : (Value.slice A al.length c).ownBlock ≠ some w.heap.size := own_ne HT1.out.ow HT1.out.rs (by decide)
    refine bodyPost_ret (tok_result (k := 2) (s1 := ⟨nm.toArray⟩) (s2 := ⟨#[]⟩) (A := A) (n := al.length) (c := c) (cl := sl) hbk _ rfl true rfl) rfl ⟨?_, ?_⟩
    · rw [hG.out]
      have hlB := Nat.le_trans HT1.out.hBw hlo
      refine ⟨_, rfl, ?_, hal, (((((HT1.out.at_.far (Nat.le_trans HT1.out.hBw hlt) 4 _).far hlB 0 _).far hlB 1 _).far hlB 2 _).far hlB 3 _).far hlB 4 _⟩
      exact ownsRow_setCell_other (ownsRow_setCell_other (ownsRow_setCell_other (ownsRow_setCell_other (ownsRow_setCell_other (ownsRow_setCell_other HT1.out.ow hnb _) hnr _) hnr _) hnr _) hnr _) hnr _
    · exact far_below (far_below (far_below (far_below (far_below (far_below HT1.out.gr hlt 4 _) hlo 0 _) hlo 1 _) hlo 2 _) hlo 3 _) hlo 4 _
  · rintro n a W ⟨bt, ba, sl, ⟨u, rfl⟩, r, t, al, an, av, v, ht, rfl, hal, hG⟩ J' hJ'
    have HT := Lib.hid ht
    have HNX := Lib.hid (attr_name ht.at_ ht.Wlt (HE.out W ht.gr))
    have hlt : ((t.dropWhile inAttr).dropWhile Fk.blank).length ≤ t.length := Nat.le_trans (dropWhile_le _ _) (dropWhile_le _ _)
    clear ht
    obtain ⟨an2, han2⟩ : ∃ an2, Fk.small (r :: t.takeWhile inAttr) = an2 := ⟨_, rfl⟩
    rw [han2] at HNX
    have HAN := Lib.hid han2
    clear han2
    by_cases hp : [61] <+: (t.dropWhile inAttr).dropWhile Fk.blank
    · obtain ⟨y, hy⟩ : ∃ y, (t.dropWhile inAttr).dropWhile Fk.blank = 61 :: y := by obtain ⟨y, hy⟩ := hp; exact ⟨y, hy.symm⟩
      have HY := Lib.hid hy
      have hGG := hG.out
      rw [attrAt_eq hy, HAN.out] at hGG
      have HGN := Lib.hid hGG
      rw [hy, List.length_cons] at hlt
      clear hp hG hGG hy
      go_wp2_with (first
        | (go_at_call 70; refine (HNX.out).mono ?_; rintro e w1 ⟨rfl, h1, g1⟩; have HT1 := Lib.hid (HT.out.step h1 g1); have HT2 := Lib.hid (HT1.out.put an2 []); clear h1 g1; have a0 : w1.cell? ⟨ba, 0, none⟩ = some (.string ⟨an.toArray⟩) := HT1.out.ab.cell 0; have a1 : w1.cell? ⟨ba, 1, none⟩ = some (.string ⟨av.toArray⟩) := HT1.out.ab.cell 1; have f0 := HT1.out.ab.frozen 0; have f1 := HT1.out.ab.frozen 1)
        | (go_at_call 71; refine (go_blanks HT2.out.at_ HT2.out.Wlt).mono ?_; rintro e w2 ⟨rfl, h2, g2⟩; have HT3 := Lib.hid (HT2.out.step h2 g2); have HF := Lib.hid (follows_any HT3.out.at_ ⟨#[61]⟩ (by decide) eq_nz); rw [HY.out, show numsOf ⟨#[61]⟩ = [61] from rfl, decide_eq_true (show [61] <+: 61 :: y by simp)] at HF; clear h2 g2)
        | (go_at_call 62; refine (HF.out).mono ?_; rintro e w3 ⟨rfl, q, rfl⟩))
      go_step3
      have HT4 := HT3.out.step (HT3.out.at_.drewN q) (grown_drewN (World.grownBy.refl _ _) q)
      rw [HY.out] at HT4
      exact hJ' 3 (5 * (y.length + 1) + 1) _ _ (by omega) ⟨bt, ba, (frT_intro ..), y, al, an2, v, HT4, rfl, hal, HGN⟩
    · have hGG := hG.out
      rw [attrAt_ne hp, HAN.out] at hGG
      have HGN := Lib.hid hGG
      have HP := Lib.hid (decide_eq_false hp)
      clear hp hG hGG
      go_wp2_with (first
        | (go_at_call 70; refine (HNX.out).mono ?_; rintro e w1 ⟨rfl, h1, g1⟩; have HT1 := Lib.hid (HT.out.step h1 g1); have HT2 := Lib.hid (HT1.out.put an2 []); clear h1 g1; have a0 : w1.cell? ⟨ba, 0, none⟩ = some (.string ⟨an.toArray⟩) := HT1.out.ab.cell 0; have a1 : w1.cell? ⟨ba, 1, none⟩ = some (.string ⟨av.toArray⟩) := HT1.out.ab.cell 1; have f0 := HT1.out.ab.frozen 0; have f1 := HT1.out.ab.frozen 1)
        | (go_at_call 71; refine (go_blanks HT2.out.at_ HT2.out.Wlt).mono ?_; rintro e w2 ⟨rfl, h2, g2⟩; have HT3 := Lib.hid (HT2.out.step h2 g2); have HF := Lib.hid (follows_any HT3.out.at_ ⟨#[61]⟩ (by decide) eq_nz); rw [show numsOf ⟨#[61]⟩ = [61] from rfl, HP.out] at HF; clear h2 g2)
        | (go_at_call 62; refine (HF.out).mono ?_; rintro e w3 ⟨rfl, q, rfl⟩))
      go_step3
      exact hJ' 4 (5 * ((t.dropWhile inAttr).dropWhile Fk.blank).length + 4) _ _ (by omega) ⟨bt, ba, (frT_intro ..), _, al, an2, [], v, HT3.out.step (HT3.out.at_.drewN q) (grown_drewN (World.grownBy.refl _ _) q), rfl, hal, HGN⟩
  · rintro n a W ⟨bt, ba, ⟨u, rfl⟩, y, al, an, v, ht, rfl, hal, hG⟩ J' hJ'
    have HT := Lib.hid ht
    obtain ⟨V, hV⟩ : ∃ V, y.dropWhile Fk.blank = V := ⟨_, rfl⟩
    have hlv : V.length ≤ y.length := by rw [← hV]; exact dropWhile_le _ _
    have hl2 := ht.at_.len
    have hvr := valAt_raw V
    have hvl := valAt_le V
    have hGG := hG.out
    rw [hV, hvr] at hGG
    rw [hvr] at hvl
    have HGN := Lib.hid hGG
    have HV := Lib.hid hV
    have hsz : (⟨(Fu.encB (rawVal V).1).toArray⟩ : ByteArray).size ≤ 1073741824 := by
      show (Fu.encB (rawVal V).1).length ≤ _
      have h1 := encB_le (rawVal V).1
      have h2 : (rawVal V).1.length ≤ V.length := by
        rcases V with _ | ⟨q, z⟩
        · simp [rawVal]
        · unfold rawVal
          simp only
          split
          · have := (List.takeWhile_sublist (· != q) (l := z)).length_le; simp only [List.length_cons]; omega
          · exact (List.takeWhile_sublist inBare (l := q :: z)).length_le
      simp only [List.length_cons] at hl2
      omega
    have HSZ := Lib.hid hsz
    clear ht hGG hV hsz hl2 hvr
    go_wp2_with (first
      | (go_at_call 64; refine (next_some HT.out.at_).mono ?_; rintro e w1 ⟨rfl, h1, g1⟩; have HT1 := Lib.hid (HT.out.step h1 g1); clear h1 g1)
      | (go_at_call 71; refine (go_blanks HT1.out.at_ HT1.out.Wlt).mono ?_; rintro e w2 ⟨rfl, h2, g2⟩; rw [HV.out] at h2; have HT2 := Lib.hid (HT1.out.step h2 g2); clear h2 g2)
      | (go_at_call 72; refine (attr_value HT2.out.at_ HT2.out.Wlt).mono ?_; rintro e w3 ⟨rfl, h3, g3⟩; have HT3 := Lib.hid (HT2.out.step h3 g3); clear h3 g3)
      | (go_at_call 16; refine (unescape_any ⟨(Fu.encB (rawVal V).1).toArray⟩ HSZ.out (HE.out _ HT3.out.gr)).mono ?_; rintro e w4 ⟨rfl, h4⟩; have HT4 := Lib.hid (HT3.out.grow h4); clear h4; have a1 : w4.cell? ⟨ba, 1, none⟩ = some (.string ⟨#[]⟩) := HT4.out.ab.cell 1; have f1 := HT4.out.ab.frozen 1))
    go_step3
    exact hJ' 4 (5 * (rawVal V).2.length + 4) _ _ (by omega) ⟨bt, ba, (frT_intro ..), (rawVal V).2, al, an, _, v, HT4.out.putv _, rfl, hal, HGN⟩
  · rintro n a W ⟨bt, ba, ⟨u, rfl⟩, R, al, an, av, v, ht, rfl, hal, hG⟩ J' hJ'
    have HT := Lib.hid ht
    obtain ⟨A, c, rfl, _, _⟩ := own_slice ht.ow
    have t3 : W.cell? ⟨bt, 3, none⟩ = some (.slice A al.length c) := ht.tg.cell 3
    have a0 : W.cell? ⟨ba, 0, none⟩ = some (.string ⟨an.toArray⟩) := ht.ab.cell 0
    have HH := Lib.hid (has_any A al.length c al rfl (by omega) an (ARow.of_own ht.ow rfl))
    by_cases h64 : al.length < 64
    · have i1 : (al.length : Int) < 64 := by omega
      rcases hh : al.any (fun b => b.1 == an) with _ | _
      · have hadd : add al (an, av) = al ++ [(an, av)] := by unfold add; rw [if_neg (by simp [hh]), if_neg (by omega)]
        rw [hadd] at hG
        rw [hh] at HH
        obtain ⟨i0, hi0, hz0, hs0, hb0⟩ := info_parts attrInfo
        have HI := Lib.hid hi0
        have HZ := Lib.hid hz0
        have HS := Lib.hid hs0
        have HBY := Lib.hid hb0
        have hnew : attrCells al ++ [str an, str av] = attrCells (al ++ [(an, av)]) := by rw [attrCells_append]; rfl
        clear ht hh hadd hi0 hz0 hs0 hb0
        go_wp2_with (first
          | (go_at_call 73; refine (HH.out).mono ?_; rintro e w1 ⟨rfl, h1⟩; have HT1 := Lib.hid (HT.out.grow h1); clear h1; have t3 : w1.cell? ⟨bt, 3, none⟩ = some (.slice A al.length c) := HT1.out.tg.cell 3; have a0 : w1.cell? ⟨ba, 0, none⟩ = some (.string ⟨an.toArray⟩) := HT1.out.ab.cell 0; have a1 : w1.cell? ⟨ba, 1, none⟩ = some (.string ⟨av.toArray⟩) := HT1.out.ab.cell 1)
          | (at_builtin; refine wpList_append_lies _ rfl (.tmp 65) (.tmp 67) 23 rfl w.heap.size 29 i0 _ 2 32 Tryd.underlying23 HI.out HZ.out HS.out HBY.out rfl (by omega) _ al.length (attrCells al) rfl (HT1.out.ow.alloc _) ⟨w1.heap.size, 0, none⟩ 1 1 [str an, str av] rfl rfl (World.news_of_block (Bk.new w1 29 #[str an, str av])) (by simp [str, Value.oneCell']) (by omega) (by simp [maxLen]; omega) (by omega) (by have := HT1.out.wlt; simp; omega) _ rfl ?_; intro g cap w2 ho hg hat hlt; rw [hnew] at ho; have HO := Lib.hid ho; have HGR := Lib.hid hg; have HAT := Lib.hid hat; have hbt := bk_below HT1.out.tg ((Below.refl _ w1).alloc (Nat.le_refl _) (.cells #[str an, str av] 29)); have hb2 := Bk.grown hbt hg (fun e => (own_ne HT1.out.ow HT1.out.tg (by decide)) e.symm); have t3 : w2.cell? ⟨bt, 3, none⟩ = some (.slice A al.length c) := hb2.cell 3; have f3 := hb2.frozen 3; clear ho hg hat hbt hb2))
        go_step3
        exact hJ' 0 (5 * R.length + 3) _ _ (by omega) ⟨bt, ba, false, (frT_intro ..), R, al ++ [(an, av)], an, av, _, HT1.out.app HO.out HGR.out HAT.out, rfl, by simp; omega, hG⟩
      · have hadd : add al (an, av) = al := by unfold add; rw [if_pos hh]
        rw [hadd] at hG
        rw [hh] at HH
        clear ht hh hadd
        go_wp2_with (go_at_call 73; refine (HH.out).mono ?_; rintro e w1 ⟨rfl, h1⟩; have HT1 := Lib.hid (HT.out.grow h1); clear h1)
        go_step3
        exact hJ' 0 (5 * R.length + 3) _ _ (by omega) ⟨bt, ba, false, (frT_intro ..), R, al, an, av, _, HT1.out, rfl, hal, hG⟩
    · have i1 : ¬ ((al.length : Int) < 64) := by omega
      have hadd : add al (an, av) = al := by
        unfold add
        split
        · rfl
        · rw [if_pos (by omega)]
      rw [hadd] at hG
      clear ht hadd
      go_wp2
      go_step3
      exact hJ' 0 (5 * R.length + 3) _ _ (by omega) ⟨bt, ba, false, (frT_intro ..), R, al, an, av, _, HT.out, rfl, hal, hG⟩
end Go.Proofs.YtnpoipjnnlbnfaaDoor
