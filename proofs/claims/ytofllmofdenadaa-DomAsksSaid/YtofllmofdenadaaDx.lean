/- The document's own answer on trees: casementref5's Right, the same as dom's. No conditions but that the list is not endless. -/
import Derived.Test.YtofllmofdenadaaDv
import Derived.Test.YtofllmofdenadaaDw
import Derived.Test.YtofllmofdenadaaDl
import Derived.Test.YtofllmofdenadaaDn
namespace Go.Proofs.Ytofllmofdenadaa
set_option linter.unusedVariables false
open Go.RowKit Go.Proofs.Fm Go.Proofs.Fb Go.Proofs.Fd Go.Proofs.Fc

theorem nxt_par (p : Nat → Int) (j : Nat) : ∀ k, 0 ≤ nxt p k j → p (nxt p k j).toNat = p j ∧ (j : Int) < nxt p k j
  | 0, h => by simp [nxt] at h
  | k + 1, h => by
    unfold nxt at h ⊢
    split
    · rename_i e; refine ⟨by simpa using e.2.2, by omega⟩
    · rename_i e; rw [if_neg e] at h; exact nxt_par p j k h
theorem said_of {l : List Nd} (h : ∀ hs : SaidF l, False) : saidB l = false := by
  rcases hb : saidB l with _ | _
  · rfl
  · exact (h (said_facts hb)).elim
theorem SaidF.root_links {l : List Nd} (h : SaidF l) : (l[0]'h.pos).kind = 1 ∧ (l[0]'h.pos).parent = -1 ∧ (l[0]'h.pos).prev = -1 ∧ (l[0]'h.pos).next = -1 := by
  have ho := (ordB_iff _ _).1 h.ord
  refine ⟨h.root _, by rw [← par_get h.pos]; exact ho.1, by rw [h.prev 0 h.pos]; rfl, ?_⟩
  rw [h.next 0 h.pos]
  have hb := nxt_bd (par l) 0 l.length
  by_cases c : 0 ≤ nxt (par l) l.length 0
  · obtain ⟨h1, h2⟩ := nxt_par (par l) 0 _ c
    have h3 := ord_lt h.ord (i := (nxt (par l) l.length 0).toNat) (by omega) (by omega)
    rw [ho.1] at h1
    omega
  · omega
theorem SaidF.plain {l : List Nd} (h : SaidF l) {i : Nat} (hi : i < l.length) : plainB (l[i]'hi) = true := by
  have hw := h.well i hi
  have h1 := h.first i hi
  have h2 := h.last i hi
  have h3 := fst_lst (par l) i l.length
  have h4 := fst_bd (par l) i l.length
  have h5 := lst_bd (par l) i l.length
  unfold wellB at hw
  unfold plainB
  by_cases k1 : (l[i]'hi).kind = 1
  · rw [if_pos k1] at hw ⊢; exact hw
  · rw [if_neg k1] at hw ⊢
    by_cases k2 : (l[i]'hi).kind = 2
    · rw [if_pos k2] at hw
      simp only [Bool.and_eq_true, decide_eq_true_eq] at hw ⊢
      obtain ⟨⟨⟨a, b⟩, c⟩, d⟩ := hw
      exact ⟨⟨⟨⟨⟨k2, b⟩, a⟩, c⟩, by omega⟩, by omega⟩
    · rw [if_neg k2] at hw; cases hw
theorem plain_well {x : Nd} (h : plainB x = true) : wellB x = true := by
  unfold plainB at h
  unfold wellB
  by_cases k1 : x.kind = 1
  · rw [if_pos k1] at h ⊢; exact h
  · rw [if_neg k1] at h ⊢
    simp only [Bool.and_eq_true, decide_eq_true_eq] at h
    obtain ⟨⟨⟨⟨⟨a, b⟩, c⟩, d⟩, e⟩, f⟩ := h
    rw [if_pos a]
    simp only [Bool.and_eq_true, decide_eq_true_eq]
    exact ⟨⟨⟨c, b⟩, d⟩, by omega⟩
theorem SaidF.parent_kind {l : List Nd} (h : SaidF l) {k P : Nat} (hk : k < l.length) (hP : par l k = (P : Int)) (hPl : P < l.length) : (l[P]'hPl).kind = 1 := by
  have hw := h.plain hPl
  unfold plainB at hw
  by_cases k1 : (l[P]'hPl).kind = 1
  · exact k1
  · rw [if_neg k1] at hw
    simp only [Bool.and_eq_true, decide_eq_true_eq] at hw
    have h1 := h.first P hPl
    have h2 : fst (par l) l.length P < 0 := by rw [← h1]; omega
    obtain ⟨e1, e2, e3⟩ := kids_links (par l) P l.length
    have hm : k ∈ kidsOf (par l) l.length P := kidsOf_mem hk hP
    have hpos : 0 < (kidsOf (par l) l.length P).length := List.length_pos_of_mem hm
    rw [e1, nth_in hpos] at h2
    omega
theorem said_all {l : List Nd} (h0 : 0 < l.length) (hk : (l[0]'h0).kind = 1) (ho : ordB (par l) l.length = true) (hp : ∀ i (h : i < l.length), plainB (l[i]'h) = true)
    (hl : ∀ i (h : i < l.length), (l[i]'h).first = fst (par l) l.length i ∧ (l[i]'h).last = lst (par l) l.length i ∧ (l[i]'h).prev = lst (par l) i (par l i) ∧ (l[i]'h).next = nxt (par l) l.length i) : saidB l = true := by
  cases l with
  | nil => simp at h0
  | cons x t =>
    show (decide (x.kind = 1) && ordB (par (x :: t)) (x :: t).length && eachB (x :: t)) = true
    have hx : x.kind = 1 := hk
    rw [decide_eq_true hx, ho, Bool.true_and, Bool.true_and]
    unfold eachB
    rw [List.all_eq_true]
    intro i hi
    have hi := List.mem_range.1 hi
    simp only [List.getElem?_eq_getElem hi]
    obtain ⟨a, b, c, d⟩ := hl i hi
    rw [plain_well (hp i hi), Bool.and_true]
    unfold linkB lkAt
    rw [a, b, c, d]; simp
/-- what the document's own answer has laid, when k nodes are looked at -/
structure RfSt (W1 : World) (l : List Nd) (n K : Nat) (g : Nat) (v : Value) (D : Int) (wr : World) : Prop where
  bl : Below g W1 wr
  wk : ∃ cs, Bk wr g 68 cs ∧ Wts (par l) n K cs
  ow : wr.ownsRow (g + 1) 3 1 v (rowL (par l) (K - 1)).length (ints (rowL (par l) (K - 1)))
  od : ordB (par l) K = true
  dp : 256 < D ↔ ∃ i, i < K ∧ 256 < (anc (par l) i).length
theorem RfSt.below {W1 : World} {l : List Nd} {n K g : Nat} {v : Value} {D : Int} {wr w2 : World} (h : RfSt W1 l n K g v D wr) (hb : Below wr.heap.size wr w2) : RfSt W1 l n K g v D w2 := by
  obtain ⟨cs, h1, h2⟩ := h.wk
  exact ⟨h.bl.trans (hb.mono (Nat.le_of_lt h1.lt)), ⟨cs, h1.below hb h1.lt, h2⟩, own_stays h.ow hb, h.od, h.dp⟩
theorem rowL_zero {p : Nat → Int} (h : p 0 = -1) : rowL p 0 = [0] := by unfold rowL; rw [anc_stop p 0 (by omega)]; rfl
theorem rf_start {W0 W1 : World} {l : List Nd} {n g : Nat} {cs1 : Array Value} (hp : par l 0 = -1) (hn : 0 < n) (hw1 : Below g W0 W1) (hs1 : W1.heap.size = g + 1) (hk1 : Bk W1 g 68 cs1) (hcs : cs1.size = n * 9) {W2 : World}
    (hW2 : W2 = (((((((((W1.setCell ⟨g, 0, none⟩ (.int .i64 0)).setCell ⟨g, 1, none⟩ (.string ⟨#[]⟩)).setCell ⟨g, 2, none⟩ (.string ⟨#[]⟩)).setCell ⟨g, 3, none⟩ (.slice none 0 0)).setCell ⟨g, 4, none⟩ (.int .i64 (-1))).setCell ⟨g, 5, none⟩ (.int .i64 (-1))).setCell ⟨g, 6, none⟩ (.int .i64 (-1))).setCell ⟨g, 7, none⟩ (.int .i64 (-1))).setCell ⟨g, 8, none⟩ (.int .i64 (-1))).alloc (.cells #[.int .i64 0] 3)) :
    RfSt W0 l n 1 g (.slice (some ⟨W1.heap.size, 0, none⟩) 1 1) 1 W2 := by
  subst hW2
  refine ⟨?_, ⟨cs9 cs1 0 (-1) (-1), ?_, Wts.first hcs hn hp⟩, ?_, (ordB_iff _ _).2 ⟨hp, fun i a b => by omega⟩, ?_⟩
  · refine Below.alloc ?_ (by simp [World.setCell]; omega) _
    exact ((((((((hw1.setCell (p := ⟨g, 0, none⟩) (Nat.le_refl _) _).setCell (p := ⟨g, 1, none⟩) (Nat.le_refl _) _).setCell (p := ⟨g, 2, none⟩) (Nat.le_refl _) _).setCell (p := ⟨g, 3, none⟩) (Nat.le_refl _) _).setCell (p := ⟨g, 4, none⟩) (Nat.le_refl _) _).setCell (p := ⟨g, 5, none⟩) (Nat.le_refl _) _).setCell (p := ⟨g, 6, none⟩) (Nat.le_refl _) _).setCell (p := ⟨g, 7, none⟩) (Nat.le_refl _) _).setCell (p := ⟨g, 8, none⟩) (Nat.le_refl _) _
  · have := (((((((((hk1.set_ 0 (.int .i64 0)).set_ 1 (.string ⟨#[]⟩)).set_ 2 (.string ⟨#[]⟩)).set_ 3 (.slice none 0 0)).set_ 4 (.int .i64 (-1))).set_ 5 (.int .i64 (-1))).set_ 6 (.int .i64 (-1))).set_ 7 (.int .i64 (-1))).set_ 8 (.int .i64 (-1))).alloc (.cells #[.int .i64 0] 3)
    unfold cs9
    simpa only [Nat.zero_mul, Nat.zero_add] using this
  · rw [Nat.sub_self, rowL_zero hp]
    have := World.ownsRow_lit (base := g + 1) (e := 3) (size := 1) (((((((((W1.setCell ⟨g, 0, none⟩ (.int .i64 0)).setCell ⟨g, 1, none⟩ (.string ⟨#[]⟩)).setCell ⟨g, 2, none⟩ (.string ⟨#[]⟩)).setCell ⟨g, 3, none⟩ (.slice none 0 0)).setCell ⟨g, 4, none⟩ (.int .i64 (-1))).setCell ⟨g, 5, none⟩ (.int .i64 (-1))).setCell ⟨g, 6, none⟩ (.int .i64 (-1))).setCell ⟨g, 7, none⟩ (.int .i64 (-1))).setCell ⟨g, 8, none⟩ (.int .i64 (-1))) #[.int .i64 0] 1 (by simp [World.setCell]; omega) (by unfold maxLen; omega) rfl
    simpa [World.setCell, ints] using this
  · constructor
    · intro h; omega
    · rintro ⟨i, hi, h⟩
      obtain rfl : i = 0 := by omega
      rw [← rowL_length, rowL_zero hp] at h; simp at h
/-- in the middle of a round: node K is put into the row -/
structure RfMid (W0 : World) (l : List Nd) (n K g q : Nat) (v : Value) (V : Int) (cs : Array Value) (W : World) : Prop where
  bl : Below g W0 W
  bk : Bk W g 68 cs
  ow : W.ownsRow (g + 1) 3 1 v (rowL (par l) K).length (ints (rowL (par l) K))
theorem rf_put {W0 W : World} {l : List Nd} {n K g q : Nat} {v : Value} {V : Int} {cs : Array Value} (h : RfMid W0 l n K g q v V cs W) :
    RfMid W0 l n K g q v V (cs9 cs K q V) ((((((((((W.setCell ⟨g, K * 9, none⟩ (.int .i64 0)).setCell ⟨g, K * 9 + 1, none⟩ (.string ⟨#[]⟩)).setCell ⟨g, K * 9 + 2, none⟩ (.string ⟨#[]⟩)).setCell ⟨g, K * 9 + 3, none⟩ (.slice none 0 0)).setCell ⟨g, K * 9 + 4, none⟩ (.int .i64 q)).setCell ⟨g, K * 9 + 5, none⟩ (.int .i64 (-1))).setCell ⟨g, K * 9 + 6, none⟩ (.int .i64 (-1))).setCell ⟨g, K * 9 + 7, none⟩ (.int .i64 V)).setCell ⟨g, K * 9 + 8, none⟩ (.int .i64 (-1)))) := by
  refine ⟨?_, ?_, ?_⟩
  · exact ((((((((h.bl.setCell (p := ⟨g, K * 9, none⟩) (Nat.le_refl _) _).setCell (p := ⟨g, K * 9 + 1, none⟩) (Nat.le_refl _) _).setCell (p := ⟨g, K * 9 + 2, none⟩) (Nat.le_refl _) _).setCell (p := ⟨g, K * 9 + 3, none⟩) (Nat.le_refl _) _).setCell (p := ⟨g, K * 9 + 4, none⟩) (Nat.le_refl _) _).setCell (p := ⟨g, K * 9 + 5, none⟩) (Nat.le_refl _) _).setCell (p := ⟨g, K * 9 + 6, none⟩) (Nat.le_refl _) _).setCell (p := ⟨g, K * 9 + 7, none⟩) (Nat.le_refl _) _).setCell (p := ⟨g, K * 9 + 8, none⟩) (Nat.le_refl _) _
  · exact (((((((((h.bk.set_ (K * 9) (.int .i64 0)).set_ (K * 9 + 1) (.string ⟨#[]⟩)).set_ (K * 9 + 2) (.string ⟨#[]⟩)).set_ (K * 9 + 3) (.slice none 0 0)).set_ (K * 9 + 4) (.int .i64 q)).set_ (K * 9 + 5) (.int .i64 (-1))).set_ (K * 9 + 6) (.int .i64 (-1))).set_ (K * 9 + 7) (.int .i64 V)).set_ (K * 9 + 8) (.int .i64 (-1)))
  · have e : ∀ {W : World} (o : Nat) (u : Value), W.ownsRow (g + 1) 3 1 v (rowL (par l) K).length (ints (rowL (par l) K)) → (W.setCell ⟨g, o, none⟩ u).ownsRow (g + 1) 3 1 v (rowL (par l) K).length (ints (rowL (par l) K)) := fun o u hh => ownsRow_setCell_below hh (by show g < g + 1; omega) u
    exact e _ _ (e _ _ (e _ _ (e _ _ (e _ _ (e _ _ (e _ _ (e _ _ (e _ _ h.ow))))))))
theorem rf_set {W0 W : World} {l : List Nd} {n K g q : Nat} {v : Value} {V : Int} {cs : Array Value} (h : RfMid W0 l n K g q v V cs W) (o : Nat) (u : Value) : RfMid W0 l n K g q v V (cs.setIfInBounds o u) (W.setCell ⟨g, o, none⟩ u) :=
  ⟨h.bl.setCell (p := ⟨g, o, none⟩) (Nat.le_refl _) _, h.bk.set_ o u, ownsRow_setCell_below h.ow (by show g < g + 1; omega) u⟩
theorem rf_end {W0 W : World} {l : List Nd} {n K g q : Nat} {v : Value} {V D D' : Int} {cs : Array Value} (h : RfMid W0 l n K g q v V cs W) (hw : Wts (par l) n (K + 1) cs) (ho : ordB (par l) (K + 1) = true)
    (hd : 256 < D ↔ ∃ i, i < K ∧ 256 < (anc (par l) i).length) (hD : (256 < D' ↔ 256 < D ∨ 256 < (anc (par l) K).length)) : RfSt W0 l n (K + 1) g v D' W := by
  refine ⟨h.bl, ⟨cs, h.bk, hw⟩, by rw [Nat.add_sub_cancel]; exact h.ow, ho, ?_⟩
  rw [hD, hd]
  constructor
  · rintro (⟨i, h1, h2⟩ | h2)
    · exact ⟨i, by omega, h2⟩
    · exact ⟨K, by omega, h2⟩
  · rintro ⟨i, h1, h2⟩
    by_cases e : i = K
    · subst e; exact .inr h2
    · exact .inl ⟨i, by omega, h2⟩
theorem ndZero : (Try.prog.info? 68).map (fun i => (i.zero, i.size, i.bytes)) = some (some (.agg #[.int .i64 0, .string ⟨#[]⟩, .string ⟨#[]⟩, .slice none 0 0, .int .i64 0, .int .i64 0, .int .i64 0, .int .i64 0, .int .i64 0]), 9, 104) := by kernel_rfl
set_option maxHeartbeats 8000000 in
set_option maxRecDepth 100000 in
theorem refRight_any (A : Option Addr) (n c : Nat) (l : List Nd) (hl : l.length = n) (hn : n ≤ 4398046511104) (w : World) (ha : NRow w A l) :
    Calls Try.prog 20 #[.agg #[.slice A n c]] w fun e w' => e = .returned (.int .i64 (rightE l)) ∧ Below w.heap.size w w' := by
  have hb0 : Below w.heap.size w (w.alloc (.cells #[.slice A n c] 24)) := (Below.refl _ _).alloc (Nat.le_refl _) _
  by_cases hz : n = 0
  · subst hz
    obtain rfl : l = [] := List.eq_nil_of_length_eq_zero hl
    go_enter Try.func20, Try.ntmps20
    go_wp2
    go_ret
    exact ⟨rfl, hb0⟩
  · have n0 : ((n : Int) == 0) = false := beq_eq_false_iff_ne.2 (by omega)
    by_cases hm : 4096 < n
    · have HF : Hid (rightE l = 4) := Lib.hid (by unfold rightE; rw [hl, if_pos hm])
      have i1 : (4096 : Int) < (n : Int) := by omega
      clear ha
      go_enter Try.func20, Try.ntmps20
      go_wp2
      go_ret
      exact ⟨by rw [HF.out]; rfl, hb0⟩
    · have i1 : ¬ ((4096 : Int) < (n : Int)) := by omega
      have hre : rightE l = if saidB l = false then 10 else if deepB l = true then 5 else 0 := by unfold rightE; rw [hl, if_neg hm]
      have hbad : saidB l = false → rightE l = 10 := fun h => by rw [hre, if_pos h]
      have HBAD := Lib.hid hbad
      have HRE := Lib.hid hre
      have h0l : 0 < l.length := by omega
      have HA := Lib.hid ha
      obtain ⟨b, off, rfl, hat⟩ := (ha.below hb0 (Nat.le_refl _)).at_ h0l
      obtain ⟨x, hx⟩ : ∃ x, (l[0]'h0l) = x := ⟨_, rfl⟩
      have hrt : SaidF l → x.kind = 1 ∧ x.parent = -1 ∧ x.prev = -1 ∧ x.next = -1 := fun hs => hx ▸ hs.root_links
      rw [hx] at hat
      have HX := Lib.hid hx
      have x0 := hat.c0
      have x4 := hat.c4
      have x7 := hat.c7
      have x8 := hat.c8
      simp only [Nat.zero_mul, Nat.add_zero] at x0 x4 x7 x8
      have i0 : (0 : Int) < (n : Int) := by omega
      have HRT := Lib.hid hrt
      have HB0 := Lib.hid hb0
      have hbl : b < w.heap.size + 1 := by have := World.block_lt_of_cell? _ _ x0; simpa using this
      clear hbad hre ha hat hx hrt hb0 hm
      by_cases hok : x.kind = 1 ∧ x.parent = -1 ∧ x.prev = -1 ∧ x.next = -1
      · obtain ⟨e1, e2, e3, e4⟩ := hok
        have HK1 := Lib.hid e1
        have HP1 := Lib.hid e2
        rw [e1] at x0; rw [e2] at x4; rw [e3] at x7; rw [e4] at x8
        clear e1 e2 e3 e4
        go_enter Try.func20, Try.ntmps20
        go_upto_region 8 with fail
        obtain ⟨i0', hi0, hz0, hz1, hz2⟩ := info_parts ndZero
        obtain ⟨i3', hi3, hy0, hy1, hy2⟩ := info_parts intInfo
        have HI3 := Lib.hid hi3
        have HY0 := Lib.hid hy0
        have HY1 := Lib.hid hy1
        have HY2 := Lib.hid hy2
        clear hi3 hy0 hy1 hy2
        refine wp_gen (fun W => Below w.heap.size w W) HB0.out ?_
        rintro W0 hw0
        have HW0 := Lib.hid hw0
        have hmk := run_make (P := Try.prog) W0 22 68 i0' _ Try.underlying22 hi0 hz0 .i64 .i64 n n (by omega) (by omega) (by rw [hz2]; omega) (by omega)
        rw [hz1, Int.toNat_natCast] at hmk
        clear hw0 hi0 hz0 hz1 hz2 x0 x4 x7 x8
        go_upto_region 9 with fail
        clear hmk
        obtain ⟨g, hg⟩ : ∃ g, W0.heap.size = g := ⟨_, rfl⟩
        refine wp_gen (fun W => Below g W0 W ∧ W.heap.size = g + 1 ∧ ∃ cs, Bk W g 68 cs ∧ cs.size = n * 9) ⟨hg ▸ (Below.refl _ _).alloc (Nat.le_refl _) _, by rw [← hg]; simp, _, hg ▸ Bk.new W0 68 _, size_madeCells _ _⟩ ?_
        rw [hg]
        rintro W1 ⟨hw1, hs1, cs1, hk1, hcs1⟩
        have HG := Lib.hid hg
        have HW1 := Lib.hid hw1
        have HK1' := Lib.hid hk1
        have hcell : ∀ j, j < 9 → ∃ u, W1.cell? ⟨g, j, none⟩ = some u := fun j hj => ⟨_, (hk1.cell j).trans (Array.getElem?_eq_getElem (by omega))⟩
        obtain ⟨u0, y0⟩ := hcell 0 (by omega)
        obtain ⟨u1, y1⟩ := hcell 1 (by omega)
        obtain ⟨u2, y2⟩ := hcell 2 (by omega)
        obtain ⟨u3, y3⟩ := hcell 3 (by omega)
        obtain ⟨u4, y4⟩ := hcell 4 (by omega)
        obtain ⟨u5, y5⟩ := hcell 5 (by omega)
        obtain ⟨u6, y6⟩ := hcell 6 (by omega)
        obtain ⟨u7, y7⟩ := hcell 7 (by omega)
        obtain ⟨u8, y8⟩ := hcell 8 (by omega)
        have hf : ∀ j, W1.frozen? ⟨g, j, none⟩ = false := hk1.frozen
        have HS1 := Lib.hid hs1
        have hgl : g < W1.heap.size := by omega
        clear hg hw1 hk1 hcell hs1
        go_upto_region 13 with fail
        have hpar0 : par l 0 = -1 := by rw [par_get h0l, HX.out]; exact HP1.out
        refine wp_gen (fun W2 => RfSt W0 l n 1 g (.slice (some ⟨W1.heap.size, 0, none⟩) 1 1) 1 W2) (rf_start hpar0 (by omega) HW1.out HS1.out HK1'.out hcs1 rfl) ?_
        clear y0 y1 y2 y3 y4 y5 y6 y7 y8 hf
        rintro W2 hst0
        have HST0 := Lib.hid hst0
        have hgw : W0.heap.size = g := HG.out
        have hwg : w.heap.size ≤ g := by have := HW0.out.size; omega
        have HPAR := Lib.hid hpar0
        clear hst0 hpar0 hgw
        go_loopg [5, 6, 7] n (fun gk d v i wr => ∃ (k K : Nat) (D : Int), k + gk = n ∧ i = .int .i64 (k : Int) ∧ d = .int .i64 D ∧ Hid ((k = 0 ∧ K = 1) ∨ (1 ≤ k ∧ K = k)) ∧ Hid (∀ j (h : j < l.length), j < k → plainB (l[j]'h) = true) ∧ Hid (RfSt W0 l n K g v D wr))
        case atStart => exact ⟨0, 1, 1, by omega, rfl, rfl, Lib.hid (.inl ⟨rfl, rfl⟩), Lib.hid (fun j h1 h2 => by omega), HST0⟩
        case round =>
          obtain ⟨k, K, D, hk, rfl, rfl, hkK, hpl, hst⟩ := hrel
          obtain ⟨gA, rfl⟩ : ∃ g, g = gk := ⟨gk, rfl⟩
          by_cases hlk : k < n
          · have hkl : k < l.length := by omega
            have i2 : (k : Int) < (n : Int) := by omega
            have HBW := Lib.hid (HW0.out.trans (hst.out.bl.mono hwg))
            obtain ⟨b', off', he, hat⟩ := (HA.out.below HBW.out (Nat.le_refl _)).at_ hkl
            obtain ⟨rfl, rfl⟩ : b' = b ∧ off' = off := by injection he with he; injection he with h1 h2; exact ⟨h1.symm, h2.symm⟩
            have hpg := par_get hkl
            obtain ⟨y, hy⟩ : ∃ y, (l[k]'hkl) = y := ⟨_, rfl⟩
            rw [hy] at hat hpg
            have HY := Lib.hid hy
            obtain ⟨va, hva, hav⟩ := hat.c3
            obtain ⟨A1, d1, rfl, -⟩ := hav.ex
            obtain ⟨c0, c1, c2, -, c4, c5, c6, c7, c8⟩ := hat
            have hbw : b' < wr.heap.size := World.block_lt_of_cell? _ _ c0
            have HPC := Lib.hid (refPlain_any y (.slice A1 y.attrs.length d1) wr hav)
            unfold ndCells at HPC
            dsimp only [str] at HPC c1 c2
            have HPG := Lib.hid hpg
            have C4 := Lib.hid c4
            clear hav hy hpg he
            rcases hpb : plainB y with _ | _
            · rw [hpb] at HPC
              have HF : Hid (rightE l = 10) := Lib.hid (HBAD.out (said_of (fun hs => by have := hs.plain hkl; rw [HY.out, hpb] at this; cases this)))
              clear hpb
              go_wp2_with (go_at_call 47; refine (HPC.out).mono ?_; rintro e w2 ⟨rfl, hb2⟩; have HB2 := Lib.hid (HBW.out.trans (hb2.mono HBW.out.size)); clear hb2)
              go_ret
              exact ⟨by rw [HF.out]; rfl, HB2.out⟩
            · rw [hpb] at HPC
              have HPB := Lib.hid hpb
              have HPL2 : Hid (∀ j (h : j < l.length), j < k + 1 → plainB (l[j]'h) = true) := Lib.hid (fun j h1 h2 => by
                by_cases e : j = k
                · subst e; rw [HY.out]; exact HPB.out
                · exact hpl.out j h1 (by omega))
              clear hpb
              by_cases hk0 : k = 0
              · have hK1 : K = 1 := by rcases hkK.out with h | h <;> omega
                subst hk0
                subst hK1
                simp only [Nat.zero_mul, Nat.add_zero] at c0 c1 c2 hva c4 c5 c6 c7 c8
                go_wp2_with (go_at_call 47; refine (HPC.out).mono ?_; rintro e w2 ⟨rfl, hb2⟩; have HS2 := Lib.hid (hst.out.below hb2); clear hb2)
                go_roundg (gA - 1)
                case measure => omega
                case rel => exact ⟨1, 1, D, by omega, by go_num, rfl, Lib.hid (.inr ⟨Nat.le_refl _, rfl⟩), HPL2, HS2⟩
              · have hK1 : K = k := by rcases hkK.out with h | h <;> omega
                subst hK1
                have hk0' : ((K : Int) == 0) = false := beq_eq_false_iff_ne.2 (by omega)
                go_upto_region 18 with (go_at_call 47; refine (HPC.out).mono ?_; rintro e w2 ⟨rfl, hb2⟩; have HS2 := Lib.hid (hst.out.below hb2); have HBW2 := Lib.hid (HBW.out.trans (hb2.mono HBW.out.size)); have c42 := (hb2.cell (p := ⟨b', off' + K * 9 + 4, none⟩) hbw).trans C4.out; clear hb2)
                clear c0 c1 c2 hva c4 c5 c6 c7 c8
                obtain ⟨PA, hPA⟩ : ∃ P, y.parent = P := ⟨_, rfl⟩
                rw [hPA] at c42 HPG
                obtain ⟨R, hR⟩ : ∃ R, rowL (par l) (K - 1) = R := ⟨_, rfl⟩
                have hRl : 0 < R.length := by rw [← hR]; exact rowL_pos _ _
                have hown := HS2.out.ow
                rw [hR] at hown
                obtain ⟨gr, cr, hvv, -⟩ := hown.form hRl
                subst hvv
                have hgr := hown.lt gr rfl
                have hRcap : R.length ≤ cr := by
                  rcases hown.2 with ⟨h, _⟩ | ⟨g', cap, cur, hv, _, _, h3, _⟩
                  · cases h
                  · injection hv with _ _ h5; omega
                have hRn : R.length ≤ K := by
                  rw [← hR, rowL_length]
                  have : ∀ q i : Nat, i ≤ q → (anc (par l) i).length ≤ i + 1 := by
                    intro q
                    induction q with
                    | zero =>
                      intro i hi
                      obtain rfl : i = 0 := by omega
                      rw [anc_stop (par l) 0 (by omega)]; simp
                    | succ q ih =>
                      intro i hi
                      by_cases c : 0 ≤ par l i ∧ par l i < (i : Int)
                      · rw [anc_step _ _ c.1 c.2, List.length_cons]
                        have := ih (par l i).toNat (by omega)
                        omega
                      · rw [anc_stop _ _ c]; simp
                  have := this (K - 1) (K - 1) (Nat.le_refl _)
                  omega
                have HOWN := Lib.hid hown
                have HR := Lib.hid hR
                clear hPA hR hown
                go_upto_region 19 with fail
                clear c42
                go_loopg [6] R.length (fun gi v wz => ∃ m : Nat, m ≤ gi ∧ m ≤ R.length ∧ v = .slice (some ⟨gr, 0, none⟩) m cr ∧ Hid (∀ j (h : j < R.length), m ≤ j → ((R[j]'h : Nat) : Int) ≠ PA) ∧ wz = w2)
                case atStart => exact ⟨R.length, Nat.le_refl _, Nat.le_refl _, rfl, Lib.hid (fun j h1 h2 => by omega), rfl⟩
                case round =>
                  obtain ⟨m, hm, hmR, rfl, hno, rfl⟩ := hrel
                  rcases m with _ | m
                  · have HF : Hid (rightE l = 10) := Lib.hid (HBAD.out (said_of (fun hs => by
                      have h1 := rowL_no (p := par l) (i := K - 1) (a := PA) (fun j hj => by
                        have hj' : j < R.length := by rw [← HR.out]; exact hj
                        have := hno.out j hj' (Nat.zero_le _)
                        simpa only [HR.out] using this)
                      have h2 := ((ordB_iff _ _).1 hs.ord).2 K (by omega) (by omega)
                      rw [HPG.out, h1] at h2
                      cases h2)))
                    go_wp2
                    go_ret
                    exact ⟨by rw [HF.out]; rfl, HBW2.out⟩
                  · have hmr : m < R.length := by omega
                    have hcm : wr.cell? ⟨gr, m, none⟩ = some (.int .i64 ((R[m]'hmr : Nat) : Int)) := by
                      have h1 := HOWN.out.cells (g := gr) rfl m (.int .i64 ((R[m]'hmr : Nat) : Int)) (by unfold ints; rw [List.getElem?_map, List.getElem?_eq_getElem hmr]; rfl)
                      rwa [addr_add] at h1
                    obtain ⟨q, hq⟩ : ∃ q, R[m]'hmr = q := ⟨_, rfl⟩
                    rw [hq] at hcm
                    have HQ := Lib.hid hq
                    clear hq
                    have j1 : (m : Int) ≤ (cr : Int) := by omega
                    by_cases hqa : (q : Int) = PA
                    · have hqb : ((q : Int) != PA) = false := by rw [hqa]; simp
                      subst hqa
                      have hmi : m < (rowL (par l) (K - 1)).length := by rw [HR.out]; exact hmr
                      have hqi : (rowL (par l) (K - 1))[m]'hmi = q := by have := HQ.out; simpa only [HR.out] using this
                      have hqK : q < K := by
                        have := anc_le (par l) _ _ (Nat.le_refl _) q (rowL_mem.1 (hqi ▸ List.getElem_mem hmi))
                        omega
                      have hord : ordB (par l) (K + 1) = true := ord_succ HS2.out.od (by omega) (by rw [HPG.out]; exact rowL_yes hmi (by rw [hqi]))
                      have hrow : R.take (m + 1) = rowL (par l) q := by rw [← HR.out]; exact rowL_take hmi hqi
                      have hrowK : rowL (par l) K = R.take (m + 1) ++ [K] := by rw [rowL_step (by rw [HPG.out]; omega) (by rw [HPG.out]; omega), HPG.out, Int.toNat_natCast, hrow]
                      have hlenK : (rowL (par l) K).length = m + 2 := by rw [hrowK, List.length_append, List.length_take]; simp; omega
                      have hancK : (anc (par l) K).length = m + 2 := by rw [← rowL_length]; exact hlenK
                      obtain ⟨b3, off3, he3, hat3⟩ := (HA.out.below HBW2.out (Nat.le_refl _)).at_ (i := q) (by omega)
                      obtain ⟨rfl, rfl⟩ : b3 = b' ∧ off3 = off' := by injection he3 with he3; injection he3 with h1 h2; exact ⟨h1.symm, h2.symm⟩
                      have k0 := hat3.c0
                      have hpk : SaidF l → (l[q]'(by omega)).kind = 1 := fun hs => hs.parent_kind hkl HPG.out (by omega)
                      obtain ⟨KD, hKD⟩ : ∃ k, (l[q]'(by omega)).kind = k := ⟨_, rfl⟩
                      rw [hKD] at k0 hpk
                      have i3 : (q : Int) < (n : Int) := by omega
                      have HPK := Lib.hid hpk
                      have HORD := Lib.hid hord
                      have HRK := Lib.hid hrowK
                      have HLK := Lib.hid hlenK
                      have HAK := Lib.hid hancK
                      clear hmi hqi hord hrow hrowK hlenK hancK he3 hat3 hpk hKD
                      by_cases hkd : KD = 1
                      · have hkd' : (KD != 1) = false := by rw [hkd]; rfl
                        subst hkd
                        have hzr : g + 1 ≤ wr.heap.size := by have := HS2.out.wk; obtain ⟨cs, h1, _⟩ := this; have := h1.lt; omega
                        have HOT := Lib.hid (own_take HOWN.out (show m + 1 ≤ R.length by omega))
                        go_upto_region 24 with (at_builtin; refine wpList_append_elt rfl (.tmp 99) (.tmp 101) 39 rfl (g + 1) 3 i3' _ 1 8 Try.underlying39 HI3.out HY0.out HY1.out HY2.out rfl (by omega) (.slice (some ⟨gr, 0, none⟩) (m + 1) cr) (m + 1) ((ints R).take (m + 1)) rfl HOT.out [.int .i64 (K : Int)] rfl rfl (by simp [Value.oneCell']) (by unfold maxLen; omega) (by omega) hzr ?_; intro g3 cap3 w3 ho3 hg3 hat3 hlt3 hb3; have HO3 := Lib.hid ho3; have HB3 := Lib.hid hb3; clear ho3 hg3 hat3 hb3)
                        have hmid : RfMid W0 l n K g q (.slice (some ⟨g3, 0, none⟩) (m + 1 + 1) cap3) 0 (Classical.choose HS2.out.wk) w3 := by
                          have hsp := Classical.choose_spec HS2.out.wk
                          refine ⟨HS2.out.bl.trans (HB3.out.mono (by omega)), hsp.1.below HB3.out (by omega), ?_⟩
                          have h1 := HO3.out
                          have h2 : (ints R).take (m + 1) ++ [Value.int .i64 (K : Int)] = ints (rowL (par l) K) := by
                            rw [HRK.out]; unfold ints; rw [List.map_append, List.map_take]; rfl
                          rw [h2] at h1
                          rw [HLK.out]
                          exact h1
                        have hwts := (Classical.choose_spec HS2.out.wk).2
                        obtain ⟨cs, hcs⟩ : ∃ cs, Classical.choose HS2.out.wk = cs := ⟨_, rfl⟩
                        rw [hcs] at hmid hwts
                        obtain ⟨V, hV⟩ : ∃ V, lst (par l) K (par l K) = V := ⟨_, rfl⟩
                        have hVb := lst_bd (par l) (par l K) K
                        have hwn := Wts.next hwts hlk (by omega) HORD.out HPG.out hqK V hV.symm
                        have hq6 := (hwts.2 q hqK).2.1
                        rw [← HPG.out, hV] at hq6
                        rw [hV] at hVb
                        have hmid : RfMid W0 l n K g q (.slice (some ⟨g3, 0, none⟩) (m + 1 + 1) cap3) V cs w3 := ⟨hmid.bl, hmid.bk, hmid.ow⟩
                        have HM3 := Lib.hid hmid
                        have hcl3 : ∀ j, j < 9 → ∃ u, w3.cell? ⟨g, K * 9 + j, none⟩ = some u := fun j hj => ⟨_, (hmid.bk.cell _).trans (Array.getElem?_eq_getElem (by rw [hwts.1]; omega))⟩
                        have v6 : w3.cell? ⟨g, q * 9 + 6, none⟩ = some (.int .i64 V) := (hmid.bk.cell _).trans hq6
                        obtain ⟨t0, s0⟩ := hcl3 0 (by omega)
                        obtain ⟨t1, s1⟩ := hcl3 1 (by omega)
                        obtain ⟨t2, s2⟩ := hcl3 2 (by omega)
                        obtain ⟨t3, s3⟩ := hcl3 3 (by omega)
                        obtain ⟨t4, s4⟩ := hcl3 4 (by omega)
                        obtain ⟨t5, s5⟩ := hcl3 5 (by omega)
                        obtain ⟨t6, s6⟩ := hcl3 6 (by omega)
                        obtain ⟨t7, s7⟩ := hcl3 7 (by omega)
                        obtain ⟨t8, s8⟩ := hcl3 8 (by omega)
                        rw [Nat.add_zero] at s0
                        have hf3 : ∀ j, w3.frozen? ⟨g, j, none⟩ = false := hmid.bk.frozen
                        have HQ6 := Lib.hid hq6
                        have HCZ := Lib.hid hwts.1
                        have HWN0 := Lib.hid hwn
                        have HVB := Lib.hid hVb
                        clear hmid hwts hcs hV hwn hcl3 k0 hcm hq6 hVb
                        by_cases hdp : D < (m : Int) + 1 + 1
                        · go_upto_region 27 with fail
                          refine wp_gen (fun W4 => RfMid W0 l n K g q (.slice (some ⟨g3, 0, none⟩) (m + 1 + 1) cap3) V (cs9 cs K q V) W4) (rf_put HM3.out) ?_
                          clear s0 s1 s2 s3 s4 s5 s6 s7 s8 v6 hf3
                          rintro W4 hm4
                          have f6 : W4.cell? ⟨g, q * 9 + 6, none⟩ = some (.int .i64 V) := (hm4.bk.cell _).trans ((cs9_ne (by omega) (by omega)).trans HQ6.out)
                          have hcl : ∀ i, i < n → ∀ j, j < 9 → ∃ u, W4.cell? ⟨g, i * 9 + j, none⟩ = some u := fun i hi j hj => ⟨_, (hm4.bk.cell _).trans (Array.getElem?_eq_getElem (by rw [cs9_size, HCZ.out]; omega))⟩
                          have hf4 : ∀ j, W4.frozen? ⟨g, j, none⟩ = false := hm4.bk.frozen
                          have HM4 := Lib.hid hm4
                          obtain ⟨a5, h5⟩ := hcl q (by omega) 5 (by omega)
                          clear hm4
                          by_cases hV : V < 0
                          · have hV' : ¬ (0 ≤ V) := by omega
                            have HWN := Lib.hid (HWN0.out.1 hV)
                            clear hcl
                            go_wp2
                            go_roundg (gA - 1)
                            case measure => omega
                            case rel =>
                              refine ⟨K + 1, K + 1, (m : Int) + 1 + 1, by omega, by go_num, rfl, Lib.hid (.inr ⟨by omega, rfl⟩), HPL2, Lib.hid ?_⟩
                              exact rf_end (rf_set (rf_set HM4.out (q * 9 + 5) (.int .i64 K)) (q * 9 + 6) (.int .i64 K)) HWN.out HORD.out HS2.out.dp (by rw [HAK.out]; omega)
                          · obtain ⟨u, rfl⟩ := Int.eq_ofNat_of_zero_le (by omega : 0 ≤ V)
                            have huK : u < K := by have := HVB.out.2; omega
                            have HWN := Lib.hid (HWN0.out.2 u rfl huK)
                            obtain ⟨a8, h8⟩ := hcl u (by omega) 8 (by omega)
                            have j2 : (u : Int) < (n : Int) := by omega
                            clear hcl
                            go_wp2
                            go_roundg (gA - 1)
                            case measure => omega
                            case rel =>
                              refine ⟨K + 1, K + 1, (m : Int) + 1 + 1, by omega, by go_num, rfl, Lib.hid (.inr ⟨by omega, rfl⟩), HPL2, Lib.hid ?_⟩
                              exact rf_end (rf_set (rf_set HM4.out (u * 9 + 8) (.int .i64 K)) (q * 9 + 6) (.int .i64 K)) HWN.out HORD.out HS2.out.dp (by rw [HAK.out]; omega)
                        · go_upto_region 27 with fail
                          refine wp_gen (fun W4 => RfMid W0 l n K g q (.slice (some ⟨g3, 0, none⟩) (m + 1 + 1) cap3) V (cs9 cs K q V) W4) (rf_put HM3.out) ?_
                          clear s0 s1 s2 s3 s4 s5 s6 s7 s8 v6 hf3
                          rintro W4 hm4
                          have f6 : W4.cell? ⟨g, q * 9 + 6, none⟩ = some (.int .i64 V) := (hm4.bk.cell _).trans ((cs9_ne (by omega) (by omega)).trans HQ6.out)
                          have hcl : ∀ i, i < n → ∀ j, j < 9 → ∃ u, W4.cell? ⟨g, i * 9 + j, none⟩ = some u := fun i hi j hj => ⟨_, (hm4.bk.cell _).trans (Array.getElem?_eq_getElem (by rw [cs9_size, HCZ.out]; omega))⟩
                          have hf4 : ∀ j, W4.frozen? ⟨g, j, none⟩ = false := hm4.bk.frozen
                          have HM4 := Lib.hid hm4
                          obtain ⟨a5, h5⟩ := hcl q (by omega) 5 (by omega)
                          clear hm4
                          by_cases hV : V < 0
                          · have hV' : ¬ (0 ≤ V) := by omega
                            have HWN := Lib.hid (HWN0.out.1 hV)
                            clear hcl
                            go_wp2
                            go_roundg (gA - 1)
                            case measure => omega
                            case rel =>
                              refine ⟨K + 1, K + 1, D, by omega, by go_num, rfl, Lib.hid (.inr ⟨by omega, rfl⟩), HPL2, Lib.hid ?_⟩
                              exact rf_end (rf_set (rf_set HM4.out (q * 9 + 5) (.int .i64 K)) (q * 9 + 6) (.int .i64 K)) HWN.out HORD.out HS2.out.dp (by rw [HAK.out]; omega)
                          · obtain ⟨u, rfl⟩ := Int.eq_ofNat_of_zero_le (by omega : 0 ≤ V)
                            have huK : u < K := by have := HVB.out.2; omega
                            have HWN := Lib.hid (HWN0.out.2 u rfl huK)
                            obtain ⟨a8, h8⟩ := hcl u (by omega) 8 (by omega)
                            have j2 : (u : Int) < (n : Int) := by omega
                            clear hcl
                            go_wp2
                            go_roundg (gA - 1)
                            case measure => omega
                            case rel =>
                              refine ⟨K + 1, K + 1, D, by omega, by go_num, rfl, Lib.hid (.inr ⟨by omega, rfl⟩), HPL2, Lib.hid ?_⟩
                              exact rf_end (rf_set (rf_set HM4.out (u * 9 + 8) (.int .i64 K)) (q * 9 + 6) (.int .i64 K)) HWN.out HORD.out HS2.out.dp (by rw [HAK.out]; omega)
                      · have hkd' : (KD != 1) = true := by rw [bne_iff_ne]; exact hkd
                        have HF : Hid (rightE l = 10) := Lib.hid (HBAD.out (said_of (fun hs => hkd (HPK.out hs))))
                        go_wp2
                        go_ret
                        exact ⟨by rw [HF.out]; rfl, HBW2.out⟩
                    · have hqb : ((q : Int) != PA) = true := by rw [bne_iff_ne]; exact hqa
                      go_wp2
                      go_roundg m
                      case measure => omega
                      case rel => exact ⟨m, Nat.le_refl _, by omega, rfl, Lib.hid (fun j h1 h2 => by
                        by_cases e : j = m
                        · subst e; rw [HQ.out]; exact hqa
                        · exact hno.out j h1 (by omega)), rfl⟩
          · have hkn : k = n := by omega
            have hKn : K = n := by rcases hkK.out with h | h <;> omega
            subst hKn
            have HPL : Hid (∀ j (h : j < l.length), plainB (l[j]'h) = true) := Lib.hid (fun j h => hpl.out j h (by omega))
            have HORD : Hid (ordB (par l) l.length = true) := Lib.hid (by rw [hl]; exact hst.out.od)
            obtain ⟨cs, hcb, hwt⟩ := hst.out.wk
            have HCB := Lib.hid hcb
            have HWT := Lib.hid hwt
            have HBW := Lib.hid (HW0.out.trans (hst.out.bl.mono hwg))
            have HROW := Lib.hid (HA.out.below HBW.out (Nat.le_refl _))
            have HDP := Lib.hid hst.out.dp
            have hgr : g < wr.heap.size := hcb.lt
            have hki : ¬ ((k : Int) < (K : Int)) := by omega
            clear hcb hwt
            go_upto_region 32 with fail
            obtain ⟨wX, rfl⟩ : ∃ x, x = wr := ⟨wr, rfl⟩
            go_loopg [9] K (fun gi i wz => ∃ j q : Nat, j + gi = K ∧ i = .int .i64 (j : Int) ∧ wz = wX.drewN q ∧ Hid (∀ i (h : i < l.length), i < j → (l[i]'h).first = fst (par l) l.length i ∧ (l[i]'h).last = lst (par l) l.length i ∧ (l[i]'h).prev = lst (par l) i (par l i) ∧ (l[i]'h).next = nxt (par l) l.length i))
            case atStart => exact ⟨0, 0, by omega, rfl, rfl, Lib.hid (fun i h1 h2 => by omega)⟩
            case round =>
              obtain ⟨j, q, hj, rfl, rfl, hlk⟩ := hrel
              by_cases hjn : j < K
              · have hjl : j < l.length := by omega
                have i2 : (j : Int) < (K : Int) := by omega
                obtain ⟨b', off', he, hat⟩ := HROW.out.at_ hjl
                obtain ⟨rfl, rfl⟩ : b' = b ∧ off' = off := by injection he with he; injection he with h1 h2; exact ⟨h1.symm, h2.symm⟩
                obtain ⟨w5, w6, w7, w8⟩ := HWT.out.2 j hjn
                have y5 : wX.cell? ⟨g, j * 9 + 5, none⟩ = some (.int .i64 (fst (par l) K j)) := (HCB.out.cell _).trans w5
                have y6 : wX.cell? ⟨g, j * 9 + 6, none⟩ = some (.int .i64 (lst (par l) K j)) := (HCB.out.cell _).trans w6
                have y7 : wX.cell? ⟨g, j * 9 + 7, none⟩ = some (.int .i64 (lst (par l) j (par l j))) := (HCB.out.cell _).trans w7
                have y8 : wX.cell? ⟨g, j * 9 + 8, none⟩ = some (.int .i64 (nxt (par l) K j)) := (HCB.out.cell _).trans w8
                have x5 := hat.c5
                have x6 := hat.c6
                have x7 := hat.c7
                have x8 := hat.c8
                have hlinks : SaidF l → (l[j]'hjl).first = fst (par l) K j ∧ (l[j]'hjl).last = lst (par l) K j ∧ (l[j]'hjl).prev = lst (par l) j (par l j) ∧ (l[j]'hjl).next = nxt (par l) K j := fun hs => by rw [← hl]; exact ⟨hs.first j hjl, hs.last j hjl, hs.prev j hjl, hs.next j hjl⟩
                have hgood : (l[j]'hjl).first = fst (par l) K j → (l[j]'hjl).last = lst (par l) K j → (l[j]'hjl).prev = lst (par l) j (par l j) → (l[j]'hjl).next = nxt (par l) K j → ∀ i (h : i < l.length), i < j + 1 → (l[i]'h).first = fst (par l) l.length i ∧ (l[i]'h).last = lst (par l) l.length i ∧ (l[i]'h).prev = lst (par l) i (par l i) ∧ (l[i]'h).next = nxt (par l) l.length i := fun e1 e2 e3 e4 i h1 h2 => by
                  by_cases e : i = j
                  · subst e; rw [hl]; exact ⟨e1, e2, e3, e4⟩
                  · exact hlk.out i h1 (by omega)
                obtain ⟨F, hF⟩ : ∃ F, fst (par l) K j = F := ⟨_, rfl⟩
                obtain ⟨L, hL⟩ : ∃ F, lst (par l) K j = F := ⟨_, rfl⟩
                obtain ⟨P, hP⟩ : ∃ F, lst (par l) j (par l j) = F := ⟨_, rfl⟩
                obtain ⟨X, hX⟩ : ∃ F, nxt (par l) K j = F := ⟨_, rfl⟩
                rw [hF] at y5 hlinks hgood; rw [hL] at y6 hlinks hgood; rw [hP] at y7 hlinks hgood; rw [hX] at y8 hlinks hgood
                obtain ⟨F', hF'⟩ : ∃ F, (l[j]'hjl).first = F := ⟨_, rfl⟩
                obtain ⟨L', hL'⟩ : ∃ F, (l[j]'hjl).last = F := ⟨_, rfl⟩
                obtain ⟨P', hP'⟩ : ∃ F, (l[j]'hjl).prev = F := ⟨_, rfl⟩
                obtain ⟨X', hX'⟩ : ∃ F, (l[j]'hjl).next = F := ⟨_, rfl⟩
                rw [hF'] at x5 hlinks hgood; rw [hL'] at x6 hlinks hgood; rw [hP'] at x7 hlinks hgood; rw [hX'] at x8 hlinks hgood
                have HLI := Lib.hid hlinks
                have HGO := Lib.hid hgood
                clear hF hL hP hX hF' hL' hP' hX' hlinks hgood hat he w5 w6 w7 w8
                have hcase : (F' ≠ F ∨ (F' = F ∧ L' ≠ L) ∨ (F' = F ∧ L' = L ∧ P' ≠ P) ∨ (F' = F ∧ L' = L ∧ P' = P ∧ X' ≠ X)) ∨ (F' = F ∧ L' = L ∧ P' = P ∧ X' = X) := by
                  by_cases a1 : F' = F <;> by_cases a2 : L' = L <;> by_cases a3 : P' = P <;> by_cases a4 : X' = X <;> simp [a1, a2, a3, a4]
                rcases hcase with hbadl | ⟨rfl, rfl, rfl, rfl⟩
                · have HF : Hid (rightE l = 10) := Lib.hid (HBAD.out (said_of (fun hs => by
                    obtain ⟨e1, e2, e3, e4⟩ := HLI.out hs
                    rcases hbadl with h | ⟨_, h⟩ | ⟨_, _, h⟩ | ⟨_, _, _, h⟩
                    · exact h e1
                    · exact h e2
                    · exact h e3
                    · exact h e4)))
                  rcases hbadl with g1 | ⟨rfl, g1⟩ | ⟨rfl, rfl, g1⟩ | ⟨rfl, rfl, rfl, g1⟩
                  all_goals
                    have g2 := bne_iff_ne.2 g1
                    clear g1
                    go_wp2
                    go_quiet (fail)
                    go_wp2
                    go_ret
                    exact ⟨by rw [HF.out]; rfl, below_drewN (below_drewN HBW.out q) nq⟩
                · have HGN := Lib.hid (HGO.out rfl rfl rfl rfl)
                  go_wp2
                  go_quiet (fail)
                  go_wp2
                  go_roundg (gk - 1)
                  case measure => omega
                  case rel => exact ⟨j + 1, q + nq, by omega, by go_num, rfl, HGN⟩
              · have hjn2 : j = K := by omega
                have hsaid : saidB l = true := said_all h0l (by rw [HX.out]; exact HK1.out) HORD.out HPL.out (fun i h => hlk.out i h (by omega))
                have hdeep : 256 < D ↔ deepB l = true := by
                  rw [HDP.out]
                  unfold deepB
                  rw [List.any_eq_true]
                  constructor
                  · rintro ⟨i, h1, h2⟩; exact ⟨i, List.mem_range.2 (by omega), decide_eq_true h2⟩
                  · rintro ⟨i, h1, h2⟩; exact ⟨i, by have := List.mem_range.1 h1; omega, of_decide_eq_true h2⟩
                have hjn3 : ¬ ((j : Int) < (K : Int)) := by omega
                by_cases hD : 256 < D
                · have HF : Hid (rightE l = 5) := Lib.hid (by rw [HRE.out, if_neg (by rw [hsaid]; decide), if_pos (hdeep.1 hD)])
                  clear hsaid hdeep
                  go_wp2
                  go_ret
                  exact ⟨by rw [HF.out]; rfl, below_drewN HBW.out q⟩
                · have HF : Hid (rightE l = 0) := Lib.hid (by rw [HRE.out, if_neg (by rw [hsaid]; decide), if_neg (fun h => hD (hdeep.2 h))])
                  clear hsaid hdeep
                  go_wp2
                  go_ret
                  exact ⟨by rw [HF.out]; rfl, below_drewN HBW.out q⟩
      · have HF : Hid (rightE l = 10) := Lib.hid (HBAD.out (said_of (fun hs => hok (HRT.out hs))))
        have hcase : x.kind ≠ 1 ∨ (x.kind = 1 ∧ x.parent ≠ -1) ∨ (x.kind = 1 ∧ x.parent = -1 ∧ x.prev ≠ -1) ∨ (x.kind = 1 ∧ x.parent = -1 ∧ x.prev = -1 ∧ x.next ≠ -1) := by
          by_cases a1 : x.kind = 1 <;> by_cases a2 : x.parent = -1 <;> by_cases a3 : x.prev = -1 <;> by_cases a4 : x.next = -1 <;> simp [a1, a2, a3, a4] <;> exact absurd ⟨a1, a2, a3, a4⟩ hok
        clear hok HRT
        obtain ⟨K, hK⟩ : ∃ k, x.kind = k := ⟨_, rfl⟩
        obtain ⟨PA, hPA⟩ : ∃ k, x.parent = k := ⟨_, rfl⟩
        obtain ⟨PR, hPR⟩ : ∃ k, x.prev = k := ⟨_, rfl⟩
        obtain ⟨NX, hNX⟩ : ∃ k, x.next = k := ⟨_, rfl⟩
        rw [hK] at x0 hcase; rw [hPA] at x4 hcase; rw [hPR] at x7 hcase; rw [hNX] at x8 hcase
        clear hK hPA hPR hNX
        rcases hcase with g1 | ⟨rfl, g1⟩ | ⟨rfl, rfl, g1⟩ | ⟨rfl, rfl, rfl, g1⟩
        all_goals
          have g2 := bne_iff_ne.2 g1
          clear g1
          go_enter Try.func20, Try.ntmps20
          go_wp2
          go_ret
          exact ⟨by rw [HF.out]; rfl, HB0.out⟩
end Go.Proofs.Ytofllmofdenadaa
