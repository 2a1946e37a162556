/- Chapter 5's own tree, and that some of its runs hold: the statements' sample and known. No conditions. -/
import Derived.Test.YtofllmofdenadaaDo
import Derived.Test.YtofllmofdenadaaDs
namespace Go.Proofs.Ytofllmofdenadaa
set_option linter.unusedVariables false
open Go.RowKit Go.Proofs.Fm Go.Proofs.Fb Go.Proofs.Fd Go.Proofs.Fc

/-- div: text x, p -/
def smp : Pt := .mk [100, 105, 118] [] [] [.mk [] [120] [] [], .mk [112] [] [] []]
theorem smp_cnt : cnt smp = 3 := by decide +kernel
theorem smp_right : rightE (treeOf smp) = 0 := by decide +kernel
theorem smp_tree : treeOf smp = [⟨1, [100, 105, 118], [], [], -1, 1, 2, -1, -1⟩, ⟨2, [], [120], [], 0, -1, -1, -1, 2⟩, ⟨1, [112], [], [], 0, -1, -1, 1, -1⟩] := by rfl
def SampleOut (w : World) (e : Ending) (w' : World) : Prop := ∃ A c, e = .returned (.tuple #[.agg #[.slice A 3 c], .int .i64 0]) ∧ OTree w.heap.size w' A 3 c (treeOf smp) ∧ Below w.heap.size w w'
theorem sample_result {W : World} {b : Nat} {A : Option Addr} {n c : Nat} {E : Int} (h : W.cell? ⟨b, 0, none⟩ = some (.slice A n c)) (ts : Array Value) (ht : ts.getD 0 undef = .pointer (some ⟨b, 0, none⟩)) (h3 : ts.getD 1 undef = .int .i64 E) :
    (results Try.f11 ts).run Try.prog W = .ok (.tuple #[.agg #[.slice A n c], .int .i64 E]) W := by
  rw [results_cell_tmp Try.results11, ht, h3]
  simp [go_sem, h, Result.andThen]
theorem OTree.setCell {base n c b : Nat} {w : World} {A : Option Addr} {l : List Nd} (h : OTree base w A n c l) (hb : b < base) (u : Value) : OTree base (w.setCell ⟨b, 0, none⟩ u) A n c l := by
  obtain ⟨rs, h1, h2, h3⟩ := h
  exact ⟨rs, h1, ownsRow_setCell_below h2 (by show b < base; omega) _, fun q hq => ownsRow_setCell_below (h3 q hq) (by show b < base; omega) _⟩
theorem OTree.less {base base' n c : Nat} {w : World} {A : Option Addr} {l : List Nd} (h : OTree base w A n c l) (hb : base' ≤ base) : OTree base' w A n c l := by
  obtain ⟨rs, h1, h2, h3⟩ := h
  exact ⟨rs, h1, own_less h2 hb, fun q hq => own_less (h3 q hq) hb⟩
theorem OTree.below {base n c : Nat} {w w' : World} {A : Option Addr} {l : List Nd} (h : OTree base w A n c l) (hb : Below w.heap.size w w') : OTree base w' A n c l := by
  obtain ⟨rs, h1, h2, h3⟩ := h
  exact ⟨rs, h1, own_stays h2 hb, fun q hq => own_stays (h3 q hq) hb⟩
theorem OTree.row {base n c : Nat} {w : World} {A : Option Addr} {l : List Nd} (h : OTree base w A n c l) (ha : ∀ x ∈ l, x.attrs.length ≤ 4398046511104) : NRow w A l := by
  obtain ⟨rs, h1, h2, h3⟩ := h
  have := NRow.of_raw h2 (fun q hq => aval_own (h3 q hq) (ha q.1 (by rw [← h1]; exact List.mem_map.2 ⟨q, hq, rfl⟩)))
  rwa [h1] at this
set_option maxHeartbeats 2000000 in
theorem sample_any (w : World) : Calls Try.prog 11 #[] w (SampleOut w) := by
  obtain ⟨W, hW⟩ : ∃ W, (w.alloc (.cells #[.slice none 0 0] 24)).alloc (.cells #[str [], str [120], .slice none 0 0, .slice none 0 0, str [112], str [], .slice none 0 0, .slice none 0 0] 31) = W := ⟨_, rfl⟩
  have hb0 : Below w.heap.size w W := hW ▸ ((Below.refl _ w).alloc (Nat.le_refl _) _).alloc (by simp) _
  have hk : Bk W (w.heap.size + 1) 31 #[str [], str [120], .slice none 0 0, .slice none 0 0, str [112], str [], .slice none 0 0, .slice none 0 0] := hW ▸ (by simpa using Bk.new (w.alloc (.cells #[.slice none 0 0] 24)) 31 #[str [], str [120], .slice none 0 0, .slice none 0 0, str [112], str [], .slice none 0 0, .slice none 0 0])
  have ht : Bk W w.heap.size 24 #[.slice none 0 0] := hW ▸ (Bk.new w 24 _).alloc _
  have hkv : KVal W (.slice (some ⟨w.heap.size + 1, 0, none⟩) 2 2) [.mk [] [120] [] [], .mk [112] [] [] []] := by
    refine ⟨_, 2, rfl, by simp, by omega, (fun e => by cases e), .inr ⟨_, _, rfl, ?_⟩⟩
    rw [PCells_cons, PCells_cons]
    have kz : KVal W (.slice none 0 0) [] := ⟨none, 0, rfl, by simp, by omega, fun _ => rfl, .inl rfl⟩
    exact ⟨(PCell_eq _ _ _ _).2 ⟨hk.cell 0, hk.cell 1, ⟨_, hk.cell 2, AVal.nil W⟩, _, hk.cell 3, kz⟩, (PCell_eq _ _ _ _).2 ⟨hk.cell 4, hk.cell 5, ⟨_, hk.cell 6, AVal.nil W⟩, _, hk.cell 7, kz⟩, PCells_nil _ _ _⟩
  have HC := Lib.hid (make_any smp [100, 105, 118] [] [] [.mk [] [120] [] [], .mk [112] [] [] []] none (some ⟨w.heap.size + 1, 0, none⟩) 0 2 W rfl (AVal.nil W) hkv)
  have HC2 : Hid (Calls Try.prog 10 #[.agg #[str [100, 105, 118], str [], .slice none 0 0, .slice (some ⟨w.heap.size + 1, 0, none⟩) 2 2]] ((w.alloc (.cells #[.slice none 0 0] 24)).alloc (.cells #[str [], str [120], .slice none 0 0, .slice none 0 0, str [112], str [], .slice none 0 0, .slice none 0 0] 31)) (MakeOut smp W)) := by rw [hW]; exact HC
  dsimp only [str] at HC2
  have HB0 := Lib.hid hb0
  have HT := Lib.hid ht
  clear hb0 ht hk hkv HC
  clear hW
  go_enter Try.func11, Try.ntmps11
  go_wp2_with (go_at_call 10; refine (HC2.out).mono ?_; rintro e w3 ⟨hb3, (⟨hno, _⟩ | ⟨_, A, c, rfl, hot⟩)⟩; (exact absurd smp_right hno); rw [smp_cnt] at hot ⊢; have HOT := Lib.hid hot; have HB3 := Lib.hid (HB0.out.trans (hb3.mono HB0.out.size)); have x0 : w3.cell? ⟨w.heap.size, 0, none⟩ = some (.slice none 0 0) := (HT.out.below hb3 HT.out.lt).cell 0; have xf : w3.frozen? ⟨w.heap.size, 0, none⟩ = false := (HT.out.below hb3 HT.out.lt).frozen 0; have HLT := Lib.hid HT.out.lt; clear hot hb3)
  refine bodyPost_ret (v := .tuple #[.agg #[.slice A 3 c], .int .i64 0]) ?_ rfl ⟨A, c, rfl, ?_, ?_⟩
  · exact sample_result (by simp [World.cell?_setCell_same', x0]) _ rfl rfl
  · exact (HOT.out.setCell HLT.out _).less HB0.out.size
  · exact HB3.out.setCell (p := ⟨w.heap.size, 0, none⟩) (Nat.le_refl _) _
/-- what is known of the sample's nodes in memory -/
theorem smp_row {base c : Nat} {w : World} {A : Option Addr} (h : OTree base w A 3 c (treeOf smp)) : NRow w A (treeOf smp) := h.row (by rw [smp_tree]; intro x hx; rcases List.mem_cons.1 hx with rfl | hx; simp; rcases List.mem_cons.1 hx with rfl | hx; simp; rw [List.mem_singleton.1 hx]; simp)
theorem smp_depth : depthUp (par (treeOf smp)) 2 ((3 : Nat) : Int) = 2 := by decide +kernel
theorem smp_index : indexE (treeOf smp) 2 = 1 := by decide +kernel
set_option maxHeartbeats 4000000 in
theorem known_any (w : World) : Calls Try.prog 18 #[] w fun e w' => e = .returned (.bool true) ∧ Below w.heap.size w w' := by
  have HS := Lib.hid (sample_any w)
  go_enter Try.func18, Try.ntmps18
  go_upto_region 2 with (go_at_call 11; refine (HS.out).mono ?_; rintro e w1 ⟨A, c, rfl, hot, hb1⟩; have HOT := Lib.hid hot; have HB1 := Lib.hid hb1; clear hot hb1)
  have hrow := smp_row HOT.out
  have hb2 : Below w1.heap.size w1 (w1.alloc (.cells #[.slice A 3 c] 24)) := (Below.refl _ _).alloc (Nat.le_refl _) _
  refine wp_gen (fun W => Below w1.heap.size w1 W ∧ Bk W w1.heap.size 24 #[.slice A 3 c]) ⟨hb2, Bk.new w1 24 _⟩ ?_
  clear hb2
  rintro W ⟨hb2, hk⟩
  have hrw := hrow.below hb2 (Nat.le_refl _)
  have HRW := Lib.hid hrw
  have HR := Lib.hid (right_any A 3 c (treeOf smp) rfl (by omega) W hrw)
  rw [smp_right] at HR
  obtain ⟨b, off, rfl, hat⟩ := hrw (by rw [smp_tree]; simp)
  have h0 := hat 0 (by rw [smp_tree]; simp)
  have h2 := hat 2 (by rw [smp_tree]; simp)
  simp only [smp_tree, List.getElem_cons_zero, List.getElem_cons_succ] at h0 h2
  have z0 : W.cell? ⟨w1.heap.size, 0, none⟩ = some (.slice (some ⟨b, off, none⟩) 3 c) := hk.cell 0
  have HK := Lib.hid hk
  have HBW := Lib.hid (HB1.out.trans (hb2.mono HB1.out.size))
  have x5 := h0.c5
  have x6 := h0.c6
  have y7 := h2.c7
  have y4 := h2.c4
  simp only [Nat.zero_mul, Nat.add_zero] at x5 x6
  clear h0 h2 hat hk hb2 hrow HS hrw
  go_wp2_with (first
    | (go_at_call 14; refine (HR.out).mono ?_; rintro e w2 ⟨rfl, hb2⟩; have HB2 := Lib.hid (HBW.out.trans (hb2.mono HBW.out.size)); have HK2 := Lib.hid (HK.out.below hb2 HK.out.lt); have z2 : w2.cell? ⟨w1.heap.size, 0, none⟩ = some (.slice (some ⟨b, off, none⟩) 3 c) := HK2.out.cell 0; have HRW2 := Lib.hid (HRW.out.below hb2 (Nat.le_refl _)); have HD := Lib.hid (depth_any (some ⟨b, off, none⟩) 3 c (treeOf smp) rfl (by omega) 2 w2 HRW2.out); rw [smp_depth] at HD; clear hb2)
    | (go_at_call 16; refine (HD.out).mono ?_; rintro e w3 ⟨rfl, hb3⟩; have HB3 := Lib.hid (HB2.out.trans (hb3.mono HB2.out.size)); have HK3 := Lib.hid (HK2.out.below hb3 HK2.out.lt); have z3 : w3.cell? ⟨w1.heap.size, 0, none⟩ = some (.slice (some ⟨b, off, none⟩) 3 c) := HK3.out.cell 0; have HRW3 := Lib.hid (HRW2.out.below hb3 (Nat.le_refl _)); have HI := Lib.hid (indexN_any (some ⟨b, off, none⟩) 3 c (treeOf smp) rfl (by omega) 2 w3 HRW3.out); rw [smp_index] at HI; clear hb3)
    | (go_at_call 17; refine (HI.out).mono ?_; rintro e w4 ⟨rfl, hb4⟩; have HB4 := Lib.hid (HB3.out.trans (hb4.mono HB3.out.size)); clear hb4))
  go_ret
  exact ⟨rfl, HB4.out⟩
end Go.Proofs.Ytofllmofdenadaa
