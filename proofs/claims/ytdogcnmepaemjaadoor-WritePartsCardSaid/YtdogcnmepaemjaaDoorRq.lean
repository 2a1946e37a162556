/- Some of chapter 7's runs: the law's 'known' walked. Conditions: what the world holds of the library's tables. -/
import Derived.Test.YtdogcnmepaemjaaDoorRp
namespace Go.Proofs.YtdogcnmepaemjaaDoor
set_option linter.unusedVariables false
open Go.RowKit Go.Proofs.Fm Go.Proofs.Fb Go.Proofs.Fu Go.Proofs.Fr Go.Proofs.Fd Go.Proofs.Fc

/-- at block b lies a variable that holds the tree of p -/
def TAt (W : World) (b : Nat) (p : Pt) : Prop := ∃ A c, Bk W b 24 #[.slice A (cnt p) c] ∧ NRow W A (treeOf p)
theorem TAt.below {W W' : World} {b : Nat} {p : Pt} (h : TAt W b p) (hb : Below W.heap.size W W') : TAt W' b p := by
  obtain ⟨A, c, h1, h2⟩ := h
  exact ⟨A, c, h1.below hb h1.lt, h2.below hb (Nat.le_refl _)⟩
theorem kval_nil (W : World) : KVal W (.slice none 0 0) [] := ⟨none, 0, rfl, Nat.le_refl _, by omega, fun _ => rfl, .inl rfl⟩
theorem kval_one (W : World) (nm tx : Str) (va : Value) (al : List Att) (K : Option Addr) (m d : Nat) (ks : List Pt) (ha : AVal W va al) (hk : KVal W (.slice K m d) ks) : KVal (W.alloc (.cells #[str nm, str tx, va, .slice K m d] 31)) (.slice (some ⟨W.heap.size, 0, none⟩) 1 1) [.mk nm tx al ks] := by
  have hbk := Bk.new W 31 #[str nm, str tx, va, .slice K m d]
  refine ⟨_, 1, rfl, Nat.le_refl _, by omega, (fun e => by cases e), .inr ⟨_, _, rfl, ?_⟩⟩
  rw [PCells_cons]
  exact ⟨(PCell_eq _ _ _ _).2 ⟨hbk.cell 0, hbk.cell 1, ⟨_, hbk.cell 2, ha.below ((Below.refl _ W).alloc (Nat.le_refl _) _) (Nat.le_refl _)⟩, _, hbk.cell 3, hk.below ((Below.refl _ W).alloc (Nat.le_refl _) _) (Nat.le_refl _)⟩, PCells_nil _ _ _⟩
theorem aval_one (W : World) (n v : Str) : AVal (W.alloc (.cells #[str n, str v] 70)) (.slice (some ⟨W.heap.size, 0, none⟩) 1 1) [(n, v)] := by
  have hbk := Bk.new W 70 #[str n, str v]
  refine ⟨_, 1, rfl, fun _ => ⟨_, 0, rfl, fun i hi => ?_⟩, Nat.le_refl _, by simp, fun e => by cases e⟩
  obtain rfl : i = 0 := by simpa using hi
  exact ⟨hbk.cell 0, hbk.cell 1⟩
/-- a tree that is made -/
def MadeT (p : Pt) (w : World) (e : Ending) (w' : World) : Prop := ∃ A c, e = .returned (.tuple #[.agg #[.slice A (cnt p) c], .int .i64 0]) ∧ NRow w' A (treeOf p) ∧ Below w.heap.size w w'
theorem made_any (p : Pt) (nm tx : Str) (al : List Att) (ks : List Pt) (A K : Option Addr) (c d : Nat) (w : World) (hp : p = .mk nm tx al ks) (hr : rightE (treeOf p) = 0) (ha : AVal w (.slice A al.length c) al) (hk : KVal w (.slice K ks.length d) ks) :
    Calls Tryd.prog 6 #[.agg #[str nm, str tx, .slice A al.length c, .slice K ks.length d]] w (MadeT p w) := by
  refine (make_any p nm tx al ks A K c d w hp ha hk).mono ?_
  rintro e w' ⟨hb, h | ⟨_, A', c', rfl, ho⟩⟩
  · exact absurd hr h.1
  · refine ⟨A', c', rfl, ho.row (fun x hx => ?_), hb⟩
    have := (right_said hr).1
    obtain ⟨i, hi, rfl⟩ := List.mem_iff_getElem.1 hx
    have hw := this.well i hi
    unfold wellB at hw
    split at hw
    · simp only [Bool.and_eq_true] at hw
      have h64 := hw.2
      unfold attrsB at h64
      simp only [Bool.and_eq_true, decide_eq_true_eq] at h64
      omega
    · split at hw
      · simp only [Bool.and_eq_true, decide_eq_true_eq] at hw
        omega
      · cases hw
theorem al_size (w : World) (o : Obj) : (w.alloc o).heap.size = w.heap.size + 1 := by simp
/-- what is asked of a tree that lies in a variable -/
theorem ask_canon {p : Pt} {W : World} {b : Nat} (h : TAt W b p) (hf : fitB (treeOf p) = true) (hn : cnt p ≤ 4096) (he : Env W) {C : Bool} (hc : canonB (treeOf p) = C) :
    ∃ A c, W.cell? ⟨b, 0, none⟩ = some (.slice A (cnt p) c) ∧ Calls Tryd.prog 7 #[.agg #[.slice A (cnt p) c]] W fun e w' => e = .returned (.bool C) ∧ Below W.heap.size W w' := by
  obtain ⟨A, c, h1, h2⟩ := h
  refine ⟨A, c, h1.cell 0, ?_⟩
  rw [← hc]
  exact canon_any A (cnt p) c (treeOf p) (treeOf_length p) (by omega) (fit_mark hf).2 W he h2
theorem ask_mark {p : Pt} {W : World} {b : Nat} (h : TAt W b p) (hf : fitB (treeOf p) = true) (hn : cnt p ≤ 4096) {C : Str} (hc : markupW (treeOf p) = C) :
    ∃ A c, W.cell? ⟨b, 0, none⟩ = some (.slice A (cnt p) c) ∧ Calls Tryd.prog 8 #[.agg #[.slice A (cnt p) c]] W fun e w' => e = .returned (.string ⟨C.toArray⟩) ∧ Below W.heap.size W w' := by
  obtain ⟨A, c, h1, h2⟩ := h
  refine ⟨A, c, h1.cell 0, ?_⟩
  rw [← hc]
  exact markup_any A (cnt p) c (treeOf p) (treeOf_length p) (by omega) (fun _ => (fit_mark hf).1) W h2
set_option maxHeartbeats 4000000 in
set_option maxRecDepth 100000 in
theorem known_any (w : World) (he : Env w) : Calls Tryd.prog 10 #[] w fun e w' => e = .returned (.bool true) ∧ Below w.heap.size w w' := by
  have HE := Lib.hid (fun W (h : Below w.heap.size w W) => he.below h he.sz)
  clear he
  have h1 := aval_one w [99, 108, 97, 115, 115] [97, 34]
  have h2 := kval_one (w.alloc (.cells #[str [99, 108, 97, 115, 115], str [97, 34]] 70)) [] [120, 32, 60, 32, 121] (.slice none 0 0) [] none 0 0 [] (AVal.nil _) (kval_nil _)
  have h3 := kval_one _ [112] [] (.slice (some ⟨w.heap.size, 0, none⟩) 1 1) [([99, 108, 97, 115, 115], [97, 34])] _ 1 1 _ (h1.below ((Below.refl _ _).alloc (Nat.le_refl _) _) (Nat.le_refl _)) h2
  have hm := made_any smp7 [114, 111, 111, 116] [] [] _ none _ 0 1 _ rfl smp7_right (AVal.nil _) h3
  have hb0 := (((Below.refl w.heap.size w).alloc (Nat.le_refl _) (.cells #[str [99, 108, 97, 115, 115], str [97, 34]] 70)).alloc (by simp) (.cells #[str [], str [120, 32, 60, 32, 121], .slice none 0 0, .slice none 0 0] 31)).alloc (by simp; omega) (.cells #[str [112], str [], .slice (some ⟨w.heap.size, 0, none⟩) 1 1, .slice (some ⟨(w.alloc (.cells #[str [99, 108, 97, 115, 115], str [97, 34]] 70)).heap.size, 0, none⟩) 1 1] 31)
  simp only [al_size, str] at hm hb0
  have HM := Lib.hid hm
  have HB0 := Lib.hid hb0
  clear h1 h2 h3 hm hb0
  go_enter Tryd.func10, Tryd.ntmps10
  go_upto_region 2 with (go_at_call 6; refine (HM.out).mono ?_; rintro e w1 ⟨A1, c1, rfl, hr1, hb1⟩; have HR1 := Lib.hid hr1; have HB1 := Lib.hid (HB0.out.trans (hb1.mono HB0.out.size)); clear hr1 hb1)
  refine wp_gen (fun W => TAt W w1.heap.size smp7 ∧ Below w.heap.size w W) ⟨⟨A1, c1, Bk.new w1 24 _, HR1.out.below ((Below.refl _ _).alloc (Nat.le_refl _) _) (Nat.le_refl _)⟩, HB1.out.alloc HB1.out.size _⟩ ?_
  obtain ⟨b, hb⟩ : ∃ b, w1.heap.size = b := ⟨_, rfl⟩
  rw [hb]
  clear HM HB0 HR1 HB1 hb
  rintro W2 ⟨ht2, hbl2⟩
  obtain ⟨A2, c2, y2, hmk⟩ := ask_mark ht2 smp7_fit (by rw [smp7_cnt]; omega) smp7_mark
  have HMK := Lib.hid hmk
  have HT2 := Lib.hid (fun W h => ask_canon (ht2.below h) smp7_fit (by rw [smp7_cnt]; omega) (HE.out W (hbl2.trans (h.mono hbl2.size))) smp7_canon)
  have HBL2 := Lib.hid hbl2
  clear ht2 hbl2 hmk
  go_wp2_with (first
    | (go_at_call 8; refine (HMK.out).mono ?_; rintro e w3 ⟨rfl, hb3⟩; obtain ⟨A3, c3, y3, hcn⟩ := HT2.out w3 hb3; have HCN := Lib.hid hcn; have HB3 := Lib.hid (HBL2.out.trans (hb3.mono HBL2.out.size)); clear hb3 hcn)
    | (go_at_call 7; refine (HCN.out).mono ?_; rintro e w4 ⟨rfl, hb4⟩))
  go_ret
  exact ⟨rfl, HB3.out.trans (hb4.mono HB3.out.size)⟩
end Go.Proofs.YtdogcnmepaemjaaDoor
