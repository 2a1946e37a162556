/- The document's own Make, in memory: the statements' Make of parts laid anew. No conditions but that there are not too many parts. -/
import Derived.Test.YtofllmofdenadaaEd
import Derived.Test.YtofllmofdenadaaEb
import Derived.Test.YtofllmofdenadaaDx
namespace Go.Proofs.Ytofllmofdenadaa
set_option linter.unusedVariables false
open Go.RowKit Go.Proofs.Fm Go.Proofs.Fb Go.Proofs.Fd Go.Proofs.Fc

theorem cnt_psize (p : Pt) : cnt p ≤ psize p := by
  refine Pt.ind (C := fun p => cnt p ≤ psize p) (fun p ih => ?_) p
  have hL : ∀ (ks : List Pt), (∀ k ∈ ks, k ∈ p.kids) → cntL ks ≤ psizeL ks := by
    intro ks
    induction ks with
    | nil => intro _; rw [cntL_nil]; omega
    | cons k t iht =>
      intro hk
      rw [cntL_cons, psizeL_cons]
      have h1 := ih k (hk k (.head _))
      have h2 := iht (fun x hx => hk x (.tail _ hx))
      omega
  rw [cnt_eq, psize_eq]
  have := hL p.kids (fun k hk => hk)
  split <;> omega
def AttB (l : List Nd) : Prop := ∀ x ∈ l, x.attrs.length ≤ 4398046511104
theorem node_bound {nm tx : Str} {al : List Att} {ks : List Pt} {parent : Int} (h : al.length ≤ 4398046511104) : ((Pt.mk nm tx al ks).node parent).attrs.length ≤ 4398046511104 := by
  by_cases c : nm = [] <;> simp [Pt.node, c, h]
theorem pcell_bound {w : World} (p : Pt) : ∀ (b o : Nat), PCell w b o p → ∀ (parent : Int) (n : Nat), AttB (pre p parent n) := by
  refine Pt.ind (C := fun p => ∀ (b o : Nat), PCell w b o p → ∀ (parent : Int) (n : Nat), AttB (pre p parent n)) (fun p ih b o h parent n => ?_) p
  have hL : ∀ (ks : List Pt), (∀ k ∈ ks, k ∈ p.kids) → ∀ (b o : Nat), PCells w b o ks → ∀ (parent n : Nat), AttB (preL ks parent n) := by
    intro ks
    induction ks with
    | nil => intro _ b o _ parent n x hx; rw [preL_nil] at hx; cases hx
    | cons k t iht =>
      intro hk b o h parent n x hx
      rw [PCells_cons] at h
      rw [preL_cons] at hx
      rcases List.mem_append.1 hx with hx | hx
      · exact ih k (hk k (.head _)) b o h.1 _ _ x hx
      · exact iht (fun x hx => hk x (.tail _ hx)) b _ h.2 _ _ x hx
  rw [PCell_eq] at h
  obtain ⟨h1, h2, ⟨va, h3, ha⟩, vk, h4, A, c, rfl, h5, h6, h7, h8⟩ := h
  intro x hx
  rw [pre_eq] at hx
  rcases List.mem_cons.1 hx with rfl | hx
  · obtain ⟨nm, tx, al, ks⟩ := p
    obtain ⟨A1, c1, -, -, -, hb, -⟩ := ha.ex
    exact node_bound hb
  · by_cases c : p.name = []
    · rw [if_pos c] at hx; cases hx
    · rw [if_neg c] at hx
      rcases h8 with h8 | ⟨b', off, h9, h10⟩
      · rw [h8, preL_nil] at hx; cases hx
      · exact hL _ (fun k hk => hk) _ _ h10 _ _ x hx
theorem part_bound {w : World} {nm tx : Str} {al : List Att} {ks : List Pt} {va vk : Value} (ha : AVal w va al) (hk : KVal w vk ks) (parent : Int) (n : Nat) : AttB (pre (.mk nm tx al ks) parent n) := by
  obtain ⟨A, c, rfl, h5, h6, h7, h8⟩ := hk
  have hL : ∀ (ts : List Pt) (b o : Nat), PCells w b o ts → ∀ (parent n : Nat), AttB (preL ts parent n) := by
    intro ts
    induction ts with
    | nil => intro b o _ parent n x hx; rw [preL_nil] at hx; cases hx
    | cons k t iht =>
      intro b o h parent n x hx
      rw [PCells_cons] at h
      rw [preL_cons] at hx
      rcases List.mem_append.1 hx with hx | hx
      · exact pcell_bound k b o h.1 _ _ x hx
      · exact iht b _ h.2 _ _ x hx
  intro x hx
  rw [pre_eq] at hx
  rcases List.mem_cons.1 hx with rfl | hx
  · obtain ⟨A1, c1, -, -, -, hb, -⟩ := ha.ex
    exact node_bound hb
  · by_cases c : (Pt.mk nm tx al ks).name = []
    · rw [if_pos c] at hx; cases hx
    · rw [if_neg c] at hx
      rcases h8 with h8 | ⟨b', off, h9, h10⟩
      · have : (Pt.mk nm tx al ks).kids = [] := h8
        rw [this, preL_nil] at hx; cases hx
      · exact hL ks _ _ h10 _ _ x hx
theorem tree_bound {w : World} {nm tx : Str} {al : List Att} {ks : List Pt} {va vk : Value} (ha : AVal w va al) (hk : KVal w vk ks) : AttB (treeOf (.mk nm tx al ks)) := by
  intro x hx
  unfold treeOf linkL at hx
  obtain ⟨i, hi, rfl⟩ := List.getElem_of_mem hx
  rw [List.getElem_mapIdx]
  have hi' : i < (pre (Pt.mk nm tx al ks) (-1) 0).length := by simpa using hi
  exact part_bound ha hk (-1) 0 ((pre (Pt.mk nm tx al ks) (-1) 0)[i]'hi') (List.getElem_mem hi')
theorem OTree.nil (base : Nat) (w : World) : OTree base w none 0 0 [] := ⟨[], rfl, World.ownsRow_nil _ _ _ _, by simp⟩
theorem refMake_result {W : World} {b : Nat} {A : Option Addr} {n c : Nat} {E : Int} (h : W.cell? ⟨b, 0, none⟩ = some (.slice A n c)) (ts : Array Value) (ht : ts.getD 2 undef = .pointer (some ⟨b, 0, none⟩)) (h3 : ts.getD 3 undef = .int .i64 E) :
    (results Try.f23 ts).run Try.prog W = .ok (.tuple #[.agg #[.slice A n c], .int .i64 E]) W := by
  rw [results_cell_tmp Try.results23, ht, h3]
  simp [go_sem, h, Result.andThen]
set_option maxHeartbeats 4000000 in
theorem refMake_any (p : Pt) (nm tx : Str) (al : List Att) (ks : List Pt) (A K : Option Addr) (c d : Nat) (w : World) (hp : p = .mk nm tx al ks) (hs : psize p ≤ 2000) (ha : AVal w (.slice A al.length c) al) (hk : KVal w (.slice K ks.length d) ks) :
    Calls Try.prog 23 #[.agg #[str nm, str tx, .slice A al.length c, .slice K ks.length d]] w (MakeOut p w) := by
  have HTB : Hid (AttB (treeOf p)) := Lib.hid (by rw [hp]; exact tree_bound ha hk)
  have hcp : cnt p ≤ 2000 := Nat.le_trans (cnt_psize p) hs
  have HTL := Lib.hid (treeOf_length p)
  obtain ⟨W0, hW0⟩ : ∃ W, (w.alloc (.cells #[str nm, str tx, .slice A al.length c, .slice K ks.length d] 52)).alloc (.cells #[.slice none 0 0] 24) = W := ⟨_, rfl⟩
  have hb0 : Below w.heap.size w W0 := hW0 ▸ ((Below.refl _ w).alloc (Nat.le_refl _) _).alloc (by simp) _
  have hk1 : Bk W0 w.heap.size 52 #[str nm, str tx, .slice A al.length c, .slice K ks.length d] := hW0 ▸ (Bk.new w 52 _).alloc _
  have hk2 : Bk W0 (w.heap.size + 1) 24 #[.slice none 0 0] := hW0 ▸ (by simpa using Bk.new (w.alloc (.cells #[str nm, str tx, .slice A al.length c, .slice K ks.length d] 52)) 24 #[.slice none 0 0])
  have hcall := lay_any p nm tx al ks A K none c d 0 0 [] (-1) (-1) W0 W0 hp (ha.below hb0 (Nat.le_refl _)) (hk.below hb0 (Nat.le_refl _)) (Below.refl _ _) (OTree.nil _ _) (by omega)
  rw [lay_tree] at hcall
  have HC := Lib.hid hcall
  have HB0 := Lib.hid hb0
  have HK2 := Lib.hid hk2
  dsimp only [str] at hk1 HC hW0 ⊢
  have y0 : W0.cell? ⟨w.heap.size, 0, none⟩ = some (.string ⟨nm.toArray⟩) := hk1.cell 0
  have y1 : W0.cell? ⟨w.heap.size, 1, none⟩ = some (.string ⟨tx.toArray⟩) := hk1.cell 1
  have y2 : W0.cell? ⟨w.heap.size, 2, none⟩ = some (.slice A al.length c) := hk1.cell 2
  have y3 : W0.cell? ⟨w.heap.size, 3, none⟩ = some (.slice K ks.length d) := hk1.cell 3
  have ly := hk1.lt
  have hz0 := hb0.size
  have HW0 := Lib.hid hW0
  clear ha hk hb0 hk1 hk2 hcall hW0 hp hs
  go_enter Try.func23, Try.ntmps23
  go_upto_region 1 with fail
  rw [HW0.out]
  clear HW0
  go_upto_region 2 with (go_at_call 49; refine (HC.out).mono ?_; rintro e w2 ⟨A2, c2, rfl, hst⟩; rw [HTL.out] at hst ⊢; have HST := Lib.hid hst; have HB2 := Lib.hid (hst.below (Below.refl _ _) (fun k hk => by simp [Value.ownBlock] at hk)); clear hst)
  clear y0 y1 y2 y3
  have hbl : Below w2.heap.size w2 (w2.alloc (.cells #[.slice A2 (cnt p) c2] 24)) := (Below.refl _ _).alloc (Nat.le_refl _) _
  refine wp_gen (fun W => Below w2.heap.size w2 W ∧ Bk W w2.heap.size 24 #[.slice A2 (cnt p) c2]) ⟨hbl, Bk.new w2 24 _⟩ ?_
  clear hbl
  rintro W ⟨hb3, hk3⟩
  have hot := HST.out.tree.below hb3
  have HOT := Lib.hid hot
  have hrow := hot.row HTB.out
  have hz2 := HB2.out.size
  have HR := Lib.hid (refRight_any A2 (cnt p) c2 (treeOf p) HTL.out (by omega) W hrow)
  have HB3 := Lib.hid (HB2.out.trans (hb3.mono hz2))
  have HK3 := Lib.hid hk3
  have x0 : W.cell? ⟨w2.heap.size, 0, none⟩ = some (.slice A2 (cnt p) c2) := hk3.cell 0
  have lx := hk3.lt
  have hlt2 := HK2.out.lt
  clear hb3 hk3 hot hrow
  obtain ⟨E, hE⟩ : ∃ E, rightE (treeOf p) = E := ⟨_, rfl⟩
  have HE := Lib.hid hE
  rw [hE] at HR
  clear hE
  go_upto_region 3 with (go_at_call 20; refine (HR.out).mono ?_; rintro e w4 ⟨rfl, hb4⟩; have HB4 := Lib.hid hb4; clear hb4)
  have hbb := HB3.out.trans (HB4.out.mono (by have := HB3.out.size; omega))
  have hk4 := HK2.out.below hbb HK2.out.lt
  have t0 : w4.cell? ⟨w.heap.size + 1, 0, none⟩ = some (.slice none 0 0) := hk4.cell 0
  have tf : w4.frozen? ⟨w.heap.size + 1, 0, none⟩ = false := hk4.frozen 0
  have lt0 := hk4.lt
  have hk34 := HK3.out.below HB4.out HK3.out.lt
  have x4 : w4.cell? ⟨w2.heap.size, 0, none⟩ = some (.slice A2 (cnt p) c2) := hk34.cell 0
  have lx4 := hk34.lt
  have HBB := Lib.hid (HB0.out.trans (hbb.mono hz0))
  have HO4 := Lib.hid (HOT.out.below HB4.out)
  clear x0 hbb hk4 hk34
  by_cases h0 : E = 0
  · subst h0
    go_wp2
    refine bodyPost_ret (v := .tuple #[.agg #[.slice A2 (cnt p) c2], .int .i64 0]) ?_ rfl ⟨?_, .inr ⟨HE.out, A2, c2, rfl, ?_⟩⟩
    · exact refMake_result (by simp [World.cell?_setCell_same', t0]) _ rfl rfl
    · exact HBB.out.setCell (p := ⟨w.heap.size + 1, 0, none⟩) (by simp) _
    · exact (HO4.out.setCell (b := w.heap.size + 1) hlt2 _).less hz0
  · have h1 : (E != 0) = true := by rw [bne_iff_ne]; exact h0
    go_wp2
    refine bodyPost_ret (v := .tuple #[.agg #[.slice none 0 0], .int .i64 E]) ?_ rfl ⟨?_, .inl ⟨by rw [HE.out]; exact h0, by rw [HE.out]⟩⟩
    · exact refMake_result (by simp [World.cell?_setCell_same', t0]) _ rfl rfl
    · exact HBB.out.setCell (p := ⟨w.heap.size + 1, 0, none⟩) (by simp) _
end Go.Proofs.Ytofllmofdenadaa
