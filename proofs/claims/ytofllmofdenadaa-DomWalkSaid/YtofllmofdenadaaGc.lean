/- Parts that the runs of chapter 5 are made of: their trees' numbers; how they lie. No walk. No conditions. -/
import Derived.Test.YtofllmofdenadaaGb
import Derived.Test.YtofllmofdenadaaDs2
import Derived.Test.YtofllmofdenadaaEf
namespace Go.Proofs.Ytofllmofdenadaa
set_option linter.unusedVariables false
open Go.RowKit Go.Proofs.Fm Go.Proofs.Fb Go.Proofs.Fd Go.Proofs.Fc

def e0 : Pt := .mk [] [] [] []
def nest : Nat → Pt
  | 0 => .mk [97] [] [] []
  | k + 1 => .mk [97] [] [] [nest k]
theorem nest_form (k : Nat) : nest k = .mk [97] [] [] (nest k).kids := by cases k <;> rfl
theorem num_x : rightE (treeOf (.mk [] [120] [] [])) = 10 := by decide +kernel
theorem num_e : rightE (treeOf e0) = 10 := by decide +kernel
theorem num_ae : rightE (treeOf (.mk [97] [] [] [e0])) = 10 := by decide +kernel
theorem num_none : rightE [] = 10 := by decide +kernel
theorem cntL_rep (n : Nat) : cntL (List.replicate n e0) = n := by
  induction n with
  | zero => rw [List.replicate_zero, cntL_nil]
  | succ n ih =>
    have h1 : cnt e0 = 1 := by decide +kernel
    rw [List.replicate_succ, cntL_cons, ih, h1]; omega
theorem num_many {ks : List Pt} (h : cntL ks = 4096) : rightE (treeOf (.mk [97] [] [] ks)) = 4 := by
  have h1 : (treeOf (.mk [97] [] [] ks)).length = 4097 := by
    rw [treeOf_length, cnt_eq, if_neg (by simp [Pt.name])]
    have : (Pt.mk [97] [] [] ks).kids = ks := rfl
    rw [this, h]
  unfold rightE
  rw [if_pos (by omega)]
def nd1 (parent : Int) : Nd := ⟨1, [97], [], [], parent, 0, 0, 0, 0⟩
theorem nest_pre : ∀ (k : Nat) (parent : Int) (n i : Nat), i < k + 1 → (pre (nest k) parent n)[i]? = some (nd1 (if i = 0 then parent else ((n + i - 1 : Nat) : Int)))
  | 0, parent, n, i, h => by
    obtain rfl : i = 0 := by omega
    rw [pre_eq, if_neg (by simp [nest, Pt.name])]
    rfl
  | k + 1, parent, n, i, h => by
    have e : pre (nest (k + 1)) parent n = nd1 parent :: (pre (nest k) (n : Int) (n + 1) ++ []) := by
      rw [pre_eq, if_neg (by simp [nest, Pt.name])]
      have : (nest (k + 1)).kids = [nest k] := rfl
      rw [this, preL_cons, preL_nil]
      rfl
    rw [e, List.append_nil]
    cases i with
    | zero => rfl
    | succ j =>
      rw [List.getElem?_cons_succ, nest_pre k _ _ j (by omega)]
      congr 2
      by_cases c : j = 0
      · subst c; simp
      · rw [if_neg c, if_neg (by omega)]; congr 1; omega
theorem nest_cnt : ∀ k, cnt (nest k) = k + 1
  | 0 => by rw [cnt_eq, if_neg (by simp [nest, Pt.name])]; rfl
  | k + 1 => by
    rw [cnt_eq, if_neg (by simp [nest, Pt.name])]
    have : (nest (k + 1)).kids = [nest k] := rfl
    rw [this, cntL_cons, cntL_nil, nest_cnt k]; omega
theorem link_par (l : List Nd) (i : Nat) : par (linkL l) i = par l i := by
  by_cases h : i < l.length
  · rw [par_get (by rw [linkL_length]; exact h), par_get h]
    simp only [linkL, List.getElem_mapIdx]
    rfl
  · unfold par
    rw [List.getElem?_eq_none (by rw [linkL_length]; omega), List.getElem?_eq_none (by omega)]
theorem nest_get (k i : Nat) (h : i < (treeOf (nest k)).length) : (treeOf (nest k))[i]'h = setLk (nd1 (if i = 0 then -1 else ((i - 1 : Nat) : Int))) (lkAt (par (treeOf (nest k))) (treeOf (nest k)).length i) := by
  have hp : par (treeOf (nest k)) = par (pre (nest k) (-1) 0) := funext (link_par _)
  have hl : (treeOf (nest k)).length = (pre (nest k) (-1) 0).length := linkL_length _
  have hi : i < (pre (nest k) (-1) 0).length := by omega
  have hg := nest_pre k (-1) 0 i (by rw [treeOf_length, nest_cnt] at h; exact h)
  rw [List.getElem?_eq_getElem hi] at hg
  injection hg with hg
  rw [hp, hl]
  simp only [treeOf, linkL, List.getElem_mapIdx, hg, Nat.zero_add]
theorem nest_par (k i : Nat) (h : i < k + 1) : par (treeOf (nest k)) i = if i = 0 then -1 else ((i - 1 : Nat) : Int) := by
  have hl : i < (treeOf (nest k)).length := by rw [treeOf_length, nest_cnt]; exact h
  rw [par_get hl, nest_get k i hl]
  rfl
theorem nest_anc (k : Nat) : ∀ i, i < k + 1 → (anc (par (treeOf (nest k))) i).length = i + 1
  | 0, h => by
    rw [anc_stop _ _ (by rw [nest_par k 0 h]; simp)]; rfl
  | i + 1, h => by
    have hp : par (treeOf (nest k)) (i + 1) = (i : Int) := by rw [nest_par k (i + 1) h, if_neg (by omega), Nat.add_sub_cancel]
    rw [anc_step _ _ (by rw [hp]; omega) (by rw [hp]; omega), List.length_cons, hp, Int.toNat_natCast, nest_anc k i (by omega)]
theorem nest_said (k : Nat) : saidB (treeOf (nest k)) = true := by
  have hlen : (treeOf (nest k)).length = k + 1 := by rw [treeOf_length, nest_cnt]
  have hpos : 0 < (treeOf (nest k)).length := by omega
  have hp : par (treeOf (nest k)) = par (pre (nest k) (-1) 0) := funext (link_par _)
  have ho : ordB (par (treeOf (nest k))) (treeOf (nest k)).length = true := by
    have := pre_ord (nest k)
    rw [hp, treeOf_length, ← pre_cnt (nest k) (-1) 0]; exact this
  have he : eachB (treeOf (nest k)) = true := by
    unfold eachB
    rw [List.all_eq_true]
    intro i hi
    have hi := List.mem_range.1 hi
    rw [List.getElem?_eq_getElem hi]
    simp only [nest_get k i hi, Bool.and_eq_true]
    refine ⟨?_, ?_⟩
    · simp [linkB, setLk]
    · simp [wellB, setLk, nd1, attrsB]
  rw [saidB_eq hpos, ho, he, nest_get k 0 hpos]
  rfl
theorem num_256 : rightE (treeOf (nest 255)) = 0 := by
  have hlen : (treeOf (nest 255)).length = 256 := by rw [treeOf_length, nest_cnt]
  have hd : deepB (treeOf (nest 255)) = false := by
    unfold deepB
    rw [List.any_eq_false]
    intro i hi
    have hi := List.mem_range.1 hi
    rw [nest_anc 255 i (by omega)]
    simp; omega
  unfold rightE
  rw [if_neg (by omega), nest_said, if_neg (by simp), hd, if_neg (by simp)]
theorem num_257 : rightE (treeOf (nest 256)) = 5 := by
  have hlen : (treeOf (nest 256)).length = 257 := by rw [treeOf_length, nest_cnt]
  have hd : deepB (treeOf (nest 256)) = true := by
    unfold deepB
    rw [List.any_eq_true]
    refine ⟨256, List.mem_range.2 (by omega), ?_⟩
    rw [nest_anc 256 256 (by omega)]
    simp
  unfold rightE
  rw [if_neg (by omega), nest_said, if_neg (by simp), hd, if_pos rfl]
/-- Make of a part whose number is known -/
theorem makeE (p : Pt) (nm tx : Str) (al : List Att) (ks : List Pt) (A K : Option Addr) (c d : Nat) (w : World) (hp : p = .mk nm tx al ks) (ha : AVal w (.slice A al.length c) al) (hk : KVal w (.slice K ks.length d) ks) {E : Int} (hE : rightE (treeOf p) = E) :
    Calls Try.prog 10 #[.agg #[str nm, str tx, .slice A al.length c, .slice K ks.length d]] w fun e w' => ∃ A1 n1 c1, e = .returned (.tuple #[.agg #[.slice A1 n1 c1], .int .i64 E]) ∧ Below w.heap.size w w' :=
  (make_any p nm tx al ks A K c d w hp ha hk).mono fun e w' h => by
    obtain ⟨A1, n1, c1, he, -, -, hb⟩ := h.one
    exact ⟨A1, n1, c1, by rw [he, hE], hb⟩
theorem kval_nil (w : World) : KVal w (.slice none 0 0) [] := ⟨none, 0, rfl, by simp, by omega, fun _ => rfl, .inl rfl⟩
/-- the nested part as it lies while it grows -/
structure NestSt (W0 : World) (B k : Nat) (W : World) : Prop where
  ex : ∃ K d, Bk W B 31 #[.string ⟨#[97]⟩, .string ⟨#[]⟩, .slice none 0 0, .slice K (nest k).kids.length d] ∧ KRes W0 W (fun x => B < x ∧ x < W.heap.size) (.slice K (nest k).kids.length d) (nest k).kids
  bl : Below W0.heap.size W0 W
theorem nest_step {W0 W W' : World} {B k d : Nat} {K : Option Addr} (hbk : Bk W B 31 #[.string ⟨#[97]⟩, .string ⟨#[]⟩, .slice none 0 0, .slice K (nest k).kids.length d]) (hk : KRes W0 W (fun x => B < x ∧ x < W.heap.size) (.slice K (nest k).kids.length d) (nest k).kids) (hbl : Below W0.heap.size W0 W) (hB0 : W0.heap.size ≤ B)
    (hw : W' = ((((W.setCell ⟨B, 0, none⟩ (.string ⟨#[97]⟩)).setCell ⟨B, 1, none⟩ (.string ⟨#[]⟩)).setCell ⟨B, 2, none⟩ (.slice none 0 0)).setCell ⟨B, 3, none⟩ (.slice (some ⟨W.heap.size, 0, none⟩) 1 1)).alloc (.cells #[.string ⟨#[97]⟩, .string ⟨#[]⟩, .slice none 0 0, .slice K (nest k).kids.length d] 31)) : NestSt W0 B (k + 1) W' := by
  have hlt := hbk.lt
  obtain ⟨W1, hW1⟩ : ∃ W1, (((W.setCell ⟨B, 0, none⟩ (.string ⟨#[97]⟩)).setCell ⟨B, 1, none⟩ (.string ⟨#[]⟩)).setCell ⟨B, 2, none⟩ (.slice none 0 0)).setCell ⟨B, 3, none⟩ (.slice (some ⟨W.heap.size, 0, none⟩) 1 1) = W1 := ⟨_, rfl⟩
  have hs1 : W1.heap.size = W.heap.size := by rw [← hW1]; simp [World.setCell]
  have hb1 : Bk W1 B 31 #[.string ⟨#[97]⟩, .string ⟨#[]⟩, .slice none 0 0, .slice (some ⟨W.heap.size, 0, none⟩) 1 1] := by
    have q := ((((hbk.set_ 0 (.string ⟨#[97]⟩)).set_ 1 (.string ⟨#[]⟩)).set_ 2 (.slice none 0 0)).set_ 3 (.slice (some ⟨W.heap.size, 0, none⟩) 1 1))
    rw [hW1] at q
    simpa using q
  have hold : ∀ x, x ≠ B → W1.heap[x]? = W.heap[x]? := fun x hne => by
    rw [← hW1]
    exact (((Below.heap_setCell _ ⟨B, 3, none⟩ _ x hne).trans (Below.heap_setCell _ ⟨B, 2, none⟩ _ x hne)).trans (Below.heap_setCell _ ⟨B, 1, none⟩ _ x hne)).trans (Below.heap_setCell _ ⟨B, 0, none⟩ _ x hne)
  have hbl1 : Below W0.heap.size W0 W1 := by
    rw [← hW1]
    exact (((hbl.setCell (p := ⟨B, 0, none⟩) hB0 _).setCell (p := ⟨B, 1, none⟩) hB0 _).setCell (p := ⟨B, 2, none⟩) hB0 _).setCell (p := ⟨B, 3, none⟩) hB0 _
  rw [hW1] at hw
  have hnew : Bk W' W.heap.size 31 #[.string ⟨#[97]⟩, .string ⟨#[]⟩, .slice none 0 0, .slice K (nest k).kids.length d] := by
    rw [hw, ← hs1]; exact Bk.new W1 31 _
  have hsz : W'.heap.size = W.heap.size + 1 := by rw [hw]; simp [hs1]
  have hall : ∀ x, B < x → x < W.heap.size → W'.heap[x]? = W.heap[x]? := fun x h1 h2 => by
    rw [hw]
    exact (Below.heap_alloc W1 _ x (by omega)).trans (hold x (by omega))
  refine ⟨⟨some ⟨W.heap.size, 0, none⟩, 1, ?_, ?_⟩, ?_⟩
  · rw [hw]
    exact hb1.alloc _
  · refine ⟨_, 1, rfl, Nat.le_refl _, by omega, (fun e => by cases e), .inr ⟨_, _, rfl, ?_⟩⟩
    have e : (nest (k + 1)).kids = [nest k] := rfl
    rw [e, RCells_cons]
    refine ⟨(RCell_eq _ _ _ _ _ _).2 ?_, RCells_nil _ _ _ _ _⟩
    have f := nest_form k
    have n1 : (nest k).name = [97] := by rw [f]; rfl
    have n2 : (nest k).text = [] := by rw [f]; rfl
    have n3 : (nest k).attrs = [] := by rw [f]; rfl
    rw [n1, n2, n3]
    exact ⟨⟨hlt, by omega⟩, hnew.cell 0, hnew.cell 1, ⟨_, hnew.cell 2, AVal.nil W0⟩, _, hnew.cell 3, hk.map (fun x hx => ⟨hx.1, by omega⟩) (fun x hx => hall x hx.1 hx.2)⟩
  · rw [hw]; exact hbl1.alloc hbl1.size _
theorem made4 (a b c d : Value) (n i j : Nat) (hi : i < n) (hj : j < 4) : (madeCells #[a, b, c, d] (n * 4))[i * 4 + j]? = #[a, b, c, d][j]? := by
  have h1 : i * 4 + j < n * 4 := by omega
  have h2 : (i * 4 + j) % 4 = j := by omega
  unfold madeCells
  rw [Array.getElem?_map, Array.getElem?_range, if_pos h1]
  have h4 : #[a, b, c, d].size = 4 := rfl
  simp only [Option.map_some, h4, h2]
  rw [getElem!_pos _ _ (by rw [h4]; exact hj), Array.getElem?_eq_getElem (by rw [h4]; exact hj)]
theorem kval_made (W : World) (n : Nat) (hn : n ≤ 4096) {ks : List Pt} (hks : ks = List.replicate n e0) : KVal (W.alloc (.cells (madeCells #[.string ⟨#[]⟩, .string ⟨#[]⟩, .slice none 0 0, .slice none 0 0] (n * 4)) 31)) (.slice (some ⟨W.heap.size, 0, none⟩) ks.length n) ks := by
  have hbk := Bk.new W 31 (madeCells #[.string ⟨#[]⟩, .string ⟨#[]⟩, .slice none 0 0, .slice none 0 0] (n * 4))
  have hl : ks.length = n := by rw [hks, List.length_replicate]
  refine ⟨_, n, rfl, by omega, by omega, (fun e => by cases e), .inr ⟨_, _, rfl, ?_⟩⟩
  have hall : ∀ (m i : Nat), m + i = n → PCells (W.alloc (.cells (madeCells #[.string ⟨#[]⟩, .string ⟨#[]⟩, .slice none 0 0, .slice none 0 0] (n * 4)) 31)) W.heap.size (0 + i * 4) (List.replicate m e0) := by
    intro m
    induction m with
    | zero => intro i _; exact PCells_nil _ _ _
    | succ m ih =>
      intro i hi
      rw [List.replicate_succ, PCells_cons]
      have hc : ∀ j, j < 4 → ∀ u, #[Value.string ⟨#[]⟩, .string ⟨#[]⟩, .slice none 0 0, .slice none 0 0][j]? = some u → (W.alloc (.cells (madeCells #[.string ⟨#[]⟩, .string ⟨#[]⟩, .slice none 0 0, .slice none 0 0] (n * 4)) 31)).cell? ⟨W.heap.size, 0 + i * 4 + j, none⟩ = some u := fun j hj u hu => by
        rw [hbk.cell, Nat.zero_add, made4 _ _ _ _ n i j (by omega) hj]; exact hu
      refine ⟨(PCell_eq _ _ _ _).2 ⟨hc 0 (by omega) _ rfl, hc 1 (by omega) _ rfl, ⟨_, hc 2 (by omega) _ rfl, AVal.nil _⟩, _, hc 3 (by omega) _ rfl, kval_nil _⟩, ?_⟩
      have := ih (i + 1) (by omega)
      rwa [show 0 + (i + 1) * 4 = 0 + i * 4 + 4 by omega] at this
  have := hall n 0 (by omega)
  rw [← hks] at this
  simpa using this
end Go.Proofs.Ytofllmofdenadaa
