import Derived.Test.YtkidhjfoapdgjaaClos
import Derived.Test.YtkidhjfoapdgjaaOrd
import Derived.Test.YtkidhjfoapdgjaaShelf
namespace Go.Proofs.Ytkidhjfoapdgjaa
set_option linter.unusedVariables false
open Go.RowKit Go.Proofs.Fx Go.Proofs.Fm Go.Proofs.Fo Go.Sort Go.Shelf Go.Lib

theorem sortWorld_block {α : Type} [Inhabited α] (enc : α → Value) (w : World) (blk off n : Nat) (d : Array α) (os : Array Obj) {k : Nat} (hk : k ≠ blk) (hlt : k < w.heap.size) :
    (sortWorld enc w blk off n d os).heap[k]? = w.heap[k]? := by
  unfold sortWorld
  rw [heap_grow_old _ _ (by simpa using hlt)]
  unfold putRow mapBlock
  simp only [Array.getElem?_modify]
  rw [if_neg (by omega)]
  rfl
theorem sortWorld_size {α : Type} [Inhabited α] (enc : α → Value) (w : World) (blk off n : Nat) (d : Array α) (os : Array Obj) : w.heap.size ≤ (sortWorld enc w blk off n d os).heap.size := by
  unfold sortWorld; rw [size_grow]; simp

/-- the places as values -/
def encF (n : Nat) (x : Fin n) : Value := .int .i64 (x.val : Int)

theorem sortWorld_IB {n : Nat} [Inhabited (Fin n)] (w : World) (blk m : Nat) (d : Array (Fin n)) (os : Array Obj) (t : TypeId) (xs : List Int) (hI : IB w blk t .i64 xs) (hs : d.size = xs.length) :
    IB (sortWorld (encF n) w blk 0 m d os) blk t .i64 (d.toList.map (fun x => (x.val : Int))) := by
  have hlt := hI.lt
  unfold IB at hI ⊢
  unfold sortWorld
  rw [heap_grow_old _ _ (by simpa using hlt)]
  unfold putRow mapBlock
  simp only [Array.getElem?_modify, if_pos, heap_ahead, hI, Option.map_some, onCells]
  congr 2
  apply Array.ext
  · simp [putCells, hs]
  · intro j h1 h2
    have hj : j < d.size := by simpa using h2
    simp [putCells, hj, encF]

theorem sortWorld_below {α : Type} [Inhabited α] (enc : α → Value) {w0 w : World} {B : Nat} (h : Below B w0 w) (blk off n : Nat) (d : Array α) (os : Array Obj) (hb : B ≤ blk) (hB : B ≤ w.heap.size) : Below B w0 (sortWorld enc w blk off n d os) :=
  h.trans ⟨rfl, rfl, rfl, sortWorld_size enc w blk off n d os, fun k hk => sortWorld_block enc w blk off n d os (by omega) (by omega)⟩

/-- the comparison of the places, as the closure reckons it -/
def cfv (r : List Int) (n : Nat) (i k : Fin n) : Int := orv (cmpv (r.getD k.val 0) (r.getD i.val 0)) (cmpv i.val k.val)
theorem lt_cfv (r : List Int) (n : Nat) (i k : Fin n) : ltOf (cfv r n) i k = before r i.val k.val := by
  unfold ltOf cfv before orv cmpv
  generalize r.getD k.val 0 = a
  generalize r.getD i.val 0 = b
  rcases Int.lt_trichotomy a b with h | h | h
  · simp [h]
  · rw [h]; simp
    by_cases h1 : i.val < k.val
    · simp [h1]
    · simp [h1]; split <;> omega
  · have h1 : ¬ a < b := by omega
    have h2 : b ≠ a := by omega
    simp [h1, h, h2]
theorem swo_cfv (r : List Int) (n : Nat) : SWO (ltOf (cfv r n)) where
  irrefl x := by rw [lt_cfv]; exact before_irrefl _ _
  trans x y z h1 h2 := by rw [lt_cfv] at *; exact before_trans h1 h2
  ntrans x y z h1 h2 := by
    rw [lt_cfv] at *
    rw [← Bool.not_eq_true, before_iff] at *
    omega
theorem tot_cfv (r : List Int) (n : Nat) (x y : Fin n) (h1 : ltOf (cfv r n) x y = false) (h2 : ltOf (cfv r n) y x = false) : x = y := by
  rw [lt_cfv] at h1 h2
  rcases Decidable.em (x.val = y.val) with e | e
  · exact Fin.ext e
  · rcases before_total r e with h | h
    · rw [h] at h1; cases h1
    · rw [h] at h2; cases h2
theorem sort_cfv (r : List Int) (n : Nat) : ((List.finRange n).mergeSort fun x y => !ltOf (cfv r n) y x) = ordF r n := by
  unfold ordF
  congr 1
  funext x y
  rw [lt_cfv]

theorem sortWorld_grownBy {α : Type} [Inhabited α] (enc : α → Value) (w : World) (blk off n : Nat) (d : Array α) (os : Array Obj) : w.grownBy (sortWorld enc w blk off n d os) (some blk) :=
  ⟨rfl, rfl, rfl, sortWorld_size enc w blk off n d os, fun k hk hne => sortWorld_block enc w blk off n d os (fun e => hne (by rw [e])) hk⟩

def places (n : Nat) : List Int := (List.range n).map (fun (i : Nat) => (i : Int))
theorem places_length (n : Nat) : (places n).length = n := by simp [places]

theorem sort_any (r : List Int) (A : Option Addr) (c : Nat) (w : World) (g bx : Nat) (hn : 0 < r.length) (hle : r.length ≤ 17592186044416) (hI : IB w g 3 .i64 (places r.length)) (hbx : w.cell? ⟨bx, 0, none⟩ = some (.slice A r.length c)) (hne : bx ≠ g)
    (hr : Row w .i64 A r) (hrg : ∀ b o, A = some ⟨b, o, none⟩ → b ≠ g) :
    Calls Try.prog 38 #[.slice (some ⟨g, 0, none⟩) r.length r.length, .func (.func 39) #[] #[.pointer (some ⟨bx, 0, none⟩)]] w fun e w' => e = .returned (.tuple #[]) ∧
      IB w' g 3 .i64 ((ordF r r.length).map (fun x => (x.val : Int))) ∧ w.grownBy w' (some g) := by
  obtain ⟨b, o, rfl, hc⟩ := hr.at_ hn
  have hbg : b ≠ g := hrg b o rfl
  have hblt : b < w.heap.size := World.block_lt_of_cell? _ _ (hc 0 hn)
  have hxlt : bx < w.heap.size := World.block_lt_of_cell? _ _ hbx
  haveI : Inhabited (Fin r.length) := ⟨⟨0, hn⟩⟩
  have eg : ∀ args w, (callFunc 39 args).run Try.prog w = .ok (.enter 39 args) w := enters_of Try.func39 (by kernel_rfl) rfl
  have hd : (List.finRange r.length).toArray.size = r.length := by simp
  have hcmp : CmpLays1 Try.prog 39 #[.pointer (some ⟨bx, 0, none⟩)] (encF r.length) (cfv r r.length) g 0 (List.finRange r.length).toArray.size w := by
    intro m os dk hs x y
    have hk : ∀ p : Addr, p.block ≠ g → p.block < w.heap.size → (sortWorld (encF r.length) w g 0 m dk os).cell? p = w.cell? p := fun p h1 h2 => World.cell?_of_block (sortWorld_block _ w g 0 m dk os h1 h2)
    have := clos39 bx b o r.length c (r.getD y.val 0) (r.getD x.val 0) x.val y.val (sortWorld (encF r.length) w g 0 m dk os) ((hk ⟨bx, 0, none⟩ hne hxlt).trans hbx) x.isLt y.isLt hle
      ((hk ⟨b, o + y.val, none⟩ hbg hblt).trans (hc _ y.isLt)) ((hk ⟨b, o + x.val, none⟩ hbg hblt).trans (hc _ x.isLt))
    exact this
  have hH : Holds (encF r.length) w g 0 (List.finRange r.length).toArray := by
    intro j hj
    have hj' : j < r.length := by simpa using hj
    rw [Nat.zero_add]
    refine ⟨?_, hI.frozen j⟩
    rw [hI.cell (by rw [places_length]; exact hj')]
    simp [places, encF, hj']
  have hS := Any.slices_SortFunc_total Try.sortL (encF r.length) (fun _ => rfl) (cfv r r.length) (swo_cfv r _) 39 #[.pointer (some ⟨bx, 0, none⟩)] g 0 r.length (List.finRange r.length).toArray w eg hcmp hH hI.lt (by rw [hd]; omega) (tot_cfv r _)
  rw [show (List.finRange r.length).toArray.toList = List.finRange r.length from rfl, sort_cfv, hd] at hS
  change Calls Try.prog 38 _ _ _ at hS
  refine hS.mono ?_
  rintro e w' ⟨he, m, os, rfl⟩
  exact ⟨he, sortWorld_IB w g m _ os 3 _ hI (by simp [ordF_length, places_length]), sortWorld_grownBy _ _ _ _ _ _ _⟩

end Go.Proofs.Ytkidhjfoapdgjaa
