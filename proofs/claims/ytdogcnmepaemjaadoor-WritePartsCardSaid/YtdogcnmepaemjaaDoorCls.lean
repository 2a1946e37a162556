/- A drawn region whose head reads, reckons and calls functions whose values hang on no world of a class, and whose tail stands in a forced order: one walk in the order of the text serves. No conditions. -/
import Derived.StillTail
import Derived.Deep.Quiet
import Derived.Below
namespace Go.Proofs.Fc
set_option linter.unusedVariables false
open Go.RowKit

section
variable {P : Program} {ops : Array Oper} {md : Region.Mode} {C : World → Prop}

/-- The head's operations come up, whatever the order; behind f of them L holds. -/
def Heads (P : Program) (md : Region.Mode) (ops : Array Oper) (C : World → Prop) (n : Nat) (L : Array Bool → Act → Prop) : Nat → Array Bool → Act → Prop
  | 0, m, a => L m a
  | f + 1, m, a => Region.ready md ops m ≠ [] ∧ ∀ i ∈ Region.ready md ops m, i < n ∧ qOp P ops C i (Heads P md ops C n L f (m.setIfInBounds i true)) a

theorem any_of_heads {n g : Nat} {L : Array Bool → Act → Prop} {Q : Exit → Act → World → Prop} (hL : ∀ m a w, C w → L m a → wpAny P md ops Q g m a w) :
    ∀ (f : Nat) (m : Array Bool) (a : Act) (w : World), C w → Heads P md ops C n L f m a → wpAny P md ops Q (f + g) m a w := by
  intro f
  induction f with
  | zero => intro m a w hw h; rw [Nat.zero_add]; exact hL m a w hw h
  | succ f ih =>
    intro m a w hw h
    rw [Nat.succ_add]
    exact ⟨fun e => absurd e h.1, fun i hi => wpOp_of_qOp hw (fun a' w' hw' h' => ih _ a' w' hw' h') (h.2 i hi).2⟩

/-- While one of the head has not come up, only the head may. -/
theorem head_only {n i j : Nat} {m : Array Bool} (hs : Region.sinkB md ops n = true) (hc : Region.chainB md ops n = true) (hn : n < ops.size) (hin : i < n)
    (inv : HeadInv md ops n m) (hr : i ∈ Region.ready md ops m) (hj : j ∈ Region.ready md ops m) : j < n :=
  Nat.lt_of_not_le fun h => tail_waits hs hc hn inv _ i rfl hin (mem_ready.1 hr).1 j h hj

theorem heads_first {n i : Nat} {oi : Oper} {v : Value} {L : Array Bool → Act → Prop} (hi : ops[i]? = some oi) (hsel : ∀ (j : Nat) (o : Oper) cs b, ops[j]? = some o → o.op ≠ .select cs b)
    (hs : Region.sinkB md ops n = true) (hc : Region.chainB md ops n = true) (hn : n < ops.size) (hin : i < n) (hend : ∀ m a, L m a → ∀ j ∈ Region.ready md ops m, n ≤ j) :
    ∀ (f : Nat) (m : Array Bool) (a : Act), HeadInv md ops n m →
      (∀ j oj, ops[j]? = some oj → j ≠ i → m.getD j true = false → (∀ e ∈ oj.after, Region.binds md e = true → e.on ≠ i) → oi.apart ops oj = true) →
      i ∈ Region.ready md ops m → YieldsIn P ops C oi v a →
      Heads P md ops C n L f (m.setIfInBounds i true) (a.put oi.dst v) → Heads P md ops C n L (f + 1) m a := by
  intro f
  induction f with
  | zero =>
    intro m a inv hfree hr hy H
    refine ⟨List.ne_nil_of_mem hr, fun j hj => ⟨head_only hs hc hn hin inv hr hj, ?_⟩⟩
    by_cases hji : j = i
    · subst hji; exact hy.qOp hi H
    · have h1 := hend _ _ H j (ready_mono hj hji)
      have h2 := head_only hs hc hn hin inv hr hj
      omega
  | succ f ih =>
    intro m a inv hfree hr hy H
    refine ⟨List.ne_nil_of_mem hr, fun j hj => ?_⟩
    have hjn := head_only hs hc hn hin inv hr hj
    refine ⟨hjn, ?_⟩
    by_cases hji : j = i
    · subst hji; exact hy.qOp hi H
    · obtain ⟨hjun, oj, hoj, hall⟩ := mem_ready.1 hj
      have hnot : ∀ e ∈ oj.after, Region.binds md e = true → e.on ≠ i := fun e he hb hon => by
        have h1 := hall e he hb
        rw [hon, getD_both (mem_ready.1 hr).1] at h1
        cases h1
      have h2 := qOp_put hoj (hfree j oj hoj hji hjun hnot) (fun cs b => hsel i oi cs b hi) (fun cs b => hsel j oj cs b hoj) hy (H.2 j (ready_mono hj hji)).2
      refine qOp_mono (fun a' h3 => ih _ a' (inv.set hj hjn) (fun k ok hk hki hun hno => ?_) (ready_mono hr (Ne.symm hji)) h3.1 ?_) h2
      · refine hfree k ok hk hki ?_ hno
        by_cases hjk : j = k
        · subst hjk; exact hjun
        · rw [getD_set_ne true hjk] at hun; exact hun
      · rw [Array.setIfInBounds_comm _ _ hji]; exact h3.2

theorem heads_lex {n g : Nat} {Lq : Act → Prop} (hsel : Region.noSelect ops = true) (hs : Region.sinkB md ops n = true) (hc : Region.chainB md ops n = true) (hn : n < ops.size) :
    ∀ (l : List Oper) (k : Nat) (m : Array Bool) (a : Act), (∀ j, j < l.length → l[j]? = ops[k + j]?) → k + l.length = n → HeadInv md ops n m →
    Region.lexHead md ops g l.length k m = true → wpQuiet P ops C Lq l a →
    Heads P md ops C n (fun m' a' => Region.seqB md ops g n m' = true ∧ Lq a') l.length m a := by
  intro l
  induction l with
  | nil =>
    intro k m a _ hk _ hB h
    obtain rfl : k = n := by simpa using hk
    exact ⟨by simpa [Region.lexHead] using hB, h⟩
  | cons o l ih =>
    intro k m a hl hk inv hB h
    have h0 : ops[k]? = some o := by simpa using (hl 0 (by simp)).symm
    simp only [List.length_cons, Region.lexHead, Bool.and_eq_true] at hB
    have hkn : k < n := by simp only [List.length_cons] at hk; omega
    have hr : k ∈ Region.ready md ops m := by simpa using hB.1.1
    have hst : qOp P ops C k (wpQuiet P ops C Lq l) a := by unfold qOp; simp only [h0]; exact h
    obtain ⟨v, hy, hK⟩ := yieldsIn_of_qOp h0 hst
    exact heads_first h0 (Region.noSelect_spec hsel) hs hc hn hkn (fun m' a' hL => seqB_ready hL.1) l.length m a inv (Region.free_spec h0 hB.1.2) hr hy
      (ih (k + 1) _ _ (fun j hj => by have := hl (j + 1) (by simp; omega); simpa [Nat.add_assoc, Nat.add_comm 1 j] using this) (by simp only [List.length_cons] at hk; omega) (inv.set hr hkn) hB.2 hK)

/-- A drawn region: its first n operations quiet in the class, the others in their order from whatever world of the class. -/
theorem region_class_tail {id : Nat} {Q : Exit → Act → World → Prop} {a : Act} {w : World} {l : List Oper} (n : Nat) (hm : P.follows .mixedOrders = true) (hB : Region.lexTailB .any l.toArray n = true) (hC : C w.drew)
    (h : wpQuiet P l.toArray C (fun a' => ∀ w', C w' → wpList P l.toArray Q (l.drop n) a' w') (l.take n) a) : (Code.region id l.toArray true).wp P Q a w := by
  simp only [Region.lexTailB, Bool.and_eq_true, decide_eq_true_eq] at hB
  have hn' : n < l.length := by simpa using hB.1.1.1.2
  have htl : (l.take n).length = n := by simp; omega
  have hdl : (l.drop n).length = l.toArray.size - n := by simp
  have inv0 : HeadInv .any l.toArray n (Array.replicate l.toArray.size false) :=
    ⟨by simp, fun j oj _ hl => (by rw [getD_replicate_false] at hl; cases hl), fun t _ ht => getD_in (by simpa using ht) (getD_replicate_false _ _)⟩
  have H := heads_lex (md := .any) (g := l.toArray.size - n) hB.1.1.1.1 hB.1.1.2 hB.1.2 hB.1.1.1.2 (l.take n) 0 _ a (fun j hj => by
    have hj' : j < n := by rw [htl] at hj; exact hj
    simp [hj']) (by simpa using htl) inv0 (by rw [htl]; exact hB.2) h
  refine wp_region_any hm ?_
  have := any_of_heads (Q := Q) (g := l.toArray.size - n) (fun m' a' w' hw' hL => by
    have := wpAny_of_seq (md := .any) (Q' := Q) (l.drop n) n m' a' w' (fun j => by simp [List.getElem?_drop]) (by rw [hdl]; exact hL.1) (hL.2 w' hw')
    rwa [hdl] at this) _ _ _ w.drew hC H
  rw [htl, show n + (l.toArray.size - n) = l.toArray.size by omega] at this
  exact this
/-- A drawn region whose operations are all quiet in the class. -/
theorem region_class {id : Nat} {Q : Exit → Act → World → Prop} {a : Act} {w : World} {l : List Oper} (hm : P.follows .mixedOrders = true) (hB : Region.lexB .any l.toArray = true) (hC : C w.drew)
    (h : wpQuiet P l.toArray C (fun a' => ∀ w', C w' → Q .normal a' w') l a) : (Code.region id l.toArray true).wp P Q a w :=
  wp_region_quiet (C := C) hm hB hC (by simpa using h)
end

/-- Any world that, below B, is as W; written so that a rule can see through it. -/
noncomputable def ext (B : Nat) (W x : World) : World := @ite _ (Below B W x) (Classical.propDecidable _) x W
theorem ext_below (B : Nat) (W x : World) : Below B W (ext B W x) := by
  unfold ext
  split
  · assumption
  · exact Below.refl _ _
theorem ext_of {B : Nat} {W x : World} (h : Below B W x) : x = ext B W x := by unfold ext; rw [if_pos h]
theorem ext_cell (B : Nat) (W : World) (x : World) (b o : Nat) (h : b < B) : (ext B W x).cell? ⟨b, o, none⟩ = W.cell? ⟨b, o, none⟩ := (ext_below B W x).cell (p := ⟨b, o, none⟩) h
theorem ext_frozen (B : Nat) (W : World) (x : World) (b o : Nat) (h : b < B) : (ext B W x).frozen? ⟨b, o, none⟩ = W.frozen? ⟨b, o, none⟩ := (ext_below B W x).frozen (p := ⟨b, o, none⟩) h
theorem ext_size (B : Nat) (W x : World) : W.heap.size ≤ (ext B W x).heap.size := (ext_below B W x).size
theorem of_below {B : Nat} {W w' : World} (h : Below B W w') : ∃ x, w' = ext B W x := ⟨w', ext_of h⟩
/-- A call whose value hangs on no world, met in a world of the class. -/
theorem call_of {P : Program} {f : FuncId} {args : Array Value} {B : Nat} {W x : World} {v : Value} (h : Calls P f args (ext B W x) fun e w' => e = .returned v ∧ Below (ext B W x).heap.size (ext B W x) w') (hB : B ≤ W.heap.size) :
    Calls P f args (ext B W x) fun e w' => e = .returned v ∧ ∃ y, w' = ext B W y :=
  h.mono fun _ _ ⟨he, hb⟩ => ⟨he, of_below ((ext_below B W x).trans (hb.mono (Nat.le_trans hB (ext_size B W x))))⟩
theorem call_of_same {P : Program} {f : FuncId} {args : Array Value} {B : Nat} {W x : World} {v : Value} (h : Calls P f args (ext B W x) fun e w' => e = .returned v ∧ ext B W x = w') :
    Calls P f args (ext B W x) fun e w' => e = .returned v ∧ ∃ y, w' = ext B W y :=
  h.mono fun _ _ ⟨he, hb⟩ => ⟨he, x, hb.symm⟩
section
variable {P : Program}
/-- The class 'below B as it was'. -/
theorem region_ext_tail {id : Nat} {Q : Exit → Act → World → Prop} {a : Act} {w : World} {l : List Oper} (B n : Nat) (hm : P.follows .mixedOrders = true) (hB : Region.lexTailB .any l.toArray n = true)
    (h : wpQuiet P l.toArray (fun w' => ∃ x, w' = ext B w x) (fun a' => ∀ w', Below B w w' → wpList P l.toArray Q (l.drop n) a' w') (l.take n) a) : (Code.region id l.toArray true).wp P Q a w := by
  refine region_class_tail (C := fun w' => ∃ x, w' = ext B w x) n hm hB (of_below (Below.refl _ _).drew) ?_
  have e : (fun a' => ∀ w', (∃ x, w' = ext B w x) → wpList P l.toArray Q (l.drop n) a' w') = (fun a' => ∀ w', Below B w w' → wpList P l.toArray Q (l.drop n) a' w') := by
    funext a'
    exact propext ⟨fun h w' hb => h w' (of_below hb), fun h w' ⟨x, hx⟩ => h w' (by subst hx; exact ext_below _ _ _)⟩
  rw [e]; exact h
theorem region_ext {id : Nat} {Q : Exit → Act → World → Prop} {a : Act} {w : World} {l : List Oper} (B : Nat) (hm : P.follows .mixedOrders = true) (hB : Region.lexB .any l.toArray = true)
    (h : wpQuiet P l.toArray (fun w' => ∃ x, w' = ext B w x) (fun a' => ∀ w', Below B w w' → Q .normal a' w') l a) : (Code.region id l.toArray true).wp P Q a w := by
  refine region_class (C := fun w' => ∃ x, w' = ext B w x) hm hB (of_below (Below.refl _ _).drew) ?_
  have e : (fun a' => ∀ w', (∃ x, w' = ext B w x) → Q .normal a' w') = (fun a' => ∀ w', Below B w w' → Q .normal a' w') := by
    funext a'
    exact propext ⟨fun h w' hb => h w' (of_below hb), fun h w' ⟨x, hx⟩ => h w' (by subst hx; exact ext_below _ _ _)⟩
  rw [e]; exact h
end
end Go.Proofs.Fc
