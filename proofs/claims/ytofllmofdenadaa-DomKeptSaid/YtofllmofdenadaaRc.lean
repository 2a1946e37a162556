/- A drawn region in a round of a range over a function, whose head reads and makes new memory, and whose tail stands in a forced order. No conditions. -/
import Derived.Test.YtofllmofdenadaaRb
import Derived.StillTail
namespace Go.Proofs.Fc
set_option linter.unusedVariables false
open Go.RowKit

section
variable {P : Program} {ops : Array Oper} {md : Region.Mode} {U : World → Prop} {Q : Exit → Act → World → Prop} {r k : Nat}

theorem YieldsU.wpOpIn {i : Nat} {o : Oper} {v : Value} {a : Act} (hi : ops[i]? = some o) (hd : ∀ c, o.op ≠ .defer c) (hy : YieldsU P ops U o v a) {K : Act → World → Prop} {w : World} (hU : U w) (h : K (a.put o.dst v) w) : wpOpIn (Fence.wide.inRound r) k P ops Q i K a w := by
  unfold Go.wpOpIn
  simp only [hi]
  rcases hy with ⟨hw, hv⟩ | ⟨hw, rfl⟩
  · rw [if_pos hw]; refine ⟨fun _ _ => trivial, ?_⟩; rw [Oper.semAt_plain _ _ _ hd, hv w hU]; exact h
  · rw [if_neg (by rw [hw]; exact Bool.false_ne_true)]; exact ⟨fun _ _ => trivial, h⟩
theorem opIn_put {j : Nat} {oi oj : Oper} {v : Value} (hj : ops[j]? = some oj) (hd : ∀ c, oj.op ≠ .defer c) (hap : oi.apart ops oj = true) (hsi : ∀ cs b, oi.op ≠ .select cs b) (hsj : ∀ cs b, oj.op ≠ .select cs b)
    {K : Act → World → Prop} {a : Act} {w : World} (hy : YieldsU P ops U oi v a) (h : wpOpIn (Fence.wide.inRound r) k P ops (fun _ _ _ => False) j K (a.put oi.dst v) w) :
    wpOpIn (Fence.wide.inRound r) k P ops (fun _ _ _ => False) j (fun a' w' => YieldsU P ops U oi v a' ∧ K (a'.put oi.dst v) w') a w := by
  obtain ⟨d1, d2, d3⟩ := Oper.apart_spec hap
  have kp : ∀ a, YieldsU P ops U oi v a → ∀ u, YieldsU P ops U oi v (a.put oj.dst u) := fun a hy u => hy.same (execOp_put oi hsi a oj.dst u d3) (wanted_put oi a oj.dst u d3)
  have sw : ∀ (b : Act) (u : Value) (w' : World), K ((b.put oi.dst v).put oj.dst u) w' → K ((b.put oj.dst u).put oi.dst v) w' := fun b u w' hk => by rw [← Act.put_comm b v u d2]; exact hk
  have ex := execOp_put oj hsj a oi.dst v d1
  have hwn := wanted_put oj a oi.dst v d1
  unfold wpOpIn at h ⊢
  simp only [hj] at h ⊢
  rw [hwn] at h
  by_cases hw : Region.wanted oj (yielded ops a.tmps) = true
  · rw [if_pos hw] at h ⊢
    refine ⟨fun _ _ => trivial, ?_⟩
    have h := h.2
    rw [Oper.semAt_plain _ _ _ hd] at h ⊢
    rw [ex] at h
    revert h
    cases (execOp a.eval oj).run P w with
    | halt e w' => cases e <;> exact fun h => h
    | ok x w' =>
      cases x with
      | value u => exact fun h => ⟨kp a hy u, sw a u _ h⟩
      | skip => exact fun h => ⟨kp a hy _, sw a _ _ h⟩
      | defer d => exact fun h => ⟨kp { a with defers := d :: a.defers } (hy.same rfl rfl) _, sw { a with defers := d :: a.defers } _ _ (by rw [← Act.put_defers]; exact h)⟩
      | enter f args =>
        intro h
        refine ⟨h.1, CallsIn.mono h.2 fun e w'' he => ?_⟩
        cases e with
        | returned u => exact ⟨kp a hy u, sw a u _ he⟩
        | panicked c => exact he
        | outgrown => exact he
      | row row args => exact fun h => ⟨h.1, RowsIn.mono h.2 fun u w'' he => ⟨kp a hy u, sw a u _ he⟩⟩
      | round l f tmps assign body =>
        intro h
        refine ⟨h.1, RoundIn.mono h.2 fun e w'' he => ?_⟩
        cases e with
        | returned u => exact ⟨kp a hy u, sw a u _ he⟩
        | panicked c => exact he
        | outgrown => exact he
      | _ => exact fun h => h
  · rw [if_neg hw] at h ⊢
    exact ⟨fun _ _ => trivial, kp a hy _, sw a _ _ h.2⟩

/-- The head's n operations come up, whatever the order, the class holding at every step; behind f of them L holds. -/
def wpT (P : Program) (md : Region.Mode) (ops : Array Oper) (U : World → Prop) (r k n : Nat) (L : Array Bool → Act → World → Prop) : Nat → Array Bool → Act → World → Prop
  | 0, m, a, w => U w ∧ (∀ j ∈ Region.ready md ops m, n ≤ j) ∧ L m a w
  | f + 1, m, a, w => U w ∧ Region.ready md ops m ≠ [] ∧ ∀ i ∈ Region.ready md ops m, i < n ∧ wpOpIn (Fence.wide.inRound r) k P ops (fun _ _ _ => False) i (wpT P md ops U r k n L f (m.setIfInBounds i true)) a w
theorem wpT.cls {n : Nat} {L : Array Bool → Act → World → Prop} : ∀ {f : Nat} {m : Array Bool} {a : Act} {w : World}, wpT P md ops U r k n L f m a w → U w
  | 0, _, _, _, h => h.1
  | _ + 1, _, _, _, h => h.1
theorem wpOpIn_only {i : Nat} {K : Act → World → Prop} {a : Act} {w : World} (h : wpOpIn (Fence.wide.inRound r) k P ops (fun _ _ _ => False) i K a w) : wpOpIn (Fence.wide.inRound r) k P ops Q i K a w := by
  unfold wpOpIn at h ⊢
  split
  · rename_i ho; simpa [ho] using h
  · rename_i o ho
    simp only [ho] at h
    split
    · rename_i hw
      rw [if_pos hw] at h
      refine ⟨h.1, ?_⟩
      have h := h.2
      revert h
      cases (o.semAt (Fence.wide.inRound r).round a.eval).run P w with
      | halt e w' => cases e <;> first | exact fun h => h | exact fun h => h.elim
      | ok x w' =>
        cases x with
        | enter f args =>
          intro h
          refine ⟨h.1, CallsIn.mono h.2 fun e w'' he => ?_⟩
          cases e with
          | returned u => exact he
          | panicked c => exact he.elim
          | outgrown => obtain ⟨_, _, hl⟩ := he; exact hl.elim
        | round l f tmps assign body =>
          intro h
          refine ⟨h.1, RoundIn.mono h.2 fun e w'' he => ?_⟩
          cases e with
          | returned u => exact he
          | panicked c => exact he.elim
          | outgrown => obtain ⟨_, _, hl⟩ := he; exact hl.elim
        | _ => exact fun h => h
    · rename_i hw
      rw [if_neg hw] at h
      exact h
theorem any_of_T {n g : Nat} : ∀ (f : Nat) (m : Array Bool) (a : Act) (w : World), wpT P md ops U r k n (wpAnyIn (Fence.wide.inRound r) k P md ops Q g) f m a w → wpAnyIn (Fence.wide.inRound r) k P md ops Q (f + g) m a w := by
  intro f
  induction f with
  | zero => intro m a w h; rw [Nat.zero_add]; exact h.2.2
  | succ f ih =>
    intro m a w h
    rw [Nat.succ_add]
    exact ⟨fun e => absurd e h.2.1, fun i hi => wpOpIn_mono (fun a' w' h' => ih _ a' w' h') (wpOpIn_only (h.2.2 i hi).2)⟩
theorem wpT_first {n i : Nat} {oi : Oper} {v : Value} {L : Array Bool → Act → World → Prop} (hcalm : ∀ (j : Nat) (o : Oper) c, ops[j]? = some o → o.op ≠ .defer c) (hi : ops[i]? = some oi) (hsel : ∀ (j : Nat) (o : Oper) cs b, ops[j]? = some o → o.op ≠ .select cs b)
    (hs : Region.sinkB md ops n = true) (hc : Region.chainB md ops n = true) (hn : n < ops.size) (hin : i < n) :
    ∀ (f : Nat) (m : Array Bool) (a : Act) (w : World), HeadInv md ops n m →
      (∀ j oj, ops[j]? = some oj → j ≠ i → m.getD j true = false → (∀ e ∈ oj.after, Region.binds md e = true → e.on ≠ i) → oi.apart ops oj = true) →
      i ∈ Region.ready md ops m → YieldsU P ops U oi v a → wpT P md ops U r k n L f (m.setIfInBounds i true) (a.put oi.dst v) w → wpT P md ops U r k n L (f + 1) m a w := by
  intro f
  induction f with
  | zero =>
    intro m a w inv hfree hr hy H
    refine ⟨H.cls, List.ne_nil_of_mem hr, fun j hj => ⟨head_only hs hc hn hin inv hr hj, ?_⟩⟩
    by_cases hji : j = i
    · subst hji; exact hy.wpOpIn hi (fun c => hcalm _ _ c hi) H.cls H
    · have h1 := H.2.1 j (ready_mono hj hji)
      have h2 := head_only hs hc hn hin inv hr hj
      omega
  | succ f ih =>
    intro m a w inv hfree hr hy H
    refine ⟨H.cls, List.ne_nil_of_mem hr, fun j hj => ?_⟩
    have hjn := head_only hs hc hn hin inv hr hj
    refine ⟨hjn, ?_⟩
    by_cases hji : j = i
    · subst hji; exact hy.wpOpIn hi (fun c => hcalm _ _ c hi) H.cls H
    · obtain ⟨hjun, oj, hoj, hall⟩ := mem_ready.1 hj
      have hwait : ∀ e ∈ oj.after, Region.binds md e = true → e.on ≠ i := fun e he hb hon => by
        have h1 := hall e he hb
        rw [hon, getD_both (mem_ready.1 hr).1] at h1; cases h1
      have h2 := opIn_put hoj (fun c => hcalm _ _ c hoj) (hfree j oj hoj hji hjun hwait) (fun cs b => hsel i oi cs b hi) (fun cs b => hsel j oj cs b hoj) hy (H.2.2 j (ready_mono hj hji)).2
      refine wpOpIn_mono (fun a' w' h3 => ih _ a' w' (inv.set hj hjn) (fun x ox hx hxi hun hno => ?_) (ready_mono hr (Ne.symm hji)) h3.1 ?_) h2
      · refine hfree x ox hx hxi ?_ hno
        by_cases hjx : j = x
        · subst hjx; exact hjun
        · rw [getD_set_ne true hjx] at hun; exact hun
      · rw [Array.setIfInBounds_comm _ _ hji]; exact h3.2
/-- what the region's text must show: its head, its tail -/
def headB (md : Region.Mode) (ops : Array Oper) (n : Nat) : Bool := Region.noSelect ops && Region.sinkB md ops n && Region.chainB md ops n && decide (n < ops.size) && calmB ops.toList
theorem calm_ops {ops : Array Oper} (h : calmB ops.toList = true) (j : Nat) (o : Oper) (c) (ho : ops[j]? = some o) : o.op ≠ .defer c := by
  have := calm_at (l := ops.toList) h (i := j) (o := o) (by simpa using ho)
  exact this c
/-- the mask behind the operations is, and that each of them came up in turn -/
def markB (md : Region.Mode) (ops : Array Oper) (n : Nat) : List Nat → Array Bool → Bool
  | [], _ => true
  | i :: t, m => (Region.ready md ops m).contains i && decide (i < n) && markB md ops n t (m.setIfInBounds i true)
def maskOf (ops : Array Oper) (l : List Nat) : Array Bool := l.foldl (fun m i => m.setIfInBounds i true) (Array.replicate ops.size false)
theorem inv_of {n : Nat} (hn : n < ops.size) : ∀ (l : List Nat) (m : Array Bool), HeadInv md ops n m → markB md ops n l m = true → HeadInv md ops n (l.foldl (fun m i => m.setIfInBounds i true) m)
  | [], m, inv, _ => inv
  | i :: t, m, inv, h => by
    simp only [markB, Bool.and_eq_true, decide_eq_true_eq] at h
    exact inv_of hn t _ (inv.set (by simpa using h.1.1) h.1.2) h.2
theorem inv_mask {n : Nat} (hn : n < ops.size) {l : List Nat} (h : markB md ops n l (Array.replicate ops.size false) = true) : HeadInv md ops n (maskOf ops l) :=
  inv_of hn l _ ⟨by simp, fun j oj _ hl => (by rw [getD_replicate_false] at hl; cases hl), fun t _ ht => getD_in (by simpa using ht) (getD_replicate_false _ _)⟩ h
theorem maskOf_snoc (ops : Array Oper) (l : List Nat) (i : Nat) : maskOf ops (l ++ [i]) = (maskOf ops l).setIfInBounds i true := by unfold maskOf; rw [List.foldl_append]; rfl
/-- What reads is taken first. l: what has come up. -/
theorem wpT_take {n f : Nat} {L : Array Bool → Act → World → Prop} {l : List Nat} {a : Act} {w : World} (i : Nat) {o : Oper} (hi : ops[i]? = some o) (hH : headB md ops n = true) (hM : markB md ops n l (Array.replicate ops.size false) = true) (hin : i < n) (hB : takeB md ops (maskOf ops l) i = true)
    (h : wpQuiet P ops U (fun a' => wpT P md ops U r k n L f (maskOf ops (l ++ [i])) a' w) [o] a) : wpT P md ops U r k n L (f + 1) (maskOf ops l) a w := by
  unfold headB at hH
  simp only [Bool.and_eq_true, decide_eq_true_eq] at hH
  unfold takeB at hB
  simp only [hi, Bool.and_eq_true] at hB
  rw [maskOf_snoc] at h
  obtain ⟨v, hy, hk⟩ := yieldsU_of hB.2 h
  exact wpT_first (fun j o c ho => calm_ops hH.2 j o c ho) hi (Region.noSelect_spec hB.1.1.1) hH.1.1.1.2 hH.1.1.2 hH.1.2 hin f _ a w (inv_mask hH.1.2 hM) (Region.free_spec hi hB.1.1.2) (by simpa using hB.1.2) hy hk
/-- An operation of the head that stands alone. -/
theorem wpT_alone {n f : Nat} {L : Array Bool → Act → World → Prop} {l : List Nat} {a : Act} {w : World} (i : Nat) {o : Oper} (hi : ops[i]? = some o) (hr : Region.ready md ops (maskOf ops l) = [i]) (hin : i < n) (hU : U w)
    (h : wpListIn (Fence.wide.inRound r) k P ops (onlyN (wpT P md ops U r k n L f (maskOf ops (l ++ [i])))) [o] a w) : wpT P md ops U r k n L (f + 1) (maskOf ops l) a w := by
  rw [maskOf_snoc] at h
  refine ⟨hU, by rw [hr]; simp, fun j hj => ?_⟩
  rw [hr, List.mem_singleton] at hj
  subst hj
  refine ⟨hin, ?_⟩
  unfold wpOpIn
  simp only [hi]
  unfold wpListIn at h
  by_cases hw : Region.wanted o (yielded ops a.tmps) = true
  · rw [if_pos hw] at h ⊢
    refine ⟨h.1, ?_⟩
    have h := h.2
    revert h
    cases (o.semAt (Fence.wide.inRound r).round a.eval).run P w with
    | halt e w' => cases e <;> first | exact fun h => h | exact fun h => h.elim
    | ok x w' =>
      cases x with
      | enter f args =>
        intro h
        refine ⟨h.1, CallsIn.mono h.2 fun e w'' he => ?_⟩
        cases e with
        | returned u => exact he
        | panicked c => exact he.elim
        | outgrown => obtain ⟨_, _, hl⟩ := he; exact hl.elim
      | round l f tmps assign body =>
        intro h
        refine ⟨h.1, RoundIn.mono h.2 fun e w'' he => ?_⟩
        cases e with
        | returned u => exact he
        | panicked c => exact he.elim
        | outgrown => obtain ⟨_, _, hl⟩ := he; exact hl.elim
      | _ => exact fun h => h
  · rw [if_neg hw] at h ⊢
    exact h
/-- The head is over: the tail, one by one. -/
theorem wpT_over {n : Nat} {L : Array Bool → Act → World → Prop} {m : Array Bool} {a : Act} {w : World} (hr : (Region.ready md ops m).all (fun j => decide (n ≤ j)) = true) (hU : U w) (h : L m a w) : wpT P md ops U r k n L 0 m a w :=
  ⟨hU, fun j hj => by simpa using List.all_eq_true.1 hr j hj, h⟩
/-- an operation that stands alone, of a region of which no more is asked -/
theorem anyIn_alone {f : Nat} {l : List Nat} {a : Act} {w : World} (i : Nat) {o : Oper} (hi : ops[i]? = some o) (hr : Region.ready md ops (maskOf ops l) = [i])
    (h : wpListIn (Fence.wide.inRound r) k P ops (onlyN (wpAnyIn (Fence.wide.inRound r) k P md ops Q f (maskOf ops (l ++ [i])))) [o] a w) : wpAnyIn (Fence.wide.inRound r) k P md ops Q (f + 1) (maskOf ops l) a w := by
  rw [maskOf_snoc] at h
  refine ⟨fun h0 => (by rw [hr] at h0; cases h0), fun j hj => ?_⟩
  rw [hr, List.mem_singleton] at hj
  subst hj
  refine wpOpIn_only ?_
  unfold wpOpIn
  simp only [hi]
  unfold wpListIn at h
  by_cases hw : Region.wanted o (yielded ops a.tmps) = true
  · rw [if_pos hw] at h ⊢
    refine ⟨h.1, ?_⟩
    have h := h.2
    revert h
    cases (o.semAt (Fence.wide.inRound r).round a.eval).run P w with
    | halt e w' => cases e <;> first | exact fun h => h | exact fun h => h.elim
    | ok x w' =>
      cases x with
      | enter f args =>
        intro h
        refine ⟨h.1, CallsIn.mono h.2 fun e w'' he => ?_⟩
        cases e with
        | returned u => exact he
        | panicked c => exact he.elim
        | outgrown => obtain ⟨_, _, hl⟩ := he; exact hl.elim
      | round l f tmps assign body =>
        intro h
        refine ⟨h.1, RoundIn.mono h.2 fun e w'' he => ?_⟩
        cases e with
        | returned u => exact he
        | panicked c => exact he.elim
        | outgrown => obtain ⟨_, _, hl⟩ := he; exact hl.elim
      | _ => exact fun h => h
  · rw [if_neg hw] at h ⊢
    exact h
theorem anyIn_end {f : Nat} {l : List Nat} {a : Act} {w : World} (hr : Region.ready md ops (maskOf ops l) = []) (h : Q .normal a w) : wpAnyIn (Fence.wide.inRound r) k P md ops Q f (maskOf ops l) a w := wpAnyIn_done hr h f
/-- A drawn region in a round, walked so; n: the operations of its head. -/
theorem region_T {id : Nat} {a : Act} {w : World} (U : World → Prop) (n : Nat) (hm : P.follows .mixedOrders = true) (hn : n ≤ ops.size) (h : wpT P .any ops U r k n (wpAnyIn (Fence.wide.inRound r) k P .any ops Q (ops.size - n)) n (maskOf ops []) a w.drew) : (Code.region id ops true).wpIn (Fence.wide.inRound r) k P Q a w := by
  refine wpIn_region_any hm ?_
  have := any_of_T n _ a w.drew h
  rw [show n + (ops.size - n) = ops.size by omega] at this
  exact this
end
end Go.Proofs.Fc
