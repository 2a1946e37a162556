/- A drawn region whose calls hand back new memory: what only reads is taken first, in whatever world of a class; each call then stands alone, in a world that is known. No conditions. -/
import Derived.Test.YtofllmofdenadaaRa
import Derived.BigQuiet
namespace Go.Proofs.Fc
set_option linter.unusedVariables false
open Go.RowKit

section
variable {P : Program} {ops : Array Oper} {md : Region.Mode} {U : World → Prop} {Q : Exit → Act → World → Prop} {N : Act → World → Prop}

/-- it reads or reckons, and enters nothing -/
def readsB (o : Oper) : Bool :=
  match o.op with
  | .move _ | .assign _ | .pick _ _ _ | .load _ _ | .fieldAddr _ _ _ | .indexAddr _ _ _ | .binOp _ _ _ _ _ | .unOp _ _ _ | .extract _ _ | .field _ _ _ | .slice _ _ _ _ _ | .build _ _ => true
  | .call c => match c.callee with | .builtin .len => true | _ => false
  | _ => false
theorem val_of {s : Sem Value} {w : World} {x : Next} {w' : World} (h : (do pure (Next.value (← s)) : Sem Next).run P w = .ok x w') : ∃ v, x = .value v := by
  simp only [Sem.run_bind] at h
  cases hs : s.run P w with
  | ok v w1 => rw [hs] at h; simp [Result.andThen, go_sem] at h; exact ⟨v, h.1.symm⟩
  | halt e w1 => rw [hs] at h; simp [Result.andThen] at h
theorem reads_val {o : Oper} (hb : readsB o = true) {ρ : Operand → Value} {w : World} {x : Next} {w' : World} (hr : (execOp ρ o).run P w = .ok x w') : ∃ v, x = .value v := by
  unfold readsB at hb
  unfold execOp at hr
  cases hop : o.op <;> simp only [hop] at hb hr <;> first
    | exact val_of hr
    | (simp [go_sem] at hr; exact ⟨_, hr.1.symm⟩)
    | exact (Bool.false_ne_true hb).elim
    | skip
  case pick c x1 y1 =>
    simp only [Sem.run_bind] at hr
    cases hs : (asBool (ρ c)).run P w with
    | ok v w1 => rw [hs] at hr; simp [Result.andThen, go_sem] at hr; exact ⟨_, hr.1.symm⟩
    | halt e w1 => rw [hs] at hr; simp [Result.andThen] at hr
  case call c =>
    split at hb
    · rename_i hc
      unfold resolve at hr
      simp only [hc] at hr
      rw [Sem.run_bind] at hr
      exact val_of (s := Builtin.len_ c.argTypes o.type (c.args.map ρ)) hr
    · cases hb

/-- Wherever the class holds it yields v, and leaves the world alone. -/
def YieldsU (P : Program) (ops : Array Oper) (U : World → Prop) (o : Oper) (v : Value) (a : Act) : Prop :=
  (Region.wanted o (yielded ops a.tmps) = true ∧ ∀ w, U w → (execOp a.eval o).run P w = .ok (.value v) w) ∨ (Region.wanted o (yielded ops a.tmps) = false ∧ v = undef)
theorem YieldsU.same {o : Oper} {v : Value} {a a' : Act} (h : YieldsU P ops U o v a) (he : execOp a'.eval o = execOp a.eval o) (hw : Region.wanted o (yielded ops a'.tmps) = Region.wanted o (yielded ops a.tmps)) : YieldsU P ops U o v a' := by
  unfold YieldsU; rw [he, hw]; exact h
theorem YieldsU.wpOp {i : Nat} {o : Oper} {v : Value} {a : Act} (hi : ops[i]? = some o) (hy : YieldsU P ops U o v a) {K : Act → World → Prop} {w : World} (hU : U w) (h : K (a.put o.dst v) w) : wpOp P ops Q i K a w := by
  unfold Go.wpOp
  simp only [hi]
  rcases hy with ⟨hw, hv⟩ | ⟨hw, rfl⟩
  · rw [if_pos hw]; refine .inl ?_; unfold Oper.wp; rw [hv w hU]; exact h
  · rw [if_neg (by rw [hw]; exact Bool.false_ne_true)]; exact h
/-- The lexical walk of one such operation shows it. -/
theorem yieldsU_of {o : Oper} (hb : readsB o = true) {a : Act} {K : Act → Prop} (h : wpQuiet P ops U K [o] a) : ∃ v, YieldsU P ops U o v a ∧ K (a.put o.dst v) := by
  unfold wpQuiet at h
  by_cases hw : Region.wanted o (yielded ops a.tmps) = true
  · rw [if_pos hw] at h
    obtain ⟨v, h1, h2⟩ := h
    refine ⟨v, .inl ⟨hw, fun w hU => ?_⟩, h2⟩
    have h3 := h1 w hU
    unfold Oper.quietAt at h3
    cases hr : (execOp a.eval o).run P w with
    | ok x w' =>
      obtain ⟨u, rfl⟩ := reads_val hb hr
      rw [hr] at h3
      obtain ⟨e1, e2⟩ := h3
      rw [e1, e2]
    | halt e w' => rw [hr] at h3; exact h3.elim
  · rw [if_neg hw] at h
    exact ⟨undef, .inr ⟨by simpa using hw, rfl⟩, h⟩

/-- it goes on, and is left in no other way -/
def onlyN (N : Act → World → Prop) : Exit → Act → World → Prop := Exit.then N fun _ _ _ => False
/-- Whatever order is picked from here on, the class holding at every step. -/
def wpU (P : Program) (md : Region.Mode) (ops : Array Oper) (U : World → Prop) (N : Act → World → Prop) : Nat → Array Bool → Act → World → Prop
  | 0, m, a, w => U w ∧ Region.ready md ops m = [] ∧ N a w
  | f + 1, m, a, w => U w ∧ (Region.ready md ops m = [] → N a w) ∧ ∀ i ∈ Region.ready md ops m, wpOp P ops (onlyN N) i (wpU P md ops U N f (m.setIfInBounds i true)) a w
theorem only_on {N : Act → World → Prop} {a : Act} {w : World} (h : N a w) : onlyN N .normal a w := h
theorem wpU.cls : ∀ {f : Nat} {m : Array Bool} {a : Act} {w : World}, wpU P md ops U N f m a w → U w
  | 0, _, _, _, h => h.1
  | _ + 1, _, _, _, h => h.1
theorem wpAny_of_U : ∀ (f : Nat) (m : Array Bool) (a : Act) (w : World), wpU P md ops U N f m a w → wpAny P md ops (onlyN N) f m a w
  | 0, _, _, _, h => h.2
  | f + 1, _, _, _, h => ⟨h.2.1, fun i hi => wpOp_mono (fun a' w' => wpAny_of_U f _ a' w') (h.2.2 i hi)⟩
theorem op_put {j : Nat} {oi oj : Oper} {v : Value} (hj : ops[j]? = some oj) (hap : oi.apart ops oj = true) (hsi : ∀ cs b, oi.op ≠ .select cs b) (hsj : ∀ cs b, oj.op ≠ .select cs b)
    {K : Act → World → Prop} {a : Act} {w : World} (hy : YieldsU P ops U oi v a) (h : wpOp P ops (onlyN N) j K (a.put oi.dst v) w) :
    wpOp P ops (onlyN N) j (fun a' w' => YieldsU P ops U oi v a' ∧ K (a'.put oi.dst v) w') a w := by
  obtain ⟨d1, d2, d3⟩ := Oper.apart_spec hap
  have kp : ∀ a, YieldsU P ops U oi v a → ∀ u, YieldsU P ops U oi v (a.put oj.dst u) := fun a hy u => hy.same (execOp_put oi hsi a oj.dst u d3) (wanted_put oi a oj.dst u d3)
  have sw : ∀ (b : Act) (u : Value) (w' : World), K ((b.put oi.dst v).put oj.dst u) w' → K ((b.put oj.dst u).put oi.dst v) w' := fun b u w' hk => by rw [← Act.put_comm b v u d2]; exact hk
  have ex := execOp_put oj hsj a oi.dst v d1
  have hwn := wanted_put oj a oi.dst v d1
  unfold wpOp at h ⊢
  simp only [hj] at h ⊢
  rw [hwn] at h
  by_cases hw : Region.wanted oj (yielded ops a.tmps) = true
  · rw [if_pos hw] at h ⊢
    rcases h with h | ⟨h, hl⟩
    · left
      unfold Oper.wp at h ⊢
      rw [ex] at h
      revert h
      cases (execOp a.eval oj).run P w with
      | halt e w' => cases e <;> intro h <;> first | exact h | exact h
      | ok x w' =>
        cases x with
        | value u => exact fun h => ⟨kp a hy u, sw a u _ h⟩
        | skip => exact fun h => ⟨kp a hy _, sw a _ _ h⟩
        | defer d => exact fun h => ⟨kp { a with defers := d :: a.defers } (hy.same rfl rfl) _, sw { a with defers := d :: a.defers } _ _ (by rw [← Act.put_defers]; exact h)⟩
        | enter f args =>
          intro h
          refine Calls.mono h fun e w'' he => ?_
          cases e with
          | returned u => exact ⟨kp a hy u, sw a u _ he⟩
          | panicked c => exact he
          | outgrown => exact he
        | row row args => exact fun h => Rows.mono h fun u w'' he => ⟨kp a hy u, sw a u _ he⟩
        | _ => exact fun h => h
    · right
      refine ⟨?_, hl⟩
      unfold Oper.asks at h ⊢
      rw [ex] at h; exact h
  · rw [if_neg hw] at h ⊢
    exact ⟨kp a hy _, sw a _ _ h⟩
theorem wpU_first {i : Nat} {oi : Oper} {v : Value} (hi : ops[i]? = some oi) (hsel : ∀ (j : Nat) (o : Oper) cs b, ops[j]? = some o → o.op ≠ .select cs b) :
    ∀ (f : Nat) (m : Array Bool) (a : Act) (w : World), (∀ j oj, ops[j]? = some oj → j ≠ i → m.getD j true = false → (∀ e ∈ oj.after, Region.binds md e = true → e.on ≠ i) → oi.apart ops oj = true) →
      i ∈ Region.ready md ops m → YieldsU P ops U oi v a → wpU P md ops U N f (m.setIfInBounds i true) (a.put oi.dst v) w → wpU P md ops U N (f + 1) m a w := by
  intro f
  induction f with
  | zero =>
    intro m a w _ hr hy H
    refine ⟨H.1, fun h => (by rw [h] at hr; cases hr), fun j hj => ?_⟩
    by_cases hji : j = i
    · subst hji; exact hy.wpOp hi H.1 H
    · have := ready_mono hj hji
      rw [H.2.1] at this; cases this
  | succ f ih =>
    intro m a w hfree hr hy H
    refine ⟨H.1, fun h => (by rw [h] at hr; cases hr), fun j hj => ?_⟩
    by_cases hji : j = i
    · subst hji; exact hy.wpOp hi H.1 H
    · obtain ⟨hjun, oj, hoj, hall⟩ := mem_ready.1 hj
      have hwait : ∀ e ∈ oj.after, Region.binds md e = true → e.on ≠ i := fun e he hb hon => by
        have h1 := hall e he hb
        rw [hon, getD_both (mem_ready.1 hr).1] at h1; cases h1
      have h2 := op_put hoj (hfree j oj hoj hji hjun hwait) (fun cs b => hsel i oi cs b hi) (fun cs b => hsel j oj cs b hoj) hy (H.2.2 j (ready_mono hj hji))
      refine wpOp_mono (fun a' w' h3 => ih _ a' w' (fun k ok hk hki hun hno => ?_) (ready_mono hr (Ne.symm hji)) h3.1 ?_) h2
      · refine hfree k ok hk hki ?_ hno
        by_cases hjk : j = k
        · subst hjk; exact hjun
        · rw [getD_set_ne true hjk] at hun; exact hun
      · rw [Array.setIfInBounds_comm _ _ hji]; exact h3.2
/-- may operation i be taken first here? -/
def takeB (md : Region.Mode) (ops : Array Oper) (m : Array Bool) (i : Nat) : Bool :=
  Region.noSelect ops && Region.free md ops m i && (Region.ready md ops m).contains i && (match ops[i]? with | some o => readsB o | none => false)
/-- What reads is taken first. -/
theorem wpU_take {f : Nat} {m : Array Bool} {a : Act} {w : World} (i : Nat) {o : Oper} (hi : ops[i]? = some o) (hB : takeB md ops m i = true)
    (h : wpQuiet P ops U (fun a' => wpU P md ops U N f (m.setIfInBounds i true) a' w) [o] a) : wpU P md ops U N (f + 1) m a w := by
  unfold takeB at hB
  simp only [hi, Bool.and_eq_true] at hB
  obtain ⟨v, hy, hk⟩ := yieldsU_of hB.2 h
  exact wpU_first hi (Region.noSelect_spec hB.1.1.1) f m a w (Region.free_spec hi hB.1.1.2) (by simpa using hB.1.2) hy hk
/-- An operation that stands alone. -/
theorem wpU_alone {f : Nat} {m : Array Bool} {a : Act} {w : World} (i : Nat) {o : Oper} (hi : ops[i]? = some o) (hr : Region.ready md ops m = [i]) (hU : U w)
    (h : wpList P ops (onlyN (wpU P md ops U N f (m.setIfInBounds i true))) [o] a w) : wpU P md ops U N (f + 1) m a w := by
  refine ⟨hU, fun h0 => (by rw [hr] at h0; cases h0), fun j hj => ?_⟩
  rw [hr, List.mem_singleton] at hj
  subst hj
  unfold wpOp
  simp only [hi]
  unfold wpList at h
  by_cases hw : Region.wanted o (yielded ops a.tmps) = true
  · rw [if_pos hw] at h ⊢
    rcases h with h | ⟨h, a2, w2, hl⟩
    · left
      unfold Oper.wp at h ⊢
      revert h
      cases (execOp a.eval o).run P w with
      | halt e w' => cases e <;> exact fun h => h
      | ok x w' =>
        cases x with
        | enter f args =>
          intro h
          refine Calls.mono h fun e w'' he => ?_
          cases e with
          | returned u => exact he
          | panicked c => exact he
          | outgrown => obtain ⟨a2, w2, hl⟩ := he; exact ⟨a2, w2, hl⟩
        | _ => exact fun h => h
    · exact .inr ⟨h, a2, w2, hl⟩
  · rw [if_neg hw] at h ⊢
    exact h
theorem wpU_end {f : Nat} {m : Array Bool} {a : Act} {w : World} (hr : Region.ready md ops m = []) (hU : U w) (h : N a w) : wpU P md ops U N f m a w := by
  cases f with
  | zero => exact ⟨hU, hr, h⟩
  | succ f => exact ⟨hU, fun _ => h, by rw [hr]; exact fun _ h => (by cases h)⟩
/-- A drawn region, walked so. -/
theorem region_U {id : Nat} {a : Act} {w : World} (U : World → Prop) (hm : P.follows .mixedOrders = true) (h : wpU P .any ops U (Q .normal) ops.size (Array.replicate ops.size false) a w.drew) : (Code.region id ops true).wp P Q a w :=
  wp_mono (wp_region_any hm (wpAny_of_U _ _ _ _ h)) fun e a w h => by cases e <;> first | exact h | exact h.elim
end
end Go.Proofs.Fc
