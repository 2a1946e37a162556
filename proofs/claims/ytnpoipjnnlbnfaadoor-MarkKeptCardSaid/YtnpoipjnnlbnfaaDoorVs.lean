/- A scope in which the run jumps between several labels: what holds at each, and a number that every jump lowers. No program. No conditions. -/
import Derived.Scope
import Derived.ScopeJumps
import Derived.WalkMore
namespace Go.Proofs.Fs
open Go
/-- As Q; by a goto: what holds at that label. -/
def Exit.jumps (J : Nat → Act → World → Prop) (Q : Exit → Act → World → Prop) : Exit → Act → World → Prop
  | .goto l, a, w => J l a w
  | e, a, w => Q e a w
section
variable {P : Program} {a : Act} {w : World} {Q : Exit → Act → World → Prop}
theorem wp_scope_labels {c : Code} (rest : Nat → Code) (J : Nat → Nat → Act → World → Prop) (hf : ∀ l n a w, J l n a w → findLabel c l = some (rest l))
    (first : c.wp P (Exit.jumps (fun l a w => ∃ n, J l n a w) Q) a w)
    (pass : ∀ l n a w, J l n a w → (rest l).wp P (Exit.jumps (fun l' a' w' => ∃ n', n' < n ∧ J l' n' a' w') Q) a w) : (Code.scope c).wp P Q a w := by
  intro b k cs
  have key : ∀ n l a w, J l n a w → ∃ e a' w', Q e a' w' ∧ Arrives P (lone (b.at a (.code (rest l) :: .inScope c :: k)) cs w) b k cs e a' w' := by
    intro n
    induction n using Nat.strongRecOn with
    | _ n ih =>
      intro l a w hJ
      obtain ⟨e, a₁, w₁, hq, harr⟩ := pass l n a w hJ b (.inScope c :: k) cs
      cases e with
      | normal => exact ⟨.normal, a₁, w₁, hq, Steps.trans harr (.one step_inScope)⟩
      | exit id => exact ⟨.exit id, a₁, w₁, hq, fun k' hk => harr k' (by simp [exitTo, hk])⟩
      | goto l' =>
        obtain ⟨n', hlt, hJ'⟩ := hq
        have hg : gotoIn l' (.inScope c :: k) = some (.code (rest l') :: .inScope c :: k) := by simp [gotoIn, hf l' n' a₁ w₁ hJ']
        obtain ⟨e₂, a₂, w₂, hq₂, harr₂⟩ := ih n' hlt l' a₁ w₁ hJ'
        exact ⟨e₂, a₂, w₂, hq₂, .of_steps (harr _ hg) harr₂⟩
      | ret => exact ⟨_, a₁, w₁, hq, harr⟩
      | panic ch => exact ⟨_, a₁, w₁, hq, harr⟩
      | outgrown => exact ⟨_, a₁, w₁, hq, harr⟩
  obtain ⟨e, a₁, w₁, hq, harr⟩ := first b (.inScope c :: k) cs
  cases e with
  | normal => exact ⟨.normal, a₁, w₁, hq, .head step_scope (Steps.trans harr (.one step_inScope))⟩
  | exit id => exact ⟨.exit id, a₁, w₁, hq, fun k' hk => .head step_scope (harr k' (by simp [exitTo, hk]))⟩
  | goto l' =>
    obtain ⟨n', hJ'⟩ := hq
    have hg : gotoIn l' (.inScope c :: k) = some (.code (rest l') :: .inScope c :: k) := by simp [gotoIn, hf l' n' a₁ w₁ hJ']
    obtain ⟨e₂, a₂, w₂, hq₂, harr₂⟩ := key n' l' a₁ w₁ hJ'
    exact ⟨e₂, a₂, w₂, hq₂, .of_steps (.head step_scope (harr _ hg)) harr₂⟩
  | ret => exact ⟨_, a₁, w₁, hq, .of_steps (.one step_scope) harr⟩
  | panic ch => exact ⟨_, a₁, w₁, hq, .of_steps (.one step_scope) harr⟩
  | outgrown => exact ⟨_, a₁, w₁, hq, .of_steps (.one step_scope) harr⟩
/-- a walk that ends well ends well for whatever asks less -/
theorem wp_mono {c : Code} {Q' : Exit → Act → World → Prop} (h : c.wp P Q a w) (hq : ∀ e a w, Q e a w → Q' e a w) : c.wp P Q' a w := by
  intro b k cs
  obtain ⟨e, a₁, w₁, h1, h2⟩ := h b k cs
  exact ⟨e, a₁, w₁, hq _ _ _ h1, h2⟩
theorem jumps_mono {J J' : Nat → Act → World → Prop} {e : Exit} {a : Act} {w : World} (hj : ∀ l a w, J l a w → J' l a w) (h : Exit.jumps J Q e a w) : Exit.jumps J' Q e a w := by
  cases e <;> first | exact hj _ _ _ h | exact h
theorem wp_skip_seq {r : Code} (h : r.wp P Q a w) : (Code.seq .skip r).wp P Q a w := by
  refine wp_seq ?_
  exact wp_skip h
/-- .. at 5 labels, of which label e is come to first -/
theorem wp_scope_5 {c r0 r1 r2 r3 r4 : Code} (e : Nat) (re : Code) (J : Nat → Nat → Act → World → Prop) (h0 : findLabel c 0 = some (.seq .skip r0)) (h1 : findLabel c 1 = some (.seq .skip r1)) (h2 : findLabel c 2 = some (.seq .skip r2)) (h3 : findLabel c 3 = some (.seq .skip r3)) (h4 : findLabel c 4 = some (.seq .skip r4)) (he : findLabel c e = some (.seq .skip re)) (only : ∀ l n a w, J l n a w → l < 5)
    (first : (∀ n a w, J e n a w → re.wp P (Exit.jumps (fun l a w => ∃ n, J l n a w) Q) a w) → c.wp P (Exit.jumps (fun l a w => ∃ n, J l n a w) Q) a w)
    (p0 : ∀ n a w, J 0 n a w → ∀ J' : Nat → Act → World → Prop, (∀ l n' a w, n' < n → J l n' a w → J' l a w) → r0.wp P (Exit.jumps J' Q) a w)
    (p1 : ∀ n a w, J 1 n a w → ∀ J' : Nat → Act → World → Prop, (∀ l n' a w, n' < n → J l n' a w → J' l a w) → r1.wp P (Exit.jumps J' Q) a w)
    (p2 : ∀ n a w, J 2 n a w → ∀ J' : Nat → Act → World → Prop, (∀ l n' a w, n' < n → J l n' a w → J' l a w) → r2.wp P (Exit.jumps J' Q) a w)
    (p3 : ∀ n a w, J 3 n a w → ∀ J' : Nat → Act → World → Prop, (∀ l n' a w, n' < n → J l n' a w → J' l a w) → r3.wp P (Exit.jumps J' Q) a w)
    (p4 : ∀ n a w, J 4 n a w → ∀ J' : Nat → Act → World → Prop, (∀ l n' a w, n' < n → J l n' a w → J' l a w) → r4.wp P (Exit.jumps J' Q) a w) : (Code.scope c).wp P Q a w := by
  have hall : ∀ l n a w, J l n a w → ∃ r, findLabel c l = some (.seq .skip r) ∧ r.wp P (Exit.jumps (fun l' a' w' => ∃ n', n' < n ∧ J l' n' a' w') Q) a w := by
    intro l n a w hJ
    have hl := only l n a w hJ
    match l, hl, hJ with
    | 0, _, hJ => exact ⟨r0, h0, p0 n a w hJ _ (fun l n' a w hlt h => ⟨n', hlt, h⟩)⟩
    | 1, _, hJ => exact ⟨r1, h1, p1 n a w hJ _ (fun l n' a w hlt h => ⟨n', hlt, h⟩)⟩
    | 2, _, hJ => exact ⟨r2, h2, p2 n a w hJ _ (fun l n' a w hlt h => ⟨n', hlt, h⟩)⟩
    | 3, _, hJ => exact ⟨r3, h3, p3 n a w hJ _ (fun l n' a w hlt h => ⟨n', hlt, h⟩)⟩
    | 4, _, hJ => exact ⟨r4, h4, p4 n a w hJ _ (fun l n' a w hlt h => ⟨n', hlt, h⟩)⟩
  have hsome : ∀ l n a w, J l n a w → findLabel c l = some ((findLabel c l).getD .skip) := by
    intro l n a w hJ
    obtain ⟨r, hr, _⟩ := hall l n a w hJ
    rw [hr]; rfl
  refine wp_scope_labels (fun l => (findLabel c l).getD .skip) J hsome (first ?_) ?_
  · intro n a w hJ
    obtain ⟨r, hr, hp⟩ := hall e n a w hJ
    rw [he] at hr
    obtain rfl : re = r := by injection hr with hr; injection hr
    exact wp_mono hp (fun e a w h => jumps_mono (fun l a w ⟨n', _, h⟩ => ⟨n', h⟩) h)
  · intro l n a w hJ
    obtain ⟨r, hr, hp⟩ := hall l n a w hJ
    show ((findLabel c l).getD .skip).wp P _ a w
    rw [hr]
    exact wp_skip_seq hp
/-- .. at 6 labels, of which label e is come to first -/
theorem wp_scope_6 {c r0 r1 r2 r3 r4 r5 : Code} (e : Nat) (re : Code) (J : Nat → Nat → Act → World → Prop) (h0 : findLabel c 0 = some (.seq .skip r0)) (h1 : findLabel c 1 = some (.seq .skip r1)) (h2 : findLabel c 2 = some (.seq .skip r2)) (h3 : findLabel c 3 = some (.seq .skip r3)) (h4 : findLabel c 4 = some (.seq .skip r4)) (h5 : findLabel c 5 = some (.seq .skip r5)) (he : findLabel c e = some (.seq .skip re)) (only : ∀ l n a w, J l n a w → l < 6)
    (first : (∀ n a w, J e n a w → re.wp P (Exit.jumps (fun l a w => ∃ n, J l n a w) Q) a w) → c.wp P (Exit.jumps (fun l a w => ∃ n, J l n a w) Q) a w)
    (p0 : ∀ n a w, J 0 n a w → ∀ J' : Nat → Act → World → Prop, (∀ l n' a w, n' < n → J l n' a w → J' l a w) → r0.wp P (Exit.jumps J' Q) a w)
    (p1 : ∀ n a w, J 1 n a w → ∀ J' : Nat → Act → World → Prop, (∀ l n' a w, n' < n → J l n' a w → J' l a w) → r1.wp P (Exit.jumps J' Q) a w)
    (p2 : ∀ n a w, J 2 n a w → ∀ J' : Nat → Act → World → Prop, (∀ l n' a w, n' < n → J l n' a w → J' l a w) → r2.wp P (Exit.jumps J' Q) a w)
    (p3 : ∀ n a w, J 3 n a w → ∀ J' : Nat → Act → World → Prop, (∀ l n' a w, n' < n → J l n' a w → J' l a w) → r3.wp P (Exit.jumps J' Q) a w)
    (p4 : ∀ n a w, J 4 n a w → ∀ J' : Nat → Act → World → Prop, (∀ l n' a w, n' < n → J l n' a w → J' l a w) → r4.wp P (Exit.jumps J' Q) a w)
    (p5 : ∀ n a w, J 5 n a w → ∀ J' : Nat → Act → World → Prop, (∀ l n' a w, n' < n → J l n' a w → J' l a w) → r5.wp P (Exit.jumps J' Q) a w) : (Code.scope c).wp P Q a w := by
  have hall : ∀ l n a w, J l n a w → ∃ r, findLabel c l = some (.seq .skip r) ∧ r.wp P (Exit.jumps (fun l' a' w' => ∃ n', n' < n ∧ J l' n' a' w') Q) a w := by
    intro l n a w hJ
    have hl := only l n a w hJ
    match l, hl, hJ with
    | 0, _, hJ => exact ⟨r0, h0, p0 n a w hJ _ (fun l n' a w hlt h => ⟨n', hlt, h⟩)⟩
    | 1, _, hJ => exact ⟨r1, h1, p1 n a w hJ _ (fun l n' a w hlt h => ⟨n', hlt, h⟩)⟩
    | 2, _, hJ => exact ⟨r2, h2, p2 n a w hJ _ (fun l n' a w hlt h => ⟨n', hlt, h⟩)⟩
    | 3, _, hJ => exact ⟨r3, h3, p3 n a w hJ _ (fun l n' a w hlt h => ⟨n', hlt, h⟩)⟩
    | 4, _, hJ => exact ⟨r4, h4, p4 n a w hJ _ (fun l n' a w hlt h => ⟨n', hlt, h⟩)⟩
    | 5, _, hJ => exact ⟨r5, h5, p5 n a w hJ _ (fun l n' a w hlt h => ⟨n', hlt, h⟩)⟩
  have hsome : ∀ l n a w, J l n a w → findLabel c l = some ((findLabel c l).getD .skip) := by
    intro l n a w hJ
    obtain ⟨r, hr, _⟩ := hall l n a w hJ
    rw [hr]; rfl
  refine wp_scope_labels (fun l => (findLabel c l).getD .skip) J hsome (first ?_) ?_
  · intro n a w hJ
    obtain ⟨r, hr, hp⟩ := hall e n a w hJ
    rw [he] at hr
    obtain rfl : re = r := by injection hr with hr; injection hr
    exact wp_mono hp (fun e a w h => jumps_mono (fun l a w ⟨n', _, h⟩ => ⟨n', h⟩) h)
  · intro l n a w hJ
    obtain ⟨r, hr, hp⟩ := hall l n a w hJ
    show ((findLabel c l).getD .skip).wp P _ a w
    rw [hr]
    exact wp_skip_seq hp
@[go_sem] theorem jumps_ret (J : Nat → Act → World → Prop) : Exit.jumps J Q .ret a w = Q .ret a w := rfl
@[go_sem] theorem jumps_panic (J : Nat → Act → World → Prop) (ch : List PanicEntry) : Exit.jumps J Q (.panic ch) a w = Q (.panic ch) a w := rfl
@[go_sem] theorem jumps_normal (J : Nat → Act → World → Prop) : Exit.jumps J Q .normal a w = Q .normal a w := rfl
@[go_sem] theorem jumps_goto (J : Nat → Act → World → Prop) (l : Nat) : Exit.jumps J Q (.goto l) a w = J l a w := rfl
end
end Go.Proofs.Fs
