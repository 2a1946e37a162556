/- Plain facts: trees by their parents: the way up, document order, and the links that the parents leave. No walk. No conditions. -/
namespace Go.Proofs.Fd
set_option linter.unusedVariables false

abbrev Str := List UInt8
abbrev Att := Str × Str
structure Nd where
  kind : Int
  name : Str
  text : Str
  attrs : List Att
  parent : Int
  first : Int
  last : Int
  prev : Int
  next : Int

/-- the way up from i, i ahead, while the numbers go down -/
def ancF (p : Nat → Int) : Nat → Nat → List Nat
  | 0, i => [i]
  | f + 1, i => i :: (if 0 ≤ p i ∧ p i < (i : Int) then ancF p f (p i).toNat else [])
def anc (p : Nat → Int) (i : Nat) : List Nat := ancF p i i
theorem ancF_more (p : Nat → Int) : ∀ (f i : Nat), i ≤ f → ancF p f i = ancF p i i
  | 0, i, h => by obtain rfl : i = 0 := by omega
                  rfl
  | f + 1, i, h => by
    by_cases hi : i = f + 1
    · subst hi; rfl
    · have h1 := ancF_more p f
      by_cases c : 0 ≤ p i ∧ p i < (i : Int)
      · obtain ⟨j, rfl⟩ : ∃ j, i = j + 1 := ⟨i - 1, by omega⟩
        have e1 : ancF p (f + 1) (j + 1) = (j + 1) :: ancF p f (p (j + 1)).toNat := by rw [ancF, if_pos c]
        have e2 : ancF p (j + 1) (j + 1) = (j + 1) :: ancF p j (p (j + 1)).toNat := by rw [ancF, if_pos c]
        rw [e1, e2, h1 _ (by omega), ancF_more p j _ (by omega)]
      · have e1 : ancF p (f + 1) i = [i] := by rw [ancF, if_neg c]
        rw [e1]
        cases i with
        | zero => rfl
        | succ j => rw [ancF, if_neg c]
termination_by f i => f
theorem anc_step (p : Nat → Int) (i : Nat) (h0 : 0 ≤ p i) (h1 : p i < (i : Int)) : anc p i = i :: anc p (p i).toNat := by
  obtain ⟨j, rfl⟩ : ∃ j, i = j + 1 := ⟨i - 1, by omega⟩
  unfold anc
  have e2 : ancF p (j + 1) (j + 1) = (j + 1) :: ancF p j (p (j + 1)).toNat := by rw [ancF, if_pos ⟨h0, h1⟩]
  rw [e2, ancF_more p j _ (by omega)]
theorem anc_stop (p : Nat → Int) (i : Nat) (h : ¬ (0 ≤ p i ∧ p i < (i : Int))) : anc p i = [i] := by
  unfold anc
  cases i with
  | zero => rfl
  | succ j => rw [ancF, if_neg h]
theorem anc_head (p : Nat → Int) (i : Nat) : ∃ t, anc p i = i :: t := by
  by_cases h : 0 ≤ p i ∧ p i < (i : Int)
  · exact ⟨_, anc_step p i h.1 h.2⟩
  · exact ⟨_, anc_stop p i h⟩
theorem anc_le (p : Nat → Int) : ∀ (n i : Nat), i ≤ n → ∀ a ∈ anc p i, a ≤ i
  | n, i, hn, a, ha => by
    by_cases h : 0 ≤ p i ∧ p i < (i : Int)
    · rw [anc_step p i h.1 h.2] at ha
      rcases List.mem_cons.1 ha with rfl | ha
      · exact Nat.le_refl _
      · cases n with
        | zero => omega
        | succ n => have := anc_le p n (p i).toNat (by omega) a ha; omega
    · rw [anc_stop p i h] at ha
      rw [List.mem_singleton.1 ha]; exact Nat.le_refl _
theorem anc_congr (p q : Nat → Int) : ∀ (n i : Nat), i ≤ n → (∀ j, j ≤ i → p j = q j) → anc p i = anc q i
  | n, i, hn, h => by
    by_cases c : 0 ≤ p i ∧ p i < (i : Int)
    · have hq := h i (Nat.le_refl _)
      rw [anc_step p i c.1 c.2, anc_step q i (by omega) (by omega), ← hq]
      cases n with
      | zero => omega
      | succ n => rw [anc_congr p q n _ (by omega) (fun j hj => h j (by omega))]
    · rw [anc_stop p i c, anc_stop q i (by rw [← h i (Nat.le_refl _)]; exact c)]
/-- is the number a on the way up from i? -/
def onWay (p : Nat → Int) (i : Nat) (a : Int) : Bool := (anc p i).any fun j => (j : Int) == a
theorem onWay_self (p : Nat → Int) (i : Nat) : onWay p i i = true := by
  obtain ⟨t, h⟩ := anc_head p i
  simp [onWay, h]
theorem onWay_step (p : Nat → Int) (i : Nat) (a : Int) (h0 : 0 ≤ p i) (h1 : p i < (i : Int)) (hne : a ≠ i) : onWay p i a = onWay p (p i).toNat a := by
  simp only [onWay, anc_step p i h0 h1, List.any_cons]
  rw [show ((i : Int) == a) = false from beq_eq_false_iff_ne.2 (fun e => hne e.symm), Bool.false_or]
theorem onWay_le (p : Nat → Int) (i : Nat) (a : Int) (h : onWay p i a = true) : 0 ≤ a ∧ a ≤ i := by
  simp only [onWay, List.any_eq_true, beq_iff_eq] at h
  obtain ⟨j, hj, rfl⟩ := h
  have := anc_le p i i (Nat.le_refl _) j hj
  omega

/-- document order by the parents -/
def ordB (p : Nat → Int) (n : Nat) : Bool := p 0 == -1 && (List.range n).all fun i => i == 0 || onWay p (i - 1) (p i)
theorem ordB_iff (p : Nat → Int) (n : Nat) : ordB p n = true ↔ p 0 = -1 ∧ ∀ i, 0 < i → i < n → onWay p (i - 1) (p i) = true := by
  simp only [ordB, Bool.and_eq_true, beq_iff_eq, List.all_eq_true, List.mem_range, Bool.or_eq_true]
  constructor
  · rintro ⟨h0, h⟩
    refine ⟨h0, fun i hi hn => ?_⟩
    rcases h i hn with h | h
    · omega
    · exact h
  · rintro ⟨h0, h⟩
    refine ⟨h0, fun i hn => ?_⟩
    by_cases hi : i = 0
    · exact .inl hi
    · exact .inr (h i (by omega) hn)
theorem ord_lt {p : Nat → Int} {n : Nat} (h : ordB p n = true) {i : Nat} (h0 : 0 < i) (hi : i < n) : 0 ≤ p i ∧ p i < (i : Int) := by
  have := onWay_le p _ _ (((ordB_iff p n).1 h).2 i h0 hi)
  omega
theorem ord_less {p : Nat → Int} {n m : Nat} (h : ordB p n = true) (hm : m ≤ n) : ordB p m = true := by
  rw [ordB_iff] at h ⊢
  exact ⟨h.1, fun i h0 hi => h.2 i h0 (by omega)⟩
theorem ord_succ {p : Nat → Int} {n : Nat} (h : ordB p n = true) (hn : 0 < n) (hp : onWay p (n - 1) (p n) = true) : ordB p (n + 1) = true := by
  rw [ordB_iff] at h ⊢
  refine ⟨h.1, fun i h0 hi => ?_⟩
  by_cases e : i = n
  · subst e; exact hp
  · exact h.2 i h0 (by omega)
theorem ord_not {p : Nat → Int} {n i : Nat} (h0 : 0 < i) (hi : i < n) (hp : onWay p (i - 1) (p i) = false) : ordB p n = false := by
  rcases hb : ordB p n with _ | _
  · rfl
  · rw [ordB_iff] at hb
    have := hb.2 i h0 hi
    rw [hp] at this; cases this
theorem ord_root {p : Nat → Int} {n : Nat} (h : p 0 ≠ -1) : ordB p n = false := by
  rcases hb : ordB p n with _ | _
  · rfl
  · exact absurd ((ordB_iff p n).1 hb).1 h

/-- the last, the first kid of i among the first k nodes; the next one beside j -/
def lst (p : Nat → Int) : Nat → Int → Int
  | 0, _ => -1
  | k + 1, i => if p k = i then (k : Int) else lst p k i
def fst (p : Nat → Int) : Nat → Int → Int
  | 0, _ => -1
  | k + 1, i => if fst p k i < 0 ∧ p k = i then (k : Int) else fst p k i
def nxt (p : Nat → Int) : Nat → Nat → Int
  | 0, _ => -1
  | k + 1, j => if nxt p k j < 0 ∧ j < k ∧ p k = p j then (k : Int) else nxt p k j
theorem lst_bd (p : Nat → Int) (i : Int) : ∀ k, -1 ≤ lst p k i ∧ lst p k i < (k : Int)
  | 0 => by simp [lst]
  | k + 1 => by
    have := lst_bd p i k
    unfold lst
    split <;> omega
theorem fst_bd (p : Nat → Int) (i : Int) : ∀ k, -1 ≤ fst p k i ∧ fst p k i < (k : Int)
  | 0 => by simp [fst]
  | k + 1 => by
    have := fst_bd p i k
    unfold fst
    split <;> omega
theorem nxt_bd (p : Nat → Int) (j : Nat) : ∀ k, -1 ≤ nxt p k j ∧ nxt p k j < (k : Int)
  | 0 => by simp [nxt]
  | k + 1 => by
    have := nxt_bd p j k
    unfold nxt
    split <;> omega
/-- there is a first kid just if there is a last one -/
theorem fst_lst (p : Nat → Int) (i : Int) : ∀ k, fst p k i < 0 ↔ lst p k i < 0
  | 0 => by simp [fst, lst]
  | k + 1 => by
    have := fst_lst p i k
    unfold fst lst
    split <;> split <;> omega
theorem lst_par (p : Nat → Int) (i : Int) : ∀ k, 0 ≤ lst p k i → p (lst p k i).toNat = i
  | 0, h => by simp [lst] at h
  | k + 1, h => by
    unfold lst at h ⊢
    split
    · rename_i e; simpa using e
    · rename_i e; rw [if_neg e] at h; exact lst_par p i k h
theorem fst_par (p : Nat → Int) (i : Int) : ∀ k, 0 ≤ fst p k i → p (fst p k i).toNat = i
  | 0, h => by simp [fst] at h
  | k + 1, h => by
    unfold fst at h ⊢
    split
    · rename_i e; simpa using e.2
    · rename_i e; rw [if_neg e] at h; exact fst_par p i k h
/-- of the nodes so far the last kid is the one beside which no next stands -/
theorem nxt_lst (p : Nat → Int) (j : Nat) : ∀ k, j < k → (nxt p k j < 0 ↔ lst p k (p j) = (j : Int))
  | 0, h => by omega
  | k + 1, h => by
    by_cases e : j = k
    · subst e
      have hn : nxt p j j < 0 := by
        have : ∀ m, m ≤ j → nxt p m j < 0 := by
          intro m
          induction m with
          | zero => intro _; simp [nxt]
          | succ m ih => intro hm; unfold nxt; rw [if_neg (by omega)]; exact ih (by omega)
        exact this j (Nat.le_refl _)
      have h1 : nxt p (j + 1) j = nxt p j j := by rw [nxt, if_neg (by omega)]
      have h2 : lst p (j + 1) (p j) = (j : Int) := by rw [lst, if_pos rfl]
      rw [h1, h2]
      exact ⟨fun _ => rfl, fun _ => hn⟩
    · have ih := nxt_lst p j k (by omega)
      have hb := lst_bd p (p j) k
      by_cases c : p k = p j
      · have h2 : lst p (k + 1) (p j) = (k : Int) := by rw [lst, if_pos c]
        rw [h2]
        by_cases d : nxt p k j < 0
        · have h1 : nxt p (k + 1) j = (k : Int) := by rw [nxt, if_pos ⟨d, by omega, c⟩]
          rw [h1]; omega
        · have h1 : nxt p (k + 1) j = nxt p k j := by rw [nxt, if_neg (fun x => d x.1)]
          rw [h1]; omega
      · have h2 : lst p (k + 1) (p j) = lst p k (p j) := by rw [lst, if_neg c]
        have h1 : nxt p (k + 1) j = nxt p k j := by rw [nxt, if_neg (fun x => c x.2.2)]
        rw [h1, h2]; exact ih
theorem nxt_low (p : Nat → Int) (j : Nat) : ∀ k, k ≤ j + 1 → nxt p k j = -1
  | 0, _ => rfl
  | k + 1, h => by rw [nxt, if_neg (by omega)]; exact nxt_low p j k (by omega)
/-- how the links change when node k comes, below a parent -/
theorem lst_same {p : Nat → Int} {k : Nat} {i : Int} (h : p k ≠ i) : lst p (k + 1) i = lst p k i := by rw [lst, if_neg h]
theorem lst_new (p : Nat → Int) (k : Nat) : lst p (k + 1) (p k) = (k : Int) := by rw [lst, if_pos rfl]
theorem fst_same {p : Nat → Int} {k : Nat} {i : Int} (h : p k ≠ i ∨ 0 ≤ lst p k i) : fst p (k + 1) i = fst p k i := by
  have := fst_lst p i k
  rw [fst, if_neg]; omega
theorem fst_new {p : Nat → Int} {k : Nat} (h : lst p k (p k) < 0) : fst p (k + 1) (p k) = (k : Int) := by
  have := fst_lst p (p k) k
  rw [fst, if_pos ⟨by omega, rfl⟩]
theorem nxt_same {p : Nat → Int} {k j : Nat} (hj : j < k) (h : lst p k (p k) ≠ (j : Int)) : nxt p (k + 1) j = nxt p k j := by
  have := nxt_lst p j k hj
  rw [nxt, if_neg]
  rintro ⟨h1, _, h3⟩
  exact h (by rw [h3]; exact this.1 h1)
theorem nxt_new {p : Nat → Int} {k j : Nat} (hj : j < k) (h : lst p k (p k) = (j : Int)) : nxt p (k + 1) j = (k : Int) := by
  have h1 := lst_par p (p k) k (by omega)
  have h2 : p j = p k := by rw [h] at h1; simpa using h1
  have := nxt_lst p j k hj
  rw [nxt, if_pos ⟨this.2 (by rw [h2]; exact h), hj, h2.symm⟩]

/-- what a node's links must be, of n nodes -/
structure Lk where
  first : Int
  last : Int
  prev : Int
  next : Int
def lkAt (p : Nat → Int) (k i : Nat) : Lk := ⟨fst p k i, lst p k i, lst p i (p i), nxt p k i⟩
def par (l : List Nd) (i : Nat) : Int := match l[i]? with | some x => x.parent | none => -1
def attrsB (al : List Att) : Bool := decide (al.length ≤ 64) && (List.range al.length).all fun i => !((al.getD i ([], [])).1 == []) && !((al.take i).any fun b => b.1 == (al.getD i ([], [])).1)
def wellB (x : Nd) : Bool :=
  if x.kind = 1 then !(x.name == []) && (x.text == []) && attrsB x.attrs
  else if x.kind = 2 then !(x.text == []) && (x.name == []) && decide (x.attrs.length = 0) && decide (x.first < 0)
  else false
def linkB (p : Nat → Int) (n i : Nat) (x : Nd) : Bool := x.first == (lkAt p n i).first && x.last == (lkAt p n i).last && x.prev == (lkAt p n i).prev && x.next == (lkAt p n i).next
def eachB (l : List Nd) : Bool := (List.range l.length).all fun i => match l[i]? with | some x => linkB (par l) l.length i x && wellB x | none => false
def saidB (l : List Nd) : Bool := match l with | [] => false | x :: _ => decide (x.kind = 1) && ordB (par l) l.length && eachB l
def deepB (l : List Nd) : Bool := (List.range l.length).any fun i => decide (256 < (anc (par l) i).length)
/-- what a tree is refused for -/
def rightE (l : List Nd) : Int := if 4096 < l.length then 4 else if saidB l = false then 10 else if deepB l = true then 5 else 0
theorem par_get {l : List Nd} {i : Nat} (h : i < l.length) : par l i = (l[i]'h).parent := by simp [par, List.getElem?_eq_getElem h]
end Go.Proofs.Fd
