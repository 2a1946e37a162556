/- Plain facts: what a tree is made of, its nodes in document order, and that they are in order. No walk. No conditions. -/
import Derived.Test.YtdogcnmepaemjaaDoorDk
namespace Go.Proofs.Fd
set_option linter.unusedVariables false

inductive Pt where
  | mk (name text : Str) (attrs : List Att) (kids : List Pt)
def Pt.kids : Pt → List Pt | .mk _ _ _ ks => ks
def Pt.name : Pt → Str | .mk nm _ _ _ => nm
/-- the node that a part is by itself, below a parent -/
def Pt.node (p : Pt) (parent : Int) : Nd := match p with
  | .mk nm tx al _ => if nm = [] then ⟨2, [], tx, [], parent, 0, 0, 0, 0⟩ else ⟨1, nm, [], al, parent, 0, 0, 0, 0⟩
theorem Pt.node_parent (p : Pt) (parent : Int) : (p.node parent).parent = parent := by
  obtain ⟨nm, tx, al, ks⟩ := p
  by_cases c : nm = [] <;> simp [Pt.node, c]
/-- the nodes of a part, from number n on, not linked yet -/
def pre : Pt → Int → Nat → List Nd
  | .mk nm tx al ks, parent, n => Pt.node (.mk nm tx al ks) parent :: (if nm = [] then [] else preL ks n (n + 1))
where preL : List Pt → Nat → Nat → List Nd
  | [], _, _ => []
  | k :: t, parent, n => pre k parent n ++ preL t parent (n + (pre k parent n).length)
abbrev preL := pre.preL
theorem pre_eq (p : Pt) (parent : Int) (n : Nat) : pre p parent n = p.node parent :: (if p.name = [] then [] else preL p.kids n (n + 1)) := by
  cases p; rw [pre]; rfl
theorem preL_nil (parent n : Nat) : preL [] parent n = [] := by unfold preL; rw [pre.preL]
theorem preL_cons (k : Pt) (t : List Pt) (parent n : Nat) : preL (k :: t) parent n = pre k parent n ++ preL t parent (n + (pre k parent n).length) := by unfold preL; rw [pre.preL]
theorem preL_append : ∀ (a b : List Pt) (parent n : Nat), preL (a ++ b) parent n = preL a parent n ++ preL b parent (n + (preL a parent n).length)
  | [], b, parent, n => by rw [preL_nil]; simp
  | k :: t, b, parent, n => by
    rw [List.cons_append, preL_cons, preL_cons, preL_append t b parent, List.append_assoc, List.length_append, Nat.add_assoc]
theorem preL_take_succ {ks : List Pt} {j : Nat} (h : j < ks.length) (parent n : Nat) : preL (ks.take (j + 1)) parent n = preL (ks.take j) parent n ++ pre (ks[j]'h) parent (n + (preL (ks.take j) parent n).length) := by
  rw [List.take_succ_eq_append_getElem h, preL_append, preL_cons, preL_nil, List.append_nil]
theorem pre_pos (p : Pt) (parent : Int) (n : Nat) : 0 < (pre p parent n).length := by rw [pre_eq]; simp
/-- how many nodes hangs neither on the parent nor on the number -/
def cnt : Pt → Nat
  | .mk nm _ _ ks => 1 + (if nm = [] then 0 else cntL ks)
where cntL : List Pt → Nat
  | [] => 0
  | k :: t => cnt k + cntL t
abbrev cntL := cnt.cntL
theorem cnt_eq (p : Pt) : cnt p = 1 + (if p.name = [] then 0 else cntL p.kids) := by cases p; rw [cnt]; rfl
theorem cntL_nil : cntL [] = 0 := by unfold cntL; rw [cnt.cntL]
theorem cntL_cons (k : Pt) (t : List Pt) : cntL (k :: t) = cnt k + cntL t := by unfold cntL; rw [cnt.cntL]
/-- how deep the data go: for inductions -/
def psize : Pt → Nat
  | .mk _ _ _ ks => 1 + psizeL ks
where psizeL : List Pt → Nat
  | [] => 0
  | k :: t => psize k + psizeL t
abbrev psizeL := psize.psizeL
theorem psize_eq (p : Pt) : psize p = 1 + psizeL p.kids := by cases p; rw [psize]; rfl
theorem psizeL_nil : psizeL [] = 0 := by unfold psizeL; rw [psize.psizeL]
theorem psizeL_cons (k : Pt) (t : List Pt) : psizeL (k :: t) = psize k + psizeL t := by unfold psizeL; rw [psize.psizeL]
theorem psize_kid : ∀ (ks : List Pt) (k : Pt), k ∈ ks → psize k ≤ psizeL ks
  | [], k, h => by cases h
  | x :: t, k, h => by
    rw [psizeL_cons]
    rcases List.mem_cons.1 h with rfl | h
    · omega
    · have := psize_kid t k h; omega
theorem psize_less {p k : Pt} (h : k ∈ p.kids) : psize k < psize p := by
  have := psize_kid _ _ h
  rw [psize_eq p]; omega
/-- an induction over parts: what holds of a part if it holds of all its kids holds of all -/
theorem Pt.ind {C : Pt → Prop} (h : ∀ p, (∀ k ∈ p.kids, C k) → C p) (p : Pt) : C p := by
  have : ∀ n p, psize p ≤ n → C p := by
    intro n
    induction n with
    | zero => intro p hp; rw [psize_eq] at hp; omega
    | succ n ih => intro p hp; exact h p (fun k hk => ih k (by have := psize_less hk; omega))
  exact this _ p (Nat.le_refl _)
theorem pre_cnt (p : Pt) : ∀ (parent : Int) (n : Nat), (pre p parent n).length = cnt p := by
  refine Pt.ind (C := fun p => ∀ (parent : Int) (n : Nat), (pre p parent n).length = cnt p) (fun p ih parent n => ?_) p
  rw [pre_eq, cnt_eq]
  have hL : ∀ (ks : List Pt), (∀ k ∈ ks, k ∈ p.kids) → ∀ (parent n : Nat), (preL ks parent n).length = cntL ks := by
    intro ks
    induction ks with
    | nil => intro _ parent n; rw [preL_nil, cntL_nil]; rfl
    | cons k t iht =>
      intro hk parent n
      rw [preL_cons, cntL_cons, List.length_append, ih k (hk k (.head _)), iht (fun x hx => hk x (.tail _ hx))]
  by_cases c : p.name = []
  · rw [if_pos c, if_pos c]; rfl
  · rw [if_neg c, if_neg c, List.length_cons, hL _ (fun k hk => hk)]; omega
theorem preL_cnt : ∀ (ks : List Pt) (parent n : Nat), (preL ks parent n).length = cntL ks
  | [], parent, n => by rw [preL_nil, cntL_nil]; rfl
  | k :: t, parent, n => by rw [preL_cons, cntL_cons, List.length_append, pre_cnt, preL_cnt t]
theorem cntL_append : ∀ (a b : List Pt), cntL (a ++ b) = cntL a + cntL b
  | [], b => by rw [cntL_nil]; simp
  | k :: t, b => by rw [List.cons_append, cntL_cons, cntL_cons, cntL_append t b]; omega
theorem cntL_take {ks : List Pt} {j : Nat} (h : j < ks.length) : cntL (ks.take (j + 1)) = cntL (ks.take j) + cnt (ks[j]'h) := by
  rw [List.take_succ_eq_append_getElem h, cntL_append, cntL_cons, cntL_nil]; omega
theorem cntL_split (ks : List Pt) (j : Nat) : cntL (ks.take j) + cntL (ks.drop j) = cntL ks := by
  rw [← cntL_append, List.take_append_drop]

/-- lists that go on: the way up of what was there is what it was -/
theorem par_app {L R : List Nd} {i : Nat} (h : i < L.length) : par (L ++ R) i = par L i := by
  rw [par_get h, par_get (by rw [List.length_append]; omega), List.getElem_append_left h]
theorem onWay_app {L R : List Nd} {i : Nat} (h : i < L.length) (a : Int) : onWay (par (L ++ R)) i a = onWay (par L) i a := by
  unfold onWay
  rw [anc_congr (par (L ++ R)) (par L) i i (Nat.le_refl _) (fun j hj => par_app (by omega))]
theorem ord_congr {p q : Nat → Int} {n : Nat} (h : ∀ i, i < n → p i = q i) (hn : 0 < n) (ho : ordB p n = true) : ordB q n = true := by
  rw [ordB_iff] at ho ⊢
  refine ⟨by rw [← h 0 hn]; exact ho.1, fun i h0 hi => ?_⟩
  rw [← h i hi]
  have := ho.2 i h0 hi
  unfold onWay at this ⊢
  rw [← anc_congr p q (i - 1) (i - 1) (Nat.le_refl _) (fun j hj => h j (by omega))]
  exact this
theorem onWay_up {p : Nat → Int} : ∀ (n i : Nat), i ≤ n → ∀ j : Nat, onWay p i j = true → 0 ≤ p j → p j < (j : Int) → onWay p i (p j) = true
  | n, i, hn, j, h, h0, h1 => by
    have hb := onWay_le p i j h
    by_cases e : j = i
    · subst e
      rw [onWay_step p j (p j) h0 h1 (by omega)]
      obtain ⟨q, hq⟩ := Int.eq_ofNat_of_zero_le h0
      rw [hq, Int.toNat_natCast]; exact onWay_self p q
    · by_cases c : 0 ≤ p i ∧ p i < (i : Int)
      · rw [onWay_step p i j c.1 c.2 (by omega)] at h
        rw [onWay_step p i (p j) c.1 c.2 (by omega)]
        cases n with
        | zero => omega
        | succ n => exact onWay_up n (p i).toNat (by omega) j h h0 h1
      · unfold onWay at h
        rw [anc_stop p i c] at h
        simp at h; omega
/-- a list to which a part's nodes may be added below a parent -/
def OpenAt (L : List Nd) (parent : Int) : Prop := (L = [] ∧ parent = -1) ∨ (0 < L.length ∧ ordB (par L) L.length = true ∧ onWay (par L) (L.length - 1) parent = true)
theorem open_one {L : List Nd} {x : Nd} (h : OpenAt L x.parent) : ordB (par (L ++ [x])) (L ++ [x]).length = true ∧ onWay (par (L ++ [x])) ((L ++ [x]).length - 1) (L.length : Int) = true := by
  have hx : par (L ++ [x]) L.length = x.parent := by rw [par_get (by simp)]; simp
  have hl : (L ++ [x]).length = L.length + 1 := by simp
  rw [hl, Nat.add_sub_cancel]
  refine ⟨?_, onWay_self _ _⟩
  rcases h with ⟨rfl, h⟩ | ⟨h0, h1, h2⟩
  · rw [ordB_iff]
    refine ⟨?_, fun i h0 h1 => by simp at h1; omega⟩
    simpa [h] using hx
  · refine ord_succ (ord_congr (fun i hi => (par_app hi).symm) h0 h1) h0 ?_
    rw [hx, onWay_app (by omega)]; exact h2
theorem pre_open (p : Pt) : ∀ (L : List Nd) (parent : Int), OpenAt L parent → ordB (par (L ++ pre p parent L.length)) (L ++ pre p parent L.length).length = true ∧ onWay (par (L ++ pre p parent L.length)) ((L ++ pre p parent L.length).length - 1) (L.length : Int) = true := by
  refine Pt.ind (C := fun p => ∀ (L : List Nd) (parent : Int), OpenAt L parent → ordB (par (L ++ pre p parent L.length)) (L ++ pre p parent L.length).length = true ∧ onWay (par (L ++ pre p parent L.length)) ((L ++ pre p parent L.length).length - 1) (L.length : Int) = true) (fun p ih L parent ho => ?_) p
  have hnp := p.node_parent parent
  have h1 := open_one (L := L) (x := p.node parent) (by rw [hnp]; exact ho)
  rw [pre_eq]
  by_cases c : p.name = []
  · rw [if_pos c]; exact h1
  · rw [if_neg c, List.append_cons]
    have hL : ∀ (ks : List Pt), (∀ k ∈ ks, k ∈ p.kids) → ∀ (M : List Nd), L.length < M.length → ordB (par M) M.length = true → onWay (par M) (M.length - 1) (L.length : Int) = true →
        ordB (par (M ++ preL ks L.length M.length)) (M ++ preL ks L.length M.length).length = true ∧ onWay (par (M ++ preL ks L.length M.length)) ((M ++ preL ks L.length M.length).length - 1) (L.length : Int) = true := by
      intro ks
      induction ks with
      | nil => intro _ M _ a b; rw [preL_nil, List.append_nil]; exact ⟨a, b⟩
      | cons k t iht =>
        intro hk M hm a b
        obtain ⟨q1, q2⟩ := ih k (hk k (.head _)) M (L.length : Int) (.inr ⟨by omega, a, b⟩)
        have hgt : M.length < (M ++ pre k (L.length : Int) M.length).length := by rw [List.length_append]; have := pre_pos k (L.length : Int) M.length; omega
        have hpm : par (M ++ pre k (L.length : Int) M.length) M.length = (L.length : Int) := by
          rw [par_get hgt, List.getElem_append_right (Nat.le_refl _)]
          have : (pre k (L.length : Int) M.length)[0]'(pre_pos k _ _) = k.node (L.length : Int) := by simp only [pre_eq, List.getElem_cons_zero]
          simp only [Nat.sub_self, this]
          exact k.node_parent _
        have q3 := onWay_up (p := par (M ++ pre k (L.length : Int) M.length)) _ _ (Nat.le_refl _) M.length q2 (by omega) (by omega)
        rw [hpm] at q3
        have := iht (fun x hx => hk x (.tail _ hx)) (M ++ pre k (L.length : Int) M.length) (by omega) q1 q3
        rw [preL_cons, ← List.append_assoc]
        rwa [List.length_append (as := M)] at this
    have := hL p.kids (fun k hk => hk) (L ++ [p.node parent]) (by simp) h1.1 h1.2
    simpa only [List.length_append, List.length_singleton] using this
/-- a part's nodes are in document order -/
theorem pre_ord (p : Pt) : ordB (par (pre p (-1) 0)) (pre p (-1) 0).length = true := (pre_open p [] (-1) (.inl ⟨rfl, rfl⟩)).1
end Go.Proofs.Fd
