/- Plain facts: the document's own laying of a part, node by node with its links, is what the parents' links are. No walk. No conditions. Words on memory: parts of the call's own, whose cells lie in blocks of some kind; a list of them that grows. No conditions. Plain facts: the document's own laying makes the very tree; a part without what is not looked at. The pure half of Ea and Eh, where the seat lacks their functions. No walk. No conditions. Plain facts: the part that a node of a list stands for; of what a part became it is that part without what is not looked at. No walk. No conditions. Plain facts: what the nodes of a part stand for is that part, cleaned. No walk. No conditions. Plain facts: of the tree that a part became, the root stands for that part, cleaned. No walk. No conditions. Plain facts: every list of nodes that is as said is the tree of some part. No walk. No conditions. Plain facts: every list of nodes that is as said is the tree of some part, and of its own. No walk. No conditions. -/
import Derived.Test.YtdogcnmepaemjaaDoorDp
import Derived.Test.YtdogcnmepaemjaaDoorDq
import Derived.Test.YtdogcnmepaemjaaDoorOne
import Derived.Test.YtdogcnmepaemjaaDoorDo
import Derived.Test.YtdogcnmepaemjaaDoorDl
namespace Go.Proofs.Fd
set_option linter.unusedVariables false

def setNext (l : List Nd) (i : Nat) (k : Int) : List Nd := l.modify i fun x => { x with next := k }
def setFirst (l : List Nd) (i : Nat) (k : Int) : List Nd := l.modify i fun x => { x with first := k }
def setLast (l : List Nd) (i : Nat) (k : Int) : List Nd := l.modify i fun x => { x with last := k }
/-- a part's own node as it is laid -/
def Pt.laid (p : Pt) (parent prev : Int) : Nd := match p with
  | .mk nm tx al _ => if nm = [] then ⟨2, [], tx, [], parent, -1, -1, prev, -1⟩ else ⟨1, nm, [], al, parent, -1, -1, prev, -1⟩
/-- a kid's place is told to the one ahead of it, or to the parent -/
def tell (l : List Nd) (r : Nat) (last : Int) (k : Nat) : List Nd := if 0 ≤ last then setNext l last.toNat k else setFirst l r k
def layF : List Nd → Pt → Int → Int → List Nd
  | l, .mk nm tx al ks, parent, prev => if nm = [] then l ++ [Pt.laid (.mk nm tx al ks) parent prev] else setLast (layK (l ++ [Pt.laid (.mk nm tx al ks) parent prev]) ks l.length (-1)).1 l.length (layK (l ++ [Pt.laid (.mk nm tx al ks) parent prev]) ks l.length (-1)).2
where layK : List Nd → List Pt → Nat → Int → List Nd × Int
  | l, [], _, last => (l, last)
  | l, k :: t, r, last => layK (tell (layF l k r last) r last l.length) t r l.length
abbrev layK := layF.layK
theorem layF_eq (l : List Nd) (p : Pt) (parent prev : Int) : layF l p parent prev = if p.name = [] then l ++ [p.laid parent prev] else setLast (layK (l ++ [p.laid parent prev]) p.kids l.length (-1)).1 l.length (layK (l ++ [p.laid parent prev]) p.kids l.length (-1)).2 := by
  cases p; rw [layF]; rfl
theorem layK_nil (l : List Nd) (r : Nat) (last : Int) : layK l [] r last = (l, last) := by unfold layK; rw [layF.layK]
theorem layK_cons (l : List Nd) (k : Pt) (t : List Pt) (r : Nat) (last : Int) : layK l (k :: t) r last = layK (tell (layF l k r last) r last l.length) t r l.length := by unfold layK; rw [layF.layK]
theorem layK_append : ∀ (a b : List Pt) (l : List Nd) (r : Nat) (last : Int), layK l (a ++ b) r last = layK (layK l a r last).1 b r (layK l a r last).2
  | [], b, l, r, last => by rw [layK_nil]; rfl
  | k :: t, b, l, r, last => by rw [List.cons_append, layK_cons, layK_cons, layK_append t b]

/-- links do not change by nodes that stand elsewhere -/
theorem fst_ext {p : Nat → Int} {i : Int} {k : Nat} : ∀ (m : Nat), (∀ j, k ≤ j → j < k + m → p j ≠ i) → fst p (k + m) i = fst p k i
  | 0, _ => rfl
  | m + 1, h => by rw [← Nat.add_assoc, fst_same (.inl (h (k + m) (by omega) (by omega)))]; exact fst_ext m (fun j h1 h2 => h j h1 (by omega))
theorem lst_ext {p : Nat → Int} {i : Int} {k : Nat} : ∀ (m : Nat), (∀ j, k ≤ j → j < k + m → p j ≠ i) → lst p (k + m) i = lst p k i
  | 0, _ => rfl
  | m + 1, h => by rw [← Nat.add_assoc, lst_same (h (k + m) (by omega) (by omega))]; exact lst_ext m (fun j h1 h2 => h j h1 (by omega))
theorem nxt_ext {p : Nat → Int} {i k : Nat} : ∀ (m : Nat), (∀ j, k ≤ j → j < k + m → p j ≠ p i) → nxt p (k + m) i = nxt p k i
  | 0, _ => rfl
  | m + 1, h => by
    rw [← Nat.add_assoc, nxt, if_neg (fun e => h (k + m) (by omega) (by omega) e.2.2)]
    exact nxt_ext m (fun j h1 h2 => h j h1 (by omega))
theorem fst_cong {p q : Nat → Int} {i : Int} : ∀ (k : Nat), (∀ j, j < k → p j = q j) → fst p k i = fst q k i
  | 0, _ => rfl
  | k + 1, h => by rw [fst, fst, fst_cong k (fun j hj => h j (by omega)), h k (by omega)]
theorem lst_cong {p q : Nat → Int} {i : Int} : ∀ (k : Nat), (∀ j, j < k → p j = q j) → lst p k i = lst q k i
  | 0, _ => rfl
  | k + 1, h => by rw [lst, lst, lst_cong k (fun j hj => h j (by omega)), h k (by omega)]
theorem nxt_cong {p q : Nat → Int} {i : Nat} : ∀ (k : Nat), (∀ j, j < k → p j = q j) → p i = q i → nxt p k i = nxt q k i
  | 0, _, _ => rfl
  | k + 1, h, hi => by rw [nxt, nxt, nxt_cong k (fun j hj => h j (by omega)) hi, h k (by omega), hi]
theorem lk_cong {p q : Nat → Int} {k i : Nat} (h : ∀ j, j < k → p j = q j) (hi : i < k) : lkAt p k i = lkAt q k i := by
  unfold lkAt
  rw [fst_cong k h, lst_cong k h, lst_cong i (fun j hj => h j (by omega)), h i hi, nxt_cong k h (h i hi)]
/-- a node without its links; a node's links -/
def bare (x : Nd) : Nd := { x with first := 0, last := 0, prev := 0, next := 0 }
def lkOf (x : Nd) : Lk := ⟨x.first, x.last, x.prev, x.next⟩
theorem bare_parent (x : Nd) : (bare x).parent = x.parent := rfl
theorem par_bare (l : List Nd) (i : Nat) : par (l.map bare) i = par l i := by
  unfold par
  rw [List.getElem?_map]
  cases l[i]? <;> rfl
theorem par_eq_of {l m : List Nd} (h : l.map bare = m.map bare) (i : Nat) : par l i = par m i := by rw [← par_bare l, h, par_bare]
theorem pre_bare (p : Pt) : ∀ (parent : Int) (n : Nat), (pre p parent n).map bare = pre p parent n := by
  refine Pt.ind (C := fun p => ∀ (parent : Int) (n : Nat), (pre p parent n).map bare = pre p parent n) (fun p ih parent n => ?_) p
  have hL : ∀ (ks : List Pt), (∀ k ∈ ks, k ∈ p.kids) → ∀ (r n : Nat), (preL ks r n).map bare = preL ks r n := by
    intro ks
    induction ks with
    | nil => intro _ r n; rw [preL_nil]; rfl
    | cons k t iht => intro hk r n; rw [preL_cons, List.map_append, ih k (hk k (.head _)), iht (fun x hx => hk x (.tail _ hx))]
  have hn : bare (p.node parent) = p.node parent := by
    obtain ⟨nm, tx, al, ks⟩ := p
    by_cases c : nm = [] <;> simp [Pt.node, c, bare]
  rw [pre_eq, List.map_cons, hn]
  by_cases c : p.name = []
  · rw [if_pos c]; rfl
  · rw [if_neg c, hL _ (fun k hk => hk)]
theorem laid_bare (p : Pt) (parent prev : Int) : bare (p.laid parent prev) = p.node parent := by
  obtain ⟨nm, tx, al, ks⟩ := p
  by_cases c : nm = [] <;> simp [Pt.laid, Pt.node, c, bare]
theorem laid_lk (p : Pt) (parent prev : Int) : lkOf (p.laid parent prev) = ⟨-1, -1, prev, -1⟩ := by
  obtain ⟨nm, tx, al, ks⟩ := p
  by_cases c : nm = [] <;> simp [Pt.laid, c, lkOf]
theorem modify_bare (l : List Nd) (i : Nat) (f : Nd → Nd) (hf : ∀ x, bare (f x) = bare x) : (l.modify i f).map bare = l.map bare := by
  apply List.ext_getElem?
  intro j
  rw [List.getElem?_map, List.getElem?_map, List.getElem?_modify]
  split
  · cases l[j]? <;> simp [hf]
  · cases l[j]? <;> rfl
theorem tell_bare (l : List Nd) (r : Nat) (last : Int) (k : Nat) : (tell l r last k).map bare = l.map bare := by
  unfold tell setNext setFirst
  split
  · exact modify_bare _ _ _ (fun x => rfl)
  · exact modify_bare _ _ _ (fun x => rfl)
theorem tell_length (l : List Nd) (r : Nat) (last : Int) (k : Nat) : (tell l r last k).length = l.length := by
  have := congrArg List.length (tell_bare l r last k)
  simpa using this

/-- what stands of a part below r, while its kids are laid: all that is behind r has the links of the nodes so far; r itself but for its last kid -/
structure Laying (l : List Nd) (r : Nat) (prev last : Int) : Prop where
  len : r < l.length
  ord : ordB (par l) l.length = true
  way : onWay (par l) (l.length - 1) r = true
  root : ∀ h : r < l.length, lkOf (l[r]'h) = ⟨fst (par l) l.length r, -1, prev, -1⟩
  last_ : last = lst (par l) l.length r
  rest : ∀ i (h : i < l.length), r < i → lkOf (l[i]'h) = lkAt (par l) l.length i ∧ (r : Int) ≤ par l i
/-- what a part is when it is laid behind l -/
structure Laid (l : List Nd) (p : Pt) (parent prev : Int) (m : List Nd) : Prop where
  bares : m.map bare = l.map bare ++ pre p parent l.length
  old : ∀ i, i < l.length → m[i]? = l[i]?
  root : ∀ h : l.length < m.length, lkOf (m[l.length]'h) = ⟨fst (par m) m.length l.length, lst (par m) m.length l.length, prev, -1⟩
  rest : ∀ i (h : i < m.length), l.length < i → lkOf (m[i]'h) = lkAt (par m) m.length i ∧ (l.length : Int) ≤ par m i
theorem Laid.length {l m : List Nd} {p : Pt} {parent prev : Int} (h : Laid l p parent prev m) : m.length = l.length + cnt p := by
  have := congrArg List.length h.bares
  rw [List.length_map, List.length_append, List.length_map, pre_cnt] at this
  exact this
theorem Laid.par {l m : List Nd} {p : Pt} {parent prev : Int} (h : Laid l p parent prev m) (i : Nat) : Fd.par m i = Fd.par (l ++ pre p parent l.length) i := by
  refine par_eq_of ?_ i
  rw [h.bares, List.map_append, pre_bare]
theorem fst_keep {p : Nat → Int} {i : Int} {k : Nat} (h : 0 ≤ fst p k i) : ∀ m, fst p (k + m) i = fst p k i
  | 0 => rfl
  | m + 1 => by
    have ih := fst_keep h m
    have := fst_lst p i (k + m)
    rw [← Nat.add_assoc, fst_same (.inr (by omega)), ih]
theorem nxt_keep {p : Nat → Int} {i k : Nat} (h : 0 ≤ nxt p k i) : ∀ m, nxt p (k + m) i = nxt p k i
  | 0 => rfl
  | m + 1 => by
    have ih := nxt_keep h m
    rw [← Nat.add_assoc, nxt, if_neg (by omega), ih]
theorem tell_get {l : List Nd} {r : Nat} {last : Int} {k i : Nat} (h : i < l.length) : (tell l r last k)[i]'(by rw [tell_length]; exact h) =
    if 0 ≤ last then (if last.toNat = i then { (l[i]'h) with next := (k : Int) } else l[i]'h) else (if r = i then { (l[i]'h) with first := (k : Int) } else l[i]'h) := by
  unfold tell setNext setFirst
  split
  · simp only [List.getElem_modify]
  · simp only [List.getElem_modify]
set_option maxHeartbeats 1000000 in
theorem kid_step {l m : List Nd} {r : Nat} {prev last : Int} {k : Pt} (h : Laying l r prev last) (hm : Laid l k (r : Int) last m) : Laying (tell m r last l.length) r prev l.length := by
  have hK := hm.length
  have hc : 0 < cnt k := by have := pre_pos k 0 0; rwa [pre_cnt] at this
  have hopen : OpenAt l (r : Int) := .inr ⟨by have := h.len; omega, h.ord, h.way⟩
  obtain ⟨o1, o2⟩ := pre_open k l r hopen
  have hpm : par m = par (l ++ pre k (r : Int) l.length) := funext hm.par
  have hpt : par (tell m r last l.length) = par m := funext (par_eq_of (tell_bare _ _ _ _))
  have hlen : (l ++ pre k (r : Int) l.length).length = m.length := by rw [List.length_append, pre_cnt, hK]
  rw [← hpm, hlen] at o1 o2
  have hP : ∀ i, i < l.length → par m i = par l i := fun i hi => by rw [hpm]; exact par_app hi
  have hPN : par m l.length = (r : Int) := by
    rw [hpm, par_get (by rw [hlen]; omega), List.getElem_append_right (Nat.le_refl _)]
    have : (pre k (r : Int) l.length)[0]'(pre_pos k _ _) = k.node (r : Int) := by simp only [pre_eq, List.getElem_cons_zero]
    simp only [Nat.sub_self, this]
    exact k.node_parent _
  have hPge : ∀ i, l.length < i → i < m.length → (l.length : Int) ≤ par m i := fun i h1 h2 => (hm.rest i h2 h1).2
  have hr := h.len
  have hold : ∀ i (h1 : i < l.length) (h2 : i < m.length), m[i]'h2 = l[i]'h1 := fun i h1 h2 => by
    have := hm.old i h1
    rw [List.getElem?_eq_getElem h1, List.getElem?_eq_getElem h2] at this
    injection this
  have hlast : last = lst (par m) l.length r := by rw [h.last_]; exact (lst_cong _ hP).symm
  have hlb := lst_bd (par m) (r : Int) l.length
  have hfl := fst_lst (par m) (r : Int) l.length
  have hlr : 0 ≤ last → (r : Int) < last := fun h0 => by
    have h1 := lst_par (par m) (r : Int) l.length (by omega)
    rw [← hlast] at h1
    have h2 := ord_lt o1 (i := last.toNat) (by
      rcases Nat.eq_zero_or_pos last.toNat with e | e
      · rw [e, ((ordB_iff _ _).1 o1).1] at h1; omega
      · exact e) (by omega)
    omega
  have hne : ∀ i : Nat, r < i → i < l.length → ∀ j, l.length ≤ j → j < m.length → par m j ≠ (i : Int) := fun i h1 h2 j h3 h4 e => by
    by_cases ej : j = l.length
    · subst ej; omega
    · have := hPge j (by omega) h4; omega
  have hroot1 : fst (par m) m.length r = if 0 ≤ last then fst (par m) l.length r else (l.length : Int) := by
    rw [hK]
    split
    · exact fst_keep (by omega) _
    · have e1 : fst (par m) (l.length + 1) r = (l.length : Int) := by rw [← hPN]; exact fst_new (by rw [hPN]; omega)
      have e2 := fst_keep (p := par m) (i := (r : Int)) (k := l.length + 1) (by omega) (cnt k - 1)
      rw [show l.length + 1 + (cnt k - 1) = l.length + cnt k by omega] at e2
      rw [e2, e1]
  have hlst : lst (par m) m.length r = (l.length : Int) := by
    have e1 : lst (par m) (l.length + 1) r = (l.length : Int) := by rw [← hPN]; exact lst_new _ _
    have e2 := lst_ext (p := par m) (i := (r : Int)) (k := l.length + 1) (cnt k - 1) (fun j h1 h2 => by have := hPge j (by omega) (by omega); omega)
    rw [show l.length + 1 + (cnt k - 1) = m.length by omega] at e2
    rw [e2, e1]
  have hfr : fst (par m) l.length r = fst (par l) l.length r := fst_cong _ hP
  refine ⟨by rw [tell_length]; omega, by rw [hpt, tell_length]; exact o1, ?_, fun h1 => ?_, by rw [hpt, tell_length, hlst], fun i h1 h2 => ?_⟩
  · rw [hpt, tell_length]
    have := onWay_up (p := par m) _ _ (Nat.le_refl _) l.length o2 (by omega) (by omega)
    rwa [hPN] at this
  · have h2 : r < m.length := by omega
    have h3 := h.root hr
    rw [hpt, tell_length, tell_get h2, hroot1]
    have h4 := hold r hr h2
    by_cases c : 0 ≤ last
    · rw [if_pos c, if_neg (by have := hlr c; omega), if_pos c, h4, h3, hfr]
    · rw [if_neg c, if_pos rfl, if_neg c, h4]
      unfold lkOf at h3 ⊢
      injection h3 with a1 a2 a3 a4
      simp only [a2, a3, a4]
  · rw [tell_length] at h1
    rw [hpt, tell_length, tell_get h1]
    by_cases c1 : i < l.length
    · obtain ⟨r1, r2⟩ := h.rest i c1 h2
      have h4 := hold i c1 h1
      have e1 : fst (par m) m.length i = fst (par l) l.length i := by
        rw [hK, fst_ext (cnt k) (fun j q1 q2 => hne i h2 c1 j q1 (by omega))]; exact fst_cong _ hP
      have e2 : lst (par m) m.length i = lst (par l) l.length i := by
        rw [hK, lst_ext (cnt k) (fun j q1 q2 => hne i h2 c1 j q1 (by omega))]; exact lst_cong _ hP
      have e3 : lst (par m) i (par m i) = lst (par l) i (par l i) := by rw [hP i c1]; exact lst_cong _ (fun j hj => hP j (by omega))
      have hpi : par m i < (i : Int) := (ord_lt o1 (i := i) (by omega) (by omega)).2
      have hstep : (l.length : Nat) + 1 + (cnt k - 1) = m.length := by omega
      have hext : nxt (par m) m.length i = nxt (par m) (l.length + 1) i := by
        rw [← hstep]
        exact nxt_ext (cnt k - 1) (fun j q1 q2 e => by have := hPge j (by omega) (by omega); omega)
      have hn0 : nxt (par m) l.length i = nxt (par l) l.length i := nxt_cong _ hP (hP i c1)
      refine ⟨?_, by rw [hP i c1]; exact r2⟩
      unfold lkOf lkAt at r1
      injection r1 with a1 a2 a3 a4
      by_cases c : 0 ≤ last
      · rw [if_pos c]
        by_cases ci : last.toNat = i
        · rw [if_pos ci, h4]
          unfold lkOf lkAt
          have e4 : nxt (par m) m.length i = (l.length : Int) := by
            rw [hext]
            exact nxt_new c1 (by rw [hPN]; omega)
          simp only [a1, a2, a3, e1, e2, e3, e4]
        · rw [if_neg ci, h4]
          unfold lkOf lkAt
          have e4 : nxt (par m) m.length i = nxt (par l) l.length i := by
            rw [hext, nxt_same c1 (by rw [hPN]; omega), hn0]
          rw [a1, a2, a3, a4, e1, e2, e3, e4]
      · rw [if_neg c, if_neg (by omega), h4]
        unfold lkOf lkAt
        have e4 : nxt (par m) m.length i = nxt (par l) l.length i := by
          rw [hext, nxt_same c1 (by rw [hPN]; omega), hn0]
        rw [a1, a2, a3, a4, e1, e2, e3, e4]
    · by_cases c2 : i = l.length
      · subst c2
        have h5 := hm.root h1
        have e : ∀ x : Nd, (if 0 ≤ last then (if last.toNat = l.length then { x with next := (l.length : Int) } else x) else (if r = l.length then { x with first := (l.length : Int) } else x)) = x := fun x => by
          split
          · rw [if_neg (by omega)]
          · rw [if_neg (by omega)]
        rw [e, h5]
        refine ⟨?_, by rw [hPN]; exact Int.le_refl _⟩
        unfold lkAt
        have e3 : lst (par m) l.length (par m l.length) = last := by rw [hPN, hlast]
        have e4 : nxt (par m) m.length l.length = -1 := by
          have q := nxt_ext (p := par m) (i := l.length) (k := l.length + 1) (cnt k - 1) (fun j q1 q2 e => by have := hPge j (by omega) (by omega); rw [hPN] at e; omega)
          rw [show l.length + 1 + (cnt k - 1) = m.length by omega] at q
          rw [q, nxt_low _ _ _ (Nat.le_refl _)]
        rw [e3, e4]
      · have h5 := hm.rest i h1 (by omega)
        have e : ∀ x : Nd, (if 0 ≤ last then (if last.toNat = i then { x with next := (l.length : Int) } else x) else (if r = i then { x with first := (l.length : Int) } else x)) = x := fun x => by
          split
          · rw [if_neg (by omega)]
          · rw [if_neg (by omega)]
        rw [e]
        exact ⟨h5.1, by have := h5.2; omega⟩
theorem lst_lo (p : Nat → Int) (i : Int) : ∀ k, (∀ j, j < k → p j ≠ i) → lst p k i = -1
  | 0, _ => rfl
  | k + 1, h => by rw [lst_same (h k (by omega))]; exact lst_lo p i k (fun j hj => h j (by omega))
theorem fst_lo (p : Nat → Int) (i : Int) : ∀ k, (∀ j, j < k → p j ≠ i) → fst p k i = -1
  | 0, _ => rfl
  | k + 1, h => by rw [fst_same (.inl (h k (by omega)))]; exact fst_lo p i k (fun j hj => h j (by omega))
theorem ord_no {p : Nat → Int} {n : Nat} (h : ordB p n = true) {i j : Nat} (hj : j ≤ i) (hi : i < n) : p j ≠ (i : Int) := by
  by_cases h0 : j = 0
  · subst h0; have := ((ordB_iff p n).1 h).1; omega
  · have := ord_lt h (i := j) (by omega) (by omega); omega
theorem modify_ne {l : List Nd} {i j : Nat} (f : Nd → Nd) (h : i ≠ j) : (l.modify i f)[j]? = l[j]? := by
  rw [List.getElem?_modify]
  simp [h]
theorem tell_old {l : List Nd} {r : Nat} {last : Int} {k i : Nat} (hi : i < r) (hl : 0 ≤ last → (r : Int) < last) : (tell l r last k)[i]? = l[i]? := by
  unfold tell setNext setFirst
  split
  · rename_i c
    exact modify_ne _ (by have := hl c; omega)
  · exact modify_ne _ (by omega)
theorem Laying.last_lt {l : List Nd} {r : Nat} {prev last : Int} (h : Laying l r prev last) : 0 ≤ last → (r : Int) < last := fun h0 => by
  have h1 := lst_par (par l) (r : Int) l.length (by rw [← h.last_]; exact h0)
  rw [← h.last_] at h1
  have hb := lst_bd (par l) (r : Int) l.length
  rw [← h.last_] at hb
  have h2 := ord_lt h.ord (i := last.toNat) (by
    rcases Nat.eq_zero_or_pos last.toNat with e | e
    · rw [e, ((ordB_iff _ _).1 h.ord).1] at h1; omega
    · exact e) (by omega)
  omega
theorem lay_kids {ks : List Pt} (ih : ∀ k ∈ ks, ∀ (l : List Nd) (parent prev : Int), OpenAt l parent → Laid l k parent prev (layF l k parent prev)) : ∀ (l : List Nd) (r : Nat) (prev last : Int), Laying l r prev last →
    Laying (layK l ks r last).1 r prev (layK l ks r last).2 ∧ (layK l ks r last).1.map bare = l.map bare ++ preL ks r l.length ∧ ∀ i, i < r → (layK l ks r last).1[i]? = l[i]? := by
  induction ks with
  | nil => intro l r prev last h; rw [layK_nil, preL_nil, List.append_nil]; exact ⟨h, rfl, fun _ _ => rfl⟩
  | cons k t iht =>
    intro l r prev last h
    have hopen : OpenAt l (r : Int) := .inr ⟨by have := h.len; omega, h.ord, h.way⟩
    have hm := ih k (.head _) l r last hopen
    have hs := kid_step h hm
    obtain ⟨q1, q2, q3⟩ := iht (fun x hx => ih x (.tail _ hx)) _ r prev _ hs
    rw [layK_cons]
    refine ⟨q1, ?_, fun i hi => ?_⟩
    · rw [q2, tell_bare, tell_length, hm.bares, hm.length, preL_cons, List.append_assoc, pre_cnt]
    · rw [q3 i hi, tell_old hi h.last_lt, hm.old i (by have := h.len; omega)]
theorem lay_ok (p : Pt) : ∀ (l : List Nd) (parent prev : Int), OpenAt l parent → Laid l p parent prev (layF l p parent prev) := by
  refine Pt.ind (C := fun p => ∀ (l : List Nd) (parent prev : Int), OpenAt l parent → Laid l p parent prev (layF l p parent prev)) (fun p ih l parent prev ho => ?_) p
  have hx : (p.laid parent prev).parent = parent := by rw [← bare_parent, laid_bare]; exact p.node_parent parent
  have h1 := open_one (L := l) (x := p.laid parent prev) (by rw [hx]; exact ho)
  have hl1 : (l ++ [p.laid parent prev]).length = l.length + 1 := by simp
  have ef : fst (par (l ++ [p.laid parent prev])) (l.length + 1) (l.length : Nat) = -1 := fst_lo _ _ _ (fun j hj => ord_no h1.1 (by omega) (by rw [hl1]; omega))
  have el : lst (par (l ++ [p.laid parent prev])) (l.length + 1) (l.length : Nat) = -1 := lst_lo _ _ _ (fun j hj => ord_no h1.1 (by omega) (by rw [hl1]; omega))
  have hroot : ∀ h : l.length < (l ++ [p.laid parent prev]).length, lkOf ((l ++ [p.laid parent prev])[l.length]'h) = ⟨-1, -1, prev, -1⟩ := fun h => by
    rw [List.getElem_append_right (Nat.le_refl _)]
    simp only [Nat.sub_self, List.getElem_cons_zero]
    exact laid_lk p parent prev
  rw [layF_eq]
  by_cases c : p.name = []
  · rw [if_pos c]
    refine ⟨?_, fun i hi => List.getElem?_append_left hi, fun h => ?_, fun i h h2 => by rw [hl1] at h; omega⟩
    · rw [List.map_append, pre_eq, if_pos c]
      simp only [List.map_cons, List.map_nil, laid_bare]
    · rw [hroot h, hl1, ef, el]
  · rw [if_neg c]
    have hlay : Laying (l ++ [p.laid parent prev]) l.length prev (-1) := by
      refine ⟨by rw [hl1]; omega, h1.1, h1.2, fun h => by rw [hroot h, hl1, ef], by rw [hl1, el], fun i h h2 => by rw [hl1] at h; omega⟩
    obtain ⟨q1, q2, q3⟩ := lay_kids (ks := p.kids) ih _ _ _ _ hlay
    obtain ⟨s, last, hs⟩ : ∃ s last, layK (l ++ [p.laid parent prev]) p.kids l.length (-1) = (s, last) := ⟨_, _, rfl⟩
    rw [hs] at q1 q2 q3 ⊢
    dsimp only at q1 q2 q3 ⊢
    have hb : (setLast s l.length last).map bare = s.map bare := modify_bare _ _ _ (fun x => rfl)
    have hpe : par (setLast s l.length last) = par s := funext (par_eq_of hb)
    have hsl : (setLast s l.length last).length = s.length := by have := congrArg List.length hb; simpa using this
    have hget : ∀ i (h : i < s.length), (setLast s l.length last)[i]'(by rw [hsl]; exact h) = if l.length = i then { (s[i]'h) with last := last } else s[i]'h := fun i h => by
      unfold setLast; simp only [List.getElem_modify]
    refine ⟨?_, fun i hi => ?_, fun h => ?_, fun i h h2 => ?_⟩
    · rw [hb, q2, List.map_append, hl1, pre_eq, if_neg c, List.append_assoc]
      simp only [List.map_cons, List.map_nil, laid_bare]
      rfl
    · have e : (setLast s l.length last)[i]? = s[i]? := by
        unfold setLast
        exact modify_ne _ (by omega)
      rw [e, q3 i hi]
      exact List.getElem?_append_left hi
    · have h' : l.length < s.length := by rw [← hsl]; exact h
      rw [hget _ h', if_pos rfl, hpe, hsl]
      have := q1.root h'
      unfold lkOf at this ⊢
      injection this with a1 a2 a3 a4
      simp only [a1, a3, a4, ← q1.last_]
    · have h' : i < s.length := by rw [← hsl]; exact h
      rw [hget _ h', if_neg (by omega), hpe, hsl]
      exact q1.rest i h' h2
end Go.Proofs.Fd
namespace Go.Proofs.Fd
set_option linter.unusedVariables false
open Go.RowKit Go.Proofs.Fb

def Pt.text : Pt → Str | .mk _ tx _ _ => tx
def Pt.attrs : Pt → List Att | .mk _ _ al _ => al
/-- at offset o of block b stands the part p; its blocks, and those below it, are of the kind S; its attributes read in W0 -/
def RCell (W0 w : World) (S : Nat → Prop) : Nat → Nat → Pt → Prop
  | b, o, .mk nm tx al ks => S b ∧ w.cell? ⟨b, o, none⟩ = some (str nm) ∧ w.cell? ⟨b, o + 1, none⟩ = some (str tx) ∧ (∃ va, w.cell? ⟨b, o + 2, none⟩ = some va ∧ AVal W0 va al) ∧
      ∃ A c, w.cell? ⟨b, o + 3, none⟩ = some (.slice A ks.length c) ∧ ks.length ≤ c ∧ c ≤ 9223372036854775807 ∧ (A = none → c = 0) ∧ (ks = [] ∨ ∃ b' off, A = some ⟨b', off, none⟩ ∧ RCells W0 w S b' off ks)
where RCells (W0 w : World) (S : Nat → Prop) : Nat → Nat → List Pt → Prop
  | _, _, [] => True
  | b, o, k :: t => RCell W0 w S b o k ∧ RCells W0 w S b (o + 4) t
abbrev RCells := RCell.RCells
def KRes (W0 w : World) (S : Nat → Prop) (v : Value) (ks : List Pt) : Prop := ∃ A c, v = .slice A ks.length c ∧ ks.length ≤ c ∧ c ≤ 9223372036854775807 ∧ (A = none → c = 0) ∧ (ks = [] ∨ ∃ b' off, A = some ⟨b', off, none⟩ ∧ RCells W0 w S b' off ks)
theorem RCell_eq (W0 w : World) (S : Nat → Prop) (b o : Nat) (p : Pt) : RCell W0 w S b o p ↔ S b ∧ w.cell? ⟨b, o, none⟩ = some (str p.name) ∧ w.cell? ⟨b, o + 1, none⟩ = some (str p.text) ∧ (∃ va, w.cell? ⟨b, o + 2, none⟩ = some va ∧ AVal W0 va p.attrs) ∧ ∃ vk, w.cell? ⟨b, o + 3, none⟩ = some vk ∧ KRes W0 w S vk p.kids := by
  obtain ⟨nm, tx, al, ks⟩ := p
  rw [RCell]
  constructor
  · rintro ⟨h0, h1, h2, h3, A, c, h4, h5⟩; exact ⟨h0, h1, h2, h3, _, h4, A, c, rfl, h5⟩
  · rintro ⟨h0, h1, h2, h3, _, h4, A, c, rfl, h5⟩; exact ⟨h0, h1, h2, h3, A, c, h4, h5⟩
theorem RCells_nil (W0 w : World) (S : Nat → Prop) (b o : Nat) : RCells W0 w S b o [] := by unfold RCells; rw [RCell.RCells]; trivial
theorem RCells_cons (W0 w : World) (S : Nat → Prop) (b o : Nat) (k : Pt) (t : List Pt) : RCells W0 w S b o (k :: t) ↔ RCell W0 w S b o k ∧ RCells W0 w S b (o + 4) t := by unfold RCells; rw [RCell.RCells]
/-- kept where the blocks of that kind are; of a wider kind; read like any other -/
theorem rcell_map {W0 w w' : World} {S S' : Nat → Prop} (hS : ∀ k, S k → S' k) (hb : ∀ k, S k → w'.heap[k]? = w.heap[k]?) (p : Pt) : ∀ (b o : Nat), RCell W0 w S b o p → RCell W0 w' S' b o p := by
  refine Pt.ind (C := fun p => ∀ (b o : Nat), RCell W0 w S b o p → RCell W0 w' S' b o p) (fun p ih b o h => ?_) p
  have hL : ∀ (ks : List Pt), (∀ k ∈ ks, k ∈ p.kids) → ∀ (b o : Nat), RCells W0 w S b o ks → RCells W0 w' S' b o ks := by
    intro ks
    induction ks with
    | nil => intro _ b o _; exact RCells_nil _ _ _ _ _
    | cons k t iht =>
      intro hk b o h
      rw [RCells_cons] at h ⊢
      exact ⟨ih k (hk k (.head _)) b o h.1, iht (fun x hx => hk x (.tail _ hx)) b _ h.2⟩
  rw [RCell_eq] at h ⊢
  obtain ⟨h0, h1, h2, ⟨va, h3, ha⟩, vk, h4, A, c, rfl, h5, h6, h7, h8⟩ := h
  have e : ∀ j, w'.cell? ⟨b, j, none⟩ = w.cell? ⟨b, j, none⟩ := fun j => World.cell?_of_block (a := ⟨b, j, none⟩) (hb b h0)
  refine ⟨hS b h0, (e _).trans h1, (e _).trans h2, ⟨va, (e _).trans h3, ha⟩, _, (e _).trans h4, A, c, rfl, h5, h6, h7, ?_⟩
  rcases h8 with h8 | ⟨b', off, h9, h10⟩
  · exact .inl h8
  · exact .inr ⟨b', off, h9, hL _ (fun k hk => hk) _ _ h10⟩
theorem rcells_map {W0 w w' : World} {S S' : Nat → Prop} (hS : ∀ k, S k → S' k) (hb : ∀ k, S k → w'.heap[k]? = w.heap[k]?) : ∀ (ks : List Pt) (b o : Nat), RCells W0 w S b o ks → RCells W0 w' S' b o ks
  | [], b, o, _ => RCells_nil _ _ _ _ _
  | k :: t, b, o, h => by
    rw [RCells_cons] at h ⊢
    exact ⟨rcell_map hS hb k b o h.1, rcells_map hS hb t b _ h.2⟩
theorem KRes.map {W0 w w' : World} {S S' : Nat → Prop} {v : Value} {ks : List Pt} (h : KRes W0 w S v ks) (hS : ∀ k, S k → S' k) (hb : ∀ k, S k → w'.heap[k]? = w.heap[k]?) : KRes W0 w' S' v ks := by
  obtain ⟨A, c, rfl, h5, h6, h7, h8⟩ := h
  refine ⟨A, c, rfl, h5, h6, h7, ?_⟩
  rcases h8 with h8 | ⟨b', off, h9, h10⟩
  · exact .inl h8
  · exact .inr ⟨b', off, h9, rcells_map hS hb _ _ _ h10⟩
theorem rcell_read {W0 w : World} {S : Nat → Prop} (hb : Below W0.heap.size W0 w) (p : Pt) : ∀ (b o : Nat), RCell W0 w S b o p → PCell w b o p := by
  refine Pt.ind (C := fun p => ∀ (b o : Nat), RCell W0 w S b o p → PCell w b o p) (fun p ih b o h => ?_) p
  have hL : ∀ (ks : List Pt), (∀ k ∈ ks, k ∈ p.kids) → ∀ (b o : Nat), RCells W0 w S b o ks → PCells w b o ks := by
    intro ks
    induction ks with
    | nil => intro _ b o _; exact PCells_nil _ _ _
    | cons k t iht =>
      intro hk b o h
      rw [RCells_cons] at h
      rw [PCells_cons]
      exact ⟨ih k (hk k (.head _)) b o h.1, iht (fun x hx => hk x (.tail _ hx)) b _ h.2⟩
  rw [RCell_eq] at h
  rw [PCell_eq]
  obtain ⟨h0, h1, h2, ⟨va, h3, ha⟩, vk, h4, A, c, rfl, h5, h6, h7, h8⟩ := h
  have ha' := ha.below hb (Nat.le_refl _)
  refine ⟨h1, ?_, ⟨va, h3, ?_⟩, _, h4, A, c, rfl, h5, h6, h7, ?_⟩
  · obtain ⟨nm, tx, al, ks⟩ := p; exact h2
  · obtain ⟨nm, tx, al, ks⟩ := p; exact ha'
  · rcases h8 with h8 | ⟨b', off, h9, h10⟩
    · exact .inl h8
    · exact .inr ⟨b', off, h9, hL _ (fun k hk => hk) _ _ h10⟩
theorem KRes.read {W0 w : World} {S : Nat → Prop} {v : Value} {ks : List Pt} (h : KRes W0 w S v ks) (hb : Below W0.heap.size W0 w) : KVal w v ks := by
  obtain ⟨A, c, rfl, h5, h6, h7, h8⟩ := h
  refine ⟨A, c, rfl, h5, h6, h7, ?_⟩
  rcases h8 with h8 | ⟨b', off, h9, h10⟩
  · exact .inl h8
  · refine .inr ⟨b', off, h9, ?_⟩
    have : ∀ (ks : List Pt) (o : Nat), RCells W0 w S b' o ks → PCells w b' o ks := by
      intro ks
      induction ks with
      | nil => intro o _; exact PCells_nil _ _ _
      | cons k t ih => intro o h; rw [RCells_cons] at h; rw [PCells_cons]; exact ⟨rcell_read hb k _ _ h.1, ih _ h.2⟩
    exact this _ _ h10
theorem KRes.nil (W0 w : World) (S : Nat → Prop) : KRes W0 w S (.slice none 0 0) [] := ⟨none, 0, rfl, by simp, by omega, fun _ => rfl, .inl rfl⟩
/-- parts with the values of their attributes and kids; their cells -/
abbrev Rk := Pt × Value × Value
def ptCells (q : Rk) : List Value := [str q.1.name, str q.1.text, q.2.1, q.2.2]
def rkCells (rs : List Rk) : List Value := (rs.map ptCells).flatten
theorem rkCells_append (rs ts : List Rk) : rkCells (rs ++ ts) = rkCells rs ++ rkCells ts := by simp [rkCells]
theorem rkCells_length (rs : List Rk) : (rkCells rs).length = rs.length * 4 := by
  induction rs with
  | nil => rfl
  | cons a t ih =>
    have : rkCells (a :: t) = ptCells a ++ rkCells t := rfl
    rw [this, List.length_append, ih, List.length_cons]
    have : (ptCells a).length = 4 := rfl
    omega
theorem rkCells_get : ∀ (rs : List Rk) (i : Nat) (h : i < rs.length) (j : Nat), j < 4 → (rkCells rs)[i * 4 + j]? = (ptCells (rs[i]'h))[j]?
  | [], i, h, j, hj => by simp at h
  | q :: t, 0, h, j, hj => by
    have e : rkCells (q :: t) = ptCells q ++ rkCells t := rfl
    have l4 : (ptCells q).length = 4 := rfl
    rw [e, List.getElem?_append_left (by omega)]
    simp
  | q :: t, i + 1, h, j, hj => by
    have e : rkCells (q :: t) = ptCells q ++ rkCells t := rfl
    have l4 : (ptCells q).length = 4 := rfl
    rw [e, List.getElem?_append_right (by omega), l4, show (i + 1) * 4 + j - 4 = i * 4 + j by omega]
    simpa using rkCells_get t i (by simpa using h) j hj
/-- a list of parts of the call's own: its blocks from lo on, the parts' blocks apart from the list's own -/
structure Grows (W0 W : World) (lo tE : Nat) (v : Value) (rs : List Rk) : Prop where
  own : W.ownsRow lo tE 4 v rs.length (rkCells rs)
  each : ∀ q ∈ rs, AVal W0 q.2.1 q.1.attrs ∧ KRes W0 W (fun x => lo ≤ x ∧ x < W.heap.size ∧ v.ownBlock ≠ some x) q.2.2 q.1.kids
theorem Grows.below {W0 W W' : World} {lo tE : Nat} {v : Value} {rs : List Rk} (h : Grows W0 W lo tE v rs) (hb : Below W.heap.size W W') : Grows W0 W' lo tE v rs := by
  refine ⟨h.own.kept (row := none) ⟨hb.os, hb.tape, hb.output, hb.size, fun k hk _ => hb.block k hk⟩ (by rcases v.ownBlock with _ | g <;> simp), fun q hq => ⟨(h.each q hq).1, (h.each q hq).2.map (fun k hk => ⟨hk.1, Nat.lt_of_lt_of_le hk.2.1 hb.size, hk.2.2⟩) (fun k hk => hb.block k hk.2.1)⟩⟩
/-- one part more -/
theorem Grows.add {W0 W w5 : World} {lo tE g cap : Nat} {v : Value} {rs : List Rk} (h : Grows W0 W lo tE v rs) (q : Rk) (ha : AVal W0 q.2.1 q.1.attrs) {S : Nat → Prop} (hk : KRes W0 W S q.2.2 q.1.kids) (hS : ∀ x, S x → lo ≤ x ∧ x < W.heap.size ∧ v.ownBlock ≠ some x)
    (ho : w5.ownsRow lo tE 4 (.slice (some ⟨g, 0, none⟩) (rs.length + 1) cap) (rs.length + 1) (rkCells rs ++ ptCells q)) (hg : W.grownBy w5 v.ownBlock) (hat : v.ownBlock = some g ∨ W.heap.size ≤ g) : Grows W0 w5 lo tE (.slice (some ⟨g, 0, none⟩) (rs.length + 1) cap) (rs ++ [q]) := by
  have hblk : ∀ x, x < W.heap.size → v.ownBlock ≠ some x → w5.heap[x]? = W.heap[x]? := fun x h1 h2 => hg.block x h1 (fun e => h2 e.symm)
  have hne : ∀ x, x < W.heap.size → v.ownBlock ≠ some x → (Value.slice (some ⟨g, 0, none⟩) (rs.length + 1) cap).ownBlock ≠ some x := fun x h1 h2 e => by
    have e : g = x := by simpa [Value.ownBlock] using e
    subst e
    rcases hat with h | h
    · exact h2 h
    · omega
  refine ⟨?_, fun r hr => ?_⟩
  · rw [rkCells_append, List.length_append]
    have e : rkCells [q] = ptCells q := by simp [rkCells]
    rw [e]; exact ho
  · rcases List.mem_append.1 hr with hr | hr
    · exact ⟨(h.each r hr).1, (h.each r hr).2.map (fun k hk => ⟨hk.1, Nat.lt_of_lt_of_le hk.2.1 hg.size, hne k hk.2.1 hk.2.2⟩) (fun k hk => hblk k hk.2.1 hk.2.2)⟩
    · rw [List.mem_singleton.1 hr]
      exact ⟨ha, hk.map (fun k hk => ⟨(hS k hk).1, Nat.lt_of_lt_of_le (hS k hk).2.1 hg.size, hne k (hS k hk).2.1 (hS k hk).2.2⟩) (fun k hk => hblk k (hS k hk).2.1 (hS k hk).2.2)⟩
/-- a store elsewhere, below the list's blocks -/
theorem Grows.far {W0 W : World} {lo tE b o : Nat} {v u : Value} {rs : List Rk} (h : Grows W0 W lo tE v rs) (hb : b < lo) : Grows W0 (W.setCell ⟨b, o, none⟩ u) lo tE v rs := by
  refine ⟨ownsRow_setCell_below h.own (by show b < lo; omega) u, fun q hq => ⟨(h.each q hq).1, (h.each q hq).2.map (fun k hk => ⟨hk.1, by simpa [World.setCell] using hk.2.1, hk.2.2⟩) (fun k hk => Below.heap_setCell W ⟨b, o, none⟩ u k (by show k ≠ b; omega))⟩⟩
/-- what has grown is a list of parts -/
theorem Grows.res {W0 W : World} {lo tE : Nat} {v : Value} {rs : List Rk} (h : Grows W0 W lo tE v rs) : KRes W0 W (fun x => lo ≤ x ∧ x < W.heap.size) v (rs.map (·.1)) := by
  rcases h.own.2 with ⟨rfl, h0⟩ | ⟨g, cap, cur, rfl, hb, hh, hnc, hcm, hcs, htk⟩
  · have : rs = [] := List.eq_nil_of_length_eq_zero h0
    subst this; exact KRes.nil _ _ _
  · have hgl : g < W.heap.size := (Array.getElem?_eq_some_iff.1 hh).1
    refine ⟨some ⟨g, 0, none⟩, cap, by rw [List.length_map], by rw [List.length_map]; exact hnc, by have := hcm; unfold maxLen at this; omega, (fun e => by cases e), .inr ⟨g, 0, rfl, ?_⟩⟩
    have hall : ∀ (ts : List Rk) (i : Nat), ts = rs.drop i → RCells W0 W (fun x => lo ≤ x ∧ x < W.heap.size) g (0 + i * 4) (ts.map (·.1)) := by
      intro ts
      induction ts with
      | nil => intro i _; exact RCells_nil _ _ _ _ _
      | cons q t ih =>
        intro i hi
        have hil : i < rs.length := by
          rcases Nat.lt_or_ge i rs.length with h | h
          · exact h
          · rw [List.drop_eq_nil_of_le h] at hi; cases hi
        have hd := List.drop_eq_getElem_cons hil
        rw [← hi] at hd
        injection hd with e1 e2
        have hq : q ∈ rs := by rw [e1]; exact List.getElem_mem hil
        rw [List.map_cons, RCells_cons]
        have hc : ∀ j, j < 4 → ∀ u, (ptCells q)[j]? = some u → W.cell? ⟨g, 0 + i * 4 + j, none⟩ = some u := by
          intro j hj u hu
          have := h.own.cells (g := g) rfl (i * 4 + j) u (by rw [rkCells_get rs i hil j hj, ← e1]; exact hu)
          rwa [addr_add, ← Nat.zero_add (i * 4)] at this
        refine ⟨(RCell_eq _ _ _ _ _ _).2 ⟨⟨hb, hgl⟩, hc 0 (by omega) _ rfl, hc 1 (by omega) _ rfl, ⟨_, hc 2 (by omega) _ rfl, (h.each q hq).1⟩, _, hc 3 (by omega) _ rfl, (h.each q hq).2.map (fun k hk => ⟨hk.1, hk.2.1⟩) (fun _ _ => rfl)⟩, ?_⟩
        have := ih (i + 1) e2
        rwa [show 0 + (i + 1) * 4 = 0 + i * 4 + 4 by omega] at this
    exact hall rs 0 rfl
end Go.Proofs.Fd
namespace Go.Proofs.YtdogcnmepaemjaaDoor
set_option linter.unusedVariables false
open Go.RowKit Go.Proofs.Fm Go.Proofs.Fb Go.Proofs.Fd Go.Proofs.Fc

theorem nxt_root {p : Nat → Int} {n : Nat} (h : ordB p n = true) : ∀ k, k ≤ n → nxt p k 0 = -1
  | 0, _ => rfl
  | k + 1, hk => by
    rw [nxt, if_neg, nxt_root h k (by omega)]
    rintro ⟨h1, h2, h3⟩
    have := ord_lt h (i := k) (by omega) (by omega)
    rw [h3, ((ordB_iff _ _).1 h).1] at this
    omega
/-- the document's laying of a part is the tree that the part becomes -/
theorem lay_tree (p : Pt) : layF [] p (-1) (-1) = treeOf p := by
  have h := lay_ok p [] (-1) (-1) (.inl ⟨rfl, rfl⟩)
  obtain ⟨m, hm⟩ : ∃ m, layF [] p (-1) (-1) = m := ⟨_, rfl⟩
  rw [hm] at h ⊢
  have hb : m.map bare = pre p (-1) 0 := by have := h.bares; simpa using this
  have hlen : m.length = cnt p := by have := h.length; simpa using this
  have hpar : par m = par (pre p (-1) 0) := funext (fun i => par_eq_of (by rw [hb, pre_bare]) i)
  have hord : ordB (par m) m.length = true := by rw [hpar, hlen]; have := pre_ord p; rwa [pre_cnt] at this
  have hc : 0 < cnt p := by have := pre_pos p 0 0; rwa [pre_cnt] at this
  unfold treeOf linkL
  apply List.ext_getElem
  · rw [hlen, List.length_mapIdx, pre_cnt]
  · intro i h1 h2
    rw [List.getElem_mapIdx]
    have e1 : (pre p (-1) 0)[i]'(by simpa using h2) = bare (m[i]'h1) := by simp only [← hb, List.getElem_map]
    have e2 : lkOf (m[i]'h1) = lkAt (par m) m.length i := by
      by_cases h0 : i = 0
      · subst h0
        have := h.root (by simpa using h1)
        rw [show m[([] : List Nd).length]'h1 = m[0]'h1 from rfl] at this
        rw [this]
        unfold lkAt
        rw [nxt_root hord _ (Nat.le_refl _)]
        rfl
      · exact (h.rest i h1 (by simp; omega)).1
    rw [e1, ← hpar, pre_cnt, ← hlen, ← e2]
    rfl

def cleanP : Pt → Pt
  | .mk nm tx al ks => if nm = [] then .mk [] tx [] [] else .mk nm [] al (cleanL ks)
where cleanL : List Pt → List Pt
  | [] => []
  | k :: t => cleanP k :: cleanL t
theorem cleanL_map : ∀ ks : List Pt, cleanP.cleanL ks = ks.map cleanP
  | [] => by rw [cleanP.cleanL]; rfl
  | k :: t => by rw [cleanP.cleanL, cleanL_map t]; rfl
theorem cleanP_text (tx : Str) (al : List Att) (ks : List Pt) : cleanP (.mk [] tx al ks) = .mk [] tx [] [] := by rw [cleanP, if_pos rfl]
theorem cleanP_named {nm tx : Str} {al : List Att} {ks : List Pt} (h : nm ≠ []) : cleanP (.mk nm tx al ks) = .mk nm [] al (ks.map cleanP) := by rw [cleanP, if_neg h, cleanL_map]
end Go.Proofs.YtdogcnmepaemjaaDoor
namespace Go.Proofs.YtdogcnmepaemjaaDoor
set_option linter.unusedVariables false
open Go.RowKit Go.Proofs.Fm Go.Proofs.Fb Go.Proofs.Fd Go.Proofs.Fc

/-- what is not looked at does not come into the tree -/
theorem pre_clean (p : Pt) : ∀ (parent : Int) (n : Nat), pre (cleanP p) parent n = pre p parent n := by
  refine Pt.ind (C := fun p => ∀ (parent : Int) (n : Nat), pre (cleanP p) parent n = pre p parent n) (fun p ih parent n => ?_) p
  have hL : ∀ (ks : List Pt), (∀ k ∈ ks, k ∈ p.kids) → ∀ (r n : Nat), preL (ks.map cleanP) r n = preL ks r n := by
    intro ks
    induction ks with
    | nil => intro _ r n; rfl
    | cons k t iht => intro hk r n; rw [List.map_cons, preL_cons, preL_cons, ih k (hk k (.head _)), iht (fun x hx => hk x (.tail _ hx))]
  obtain ⟨nm, tx, al, ks⟩ := p
  by_cases c : nm = []
  · subst c
    rw [cleanP_text, pre_eq, pre_eq]
    simp [Pt.node, Pt.name]
  · rw [cleanP_named c, pre_eq, pre_eq]
    have e1 : (Pt.mk nm [] al (ks.map cleanP)).name = nm := rfl
    have e2 : (Pt.mk nm tx al ks).name = nm := rfl
    have e3 : (Pt.mk nm [] al (ks.map cleanP)).kids = ks.map cleanP := rfl
    have e4 : (Pt.mk nm tx al ks).kids = ks := rfl
    rw [e1, e2, e3, e4, if_neg c, if_neg c, hL ks (fun k hk => hk)]
    simp [Pt.node, c]
theorem treeOf_clean (p : Pt) : treeOf (cleanP p) = treeOf p := by unfold treeOf; rw [pre_clean]
/-- the part that node i stands for -/
def partF (l : List Nd) : Nat → Nat → Pt
  | 0, i => match l[i]? with | some x => .mk x.name x.text x.attrs [] | none => .mk [] [] [] []
  | f + 1, i => match l[i]? with | some x => .mk x.name x.text x.attrs ((kidsOf (par l) l.length i).map (partF l f)) | none => .mk [] [] [] []
/-- two lists that go up and have the same members are the same -/
theorem up_eq : ∀ {a b : List Nat}, a.Pairwise (· < ·) → b.Pairwise (· < ·) → (∀ x, x ∈ a ↔ x ∈ b) → a = b
  | [], [], _, _, _ => rfl
  | [], y :: b, _, _, h => by have := (h y).2 (.head _); cases this
  | x :: a, [], _, _, h => by have := (h x).1 (.head _); cases this
  | x :: a, y :: b, ha, hb, h => by
    rw [List.pairwise_cons] at ha hb
    have hxy : x = y := by
      have h1 := (h x).1 (.head _)
      have h2 := (h y).2 (.head _)
      rcases List.mem_cons.1 h1 with e | h1
      · exact e
      · rcases List.mem_cons.1 h2 with e | h2
        · exact e.symm
        · have := ha.1 y h2; have := hb.1 x h1; omega
    subst hxy
    rw [up_eq ha.2 hb.2 (fun z => ⟨fun hz => ?_, fun hz => ?_⟩)]
    · rcases List.mem_cons.1 ((h z).1 (.tail _ hz)) with e | h1
      · subst e; have := ha.1 z hz; omega
      · exact h1
    · rcases List.mem_cons.1 ((h z).2 (.tail _ hz)) with e | h1
      · subst e; have := hb.1 z hz; omega
      · exact h1
/-- behind its first node a part's nodes hang on nodes of that part -/
theorem pre_inner (p : Pt) : ∀ (parent : Int) (n m : Nat) (h : m < (pre p parent n).length), 0 < m → (n : Int) ≤ ((pre p parent n)[m]'h).parent ∧ ((pre p parent n)[m]'h).parent < ((n + m : Nat) : Int) := by
  refine Pt.ind (C := fun p => ∀ (parent : Int) (n m : Nat) (h : m < (pre p parent n).length), 0 < m → (n : Int) ≤ ((pre p parent n)[m]'h).parent ∧ ((pre p parent n)[m]'h).parent < ((n + m : Nat) : Int)) (fun p ih parent n m h h0 => ?_) p
  have hL : ∀ (ks : List Pt), (∀ k ∈ ks, k ∈ p.kids) → ∀ (r n m : Nat) (h : m < (preL ks r n).length), r < n → (r : Int) ≤ ((preL ks r n)[m]'h).parent ∧ ((preL ks r n)[m]'h).parent < ((n + m : Nat) : Int) := by
    intro ks
    induction ks with
    | nil => intro _ r n m h; rw [preL_nil] at h; simp at h
    | cons k t iht =>
      intro hk r n m h hr
      have he := preL_cons k t r n
      by_cases c : m < (pre k r n).length
      · have e1 : (preL (k :: t) r n)[m]'h = (pre k r n)[m]'c := by simp only [he, List.getElem_append_left c]
        rw [e1]
        by_cases cm : m = 0
        · subst cm
          have e2 : (pre k (r : Int) n)[0]'c = k.node (r : Int) := by simp only [pre_eq, List.getElem_cons_zero]
          rw [e2, k.node_parent]; omega
        · have := ih k (hk k (.head _)) (r : Int) n m c (by omega); omega
      · have hm' : m - (pre k r n).length < (preL t r (n + (pre k r n).length)).length := by rw [he, List.length_append] at h; omega
        have e1 : (preL (k :: t) r n)[m]'h = (preL t r (n + (pre k r n).length))[m - (pre k r n).length]'hm' := by simp only [he, List.getElem_append_right (Nat.le_of_not_lt c)]
        rw [e1]
        have := iht (fun x hx => hk x (.tail _ hx)) r (n + (pre k r n).length) _ hm' (by omega)
        omega
  have he := pre_eq p parent n
  by_cases c : p.name = []
  · rw [he, if_pos c] at h; simp at h; omega
  · obtain ⟨m', rfl⟩ : ∃ m', m = m' + 1 := ⟨m - 1, by omega⟩
    have hm' : m' < (preL p.kids n (n + 1)).length := by rw [he, if_neg c] at h; simpa using h
    have e1 : (pre p parent n)[m' + 1]'h = (preL p.kids n (n + 1))[m']'hm' := by simp only [he, if_neg c, List.getElem_cons_succ]
    rw [e1]
    have := hL p.kids (fun k hk => hk) n (n + 1) m' hm' (by omega)
    omega
end Go.Proofs.YtdogcnmepaemjaaDoor
namespace Go.Proofs.YtdogcnmepaemjaaDoor
set_option linter.unusedVariables false
open Go.RowKit Go.Proofs.Fm Go.Proofs.Fb Go.Proofs.Fd Go.Proofs.Fc

def starts : List Pt → Nat → List Nat
  | [], _ => []
  | k :: t, n => n :: starts t (n + cnt k)
theorem cnt_pos (p : Pt) : 0 < cnt p := by have := pre_pos p 0 0; rwa [pre_cnt] at this
theorem starts_bd : ∀ (ks : List Pt) (n x : Nat), x ∈ starts ks n → n ≤ x ∧ x < n + cntL ks
  | [], n, x, h => by cases h
  | k :: t, n, x, h => by
    have := cnt_pos k
    rw [cntL_cons]
    rcases List.mem_cons.1 h with rfl | h
    · omega
    · have := starts_bd t _ x h; omega
theorem starts_up : ∀ (ks : List Pt) (n : Nat), (starts ks n).Pairwise (· < ·)
  | [], n => List.Pairwise.nil
  | k :: t, n => by
    rw [starts, List.pairwise_cons]
    exact ⟨fun x hx => by have := starts_bd t _ x hx; have := cnt_pos k; omega, starts_up t _⟩
/-- of nodes below r: they hang on r where a kid begins, else on nodes from there on -/
theorem preL_root : ∀ (ks : List Pt) (r n m : Nat) (h : m < (preL ks r n).length), r < n → (((preL ks r n)[m]'h).parent = (r : Int) ∧ n + m ∈ starts ks n ∨ (n : Int) ≤ ((preL ks r n)[m]'h).parent ∧ n + m ∉ starts ks n) ∧ ((preL ks r n)[m]'h).parent < ((n + m : Nat) : Int)
  | [], r, n, m, h, hr => by rw [preL_nil] at h; simp at h
  | k :: t, r, n, m, h, hr => by
    have he := preL_cons k t r n
    have hcl := pre_cnt k (r : Int) n
    have hst : starts (k :: t) n = n :: starts t (n + cnt k) := rfl
    by_cases c : m < (pre k r n).length
    · have e1 : (preL (k :: t) r n)[m]'h = (pre k r n)[m]'c := by simp only [he, List.getElem_append_left c]
      rw [e1, hst]
      by_cases cm : m = 0
      · subst cm
        have e2 : (pre k (r : Int) n)[0]'c = k.node (r : Int) := by simp only [pre_eq, List.getElem_cons_zero]
        rw [e2, k.node_parent]
        exact ⟨.inl ⟨rfl, by simp⟩, by omega⟩
      · have hi := pre_inner k (r : Int) n m c (by omega)
        refine ⟨.inr ⟨hi.1, fun hin => ?_⟩, hi.2⟩
        rcases List.mem_cons.1 hin with e | hin
        · omega
        · have := starts_bd t _ _ hin; omega
    · have he' : preL (k :: t) r n = pre k r n ++ preL t r (n + cnt k) := by rw [he, hcl]
      have hm' : m - cnt k < (preL t r (n + cnt k)).length := by rw [he', List.length_append, hcl] at h; omega
      have e1 : (preL (k :: t) r n)[m]'h = (preL t r (n + cnt k))[m - cnt k]'hm' := by simp only [he', List.getElem_append_right (Nat.le_of_not_lt c), hcl]
      have hp := cnt_pos k
      have hi := preL_root t r (n + cnt k) _ hm' (by omega)
      have hnm : n + cnt k + (m - cnt k) = n + m := by omega
      rw [hnm] at hi
      rw [e1, hst]
      refine ⟨?_, hi.2⟩
      rcases hi.1 with ⟨h1, h2⟩ | ⟨h1, h2⟩
      · exact .inl ⟨h1, List.mem_cons.2 (.inr h2)⟩
      · refine .inr ⟨by omega, fun hin => ?_⟩
        rcases List.mem_cons.1 hin with e | hin
        · omega
        · exact h2 hin
/-- a part's nodes lie in a list: from X's end on, the others not hanging on them -/
structure Lies (L : List Nd) (p : Pt) (X Y : List Nd) (parent : Int) : Prop where
  eq : L.map bare = X ++ pre p parent X.length ++ Y
  par_lt : parent < (X.length : Int)
  fore : ∀ j, j < X.length → par L j < (X.length : Int)
  hind : ∀ j, X.length + cnt p ≤ j → j < L.length → par L j < (X.length : Int) ∨ ((X.length + cnt p : Nat) : Int) ≤ par L j
theorem Lies.len {L X Y : List Nd} {p : Pt} {parent : Int} (h : Lies L p X Y parent) : L.length = X.length + cnt p + Y.length := by
  have := congrArg List.length h.eq
  rw [List.length_map, List.length_append, List.length_append, pre_cnt] at this
  exact this
theorem Lies.at_ {L X Y : List Nd} {p : Pt} {parent : Int} (h : Lies L p X Y parent) (m : Nat) (hm : m < (pre p parent X.length).length) : ∃ x, L[X.length + m]? = some x ∧ bare x = (pre p parent X.length)[m]'hm := by
  have hl := h.len
  have hc := pre_cnt p parent X.length
  have h1 : X.length + m < L.length := by omega
  refine ⟨L[X.length + m]'h1, List.getElem?_eq_getElem h1, ?_⟩
  have e : (L.map bare)[X.length + m]? = (X ++ pre p parent X.length ++ Y)[X.length + m]? := by rw [h.eq]
  rw [List.getElem?_map, List.getElem?_eq_getElem h1, List.append_assoc, List.getElem?_append_right (by omega), List.getElem?_append_left (by omega), Nat.add_sub_cancel_left, List.getElem?_eq_getElem hm] at e
  simpa using e
theorem Lies.par_at {L X Y : List Nd} {p : Pt} {parent : Int} (h : Lies L p X Y parent) (m : Nat) (hm : m < (pre p parent X.length).length) : par L (X.length + m) = ((pre p parent X.length)[m]'hm).parent := by
  obtain ⟨x, h1, h2⟩ := h.at_ m hm
  rw [← h2, bare_parent]
  unfold par
  rw [h1]
theorem Lies.kids {L X Y : List Nd} {p : Pt} {parent : Int} (h : Lies L p X Y parent) (hn : p.name ≠ []) : kidsOf (par L) L.length (X.length : Nat) = starts p.kids (X.length + 1) := by
  have hl := h.len
  have hc := pre_cnt p parent X.length
  have hcp : cnt p = 1 + cntL p.kids := by rw [cnt_eq, if_neg hn]
  have he : pre p parent X.length = p.node parent :: preL p.kids X.length (X.length + 1) := by rw [pre_eq, if_neg hn]
  have hkl := preL_cnt p.kids X.length (X.length + 1)
  have hin : ∀ m (hm : m < (preL p.kids X.length (X.length + 1)).length), par L (X.length + 1 + m) = ((preL p.kids X.length (X.length + 1))[m]'hm).parent := fun m hm => by
    have hm' : m + 1 < (pre p parent X.length).length := by rw [he, List.length_cons]; omega
    have := h.par_at (m + 1) hm'
    rw [show X.length + (m + 1) = X.length + 1 + m by omega] at this
    rw [this]
    simp only [he, List.getElem_cons_succ]
  refine up_eq (kids_sorted _ _ _) (starts_up _ _) (fun x => ⟨fun hx => ?_, fun hx => ?_⟩)
  · obtain ⟨h1, h2⟩ := kidsOf_lt hx
    by_cases c1 : x < X.length
    · have := h.fore x c1; omega
    · by_cases c2 : x = X.length
      · exfalso
        have h0 : 0 < (pre p parent X.length).length := by omega
        have := h.par_at 0 h0
        have e2 : (pre p parent X.length)[0]'h0 = p.node parent := by simp only [he, List.getElem_cons_zero]
        rw [e2, p.node_parent, Nat.add_zero, ← c2, h2] at this
        have := h.par_lt
        omega
      · by_cases c3 : x < X.length + cnt p
        · have hm : x - (X.length + 1) < (preL p.kids X.length (X.length + 1)).length := by omega
          have e1 := hin _ hm
          rw [show X.length + 1 + (x - (X.length + 1)) = x by omega, h2] at e1
          have hr := (preL_root p.kids X.length (X.length + 1) _ hm (by omega)).1
          rw [← e1, show X.length + 1 + (x - (X.length + 1)) = x by omega] at hr
          rcases hr with ⟨-, hr⟩ | ⟨hr, -⟩
          · exact hr
          · omega
        · have := h.hind x (by omega) h1; omega
  · have hb := starts_bd _ _ _ hx
    have hm : x - (X.length + 1) < (preL p.kids X.length (X.length + 1)).length := by omega
    have e1 := hin _ hm
    have hr := (preL_root p.kids X.length (X.length + 1) _ hm (by omega)).1
    rw [show X.length + 1 + (x - (X.length + 1)) = x by omega] at hr e1
    rcases hr with ⟨hr, -⟩ | ⟨-, hr⟩
    · exact kidsOf_mem (by omega) (e1.trans hr)
    · exact absurd hx hr
end Go.Proofs.YtdogcnmepaemjaaDoor
namespace Go.Proofs.YtdogcnmepaemjaaDoor
set_option linter.unusedVariables false
open Go.RowKit Go.Proofs.Fm Go.Proofs.Fb Go.Proofs.Fd Go.Proofs.Fc

theorem Lies.par_root {L X Y : List Nd} {p : Pt} {parent : Int} (h : Lies L p X Y parent) : par L X.length = parent := by
  have h0 := pre_pos p parent X.length
  have := h.par_at 0 h0
  have e2 : (pre p parent X.length)[0]'h0 = p.node parent := by simp only [pre_eq, List.getElem_cons_zero]
  rw [e2, p.node_parent, Nat.add_zero] at this
  exact this
theorem Lies.par_kid {L X Y : List Nd} {p : Pt} {parent : Int} (h : Lies L p X Y parent) (hn : p.name ≠ []) (m : Nat) (hm : m < (preL p.kids X.length (X.length + 1)).length) : par L (X.length + 1 + m) = ((preL p.kids X.length (X.length + 1))[m]'hm).parent := by
  have he : pre p parent X.length = p.node parent :: preL p.kids X.length (X.length + 1) := by rw [pre_eq, if_neg hn]
  have hm' : m + 1 < (pre p parent X.length).length := by rw [he, List.length_cons]; omega
  have := h.par_at (m + 1) hm'
  rw [show X.length + (m + 1) = X.length + 1 + m by omega] at this
  rw [this]
  simp only [he, List.getElem_cons_succ]
theorem Lies.kids_text {L X Y : List Nd} {p : Pt} {parent : Int} (h : Lies L p X Y parent) (hn : p.name = []) : kidsOf (par L) L.length (X.length : Nat) = [] := by
  have hcp : cnt p = 1 := by rw [cnt_eq, if_pos hn]
  rw [List.eq_nil_iff_forall_not_mem]
  intro x hx
  obtain ⟨h1, h2⟩ := kidsOf_lt hx
  by_cases c1 : x < X.length
  · have := h.fore x c1; omega
  · by_cases c2 : x = X.length
    · have := h.par_root; have := h.par_lt; rw [c2] at h2; omega
    · have := h.hind x (by omega) h1; omega
/-- a kid's nodes lie in the same list -/
theorem Lies.kid {L X Y : List Nd} {p k : Pt} {parent : Int} {done t : List Pt} (h : Lies L p X Y parent) (hn : p.name ≠ []) (hk : p.kids = done ++ k :: t) :
    ∃ X' Y', X'.length = X.length + 1 + cntL done ∧ Lies L k X' Y' (X.length : Nat) := by
  have hcp : cnt p = 1 + cntL p.kids := by rw [cnt_eq, if_neg hn]
  have hck : cntL p.kids = cntL done + (cnt k + cntL t) := by rw [hk, cntL_append, cntL_cons]
  have hpl : preL p.kids X.length (X.length + 1) = preL done X.length (X.length + 1) ++ (pre k (X.length : Nat) (X.length + 1 + cntL done) ++ preL t X.length (X.length + 1 + cntL done + cnt k)) := by
    rw [hk, preL_append, preL_cons, preL_cnt, pre_cnt]
  have hXl : (X ++ p.node parent :: preL done X.length (X.length + 1)).length = X.length + 1 + cntL done := by
    rw [List.length_append, List.length_cons, preL_cnt]; omega
  have hlen := h.len
  have hpkl := preL_cnt p.kids X.length (X.length + 1)
  refine ⟨X ++ p.node parent :: preL done X.length (X.length + 1), preL t X.length (X.length + 1 + cntL done + cnt k) ++ Y, hXl, ?_, ?_, ?_, ?_⟩
  · rw [h.eq, pre_eq, if_neg hn, hpl, hXl]
    simp only [List.append_assoc, List.cons_append]
  · rw [hXl]; omega
  · rw [hXl]
    intro j hj
    by_cases c1 : j < X.length
    · have := h.fore j c1; omega
    · by_cases c2 : j = X.length
      · subst c2; have := h.par_root; have := h.par_lt; omega
      · have hm : j - (X.length + 1) < (preL p.kids X.length (X.length + 1)).length := by omega
        have e1 := h.par_kid hn _ hm
        have hr := (preL_root p.kids X.length (X.length + 1) _ hm (by omega)).2
        rw [← e1, show X.length + 1 + (j - (X.length + 1)) = j by omega] at hr
        omega
  · rw [hXl]
    intro j hj hjl
    by_cases c3 : j < X.length + cnt p
    · have hm : j - (X.length + 1) < (preL p.kids X.length (X.length + 1)).length := by omega
      have e1 := h.par_kid hn _ hm
      rw [show X.length + 1 + (j - (X.length + 1)) = j by omega] at e1
      have hm2 : j - (X.length + 1) - (cntL done + cnt k) < (preL t X.length (X.length + 1 + cntL done + cnt k)).length := by rw [preL_cnt]; omega
      have e2 : (preL p.kids X.length (X.length + 1))[j - (X.length + 1)]'hm = (preL t X.length (X.length + 1 + cntL done + cnt k))[j - (X.length + 1) - (cntL done + cnt k)]'hm2 := by
        have a1 := preL_cnt done X.length (X.length + 1)
        have a2 := pre_cnt k (X.length : Nat) (X.length + 1 + cntL done)
        simp only [hpl]
        rw [List.getElem_append_right (by omega), List.getElem_append_right (by omega)]
        congr 1
        omega
      have hr := (preL_root t X.length (X.length + 1 + cntL done + cnt k) _ hm2 (by omega)).1
      rw [← e2, ← e1] at hr
      rcases hr with ⟨hr, -⟩ | ⟨hr, -⟩
      · left; omega
      · right; exact hr
    · have := h.hind j (by omega) hjl; omega
theorem partF_clean (p : Pt) : ∀ (L X Y : List Nd) (parent : Int) (f : Nat), Lies L p X Y parent → cnt p ≤ f → partF L f X.length = cleanP p := by
  refine Pt.ind (C := fun p => ∀ (L X Y : List Nd) (parent : Int) (f : Nat), Lies L p X Y parent → cnt p ≤ f → partF L f X.length = cleanP p) (fun p ih L X Y parent f h hf => ?_) p
  have hpos := cnt_pos p
  obtain ⟨f', rfl⟩ : ∃ f', f = f' + 1 := ⟨f - 1, by omega⟩
  obtain ⟨x, h1, h2⟩ := h.at_ 0 (pre_pos p parent X.length)
  have e2 : (pre p parent X.length)[0]'(pre_pos p parent X.length) = p.node parent := by simp only [pre_eq, List.getElem_cons_zero]
  rw [e2] at h2
  rw [Nat.add_zero] at h1
  rw [partF, h1]
  dsimp only
  have en : x.name = (p.node parent).name := by rw [← h2]; rfl
  have et : x.text = (p.node parent).text := by rw [← h2]; rfl
  have ea : x.attrs = (p.node parent).attrs := by rw [← h2]; rfl
  rw [en, et, ea]
  by_cases c : p.name = []
  · rw [h.kids_text c]
    obtain ⟨nm, tx, al, ks⟩ := p
    have c' : nm = [] := c
    subst c'
    rw [cleanP_text]
    simp [Pt.node]
  · rw [h.kids c]
    have hcp : cnt p = 1 + cntL p.kids := by rw [cnt_eq, if_neg c]
    have haux : ∀ (todo done : List Pt), p.kids = done ++ todo → (starts todo (X.length + 1 + cntL done)).map (partF L f') = todo.map cleanP := by
      intro todo
      induction todo with
      | nil => intro done _; rfl
      | cons k t iht =>
        intro done hd
        obtain ⟨X', Y', hl, hlies⟩ := h.kid c hd
        have hck : cntL p.kids = cntL done + (cnt k + cntL t) := by rw [hd, cntL_append, cntL_cons]
        have hkm : k ∈ p.kids := by rw [hd]; simp
        have h3 := ih k hkm L X' Y' _ f' hlies (by omega)
        rw [hl] at h3
        have h4 := iht (done ++ [k]) (by rw [hd]; simp)
        have e9 : X.length + 1 + cntL (done ++ [k]) = X.length + 1 + cntL done + cnt k := by rw [cntL_append, cntL_cons, cntL_nil]; omega
        rw [e9] at h4
        rw [starts, List.map_cons, List.map_cons, h3, h4]
    have hk := haux p.kids [] rfl
    rw [cntL_nil, Nat.add_zero] at hk
    rw [hk]
    obtain ⟨nm, tx, al, ks⟩ := p
    have c' : nm ≠ [] := c
    rw [cleanP_named c']
    simp [Pt.node, c', Pt.kids]
/-- of the tree that a part became the root stands for the part, cleaned -/
theorem part_root (p : Pt) {f : Nat} (hf : cnt p ≤ f) : partF (treeOf p) f 0 = cleanP p := by
  refine partF_clean p (treeOf p) [] [] (-1) f ⟨?_, by simp, fun j hj => by simp at hj, fun j h1 h2 => ?_⟩ hf
  · have h := lay_ok p [] (-1) (-1) (.inl ⟨rfl, rfl⟩)
    rw [lay_tree] at h
    have := h.bares
    simpa using this
  · rw [treeOf_length] at h2
    simp at h1; omega
end Go.Proofs.YtdogcnmepaemjaaDoor
namespace Go.Proofs.YtdogcnmepaemjaaDoor
set_option linter.unusedVariables false
open Go.RowKit Go.Proofs.Fm Go.Proofs.Fb Go.Proofs.Fd Go.Proofs.Fc

/-- the nodes on the right edge of a part: its own, then its last kid's -/
inductive Edge : Pt → Nat → Nat → Prop
  | own (p : Pt) (n : Nat) : Edge p n n
  | kid {nm tx : Str} {al : List Att} (done : List Pt) (k : Pt) {n a : Nat} (hn : nm ≠ []) (h : Edge k (n + 1 + cntL done) a) : Edge (.mk nm tx al (done ++ [k])) n a
/-- the name of the node at a on the right edge -/
inductive Named : Pt → Nat → Nat → Prop
  | own {nm tx : Str} {al : List Att} {ks : List Pt} (n : Nat) (hn : nm ≠ []) : Named (.mk nm tx al ks) n n
  | kid {nm tx : Str} {al : List Att} (done : List Pt) (k : Pt) {n a : Nat} (hn : nm ≠ []) (h : Named k (n + 1 + cntL done) a) : Named (.mk nm tx al (done ++ [k])) n a
theorem Edge.named_or {p : Pt} {n a : Nat} (h : Edge p n a) : Named p n a ∨ ∃ m, ∃ h : m < (pre p (-1) n).length, n + m = a ∧ ((pre p (-1) n)[m]'h).name = [] := by
  induction h with
  | own p n =>
    obtain ⟨nm, tx, al, ks⟩ := p
    by_cases c : nm = []
    · refine .inr ⟨0, pre_pos _ _ _, by omega, ?_⟩
      simp only [pre_eq, List.getElem_cons_zero]
      simp [Pt.node, c]
    · exact .inl (.own n c)
  | @kid nm tx al done k n a hn h ih =>
    rcases ih with ih | ⟨m, hm, h1, h2⟩
    · exact .inl (.kid done k hn ih)
    · right
      have he : pre (.mk nm tx al (done ++ [k])) (-1) n = (Pt.mk nm tx al (done ++ [k])).node (-1) :: (preL done n (n + 1) ++ pre k (n : Int) (n + 1 + cntL done)) := by
        have e : (Pt.mk nm tx al (done ++ [k])).kids = done ++ [k] := rfl
        rw [pre_eq, if_neg (show (Pt.mk nm tx al (done ++ [k])).name ≠ [] from hn), e, preL_append, preL_cons, preL_nil, List.append_nil, preL_cnt]
      have hm' : m < (pre k (n : Int) (n + 1 + cntL done)).length := by rw [pre_cnt] at hm ⊢; exact hm
      have hl := preL_cnt done n (n + 1)
      have hlt : 1 + cntL done + m < (pre (.mk nm tx al (done ++ [k])) (-1) n).length := by rw [he, List.length_cons, List.length_append]; omega
      refine ⟨1 + cntL done + m, hlt, by omega, ?_⟩
      have hname : ∀ (q : Pt) (u v : Int) (n m : Nat) (h : m < (pre q u n).length) (h' : m < (pre q v n).length), ((pre q u n)[m]'h).name = ((pre q v n)[m]'h').name := fun q u v n m h h' => by
        cases m with
        | zero =>
          simp only [pre_eq, List.getElem_cons_zero]
          obtain ⟨a1, a2, a3, a4⟩ := q
          by_cases c : a1 = [] <;> simp [Pt.node, c]
        | succ m => simp only [pre_eq, List.getElem_cons_succ]
      have e1 : (pre (.mk nm tx al (done ++ [k])) (-1) n)[1 + cntL done + m]'hlt = (pre k (n : Int) (n + 1 + cntL done))[m]'hm' := by
        simp only [he]
        rw [List.getElem_cons, dif_neg (by omega), List.getElem_append_right (by omega)]
        congr 1
        omega
      rw [e1, ← h2]
      exact hname _ _ _ _ _ _ _
/-- a leaf more, below a node of the right edge that has a name -/
theorem Named.grow {p : Pt} {n a : Nat} (h : Named p n a) (q : Pt) (hq : cnt q = 1) : ∃ p', cnt p' = cnt p + 1 ∧ ∀ parent, pre p' parent n = pre p parent n ++ [q.node (a : Int)] := by
  have hpq : ∀ (u : Int) (n : Nat), pre q u n = [q.node u] := fun u n => by
    have h1 := pre_cnt q u n
    have h2 := pre_eq q u n
    rw [h2, List.length_cons] at h1
    rw [h2]
    congr 1
    exact List.eq_nil_of_length_eq_zero (by omega)
  induction h with
  | @own nm tx al ks n hn =>
    refine ⟨.mk nm tx al (ks ++ [q]), ?_, fun parent => ?_⟩
    · rw [cnt_eq, cnt_eq, if_neg (show (Pt.mk nm tx al (ks ++ [q])).name ≠ [] from hn), if_neg (show (Pt.mk nm tx al ks).name ≠ [] from hn)]
      show 1 + cntL (ks ++ [q]) = 1 + cntL ks + 1
      rw [cntL_append, cntL_cons, cntL_nil]; omega
    · have e : (Pt.mk nm tx al (ks ++ [q])).kids = ks ++ [q] := rfl
      have e2 : (Pt.mk nm tx al ks).kids = ks := rfl
      rw [pre_eq, pre_eq, if_neg (show (Pt.mk nm tx al (ks ++ [q])).name ≠ [] from hn), if_neg (show (Pt.mk nm tx al ks).name ≠ [] from hn), e, e2, preL_append, preL_cons, preL_nil, List.append_nil, hpq]
      rfl
  | @kid nm tx al done k n a hn h ih =>
    obtain ⟨k', hc, hk⟩ := ih
    refine ⟨.mk nm tx al (done ++ [k']), ?_, fun parent => ?_⟩
    · rw [cnt_eq, cnt_eq, if_neg (show (Pt.mk nm tx al (done ++ [k'])).name ≠ [] from hn), if_neg (show (Pt.mk nm tx al (done ++ [k])).name ≠ [] from hn)]
      show 1 + cntL (done ++ [k']) = 1 + cntL (done ++ [k]) + 1
      rw [cntL_append, cntL_append, cntL_cons, cntL_cons, cntL_nil, hc]; omega
    · have e : (Pt.mk nm tx al (done ++ [k'])).kids = done ++ [k'] := rfl
      have e2 : (Pt.mk nm tx al (done ++ [k])).kids = done ++ [k] := rfl
      rw [pre_eq, pre_eq, if_neg (show (Pt.mk nm tx al (done ++ [k'])).name ≠ [] from hn), if_neg (show (Pt.mk nm tx al (done ++ [k])).name ≠ [] from hn), e, e2, preL_append, preL_append, preL_cons, preL_cons, preL_nil, preL_nil, List.append_nil, List.append_nil, preL_cnt, hk]
      rw [List.cons_append, List.append_assoc]
      rfl
/-- the way up from a part's last node: its right edge, then what stands over the part -/
theorem Lies.way {p : Pt} : ∀ {L X Y : List Nd} {parent : Int}, Lies L p X Y parent → ∀ a ∈ anc (par L) (X.length + cnt p - 1), Edge p X.length a ∨ (0 ≤ parent ∧ a ∈ anc (par L) parent.toNat) := by
  refine Pt.ind (C := fun p => ∀ {L X Y : List Nd} {parent : Int}, Lies L p X Y parent → ∀ a ∈ anc (par L) (X.length + cnt p - 1), Edge p X.length a ∨ (0 ≤ parent ∧ a ∈ anc (par L) parent.toNat)) (fun p ih L X Y parent h a ha => ?_) p
  have hroot : ∀ a ∈ anc (par L) X.length, Edge p X.length a ∨ (0 ≤ parent ∧ a ∈ anc (par L) parent.toNat) := fun a ha => by
    have hp := h.par_root
    have hlt := h.par_lt
    by_cases c : 0 ≤ parent
    · rw [anc_step _ _ (by rw [hp]; exact c) (by rw [hp]; exact hlt), hp] at ha
      rcases List.mem_cons.1 ha with rfl | ha
      · exact .inl (.own _ _)
      · exact .inr ⟨c, ha⟩
    · rw [anc_stop _ _ (by rw [hp]; omega)] at ha
      rw [List.mem_singleton.1 ha]
      exact .inl (.own _ _)
  by_cases c : p.name = []
  · have hcp : cnt p = 1 := by rw [cnt_eq, if_pos c]
    rw [hcp, Nat.add_sub_cancel] at ha
    exact hroot a ha
  · have hcp : cnt p = 1 + cntL p.kids := by rw [cnt_eq, if_neg c]
    rcases List.eq_nil_or_concat p.kids with hk | ⟨done, k, hk⟩
    · rw [hcp, hk, cntL_nil, Nat.add_zero, Nat.add_sub_cancel] at ha
      exact hroot a ha
    · have hk' : p.kids = done ++ k :: [] := by rw [hk]; simp
      obtain ⟨X', Y', hl, hlies⟩ := h.kid c hk'
      have hck : cntL p.kids = cntL done + cnt k := by rw [hk', cntL_append, cntL_cons, cntL_nil, Nat.add_zero]
      have e : X.length + cnt p - 1 = X'.length + cnt k - 1 := by omega
      rw [e] at ha
      have hkm : k ∈ p.kids := by rw [hk']; simp
      rcases ih k hkm hlies a ha with h1 | ⟨-, h1⟩
      · left
        obtain ⟨nm, tx, al, ks⟩ := p
        have hks : ks = done ++ [k] := hk'
        subst hks
        rw [hl] at h1
        exact .kid done k c h1
      · rw [Int.toNat_natCast] at h1
        exact hroot a h1
end Go.Proofs.YtdogcnmepaemjaaDoor
namespace Go.Proofs.YtdogcnmepaemjaaDoor
set_option linter.unusedVariables false
open Go.RowKit Go.Proofs.Fm Go.Proofs.Fb Go.Proofs.Fd Go.Proofs.Fc

/-- a node that is well made is some leaf's -/
theorem well_leaf {x : Nd} (h : wellB x = true) : ∃ q : Pt, cnt q = 1 ∧ q.node x.parent = bare x ∧ (x.kind = 1 → q.name ≠ []) := by
  obtain ⟨K, nm, tx, al, P, F, La, Pr, N⟩ := x
  unfold wellB at h
  dsimp only at h
  by_cases c : K = 1
  · rw [if_pos c] at h
    simp only [Bool.and_eq_true, Bool.not_eq_true', beq_iff_eq, beq_eq_false_iff_ne] at h
    obtain ⟨⟨h1, h2⟩, -⟩ := h
    refine ⟨.mk nm [] al [], ?_, ?_, fun _ => h1⟩
    · rw [cnt_eq, if_neg (show (Pt.mk nm [] al []).name ≠ [] from h1)]; rfl
    · simp [Pt.node, bare, h1, h2, c]
  · rw [if_neg c] at h
    by_cases c2 : K = 2
    · rw [if_pos c2] at h
      simp only [Bool.and_eq_true, Bool.not_eq_true', beq_iff_eq, beq_eq_false_iff_ne, decide_eq_true_eq] at h
      obtain ⟨⟨⟨h1, h2⟩, h3⟩, -⟩ := h
      have h4 : al = [] := List.eq_nil_of_length_eq_zero h3
      refine ⟨.mk [] tx [] [], ?_, ?_, fun e => absurd e c⟩
      · rw [cnt_eq, if_pos (show (Pt.mk [] tx [] []).name = [] from rfl)]
      · simp [Pt.node, bare, h2, h4, c2]
    · rw [if_neg c2] at h; cases h
theorem take_par {l : List Nd} {k j : Nat} (h : j < k) : par (l.take k) j = par l j := by
  unfold par
  rw [List.getElem?_take]
  rw [if_pos h]
theorem said_pre {l : List Nd} (h : SaidF l) : ∀ k, 0 < k → k ≤ l.length → ∃ p, cnt p = k ∧ pre p (-1) 0 = (l.take k).map bare
  | 0, h0, _ => by omega
  | 1, _, hk => by
    have hpos := h.pos
    obtain ⟨q, h1, h2, h3⟩ := well_leaf (h.well 0 hpos)
    have hp : (l[0]'hpos).parent = -1 := by rw [← par_get hpos]; exact ((ordB_iff _ _).1 h.ord).1
    rw [hp] at h2
    refine ⟨q, h1, ?_⟩
    have hc := pre_cnt q (-1) 0
    have he := pre_eq q (-1) 0
    rw [he, List.length_cons] at hc
    have hnil : (if q.name = [] then ([] : List Nd) else preL q.kids 0 (0 + 1)) = [] := List.eq_nil_of_length_eq_zero (by omega)
    have ht : l.take 1 = [l[0]'hpos] := by
      have := List.take_succ_eq_append_getElem (l := l) (i := 0) hpos
      simpa using this
    rw [he, hnil, ht, h2]
    rfl
  | k + 2, _, hk => by
    obtain ⟨p, hc, hp⟩ := said_pre h (k + 1) (by omega) (by omega)
    have hx : k + 1 < l.length := by omega
    have hlen : (l.take (k + 1)).length = k + 1 := by rw [List.length_take]; omega
    have hlies : Lies (l.take (k + 1)) p [] [] (-1) := ⟨by rw [← hp]; simp, by simp, fun j hj => by simp at hj, fun j h1 h2 => by rw [hlen] at h2; simp at h1; omega⟩
    have ho := ((ordB_iff _ _).1 h.ord).2 (k + 1) (by omega) hx
    unfold onWay at ho
    rw [List.any_eq_true] at ho
    obtain ⟨a, ha, haP⟩ := ho
    have haP : ((a : Nat) : Int) = par l (k + 1) := by simpa using haP
    have hanc : anc (par (l.take (k + 1))) k = anc (par l) k := anc_congr _ _ k k (Nat.le_refl _) (fun j hj => take_par (by omega))
    have ha' : a ∈ anc (par (l.take (k + 1))) (([] : List Nd).length + cnt p - 1) := by
      rw [hc]
      simpa [hanc] using ha
    have hedge : Edge p 0 a := by
      rcases hlies.way a ha' with h1 | ⟨h1, -⟩
      · exact h1
      · omega
    have hal : a < l.length := by have := ord_lt h.ord (i := k + 1) (by omega) hx; omega
    obtain ⟨q, q1, q2, -⟩ := well_leaf (h.well (k + 1) hx)
    have hpar : (l[k + 1]'hx).parent = ((a : Nat) : Int) := by rw [← par_get hx]; exact haP.symm
    rw [hpar] at q2
    have hnamed : Named p 0 a := by
      rcases hedge.named_or with h1 | ⟨m, hm, h1, h2⟩
      · exact h1
      · exfalso
        obtain rfl : m = a := by omega
        have hmk : m < k + 1 := by rw [pre_cnt, hc] at hm; exact hm
        have e1 : (pre p (-1) 0)[m]'hm = bare (l[m]'hal) := by
          simp only [hp, List.getElem_map, List.getElem_take]
        rw [e1] at h2
        have h2 : (l[m]'hal).name = [] := h2
        have hw := h.well m hal
        unfold wellB at hw
        have hkid : m + 0 = m := rfl
        have hf := h.first m hal
        have hkm : k + 1 ∈ kidsOf (par l) l.length (m : Nat) := kidsOf_mem hx haP.symm
        have hfn := (kids_links (par l) (m : Nat) l.length).1
        have h0 : 0 < (kidsOf (par l) l.length (m : Nat)).length := List.length_pos_of_mem hkm
        rw [nth_in h0] at hfn
        by_cases c : (l[m]'hal).kind = 1
        · rw [if_pos c, h2] at hw
          simp at hw
        · rw [if_neg c] at hw
          by_cases c2 : (l[m]'hal).kind = 2
          · rw [if_pos c2] at hw
            simp only [Bool.and_eq_true, decide_eq_true_eq] at hw
            have := hw.2
            omega
          · rw [if_neg c2] at hw; cases hw
    obtain ⟨p', c', hp'⟩ := hnamed.grow q q1
    refine ⟨p', by omega, ?_⟩
    rw [hp', hp, q2, List.take_succ_eq_append_getElem hx, List.map_append]
    rfl
/-- every list that is as said is a part's tree -/
theorem said_tree {l : List Nd} (h : SaidF l) : ∃ p, treeOf p = l := by
  obtain ⟨p, hc, hp⟩ := said_pre h l.length h.pos (Nat.le_refl _)
  rw [List.take_length] at hp
  refine ⟨p, ?_⟩
  unfold treeOf
  rw [hp]
  unfold linkL
  have hpar : par (l.map bare) = par l := funext (par_bare l)
  rw [hpar, List.length_map]
  apply List.ext_getElem
  · simp
  · intro i h1 h2
    rw [List.getElem_mapIdx, List.getElem_map]
    unfold lkAt setLk bare
    rw [← h.first i h2, ← h.last i h2, ← h.prev i h2, ← h.next i h2]
/-- the part that the root of such a list stands for becomes that list again -/
theorem said_back {l : List Nd} (h : SaidF l) {f : Nat} (hf : l.length ≤ f) : treeOf (partF l f 0) = l := by
  obtain ⟨p, rfl⟩ := said_tree h
  rw [part_root p (by rw [← treeOf_length]; exact hf), treeOf_clean]
end Go.Proofs.YtdogcnmepaemjaaDoor
