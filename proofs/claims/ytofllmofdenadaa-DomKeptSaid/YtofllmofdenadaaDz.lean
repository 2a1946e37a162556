/- Plain facts: the document's own laying of a part, node by node with its links, is what the parents' links are. No walk. No conditions. -/
import Derived.Test.YtofllmofdenadaaDp
namespace Go.Proofs.Fd
set_option linter.unusedVariables false

def setNext (l : List Nd) (i : Nat) (k : Int) : List Nd := l.modify i fun x => { x with next := k }
def setFirst (l : List Nd) (i : Nat) (k : Int) : List Nd := l.modify i fun x => { x with first := k }
def setLast (l : List Nd) (i : Nat) (k : Int) : List Nd := l.modify i fun x => { x with last := k }
/-- a part's own node as it is laid -/
def Pt.laid (p : Pt) (parent prev : Int) : Nd := match p with
  | .mk nm tx al _ => if nm = [] then ⟨2, [], tx, [], parent, -1, -1, prev, -1⟩ else ⟨1, nm, [], al, parent, -1, -1, prev, -1⟩
/-- a kid's place is told to the one ahead of it, or to the parent -/
def tell (l : List Nd) (r : Nat) (last : Int) (k : Nat) : List Nd := if 0 ≤ last then setNext l last.toNat k else setFirst l r k
def layF : List Nd → Pt → Int → Int → List Nd
  | l, .mk nm tx al ks, parent, prev => if nm = [] then l ++ [Pt.laid (.mk nm tx al ks) parent prev] else setLast (layK (l ++ [Pt.laid (.mk nm tx al ks) parent prev]) ks l.length (-1)).1 l.length (layK (l ++ [Pt.laid (.mk nm tx al ks) parent prev]) ks l.length (-1)).2
where layK : List Nd → List Pt → Nat → Int → List Nd × Int
  | l, [], _, last => (l, last)
  | l, k :: t, r, last => layK (tell (layF l k r last) r last l.length) t r l.length
abbrev layK := layF.layK
theorem layF_eq (l : List Nd) (p : Pt) (parent prev : Int) : layF l p parent prev = if p.name = [] then l ++ [p.laid parent prev] else setLast (layK (l ++ [p.laid parent prev]) p.kids l.length (-1)).1 l.length (layK (l ++ [p.laid parent prev]) p.kids l.length (-1)).2 := by
  cases p; rw [layF]; rfl
theorem layK_nil (l : List Nd) (r : Nat) (last : Int) : layK l [] r last = (l, last) := by unfold layK; rw [layF.layK]
theorem layK_cons (l : List Nd) (k : Pt) (t : List Pt) (r : Nat) (last : Int) : layK l (k :: t) r last = layK (tell (layF l k r last) r last l.length) t r l.length := by unfold layK; rw [layF.layK]
theorem layK_append : ∀ (a b : List Pt) (l : List Nd) (r : Nat) (last : Int), layK l (a ++ b) r last = layK (layK l a r last).1 b r (layK l a r last).2
  | [], b, l, r, last => by rw [layK_nil]; rfl
  | k :: t, b, l, r, last => by rw [List.cons_append, layK_cons, layK_cons, layK_append t b]

/-- links do not change by nodes that stand elsewhere -/
theorem fst_ext {p : Nat → Int} {i : Int} {k : Nat} : ∀ (m : Nat), (∀ j, k ≤ j → j < k + m → p j ≠ i) → fst p (k + m) i = fst p k i
  | 0, _ => rfl
  | m + 1, h => by rw [← Nat.add_assoc, fst_same (.inl (h (k + m) (by omega) (by omega)))]; exact fst_ext m (fun j h1 h2 => h j h1 (by omega))
theorem lst_ext {p : Nat → Int} {i : Int} {k : Nat} : ∀ (m : Nat), (∀ j, k ≤ j → j < k + m → p j ≠ i) → lst p (k + m) i = lst p k i
  | 0, _ => rfl
  | m + 1, h => by rw [← Nat.add_assoc, lst_same (h (k + m) (by omega) (by omega))]; exact lst_ext m (fun j h1 h2 => h j h1 (by omega))
theorem nxt_ext {p : Nat → Int} {i k : Nat} : ∀ (m : Nat), (∀ j, k ≤ j → j < k + m → p j ≠ p i) → nxt p (k + m) i = nxt p k i
  | 0, _ => rfl
  | m + 1, h => by
    rw [← Nat.add_assoc, nxt, if_neg (fun e => h (k + m) (by omega) (by omega) e.2.2)]
    exact nxt_ext m (fun j h1 h2 => h j h1 (by omega))
theorem fst_cong {p q : Nat → Int} {i : Int} : ∀ (k : Nat), (∀ j, j < k → p j = q j) → fst p k i = fst q k i
  | 0, _ => rfl
  | k + 1, h => by rw [fst, fst, fst_cong k (fun j hj => h j (by omega)), h k (by omega)]
theorem lst_cong {p q : Nat → Int} {i : Int} : ∀ (k : Nat), (∀ j, j < k → p j = q j) → lst p k i = lst q k i
  | 0, _ => rfl
  | k + 1, h => by rw [lst, lst, lst_cong k (fun j hj => h j (by omega)), h k (by omega)]
theorem nxt_cong {p q : Nat → Int} {i : Nat} : ∀ (k : Nat), (∀ j, j < k → p j = q j) → p i = q i → nxt p k i = nxt q k i
  | 0, _, _ => rfl
  | k + 1, h, hi => by rw [nxt, nxt, nxt_cong k (fun j hj => h j (by omega)) hi, h k (by omega), hi]
theorem lk_cong {p q : Nat → Int} {k i : Nat} (h : ∀ j, j < k → p j = q j) (hi : i < k) : lkAt p k i = lkAt q k i := by
  unfold lkAt
  rw [fst_cong k h, lst_cong k h, lst_cong i (fun j hj => h j (by omega)), h i hi, nxt_cong k h (h i hi)]
/-- a node without its links; a node's links -/
def bare (x : Nd) : Nd := { x with first := 0, last := 0, prev := 0, next := 0 }
def lkOf (x : Nd) : Lk := ⟨x.first, x.last, x.prev, x.next⟩
theorem bare_parent (x : Nd) : (bare x).parent = x.parent := rfl
theorem par_bare (l : List Nd) (i : Nat) : par (l.map bare) i = par l i := by
  unfold par
  rw [List.getElem?_map]
  cases l[i]? <;> rfl
theorem par_eq_of {l m : List Nd} (h : l.map bare = m.map bare) (i : Nat) : par l i = par m i := by rw [← par_bare l, h, par_bare]
theorem pre_bare (p : Pt) : ∀ (parent : Int) (n : Nat), (pre p parent n).map bare = pre p parent n := by
  refine Pt.ind (C := fun p => ∀ (parent : Int) (n : Nat), (pre p parent n).map bare = pre p parent n) (fun p ih parent n => ?_) p
  have hL : ∀ (ks : List Pt), (∀ k ∈ ks, k ∈ p.kids) → ∀ (r n : Nat), (preL ks r n).map bare = preL ks r n := by
    intro ks
    induction ks with
    | nil => intro _ r n; rw [preL_nil]; rfl
    | cons k t iht => intro hk r n; rw [preL_cons, List.map_append, ih k (hk k (.head _)), iht (fun x hx => hk x (.tail _ hx))]
  have hn : bare (p.node parent) = p.node parent := by
    obtain ⟨nm, tx, al, ks⟩ := p
    by_cases c : nm = [] <;> simp [Pt.node, c, bare]
  rw [pre_eq, List.map_cons, hn]
  by_cases c : p.name = []
  · rw [if_pos c]; rfl
  · rw [if_neg c, hL _ (fun k hk => hk)]
theorem laid_bare (p : Pt) (parent prev : Int) : bare (p.laid parent prev) = p.node parent := by
  obtain ⟨nm, tx, al, ks⟩ := p
  by_cases c : nm = [] <;> simp [Pt.laid, Pt.node, c, bare]
theorem laid_lk (p : Pt) (parent prev : Int) : lkOf (p.laid parent prev) = ⟨-1, -1, prev, -1⟩ := by
  obtain ⟨nm, tx, al, ks⟩ := p
  by_cases c : nm = [] <;> simp [Pt.laid, c, lkOf]
theorem modify_bare (l : List Nd) (i : Nat) (f : Nd → Nd) (hf : ∀ x, bare (f x) = bare x) : (l.modify i f).map bare = l.map bare := by
  apply List.ext_getElem?
  intro j
  rw [List.getElem?_map, List.getElem?_map, List.getElem?_modify]
  split
  · cases l[j]? <;> simp [hf]
  · cases l[j]? <;> rfl
theorem tell_bare (l : List Nd) (r : Nat) (last : Int) (k : Nat) : (tell l r last k).map bare = l.map bare := by
  unfold tell setNext setFirst
  split
  · exact modify_bare _ _ _ (fun x => rfl)
  · exact modify_bare _ _ _ (fun x => rfl)
theorem tell_length (l : List Nd) (r : Nat) (last : Int) (k : Nat) : (tell l r last k).length = l.length := by
  have := congrArg List.length (tell_bare l r last k)
  simpa using this

/-- what stands of a part below r, while its kids are laid: all that is behind r has the links of the nodes so far; r itself but for its last kid -/
structure Laying (l : List Nd) (r : Nat) (prev last : Int) : Prop where
  len : r < l.length
  ord : ordB (par l) l.length = true
  way : onWay (par l) (l.length - 1) r = true
  root : ∀ h : r < l.length, lkOf (l[r]'h) = ⟨fst (par l) l.length r, -1, prev, -1⟩
  last_ : last = lst (par l) l.length r
  rest : ∀ i (h : i < l.length), r < i → lkOf (l[i]'h) = lkAt (par l) l.length i ∧ (r : Int) ≤ par l i
/-- what a part is when it is laid behind l -/
structure Laid (l : List Nd) (p : Pt) (parent prev : Int) (m : List Nd) : Prop where
  bares : m.map bare = l.map bare ++ pre p parent l.length
  old : ∀ i, i < l.length → m[i]? = l[i]?
  root : ∀ h : l.length < m.length, lkOf (m[l.length]'h) = ⟨fst (par m) m.length l.length, lst (par m) m.length l.length, prev, -1⟩
  rest : ∀ i (h : i < m.length), l.length < i → lkOf (m[i]'h) = lkAt (par m) m.length i ∧ (l.length : Int) ≤ par m i
theorem Laid.length {l m : List Nd} {p : Pt} {parent prev : Int} (h : Laid l p parent prev m) : m.length = l.length + cnt p := by
  have := congrArg List.length h.bares
  rw [List.length_map, List.length_append, List.length_map, pre_cnt] at this
  exact this
theorem Laid.par {l m : List Nd} {p : Pt} {parent prev : Int} (h : Laid l p parent prev m) (i : Nat) : Fd.par m i = Fd.par (l ++ pre p parent l.length) i := by
  refine par_eq_of ?_ i
  rw [h.bares, List.map_append, pre_bare]
theorem fst_keep {p : Nat → Int} {i : Int} {k : Nat} (h : 0 ≤ fst p k i) : ∀ m, fst p (k + m) i = fst p k i
  | 0 => rfl
  | m + 1 => by
    have ih := fst_keep h m
    have := fst_lst p i (k + m)
    rw [← Nat.add_assoc, fst_same (.inr (by omega)), ih]
theorem nxt_keep {p : Nat → Int} {i k : Nat} (h : 0 ≤ nxt p k i) : ∀ m, nxt p (k + m) i = nxt p k i
  | 0 => rfl
  | m + 1 => by
    have ih := nxt_keep h m
    rw [← Nat.add_assoc, nxt, if_neg (by omega), ih]
theorem tell_get {l : List Nd} {r : Nat} {last : Int} {k i : Nat} (h : i < l.length) : (tell l r last k)[i]'(by rw [tell_length]; exact h) =
    if 0 ≤ last then (if last.toNat = i then { (l[i]'h) with next := (k : Int) } else l[i]'h) else (if r = i then { (l[i]'h) with first := (k : Int) } else l[i]'h) := by
  unfold tell setNext setFirst
  split
  · simp only [List.getElem_modify]
  · simp only [List.getElem_modify]
set_option maxHeartbeats 1000000 in
theorem kid_step {l m : List Nd} {r : Nat} {prev last : Int} {k : Pt} (h : Laying l r prev last) (hm : Laid l k (r : Int) last m) : Laying (tell m r last l.length) r prev l.length := by
  have hK := hm.length
  have hc : 0 < cnt k := by have := pre_pos k 0 0; rwa [pre_cnt] at this
  have hopen : OpenAt l (r : Int) := .inr ⟨by have := h.len; omega, h.ord, h.way⟩
  obtain ⟨o1, o2⟩ := pre_open k l r hopen
  have hpm : par m = par (l ++ pre k (r : Int) l.length) := funext hm.par
  have hpt : par (tell m r last l.length) = par m := funext (par_eq_of (tell_bare _ _ _ _))
  have hlen : (l ++ pre k (r : Int) l.length).length = m.length := by rw [List.length_append, pre_cnt, hK]
  rw [← hpm, hlen] at o1 o2
  have hP : ∀ i, i < l.length → par m i = par l i := fun i hi => by rw [hpm]; exact par_app hi
  have hPN : par m l.length = (r : Int) := by
    rw [hpm, par_get (by rw [hlen]; omega), List.getElem_append_right (Nat.le_refl _)]
    have : (pre k (r : Int) l.length)[0]'(pre_pos k _ _) = k.node (r : Int) := by simp only [pre_eq, List.getElem_cons_zero]
    simp only [Nat.sub_self, this]
    exact k.node_parent _
  have hPge : ∀ i, l.length < i → i < m.length → (l.length : Int) ≤ par m i := fun i h1 h2 => (hm.rest i h2 h1).2
  have hr := h.len
  have hold : ∀ i (h1 : i < l.length) (h2 : i < m.length), m[i]'h2 = l[i]'h1 := fun i h1 h2 => by
    have := hm.old i h1
    rw [List.getElem?_eq_getElem h1, List.getElem?_eq_getElem h2] at this
    injection this
  have hlast : last = lst (par m) l.length r := by rw [h.last_]; exact (lst_cong _ hP).symm
  have hlb := lst_bd (par m) (r : Int) l.length
  have hfl := fst_lst (par m) (r : Int) l.length
  have hlr : 0 ≤ last → (r : Int) < last := fun h0 => by
    have h1 := lst_par (par m) (r : Int) l.length (by omega)
    rw [← hlast] at h1
    have h2 := ord_lt o1 (i := last.toNat) (by
      rcases Nat.eq_zero_or_pos last.toNat with e | e
      · rw [e, ((ordB_iff _ _).1 o1).1] at h1; omega
      · exact e) (by omega)
    omega
  have hne : ∀ i : Nat, r < i → i < l.length → ∀ j, l.length ≤ j → j < m.length → par m j ≠ (i : Int) := fun i h1 h2 j h3 h4 e => by
    by_cases ej : j = l.length
    · subst ej; omega
    · have := hPge j (by omega) h4; omega
  have hroot1 : fst (par m) m.length r = if 0 ≤ last then fst (par m) l.length r else (l.length : Int) := by
    rw [hK]
    split
    · exact fst_keep (by omega) _
    · have e1 : fst (par m) (l.length + 1) r = (l.length : Int) := by rw [← hPN]; exact fst_new (by rw [hPN]; omega)
      have e2 := fst_keep (p := par m) (i := (r : Int)) (k := l.length + 1) (by omega) (cnt k - 1)
      rw [show l.length + 1 + (cnt k - 1) = l.length + cnt k by omega] at e2
      rw [e2, e1]
  have hlst : lst (par m) m.length r = (l.length : Int) := by
    have e1 : lst (par m) (l.length + 1) r = (l.length : Int) := by rw [← hPN]; exact lst_new _ _
    have e2 := lst_ext (p := par m) (i := (r : Int)) (k := l.length + 1) (cnt k - 1) (fun j h1 h2 => by have := hPge j (by omega) (by omega); omega)
    rw [show l.length + 1 + (cnt k - 1) = m.length by omega] at e2
    rw [e2, e1]
  have hfr : fst (par m) l.length r = fst (par l) l.length r := fst_cong _ hP
  refine ⟨by rw [tell_length]; omega, by rw [hpt, tell_length]; exact o1, ?_, fun h1 => ?_, by rw [hpt, tell_length, hlst], fun i h1 h2 => ?_⟩
  · rw [hpt, tell_length]
    have := onWay_up (p := par m) _ _ (Nat.le_refl _) l.length o2 (by omega) (by omega)
    rwa [hPN] at this
  · have h2 : r < m.length := by omega
    have h3 := h.root hr
    rw [hpt, tell_length, tell_get h2, hroot1]
    have h4 := hold r hr h2
    by_cases c : 0 ≤ last
    · rw [if_pos c, if_neg (by have := hlr c; omega), if_pos c, h4, h3, hfr]
    · rw [if_neg c, if_pos rfl, if_neg c, h4]
      unfold lkOf at h3 ⊢
      injection h3 with a1 a2 a3 a4
      simp only [a2, a3, a4]
  · rw [tell_length] at h1
    rw [hpt, tell_length, tell_get h1]
    by_cases c1 : i < l.length
    · obtain ⟨r1, r2⟩ := h.rest i c1 h2
      have h4 := hold i c1 h1
      have e1 : fst (par m) m.length i = fst (par l) l.length i := by
        rw [hK, fst_ext (cnt k) (fun j q1 q2 => hne i h2 c1 j q1 (by omega))]; exact fst_cong _ hP
      have e2 : lst (par m) m.length i = lst (par l) l.length i := by
        rw [hK, lst_ext (cnt k) (fun j q1 q2 => hne i h2 c1 j q1 (by omega))]; exact lst_cong _ hP
      have e3 : lst (par m) i (par m i) = lst (par l) i (par l i) := by rw [hP i c1]; exact lst_cong _ (fun j hj => hP j (by omega))
      have hpi : par m i < (i : Int) := (ord_lt o1 (i := i) (by omega) (by omega)).2
      have hstep : (l.length : Nat) + 1 + (cnt k - 1) = m.length := by omega
      have hext : nxt (par m) m.length i = nxt (par m) (l.length + 1) i := by
        rw [← hstep]
        exact nxt_ext (cnt k - 1) (fun j q1 q2 e => by have := hPge j (by omega) (by omega); omega)
      have hn0 : nxt (par m) l.length i = nxt (par l) l.length i := nxt_cong _ hP (hP i c1)
      refine ⟨?_, by rw [hP i c1]; exact r2⟩
      unfold lkOf lkAt at r1
      injection r1 with a1 a2 a3 a4
      by_cases c : 0 ≤ last
      · rw [if_pos c]
        by_cases ci : last.toNat = i
        · rw [if_pos ci, h4]
          unfold lkOf lkAt
          have e4 : nxt (par m) m.length i = (l.length : Int) := by
            rw [hext]
            exact nxt_new c1 (by rw [hPN]; omega)
          simp only [a1, a2, a3, e1, e2, e3, e4]
        · rw [if_neg ci, h4]
          unfold lkOf lkAt
          have e4 : nxt (par m) m.length i = nxt (par l) l.length i := by
            rw [hext, nxt_same c1 (by rw [hPN]; omega), hn0]
          rw [a1, a2, a3, a4, e1, e2, e3, e4]
      · rw [if_neg c, if_neg (by omega), h4]
        unfold lkOf lkAt
        have e4 : nxt (par m) m.length i = nxt (par l) l.length i := by
          rw [hext, nxt_same c1 (by rw [hPN]; omega), hn0]
        rw [a1, a2, a3, a4, e1, e2, e3, e4]
    · by_cases c2 : i = l.length
      · subst c2
        have h5 := hm.root h1
        have e : ∀ x : Nd, (if 0 ≤ last then (if last.toNat = l.length then { x with next := (l.length : Int) } else x) else (if r = l.length then { x with first := (l.length : Int) } else x)) = x := fun x => by
          split
          · rw [if_neg (by omega)]
          · rw [if_neg (by omega)]
        rw [e, h5]
        refine ⟨?_, by rw [hPN]; exact Int.le_refl _⟩
        unfold lkAt
        have e3 : lst (par m) l.length (par m l.length) = last := by rw [hPN, hlast]
        have e4 : nxt (par m) m.length l.length = -1 := by
          have q := nxt_ext (p := par m) (i := l.length) (k := l.length + 1) (cnt k - 1) (fun j q1 q2 e => by have := hPge j (by omega) (by omega); rw [hPN] at e; omega)
          rw [show l.length + 1 + (cnt k - 1) = m.length by omega] at q
          rw [q, nxt_low _ _ _ (Nat.le_refl _)]
        rw [e3, e4]
      · have h5 := hm.rest i h1 (by omega)
        have e : ∀ x : Nd, (if 0 ≤ last then (if last.toNat = i then { x with next := (l.length : Int) } else x) else (if r = i then { x with first := (l.length : Int) } else x)) = x := fun x => by
          split
          · rw [if_neg (by omega)]
          · rw [if_neg (by omega)]
        rw [e]
        exact ⟨h5.1, by have := h5.2; omega⟩
theorem lst_lo (p : Nat → Int) (i : Int) : ∀ k, (∀ j, j < k → p j ≠ i) → lst p k i = -1
  | 0, _ => rfl
  | k + 1, h => by rw [lst_same (h k (by omega))]; exact lst_lo p i k (fun j hj => h j (by omega))
theorem fst_lo (p : Nat → Int) (i : Int) : ∀ k, (∀ j, j < k → p j ≠ i) → fst p k i = -1
  | 0, _ => rfl
  | k + 1, h => by rw [fst_same (.inl (h k (by omega)))]; exact fst_lo p i k (fun j hj => h j (by omega))
theorem ord_no {p : Nat → Int} {n : Nat} (h : ordB p n = true) {i j : Nat} (hj : j ≤ i) (hi : i < n) : p j ≠ (i : Int) := by
  by_cases h0 : j = 0
  · subst h0; have := ((ordB_iff p n).1 h).1; omega
  · have := ord_lt h (i := j) (by omega) (by omega); omega
theorem modify_ne {l : List Nd} {i j : Nat} (f : Nd → Nd) (h : i ≠ j) : (l.modify i f)[j]? = l[j]? := by
  rw [List.getElem?_modify]
  simp [h]
theorem tell_old {l : List Nd} {r : Nat} {last : Int} {k i : Nat} (hi : i < r) (hl : 0 ≤ last → (r : Int) < last) : (tell l r last k)[i]? = l[i]? := by
  unfold tell setNext setFirst
  split
  · rename_i c
    exact modify_ne _ (by have := hl c; omega)
  · exact modify_ne _ (by omega)
theorem Laying.last_lt {l : List Nd} {r : Nat} {prev last : Int} (h : Laying l r prev last) : 0 ≤ last → (r : Int) < last := fun h0 => by
  have h1 := lst_par (par l) (r : Int) l.length (by rw [← h.last_]; exact h0)
  rw [← h.last_] at h1
  have hb := lst_bd (par l) (r : Int) l.length
  rw [← h.last_] at hb
  have h2 := ord_lt h.ord (i := last.toNat) (by
    rcases Nat.eq_zero_or_pos last.toNat with e | e
    · rw [e, ((ordB_iff _ _).1 h.ord).1] at h1; omega
    · exact e) (by omega)
  omega
theorem lay_kids {ks : List Pt} (ih : ∀ k ∈ ks, ∀ (l : List Nd) (parent prev : Int), OpenAt l parent → Laid l k parent prev (layF l k parent prev)) : ∀ (l : List Nd) (r : Nat) (prev last : Int), Laying l r prev last →
    Laying (layK l ks r last).1 r prev (layK l ks r last).2 ∧ (layK l ks r last).1.map bare = l.map bare ++ preL ks r l.length ∧ ∀ i, i < r → (layK l ks r last).1[i]? = l[i]? := by
  induction ks with
  | nil => intro l r prev last h; rw [layK_nil, preL_nil, List.append_nil]; exact ⟨h, rfl, fun _ _ => rfl⟩
  | cons k t iht =>
    intro l r prev last h
    have hopen : OpenAt l (r : Int) := .inr ⟨by have := h.len; omega, h.ord, h.way⟩
    have hm := ih k (.head _) l r last hopen
    have hs := kid_step h hm
    obtain ⟨q1, q2, q3⟩ := iht (fun x hx => ih x (.tail _ hx)) _ r prev _ hs
    rw [layK_cons]
    refine ⟨q1, ?_, fun i hi => ?_⟩
    · rw [q2, tell_bare, tell_length, hm.bares, hm.length, preL_cons, List.append_assoc, pre_cnt]
    · rw [q3 i hi, tell_old hi h.last_lt, hm.old i (by have := h.len; omega)]
theorem lay_ok (p : Pt) : ∀ (l : List Nd) (parent prev : Int), OpenAt l parent → Laid l p parent prev (layF l p parent prev) := by
  refine Pt.ind (C := fun p => ∀ (l : List Nd) (parent prev : Int), OpenAt l parent → Laid l p parent prev (layF l p parent prev)) (fun p ih l parent prev ho => ?_) p
  have hx : (p.laid parent prev).parent = parent := by rw [← bare_parent, laid_bare]; exact p.node_parent parent
  have h1 := open_one (L := l) (x := p.laid parent prev) (by rw [hx]; exact ho)
  have hl1 : (l ++ [p.laid parent prev]).length = l.length + 1 := by simp
  have ef : fst (par (l ++ [p.laid parent prev])) (l.length + 1) (l.length : Nat) = -1 := fst_lo _ _ _ (fun j hj => ord_no h1.1 (by omega) (by rw [hl1]; omega))
  have el : lst (par (l ++ [p.laid parent prev])) (l.length + 1) (l.length : Nat) = -1 := lst_lo _ _ _ (fun j hj => ord_no h1.1 (by omega) (by rw [hl1]; omega))
  have hroot : ∀ h : l.length < (l ++ [p.laid parent prev]).length, lkOf ((l ++ [p.laid parent prev])[l.length]'h) = ⟨-1, -1, prev, -1⟩ := fun h => by
    rw [List.getElem_append_right (Nat.le_refl _)]
    simp only [Nat.sub_self, List.getElem_cons_zero]
    exact laid_lk p parent prev
  rw [layF_eq]
  by_cases c : p.name = []
  · rw [if_pos c]
    refine ⟨?_, fun i hi => List.getElem?_append_left hi, fun h => ?_, fun i h h2 => by rw [hl1] at h; omega⟩
    · rw [List.map_append, pre_eq, if_pos c]
      simp only [List.map_cons, List.map_nil, laid_bare]
    · rw [hroot h, hl1, ef, el]
  · rw [if_neg c]
    have hlay : Laying (l ++ [p.laid parent prev]) l.length prev (-1) := by
      refine ⟨by rw [hl1]; omega, h1.1, h1.2, fun h => by rw [hroot h, hl1, ef], by rw [hl1, el], fun i h h2 => by rw [hl1] at h; omega⟩
    obtain ⟨q1, q2, q3⟩ := lay_kids (ks := p.kids) ih _ _ _ _ hlay
    obtain ⟨s, last, hs⟩ : ∃ s last, layK (l ++ [p.laid parent prev]) p.kids l.length (-1) = (s, last) := ⟨_, _, rfl⟩
    rw [hs] at q1 q2 q3 ⊢
    dsimp only at q1 q2 q3 ⊢
    have hb : (setLast s l.length last).map bare = s.map bare := modify_bare _ _ _ (fun x => rfl)
    have hpe : par (setLast s l.length last) = par s := funext (par_eq_of hb)
    have hsl : (setLast s l.length last).length = s.length := by have := congrArg List.length hb; simpa using this
    have hget : ∀ i (h : i < s.length), (setLast s l.length last)[i]'(by rw [hsl]; exact h) = if l.length = i then { (s[i]'h) with last := last } else s[i]'h := fun i h => by
      unfold setLast; simp only [List.getElem_modify]
    refine ⟨?_, fun i hi => ?_, fun h => ?_, fun i h h2 => ?_⟩
    · rw [hb, q2, List.map_append, hl1, pre_eq, if_neg c, List.append_assoc]
      simp only [List.map_cons, List.map_nil, laid_bare]
      rfl
    · have e : (setLast s l.length last)[i]? = s[i]? := by
        unfold setLast
        exact modify_ne _ (by omega)
      rw [e, q3 i hi]
      exact List.getElem?_append_left hi
    · have h' : l.length < s.length := by rw [← hsl]; exact h
      rw [hget _ h', if_pos rfl, hpe, hsl]
      have := q1.root h'
      unfold lkOf at this ⊢
      injection this with a1 a2 a3 a4
      simp only [a1, a3, a4, ← q1.last_]
    · have h' : i < s.length := by rw [← hsl]; exact h
      rw [hget _ h', if_neg (by omega), hpe, hsl]
      exact q1.rest i h' h2
end Go.Proofs.Fd
