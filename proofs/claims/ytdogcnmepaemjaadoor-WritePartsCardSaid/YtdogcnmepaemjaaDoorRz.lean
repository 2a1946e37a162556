/- How an argument that is a tree is told to a walk: its nodes and attributes as they are read. No conditions. Plain facts: what stands below a node of a tree, put under a root of its own. No walk. No conditions. Plain facts: what stands below a node of a canonical tree, put under a root of its own, is canonical. No walk. No conditions. The document's own kids of a node of a tree that is as said: casementref5's Kids. No conditions but that the list is not endless. What stands at a node of a tree, as a part: the statements' part, walked. Conditions: the tree is as said. WriteParts: the law walked. Conditions: what the frame hands of the tree that is read. -/
import Derived.Test.YtdogcnmepaemjaaDoorDq
import Derived.Test.YtdogcnmepaemjaaDoorBase
import Derived.Deep.Slices
import Derived.Deep.Fields
import Derived.ChangeSame
import Derived.OpenShut
import Derived.SizedLaws
import Derived.Test.YtdogcnmepaemjaaDoorHz
import Derived.Test.YtdogcnmepaemjaaDoorRi
import Derived.Test.YtdogcnmepaemjaaDoorDl
import Derived.Test.YtdogcnmepaemjaaDoorRn
import Derived.Deep.RegionLaw
import Derived.Test.YtdogcnmepaemjaaDoorRq
namespace Go.Proofs.YtdogcnmepaemjaaDoor
set_option linter.unusedVariables false
open Go.ChangeShapes Go.WideShapes Go.RowKit Go.Deep Go.Proofs.Fd Go.Proofs.Fb

section
variable {H : Type} {enc : TypeId × Value → H} {P : Program} {w : World} {base : Nat} {spare : Nat → Bool} {held : Bool}
/-- all that a reading holds is of a size that may be -/
def Sz (P : Program) (t : TypeId) (d : DataW H) : Prop := ∀ m ∈ d.weights P t, m ≤ reachBytes
theorem Sz.each {ts : List TypeId} {ds : List (DataW H)} (h : (DataW.weightsEach P ts ds).all (· ≤ reachBytes) = true) {j : Nat} {t : TypeId} {d : DataW H} (ht : ts[j]? = some t) (hd : ds[j]? = some d) : Sz P t d := by
  intro m hm
  have := List.all_eq_true.1 h _ (DataW.weights_mem_each ht hd m hm)
  simpa using this
theorem Sz.field {t : TypeId} {fs : Array Field} {ds : List (DataW H)} (hu : P.underlying t = some (.struct fs)) (h : Sz P t (.agg ds)) {j : Nat} {f : Field} {d : DataW H} (hf : fs[j]? = some f) (hd : ds[j]? = some d) : Sz P f.type d := by
  intro m hm
  refine h m ?_
  simp only [DataW.weights, hu]
  exact DataW.weights_mem_each (j := j) (by rw [List.getElem?_map, Array.getElem?_toList, hf]; rfl) hd m hm
theorem mem_all {e : TypeId} : ∀ {ds : List (DataW H)} {d : DataW H}, d ∈ ds → ∀ m ∈ d.weights P e, m ∈ DataW.weightsAll P e ds
  | [], d, h, _, _ => by cases h
  | a :: r, d, h, m, hm => by
    simp only [DataW.weightsAll, List.mem_append]
    rcases List.mem_cons.1 h with rfl | h
    · exact .inl hm
    · exact .inr (mem_all h m hm)
theorem Sz.elem {t e : TypeId} {elems rest : List (DataW H)} (hu : P.underlying t = some (.slice e)) (h : Sz P t (.slice elems rest)) {d : DataW H} (hd : d ∈ elems) : Sz P e d := by
  intro m hm
  refine h m ?_
  simp only [DataW.weights, hu]
  exact List.mem_cons_of_mem _ (List.mem_append_left _ (mem_all hd m hm))
theorem Sz.len {t e : TypeId} {elems rest : List (DataW H)} (hu : P.underlying t = some (.slice e)) (h : Sz P t (.slice elems rest)) : (elems.length + rest.length) * P.bytesOf e ≤ reachBytes := by
  refine h _ ?_
  simp only [DataW.weights, hu]
  exact List.mem_cons_self
theorem open_slice_fields {t e : TypeId} {fs : Array Field} {fuel : Nat} {cs : List Value} {x : DataW H × List MemPlace} (ht : P.underlying t = some (.slice e)) (he : P.underlying e = some (.struct fs))
    (hone : oneCellFields P fs = true) (hC : P.cellsOf e = fs.size) (h : DataW.trod enc P w base spare held fuel t cs = some x) :
    (cs = [.slice none 0 0] ∧ x = (.nil, [])) ∨
    ∃ (a : Addr) (len cap m : Nat) (D : Nat → DataW H) (Pl : Nat → List MemPlace), cs = [.slice (some a) len cap] ∧ base ≤ a.block ∧ len ≤ cap ∧ cap ≤ maxLen ∧ m = (if spare a.block then cap else len) ∧
      x = (.slice ((List.range len).map D) ((List.range (m - len)).map fun j => D (len + j)), MemPlace.row a (m * fs.size) ++ (List.range m).flatMap Pl) ∧
      ∀ i, i < m → ∃ (ys : List (DataW H × List MemPlace)) (n : Nat), D i = .agg (ys.map (·.1)) ∧ Pl i = ys.flatMap (·.2) ∧ ys.length = fs.size ∧
        ∀ (j : Nat) (f : Field), fs[j]? = some f → ∃ (v : Value) (y : DataW H × List MemPlace), w.cell? (a.add (i * fs.size + j)) = some v ∧ ys[j]? = some y ∧ DataW.trod enc P w base spare held n f.type [v] = some y := by
  rcases open_slice ht h with h0 | ⟨a, len, cap, m, n, D, Pl, hcs, hb, hl, hm, hmm, hx, hi⟩
  · exact .inl h0
  · refine .inr ⟨a, len, cap, m, D, Pl, hcs, hb, hl, hm, hmm, by rw [hC] at hx; exact hx, fun i him => ?_⟩
    obtain ⟨cs', hc, ht'⟩ := hi i him
    rw [hC] at hc
    obtain ⟨ys, n', hn', hy, hlen, hyl, hf⟩ := DataW.trod_struct he ht'
    obtain ⟨_, hcl, hat⟩ := World.cells?_some hc
    simp only [Prod.mk.injEq] at hy
    refine ⟨ys, n', hy.1, hy.2, hyl, fun j f hj => ?_⟩
    obtain ⟨ho, hk⟩ := hone_of hone j f hj
    have hjl : j < fs.size := (Array.getElem?_eq_some_iff.1 hj).1
    have hcell := hat j hjl
    have hv : cs'[j]? = some (cs'[j]'(by omega)) := List.getElem?_eq_getElem (by omega)
    have h1 := hf j f hj
    rw [ho, hk] at h1
    have hone' : (cs'.drop j).take 1 = [cs'[j]'(by omega)] := by
      rw [List.drop_eq_getElem_cons (by omega)]
      rfl
    rw [hone'] at h1
    have hys : ys[j]? = some (ys[j]'(by omega)) := List.getElem?_eq_getElem (by omega)
    refine ⟨_, _, ?_, hys, h1.trans hys⟩
    rw [← Go.Deep.add_add, hcell, hv]
theorem plain_of {a : Addr} {k : Nat} {v : Value} (h : ∀ j : Nat, j < 1 → w.cell? (a.add (0 * k + j)) = some v) : ∃ b off, a = ⟨b, off, none⟩ := by
  obtain ⟨b, off, spot⟩ := a
  have h0 := h 0 (by omega)
  have hspot : spot = none := by simpa [Addr.add] using World.cell?_spot h0
  subst hspot
  exact ⟨b, off, rfl⟩
end

section
variable {H : Type} {enc : TypeId × Value → H} {w : World} {base : Nat} {spare : Nat → Bool} {held : Bool}
theorem str_of (s : ByteArray) : Value.string s = str s.data.toList := by
  unfold str
  cases s; rfl
theorem cell_get {w : World} {b off j : Nat} : w.cell? ((⟨b, off, none⟩ : Addr).add j) = w.cell? ⟨b, off + j, none⟩ := by rw [Go.WideShapes.add_plain]
/-- texts are not endless -/
def Lims (x : Nd) : Prop := x.text.length ≤ 9223372036854775807 ∧ ∀ a ∈ x.attrs, a.2.length ≤ 9223372036854775807
/-- a slice of attributes -/
theorem read_attrs {n : Nat} {v : Value} {y : DataW H × List MemPlace} (h : DataW.trod enc Tryd.prog w base spare held n 28 [v] = some y) (hs : Sz Tryd.prog 28 y.1) : ∃ al, AVal w v al ∧ ∀ a ∈ al, a.2.length ≤ 9223372036854775807 := by
  rcases open_slice_fields Tryd.underlying28 Tryd.underlying70 (by kernel_rfl) (by kernel_rfl) h with ⟨h1, -⟩ | ⟨a, len, cap, m, D, Pl, hcs, hb, hl, hc, hm, hx, hf⟩
  · injection h1 with h1; subst h1; exact ⟨[], AVal.nil w, by simp⟩
  · injection hcs with hcs _; subst hcs
    have hlm : len ≤ m := by rw [hm]; split <;> omega
    subst hx
    have hsz := Sz.len Tryd.underlying28 hs
    simp only [List.length_map, List.length_range] at hsz
    have hbo : Tryd.prog.bytesOf 70 = 32 := by kernel_rfl
    rw [hbo] at hsz
    have hlim : len ≤ 4398046511104 := by simp only [reachBytes] at hsz; omega
    have hfc : ∀ i, i < len → ∃ x : Att, w.cell? (a.add (i * 2)) = some (str x.1) ∧ w.cell? (a.add (i * 2 + 1)) = some (str x.2) ∧ x.2.length ≤ 9223372036854775807 := by
      intro i hi
      obtain ⟨ys, n', -, -, hyl, hfi⟩ := hf i (by omega)
      obtain ⟨v0, y0, c0, -, t0⟩ := hfi 0 _ rfl
      obtain ⟨v1, y1, c1, -, t1⟩ := hfi 1 _ rfl
      obtain ⟨s0, e0, -, -⟩ := DataW.trod_string Tryd.underlying9 t0
      obtain ⟨s1, e1, -, m1⟩ := DataW.trod_string Tryd.underlying9 t1
      injection e0 with e0; injection e1 with e1
      subst e0; subst e1
      exact ⟨(s0.data.toList, s1.data.toList), by rw [← str_of]; exact c0, by rw [← str_of]; exact c1, by unfold maxLen at m1; rw [Array.length_toList]; exact m1⟩
    rcases Nat.eq_zero_or_pos len with h0 | h0
    · subst h0
      exact ⟨[], ⟨_, cap, rfl, ARow.nil _ _, by simp, by simp, fun e => by cases e⟩, by simp⟩
    · obtain ⟨x0, hx0, -, -⟩ := hfc 0 h0
      obtain ⟨b, off, rfl⟩ : ∃ b off, a = ⟨b, off, none⟩ := by
        obtain ⟨b, off, spot⟩ := a
        have hspot : spot = none := by simpa [Addr.add] using World.cell?_spot hx0
        subst hspot
        exact ⟨b, off, rfl⟩
      let F : Nat → Att := fun i => if h : i < len then Classical.choose (hfc i h) else ([], [])
      have hF : ∀ i (h : i < len), w.cell? ⟨b, off + i * 2, none⟩ = some (str (F i).1) ∧ w.cell? ⟨b, off + i * 2 + 1, none⟩ = some (str (F i).2) ∧ (F i).2.length ≤ 9223372036854775807 := by
        intro i h
        have := Classical.choose_spec (hfc i h)
        have e : F i = Classical.choose (hfc i h) := dif_pos h
        rw [e]
        obtain ⟨q1, q2, q3⟩ := this
        exact ⟨cell_get.symm.trans q1, cell_get.symm.trans q2, q3⟩
      refine ⟨(List.range len).map F, ⟨some ⟨b, off, none⟩, cap, by simp, fun _ => ⟨b, off, rfl, fun i hi => ?_⟩, by simpa using hl, by simpa using hlim, fun e => by cases e⟩, fun a ha => ?_⟩
      · have hi' : i < len := by simpa using hi
        have := hF i hi'
        simpa using ⟨this.1, this.2.1⟩
      · obtain ⟨i, hi, rfl⟩ := List.mem_map.1 ha
        exact (hF i (List.mem_range.1 hi)).2.2
/-- a slice of nodes -/
theorem read_nodes {n : Nat} {v : Value} {y : DataW H × List MemPlace} (h : DataW.trod enc Tryd.prog w base spare held n 22 [v] = some y) (hs : Sz Tryd.prog 22 y.1) :
    ∃ A c l, v = .slice A (List.length (α := Nd) l) c ∧ NRow w A l ∧ l.length * 104 ≤ 140737488355328 ∧ l.length ≤ c ∧ ∀ x ∈ l, Lims x := by
  rcases open_slice_fields Tryd.underlying22 Tryd.underlying41 (by kernel_rfl) (by kernel_rfl) h with ⟨h1, -⟩ | ⟨a, len, cap, m, D, Pl, hcs, hb, hl, hc, hm, hx, hf⟩
  · injection h1 with h1; subst h1; exact ⟨none, 0, [], rfl, NRow.nil _ _, by simp, by simp, by simp⟩
  · injection hcs with hcs _; subst hcs
    have hlm : len ≤ m := by rw [hm]; split <;> omega
    subst hx
    have hsz := Sz.len Tryd.underlying22 hs
    simp only [List.length_map, List.length_range] at hsz
    have hbo : Tryd.prog.bytesOf 41 = 104 := by kernel_rfl
    rw [hbo] at hsz
    have hlim : len * 104 ≤ 140737488355328 := by
      simp only [reachBytes] at hsz
      have : len * 104 ≤ (len + (m - len)) * 104 := Nat.mul_le_mul_right _ (by omega)
      omega
    have hfc : ∀ i, i < len → ∃ x : Nd, Lims x ∧ ∀ b off, a = ⟨b, off, none⟩ → NAt w b (off + i * 9) x := by
      intro i hi
      obtain ⟨ys, n', hD, -, hyl, hfi⟩ := hf i (by omega)
      obtain ⟨v0, y0, c0, -, t0⟩ := hfi 0 _ rfl
      obtain ⟨v1, y1, c1, -, t1⟩ := hfi 1 _ rfl
      obtain ⟨v2, y2, c2, -, t2⟩ := hfi 2 _ rfl
      obtain ⟨v3, y3, c3, e3, t3⟩ := hfi 3 _ rfl
      obtain ⟨v4, y4, c4, -, t4⟩ := hfi 4 _ rfl
      obtain ⟨v5, y5, c5, -, t5⟩ := hfi 5 _ rfl
      obtain ⟨v6, y6, c6, -, t6⟩ := hfi 6 _ rfl
      obtain ⟨v7, y7, c7, -, t7⟩ := hfi 7 _ rfl
      obtain ⟨v8, y8, c8, -, t8⟩ := hfi 8 _ rfl
      obtain ⟨i0, q0, -, -⟩ := DataW.trod_int Tryd.underlying3 t0
      obtain ⟨s1, q1, -, -⟩ := DataW.trod_string Tryd.underlying9 t1
      obtain ⟨s2, q2, -, m2⟩ := DataW.trod_string Tryd.underlying9 t2
      obtain ⟨i4, q4, -, -⟩ := DataW.trod_int Tryd.underlying3 t4
      obtain ⟨i5, q5, -, -⟩ := DataW.trod_int Tryd.underlying3 t5
      obtain ⟨i6, q6, -, -⟩ := DataW.trod_int Tryd.underlying3 t6
      obtain ⟨i7, q7, -, -⟩ := DataW.trod_int Tryd.underlying3 t7
      obtain ⟨i8, q8, -, -⟩ := DataW.trod_int Tryd.underlying3 t8
      injection q0 with q0; injection q1 with q1; injection q2 with q2; injection q4 with q4; injection q5 with q5; injection q6 with q6; injection q7 with q7; injection q8 with q8
      subst q0; subst q1; subst q2; subst q4; subst q5; subst q6; subst q7; subst q8
      have hsi : Sz Tryd.prog 41 (D i) := Sz.elem Tryd.underlying22 hs (List.mem_map.2 ⟨i, List.mem_range.2 hi, rfl⟩)
      rw [hD] at hsi
      have hs3 : Sz Tryd.prog 28 y3.1 := Sz.field Tryd.underlying41 hsi (j := 3) rfl (by rw [List.getElem?_map, e3]; rfl)
      obtain ⟨al, hal, hlal⟩ := read_attrs t3 hs3
      refine ⟨⟨i0, s1.data.toList, s2.data.toList, al, i4, i5, i6, i7, i8⟩, ⟨by unfold maxLen at m2; show s2.data.toList.length ≤ _; rw [Array.length_toList]; exact m2, hlal⟩, fun b off ha => ?_⟩
      subst ha
      rw [cell_get] at c0 c1 c2 c3 c4 c5 c6 c7 c8
      have g : ∀ j, off + (i * 9 + j) = off + i * 9 + j := fun j => by omega
      exact ⟨(g 0) ▸ c0, by rw [← g, ← str_of]; exact c1, by rw [← g, ← str_of]; exact c2, ⟨_, by rw [← g]; exact c3, hal⟩, by rw [← g]; exact c4, by rw [← g]; exact c5, by rw [← g]; exact c6, by rw [← g]; exact c7, by rw [← g]; exact c8⟩
    rcases Nat.eq_zero_or_pos len with h0 | h0
    · subst h0
      exact ⟨_, cap, [], rfl, NRow.nil _ _, by simp, by simp, by simp⟩
    · obtain ⟨b, off, rfl⟩ : ∃ b off, a = ⟨b, off, none⟩ := by
        obtain ⟨ys, n', -, -, -, hfi⟩ := hf 0 (by omega)
        obtain ⟨v0, y0, c0, -, -⟩ := hfi 0 _ rfl
        obtain ⟨b, off, spot⟩ := a
        have hspot : spot = none := by simpa [Addr.add] using World.cell?_spot c0
        subst hspot
        exact ⟨b, off, rfl⟩
      let F : Nat → Nd := fun i => if h : i < len then Classical.choose (hfc i h) else ⟨0, [], [], [], 0, 0, 0, 0, 0⟩
      refine ⟨some ⟨b, off, none⟩, cap, (List.range len).map F, by simp, fun _ => ⟨b, off, rfl, fun i hi => ?_⟩, by simpa using hlim, by simpa using hl, fun x hx => ?_⟩
      · have hi' : i < len := by simpa using hi
        have := (Classical.choose_spec (hfc i hi')).2 b off rfl
        have e : F i = Classical.choose (hfc i hi') := dif_pos hi'
        simpa [e] using this
      · obtain ⟨i, hi, rfl⟩ := List.mem_map.1 hx
        have hi' := List.mem_range.1 hi
        have e : F i = Classical.choose (hfc i hi') := dif_pos hi'
        rw [e]; exact (Classical.choose_spec (hfc i hi')).1
/-- a tree -/
theorem read_tree {r : Reach} {b0 : Nat} {v : Value} {d : DataW H} {p : List MemPlace} (hv : Value.okWide Tryd.prog w r b0 24 v) (h : DataW.Trod enc Tryd.prog w base spare held 24 v d p) (hs : Sz Tryd.prog 24 d) :
    ∃ A n c l, v = .agg #[.slice A n c] ∧ List.length (α := Nd) l = n ∧ n * 104 ≤ 140737488355328 ∧ NRow w A l ∧ ∀ x ∈ l, Lims x := by
  obtain ⟨cs, rfl, hsz⟩ := okWide_struct Tryd.underlying24 hv
  have hC : Tryd.prog.cellsOf 24 = 1 := by kernel_rfl
  obtain ⟨l0⟩ := cs
  match l0, hsz.trans hC with
  | [c0], _ =>
    obtain ⟨fuel, hf⟩ := h
    obtain ⟨xs, n, _, hx, _, hlen, hg⟩ := DataW.trod_struct Tryd.underlying24 hf
    have h0 := hg 0 _ rfl
    have hxl : xs.length = 1 := hlen
    have hx0 : xs[0]? = some (xs[0]'(by omega)) := List.getElem?_eq_getElem (by omega)
    have hC2 : Tryd.prog.cellsOf 22 = 1 := by kernel_rfl
    have h1 : DataW.trod enc Tryd.prog w base spare held n 22 [c0] = some (xs[0]'(by omega)) := by
      rw [hx0] at h0
      simpa [Value.cells, hC2] using h0
    obtain ⟨rfl, rfl⟩ := Prod.mk.inj hx
    have hs0 : Sz Tryd.prog 22 (xs[0]'(by omega)).1 := Sz.field Tryd.underlying24 hs (j := 0) rfl (by rw [List.getElem?_map, hx0]; rfl)
    obtain ⟨A, c, l, h2, h3, h4, h5, h6⟩ := read_nodes h1 hs0
    subst h2
    exact ⟨A, _, c, l, rfl, rfl, h4, h3, h6⟩
end
end Go.Proofs.YtdogcnmepaemjaaDoor
namespace Go.Proofs.YtdogcnmepaemjaaDoor
set_option linter.unusedVariables false
open Go.RowKit Go.Proofs.Fm Go.Proofs.Fb Go.Proofs.Fu Go.Proofs.Fr Go.Proofs.Fd Go.Proofs.Fc

def shiftN (d : Nat) (x : Nd) : Nd := { x with parent := x.parent + d }
theorem node_shift (p : Pt) (P : Int) (d : Nat) : p.node (P + d) = shiftN d (p.node P) := by
  obtain ⟨nm, tx, al, ks⟩ := p
  by_cases c : nm = [] <;> simp [Pt.node, shiftN, c]
/-- a part's nodes laid elsewhere -/
theorem pre_shift (p : Pt) : ∀ (P : Int) (n d : Nat), pre p (P + d) (n + d) = (pre p P n).map (shiftN d) := by
  refine Pt.ind (C := fun p => ∀ (P : Int) (n d : Nat), pre p (P + d) (n + d) = (pre p P n).map (shiftN d)) (fun p ih P n d => ?_) p
  have hL : ∀ (ks : List Pt), (∀ k ∈ ks, k ∈ p.kids) → ∀ (r n : Nat), preL ks (r + d) (n + d) = (preL ks r n).map (shiftN d) := by
    intro ks
    induction ks with
    | nil => intro _ r n; rw [preL_nil, preL_nil]; rfl
    | cons k t iht =>
      intro hk r n
      rw [preL_cons, preL_cons, List.map_append, ← ih k (hk k (.head _)), pre_cnt, pre_cnt, show n + d + cnt k = n + cnt k + d by omega, iht (fun x hx => hk x (.tail _ hx)), show ((r + d : Nat) : Int) = (r : Int) + d by omega]
  rw [pre_eq, pre_eq, node_shift, List.map_cons]
  by_cases c : p.name = []
  · rw [if_pos c, if_pos c]; rfl
  · rw [if_neg c, if_neg c, show n + d + 1 = n + 1 + d by omega, hL _ (fun k hk => hk)]
theorem pre_head (p : Pt) (P Q : Int) (n m : Nat) (h : m < (pre p P n).length) (h' : m < (pre p Q n).length) : ((pre p P n)[m]'h).kind = ((pre p Q n)[m]'h').kind ∧ ((pre p P n)[m]'h).name = ((pre p Q n)[m]'h').name ∧ ((pre p P n)[m]'h).text = ((pre p Q n)[m]'h').text ∧ ((pre p P n)[m]'h).attrs = ((pre p Q n)[m]'h').attrs ∧ (0 < m → ((pre p P n)[m]'h).parent = ((pre p Q n)[m]'h').parent) := by
  cases m with
  | zero =>
    simp only [pre_eq, List.getElem_cons_zero]
    obtain ⟨nm, tx, al, ks⟩ := p
    by_cases c : nm = [] <;> simp [Pt.node, c]
  | succ m => simp only [pre_eq, List.getElem_cons_succ]; simp
/-- nodes of L from i on, c of them, are M's from 1 on -/
structure Sub (L M : List Nd) (i c : Nat) : Prop where
  lenM : M.length = 1 + c
  lenL : i + c ≤ L.length
  i0 : 0 < i
  c0 : 0 < c
  same : ∀ m, m < c → ∃ x y, M[1 + m]? = some x ∧ L[i + m]? = some y ∧ x.kind = y.kind ∧ x.name = y.name ∧ x.text = y.text ∧ x.attrs = y.attrs
  parM0 : par M 0 = -1
  parM1 : par M 1 = 0
  parL1 : 0 ≤ par L i ∧ par L i < (i : Int)
  parS : ∀ m, 0 < m → m < c → par L (i + m) = par M (1 + m) + ((i - 1 : Nat) : Int) ∧ 1 ≤ par M (1 + m) ∧ par M (1 + m) < ((1 + m : Nat) : Int)
  out : ∀ j, i + c ≤ j → j < L.length → par L j < (i : Int) ∨ ((i + c : Nat) : Int) ≤ par L j
theorem tree_bare (p : Pt) : (treeOf p).map bare = pre p (-1) 0 := by
  have h := lay_ok p [] (-1) (-1) (.inl ⟨rfl, rfl⟩)
  rw [lay_tree] at h
  have := h.bares
  simpa using this
def rootOf (q : Pt) : Pt := .mk [114, 111, 111, 116] [] [] [q]
theorem root_pre (q : Pt) : pre (rootOf q) (-1) 0 = (rootOf q).node (-1) :: pre q 0 1 := by
  have e : (rootOf q).kids = [q] := rfl
  rw [pre_eq, if_neg (by show ([114, 111, 111, 116] : Str) ≠ []; decide), e, preL_cons, preL_nil, List.append_nil]
  rfl
theorem root_cnt (q : Pt) : cnt (rootOf q) = 1 + cnt q := by
  have := pre_cnt (rootOf q) (-1) 0
  rw [root_pre, List.length_cons, pre_cnt] at this
  omega
theorem root_lies (q : Pt) : Lies (treeOf (rootOf q)) q [(rootOf q).node (-1)] [] 0 := by
  have hp : par (treeOf (rootOf q)) 0 = -1 := by
    rw [← par_bare, tree_bare, root_pre]
    show ((rootOf q).node (-1)).parent = -1
    exact Pt.node_parent _ _
  refine ⟨?_, by simp, fun j hj => ?_, fun j h1 h2 => ?_⟩
  · rw [tree_bare, root_pre]; simp
  · obtain rfl : j = 0 := by simpa using hj
    rw [hp]; simp
  · rw [treeOf_length, root_cnt] at h2
    simp only [List.length_singleton] at h1
    omega
theorem sub_of {L X Y : List Nd} {q : Pt} {P : Int} (hs : SaidF L) (h : Lies L q X Y P) (h0 : 0 < X.length) : Sub L (treeOf (rootOf q)) X.length (cnt q) := by
  have hM := root_lies q
  have hlen := h.len
  have hcp := cnt_pos q
  have e1 : ([(rootOf q).node (-1)] : List Nd).length = 1 := rfl
  have hrel : ∀ m (a : m < (pre q P X.length).length) (b : m < (pre q 0 1).length), ((pre q P X.length)[m]'a).kind = ((pre q 0 1)[m]'b).kind ∧ ((pre q P X.length)[m]'a).name = ((pre q 0 1)[m]'b).name ∧ ((pre q P X.length)[m]'a).text = ((pre q 0 1)[m]'b).text ∧ ((pre q P X.length)[m]'a).attrs = ((pre q 0 1)[m]'b).attrs ∧ (0 < m → ((pre q P X.length)[m]'a).parent = ((pre q 0 1)[m]'b).parent + ((X.length - 1 : Nat) : Int)) := by
    intro m a b
    have hsh := pre_shift q 0 1 (X.length - 1)
    rw [show 1 + (X.length - 1) = X.length by omega] at hsh
    have a' : m < (pre q (0 + ((X.length - 1 : Nat) : Int)) X.length).length := by rw [pre_cnt] at a ⊢; exact a
    have e := pre_head q P (0 + ((X.length - 1 : Nat) : Int)) X.length m a a'
    have e2 : (pre q (0 + ((X.length - 1 : Nat) : Int)) X.length)[m]'a' = shiftN (X.length - 1) ((pre q 0 1)[m]'b) := by simp only [hsh, List.getElem_map]
    rw [e2] at e
    exact e
  have bk : ∀ x y : Nd, bare x = y → x.kind = y.kind ∧ x.name = y.name ∧ x.text = y.text ∧ x.attrs = y.attrs ∧ x.parent = y.parent := fun x y e => by subst e; exact ⟨rfl, rfl, rfl, rfl, rfl⟩
  refine ⟨by rw [treeOf_length, root_cnt], by omega, h0, hcp, fun m hm => ?_, ?_, ?_, ?_, fun m h1 hm => ?_, fun j a b => ?_⟩
  · have a : m < (pre q P X.length).length := by rw [pre_cnt]; exact hm
    have b : m < (pre q 0 1).length := by rw [pre_cnt]; exact hm
    obtain ⟨y, y1, y2⟩ := h.at_ m a
    obtain ⟨x, x1, x2⟩ := hM.at_ m b
    obtain ⟨r1, r2, r3, r4, -⟩ := hrel m a b
    obtain ⟨k1, k2, k3, k4, -⟩ := bk _ _ y2
    obtain ⟨l1, l2, l3, l4, -⟩ := bk _ _ x2
    have z1 := k1.trans r1
    have z2 := k2.trans r2
    have z3 := k3.trans r3
    have z4 := k4.trans r4
    exact ⟨x, y, x1, y1, l1.trans z1.symm, l2.trans z2.symm, l3.trans z3.symm, l4.trans z4.symm⟩
  · rw [← par_bare, tree_bare, root_pre]
    show ((rootOf q).node (-1)).parent = -1
    exact Pt.node_parent _ _
  · exact hM.par_root
  · exact par_bd hs h0 (by omega)
  · have a : m < (pre q P X.length).length := by rw [pre_cnt]; exact hm
    have b : m < (pre q 0 1).length := by rw [pre_cnt]; exact hm
    have p1 := h.par_at m a
    have p2 := hM.par_at m b
    obtain ⟨-, -, -, -, r5⟩ := hrel m a b
    have hi := pre_inner q 0 1 m b h1
    have p2' : par (treeOf (rootOf q)) (1 + m) = ((pre q 0 1)[m]'b).parent := p2
    rw [p1, p2', r5 h1]
    exact ⟨rfl, hi.1, hi.2⟩
  · exact h.hind j a b
/-- every node of a part that lies in a list is the head of some part that lies there -/
theorem lies_at (p : Pt) : ∀ {L X Y : List Nd} {P : Int}, Lies L p X Y P → ∀ i, X.length ≤ i → i < X.length + cnt p → ∃ q X' Y' P', Lies L q X' Y' P' ∧ X'.length = i := by
  refine Pt.ind (C := fun p => ∀ {L X Y : List Nd} {P : Int}, Lies L p X Y P → ∀ i, X.length ≤ i → i < X.length + cnt p → ∃ q X' Y' P', Lies L q X' Y' P' ∧ X'.length = i) (fun p ih L X Y P h i h0 h1 => ?_) p
  by_cases e : i = X.length
  · exact ⟨p, X, Y, P, h, e.symm⟩
  by_cases c : p.name = []
  · have : cnt p = 1 := by rw [cnt_eq, if_pos c]
    omega
  · have hcp : cnt p = 1 + cntL p.kids := by rw [cnt_eq, if_neg c]
    have haux : ∀ (todo done : List Pt), p.kids = done ++ todo → X.length + 1 + cntL done ≤ i → ∃ q X' Y' P', Lies L q X' Y' P' ∧ X'.length = i := by
      intro todo
      induction todo with
      | nil => intro done hd hi; rw [List.append_nil] at hd; rw [hd] at hcp; omega
      | cons k t iht =>
        intro done hd hi
        obtain ⟨X', Y', hl, hlies⟩ := h.kid c hd
        by_cases hk : i < X.length + 1 + cntL done + cnt k
        · exact ih k (by rw [hd]; simp) hlies i (by omega) (by omega)
        · refine iht (done ++ [k]) (by rw [hd]; simp) ?_
          rw [cntL_append, cntL_cons, cntL_nil]; omega
    exact haux p.kids [] rfl (by rw [cntL_nil]; omega)
theorem said_sub {L : List Nd} (hs : SaidF L) {i : Nat} (h0 : 0 < i) (hi : i < L.length) : ∃ q, partF L L.length i = cleanP q ∧ Sub L (treeOf (rootOf q)) i (cnt q) := by
  obtain ⟨p, rfl⟩ := said_tree hs
  have hl := treeOf_length p
  have h : Lies (treeOf p) p [] [] (-1) := ⟨by rw [tree_bare]; simp, by simp, fun j hj => by simp at hj, fun j h1 h2 => by rw [hl] at h2; simp at h1; omega⟩
  obtain ⟨q, X, Y, P, hq, rfl⟩ := lies_at p h i (by simp) (by rw [hl] at hi; simpa using hi)
  have := hq.len
  exact ⟨q, partF_clean q _ X Y P _ hq (by omega), sub_of hs hq h0⟩
theorem root_clean (q : Pt) : treeOf (rootOf (cleanP q)) = treeOf (rootOf q) := by
  have : cleanP (rootOf q) = rootOf (cleanP q) := by
    unfold rootOf
    rw [cleanP_named (by decide)]; rfl
  rw [← this, treeOf_clean]
end Go.Proofs.YtdogcnmepaemjaaDoor
namespace Go.Proofs.YtdogcnmepaemjaaDoor
set_option linter.unusedVariables false
open Go.RowKit Go.Proofs.Fm Go.Proofs.Fb Go.Proofs.Fu Go.Proofs.Fr Go.Proofs.Fd Go.Proofs.Fc

namespace Sub
variable {L M : List Nd} {i c : Nat}
theorem nm (h : Sub L M i c) {m : Nat} (hm : m < c) : nmN M (1 + m) = nmN L (i + m) := by
  obtain ⟨x, y, h1, h2, -, h3, -⟩ := h.same m hm
  simp [nmN, h1, h2, h3]
theorem kd (h : Sub L M i c) {m : Nat} (hm : m < c) : kdN M (1 + m) = kdN L (i + m) := by
  obtain ⟨x, y, h1, h2, h3, -⟩ := h.same m hm
  simp [kdN, h1, h2, h3]
/-- a parent within: its place in both -/
theorem up (h : Sub L M i c) {m : Nat} (h0 : 0 < m) (hm : m < c) : ∃ k, k < m ∧ par M (1 + m) = ((1 + k : Nat) : Int) ∧ par L (i + m) = ((i + k : Nat) : Int) := by
  obtain ⟨h1, h2, h3⟩ := h.parS m h0 hm
  have := h.i0
  refine ⟨(par M (1 + m)).toNat - 1, ?_, ?_, ?_⟩ <;> omega
theorem depth (h : Sub L M i c) : ∀ m, m < c → (anc (par M) (1 + m)).length ≤ (anc (par L) (i + m)).length := by
  intro m
  induction m using Nat.strongRecOn with
  | _ m ih =>
    intro hm
    by_cases e : m = 0
    · subst e
      have h1 := h.parM1
      have h2 := h.parL1
      have a1 : anc (par M) (1 + 0) = 1 :: anc (par M) 0 := by
        rw [anc_step _ _ (by rw [show 1 + 0 = 1 from rfl, h1]; omega) (by rw [show 1 + 0 = 1 from rfl, h1]; omega), show 1 + 0 = 1 from rfl, h1]; rfl
      have a0 : anc (par M) 0 = [0] := anc_stop _ _ (by rw [h.parM0]; omega)
      have a2 : anc (par L) (i + 0) = i :: anc (par L) (par L i).toNat := anc_step _ i h2.1 h2.2
      obtain ⟨t, ht⟩ := anc_head (par L) (par L i).toNat
      rw [a1, a0, a2, ht]; simp
    · obtain ⟨k, hk, k1, k2⟩ := h.up (by omega) hm
      have i0 := h.i0
      rw [anc_step (par M) (1 + m) (by rw [k1]; omega) (by rw [k1]; omega), anc_step (par L) (i + m) (by rw [k2]; omega) (by rw [k2]; omega), k1, k2, Int.toNat_natCast, Int.toNat_natCast, List.length_cons, List.length_cons]
      have := ih k hk (by omega)
      omega
theorem deep (h : Sub L M i c) (hd : deepB L = false) : deepB M = false := by
  unfold deepB at hd ⊢
  rw [List.any_eq_false] at hd ⊢
  intro k hk
  have hk := List.mem_range.1 hk
  have hl := h.lenL
  have hM := h.lenM
  have i0 := h.i0
  have c0 := h.c0
  simp only [decide_eq_true_eq, Nat.not_lt] at hd ⊢
  by_cases e : k = 0
  · subst e
    have a0 : anc (par M) 0 = [0] := anc_stop _ _ (by rw [h.parM0]; omega)
    rw [a0]; simp
  · obtain ⟨m, rfl⟩ : ∃ m, k = 1 + m := ⟨k - 1, by omega⟩
    have h1 := h.depth m (by omega)
    have h2 := hd (i + m) (List.mem_range.2 (by omega))
    omega
end Sub
/-- does node k stand in a p? -/
def inP (l : List Nd) (k : Nat) : Bool := (inPs l (k + 1)).getD k false
theorem inPs_at (l : List Nd) : ∀ (n k : Nat), k < n → (inPs l n).getD k false = inP l k
  | 0, k, h => by omega
  | n + 1, k, h => by
    by_cases e : k = n
    · subst e; rfl
    · rw [inPs, List.getD_eq_getElem?_getD, List.getElem?_append_left (by rw [inPs_length]; omega), ← List.getD_eq_getElem?_getD]
      exact inPs_at l n k (by omega)
theorem inP_eq (l : List Nd) (k : Nat) : inP l k = if k = 0 then false else (nmN l (par l k).toNat == [112]) || (inPs l k).getD (par l k).toNat false := by
  unfold inP
  rw [inPs, List.getD_eq_getElem?_getD, List.getElem?_append_right (by rw [inPs_length]; exact Nat.le_refl _), inPs_length, Nat.sub_self]
  rfl
theorem inP_up {l : List Nd} {k j : Nat} (hk : j < k) (hp : par l k = (j : Int)) : inP l k = ((nmN l j == [112]) || inP l j) := by
  rw [inP_eq, if_neg (by omega), hp, Int.toNat_natCast, inPs_at l k j hk]
namespace Sub
variable {L M : List Nd} {i c : Nat}
theorem inp (h : Sub L M i c) (hr : nmN M 0 = [114, 111, 111, 116]) : ∀ m, m < c → inP M (1 + m) = true → inP L (i + m) = true := by
  intro m
  induction m using Nat.strongRecOn with
  | _ m ih =>
    intro hm hp
    by_cases e : m = 0
    · subst e
      exfalso
      rw [show 1 + 0 = 1 from rfl, inP_up (k := 1) (j := 0) (by omega) h.parM1, hr, inP_eq, if_pos rfl] at hp
      exact absurd hp (by decide)
    · obtain ⟨k, hk, k1, k2⟩ := h.up (by omega) hm
      rw [inP_up (by omega) k1, h.nm (by omega)] at hp
      rw [inP_up (by omega) k2]
      rw [Bool.or_eq_true] at hp ⊢
      rcases hp with hp | hp
      · exact .inl hp
      · exact .inr (ih k hk (by omega) hp)
/-- the next one beside a node within is within, at the same place -/
theorem nx (h : Sub L M i c) {m : Nat} (h0 : 0 < m) (hm : m < c) : nxt (par L) L.length (i + m) = nxt (par M) M.length (1 + m) + (if nxt (par M) M.length (1 + m) < 0 then 0 else ((i - 1 : Nat) : Int)) := by
  obtain ⟨k, hk, k1, k2⟩ := h.up h0 hm
  have hl := h.lenL
  have hM := h.lenM
  have i0 := h.i0
  have e : nxt (par L) L.length (i + m) = nxt (par L) (i + c) (i + m) := by
    have := nxt_ext (p := par L) (i := i + m) (k := i + c) (L.length - (i + c)) (fun j a b => by
      rw [k2]
      rcases h.out j a (by omega) with h1 | h1 <;> omega)
    rwa [show i + c + (L.length - (i + c)) = L.length by omega] at this
  rw [e, hM]
  have key : ∀ t, t ≤ c - m → nxt (par L) (i + m + t) (i + m) = nxt (par M) (1 + m + t) (1 + m) + (if nxt (par M) (1 + m + t) (1 + m) < 0 then 0 else ((i - 1 : Nat) : Int)) := by
    intro t
    induction t with
    | zero => intro _; rw [nxt_low _ _ _ (by omega), nxt_low _ _ _ (by omega)]; rfl
    | succ t ih =>
      intro ht
      have ih := ih (by omega)
      have b1 := nxt_bd (par M) (1 + m) (1 + m + t)
      rw [show i + m + (t + 1) = (i + m + t) + 1 by omega, show 1 + m + (t + 1) = (1 + m + t) + 1 by omega, nxt, nxt]
      obtain ⟨k', hk', q1, q2⟩ := h.up (m := m + t) (by omega) (by omega)
      rw [show 1 + (m + t) = 1 + m + t by omega] at q1
      rw [show i + (m + t) = i + m + t by omega] at q2
      rw [q1, q2, k1, k2, ih]
      obtain ⟨N, hN⟩ : ∃ N, nxt (par M) (1 + m + t) (1 + m) = N := ⟨_, rfl⟩
      rw [hN] at b1 ⊢
      by_cases c1 : N < 0
      · rw [if_pos c1]
        by_cases c2 : 0 < t ∧ k' = k
        · rw [if_pos ⟨by omega, by omega, by omega⟩, if_pos ⟨by omega, by omega, by omega⟩, if_neg (by omega)]
          omega
        · rw [if_neg (by omega), if_neg (by omega), if_pos c1]
      · rw [if_neg c1, if_neg (by omega), if_neg (by omega), if_neg c1]
  have := key (c - m) (Nat.le_refl _)
  rwa [show i + m + (c - m) = i + c by omega, show 1 + m + (c - m) = 1 + c by omega] at this
theorem nx0 (h : Sub L M i c) : nxt (par M) M.length 1 = -1 := by
  have hM := h.lenM
  have c0 := h.c0
  have := nxt_ext (p := par M) (i := 1) (k := 2) (c - 1) (fun j a b => by
    obtain ⟨k, hk, k1, k2⟩ := h.up (m := j - 1) (by omega) (by omega)
    rw [show 1 + (j - 1) = j by omega] at k1
    rw [h.parM1, k1]; omega)
  rw [hM, show 1 + c = 2 + (c - 1) by omega, this]
  exact nxt_low _ _ _ (by omega)
end Sub
theorem fst_no {p : Nat → Int} {i : Int} : ∀ k, fst p k i < 0 → ∀ j, j < k → p j ≠ i
  | 0, _, j, hj => by omega
  | k + 1, h, j, hj => by
    unfold fst at h
    split at h
    · omega
    · rename_i e
      by_cases ej : j = k
      · subst ej; intro hp; exact e ⟨h, hp⟩
      · exact fst_no k h j (by omega)
namespace Sub
variable {L : List Nd} {i : Nat} {q : Pt}
theorem said (h : Sub L (treeOf (rootOf q)) i (cnt q)) (hs : SaidF L) : saidB (treeOf (rootOf q)) = true := by
  have hlen : (treeOf (rootOf q)).length = 1 + cnt q := h.lenM
  have hpos : 0 < (treeOf (rootOf q)).length := by omega
  have hbl : ∀ k (a : k < (treeOf (rootOf q)).length) (b : k < (pre (rootOf q) (-1) 0).length), (treeOf (rootOf q))[k]'a = setLk ((pre (rootOf q) (-1) 0)[k]'b) (lkAt (par (treeOf (rootOf q))) (treeOf (rootOf q)).length k) := fun k a b => by
    have hp : par (treeOf (rootOf q)) = par (pre (rootOf q) (-1) 0) := funext (fun j => by rw [← par_bare, tree_bare])
    have hl : (treeOf (rootOf q)).length = (pre (rootOf q) (-1) 0).length := linkL_length _
    rw [hp, hl]
    simp only [treeOf, linkL, List.getElem_mapIdx]
  have hpl : (pre (rootOf q) (-1) 0).length = (treeOf (rootOf q)).length := (linkL_length _).symm
  have ho : ordB (par (treeOf (rootOf q))) (treeOf (rootOf q)).length = true := by
    have hp : par (treeOf (rootOf q)) = par (pre (rootOf q) (-1) 0) := funext (fun j => by rw [← par_bare, tree_bare])
    have := pre_ord (rootOf q)
    rw [hp, ← hpl]; exact this
  have h0 : (treeOf (rootOf q))[0]'hpos = setLk ((rootOf q).node (-1)) (lkAt (par (treeOf (rootOf q))) (treeOf (rootOf q)).length 0) := by
    rw [hbl 0 hpos (by omega)]
    simp only [root_pre, List.getElem_cons_zero]
  have he : eachB (treeOf (rootOf q)) = true := by
    unfold eachB
    rw [List.all_eq_true]
    intro k hk
    have hk := List.mem_range.1 hk
    rw [List.getElem?_eq_getElem hk]
    dsimp only
    rw [Bool.and_eq_true]
    refine ⟨by rw [hbl k hk (by omega)]; simp [linkB, setLk], ?_⟩
    by_cases e : k = 0
    · subst e
      rw [h0]
      simp [wellB, setLk, rootOf, Pt.node, attrsB]
    · obtain ⟨m, rfl⟩ : ∃ m, k = 1 + m := ⟨k - 1, by omega⟩
      have hm : m < cnt q := by omega
      have hl := h.lenL
      have hi : i + m < L.length := by omega
      obtain ⟨x, y, x1, y1, e1, e2, e3, e4⟩ := h.same m hm
      have hw := hs.well (i + m) hi
      have hf := hs.first (i + m) hi
      rw [List.getElem?_eq_getElem hi] at y1
      injection y1 with y1
      rw [y1] at hw hf
      rw [List.getElem?_eq_getElem hk] at x1
      injection x1 with x1
      have xf : x.first = fst (par (treeOf (rootOf q))) (treeOf (rootOf q)).length (((1 + m : Nat)) : Int) := by
        rw [← x1, hbl (1 + m) hk (by omega)]; rfl
      rw [x1]
      unfold wellB at hw ⊢
      rw [e1, e2, e3, e4]
      by_cases k1 : y.kind = 1
      · rw [if_pos k1] at hw ⊢; exact hw
      · rw [if_neg k1] at hw ⊢
        by_cases k2 : y.kind = 2
        · rw [if_pos k2] at hw ⊢
          simp only [Bool.and_eq_true, decide_eq_true_eq] at hw ⊢
          refine ⟨hw.1, ?_⟩
          rcases Int.lt_or_le x.first 0 with hx | hx
          · exact hx
          · exfalso
            rw [xf] at hx
            have b1 := fst_bd (par (treeOf (rootOf q))) (((1 + m : Nat)) : Int) (treeOf (rootOf q)).length
            have b2 := fst_par _ _ _ hx
            obtain ⟨j, hj⟩ : ∃ j : Nat, fst (par (treeOf (rootOf q))) (treeOf (rootOf q)).length (((1 + m : Nat)) : Int) = (j : Int) := ⟨_, (Int.toNat_of_nonneg hx).symm⟩
            rw [hj, Int.toNat_natCast] at b2
            rw [hj] at b1
            by_cases j0 : j = 0
            · subst j0; rw [h.parM0] at b2; omega
            by_cases j1 : j = 1
            · subst j1; rw [h.parM1] at b2; omega
            obtain ⟨r, hr, r1, r2⟩ := h.up (m := j - 1) (by omega) (by omega)
            rw [show 1 + (j - 1) = j by omega] at r1
            have := fst_no (p := par L) (i := ((i + m : Nat) : Int)) L.length (by rw [← hf]; exact hw.2) (i + (j - 1)) (by omega)
            apply this
            rw [r2]; omega
        · rw [if_neg k2] at hw; exact absurd hw (by decide)
  rw [saidB_eq hpos, ho, he, h0]
  simp [setLk, rootOf, Pt.node]
end Sub
theorem nxt_past (p : Nat → Int) (j : Nat) : ∀ k, 0 ≤ nxt p k j → (j : Int) < nxt p k j
  | 0, h => by simp [nxt] at h
  | k + 1, h => by
    unfold nxt at h ⊢
    split
    · rename_i e; omega
    · rename_i e; rw [if_neg e] at h; exact nxt_past p j k h
/-- what a canonical list is asked -/
theorem canon_parts {l : List Nd} (h : canonB l = true) : rightE l = 0 ∧ okTo l l.length = true := by
  unfold canonB at h
  cases l with
  | nil => cases h
  | cons x t =>
    simp only [Bool.and_eq_true, decide_eq_true_eq] at h
    exact ⟨h.1.1.1, h.2⟩
theorem okTo_at {l : List Nd} {n : Nat} (h : okTo l n = true) {k : Nat} (h0 : 0 < k) (hk : k < n) : okN l k = true := by
  unfold okTo at h
  have := List.all_eq_true.1 h k (List.mem_range.2 hk)
  rw [Bool.or_eq_true, beq_iff_eq] at this
  rcases this with h | h
  · omega
  · exact h
theorem deep_no {l : List Nd} (h : rightE l = 0) : deepB l = false := by
  unfold rightE at h
  split at h
  · cases h
  · split at h
    · cases h
    · split at h
      · cases h
      · simpa using ‹¬ deepB l = true›
theorem sub_canon {L : List Nd} {i : Nat} {q : Pt} (h : Sub L (treeOf (rootOf q)) i (cnt q)) (hc : canonB L = true) (hn : nmN L i ≠ sTr ∧ nmN L i ≠ sTd ∧ nmN L i ≠ sLi) : rightE (treeOf (rootOf q)) = 0 ∧ canonB (treeOf (rootOf q)) = true := by
  obtain ⟨hr, ho⟩ := canon_parts hc
  obtain ⟨hs, hle⟩ := right_said hr
  have hM := h.lenM
  have hL := h.lenL
  have i0 := h.i0
  have c0 := h.c0
  have hsB := h.said hs
  have hsM := said_facts hsB
  have hdM := h.deep (deep_no hr)
  have hrE : rightE (treeOf (rootOf q)) = 0 := by
    unfold rightE
    rw [if_neg (by omega), if_neg (by rw [hsB]; simp), if_neg (by rw [hdM]; simp)]
  obtain ⟨x0, h00, hx0, ha0⟩ : ∃ x0, (treeOf (rootOf q))[0]? = some x0 ∧ x0.name = [114, 111, 111, 116] ∧ x0.attrs = [] := by
    have e : ((treeOf (rootOf q)).map bare)[0]? = some ((rootOf q).node (-1)) := by rw [tree_bare, root_pre]; rfl
    rw [List.getElem?_map] at e
    rcases hx : (treeOf (rootOf q))[0]? with _ | x
    · rw [hx] at e; cases e
    · rw [hx] at e
      injection e with e
      refine ⟨x, rfl, ?_, ?_⟩
      · have : (bare x).name = ((rootOf q).node (-1)).name := by rw [e]
        exact this
      · have : (bare x).attrs = ((rootOf q).node (-1)).attrs := by rw [e]
        exact this
  have hr0 : nmN (treeOf (rootOf q)) 0 = [114, 111, 111, 116] := by unfold nmN; rw [h00]; exact hx0
  have hall : okTo (treeOf (rootOf q)) (treeOf (rootOf q)).length = true := by
    unfold okTo
    rw [List.all_eq_true]
    intro k hk
    have hk := List.mem_range.1 hk
    rw [Bool.or_eq_true, beq_iff_eq]
    by_cases e : k = 0
    · exact .inl e
    right
    obtain ⟨m, rfl⟩ : ∃ m, k = 1 + m := ⟨k - 1, by omega⟩
    have hm : m < cnt q := by omega
    have hi : i + m < L.length := by omega
    have hok := okTo_at ho (k := i + m) (by omega) hi
    obtain ⟨x, y, x1, y1, e1, e2, e3, e4⟩ := h.same m hm
    unfold okN at hok ⊢
    rw [y1] at hok
    rw [x1]
    dsimp only at hok ⊢
    simp only [Bool.and_eq_true] at hok ⊢
    obtain ⟨⟨⟨o1, o2⟩, o3⟩, o4⟩ := hok
    have xn : x.next = nxt (par (treeOf (rootOf q))) (treeOf (rootOf q)).length (1 + m) := by
      have := hsM.next (1 + m) hk
      rw [List.getElem?_eq_getElem hk] at x1
      injection x1 with x1
      rwa [x1] at this
    have yn : y.next = nxt (par L) L.length (i + m) := by
      have := hs.next (i + m) hi
      rw [List.getElem?_eq_getElem hi] at y1
      injection y1 with y1
      rwa [y1] at this
    refine ⟨⟨⟨?_, ?_⟩, ?_⟩, ?_⟩
    · unfold comesB at o1 ⊢; rw [e1, e2, e3, e4]; exact o1
    · by_cases m0 : m = 0
      · subst m0
        have hy : nmN L i = y.name := by unfold nmN; rw [show i = i + 0 from rfl, y1]
        rw [show 1 + 0 = 1 from rfl, h.parM1, e2, ← hy]
        rw [show (0 : Int).toNat = 0 from rfl, hr0]
        unfold holdB
        rw [if_neg hn.1, if_neg hn.2.1, if_neg hn.2.2]
        decide
      · obtain ⟨r, hr, r1, r2⟩ := h.up (by omega) hm
        rw [r1, Int.toNat_natCast, h.nm (by omega), e2]
        rw [r2, Int.toNat_natCast] at o2
        exact o2
    · rw [e2]
      rcases hp : inP (treeOf (rootOf q)) (1 + m) with _ | _
      · have hp' : (inPs (treeOf (rootOf q)) (1 + m + 1)).getD (1 + m) false = false := hp
        rw [hp']; rfl
      · have hp2 := h.inp hr0 m hm hp
        have hp2' : (inPs L (i + m + 1)).getD (i + m) false = true := hp2
        rw [hp2', Bool.true_and] at o3
        have hp' : (inPs (treeOf (rootOf q)) (1 + m + 1)).getD (1 + m) false = true := hp
        rw [hp', Bool.true_and]; exact o3
    · rw [xn, e1]
      rw [yn] at o4
      by_cases m0 : m = 0
      · subst m0
        rw [show 1 + 0 = 1 from rfl, h.nx0]; simp
      · have hx := h.nx (by omega) hm
        have hb := nxt_bd (par (treeOf (rootOf q))) (1 + m) (treeOf (rootOf q)).length
        obtain ⟨N, hN⟩ : ∃ N, nxt (par (treeOf (rootOf q))) (treeOf (rootOf q)).length (1 + m) = N := ⟨_, rfl⟩
        rw [hx] at o4
        rw [hN] at hb o4 ⊢
        by_cases n0 : N < 0
        · rw [decide_eq_false (by omega)]; simp
        · rw [if_neg n0] at o4
          obtain ⟨j, rfl⟩ : ∃ j : Nat, N = (j : Int) := ⟨N.toNat, by omega⟩
          have hnp := nxt_past (par (treeOf (rootOf q))) (1 + m) (treeOf (rootOf q)).length (by rw [hN]; omega)
          rw [hN] at hnp
          rw [show (j : Int) + ((i - 1 : Nat) : Int) = ((i + (j - 1) : Nat) : Int) by omega, Int.toNat_natCast, ← h.kd (m := j - 1) (by omega), show 1 + (j - 1) = j by omega] at o4
          rw [Int.toNat_natCast]
          rw [decide_eq_true (by omega)] at o4 ⊢
          exact o4
  refine ⟨hrE, ?_⟩
  unfold canonB
  rcases hl : treeOf (rootOf q) with _ | ⟨z, t⟩
  · rw [hl] at h00; cases h00
  · rw [hl] at h00 hrE hall
    injection h00 with h00
    subst h00
    dsimp only
    rw [decide_eq_true hrE, hx0, ha0, hall]; rfl
end Go.Proofs.YtdogcnmepaemjaaDoor
namespace Go.Proofs.YtdogcnmepaemjaaDoor
set_option linter.unusedVariables false
open Go.RowKit Go.Proofs.Fm Go.Proofs.Fb Go.Proofs.Fd Go.Proofs.Fc

set_option maxHeartbeats 2000000 in
theorem refKids_any (A : Option Addr) (n c : Nat) (l : List Nd) (hl : l.length = n) (hn : n ≤ 1099511627776) (hs : SaidF l) (i : Nat) (hi : i < n) (w : World) (ha : NRow w A l) :
    Calls Tryd.prog 32 #[.agg #[.slice A n c], .int .i64 (i : Int)] w (KidsOut (kidsOf (par l) n i) w) := by
  obtain ⟨i0, hi0, hz0, hz1, hz2⟩ := info_parts intInfo
  have HI0 := Lib.hid hi0
  have HZ0 := Lib.hid hz0
  have HZ1 := Lib.hid hz1
  have HZ2 := Lib.hid hz2
  have hb0 : Below w.heap.size w (w.alloc (.cells #[.slice A n c] 24)) := (Below.refl _ _).alloc (Nat.le_refl _) _
  have HB0 := Lib.hid hb0
  have HBK := Lib.hid (Bk.new w 24 #[.slice A n c])
  have HA := Lib.hid (ha.below hb0 (Nat.le_refl _))
  have HS := Lib.hid hs
  obtain ⟨b, off, rfl, hat⟩ := ha.at_ (i := i) (by omega)
  clear ha hb0 hi0 hz0 hz1 hz2 hat
  obtain ⟨K, hK⟩ : ∃ K, kidsOf (par l) n i = K := ⟨_, rfl⟩
  obtain ⟨k1, -, k3⟩ := kids_links (par l) i n
  rw [hK] at k1
  have kb : ∀ m (h : m < K.length), K[m]'h < n ∧ (i : Int) < ((K[m]'h : Nat) : Int) := fun m h => by
    have := kidsOf_lt (p := par l) (n := n) (i := i) (j := K[m]'h) (by rw [hK]; exact List.getElem_mem h)
    refine ⟨this.1, ?_⟩
    by_cases h0 : K[m]'h = 0
    · have hr := ((ordB_iff _ _).1 hs.ord).1
      rw [h0] at this; omega
    · have := ord_lt hs.ord (i := K[m]'h) (by omega) (by omega); omega
  have kn : ∀ m (h : m < K.length), nxt (par l) n (K[m]'h) = nth K (m + 1) := fun m h => by
    have h' : m < (kidsOf (par l) n i).length := by rw [hK]; exact h
    have := k3 m h'
    simpa only [hK] using this
  have hkl : K.length ≤ n := by rw [← hK]; unfold kidsOf; exact Nat.le_trans (List.length_filter_le _ _) (by simp)
  have HKB := Lib.hid kb
  have HKN := Lib.hid kn
  have HK1 := Lib.hid k1
  rw [hK]
  clear k1 k3 kb kn hK hs
  have i1 : (i : Int) < (n : Int) := by omega
  have i0' : ¬ ((i : Int) < 0) := by omega
  have i3 : ¬ ((n : Int) ≤ (i : Int)) := by omega
  obtain ⟨W0, hW0⟩ : ∃ W, w.alloc (.cells #[.slice (some ⟨b, off, none⟩) n c] 24) = W := ⟨_, rfl⟩
  rw [hW0] at HB0 HBK HA
  have HW0 := Lib.hid hW0
  have HB1 := Lib.hid HB0.out
  have HBK1 := Lib.hid HBK.out
  have HA1 := Lib.hid HA.out
  obtain ⟨b', off', he, hat⟩ := HA1.out.at_ (i := i) (by omega)
  obtain ⟨rfl, rfl⟩ : b' = b ∧ off' = off := by injection he with he; injection he with h1 h2; exact ⟨h1.symm, h2.symm⟩
  have x5 := hat.c5
  rw [HS.out.first i (by omega), hl, HK1.out] at x5
  have z0 : W0.cell? ⟨w.heap.size, 0, none⟩ = some (.slice (some ⟨b', off', none⟩) n c) := HBK1.out.cell 0
  have lb := hat.lt
  have lz := HBK1.out.lt
  clear hat he hW0
  go_enter Tryd.func32, Tryd.ntmps32
  go_upto_region 1 with fail
  rw [HW0.out]
  clear HW0
  go_upto_region 5 with fail
  clear x5 z0
  go_loopg [5, 6] K.length (fun gm v k wr => ∃ m, m + gm = K.length ∧ k = .int .i64 (nth K m) ∧ Hid (wr.ownsRow W0.heap.size 3 1 v m (ints (K.take m))) ∧ Hid (Below W0.heap.size W0 wr))
  case atStart => exact ⟨0, by omega, rfl, Lib.hid (World.ownsRow_nil _ _ _ _), Lib.hid (Below.refl _ _)⟩
  case round =>
    obtain ⟨m, hm, rfl, ho, hb⟩ := hrel
    have hzw := hb.out.size
    have z0 : wr.cell? ⟨w.heap.size, 0, none⟩ = some (.slice (some ⟨b', off', none⟩) n c) := (HBK1.out.below hb.out HBK1.out.lt).cell 0
    by_cases hlt : m < K.length
    · obtain ⟨a3, a4⟩ := HKB.out m hlt
      have HTK := Lib.hid (ints_take hlt)
      have HNX := Lib.hid (HKN.out m hlt)
      have HNI := Lib.hid (nth_in hlt)
      obtain ⟨j, hj⟩ : ∃ j, K[m]'hlt = j := ⟨_, rfl⟩
      rw [hj] at a3 a4 HTK HNX HNI
      rw [HNI.out]
      clear hj
      have i2 : (j : Int) < (n : Int) := by omega
      have hbk2 := HBK1.out.below hb.out HBK1.out.lt
      have HROW := Lib.hid (fun W (h : Below W0.heap.size W0 W) => HA1.out.below h (Nat.le_refl _))
      go_upto_region 6 with (at_builtin; refine wpList_append_elt rfl (.tmp 30) (.tmp 32) 58 rfl W0.heap.size 3 i0 _ 1 8 Tryd.underlying58 HI0.out HZ0.out HZ1.out HZ2.out rfl (by omega) u5 m (ints (K.take m)) rfl ho.out [.int .i64 (j : Int)] rfl rfl (by simp [Value.oneCell']) (by unfold maxLen; omega) (by omega) hzw ?_; intro g cap w3 ho3 hg3 hat3 hlt3 hb3; have HO3 := Lib.hid ho3; have HB3 := Lib.hid (hb.out.trans hb3); clear ho3 hg3 hat3 hb3)
      have z3 : w3.cell? ⟨w.heap.size, 0, none⟩ = some (.slice (some ⟨b', off', none⟩) n c) := (HBK1.out.below HB3.out HBK1.out.lt).cell 0
      obtain ⟨b2, off2, he2, hat2⟩ := (HROW.out w3 HB3.out).at_ (i := j) (by omega)
      obtain ⟨rfl, rfl⟩ : b2 = b' ∧ off2 = off' := by injection he2 with he2; injection he2 with h1 h2; exact ⟨h1.symm, h2.symm⟩
      have x8 := hat2.c8
      rw [HS.out.next j (by omega), hl, HNX.out] at x8
      obtain ⟨NX, hNX⟩ : ∃ x, nth K (m + 1) = x := ⟨_, rfl⟩
      rw [hNX] at x8
      have HNXX := Lib.hid hNX
      clear hat2 he2 z0 hNX
      go_wp2
      go_roundg (gk - 1)
      case measure => omega
      case rel => exact ⟨m + 1, by omega, by rw [HNXX.out], Lib.hid (by rw [← HTK.out]; exact HO3.out), HB3⟩
    · obtain rfl : m = K.length := by omega
      have hno : nth K K.length = -1 := nth_out (Nat.le_refl _)
      rw [hno]
      clear hno
      go_wp2
      go_ret
      refine ⟨_, rfl, ?_, HB1.out.trans (hb.out.mono HB1.out.size)⟩
      have := ho.out
      rw [List.take_of_length_le (Nat.le_refl _)] at this
      exact own_less this HB1.out.size
end Go.Proofs.YtdogcnmepaemjaaDoor
namespace Go.Proofs.YtdogcnmepaemjaaDoor
set_option linter.unusedVariables false
open Go.RowKit Go.Proofs.Fm Go.Proofs.Fb Go.Proofs.Fu Go.Proofs.Fr Go.Proofs.Fd Go.Proofs.Fc

/-- what part answers of node i: attributes shared, kids in new memory -/
def PartOut (l : List Nd) (f i : Nat) (W0 w : World) (e : Ending) (w' : World) : Prop := ∃ (va : Value) (K : Option Addr) (d : Nat), AVal W0 va (partF l f i).attrs ∧ e = .returned (.agg #[str (partF l f i).name, str (partF l f i).text, va, .slice K (partF l f i).kids.length d]) ∧ KRes W0 w' (fun x => w.heap.size ≤ x ∧ x < w'.heap.size) (.slice K (partF l f i).kids.length d) (partF l f i).kids ∧ Below w.heap.size w w'
def PartSpec (l : List Nd) (f : Nat) : Prop := ∀ (W0 w : World) (A : Option Addr) (n c i : Nat), l.length = n → n ≤ 4096 → i < n → n ≤ i + f → NRow W0 A l → Below W0.heap.size W0 w →
  Calls Tryd.prog 14 #[.agg #[.slice A n c], .int .i64 (i : Int)] w (PartOut l f i W0 w)
theorem partInfo0 : (Tryd.prog.info? 31).map (fun i => (i.zero, i.size, i.bytes)) = some (some (.agg #[.string ⟨#[]⟩, .string ⟨#[]⟩, .slice none 0 0, .slice none 0 0]), 4, 80) := by kernel_rfl
theorem KRow.below {W W' : World} {A : Option Addr} {K : List Nat} (h : KRow W A K) (hb : Below W.heap.size W W') : KRow W' A K := by
  rcases h with h | ⟨g, cur, fz, rfl, h1, h2⟩
  · exact .inl h
  · exact .inr ⟨g, cur, fz, rfl, (hb.block g (Array.getElem?_eq_some_iff.1 h1).1).trans h1, h2⟩
/-- while kids are laid; w1 is the world with the call's own variables -/
structure PSt (W0 w1 : World) (b : Nat) (nm tx : Str) (va v : Value) (rs : List Rk) (Kk : Option Addr) (KS : List Nat) (W : World) : Prop where
  t3 : Bk W b 31 #[str nm, str tx, va, v]
  gr : Grows W0 W (b + 1) 31 v rs
  bl : Below b w1 W
  kr : KRow W Kk KS
theorem PSt.below {W0 w1 W W' : World} {b : Nat} {nm tx : Str} {va v : Value} {rs : List Rk} {Kk : Option Addr} {KS : List Nat} (h : PSt W0 w1 b nm tx va v rs Kk KS W) (hb : Below W.heap.size W W') : PSt W0 w1 b nm tx va v rs Kk KS W' :=
  ⟨h.t3.below hb h.t3.lt, h.gr.below hb, h.bl.trans (hb.mono (Nat.le_of_lt h.t3.lt)), h.kr.below hb⟩
theorem PSt.add {W0 w1 W w5 : World} {b g cap : Nat} {nm tx : Str} {va v : Value} {rs : List Rk} {Kk : Option Addr} {KS : List Nat} (h : PSt W0 w1 b nm tx va v rs Kk KS W) (q : Rk) (ha : AVal W0 q.2.1 q.1.attrs) {S : Nat → Prop} (hk : KRes W0 W S q.2.2 q.1.kids) (hS : ∀ x, S x → b + 1 ≤ x ∧ x < W.heap.size ∧ v.ownBlock ≠ some x)
    (ho : w5.ownsRow (b + 1) 31 4 (.slice (some ⟨g, 0, none⟩) (rs.length + 1) cap) (rs.length + 1) (rkCells rs ++ ptCells q)) (hg : W.grownBy w5 v.ownBlock) (hat : v.ownBlock = some g ∨ W.heap.size ≤ g) :
    PSt W0 w1 b nm tx va (.slice (some ⟨g, 0, none⟩) (rs.length + 1) cap) (rs ++ [q]) Kk KS (w5.setCell ⟨b, 3, none⟩ (.slice (some ⟨g, 0, none⟩) (rs.length + 1) cap)) := by
  have hlo := h.gr.own.lt
  have hne : v.ownBlock ≠ some b := fun e => by have := (hlo b e).1; omega
  have t5 := h.t3.grown hg (fun e => hne e.symm)
  refine ⟨?_, (h.gr.add q ha hk hS ho hg hat).far (by omega), ?_, ?_⟩
  · have := t5.set_ 3 (.slice (some ⟨g, 0, none⟩) (rs.length + 1) cap)
    simpa using this
  · exact ((h.bl.grown hg (Nat.le_of_lt h.t3.lt) (fun k hk => by have := (hlo k hk).1; omega))).setCell (p := ⟨b, 3, none⟩) (Nat.le_refl _) _
  · rcases h.kr with h0 | ⟨gk, cur, fz, rfl, h1, h2⟩
    · exact .inl h0
    · have hl := (Array.getElem?_eq_some_iff.1 h1).1
      have n1 : v.ownBlock ≠ some gk := fun e => by
        rcases h.gr.own.2 with ⟨rfl, _⟩ | ⟨g', cap', cur', rfl, _, hh, _⟩
        · cases e
        · have e : g' = gk := by simpa [Value.ownBlock] using e
          subst e
          rw [hh] at h1
          injection h1 with h1
          injection h1 with _ h1
          exact absurd h1 (by decide)
      have n2 : gk ≠ b := fun e => by
        have : W.heap[b]? = some (Obj.cells #[str nm, str tx, va, v] 31) := h.t3
        rw [← e, h1] at this
        injection this with this
        injection this with _ this
        exact absurd this (by decide)
      refine .inr ⟨gk, cur, fz, rfl, ?_, h2⟩
      exact (Below.heap_setCell w5 ⟨b, 3, none⟩ _ gk (by show gk ≠ b; exact n2)).trans ((hg.block gk hl (fun e => n1 e.symm)).trans h1)
theorem part_result {W : World} {b : Nat} {v0 v1 v2 v3 : Value} (h0 : W.cell? ⟨b, 0, none⟩ = some v0) (h1 : W.cell? ⟨b, 1, none⟩ = some v1) (h2 : W.cell? ⟨b, 2, none⟩ = some v2) (h3 : W.cell? ⟨b, 3, none⟩ = some v3) (ts : Array Value) (ht : ts[4]?.getD undef = .pointer (some ⟨b, 0, none⟩)) :
    (results Tryd.f14 ts).run Tryd.prog W = .ok (.agg #[v0, v1, v2, v3]) W := by
  simp [results, Tryd.results14, ht, go_sem, h0, h1, h2, h3, Result.andThen]
set_option maxHeartbeats 4000000 in
set_option maxRecDepth 100000 in
theorem part_any (l : List Nd) (hs : SaidF l) : ∀ f, PartSpec l f
  | 0 => fun W0 w A n c i hl hn hi hf hrow hbW => by omega
  | f + 1 => fun W0 w A n c i hl hn hi hf hrow hbW => by
    have IH := Lib.hid (part_any l hs f)
    obtain ⟨i0, hi0, hz0, hz1, hz2⟩ := info_parts partInfo0
    have HI0 := Lib.hid hi0
    have HZ0 := Lib.hid hz0
    have HZ1 := Lib.hid hz1
    have HZ2 := Lib.hid hz2
    have hil : i < l.length := by omega
    have hkids : ∀ j, j ∈ kidsOf (par l) n i → j < n ∧ i < j := fun j hj => by
      obtain ⟨a, b⟩ := kidsOf_lt hj
      rcases Nat.eq_zero_or_pos j with e | e
      · subst e
        have := ((ordB_iff _ _).1 hs.ord).1
        rw [this] at b; omega
      · have := par_bd hs e (by omega)
        omega
    have hkn : (kidsOf (par l) n i).length ≤ n := by
      unfold kidsOf; exact Nat.le_trans (List.length_filter_le _ _) (by simp)
    have hpf : partF l (f + 1) i = .mk (l[i]'hil).name (l[i]'hil).text (l[i]'hil).attrs ((kidsOf (par l) n i).map (partF l f)) := by
      rw [partF, List.getElem?_eq_getElem hil, hl]
    have HKID := Lib.hid (fun W (h : Below W0.heap.size W0 W) => refKids_any A n c l hl (by omega) hs i hi W (hrow.below h (Nat.le_refl _)))
    have HROW := Lib.hid hrow
    obtain ⟨KS, hKS⟩ : ∃ K, kidsOf (par l) n i = K := ⟨_, rfl⟩
    rw [hKS] at HKID hkids hkn hpf
    obtain ⟨b', off, rfl, hat⟩ := hrow.at_ (i := i) hil
    obtain ⟨w1, hw1⟩ : ∃ W, (w.alloc (.cells #[.slice (some ⟨b', off, none⟩) n c] 24)).alloc (.cells #[.string ⟨#[]⟩, .string ⟨#[]⟩, .slice none 0 0, .slice none 0 0] 31) = W := ⟨_, rfl⟩
    have hsz1 : w.heap.size + 1 + 1 = w1.heap.size := by rw [← hw1]; simp
    have hb1 : Below w.heap.size w w1 := hw1 ▸ ((Below.refl _ w).alloc (Nat.le_refl _) _).alloc (by simp) _
    have hx1 : Bk w1 w.heap.size 24 #[.slice (some ⟨b', off, none⟩) n c] := hw1 ▸ (Bk.new w 24 _).alloc _
    have ht1 : Bk w1 (w.heap.size + 1) 31 #[.string ⟨#[]⟩, .string ⟨#[]⟩, .slice none 0 0, .slice none 0 0] := hw1 ▸ (by simpa using Bk.new (w.alloc (.cells #[.slice (some ⟨b', off, none⟩) n c] 24)) 31 #[.string ⟨#[]⟩, .string ⟨#[]⟩, .slice none 0 0, .slice none 0 0])
    have hW01 : Below W0.heap.size W0 w1 := hbW.trans (hb1.mono hbW.size)
    have hy := hat.below hW01 (Nat.le_refl _)
    obtain ⟨vx, y3, ax⟩ := hat.c3
    have y3 := (hW01.cell (p := ⟨b', off + i * 9 + 3, none⟩) hat.lt).trans y3
    obtain ⟨X, hX⟩ : ∃ X, l[i]'hil = X := ⟨_, rfl⟩
    rw [hX] at hy ax hpf
    obtain ⟨A5, c5, rfl, hv5⟩ := ax.ex
    have y0 := hy.c0; have y1 := hy.c1; have y2 := hy.c2; have y4 := hy.c4; have y5 := hy.c5; have y6 := hy.c6; have y7 := hy.c7; have y8 := hy.c8
    have z0 : w1.cell? ⟨w.heap.size, 0, none⟩ = some (.slice (some ⟨b', off, none⟩) n c) := hx1.cell 0
    have i1 : (i : Int) < (n : Int) := by omega
    have i2 : (0 : Int) ≤ (i : Int) := by omega
    have HAX := Lib.hid ax
    obtain ⟨kd, nm, tx, al, pa, fi, la, pr, ne⟩ := X
    unfold PartOut
    rw [hpf]
    dsimp only [Pt.name, Pt.text, Pt.attrs, Pt.kids, str] at *
    rw [List.length_map]
    have HW1 := Lib.hid hw1
    have HB1 := Lib.hid hb1
    have HX1 := Lib.hid hx1
    have HT1 := Lib.hid ht1
    have HBW := Lib.hid hbW
    have HKS := Lib.hid hkids
    have HS1 := Lib.hid hsz1
    have hz1' : w.heap.size < w1.heap.size := by omega
    clear hi0 hz0 hz1 hz2 hw1 hb1 hx1 ht1 hbW hkids hpf hKS hX hv5 ax hy hat hrow hsz1 hW01
    go_enter Tryd.func14, Tryd.ntmps14
    go_upto_region 1 with fail
    rw [HW1.out]
    clear HW1
    go_upto_region 3 with fail
    obtain ⟨wn, hwn⟩ : ∃ W, w1.alloc (.cells #[.int .i64 kd, .string ⟨nm.toArray⟩, .string ⟨tx.toArray⟩, .slice A5 al.length c5, .int .i64 pa, .int .i64 fi, .int .i64 la, .int .i64 pr, .int .i64 ne] 41) = W := ⟨_, rfl⟩
    have hszn : w1.heap.size + 1 = wn.heap.size := by rw [← hwn]; simp
    have hbn : Below w.heap.size w wn := hwn ▸ HB1.out.alloc (by omega) _
    have hxn : Bk wn w.heap.size 24 #[.slice (some ⟨b', off, none⟩) n c] := hwn ▸ HX1.out.alloc _
    have htn : Bk wn (w.heap.size + 1) 31 #[.string ⟨#[]⟩, .string ⟨#[]⟩, .slice none 0 0, .slice none 0 0] := hwn ▸ HT1.out.alloc _
    have hl1 : w.heap.size < wn.heap.size := by omega
    have hl2 : w.heap.size + 1 < wn.heap.size := by have := HS1.out; omega
    rw [hwn, hszn]
    have hst0 : PSt W0 wn wn.heap.size nm tx (.slice A5 al.length c5) (.slice none 0 0) [] none [] (wn.alloc (.cells #[.string ⟨nm.toArray⟩, .string ⟨tx.toArray⟩, .slice A5 al.length c5, .slice none 0 0] 31)) :=
      ⟨Bk.new wn 31 _, ⟨World.ownsRow_nil _ _ _ _, by simp⟩, (Below.refl _ _).alloc (Nat.le_refl _) _, .inl rfl⟩
    refine wp_gen (fun W => PSt W0 wn wn.heap.size nm tx (.slice A5 al.length c5) (.slice none 0 0) [] none [] W) hst0 ?_
    rintro W2 hst2
    obtain ⟨b, hb⟩ : ∃ b, wn.heap.size = b := ⟨_, rfl⟩
    rw [hb] at hst2 hl1 hl2 ⊢
    have HBN := Lib.hid hbn
    have HXN := Lib.hid hxn
    have HTN := Lib.hid htn
    have HB := Lib.hid hb
    have HWB := Lib.hid (show Below W0.heap.size W0 W2 from HBW.out.trans ((hbn.trans (hst2.bl.mono (by omega))).mono HBW.out.size))
    have hkc := HKID.out W2 HWB.out
    have HKC := Lib.hid hkc
    have z2 : W2.cell? ⟨w.heap.size, 0, none⟩ = some (.slice (some ⟨b', off, none⟩) n c) := (hxn.below hst2.bl hl1).cell 0
    have HST2 := Lib.hid hst2
    clear hst0 hst2 hbn hxn htn hwn hszn hb hkc HB1 HX1 HT1 y0 y1 y2 y3 y4 y5 y6 y7 y8 z0 HKID
    go_upto_region 5 with (go_at_call 32; refine (HKC.out).mono ?_; rintro e W3 ⟨vk, rfl, hown, hb3⟩; obtain ⟨K, cK, rfl⟩ := own_form hown; obtain ⟨hkr, -⟩ := KRow.of_own hown rfl; have hs3 := HST2.out.below hb3; have HST3 := Lib.hid (show PSt W0 wn b nm tx (.slice A5 al.length c5) (.slice none 0 0) [] K KS W3 from ⟨hs3.t3, hs3.gr, hs3.bl, hkr⟩); clear hown hb3 hkr hs3)
    clear HST2 HKC z2 HWB
    have hW0 := HBW.out.size
    go_loopg [8] KS.length (fun gk i wr => ∃ m : Nat, m + gk = KS.length ∧ i = .int .i64 (m : Int) ∧ Hid (∃ (rs : List Rk) (v : Value), rs.map (·.1) = (KS.take m).map (partF l f) ∧ PSt W0 wn b nm tx (.slice A5 al.length c5) v rs K KS wr))
    case atStart => exact ⟨0, by omega, rfl, Lib.hid ⟨[], _, rfl, HST3.out⟩⟩
    case round =>
      obtain ⟨m, hm, rfl, hrr⟩ := hrel
      obtain ⟨rs, v, hrs, hst⟩ := hrr.out
      have hbl := hst.bl
      have hxw := HXN.out.below hbl hl1
      have z3 : wr.cell? ⟨w.heap.size, 0, none⟩ = some (.slice (some ⟨b', off, none⟩) n c) := hxw.cell 0
      have lx := hxw.lt
      have HTW := Lib.hid (HTN.out.below hbl hl2)
      have HBR := Lib.hid (HBW.out.trans ((HBN.out.trans (hbl.mono (by omega))).mono hW0))
      have hrl : rs.length = min m KS.length := by have := congrArg List.length hrs; rwa [List.length_map, List.length_map, List.length_take] at this
      obtain ⟨Av, cv, rfl⟩ := own_form hst.gr.own
      have HST := Lib.hid hst
      have HRS := Lib.hid hrs
      have HRL := Lib.hid hrl
      have ht3 : wr.cell? ⟨b, 3, none⟩ = some (.slice Av rs.length cv) := hst.t3.cell 3
      have lb := hst.t3.lt
      clear hrr hst hrs hbl hxw HST3
      by_cases hlt : m < KS.length
      · have hrj : rs.length = m := by omega
        have j1 : (m : Int) < (KS.length : Int) := by omega
        obtain ⟨g0, rfl, hkc⟩ := HST.out.kr.cell hlt
        obtain ⟨hj1, hj2⟩ := HKS.out _ (List.getElem_mem hlt)
        have htk : (KS.take (m + 1)).map (partF l f) = (KS.take m).map (partF l f) ++ [partF l f (KS[m]'hlt)] := by rw [List.take_succ_eq_append_getElem hlt, List.map_append]; rfl
        obtain ⟨j, hj⟩ : ∃ j, KS[m]'hlt = j := ⟨_, rfl⟩
        rw [hj] at hkc hj1 hj2 htk
        have hmd : Below W0.heap.size W0 wr.drew := HBR.out.drew
        have hC := IH.out W0 wr.drew (some ⟨b', off, none⟩) n c j hl hn hj1 (by omega) HROW.out hmd
        unfold PartOut at hC
        obtain ⟨Q, hQ⟩ : ∃ Q, partF l f j = Q := ⟨_, rfl⟩
        rw [hQ] at hC htk
        have lg : g0 < wr.heap.size := World.block_lt_of_cell? _ _ hkc
        have HC := Lib.hid hC
        have HTK := Lib.hid htk
        have HKEEP := Lib.hid (fun w2 (h : Below wr.heap.size wr.drew w2) => (show PSt W0 wn b nm tx (.slice A5 al.length c5) (.slice Av rs.length cv) rs (some ⟨g0, 0, none⟩) KS w2 from HST.out.below ⟨h.os, h.tape, h.output, h.size, h.block⟩))
        have HLO := Lib.hid HST.out.gr.own.lt
        have hbw1 : b + 1 ≤ wr.heap.size := by omega
        have hrb : rs.length ≤ 4096 := by omega
        clear hj hC htk hmd HRL hrl hrj hQ IH
        go_upto_region 7 with fail
        go_region_law (first
          | (go_simp; go_at_call 14; (refine (HC.out).mono ?_); rintro e w2 ⟨va2, K2, d2, ha2, rfl, hk2, hb2⟩; obtain ⟨A1, c1, rfl, -⟩ := ha2.ex; have hs2 := HKEEP.out w2 hb2; have HS2 := Lib.hid hs2; have HK2 := Lib.hid hk2; have HVA := Lib.hid ha2; have u3 : w2.cell? ⟨b, 3, none⟩ = some (.slice Av rs.length cv) := hs2.t3.cell 3; have uf : w2.frozen? ⟨b, 3, none⟩ = false := hs2.t3.frozen 3; have ul : b < w2.heap.size := hs2.t3.lt; have uz : wr.heap.size ≤ w2.heap.size := hb2.size; clear hs2 hk2 hb2 ha2; dsimp only [str])
          | ((refine step_append_lies _ (by rfl) (.tmp 31) (.tmp 38) 29 (by rfl) (b + 1) 31 i0 _ 4 80 Tryd.underlying29 HI0.out HZ0.out HZ1.out HZ2.out rfl (by omega) (.slice Av rs.length cv) rs.length (rkCells rs) (by rfl) (HS2.out.gr.own.alloc _) ⟨w2.heap.size, 0, none⟩ 1 1 (ptCells (Q, .slice A1 Q.attrs.length c1, .slice K2 Q.kids.length d2)) (by rfl) rfl (news_lit w2 31 (ptCells (Q, .slice A1 Q.attrs.length c1, .slice K2 Q.kids.length d2))) (by simp [ptCells, str, Value.oneCell']) (by omega) (by unfold maxLen; omega) (by omega) (by simp; omega) (w2.heap.size + 1) (by simp) ?_; intro g cap w5 ho5 hg5 hat5 hlt5; have hg6 := grown_two (World.grownBy_alloc w2 _ none) hg5; have HS5 := Lib.hid (HS2.out.add (Q, .slice A1 Q.attrs.length c1, .slice K2 Q.kids.length d2) HVA.out HK2.out (fun x hx => ⟨Nat.le_trans hbw1 hx.1, hx.2, fun e => Nat.lt_irrefl x (Nat.lt_of_lt_of_le (HLO.out x e).2 hx.1)⟩) ho5 hg6 (by rcases hat5 with h | h; exact .inl h; exact .inr (by omega))); have hb5 := (Below.refl (b + 1) w2).grown hg6 (by omega) (fun k hk => (HS2.out.gr.own.lt k hk).1); have u5 := (hb5.cell (p := ⟨b, 3, none⟩) (by show b < b + 1; omega)).trans u3; have uf5 := (hb5.frozen (p := ⟨b, 3, none⟩) (by show b < b + 1; omega)).trans uf; clear ho5 hg5 hat5 hg6 hb5)))
        all_goals
          clear z3 ht3 hkc
          go_wp2
          go_roundg (gk - 1)
          case measure => omega
          case rel => exact ⟨m + 1, by omega, by go_num, Lib.hid ⟨_, _, by rw [List.map_append, HRS.out, HTK.out]; rfl, HS5.out⟩⟩
      · have hje : m = KS.length := by omega
        have hrk : rs.map (·.1) = KS.map (partF l f) := by rw [HRS.out, hje, List.take_of_length_le (Nat.le_refl _)]
        have hrl2 : rs.length = KS.length := by rw [← List.length_map (f := partF l f), ← hrk, List.length_map]
        have j1 : ¬ ((m : Int) < (KS.length : Int)) := by omega
        have a0 : wr.cell? ⟨b, 0, none⟩ = some (.string ⟨nm.toArray⟩) := HST.out.t3.cell 0
        have a1 : wr.cell? ⟨b, 1, none⟩ = some (.string ⟨tx.toArray⟩) := HST.out.t3.cell 1
        have a2 : wr.cell? ⟨b, 2, none⟩ = some (.slice A5 al.length c5) := HST.out.t3.cell 2
        have t0 : wr.cell? ⟨w.heap.size + 1, 0, none⟩ = some (.string ⟨#[]⟩) := HTW.out.cell 0
        have t1 : wr.cell? ⟨w.heap.size + 1, 1, none⟩ = some (.string ⟨#[]⟩) := HTW.out.cell 1
        have t2 : wr.cell? ⟨w.heap.size + 1, 2, none⟩ = some (.slice none 0 0) := HTW.out.cell 2
        have t3 : wr.cell? ⟨w.heap.size + 1, 3, none⟩ = some (.slice none 0 0) := HTW.out.cell 3
        have tf : ∀ i, wr.frozen? ⟨w.heap.size + 1, i, none⟩ = false := HTW.out.frozen
        have lt := HTW.out.lt
        have HRK := Lib.hid hrk
        have HRL2 := Lib.hid hrl2
        have HFIN := Lib.hid (HST.out.gr.res)
        have HBLL := Lib.hid HST.out.bl
        clear hrk hrl2 hrl HRL
        go_wp2
        rw [HRL2.out]
        refine bodyPost_ret (v := .agg #[.string ⟨nm.toArray⟩, .string ⟨tx.toArray⟩, .slice A5 al.length c5, .slice Av KS.length cv]) ?_ rfl ⟨_, HAX.out, Av, cv, rfl, ?_, ?_⟩
        · have hq := (((HTW.out.set_ 0 (.string ⟨nm.toArray⟩)).set_ 1 (.string ⟨tx.toArray⟩)).set_ 2 (.slice A5 al.length c5)).set_ 3 (.slice Av KS.length cv)
          exact part_result (b := w.heap.size + 1) (hq.cell 0) (hq.cell 1) (hq.cell 2) (hq.cell 3) _ rfl
        · have h1 := HFIN.out
          rw [HRK.out, HRL2.out] at h1
          refine h1.map (fun x hx => ⟨by omega, by simpa [World.setCell] using hx.2⟩) (fun x hx => ?_)
          have hne : x ≠ w.heap.size + 1 := by omega
          exact (((Below.heap_setCell _ ⟨w.heap.size + 1, 3, none⟩ _ x hne).trans (Below.heap_setCell _ ⟨w.heap.size + 1, 2, none⟩ _ x hne)).trans (Below.heap_setCell _ ⟨w.heap.size + 1, 1, none⟩ _ x hne)).trans (Below.heap_setCell _ ⟨w.heap.size + 1, 0, none⟩ _ x hne)
        · exact ((((HBN.out.trans (HBLL.out.mono (by omega))).setCell (p := ⟨w.heap.size + 1, 0, none⟩) (by simp) _).setCell (p := ⟨w.heap.size + 1, 1, none⟩) (by simp) _).setCell (p := ⟨w.heap.size + 1, 2, none⟩) (by simp) _).setCell (p := ⟨w.heap.size + 1, 3, none⟩) (by simp) _
end Go.Proofs.YtdogcnmepaemjaaDoor
namespace Go.Proofs.YtdogcnmepaemjaaDoor
set_option linter.unusedVariables false
open Go.RowKit Go.Proofs.Fm Go.Proofs.Fb Go.Proofs.Fu Go.Proofs.Fr Go.Proofs.Fd Go.Proofs.Fc

theorem Sub.lims {L : List Nd} {i : Nat} {q : Pt} (h : Sub L (treeOf (rootOf q)) i (cnt q)) (hL : ∀ x ∈ L, LimN x) : ∀ x ∈ treeOf (rootOf q), LimN x := by
  intro x hx
  obtain ⟨k, hk, rfl⟩ := List.mem_iff_getElem.1 hx
  have hM := h.lenM
  by_cases e : k = 0
  · subst e
    have e : ((treeOf (rootOf q)).map bare)[0]? = some ((rootOf q).node (-1)) := by rw [tree_bare, root_pre]; rfl
    rw [List.getElem?_map, List.getElem?_eq_getElem hk] at e
    injection e with e
    have h1 : (bare ((treeOf (rootOf q))[0]'hk)).text = [] := by rw [e]; rfl
    have h2 : (bare ((treeOf (rootOf q))[0]'hk)).attrs = [] := by rw [e]; rfl
    have h1' : ((treeOf (rootOf q))[0]'hk).text = [] := h1
    have h2' : ((treeOf (rootOf q))[0]'hk).attrs = [] := h2
    exact ⟨by unfold Lim; rw [h1']; simp, by rw [h2']; simp⟩
  · obtain ⟨m, rfl⟩ : ∃ m, k = 1 + m := ⟨k - 1, by omega⟩
    obtain ⟨x, y, x1, y1, -, -, e3, e4⟩ := h.same m (by omega)
    rw [List.getElem?_eq_getElem hk] at x1
    injection x1 with x1
    have := hL y (List.mem_of_getElem? y1)
    rw [x1]
    exact ⟨by rw [e3]; exact this.1, by rw [e4]; exact this.2⟩
/-- what the law asks of the part below a node: made, and canonical -/
structure PartGood (Q : Pt) : Prop where
  right : rightE (treeOf (rootOf Q)) = 0
  canon : canonB (treeOf (rootOf Q)) = true
  lims : ∀ x ∈ treeOf (rootOf Q), LimN x
  few : cnt (rootOf Q) ≤ 4096
theorem part_good {l : List Nd} (hc : canonB l = true) (hlim : ∀ x ∈ l, LimN x) {i : Nat} (h0 : 0 < i) (hi : i < l.length) (hn : nmN l i ≠ sTr ∧ nmN l i ≠ sTd ∧ nmN l i ≠ sLi) : PartGood (partF l l.length i) := by
  obtain ⟨hs, hle⟩ := right_said (canon_parts hc).1
  obtain ⟨q, hq, hsub⟩ := said_sub hs h0 hi
  obtain ⟨h1, h2⟩ := sub_canon hsub hc hn
  have h3 := hsub.lims hlim
  have h4 := hsub.lenL
  have h5 : cnt (rootOf (cleanP q)) = cnt (rootOf q) := by rw [← treeOf_length, root_clean, treeOf_length]
  rw [hq]
  exact ⟨by rw [root_clean]; exact h1, by rw [root_clean]; exact h2, by rw [root_clean]; exact h3, by rw [h5, root_cnt]; omega⟩
set_option maxHeartbeats 4000000 in
set_option maxRecDepth 100000 in
theorem parts_walk (w : World) (he : Env w) (A : Option Addr) (n c : Nat) (l : List Nd) (hl : l.length = n) (hsz : n * 104 ≤ 140737488355328) (hrow : NRow w A l) (hlim : ∀ x ∈ l, Lims x) (k : Int) (hk : (Lit.int .i64 k).wf = true) :
    Calls Tryd.prog 5 #[.agg #[.slice A n c], .int .i64 k] w fun e w' => e = .returned (.bool true) ∧ Below w.heap.size w w' := by
  have HE := Lib.hid (fun W (h : Below w.heap.size w W) => he.below h he.sz)
  have HKN := Lib.hid (fun W (h : Below w.heap.size w W) => known_any W (he.below h he.sz))
  have HROW := Lib.hid (fun W (h : Below w.heap.size w W) => hrow.below h (Nat.le_refl _))
  have HLIM := Lib.hid (show ∀ x ∈ l, LimN x from fun x hx => hlim x hx)
  obtain ⟨W1, hW1⟩ : ∃ W, w.alloc (.cells #[.slice A n c] 24) = W := ⟨_, rfl⟩
  have hsz1 : w.heap.size + 1 = W1.heap.size := by rw [← hW1]; simp
  have HB1 := Lib.hid (show Below w.heap.size w W1 from hW1 ▸ (Below.refl _ w).alloc (Nat.le_refl _) _)
  have HX1 := Lib.hid (show Bk W1 w.heap.size 24 #[.slice A n c] from hW1 ▸ Bk.new w 24 _)
  have HW1 := Lib.hid hW1
  have z0 : W1.cell? ⟨w.heap.size, 0, none⟩ = some (.slice A n c) := HX1.out.cell 0
  have lx : w.heap.size < W1.heap.size := HX1.out.lt
  clear he hrow hlim hW1
  go_enter Tryd.func5, Tryd.ntmps5
  go_upto_region 1 with fail
  rw [HW1.out]
  clear HW1
  by_cases hbig : (300 : Int) < (n : Int)
  · go_wp2_with (go_at_call 10; refine (HKN.out _ HB1.out).mono ?_; rintro e w2 ⟨rfl, hb2⟩; have HB2 := Lib.hid hb2; clear hb2)
    go_ret
    exact ⟨rfl, HB1.out.trans (HB2.out.mono (by omega))⟩
  have hca := canon_any A n c l hl (by omega) HLIM.out W1 (HE.out W1 HB1.out) (HROW.out W1 HB1.out)
  rcases hcn : canonB l with _ | _
  · rw [hcn] at hca
    have HC := Lib.hid hca
    clear hca hcn
    go_wp2_with (first
      | (go_at_call 7; refine (HC.out).mono ?_; rintro e w2 ⟨rfl, hb2⟩; have HB2 := Lib.hid (HB1.out.trans (hb2.mono (by omega))); have HS2 := Lib.hid hb2.size; clear hb2)
      | (go_at_call 10; refine (HKN.out _ HB2.out).mono ?_; rintro e w3 ⟨rfl, hb3⟩; have HB3 := Lib.hid hb3; clear hb3))
    go_ret
    exact ⟨rfl, HB2.out.trans (HB3.out.mono (by have := HB2.out.size; omega))⟩
  rw [hcn] at hca
  have HC := Lib.hid hca
  have HCN := Lib.hid hcn
  clear hca hcn
  by_cases hk0 : k ≤ 0
  · go_wp2_with (first
      | (go_at_call 7; refine (HC.out).mono ?_; rintro e w2 ⟨rfl, hb2⟩; have HB2 := Lib.hid (HB1.out.trans (hb2.mono (by omega))); have HS2 := Lib.hid hb2.size; clear hb2)
      | (go_at_call 10; refine (HKN.out _ HB2.out).mono ?_; rintro e w3 ⟨rfl, hb3⟩; have HB3 := Lib.hid hb3; clear hb3))
    go_ret
    exact ⟨rfl, HB2.out.trans (HB3.out.mono (by have := HB2.out.size; omega))⟩
  by_cases hkn : (n : Int) ≤ k
  · go_wp2_with (first
      | (go_at_call 7; refine (HC.out).mono ?_; rintro e w2 ⟨rfl, hb2⟩; have HB2 := Lib.hid (HB1.out.trans (hb2.mono (by omega))); have z2 : w2.cell? ⟨w.heap.size, 0, none⟩ = some (.slice A n c) := (HX1.out.below hb2 HX1.out.lt).cell 0; clear hb2)
      | (go_at_call 10; refine (HKN.out _ HB2.out).mono ?_; rintro e w3 ⟨rfl, hb3⟩; have HB3 := Lib.hid hb3; clear hb3))
    go_ret
    exact ⟨rfl, HB2.out.trans (HB3.out.mono (by have := HB2.out.size; omega))⟩
  obtain ⟨i, rfl⟩ : ∃ i : Nat, k = (i : Int) := ⟨k.toNat, by omega⟩
  have hi : i < n := by omega
  have hil : i < l.length := by omega
  obtain ⟨b, off, rfl, hat⟩ := (HROW.out W1 HB1.out).at_ (i := i) hil
  have HN := Lib.hid (show ∀ W', Below w.heap.size w W' → NAt W' b (off + i * 9) (l[i]'hil) from fun W' h => by
    obtain ⟨b', off', e, h'⟩ := (HROW.out W' h).at_ (i := i) hil
    cases e
    exact h')
  have hnm := nmN_get hil
  obtain ⟨X, hX⟩ : ∃ X, l[i]'hil = X := ⟨_, rfl⟩
  rw [hX] at HN hnm
  have HNM := Lib.hid hnm
  clear hat hX hnm
  obtain ⟨kd, nm, tx, al, pa, fi, la, pr, ne⟩ := X
  have i3 : (i : Int) < (n : Int) := by omega
  have i4 : (0 : Int) ≤ (i : Int) := by omega
  have i5 : ¬ (n ≤ i) := by omega
  by_cases hkd : kd = 1
  case neg =>
    have d1 : (kd != 1) = true := by rw [bne_iff_ne]; exact hkd
    go_wp2_with (first
      | (go_at_call 7; refine (HC.out).mono ?_; rintro e w2 ⟨rfl, hb2⟩; have HB2 := Lib.hid (HB1.out.trans (hb2.mono (by omega))); have z2 : w2.cell? ⟨w.heap.size, 0, none⟩ = some (.slice (some ⟨b, off, none⟩) n c) := (HX1.out.below hb2 HX1.out.lt).cell 0; have y0 := (HN.out w2 HB2.out).c0; dsimp only at y0; clear hb2)
      | (go_at_call 10; refine (HKN.out _ HB2.out).mono ?_; rintro e w3 ⟨rfl, hb3⟩; have HB3 := Lib.hid hb3; clear hb3))
    go_ret
    exact ⟨rfl, HB2.out.trans (HB3.out.mono (by have := HB2.out.size; omega))⟩
  subst hkd
  dsimp only at HN HNM
  by_cases c1 : nm = sTr
  · have d2 : (nm == [116, 114]) = true := by rw [beq_iff_eq]; exact c1
    clear c1
    go_wp2_with (first
      | (go_at_call 7; refine (HC.out).mono ?_; rintro e w2 ⟨rfl, hb2⟩; have HB2 := Lib.hid (HB1.out.trans (hb2.mono (by omega))); have z2 : w2.cell? ⟨w.heap.size, 0, none⟩ = some (.slice (some ⟨b, off, none⟩) n c) := (HX1.out.below hb2 HX1.out.lt).cell 0; have y0 := (HN.out w2 HB2.out).c0; have y1 := (HN.out w2 HB2.out).c1; dsimp only [str] at y0 y1; clear hb2)
      | (go_at_call 10; refine (HKN.out _ HB2.out).mono ?_; rintro e w3 ⟨rfl, hb3⟩; have HB3 := Lib.hid hb3; clear hb3))
    go_ret
    exact ⟨rfl, HB2.out.trans (HB3.out.mono (by have := HB2.out.size; omega))⟩
  have d2 : (nm == [116, 114]) = false := by rw [beq_eq_false_iff_ne]; exact c1
  by_cases c2 : nm = sTd
  · have d3 : (nm == [116, 100]) = true := by rw [beq_iff_eq]; exact c2
    clear c1 c2
    go_wp2_with (first
      | (go_at_call 7; refine (HC.out).mono ?_; rintro e w2 ⟨rfl, hb2⟩; have HB2 := Lib.hid (HB1.out.trans (hb2.mono (by omega))); have z2 : w2.cell? ⟨w.heap.size, 0, none⟩ = some (.slice (some ⟨b, off, none⟩) n c) := (HX1.out.below hb2 HX1.out.lt).cell 0; have y0 := (HN.out w2 HB2.out).c0; have y1 := (HN.out w2 HB2.out).c1; dsimp only [str] at y0 y1; clear hb2)
      | (go_at_call 10; refine (HKN.out _ HB2.out).mono ?_; rintro e w3 ⟨rfl, hb3⟩; have HB3 := Lib.hid hb3; clear hb3))
    go_ret
    exact ⟨rfl, HB2.out.trans (HB3.out.mono (by have := HB2.out.size; omega))⟩
  have d3 : (nm == [116, 100]) = false := by rw [beq_eq_false_iff_ne]; exact c2
  by_cases c3 : nm = sLi
  · have d4 : (nm == [108, 105]) = true := by rw [beq_iff_eq]; exact c3
    clear c1 c2 c3
    go_wp2_with (first
      | (go_at_call 7; refine (HC.out).mono ?_; rintro e w2 ⟨rfl, hb2⟩; have HB2 := Lib.hid (HB1.out.trans (hb2.mono (by omega))); have z2 : w2.cell? ⟨w.heap.size, 0, none⟩ = some (.slice (some ⟨b, off, none⟩) n c) := (HX1.out.below hb2 HX1.out.lt).cell 0; have y0 := (HN.out w2 HB2.out).c0; have y1 := (HN.out w2 HB2.out).c1; dsimp only [str] at y0 y1; clear hb2)
      | (go_at_call 10; refine (HKN.out _ HB2.out).mono ?_; rintro e w3 ⟨rfl, hb3⟩; have HB3 := Lib.hid hb3; clear hb3))
    go_ret
    exact ⟨rfl, HB2.out.trans (HB3.out.mono (by have := HB2.out.size; omega))⟩
  have d4 : (nm == [108, 105]) = false := by rw [beq_eq_false_iff_ne]; exact c3
  have HG := Lib.hid (part_good HCN.out HLIM.out (i := i) (by omega) hil (by rw [HNM.out]; exact ⟨c1, c2, c3⟩))
  have hs := (right_said (canon_parts HCN.out).1).1
  have HP := Lib.hid (fun W (h : Below w.heap.size w W) => part_any l hs l.length W W (some ⟨b, off, none⟩) n c i hl (by omega) hi (by omega) (HROW.out W h) (Below.refl _ _))
  unfold PartOut at HP
  obtain ⟨Q, hQ⟩ : ∃ Q, partF l l.length i = Q := ⟨_, rfl⟩
  rw [hQ] at HG HP
  obtain ⟨qn, qt, qa, qk⟩ := Q
  dsimp only [Pt.name, Pt.text, Pt.attrs, Pt.kids, str] at HP
  clear c1 c2 c3 hQ hs HLIM
  go_upto_region 6 with (go_at_call 7; refine (HC.out).mono ?_; rintro e w2 ⟨rfl, hb2⟩; have HB2 := Lib.hid (HB1.out.trans (hb2.mono (by omega))); have z2 : w2.cell? ⟨w.heap.size, 0, none⟩ = some (.slice (some ⟨b, off, none⟩) n c) := (HX1.out.below hb2 HX1.out.lt).cell 0; have y0 := (HN.out w2 HB2.out).c0; have y1 := (HN.out w2 HB2.out).c1; dsimp only [str] at y0 y1; clear hb2)
  clear y0 y1 d2 d3 d4
  go_upto_region 7 with (first
    | (go_at_call 14; refine (HP.out w2 HB2.out).mono ?_; rintro e w3 ⟨va, K, d, hva, rfl, hkr, hb3⟩; obtain ⟨A6, c6, rfl, -⟩ := hva.ex; have hm := made_any (rootOf (.mk qn qt qa qk)) [114, 111, 111, 116] [] [] _ none _ 0 1 _ rfl HG.out.right (AVal.nil _) (kval_one w3 qn qt (.slice A6 qa.length c6) qa K qk.length d qk (hva.below hb3 (Nat.le_refl _)) (hkr.read hb3)); have hbm := (HB2.out.trans (hb3.mono HB2.out.size)).alloc (Nat.le_trans HB2.out.size hb3.size) (.cells #[str qn, str qt, .slice A6 qa.length c6, .slice K qk.length d] 31); dsimp only [str] at hm hbm; have HM := Lib.hid hm; have HBM := Lib.hid hbm; clear hm hbm hva hkr hb3)
    | (go_at_call 6; refine (HM.out).mono ?_; rintro e w4 ⟨A1, c1, rfl, hr1, hb4⟩; have HR1 := Lib.hid hr1; have HB4 := Lib.hid (HBM.out.trans (hb4.mono HBM.out.size)); clear hr1 hb4))
  refine wp_gen (fun W => TAt W w4.heap.size (rootOf (.mk qn qt qa qk)) ∧ Below w.heap.size w W) ⟨⟨A1, c1, Bk.new w4 24 _, HR1.out.below ((Below.refl _ _).alloc (Nat.le_refl _) _) (Nat.le_refl _)⟩, HB4.out.alloc HB4.out.size _⟩ ?_
  obtain ⟨b9, hb9⟩ : ∃ b, w4.heap.size = b := ⟨_, rfl⟩
  obtain ⟨R, hR⟩ : ∃ R, rootOf (.mk qn qt qa qk) = R := ⟨_, rfl⟩
  have hg := HG.out
  have hgR : rightE (treeOf R) = 0 ∧ canonB (treeOf R) = true ∧ (∀ x ∈ treeOf R, LimN x) ∧ cnt R ≤ 4096 := hR ▸ ⟨hg.right, hg.canon, hg.lims, hg.few⟩
  rw [hb9, hR]
  clear HM HBM HR1 HB4 HP HG hg hb9 hR
  rintro W5 ⟨ht5, hbl5⟩
  obtain ⟨A2, c2, hk2, hr2⟩ := ht5
  have x2 : W5.cell? ⟨b9, 0, none⟩ = some (.slice A2 (cnt R) c2) := hk2.cell 0
  have hc5 := canon_any A2 (cnt R) c2 (treeOf R) (treeOf_length R) (by omega) hgR.2.2.1 W5 (HE.out W5 hbl5) hr2
  rw [hgR.2.1] at hc5
  have HC5 := Lib.hid hc5
  have HBL5 := Lib.hid hbl5
  clear hc5 hk2 hr2 hgR hbl5 z2
  go_wp2_with (first
    | (go_at_call 7; refine (HC5.out).mono ?_; rintro e w6 ⟨rfl, hb6⟩; have HB6 := Lib.hid (HBL5.out.trans (hb6.mono HBL5.out.size)); clear hb6)
    | (go_at_call 10; refine (HKN.out _ HB6.out).mono ?_; rintro e w7 ⟨rfl, hb7⟩; have HB7 := Lib.hid hb7; clear hb7))
  go_ret
  exact ⟨rfl, HB6.out.trans (HB7.out.mono HB6.out.size)⟩
end Go.Proofs.YtdogcnmepaemjaaDoor
