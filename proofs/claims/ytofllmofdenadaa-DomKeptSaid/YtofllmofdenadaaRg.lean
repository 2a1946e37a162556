/- How an argument that is a tree is told to a walk: its nodes and attributes as they are read. No conditions. -/
import Derived.Test.YtofllmofdenadaaDq
import Derived.Test.YtofllmofdenadaaBase
import Derived.Deep.Slices
import Derived.Deep.Fields
import Derived.ChangeSame
import Derived.OpenShut
import Derived.SizedLaws
namespace Go.Proofs.Ytofllmofdenadaa
set_option linter.unusedVariables false
open Go.ChangeShapes Go.WideShapes Go.RowKit Go.Deep Go.Proofs.Fd Go.Proofs.Fb

section
variable {H : Type} {enc : TypeId × Value → H} {P : Program} {w : World} {base : Nat} {spare : Nat → Bool} {held : Bool}
/-- all that a reading holds is of a size that may be -/
def Sz (P : Program) (t : TypeId) (d : DataW H) : Prop := ∀ m ∈ d.weights P t, m ≤ reachBytes
theorem Sz.each {ts : List TypeId} {ds : List (DataW H)} (h : (DataW.weightsEach P ts ds).all (· ≤ reachBytes) = true) {j : Nat} {t : TypeId} {d : DataW H} (ht : ts[j]? = some t) (hd : ds[j]? = some d) : Sz P t d := by
  intro m hm
  have := List.all_eq_true.1 h _ (DataW.weights_mem_each ht hd m hm)
  simpa using this
theorem Sz.field {t : TypeId} {fs : Array Field} {ds : List (DataW H)} (hu : P.underlying t = some (.struct fs)) (h : Sz P t (.agg ds)) {j : Nat} {f : Field} {d : DataW H} (hf : fs[j]? = some f) (hd : ds[j]? = some d) : Sz P f.type d := by
  intro m hm
  refine h m ?_
  simp only [DataW.weights, hu]
  exact DataW.weights_mem_each (j := j) (by rw [List.getElem?_map, Array.getElem?_toList, hf]; rfl) hd m hm
theorem mem_all {e : TypeId} : ∀ {ds : List (DataW H)} {d : DataW H}, d ∈ ds → ∀ m ∈ d.weights P e, m ∈ DataW.weightsAll P e ds
  | [], d, h, _, _ => by cases h
  | a :: r, d, h, m, hm => by
    simp only [DataW.weightsAll, List.mem_append]
    rcases List.mem_cons.1 h with rfl | h
    · exact .inl hm
    · exact .inr (mem_all h m hm)
theorem Sz.elem {t e : TypeId} {elems rest : List (DataW H)} (hu : P.underlying t = some (.slice e)) (h : Sz P t (.slice elems rest)) {d : DataW H} (hd : d ∈ elems) : Sz P e d := by
  intro m hm
  refine h m ?_
  simp only [DataW.weights, hu]
  exact List.mem_cons_of_mem _ (List.mem_append_left _ (mem_all hd m hm))
theorem Sz.len {t e : TypeId} {elems rest : List (DataW H)} (hu : P.underlying t = some (.slice e)) (h : Sz P t (.slice elems rest)) : (elems.length + rest.length) * P.bytesOf e ≤ reachBytes := by
  refine h _ ?_
  simp only [DataW.weights, hu]
  exact List.mem_cons_self
theorem open_slice_fields {t e : TypeId} {fs : Array Field} {fuel : Nat} {cs : List Value} {x : DataW H × List MemPlace} (ht : P.underlying t = some (.slice e)) (he : P.underlying e = some (.struct fs))
    (hone : oneCellFields P fs = true) (hC : P.cellsOf e = fs.size) (h : DataW.trod enc P w base spare held fuel t cs = some x) :
    (cs = [.slice none 0 0] ∧ x = (.nil, [])) ∨
    ∃ (a : Addr) (len cap m : Nat) (D : Nat → DataW H) (Pl : Nat → List MemPlace), cs = [.slice (some a) len cap] ∧ base ≤ a.block ∧ len ≤ cap ∧ cap ≤ maxLen ∧ m = (if spare a.block then cap else len) ∧
      x = (.slice ((List.range len).map D) ((List.range (m - len)).map fun j => D (len + j)), MemPlace.row a (m * fs.size) ++ (List.range m).flatMap Pl) ∧
      ∀ i, i < m → ∃ (ys : List (DataW H × List MemPlace)) (n : Nat), D i = .agg (ys.map (·.1)) ∧ Pl i = ys.flatMap (·.2) ∧ ys.length = fs.size ∧
        ∀ (j : Nat) (f : Field), fs[j]? = some f → ∃ (v : Value) (y : DataW H × List MemPlace), w.cell? (a.add (i * fs.size + j)) = some v ∧ ys[j]? = some y ∧ DataW.trod enc P w base spare held n f.type [v] = some y := by
  rcases open_slice ht h with h0 | ⟨a, len, cap, m, n, D, Pl, hcs, hb, hl, hm, hmm, hx, hi⟩
  · exact .inl h0
  · refine .inr ⟨a, len, cap, m, D, Pl, hcs, hb, hl, hm, hmm, by rw [hC] at hx; exact hx, fun i him => ?_⟩
    obtain ⟨cs', hc, ht'⟩ := hi i him
    rw [hC] at hc
    obtain ⟨ys, n', hn', hy, hlen, hyl, hf⟩ := DataW.trod_struct he ht'
    obtain ⟨_, hcl, hat⟩ := World.cells?_some hc
    simp only [Prod.mk.injEq] at hy
    refine ⟨ys, n', hy.1, hy.2, hyl, fun j f hj => ?_⟩
    obtain ⟨ho, hk⟩ := hone_of hone j f hj
    have hjl : j < fs.size := (Array.getElem?_eq_some_iff.1 hj).1
    have hcell := hat j hjl
    have hv : cs'[j]? = some (cs'[j]'(by omega)) := List.getElem?_eq_getElem (by omega)
    have h1 := hf j f hj
    rw [ho, hk] at h1
    have hone' : (cs'.drop j).take 1 = [cs'[j]'(by omega)] := by
      rw [List.drop_eq_getElem_cons (by omega)]
      rfl
    rw [hone'] at h1
    have hys : ys[j]? = some (ys[j]'(by omega)) := List.getElem?_eq_getElem (by omega)
    refine ⟨_, _, ?_, hys, h1.trans hys⟩
    rw [← Go.Deep.add_add, hcell, hv]
theorem plain_of {a : Addr} {k : Nat} {v : Value} (h : ∀ j : Nat, j < 1 → w.cell? (a.add (0 * k + j)) = some v) : ∃ b off, a = ⟨b, off, none⟩ := by
  obtain ⟨b, off, spot⟩ := a
  have h0 := h 0 (by omega)
  have hspot : spot = none := by simpa [Addr.add] using World.cell?_spot h0
  subst hspot
  exact ⟨b, off, rfl⟩
end

section
variable {H : Type} {enc : TypeId × Value → H} {w : World} {base : Nat} {spare : Nat → Bool} {held : Bool}
theorem str_of (s : ByteArray) : Value.string s = str s.data.toList := by
  unfold str
  cases s; rfl
theorem cell_get {w : World} {b off j : Nat} : w.cell? ((⟨b, off, none⟩ : Addr).add j) = w.cell? ⟨b, off + j, none⟩ := by rw [Go.WideShapes.add_plain]
/-- a slice of attributes -/
theorem read_attrs {n : Nat} {v : Value} {y : DataW H × List MemPlace} (h : DataW.trod enc Try.prog w base spare held n 28 [v] = some y) (hs : Sz Try.prog 28 y.1) : ∃ al, AVal w v al := by
  rcases open_slice_fields Try.underlying28 Try.underlying66 (by kernel_rfl) (by kernel_rfl) h with ⟨h1, -⟩ | ⟨a, len, cap, m, D, Pl, hcs, hb, hl, hc, hm, hx, hf⟩
  · injection h1 with h1; subst h1; exact ⟨[], AVal.nil w⟩
  · injection hcs with hcs _; subst hcs
    have hlm : len ≤ m := by rw [hm]; split <;> omega
    subst hx
    have hsz := Sz.len Try.underlying28 hs
    simp only [List.length_map, List.length_range] at hsz
    have hbo : Try.prog.bytesOf 66 = 32 := by kernel_rfl
    rw [hbo] at hsz
    have hlim : len ≤ 4398046511104 := by simp only [reachBytes] at hsz; omega
    have hfc : ∀ i, i < len → ∃ x : Att, w.cell? (a.add (i * 2)) = some (str x.1) ∧ w.cell? (a.add (i * 2 + 1)) = some (str x.2) := by
      intro i hi
      obtain ⟨ys, n', -, -, hyl, hfi⟩ := hf i (by omega)
      obtain ⟨v0, y0, c0, -, t0⟩ := hfi 0 _ rfl
      obtain ⟨v1, y1, c1, -, t1⟩ := hfi 1 _ rfl
      obtain ⟨s0, e0, -, -⟩ := DataW.trod_string Try.underlying9 t0
      obtain ⟨s1, e1, -, -⟩ := DataW.trod_string Try.underlying9 t1
      injection e0 with e0; injection e1 with e1
      subst e0; subst e1
      exact ⟨(s0.data.toList, s1.data.toList), by rw [← str_of]; exact c0, by rw [← str_of]; exact c1⟩
    rcases Nat.eq_zero_or_pos len with h0 | h0
    · subst h0
      exact ⟨[], _, cap, rfl, ARow.nil _ _, by simp, by simp, fun e => by cases e⟩
    · obtain ⟨x0, hx0, -⟩ := hfc 0 h0
      obtain ⟨b, off, rfl⟩ : ∃ b off, a = ⟨b, off, none⟩ := by
        obtain ⟨b, off, spot⟩ := a
        have hspot : spot = none := by simpa [Addr.add] using World.cell?_spot hx0
        subst hspot
        exact ⟨b, off, rfl⟩
      let F : Nat → Att := fun i => if h : i < len then Classical.choose (hfc i h) else ([], [])
      have hF : ∀ i (h : i < len), w.cell? ⟨b, off + i * 2, none⟩ = some (str (F i).1) ∧ w.cell? ⟨b, off + i * 2 + 1, none⟩ = some (str (F i).2) := by
        intro i h
        have := Classical.choose_spec (hfc i h)
        have e : F i = Classical.choose (hfc i h) := dif_pos h
        rw [e]
        obtain ⟨q1, q2⟩ := this
        exact ⟨cell_get.symm.trans q1, cell_get.symm.trans q2⟩
      refine ⟨(List.range len).map F, ⟨some ⟨b, off, none⟩, cap, by simp, fun _ => ⟨b, off, rfl, fun i hi => ?_⟩, by simpa using hl, by simpa using hlim, fun e => by cases e⟩⟩
      have hi' : i < len := by simpa using hi
      have := hF i hi'
      simpa using this
/-- a slice of nodes -/
theorem read_nodes {n : Nat} {v : Value} {y : DataW H × List MemPlace} (h : DataW.trod enc Try.prog w base spare held n 22 [v] = some y) (hs : Sz Try.prog 22 y.1) :
    ∃ A c l, v = .slice A (List.length (α := Nd) l) c ∧ NRow w A l ∧ l.length * 104 ≤ 140737488355328 ∧ l.length ≤ c := by
  rcases open_slice_fields Try.underlying22 Try.underlying68 (by kernel_rfl) (by kernel_rfl) h with ⟨h1, -⟩ | ⟨a, len, cap, m, D, Pl, hcs, hb, hl, hc, hm, hx, hf⟩
  · injection h1 with h1; subst h1; exact ⟨none, 0, [], rfl, NRow.nil _ _, by simp, by simp⟩
  · injection hcs with hcs _; subst hcs
    have hlm : len ≤ m := by rw [hm]; split <;> omega
    subst hx
    have hsz := Sz.len Try.underlying22 hs
    simp only [List.length_map, List.length_range] at hsz
    have hbo : Try.prog.bytesOf 68 = 104 := by kernel_rfl
    rw [hbo] at hsz
    have hlim : len * 104 ≤ 140737488355328 := by
      simp only [reachBytes] at hsz
      have : len * 104 ≤ (len + (m - len)) * 104 := Nat.mul_le_mul_right _ (by omega)
      omega
    have hfc : ∀ i, i < len → ∃ x : Nd, ∀ b off, a = ⟨b, off, none⟩ → NAt w b (off + i * 9) x := by
      intro i hi
      obtain ⟨ys, n', hD, -, hyl, hfi⟩ := hf i (by omega)
      obtain ⟨v0, y0, c0, -, t0⟩ := hfi 0 _ rfl
      obtain ⟨v1, y1, c1, -, t1⟩ := hfi 1 _ rfl
      obtain ⟨v2, y2, c2, -, t2⟩ := hfi 2 _ rfl
      obtain ⟨v3, y3, c3, e3, t3⟩ := hfi 3 _ rfl
      obtain ⟨v4, y4, c4, -, t4⟩ := hfi 4 _ rfl
      obtain ⟨v5, y5, c5, -, t5⟩ := hfi 5 _ rfl
      obtain ⟨v6, y6, c6, -, t6⟩ := hfi 6 _ rfl
      obtain ⟨v7, y7, c7, -, t7⟩ := hfi 7 _ rfl
      obtain ⟨v8, y8, c8, -, t8⟩ := hfi 8 _ rfl
      obtain ⟨i0, q0, -, -⟩ := DataW.trod_int Try.underlying3 t0
      obtain ⟨s1, q1, -, -⟩ := DataW.trod_string Try.underlying9 t1
      obtain ⟨s2, q2, -, -⟩ := DataW.trod_string Try.underlying9 t2
      obtain ⟨i4, q4, -, -⟩ := DataW.trod_int Try.underlying3 t4
      obtain ⟨i5, q5, -, -⟩ := DataW.trod_int Try.underlying3 t5
      obtain ⟨i6, q6, -, -⟩ := DataW.trod_int Try.underlying3 t6
      obtain ⟨i7, q7, -, -⟩ := DataW.trod_int Try.underlying3 t7
      obtain ⟨i8, q8, -, -⟩ := DataW.trod_int Try.underlying3 t8
      injection q0 with q0; injection q1 with q1; injection q2 with q2; injection q4 with q4; injection q5 with q5; injection q6 with q6; injection q7 with q7; injection q8 with q8
      subst q0; subst q1; subst q2; subst q4; subst q5; subst q6; subst q7; subst q8
      have hsi : Sz Try.prog 68 (D i) := Sz.elem Try.underlying22 hs (List.mem_map.2 ⟨i, List.mem_range.2 hi, rfl⟩)
      rw [hD] at hsi
      have hs3 : Sz Try.prog 28 y3.1 := Sz.field Try.underlying68 hsi (j := 3) rfl (by rw [List.getElem?_map, e3]; rfl)
      obtain ⟨al, hal⟩ := read_attrs t3 hs3
      refine ⟨⟨i0, s1.data.toList, s2.data.toList, al, i4, i5, i6, i7, i8⟩, fun b off ha => ?_⟩
      subst ha
      rw [cell_get] at c0 c1 c2 c3 c4 c5 c6 c7 c8
      have g : ∀ j, off + (i * 9 + j) = off + i * 9 + j := fun j => by omega
      exact ⟨(g 0) ▸ c0, by rw [← g, ← str_of]; exact c1, by rw [← g, ← str_of]; exact c2, ⟨_, by rw [← g]; exact c3, hal⟩, by rw [← g]; exact c4, by rw [← g]; exact c5, by rw [← g]; exact c6, by rw [← g]; exact c7, by rw [← g]; exact c8⟩
    rcases Nat.eq_zero_or_pos len with h0 | h0
    · subst h0
      exact ⟨_, cap, [], rfl, NRow.nil _ _, by simp, by simp⟩
    · obtain ⟨b, off, rfl⟩ : ∃ b off, a = ⟨b, off, none⟩ := by
        obtain ⟨ys, n', -, -, -, hfi⟩ := hf 0 (by omega)
        obtain ⟨v0, y0, c0, -, -⟩ := hfi 0 _ rfl
        obtain ⟨b, off, spot⟩ := a
        have hspot : spot = none := by simpa [Addr.add] using World.cell?_spot c0
        subst hspot
        exact ⟨b, off, rfl⟩
      let F : Nat → Nd := fun i => if h : i < len then Classical.choose (hfc i h) else ⟨0, [], [], [], 0, 0, 0, 0, 0⟩
      refine ⟨some ⟨b, off, none⟩, cap, (List.range len).map F, by simp, fun _ => ⟨b, off, rfl, fun i hi => ?_⟩, by simpa using hlim, by simpa using hl⟩
      have hi' : i < len := by simpa using hi
      have := Classical.choose_spec (hfc i hi') b off rfl
      have e : F i = Classical.choose (hfc i hi') := dif_pos hi'
      simpa [e] using this
/-- a tree -/
theorem read_tree {r : Reach} {b0 : Nat} {v : Value} {d : DataW H} {p : List MemPlace} (hv : Value.okWide Try.prog w r b0 24 v) (h : DataW.Trod enc Try.prog w base spare held 24 v d p) (hs : Sz Try.prog 24 d) :
    ∃ A n c l, v = .agg #[.slice A n c] ∧ List.length (α := Nd) l = n ∧ n * 104 ≤ 140737488355328 ∧ NRow w A l := by
  obtain ⟨cs, rfl, hsz⟩ := okWide_struct Try.underlying24 hv
  have hC : Try.prog.cellsOf 24 = 1 := by kernel_rfl
  obtain ⟨l0⟩ := cs
  match l0, hsz.trans hC with
  | [c0], _ =>
    obtain ⟨fuel, hf⟩ := h
    obtain ⟨xs, n, _, hx, _, hlen, hg⟩ := DataW.trod_struct Try.underlying24 hf
    have h0 := hg 0 _ rfl
    have hxl : xs.length = 1 := hlen
    have hx0 : xs[0]? = some (xs[0]'(by omega)) := List.getElem?_eq_getElem (by omega)
    have hC2 : Try.prog.cellsOf 22 = 1 := by kernel_rfl
    have h1 : DataW.trod enc Try.prog w base spare held n 22 [c0] = some (xs[0]'(by omega)) := by
      rw [hx0] at h0
      simpa [Value.cells, hC2] using h0
    obtain ⟨rfl, rfl⟩ := Prod.mk.inj hx
    have hs0 : Sz Try.prog 22 (xs[0]'(by omega)).1 := Sz.field Try.underlying24 hs (j := 0) rfl (by rw [List.getElem?_map, hx0]; rfl)
    obtain ⟨A, c, l, h2, h3, h4, h5⟩ := read_nodes h1 hs0
    subst h2
    exact ⟨A, _, c, l, rfl, rfl, h4, h3⟩
end
end Go.Proofs.Ytofllmofdenadaa
