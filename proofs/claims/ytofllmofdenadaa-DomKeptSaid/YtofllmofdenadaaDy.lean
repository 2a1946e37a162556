/- A tree in new memory: the statements' Copy. No conditions but that lists are not endless. -/
import Derived.Test.YtofllmofdenadaaDo
namespace Go.Proofs.Ytofllmofdenadaa
set_option linter.unusedVariables false
open Go.RowKit Go.Proofs.Fm Go.Proofs.Fb Go.Proofs.Fd Go.Proofs.Fc

/-- a list of attributes is appended to one of the call's own, at a step of a region that draws its order -/
theorem step_append_att {w : World} {ops : Array Oper} {o : Oper} {a : Act} {K : Act → World → Prop} {Q : Exit → Act → World → Prop} {E : Prop} (hgd : o.guard = none) (s x : Operand)
    (ho : o.op = .call { callee := .builtin .append, args := #[s, x], argTypes := #[28, 28] }) (base : Nat) (i : TypeInfo) (hi : Try.prog.info? 66 = some i) (hz : i.zero = some (.agg #[.string ⟨#[]⟩, .string ⟨#[]⟩])) (hsize : i.size = 2) (hby : i.bytes = 32)
    (v : Value) (hs : a.eval s = v) (hown : w.ownsRow base 66 2 v 0 []) (u : Value) (al : List Att) (hx : a.eval x = u) (hav : AVal w u al) (hbase : base ≤ w.heap.size)
    (h : ∀ A c w', w'.ownsRow base 66 2 (.slice A al.length c) al.length (attrCells al) → Below base w w' → K (a.put o.dst (.slice A al.length c)) w') :
    if Region.wanted o (yielded ops a.tmps) = true then Oper.wp Try.prog o a w K Q else E := by
  have hw : Region.wanted o (yielded ops a.tmps) = true := by simp [Region.wanted, hgd]
  rw [if_pos hw]
  obtain ⟨A, c, rfl, har, hac, hlim, hnil⟩ := hav.ex
  rcases A with _ | ad
  · obtain rfl : c = 0 := hnil rfl
    have h0 : al = [] := List.eq_nil_of_length_eq_zero (by omega)
    subst h0
    have hrun := run_append_owned_none (P := Try.prog) (w := w) base 28 o.type 66 i 2 Try.underlying28 hi v 0 [] hown
    obtain ⟨A', c', rfl⟩ := own_form hown
    unfold Oper.wp execOp
    simp only [ho, resolve, invoke, builtin, Sem.run_bind, Sem.run_pure, Result.andThen_ok, List.map_toArray, List.map_cons, List.map_nil, hs, hx, List.length_nil, hrun]
    exact h A' c' w hown (Below.refl _ _)
  · refine wp_append_own w s x 28 ho base 66 i _ 2 32 Try.underlying28 hi hz hsize hby rfl (by omega) v 0 [] hs hown ad al.length c (attrCells al) hx (attrCells_length al) (attr_src har) (attrCells_one al) (by unfold maxLen; omega) (by omega) hbase ?_
    intro v' w' h2 h3 h4
    rw [Nat.zero_add, List.nil_append] at h2
    obtain ⟨A', c', rfl⟩ := own_form h2
    exact h A' c' w' h2 ((Below.refl _ _).grown h3 hbase (fun k hk => (hown.lt k hk).1))

/-- a node of which nothing is said -/
def zeroNd : Nd := ⟨0, [], [], [], 0, 0, 0, 0, 0⟩
/-- while a tree is copied -/
structure CpSt (W0 : World) (b3 g n : Nat) (l : List Nd) (k : Nat) (W : World) : Prop where
  t3 : Bk W b3 24 #[.slice (some ⟨g, 0, none⟩) n n]
  ex : ∃ rs : List Rn, rs.length = n ∧ W.ownsRow W0.heap.size 68 9 (.slice (some ⟨g, 0, none⟩) n n) n (rawCells rs) ∧ ∀ i (h : i < rs.length), i < k → l[i]? = some (rs[i]'h).1 ∧ W.ownsRow W0.heap.size 66 2 (rs[i]'h).2 (rs[i]'h).1.attrs.length (attrCells (rs[i]'h).1.attrs)
  bl : Below W0.heap.size W0 W
theorem CpSt.below {W0 W W' : World} {b3 g n k : Nat} {l : List Nd} (h : CpSt W0 b3 g n l k W) (hb : Below W.heap.size W W') : CpSt W0 b3 g n l k W' := by
  obtain ⟨rs, h1, h2, h3⟩ := h.ex
  exact ⟨h.t3.below hb h.t3.lt, ⟨rs, h1, own_stays h2 hb, fun i hi hik => ⟨(h3 i hi hik).1, own_stays (h3 i hi hik).2 hb⟩⟩, h.bl.trans (hb.mono h.bl.size)⟩
theorem madeNd (n : Nat) : (madeCells (Value.agg #[.int .i64 0, .string ⟨#[]⟩, .string ⟨#[]⟩, .slice none 0 0, .int .i64 0, .int .i64 0, .int .i64 0, .int .i64 0, .int .i64 0]).cells (n * 9)).toList = rawCells (List.replicate n (zeroNd, .slice none 0 0)) := by
  apply List.ext_getElem?
  intro i
  have hz : (Value.agg #[.int .i64 0, .string ⟨#[]⟩, .string ⟨#[]⟩, .slice none 0 0, .int .i64 0, .int .i64 0, .int .i64 0, .int .i64 0, .int .i64 0]).cells = (ndCells zeroNd (.slice none 0 0)).toArray := rfl
  rw [hz]
  by_cases hi : i < n * 9
  · have h1 := rawCells_get (List.replicate n (zeroNd, .slice none 0 0)) (i / 9) (by simp; omega) (i % 9) (by omega)
    rw [show i / 9 * 9 + i % 9 = i by omega] at h1
    rw [h1, List.getElem_replicate]
    unfold madeCells
    simp only [Array.toList_map, Array.toList_range, List.getElem?_map]
    rw [List.getElem?_range hi]
    have h9 : (ndCells zeroNd (.slice none 0 0)).toArray.size = 9 := rfl
    simp only [Option.map_some, h9]
    have hm : i % 9 < 9 := by omega
    rw [List.getElem?_eq_getElem (show i % 9 < (ndCells zeroNd (.slice none 0 0)).length from hm)]
    congr 1
    rw [getElem!_pos _ _ (by rw [h9]; exact hm)]
    rfl
  · rw [List.getElem?_eq_none (by rw [Array.length_toList, size_madeCells]; omega), List.getElem?_eq_none (by rw [rawCells_length, List.length_replicate]; omega)]
def CopyOut (n : Nat) (l : List Nd) (w : World) (e : Ending) (w' : World) : Prop := ∃ A c, e = .returned (.agg #[.slice A n c]) ∧ OTree w.heap.size w' A n c l ∧ Below w.heap.size w w'
/-- behind the copy of a node its own attributes are laid -/
theorem cp_step {W0 W w2 : World} {b3 g n k : Nat} {l : List Nd} {x : Nd} {v v' : Value} (h : CpSt W0 b3 g n l k W) (hk : k < n) (hx : l[k]? = some x) {W' : World}
    (hW' : ∃ rs : List Rn, rs.length = n ∧ W'.ownsRow W0.heap.size 68 9 (.slice (some ⟨g, 0, none⟩) n n) n (rawCells rs) ∧ (∀ i (h : i < rs.length), i < k → l[i]? = some (rs[i]'h).1 ∧ W'.ownsRow W0.heap.size 66 2 (rs[i]'h).2 (rs[i]'h).1.attrs.length (attrCells (rs[i]'h).1.attrs)) ∧ rs[k]? = some (x, v))
    (ht : Bk W' b3 24 #[.slice (some ⟨g, 0, none⟩) n n]) (hbl : Below W0.heap.size W0 W')
    (hb : Below W'.heap.size W' w2) (ho : w2.ownsRow W'.heap.size 66 2 v' x.attrs.length (attrCells x.attrs)) : CpSt W0 b3 g n l (k + 1) (w2.setCell ⟨g, k * 9 + 3, none⟩ v') := by
  obtain ⟨rs, hrl, h2, h3, h4⟩ := hW'
  have hkr : k < rs.length := by omega
  have hg := h2.lt g rfl
  have ho2 := own_stays h2 hb
  have t3' := ht.below hb ht.lt
  have n3 : b3 ≠ g := fun e => own_ne ho2 t3' (by decide) (by rw [e]; rfl)
  have hxk : rs[k]'hkr = (x, v) := by rw [List.getElem?_eq_getElem hkr] at h4; injection h4
  refine ⟨t3'.far (p := ⟨g, k * 9 + 3, none⟩) n3 _, ⟨rs.set k (x, v'), by simpa using hrl, ?_, fun i hi hik => ?_⟩, ?_⟩
  · have := (ho2.stored (k * 9 + 3) v').1
    rwa [raw_set rs k 3 v' (x, v') hkr (by omega) (by rw [hxk]; rfl)] at this
  · have hi' : i < rs.length := by simpa using hi
    rw [List.getElem_set]
    by_cases e : k = i
    · subst e
      rw [if_pos rfl]
      refine ⟨hx, ownsRow_setCell_other (own_less ho hbl.size) (fun e => ?_) _⟩
      have := (ho.lt _ e).1
      simp at this; omega
    · rw [if_neg e]
      obtain ⟨q1, q2⟩ := h3 i hi' (by omega)
      have ha := own_stays q2 hb
      refine ⟨q1, ownsRow_setCell_other ha ?_ _⟩
      rcases own_own ha ho2 (by decide) with h | h
      · rw [h]; simp
      · exact h
  · exact (hbl.trans (hb.mono hbl.size)).setCell (p := ⟨g, k * 9 + 3, none⟩) hg.1 _
/-- a node is copied -/
theorem cp_node {W0 W : World} {b3 g n k : Nat} {l : List Nd} (x : Nd) (v : Value) (h : CpSt W0 b3 g n l k W) (hk : k < n) {W' : World}
    (hW' : W' = ((((((((W.setCell ⟨g, k * 9, none⟩ (.int .i64 x.kind)).setCell ⟨g, k * 9 + 1, none⟩ (str x.name)).setCell ⟨g, k * 9 + 2, none⟩ (str x.text)).setCell ⟨g, k * 9 + 3, none⟩ v).setCell ⟨g, k * 9 + 4, none⟩ (.int .i64 x.parent)).setCell ⟨g, k * 9 + 5, none⟩ (.int .i64 x.first)).setCell ⟨g, k * 9 + 6, none⟩ (.int .i64 x.last)).setCell ⟨g, k * 9 + 7, none⟩ (.int .i64 x.prev)).setCell ⟨g, k * 9 + 8, none⟩ (.int .i64 x.next)) :
    (∃ rs : List Rn, rs.length = n ∧ W'.ownsRow W0.heap.size 68 9 (.slice (some ⟨g, 0, none⟩) n n) n (rawCells rs) ∧ (∀ i (h : i < rs.length), i < k → l[i]? = some (rs[i]'h).1 ∧ W'.ownsRow W0.heap.size 66 2 (rs[i]'h).2 (rs[i]'h).1.attrs.length (attrCells (rs[i]'h).1.attrs)) ∧ rs[k]? = some (x, v)) ∧ Bk W' b3 24 #[.slice (some ⟨g, 0, none⟩) n n] ∧ Below W0.heap.size W0 W' := by
  obtain ⟨rs, hrl, h2, h3⟩ := h.ex
  have hkr : k < rs.length := by omega
  have hg := h2.lt g rfl
  have n3 : b3 ≠ g := fun e => own_ne h2 h.t3 (by decide) (by rw [e]; rfl)
  subst hW'
  refine ⟨⟨rs.set k (x, v), by simpa using hrl, ?_, fun i hi hik => ?_, by simp [hkr]⟩, ?_, ?_⟩
  · have q := ((((((((h2.stored (k * 9) (.int .i64 x.kind)).1.stored (k * 9 + 1) (str x.name)).1.stored (k * 9 + 2) (str x.text)).1.stored (k * 9 + 3) v).1.stored (k * 9 + 4) (.int .i64 x.parent)).1.stored (k * 9 + 5) (.int .i64 x.first)).1.stored (k * 9 + 6) (.int .i64 x.last)).1.stored (k * 9 + 7) (.int .i64 x.prev)).1.stored (k * 9 + 8) (.int .i64 x.next) |>.1
    have e : ((((((((((rawCells rs).set (k * 9) (.int .i64 x.kind)).set (k * 9 + 1) (str x.name)).set (k * 9 + 2) (str x.text)).set (k * 9 + 3) v).set (k * 9 + 4) (.int .i64 x.parent)).set (k * 9 + 5) (.int .i64 x.first)).set (k * 9 + 6) (.int .i64 x.last)).set (k * 9 + 7) (.int .i64 x.prev)).set (k * 9 + 8) (.int .i64 x.next)) = rawCells (rs.set k (x, v)) := by
      rcases hq : rs[k]'hkr with ⟨y, u⟩
      have e0 := raw_set rs k 0 (.int .i64 x.kind) ({ y with kind := x.kind }, u) hkr (by omega) (by rw [hq]; rfl)
      rw [Nat.add_zero] at e0
      rw [e0]
      rw [raw_set _ k 1 _ ({ y with kind := x.kind, name := x.name }, u) (by simpa using hkr) (by omega) (by simp [ndCells])]
      rw [raw_set _ k 2 _ ({ y with kind := x.kind, name := x.name, text := x.text }, u) (by simpa using hkr) (by omega) (by simp [ndCells])]
      rw [raw_set _ k 3 _ ({ y with kind := x.kind, name := x.name, text := x.text, attrs := x.attrs }, v) (by simpa using hkr) (by omega) (by simp [ndCells])]
      rw [raw_set _ k 4 _ ({ y with kind := x.kind, name := x.name, text := x.text, attrs := x.attrs, parent := x.parent }, v) (by simpa using hkr) (by omega) (by simp [ndCells])]
      rw [raw_set _ k 5 _ ({ y with kind := x.kind, name := x.name, text := x.text, attrs := x.attrs, parent := x.parent, first := x.first }, v) (by simpa using hkr) (by omega) (by simp [ndCells])]
      rw [raw_set _ k 6 _ ({ y with kind := x.kind, name := x.name, text := x.text, attrs := x.attrs, parent := x.parent, first := x.first, last := x.last }, v) (by simpa using hkr) (by omega) (by simp [ndCells])]
      rw [raw_set _ k 7 _ ({ y with kind := x.kind, name := x.name, text := x.text, attrs := x.attrs, parent := x.parent, first := x.first, last := x.last, prev := x.prev }, v) (by simpa using hkr) (by omega) (by simp [ndCells])]
      rw [raw_set _ k 8 _ (x, v) (by simpa using hkr) (by omega) (by simp [ndCells])]
      simp
    rw [e] at q
    exact q
  · have hi' : i < rs.length := by simpa using hi
    rw [List.getElem_set, if_neg (by omega)]
    obtain ⟨q1, q2⟩ := h3 i hi' hik
    have hne : (rs[i]'hi').2.ownBlock ≠ some g := by
      rcases own_own q2 h2 (by decide) with h | h
      · rw [h]; simp
      · exact h
    refine ⟨q1, ?_⟩
    have f : ∀ {W : World} (o : Nat) (u : Value), W.ownsRow W0.heap.size 66 2 (rs[i]'hi').2 (rs[i]'hi').1.attrs.length (attrCells (rs[i]'hi').1.attrs) → (W.setCell ⟨g, o, none⟩ u).ownsRow W0.heap.size 66 2 (rs[i]'hi').2 (rs[i]'hi').1.attrs.length (attrCells (rs[i]'hi').1.attrs) := fun o u hh => ownsRow_setCell_other hh hne u
    exact f _ _ (f _ _ (f _ _ (f _ _ (f _ _ (f _ _ (f _ _ (f _ _ (f _ _ q2))))))))
  · exact ((((((((h.t3.far (p := ⟨g, k * 9, none⟩) n3 _).far (p := ⟨g, k * 9 + 1, none⟩) n3 _).far (p := ⟨g, k * 9 + 2, none⟩) n3 _).far (p := ⟨g, k * 9 + 3, none⟩) n3 _).far (p := ⟨g, k * 9 + 4, none⟩) n3 _).far (p := ⟨g, k * 9 + 5, none⟩) n3 _).far (p := ⟨g, k * 9 + 6, none⟩) n3 _).far (p := ⟨g, k * 9 + 7, none⟩) n3 _).far (p := ⟨g, k * 9 + 8, none⟩) n3 _
  · exact ((((((((h.bl.setCell (p := ⟨g, k * 9, none⟩) hg.1 _).setCell (p := ⟨g, k * 9 + 1, none⟩) hg.1 _).setCell (p := ⟨g, k * 9 + 2, none⟩) hg.1 _).setCell (p := ⟨g, k * 9 + 3, none⟩) hg.1 _).setCell (p := ⟨g, k * 9 + 4, none⟩) hg.1 _).setCell (p := ⟨g, k * 9 + 5, none⟩) hg.1 _).setCell (p := ⟨g, k * 9 + 6, none⟩) hg.1 _).setCell (p := ⟨g, k * 9 + 7, none⟩) hg.1 _).setCell (p := ⟨g, k * 9 + 8, none⟩) hg.1 _
theorem copy_result {W : World} {b : Nat} {A : Option Addr} {n c : Nat} (h : W.cell? ⟨b, 0, none⟩ = some (.slice A n c)) (ts : Array Value) (ht : ts[2]?.getD undef = .pointer (some ⟨b, 0, none⟩)) :
    (results Try.f19 ts).run Try.prog W = .ok (.agg #[.slice A n c]) W := by
  simp [results, Try.results19, ht, go_sem, h, Result.andThen]
set_option maxHeartbeats 4000000 in
theorem copy_any (A : Option Addr) (n c : Nat) (l : List Nd) (hl : l.length = n) (hn : n * 104 ≤ 140737488355328) (w : World) (ha : NRow w A l) :
    Calls Try.prog 19 #[.agg #[.slice A n c]] w (CopyOut n l w) := by
  obtain ⟨i0, hi0, hz0, hz1, hz2⟩ := info_parts ndInfo
  obtain ⟨ia, hia, hy0, hy1, hy2⟩ := info_parts attInfo
  have HIA := Lib.hid hia
  have HY0 := Lib.hid hy0
  have HY1 := Lib.hid hy1
  have HY2 := Lib.hid hy2
  obtain ⟨W0, hW0⟩ : ∃ W, (w.alloc (.cells #[.slice A n c] 24)).alloc (.cells #[.slice none 0 0] 24) = W := ⟨_, rfl⟩
  have hb0 : Below w.heap.size w W0 := hW0 ▸ ((Below.refl _ w).alloc (Nat.le_refl _) _).alloc (by simp) _
  have hk1 : Bk W0 w.heap.size 24 #[.slice A n c] := hW0 ▸ (Bk.new w 24 _).alloc _
  have hk2 : Bk W0 (w.heap.size + 1) 24 #[.slice none 0 0] := hW0 ▸ (by simpa using Bk.new (w.alloc (.cells #[.slice A n c] 24)) 24 #[.slice none 0 0])
  have hmk := run_make (P := Try.prog) W0 22 68 i0 _ Try.underlying22 hi0 hz0 .i64 .i64 n n (by omega) (by omega) (by rw [hz2]; omega) (by omega)
  rw [hz1, Int.toNat_natCast] at hmk
  have HA := Lib.hid ha
  have HB0 := Lib.hid hb0
  have HK1 := Lib.hid hk1
  have HK2 := Lib.hid hk2
  rw [← hW0] at hmk
  clear hi0 hz0 hz1 hz2 hia hy0 hy1 hy2 ha hb0 hk1 hk2
  have HW0 := Lib.hid hW0
  clear hW0
  go_enter Try.func19, Try.ntmps19
  go_upto_region 3 with fail
  clear hmk
  have hW0 := HW0.out
  have hsz : w.heap.size + 1 + 1 = W0.heap.size := by rw [← hW0]; simp
  have hst0 : CpSt W0 (W0.heap.size + 1) W0.heap.size n l 0 ((W0.alloc (.cells (madeCells #[.int .i64 0, .string ⟨#[]⟩, .string ⟨#[]⟩, .slice none 0 0, .int .i64 0, .int .i64 0, .int .i64 0, .int .i64 0, .int .i64 0] (n * 9)) 68)).alloc (.cells #[.slice (some ⟨W0.heap.size, 0, none⟩) n n] 24)) := by
    refine ⟨by simpa using Bk.new (W0.alloc (.cells (madeCells #[.int .i64 0, .string ⟨#[]⟩, .string ⟨#[]⟩, .slice none 0 0, .int .i64 0, .int .i64 0, .int .i64 0, .int .i64 0, .int .i64 0] (n * 9)) 68)) 24 #[.slice (some ⟨W0.heap.size, 0, none⟩) n n], ⟨List.replicate n (zeroNd, .slice none 0 0), by simp, ?_, fun i h1 h2 => by omega⟩, ((Below.refl _ W0).alloc (Nat.le_refl _) _).alloc (by simp) _⟩
    have h := World.ownsRow_lit (base := W0.heap.size) (e := 68) (size := 9) W0 (madeCells #[.int .i64 0, .string ⟨#[]⟩, .string ⟨#[]⟩, .slice none 0 0, .int .i64 0, .int .i64 0, .int .i64 0, .int .i64 0, .int .i64 0] (n * 9)) n (Nat.le_refl _) (by unfold maxLen; omega) (size_madeCells _ _)
    have h2 := madeNd n
    have h3 : (Value.agg #[.int .i64 0, .string ⟨#[]⟩, .string ⟨#[]⟩, .slice none 0 0, .int .i64 0, .int .i64 0, .int .i64 0, .int .i64 0, .int .i64 0]).cells = #[.int .i64 0, .string ⟨#[]⟩, .string ⟨#[]⟩, .slice none 0 0, .int .i64 0, .int .i64 0, .int .i64 0, .int .i64 0, .int .i64 0] := rfl
    rw [h3] at h2
    rw [h2] at h
    exact h.alloc _
  rw [hW0, hsz]
  have HST0 := Lib.hid hst0
  have hlt1 : w.heap.size < W0.heap.size := by omega
  have hlt2 : w.heap.size + 1 < W0.heap.size := by omega
  have HAR := Lib.hid (fun W (h : Below W0.heap.size W0 W) => (HA.out.below (HB0.out.trans (h.mono (by omega))) (Nat.le_refl _)))
  clear hst0 hW0 hsz
  refine wp_gen (fun W => CpSt W0 (W0.heap.size + 1) W0.heap.size n l 0 W) HST0.out ?_
  rintro W1 hst1
  have HST1 := Lib.hid hst1
  obtain ⟨g, hg⟩ : ∃ g, W0.heap.size = g := ⟨_, rfl⟩
  rw [hg] at HST1 ⊢
  have HG := Lib.hid hg
  clear hst1 HST0 hg
  go_loopg [4] n (fun gk i wr => ∃ k : Nat, k + gk = n ∧ i = .int .i64 (k : Int) ∧ Hid (CpSt W0 (g + 1) g n l k wr))
  case atStart => exact ⟨0, by omega, rfl, HST1⟩
  case round =>
    obtain ⟨k, hk, rfl, hst⟩ := hrel
    have hbl := hst.out.bl
    have t1 : wr.cell? ⟨w.heap.size, 0, none⟩ = some (.slice A n c) := (HK1.out.below hbl hlt1).cell 0
    have t3 : wr.cell? ⟨g + 1, 0, none⟩ = some (.slice (some ⟨g, 0, none⟩) n n) := hst.out.t3.cell 0
    have l1 : w.heap.size < wr.heap.size := (HK1.out.below hbl hlt1).lt
    have l3 : g + 1 < wr.heap.size := hst.out.t3.lt
    have HBL := Lib.hid hbl
    clear hbl
    by_cases hlk : k < n
    · have hkl : k < l.length := by omega
      have i1 : (k : Int) < (n : Int) := by omega
      obtain ⟨b, off, rfl, hat⟩ := (HAR.out wr HBL.out).at_ hkl
      have hxx : l[k]? = some (l[k]'hkl) := List.getElem?_eq_getElem hkl
      obtain ⟨x, hx⟩ : ∃ x, (l[k]'hkl) = x := ⟨_, rfl⟩
      rw [hx] at hat hxx
      obtain ⟨v, hv, hav⟩ := hat.c3
      obtain ⟨A1, d1, rfl, -⟩ := hav.ex
      obtain ⟨c0, c1, c2, -, c4, c5, c6, c7, c8⟩ := hat
      have hbw : b < W0.heap.size := by
        have h1 := HA.out.at_ hkl
        obtain ⟨b2, o2, he2, hat2⟩ := h1
        injection he2 with he2; injection he2 with h3 h4
        have := hat2.lt; omega
      have hbr : b < wr.heap.size := by have := HBL.out.size; omega
      obtain ⟨rs, hrl, hown, -⟩ := hst.out.ex
      have hcl : ∀ j, j < 9 → ∃ u, wr.cell? ⟨g, k * 9 + j, none⟩ = some u := fun j hj => ⟨_, (hown.cellAt (k * 9 + j) (by omega)).trans (List.getElem?_eq_getElem (by rw [rawCells_length]; omega))⟩
      obtain ⟨u0, s0⟩ := hcl 0 (by omega)
      obtain ⟨u1, s1⟩ := hcl 1 (by omega)
      obtain ⟨u2, s2⟩ := hcl 2 (by omega)
      obtain ⟨u3, s3⟩ := hcl 3 (by omega)
      obtain ⟨u4, s4⟩ := hcl 4 (by omega)
      obtain ⟨u5, s5⟩ := hcl 5 (by omega)
      obtain ⟨u6, s6⟩ := hcl 6 (by omega)
      obtain ⟨u7, s7⟩ := hcl 7 (by omega)
      obtain ⟨u8, s8⟩ := hcl 8 (by omega)
      rw [Nat.add_zero] at s0
      have hf : ∀ j, wr.frozen? ⟨g, j, none⟩ = false := hown.frozenAt
      have hgl := hown.lt g rfl
      have HXX := Lib.hid hxx
      have HAV := Lib.hid hav
      have eX := fun y b o => ext_cell wr.heap.size wr y b o
      clear hx hxx hav hown hcl hrl
      go_upto_region 5 with fail
      refine region_ext_tail wr.heap.size 8 (by kernel_rfl) (by kernel_rfl) ?_
      simp only [List.take_succ_cons, List.take_zero, List.drop_succ_cons, List.drop_zero]
      repeat quiet_step (fail)
      refine wpQuiet_nil ?_
      intro w4 hb4
      have hst4 := hst.out.below hb4
      have HST4 := Lib.hid hst4
      have hf4 : ∀ j, w4.frozen? ⟨g, j, none⟩ = false := fun j => (hb4.frozen (p := ⟨g, j, none⟩) hgl.2).trans (hf j)
      have r0 := (hb4.cell (p := ⟨g, k * 9, none⟩) hgl.2).trans s0
      have r1 := (hb4.cell (p := ⟨g, k * 9 + 1, none⟩) hgl.2).trans s1
      have r2 := (hb4.cell (p := ⟨g, k * 9 + 2, none⟩) hgl.2).trans s2
      have r3 := (hb4.cell (p := ⟨g, k * 9 + 3, none⟩) hgl.2).trans s3
      have r4 := (hb4.cell (p := ⟨g, k * 9 + 4, none⟩) hgl.2).trans s4
      have r5 := (hb4.cell (p := ⟨g, k * 9 + 5, none⟩) hgl.2).trans s5
      have r6 := (hb4.cell (p := ⟨g, k * 9 + 6, none⟩) hgl.2).trans s6
      have r7 := (hb4.cell (p := ⟨g, k * 9 + 7, none⟩) hgl.2).trans s7
      have r8 := (hb4.cell (p := ⟨g, k * 9 + 8, none⟩) hgl.2).trans s8
      clear s0 s1 s2 s3 s4 s5 s6 s7 s8 hf hst4 hb4 eX t1 t3 c0 c1 c2 hv c4 c5 c6 c7 c8
      dsimp only [str]
      go_upto_region 6 with fail
      have hcn := fun W' (h : W' = _) => cp_node (W' := W') x (.slice A1 x.attrs.length d1) HST4.out hlk h
      refine wp_gen (fun W' => (∃ rs : List Rn, rs.length = n ∧ W'.ownsRow W0.heap.size 68 9 (.slice (some ⟨g, 0, none⟩) n n) n (rawCells rs) ∧ (∀ i (h : i < rs.length), i < k → l[i]? = some (rs[i]'h).1 ∧ W'.ownsRow W0.heap.size 66 2 (rs[i]'h).2 (rs[i]'h).1.attrs.length (attrCells (rs[i]'h).1.attrs)) ∧ rs[k]? = some (x, .slice A1 x.attrs.length d1)) ∧ Bk W' (g + 1) 24 #[.slice (some ⟨g, 0, none⟩) n n] ∧ Below W0.heap.size W0 W') (hcn _ rfl) ?_
      clear r0 r1 r2 r3 r4 r5 r6 r7 r8 hf4 hcn
      rintro W5 ⟨hex, ht5, hb5⟩
      have y1 : W5.cell? ⟨w.heap.size, 0, none⟩ = some (.slice (some ⟨b, off, none⟩) n c) := (HK1.out.below hb5 hlt1).cell 0
      have y3 : W5.cell? ⟨g + 1, 0, none⟩ = some (.slice (some ⟨g, 0, none⟩) n n) := ht5.cell 0
      have m1 : w.heap.size < W5.heap.size := (HK1.out.below hb5 hlt1).lt
      have m3 : g + 1 < W5.heap.size := ht5.lt
      obtain ⟨b2, o2, he2, hat5⟩ := (HAR.out W5 hb5).at_ hkl
      obtain ⟨rfl, rfl⟩ : b2 = b ∧ o2 = off := by injection he2 with he2; injection he2 with h1 h2; exact ⟨h1.symm, h2.symm⟩
      have hx5 : (l[k]'hkl) = x := by have := HXX.out; rw [List.getElem?_eq_getElem hkl] at this; injection this
      rw [hx5] at hat5
      obtain ⟨v5, hv5, hav5⟩ := hat5.c3
      obtain ⟨A5, d5, rfl, -⟩ := hav5.ex
      have hb2w : b2 < W5.heap.size := hat5.lt
      have h5 : ∃ u, W5.cell? ⟨g, k * 9 + 3, none⟩ = some u ∧ W5.frozen? ⟨g, k * 9 + 3, none⟩ = false ∧ g < W5.heap.size := by
        obtain ⟨rs, hrl, hown, _⟩ := hex
        exact ⟨_, (hown.cellAt (k * 9 + 3) (by omega)).trans (List.getElem?_eq_getElem (by rw [rawCells_length]; omega)), hown.frozenAt _, (hown.lt g rfl).2⟩
      obtain ⟨u5, x3, f3, hg5⟩ := h5
      have HCP := Lib.hid (fun (w2 : World) (v' : Value) (hb : Below W5.heap.size W5 w2) (ho : w2.ownsRow W5.heap.size 66 2 v' x.attrs.length (attrCells x.attrs)) => cp_step (v := .slice A1 x.attrs.length d1) HST4.out hlk HXX.out hex ht5 hb5 hb ho)
      have hbd : Below W5.heap.size W5 (W5.drew.alloc (.cells #[] 66)) := (Below.refl _ _).drew.alloc (Nat.le_refl _) _
      have HAV5 := Lib.hid (hav5.below hbd (Nat.le_refl _))
      have HBD := Lib.hid hbd
      have HOW : Hid ((W5.drew.alloc (.cells #[] 66)).ownsRow W5.heap.size 66 2 (.slice (some ⟨W5.heap.size, 0, none⟩) 0 0) 0 []) := Lib.hid (World.ownsRow_lit W5.drew #[] 0 (Nat.le_refl _) (by unfold maxLen; omega) rfl)
      clear hex ht5 hb5 hat5 hav5 hbd hx5 he2
      go_region_law (first
        | ((refine step_append_att (by rfl) (.tmp 29) (.tmp 35) (by rfl) W5.heap.size ia HIA.out HY0.out HY1.out HY2.out (.slice (some ⟨W5.heap.size, 0, none⟩) 0 0) (by rfl) HOW.out (.slice A5 x.attrs.length d5) x.attrs (by rfl) HAV5.out (by simp) ?_; intro A6 c6 w6 ho6 hb6; have hbb := HBD.out.trans hb6; have HS6 := Lib.hid (HCP.out w6 _ hbb ho6); have y16 := (hbb.cell (p := ⟨w.heap.size, 0, none⟩) m1).trans y1; have y36 := (hbb.cell (p := ⟨g + 1, 0, none⟩) m3).trans y3; have x36 := (hbb.cell (p := ⟨g, k * 9 + 3, none⟩) hg5).trans x3; have f36 := (hbb.frozen (p := ⟨g, k * 9 + 3, none⟩) hg5).trans f3; have v56 := (hbb.cell (p := ⟨b2, o2 + k * 9 + 3, none⟩) hb2w).trans hv5; clear ho6 hb6 hbb)))
      all_goals
        clear y1 y3 x3 f3 hv5
        go_wp2
        go_roundg (gk - 1)
        case measure => omega
        case rel => exact ⟨k + 1, by omega, by go_num, HS6⟩
    · obtain rfl : k = n := by omega
      have t2 : wr.cell? ⟨w.heap.size + 1, 0, none⟩ = some (.slice none 0 0) := (HK2.out.below HBL.out hlt2).cell 0
      have f2 : wr.frozen? ⟨w.heap.size + 1, 0, none⟩ = false := (HK2.out.below HBL.out hlt2).frozen 0
      have l2 : w.heap.size + 1 < wr.heap.size := (HK2.out.below HBL.out hlt2).lt
      have hsz : w.heap.size ≤ W0.heap.size := HB0.out.size
      go_wp2
      refine bodyPost_ret (v := .agg #[.slice (some ⟨g, 0, none⟩) k k]) ?_ rfl ⟨some ⟨g, 0, none⟩, k, rfl, ?_, ?_⟩
      · exact copy_result (b := w.heap.size + 1) (by simp [World.cell?_setCell_same', t2]) _ rfl
      · obtain ⟨rs, h1, h2, h3⟩ := hst.out.ex
        refine ⟨rs, ?_, own_less (ownsRow_setCell_below h2 (by show w.heap.size + 1 < W0.heap.size; omega) _) hsz, fun q hq => ?_⟩
        · apply List.ext_getElem?
          intro i
          rw [List.getElem?_map]
          by_cases hi : i < rs.length
          · rw [List.getElem?_eq_getElem hi, (h3 i hi (by omega)).1]; rfl
          · rw [List.getElem?_eq_none (by omega), List.getElem?_eq_none (by omega)]; rfl
        · obtain ⟨i, hi, rfl⟩ := List.getElem_of_mem hq
          exact own_less (ownsRow_setCell_below (h3 i hi (by omega)).2 (by show w.heap.size + 1 < W0.heap.size; omega) _) hsz
      · exact (HB0.out.trans (HBL.out.mono hsz)).setCell (p := ⟨w.heap.size + 1, 0, none⟩) (by simp) _
end Go.Proofs.Ytofllmofdenadaa
