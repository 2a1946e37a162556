/- A part becomes a tree, or is refused: dom's Make. No conditions but that nothing is endless. -/
import Derived.Test.YtdogcnmepaemjaaDoorDn
import Derived.Test.YtdogcnmepaemjaaDoorDi
import Derived.Test.YtdogcnmepaemjaaDoorDl
import Derived.Laws.EntriesVeiled
namespace Go.Proofs.YtdogcnmepaemjaaDoor
set_option linter.unusedVariables false
open Go.RowKit Go.Proofs.Fm Go.Proofs.Fb Go.Proofs.Fd Go.Proofs.Fc

/-- a tree of the call's own: its nodes and their attributes lie in blocks from base on -/
def OTree (base : Nat) (w : World) (A : Option Addr) (n c : Nat) (l : List Nd) : Prop :=
  ∃ rs : List Rn, rs.map (·.1) = l ∧ w.ownsRow base 41 9 (.slice A n c) n (rawCells rs) ∧ ∀ q ∈ rs, w.ownsRow base 70 2 q.2 q.1.attrs.length (attrCells q.1.attrs)
/-- the tree that a part becomes, were it not refused -/
def treeOf (p : Pt) : List Nd := linkL (pre p (-1) 0)
theorem linkL_length (l : List Nd) : (linkL l).length = l.length := by simp [linkL]
theorem treeOf_length (p : Pt) : (treeOf p).length = cnt p := by unfold treeOf; rw [linkL_length, pre_cnt]
/-- what Make answers -/
def MakeOut (p : Pt) (w : World) (e : Ending) (w' : World) : Prop :=
  Below w.heap.size w w' ∧ ((rightE (treeOf p) ≠ 0 ∧ e = .returned (.tuple #[.agg #[.slice none 0 0], .int .i64 (rightE (treeOf p))])) ∨
  (rightE (treeOf p) = 0 ∧ ∃ A c, e = .returned (.tuple #[.agg #[.slice A (cnt p) c], .int .i64 0]) ∧ OTree w.heap.size w' A (cnt p) c (treeOf p)))
/-- while attributes are laid anew -/
structure MkSt (W0 : World) (b2 b6 : Nat) (A : Option Addr) (n c : Nat) (L : List Nd) (k : Nat) (W : World) : Prop where
  t2 : Bk W b2 24 #[.slice none 0 0]
  t6 : Bk W b6 24 #[.slice A n c]
  ex : ∃ rs : List Rn, rs.map (·.1) = L ∧ W.ownsRow (W0.heap.size + 2) 41 9 (.slice A n c) n (rawCells rs) ∧ ∀ i (h : i < rs.length), (i < k → W.ownsRow (W0.heap.size + 2) 70 2 (rs[i]'h).2 (rs[i]'h).1.attrs.length (attrCells (rs[i]'h).1.attrs)) ∧ (k ≤ i → AVal W0 (rs[i]'h).2 (rs[i]'h).1.attrs)
  bl : Below W0.heap.size W0 W
theorem own_form {w : World} {base e size n : Nat} {v : Value} {xs : List Value} (h : w.ownsRow base e size v n xs) : ∃ A c, v = .slice A n c := by
  rcases h.2 with ⟨rfl, rfl⟩ | ⟨g, cap, cur, rfl, _⟩
  · exact ⟨none, 0, rfl⟩
  · exact ⟨_, cap, rfl⟩
theorem MkSt.step {W0 W w2 : World} {b2 b6 g n c k : Nat} {L : List Nd} {v' : Value} (h : MkSt W0 b2 b6 (some ⟨g, 0, none⟩) n c L k W) (hk : k < n) (hl : L.length = n) (x : Nd) (hx : L[k]? = some x)
    (hb : Below W.heap.size W w2) (ho : w2.ownsRow W.heap.size 70 2 v' x.attrs.length (attrCells x.attrs)) (hW : W0.heap.size + 2 ≤ W.heap.size) : MkSt W0 b2 b6 (some ⟨g, 0, none⟩) n c L (k + 1) (w2.setCell ⟨g, k * 9 + 3, none⟩ v') := by
  obtain ⟨rs, h1, h2, h3⟩ := h.ex
  have hrl : rs.length = n := by rw [← hl, ← h1, List.length_map]
  have hkr : k < rs.length := by omega
  have hg := h2.lt g rfl
  have ho2 := own_stays h2 hb
  have hxk : (rs[k]'hkr).1 = x := by
    rw [← h1, List.getElem?_map, List.getElem?_eq_getElem hkr] at hx
    simpa using hx
  have t2' := h.t2.below hb h.t2.lt
  have t6' := h.t6.below hb h.t6.lt
  have n2 : b2 ≠ g := fun e => own_ne ho2 t2' (by decide) (by rw [e]; rfl)
  have n6 : b6 ≠ g := fun e => own_ne ho2 t6' (by decide) (by rw [e]; rfl)
  refine ⟨t2'.far (p := ⟨g, k * 9 + 3, none⟩) n2 _, t6'.far (p := ⟨g, k * 9 + 3, none⟩) n6 _, ⟨rs.set k (x, v'), ?_, ?_, fun i hi => ?_⟩, ?_⟩
  · apply List.ext_getElem?
    intro i
    rw [List.getElem?_map, List.getElem?_set]
    by_cases e : k = i
    · subst e; rw [if_pos rfl, if_pos hkr, hx]; rfl
    · rw [if_neg e, ← List.getElem?_map, h1]
  · have := (ho2.stored (k * 9 + 3) v').1
    rwa [raw_set rs k 3 v' (x, v') hkr (by omega) (by rw [hxk]; rfl)] at this
  · have hi' : i < rs.length := by simpa using hi
    rw [List.getElem_set]
    by_cases e : k = i
    · subst e
      rw [if_pos rfl]
      refine ⟨fun _ => ?_, fun hh => by omega⟩
      refine ownsRow_setCell_other (own_less ho hW) (fun e => ?_) _
      have := (ho.lt _ e).1
      simp at this; omega
    · rw [if_neg e]
      refine ⟨fun hh => ?_, fun hh => (h3 i hi').2 (by omega)⟩
      have ha := own_stays ((h3 i hi').1 (by omega)) hb
      refine ownsRow_setCell_other ha ?_ _
      rcases own_own ha ho2 (by decide) with h | h
      · rw [h]; simp
      · exact h
  · exact (h.bl.trans (hb.mono (by have := h.bl.size; omega))).setCell (p := ⟨g, k * 9 + 3, none⟩) (by simp; omega) _
theorem makePut {bn : Nat} {w W1 : World} (p : Pt) (nm tx : Str) (al : List Att) (ks : List Pt) (A K : Option Addr) (c d : Nat) (hp : p = .mk nm tx al ks) (ha : AVal w (.slice A al.length c) al) (hk : KVal w (.slice K ks.length d) ks) (hw : w.heap.size ≤ bn) (hb : Below bn w W1) (hn : Bk W1 bn 22 #[.slice none 0 0]) (hp2 : Bk W1 (bn + 1) 44 #[.func (.func 15) #[] #[.pointer (some ⟨bn, 0, none⟩), .pointer (some ⟨bn + 1, 0, none⟩)]]) :
    Calls Tryd.prog 15 #[.agg #[str nm, str tx, .slice A al.length c, .slice K ks.length d], .int .i64 (-1), .pointer (some ⟨bn, 0, none⟩), .pointer (some ⟨bn + 1, 0, none⟩)] W1 (PutOut bn w W1 [] p (-1)) :=
  put_any p bn w W1 (.slice none 0 0) [] nm tx al ks A K c d (-1) hp ha hk hw hb ⟨hn, hp2, World.ownsRow_nil _ _ _ _⟩ (by simp)
theorem make_result {W : World} {b : Nat} {A : Option Addr} {n c : Nat} {E : Int} (h : W.cell? ⟨b, 0, none⟩ = some (.slice A n c)) (ts : Array Value) (ht : ts.getD 2 undef = .pointer (some ⟨b, 0, none⟩)) (h3 : ts.getD 3 undef = .int .i64 E) :
    (results Tryd.f6 ts).run Tryd.prog W = .ok (.tuple #[.agg #[.slice A n c], .int .i64 E]) W := by
  rw [results_cell_tmp Tryd.results6, ht, h3]
  simp [go_sem, h, Result.andThen]
set_option maxHeartbeats 4000000 in
theorem make_any (p : Pt) (nm tx : Str) (al : List Att) (ks : List Pt) (A K : Option Addr) (c d : Nat) (w : World) (hp : p = .mk nm tx al ks) (ha : AVal w (.slice A al.length c) al) (hk : KVal w (.slice K ks.length d) ks) :
    Calls Tryd.prog 6 #[.agg #[str nm, str tx, .slice A al.length c, .slice K ks.length d]] w (MakeOut p w) := by
  have HA := Lib.hid ha
  have HK := Lib.hid hk
  have HP := Lib.hid hp
  have HL := Lib.hid (treeOf_length p)
  have HPC := Lib.hid (pre_cnt p (-1) 0)
  have HPO := Lib.hid (pre_ord p)
  clear ha hk hp
  go_enter Tryd.func6, Tryd.ntmps6
  go_upto_region 4 with fail
  obtain ⟨W0, hW0⟩ : ∃ W0, (w.alloc (.cells #[str nm, str tx, .slice A al.length c, .slice K ks.length d] 31)).alloc (.cells #[.slice none 0 0] 24) = W0 := ⟨_, rfl⟩
  have hsz : w.heap.size + 1 + 1 = W0.heap.size := by rw [← hW0]; simp
  have hb0 : Below w.heap.size w W0 := hW0 ▸ ((Below.refl _ w).alloc (Nat.le_refl _) _).alloc (by simp) _
  have hx0 : Bk W0 w.heap.size 31 #[str nm, str tx, .slice A al.length c, .slice K ks.length d] := hW0 ▸ (Bk.new w 31 _).alloc _
  have ht0 : Bk W0 (w.heap.size + 1) 24 #[.slice none 0 0] := hW0 ▸ (by simpa using (Bk.new (w.alloc (.cells #[str nm, str tx, .slice A al.length c, .slice K ks.length d] 31)) 24 #[.slice none 0 0]))
  rw [hW0, hsz]
  have HA0 := Lib.hid (HA.out.below hb0 (Nat.le_refl _))
  have HK0 := Lib.hid (HK.out.below hb0 (Nat.le_refl _))
  have HB0 := Lib.hid hb0
  have HX0 := Lib.hid hx0
  have HT0 := Lib.hid ht0
  have hlt1 : w.heap.size < W0.heap.size := hx0.lt
  have hlt2 : w.heap.size + 1 < W0.heap.size := ht0.lt
  clear hW0 hsz hb0 hx0 ht0 HA HK
  refine wp_gen (fun W => Below W0.heap.size W0 W ∧ Bk W W0.heap.size 22 #[.slice none 0 0] ∧ Bk W (W0.heap.size + 1) 44 #[.func (.func 15) #[] #[.pointer (some ⟨W0.heap.size, 0, none⟩), .pointer (some ⟨W0.heap.size + 1, 0, none⟩)]])
    ⟨((Below.refl _ W0).alloc (Nat.le_refl _) _).alloc (by simp) _, (Bk.new W0 22 _).alloc _, by simpa using (Bk.new (W0.alloc (.cells #[.slice none 0 0] 22)) 44 _)⟩ ?_
  rintro W1 ⟨hbl, hkn, hkp⟩
  have hx1 := HX0.out.below hbl hlt1
  have k0 : W1.cell? ⟨W0.heap.size + 1, 0, none⟩ = some (.func (.func 15) #[] #[.pointer (some ⟨W0.heap.size, 0, none⟩), .pointer (some ⟨W0.heap.size + 1, 0, none⟩)]) := hkp.cell 0
  have z0 : W1.cell? ⟨w.heap.size, 0, none⟩ = some (str nm) := hx1.cell 0
  have z1 : W1.cell? ⟨w.heap.size, 1, none⟩ = some (str tx) := hx1.cell 1
  have z2 : W1.cell? ⟨w.heap.size, 2, none⟩ = some (.slice A al.length c) := hx1.cell 2
  have z3 : W1.cell? ⟨w.heap.size, 3, none⟩ = some (.slice K ks.length d) := hx1.cell 3
  have HC := Lib.hid (makePut p nm tx al ks A K c d HP.out HA0.out HK0.out (Nat.le_refl _) hbl hkn hkp)
  have HBL := Lib.hid hbl
  clear hbl hkn hkp hx1
  by_cases hc : cnt p ≤ 4096
  · have HCN := Lib.hid hc
    clear hc
    go_upto_region 6 with (go_at_call 15; refine (HC.out).mono ?_; rintro e W2 (⟨_, rfl, v2, ts, hst, hts, hav, hb2⟩ | ⟨hno, _⟩); rotate_left; (exact absurd HCN.out (by simp at hno; omega)); have HST := Lib.hid hst; have HTS := Lib.hid hts; have HAV := Lib.hid hav; have HB2 := Lib.hid hb2; clear hst hts hav hb2)
    have hst := HST.out
    rw [List.nil_append] at hst
    have hts : ts.map (·.1) = pre p (-1) 0 := HTS.out
    obtain ⟨n, hn⟩ : ∃ n, cnt p = n := ⟨_, rfl⟩
    have htl : ts.length = n := by have := congrArg List.length hts; rwa [List.length_map, pre_cnt, hn] at this
    obtain ⟨A3, c3, hv2, -⟩ := own_lens hst.own
    rw [htl] at hv2
    subst hv2
    have hown : W2.ownsRow (W0.heap.size + 2) 41 9 (.slice A3 n c3) n (rawCells ts) := by have := hst.own; rwa [htl] at this
    have hord : ordB (par (ts.map (·.1))) n = true := by rw [hts]; have := HPO.out; rwa [HPC.out, hn] at this
    have hwp : W0.heap.size + 2 ≤ W2.heap.size := by have := hst.kp.lt; omega
    have hav2 : ∀ q ∈ ts, AVal W2 q.2 q.1.attrs := fun q hq => (HAV.out q hq).below (HBL.out.trans HB2.out) (Nat.le_refl _)
    have HLK := Lib.hid (linked_any (W0.heap.size + 2) A3 n c3 ts htl (by have := HCN.out; omega) hord W2 hown hav2 hwp)
    have k2 : W2.cell? ⟨W0.heap.size, 0, none⟩ = some (.slice A3 n c3) := hst.kn.cell 0
    have HN := Lib.hid hn
    have HTL := Lib.hid htl
    have HTM : Hid ((linkR ts n).map (·.1) = treeOf p) := Lib.hid (by have := linkR_all ts; rw [htl, hts] at this; exact this)
    have HNL : Hid (n ≤ 4096) := Lib.hid (by rw [← hn]; exact HCN.out)
    have HT2 := Lib.hid (HT0.out.below (HBL.out.trans HB2.out) hlt2)
    clear hst hts htl hown hord hav2 hn k0 z0 z1 z2 z3 HC HST HTS
    go_upto_region 7 with (go_at_call 17; refine (HLK.out).mono ?_; rintro e W3 ⟨rfl, ho3, hb3⟩; have HO3 := Lib.hid ho3; have HB3 := Lib.hid hb3; clear ho3 hb3)
    obtain ⟨b6, hb6⟩ : ∃ b, W3.heap.size = b := ⟨_, rfl⟩
    refine wp_gen (fun W => Below (W0.heap.size + 2) W2 W ∧ W.ownsRow (W0.heap.size + 2) 41 9 (.slice A3 n c3) n (rawCells (linkR ts n)) ∧ Bk W b6 24 #[.slice A3 n c3]) ⟨HB3.out.alloc (by have := HB3.out.size; omega) _, HO3.out.alloc _, hb6 ▸ Bk.new W3 24 _⟩ ?_
    have hb6l : W0.heap.size + 2 ≤ b6 := by have := HB3.out.size; omega
    rw [hb6]
    clear hb6 k2 HO3 HB3
    rintro W4 ⟨hb4, ho4, hk4⟩
    have hall : ∀ q ∈ linkR ts n, AVal W0 q.2 q.1.attrs := by
      intro q hq
      obtain ⟨i, hi, rfl⟩ := List.getElem_of_mem hq
      have hi' : i < ts.length := by rwa [linkR_length] at hi
      rw [linkR_get ts n i hi']
      have := HAV.out _ (List.getElem_mem hi')
      split
      · exact this
      · exact this
    have hbl4 : Below W0.heap.size W0 W4 := (HBL.out.trans HB2.out).trans (hb4.mono (by omega))
    have hrow4 : NRow W4 A3 (treeOf p) := by
      have := NRow.of_raw ho4 (fun q hq => (hall q hq).below hbl4 (Nat.le_refl _))
      rwa [HTM.out] at this
    have k6 : W4.cell? ⟨b6, 0, none⟩ = some (.slice A3 n c3) := hk4.cell 0
    have HRI := Lib.hid (right_any A3 n c3 (treeOf p) (by rw [HL.out, HN.out]) (by have := HNL.out; omega) W4 hrow4)
    have HALL := Lib.hid hall
    have HBL4 := Lib.hid hbl4
    have HO4 := Lib.hid ho4
    have HK4 := Lib.hid hk4
    have HT4 := Lib.hid (HT2.out.below hb4 (by omega))
    obtain ⟨E, hE⟩ : ∃ E, rightE (treeOf p) = E := ⟨_, rfl⟩
    rw [hE] at HRI
    have HE := Lib.hid hE
    clear hb4 ho4 hk4 hall hbl4 hrow4 hE
    by_cases h0 : E = 0
    · have t0 : (E != 0) = false := by rw [h0]; rfl
      subst h0
      go_upto_region 11 with (go_at_call 18; refine (HRI.out).mono ?_; rintro e W5 ⟨rfl, hb5⟩; have HB5 := Lib.hid hb5; have k7 : W5.cell? ⟨b6, 0, none⟩ = some (.slice A3 n c3) := (HK4.out.below hb5 HK4.out.lt).cell 0; clear hb5)
      have hst5 : MkSt W0 (w.heap.size + 1) b6 A3 n c3 (treeOf p) 0 W5 := ⟨HT4.out.below HB5.out HT4.out.lt, HK4.out.below HB5.out HK4.out.lt, ⟨linkR ts n, HTM.out, own_stays HO4.out HB5.out, fun i hi => ⟨fun hh => by omega, fun _ => HALL.out _ (List.getElem_mem hi)⟩⟩, HBL4.out.trans (HB5.out.mono HBL4.out.size)⟩
      have HST5 := Lib.hid hst5
      have hz5 : W0.heap.size + 2 ≤ W5.heap.size := by have := HB5.out.size; have := HK4.out.lt; omega
      clear hst5 k6 k7
      have hnb : n ≤ 4096 := HNL.out
      go_loopg [27] n (fun gk i wr => ∃ k : Nat, k + gk = n ∧ i = .int .i64 (k : Int) ∧ Hid (MkSt W0 (w.heap.size + 1) b6 A3 n c3 (treeOf p) k wr) ∧ W0.heap.size + 2 ≤ wr.heap.size)
      case atStart => exact ⟨0, by omega, rfl, HST5, hz5⟩
      case round =>
        obtain ⟨k, hk, rfl, hst, hzr⟩ := hrel
        by_cases hlt : k < n
        · have hlen : (treeOf p).length = n := by rw [HL.out, HN.out]
          obtain ⟨rs, h1, h2, h3⟩ := hst.out.ex
          have hrl : rs.length = n := by rw [← hlen, ← h1, List.length_map]
          have hkr : k < rs.length := by omega
          obtain ⟨g, cap, hvv, -⟩ := h2.form (by omega)
          injection hvv with hA3 _ hcc
          subst hA3
          subst hcc
          have hav := (h3 k hkr).2 (Nat.le_refl _)
          have hxx : (treeOf p)[k]? = some (rs[k]'hkr).1 := by rw [← h1, List.getElem?_map, List.getElem?_eq_getElem hkr]; rfl
          have c3' : wr.cell? ⟨g, k * 9 + 3, none⟩ = some (rs[k]'hkr).2 := by
            rw [h2.cellAt (k * 9 + 3) (by omega), rawCells_get rs k hkr 3 (by omega)]; rfl
          have hf3 : wr.frozen? ⟨g, k * 9 + 3, none⟩ = false := h2.frozenAt _
          obtain ⟨q, hq⟩ : ∃ q, rs[k]'hkr = q := ⟨_, rfl⟩
          rw [hq] at hav hxx c3'
          clear hq
          obtain ⟨x, v⟩ := q
          dsimp only at hav hxx c3'
          obtain ⟨A1, c1, rfl, har⟩ := hav.ex
          have hgl := h2.lt g rfl
          have k6 : wr.cell? ⟨b6, 0, none⟩ = some (.slice (some ⟨g, 0, none⟩) n c3) := hst.out.t6.cell 0
          have hb6r := hst.out.t6.lt
          have i1 : (k : Int) < (n : Int) := by omega
          have HSTP := Lib.hid (fun (w2 : World) (v' : Value) (hb : Below wr.heap.size wr.drew w2) (ho : w2.ownsRow wr.heap.size 70 2 v' x.attrs.length (attrCells x.attrs)) => MkSt.step hst.out hlt hlen x hxx ⟨hb.os, hb.tape, hb.output, hb.size, hb.block⟩ ho hzr)
          have HCO := Lib.hid (copied_any (.slice A1 x.attrs.length c1) x.attrs wr.drew (hav.below (hst.out.bl.drew) (Nat.le_refl _)))
          clear h1 h2 h3 hxx hav har hst
          go_upto_region 13 with fail
          go_region_law (first
              | (go_simp; go_at_call 19; (refine (HCO.out).mono ?_); rintro e w2 ⟨v', rfl, ho2, hb2⟩; obtain ⟨A2, c2, rfl⟩ := own_form ho2; have HS2 := Lib.hid (HSTP.out w2 _ hb2 ho2); have k62 : w2.cell? ⟨b6, 0, none⟩ = some (.slice (some ⟨g, 0, none⟩) n c3) := (hb2.cell (p := ⟨b6, 0, none⟩) hb6r).trans k6; have c32 : w2.cell? ⟨g, k * 9 + 3, none⟩ = some (.slice A1 x.attrs.length c1) := (hb2.cell (p := ⟨g, k * 9 + 3, none⟩) hgl.2).trans c3'; have f32 : w2.frozen? ⟨g, k * 9 + 3, none⟩ = false := (hb2.frozen (p := ⟨g, k * 9 + 3, none⟩) hgl.2).trans hf3; have z2 : wr.heap.size ≤ w2.heap.size := hb2.size; clear hb2 ho2))
          all_goals
            clear k6 c3' hf3
            go_wp2
            go_roundg (gk - 1)
            case measure => omega
            case rel => exact ⟨k + 1, by omega, by go_num, HS2, by simp [World.setCell]; omega⟩
        · obtain rfl : k = n := by omega
          have t0' : wr.cell? ⟨w.heap.size + 1, 0, none⟩ = some (.slice none 0 0) := hst.out.t2.cell 0
          have tf : wr.frozen? ⟨w.heap.size + 1, 0, none⟩ = false := hst.out.t2.frozen 0
          have k6 : wr.cell? ⟨b6, 0, none⟩ = some (.slice A3 k c3) := hst.out.t6.cell 0
          go_wp2
          refine bodyPost_ret (v := .tuple #[.agg #[.slice A3 k c3], .int .i64 0]) ?_ rfl ⟨?_, .inr ⟨HE.out, A3, c3, ?_, ?_⟩⟩
          · exact make_result (by simp [World.cell?_setCell_same', t0']) _ rfl rfl
          · exact (HB0.out.trans (hst.out.bl.mono (by omega))).setCell (p := ⟨w.heap.size + 1, 0, none⟩) (by simp) _
          · rw [HN.out]
          · obtain ⟨rs, h1, h2, h3⟩ := hst.out.ex
            rw [HN.out]
            refine ⟨rs, h1, own_less (ownsRow_setCell_below h2 (by show w.heap.size + 1 < _; omega) _) (by omega), fun q hq => ?_⟩
            obtain ⟨i, hi, rfl⟩ := List.getElem_of_mem hq
            refine own_less (ownsRow_setCell_below ((h3 i hi).1 ?_) (by show w.heap.size + 1 < _; omega) _) (by omega)
            have hrl : rs.length = k := by rw [← HN.out, ← HL.out, ← h1, List.length_map]
            omega
    · have t0 : (E != 0) = true := by rw [bne_iff_ne]; exact h0
      go_upto_region 9 with (go_at_call 18; refine (HRI.out).mono ?_; rintro e W5 ⟨rfl, hb5⟩; have HB5 := Lib.hid hb5; clear hb5)
      have hlt4 := HT4.out.lt
      have ht5 := HT4.out.below HB5.out hlt4
      have y0 : W5.cell? ⟨w.heap.size + 1, 0, none⟩ = some (.slice none 0 0) := ht5.cell 0
      have yf : W5.frozen? ⟨w.heap.size + 1, 0, none⟩ = false := ht5.frozen 0
      clear k6
      go_wp2
      refine bodyPost_ret (v := .tuple #[.agg #[.slice none 0 0], .int .i64 E]) ?_ rfl ⟨?_, .inl ⟨by rw [HE.out]; exact h0, by rw [HE.out]⟩⟩
      · exact make_result (by simp [World.cell?_setCell_same', y0]) _ rfl rfl
      · exact ((HB0.out.trans (HBL4.out.mono (by omega))).trans (HB5.out.mono (by omega))).setCell (p := ⟨w.heap.size + 1, 0, none⟩) (by simp) _
  · have hre : rightE (treeOf p) = 4 := by unfold rightE; rw [if_pos (by rw [HL.out]; omega)]
    have HRE := Lib.hid hre
    have HCN := Lib.hid hc
    clear hc hre
    go_upto_region 5 with (go_at_call 15; refine (HC.out).mono ?_; rintro e W2 (⟨hno, _⟩ | ⟨_, rfl, hb2⟩); (exact absurd HCN.out (by simp at hno; omega)); have HB2 := Lib.hid hb2; clear hb2)
    have ht2 := HT0.out.below (HBL.out.trans HB2.out) (by omega)
    have t0 : W2.cell? ⟨w.heap.size + 1, 0, none⟩ = some (.slice none 0 0) := ht2.cell 0
    have tf : W2.frozen? ⟨w.heap.size + 1, 0, none⟩ = false := ht2.frozen 0
    clear k0 z0 z1 z2 z3
    go_wp2
    refine bodyPost_ret (v := .tuple #[.agg #[.slice none 0 0], .int .i64 4]) ?_ rfl ⟨?_, .inl ⟨by rw [HRE.out]; decide, by rw [HRE.out]⟩⟩
    · exact make_result (by simp [World.cell?_setCell_same' , t0]) _ rfl rfl
    · exact (HB0.out.trans ((HBL.out.trans HB2.out).mono (by omega))).setCell (p := ⟨w.heap.size + 1, 0, none⟩) (by simp) _
end Go.Proofs.YtdogcnmepaemjaaDoor
