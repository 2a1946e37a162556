/- Nodes get the links that their parents leave: dom's linked; a list of attributes in new memory: dom's copied. No conditions but that lists are not endless, and nodes in document order. -/
import Derived.Test.YtdogcnmepaemjaaDoorDm
import Derived.Test.YtdogcnmepaemjaaDoorDg
import Derived.Deep.RegionHeld3
import Derived.BigRegion
namespace Go.Proofs.YtdogcnmepaemjaaDoor
set_option linter.unusedVariables false
open Go.RowKit Go.Proofs.Fm Go.Proofs.Fb Go.Proofs.Fd Go.Proofs.Fc

/-- a node with links -/
def setLk (x : Nd) (k : Lk) : Nd := { x with first := k.first, last := k.last, prev := k.prev, next := k.next }
def linkL (l : List Nd) : List Nd := l.mapIdx fun i x => setLk x (lkAt (par l) l.length i)
def linkR (rs : List Rn) (k : Nat) : List Rn := rs.mapIdx fun i q => if i < k then (setLk q.1 (lkAt (par (rs.map (·.1))) rs.length i), q.2) else q
theorem linkR_zero (rs : List Rn) : linkR rs 0 = rs := by
  unfold linkR
  apply List.ext_getElem
  · simp
  · intro i h1 h2; simp
theorem linkR_length (rs : List Rn) (k : Nat) : (linkR rs k).length = rs.length := by simp [linkR]
theorem linkR_all (rs : List Rn) : (linkR rs rs.length).map (·.1) = linkL (rs.map (·.1)) := by
  unfold linkR linkL
  apply List.ext_getElem
  · simp
  · intro i h1 h2
    have hi : i < rs.length := by simpa using h1
    simp [hi]
theorem linkR_get (rs : List Rn) (k i : Nat) (h : i < rs.length) : (linkR rs k)[i]'(by rw [linkR_length]; exact h) = if i < k then (setLk (rs[i]'h).1 (lkAt (par (rs.map (·.1))) rs.length i), (rs[i]'h).2) else rs[i]'h := by simp [linkR]
theorem linkR_succ (rs : List Rn) (k : Nat) (h : k < rs.length) : (linkR rs k).set k (setLk (rs[k]'h).1 (lkAt (par (rs.map (·.1))) rs.length k), (rs[k]'h).2) = linkR rs (k + 1) := by
  apply List.ext_getElem
  · simp [linkR_length]
  · intro i h1 h2
    have hi : i < rs.length := by simpa [linkR_length] using h1
    rw [List.getElem_set]
    by_cases e : k = i
    · subst e; rw [if_pos rfl, linkR_get rs (k + 1) k h, if_pos (by omega)]
    · rw [if_neg e, linkR_get rs k i hi, linkR_get rs (k + 1) i hi]
      by_cases c : i < k
      · rw [if_pos c, if_pos (by omega)]
      · rw [if_neg c, if_neg (by omega)]
theorem raw_set : ∀ (rs : List Rn) (k j : Nat) (u : Value) (q : Rn) (h : k < rs.length), j < 9 → (ndCells (rs[k]'h).1 (rs[k]'h).2).set j u = ndCells q.1 q.2 → (rawCells rs).set (k * 9 + j) u = rawCells (rs.set k q)
  | [], k, j, u, q, h, _, _ => by simp at h
  | a :: t, 0, j, u, q, h, hj, he => by
    rw [rawCells_cons, List.set_cons_zero, rawCells_cons, List.set_append_left _ _ (by rw [ndCells_length]; omega), Nat.zero_mul, Nat.zero_add]
    congr 1
  | a :: t, k + 1, j, u, q, h, hj, he => by
    rw [rawCells_cons, List.set_cons_succ, rawCells_cons, List.set_append_right _ _ (by rw [ndCells_length]; omega), ndCells_length, show (k + 1) * 9 + j - 9 = k * 9 + j by omega]
    rw [raw_set t k j u q (by simpa using h) hj (by simpa using he)]
/-- a node's four links are written -/
theorem raw_links (rs : List Rn) (k : Nat) (h : k < rs.length) (m : Lk) : ((((rawCells rs).set (k * 9 + 5) (.int .i64 m.first)).set (k * 9 + 6) (.int .i64 m.last)).set (k * 9 + 7) (.int .i64 m.prev)).set (k * 9 + 8) (.int .i64 m.next) = rawCells (rs.set k (setLk (rs[k]'h).1 m, (rs[k]'h).2)) := by
  rcases hq : rs[k]'h with ⟨x, v⟩
  rw [raw_set rs k 5 _ ({ x with first := m.first }, v) h (by omega) (by rw [hq]; rfl)]
  rw [raw_set _ k 6 _ ({ x with first := m.first, last := m.last }, v) (by simpa using h) (by omega) (by simp [ndCells])]
  rw [raw_set _ k 7 _ ({ x with first := m.first, last := m.last, prev := m.prev }, v) (by simpa using h) (by omega) (by simp [ndCells])]
  rw [raw_set _ k 8 _ (setLk x m, v) (by simpa using h) (by omega) (by simp [ndCells, setLk])]
  simp

theorem own_stays {w w' : World} {base e size n : Nat} {v : Value} {xs : List Value} (h : w.ownsRow base e size v n xs) (hb : Below w.heap.size w w') : w'.ownsRow base e size v n xs :=
  h.kept (row := none) ⟨hb.os, hb.tape, hb.output, hb.size, fun k hk _ => hb.block k hk⟩ (by rcases v.ownBlock with _ | g <;> simp)
def LinkedOut (base : Nat) (A : Option Addr) (n c : Nat) (rs : List Rn) (w : World) (e : Ending) (w' : World) : Prop :=
  e = .returned (.slice A n c) ∧ w'.ownsRow base 41 9 (.slice A n c) n (rawCells (linkR rs n)) ∧ Below base w w'
set_option maxHeartbeats 4000000 in
theorem linked_any (base : Nat) (A : Option Addr) (n c : Nat) (rs : List Rn) (hl : rs.length = n) (hn : n ≤ 1099511627776) (ho : ordB (par (rs.map (·.1))) n = true) (w : World) (hown : w.ownsRow base 41 9 (.slice A n c) n (rawCells rs)) (hav : ∀ q ∈ rs, AVal w q.2 q.1.attrs) (hbase : base ≤ w.heap.size) :
    Calls Tryd.prog 17 #[.slice A n c] w (LinkedOut base A n c rs w) := by
  have hrow := NRow.of_raw hown hav
  have HLK := Lib.hid (links_any A n c (rs.map (·.1)) (by simpa using hl) hn ho w hrow)
  have HOWN := Lib.hid hown
  clear hrow hown hav ho
  go_enter Tryd.func17, Tryd.ntmps17
  go_upto_region 2 with (go_at_call 33; refine (HLK.out).mono ?_; rintro e W0 ⟨cs, rfl, hbk, hlks, hbl⟩; have HBK := Lib.hid hbk; have HL := Lib.hid hlks; have HBL := Lib.hid hbl; clear hbk hlks hbl)
  have hz0 := HBL.out.size
  have hlt0 := HBK.out.lt
  have HO0 : Hid (W0.ownsRow base 41 9 (.slice A n c) n (rawCells rs)) := Lib.hid (HOWN.out.kept (row := none) ⟨HBL.out.os, HBL.out.tape, HBL.out.output, HBL.out.size, fun k hk _ => HBL.out.block k hk⟩ (by rcases (Value.slice A n c).ownBlock with _ | g <;> simp))
  go_loopg [8] n (fun gk i wr => ∃ k : Nat, k + gk = n ∧ i = .int .i64 (k : Int) ∧ Hid (wr.ownsRow base 41 9 (.slice A n c) n (rawCells (linkR rs k))) ∧ Hid (Bk wr w.heap.size 74 cs) ∧ Hid (Below base w wr))
  case atStart => exact ⟨0, by omega, rfl, Lib.hid (by rw [linkR_zero]; exact HO0.out), HBK, Lib.hid (HBL.out.mono hbase)⟩
  case round =>
    obtain ⟨k, hk, rfl, ho, hbk, hb⟩ := hrel
    by_cases hlk : k < n
    · have i1 : (k : Int) < (n : Int) := by omega
      obtain ⟨q0, q1, q2, q3⟩ := HL.out.2 k hlk
      have y0 := (hbk.out.cell _).trans q0
      have y1 := (hbk.out.cell _).trans q1
      have y2 := (hbk.out.cell _).trans q2
      have y3 := (hbk.out.cell _).trans q3
      obtain ⟨M, hM⟩ : ∃ M, lkAt (par (rs.map (·.1))) n k = M := ⟨_, rfl⟩
      have e0 : fst (par (rs.map (·.1))) n k = M.first := by rw [← hM]; rfl
      have e1 : lst (par (rs.map (·.1))) n k = M.last := by rw [← hM]; rfl
      have e2 : lst (par (rs.map (·.1))) k (par (rs.map (·.1)) k) = M.prev := by rw [← hM]; rfl
      have e3 : nxt (par (rs.map (·.1))) n k = M.next := by rw [← hM]; rfl
      rw [e0] at y0; rw [e1] at y1; rw [e2] at y2; rw [e3] at y3
      have HM := Lib.hid hM
      have hltk := hbk.out.lt
      clear hM e0 e1 e2 e3 q0 q1 q2 q3
      obtain ⟨g, cap, hv, -⟩ := ho.out.form (by omega)
      injection hv with hA h2 h3
      subst hA
      subst h3
      clear h2
      have gl := ho.out.lt g rfl
      go_upto_region 4 with fail
      have HY := Lib.hid (And.intro y0 (And.intro y1 (And.intro y2 y3)))
      refine wp_gen (fun W => Below wr.heap.size wr W ∧ Bk W wr.heap.size 74 #[.int .i64 M.first, .int .i64 M.last, .int .i64 M.prev, .int .i64 M.next]) ⟨(Below.refl _ _).alloc (Nat.le_refl _) _, Bk.new wr 74 _⟩ ?_
      clear y0 y1 y2 y3
      rintro W ⟨hb1, hk1⟩
      have hwl := hk1.lt
      have z0 := hk1.cell 0
      have z1 := hk1.cell 1
      have z2 := hk1.cell 2
      have z3 := hk1.cell 3
      simp at z0 z1 z2 z3
      have i3 : (0 : Int) ≤ (k : Int) := by omega
      have HB4 := Lib.hid hb1
      have HO4 := Lib.hid (own_stays ho.out HB4.out)
      have HK4 := Lib.hid (hbk.out.below HB4.out hltk)
      have hll : (rawCells (linkR rs k)).length = n * 9 := by rw [rawCells_length, linkR_length, hl]
      have cell : ∀ j, j < 9 → ∃ u, W.cell? ⟨g, k * 9 + j, none⟩ = some u := fun j hj => ⟨_, (HO4.out.cellAt (k * 9 + j) (by omega)).trans (List.getElem?_eq_getElem (by omega))⟩
      obtain ⟨u5, x5⟩ := cell 5 (by omega)
      obtain ⟨u6, x6⟩ := cell 6 (by omega)
      obtain ⟨u7, x7⟩ := cell 7 (by omega)
      obtain ⟨u8, x8⟩ := cell 8 (by omega)
      have hf : ∀ j, W.frozen? ⟨g, j, none⟩ = false := fun j => HO4.out.frozenAt j
      have hne : w.heap.size ≠ g := by
        intro e
        have := own_ne HO4.out HK4.out (by decide)
        exact this (by rw [e]; rfl)
      have HF := Lib.hid (raw_links (linkR rs k) k (by rw [linkR_length]; omega) M)
      have HS := Lib.hid (linkR_succ rs k (by omega))
      have HG := Lib.hid (linkR_get rs k k (by omega))
      have hng : g ≠ wr.heap.size := by omega
      clear cell hb1 hk1 hll
      go_region_held3 (fun w' => w'.cell? ⟨wr.heap.size, 0, none⟩ = some (.int .i64 M.first) ∧ w'.cell? ⟨wr.heap.size, 1, none⟩ = some (.int .i64 M.last) ∧ w'.cell? ⟨wr.heap.size, 2, none⟩ = some (.int .i64 M.prev) ∧ w'.cell? ⟨wr.heap.size, 3, none⟩ = some (.int .i64 M.next))
        (first | (go_keep; done))
        ((fail))
      go_wp2
      go_roundg (gk - 1)
      case measure => omega
      case rel =>
        refine ⟨k + 1, by omega, by go_num, Lib.hid ?_, Lib.hid ((((HK4.out.far (p := ⟨g, k * 9 + 5, none⟩) hne _).far (p := ⟨g, k * 9 + 6, none⟩) hne _).far (p := ⟨g, k * 9 + 7, none⟩) hne _).far (p := ⟨g, k * 9 + 8, none⟩) hne _), Lib.hid ?_⟩
        · have h1 := ((((HO4.out.stored (k * 9 + 5) (.int .i64 M.first)).1.stored (k * 9 + 6) (.int .i64 M.last)).1.stored (k * 9 + 7) (.int .i64 M.prev)).1.stored (k * 9 + 8) (.int .i64 M.next)).1
          rw [HF.out] at h1
          have h2 := HS.out
          have hm' : lkAt (par (rs.map (·.1))) rs.length k = M := by rw [hl]; exact HM.out
          rw [hm'] at h2
          have h3 := HG.out
          rw [if_neg (by omega)] at h3
          rw [h3, h2] at h1
          exact h1
        · exact (((((hb.out.trans (HB4.out.mono (by have := hb.out.size; omega))).setCell (p := ⟨g, k * 9 + 5, none⟩) gl.1 _).setCell (p := ⟨g, k * 9 + 6, none⟩) gl.1 _).setCell (p := ⟨g, k * 9 + 7, none⟩) gl.1 _).setCell (p := ⟨g, k * 9 + 8, none⟩) gl.1 _).drew
    · obtain rfl : k = n := by omega
      go_wp2
      go_ret
      exact ⟨rfl, ho.out, hb.out⟩
theorem attInfo : (Tryd.prog.info? 70).map (fun i => (i.zero, i.size, i.bytes)) = some (some (.agg #[.string ⟨#[]⟩, .string ⟨#[]⟩]), 2, 32) := by kernel_rfl
/-- a list of attributes of the call's own -/
theorem aval_own {w : World} {base : Nat} {v : Value} {al : List Att} (h : w.ownsRow base 70 2 v al.length (attrCells al)) (hl : al.length ≤ 4398046511104) : AVal w v al := by
  rcases h.2 with ⟨rfl, h0⟩ | ⟨g, cap, cur, rfl, hb, hh, hnc, hcm, hcs, htk⟩
  · have : al = [] := List.eq_nil_of_length_eq_zero h0
    subst this; exact AVal.nil w
  · exact ⟨_, cap, rfl, ARow.of_own h rfl, hnc, hl, fun e => by cases e⟩
theorem attr_src {w : World} {ad : Addr} {al : List Att} (h : ARow w (some ad) al) : ∀ (j : Nat) u, (attrCells al)[j]? = some u → w.cell? (ad.add j) = some u := by
  intro j u hj
  have hjl : j < al.length * 2 := by rw [← attrCells_length]; exact (List.getElem?_eq_some_iff.1 hj).1
  obtain ⟨b, off, he, hc⟩ := h (by intro e; subst e; simp at hjl)
  injection he with he; subst he
  have hadd : (⟨b, off, none⟩ : Addr).add j = ⟨b, off + j, none⟩ := by unfold Addr.add; split <;> simp_all
  rw [hadd]
  obtain ⟨h1, h2⟩ := attrCells_get al (j / 2) (by omega)
  obtain ⟨g1, g2⟩ := hc (j / 2) (by omega)
  by_cases e : j % 2 = 0
  · have ej : j = j / 2 * 2 := by omega
    rw [ej, h1] at hj
    injection hj with hj; subst hj
    rw [show off + j = off + j / 2 * 2 by omega]; exact g1
  · have ej : j = j / 2 * 2 + 1 := by omega
    rw [ej, h2] at hj
    injection hj with hj; subst hj
    rw [show off + j = off + j / 2 * 2 + 1 by omega]; exact g2
def CopiedOut (al : List Att) (w : World) (e : Ending) (w' : World) : Prop := ∃ v', e = .returned v' ∧ w'.ownsRow w.heap.size 70 2 v' al.length (attrCells al) ∧ Below w.heap.size w w'
set_option maxHeartbeats 1000000 in
theorem copied_any (v : Value) (al : List Att) (w : World) (ha : AVal w v al) : Calls Tryd.prog 19 #[v] w (CopiedOut al w) := by
  obtain ⟨A, c, rfl, har, hac, hlim, hnil⟩ := ha.ex
  obtain ⟨i0, hi0, hz0, hz1, hz2⟩ := info_parts attInfo
  rcases A with _ | ad
  · obtain rfl : c = 0 := hnil rfl
    have h0 : al = [] := List.eq_nil_of_length_eq_zero (by omega)
    subst h0
    go_enter Tryd.func19, Tryd.ntmps19
    go_wp2_with (at_builtin; refine wpList_append_own_none rfl (.const (.slice none 0 0)) (.tmp 3) 28 rfl w.heap.size 70 i0 2 Tryd.underlying28 hi0 (.slice none 0 0) 0 [] rfl (World.ownsRow_nil _ _ _ _) rfl ?_)
    go_ret
    exact ⟨_, rfl, World.ownsRow_nil _ _ _ _, Below.refl _ _⟩
  · have HAR := Lib.hid har
    clear har hnil ha
    go_enter Tryd.func19, Tryd.ntmps19
    go_wp2_with (at_builtin; refine wpList_append_own _ rfl (.const (.slice none 0 0)) (.tmp 3) 28 rfl w.heap.size 70 i0 _ 2 32 Tryd.underlying28 hi0 hz0 hz1 hz2 rfl (by omega) (.slice none 0 0) 0 [] rfl (World.ownsRow_nil _ _ _ _) ad al.length c (attrCells al) rfl (attrCells_length al) (attr_src HAR.out) (attrCells_one al) (by unfold maxLen; omega) (by omega) (Nat.le_refl _) ?_; intro v' w1 ho hg hv; have HO := Lib.hid ho; have HG := Lib.hid hg; clear ho hg hv)
    go_ret
    refine ⟨v', rfl, ?_, (Below.refl _ _).grown HG.out (Nat.le_refl _) (fun k hk => by simp [Value.ownBlock] at hk)⟩
    have := HO.out
    rwa [Nat.zero_add, List.nil_append] at this
end Go.Proofs.YtdogcnmepaemjaaDoor
