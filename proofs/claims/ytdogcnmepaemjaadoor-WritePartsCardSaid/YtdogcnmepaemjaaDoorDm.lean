/- A part's own node, and its nodes put behind others: dom's nodeOf, and the closure of Make that calls itself. No conditions but that nothing is endless. -/
import Derived.Test.YtdogcnmepaemjaaDoorDq
import Derived.Test.YtdogcnmepaemjaaDoorDe
import Derived.Test.YtdogcnmepaemjaaDoorOne
import Derived.Deep.RegionLaw
import Derived.Deep.AppendLies
namespace Go.Proofs.YtdogcnmepaemjaaDoor
set_option linter.unusedVariables false
open Go.RowKit Go.Proofs.Fm Go.Proofs.Fb Go.Proofs.Fd Go.Proofs.Fc

/-- the value of a node's attributes -/
def nodeV (nm : Str) (va : Value) : Value := if nm = [] then .slice none 0 0 else va
theorem nodeOf_any (nm tx : Str) (al : List Att) (ks : List Pt) (A K : Option Addr) (n c m d : Nat) (parent : Int) (w : World) :
    Calls Tryd.prog 16 #[.agg #[str nm, str tx, .slice A n c, .slice K m d], .int .i64 parent] w fun e w' => e = .returned (ndVal ((Pt.mk nm tx al ks).node parent) (nodeV nm (.slice A n c))) ∧ Below w.heap.size w w' := by
  rcases nm with _ | ⟨n0, nt⟩
  · have e1 : ndVal ((Pt.mk [] tx al ks).node parent) (nodeV [] (.slice A n c)) = .agg #[.int .i64 2, .string ⟨#[]⟩, .string ⟨tx.toArray⟩, .slice none 0 0, .int .i64 parent, .int .i64 0, .int .i64 0, .int .i64 0, .int .i64 0] := by simp [ndVal, Pt.node, nodeV, str]
    rw [e1]
    clear e1
    dsimp only [str]
    go_enter Tryd.func16, Tryd.ntmps16
    go_wp2
    exact bodyPost_ret (v := .agg #[.int .i64 2, .string ⟨#[]⟩, .string ⟨tx.toArray⟩, .slice none 0 0, .int .i64 parent, .int .i64 0, .int .i64 0, .int .i64 0, .int .i64 0]) (by simp [results, Tryd.results16, go_sem]) rfl ⟨rfl, ((Below.refl _ _).alloc (Nat.le_refl _) _).alloc (by simp) _⟩
  · have e1 : ndVal ((Pt.mk (n0 :: nt) tx al ks).node parent) (nodeV (n0 :: nt) (.slice A n c)) = .agg #[.int .i64 1, .string ⟨(n0 :: nt).toArray⟩, .string ⟨#[]⟩, .slice A n c, .int .i64 parent, .int .i64 0, .int .i64 0, .int .i64 0, .int .i64 0] := by simp [ndVal, Pt.node, nodeV, str]
    rw [e1]
    clear e1
    dsimp only [str]
    go_enter Tryd.func16, Tryd.ntmps16
    go_wp2
    exact bodyPost_ret (v := .agg #[.int .i64 1, .string ⟨(n0 :: nt).toArray⟩, .string ⟨#[]⟩, .slice A n c, .int .i64 parent, .int .i64 0, .int .i64 0, .int .i64 0, .int .i64 0]) (by simp [results, Tryd.results16, go_sem]) rfl ⟨rfl, ((Below.refl _ _).alloc (Nat.le_refl _) _).alloc (by simp) _⟩

/-- while nodes are put: the list so far, in its variable; the closure in its own -/
structure PutSt (bn : Nat) (W : World) (v : Value) (rs : List Rn) : Prop where
  kn : Bk W bn 22 #[v]
  kp : Bk W (bn + 1) 44 #[.func (.func 15) #[] #[.pointer (some ⟨bn, 0, none⟩), .pointer (some ⟨bn + 1, 0, none⟩)]]
  own : W.ownsRow (bn + 2) 41 9 v rs.length (rawCells rs)
theorem PutSt.below {bn : Nat} {W W' : World} {v : Value} {rs : List Rn} (h : PutSt bn W v rs) (hb : Below W.heap.size W W') : PutSt bn W' v rs := by
  refine ⟨h.kn.below hb h.kn.lt, h.kp.below hb h.kp.lt, ?_⟩
  have hg : W.grownBy W' none := ⟨hb.os, hb.tape, hb.output, hb.size, fun k hk _ => hb.block k hk⟩
  exact h.own.kept hg (by rcases v.ownBlock with _ | g <;> simp)
theorem PutSt.put {bn g cap : Nat} {w4 w5 : World} {v : Value} {rs : List Rn} (h : PutSt bn w4 v rs) (q : Rn) (ho : w5.ownsRow (bn + 2) 41 9 (.slice (some ⟨g, 0, none⟩) (rs.length + 1) cap) (rs.length + 1) (rawCells rs ++ ndCells q.1 q.2)) (hb : Below (bn + 2) w4 w5) :
    PutSt bn (w5.setCell ⟨bn, 0, none⟩ (.slice (some ⟨g, 0, none⟩) (rs.length + 1) cap)) (.slice (some ⟨g, 0, none⟩) (rs.length + 1) cap) (rs ++ [q]) := by
  have kn5 := h.kn.below hb (by omega)
  have kp5 := h.kp.below hb (by omega)
  refine ⟨?_, kp5.far (p := ⟨bn, 0, none⟩) (by simp) _, ?_⟩
  · have := kn5.set_ 0 (.slice (some ⟨g, 0, none⟩) (rs.length + 1) cap)
    simpa using this
  · rw [rawCells_append, List.length_append]
    have e : rawCells [q] = ndCells q.1 q.2 := by simp [rawCells]
    rw [e]
    exact ownsRow_setCell_below ho (by show bn < bn + 2; omega) _
/-- what putting a part answers -/
def PutOut (bn : Nat) (W0 W : World) (rs : List Rn) (p : Pt) (parent : Int) (e : Ending) (W' : World) : Prop :=
  (rs.length + cnt p ≤ 4096 ∧ e = .returned (.bool true) ∧ ∃ v' ts, PutSt bn W' v' (rs ++ ts) ∧ ts.map (·.1) = pre p parent rs.length ∧ (∀ q ∈ ts, AVal W0 q.2 q.1.attrs) ∧ Below bn W W') ∨
  (4096 < rs.length + cnt p ∧ e = .returned (.bool false) ∧ Below bn W W')
def PutSpec (p : Pt) : Prop := ∀ (bn : Nat) (W0 W : World) (v : Value) (rs : List Rn) (nm tx : Str) (al : List Att) (ks : List Pt) (A K : Option Addr) (c d : Nat) (parent : Int), p = .mk nm tx al ks →
  AVal W0 (.slice A al.length c) al → KVal W0 (.slice K ks.length d) ks → W0.heap.size ≤ bn → Below bn W0 W → PutSt bn W v rs → rs.length ≤ 4096 →
  Calls Tryd.prog 15 #[.agg #[str nm, str tx, .slice A al.length c, .slice K ks.length d], .int .i64 parent, .pointer (some ⟨bn, 0, none⟩), .pointer (some ⟨bn + 1, 0, none⟩)] W (PutOut bn W0 W rs p parent)
theorem ndInfo : (Tryd.prog.info? 41).map (fun i => (i.zero, i.size, i.bytes)) = some (some (.agg #[.int .i64 0, .string ⟨#[]⟩, .string ⟨#[]⟩, .slice none 0 0, .int .i64 0, .int .i64 0, .int .i64 0, .int .i64 0, .int .i64 0]), 9, 104) := by kernel_rfl
theorem own_lens {w : World} {base e n : Nat} {v : Value} {rs : List Rn} (h : w.ownsRow base e 9 v n (rawCells rs)) : ∃ A c, v = .slice A n c ∧ rs.length = n := by
  have hl : rs.length = n := by have := h.1; rw [rawCells_length] at this; omega
  rcases h.2 with ⟨rfl, rfl⟩ | ⟨g, cap, cur, rfl, _⟩
  · exact ⟨none, 0, rfl, hl⟩
  · exact ⟨_, cap, rfl, hl⟩
theorem nodeV_val {W0 : World} {nm tx : Str} {al : List Att} {ks : List Pt} {A : Option Addr} {c : Nat} (parent : Int) (ha : AVal W0 (.slice A al.length c) al) : ∃ A2 c2, nodeV nm (.slice A al.length c) = .slice A2 ((Pt.mk nm tx al ks).node parent).attrs.length c2 ∧ AVal W0 (.slice A2 ((Pt.mk nm tx al ks).node parent).attrs.length c2) ((Pt.mk nm tx al ks).node parent).attrs := by
  by_cases h : nm = []
  · simp only [nodeV, Pt.node, if_pos h]
    exact ⟨none, 0, rfl, AVal.nil _⟩
  · simp only [nodeV, Pt.node, if_neg h]
    exact ⟨A, c, rfl, ha⟩
theorem node_kind (nm tx : Str) (al : List Att) (ks : List Pt) (parent : Int) : ((Pt.mk nm tx al ks).node parent).kind = if nm = [] then 2 else 1 := by
  by_cases h : nm = [] <;> simp [Pt.node, h]
set_option maxHeartbeats 4000000 in
theorem put_any (p : Pt) : PutSpec p := by
  refine Pt.ind (C := PutSpec) (fun p ih => ?_) p
  intro bn W0 W v rs nm tx al ks A K c d parent hp ha hk hW0 hbW hst hrs
  obtain ⟨i0, hi0, hz0, hz1, hz2⟩ := info_parts ndInfo
  obtain ⟨B0, c0, rfl, -⟩ := own_lens hst.own
  have HP := Lib.hid hp
  have HI0 := Lib.hid hi0
  have HZ0 := Lib.hid hz0
  have HZ1 := Lib.hid hz1
  have HZ2 := Lib.hid hz2
  have HIH := Lib.hid ih
  have HA := Lib.hid ha
  have HK := Lib.hid hk
  have HBW := Lib.hid hbW
  have HST := Lib.hid hst
  have xn : W.cell? ⟨bn, 0, none⟩ = some (.slice B0 rs.length c0) := hst.kn.cell 0
  have hltn : bn < W.heap.size := hst.kn.lt
  have hltp : bn + 1 < W.heap.size := hst.kp.lt
  have hcn : cnt p = 1 + (if nm = [] then 0 else cntL ks) := by rw [hp, cnt_eq]; rfl
  have HCN := Lib.hid hcn
  have hb0 : Below W.heap.size W (W.alloc (.cells #[str nm, str tx, .slice A al.length c, .slice K ks.length d] 31)) := (Below.refl _ _).alloc (Nat.le_refl _) _
  clear hi0 hz0 hz1 hz2 ih ha hk hbW hst hp hcn
  by_cases hfull : rs.length = 4096
  · have hf : ((rs.length : Int) == 4096) = true := beq_iff_eq.2 (by omega)
    have HF := Lib.hid hfull
    clear hfull
    dsimp only [str] at hb0 ⊢
    go_enter Tryd.func15, Tryd.ntmps15
    go_wp2
    go_ret
    exact .inr ⟨by rw [HF.out, HCN.out]; omega, rfl, hb0.mono (by omega)⟩
  · have hf : ((rs.length : Int) == 4096) = false := beq_eq_false_iff_ne.2 (by omega)
    have HB0 := Lib.hid hb0
    have HBX := Lib.hid (Bk.new W 31 #[str nm, str tx, .slice A al.length c, .slice K ks.length d])
    clear hb0
    go_enter Tryd.func15, Tryd.ntmps15
    go_upto_region 4 with fail
    refine wp_gen (fun W1 => Below W.heap.size W W1 ∧ Bk W1 W.heap.size 31 #[str nm, str tx, .slice A al.length c, .slice K ks.length d]) ⟨HB0.out, HBX.out⟩ ?_
    clear HB0 HBX
    rintro W1 ⟨hb1, hbx1⟩
    have hst1 := HST.out.below hb1
    have y0 : W1.cell? ⟨bn, 0, none⟩ = some (.slice B0 rs.length c0) := hst1.kn.cell 0
    have yf : W1.frozen? ⟨bn, 0, none⟩ = false := hst1.kn.frozen 0
    have z0 : W1.cell? ⟨W.heap.size, 0, none⟩ = some (.string ⟨nm.toArray⟩) := hbx1.cell 0
    have z1 : W1.cell? ⟨W.heap.size, 1, none⟩ = some (.string ⟨tx.toArray⟩) := hbx1.cell 1
    have z2 : W1.cell? ⟨W.heap.size, 2, none⟩ = some (.slice A al.length c) := hbx1.cell 2
    have z3 : W1.cell? ⟨W.heap.size, 3, none⟩ = some (.slice K ks.length d) := hbx1.cell 3
    have l1 : bn < W1.heap.size := hst1.kn.lt
    have l2 : W.heap.size < W1.heap.size := hbx1.lt
    have HBX1 := Lib.hid hbx1
    have HST1 := Lib.hid hst1
    have HB1 := Lib.hid hb1
    obtain ⟨A2, c2, hnv, hav⟩ := nodeV_val (nm := nm) (tx := tx) (ks := ks) parent HA.out
    have HNO := Lib.hid (fun w => nodeOf_any nm tx al ks A K al.length c ks.length d parent w)
    rw [hnv] at HNO
    have hkd := node_kind nm tx al ks parent
    have HPN : Hid (pre p parent rs.length = (Pt.mk nm tx al ks).node parent :: (if nm = [] then [] else preL ks rs.length (rs.length + 1))) := Lib.hid (by rw [HP.out, pre_eq]; rfl)
    obtain ⟨X, hX⟩ : ∃ X, (Pt.mk nm tx al ks).node parent = X := ⟨_, rfl⟩
    rw [hX] at HNO hkd hav HPN
    unfold ndVal at HNO
    dsimp only [str] at HNO ⊢
    have HAV := Lib.hid hav
    have HKD := Lib.hid hkd
    clear hnv hX hst1 hbx1 hb1 xn hltp hkd hav
    have hz1 : bn + 2 ≤ W1.heap.size := by have := HST1.out.kp.lt; omega
    have HKEEP := Lib.hid (fun w2 (h : Below W1.heap.size W1.drew w2) => (show PutSt bn w2 (.slice B0 rs.length c0) rs ∧ Bk w2 W.heap.size 31 #[str nm, str tx, .slice A al.length c, .slice K ks.length d] ∧ Below W.heap.size W w2 from ⟨HST1.out.below ⟨h.os, h.tape, h.output, h.size, h.block⟩, HBX1.out.below (B := W1.heap.size) ⟨h.os, h.tape, h.output, h.size, h.block⟩ l2, HB1.out.trans (Below.mono (B := W1.heap.size) ⟨h.os, h.tape, h.output, h.size, h.block⟩ (by omega))⟩))
    go_cut [] (fun W6 => ∃ g cap, PutSt bn W6 (.slice (some ⟨g, 0, none⟩) (rs.length + 1) cap) (rs ++ [(X, .slice A2 X.attrs.length c2)]) ∧ Bk W6 W.heap.size 31 #[str nm, str tx, .slice A al.length c, .slice K ks.length d] ∧ Below bn W W6)
    case first =>
      go_region_law (first
        | (go_simp; go_at_call 16; (refine (HNO.out _).mono ?_); rintro e w2 ⟨rfl, hb2⟩; obtain ⟨hs2, hx2, hbb2⟩ := HKEEP.out w2 hb2; have HS2 := Lib.hid hs2; have HX2 := Lib.hid hx2; have HBB2 := Lib.hid hbb2; have v0 : w2.cell? ⟨bn, 0, none⟩ = some (.slice B0 rs.length c0) := hs2.kn.cell 0; have vf : w2.frozen? ⟨bn, 0, none⟩ = false := hs2.kn.frozen 0; have l3 : bn < w2.heap.size := hs2.kn.lt; have l4 : bn + 1 < w2.heap.size := hs2.kp.lt; clear hs2 hx2 hbb2 hb2)
        | ((refine step_append_lies _ (by rfl) (.tmp 14) (.tmp 18) 22 (by rfl) (bn + 2) 41 i0 _ 9 104 Tryd.underlying22 HI0.out HZ0.out HZ1.out HZ2.out rfl (by omega) (.slice B0 rs.length c0) rs.length (rawCells rs) (by rfl) (HS2.out.own.alloc _) ⟨w2.heap.size, 0, none⟩ 1 1 (ndCells X (.slice A2 X.attrs.length c2)) (by rfl) rfl (news_lit w2 41 (ndCells X (.slice A2 X.attrs.length c2))) (by simp [ndCells, str, Value.oneCell']) (by omega) (by unfold maxLen; omega) (by omega) (by simp; omega) (w2.heap.size + 1) (by simp) ?_; intro g cap w5 ho5 hg5 hat5 hlt5; have hg6 := grown_two (World.grownBy_alloc w2 _ none) hg5; have hb5 := (Below.refl (bn + 2) w2).grown hg6 (by omega) (fun k hk => (HS2.out.own.lt k hk).1); have HO5 := Lib.hid ho5; have HG5 := Lib.hid hg6; have HB5 := Lib.hid hb5; have v5 := (hb5.cell (p := ⟨bn, 0, none⟩) (by show bn < bn + 2; omega)).trans v0; have vf5 := (hb5.frozen (p := ⟨bn, 0, none⟩) (by show bn < bn + 2; omega)).trans vf; clear ho5 hg5 hb5 hat5 hg6)))
      all_goals
        go_wp2
        go_meet
        refine ⟨g, cap, HS2.out.put _ HO5.out HB5.out, (HX2.out.grown HG5.out (fun e => own_ne HS2.out.own HX2.out (by decide) e.symm)).far (p := ⟨bn, 0, none⟩) (by simp; omega) _, ((HBB2.out.mono (by omega)).trans (HB5.out.mono (by omega))).setCell (p := ⟨bn, 0, none⟩) (Nat.le_refl bn) _⟩
    case rest =>
    obtain ⟨g, cap, hst6, hbx6, hb6⟩ := hcut
    obtain ⟨W6, rfl⟩ : ∃ x, x = wc := ⟨_, rfl⟩
    clear y0 yf z0 z1 z2 z3 hz1 HKEEP HNO HST1 HB1 HBX1
    have HST6 := Lib.hid hst6
    have HBX6 := Lib.hid hbx6
    have HB6 := Lib.hid hb6
    have k0 : W6.cell? ⟨bn, 0, none⟩ = some (.slice (some ⟨g, 0, none⟩) (rs.length + 1) cap) := hst6.kn.cell 0
    have k1 : W6.cell? ⟨g, rs.length * 9, none⟩ = some (.int .i64 X.kind) := by
      have := hst6.own.cells (g := g) rfl (rs.length * 9 + 0) (.int .i64 X.kind) (by rw [rawCells_get _ rs.length (by simp) 0 (by omega)]; simp [ndCells])
      simpa [addr_add] using this
    have k3 : W6.cell? ⟨W.heap.size, 3, none⟩ = some (.slice K ks.length d) := hbx6.cell 3
    have i1 : (rs.length : Int) < (rs.length : Int) + 1 := by omega
    clear hst6 hbx6 hb6
    obtain ⟨KX, hKX⟩ : ∃ k, X.kind = k := ⟨_, rfl⟩
    rw [hKX] at k1 HKD
    clear hKX
    by_cases hnm : nm = []
    · have kk : (KX == 2) = true := by rw [HKD.out, if_pos hnm]; rfl
      have HNM := Lib.hid hnm
      clear hnm
      go_wp2
      go_ret
      refine .inl ⟨by rw [HCN.out, if_pos HNM.out]; omega, rfl, _, _, HST6.out, ?_, ?_, HB6.out⟩
      · rw [HPN.out, if_pos HNM.out]; rfl
      · intro q hq; rw [List.mem_singleton.1 hq]; exact HAV.out
    · have kk : (KX == 2) = false := by rw [HKD.out, if_neg hnm]; rfl
      have HNM := Lib.hid hnm
      clear hnm
      have hcnt : cnt p = 1 + cntL ks := by rw [HCN.out, if_neg HNM.out]
      have hpre : pre p parent rs.length = X :: preL ks rs.length (rs.length + 1) := by rw [HPN.out, if_neg HNM.out]
      have HCNT := Lib.hid hcnt
      have HPRE := Lib.hid hpre
      have hkids : ∀ k ∈ ks, k ∈ p.kids := fun k hk => by rw [HP.out]; exact hk
      have HKIDS := Lib.hid hkids
      obtain ⟨K', d', hkv, hkd, hdm, hkn, hkc⟩ := HK.out
      have HKC : Hid (ks = [] ∨ ∃ b' off, K = some ⟨b', off, none⟩ ∧ PCells W0 b' off ks) := Lib.hid (by injection hkv with h1 h2 h3; rw [h1]; exact hkc)
      have hkl : ks.length ≤ 9223372036854775807 := by omega
      clear hcnt hpre hkids hkv hkd hdm hkn hkc
      go_upto_region 8 with fail
      clear k0 k1 k3
      obtain ⟨R0, hR0⟩ : ∃ R, rs ++ [((X, .slice A2 X.attrs.length c2) : Rn)] = R := ⟨_, rfl⟩
      have hR0l : R0.length = rs.length + 1 := by rw [← hR0]; simp
      rw [hR0] at HST6
      have HR0 := Lib.hid hR0
      clear hR0
      go_loopg [29] ks.length (fun gk i wr => ∃ j : Nat, j + gk = ks.length ∧ i = .int .i64 (j : Int) ∧ Hid (∃ v ts, PutSt bn wr v (R0 ++ ts) ∧ ts.map (·.1) = preL (ks.take j) rs.length (rs.length + 1) ∧ (∀ q ∈ ts, AVal W0 q.2 q.1.attrs) ∧ Below bn W wr ∧ R0.length + ts.length ≤ 4096))
      case atStart => exact ⟨0, by omega, rfl, Lib.hid ⟨_, [], by rw [List.append_nil]; exact HST6.out, by rw [List.take_zero, preL_nil]; rfl, by simp, HB6.out, by simp; omega⟩⟩
      case round =>
        obtain ⟨j, hj, rfl, hrr⟩ := hrel
        by_cases hlt : j < ks.length
        · obtain ⟨v, ts, hst, hts, hav, hbl, hlen⟩ := hrr.out
          have HSTJ := Lib.hid hst
          have HTS := Lib.hid hts
          have HAVJ := Lib.hid hav
          have HBL := Lib.hid hbl
          have HLEN := Lib.hid hlen
          have htl : ts.length = cntL (ks.take j) := by have := congrArg List.length hts; rwa [List.length_map, preL_cnt] at this
          have HTL := Lib.hid htl
          have hb0r : Below bn W0 wr := HBW.out.trans hbl
          rcases HKC.out with hk0 | ⟨b', off, rfl, hkc⟩
          · rw [hk0] at hlt; simp at hlt
          · have hcell := PCells_get hkc j hlt
            have HKJ := Lib.hid (HKIDS.out _ (List.getElem_mem hlt))
            have HTK := Lib.hid (preL_take_succ hlt rs.length (rs.length + 1))
            have HCT := Lib.hid (cntL_take hlt)
            have HSP := Lib.hid (cntL_split ks (j + 1))
            obtain ⟨k, hk⟩ : ∃ k, ks[j]'hlt = k := ⟨_, rfl⟩
            rw [hk] at hcell HKJ HTK HCT
            obtain ⟨nm', tx', al', ks'⟩ := k
            rw [PCell_eq] at hcell
            obtain ⟨q0, q1, ⟨va, q2, hva⟩, vk, q3, hvk⟩ := hcell
            have q0 : W0.cell? ⟨b', off + j * 4, none⟩ = some (str nm') := q0
            have q1 : W0.cell? ⟨b', off + j * 4 + 1, none⟩ = some (str tx') := q1
            have hva : AVal W0 va al' := hva
            have hvk : KVal W0 vk ks' := hvk
            have hblt : b' < W0.heap.size := World.block_lt_of_cell? _ _ q0
            have q0 := (hb0r.cell (p := ⟨b', off + j * 4, none⟩) (by show b' < bn; omega)).trans q0
            have q1 := (hb0r.cell (p := ⟨b', off + j * 4 + 1, none⟩) (by show b' < bn; omega)).trans q1
            have q2 := (hb0r.cell (p := ⟨b', off + j * 4 + 2, none⟩) (by show b' < bn; omega)).trans q2
            have q3 := (hb0r.cell (p := ⟨b', off + j * 4 + 3, none⟩) (by show b' < bn; omega)).trans q3
            obtain ⟨A1, c1, rfl, har⟩ := hva.ex
            obtain ⟨K1, d1, rfl, hkr⟩ := hvk
            have k4 : wr.cell? ⟨bn + 1, 0, none⟩ = some (.func (.func 15) #[] #[.pointer (some ⟨bn, 0, none⟩), .pointer (some ⟨bn + 1, 0, none⟩)]) := hst.kp.cell 0
            have l7 : bn + 1 < wr.heap.size := hst.kp.lt
            have l8 : b' < wr.heap.size := World.block_lt_of_cell? _ _ q0
            have i2 : (j : Int) < (ks.length : Int) := by omega
            have hbx : Below wr.heap.size wr (wr.alloc (.cells #[str nm', str tx', .slice A1 al'.length c1, .slice K1 ks'.length d1] 31)) := (Below.refl _ _).alloc (Nat.le_refl _) _
            have HC := Lib.hid (HIH.out _ HKJ.out bn W0 _ v (R0 ++ ts) nm' tx' al' ks' A1 K1 c1 d1 (rs.length : Int) rfl hva ⟨K1, d1, rfl, hkr⟩ hW0 (hb0r.trans (hbx.mono (by omega))) (hst.below hbx) (by rw [List.length_append]; exact hlen))
            have HBX := Lib.hid hbx
            clear hst hts hav hbl hlen htl hb0r hkc hk hva har hkr hbx hrr
            dsimp only [str] at q0 q1 HC
            by_cases hfit : (R0 ++ ts).length + cnt (.mk nm' tx' al' ks') ≤ 4096
            · have HFIT := Lib.hid hfit
              clear hfit
              go_wp2_with (go_at_call 15; refine (HC.out).mono ?_; rintro e w7 (⟨_, rfl, v7, t7, hs7, hm7, ha7, hb7⟩ | ⟨hno, _⟩); rotate_left; (exact absurd HFIT.out (by omega)); have HS7 := Lib.hid hs7; have HM7 := Lib.hid hm7; have HA7 := Lib.hid ha7; have HB7 := Lib.hid hb7; clear hs7 hm7 ha7 hb7)
              go_roundg (gk - 1)
              case measure => omega
              case rel =>
                refine ⟨j + 1, by omega, by go_num, Lib.hid ⟨v7, ts ++ t7, by rw [← List.append_assoc]; exact HS7.out, ?_, ?_, HBL.out.trans ((HBX.out.mono (by omega)).trans HB7.out), ?_⟩⟩
                · rw [List.map_append, HTS.out, HM7.out, HTK.out, List.length_append, hR0l, preL_cnt, HTL.out]
                · intro q hq
                  rcases List.mem_append.1 hq with hq | hq
                  · exact HAVJ.out q hq
                  · exact HA7.out q hq
                · have h1 := congrArg List.length HM7.out
                  rw [List.length_map, pre_cnt] at h1
                  have h2 := HFIT.out
                  rw [List.length_append] at h2 ⊢
                  omega
            · have HFIT := Lib.hid hfit
              clear hfit
              go_wp2_with (go_at_call 15; refine (HC.out).mono ?_; rintro e w7 (⟨hyes, _⟩ | ⟨_, rfl, hb7⟩); (exact absurd hyes HFIT.out); have HB7 := Lib.hid hb7; clear hb7)
              go_ret
              refine .inr ⟨?_, rfl, HBL.out.trans ((HBX.out.mono (by omega)).trans HB7.out)⟩
              have h2 := HFIT.out
              rw [List.length_append, hR0l, HTL.out] at h2
              rw [HCNT.out]
              have h3 := HCT.out
              have h4 := HSP.out
              omega
        · obtain rfl : j = ks.length := by omega
          obtain ⟨v, ts, hst, hts, hav, hbl, hlen⟩ := hrr.out
          have HSTJ := Lib.hid hst
          have HTS := Lib.hid hts
          have HAVJ := Lib.hid hav
          have HBL := Lib.hid hbl
          have HLEN := Lib.hid hlen
          clear hst hts hav hbl hlen hrr
          go_wp2
          go_ret
          have h1 := HTS.out
          rw [List.take_of_length_le (Nat.le_refl _)] at h1
          have h2 := congrArg List.length h1
          rw [List.length_map, preL_cnt] at h2
          refine .inl ⟨by rw [HCNT.out]; have := HLEN.out; omega, rfl, v, (X, .slice A2 X.attrs.length c2) :: ts, ?_, ?_, ?_, HBL.out⟩
          · have h3 := HSTJ.out
            rw [← HR0.out, List.append_assoc] at h3
            exact h3
          · rw [HPRE.out, List.map_cons, h1]
          · intro q hq
            rcases List.mem_cons.1 hq with rfl | hq
            · exact HAV.out
            · exact HAVJ.out q hq
end Go.Proofs.YtdogcnmepaemjaaDoor
