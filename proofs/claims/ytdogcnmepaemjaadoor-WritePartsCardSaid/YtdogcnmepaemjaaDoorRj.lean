/- Canonical walked. Conditions: texts are not endless; what the world holds of the library's tables. -/
import Derived.Test.YtdogcnmepaemjaaDoorRi
import Derived.Laws.OwnMore
import Derived.Deep.RegionHeld3
import Derived.Deep.RegionLaw
namespace Go.Proofs.YtdogcnmepaemjaaDoor
set_option linter.unusedVariables false
open Go.RowKit Go.Proofs.Fm Go.Proofs.Fb Go.Proofs.Fu Go.Proofs.Fr Go.Proofs.Fd Go.Proofs.Fc

structure CanSt (w : World) (A : Option Addr) (n c g : Nat) (l : List Nd) (k : Nat) (W : World) : Prop where
  box : Bk W w.heap.size 24 #[.slice A n c]
  arr : Bk W g 4 (inCells l n k).toArray
  row : NRow W A l
  bl : Below w.heap.size w W
  gb : w.heap.size < g
theorem CanSt.below {w W W' : World} {A : Option Addr} {n c g k : Nat} {l : List Nd} (h : CanSt w A n c g l k W) (hb : Below W.heap.size W W') : CanSt w A n c g l k W' :=
  ⟨h.box.below hb h.box.lt, h.arr.below hb h.arr.lt, h.row.below hb (Nat.le_refl _), h.bl.trans (hb.mono h.bl.size), h.gb⟩
def ndArr (x : Nd) (v : Value) : Array Value := #[.int .i64 x.kind, str x.name, str x.text, v, .int .i64 x.parent, .int .i64 x.first, .int .i64 x.last, .int .i64 x.prev, .int .i64 x.next]
structure CanMid (w : World) (A : Option Addr) (n c g : Nat) (l : List Nd) (k : Nat) (X Z : Nd) (vx vz : Value) (B5 B6 : Nat) (W : World) : Prop where
  st : CanSt w A n c g l k W
  x : Bk W B5 41 (ndArr X vx)
  z : Bk W B6 41 (ndArr Z vz)
  hx : w.heap.size < B5
  hz : w.heap.size < B6
theorem CanMid.below {w W W' : World} {A : Option Addr} {n c g k B5 B6 : Nat} {l : List Nd} {X Z : Nd} {vx vz : Value} (h : CanMid w A n c g l k X Z vx vz B5 B6 W) (hb : Below W.heap.size W W') : CanMid w A n c g l k X Z vx vz B5 B6 W' :=
  ⟨h.st.below hb, h.x.below hb h.x.lt, h.z.below hb h.z.lt, h.hx, h.hz⟩
theorem bk_new2 (w : World) (o : Obj) (t : TypeId) (cs : Array Value) : Bk ((w.alloc o).alloc (.cells cs t)) (w.heap.size + 1) t cs := by
  have := Bk.new (w.alloc o) t cs
  rwa [show (w.alloc o).heap.size = w.heap.size + 1 by simp] at this
theorem bk_ne {w : World} {a b ta tb : Nat} {ca cb : Array Value} (h : Bk w a ta ca) (h' : Bk w b tb cb) (hne : ta ≠ tb) : a ≠ b := by
  rintro rfl
  have h1 : w.heap[a]? = some (.cells ca ta (0, 0)) := h
  have h2 : w.heap[a]? = some (.cells cb tb (0, 0)) := h'
  rw [h1] at h2
  injection h2 with h2
  injection h2 with _ h2
  exact hne h2
theorem CanMid.set {w W : World} {A : Option Addr} {n c g k B5 B6 : Nat} {l : List Nd} {X Z : Nd} {vx vz : Value} (h : CanMid w A n c g l k X Z vx vz B5 B6 W) (hk : k < n) (hr : ∀ W, Below w.heap.size w W → NRow W A l) (v : Bool) (hv : v = (if k = 0 then false else (nmN l (par l k).toNat == [112]) || (inPs l k).getD (par l k).toNat false)) : CanMid w A n c g l (k + 1) X Z vx vz B5 B6 (W.setCell ⟨g, k, none⟩ (.bool v)) := by
  have hg := h.st.gb
  have n1 : B5 ≠ g := bk_ne h.x h.st.arr (by decide)
  have n2 : B6 ≠ g := bk_ne h.z h.st.arr (by decide)
  have hb := h.st.bl.setCell (p := ⟨g, k, none⟩) (by show w.heap.size ≤ g; omega) (.bool v)
  refine ⟨⟨h.st.box.far (p := ⟨g, k, none⟩) (by show w.heap.size ≠ g; omega) _, ?_, hr _ hb, hb, hg⟩, h.x.far (p := ⟨g, k, none⟩) n1 _, h.z.far (p := ⟨g, k, none⟩) n2 _, h.hx, h.hz⟩
  have := h.st.arr.set_ k (.bool v)
  rw [hv] at this
  have e := inCells_set (l := l) hk
  rw [← e, ← hv]
  rw [← hv] at this
  simpa using this
theorem boolInfo : (Tryd.prog.info? 4).map (fun i => (i.zero, i.size, i.bytes)) = some (some (.bool false), 1, 1) := by kernel_rfl
theorem made_bools (n : Nat) (hn : n ≤ 1099511627776) (W : World) : (Instr.makeSlice 49 (.int .i64 (n : Int)) (.int .i64 (n : Int))).run Tryd.prog W = .ok (.slice (some ⟨W.heap.size, 0, none⟩) n n) (W.alloc (.cells (List.replicate n (Value.bool false)).toArray 4)) := by
  obtain ⟨i0, hi, hz0, hz1, hz2⟩ := info_parts boolInfo
  have h := run_make (P := Tryd.prog) W 49 4 i0 _ Tryd.underlying49 hi hz0 .i64 .i64 (n : Int) (n : Int) (by omega) (by omega) (by rw [hz2]; omega) (by omega)
  rw [hz1, Int.toNat_natCast, Nat.mul_one] at h
  rw [h, ← toList_madeCells_one (.bool false) n]
  rfl
set_option maxHeartbeats 4000000 in
set_option maxRecDepth 100000 in
theorem canon_any (A : Option Addr) (n c : Nat) (l : List Nd) (hl : l.length = n) (hn : n ≤ 1099511627776) (hlim : ∀ x ∈ l, LimN x) (w : World) (he : Env w) (ha : NRow w A l) :
    Calls Tryd.prog 7 #[.agg #[.slice A n c]] w fun e w' => e = .returned (.bool (canonB l)) ∧ Below w.heap.size w w' := by
  have hb0 : Below w.heap.size w (w.alloc (.cells #[.slice A n c] 24)) := (Below.refl _ _).alloc (Nat.le_refl _) _
  have hk0 := Bk.new w 24 #[.slice A n c]
  have HR := Lib.hid (fun W (h : Below w.heap.size w W) => right_any A n c l hl (by omega) W (ha.below h (Nat.le_refl _)))
  have HROW := Lib.hid (fun W (h : Below w.heap.size w W) => ha.below h (Nat.le_refl _))
  obtain ⟨C, hC⟩ : ∃ C, canonB l = C := ⟨_, rfl⟩
  rw [hC]
  have HC := Lib.hid hC
  have HENV := Lib.hid he
  clear hC he ha
  by_cases hr : rightE l = 0
  · obtain ⟨hsaid, hn2⟩ := right_said hr
    have hpos := hsaid.pos
    have hnm : l = l[0]'hpos :: l.drop 1 := by
      cases l with
      | nil => simp at hpos
      | cons x t => rfl
    obtain ⟨x0, hx0⟩ : ∃ x, l[0]'hpos = x := ⟨_, rfl⟩
    have hcan : canonB l = (x0.name == [114, 111, 111, 116] && x0.attrs.isEmpty && okTo l l.length) := by
      cases l with
      | nil => simp at hpos
      | cons x t =>
        have : x = x0 := hx0
        subst this
        show (decide (rightE (x :: t) = 0) && x.name == [114, 111, 111, 116] && x.attrs.isEmpty && okTo (x :: t) (x :: t).length) = _
        rw [decide_eq_true hr, Bool.true_and]
    rw [hr] at HR
    have HCAN := Lib.hid (HC.out.symm.trans hcan)
    have HSAID := Lib.hid hsaid
    have HX0 := Lib.hid hx0
    have HRD : Hid (∀ W, Below w.heap.size w W → ∃ b off, A = some ⟨b, off, none⟩ ∧ b < w.heap.size ∧ ∀ (i : Nat) (h : i < l.length), NAt W b (off + i * 9) (l[i]'h)) := Lib.hid (fun W hW => by
      obtain ⟨b, off, e, h⟩ := (HROW.out W hW) (by intro e; subst e; simp at hpos)
      obtain ⟨b', off', e', h'⟩ := (HROW.out w (Below.refl _ _)) (by intro e; subst e; simp at hpos)
      rw [e] at e'; cases e'
      exact ⟨b, off, e, (h' 0 hpos).lt, h⟩)
    obtain ⟨b, off, rfl, hbw, _⟩ := HRD.out w (Below.refl _ _)
    have HAT : Hid (∀ W, Below w.heap.size w W → ∀ (i : Nat) (h : i < l.length), NAt W b (off + i * 9) (l[i]'h)) := Lib.hid (fun W hW i h => by
      obtain ⟨b', off', e, _, h'⟩ := HRD.out W hW
      cases e; exact h' i h)
    clear HRD hcan hsaid hr hnm hx0
    obtain ⟨kd0, nm0, tx0, al0, pa0, fi0, la0, pr0, ne0⟩ := x0
    dsimp only at HCAN
    go_enter Tryd.func7, Tryd.ntmps7
    go_upto_region 1 with fail
    refine wp_gen (fun W => Below w.heap.size w W ∧ Bk W w.heap.size 24 #[.slice (some ⟨b, off, none⟩) n c]) ⟨hb0, hk0⟩ ?_
    rintro W ⟨hb1, hk1⟩
    have s0 : W.cell? ⟨w.heap.size, 0, none⟩ = some (.slice (some ⟨b, off, none⟩) n c) := hk1.cell 0
    have HB := Lib.hid hb1
    have HK := Lib.hid hk1
    clear hb0 hk0 hb1 hk1
    rcases hq : (nm0 == [114, 111, 111, 116]) with _ | _
    · have HN : Hid (C = false) := Lib.hid (by rw [HCAN.out, hq]; rfl)
      go_wp2_with (go_at_call 18; refine (HR.out _ HB.out).mono ?_; rintro e w1 ⟨rfl, b1⟩; have HB1 := Lib.hid (HB.out.trans (b1.mono HB.out.size)); have q0 := HAT.out w1 HB1.out 0 hpos; rw [HX0.out, Nat.zero_mul, Nat.add_zero] at q0; have q1 := q0.c1; have t0 : w1.cell? ⟨w.heap.size, 0, none⟩ = some (.slice (some ⟨b, off, none⟩) n c) := (HK.out.below b1 HK.out.lt).cell 0; dsimp only [str] at q1; clear q0 b1)
      go_ret
      exact ⟨by rw [HN.out]; rfl, HB1.out⟩
    · by_cases hat : al0 = []
      · go_upto_region 3 with (go_at_call 18; refine (HR.out _ HB.out).mono ?_; rintro e w1 ⟨rfl, b1⟩; have HB1 := Lib.hid (HB.out.trans (b1.mono HB.out.size)); have q0 := HAT.out w1 HB1.out 0 hpos; rw [HX0.out, Nat.zero_mul, Nat.add_zero] at q0; have q1 := q0.c1; obtain ⟨v3, q3, q4⟩ := q0.c3; obtain ⟨A3, c3, rfl, _, _, _, _⟩ := q4.ex; have t0 : w1.cell? ⟨w.heap.size, 0, none⟩ = some (.slice (some ⟨b, off, none⟩) n c) := (HK.out.below b1 HK.out.lt).cell 0; dsimp only [str] at q1 q3; rw [hat] at q3; clear q0 q4)
        have hmk := made_bools n hn
        have HB1 := HB1
        have HK1 := Lib.hid (HK.out.below b1 HK.out.lt)
        have HCL : Hid (C = okTo l l.length) := Lib.hid (by rw [HCAN.out, hq, hat]; rfl)
        clear HB HK b1 q1 q3 HCAN HX0 HR s0
        have hz1 := HB1.out.size
        go_upto_region 4 with fail
        refine wp_gen (fun W => CanSt w (some ⟨b, off, none⟩) n c w1.heap.size l 1 W) ⟨HK1.out.alloc _, ?_, HROW.out _ (HB1.out.alloc hz1 _), HB1.out.alloc hz1 _, HK1.out.lt⟩ ?_
        · rw [inCells_one (by omega)]; exact Bk.new w1 4 _
        intro W2 hst2
        obtain ⟨g, hg⟩ : ∃ g, w1.heap.size = g := ⟨_, rfl⟩
        rw [hg] at hst2 ⊢
        have HST2 := Lib.hid hst2
        clear hst2 hg hz1 HK1 HB1 hmk t0 W hq hat
        go_upto_region 5 with fail
        go_loopg [4] n (fun gk i wr => ∃ k : Nat, 0 < k ∧ k ≤ n ∧ n ≤ k + gk ∧ i = .int .i64 (k : Int) ∧ Hid (okTo l k = true) ∧ Hid (CanSt w (some ⟨b, off, none⟩) n c g l k wr))
        case atStart => exact ⟨1, by omega, by omega, by omega, rfl, Lib.hid rfl, HST2⟩
        case round =>
          obtain ⟨k, hk0, hkn, hkg, rfl, hok, hst⟩ := hrel
          have s0 : wr.cell? ⟨w.heap.size, 0, none⟩ = some (.slice (some ⟨b, off, none⟩) n c) := hst.out.box.cell 0
          by_cases hlt : k < n
          · have i1 : (k : Int) < (n : Int) := by omega
            have hkl : k < l.length := by omega
            obtain ⟨hp0, hp1⟩ := par_bd HSAID.out hk0 hkl
            have hnb := nxt_bd (par l) k l.length
            rw [← HSAID.out.next k hkl] at hnb
            have y := HAT.out wr hst.out.bl k hkl
            obtain ⟨P, hP⟩ : ∃ P : Nat, par l k = (P : Int) := ⟨(par l k).toNat, by omega⟩
            have hPk : P < k := by omega
            have hPl : P < l.length := by omega
            have z := HAT.out wr hst.out.bl P hPl
            have hpk := par_get hkl
            rw [hP] at hpk
            obtain ⟨X, hX⟩ : ∃ X, l[k]'hkl = X := ⟨_, rfl⟩
            obtain ⟨Z, hZ⟩ : ∃ X, l[P]'hPl = X := ⟨_, rfl⟩
            rw [hX] at y hnb hpk
            rw [hZ] at z
            have HX := Lib.hid hX
            have HZ := Lib.hid hZ
            obtain ⟨vx, y3, ax⟩ := y.c3
            obtain ⟨vz, z3, az⟩ := z.c3
            have hvw : AVal w vx X.attrs := by
              have yw := HAT.out w (Below.refl _ _) k hkl
              rw [hX] at yw
              obtain ⟨vw, yw3, aw⟩ := yw.c3
              have hc := hst.out.bl.cell (p := ⟨b, off + k * 9 + 3, none⟩) hbw
              rw [y3, yw3] at hc
              injection hc with hc
              rw [hc]; exact aw
            have HAX := Lib.hid (fun W (hW : Below w.heap.size w W) => hvw.below hW (Nat.le_refl _))
            clear hvw
            obtain ⟨A5, c5, rfl, hv5⟩ := ax.ex
            obtain ⟨A6, c6, rfl, hv6⟩ := az.ex
            have y0 := y.c0; have y1 := y.c1; have y2 := y.c2; have y4 := y.c4; have y5 := y.c5; have y6 := y.c6; have y7 := y.c7; have y8 := y.c8
            have z0 := z.c0; have z1 := z.c1; have z2 := z.c2; have z4 := z.c4; have z5 := z.c5; have z6 := z.c6; have z7 := z.c7; have z8 := z.c8
            rw [← hpk] at y4
            clear y z hX hZ ax az hv5 hv6
            obtain ⟨kd, nm, tx, al, pa, fi, la, pr, ne⟩ := X
            obtain ⟨kd', nm', tx', al', pa', fi', la', pr', ne'⟩ := Z
            dsimp only [str] at *
            subst hpk
            have i2 : (0 : Int) ≤ (P : Int) := by omega
            have i3 : (P : Int) < (n : Int) := by omega
            have i4 : (0 : Int) ≤ (k : Int) := by omega
            have hbr : b < wr.heap.size := Nat.lt_of_lt_of_le hbw hst.out.bl.size
            have hwr : w.heap.size < wr.heap.size := hst.out.box.lt
            go_upto_region 7 with fail
            have HST := Lib.hid hst.out
            go_cut [5, 6] (fun p5 p6 wx => ∃ B5 B6 : Nat, p5 = .pointer (some ⟨B5, 0, none⟩) ∧ p6 = .pointer (some ⟨B6, 0, none⟩) ∧ Hid (CanMid w (some ⟨b, off, none⟩) n c g l k ⟨kd, nm, tx, al, (P : Int), fi, la, pr, ne⟩ ⟨kd', nm', tx', al', pa', fi', la', pr', ne'⟩ (.slice A5 al.length c5) (.slice A6 al'.length c6) B5 B6 wx))
            case first =>
              go_region_held3 (fun w' => w'.cell? ⟨w.heap.size, 0, none⟩ = some (.slice (some ⟨b, off, none⟩) n c) ∧ w'.cell? ⟨b, off + k * 9, none⟩ = some (.int .i64 kd) ∧ w'.cell? ⟨b, off + k * 9 + 1, none⟩ = some (.string ⟨nm.toArray⟩) ∧ w'.cell? ⟨b, off + k * 9 + 2, none⟩ = some (.string ⟨tx.toArray⟩) ∧ w'.cell? ⟨b, off + k * 9 + 3, none⟩ = some (.slice A5 al.length c5) ∧ w'.cell? ⟨b, off + k * 9 + 4, none⟩ = some (.int .i64 (P : Int)) ∧ w'.cell? ⟨b, off + k * 9 + 5, none⟩ = some (.int .i64 fi) ∧ w'.cell? ⟨b, off + k * 9 + 6, none⟩ = some (.int .i64 la) ∧ w'.cell? ⟨b, off + k * 9 + 7, none⟩ = some (.int .i64 pr) ∧ w'.cell? ⟨b, off + k * 9 + 8, none⟩ = some (.int .i64 ne) ∧ w'.cell? ⟨b, off + P * 9, none⟩ = some (.int .i64 kd') ∧ w'.cell? ⟨b, off + P * 9 + 1, none⟩ = some (.string ⟨nm'.toArray⟩) ∧ w'.cell? ⟨b, off + P * 9 + 2, none⟩ = some (.string ⟨tx'.toArray⟩) ∧ w'.cell? ⟨b, off + P * 9 + 3, none⟩ = some (.slice A6 al'.length c6) ∧ w'.cell? ⟨b, off + P * 9 + 4, none⟩ = some (.int .i64 pa') ∧ w'.cell? ⟨b, off + P * 9 + 5, none⟩ = some (.int .i64 fi') ∧ w'.cell? ⟨b, off + P * 9 + 6, none⟩ = some (.int .i64 la') ∧ w'.cell? ⟨b, off + P * 9 + 7, none⟩ = some (.int .i64 pr') ∧ w'.cell? ⟨b, off + P * 9 + 8, none⟩ = some (.int .i64 ne'))
              (first | (go_keep; done))
                ((fail))
              · go_wp2
                go_meet
                have hb := ((((Below.refl wr.heap.size wr).alloc (Nat.le_refl _) (.cells (ndArr ⟨kd, nm, tx, al, (P : Int), fi, la, pr, ne⟩ (.slice A5 al.length c5)) 41)).alloc (by simp) (.cells (ndArr ⟨kd', nm', tx', al', pa', fi', la', pr', ne'⟩ (.slice A6 al'.length c6)) 41))).drew
                exact ⟨_, _, rfl, rfl, Lib.hid ⟨HST.out.below hb, ((Bk.new wr 41 _).alloc _).drew, (bk_new2 wr _ 41 (ndArr ⟨kd', nm', tx', al', pa', fi', la', pr', ne'⟩ (.slice A6 al'.length c6))).drew, hwr, by omega⟩⟩
              · go_wp2
                go_meet
                have hb := ((((Below.refl wr.heap.size wr).alloc (Nat.le_refl _) (.cells (ndArr ⟨kd', nm', tx', al', pa', fi', la', pr', ne'⟩ (.slice A6 al'.length c6)) 41)).alloc (by simp) (.cells (ndArr ⟨kd, nm, tx, al, (P : Int), fi, la, pr, ne⟩ (.slice A5 al.length c5)) 41))).drew
                exact ⟨_, _, rfl, rfl, Lib.hid ⟨HST.out.below hb, (bk_new2 wr _ 41 (ndArr ⟨kd, nm, tx, al, (P : Int), fi, la, pr, ne⟩ (.slice A5 al.length c5))).drew, ((Bk.new wr 41 _).alloc _).drew, by omega, hwr⟩⟩
            case rest =>
            obtain ⟨B5, B6, rfl, rfl, hmid⟩ := hcut
            clear HST y0 y1 y2 y3 y4 y5 y6 y7 y8 z0 z1 z2 z3 z4 z5 z6 z7 z8 s0 hwr hbr hst
            have hm := hmid.out
            have hB5 := hm.hx
            have hB6 := hm.hz
            have b1 : wc.cell? ⟨B6, 1, none⟩ = some (.string ⟨nm'.toArray⟩) := hm.z.cell 1
            have b4 : wc.cell? ⟨B5, 4, none⟩ = some (.int .i64 (P : Int)) := hm.x.cell 4
            have g1 : wc.cell? ⟨g, P, none⟩ = some (.bool ((inPs l k).getD P false)) := by
              rw [hm.st.arr.cell P, List.getElem?_toArray]
              exact inCells_get hPk (by omega)
            have gk : wc.cell? ⟨g, k, none⟩ = some (.bool false) := by
              rw [hm.st.arr.cell k, List.getElem?_toArray]
              unfold inCells
              rw [List.getElem?_map, List.getElem?_append_right (by rw [inPs_length]; exact Nat.le_refl _), inPs_length, Nat.sub_self, List.getElem?_replicate, if_pos (by omega)]
              rfl
            have gf : wc.frozen? ⟨g, k, none⟩ = false := hm.st.arr.frozen k
            have gl : g < wc.heap.size := hm.st.arr.lt
            have HPV := Lib.hid (show nmN l P = nm' by rw [nmN_get hPl, HZ.out])
            obtain ⟨IP, hIP⟩ : ∃ IP, (inPs l k).getD P false = IP := ⟨_, rfl⟩
            rw [hIP] at g1
            have HSET : Hid (∀ v : Bool, v = ((nm' == [112]) || IP) → CanMid w (some ⟨b, off, none⟩) n c g l (k + 1) ⟨kd, nm, tx, al, (P : Int), fi, la, pr, ne⟩ ⟨kd', nm', tx', al', pa', fi', la', pr', ne'⟩ (.slice A5 al.length c5) (.slice A6 al'.length c6) B5 B6 (wc.setCell ⟨g, k, none⟩ (.bool v))) := Lib.hid (fun v hv => hmid.out.set hlt HROW.out v (by rw [if_neg (by omega), hP, Int.toNat_natCast, HPV.out, hIP]; exact hv))
            have HIN : Hid ((inPs l (k + 1)).getD k false = ((nm' == [112]) || IP)) := Lib.hid (by
              rw [inPs, List.getD_eq_getElem?_getD, List.getElem?_append_right (by rw [inPs_length]; exact Nat.le_refl _), inPs_length, Nat.sub_self, if_neg (by omega), hP, Int.toNat_natCast, HPV.out, hIP]
              rfl)
            have HOKN : Hid (okN l k = (comesB ⟨kd, nm, tx, al, (P : Int), fi, la, pr, ne⟩ && holdB nm' nm && !(((nm' == [112]) || IP) && endsB nm) && !((kd == 2) && decide (0 ≤ ne) && (kdN l ne.toNat == 2)))) := Lib.hid (by
              unfold okN
              rw [List.getElem?_eq_getElem hkl, HX.out]
              dsimp only
              rw [HIN.out, hP, Int.toNat_natCast, HPV.out])
            have HPV2 := HPV
            have HIP := Lib.hid hIP
            clear hm HIN HPV hIP
            obtain ⟨I, hI⟩ : ∃ I, ((nm' == [112]) || IP) = I := ⟨_, rfl⟩
            go_upto_region 8 with fail
            go_cut [] (fun wx => Hid (CanMid w (some ⟨b, off, none⟩) n c g l (k + 1) ⟨kd, nm, tx, al, (P : Int), fi, la, pr, ne⟩ ⟨kd', nm', tx', al', pa', fi', la', pr', ne'⟩ (.slice A5 al.length c5) (.slice A6 al'.length c6) B5 B6 wx))
            case first =>
              rcases hq2 : (nm' == [112]) with _ | _
              · have hv := hq2
                go_wp2
                go_meet
                exact Lib.hid (HSET.out _ (by rw [hv]; rfl))
              · have hv := hq2
                go_wp2
                go_meet
                exact Lib.hid (HSET.out _ (by rw [hv]; rfl))
            case rest =>
            obtain ⟨W9, rfl⟩ : ∃ x, x = wc := ⟨_, rfl⟩
            rw [hI] at HOKN
            have HCUT := Lib.hid hcut.out
            clear hmid HSET b1 b4 g1 gk gf gl hcut
            have hm := HCUT.out
            have HCOM := Lib.hid (comes_any ⟨kd, nm, tx, al, (P : Int), fi, la, pr, ne⟩ (.slice A5 al.length c5) (by rw [← HX.out]; exact hlim _ (List.getElem_mem hkl)) W9 (HENV.out.below hm.st.bl HENV.out.sz) (HAX.out W9 hm.st.bl))
            have HHOLD := Lib.hid (fun W => hold_any nm' nm W)
            have HENDS := Lib.hid (fun W => ends_any nm W)
            unfold ndAgg at HCOM
            dsimp only [str] at HCOM
            obtain ⟨c1, hc1⟩ : ∃ v, comesB ⟨kd, nm, tx, al, (P : Int), fi, la, pr, ne⟩ = v := ⟨_, rfl⟩
            obtain ⟨c2, hc2⟩ : ∃ v, holdB nm' nm = v := ⟨_, rfl⟩
            obtain ⟨c4, hc4⟩ : ∃ v, endsB nm = v := ⟨_, rfl⟩
            rw [hc1] at HCOM HOKN
            simp only [hc2] at HHOLD
            simp only [hc4] at HENDS
            rw [hc2, hc4] at HOKN
            have b5_0 : W9.cell? ⟨B5, 0, none⟩ = some (.int .i64 kd) := hm.x.cell 0
            have b5_1 : W9.cell? ⟨B5, 1, none⟩ = some (.string ⟨nm.toArray⟩) := hm.x.cell 1
            have b5_2 : W9.cell? ⟨B5, 2, none⟩ = some (.string ⟨tx.toArray⟩) := hm.x.cell 2
            have b5_3 : W9.cell? ⟨B5, 3, none⟩ = some (.slice A5 al.length c5) := hm.x.cell 3
            have b5_4 : W9.cell? ⟨B5, 4, none⟩ = some (.int .i64 (P : Int)) := hm.x.cell 4
            have b5_5 : W9.cell? ⟨B5, 5, none⟩ = some (.int .i64 fi) := hm.x.cell 5
            have b5_6 : W9.cell? ⟨B5, 6, none⟩ = some (.int .i64 la) := hm.x.cell 6
            have b5_7 : W9.cell? ⟨B5, 7, none⟩ = some (.int .i64 pr) := hm.x.cell 7
            have b5_8 : W9.cell? ⟨B5, 8, none⟩ = some (.int .i64 ne) := hm.x.cell 8
            have HK9 := Lib.hid (fun W1 (h : Below W9.heap.size W9 W1) => (HCUT.out.below h))
            have HG9 : Hid (∀ W1, CanMid w (some ⟨b, off, none⟩) n c g l (k + 1) ⟨kd, nm, tx, al, (P : Int), fi, la, pr, ne⟩ ⟨kd', nm', tx', al', pa', fi', la', pr', ne'⟩ (.slice A5 al.length c5) (.slice A6 al'.length c6) B5 B6 W1 → W1.cell? ⟨g, k, none⟩ = some (.bool I)) := Lib.hid (fun W1 h => by
              rw [h.st.arr.cell k, List.getElem?_toArray, inCells_get (Nat.lt_succ_self k) (by omega)]
              rw [inPs, List.getD_eq_getElem?_getD, List.getElem?_append_right (by rw [inPs_length]; exact Nat.le_refl _), inPs_length, Nat.sub_self, if_neg (by omega), hP, Int.toNat_natCast, HPV2.out, HIP.out]
              show some (Value.bool _) = _
              rw [← hI]; rfl)
            clear hm hc1 hc2 hc4 HCUT
            go_upto_region 9 with fail
            go_cut [87] (fun s wx => s = .bool (!(c1 && c2) || (I && c4)) ∧ Hid (CanMid w (some ⟨b, off, none⟩) n c g l (k + 1) ⟨kd, nm, tx, al, (P : Int), fi, la, pr, ne⟩ ⟨kd', nm', tx', al', pa', fi', la', pr', ne'⟩ (.slice A5 al.length c5) (.slice A6 al'.length c6) B5 B6 wx))
            case first =>
              cases c1
              · go_wp2_with (go_at_call 20; refine (HCOM.out).mono ?_; rintro e w2 ⟨rfl, h2⟩; have HM2 := Lib.hid (HK9.out _ h2))
                go_meet
                exact ⟨rfl, HM2⟩
              · cases c2
                · go_wp2_with (first
                    | (go_at_call 20; refine (HCOM.out).mono ?_; rintro e w2 ⟨rfl, h2⟩; have HM2 := Lib.hid (HK9.out _ h2); have x1 : w2.cell? ⟨B5, 1, none⟩ = some (.string ⟨nm.toArray⟩) := HM2.out.x.cell 1; have z1 : w2.cell? ⟨B6, 1, none⟩ = some (.string ⟨nm'.toArray⟩) := HM2.out.z.cell 1; clear h2)
                    | (go_at_call 21; refine (HHOLD.out _).mono ?_; rintro e w3 ⟨rfl, q, hq⟩; have HM3 := Lib.hid (HM2.out.below (show Below w2.heap.size w2 w3 from hq ▸ below_drewN (Below.refl _ _) q)); clear hq))
                  go_meet
                  exact ⟨rfl, HM3⟩
                · cases I
                  · go_wp2_with (first
                      | (go_at_call 20; refine (HCOM.out).mono ?_; rintro e w2 ⟨rfl, h2⟩; have HM2 := Lib.hid (HK9.out _ h2); have x1 : w2.cell? ⟨B5, 1, none⟩ = some (.string ⟨nm.toArray⟩) := HM2.out.x.cell 1; have z1 : w2.cell? ⟨B6, 1, none⟩ = some (.string ⟨nm'.toArray⟩) := HM2.out.z.cell 1; clear h2)
                      | (go_at_call 21; refine (HHOLD.out _).mono ?_; rintro e w3 ⟨rfl, q, hq⟩; have HM3 := Lib.hid (HM2.out.below (show Below w2.heap.size w2 w3 from hq ▸ below_drewN (Below.refl _ _) q)); have gk3 := HG9.out _ HM3.out; clear hq))
                    go_meet
                    exact ⟨rfl, HM3⟩
                  · go_wp2_with (first
                      | (go_at_call 20; refine (HCOM.out).mono ?_; rintro e w2 ⟨rfl, h2⟩; have HM2 := Lib.hid (HK9.out _ h2); have x1 : w2.cell? ⟨B5, 1, none⟩ = some (.string ⟨nm.toArray⟩) := HM2.out.x.cell 1; have z1 : w2.cell? ⟨B6, 1, none⟩ = some (.string ⟨nm'.toArray⟩) := HM2.out.z.cell 1; clear h2)
                      | (go_at_call 21; refine (HHOLD.out _).mono ?_; rintro e w3 ⟨rfl, q, hq⟩; have HM3 := Lib.hid (HM2.out.below (show Below w2.heap.size w2 w3 from hq ▸ below_drewN (Below.refl _ _) q)); have gk3 := HG9.out _ HM3.out; have x3 : w3.cell? ⟨B5, 1, none⟩ = some (.string ⟨nm.toArray⟩) := HM3.out.x.cell 1; clear hq)
                      | (go_at_call 22; refine (HENDS.out _).mono ?_; rintro e w4 ⟨rfl, q, hq⟩; have HM4 := Lib.hid (HM3.out.below (show Below w3.heap.size w3 w4 from hq ▸ below_drewN (Below.refl _ _) q)); clear hq))
                    go_meet
                    exact ⟨rfl, HM4⟩
            case rest =>
            obtain ⟨rfl, hcut⟩ := hcut
            obtain ⟨W10, rfl⟩ : ∃ x, x = wc := ⟨_, rfl⟩
            have HMA := Lib.hid hcut.out
            obtain ⟨T, hT⟩ : ∃ T, (!(c1 && c2) || (I && c4)) = T := ⟨_, rfl⟩
            obtain ⟨V, hV⟩ : ∃ V, ((kd == 2) && decide (0 ≤ ne) && (kdN l ne.toNat == 2)) = V := ⟨_, rfl⟩
            have HOK2 : Hid (okN l k = (!T && !V)) := Lib.hid (by
              rw [HOKN.out, ← hT, ← hV]
              cases c1 <;> cases c2 <;> cases I <;> cases c4 <;> rfl)
            have HNO : Hid (okN l k = false → C = false) := Lib.hid (fun h => by rw [HCL.out]; exact okTo_no l hk0 hkl h)
            have HYES : Hid (okN l k = true → okTo l (k + 1) = true) := Lib.hid (fun h => by rw [okTo_succ l hk0, hok.out, h]; rfl)
            rw [hT]
            clear HG9 HK9 HCOM HHOLD HENDS hT HOKN hI hcut b5_0 b5_1 b5_2 b5_3 b5_4 b5_5 b5_6 b5_7 b5_8 HIP HPV2
            cases T
            · have m0 : W10.cell? ⟨B5, 0, none⟩ = some (.int .i64 kd) := HMA.out.x.cell 0
              have m8 : W10.cell? ⟨B5, 8, none⟩ = some (.int .i64 ne) := HMA.out.x.cell 8
              have mb : W10.cell? ⟨w.heap.size, 0, none⟩ = some (.slice (some ⟨b, off, none⟩) n c) := HMA.out.st.box.cell 0
              have HBL := Lib.hid HMA.out.st.bl
              go_upto_region 11 with fail
              go_cut [105] (fun s wx => s = .bool V ∧ Hid (CanMid w (some ⟨b, off, none⟩) n c g l (k + 1) ⟨kd, nm, tx, al, (P : Int), fi, la, pr, ne⟩ ⟨kd', nm', tx', al', pa', fi', la', pr', ne'⟩ (.slice A5 al.length c5) (.slice A6 al'.length c6) B5 B6 wx))
              case first =>
                by_cases hk2 : kd = 2
                · have d2 : (kd == 2) = true := by rw [beq_iff_eq]; exact hk2
                  by_cases hne : 0 ≤ ne
                  · obtain ⟨N, rfl⟩ : ∃ N : Nat, ne = (N : Int) := ⟨ne.toNat, by omega⟩
                    have hNl : N < l.length := by omega
                    have q0 := (HAT.out W10 HBL.out N hNl).c0
                    have j1 : (N : Int) < (n : Int) := by omega
                    obtain ⟨K, hK⟩ : ∃ K, (l[N]'hNl).kind = K := ⟨_, rfl⟩
                    rw [hK] at q0
                    have HV : Hid ((K == 2) = V) := Lib.hid (by rw [← hV, d2, decide_eq_true hne, Int.toNat_natCast, kdN_get hNl, hK]; rfl)
                    clear hV hK hk2
                    rcases hk : (K == 2) with _ | _
                    · have HV2 := Lib.hid (hk.symm.trans HV.out)
                      go_wp2
                      go_meet
                      exact ⟨by rw [← HV2.out], HMA⟩
                    · have HV2 := Lib.hid (hk.symm.trans HV.out)
                      go_wp2
                      go_meet
                      exact ⟨by rw [← HV2.out], HMA⟩
                  · have d3 : decide (0 ≤ ne) = false := decide_eq_false hne
                    have HV2 : Hid (V = false) := Lib.hid (by rw [← hV, d2, d3]; rfl)
                    clear hV hk2 hnb hne
                    go_wp2
                    go_meet
                    exact ⟨by rw [HV2.out], HMA⟩
                · have d2 : (kd == 2) = false := by rw [beq_eq_false_iff_ne]; exact hk2
                  have HV2 : Hid (V = false) := Lib.hid (by rw [← hV, d2]; rfl)
                  clear hV hk2
                  go_wp2
                  go_meet
                  exact ⟨by rw [HV2.out], HMA⟩
              case rest =>
              obtain ⟨rfl, hcut⟩ := hcut
              clear hV m0 m8 mb
              cases V
              · have HY := Lib.hid (HYES.out HOK2.out)
                go_wp2
                go_roundg (gk - 1)
                case measure => omega
                case rel => exact ⟨k + 1, by omega, by omega, by omega, by go_num, HY, Lib.hid hcut.out.st⟩
              · have HN := Lib.hid (HNO.out HOK2.out)
                go_wp2
                go_ret
                exact ⟨by rw [HN.out]; rfl, hcut.out.st.bl⟩
            · have HN := Lib.hid (HNO.out (by rw [HOK2.out]; rfl))
              go_wp2
              go_ret
              exact ⟨by rw [HN.out]; rfl, HMA.out.st.bl⟩
          · have i1 : ¬ ((k : Int) < (n : Int)) := by omega
            have HY : Hid (C = true) := Lib.hid (by rw [HCL.out, show l.length = k by omega]; exact hok.out)
            have HBL := Lib.hid hst.out.bl
            clear hst
            go_wp2
            go_ret
            exact ⟨by rw [HY.out]; rfl, HBL.out⟩
      · have hal : 0 < al0.length := List.length_pos_iff.2 hat
        have hal2 : (0 : Int) < (al0.length : Int) := by omega
        have HN : Hid (C = false) := Lib.hid (by
          rw [HCAN.out]
          rcases al0 with _ | ⟨a, t⟩
          · exact absurd rfl hat
          · simp)
        go_wp2_with (go_at_call 18; refine (HR.out _ HB.out).mono ?_; rintro e w1 ⟨rfl, b1⟩; have HB1 := Lib.hid (HB.out.trans (b1.mono HB.out.size)); have q0 := HAT.out w1 HB1.out 0 hpos; rw [HX0.out, Nat.zero_mul, Nat.add_zero] at q0; have q1 := q0.c1; obtain ⟨v3, q3, q4⟩ := q0.c3; obtain ⟨A3, c3, rfl, _, _, _, _⟩ := q4.ex; have t0 : w1.cell? ⟨w.heap.size, 0, none⟩ = some (.slice (some ⟨b, off, none⟩) n c) := (HK.out.below b1 HK.out.lt).cell 0; dsimp only [str] at q1 q3; clear q0 q4 b1)
        go_ret
        exact ⟨by rw [HN.out]; rfl, HB1.out⟩
  · have HN : Hid (C = false) := Lib.hid (by
      rw [← HC.out]
      cases l with
      | nil => rfl
      | cons x t =>
        show (decide (rightE (x :: t) = 0) && x.name == [114, 111, 111, 116] && x.attrs.isEmpty && okTo (x :: t) (x :: t).length) = false
        rw [decide_eq_false hr]; rfl)
    obtain ⟨R, hR⟩ : ∃ R, rightE l = R := ⟨_, rfl⟩
    rw [hR] at HR hr
    have d1 : (R != 0) = true := by rw [bne_iff_ne]; exact hr
    have d2 : (R == 0) = false := by rw [beq_eq_false_iff_ne]; exact hr
    clear hR HC
    go_enter Tryd.func7, Tryd.ntmps7
    go_upto_region 1 with fail
    refine wp_gen (fun W => Below w.heap.size w W ∧ Bk W w.heap.size 24 #[.slice A n c]) ⟨hb0, hk0⟩ ?_
    rintro W ⟨hb1, hk1⟩
    have s0 : W.cell? ⟨w.heap.size, 0, none⟩ = some (.slice A n c) := hk1.cell 0
    have HB := Lib.hid hb1
    clear hb0 hk0 hb1 hk1
    go_wp2_with (go_at_call 18; refine (HR.out _ HB.out).mono ?_; rintro e w1 ⟨rfl, b1⟩; have HB1 := Lib.hid (HB.out.trans (b1.mono HB.out.size)); clear b1)
    go_ret
    exact ⟨by rw [HN.out]; rfl, HB1.out⟩
end Go.Proofs.YtdogcnmepaemjaaDoor
