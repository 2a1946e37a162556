/- Are nodes a tree, and what is a tree refused for: dom's asSaid and Right. No conditions but that the list is not endless. -/
import Derived.Test.YtdogcnmepaemjaaDoorDh
import Derived.Test.YtdogcnmepaemjaaDoorDd
namespace Go.Proofs.YtdogcnmepaemjaaDoor
set_option linter.unusedVariables false
open Go.RowKit Go.Proofs.Fm Go.Proofs.Fb Go.Proofs.Fd Go.Proofs.Fc

theorem ord_stay (A : Option Addr) (n c : Nat) (l : List Nd) (hl : l.length = n) (h0 : 0 < n) (hn : n ≤ 1099511627776) (w : World) (ha : NRow w A l) :
    Calls Tryd.prog 44 #[.slice A n c] w fun e w' => e = .returned (.bool (ordB (par l) n)) ∧ w = w' :=
  (order_any A n c l hl h0 hn w ha).mono fun _ _ ⟨h1, h2⟩ => ⟨h1, h2.symm⟩
theorem saidB_eq {l : List Nd} (h : 0 < l.length) : saidB l = (decide ((l[0]'h).kind = 1) && ordB (par l) l.length && eachB l) := by
  cases l with
  | nil => simp at h
  | cons x t => rfl
def okAt (l : List Nd) (i : Nat) : Bool := match l[i]? with | some x => linkB (par l) l.length i x && wellB x | none => false
theorem eachB_eq (l : List Nd) : eachB l = (List.range l.length).all (okAt l) := rfl
theorem okAt_get {l : List Nd} {i : Nat} (h : i < l.length) : okAt l i = (linkB (par l) l.length i (l[i]'h) && wellB (l[i]'h)) := by simp [okAt, List.getElem?_eq_getElem h]
theorem each_bad {l : List Nd} {i : Nat} (h : i < l.length) (hb : okAt l i = false) : eachB l = false := by
  rw [eachB_eq, List.all_eq_false]
  exact ⟨i, List.mem_range.2 h, by simp [hb]⟩
theorem each_good {l : List Nd} (h : ∀ i, i < l.length → okAt l i = true) : eachB l = true := by
  rw [eachB_eq, List.all_eq_true]
  exact fun i hi => h i (List.mem_range.1 hi)

set_option maxHeartbeats 4000000 in
theorem said_any (A : Option Addr) (n c : Nat) (l : List Nd) (hl : l.length = n) (hn : n ≤ 1099511627776) (w : World) (ha : NRow w A l) :
    Calls Tryd.prog 34 #[.slice A n c] w fun e w' => e = .returned (.bool (saidB l)) ∧ Below w.heap.size w w' := by
  by_cases h0 : n = 0
  · subst h0
    obtain rfl : l = [] := List.eq_nil_of_length_eq_zero hl
    go_enter Tryd.func34, Tryd.ntmps34
    go_wp2
    go_ret
    exact ⟨rfl, Below.refl _ _⟩
  · have h0l : 0 < l.length := by omega
    obtain ⟨b, off, rfl, hat0⟩ := ha.at_ h0l
    have z0 := hat0.c0
    rw [Nat.zero_mul, Nat.add_zero] at z0
    have hsa := saidB_eq h0l
    rw [hl] at hsa
    obtain ⟨K0, hK0⟩ : ∃ K, (l[0]'h0l).kind = K := ⟨_, rfl⟩
    rw [hK0] at z0 hsa
    have HSA := Lib.hid hsa
    have HA := Lib.hid ha
    have n0 : ((n : Int) == 0) = false := beq_eq_false_iff_ne.2 (by omega)
    have i0 : (0 : Int) < (n : Int) := by omega
    clear hat0 hsa hK0 ha
    by_cases hk : K0 = 1
    · have k0 : (K0 != 1) = false := by rw [hk]; rfl
      subst hk
      have HO := Lib.hid (ord_stay (some ⟨b, off, none⟩) n c l hl (by omega) hn w HA.out)
      rcases hob : ordB (par l) n with _ | _
      · rw [hob] at HO
        have HOB := Lib.hid hob
        clear hob
        go_enter Tryd.func34, Tryd.ntmps34
        go_wp2_with (go_at_call 44; refine (HO.out).mono ?_; rintro e w1 ⟨rfl, rfl⟩)
        go_ret
        exact ⟨by rw [HSA.out, HOB.out]; rfl, Below.refl _ _⟩
      · rw [hob] at HO
        have HOB := Lib.hid hob
        have HLK := Lib.hid (links_any (some ⟨b, off, none⟩) n c l hl hn hob w HA.out)
        clear hob
        go_enter Tryd.func34, Tryd.ntmps34
        go_upto_region 5 with (first | (go_at_call 44; refine (HO.out).mono ?_; rintro e w1 ⟨rfl, rfl⟩) | (go_at_call 33; refine (HLK.out).mono ?_; rintro e W0 ⟨cs, rfl, hbk, hlks, hbl⟩; have HBK := Lib.hid hbk; have HL := Lib.hid hlks; have HBL := Lib.hid hbl; clear hbk hlks hbl))
        have HLT := Lib.hid HBK.out.lt
        go_loopg [25] n (fun gk i wr => ∃ k : Nat, k + gk = n ∧ i = .int .i64 (k : Int) ∧ Hid (Below W0.heap.size W0 wr) ∧ Hid (∀ j, j < k → okAt l j = true))
        case atStart => exact ⟨0, by omega, rfl, Lib.hid (Below.refl _ _), Lib.hid (fun j hj => by omega)⟩
        case round =>
          obtain ⟨k, hk, rfl, hb, hr⟩ := hrel
          have HB := Lib.hid (HBL.out.trans (hb.out.mono HBL.out.size))
          by_cases hlk : k < n
          · have hkl : k < l.length := by omega
            have i1 : (k : Int) < (n : Int) := by omega
            have hrow := HA.out.below HB.out (Nat.le_refl _)
            obtain ⟨b', off', he, hat⟩ := hrow.at_ hkl
            obtain ⟨rfl, rfl⟩ : b' = b ∧ off' = off := by injection he with he; injection he with h1 h2; exact ⟨h1.symm, h2.symm⟩
            obtain ⟨v, hv, hav⟩ := hat.c3
            obtain ⟨A1, d1, rfl, -⟩ := hav.ex
            obtain ⟨c0, c1, c2, -, c4, c5, c6, c7, c8⟩ := hat
            obtain ⟨q0, q1, q2, q3⟩ := HL.out.2 k hlk
            have hbk := HBK.out.below hb.out HLT.out
            have y0 : wr.cell? ⟨w.heap.size, k * 4, none⟩ = some (.int .i64 (fst (par l) n k)) := (hbk.cell _).trans q0
            have y1 : wr.cell? ⟨w.heap.size, k * 4 + 1, none⟩ = some (.int .i64 (lst (par l) n k)) := (hbk.cell _).trans q1
            have y2 : wr.cell? ⟨w.heap.size, k * 4 + 2, none⟩ = some (.int .i64 (lst (par l) k (par l k))) := (hbk.cell _).trans q2
            have y3 : wr.cell? ⟨w.heap.size, k * 4 + 3, none⟩ = some (.int .i64 (nxt (par l) n k)) := (hbk.cell _).trans q3
            have hok := okAt_get hkl
            rw [hl] at hok
            unfold linkB lkAt at hok
            dsimp only at hok
            obtain ⟨F, hF⟩ : ∃ F, fst (par l) n k = F := ⟨_, rfl⟩
            obtain ⟨L, hL⟩ : ∃ F, lst (par l) n k = F := ⟨_, rfl⟩
            obtain ⟨Pv, hPv⟩ : ∃ F, lst (par l) k (par l k) = F := ⟨_, rfl⟩
            obtain ⟨Nx, hNx⟩ : ∃ F, nxt (par l) n k = F := ⟨_, rfl⟩
            rw [hF] at y0 hok; rw [hL] at y1 hok; rw [hPv] at y2 hok; rw [hNx] at y3 hok
            obtain ⟨x, hx⟩ : ∃ x, (l[k]'hkl) = x := ⟨_, rfl⟩
            rw [hx] at c0 c1 c2 c4 c5 c6 c7 c8 hav hv hok
            have HOK := Lib.hid hok
            have HAV := Lib.hid hav
            have hlb : b' < wr.heap.size := World.block_lt_of_cell? _ _ c0
            have hlw : w.heap.size < wr.heap.size := hbk.lt
            clear hF hL hPv hNx hx hok hav q0 q1 q2 q3 hbk hrow
            dsimp only [str] at c1 c2
            go_upto_region 7 with fail
            refine wp_gen (fun W => Below wr.heap.size wr W ∧ Bk W wr.heap.size 41 #[.int .i64 x.kind, str x.name, str x.text, .slice A1 x.attrs.length d1, .int .i64 x.parent, .int .i64 x.first, .int .i64 x.last, .int .i64 x.prev, .int .i64 x.next]) ⟨(Below.refl _ _).alloc (Nat.le_refl _) _, Bk.new wr 41 _⟩ ?_
            rintro W ⟨hbW, hkW⟩
            have hzz := HB.out.size
            have HBW := Lib.hid (HB.out.trans (hbW.mono hzz))
            have HBW0 := Lib.hid (hb.out.trans (hbW.mono hb.out.size))
            have e2 := fun y b o => ext_cell W.heap.size W y b o
            have hltW : wr.heap.size < W.heap.size := hkW.lt
            have hwW : w.heap.size < W.heap.size := by omega
            have y0' := (hbW.cell (p := ⟨w.heap.size, k * 4, none⟩) hlw).trans y0
            have y1' := (hbW.cell (p := ⟨w.heap.size, k * 4 + 1, none⟩) hlw).trans y1
            have y2' := (hbW.cell (p := ⟨w.heap.size, k * 4 + 2, none⟩) hlw).trans y2
            have y3' := (hbW.cell (p := ⟨w.heap.size, k * 4 + 3, none⟩) hlw).trans y3
            have x0 : W.cell? ⟨wr.heap.size, 0, none⟩ = some (.int .i64 x.kind) := hkW.cell 0
            have x1 : W.cell? ⟨wr.heap.size, 1, none⟩ = some (.string ⟨x.name.toArray⟩) := hkW.cell 1
            have x2 : W.cell? ⟨wr.heap.size, 2, none⟩ = some (.string ⟨x.text.toArray⟩) := hkW.cell 2
            have x3 : W.cell? ⟨wr.heap.size, 3, none⟩ = some (.slice A1 x.attrs.length d1) := hkW.cell 3
            have x4 : W.cell? ⟨wr.heap.size, 4, none⟩ = some (.int .i64 x.parent) := hkW.cell 4
            have x5 : W.cell? ⟨wr.heap.size, 5, none⟩ = some (.int .i64 x.first) := hkW.cell 5
            have x6 : W.cell? ⟨wr.heap.size, 6, none⟩ = some (.int .i64 x.last) := hkW.cell 6
            have x7 : W.cell? ⟨wr.heap.size, 7, none⟩ = some (.int .i64 x.prev) := hkW.cell 7
            have x8 : W.cell? ⟨wr.heap.size, 8, none⟩ = some (.int .i64 x.next) := hkW.cell 8
            have HLO := Lib.hid (fun y => call_of (linksOf_any x (.slice A1 x.attrs.length d1) (ext W.heap.size W y)) (Nat.le_refl _))
            have HWE := Lib.hid (fun y => call_of (well_any x (.slice A1 x.attrs.length d1) (ext W.heap.size W y) ((HAV.out.below hbW (Nat.le_refl _)).below (ext_below W.heap.size W y) (Nat.le_refl _))) (Nat.le_refl _))
            unfold ndVal at HLO HWE
            dsimp only [str] at HLO HWE
            clear hbW hkW y0 y1 y2 y3 c0 c1 c2 c4 c5 c6 c7 c8 hv HAV hb HB
            have hbad : okAt l k = false → saidB l = false := fun h => by rw [HSA.out, each_bad hkl h, Bool.and_false]
            have hcase : (x.first ≠ F ∨ (x.first = F ∧ x.last ≠ L) ∨ (x.first = F ∧ x.last = L ∧ x.prev ≠ Pv) ∨ (x.first = F ∧ x.last = L ∧ x.prev = Pv ∧ x.next ≠ Nx)) ∨ (x.first = F ∧ x.last = L ∧ x.prev = Pv ∧ x.next = Nx) := by
              by_cases a1 : x.first = F <;> by_cases a2 : x.last = L <;> by_cases a3 : x.prev = Pv <;> by_cases a4 : x.next = Nx <;> simp [a1, a2, a3, a4]
            have HBAD := Lib.hid hbad
            clear hbad
            rcases hcase with hbadl | ⟨rfl, rfl, rfl, rfl⟩
            · have HF : Hid (saidB l = false) := Lib.hid (HBAD.out (by
                rw [HOK.out]
                rcases hbadl with h | ⟨h0, h⟩ | ⟨h0, h1, h⟩ | ⟨h0, h1, h2, h⟩ <;> simp [h]))
              rcases hbadl with g1 | ⟨rfl, g1⟩ | ⟨rfl, rfl, g1⟩ | ⟨rfl, rfl, rfl, g1⟩
              all_goals
                refine region_ext W.heap.size (by kernel_rfl) (by kernel_rfl) ?_
                repeat quiet_step ((first | (go_at_call 45; exact HLO.out _) | (go_at_call 46; exact HWE.out _)))
                refine wpQuiet_nil ?_
                intro w4 hb4
                have HB4 := Lib.hid (HBW.out.trans (hb4.mono HBW.out.size))
                have HC4 := Lib.hid (HBW0.out.trans (hb4.mono HBW0.out.size))
                clear hb4
                go_wp2
                go_ret
                exact ⟨by rw [HF.out]; rfl, HB4.out⟩
            · rcases hwb : wellB x with _ | _
              · have HF : Hid (saidB l = false) := Lib.hid (HBAD.out (by rw [HOK.out, hwb, Bool.and_false]))
                rw [hwb] at HWE
                clear hwb
                refine region_ext W.heap.size (by kernel_rfl) (by kernel_rfl) ?_
                repeat quiet_step ((first | (go_at_call 45; exact HLO.out _) | (go_at_call 46; exact HWE.out _)))
                refine wpQuiet_nil ?_
                intro w4 hb4
                have HB4 := Lib.hid (HBW.out.trans (hb4.mono HBW.out.size))
                have HC4 := Lib.hid (HBW0.out.trans (hb4.mono HBW0.out.size))
                clear hb4
                go_wp2
                go_ret
                exact ⟨by rw [HF.out]; rfl, HB4.out⟩
              · have HOKT : Hid (okAt l k = true) := Lib.hid (by rw [HOK.out, hwb]; simp)
                rw [hwb] at HWE
                clear hwb
                refine region_ext W.heap.size (by kernel_rfl) (by kernel_rfl) ?_
                repeat quiet_step ((first | (go_at_call 45; exact HLO.out _) | (go_at_call 46; exact HWE.out _)))
                refine wpQuiet_nil ?_
                intro w4 hb4
                have HB4 := Lib.hid (HBW.out.trans (hb4.mono HBW.out.size))
                have HC4 := Lib.hid (HBW0.out.trans (hb4.mono HBW0.out.size))
                clear hb4
                go_wp2
                go_roundg (gk - 1)
                case measure => omega
                case rel =>
                  refine ⟨k + 1, by omega, by go_num, HC4, Lib.hid (fun j hj => ?_)⟩
                  by_cases e : j = k
                  · subst e; exact HOKT.out
                  · exact hr.out j (by omega)
          · obtain rfl : k = n := by omega
            have HF : Hid (saidB l = true) := Lib.hid (by rw [HSA.out, HOB.out, each_good (fun i hi => hr.out i (by omega))]; rfl)
            go_wp2
            go_ret
            exact ⟨by rw [HF.out]; rfl, HB.out⟩
    · have k0 : (K0 != 1) = true := by rw [bne_iff_ne]; exact hk
      have HF : Hid (saidB l = false) := Lib.hid (by rw [HSA.out, decide_eq_false hk]; rfl)
      go_enter Tryd.func34, Tryd.ntmps34
      go_wp2
      go_ret
      exact ⟨by rw [HF.out]; rfl, Below.refl _ _⟩
set_option maxHeartbeats 1000000 in
theorem right_any (A : Option Addr) (n c : Nat) (l : List Nd) (hl : l.length = n) (hn : n ≤ 4398046511104) (w : World) (ha : NRow w A l) :
    Calls Tryd.prog 18 #[.agg #[.slice A n c]] w fun e w' => e = .returned (.int .i64 (rightE l)) ∧ Below w.heap.size w w' := by
  have hb0 : Below w.heap.size w (w.alloc (.cells #[.slice A n c] 24)) := (Below.refl _ _).alloc (Nat.le_refl _) _
  have hre : rightE l = if 4096 < n then 4 else if saidB l = false then 10 else if deepB l = true then 5 else 0 := by unfold rightE; rw [hl]
  by_cases h1 : 4096 < n
  · have HF : Hid (rightE l = 4) := Lib.hid (by rw [hre, if_pos h1])
    have i1 : (4096 : Int) < (n : Int) := by omega
    clear hre ha
    go_enter Tryd.func18, Tryd.ntmps18
    go_wp2
    go_ret
    exact ⟨by rw [HF.out]; rfl, hb0⟩
  · have i1 : ¬ ((4096 : Int) < (n : Int)) := by omega
    have hbk := Bk.new w 24 #[.slice A n c]
    have ha0 := ha.below hb0 (Nat.le_refl _)
    have HS := Lib.hid (said_any A n c l hl (by omega) _ ha0)
    have HB0 := Lib.hid hb0
    have HBK := Lib.hid hbk
    have HA0 := Lib.hid ha0
    rw [if_neg h1] at hre
    rcases hs : saidB l with _ | _
    · rw [hs] at HS hre
      have HF : Hid (rightE l = 10) := Lib.hid (by rw [hre, if_pos rfl])
      clear hs hre ha hb0 hbk ha0
      go_enter Tryd.func18, Tryd.ntmps18
      go_wp2_with (go_at_call 34; refine (HS.out).mono ?_; rintro e w1 ⟨rfl, hb1⟩; have HB1 := Lib.hid (HB0.out.trans (hb1.mono (by simp))); clear hb1)
      go_ret
      exact ⟨by rw [HF.out]; rfl, HB1.out⟩
    · rw [hs] at HS hre
      rw [if_neg (by decide)] at hre
      have HRE := Lib.hid hre
      clear hs hre ha hb0 hbk ha0
      rcases hd : deepB l with _ | _
      · have HF : Hid (rightE l = 0) := Lib.hid (by rw [HRE.out, hd]; rfl)
        have HD := Lib.hid hd
        clear hd
        go_enter Tryd.func18, Tryd.ntmps18
        go_wp2_with (first
          | (go_at_call 34; refine (HS.out).mono ?_; rintro e w1 ⟨rfl, hb1⟩; have HB1 := Lib.hid (HB0.out.trans (hb1.mono (by simp))); have x0 : w1.cell? ⟨w.heap.size, 0, none⟩ = some (.slice A n c) := (HBK.out.below hb1 HBK.out.lt).cell 0; have HDC := Lib.hid (deep_any A n c l hl (by omega) w1 (HA0.out.below hb1 (Nat.le_refl _))); rw [HD.out] at HDC; clear hb1)
          | (go_at_call 35; refine (HDC.out).mono ?_; rintro e w2 ⟨rfl, hb2⟩; have HB2 := Lib.hid (HB1.out.trans (hb2.mono HB1.out.size)); clear hb2))
        go_ret
        exact ⟨by rw [HF.out]; rfl, HB2.out⟩
      · have HF : Hid (rightE l = 5) := Lib.hid (by rw [HRE.out, hd]; rfl)
        have HD := Lib.hid hd
        clear hd
        go_enter Tryd.func18, Tryd.ntmps18
        go_wp2_with (first
          | (go_at_call 34; refine (HS.out).mono ?_; rintro e w1 ⟨rfl, hb1⟩; have HB1 := Lib.hid (HB0.out.trans (hb1.mono (by simp))); have x0 : w1.cell? ⟨w.heap.size, 0, none⟩ = some (.slice A n c) := (HBK.out.below hb1 HBK.out.lt).cell 0; have HDC := Lib.hid (deep_any A n c l hl (by omega) w1 (HA0.out.below hb1 (Nat.le_refl _))); rw [HD.out] at HDC; clear hb1)
          | (go_at_call 35; refine (HDC.out).mono ?_; rintro e w2 ⟨rfl, hb2⟩; have HB2 := Lib.hid (HB1.out.trans (hb2.mono HB1.out.size)); clear hb2))
        go_ret
        exact ⟨by rw [HF.out]; rfl, HB2.out⟩
end Go.Proofs.YtdogcnmepaemjaaDoor
