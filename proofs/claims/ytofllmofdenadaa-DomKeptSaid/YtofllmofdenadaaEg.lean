/- Parts laid anew for the other side: the statements' part. No conditions but that there are not too many. -/
import Derived.Test.YtofllmofdenadaaDs2
import Derived.Test.YtofllmofdenadaaEb
import Derived.Deep.RegionLaw
namespace Go.Proofs.Ytofllmofdenadaa
set_option linter.unusedVariables false
open Go.RowKit Go.Proofs.Fm Go.Proofs.Fb Go.Proofs.Fd Go.Proofs.Fc

/-- what plain answers: the same part in new memory, its attributes shared -/
def PartOut (ks : List Pt) (nm tx : Str) (va : Value) (W0 w : World) (e : Ending) (w' : World) : Prop := ∃ K d, e = .returned (.agg #[str nm, str tx, va, .slice K ks.length d]) ∧ KRes W0 w' (fun x => w.heap.size ≤ x ∧ x < w'.heap.size) (.slice K ks.length d) ks ∧ Below w.heap.size w w'
def PartSpec (p : Pt) : Prop := ∀ (nm tx : Str) (al : List Att) (ks : List Pt) (A K : Option Addr) (c d : Nat) (W0 w : World), p = .mk nm tx al ks → psize p ≤ 2000 → KVal W0 (.slice K ks.length d) ks → Below W0.heap.size W0 w →
  Calls Try.prog 35 #[.agg #[str nm, str tx, .slice A al.length c, .slice K ks.length d]] w (PartOut ks nm tx (.slice A al.length c) W0 w)
theorem partInfo0 : (Try.prog.info? 31).map (fun i => (i.zero, i.size, i.bytes)) = some (some (.agg #[.string ⟨#[]⟩, .string ⟨#[]⟩, .slice none 0 0, .slice none 0 0]), 4, 80) := by kernel_rfl
/-- while kids are laid; w1 is the world with the call's own variables -/
structure PartSt (W0 w1 : World) (b : Nat) (nm tx : Str) (va v : Value) (rs : List Rk) (W : World) : Prop where
  t3 : Bk W b 31 #[str nm, str tx, va, v]
  gr : Grows W0 W (b + 1) 31 v rs
  bl : Below b w1 W
theorem PartSt.below {W0 w1 W W' : World} {b : Nat} {nm tx : Str} {va v : Value} {rs : List Rk} (h : PartSt W0 w1 b nm tx va v rs W) (hb : Below W.heap.size W W') : PartSt W0 w1 b nm tx va v rs W' :=
  ⟨h.t3.below hb h.t3.lt, h.gr.below hb, h.bl.trans (hb.mono (Nat.le_of_lt h.t3.lt))⟩
theorem PartSt.add {W0 w1 W w5 : World} {b g cap : Nat} {nm tx : Str} {va v : Value} {rs : List Rk} (h : PartSt W0 w1 b nm tx va v rs W) (q : Rk) (ha : AVal W0 q.2.1 q.1.attrs) {S : Nat → Prop} (hk : KRes W0 W S q.2.2 q.1.kids) (hS : ∀ x, S x → b + 1 ≤ x ∧ x < W.heap.size ∧ v.ownBlock ≠ some x)
    (ho : w5.ownsRow (b + 1) 31 4 (.slice (some ⟨g, 0, none⟩) (rs.length + 1) cap) (rs.length + 1) (rkCells rs ++ ptCells q)) (hg : W.grownBy w5 v.ownBlock) (hat : v.ownBlock = some g ∨ W.heap.size ≤ g) :
    PartSt W0 w1 b nm tx va (.slice (some ⟨g, 0, none⟩) (rs.length + 1) cap) (rs ++ [q]) (w5.setCell ⟨b, 3, none⟩ (.slice (some ⟨g, 0, none⟩) (rs.length + 1) cap)) := by
  have hlo := h.gr.own.lt
  have hne : v.ownBlock ≠ some b := fun e => by have := (hlo b e).1; omega
  have t5 := h.t3.grown hg (fun e => hne e.symm)
  refine ⟨?_, (h.gr.add q ha hk hS ho hg hat).far (by omega), ?_⟩
  · have := t5.set_ 3 (.slice (some ⟨g, 0, none⟩) (rs.length + 1) cap)
    simpa using this
  · exact ((h.bl.grown hg (Nat.le_of_lt h.t3.lt) (fun k hk => by have := (hlo k hk).1; omega))).setCell (p := ⟨b, 3, none⟩) (Nat.le_refl _) _
theorem part_result {W : World} {b : Nat} {v0 v1 v2 v3 : Value} (h0 : W.cell? ⟨b, 0, none⟩ = some v0) (h1 : W.cell? ⟨b, 1, none⟩ = some v1) (h2 : W.cell? ⟨b, 2, none⟩ = some v2) (h3 : W.cell? ⟨b, 3, none⟩ = some v3) (ts : Array Value) (ht : ts[2]?.getD undef = .pointer (some ⟨b, 0, none⟩)) :
    (results Try.f35 ts).run Try.prog W = .ok (.agg #[v0, v1, v2, v3]) W := by
  simp [results, Try.results35, ht, go_sem, h0, h1, h2, h3, Result.andThen]
set_option maxHeartbeats 4000000 in
theorem part_ok (p : Pt) : PartSpec p := by
  refine Pt.ind (C := PartSpec) (fun p ih => ?_) p
  intro nm tx al ks A K c d W0 w hp hsz hk hbW
  obtain ⟨i0, hi0, hz0, hz1, hz2⟩ := info_parts partInfo0
  have HI0 := Lib.hid hi0
  have HZ0 := Lib.hid hz0
  have HZ1 := Lib.hid hz1
  have HZ2 := Lib.hid hz2
  have hkl : ks.length ≤ 2000 := by
    have h1 : psizeL ks ≤ 2000 := by rw [psize_eq, hp] at hsz; have : psizeL (Pt.mk nm tx al ks).kids = psizeL ks := rfl; omega
    have h2 : ∀ l : List Pt, l.length ≤ psizeL l := by
      intro l
      induction l with
      | nil => simp
      | cons k t iht => rw [psizeL_cons, List.length_cons]; have := psize_eq k; omega
    have := h2 ks; omega
  have HIH := Lib.hid (show ∀ k ∈ ks, psize k ≤ 2000 → PartSpec k from fun k hk _ => ih k (by rw [hp]; exact hk))
  have HPK := Lib.hid (show ∀ k ∈ ks, psize k ≤ 2000 from fun k hk => by have := psize_less (p := p) (k := k) (by rw [hp]; exact hk); omega)
  have HKV := Lib.hid hk
  obtain ⟨K', d', hkv, hkd, hdm, hkn, hkc0⟩ := hk
  have hkc : ks = [] ∨ ∃ b' off, K = some ⟨b', off, none⟩ ∧ PCells W0 b' off ks := by injection hkv with h1 h2 h3; rw [h1]; exact hkc0
  have HKC := Lib.hid hkc
  have HBW := Lib.hid hbW
  clear hi0 hz0 hz1 hz2 ih hp hsz hkv hkd hdm hkn hkc hkc0 hbW
  dsimp only [str]
  go_enter Try.func35, Try.ntmps35
  go_upto_region 3 with fail
  obtain ⟨w1, hw1⟩ : ∃ W, (w.alloc (.cells #[.string ⟨nm.toArray⟩, .string ⟨tx.toArray⟩, .slice A al.length c, .slice K ks.length d] 52)).alloc (.cells #[.string ⟨#[]⟩, .string ⟨#[]⟩, .slice none 0 0, .slice none 0 0] 31) = W := ⟨_, rfl⟩
  have hsz1 : w.heap.size + 1 + 1 = w1.heap.size := by rw [← hw1]; simp
  have hb1 : Below w.heap.size w w1 := hw1 ▸ ((Below.refl _ w).alloc (Nat.le_refl _) _).alloc (by simp) _
  have hx1 : Bk w1 w.heap.size 52 #[.string ⟨nm.toArray⟩, .string ⟨tx.toArray⟩, .slice A al.length c, .slice K ks.length d] := hw1 ▸ (Bk.new w 52 _).alloc _
  have ht1 : Bk w1 (w.heap.size + 1) 31 #[.string ⟨#[]⟩, .string ⟨#[]⟩, .slice none 0 0, .slice none 0 0] := hw1 ▸ (by simpa using Bk.new (w.alloc (.cells #[.string ⟨nm.toArray⟩, .string ⟨tx.toArray⟩, .slice A al.length c, .slice K ks.length d] 52)) 31 #[.string ⟨#[]⟩, .string ⟨#[]⟩, .slice none 0 0, .slice none 0 0])
  rw [hw1, hsz1]
  obtain ⟨b, hb⟩ : ∃ b, w1.heap.size = b := ⟨_, rfl⟩
  have hst0 : PartSt W0 w1 w1.heap.size nm tx (.slice A al.length c) (.slice none 0 0) [] (w1.alloc (.cells #[.string ⟨nm.toArray⟩, .string ⟨tx.toArray⟩, .slice A al.length c, .slice none 0 0] 31)) :=
    ⟨Bk.new w1 31 _, ⟨World.ownsRow_nil _ _ _ _, by simp⟩, (Below.refl _ _).alloc (Nat.le_refl _) _⟩
  refine wp_gen (fun W => PartSt W0 w1 w1.heap.size nm tx (.slice A al.length c) (.slice none 0 0) [] W) hst0 ?_
  rintro W2 hst2
  rw [hb] at hst2 ⊢
  have HST2 := Lib.hid hst2
  have HB1 := Lib.hid hb1
  have HX1 := Lib.hid hx1
  have HT1 := Lib.hid ht1
  have hl1 : w.heap.size < b := by omega
  have hl2 : w.heap.size + 1 < b := by omega
  have HB := Lib.hid hb
  clear hst0 hst2 hb1 hx1 ht1 hw1 hsz1 hb
  have hW0 := HBW.out.size
  go_loopg [4] ks.length (fun gk i wr => ∃ j : Nat, j + gk = ks.length ∧ i = .int .i64 (j : Int) ∧ Hid (∃ (rs : List Rk) (v : Value), rs.map (·.1) = ks.take j ∧ PartSt W0 w1 b nm tx (.slice A al.length c) v rs wr))
  case atStart => exact ⟨0, by omega, rfl, Lib.hid ⟨[], _, rfl, HST2.out⟩⟩
  case round =>
    obtain ⟨j, hj, rfl, hrr⟩ := hrel
    obtain ⟨rs, v, hrs, hst⟩ := hrr.out
    have hbl := hst.bl
    have hxw := HX1.out.below hbl hl1
    have z3 : wr.cell? ⟨w.heap.size, 3, none⟩ = some (.slice K ks.length d) := hxw.cell 3
    have lx := hxw.lt
    have HTW := Lib.hid (HT1.out.below hbl hl2)
    have HBR := Lib.hid (HBW.out.trans ((HB1.out.trans (hbl.mono (by omega))).mono hW0))
    have hrl : rs.length = min j ks.length := by have := congrArg List.length hrs; rwa [List.length_map, List.length_take] at this
    obtain ⟨Av, cv, rfl⟩ := own_form hst.gr.own
    have HST := Lib.hid hst
    have HRS := Lib.hid hrs
    have HRL := Lib.hid hrl
    have ht3 : wr.cell? ⟨b, 3, none⟩ = some (.slice Av rs.length cv) := hst.t3.cell 3
    have lb := hst.t3.lt
    clear hrr hst hrs hbl hxw
    by_cases hlt : j < ks.length
    · have hrj : rs.length = j := by omega
      have i1 : (j : Int) < (ks.length : Int) := by omega
      rcases HKC.out with hk0 | ⟨b', off, rfl, hkc⟩
      · rw [hk0] at hlt; simp at hlt
      · obtain ⟨nm', tx', al', ks', A1, c1, K1, d1, hkj, q0, q1, q2, q3, hva, hvk, hbw⟩ := kid_cells hkc hlt
        have hmem := List.getElem_mem hlt
        have hsp := HIH.out _ hmem (HPK.out _ hmem)
        have hps := HPK.out _ hmem
        rw [hkj] at hsp hps
        have q0 := (HBR.out.cell (p := ⟨b', off + j * 4, none⟩) hbw).trans q0
        have q1 := (HBR.out.cell (p := ⟨b', off + j * 4 + 1, none⟩) hbw).trans q1
        have q2 := (HBR.out.cell (p := ⟨b', off + j * 4 + 2, none⟩) hbw).trans q2
        have q3 := (HBR.out.cell (p := ⟨b', off + j * 4 + 3, none⟩) hbw).trans q3
        have hbr : b' < wr.heap.size := by have := HBR.out.size; omega
        have hmd : Below W0.heap.size W0 wr.drew := HBR.out.drew
        have HC := Lib.hid (hsp nm' tx' al' ks' A1 K1 c1 d1 W0 wr.drew rfl hps hvk hmd)
        have HTK : Hid (ks.take (j + 1) = ks.take j ++ [.mk nm' tx' al' ks']) := Lib.hid (by rw [List.take_succ_eq_append_getElem hlt, hkj])
        have HVA := Lib.hid hva
        have HKEEP := Lib.hid (fun w2 (h : Below wr.heap.size wr.drew w2) => (show PartSt W0 w1 b nm tx (.slice A al.length c) (.slice Av rs.length cv) rs w2 from HST.out.below ⟨h.os, h.tape, h.output, h.size, h.block⟩))
        have HLO := Lib.hid HST.out.gr.own.lt
        have hbw1 : b + 1 ≤ wr.heap.size := by omega
        have hrb : rs.length ≤ 2000 := by omega
        clear hkj hva hvk hbw hmem hsp hps hmd hkc HRL hrl hrj
        dsimp only [str] at q0 q1 HC
        go_upto_region 5 with fail
        go_region_law (first
          | (go_simp; go_at_call 35; (refine (HC.out).mono ?_); rintro e w2 ⟨K2, d2, rfl, hk2, hb2⟩; have hs2 := HKEEP.out w2 hb2; have HS2 := Lib.hid hs2; have HK2 := Lib.hid hk2; have u3 : w2.cell? ⟨b, 3, none⟩ = some (.slice Av rs.length cv) := hs2.t3.cell 3; have uf : w2.frozen? ⟨b, 3, none⟩ = false := hs2.t3.frozen 3; have ul : b < w2.heap.size := hs2.t3.lt; have uz : wr.heap.size ≤ w2.heap.size := hb2.size; clear hs2 hk2 hb2; dsimp only [str])
          | ((refine step_append_lies _ (by rfl) (.tmp 20) (.tmp 27) 29 (by rfl) (b + 1) 31 i0 _ 4 80 Try.underlying29 HI0.out HZ0.out HZ1.out HZ2.out rfl (by omega) (.slice Av rs.length cv) rs.length (rkCells rs) (by rfl) (HS2.out.gr.own.alloc _) ⟨w2.heap.size, 0, none⟩ 1 1 (ptCells (.mk nm' tx' al' ks', .slice A1 al'.length c1, .slice K2 ks'.length d2)) (by rfl) rfl (news_lit w2 31 (ptCells (.mk nm' tx' al' ks', .slice A1 al'.length c1, .slice K2 ks'.length d2))) (by simp [ptCells, str, Value.oneCell']) (by omega) (by unfold maxLen; omega) (by omega) (by simp; omega) (w2.heap.size + 1) (by simp) ?_; intro g cap w5 ho5 hg5 hat5 hlt5; have hg6 := grown_two (World.grownBy_alloc w2 _ none) hg5; have HS5 := Lib.hid (HS2.out.add (.mk nm' tx' al' ks', .slice A1 al'.length c1, .slice K2 ks'.length d2) HVA.out HK2.out (fun x hx => ⟨Nat.le_trans hbw1 hx.1, hx.2, fun e => Nat.lt_irrefl x (Nat.lt_of_lt_of_le (HLO.out x e).2 hx.1)⟩) ho5 hg6 (by rcases hat5 with h | h; exact .inl h; exact .inr (by omega))); have hb5 := (Below.refl (b + 1) w2).grown hg6 (by omega) (fun k hk => (HS2.out.gr.own.lt k hk).1); have u5 := (hb5.cell (p := ⟨b, 3, none⟩) (by show b < b + 1; omega)).trans u3; have uf5 := (hb5.frozen (p := ⟨b, 3, none⟩) (by show b < b + 1; omega)).trans uf; clear ho5 hg5 hat5 hg6 hb5)))
        all_goals
          clear q0 q1 q2 q3 z3 ht3
          go_wp2
          go_roundg (gk - 1)
          case measure => omega
          case rel => exact ⟨j + 1, by omega, by go_num, Lib.hid ⟨_, _, by rw [List.map_append, HRS.out, HTK.out]; rfl, HS5.out⟩⟩
    · have hje : j = ks.length := by omega
      have hrk : rs.map (·.1) = ks := by rw [HRS.out, hje, List.take_of_length_le (Nat.le_refl _)]
      have hrl2 : rs.length = ks.length := by rw [← hrk, List.length_map]
      have i1 : ¬ ((j : Int) < (ks.length : Int)) := by omega
      have a0 : wr.cell? ⟨b, 0, none⟩ = some (.string ⟨nm.toArray⟩) := HST.out.t3.cell 0
      have a1 : wr.cell? ⟨b, 1, none⟩ = some (.string ⟨tx.toArray⟩) := HST.out.t3.cell 1
      have a2 : wr.cell? ⟨b, 2, none⟩ = some (.slice A al.length c) := HST.out.t3.cell 2
      have t0 : wr.cell? ⟨w.heap.size + 1, 0, none⟩ = some (.string ⟨#[]⟩) := HTW.out.cell 0
      have t1 : wr.cell? ⟨w.heap.size + 1, 1, none⟩ = some (.string ⟨#[]⟩) := HTW.out.cell 1
      have t2 : wr.cell? ⟨w.heap.size + 1, 2, none⟩ = some (.slice none 0 0) := HTW.out.cell 2
      have t3 : wr.cell? ⟨w.heap.size + 1, 3, none⟩ = some (.slice none 0 0) := HTW.out.cell 3
      have tf : ∀ i, wr.frozen? ⟨w.heap.size + 1, i, none⟩ = false := HTW.out.frozen
      have lt := HTW.out.lt
      have HRK := Lib.hid hrk
      have HRL2 := Lib.hid hrl2
      have HFIN := Lib.hid (HST.out.gr.res)
      have HBLL := Lib.hid HST.out.bl
      clear hrk hrl2 hrl HRL
      go_wp2
      rw [HRL2.out]
      refine bodyPost_ret (v := .agg #[.string ⟨nm.toArray⟩, .string ⟨tx.toArray⟩, .slice A al.length c, .slice Av ks.length cv]) ?_ rfl ⟨Av, cv, rfl, ?_, ?_⟩
      · have hq := (((HTW.out.set_ 0 (.string ⟨nm.toArray⟩)).set_ 1 (.string ⟨tx.toArray⟩)).set_ 2 (.slice A al.length c)).set_ 3 (.slice Av ks.length cv)
        exact part_result (b := w.heap.size + 1) (hq.cell 0) (hq.cell 1) (hq.cell 2) (hq.cell 3) _ rfl
      · have h1 := HFIN.out
        rw [HRK.out, HRL2.out] at h1
        refine h1.map (fun x hx => ⟨by omega, by simpa [World.setCell] using hx.2⟩) (fun x hx => ?_)
        have hne : x ≠ w.heap.size + 1 := by omega
        exact (((Below.heap_setCell _ ⟨w.heap.size + 1, 3, none⟩ _ x hne).trans (Below.heap_setCell _ ⟨w.heap.size + 1, 2, none⟩ _ x hne)).trans (Below.heap_setCell _ ⟨w.heap.size + 1, 1, none⟩ _ x hne)).trans (Below.heap_setCell _ ⟨w.heap.size + 1, 0, none⟩ _ x hne)
      · exact ((((HB1.out.trans (HBLL.out.mono (by omega))).setCell (p := ⟨w.heap.size + 1, 0, none⟩) (by simp) _).setCell (p := ⟨w.heap.size + 1, 1, none⟩) (by simp) _).setCell (p := ⟨w.heap.size + 1, 2, none⟩) (by simp) _).setCell (p := ⟨w.heap.size + 1, 3, none⟩) (by simp) _
end Go.Proofs.Ytofllmofdenadaa
