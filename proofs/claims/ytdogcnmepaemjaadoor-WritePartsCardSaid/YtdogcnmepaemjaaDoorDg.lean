/- The links of all nodes by their parents: dom's linksByParents. No conditions but that the list is not endless and in document order. -/
import Derived.Test.YtdogcnmepaemjaaDoorDf
namespace Go.Proofs.YtdogcnmepaemjaaDoor
set_option linter.unusedVariables false
open Go.RowKit Go.Proofs.Fm Go.Proofs.Fb Go.Proofs.Fd Go.Proofs.Fc

/-- what linksByParents answers -/
def LinksOut (p : Nat → Int) (n : Nat) (w : World) (e : Ending) (w' : World) : Prop := ∃ cs, e = .returned (.slice (some ⟨w.heap.size, 0, none⟩) n n) ∧ Bk w' w.heap.size 74 cs ∧ Lks p n n cs ∧ Below w.heap.size w w'
theorem linkInfo : (Tryd.prog.info? 74).map (fun i => (i.zero, i.size, i.bytes)) = some (some (.agg #[.int .i64 0, .int .i64 0, .int .i64 0, .int .i64 0]), 4, 32) := by kernel_rfl
set_option maxHeartbeats 2000000 in
theorem links_any (A : Option Addr) (n c : Nat) (l : List Nd) (hl : l.length = n) (hn : n ≤ 1099511627776) (ho : ordB (par l) n = true) (w : World) (ha : NRow w A l) :
    Calls Tryd.prog 33 #[.slice A n c] w (LinksOut (par l) n w) := by
  obtain ⟨i0, hi, hz0, hz1, hz2⟩ := info_parts linkInfo
  have hmk := run_make (P := Tryd.prog) w 71 74 i0 _ Tryd.underlying71 hi hz0 .i64 .i64 n n (by omega) (by omega) (by rw [hz2]; omega) (by omega)
  rw [hz1, Int.toNat_natCast] at hmk
  have HA := Lib.hid ha
  have HO := Lib.hid ho
  clear ha hz0 hz1 hz2 hi ho
  go_enter Tryd.func33, Tryd.ntmps33
  go_upto_region 3 with fail
  clear hmk
  refine wp_gen (fun W => Below w.heap.size w W ∧ w.heap.size < W.heap.size ∧ ∃ cs, Bk W w.heap.size 74 cs ∧ cs.size = n * 4) ⟨(Below.refl _ _).alloc (Nat.le_refl _) _, by simp, _, Bk.new w 74 _, size_madeCells _ _⟩ ?_
  rintro W ⟨hb0, hlt0, cs1, hk0, hsz0⟩
  have HB0 := Lib.hid hb0
  have HK0 := Lib.hid hk0
  clear hb0 hk0
  go_loopg [10] n (fun gk i wr => ∃ k : Nat, k + gk = n ∧ i = .int .i64 (k : Int) ∧ Hid (Below w.heap.size w wr ∧ w.heap.size < wr.heap.size ∧ ∃ cs, Bk wr w.heap.size 74 cs ∧ cs.size = n * 4 ∧ (0 < k → Lks (par l) n k cs)))
  case atStart => exact ⟨0, by omega, rfl, Lib.hid ⟨HB0.out, hlt0, cs1, HK0.out, hsz0, by omega⟩⟩
  case round =>
    obtain ⟨k, hk, rfl, hr⟩ := hrel
    by_cases hlk : k < n
    · have i1 : (k : Int) < (n : Int) := by omega
      go_upto_region 5 with fail
      obtain ⟨hb, hlt, cs, hk1, hsz, hL⟩ := hr.out
      obtain ⟨u0, h0⟩ := cell_in hsz hlk (j := 0) (by omega)
      obtain ⟨u1, h1⟩ := cell_in hsz hlk (j := 1) (by omega)
      obtain ⟨u2, h2⟩ := cell_in hsz hlk (j := 2) (by omega)
      obtain ⟨u3, h3⟩ := cell_in hsz hlk (j := 3) (by omega)
      have x0 : wr.cell? ⟨w.heap.size, k * 4, none⟩ = some u0 := (hk1.cell _).trans h0
      have x1 : wr.cell? ⟨w.heap.size, k * 4 + 1, none⟩ = some u1 := (hk1.cell _).trans h1
      have x2 : wr.cell? ⟨w.heap.size, k * 4 + 2, none⟩ = some u2 := (hk1.cell _).trans h2
      have x3 : wr.cell? ⟨w.heap.size, k * 4 + 3, none⟩ = some u3 := (hk1.cell _).trans h3
      have hf : ∀ i, wr.frozen? ⟨w.heap.size, i, none⟩ = false := hk1.frozen
      have HK1 := Lib.hid hk1
      have HB := Lib.hid hb
      have HL := Lib.hid hL
      have HSZ := Lib.hid hsz
      clear hk1 hb hL hsz h0 h1 h2 h3 hr
      go_upto_region 6 with fail
      refine wp_gen (fun W => Below w.heap.size w W ∧ w.heap.size < W.heap.size ∧ Bk W w.heap.size 74 (cs0 cs k)) ⟨(((HB.out.setCell (p := ⟨w.heap.size, k * 4, none⟩) (Nat.le_refl _) _).setCell (p := ⟨w.heap.size, k * 4 + 1, none⟩) (Nat.le_refl _) _).setCell (p := ⟨w.heap.size, k * 4 + 2, none⟩) (Nat.le_refl _) _).setCell (p := ⟨w.heap.size, k * 4 + 3, none⟩) (Nat.le_refl _) _, by simpa [World.setCell] using hlt, (((HK1.out.set_ _ _).set_ _ _).set_ _ _).set_ _ _⟩ ?_
      clear x0 x1 x2 x3 hf
      rintro W2 ⟨hb2, hlt2, hk2⟩
      have HB2 := Lib.hid hb2
      have HK2 := Lib.hid hk2
      clear hb2 hk2
      by_cases hk0 : k = 0
      · subst hk0
        go_wp2
        go_roundg (gk - 1)
        case measure => omega
        case rel => exact ⟨1, by omega, by go_num, Lib.hid ⟨HB2.out, hlt2, _, HK2.out, by rw [cs0_size]; exact HSZ.out, fun _ => Lks.first HSZ.out (by omega) ((ordB_iff _ _).1 HO.out).1⟩⟩
      · have hlt' := ord_lt HO.out (i := k) (by omega) hlk
        obtain ⟨P, hP⟩ := Int.eq_ofNat_of_zero_le hlt'.1
        have hPk : P < k := by omega
        obtain ⟨s1, s2, s3⟩ := Lks.next (HL.out (by omega)) hlk (by omega) HO.out hP hPk
        have hpg := par_get (l := l) (i := k) (by omega)
        obtain ⟨b, off, rfl, hat⟩ := (HA.out.below HB2.out (Nat.le_refl _)).at_ (i := k) (by omega)
        have x4 := hat.c4
        rw [← hpg, hP] at x4
        have hs0 : (cs0 cs k).size = n * 4 := by rw [cs0_size]; exact HSZ.out
        have hvb := lst_bd (par l) (par l k) k
        obtain ⟨V, hV⟩ : ∃ V, lst (par l) k (par l k) = V := ⟨_, rfl⟩
        rw [hV] at s3 hvb
        have i2 : (0 : Int) < (k : Int) := by omega
        have hg : ∀ (W : World) (u1 u2 u3 : Value) (o1 o2 o3 : Nat), Below w.heap.size w W → Below w.heap.size w (((W.setCell ⟨w.heap.size, o1, none⟩ u1).setCell ⟨w.heap.size, o2, none⟩ u2).setCell ⟨w.heap.size, o3, none⟩ u3) := fun W u1 u2 u3 o1 o2 o3 h => ((h.setCell (p := ⟨w.heap.size, o1, none⟩) (Nat.le_refl _) _).setCell (p := ⟨w.heap.size, o2, none⟩) (Nat.le_refl _) _).setCell (p := ⟨w.heap.size, o3, none⟩) (Nat.le_refl _) _
        by_cases hv : V < 0
        · have HC := Lib.hid (addKid_none w.heap.size n P k (by omega) hlk (by omega) V hv W2 _ HK2.out hs0 s3)
          have HS := Lib.hid (s1 V s3 hv)
          have HG := Lib.hid hg
          clear s1 s2 s3 hat hpg hP hV hlt' hg hs0 HA HL
          go_wp2_with (go_at_call 43; refine (HC.out).mono ?_; rintro e w1 ⟨rfl, hw1⟩; have HW1 := Lib.hid hw1; clear hw1)
          go_roundg (gk - 1)
          case measure => omega
          case rel =>
            refine ⟨k + 1, by omega, by go_num, Lib.hid ?_⟩
            rw [HW1.out]
            exact ⟨HG.out _ _ _ _ _ _ _ HB2.out, by simpa [World.setCell] using hlt2, _, ((HK2.out.set_ _ _).set_ _ _).set_ _ _, HS.out.1, fun _ => HS.out⟩
        · obtain ⟨v, rfl⟩ := Int.eq_ofNat_of_zero_le (by omega : 0 ≤ V)
          have HC := Lib.hid (addKid_some w.heap.size n P k v (by omega) hlk (by omega) (by omega) W2 _ HK2.out hs0 s3)
          have HS := Lib.hid (s2 v s3 (by omega))
          have HG := Lib.hid hg
          clear s1 s2 s3 hat hpg hP hV hlt' hg hs0 HA HL
          go_wp2_with (go_at_call 43; refine (HC.out).mono ?_; rintro e w1 ⟨rfl, hw1⟩; have HW1 := Lib.hid hw1; clear hw1)
          go_roundg (gk - 1)
          case measure => omega
          case rel =>
            refine ⟨k + 1, by omega, by go_num, Lib.hid ?_⟩
            rw [HW1.out]
            exact ⟨HG.out _ _ _ _ _ _ _ HB2.out, by simpa [World.setCell] using hlt2, _, ((HK2.out.set_ _ _).set_ _ _).set_ _ _, HS.out.1, fun _ => HS.out⟩
    · obtain rfl : k = n := by omega
      go_wp2
      go_ret
      obtain ⟨hb, hlt, cs, hk1, hsz, hL⟩ := hr.out
      refine ⟨cs, rfl, hk1, ?_, hb⟩
      by_cases hk0 : 0 < k
      · exact hL hk0
      · exact ⟨hsz, fun i hi => by omega⟩
end Go.Proofs.YtdogcnmepaemjaaDoor
