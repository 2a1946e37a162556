/- Where what is below a node ends: dom's endOf; dom's All. No conditions but that the list is not endless. -/
import Derived.Test.YtofllmofdenadaaGb
namespace Go.Proofs.Ytofllmofdenadaa
set_option linter.unusedVariables false
open Go.RowKit Go.Proofs.Fm Go.Proofs.Fb Go.Proofs.Fd Go.Proofs.Fc

/-- from e on, while nodes hang on i or behind it -/
def endR (p : Nat → Int) (i : Int) (n : Nat) : Nat → Nat → Nat
  | 0, e => e
  | f + 1, e => if e < n ∧ i ≤ p e then endR p i n f (e + 1) else e
def endN (p : Nat → Int) (n i : Nat) : Nat := endR p (i : Int) n (n - (i + 1)) (i + 1)
theorem endR_bd (p : Nat → Int) (i : Int) (n : Nat) : ∀ f e, e ≤ n → e ≤ endR p i n f e ∧ endR p i n f e ≤ n
  | 0, e, h => ⟨Nat.le_refl _, h⟩
  | f + 1, e, h => by
    rw [endR]
    split
    · rename_i c; have := endR_bd p i n f (e + 1) (by omega); omega
    · exact ⟨Nat.le_refl _, h⟩
/-- all between hang on i or behind it; the one at the end does not -/
theorem endR_in (p : Nat → Int) (i : Int) (n : Nat) : ∀ f e, ∀ j, e ≤ j → j < endR p i n f e → i ≤ p j
  | 0, e, j, h1, h2 => by rw [endR] at h2; omega
  | f + 1, e, j, h1, h2 => by
    rw [endR] at h2
    split at h2
    · rename_i c
      by_cases h : j = e
      · subst h; exact c.2
      · exact endR_in p i n f (e + 1) j (by omega) h2
    · omega
theorem endR_out (p : Nat → Int) (i : Int) (n : Nat) : ∀ f e, n ≤ e + f → endR p i n f e < n → p (endR p i n f e) < i
  | 0, e, h1, h2 => by rw [endR] at h2; omega
  | f + 1, e, h1, h2 => by
    rw [endR] at h2 ⊢
    by_cases c : e < n ∧ i ≤ p e
    · rw [if_pos c] at h2 ⊢; exact endR_out p i n f (e + 1) (by omega) h2
    · rw [if_neg c] at h2 ⊢; omega
set_option maxHeartbeats 2000000 in
theorem endOf_yes (A : Option Addr) (n c : Nat) (l : List Nd) (hl : l.length = n) (hn : n ≤ 4398046511104) (i : Nat) (hi : i < n) (w : World) (ha : NRow w A l) :
    Calls Try.prog 43 #[.agg #[.slice A n c], .int .i64 (i : Int)] w fun e w' => e = .returned (.int .i64 (endN (par l) n i : Nat)) ∧ Below w.heap.size w w' := by
  have hb0 : Below w.heap.size w (w.alloc (.cells #[.slice A n c] 24)) := (Below.refl _ _).alloc (Nat.le_refl _) _
  have HB0 := Lib.hid hb0
  have HK := Lib.hid (Bk.new w 24 #[.slice A n c])
  have HA := Lib.hid (ha.below hb0 (Nat.le_refl _))
  clear hb0 ha
  go_enter Try.func43, Try.ntmps43
  go_upto_region 4 with (go_at_call 41; refine (has_yes A n c i (by omega) (by omega) _).mono ?_; rintro e w1 ⟨rfl, hb1⟩; have HB1 := Lib.hid hb1; clear hb1)
  have hk1 := HK.out.below HB1.out HK.out.lt
  have HK1 := Lib.hid hk1
  have HA1 := Lib.hid (HA.out.below HB1.out (Nat.le_refl _))
  have HBW := Lib.hid (HB0.out.trans (HB1.out.mono HB0.out.size))
  have z0 : w1.cell? ⟨w.heap.size, 0, none⟩ = some (.slice A n c) := hk1.cell 0
  have lz := hk1.lt
  clear hk1 HK HA HB0 HB1
  go_loopg [5] n (fun gk v wr => ∃ e : Nat, v = .int .i64 (e : Int) ∧ e ≤ n ∧ n - e ≤ gk ∧ i < e ∧ Hid (endR (par l) (i : Int) n (n - e) e = endN (par l) n i) ∧ wr = w1)
  case atStart => exact ⟨i + 1, by go_num, by omega, by omega, by omega, Lib.hid rfl, rfl⟩
  case round =>
    obtain ⟨e, rfl, he, hg, hie, hr, rfl⟩ := hrel
    by_cases hlt : e < n
    · have hel : e < l.length := by omega
      have i1 : (e : Int) < (n : Int) := by omega
      obtain ⟨b, off, rfl, hat⟩ := HA1.out.at_ hel
      have x4 := hat.c4
      have lb := hat.lt
      rw [← par_get hel] at x4
      obtain ⟨P, hP⟩ : ∃ P, par l e = P := ⟨_, rfl⟩
      have hstep : endR (par l) (i : Int) n (n - e) e = if (i : Int) ≤ P then endR (par l) (i : Int) n (n - (e + 1)) (e + 1) else e := by
        rw [show n - e = (n - (e + 1)) + 1 by omega, endR, hP]
        by_cases c : (i : Int) ≤ P
        · rw [if_pos ⟨hlt, c⟩, if_pos c]
        · rw [if_neg (fun x => c x.2), if_neg c]
      rw [hP] at x4
      have HS := Lib.hid hstep
      clear hat hP hstep
      by_cases hc : (i : Int) ≤ P
      · go_wp2
        go_roundg (gk - 1)
        case measure => omega
        case rel => exact ⟨e + 1, by go_num, by omega, by omega, by omega, Lib.hid (by have := hr.out; rw [HS.out, if_pos hc] at this; exact this), rfl⟩
      · go_wp2
        go_ret
        have h1 := hr.out
        rw [HS.out, if_neg (by omega)] at h1
        exact ⟨by rw [← h1]; rfl, HBW.out⟩
    · obtain rfl : e = n := by omega
      have h1 := hr.out
      rw [Nat.sub_self, endR] at h1
      have H1 := Lib.hid h1
      clear h1
      go_wp2
      go_ret
      exact ⟨by rw [← H1.out]; rfl, HBW.out⟩
theorem all_yes (A : Option Addr) (n c : Nat) (l : List Nd) (hl : l.length = n) (hn : n ≤ 4398046511104) (i : Nat) (hi : i < n) (w : World) (ha : NRow w A l) : Calls Try.prog 13 #[.agg #[.slice A n c], .int .i64 (i : Int)] w (AllOut (i : Int) ((endN (par l) n i : Nat) : Int) w) := by
  obtain ⟨W0, hW0⟩ : ∃ W, (w.alloc (.cells #[.slice A n c] 24)).alloc (.cells #[.int .i64 (i : Int)] 3) = W := ⟨_, rfl⟩
  have hb0 : Below w.heap.size w W0 := hW0 ▸ ((Below.refl _ w).alloc (Nat.le_refl _) _).alloc (by simp) _
  have hk1 : Bk W0 w.heap.size 24 #[.slice A n c] := hW0 ▸ (Bk.new w 24 _).alloc _
  have hk2 : Bk W0 (w.heap.size + 1) 3 #[.int .i64 (i : Int)] := hW0 ▸ (by simpa using Bk.new (w.alloc (.cells #[.slice A n c] 24)) 3 #[.int .i64 (i : Int)])
  have z1 : W0.cell? ⟨w.heap.size, 0, none⟩ = some (.slice A n c) := hk1.cell 0
  have z2 : W0.cell? ⟨w.heap.size + 1, 0, none⟩ = some (.int .i64 (i : Int)) := hk2.cell 0
  have l1 := hk1.lt
  have l2 := hk2.lt
  have HE := Lib.hid (endOf_yes A n c l hl hn i hi W0 (ha.below hb0 (Nat.le_refl _)))
  have HB0 := Lib.hid hb0
  have HK2 := Lib.hid hk2
  have HW0 := Lib.hid hW0
  clear hb0 hk1 hk2 hW0 ha
  go_enter Try.func13, Try.ntmps13
  go_upto_region 1 with fail
  rw [HW0.out]
  clear HW0
  go_wp2_with (go_at_call 43; refine (HE.out).mono ?_; rintro e w1 ⟨rfl, hb1⟩; have HB1 := Lib.hid hb1; clear hb1)
  go_ret
  refine ⟨w.heap.size + 1, w1.heap.size, rfl, by omega, by have := HB0.out.size; have := HB1.out.size; omega, (HK2.out.below HB1.out HK2.out.lt).alloc _, Bk.new w1 3 _, (HB0.out.trans (HB1.out.mono (by have := HB0.out.size; omega))).alloc (by have := HB0.out.size; have := HB1.out.size; omega) _⟩
end Go.Proofs.Ytofllmofdenadaa
