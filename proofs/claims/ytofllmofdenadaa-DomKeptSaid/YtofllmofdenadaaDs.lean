/- The number of an element among its Parent's elements: dom's Index; the value of an attribute: dom's Attr. No conditions but that lists are not endless. -/
import Derived.Test.YtofllmofdenadaaDl
namespace Go.Proofs.Ytofllmofdenadaa
set_option linter.unusedVariables false
open Go.RowKit Go.Proofs.Fm Go.Proofs.Fb Go.Proofs.Fd Go.Proofs.Fc

def prv (l : List Nd) (i : Nat) : Int := match l[i]? with | some x => x.prev | none => -1
def elB (l : List Nd) (i : Nat) : Bool := match l[i]? with | some x => x.kind == 1 | none => false
theorem prv_get {l : List Nd} {i : Nat} (h : i < l.length) : prv l i = (l[i]'h).prev := by simp [prv, List.getElem?_eq_getElem h]
theorem elB_get {l : List Nd} {i : Nat} (h : i < l.length) : elB l i = ((l[i]'h).kind == 1) := by simp [elB, List.getElem?_eq_getElem h]
/-- how many elements on the way back -/
def idxUp (q : Nat → Int) (e : Nat → Bool) (v b : Int) : Int := if 0 ≤ v ∧ v < b then ((((anc q v.toNat).filter e).length : Nat) : Int) else 0
theorem idxUp_step (q : Nat → Int) (e : Nat → Bool) (a : Nat) (b : Int) (h : (a : Int) < b) : idxUp q e a b = (if e a = true then 1 else 0) + idxUp q e (q a) a := by
  unfold idxUp
  rw [if_pos ⟨by omega, h⟩, Int.toNat_natCast]
  by_cases c : 0 ≤ q a ∧ q a < (a : Int)
  · rw [if_pos c, anc_step q a c.1 c.2, List.filter_cons]
    split <;> simp <;> omega
  · rw [if_neg c, anc_stop q a c, List.filter_cons]
    split <;> simp
theorem idxUp_no (q : Nat → Int) (e : Nat → Bool) (v b : Int) (h : ¬ (0 ≤ v ∧ v < b)) : idxUp q e v b = 0 := if_neg h
def indexE (l : List Nd) (i : Int) : Int := if 0 ≤ i ∧ i < (l.length : Int) ∧ elB l i.toNat = true then idxUp (prv l) (elB l) i l.length else 0
set_option maxHeartbeats 2000000 in
theorem indexN_any (A : Option Addr) (n c : Nat) (l : List Nd) (hl : l.length = n) (hn : n ≤ 4398046511104) (i : Int) (w : World) (ha : NRow w A l) :
    Calls Try.prog 17 #[.agg #[.slice A n c], .int .i64 i] w fun e w' => e = .returned (.int .i64 (indexE l i)) ∧ Below w.heap.size w w' := by
  have hb0 : Below w.heap.size w (w.alloc (.cells #[.slice A n c] 24)) := (Below.refl _ _).alloc (Nat.le_refl _) _
  have HB0 := Lib.hid hb0
  have HBK := Lib.hid (Bk.new w 24 #[.slice A n c])
  have HA0 := Lib.hid (ha.below hb0 (Nat.le_refl _))
  clear ha hb0
  by_cases hin : 0 ≤ i ∧ i < (n : Int)
  · obtain ⟨a, rfl⟩ := Int.eq_ofNat_of_zero_le hin.1
    have hal : a < l.length := by omega
    have HHAS := Lib.hid (has_yes A n c (a : Int) hin.1 hin.2 (w.alloc (.cells #[.slice A n c] 24)))
    have hek := elB_get hal
    obtain ⟨b, off, rfl, hat⟩ := HA0.out.at_ hal
    have i1 : (a : Int) < (n : Int) := by omega
    have x0 := hat.c0
    obtain ⟨KA, hKA⟩ : ∃ k, (l[a]'hal).kind = k := ⟨_, rfl⟩
    rw [hKA] at x0 hek
    clear hKA hat hin
    have hbx : b < w.heap.size + 1 := by have := World.block_lt_of_cell? _ _ x0; simpa using this
    by_cases hk : KA = 1
    · have k0 : (KA != 1) = false := by rw [hk]; rfl
      have HRES : Hid (indexE l (a : Int) = idxUp (prv l) (elB l) a n) := Lib.hid (by
        unfold indexE
        rw [if_pos ⟨by omega, by omega, by rw [Int.toNat_natCast, hek, hk]; rfl⟩, hl])
      subst hk
      clear hek
      go_enter Try.func17, Try.ntmps17
      go_upto_region 5 with (go_at_call 41; refine (HHAS.out).mono ?_; rintro e W0 ⟨rfl, hbb⟩; have HB1 := Lib.hid (HB0.out.trans (hbb.mono (by simp))); have HBK1 := Lib.hid (HBK.out.below hbb HBK.out.lt); have HA1 := Lib.hid (HA0.out.below hbb (Nat.le_refl _)); have x1 : W0.cell? ⟨b, off + a * 9, none⟩ = some (.int .i64 1) := (hbb.cell (p := ⟨b, off + a * 9, none⟩) (by simpa using hbx)).trans x0; have z0 : W0.cell? ⟨w.heap.size, 0, none⟩ = some (.slice (some ⟨b, off, none⟩) n c) := HBK1.out.cell 0; clear hbb)
      clear x0 x1
      go_loopg [1, 5, 6] n (fun gk v d bb wr => ∃ (y z : Int) (k : Nat), v = .int .i64 y ∧ d = .int .i64 z ∧ bb = .int .i64 (k : Int) ∧ k ≤ gk ∧ k ≤ n ∧ 0 ≤ z ∧ z + k ≤ n ∧ Hid (z + idxUp (prv l) (elB l) y k = indexE l (a : Int)) ∧ wr = W0)
      case atStart => exact ⟨a, 0, n, rfl, rfl, rfl, Nat.le_refl _, Nat.le_refl _, by omega, by omega, Lib.hid (by rw [HRES.out]; omega), rfl⟩
      case round =>
        obtain ⟨y, z, k, rfl, rfl, rfl, hkg, hkn, hz0, hzk, hr, rfl⟩ := hrel
        by_cases hc : 0 ≤ y ∧ y < (k : Int)
        · obtain ⟨j, rfl⟩ := Int.eq_ofNat_of_zero_le hc.1
          obtain ⟨-, h1⟩ := hc
          have hjl : j < l.length := by omega
          obtain ⟨b2, off2, he2, hat⟩ := HA1.out.at_ hjl
          obtain ⟨rfl, rfl⟩ : b2 = b ∧ off2 = off := by injection he2 with he2; injection he2 with h1 h2; exact ⟨h1.symm, h2.symm⟩
          have hs := idxUp_step (prv l) (elB l) j k h1
          have hp := prv_get hjl
          have hej := elB_get hjl
          have x7 := hat.c7
          have y0 := hat.c0
          obtain ⟨P, hP⟩ : ∃ P, prv l j = P := ⟨_, rfl⟩
          rw [hP] at hs
          rw [← hp, hP] at x7
          obtain ⟨KJ, hKJ⟩ : ∃ k, (l[j]'hjl).kind = k := ⟨_, rfl⟩
          rw [hKJ] at y0 hej
          rw [hej] at hs
          have HS := Lib.hid hs
          have h3 : 0 ≤ (j : Int) := by omega
          have h4 : (j : Int) < (n : Int) := by omega
          clear hat hp hs hP he2 hej hKJ
          rcases hkk : (KJ == 1) with _ | _
          · rw [hkk] at HS
            go_wp2
            go_roundg j
            case measure => omega
            case rel => exact ⟨_, _, j, rfl, rfl, rfl, Nat.le_refl _, by omega, by omega, by omega, Lib.hid (by have h5 := hr.out; have h6 := HS.out; simp at h6; omega), rfl⟩
          · rw [hkk] at HS
            go_wp2
            go_roundg j
            case measure => omega
            case rel => exact ⟨_, _, j, rfl, rfl, rfl, Nat.le_refl _, by omega, by omega, by omega, Lib.hid (by have h5 := hr.out; have h6 := HS.out; simp at h6; omega), rfl⟩
        · have hno := idxUp_no (prv l) (elB l) y k hc
          have HF : Hid (z = indexE l (a : Int)) := Lib.hid (by have := hr.out; omega)
          clear hno hr
          by_cases h0 : 0 ≤ y
          · have h1 : ¬ (y < (k : Int)) := fun x => hc ⟨h0, x⟩
            go_wp2
            go_ret
            exact ⟨by rw [← HF.out]; rfl, HB1.out⟩
          · go_wp2
            go_ret
            exact ⟨by rw [← HF.out]; rfl, HB1.out⟩
    · have k0 : (KA != 1) = true := by rw [bne_iff_ne]; exact hk
      have HRES : Hid (indexE l (a : Int) = 0) := Lib.hid (by
        unfold indexE
        rw [if_neg]
        rintro ⟨_, _, h⟩
        rw [Int.toNat_natCast, hek, beq_iff_eq] at h
        exact hk h)
      clear hek hk
      go_enter Try.func17, Try.ntmps17
      go_wp2_with (go_at_call 41; refine (HHAS.out).mono ?_; rintro e W0 ⟨rfl, hbb⟩; have HB1 := Lib.hid (HB0.out.trans (hbb.mono (by simp))); have HBK1 := Lib.hid (HBK.out.below hbb HBK.out.lt); have x1 : W0.cell? ⟨b, off + a * 9, none⟩ = some (.int .i64 KA) := (hbb.cell (p := ⟨b, off + a * 9, none⟩) (by simpa using hbx)).trans x0; have z0 : W0.cell? ⟨w.heap.size, 0, none⟩ = some (.slice (some ⟨b, off, none⟩) n c) := HBK1.out.cell 0; clear hbb)
      go_ret
      exact ⟨by rw [HRES.out]; rfl, HB1.out⟩
  · have HHAS := Lib.hid (has_no A n c i hin (w.alloc (.cells #[.slice A n c] 24)))
    have HRES : Hid (indexE l i = 0) := Lib.hid (by
      unfold indexE
      rw [if_neg]
      rintro ⟨h1, h2, _⟩
      exact hin ⟨h1, by omega⟩)
    clear hin
    go_enter Try.func17, Try.ntmps17
    go_wp2_with (go_at_call 41; refine (HHAS.out).mono ?_; rintro e W0 ⟨rfl, hbb⟩; have HB1 := Lib.hid (HB0.out.trans (hbb.mono (by simp))); clear hbb)
    go_ret
    exact ⟨by rw [HRES.out]; rfl, HB1.out⟩
end Go.Proofs.Ytofllmofdenadaa
