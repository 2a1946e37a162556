/- The document's own number of an element among its Parent's: casementref5's Index, of a tree that is as said. No conditions but that the list is not endless. -/
import Derived.Test.YtofllmofdenadaaDs
namespace Go.Proofs.Ytofllmofdenadaa
set_option linter.unusedVariables false
open Go.RowKit Go.Proofs.Fm Go.Proofs.Fb Go.Proofs.Fd Go.Proofs.Fc

theorem said_prv {l : List Nd} (h : SaidF l) {a : Nat} (ha : a < l.length) : -1 ≤ prv l a ∧ prv l a < (a : Int) := by
  rw [prv_get ha, h.prev a ha]
  have := lst_bd (par l) (par l a) a
  omega
theorem idx_up {l : List Nd} {n a : Nat} (h : SaidF l) (hn : l.length = n) (ha : a < n) : idxUp (prv l) (elB l) a n = (if elB l a = true then 1 else 0) + idxUp (prv l) (elB l) (prv l a) n := by
  have hp := said_prv h (a := a) (by omega)
  rw [idxUp_step _ _ a n (by omega)]
  congr 1
  unfold idxUp
  by_cases c : 0 ≤ prv l a
  · rw [if_pos ⟨c, hp.2⟩, if_pos ⟨c, by omega⟩]
  · rw [if_neg (fun x => c x.1), if_neg (fun x => c x.1)]
set_option maxHeartbeats 2000000 in
theorem refIndex_any (A : Option Addr) (n c : Nat) (l : List Nd) (hl : l.length = n) (hn : n ≤ 4398046511104) (hs : SaidF l) (i : Int) (w : World) (ha : NRow w A l) :
    Calls Try.prog 27 #[.agg #[.slice A n c], .int .i64 i] w fun e w' => e = .returned (.int .i64 (indexE l i)) ∧ Below w.heap.size w w' := by
  have hb0 : Below w.heap.size w (w.alloc (.cells #[.slice A n c] 24)) := (Below.refl _ _).alloc (Nat.le_refl _) _
  have HB := Lib.hid hb0
  have HA := Lib.hid (ha.below hb0 (Nat.le_refl _))
  have HS := Lib.hid hs
  clear ha hb0 hs
  by_cases hi : 0 ≤ i ∧ i < (n : Int)
  · obtain ⟨a, rfl⟩ := Int.eq_ofNat_of_zero_le hi.1
    have hal : a < l.length := by omega
    obtain ⟨b, off, rfl, hat⟩ := HA.out.at_ hal
    have x0 := hat.c0
    have x7 := hat.c7
    rw [← prv_get hal] at x7
    have hel := elB_get hal
    have lb : b < w.heap.size + 1 := by have := hat.lt; simpa using this
    have hp := said_prv HS.out hal
    have hu := idx_up HS.out hl (a := a) (by omega)
    obtain ⟨KD, hKD⟩ : ∃ k, (l[a]'hal).kind = k := ⟨_, rfl⟩
    rw [hKD] at x0 hel
    obtain ⟨P, hP⟩ : ∃ P, prv l a = P := ⟨_, rfl⟩
    rw [hP] at x7 hp hu
    have HU := Lib.hid hu
    have HEL := Lib.hid hel
    have i1 : ¬ ((a : Int) < 0) := by omega
    have i2 : ¬ ((n : Int) ≤ (a : Int)) := by omega
    have i3 : (a : Int) < (n : Int) := by omega
    clear hat hKD hP hu hel
    by_cases hk : KD = 1
    · subst hk
      have hE : Hid (indexE l (a : Int) = idxUp (prv l) (elB l) (a : Int) n) := Lib.hid (by unfold indexE; rw [if_pos ⟨by omega, by omega, by rw [Int.toNat_natCast, HEL.out]; rfl⟩, hl])
      go_enter Try.func27, Try.ntmps27
      go_upto_region 5 with fail
      clear x0 x7
      go_loopg [5, 6] n (fun gk d v wr => ∃ (y z : Int), v = .int .i64 y ∧ d = .int .i64 z ∧ -1 ≤ y ∧ y < (n : Int) ∧ y + 1 ≤ (gk : Int) ∧ 0 ≤ z ∧ z + y + 1 ≤ (n : Int) ∧ Hid (z + idxUp (prv l) (elB l) y n = indexE l (a : Int)) ∧ wr = w.alloc (.cells #[.slice (some ⟨b, off, none⟩) n c] 24))
      case atStart => exact ⟨P, 1, rfl, rfl, by omega, by omega, by omega, by omega, by omega, Lib.hid (by have h1 := HU.out; have h2 := hE.out; rw [HEL.out] at h1; simp at h1; omega), rfl⟩
      case round =>
        obtain ⟨y, z, rfl, rfl, hy1, hy2, hyg, hz0, hzy, hr, rfl⟩ := hrel
        by_cases h0 : 0 ≤ y
        · obtain ⟨q, rfl⟩ := Int.eq_ofNat_of_zero_le h0
          have hql : q < l.length := by omega
          obtain ⟨b2, off2, he2, hat⟩ := HA.out.at_ hql
          obtain ⟨rfl, rfl⟩ : b = b2 ∧ off = off2 := by injection he2 with he2; injection he2 with h1 h2; exact ⟨h1, h2⟩
          have x0 := hat.c0
          have x7 := hat.c7
          rw [← prv_get hql] at x7
          have hel := elB_get hql
          have hp := said_prv HS.out hql
          have hu := idx_up HS.out hl (a := q) (by omega)
          obtain ⟨KD, hKD⟩ : ∃ k, (l[q]'hql).kind = k := ⟨_, rfl⟩
          rw [hKD] at x0 hel
          obtain ⟨P2, hP⟩ : ∃ P, prv l q = P := ⟨_, rfl⟩
          rw [hP] at x7 hp hu
          rw [hel] at hu
          have HU2 := Lib.hid hu
          have h4 : (q : Int) < (n : Int) := by omega
          clear hat hKD hP hu hel he2
          by_cases hk : KD = 1
          · subst hk
            go_wp2
            go_roundg q
            case measure => omega
            case rel => exact ⟨P2, z + 1, rfl, by go_num, by omega, by omega, by omega, by omega, by omega, Lib.hid (by have h1 := HU2.out; have h2 := hr.out; simp at h1; omega), rfl⟩
          · have hkb : (KD == 1) = false := by simpa using hk
            rw [hkb] at HU2
            go_wp2
            go_roundg q
            case measure => omega
            case rel => exact ⟨P2, z, rfl, rfl, by omega, by omega, by omega, by omega, by omega, Lib.hid (by have h1 := HU2.out; have h2 := hr.out; simp at h1; omega), rfl⟩
        · have hno := idxUp_no (prv l) (elB l) y n (fun x => h0 x.1)
          have HF : Hid (z = indexE l (a : Int)) := Lib.hid (by have := hr.out; omega)
          clear hno hr
          go_wp2
          go_ret
          exact ⟨by rw [← HF.out]; rfl, HB.out⟩
    · have hkb : (KD == 1) = false := by simpa using hk
      have hkn : (KD != 1) = true := by simpa using hk
      have hE : Hid (indexE l (a : Int) = 0) := Lib.hid (by unfold indexE; rw [if_neg]; rintro ⟨-, -, h3⟩; rw [Int.toNat_natCast, HEL.out, hkb] at h3; cases h3)
      go_enter Try.func27, Try.ntmps27
      go_wp2
      go_ret
      exact ⟨by rw [hE.out]; rfl, HB.out⟩
  · have hE : Hid (indexE l i = 0) := Lib.hid (by unfold indexE; rw [if_neg]; rintro ⟨h1, h2, -⟩; exact hi ⟨h1, by omega⟩)
    by_cases h0 : i < 0
    · go_enter Try.func27, Try.ntmps27
      go_wp2
      go_ret
      exact ⟨by rw [hE.out]; rfl, HB.out⟩
    · have h1 : (n : Int) ≤ i := by omega
      go_enter Try.func27, Try.ntmps27
      go_wp2
      go_ret
      exact ⟨by rw [hE.out]; rfl, HB.out⟩
end Go.Proofs.Ytofllmofdenadaa
