/- The document's own answers on right trees: casementref5's Depth and Below. No conditions but that the nodes stand in document order. -/
import Derived.Test.YtofllmofdenadaaGe
namespace Go.Proofs.Ytofllmofdenadaa
set_option linter.unusedVariables false
open Go.RowKit Go.Proofs.Fm Go.Proofs.Fb Go.Proofs.Fd Go.Proofs.Fc

theorem ord_par {p : Nat → Int} {n a : Nat} (ho : ordB p n = true) (ha : a < n) : -1 ≤ p a ∧ p a < (a : Int) := by
  by_cases h : a = 0
  · subst h; rw [((ordB_iff _ _).1 ho).1]; exact ⟨by omega, by omega⟩
  · have := ord_lt ho (i := a) (by omega) ha; omega
theorem depth_up {p : Nat → Int} {n a : Nat} (ho : ordB p n = true) (ha : a < n) : depthUp p a n = 1 + depthUp p (p a) n := by
  have h := ord_par ho ha
  rw [depthUp_step p a n (by omega)]
  congr 1
  unfold depthUp
  by_cases c : 0 ≤ p a
  · rw [if_pos ⟨c, h.2⟩, if_pos ⟨c, by omega⟩]
  · rw [if_neg (fun x => c x.1), if_neg (fun x => c x.1)]
set_option maxHeartbeats 2000000 in
theorem refDepth_any (A : Option Addr) (n c : Nat) (l : List Nd) (hl : l.length = n) (hn : n ≤ 4398046511104) (ho : ordB (par l) n = true) (i : Int) (w : World) (ha : NRow w A l) :
    Calls Try.prog 26 #[.agg #[.slice A n c], .int .i64 i] w fun e w' => e = .returned (.int .i64 (depthUp (par l) i n)) ∧ Below w.heap.size w w' := by
  have hb0 : Below w.heap.size w (w.alloc (.cells #[.slice A n c] 24)) := (Below.refl _ _).alloc (Nat.le_refl _) _
  have HR := Lib.hid (ha.below hb0 (Nat.le_refl _))
  have HB := Lib.hid hb0
  have HO := Lib.hid ho
  clear ha hb0 ho
  by_cases hi : 0 ≤ i ∧ i < (n : Int)
  · have i1 : ¬ (i < 0) := by omega
    have i2 : ¬ ((n : Int) ≤ i) := by omega
    go_enter Try.func26, Try.ntmps26
    go_upto_region 4 with fail
    go_loopg [1, 5] n (fun gk v d wr => ∃ (y z : Int), v = .int .i64 y ∧ d = .int .i64 z ∧ -1 ≤ y ∧ y < (n : Int) ∧ y + 1 ≤ (gk : Int) ∧ 0 ≤ z ∧ z + y + 1 ≤ (n : Int) ∧ Hid (z + depthUp (par l) y n = depthUp (par l) i n) ∧ wr = w.alloc (.cells #[.slice A n c] 24))
    case atStart => exact ⟨i, 0, rfl, rfl, by omega, by omega, by omega, by omega, by omega, Lib.hid (by omega), rfl⟩
    case round =>
      obtain ⟨y, z, rfl, rfl, hy1, hy2, hyg, hz0, hzy, hr, rfl⟩ := hrel
      by_cases h0 : 0 ≤ y
      · obtain ⟨a, rfl⟩ := Int.eq_ofNat_of_zero_le h0
        have hal : a < l.length := by omega
        obtain ⟨b, off, rfl, hat⟩ := HR.out.at_ hal
        have hp := par_get hal
        have hs := depth_up HO.out (a := a) (by omega)
        have hb := ord_par HO.out (a := a) (by omega)
        have x4 := hat.c4
        have hlt : b < w.heap.size + 1 := by have := hat.lt; simpa using this
        obtain ⟨P, hP⟩ : ∃ P, par l a = P := ⟨_, rfl⟩
        rw [hP] at hs hb
        rw [← hp, hP] at x4
        have HS := Lib.hid hs
        have h4 : (a : Int) < (n : Int) := by omega
        clear hat hp hs hP
        go_wp2
        go_roundg a
        case measure => omega
        case rel => exact ⟨P, z + 1, rfl, by go_num, by omega, by omega, by omega, by omega, by omega, Lib.hid (by have := hr.out; have := HS.out; omega), rfl⟩
      · have hno := depthUp_no (par l) y n (fun x => h0 x.1)
        have HF : Hid (z = depthUp (par l) i n) := Lib.hid (by have := hr.out; omega)
        clear hno hr
        go_wp2
        go_ret
        exact ⟨by rw [← HF.out]; rfl, HB.out⟩
  · have hno := depthUp_no (par l) i n hi
    have HF := Lib.hid hno
    clear hno
    by_cases h0 : i < 0
    · go_enter Try.func26, Try.ntmps26
      go_wp2
      go_ret
      exact ⟨by rw [HF.out]; rfl, HB.out⟩
    · have h1 : (n : Int) ≤ i := by omega
      go_enter Try.func26, Try.ntmps26
      go_wp2
      go_ret
      exact ⟨by rw [HF.out]; rfl, HB.out⟩
/-- does a stand over v, or is it v? -/
def overB (p : Nat → Int) (v a : Int) : Bool := if 0 ≤ v then onWay p v.toNat a else false
theorem over_step {p : Nat → Int} {n b : Nat} {a : Int} (ho : ordB p n = true) (hb : b < n) (h : (b : Int) ≠ a) : overB p b a = overB p (p b) a := by
  have hp := ord_par ho hb
  unfold overB
  rw [if_pos (by omega), Int.toNat_natCast]
  unfold onWay
  by_cases c : 0 ≤ p b
  · rw [if_pos c, anc_step p b c hp.2, List.any_cons]
    have : (((b : Nat) : Int) == a) = false := by simpa using h
    rw [this, Bool.false_or]
  · rw [if_neg c, anc_stop p b (fun x => c x.1)]
    simpa using h
theorem over_self {p : Nat → Int} (b : Nat) : overB p b (b : Int) = true := by
  unfold overB
  rw [if_pos (by omega), Int.toNat_natCast]
  exact onWay_self p b
set_option maxHeartbeats 2000000 in
theorem refBelow_any (A : Option Addr) (n c : Nat) (l : List Nd) (hl : l.length = n) (hn : n ≤ 4398046511104) (ho : ordB (par l) n = true) (a : Int) (i : Nat) (hi : i < n) (w : World) (ha : NRow w A l) :
    Calls Try.prog 30 #[.agg #[.slice A n c], .int .i64 a, .int .i64 (i : Int)] w fun e w' => e = .returned (.bool (overB (par l) i a)) ∧ Below w.heap.size w w' := by
  have hb0 : Below w.heap.size w (w.alloc (.cells #[.slice A n c] 24)) := (Below.refl _ _).alloc (Nat.le_refl _) _
  have HR := Lib.hid (ha.below hb0 (Nat.le_refl _))
  have HB := Lib.hid hb0
  have HO := Lib.hid ho
  clear ha hb0 ho
  go_enter Try.func30, Try.ntmps30
  go_upto_region 1 with fail
  go_loopg [2] n (fun gk v wr => ∃ (y : Int), v = .int .i64 y ∧ -1 ≤ y ∧ y < (n : Int) ∧ y + 1 ≤ (gk : Int) ∧ Hid (overB (par l) y a = overB (par l) i a) ∧ wr = w.alloc (.cells #[.slice A n c] 24))
  case atStart => exact ⟨i, rfl, by omega, by omega, by omega, Lib.hid rfl, rfl⟩
  case round =>
    obtain ⟨y, rfl, hy1, hy2, hyg, hr, rfl⟩ := hrel
    by_cases h0 : 0 ≤ y
    · obtain ⟨b, rfl⟩ := Int.eq_ofNat_of_zero_le h0
      by_cases he : (b : Int) = a
      · subst he
        have h1 : (((b : Nat) : Int) == ((b : Nat) : Int)) = true := by simp
        have HF : Hid (overB (par l) i (b : Int) = true) := Lib.hid (by rw [← hr.out, over_self])
        clear hr
        go_wp2
        go_ret
        exact ⟨by rw [HF.out]; rfl, HB.out⟩
      · have h1 : (((b : Nat) : Int) == a) = false := by simpa using he
        have hbl : b < l.length := by omega
        obtain ⟨g, off, rfl, hat⟩ := HR.out.at_ hbl
        have hp := par_get hbl
        have hs := over_step HO.out (b := b) (by omega) he
        have hb := ord_par HO.out (a := b) (by omega)
        have x4 := hat.c4
        have hlt : g < w.heap.size + 1 := by have := hat.lt; simpa using this
        obtain ⟨P, hP⟩ : ∃ P, par l b = P := ⟨_, rfl⟩
        rw [hP] at hs hb
        rw [← hp, hP] at x4
        have HS := Lib.hid hs
        have h4 : (b : Int) < (n : Int) := by omega
        clear hat hp hs hP
        go_wp2
        go_roundg b
        case measure => omega
        case rel => exact ⟨P, rfl, by omega, by omega, by omega, Lib.hid (by rw [← HS.out]; exact hr.out), rfl⟩
    · have HF : Hid (overB (par l) i a = false) := Lib.hid (by rw [← hr.out]; unfold overB; rw [if_neg h0])
      clear hr
      go_wp2
      go_ret
      exact ⟨by rw [HF.out]; rfl, HB.out⟩
end Go.Proofs.Ytofllmofdenadaa
