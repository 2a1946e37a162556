/- How large a part is, as the statements ask it (deep); the document's own laying makes the very tree. No conditions but that nothing is endless. -/
import Derived.Test.YtofllmofdenadaaDz
import Derived.Test.YtofllmofdenadaaDo
namespace Go.Proofs.Ytofllmofdenadaa
set_option linter.unusedVariables false
open Go.RowKit Go.Proofs.Fm Go.Proofs.Fb Go.Proofs.Fd Go.Proofs.Fc

theorem nxt_root {p : Nat → Int} {n : Nat} (h : ordB p n = true) : ∀ k, k ≤ n → nxt p k 0 = -1
  | 0, _ => rfl
  | k + 1, hk => by
    rw [nxt, if_neg, nxt_root h k (by omega)]
    rintro ⟨h1, h2, h3⟩
    have := ord_lt h (i := k) (by omega) (by omega)
    rw [h3, ((ordB_iff _ _).1 h).1] at this
    omega
/-- the document's laying of a part is the tree that the part becomes -/
theorem lay_tree (p : Pt) : layF [] p (-1) (-1) = treeOf p := by
  have h := lay_ok p [] (-1) (-1) (.inl ⟨rfl, rfl⟩)
  obtain ⟨m, hm⟩ : ∃ m, layF [] p (-1) (-1) = m := ⟨_, rfl⟩
  rw [hm] at h ⊢
  have hb : m.map bare = pre p (-1) 0 := by have := h.bares; simpa using this
  have hlen : m.length = cnt p := by have := h.length; simpa using this
  have hpar : par m = par (pre p (-1) 0) := funext (fun i => par_eq_of (by rw [hb, pre_bare]) i)
  have hord : ordB (par m) m.length = true := by rw [hpar, hlen]; have := pre_ord p; rwa [pre_cnt] at this
  have hc : 0 < cnt p := by have := pre_pos p 0 0; rwa [pre_cnt] at this
  unfold treeOf linkL
  apply List.ext_getElem
  · rw [hlen, List.length_mapIdx, pre_cnt]
  · intro i h1 h2
    rw [List.getElem_mapIdx]
    have e1 : (pre p (-1) 0)[i]'(by simpa using h2) = bare (m[i]'h1) := by simp only [← hb, List.getElem_map]
    have e2 : lkOf (m[i]'h1) = lkAt (par m) m.length i := by
      by_cases h0 : i = 0
      · subst h0
        have := h.root (by simpa using h1)
        rw [show m[([] : List Nd).length]'h1 = m[0]'h1 from rfl] at this
        rw [this]
        unfold lkAt
        rw [nxt_root hord _ (Nat.le_refl _)]
        rfl
      · exact (h.rest i h1 (by simp; omega)).1
    rw [e1, ← hpar, pre_cnt, ← hlen, ← e2]
    rfl

theorem psizeL_take {ks : List Pt} {j : Nat} (h : j < ks.length) : psizeL (ks.take (j + 1)) = psizeL (ks.take j) + psize (ks[j]'h) := by
  rw [List.take_succ_eq_append_getElem h]
  have : ∀ a b : List Pt, psizeL (a ++ b) = psizeL a + psizeL b := by
    intro a b
    induction a with
    | nil => rw [psizeL_nil]; simp
    | cons x t ih => rw [List.cons_append, psizeL_cons, psizeL_cons, ih]; omega
  rw [this, psizeL_cons, psizeL_nil]; omega
/-- what deep answers: 2000 or more, or no less than how many parts there are -/
def DeepOut (p : Pt) (n : Nat) (w : World) (e : Ending) (w' : World) : Prop := ∃ R : Nat, e = .returned (.int .i64 (R : Int)) ∧ 1 ≤ R ∧ R ≤ 2000 * (602 - n) ∧ (R < 2000 → psize p ≤ R) ∧ Below w.heap.size w w'
def DeepSpec (p : Pt) : Prop := ∀ (nm tx : Str) (al : List Att) (ks : List Pt) (A K : Option Addr) (m c d n : Nat) (w : World), p = .mk nm tx al ks → n ≤ 601 → KVal w (.slice K ks.length d) ks → AVal w (.slice A m c) al →
  Calls Try.prog 22 #[.agg #[str nm, str tx, .slice A m c, .slice K ks.length d], .int .i64 (n : Int)] w (DeepOut p n w)
/-- a kid as it stands in memory, by what its cells hold -/
theorem kid_cells {w : World} {ks : List Pt} {j b o : Nat} (hc : PCells w b o ks) (hj : j < ks.length) : ∃ nm tx al ks' A c K d, ks[j]'hj = .mk nm tx al ks' ∧ w.cell? ⟨b, o + j * 4, none⟩ = some (str nm) ∧ w.cell? ⟨b, o + j * 4 + 1, none⟩ = some (str tx) ∧
    w.cell? ⟨b, o + j * 4 + 2, none⟩ = some (.slice A (List.length (α := Att) al) c) ∧ w.cell? ⟨b, o + j * 4 + 3, none⟩ = some (.slice K (List.length (α := Pt) ks') d) ∧ AVal w (.slice A al.length c) al ∧ KVal w (.slice K ks'.length d) ks' ∧ b < w.heap.size := by
  have hcell := PCells_get hc j hj
  obtain ⟨k, hk⟩ : ∃ k, ks[j]'hj = k := ⟨_, rfl⟩
  rw [hk] at hcell
  obtain ⟨nm, tx, al, ks'⟩ := k
  rw [PCell_eq] at hcell
  obtain ⟨q0, q1, ⟨va, q2, hva⟩, vk, q3, hvk⟩ := hcell
  obtain ⟨A1, c1, rfl, har⟩ := hva.ex
  obtain ⟨K1, d1, rfl, hkr⟩ := hvk
  exact ⟨nm, tx, al, ks', A1, c1, K1, d1, hk, q0, q1, q2, q3, hva, ⟨K1, d1, rfl, hkr⟩, World.block_lt_of_cell? _ _ q0⟩
set_option maxHeartbeats 4000000 in
theorem deep_ok (p : Pt) : DeepSpec p := by
  refine Pt.ind (C := DeepSpec) (fun p ih => ?_) p
  intro nm tx al ks A K m c d n w hp hn hk ha
  have hb0 : Below w.heap.size w (w.alloc (.cells #[str nm, str tx, .slice A m c, .slice K ks.length d] 31)) := (Below.refl _ _).alloc (Nat.le_refl _) _
  have HBX := Lib.hid (Bk.new w 31 #[str nm, str tx, .slice A m c, .slice K ks.length d])
  have HB0 := Lib.hid hb0
  obtain ⟨K', d', hkv, hkd, hdm, hkn, hkc⟩ := hk
  have hkc : ks = [] ∨ ∃ b' off, K = some ⟨b', off, none⟩ ∧ PCells w b' off ks := by injection hkv with h1 h2 h3; rw [h1]; exact hkc
  have HKC := Lib.hid hkc
  have hkl : ks.length ≤ 9223372036854775807 := by omega
  have HIH := Lib.hid (show ∀ k ∈ ks, DeepSpec k from fun k hk => ih k (by rw [hp]; exact hk))
  have HPS : Hid (psize p = 1 + psizeL ks) := Lib.hid (by rw [psize_eq, hp]; rfl)
  clear hkv hkd hdm hkn hkc ih hp ha hb0
  go_enter Try.func22, Try.ntmps22
  go_upto_region 3 with fail
  obtain ⟨W0, hW0⟩ : ∃ W, w.alloc (.cells #[str nm, str tx, .slice A m c, .slice K ks.length d] 31) = W := ⟨_, rfl⟩
  rw [hW0] at HBX HB0 ⊢
  clear hW0
  have hz0 := HB0.out.size
  go_loopg [5, 6] ks.length (fun gk kv i wr => ∃ (j R : Nat), j + gk = ks.length ∧ i = .int .i64 (j : Int) ∧ kv = .int .i64 (R : Int) ∧ 1 ≤ R ∧ Hid (R ≤ 2000 * (602 - n)) ∧ Hid (R < 2000 → 1 + psizeL (ks.take j) ≤ R) ∧ Hid (Below W0.heap.size W0 wr))
  case atStart => exact ⟨0, 1, by omega, rfl, rfl, Nat.le_refl _, Lib.hid (by omega), Lib.hid (fun _ => by rw [List.take_zero, psizeL_nil]; omega), Lib.hid (Below.refl _ _)⟩
  case round =>
    obtain ⟨j, R, hj, rfl, rfl, hR1, hR2, hR3, hb⟩ := hrel
    have hbk := HBX.out.below hb.out HBX.out.lt
    have z3 : wr.cell? ⟨w.heap.size, 3, none⟩ = some (.slice K ks.length d) := hbk.cell 3
    have lz := hbk.lt
    have HBW := Lib.hid (HB0.out.trans (hb.out.mono hz0))
    have hR2' : R ≤ 1204000 := by have := hR2.out; omega
    clear hbk
    by_cases hlt : j < ks.length ∧ R < 2000
    · obtain ⟨hlt, hRlt⟩ := hlt
      have i1 : (j : Int) < (ks.length : Int) := by omega
      have i2 : (R : Int) < 2000 := by omega
      by_cases h600 : 600 < n
      · have i3 : (600 : Int) < (n : Int) := by omega
        go_wp2
        go_ret
        exact ⟨2000, rfl, by omega, by omega, by omega, HBW.out⟩
      · have i3 : ¬ ((600 : Int) < (n : Int)) := by omega
        rcases HKC.out with hk0 | ⟨b', off, rfl, hkc⟩
        · rw [hk0] at hlt; simp at hlt
        · obtain ⟨nm', tx', al', ks', A1, c1, K1, d1, hkj, q0, q1, q2, q3, hva, hvk, hbw⟩ := kid_cells hkc hlt
          have HKJ := Lib.hid (HIH.out _ (List.getElem_mem hlt))
          rw [hkj] at HKJ
          have q0 := (HBW.out.cell (p := ⟨b', off + j * 4, none⟩) hbw).trans q0
          have q1 := (HBW.out.cell (p := ⟨b', off + j * 4 + 1, none⟩) hbw).trans q1
          have q2 := (HBW.out.cell (p := ⟨b', off + j * 4 + 2, none⟩) hbw).trans q2
          have q3 := (HBW.out.cell (p := ⟨b', off + j * 4 + 3, none⟩) hbw).trans q3
          have HPT := Lib.hid (psizeL_take hlt)
          rw [hkj] at HPT
          have HC := Lib.hid (HKJ.out nm' tx' al' ks' A1 K1 al'.length c1 d1 (n + 1) wr rfl (by omega) (hvk.below HBW.out (Nat.le_refl _)) (hva.below HBW.out (Nat.le_refl _)))
          have hbr : b' < wr.heap.size := by have := HBW.out.size; omega
          clear hkj hkc hva hvk hbw
          dsimp only [str] at q0 q1 HC
          have hn1 : ((n + 1 : Nat) : Int) = (n : Int) + 1 := by omega
          rw [hn1] at HC
          clear hn1
          go_wp2_with (go_at_call 22; refine (HC.out).mono ?_; rintro e w2 ⟨R2, rfl, h1, h2, h3, hb2⟩; have H3 := Lib.hid h3; have h2' : R2 ≤ 1204000 := (by omega); have HB2 := Lib.hid (hb.out.trans (hb2.mono hb.out.size)); clear h3 hb2)
          go_roundg (gk - 1)
          case measure => omega
          case rel => exact ⟨j + 1, R + R2, by omega, by go_num, by go_num, by omega, Lib.hid (by omega), Lib.hid (fun hh => by rw [HPT.out]; have := hR3.out (by omega); have := H3.out (by omega); omega), HB2⟩
    · have HF : Hid (R < 2000 → psize p ≤ R) := Lib.hid (fun hh => by
        have hje : j = ks.length := by omega
        have := hR3.out hh
        rw [hje, List.take_of_length_le (Nat.le_refl _)] at this
        rw [HPS.out]; exact this)
      by_cases h1 : j < ks.length
      · have i1 : (j : Int) < (ks.length : Int) := by omega
        have i2 : ¬ ((R : Int) < 2000) := by omega
        go_wp2
        go_ret
        exact ⟨R, rfl, hR1, hR2.out, HF.out, HBW.out⟩
      · have i1 : ¬ ((j : Int) < (ks.length : Int)) := by omega
        go_wp2
        go_ret
        exact ⟨R, rfl, hR1, hR2.out, HF.out, HBW.out⟩
end Go.Proofs.Ytofllmofdenadaa
