/- The document's own value of a node's attribute: casementref5's Attr. No conditions but that lists are not endless. -/
import Derived.Test.YtofllmofdenadaaIe
namespace Go.Proofs.Ytofllmofdenadaa
set_option linter.unusedVariables false
open Go.RowKit Go.Proofs.Fm Go.Proofs.Fb Go.Proofs.Fd Go.Proofs.Fc

theorem attrV_hit {al : List Att} {nm : Str} {k : Nat} (hk : k < al.length) (hno : ((al.take k).any fun b => b.1 == nm) = false) (h : ((al[k]'hk).1 == nm) = true) : attrV al nm = ((al[k]'hk).2, true) := by
  unfold attrV
  have : al.findIdx? (fun a => a.1 == nm) = some k := by
    rw [List.findIdx?_eq_some_iff_getElem]
    refine ⟨hk, h, fun j hj => ?_⟩
    have h1 := List.any_eq_false.1 hno (al[j]) (by rw [List.mem_take_iff_getElem]; exact ⟨j, by omega, rfl⟩)
    simpa using h1
  rw [this]
  simp [List.getD_eq_getElem?_getD, List.getElem?_eq_getElem hk]
theorem attrV_none {al : List Att} {nm : Str} (hno : (al.any fun b => b.1 == nm) = false) : attrV al nm = ([], false) := by
  unfold attrV
  have : al.findIdx? (fun a => a.1 == nm) = none := by
    rw [List.findIdx?_eq_none_iff]
    intro x hx
    simpa using List.any_eq_false.1 hno x hx
  rw [this]
set_option maxHeartbeats 2000000 in
theorem refAttr_any (A : Option Addr) (n c : Nat) (l : List Nd) (hl : l.length = n) (hn : n ≤ 4398046511104) (i : Int) (nm : Str) (w : World) (ha : NRow w A l) :
    Calls Try.prog 25 #[.agg #[.slice A n c], .int .i64 i, str nm] w fun e w' => e = .returned (.tuple #[str (attrW l i nm).1, .bool (attrW l i nm).2]) ∧ Below w.heap.size w w' := by
  have hb0 : Below w.heap.size w (w.alloc (.cells #[.slice A n c] 24)) := (Below.refl _ _).alloc (Nat.le_refl _) _
  have HB0 := Lib.hid hb0
  have HA := Lib.hid (ha.below hb0 (Nat.le_refl _))
  clear hb0 ha
  by_cases hi : 0 ≤ i ∧ i < (n : Int)
  · obtain ⟨k, rfl⟩ := Int.eq_ofNat_of_zero_le hi.1
    have hil : k < l.length := by omega
    have hW : attrW l (k : Int) nm = attrV (l[k]'hil).attrs nm := by
      unfold attrW
      rw [if_pos ⟨by omega, by omega⟩, Int.toNat_natCast, List.getElem?_eq_getElem hil]
    obtain ⟨al, hal⟩ : ∃ al, (l[k]'hil).attrs = al := ⟨_, rfl⟩
    rw [hW, hal]
    clear hW
    obtain ⟨b, off, rfl, hat⟩ := HA.out.at_ hil
    obtain ⟨v, c3, hav⟩ := hat.c3
    rw [hal] at hav
    obtain ⟨A1, d1, rfl, har, -, hlim, -⟩ := hav.ex
    have lb : b < w.heap.size + 1 := by have := hat.lt; simpa using this
    have i1 : (k : Int) < (n : Int) := by omega
    have i2 : ¬ ((k : Int) < 0) := by omega
    have i3 : ¬ ((n : Int) ≤ (k : Int)) := by omega
    have HAR := Lib.hid har
    clear hal hat hav har
    dsimp only [str]
    go_enter Try.func25, Try.ntmps25
    go_upto_region 5 with fail
    clear c3
    go_loopg [9] al.length (fun gk u wr => ∃ m : Nat, m + gk = al.length ∧ u = .int .i64 (m : Int) ∧ Hid (((al.take m).any fun b => b.1 == nm) = false) ∧ wr = w.alloc (.cells #[.slice (some ⟨b, off, none⟩) n c] 24))
    case atStart => exact ⟨0, by omega, rfl, Lib.hid rfl, rfl⟩
    case round =>
      obtain ⟨m, hm, rfl, hno, rfl⟩ := hrel
      by_cases hlt : m < al.length
      · have i4 : (m : Int) < (al.length : Int) := by omega
        obtain ⟨b3, o3, rfl, hcells⟩ := HAR.out (by intro e; rw [e] at hlt; simp at hlt)
        obtain ⟨g1, g2⟩ := hcells m hlt
        have hb3 : b3 < w.heap.size + 1 := by have := World.block_lt_of_cell? _ _ g1; simpa using this
        obtain ⟨x, hx⟩ : ∃ x, al[m]'hlt = x := ⟨_, rfl⟩
        rw [hx] at g1 g2
        obtain ⟨x1, x2⟩ := x
        have HX := Lib.hid hx
        clear hcells hx
        dsimp only [str] at g1 g2
        rcases hq : (x1 == nm) with _ | _
        · have hq' : ¬ x1 = nm := by intro e; rw [e] at hq; simp at hq
          have HQ := Lib.hid hq
          go_wp2
          go_roundg (gk - 1)
          case measure => omega
          case rel => exact ⟨m + 1, by omega, by go_num, Lib.hid (by rw [List.take_succ_eq_append_getElem hlt, List.any_append, hno.out, HX.out]; simpa using hq'), rfl⟩
        · have hq' : x1 = nm := beq_iff_eq.1 hq
          subst hq'
          have h2 : Hid (attrV al x1 = (x2, true)) := Lib.hid (by rw [attrV_hit hlt hno.out (by rw [HX.out]; simp), HX.out])
          clear hno
          go_wp2
          exact bodyPost_ret (v := .tuple #[.string ⟨x2.toArray⟩, .bool true]) (by simp [results, Try.results25, go_sem]) rfl ⟨by rw [h2.out], HB0.out⟩
      · obtain rfl : m = al.length := by omega
        have h1 := hno.out
        rw [List.take_of_length_le (Nat.le_refl _)] at h1
        have h2 : Hid (attrV al nm = ([], false)) := Lib.hid (attrV_none h1)
        clear h1 hno
        go_wp2
        exact bodyPost_ret (v := .tuple #[.string ⟨#[]⟩, .bool false]) (by simp [results, Try.results25, go_sem]) rfl ⟨by rw [h2.out], HB0.out⟩
  · have hW : attrW l i nm = ([], false) := by unfold attrW; rw [if_neg (by rw [hl]; exact hi)]
    rw [hW]
    clear hW
    dsimp only [str]
    by_cases h0 : i < 0
    · go_enter Try.func25, Try.ntmps25
      go_wp2
      exact bodyPost_ret (v := .tuple #[.string ⟨#[]⟩, .bool false]) (by simp [results, Try.results25, go_sem]) rfl ⟨rfl, HB0.out⟩
    · have h1 : (n : Int) ≤ i := by omega
      go_enter Try.func25, Try.ntmps25
      go_wp2
      exact bodyPost_ret (v := .tuple #[.string ⟨#[]⟩, .bool false]) (by simp [results, Try.results25, go_sem]) rfl ⟨rfl, HB0.out⟩
end Go.Proofs.Ytofllmofdenadaa
