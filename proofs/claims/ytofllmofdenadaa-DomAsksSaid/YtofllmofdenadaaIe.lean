/- The value of a node's attribute: dom's Attr. No conditions but that lists are not endless. -/
import Derived.Test.YtofllmofdenadaaGb
namespace Go.Proofs.Ytofllmofdenadaa
set_option linter.unusedVariables false
open Go.RowKit Go.Proofs.Fm Go.Proofs.Fb Go.Proofs.Fd Go.Proofs.Fc

/-- the value of the attribute of a name, and whether there is one -/
def attrV (al : List Att) (nm : Str) : Str × Bool := match al.findIdx? (fun a => a.1 == nm) with | some i => ((al.getD i ([], [])).2, true) | none => ([], false)
def attrW (l : List Nd) (i : Int) (nm : Str) : Str × Bool := if 0 ≤ i ∧ i < (l.length : Int) then (match l[i.toNat]? with | some x => attrV x.attrs nm | none => ([], false)) else ([], false)
set_option maxHeartbeats 2000000 in
theorem attr_any (A : Option Addr) (n c : Nat) (l : List Nd) (hl : l.length = n) (hn : n ≤ 4398046511104) (i : Int) (nm : Str) (w : World) (ha : NRow w A l) :
    Calls Try.prog 12 #[.agg #[.slice A n c], .int .i64 i, str nm] w fun e w' => e = .returned (.tuple #[str (attrW l i nm).1, .bool (attrW l i nm).2]) ∧ Below w.heap.size w w' := by
  have hb0 : Below w.heap.size w (w.alloc (.cells #[.slice A n c] 24)) := (Below.refl _ _).alloc (Nat.le_refl _) _
  have HB0 := Lib.hid hb0
  have HK := Lib.hid (Bk.new w 24 #[.slice A n c])
  have HA := Lib.hid (ha.below hb0 (Nat.le_refl _))
  clear hb0 ha
  by_cases hi : 0 ≤ i ∧ i < (n : Int)
  · obtain ⟨k, rfl⟩ := Int.eq_ofNat_of_zero_le hi.1
    have hil : k < l.length := by omega
    have hW : attrW l (k : Int) nm = attrV (l[k]'hil).attrs nm := by
      unfold attrW
      rw [if_pos ⟨by omega, by omega⟩, Int.toNat_natCast, List.getElem?_eq_getElem hil]
    obtain ⟨al, hal⟩ : ∃ al, (l[k]'hil).attrs = al := ⟨_, rfl⟩
    rw [hW, hal]
    clear hW
    have HAL := Lib.hid hal
    clear hal
    obtain ⟨b, off, rfl, -⟩ := HA.out.at_ hil
    dsimp only [str]
    go_enter Try.func12, Try.ntmps12
    go_upto_region 3 with (go_at_call 41; refine (has_yes _ n c k (by omega) (by omega) _).mono ?_; rintro e w1 ⟨rfl, hb1⟩; have HB1 := Lib.hid hb1; clear hb1)
    have hk1 := HK.out.below HB1.out HK.out.lt
    have z0 : w1.cell? ⟨w.heap.size, 0, none⟩ = some (.slice (some ⟨b, off, none⟩) n c) := hk1.cell 0
    have lz := hk1.lt
    obtain ⟨b2, o2, he2, hat⟩ := (HA.out.below HB1.out (Nat.le_refl _)).at_ hil
    obtain ⟨rfl, rfl⟩ : b2 = b ∧ o2 = off := by injection he2 with he2; injection he2 with h1 h2; exact ⟨h1.symm, h2.symm⟩
    obtain ⟨v, c3, hav⟩ := hat.c3
    rw [HAL.out] at hav
    obtain ⟨A1, d1, rfl, har, -, hlim, -⟩ := hav.ex
    have lb := hat.lt
    have i1 : (k : Int) < (n : Int) := by omega
    have HAR := Lib.hid har
    have HF := Lib.hid (fun W (h : Below w1.heap.size w1 W) => find_any A1 al.length d1 al nm rfl hlim W (har.below h (Nat.le_refl _)))
    dsimp only [str] at HF
    have hz := HB0.out.size
    have HBB := Lib.hid (HB0.out.trans (HB1.out.mono hz))
    have HF1 := Lib.hid (HF.out w1 (Below.refl _ _))
    clear hk1 hat hav har he2 HF
    go_upto_region 5 with (go_at_call 42; refine (HF1.out).mono ?_; rintro e w2 ⟨rfl, hb2⟩; have HB2 := Lib.hid hb2; clear hb2)
    clear HF1 z0 c3
    have HB3 := Lib.hid (HBB.out.trans (HB2.out.mono HBB.out.size))
    rcases hf : al.findIdx? (fun a => a.1 == nm) with _ | j
    · have h1 : findI al nm = -1 := by unfold findI; rw [hf]
      have h2 : Hid (attrV al nm = ([], false)) := Lib.hid (by unfold attrV; rw [hf])
      rw [h1]
      clear hf h1
      go_wp2
      exact bodyPost_ret (v := .tuple #[.string ⟨#[]⟩, .bool false]) (by simp [results, Try.results12, go_sem]) rfl ⟨by rw [h2.out], HB3.out⟩
    · have h1 : findI al nm = (j : Int) := by unfold findI; rw [hf]
      have hjl : j < al.length := by
        have := List.findIdx?_eq_some_iff_findIdx_eq.1 hf
        exact this.1
      have h2 : Hid (attrV al nm = ((al[j]'hjl).2, true)) := Lib.hid (by
        unfold attrV; rw [hf]
        simp [List.getD_eq_getElem?_getD, List.getElem?_eq_getElem hjl])
      rw [h1]
      obtain ⟨b3, o3, rfl, hcells⟩ := HAR.out (by intro e; rw [e] at hjl; simp at hjl)
      have hcc := (hcells j hjl).2
      obtain ⟨V, hV⟩ : ∃ V, (al[j]'hjl).2 = V := ⟨_, rfl⟩
      rw [hV] at hcc h2
      have hb3 : b3 < w1.heap.size := World.block_lt_of_cell? _ _ hcc
      have x1 := (HB2.out.cell (p := ⟨b3, o3 + j * 2 + 1, none⟩) hb3).trans hcc
      have lb3 : b3 < w2.heap.size := by have := HB2.out.size; omega
      have i2 : (j : Int) < (al.length : Int) := by omega
      have i3 : ¬ ((j : Int) < 0) := by omega
      dsimp only [str] at x1
      clear hf h1 hcells hcc hV
      go_wp2
      exact bodyPost_ret (v := .tuple #[.string ⟨V.toArray⟩, .bool true]) (by simp [results, Try.results12, go_sem]) rfl ⟨by rw [h2.out], HB3.out⟩
  · have hW : attrW l i nm = ([], false) := by unfold attrW; rw [if_neg (by rw [hl]; exact hi)]
    rw [hW]
    clear hW
    dsimp only [str]
    go_enter Try.func12, Try.ntmps12
    go_wp2_with (go_at_call 41; refine (has_no A n c i hi _).mono ?_; rintro e w1 ⟨rfl, hb1⟩; have HB1 := Lib.hid (HB0.out.trans (hb1.mono (by simp))); clear hb1)
    exact bodyPost_ret (v := .tuple #[.string ⟨#[]⟩, .bool false]) (by simp [results, Try.results12, go_sem]) rfl ⟨rfl, HB1.out⟩
end Go.Proofs.Ytofllmofdenadaa
