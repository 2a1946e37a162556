/- Open tags as they are written: walked. Conditions: texts are not endless. -/
import Derived.Test.YtdogcnmepaemjaaDoorRk
namespace Go.Proofs.YtdogcnmepaemjaaDoor
set_option linter.unusedVariables false
open Go.RowKit Go.Proofs.Fm Go.Proofs.Fb Go.Proofs.Fu Go.Proofs.Fr Go.Proofs.Fd Go.Proofs.Fc

structure TagSt (w : World) (x : Nd) (v : Value) (acc : Str) (W : World) : Prop where
  box : Bk W w.heap.size 41 (ndArr x v)
  bld : Bld W (w.heap.size + 1) (w.heap.size + 1) acc
  bl : Below w.heap.size w W
theorem TagSt.wrote {w W W' : World} {x : Nd} {v : Value} {acc s : Str} (h : TagSt w x v acc W) (hb : Bld W' (w.heap.size + 1) (w.heap.size + 1) (acc ++ s)) (hl : Below (w.heap.size + 1) W W') : TagSt w x v (acc ++ s) W' :=
  ⟨h.box.below hl (Nat.lt_succ_self _), hb, h.bl.trans (hl.mono (Nat.le_succ _))⟩
theorem TagSt.grow {w W W' : World} {x : Nd} {v : Value} {acc : Str} (h : TagSt w x v acc W) (hl : Below W.heap.size W W') : TagSt w x v acc W' :=
  ⟨h.box.below hl h.box.lt, h.bld.below hl, h.bl.trans (hl.mono h.bl.size)⟩
/-- no text of a node is so long that it can't be written -/
structure TagOk (x : Nd) : Prop where
  att : ∀ a ∈ x.attrs, a.2.length ≤ 17592186044416
  all : (tagW x).length ≤ 70368744177664
set_option maxHeartbeats 4000000 in
set_option maxRecDepth 100000 in
theorem openTag_any (x : Nd) (v : Value) (ho : TagOk x) (w : World) (hv : AVal w v x.attrs) : Calls Tryd.prog 27 #[ndAgg x v] w fun e w' => e = .returned (.string ⟨(tagW x).toArray⟩) ∧ Below w.heap.size w w' := by
  obtain ⟨A, c, rfl, hr, _, hl, _⟩ := hv.ex
  have HV := Lib.hid (fun W (h : Below w.heap.size w W) => hr.below h (Nat.le_refl _))
  have HLN : Hid (∀ k, k ≤ x.attrs.length → (60 :: x.name).length + (attrsW (x.attrs.take k)).length ≤ 70368744177664) := Lib.hid (fun k hk => by
    have := ho.all
    unfold tagW at this
    rw [List.length_append, List.length_append, ← List.take_append_drop k x.attrs, attrsW_append, List.length_append] at this
    omega)
  have HAT := Lib.hid ho.att
  have HALL := Lib.hid ho.all
  clear hv hr ho
  obtain ⟨TW, hTW⟩ : ∃ t, tagW x = t := ⟨_, rfl⟩
  rw [hTW] at HALL ⊢
  have HTW := Lib.hid hTW
  clear hTW
  have hst0 : TagSt w x (.slice A x.attrs.length c) [] ((w.alloc (.cells (ndArr x (.slice A x.attrs.length c)) 41)).alloc (.cells #[.pointer none, .slice none 0 0] 56)) :=
    ⟨(Bk.new w 41 _).alloc _, by have := bld_new (w.alloc (.cells (ndArr x (.slice A x.attrs.length c)) 41)); rwa [show (w.alloc (.cells (ndArr x (.slice A x.attrs.length c)) 41)).heap.size = w.heap.size + 1 by simp] at this, ((Below.refl _ w).alloc (Nat.le_refl _) _).alloc (by simp) _⟩
  obtain ⟨kd, nm, tx, al, pa, fi, la, pr, ne⟩ := x
  unfold ndAgg
  dsimp only at *
  have HN := Lib.hid (fun k h => HLN.out k h)
  go_enter Tryd.func27, Tryd.ntmps27
  go_upto_region 2 with fail
  refine wp_gen (fun W => TagSt w ⟨kd, nm, tx, al, pa, fi, la, pr, ne⟩ (.slice A al.length c) [] W) hst0 ?_
  clear hst0
  intro W1 hst1
  have s1 : W1.cell? ⟨w.heap.size, 1, none⟩ = some (.string ⟨nm.toArray⟩) := hst1.box.cell 1
  have hn0 : 1 + nm.length ≤ 70368744177664 := by have := HLN.out 0 (by omega); simp at this; omega
  have g1 : (⟨#[60]⟩ : ByteArray).size + (⟨nm.toArray⟩ : ByteArray).size ≤ 9223372036854775807 := by rw [str_len]; show 1 + nm.length ≤ _; omega
  have hz1 : w.heap.size + 1 ≤ W1.heap.size := by have := hst1.bld.lt; omega
  have HW1 := Lib.hid (write_string ((⟨#[60]⟩ : ByteArray) ++ (⟨nm.toArray⟩ : ByteArray)) hst1.bld (by rw [← size_list, ByteArray.data_append, Array.toList_append]; show 0 + (([60] : Str) ++ nm).length ≤ _; simp; omega) hz1)
  have HST1 := Lib.hid hst1
  have HE1 : Hid (((⟨#[60]⟩ : ByteArray) ++ (⟨nm.toArray⟩ : ByteArray)).data.toList = 60 :: nm) := Lib.hid (by rw [ByteArray.data_append, Array.toList_append]; rfl)
  clear hst1
  go_upto_region 3 with (go_at_call 25; refine (HW1.out).mono ?_; rintro e w2 ⟨⟨n2, rfl⟩, hb2, bl2, k2⟩; rw [HE1.out] at hb2; have HST2 := Lib.hid (HST1.out.wrote hb2 bl2); have s3 : w2.cell? ⟨w.heap.size, 3, none⟩ = some (.slice A al.length c) := HST2.out.box.cell 3; clear hb2 bl2 k2)
  clear HW1 HE1 HST1 g1 hz1 s1
  go_upto_region 4 with fail
  go_loopg [13] al.length (fun gk i wr => ∃ k : Nat, k + gk = al.length ∧ i = .int .i64 (k : Int) ∧ Hid (TagSt w ⟨kd, nm, tx, al, pa, fi, la, pr, ne⟩ (.slice A al.length c) ((60 :: nm) ++ attrsW (al.take k)) wr))
  case atStart => exact ⟨0, by omega, rfl, Lib.hid (by simpa [attrsW] using HST2.out)⟩
  case round =>
    obtain ⟨k, hk, rfl, hst⟩ := hrel
    clear HST2 s3
    by_cases hlt : k < al.length
    · have i1 : (k : Int) < (al.length : Int) := by omega
      have hrw := HV.out wr hst.out.bl
      obtain ⟨b, off, rfl, hc⟩ := hrw (by intro e; rw [e] at hlt; simp at hlt)
      obtain ⟨h0, h1⟩ := hc k hlt
      have hTK : al.take (k + 1) = al.take k ++ [al[k]'hlt] := List.take_succ_eq_append_getElem hlt
      have hak := HAT.out _ (List.getElem_mem hlt)
      have hlk := HLN.out (k + 1) (by omega)
      rw [hTK, attrsW_append, List.length_append] at hlk
      obtain ⟨a, ha⟩ : ∃ a, al[k]'hlt = a := ⟨_, rfl⟩
      rw [ha] at h0 h1 hTK hak hlk
      obtain ⟨a1, a2⟩ := a
      have hlk2 : (attrsW [(a1, a2)]) = (32 :: a1) ++ [61, 34] ++ escS true a2 ++ [34] := by simp [attrsW]
      rw [hlk2] at hlk
      have HTK := Lib.hid hTK
      have HLK2 := Lib.hid hlk2
      dsimp only [str] at h0 h1
      clear hc ha hTK hlk2
      have HST := Lib.hid hst.out
      go_upto_region 6 with fail
      refine wp_gen (fun W => TagSt w ⟨kd, nm, tx, al, pa, fi, la, pr, ne⟩ (.slice (some ⟨b, off, none⟩) al.length c) ((60 :: nm) ++ attrsW (al.take k)) W ∧ Bk W wr.heap.size 70 #[.string ⟨a1.toArray⟩, .string ⟨a2.toArray⟩]) ⟨HST.out.grow ((Below.refl _ _).alloc (Nat.le_refl _) _), Bk.new wr 70 _⟩ ?_
      rintro W5 ⟨hst5, hk5⟩
      obtain ⟨B5, hB5⟩ : ∃ B, wr.heap.size = B := ⟨_, rfl⟩
      rw [hB5] at hk5 ⊢
      have HST5 := Lib.hid hst5
      have hz : W5.heap.size ≤ W5.heap.size := Nat.le_refl _
      have hlt5 : B5 < W5.heap.size := hk5.lt
      have t0 : W5.cell? ⟨B5, 0, none⟩ = some (.string ⟨a1.toArray⟩) := hk5.cell 0
      have t1 : W5.cell? ⟨B5, 1, none⟩ = some (.string ⟨a2.toArray⟩) := hk5.cell 1
      have e1 := fun x b o => ext_cell W5.heap.size W5 x b o
      have HESC := Lib.hid (fun W => escape_any true ⟨a2.toArray⟩ (by rw [str_len]; exact hak) W)
      simp only [] at HESC
      obtain ⟨E, hE⟩ : ∃ E, escS true a2 = E := ⟨_, rfl⟩
      simp only [hE] at HESC
      rw [hE] at HLK2 hlk
      have hla : 33 + a1.length + 2 + E.length + 1 ≤ 70368744177700 := by simp at hlk; omega
      have g1 : ¬ 9223372036854775807 < 1 + a1.length := by omega
      have g2 : ¬ 9223372036854775807 < 1 + a1.length + 2 := by omega
      have g3 : ¬ 9223372036854775807 < 1 + a1.length + 2 + E.length := by omega
      have g4 : ¬ 9223372036854775807 < 1 + a1.length + 2 + E.length + 1 := by omega
      clear hst5 hk5 HST h0 h1 hE hB5
      refine region_ext_tail W5.heap.size 9 (by kernel_rfl) (by kernel_rfl) ?_
      simp only [List.take_succ_cons, List.take_zero, List.drop_succ_cons, List.drop_zero]
      repeat quiet_step ((go_at_call 9; exact call_of (HESC.out _) hz))
      refine wpQuiet_nil ?_
      intro w6 hb6
      have HST6 := Lib.hid (HST5.out.grow hb6)
      have hz6 : w.heap.size + 1 ≤ w6.heap.size := by have := HST6.out.bld.lt; omega
      have HE6 : Hid (((⟨#[32]⟩ : ByteArray) ++ ⟨a1.toArray⟩ ++ ⟨#[61, 34]⟩ ++ ⟨E.toArray⟩ ++ ⟨#[34]⟩).data.toList = attrsW [(a1, a2)]) := Lib.hid (by
        rw [HLK2.out]
        simp only [ByteArray.data_append, Array.toList_append]
        rfl)
      have HW6 := Lib.hid (write_string ((⟨#[32]⟩ : ByteArray) ++ ⟨a1.toArray⟩ ++ ⟨#[61, 34]⟩ ++ ⟨E.toArray⟩ ++ ⟨#[34]⟩) HST6.out.bld (by rw [← size_list, HE6.out, HLK2.out, List.length_append]; omega) hz6)
      clear hb6 HST5 e1 t0 t1 hz hlt5
      go_wp2_with (go_at_call 25; refine (HW6.out).mono ?_; rintro e w7 ⟨⟨n7, rfl⟩, hb7, bl7, k7⟩; rw [HE6.out] at hb7; have HST7 := Lib.hid (HST6.out.wrote hb7 bl7); clear hb7 bl7 k7)
      go_roundg (gk - 1)
      case measure => omega
      case rel => exact ⟨k + 1, by omega, by go_num, Lib.hid (by rw [HTK.out, attrsW_append, ← List.append_assoc]; exact HST7.out)⟩
    · have i1 : ¬ ((k : Int) < (al.length : Int)) := by omega
      have HST := Lib.hid hst.out
      have hkk : al.take k = al := List.take_of_length_le (by omega)
      rw [hkk] at HST
      have hz6 : w.heap.size + 1 ≤ wr.heap.size := by have := HST.out.bld.lt; omega
      have hw6 := (write_string (⟨#[62]⟩ : ByteArray) HST.out.bld (by have := HLN.out al.length (Nat.le_refl _); rw [List.take_length] at this; rw [List.length_append]; show _ + 1 ≤ _; omega) hz6)
      have hend : (60 :: nm) ++ attrsW al ++ (⟨#[62]⟩ : ByteArray).data.toList = TW := HTW.out
      rw [hend] at hw6
      have HW6 := Lib.hid hw6
      clear hkk hst hw6 hend
      go_wp2_with (first
        | (go_at_call 25; (refine (HW6.out).mono ?_; rintro e w7 ⟨⟨n7, rfl⟩, hb7, bl7, k7⟩; have HBL := Lib.hid (HST.out.bl.trans (bl7.mono (Nat.le_succ _))); have hz7 : w.heap.size + 1 ≤ w7.heap.size := (by have := hb7.lt; omega); have HB := Lib.hid (built hb7 hz7); clear hb7 bl7 k7))
        | (go_at_call 29; refine (HB.out).mono ?_; rintro e w8 ⟨rfl, _, bl8, _⟩))
      go_ret
      exact ⟨rfl, HBL.out.trans (bl8.mono (Nat.le_succ _))⟩
end Go.Proofs.YtdogcnmepaemjaaDoor
