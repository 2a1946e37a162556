/- DomNumbers walked. No conditions. -/
import Derived.Test.YtofllmofdenadaaGc
import Derived.Test.YtofllmofdenadaaDl
namespace Go.Proofs.Ytofllmofdenadaa
set_option linter.unusedVariables false
open Go.RowKit Go.Shelf Go.Proofs.Fm Go.Proofs.Fb Go.Proofs.Fd Go.Proofs.Fc

/-- ranging over All where nothing comes -/
theorem wp_range_none {g : Operand} {p : Tmp} {body : Code} {Q : Exit → Act → World → Prop} {a : Act} {w : World} {B3 B5 : Nat} {f : Int} (hg : a.eval g = .func (.func 44) #[] #[.pointer (some ⟨B3, 0, none⟩), .pointer (some ⟨B5, 0, none⟩)]) (hf1 : -9223372036854775808 ≤ f) (hf2 : f ≤ 9223372036854775807)
    (h3 : w.cell? ⟨B3, 0, none⟩ = some (.int .i64 f)) (h5 : w.cell? ⟨B5, 0, none⟩ = some (.int .i64 f)) (hb3 : B3 < w.heap.size) (hb5 : B5 < w.heap.size)
    (h : ∀ (D : Nat) (W : World), w.heap.size ≤ D → Below w.heap.size w W → W.heap[D]? = some (.deferred (some [])) → Q .normal { a with defers := { target := .collected D, args := #[] } :: a.defers } W) : Code.wp Try.prog (Code.rangeFunc g #[p] Code.skip body) Q a w := by
  refine (wpIn_wide (n := 5)).1 ?_
  refine wpIn_rangeFunc_ownF rfl (by omega) (gf := 44) hg trivial (enters_of Try.func44 (by kernel_rfl) rfl) (all_stops Fence.wide 4 trivial rfl (by omega) B3 B5 w.heap.size f 0 hf1 (by simpa using hf2) hb5 w h3 (by simpa using h5) hb3 hb5) belowK_t (belowK_b (Nat.le_refl _)) (Below.refl _ _) (fun _ => rfl)
    (fun pre W => Below w.heap.size w W) (fun _ _ _ => False) (ownFrom_below (Nat.le_refl _) (Nat.le_refl _)) (fun _ _ _ _ _ hs _ _ => hs) (Below.refl _ _)
    (fun x => { tmps := a.tmps.setIfInBounds p (Value.int .i64 x), defers := [] }) ?_ ?_ ?_ ?_
  · intro l x W K hK
    gi_wp2
    simpa using hK
  · intro l pre x W _ h
    exact absurd h (Nat.not_lt_zero _)
  · intro D xs W hD _ hI hK
    exact h D W hD hI hK
  · intro D c pre W _ _ h
    exact h.elim
theorem func_not_nil (cs ds : Array Value) (f : Fn) (W : World) : (binOp BinOp.eql 36 (.func f cs ds) .nilFunc).run Try.prog W = .ok (.bool false) W := by rfl
def MadeE (E : Int) (w : World) (e : Ending) (w' : World) : Prop := ∃ (A1 : Option Addr) (n1 c1 : Nat), e = .returned (.tuple #[.agg #[.slice A1 n1 c1], .int .i64 E]) ∧ Below w.heap.size w w'
theorem kval_one (W : World) (nm tx : Str) (K : Option Addr) (m d : Nat) (ks : List Pt) (hk : KVal W (.slice K m d) ks) : KVal (W.alloc (.cells #[str nm, str tx, .slice none 0 0, .slice K m d] 31)) (.slice (some ⟨W.heap.size, 0, none⟩) 1 1) [.mk nm tx [] ks] := by
  have hbk := Bk.new W 31 #[str nm, str tx, .slice none 0 0, .slice K m d]
  refine ⟨_, 1, rfl, Nat.le_refl _, by omega, (fun e => by cases e), .inr ⟨_, _, rfl, ?_⟩⟩
  rw [PCells_cons]
  exact ⟨(PCell_eq _ _ _ _).2 ⟨hbk.cell 0, hbk.cell 1, ⟨_, hbk.cell 2, AVal.nil _⟩, _, hbk.cell 3, hk.below ((Below.refl _ W).alloc (Nat.le_refl _) _) (Nat.le_refl _)⟩, PCells_nil _ _ _⟩
theorem partInfo : (Try.prog.info? 31).map (fun i => (i.zero, i.size, i.bytes)) = some (some (.agg #[.string ⟨#[]⟩, .string ⟨#[]⟩, .slice none 0 0, .slice none 0 0]), 4, 80) := by kernel_rfl
theorem made_four (W : World) : (Instr.makeSlice 29 (.int .i64 4096) (.int .i64 4096)).run Try.prog W = .ok (.slice (some ⟨W.heap.size, 0, none⟩) 4096 4096) (W.alloc (.cells (madeCells #[.string ⟨#[]⟩, .string ⟨#[]⟩, .slice none 0 0, .slice none 0 0] 16384) 31)) := by
  obtain ⟨i1, hi1, hz0, hz1, hz2⟩ := info_parts partInfo
  have h := run_make (P := Try.prog) W 29 31 i1 _ Try.underlying29 hi1 hz0 .i64 .i64 4096 4096 (by omega) (by omega) (by rw [hz2]; omega) (by omega)
  rw [hz1] at h
  exact h
/-- chapter 5's own tree as it lies in a variable -/
structure SmpAt (b c : Nat) (A : Option Addr) (W : World) : Prop where
  bk : Bk W b 24 #[.slice A 3 c]
  row : NRow W A (treeOf smp)
theorem SmpAt.below {b c : Nat} {A : Option Addr} {W W' : World} (h : SmpAt b c A W) (hb : Below W.heap.size W W') : SmpAt b c A W' := ⟨h.bk.below hb h.bk.lt, h.row.below hb (Nat.le_refl _)⟩
theorem smp_said : saidB (treeOf smp) = true := by decide +kernel
theorem smp_kids : kidsOf (par (treeOf smp)) 3 ((1 : Nat) : Int) = [] := by decide +kernel
theorem smp_depth9 : depthUp (par (treeOf smp)) 9 ((3 : Nat) : Int) = 0 := by decide +kernel
theorem smp_index1 : indexE (treeOf smp) 1 = 0 := by decide +kernel
theorem smp_index0 : indexE (treeOf smp) 0 = 1 := by decide +kernel
theorem ask14 (W : World) : Calls Try.prog 14 #[.agg #[.slice none 0 0]] W fun e w' => e = .returned (.int .i64 10) ∧ Below W.heap.size W w' := by
  have h := right_any none 0 0 [] rfl (by omega) W (NRow.nil _ _)
  rw [num_none] at h
  exact h
theorem ask15 {b c : Nat} {A : Option Addr} {W : World} (h : SmpAt b c A W) : Calls Try.prog 15 #[.agg #[.slice A 3 c], .int .i64 1] W fun e w' => ∃ A' c', e = .returned (.slice A' 0 c') ∧ Below W.heap.size W w' := by
  refine (kids_any A 3 c (treeOf smp) rfl (by omega) (said_facts smp_said) 1 (by omega) W h.row).mono ?_
  rw [smp_kids]
  rintro e w' ⟨v, rfl, hown, hb⟩
  obtain ⟨A', c', rfl⟩ := own_form hown
  exact ⟨A', c', rfl, hb⟩
theorem ask16 {b c : Nat} {A : Option Addr} {W : World} (h : SmpAt b c A W) : Calls Try.prog 16 #[.agg #[.slice A 3 c], .int .i64 9] W fun e w' => e = .returned (.int .i64 0) ∧ Below W.heap.size W w' := by
  have h := depth_any A 3 c (treeOf smp) rfl (by omega) 9 W h.row
  rw [smp_depth9] at h
  exact h
theorem ask17a {b c : Nat} {A : Option Addr} {W : World} (h : SmpAt b c A W) : Calls Try.prog 17 #[.agg #[.slice A 3 c], .int .i64 1] W fun e w' => e = .returned (.int .i64 0) ∧ Below W.heap.size W w' := by
  have h := indexN_any A 3 c (treeOf smp) rfl (by omega) 1 W h.row
  rw [smp_index1] at h
  exact h
theorem ask17b {b c : Nat} {A : Option Addr} {W : World} (h : SmpAt b c A W) : Calls Try.prog 17 #[.agg #[.slice A 3 c], .int .i64 0] W fun e w' => e = .returned (.int .i64 1) ∧ Below W.heap.size W w' := by
  have h := indexN_any A 3 c (treeOf smp) rfl (by omega) 0 W h.row
  rw [smp_index0] at h
  exact h
set_option maxRecDepth 100000 in
set_option maxHeartbeats 4000000 in
theorem numbers_walk (w : World) : Calls Try.prog 3 #[] w fun e w' => e = .returned (.bool true) ∧ Below w.heap.size w w' := by
  obtain ⟨W0, hW0⟩ : ∃ W, w.alloc (.cells #[.bool false] 4) = W := ⟨_, rfl⟩
  have hb0 : Below w.heap.size w W0 := hW0 ▸ (Below.refl _ w).alloc (Nat.le_refl _) _
  have hk0 : Bk W0 w.heap.size 4 #[.bool false] := hW0 ▸ Bk.new w 4 _
  have HB0 := Lib.hid hb0
  have HK0 := Lib.hid hk0
  have HW0 := Lib.hid hW0
  clear hb0 hk0 hW0
  refine callsIn_wide.1 (callsIn_of_wp_marks (n := 5) Try.func3 rfl trivial ?_ rfl)
  refine wpIn_wide.2 ?_
  simp only [Try.ntmps3, List.size_toArray, List.length_nil, Nat.reduceSub, Array.replicate_succ, Array.replicate_zero, List.push_toArray, List.append_toArray, List.nil_append, List.cons_append]
  go_upto_region 1 with fail
  rw [HW0.out]
  have HM1 : Hid (Calls Try.prog 10 #[.agg #[.string ⟨#[]⟩, .string ⟨#[120]⟩, .slice none 0 0, .slice none 0 0]] W0 (MadeE 10 W0)) := Lib.hid (makeE (.mk [] [120] [] []) [] [120] [] [] none none 0 0 W0 rfl (AVal.nil _) (kval_nil _) num_x)
  go_upto_region 2 with (go_at_call 10; refine (HM1.out).mono ?_; rintro e w1 ⟨A1, n1, c1, rfl, hb1⟩; have HB1 := Lib.hid hb1; clear hb1)
  refine wp_gen (fun W => Below W0.heap.size W0 W) (HB1.out.alloc HB1.out.size _) ?_
  clear HM1 HB1
  rintro W1 hw1
  have HW1 := Lib.hid hw1
  clear hw1
  have HM1 : Hid (Calls Try.prog 10 #[.agg #[.string ⟨#[]⟩, .string ⟨#[]⟩, .slice none 0 0, .slice none 0 0]] W1 (MadeE 10 W1)) := Lib.hid (makeE e0 [] [] [] [] none none 0 0 W1 rfl (AVal.nil _) (kval_nil _) num_e)
  go_upto_region 3 with (go_at_call 10; refine (HM1.out).mono ?_; rintro e w1 ⟨A2, n2, c2, rfl, hb1⟩; have HB1 := Lib.hid (HW1.out.trans (hb1.mono HW1.out.size)); clear hb1)
  refine wp_gen (fun W => Below W0.heap.size W0 W) (HB1.out.alloc HB1.out.size _) ?_
  clear HM1 HB1 HW1
  rintro W2 hw2
  have HW2 := Lib.hid hw2
  clear hw2
  have HM1 : Hid (Calls Try.prog 10 #[.agg #[.string ⟨#[97]⟩, .string ⟨#[]⟩, .slice none 0 0, .slice (some ⟨W2.heap.size, 0, none⟩) 1 1]] (W2.alloc (.cells #[.string ⟨#[]⟩, .string ⟨#[]⟩, .slice none 0 0, .slice none 0 0] 31)) (MadeE 10 (W2.alloc (.cells #[.string ⟨#[]⟩, .string ⟨#[]⟩, .slice none 0 0, .slice none 0 0] 31)))) :=
    Lib.hid (makeE (.mk [97] [] [] [e0]) [97] [] [] [e0] none (some ⟨W2.heap.size, 0, none⟩) 0 1 _ rfl (AVal.nil _) (kval_one W2 [] [] none 0 0 [] (kval_nil _)) num_ae)
  go_upto_region 4 with (go_at_call 10; refine (HM1.out).mono ?_; rintro e w1 ⟨A3, n3, c3, rfl, hb1⟩; have HB1 := Lib.hid (HW2.out.trans ((((Below.refl _ W2).alloc (Nat.le_refl _) _).trans (hb1.mono (by simp))).mono HW2.out.size)); clear hb1)
  refine wp_gen (fun W => Below W0.heap.size W0 W) (HB1.out.alloc HB1.out.size _) ?_
  clear HM1 HB1 HW2
  rintro W3 hw3
  have HW3 := Lib.hid hw3
  clear hw3
  go_upto_region 6 with fail
  have hst0 : NestSt W3 W3.heap.size 0 (W3.alloc (.cells #[.string ⟨#[97]⟩, .string ⟨#[]⟩, .slice none 0 0, .slice none 0 0] 31)) := ⟨⟨none, 0, Bk.new W3 31 _, KRes.nil _ _ _⟩, (Below.refl _ _).alloc (Nat.le_refl _) _⟩
  refine wp_gen (fun W => NestSt W3 W3.heap.size 0 W) hst0 ?_
  clear hst0
  obtain ⟨B7, hB7⟩ : ∃ b, W3.heap.size = b := ⟨_, rfl⟩
  rw [hB7]
  rintro W4 hst4
  have HST4 := Lib.hid hst4
  have HB7 := Lib.hid hB7
  clear hst4 hB7
  go_loopg [8] 255 (fun gk i wr => ∃ k : Nat, k + gk = 255 ∧ i = .int .i64 ((k : Int) + 1) ∧ Hid (NestSt W3 B7 k wr))
  case atStart => exact ⟨0, by omega, rfl, HST4⟩
  case round =>
    obtain ⟨k, hk, rfl, hst⟩ := hrel
    clear HST4
    obtain ⟨K, d, hbk, hkr⟩ := hst.out.ex
    have x0 : wr.cell? ⟨B7, 0, none⟩ = some (.string ⟨#[97]⟩) := hbk.cell 0
    have x1 : wr.cell? ⟨B7, 1, none⟩ = some (.string ⟨#[]⟩) := hbk.cell 1
    have x2 : wr.cell? ⟨B7, 2, none⟩ = some (.slice none 0 0) := hbk.cell 2
    have x3 : wr.cell? ⟨B7, 3, none⟩ = some (.slice K (nest k).kids.length d) := hbk.cell 3
    have xf : ∀ i, wr.frozen? ⟨B7, i, none⟩ = false := hbk.frozen
    have lx := hbk.lt
    have HBK := Lib.hid hbk
    have HKR := Lib.hid hkr
    have hb37 : W3.heap.size ≤ B7 := by rw [HB7.out]; omega
    clear hbk hkr
    by_cases hlt : k < 255
    · have i1 : (k : Int) + 1 < 256 := by omega
      go_wp2
      go_roundg (gk - 1)
      case measure => omega
      case rel => exact ⟨k + 1, by omega, by go_num, Lib.hid (nest_step HBK.out HKR.out hst.out.bl hb37 rfl)⟩
    · obtain rfl : k = 255 := by omega
      obtain ⟨ks5, hks5⟩ : ∃ l, (nest 255).kids = l := ⟨_, rfl⟩
      have hn5 : nest 255 = .mk [97] [] [] ks5 := (nest_form 255).trans (by rw [hks5])
      have hn6 : nest 256 = .mk [97] [] [] [.mk [97] [] [] ks5] := by rw [← hn5]; rfl
      have e5 := num_256
      have e6 := num_257
      obtain ⟨P5, hP5⟩ : ∃ P, nest 255 = P := ⟨_, rfl⟩
      obtain ⟨P6, hP6⟩ : ∃ P, nest 256 = P := ⟨_, rfl⟩
      have hkv := HKR.out.read hst.out.bl
      have HWr := Lib.hid (HW3.out.trans (hst.out.bl.mono HW3.out.size))
      have HBK5 := Lib.hid HBK.out
      rw [hks5] at x3 hkv HBK5
      rw [hP5] at hn5 e5
      rw [hP6] at hn6 e6
      have HKV := Lib.hid hkv
      have HE5 := Lib.hid e5
      have HE6 := Lib.hid e6
      have HN5 := Lib.hid hn5
      have HN6 := Lib.hid hn6
      clear hks5 hP5 hP6 hn5 hn6 e5 e6 hkv HBK HKR hst
      have HM1 : Hid (Calls Try.prog 10 #[.agg #[.string ⟨#[97]⟩, .string ⟨#[]⟩, .slice none 0 0, .slice K ks5.length d]] wr (MadeE 0 wr)) := Lib.hid (makeE P5 [97] [] [] ks5 none K 0 d wr HN5.out (AVal.nil _) HKV.out HE5.out)
      go_upto_region 10 with (go_at_call 10; refine (HM1.out).mono ?_; rintro e w5 ⟨A4, n4, c4, rfl, hb5⟩; have HB5 := Lib.hid hb5; clear hb5)
      clear HM1
      refine wp_gen (fun W => Below wr.heap.size wr W) (HB5.out.alloc HB5.out.size _) ?_
      rintro W5 hw5
      have hbk5 := HBK5.out.below hw5 lx
      have y0 : W5.cell? ⟨B7, 0, none⟩ = some (.string ⟨#[97]⟩) := hbk5.cell 0
      have y1 : W5.cell? ⟨B7, 1, none⟩ = some (.string ⟨#[]⟩) := hbk5.cell 1
      have y2 : W5.cell? ⟨B7, 2, none⟩ = some (.slice none 0 0) := hbk5.cell 2
      have y3 : W5.cell? ⟨B7, 3, none⟩ = some (.slice K ks5.length d) := hbk5.cell 3
      have ly := hbk5.lt
      have hkv5 := HKV.out.below hw5 (Nat.le_refl _)
      have HW5 := Lib.hid (HWr.out.trans (hw5.mono HWr.out.size))
      have HM2 : Hid (Calls Try.prog 10 #[.agg #[.string ⟨#[97]⟩, .string ⟨#[]⟩, .slice none 0 0, .slice (some ⟨W5.heap.size, 0, none⟩) 1 1]] (W5.alloc (.cells #[.string ⟨#[97]⟩, .string ⟨#[]⟩, .slice none 0 0, .slice K ks5.length d] 31)) (MadeE 5 (W5.alloc (.cells #[.string ⟨#[97]⟩, .string ⟨#[]⟩, .slice none 0 0, .slice K ks5.length d] 31)))) :=
        Lib.hid (makeE P6 [97] [] [] [.mk [97] [] [] ks5] none (some ⟨W5.heap.size, 0, none⟩) 0 1 _ HN6.out (AVal.nil _) (kval_one W5 [97] [] K ks5.length d ks5 hkv5) HE6.out)
      clear x0 x1 x2 x3 xf hbk5 hkv5 hw5 HB5
      go_upto_region 11 with (go_at_call 10; refine (HM2.out).mono ?_; rintro e w6 ⟨A5, n5, c5, rfl, hb6⟩; have HB6 := Lib.hid (HW5.out.trans ((((Below.refl _ W5).alloc (Nat.le_refl _) _).trans (hb6.mono (by simp))).mono HW5.out.size)); clear hb6)
      clear HM2 y0 y1 y2 y3
      refine wp_gen (fun W => Below W0.heap.size W0 W) (HB6.out.alloc HB6.out.size _) ?_
      rintro W6 hw6
      have HW6 := Lib.hid hw6
      clear hw6 HB6
      obtain ⟨ks, hks⟩ : ∃ ks, List.replicate 4096 e0 = ks := ⟨_, rfl⟩
      have hkl : ks.length = 4096 := by rw [← hks, List.length_replicate]
      have hkc : cntL ks = 4096 := by rw [← hks, cntL_rep]
      have hkm := kval_made W6 4096 (Nat.le_refl _) hks.symm
      have hmk4 := makeE (.mk [97] [] [] ks) [97] [] [] ks none (some ⟨W6.heap.size, 0, none⟩) 0 4096 _ rfl (AVal.nil _) hkm (num_many hkc)
      rw [hkl] at hmk4
      have HM3 : Hid (Calls Try.prog 10 #[.agg #[.string ⟨#[97]⟩, .string ⟨#[]⟩, .slice none 0 0, .slice (some ⟨W6.heap.size, 0, none⟩) 4096 4096]] (W6.alloc (.cells (madeCells #[.string ⟨#[]⟩, .string ⟨#[]⟩, .slice none 0 0, .slice none 0 0] 16384) 31)) (MadeE 4 (W6.alloc (.cells (madeCells #[.string ⟨#[]⟩, .string ⟨#[]⟩, .slice none 0 0, .slice none 0 0] 16384) 31)))) := Lib.hid hmk4
      have hmk := made_four W6
      clear hks hkl hkc hkm hmk4
      go_upto_region 12 with (go_at_call 10; refine (HM3.out).mono ?_; rintro e w7 ⟨A6, n6, c6, rfl, hb7⟩; have HB7' := Lib.hid (HW6.out.trans ((((Below.refl _ W6).alloc (Nat.le_refl _) _).trans (hb7.mono (by simp))).mono HW6.out.size)); clear hb7)
      clear HM3 hmk
      refine wp_gen (fun W => Below W0.heap.size W0 W) (HB7'.out.alloc HB7'.out.size _) ?_
      rintro W7 hw7
      have HW7 := Lib.hid hw7
      clear hw7 HB7'
      go_upto_region 13 with (go_at_call 11; refine (sample_any _).mono ?_; rintro e w8 ⟨A, c, rfl, hot, hb8⟩; have HOT := Lib.hid hot; have HB8 := Lib.hid (HW7.out.trans (hb8.mono HW7.out.size)); clear hot hb8)
      refine wp_gen (fun W => Below w8.heap.size w8 W ∧ Bk W w8.heap.size 24 #[.slice A 3 c]) ⟨(Below.refl _ _).alloc (Nat.le_refl _) _, Bk.new w8 24 _⟩ ?_
      rintro W9 ⟨hb9, hk9⟩
      have hrow := (smp_row HOT.out).below hb9 (Nat.le_refl _)
      have HROW := Lib.hid hrow
      have HK9 := Lib.hid hk9
      have HW9 := Lib.hid (HB8.out.trans (hb9.mono HB8.out.size))
      have z0 : W9.cell? ⟨w8.heap.size, 0, none⟩ = some (.slice A 3 c) := hk9.cell 0
      have lz := hk9.lt
      have HA : Hid (Calls Try.prog 12 #[.agg #[.slice A 3 c], .int .i64 0, .string ⟨#[120]⟩] W9 fun e w' => e = .returned (.tuple #[.string ⟨#[]⟩, .bool false]) ∧ Below W9.heap.size W9 w') := Lib.hid (attr_no A 3 c (treeOf smp) rfl (by omega) 0 (by omega) [120] (by simp only [smp_tree, List.getElem_cons_zero]) W9 hrow)
      clear hb9 hk9 hrow HB8 HOT
      go_upto_region 14 with (go_at_call 12; refine (HA.out).mono ?_; rintro e w10 ⟨rfl, hb10⟩; have HB10 := Lib.hid hb10; clear hb10)
      clear HA z0
      have hk10 := HK9.out.below HB10.out HK9.out.lt
      have z0 : w10.cell? ⟨w8.heap.size, 0, none⟩ = some (.slice A 3 c) := hk10.cell 0
      have lz10 := hk10.lt
      have HL : Hid (Calls Try.prog 13 #[.agg #[.slice A 3 c], .int .i64 (-1)] w10 (AllOut (-1) (-1) w10)) := Lib.hid (all_no A 3 c (-1) (by omega) w10)
      have HK10 := Lib.hid hk10
      have HR10 := Lib.hid (HROW.out.below HB10.out (Nat.le_refl _))
      have HW10 := Lib.hid (HW9.out.trans (HB10.out.mono HW9.out.size))
      clear hk10 HB10 HK9 HROW HW9
      go_upto_region 15 with (go_at_call 13; refine (HL.out).mono ?_; rintro e w11 ⟨B3, B5, rfl, hB3, hB5, hk3, hk5, hb11⟩; have HK3 := Lib.hid hk3; have HK5 := Lib.hid hk5; have HB11 := Lib.hid hb11; clear hk3 hk5 hb11)
      clear HL z0
      have hnil := func_not_nil #[] #[.pointer (some ⟨B3, 0, none⟩), .pointer (some ⟨B5, 0, none⟩)] (.func 44)
      go_upto_region 17 with fail
      go_wp2
      refine wp_range_none rfl (by omega) (by omega) (HK3.out.cell 0) (HK5.out.cell 0) HK3.out.lt HK5.out.lt ?_
      intro D W12 hD hb12 hKD
      have hw12 : Below w10.heap.size w10 W12 := HB11.out.trans (hb12.mono HB11.out.size)
      have HS12 : Hid (SmpAt w8.heap.size c A W12) := Lib.hid ((⟨HK10.out, HR10.out⟩ : SmpAt w8.heap.size c A w10).below hw12)
      have HW12 := Lib.hid (HW10.out.trans (hw12.mono HW10.out.size))
      have HKD := Lib.hid hKD
      have hD0 : W0.heap.size ≤ D := by have := HW10.out.size; have := HB11.out.size; omega
      have z12 : W12.cell? ⟨w8.heap.size, 0, none⟩ = some (.slice A 3 c) := HS12.out.bk.cell 0
      have l12 := HS12.out.bk.lt
      have H14 := Lib.hid (ask14 W12)
      clear HK10 HR10 HW10 hw12 hb12 hKD hnil HK3 HK5 HB11
      go_wp2_with (first
        | (go_at_call 14; refine (H14.out).mono ?_; rintro e w13 ⟨rfl, hb13⟩; have HB13 := Lib.hid hb13; have HS13 := Lib.hid (HS12.out.below hb13); have z13 : w13.cell? ⟨w8.heap.size, 0, none⟩ = some (.slice A 3 c) := HS13.out.bk.cell 0; have l13 := HS13.out.bk.lt; have H15 := Lib.hid (ask15 HS13.out); clear hb13 H14)
        | (go_at_call 15; refine (H15.out).mono ?_; rintro e w14 ⟨A14, c14, rfl, hb14⟩; have HB14 := Lib.hid (HB13.out.trans (hb14.mono HB13.out.size)); have HS14 := Lib.hid (HS13.out.below hb14); have z14 : w14.cell? ⟨w8.heap.size, 0, none⟩ = some (.slice A 3 c) := HS14.out.bk.cell 0; have l14 := HS14.out.bk.lt; have H16 := Lib.hid (ask16 HS14.out); clear hb14 H15)
        | (go_at_call 16; refine (H16.out).mono ?_; rintro e w15 ⟨rfl, hb15⟩; have HB15 := Lib.hid (HB14.out.trans (hb15.mono HB14.out.size)); have HS15 := Lib.hid (HS14.out.below hb15); have z15 : w15.cell? ⟨w8.heap.size, 0, none⟩ = some (.slice A 3 c) := HS15.out.bk.cell 0; have l15 := HS15.out.bk.lt; have H17 := Lib.hid (ask17a HS15.out); clear hb15 H16)
        | (go_at_call 17; refine (H17.out).mono ?_; rintro e w16 ⟨rfl, hb16⟩; have HB16 := Lib.hid (HB15.out.trans (hb16.mono HB15.out.size)); have HS16 := Lib.hid (HS15.out.below hb16); have z16 : w16.cell? ⟨w8.heap.size, 0, none⟩ = some (.slice A 3 c) := HS16.out.bk.cell 0; have l16 := HS16.out.bk.lt; have H17b := Lib.hid (ask17b HS16.out); clear hb16 H17)
        | (go_at_call 17; refine (H17b.out).mono ?_; rintro e w17 ⟨rfl, hb17⟩; have HB17 := Lib.hid (HB16.out.trans (hb17.mono HB16.out.size)); clear hb17 H17b)
        | (go_at_call 18; refine (known_any _).mono ?_; rintro e w18 ⟨rfl, hb18⟩; have HB18 := Lib.hid (HB17.out.trans (hb18.mono HB17.out.size)); have hk18 := HK0.out.below (HW12.out.trans (HB18.out.mono HW12.out.size)) HK0.out.lt; have t0 : w18.cell? ⟨w.heap.size, 0, none⟩ = some (.bool false) := hk18.cell 0; have tf : w18.frozen? ⟨w.heap.size, 0, none⟩ = false := hk18.frozen 0; have lt18 := hk18.lt; clear hb18 hk18))
      have hlt0 := HK0.out.lt
      have hD12 : D < W12.heap.size := (Array.getElem?_eq_some_iff.1 HKD.out).1
      have hK18 : (w18.setCell ⟨w.heap.size, 0, none⟩ (.bool true)).heap[D]? = some (.deferred (some [])) := (Below.heap_setCell _ ⟨w.heap.size, 0, none⟩ _ D (by show D ≠ w.heap.size; omega)).trans ((HB18.out.block D hD12).trans HKD.out)
      refine ⟨by simp, .inl ⟨_, _, rfl, run_takeDeferred hK18, ?_⟩⟩
      have hc5 := cell_kept (World.cell?_setCell_same' w18 ⟨w.heap.size, 0, none⟩ (.bool true) (by rw [t0]; rfl)) (grownBy_putObj' _ D (.deferred none)) (fun r e => by cases e; exact ⟨_, hK18, rfl⟩)
      refine ⟨.bool true, ?_, rfl, ?_⟩
      · simp [results, Try.results3, go_sem, hc5]
      · exact ((HB0.out.trans ((HW12.out.trans (HB18.out.mono HW12.out.size)).mono HB0.out.size)).setCell (p := ⟨w.heap.size, 0, none⟩) (Nat.le_refl _) _).trans (belowK_b (w := w) (Nat.le_refl _) _ D _ _ (by omega) hK18 rfl rfl)
end Go.Proofs.Ytofllmofdenadaa
