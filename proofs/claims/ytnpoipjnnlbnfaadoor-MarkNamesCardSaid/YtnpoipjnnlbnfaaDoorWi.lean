/- MarkNames walked. No conditions but what the world holds of the variables. -/
import Derived.Test.YtnpoipjnnlbnfaaDoorWj
namespace Go.Proofs.YtnpoipjnnlbnfaaDoor
set_option linter.unusedVariables false
open Go.RowKit Go.Proofs.Fe Go.Proofs.Fm Go.Proofs.Fb Go.Proofs.Fk Go.Proofs.Fs Go.Proofs.Fc Go.Proofs.Fu

set_option maxHeartbeats 4000000 in
set_option maxRecDepth 100000 in
theorem names_walk (w : World) (he : Env w) (A : Option Addr) (n cap : Nat) (xs : List Int) (ha : Row w .i32 A xs) (hn : xs.length = n) (hwf : ∀ x ∈ xs, (Lit.int .i32 x).wf = true) (hz : n * Tryd.prog.bytesOf 21 ≤ 140737488351232) (hlc : n ≤ cap) (hnil : A = none → cap = 0) :
    Calls Tryd.prog 6 #[.slice A n cap] w fun e w' => e = .returned (.bool true) ∧ Below w.heap.size w w' := by
  have hby : Tryd.prog.bytesOf 21 = 4 := by kernel_rfl
  rw [hby] at hz
  have HF := Lib.hid (fewRunes_any A n cap 2000 hlc hnil (by omega) (by omega) w)
  have HE := Lib.hid (fun W (hb : Below w.heap.size w W) => he.below hb he.sz)
  have HWF := Lib.hid (show ∀ x ∈ xs, -2147483648 ≤ x ∧ x ≤ 2147483647 from fun x hx => by have := hwf x hx; simp [Lit.wf, IntKind.min, IntKind.max, IntKind.signed, IntKind.bits] at this; exact this)
  clear hwf
  go_enter Tryd.func6, Tryd.ntmps6
  go_upto_region 99 with (first
    | (go_at_call 18; refine (HF.out).mono ?_; rintro e w1 ⟨k0, hk1, hk2, rfl, rfl⟩; obtain ⟨l, hl⟩ : ∃ l, xs.take k0 = l := ⟨_, rfl⟩; have hll : l.length = k0 := (by rw [← hl, List.length_take]; omega); have HT := Lib.hid (toks_of A k0 cap l hll (by rw [← hl]; exact ha.take k0) (by omega) (fun x hx => HWF.out x (by rw [← hl] at hx; exact List.mem_of_mem_take hx)) he); have hll2 : l.length ≤ 2000 := (by omega); clear hl)
    | (go_at_call 22; refine (HT.out).mono ?_; rintro e w2 ⟨VA, vc, rfl, hv, h3, h4⟩; have HR := Lib.hid h3; have H4 := Lib.hid h4; clear h3 h4 HT))
  obtain ⟨N, hN⟩ : ∃ N, (tok l).length = N := ⟨_, rfl⟩
  have HN := Lib.hid hN
  rw [hN]
  clear hN ha HF
  go_loopg [4] N (fun gk i wr => ∃ j : Nat, j + gk = N ∧ i = .int .i64 j ∧ Below w2.heap.size w2 wr)
  case atStart => exact ⟨0, by omega, rfl, Below.refl _ _⟩
  case round =>
    obtain ⟨j, hj, rfl, hbw⟩ := hrel
    obtain ⟨gA, rfl⟩ : ∃ g, g = gk := ⟨gk, rfl⟩
    obtain ⟨wA, rfl⟩ : ∃ x, x = wr := ⟨wr, rfl⟩
    by_cases hlt : j < N
    · have hz2 := hbw.size
      have hjt : j < (tok l).length := by rw [HN.out]; exact hlt
      obtain ⟨b1, o1, rfl, hc1⟩ := HR.out.below hbw (Nat.le_refl _) (by intro e; rw [e] at hjt; simp at hjt)
      obtain ⟨A1, d1, g0, g1, g2, g3, g4, ra⟩ := hc1 j hjt
      have hok := tok_ok _ _ (Nat.le_refl _) _ (List.getElem_mem hjt)
      have hsm := tok_small 8000 _ _ (Nat.le_refl _) (by omega) _ (List.getElem_mem hjt)
      obtain ⟨x, hx⟩ : ∃ x, ((tok l)[j]'hjt) = x := ⟨_, rfl⟩
      rw [hx] at g0 g1 g2 g3 g4 ra hok hsm
      have i1 : (j : Int) < (N : Int) := by omega
      have HB := Lib.hid hbw
      dsimp only [str] at g1 g2
      obtain ⟨xk, xn, xt, xa, xc⟩ := x
      dsimp only at g0 g1 g2 g3 g4 ra
      clear hc1 hx hbw
      rcases hok with ⟨rfl, rfl, htx, rfl, rfl⟩ | ⟨rfl, hnm, hne, rfl, hao⟩ | ⟨rfl, hnm, hne, rfl, rfl, rfl⟩
      · have hem : xt.isEmpty = false := by rcases xt with _ | ⟨a, b⟩; exact absurd rfl htx; rfl
        dsimp only [List.length_nil] at g3
        go_wp2
        go_roundg (gA - 1)
        case measure => omega
        case rel => exact ⟨j + 1, by omega, by go_num, HB.out.alloc hz2 _⟩
      · have hem : xn.isEmpty = false := by rcases xn with _ | ⟨a, b⟩; exact absurd rfl hne; rfl
        obtain ⟨W3, hW3⟩ : ∃ W, wA.alloc (.cells #[.int .i64 2, .string ⟨xn.toArray⟩, .string ⟨#[]⟩, .slice A1 xa.length d1, .bool xc] 44) = W := ⟨_, rfl⟩
        have hX : Bk W3 wA.heap.size 44 #[.int .i64 2, .string ⟨xn.toArray⟩, .string ⟨#[]⟩, .slice A1 xa.length d1, .bool xc] := hW3 ▸ Bk.new wA 44 _
        have hB3 : Below wA.heap.size wA W3 := hW3 ▸ (Below.refl _ wA).alloc (Nat.le_refl _) _
        have HW3 := Lib.hid hW3
        have ra3 := Lib.hid (ra.below hB3 (Nat.le_refl _))
        have HB3 := Lib.hid (HB.out.trans (hB3.mono hz2))
        have HX := Lib.hid hX
        have HSM := Lib.hid hsm
        have HNM := Lib.hid hnm
        clear hW3 hX hB3 ra hsm hnm
        have hxl : xa.length ≤ 64 := hao.le
        have HAO := Lib.hid hao
        have hxl2 : ¬ ((64 : Int) < (xa.length : Int)) := by omega
        clear hao
        go_upto_region 13 with fail
        rw [HW3.out]
        clear g0 g1 g2 g3 g4
        go_loopg [6] xa.length (fun gk2 kk wz => ∃ k : Nat, k + gk2 = xa.length ∧ kk = .int .i64 k ∧ Below W3.heap.size W3 wz)
        case atStart => exact ⟨0, by omega, rfl, Below.refl _ _⟩
        case round =>
          obtain ⟨k, hk, rfl, hbk⟩ := hrel
          obtain ⟨gB, rfl⟩ : ∃ g, g = gk := ⟨gk, rfl⟩
          obtain ⟨wB, rfl⟩ : ∃ x, x = wr := ⟨wr, rfl⟩
          have hz3 := hbk.size
          have x1 : wB.cell? ⟨wA.heap.size, 1, none⟩ = some (.string ⟨xn.toArray⟩) := (HX.out.below hbk HX.out.lt).cell 1
          have x3 : wB.cell? ⟨wA.heap.size, 3, none⟩ = some (.slice A1 xa.length d1) := (HX.out.below hbk HX.out.lt).cell 3
          have hxlt : wA.heap.size < wB.heap.size := (HX.out.below hbk HX.out.lt).lt
          have rak := Lib.hid (ra3.out.below hbk (Nat.le_refl _))
          have HBK := Lib.hid hbk
          clear hbk
          by_cases hlk : k < xa.length
          · have i2 : (k : Int) < (xa.length : Int) := by omega
            obtain ⟨b2, o2, rfl, hc2⟩ := rak.out (by intro e; rw [e] at hlk; simp at hlk)
            obtain ⟨q0, -⟩ := hc2 k hlk
            have hkn := HAO.out.named _ (List.getElem_mem hlk)
            have hks := HSM.out.2 _ (List.getElem_mem hlk)
            have hks2 := HSM.out.1
            dsimp only at hks2
            obtain ⟨an, han⟩ : ∃ a, (xa[k]'hlk).1 = a := ⟨_, rfl⟩
            rw [han] at q0 hkn hks
            have HC2 := Lib.hid hc2
            have HAN := Lib.hid han
            clear hc2 han
            dsimp only [str] at q0
            have s1 : (⟨an.toArray⟩ : ByteArray) ++ ⟨xn.toArray⟩ = ⟨(an ++ xn).toArray⟩ := cat_list _ _
            have z1 : (⟨an.toArray⟩ : ByteArray).size + (⟨xn.toArray⟩ : ByteArray).size ≤ 9223372036854775807 := by show an.length + xn.length ≤ _; omega
            have z2 : ¬ (9223372036854775807 < List.length an + List.length xn) := by omega
            have HNR := Lib.hid (named_runes hkn HNM.out)
            obtain ⟨S, hS⟩ : ∃ S : List UInt8, an ++ xn = S := ⟨_, rfl⟩
            rw [hS] at s1 HNR
            clear hS hkn
            have lt2 : b2 < wB.heap.size := World.block_lt_of_cell? _ _ q0
            have e2 := fun x b o => ext_cell wB.heap.size wB x b o
            go_upto_region 15 with fail
            refine region_ext_tail wB.heap.size 9 (by kernel_rfl) (by kernel_rfl) ?_
            simp only [List.take_succ_cons, List.take_zero, List.drop_succ_cons, List.drop_zero]
            repeat quiet_step (fail)
            refine wpQuiet_nil ?_
            intro w4 hb4
            have HI := Lib.hid (fun pos => hb4.alloc hb4.size (.stringIter ⟨S.toArray⟩ pos))
            clear hb4 x1 x3 q0 e2
            go_wp2
            go_loopg [8] S.length (fun gk3 _ wz => ∃ pos : Nat, S.length ≤ pos + gk3 ∧ Hid (∀ r ∈ runesB (S.drop pos), ¬ (65 ≤ r ∧ r ≤ 90)) ∧ wz = w4.iter ⟨S.toArray⟩ pos)
            case atStart => exact ⟨0, by omega, HNR, rfl⟩
            case round =>
              obtain ⟨pos, hk3, hrun, rfl⟩ := hrel
              by_cases hp : pos < (⟨S.toArray⟩ : ByteArray).size
              · have hnx : ∀ ty, (Instr.next (.pointer (some ⟨w4.heap.size, 0, none⟩)) true ty).run Tryd.prog (w4.iter ⟨S.toArray⟩ pos) = _ := fun ty => run_next_any w4 ⟨S.toArray⟩ pos ty hp
                obtain ⟨h1, h2⟩ := range_step ⟨S.toArray⟩ pos hp
                have hp : pos < S.length := hp
                obtain ⟨R, hR⟩ : ∃ R, (Utf8.decode ⟨S.toArray⟩ pos).1 = R := ⟨_, rfl⟩
                obtain ⟨D, hD⟩ : ∃ D, (Utf8.decode ⟨S.toArray⟩ pos).2 = D := ⟨_, rfl⟩
                rw [hR, hD] at hnx h1
                rw [hD] at h2
                have h1 : runesB (S.drop pos) = R :: runesB (S.drop (pos + D)) := h1
                have hin := hrun.out
                rw [h1] at hin
                have hb := hin R (.head _)
                have HRT := Lib.hid (fun r hr => hin r (.tail _ hr))
                clear hR hD h1 hin hrun
                by_cases c1 : 65 ≤ (R : Int)
                · have c2 : ¬ ((R : Int) ≤ 90) := by omega
                  go_wp2
                  go_roundg (gk - 1)
                  case measure => omega
                  case rel => exact ⟨pos + D, by omega, HRT, rfl⟩
                · go_wp2
                  go_roundg (gk - 1)
                  case measure => omega
                  case rel => exact ⟨pos + D, by omega, HRT, rfl⟩
              · have hnx : ∀ ty, (Instr.next (.pointer (some ⟨w4.heap.size, 0, none⟩)) true ty).run Tryd.prog (w4.iter ⟨S.toArray⟩ pos) = _ := fun ty => run_next_end w4 ⟨S.toArray⟩ pos ty hp
                obtain ⟨W5, hW5⟩ : ∃ W, w4.iter ⟨S.toArray⟩ pos = W := ⟨_, rfl⟩
                have HB5 : Hid (Below wB.heap.size wB W5) := Lib.hid (hW5 ▸ HI.out pos)
                rw [hW5] at hnx ⊢
                have hX5 := (HX.out.below HBK.out HX.out.lt).below HB5.out hxlt
                have x3 : W5.cell? ⟨wA.heap.size, 3, none⟩ = some (.slice (some ⟨b2, o2, none⟩) xa.length d1) := hX5.cell 3
                have HC5 : Hid (∀ (i : Nat) (h : i < xa.length), W5.cell? ⟨b2, o2 + i * 2, none⟩ = some (.string ⟨(xa[i]'h).1.toArray⟩)) := Lib.hid (fun i h => (HB5.out.cell (p := ⟨b2, o2 + i * 2, none⟩) lt2).trans (HC2.out i h).1)
                have q0 := HC5.out k hlk
                rw [HAN.out] at q0
                have LTX := Lib.hid hX5.lt
                have LT2 := Lib.hid (World.block_lt_of_cell? _ _ q0)
                have X3 := Lib.hid x3
                have Q0 := Lib.hid q0
                clear hp hk3 hrun hX5 hW5
                go_wp2
                clear x3 q0
                go_loopg [9] k (fun gk4 jj wz => ∃ j2 : Nat, j2 + gk4 = k ∧ jj = .int .i64 j2 ∧ Below W5.heap.size W5 wz)
                case atStart => exact ⟨0, by omega, rfl, Below.refl _ _⟩
                case round =>
                  obtain ⟨j2, hj2, rfl, hb6⟩ := hrel
                  obtain ⟨wD, rfl⟩ : ∃ x, x = wr := ⟨wr, rfl⟩
                  obtain ⟨gD, rfl⟩ : ∃ x, x = gk := ⟨gk, rfl⟩
                  have x3 : wD.cell? ⟨wA.heap.size, 3, none⟩ = some (.slice (some ⟨b2, o2, none⟩) xa.length d1) := (hb6.cell (p := ⟨wA.heap.size, 3, none⟩) LTX.out).trans X3.out
                  have q0 : wD.cell? ⟨b2, o2 + k * 2, none⟩ = some (.string ⟨an.toArray⟩) := (hb6.cell (p := ⟨b2, o2 + k * 2, none⟩) LT2.out).trans Q0.out
                  have h6s := hb6.size
                  by_cases hl2 : j2 < k
                  · have i4 : (j2 : Int) < (k : Int) := by omega
                    have i5 : (j2 : Int) < (xa.length : Int) := by omega
                    have hla : j2 < xa.length := by omega
                    have q1 := (hb6.cell (p := ⟨b2, o2 + j2 * 2, none⟩) LT2.out).trans (HC5.out j2 hla)
                    have hap : (xa[j2]'hla).1 ≠ an := by
                      have h := List.pairwise_iff_getElem.1 HAO.out.apart j2 k hla hlk hl2
                      rwa [HAN.out] at h
                    obtain ⟨aj, haj⟩ : ∃ a, (xa[j2]'hla).1 = a := ⟨_, rfl⟩
                    rw [haj] at q1 hap
                    have hap2 : (aj == an) = false := by rw [beq_eq_false_iff_ne]; exact hap
                    clear haj
                    have H6 := Lib.hid hb6
                    have lt3 : wA.heap.size < wD.heap.size := Nat.lt_of_lt_of_le LTX.out h6s
                    have lt4 : b2 < wD.heap.size := Nat.lt_of_lt_of_le LT2.out h6s
                    have e3 := fun x b o => ext_cell wD.heap.size wD x b o
                    clear hb6
                    go_upto_region 23 with fail
                    refine region_ext wD.heap.size (by kernel_rfl) (by kernel_rfl) ?_
                    repeat quiet_step (fail)
                    refine wpQuiet_nil ?_
                    intro w7 hb7
                    go_wp2
                    go_roundg (gD - 1)
                    case measure => omega
                    case rel => exact ⟨j2 + 1, by omega, by go_num, H6.out.trans (hb7.mono h6s)⟩
                  · go_wp2
                    go_roundg (gB - 1)
                    case measure => omega
                    case rel => exact ⟨k + 1, by omega, by go_num, HBK.out.trans ((HB5.out.trans (hb6.mono HB5.out.size)).mono hz3)⟩
          · go_wp2
            go_roundg (gA - 1)
            case measure => omega
            case rel => exact ⟨j + 1, by omega, by go_num, HB3.out.trans (HBK.out.mono HB3.out.size)⟩
      · have hem : xn.isEmpty = false := by rcases xn with _ | ⟨a, b⟩; exact absurd rfl hne; rfl
        obtain ⟨W3, hW3⟩ : ∃ W, wA.alloc (.cells #[.int .i64 3, .string ⟨xn.toArray⟩, .string ⟨#[]⟩, .slice A1 0 d1, .bool false] 44) = W := ⟨_, rfl⟩
        have hX : Bk W3 wA.heap.size 44 #[.int .i64 3, .string ⟨xn.toArray⟩, .string ⟨#[]⟩, .slice A1 0 d1, .bool false] := hW3 ▸ Bk.new wA 44 _
        have hB3 : Below wA.heap.size wA W3 := hW3 ▸ (Below.refl _ wA).alloc (Nat.le_refl _) _
        have HW3 := Lib.hid hW3
        have ra3 := Lib.hid (ra.below hB3 (Nat.le_refl _))
        have HB3 := Lib.hid (HB.out.trans (hB3.mono hz2))
        have HX := Lib.hid hX
        have HSM := Lib.hid hsm
        have HNM := Lib.hid hnm
        clear hW3 hX hB3 ra hsm hnm
        dsimp only [List.length_nil] at g3
        go_upto_region 13 with fail
        rw [HW3.out]
        have x3 : W3.cell? ⟨wA.heap.size, 3, none⟩ = some (.slice A1 0 d1) := HX.out.cell 3
        clear g0 g1 g2 g3 g4
        go_loopg [6] 0 (fun gk2 kk wz => kk = .int .i64 0 ∧ wz = W3)
        case atStart => exact ⟨rfl, rfl⟩
        case round =>
          obtain ⟨rfl, rfl⟩ := hrel
          go_wp2
          go_roundg (gA - 1)
          case measure => omega
          case rel => exact ⟨j + 1, by omega, by go_num, HB3.out⟩
    · have hke : j = N := by omega
      subst hke
      have HB := Lib.hid (H4.out.trans (hbw.mono H4.out.size))
      clear hbw
      go_wp2_with (go_at_call 17; refine (known_any (HE.out _ HB.out)).mono ?_; rintro e w6 ⟨rfl, h6⟩)
      go_ret
      exact ⟨rfl, HB.out.trans (h6.mono HB.out.size)⟩
end Go.Proofs.YtnpoipjnnlbnfaaDoor
