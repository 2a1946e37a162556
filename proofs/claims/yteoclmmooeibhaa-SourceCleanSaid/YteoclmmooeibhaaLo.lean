/- SourceClean: the law's walk, one of four ways. No conditions but the arguments' own. -/
import Derived.Test.YteoclmmooeibhaaLh
namespace Go.Proofs.Yteoclmmooeibhaa.cl
set_option linter.unusedVariables false
open Go.Proofs.Yteoclmmooeibhaa Go.RowKit Go.Proofs.Fm Go.Proofs.Fb Go.Proofs.Fu

set_option maxRecDepth 1000000 in
set_option maxHeartbeats 4000000 in
theorem clean_sb (w : World) (A : Option Addr) (n c : Nat) (xs : List Int) (ha : Row w .u8 A xs) (hn : xs.length = n) (hA : A = none → c = 0) (s : ByteArray) (hx : n ≤ 2000) (hs : 2000 < s.size) :
    Calls Try.prog 5 #[.slice A n c, .string s] w fun e w' => e = .returned (.bool true) ∧ Below w.heap.size w w' := by
  have HN := Lib.hid hn
  have HA := Lib.hid ha
  have h1 : ¬ ((2000 : Int) < (n : Int)) := by omega
  clear hn ha
  obtain ⟨L, hL⟩ : ∃ L, dec xs = L := ⟨_, rfl⟩
  obtain ⟨a, hLa⟩ : ∃ a, L.length = a := ⟨_, rfl⟩
  have hal : a ≤ n := by have := dec_length xs; rw [hL, hLa, HN.out] at this; exact this
  have hgood : ∀ x ∈ L, Fu.Good x := by rw [← hL]; exact dec_good _
  have hag : dec (numsOf (runesBytes L)) = L := by rw [← hL]; exact dec_again _
  have hrl : (runesBytes L).size ≤ 8000 := by have := runesBytes_size_le L; omega
  have HL := Lib.hid hL
  have HLA := Lib.hid hLa
  have HG := Lib.hid hgood
  have HAG := Lib.hid hag
  clear hL hLa hgood hag
  obtain ⟨t, ht⟩ : ∃ t, s.extract 0 2000 = t := ⟨_, rfl⟩
  have hts : t.size ≤ 2000 := by rw [← ht, ByteArray.size_extract]; omega
  have j1 : (2000 : Int) < (s.size : Int) := by omega
  have hcut : ∀ w : World, (Instr.slice 9 (.string s) none (some (.int .i64 2000)) none).run Try.prog w = .ok (.string t) w := by
    intro w
    have := run_slice_string_h (P := Try.prog) w 9 s Try.underlying9 .i64 2000 (by omega) (by omega)
    rw [show (2000 : Int).toNat = 2000 from rfl, ht] at this
    exact this
  have htp : t.size ≤ 2000 := by omega
  obtain ⟨M, hM⟩ : ∃ M, dec (numsOf t) = M := ⟨_, rfl⟩
  obtain ⟨d, hMd⟩ : ∃ d, M.length = d := ⟨_, rfl⟩
  have hdl : d ≤ 2000 := by have := dec_length (numsOf t); rw [hM, hMd, numsOf_length] at this; omega
  have htwo : dec ((xs ++ [32]) ++ numsOf t) = (L ++ [32]) ++ M := by
    rw [List.append_assoc, List.append_assoc]
    show dec (xs ++ 32 :: numsOf t) = L ++ 32 :: M
    rw [dec_two, HL.out, hM]
  have HM := Lib.hid hM
  have HMD := Lib.hid hMd
  have HTWO := Lib.hid htwo
  clear hM hMd htwo
  have HLEN : Hid (((L ++ [32]) ++ M).length = a + 1 + d) := by
    show _ = _
    rw [List.length_append, List.length_append, HLA.out, HMD.out]; rfl
  obtain ⟨ib, hib, hbz, hbs, hbb⟩ := info_parts Try.byteInfo
  obtain ⟨ir, hir, hrz, hrs, hrb⟩ := info_parts Try.runeInfo
  have BZ := Lib.hid hbz
  have BS := Lib.hid hbs
  have BB := Lib.hid hbb
  have RZ := Lib.hid hrz
  have RS := Lib.hid hrs
  have RB := Lib.hid hrb
  clear hbz hbs hbb hrz hrs hrb
  go_enter Try.func5, Try.ntmps5
  go_wp2_with (go_at_call 8; with_reducible (refine Calls.mono (decode_is A n c xs HN.out w HA.out (by omega) L a HL.out HLA.out) ?_); rintro e w1 ⟨g1, rfl, hr1, hg1, hb1⟩; have HR1 := Lib.hid hr1; have HB1 := Lib.hid hb1; clear hr1 hb1)
  obtain ⟨b1, o1, hge, hc1⟩ : ∃ b o, (some ⟨g1, 0, none⟩ : Option Addr) = some ⟨b, o, none⟩ ∧ True := ⟨g1, 0, rfl, trivial⟩
  clear hge hc1
  go_loopw [7] (fun i wr => ∃ (k : Nat), k ≤ a ∧ i = .int .i64 k ∧ ∃ q, wr = w1.drewN q) (fun i _ => a - (intOf i).toNat)
  case atStart => exact ⟨0, Nat.zero_le _, rfl, 0, rfl⟩
  case round =>
    obtain ⟨k, hk, rfl, q, rfl⟩ := hrel
    by_cases hlt : k < a
    · obtain ⟨b2, o2, he, hc2⟩ := (HR1.out).at_ (i := k) (by rw [HLA.out]; exact hlt)
      injection he with he; injection he with e1 e2; subst e1 e2
      have ga := hc2 k (by rw [HLA.out]; exact hlt)
      rw [Nat.zero_add] at ga
      have hgd := good_at HG.out (i := k) (by rw [HLA.out]; exact hlt)
      generalize L.getD k 0 = u at ga hgd
      have i1 : (k : Int) < (a : Int) := by omega
      have k1 : (u == 13) = false := by rw [beq_eq_false_iff_ne]; exact hgd.1
      have k2 : ¬ (u ≤ 0) := by have := hgd.2.1; omega
      have k3 : ¬ ((1114111 : Int) < u) := by have := hgd.2.2.1; omega
      clear hc2 hgd
      go_wp2
      go_roundw
      case rel => exact ⟨k + 1, by omega, by go_num, _, rfl⟩
      case measure => simp [intOf]; omega
    · have i1 : ¬ ((k : Int) < (a : Int)) := by omega
      clear hlt hk
      have hbq := below_drewN HB1.out q
      have hrq := (HR1.out).drewN q
      obtain ⟨W, hW⟩ : ∃ W, w1.drewN q = W := ⟨_, rfl⟩
      rw [hW] at hbq hrq ⊢
      clear hW
      have HBW := Lib.hid hbq
      have HRW := Lib.hid hrq
      have hcv1 := run_runes W 22 21 Try.underlying22 Try.underlying21 (some ⟨g1, 0, none⟩) a n L HLA.out hrq 9 Try.underlying9
      obtain ⟨c2, W2, hcv2, hr2, hb2⟩ := text_bytes (P := Try.prog) W 9 26 5 (runesBytes L) Try.underlying9 Try.underlying26 Try.underlying5
      have HR2 := Lib.hid hr2
      have HB2 := Lib.hid (hbq.trans (hb2.mono hbq.size))
      have HRW2 := Lib.hid (hrq.below hb2 (Nat.le_refl _))
      clear hr2 hb2 hbq hrq
      have hpp : t.size ≤ 2000 := htp
      go_wp2_with (first
        | (go_at_call 8; with_reducible (refine Calls.mono (decode_is (some ⟨W.heap.size, 0, none⟩) (runesBytes L).size c2 (numsOf (runesBytes L)) (numsOf_length _) W2 HR2.out (by omega) L a HAG.out HLA.out) ?_); rintro e w3 ⟨g3, rfl, hr3, hg3, hb3⟩; have HR3 := Lib.hid hr3; have HB3 := Lib.hid (HB2.out.trans (hb3.mono HB2.out.size)); have HRL3 := Lib.hid (HRW2.out.below hb3 (Nat.le_refl _)); clear hr3 hb3)
        | (go_at_call 17; with_reducible (refine Calls.mono (B_rune.same_n (some ⟨g1, 0, none⟩) (some ⟨g3, 0, none⟩) a n (runesBytes L).size L HLA.out w3 HRL3.out HR3.out (by omega)) ?_); rintro e w4 ⟨rfl, q4, hq4⟩; have HB4 := Lib.hid (show Below w.heap.size w w4 by rw [← hq4]; exact below_drewN HB3.out q4); have HL4 := Lib.hid (show Row w4 .i32 (some ⟨g1, 0, none⟩) L by rw [← hq4]; exact HRL3.out.drewN q4); clear hq4; have HX4 := Lib.hid (HA.out.below HB4.out (Nat.le_refl _)))
        | (refine wpList_append_ints rfl (.tmp 74) (.tmp 75) 26 rfl w4.heap.size 5 .u8 ib 1 Try.underlying26 hib BZ.out BS.out BB.out (.slice (some ⟨w4.heap.size, 0, none⟩) 0 0) 0 [] rfl (own_empty w4 w4.heap.size 5 (Nat.le_refl _)) A n c xs rfl HN.out (HX4.out.below ((Below.refl w4.heap.size w4).alloc (Nat.le_refl _) _) (Nat.le_refl _)) hA (by simp [maxLen]; try omega) (by omega) (by simp) ?_; intro A5 c5 w5 hO5 hg5 hat5; have HB5 := Lib.hid (show Below w4.heap.size w4 w5 from ((Below.refl w4.heap.size w4).alloc (Nat.le_refl _) _).grown hg5 (by simp) (fun k hk => by simp [Value.ownBlock] at hk; omega)); simp only [Nat.zero_add, List.nil_append] at hO5; have HO5 := Lib.hid hO5; clear hg5 hat5 hO5)
        | (refine wpList_append_ints rfl (.tmp 76) (.tmp 77) 26 rfl w4.heap.size 5 .u8 ib 1 Try.underlying26 hib BZ.out BS.out BB.out (.slice A5 n c5) n xs rfl (HO5.out.alloc _) (some ⟨w5.heap.size, 0, none⟩) 1 1 [32] rfl rfl (row_one w5 .u8 32 5) (by simp) (by simp [maxLen]; try omega) (by omega) (by have := HB5.out.size; simp; omega) ?_; intro A6 c6 w6 hO6 hg6 hat6; have HB6 := Lib.hid (own_world HB5.out HB5.out.size HO5.out hg6); have HO6 := Lib.hid hO6; clear hg6 hat6 hO6)
        | (refine Lib.wpList_append_own_string w6 rfl (.tmp 78) (.tmp 79) 26 9 rfl w4.heap.size 5 ib Try.underlying26 Try.underlying9 hib BZ.out BS.out BB.out (.slice A6 (n + 1) c6) (n + 1) _ rfl HO6.out t rfl (by simp [maxLen]; omega) (by omega) HB6.out.size ?_; intro v7 w7 hO7 hg7 hv7; obtain ⟨A7, c7, hv, _, _⟩ := own_slice hO7; subst hv; have HB7 := Lib.hid (HB6.out.grown hg7 HB6.out.size (fun k hk => (HO6.out.lt k hk).1)); rw [strCells_nums, ← List.map_append] at hO7; have HO7 := Lib.hid hO7; clear hg7 hv7 hO7)
        | (go_at_call 8; with_reducible (refine Calls.mono (decode_is A7 (n + 1 + t.size) c7 ((xs ++ [32]) ++ numsOf t) (own_len HO7.out) w7 (own_row HO7.out) (by omega) ((L ++ [32]) ++ M) (a + 1 + d) HTWO.out HLEN.out) ?_); rintro e w8 ⟨g8, rfl, hr8, hg8, hb8⟩; have HR8 := Lib.hid hr8; have HB8 := Lib.hid (HB7.out.trans (hb8.mono HB7.out.size)); clear hr8 hb8; obtain ⟨c9, w9, hcv9, hr9, hb9⟩ := text_bytes (P := Try.prog) w8 9 26 5 t Try.underlying9 Try.underlying26 Try.underlying5; have HR9 := Lib.hid hr9; have HB9 := Lib.hid hb9; clear hr9 hb9)
        | (go_at_call 8; with_reducible (refine Calls.mono (decode_is (some ⟨w8.heap.size, 0, none⟩) t.size c9 (numsOf t) (numsOf_length _) w9 HR9.out (by omega) M d HM.out HMD.out) ?_); rintro e w10 ⟨g10, rfl, hr10, hg10, hb10⟩; have HR10 := Lib.hid hr10; have HB10 := Lib.hid (HB9.out.trans (hb10.mono HB9.out.size)); have HL10 := Lib.hid (HL4.out.below (HB8.out.trans (HB10.out.mono HB8.out.size)) (Nat.le_refl _)); clear hr10 hb10)
        | (refine wpList_append_ints rfl (.tmp 91) (.tmp 92) 22 rfl w10.heap.size 21 .i32 ir 4 Try.underlying22 hir RZ.out RS.out RB.out (.slice (some ⟨w10.heap.size, 0, none⟩) 0 0) 0 [] rfl (own_empty w10 w10.heap.size 21 (Nat.le_refl _)) (some ⟨g1, 0, none⟩) a n L rfl HLA.out (HL10.out.below ((Below.refl w10.heap.size w10).alloc (Nat.le_refl _) _) (Nat.le_refl _)) (by simp) (by simp [maxLen]; omega) (by omega) (by simp) ?_; intro A11 c11 w11 hO11 hg11 hat11; have HB11 := Lib.hid (show Below w10.heap.size w10 w11 from ((Below.refl w10.heap.size w10).alloc (Nat.le_refl _) _).grown hg11 (by simp) (fun k hk => by simp [Value.ownBlock] at hk; omega)); simp only [Nat.zero_add, List.nil_append] at hO11; have HO11 := Lib.hid hO11; clear hg11 hat11 hO11)
        | (refine wpList_append_ints rfl (.tmp 93) (.tmp 94) 22 rfl w10.heap.size 21 .i32 ir 4 Try.underlying22 hir RZ.out RS.out RB.out (.slice A11 a c11) a L rfl (HO11.out.alloc _) (some ⟨w11.heap.size, 0, none⟩) 1 1 [32] rfl rfl (row_one w11 .i32 32 21) (by simp) (by simp [maxLen]; omega) (by omega) (by have := HB11.out.size; simp; omega) ?_; intro A12 c12 w12 hO12 hg12 hat12; have HB12 := Lib.hid (own_world HB11.out HB11.out.size HO11.out hg12); have HO12 := Lib.hid hO12; clear hg12 hat12 hO12)
        | (refine wpList_append_ints rfl (.tmp 95) (.tmp 96) 22 rfl w10.heap.size 21 .i32 ir 4 Try.underlying22 hir RZ.out RS.out RB.out (.slice A12 (a + 1) c12) (a + 1) (L ++ [32]) rfl HO12.out (some ⟨g10, 0, none⟩) d t.size M rfl HMD.out (HR10.out.below HB12.out (Nat.le_refl _)) (by simp) (by simp [maxLen]; omega) (by omega) HB12.out.size ?_; intro A13 c13 w13 hO13 hg13 hat13; have HB13 := Lib.hid (HB12.out.grown hg13 HB12.out.size (fun k hk => (HO12.out.lt k hk).1)); have HO13 := Lib.hid hO13; clear hg13 hat13 hO13)
        | (go_at_call 17; with_reducible (refine Calls.mono (B_rune.same_n (some ⟨g8, 0, none⟩) A13 (a + 1 + d) (n + 1 + t.size) c13 ((L ++ [32]) ++ M) (own_len HO13.out) w13 (HR8.out.below (HB10.out.trans (HB13.out.mono HB10.out.size)) (Nat.le_refl _)) (own_row HO13.out) (by omega)) ?_); rintro e w14 ⟨rfl, q14, hq14⟩; have HB14 := Lib.hid (show Below w.heap.size w w14 by rw [← hq14]; exact below_drewN (HB4.out.trans ((HB8.out.trans ((HB10.out.trans (HB13.out.mono HB10.out.size)).mono HB8.out.size)).mono HB4.out.size)) q14); clear hq14)
        | (go_at_call 14; with_reducible (refine Calls.mono (known_any _) ?_); rintro e we ⟨rfl, hbe⟩))
      go_ret
      exact ⟨rfl, HB14.out.trans (hbe.mono HB14.out.size)⟩
end Go.Proofs.Yteoclmmooeibhaa.cl
