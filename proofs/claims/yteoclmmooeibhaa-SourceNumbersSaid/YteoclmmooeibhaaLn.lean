/- SourceNumbers: the law's walk. No conditions. -/
import Derived.Test.YteoclmmooeibhaaKn
import Derived.Test.YteoclmmooeibhaaCu
namespace Go.Proofs.Yteoclmmooeibhaa
set_option linter.unusedVariables false
open Go.RowKit Go.Proofs.Fm Go.Proofs.Fb Go.Proofs.Fu

theorem Try.byteInfo : (Try.prog.info? 5).map (fun i => (i.zero, i.size, i.bytes)) = some (some (.int .u8 0), 1, 1) := by kernel_rfl
theorem dec_two_ends : dec [13, 13, 10] = [10, 10] := by kernel_rfl
theorem bytes_two_ends : runesBytes [10, 10] = ⟨#[10, 10]⟩ := by kernel_rfl
theorem dec_nothing : dec [] = [] := by kernel_rfl

theorem next_below {w W w' : World} {B b q : Nat} {v : Value} (h : Below B w W) (hb : B ≤ b) (he : (W.drewN q).setCell ⟨b, 1, none⟩ v = w') : Below B w w' := by
  subst he; exact (below_drewN h q).setCell (p := ⟨b, 1, none⟩) hb _
theorem peek_six {w : World} {base b c : Nat} {A : Option Addr} (h : Cur w base b A 2 c (0 + 1) [5, 6]) :
    Calls Try.prog 11 #[.pointer (some ⟨b, 0, none⟩), .int .i64 0] w fun e w' => e = .returned (.tuple #[.int .i64 6, .bool true]) ∧ ∃ q, w.drewN q = w' := peek_yes h (by omega) 0 (by omega)
theorem lit_ends (w : World) : Row (w.alloc (.cells #[.int .u8 13, .int .u8 13, .int .u8 10] 5 (3, 4))) .u8 (some ⟨w.heap.size, 0, none⟩) [13, 13, 10] := lit_row w [13, 13, 10] .u8 5 (3, 4)
theorem lit_five (w : World) : Row (w.alloc (.cells #[.int .i64 5, .int .i64 6] 3)) .i64 (some ⟨w.heap.size, 0, none⟩) [5, 6] := lit_row w [5, 6] .i64 3 (0, 0)

set_option maxRecDepth 1000000 in
set_option maxHeartbeats 4000000 in
theorem numbers_walk (w : World) : Calls Try.prog 3 #[] w fun e w' => e = .returned (.bool true) ∧ Below w.heap.size w w' := by
  obtain ⟨i0, hi0, hz0, hs0, hb0⟩ := info_parts Try.byteInfo
  have HZ := Lib.hid hz0
  have HS := Lib.hid hs0
  have HB := Lib.hid hb0
  clear hz0 hs0 hb0
  obtain ⟨m, hm⟩ : ∃ m : Nat, m = 65537 := ⟨_, rfl⟩
  have HM := Lib.hid hm
  have hml : 65536 < m := by omega
  clear hm
  have kc := fun w : World => Lib.run_convert_bytes_const (P := Try.prog) w 26 5 (([13, 13, 10] : List Int).map (Value.int .u8)).toArray 3 3 Try.underlying26 Try.underlying5
  simp only [List.map_cons, List.map_nil] at kc
  go_enter Try.func3, Try.ntmps3
  go_wp2_with (first
    | (refine wpList_make_big _ rfl (.const (.int .i64 65537)) (.const (.int .i64 65537)) 26 rfl 5 .u8 i0 Try.underlying26 hi0 HZ.out HS.out .i64 .i64 65537 65537 m rfl rfl (by have := HM.out; omega) (by have := HM.out; omega) (by rw [HB.out]; have := HM.out; omega) (by have := HM.out; omega) ?_; intro w1 hI1 hb1; have HB1 := Lib.hid hb1; clear hI1 hb1)
    | (go_at_call 8; with_reducible (refine Calls.mono (decode_long (some ⟨w.heap.size, 0, none⟩) m m w1 hml) ?_); rintro e w2 ⟨rfl, rfl⟩)
    | (go_at_call 8; with_reducible (refine Calls.mono (decode_row none 0 0 [] rfl w1 (Row.nil _ _ _) (by omega)) ?_); rintro e w3 ⟨g3, rfl, hr3, hg3, hb3⟩; rw [dec_nothing]; have HB3 := Lib.hid (HB1.out.trans (hb3.mono HB1.out.size)); have kc3 := kc w3; clear hr3 hb3)
    | (go_at_call 8; with_reducible (refine Calls.mono (decode_row (some ⟨w3.heap.size, 0, none⟩) 3 3 [13, 13, 10] rfl _ (lit_ends w3) (by omega)) ?_); rintro e w4 ⟨g4, rfl, hr4, hg4, hb4⟩; rw [dec_two_ends] at hr4 ⊢; have HB4 := Lib.hid (HB3.out.trans ((((Below.refl w3.heap.size w3).alloc (Nat.le_refl _) _).trans (hb4.mono (by simp))).mono HB3.out.size)); have HR4 := Lib.hid hr4; clear hr4 hb4)
    | (go_at_call 9; with_reducible (refine Calls.mono (new_any (some ⟨w4.heap.size, 0, none⟩) 2 2 [5, 6] rfl _ (lit_five w4) (by omega)) ?_); rintro e w5 ⟨b, A5, c5, rfl, hC5, hb5⟩; have hbb : w.heap.size ≤ b := Nat.le_trans (Nat.le_trans HB4.out.size (by simp)) hC5.hb; have HB5 := Lib.hid (HB4.out.trans ((((Below.refl w4.heap.size w4).alloc (Nat.le_refl _) _).trans (hb5.mono (by simp))).mono HB4.out.size)); have HR5 := Lib.hid (HR4.out.below (((Below.refl w4.heap.size w4).alloc (Nat.le_refl _) _).trans (hb5.mono (by simp))) (Nat.le_refl _)); have HC5 := Lib.hid hC5; have hcv := run_runes w5 22 21 Try.underlying22 Try.underlying21 (some ⟨g4, 0, none⟩) 2 3 _ rfl HR5.out 9 Try.underlying9; rw [bytes_two_ends] at hcv; clear hC5 hb5)
    | (go_at_call 10; with_reducible (refine Calls.mono (next_yes HC5.out (by omega) (by omega)) ?_); rintro e w6 ⟨rfl, hC6, q6, he6⟩; have HC6 := Lib.hid hC6; have HB6 := Lib.hid (next_below HB5.out hbb he6); clear hC6 he6)
    | (go_at_call 11; with_reducible (refine Calls.mono (peek_six HC6.out) ?_); rintro e w7 ⟨rfl, q7, rfl⟩; have HC7 := Lib.hid (HC6.out.drewN q7))
    | (go_at_call 11; with_reducible (refine Calls.mono (peek_no HC7.out (by omega) 1 (by omega)) ?_); rintro e w8 ⟨rfl, q8, rfl⟩; have HC8 := Lib.hid (HC6.out.drewN (q7 + q8)))
    | (go_at_call 11; with_reducible (refine Calls.mono (peek_no HC8.out (by omega) (-1) (by omega)) ?_); rintro e w9 ⟨rfl, q9, rfl⟩; have HC9 := Lib.hid (HC6.out.drewN (q7 + q8 + q9)); have HB9 := Lib.hid (below_drewN HB6.out (q7 + q8 + q9)))
    | (go_at_call 10; with_reducible (refine Calls.mono (next_yes HC9.out (by omega) (by omega)) ?_); rintro e wa ⟨rfl, hCa, qa, hea⟩; have HCa := Lib.hid hCa; have HBa := Lib.hid (next_below HB9.out hbb hea); clear hCa hea)
    | (go_at_call 10; with_reducible (refine Calls.mono (next_no HCa.out (by omega) rfl) ?_); rintro e wb ⟨rfl, qb, rfl⟩; have HCb := Lib.hid (HCa.out.drewN qb); have HBb := Lib.hid (below_drewN HBa.out qb))
    | (go_at_call 12; with_reducible (refine Calls.mono (at_any HCb.out) ?_); rintro e wc ⟨rfl, rfl⟩)
    | (go_at_call 13; with_reducible (refine Calls.mono (left_any HCb.out (by omega)) ?_); rintro e wd ⟨rfl, qd, rfl⟩; have HBd := Lib.hid (below_drewN HBa.out (qb + qd)))
    | (go_at_call 14; with_reducible (refine Calls.mono (known_any _) ?_); rintro e we ⟨rfl, hbe⟩))
  go_ret
  exact ⟨rfl, HBd.out.trans (hbe.mono HBd.out.size)⟩
end Go.Proofs.Yteoclmmooeibhaa
