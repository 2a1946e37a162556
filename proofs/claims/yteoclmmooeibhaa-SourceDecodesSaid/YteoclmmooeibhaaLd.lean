/- SourceDecodes: the law's walk. The condition: what is handed in is no longer than the form's reach. -/
import Derived.Test.YteoclmmooeibhaaKn
import Derived.Test.YteoclmmooeibhaaRf
import Derived.Test.YteoclmmooeibhaaBIntactbyte
import Derived.Test.YteoclmmooeibhaaBSamerune
namespace Go.Proofs.Yteoclmmooeibhaa
set_option linter.unusedVariables false
open Go.RowKit Go.Proofs.Fm Go.Proofs.Fb Go.Proofs.Fu

theorem Try.byteSize : Try.prog.bytesOf 5 = 1 := by kernel_rfl

set_option maxRecDepth 1000000 in
set_option maxHeartbeats 4000000 in
theorem decodes_long (w : World) (A : Option Addr) (n c : Nat) (xs : List Int) (ha : Row w .u8 A xs) (hn : xs.length = n) (hb : n ≤ 140737488351232) (hx : 65536 < n) :
    Calls Try.prog 4 #[.slice A n c] w fun e w' => e = .returned (.bool true) ∧ Below w.heap.size w w' := by
  have h1 : (65536 : Int) < (n : Int) := by omega
  have HN := Lib.hid hn
  have HA := Lib.hid ha
  clear hn ha
  go_enter Try.func4, Try.ntmps4
  go_wp2_with (first
    | (go_at_call 15; refine (B_byte.roomy_n A n c xs HN.out 165 w HA.out hb).mono ?_; rintro e w1 ⟨g, rfl, hg, hI, hb1⟩; have HI := Lib.hid hI; have HB := Lib.hid hb1; clear hI hb1)
    | (go_at_call 8; refine (decode_long (some ⟨g, 0, none⟩) n (n + 80) w1 hx).mono ?_; rintro e w2 ⟨rfl, rfl⟩)
    | (go_at_call 16; refine (B_byte.intact_n g A n c xs HN.out 165 w1 HI.out (HA.out.below HB.out (Nat.le_refl _)) hb).mono ?_; rintro e w3 ⟨rfl, q, rfl⟩)
    | (go_at_call 14; refine (known_any _).mono ?_; rintro e w4 ⟨rfl, hb4⟩))
  go_ret
  exact ⟨rfl, (below_drewN HB.out q).trans (hb4.mono (below_drewN HB.out q).size)⟩

set_option maxRecDepth 1000000 in
set_option maxHeartbeats 4000000 in
theorem decodes_short (w : World) (A : Option Addr) (n c : Nat) (xs : List Int) (ha : Row w .u8 A xs) (hn : xs.length = n) (hx : n ≤ 65536) :
    Calls Try.prog 4 #[.slice A n c] w fun e w' => e = .returned (.bool true) ∧ Below w.heap.size w w' := by
  have h1 : ¬ ((65536 : Int) < (n : Int)) := by omega
  have HN := Lib.hid hn
  have HA := Lib.hid ha
  have hdl := dec_length xs
  rw [hn] at hdl
  clear hn ha
  go_enter Try.func4, Try.ntmps4
  go_wp2_with (first
    | (go_at_call 15; refine (B_byte.roomy_n A n c xs HN.out 165 w HA.out (by omega)).mono ?_; rintro e w1 ⟨g, rfl, hg, hI, hb1⟩; have HI := Lib.hid hI; have HB := Lib.hid hb1; have hgl := hI.lt; clear hI hb1)
    | (go_at_call 8; refine (decode_row (some ⟨g, 0, none⟩) n (n + 80) xs HN.out w1 (B_byte.room_row HI.out) hx).mono ?_; rintro e w2 ⟨g2, rfl, hr2, hg2, hb2⟩; have HR2 := Lib.hid hr2; have HI2 := Lib.hid (HI.out.below hb2 hgl); have HB2 := Lib.hid (HB.out.trans (hb2.mono HB.out.size)); clear hr2 hb2)
    | (go_at_call 16; refine (B_byte.intact_n g A n c xs HN.out 165 w2 HI2.out (HA.out.below HB2.out (Nat.le_refl _)) (by omega)).mono ?_; rintro e w3 ⟨rfl, q, rfl⟩; have HB3 := Lib.hid (below_drewN HB2.out q))
    | (go_at_call 18; refine (ref_any A n c xs HN.out _ (HA.out.below HB3.out (Nat.le_refl _)) hx).mono ?_; rintro e w4 ⟨A4, c4, rfl, hr4, hb4⟩; have HB4 := Lib.hid (HB3.out.trans (hb4.mono HB3.out.size)); have HR4 := Lib.hid hr4; have HR5 := Lib.hid ((HR2.out.drewN q).below hb4 (Nat.le_refl _)); clear hr4 hb4)
    | (go_at_call 17; refine (B_rune.same_n (some ⟨g2, 0, none⟩) A4 (dec xs).length n c4 (dec xs) rfl _ HR5.out HR4.out (by omega)).mono ?_; rintro e w5 ⟨rfl, q2, rfl⟩; have HB5 := Lib.hid (below_drewN HB4.out q2))
    | (go_at_call 14; refine (known_any _).mono ?_; rintro e w6 ⟨rfl, hb6⟩))
  go_ret
  exact ⟨rfl, HB5.out.trans (hb6.mono HB5.out.size)⟩

theorem decodes_walk (w : World) (A : Option Addr) (n c : Nat) (xs : List Int) (ha : Row w .u8 A xs) (hn : xs.length = n) (hw : ∀ x ∈ xs, (Lit.int .u8 x).wf = true) (hb : n * Try.prog.bytesOf 5 ≤ 140737488351232) (hc : n ≤ c) :
    Calls Try.prog 4 #[.slice A n c] w fun e w' => e = .returned (.bool true) ∧ Below w.heap.size w w' := by
  rw [Try.byteSize, Nat.mul_one] at hb
  by_cases h : n ≤ 65536
  · exact decodes_short w A n c xs ha hn h
  · exact decodes_long w A n c xs ha hn hb (by omega)
end Go.Proofs.Yteoclmmooeibhaa
