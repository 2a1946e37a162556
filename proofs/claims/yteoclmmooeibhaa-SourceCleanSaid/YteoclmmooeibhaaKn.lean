/- The law's own 'known': Decode of eight bytes. No conditions. -/
import Derived.Test.YteoclmmooeibhaaDc
import Derived.Lib.SlBytesConst
namespace Go.Proofs.Yteoclmmooeibhaa
set_option linter.unusedVariables false
open Go.RowKit Go.Proofs.Fm Go.Proofs.Fb Go.Proofs.Fu

theorem dec_known : dec [97, 13, 10, 98, 13, 99, 0, 255] = [97, 10, 98, 10, 99, 65533, 65533] := by kernel_rfl
theorem bytes_known : runesBytes [97, 10, 98, 10, 99, 65533, 65533] = ⟨#[97, 10, 98, 10, 99, 239, 191, 189, 239, 191, 189]⟩ := by kernel_rfl
theorem lit_row (w : World) (xs : List Int) (k : IntKind) (t : TypeId) (fr : Nat × Nat) : Row (w.alloc (.cells (xs.map (Value.int k)).toArray t fr)) k (some ⟨w.heap.size, 0, none⟩) xs := by
  intro _
  refine ⟨_, 0, rfl, fun j hj => ?_⟩
  rw [Nat.zero_add, cell_of_row _ w.heap.size j _ t fr (heap_alloc_new w _)]
  simp [List.getElem?_eq_getElem hj]
/-- source.Decode, its answer's runes alone -/
theorem decode_row (A : Option Addr) (n c : Nat) (xs : List Int) (hn : xs.length = n) (w : World) (ha : Row w .u8 A xs) (hx : n ≤ 65536) :
    Calls Try.prog 8 #[.slice A n c] w fun e w' => ∃ g, e = .returned (.tuple #[.slice (some ⟨g, 0, none⟩) (dec xs).length n, .int .i64 0]) ∧
      Row w' .i32 (some ⟨g, 0, none⟩) (dec xs) ∧ w.heap.size ≤ g ∧ Below w.heap.size w w' := by
  refine (decode_any A n c xs hn w ha hx).mono ?_
  rintro e w' ⟨zs, rfl, hI, _, hb⟩
  refine ⟨_, rfl, ?_, Nat.le_refl _, hb⟩
  have := hI.row.take (dec xs).length
  rwa [List.take_left] at this
set_option maxRecDepth 1000000 in
set_option maxHeartbeats 4000000 in
theorem known_any (w : World) : Calls Try.prog 14 #[] w fun e w' => e = .returned (.bool true) ∧ Below w.heap.size w w' := by
  go_enter Try.func14, Try.ntmps14
  have hI := lit_row w [97, 13, 10, 98, 13, 99, 0, 255] .u8 5 (8, 9)
  have kc := Lib.run_convert_bytes_const (P := Try.prog) w 26 5 (([97, 13, 10, 98, 13, 99, 0, 255] : List Int).map (Value.int .u8)).toArray 8 8 Try.underlying26 Try.underlying5
  simp only [List.map_cons, List.map_nil] at kc
  have hd := decode_row (some ⟨w.heap.size, 0, none⟩) 8 8 [97, 13, 10, 98, 13, 99, 0, 255] rfl _ hI (by omega)
  rw [dec_known] at hd
  have HD := Lib.hid hd
  clear hd hI
  go_wp2_with (go_at_call 8; refine (HD.out).mono ?_; rintro e w2 ⟨g, rfl, hr, hg, hb⟩; have hcv := run_runes w2 22 21 Try.underlying22 Try.underlying21 (some ⟨g, 0, none⟩) 7 8 _ rfl hr 9 Try.underlying9; rw [bytes_known] at hcv; have hcv2 : (convert 22 9 (.slice (some ⟨g, 0, none⟩) [(97 : Int), 10, 98, 10, 99, 65533, 65533].length 8)).run Try.prog w2 = _ := hcv; have hbw : Below w.heap.size w w2 := ((Below.refl _ w).alloc (Nat.le_refl _) _).trans (hb.mono (by simp)); clear hr hb)
  go_ret
  exact ⟨rfl, hbw⟩
end Go.Proofs.Yteoclmmooeibhaa
