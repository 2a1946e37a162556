/- casementref4's Unescape. No conditions but that the text is not endless. -/
import Derived.Test.YtnpoipjnnlbnfaaDoorXc
import Derived.Lib.BufSteps
namespace Go.Proofs.YtnpoipjnnlbnfaaDoor
set_option linter.unusedVariables false
open Go.RowKit Go.Proofs.Fe Go.Proofs.Fm Go.Proofs.Fb Go.Proofs.Fk Go.Proofs.Fs Go.Proofs.Fc Go.Proofs.Fu

theorem Tryd.byteInfo : (Tryd.prog.info? 5).map (fun i => (i.zero, i.size, i.bytes)) = some (some (.int .u8 0), 1, 1) := by kernel_rfl
def cellsB (l : List UInt8) : List Value := l.map fun b => Value.int .u8 (b.toNat : Int)
theorem cellsB_text (a x : List UInt8) : cellsB a ++ Lib.strCells ⟨x.toArray⟩ = cellsB (a ++ x) := by
  show a.map _ ++ x.map _ = (a ++ x).map _
  rw [List.map_append]
theorem cellsB_byte (a : List UInt8) (c : UInt8) : cellsB a ++ [.int .u8 (c.toNat : Int)] = cellsB (a ++ [c]) := by
  simp [cellsB]
theorem ownBuf_below {B : Nat} {e : TypeId} {v : Value} {n : Nat} {xs : List Value} {W0 w w' : World} (h : Lib.OwnBuf B e v n xs W0 w) (hb : Below w.heap.size w w') : Lib.OwnBuf B e v n xs W0 w' := by
  refine ⟨⟨h.1.1, ?_⟩, h.2.1.trans (hb.mono h.2.2), Nat.le_trans h.2.2 hb.size⟩
  rcases h.1.2 with hn | ⟨g, cap, cur, fz, rfl, hb', hgg, rest⟩
  · exact .inl hn
  · exact .inr ⟨g, cap, cur, fz, rfl, hb', (hb.block g (Array.getElem?_eq_some_iff.1 hgg).1).trans hgg, rest⟩
theorem own_text {B : Nat} {v : Value} {n : Nat} {acc : List UInt8} {W0 w : World} (h : Lib.OwnBuf B 5 v n (cellsB acc) W0 w) (hn : acc.length = n) : ∀ dst, Tryd.prog.underlying dst = some .string → (convert 56 dst v).run Tryd.prog w = .ok (.string ⟨acc.toArray⟩) w := by
  have key : ∃ A c, v = .slice A n c ∧ Row w .u8 A (acc.map (fun b => (b.toNat : Int))) := by
    have hc := fun g (hg : v.ownBlock = some g) => h.1.cells hg
    rcases h.1.2 with ⟨rfl, h0⟩ | ⟨g, cap, cur, fz, rfl, _⟩
    · have : acc = [] := List.eq_nil_of_length_eq_zero (by omega)
      subst this
      exact ⟨none, 0, by rw [h0], Row.nil _ _ _⟩
    · refine ⟨_, cap, rfl, fun _ => ⟨g, 0, rfl, fun j hj => ?_⟩⟩
      rw [List.length_map] at hj
      have h1 := hc g rfl j (.int .u8 ((acc.getD j 0).toNat : Int)) (by simp [cellsB, hj])
      rw [add_zero_addr] at h1
      rw [Nat.zero_add, h1]
      simp [hj]
  obtain ⟨A, c, rfl, hr⟩ := key
  intro dst hd
  have h1 := run_text (P := Tryd.prog) w 56 5 Tryd.underlying56 Tryd.underlying5 A n c _ (by rw [List.length_map]; exact hn) hr dst hd
  rw [h1]
  have e : strOfNums (acc.map (fun b => (b.toNat : Int))) = ⟨acc.toArray⟩ := by
    apply ByteArray.ext
    apply Array.toList_inj.1
    simp [strOfNums, Function.comp_def]
  rw [e]
theorem cellsB_38 (a : List UInt8) : cellsB a ++ [.int .u8 38] = cellsB (a ++ [38]) := by simp [cellsB]
set_option maxHeartbeats 4000000 in
set_option maxRecDepth 100000 in
theorem refUnescape_any (s : ByteArray) (hs : s.size ≤ 100000) (w : World) :
    Calls Tryd.prog 26 #[.string s] w fun e w' => e = .returned (.string ⟨(Fe.unesc s.data.toList).toArray⟩) ∧ Below w.heap.size w w' := by
  obtain ⟨i0, hi0, hz0, hs0, hb0⟩ := info_parts Tryd.byteInfo
  go_enter Tryd.func26, Tryd.ntmps26
  go_wp2
  go_loopg [3, 4] s.size (fun gq x y wz => ∃ (bv : Value) (k n : Nat) (acc : List UInt8), bv = x ∧ s.size ≤ k + gq ∧ k ≤ s.size ∧ y = .int .i64 (k : Int) ∧ acc.length = n ∧ n ≤ k ∧ Hid (acc ++ Fe.unesc (s.data.toList.drop k) = Fe.unesc s.data.toList) ∧ Lib.OwnBuf w.heap.size 5 bv n (cellsB acc) w wz)
  case atStart => exact ⟨_, 0, 0, [], rfl, by omega, by omega, rfl, rfl, by omega, Lib.hid rfl, World.ownsRowF_nil w _ _ _, Below.refl _ _, Nat.le_refl _⟩
  case round =>
    obtain ⟨bv, k, n, acc, rfl, hk, hks, rfl, hn, hnk, hun, hob⟩ := hrel
    have HOB := Lib.hid hob
    clear hob
    by_cases hlt : k < s.size
    · have i1 : (k : Int) < (s.size : Int) := by omega
      have hd1 := List.drop_eq_getElem_cons (l := s.data.toList) (i := k) (by rw [size_data]; omega)
      have hg1 := str_get s hlt
      rw [List.getD_eq_getElem?_getD, List.getElem?_eq_getElem (by rw [size_data]; omega), Option.getD_some] at hg1
      rw [hg1] at hd1
      have HD1 := Lib.hid hd1
      clear hd1 hg1
      by_cases h38 : (s[k]'hlt) = 38
      · have i2 : (((s[k]'hlt).toNat : Int) == 38) = true := by rw [h38]; rfl
        rw [h38] at HD1
        have HR := Lib.hid (fun W => reference_any s k hlt (by omega) W)
        rcases hro : refAt (s.data.toList.drop k) with _ | ⟨x, m⟩
        · rw [hro] at HR
          have HX := Lib.hid hro
          have HR2 : Hid (∀ W, Calls Tryd.prog 52 #[.string s, .int .i64 (k : Int)] W fun e w' => e = .returned (.tuple #[.string ⟨#[]⟩, .int .i64 0]) ∧ Below W.heap.size W w') := HR
          clear hro HR
          go_wp2_with (first
            | (go_at_call 52; refine (HR2.out _).mono ?_; rintro e w1 ⟨rfl, h1⟩; have HOW := Lib.hid (show Lib.OwnBuf w.heap.size 5 bv n (cellsB acc) w w1 from ownBuf_below HOB.out h1); clear h1)
            | (refine Lib.wpList_append_byte rfl _ _ 56 rfl w.heap.size 5 i0 Tryd.underlying56 hi0 hz0 hs0 hb0 bv n (cellsB acc) rfl w w1 38 HOW.out rfl (by omega) ?_; intro v2 w2 hO; rw [cellsB_38] at hO; have HO := Lib.hid hO; clear hO))
          go_roundg (gk - 1)
          case measure => omega
          case rel =>
            refine ⟨_, k + 1, n + 1, acc ++ [38], rfl, by omega, by omega, by go_num, by rw [List.length_append, hn]; rfl, by omega, Lib.hid ?_, HO.out⟩
            rw [← hun.out]
            have h1 := HX.out
            rw [HD1.out] at h1 ⊢
            rw [unesc_none h1]; simp
        · rw [hro] at HR
          have HX := Lib.hid hro
          obtain ⟨hm1, hm2, hm3⟩ := refAt_pos hro
          have hxm := refAt_len hro
          rw [List.length_drop, size_data] at hm3
          have HR2 : Hid (∀ W, Calls Tryd.prog 52 #[.string s, .int .i64 (k : Int)] W fun e w' => e = .returned (.tuple #[.string ⟨x.toArray⟩, .int .i64 ((k + m : Nat) : Int)]) ∧ Below W.heap.size W w') := HR
          obtain ⟨k2, hk2⟩ : ∃ k2, k + m = k2 := ⟨_, rfl⟩
          rw [hk2] at HR2
          have i3 : (0 : Int) < (k2 : Int) := by omega
          have HK2 := Lib.hid hk2
          clear hro HR h38 hm2 hk2
          go_wp2_with (first
            | (go_at_call 52; refine (HR2.out _).mono ?_; rintro e w1 ⟨rfl, h1⟩; have HOW := Lib.hid (show Lib.OwnBuf w.heap.size 5 bv n (cellsB acc) w w1 from ownBuf_below HOB.out h1); clear h1)
            | (refine Lib.wpList_append_text rfl _ _ 56 9 rfl w.heap.size 5 i0 Tryd.underlying56 Tryd.underlying9 hi0 hz0 hs0 hb0 bv n (cellsB acc) rfl w HOW.out ⟨x.toArray⟩ rfl (by show n + x.length ≤ _; omega) ?_; intro v2 w2 hO; rw [cellsB_text] at hO; have HO := Lib.hid hO; clear hO))
          go_roundg (gk - 1)
          case measure => omega
          case rel =>
            have h2 := HK2.out
            refine ⟨_, k2, n + x.length, acc ++ x, rfl, by omega, by omega, rfl, by rw [List.length_append, hn], by omega, Lib.hid ?_, HO.out⟩
            rw [← hun.out, unesc_ref HX.out (by rw [HD1.out]; rfl), List.drop_drop, h2, List.append_assoc]
      · have i2 : (((s[k]'hlt).toNat : Int) == 38) = false := by
          rw [beq_eq_false_iff_ne]; intro e
          exact h38 (UInt8.toNat_inj.1 (by show (s[k]'hlt).toNat = 38; omega))
        have H38 := Lib.hid h38
        clear h38
        go_wp2_with (first
          | (refine Lib.wpList_append_byte rfl _ _ 56 rfl w.heap.size 5 i0 Tryd.underlying56 hi0 hz0 hs0 hb0 bv n (cellsB acc) rfl w wr ((s[k]'hlt).toNat : Int) HOB.out rfl (by omega) ?_; intro v2 w2 hO; rw [cellsB_byte] at hO; have HO := Lib.hid hO; clear hO))
        go_roundg (gk - 1)
        case measure => omega
        case rel =>
          refine ⟨_, k + 1, n + 1, acc ++ [s[k]'hlt], rfl, by omega, by omega, by go_num, by rw [List.length_append, hn]; rfl, by omega, Lib.hid ?_, HO.out⟩
          rw [← hun.out, HD1.out, unesc_plain _ _ H38.out]; simp
    · have he : acc = Fe.unesc s.data.toList := by
        have h := hun.out
        rw [List.drop_eq_nil_of_le (by rw [size_data]; omega), unesc_nil, List.append_nil] at h
        exact h
      have hcv := own_text HOB.out hn 9 Tryd.underlying9
      have HE := Lib.hid he
      clear he hun
      go_wp2
      go_ret
      exact ⟨by rw [HE.out]; rfl, HOB.out.2.1⟩
end Go.Proofs.YtnpoipjnnlbnfaaDoor
