/- Blanks gone over, attributes' names and values, names made small; what stands ahead; chars; raw text. No conditions but that the list is not endless. -/
import Derived.Test.YtnpoipjnnlbnfaaDoorVc
import Derived.Laws.Concat
namespace Go.Proofs.YtnpoipjnnlbnfaaDoor
set_option linter.unusedVariables false
open Go.RowKit Go.Proofs.Fm Go.Proofs.Fb Go.Proofs.Fk Go.Proofs.YtnpoipjnnlbnfaaDoor.Cu_rune

theorem quiet_q {P : Program} {f : FuncId} {args : Array Value} {w : World} {n : Nat} {v : Value} (h : Calls P f args (w.drewN n) fun e w' => e = .returned v ∧ ∃ q, (w.drewN n).drewN q = w') : Calls P f args (w.drewN n) fun e w'' => e = .returned v ∧ ∃ m, w'' = w.drewN m :=
  h.mono fun _ _ ⟨he, m, hm⟩ => ⟨he, n + m, by rw [← hm, World.drewN_drewN]⟩
theorem quiet_q2 {P : Program} {f : FuncId} {args : Array Value} {w : World} {a n : Nat} {v : Value} (h : Calls P f args (w.drewN (a + n)) fun e w' => e = .returned v ∧ ∃ q, (w.drewN (a + n)).drewN q = w') : Calls P f args (w.drewN (a + n)) fun e w'' => e = .returned v ∧ ∃ m, w'' = w.drewN (a + m) :=
  h.mono fun _ _ ⟨he, m, hm⟩ => ⟨he, n + m, by rw [← hm, World.drewN_drewN, Nat.add_assoc]⟩
theorem size_list (l : List UInt8) : (⟨l.toArray⟩ : ByteArray).size = l.length := rfl

/-- names made small -/
theorem small_any (ns : List Int) {w : World} (he : Env w) (hs : (Fu.encB ns).length < 35184372088832) :
    Calls Tryd.prog 66 #[.string ⟨(Fu.encB ns).toArray⟩] w fun e w' => e = .returned (.string ⟨(Fk.small ns).toArray⟩) ∧ Below w.heap.size w w' := by
  have hm : Calls Tryd.prog 87 #[.func (.func 85) #[] #[], .string ⟨(Fu.encB ns).toArray⟩] w fun e w' => e = .returned (.string ⟨(Lib.mapD low (Fu.encB ns)).toArray⟩) ∧ Below w.heap.size w w' :=
    Any.strings_Map_runes Tryd.by230 Tryd.extra 85 #[] (enters_of Tryd.func85 (by kernel_rfl) rfl) low ⟨(Fu.encB ns).toArray⟩ w hs (fun W x hx _ => (low_any (x : Int) W (by omega)).mono (fun e w' ⟨h1, q, h2⟩ => ⟨h1, q, h2.symm⟩)) (fun x hx => by unfold low; split <;> omega) he.tabs
  rw [small_map] at hm
  have HM := Lib.hid hm
  clear hm
  go_enter Tryd.func66, Tryd.ntmps66
  go_wp2_with (go_at_call 87; refine (HM.out).mono ?_; rintro e w1 ⟨rfl, hb⟩)
  go_ret
  exact ⟨rfl, hb⟩

theorem go_blanks {B b : Nat} {w : World} {L : List Int} (h : At B w b L) (hB : B ≤ w.heap.size) :
    Calls Tryd.prog 71 #[.pointer (some ⟨b, 0, none⟩)] w fun e w' => e = .returned (.tuple #[]) ∧ At B w' b (L.dropWhile Fk.blank) ∧ w.grownBy w' (some b) := by
  have ht := take_any 89 #[] Fk.blank (enters_of Tryd.func89 (by kernel_rfl) rfl) h hB (fun W r _ => noBlank_any r W)
  have HT := Lib.hid ht
  clear ht
  go_enter Tryd.func71, Tryd.ntmps71
  go_wp2_with (go_at_call 67; refine (HT.out).mono ?_; rintro e w1 ⟨rfl, h1, h2⟩)
  go_end0
  exact ⟨rfl, h1, h2⟩
theorem take_tag {B b : Nat} {w : World} {L : List Int} (h : At B w b L) (hB : B ≤ w.heap.size) :
    Calls Tryd.prog 67 #[.pointer (some ⟨b, 0, none⟩), .func (.func 68) #[] #[]] w fun e w' => e = .returned (.string ⟨(Fu.encB (L.takeWhile inName)).toArray⟩) ∧ At B w' b (L.dropWhile inName) ∧ w.grownBy w' (some b) :=
  take_any 68 #[] inName (enters_of Tryd.func68 (by kernel_rfl) rfl) h hB (fun W r _ => endsTag_any r W)
theorem take_attr {B b : Nat} {w : World} {L : List Int} (h : At B w b L) (hB : B ≤ w.heap.size) :
    Calls Tryd.prog 67 #[.pointer (some ⟨b, 0, none⟩), .func (.func 88) #[] #[]] w fun e w' => e = .returned (.string ⟨(Fu.encB (L.takeWhile inAttr)).toArray⟩) ∧ At B w' b (L.dropWhile inAttr) ∧ w.grownBy w' (some b) :=
  take_any 88 #[] inAttr (enters_of Tryd.func88 (by kernel_rfl) rfl) h hB (fun W r _ => endsAttr_any r W)
theorem take_bare {B b : Nat} {w : World} {L : List Int} (h : At B w b L) (hB : B ≤ w.heap.size) :
    Calls Tryd.prog 67 #[.pointer (some ⟨b, 0, none⟩), .func (.func 90) #[] #[]] w fun e w' => e = .returned (.string ⟨(Fu.encB (L.takeWhile inBare)).toArray⟩) ∧ At B w' b (L.dropWhile inBare) ∧ w.grownBy w' (some b) :=
  take_any 90 #[] inBare (enters_of Tryd.func90 (by kernel_rfl) rfl) h hB (fun W r _ => endsPlain_any r W)

theorem enc_one (r : Int) : (Utf8.encode r).data.toList = Lib.encodeRune r := by rw [Fe.utf8_encode_fix, encode_good _ (Fe.fix_valid r), ← Fe.encode_fix]
theorem enc_add (r : Int) (l : List Int) : Utf8.encode r ++ (⟨(Fu.encB l).toArray⟩ : ByteArray) = ⟨(Fu.encB (r :: l)).toArray⟩ := by
  apply ByteArray.ext
  rw [ByteArray.data_append, Fe.encB_cons]
  apply Array.toList_inj.1
  rw [Array.toList_append, enc_one]
theorem enc_size (r : Int) : (Utf8.encode r).size ≤ 4 := by
  have h1 : (Utf8.encode r).size = (Utf8.encode r).data.toList.length := by rw [Array.length_toList]; rfl
  rw [h1, enc_one]
  exact (enc_le r).2
/-- the name of an attribute: its first rune whatever it is -/
theorem attr_name {B b : Nat} {w : World} {r : Int} {t : List Int} (h : At B w b (r :: t)) (hB : B ≤ w.heap.size) (he : Env w) :
    Calls Tryd.prog 70 #[.pointer (some ⟨b, 0, none⟩)] w fun e w' => e = .returned (.string ⟨(Fk.small (r :: t.takeWhile inAttr)).toArray⟩) ∧ At B w' b (t.dropWhile inAttr) ∧ w.grownBy w' (some b) := by
  have HN := Lib.hid (next_some h)
  have hlen := h.len
  have hl2 : (Fu.encB (t.takeWhile inAttr)).length ≤ 67108864 := by
    have h1 := encB_le (t.takeWhile inAttr)
    have h2 := (List.takeWhile_sublist inAttr (l := t)).length_le
    simp only [List.length_cons] at hlen; omega
  have hl3 : (Fu.encB (r :: t.takeWhile inAttr)).length < 35184372088832 := by
    rw [Fe.encB_cons, List.length_append]
    have := (enc_le r).2
    omega
  have hsz : (Utf8.encode r).size + (⟨(Fu.encB (t.takeWhile inAttr)).toArray⟩ : ByteArray).size ≤ 9223372036854775807 := by
    have := enc_size r
    show (Utf8.encode r).size + (Fu.encB (t.takeWhile inAttr)).length ≤ _
    omega
  have hadd := enc_add r (t.takeWhile inAttr)
  have HE := Lib.hid (fun W (hg : w.grownBy W (some b)) => h.env he hB hg)
  clear he h
  go_enter Tryd.func70, Tryd.ntmps70
  go_wp2_with (first
    | (go_at_call 64; refine (HN.out).mono ?_; rintro e w1 ⟨rfl, h1, g1⟩; have HA1 := Lib.hid h1; have HG1 := Lib.hid g1; clear h1 g1)
    | (go_at_call 67; refine (take_attr HA1.out (Nat.le_trans hB HG1.out.size)).mono ?_; rintro e w2 ⟨rfl, h2, g2⟩; have HA2 := Lib.hid h2; have HG2 := Lib.hid (grown_trans HG1.out g2); clear h2 g2)
    | (go_at_call 66; refine (small_any (r :: t.takeWhile inAttr) (HE.out _ HG2.out) hl3).mono ?_; rintro e w3 ⟨rfl, h3⟩))
  go_ret
  exact ⟨rfl, HA2.out.below h3 (Nat.le_trans hB HG2.out.size), grown_below HG2.out h3 HG2.out.size⟩
/-- a value as it stands, and what is behind it -/
def rawVal (v : List Int) : List Int × List Int :=
  match v with
  | q :: w => if q = 34 ∨ q = 39 then (w.takeWhile (· != q), (w.dropWhile (· != q)).drop 1) else ((q :: w).takeWhile inBare, (q :: w).dropWhile inBare)
  | [] => ([], [])
theorem valAt_raw (v : List Int) : valAt v = (Fe.unesc (Fu.encB (rawVal v).1), (rawVal v).2) := by
  rcases v with _ | ⟨q, t⟩
  · rfl
  · unfold valAt rawVal
    simp only
    split <;> rfl
theorem peek_cons {B b : Nat} {w : World} {r : Int} {t : List Int} (h : At B w b (r :: t)) :
    Calls Tryd.prog 61 #[.pointer (some ⟨b, 0, none⟩), .int .i64 0] w fun e w' => e = .returned (.tuple #[.int .i32 r, .bool true]) ∧ At B w' b (r :: t) ∧ w.grownBy w' (some b) := by
  refine (peek h 0).mono ?_
  rintro e w' ⟨rfl, q, rfl⟩
  exact ⟨by simp, h.drewN q, grown_drewN (World.grownBy.refl w _) q⟩
theorem peek_nil {B b : Nat} {w : World} (h : At B w b []) :
    Calls Tryd.prog 61 #[.pointer (some ⟨b, 0, none⟩), .int .i64 0] w fun e w' => e = .returned (.tuple #[.int .i32 0, .bool false]) ∧ At B w' b [] ∧ w.grownBy w' (some b) := by
  refine (peek h 0).mono ?_
  rintro e w' ⟨rfl, q, rfl⟩
  exact ⟨by simp, h.drewN q, grown_drewN (World.grownBy.refl w _) q⟩
theorem quote_cell {w W : World} {B b : Nat} (r : Int) (hb : b < B) (hB : B ≤ w.heap.size) (hg : (w.alloc (.cells #[.int .i32 r] 21)).grownBy W (some b)) : W.cell? ⟨w.heap.size, 0, none⟩ = some (.int .i32 r) := by
  have h1 := hg.block w.heap.size (by simp) (by simp; omega)
  exact (World.cell?_of_block (a := ⟨w.heap.size, 0, none⟩) h1).trans ((Bk.new w 21 #[.int .i32 r]).cell 0)
set_option maxHeartbeats 1000000 in
/-- the value of an attribute as it stands -/
theorem attr_value {B b : Nat} {w : World} {L : List Int} (h : At B w b L) (hB : B ≤ w.heap.size) :
    Calls Tryd.prog 72 #[.pointer (some ⟨b, 0, none⟩)] w fun e w' => e = .returned (.string ⟨(Fu.encB (rawVal L).1).toArray⟩) ∧ At B w' b (rawVal L).2 ∧ w.grownBy w' (some b) := by
  have hbB := h.lt.1
  rcases L with _ | ⟨r, t⟩
  · have HPk := Lib.hid (peek_nil h)
    clear h
    go_enter Tryd.func72, Tryd.ntmps72
    go_wp2_with (first
      | (go_at_call 61; refine (HPk.out).mono ?_; rintro e w1 ⟨rfl, h1, g1⟩; have hz1 := Nat.le_trans hB g1.size; have HG := Lib.hid (fun o => grown_trans g1 (World.grownBy_alloc w1 o (some b))); have HA := Lib.hid (fun o => h1.below ((Below.refl B w1).alloc hz1 o) (Nat.le_refl _)); have HB := Lib.hid (fun o => Nat.le_trans hB (HG.out o).size); have HC := Lib.hid (fun (r : Int) W => quote_cell (W := W) r hbB hz1); clear h1 g1)
      | (go_at_call 67; refine (take_bare (HA.out _) (HB.out _)).mono ?_; rintro e w2 ⟨rfl, h2, g2⟩))
    go_ret
    exact ⟨rfl, h2, grown_trans (HG.out _) g2⟩
  · have HPk := Lib.hid (peek_cons h)
    clear h
    by_cases hq : r = 34 ∨ r = 39
    · have hrv : rawVal (r :: t) = (t.takeWhile (· != r), (t.dropWhile (· != r)).drop 1) := by simp only [rawVal, if_pos hq]
      rw [hrv]
      clear hrv
      have HEG := Lib.hid (enters_of Tryd.func91 (by kernel_rfl) rfl)
      rcases hq with hq | hq
      · subst hq
        go_enter Tryd.func72, Tryd.ntmps72
        go_wp2_with (first
          | (go_at_call 61; refine (HPk.out).mono ?_; rintro e w1 ⟨rfl, h1, g1⟩; have hz1 := Nat.le_trans hB g1.size; have HG := Lib.hid (fun o => grown_trans g1 (World.grownBy_alloc w1 o (some b))); have HA := Lib.hid (fun o => h1.below ((Below.refl B w1).alloc hz1 o) (Nat.le_refl _)); have HB := Lib.hid (fun o => Nat.le_trans hB (HG.out o).size); have HC := Lib.hid (fun (r : Int) W => quote_cell (W := W) r hbB hz1); clear h1 g1)
          | (go_at_call 64; with_reducible refine (next_some (HA.out _)).mono ?_; rintro e w2 ⟨rfl, h2, g2⟩; have HA2 := Lib.hid h2; have HG2 := Lib.hid g2; clear h2 g2)
          | (go_at_call 67; refine (take_any 91 #[.pointer (some ⟨w1.heap.size, 0, none⟩)] (fun x : Int => x != 34) HEG.out HA2.out (Nat.le_trans (HB.out _) HG2.out.size) (fun W x hg => isQuote_any x 34 W w1.heap.size (HC.out 34 W (grown_trans HG2.out hg)))).mono ?_; rintro e w3 ⟨rfl, h3, g3⟩; have HA3 := Lib.hid h3; have HG3 := Lib.hid (grown_trans HG2.out g3); clear h3 g3)
          | (go_at_call 64; refine (next HA3.out).mono ?_; rintro e w4 ⟨rfl, h4, g4⟩))
        go_ret
        exact ⟨rfl, h4, grown_trans (HG.out _) (grown_trans HG3.out g4)⟩
      · subst hq
        go_enter Tryd.func72, Tryd.ntmps72
        go_wp2_with (first
          | (go_at_call 61; refine (HPk.out).mono ?_; rintro e w1 ⟨rfl, h1, g1⟩; have hz1 := Nat.le_trans hB g1.size; have HG := Lib.hid (fun o => grown_trans g1 (World.grownBy_alloc w1 o (some b))); have HA := Lib.hid (fun o => h1.below ((Below.refl B w1).alloc hz1 o) (Nat.le_refl _)); have HB := Lib.hid (fun o => Nat.le_trans hB (HG.out o).size); have HC := Lib.hid (fun (r : Int) W => quote_cell (W := W) r hbB hz1); clear h1 g1)
          | (go_at_call 64; with_reducible refine (next_some (HA.out _)).mono ?_; rintro e w2 ⟨rfl, h2, g2⟩; have HA2 := Lib.hid h2; have HG2 := Lib.hid g2; clear h2 g2)
          | (go_at_call 67; refine (take_any 91 #[.pointer (some ⟨w1.heap.size, 0, none⟩)] (fun x : Int => x != 39) HEG.out HA2.out (Nat.le_trans (HB.out _) HG2.out.size) (fun W x hg => isQuote_any x 39 W w1.heap.size (HC.out 39 W (grown_trans HG2.out hg)))).mono ?_; rintro e w3 ⟨rfl, h3, g3⟩; have HA3 := Lib.hid h3; have HG3 := Lib.hid (grown_trans HG2.out g3); clear h3 g3)
          | (go_at_call 64; refine (next HA3.out).mono ?_; rintro e w4 ⟨rfl, h4, g4⟩))
        go_ret
        exact ⟨rfl, h4, grown_trans (HG.out _) (grown_trans HG3.out g4)⟩
    · have hrv : rawVal (r :: t) = ((r :: t).takeWhile inBare, (r :: t).dropWhile inBare) := by simp only [rawVal, if_neg hq]
      rw [hrv]
      clear hrv
      have q1 : (r != 34) = true := by simp; omega
      have q2 : (r != 39) = true := by simp; omega
      go_enter Tryd.func72, Tryd.ntmps72
      go_wp2_with (first
        | (go_at_call 61; refine (HPk.out).mono ?_; rintro e w1 ⟨rfl, h1, g1⟩; have hz1 := Nat.le_trans hB g1.size; have HG := Lib.hid (fun o => grown_trans g1 (World.grownBy_alloc w1 o (some b))); have HA := Lib.hid (fun o => h1.below ((Below.refl B w1).alloc hz1 o) (Nat.le_refl _)); have HB := Lib.hid (fun o => Nat.le_trans hB (HG.out o).size); have HC := Lib.hid (fun (r : Int) W => quote_cell (W := W) r hbB hz1); clear h1 g1)
        | (go_at_call 67; refine (take_bare (HA.out _) (HB.out _)).mono ?_; rintro e w2 ⟨rfl, h2, g2⟩))
      go_ret
      exact ⟨rfl, h2, grown_trans (HG.out _) g2⟩
end Go.Proofs.YtnpoipjnnlbnfaaDoor
