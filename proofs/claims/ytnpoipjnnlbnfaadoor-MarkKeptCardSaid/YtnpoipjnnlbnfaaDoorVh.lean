/- One reference at the beginning of a text. No conditions but that the text is not endless. -/
import Derived.Test.YtnpoipjnnlbnfaaDoorVg
import Derived.Deep.LoopGhost
namespace Go.Proofs.YtnpoipjnnlbnfaaDoor
set_option linter.unusedVariables false
open Go.RowKit Go.Proofs.Fm Go.Proofs.Fb Go.Proofs.Fk Go.Proofs.Fe

def nm0 : List UInt8 := [38, 97, 109, 112, 59]
def nm1 : List UInt8 := [38, 108, 116, 59]
def nm2 : List UInt8 := [38, 103, 116, 59]
def nm3 : List UInt8 := [38, 113, 117, 111, 116, 59]
def nm4 : List UInt8 := [38, 97, 112, 111, 115, 59]
def nm5 : List UInt8 := [38, 110, 98, 115, 112, 59]
/-- the six names, in their order -/
def names6 : List (List UInt8 × List UInt8) := [(nm0, [38]), (nm1, [60]), (nm2, [62]), (nm3, [34]), (nm4, [39]), (nm5, [194, 160])]
/-- a reference by number -/
def refNum (l : List UInt8) : Option (List UInt8 × Nat) :=
  if List.isPrefixOf [38, 35, 120] l || List.isPrefixOf [38, 35, 88] l then numRef 16 3 (l.drop 3) else if List.isPrefixOf [38, 35] l then numRef 10 2 (l.drop 2) else none
/-- the names from the k-th on, then a number -/
def refFrom (l : List UInt8) : List (List UInt8 × List UInt8) → Option (List UInt8 × Nat)
  | [] => refNum l
  | (p, x) :: r => if p.isPrefixOf l then some (x, p.length) else refFrom l r
theorem refAt_from {l : List UInt8} (h : l.head? = some 38) : refAt l = refFrom l names6 := by
  unfold refAt
  simp only [refFrom, names6, nm0, nm1, nm2, nm3, nm4, nm5, List.isPrefixOf_iff_prefix]
  split
  · rfl
  · split
    · rfl
    · split
      · rfl
      · split
        · rfl
        · split
          · rfl
          · split
            · rfl
            · unfold refNum
              rcases l with _ | ⟨a, l⟩
              · cases h
              · obtain rfl : a = 38 := by simpa using h
                rcases l with _ | ⟨c, t⟩
                · simp [List.isPrefixOf]
                · by_cases hc : c = 35
                  · subst hc
                    rcases t with _ | ⟨d, u⟩
                    · simp [List.isPrefixOf, numRef]
                    · by_cases hd : d = 120
                      · subst hd; simp [List.isPrefixOf]
                      · by_cases hd2 : d = 88
                        · subst hd2; simp [List.isPrefixOf]
                        · have e1 : (120 == d) = false := beq_eq_false_iff_ne.2 (Ne.symm hd)
                          have e2 : (88 == d) = false := beq_eq_false_iff_ne.2 (Ne.symm hd2)
                          simp [List.isPrefixOf, hd, hd2, e1, e2]
                  · have e1 : (35 == c) = false := beq_eq_false_iff_ne.2 (Ne.symm hc)
                    simp [List.isPrefixOf, hc, e1]

set_option maxHeartbeats 2000000 in
set_option maxRecDepth 100000 in
theorem escape_any (s : ByteArray) (h38 : s.data.toList.head? = some 38) (hs : s.size ≤ 4294967296) {w : World} (he : Env w) :
    Calls Tryd.prog 36 #[.string s] w fun e w' => e = .returned (refOut (refAt s.data.toList)) ∧ Below w.heap.size w w' := by
  have n0 := he.named 0 (by omega); have n1 := he.named 1 (by omega); have n2 := he.named 2 (by omega); have n3 := he.named 3 (by omega); have n4 := he.named 4 (by omega); have n5 := he.named 5 (by omega)
  have n6 := he.named 6 (by omega); have n7 := he.named 7 (by omega); have n8 := he.named 8 (by omega); have n9 := he.named 9 (by omega); have n10 := he.named 10 (by omega); have n11 := he.named 11 (by omega)
  simp only [namedT, List.getD_cons_zero, List.getD_cons_succ] at n0 n1 n2 n3 n4 n5 n6 n7 n8 n9 n10 n11
  go_enter Tryd.func36, Tryd.ntmps36
  go_wp2
  have HPX := Lib.hid (fun (p : List UInt8) W => has_prefix s ⟨p.toArray⟩ W)
  have HEN := Lib.hid he
  clear n0 n1 n2 n3 n4 n5 n6 n7 n8 n9 n10 n11 he
  go_loopg [7] 6 (fun gk i wr => ∃ k, k + gk = 6 ∧ i = .int .i64 (k : Int) ∧ Below w.heap.size w wr ∧ Hid (refFrom s.data.toList (names6.drop k) = refAt s.data.toList))
  case atStart => exact ⟨0, rfl, rfl, Below.refl _ _, Lib.hid (refAt_from h38).symm⟩
  case round =>
    obtain ⟨k, hk, rfl, hb, hr⟩ := hrel
    have HB := Lib.hid hb
    have hz := hb.size
    clear hb
    have hk6 : k = 0 ∨ k = 1 ∨ k = 2 ∨ k = 3 ∨ k = 4 ∨ k = 5 ∨ k = 6 := by omega
    rcases hk6 with rfl | rfl | rfl | rfl | rfl | rfl | rfl
    · have hr2 : (if List.isPrefixOf [38, 97, 109, 112, 59] s.data.toList then some ([38], 5) else refFrom s.data.toList (names6.drop 1)) = refAt s.data.toList := hr.out
      have ix : ∀ W : World, (Instr.index 90 (.agg #[.string ⟨#[38, 97, 109, 112, 59]⟩, .string ⟨#[38]⟩, .string ⟨#[38, 108, 116, 59]⟩, .string ⟨#[60]⟩, .string ⟨#[38, 103, 116, 59]⟩, .string ⟨#[62]⟩, .string ⟨#[38, 113, 117, 111, 116, 59]⟩, .string ⟨#[34]⟩, .string ⟨#[38, 97, 112, 111, 115, 59]⟩, .string ⟨#[39]⟩, .string ⟨#[38, 110, 98, 115, 112, 59]⟩, .string ⟨#[194, 160]⟩]) (.int .i64 0)).run Tryd.prog W = .ok (.agg #[.string ⟨#[38, 97, 109, 112, 59]⟩, .string ⟨#[38]⟩]) W := fun _ => by kernel_rfl
      have HP := Lib.hid (fun W => HPX.out [38, 97, 109, 112, 59] W)
      rcases hp : List.isPrefixOf [38, 97, 109, 112, 59] s.data.toList with _ | _
      · rw [hp] at hr2
        have HP2 : Hid (∀ W, Calls Tryd.prog 57 #[.string s, .string ⟨#[38, 97, 109, 112, 59]⟩] W fun e w' => e = .returned (.bool false) ∧ w' = W) := Lib.hid (fun W => by have := HP.out W; rwa [show (⟨([38, 97, 109, 112, 59] : List UInt8).toArray⟩ : ByteArray).data.toList = [38, 97, 109, 112, 59] from rfl, hp] at this)
        have HR2 := Lib.hid hr2
        clear hr2 hp
        go_wp2_with (go_at_call 57; refine (HP2.out _).mono ?_; rintro e w1 ⟨rfl, rfl⟩)
        go_roundg 5
        case measure => omega
        case rel => exact ⟨1, rfl, rfl, HB.out.alloc hz _, HR2.out⟩
      · rw [hp] at hr2
        have HP2 : Hid (∀ W, Calls Tryd.prog 57 #[.string s, .string ⟨#[38, 97, 109, 112, 59]⟩] W fun e w' => e = .returned (.bool true) ∧ w' = W) := Lib.hid (fun W => by have := HP.out W; rwa [show (⟨([38, 97, 109, 112, 59] : List UInt8).toArray⟩ : ByteArray).data.toList = [38, 97, 109, 112, 59] from rfl, hp] at this)
        have HR2 := Lib.hid hr2
        clear hr2 hp
        go_wp2_with (go_at_call 57; refine (HP2.out _).mono ?_; rintro e w1 ⟨rfl, rfl⟩)
        go_quiet (fail)
        go_wp2
        go_ret2
        refine ⟨?_, below_drewN (HB.out.alloc hz _) _⟩
        rw [← HR2.out]; rfl
    · have hr2 : (if List.isPrefixOf [38, 108, 116, 59] s.data.toList then some ([60], 4) else refFrom s.data.toList (names6.drop 2)) = refAt s.data.toList := hr.out
      have ix : ∀ W : World, (Instr.index 90 (.agg #[.string ⟨#[38, 97, 109, 112, 59]⟩, .string ⟨#[38]⟩, .string ⟨#[38, 108, 116, 59]⟩, .string ⟨#[60]⟩, .string ⟨#[38, 103, 116, 59]⟩, .string ⟨#[62]⟩, .string ⟨#[38, 113, 117, 111, 116, 59]⟩, .string ⟨#[34]⟩, .string ⟨#[38, 97, 112, 111, 115, 59]⟩, .string ⟨#[39]⟩, .string ⟨#[38, 110, 98, 115, 112, 59]⟩, .string ⟨#[194, 160]⟩]) (.int .i64 1)).run Tryd.prog W = .ok (.agg #[.string ⟨#[38, 108, 116, 59]⟩, .string ⟨#[60]⟩]) W := fun _ => by kernel_rfl
      have HP := Lib.hid (fun W => HPX.out [38, 108, 116, 59] W)
      rcases hp : List.isPrefixOf [38, 108, 116, 59] s.data.toList with _ | _
      · rw [hp] at hr2
        have HP2 : Hid (∀ W, Calls Tryd.prog 57 #[.string s, .string ⟨#[38, 108, 116, 59]⟩] W fun e w' => e = .returned (.bool false) ∧ w' = W) := Lib.hid (fun W => by have := HP.out W; rwa [show (⟨([38, 108, 116, 59] : List UInt8).toArray⟩ : ByteArray).data.toList = [38, 108, 116, 59] from rfl, hp] at this)
        have HR2 := Lib.hid hr2
        clear hr2 hp
        go_wp2_with (go_at_call 57; refine (HP2.out _).mono ?_; rintro e w1 ⟨rfl, rfl⟩)
        go_roundg 4
        case measure => omega
        case rel => exact ⟨2, rfl, rfl, HB.out.alloc hz _, HR2.out⟩
      · rw [hp] at hr2
        have HP2 : Hid (∀ W, Calls Tryd.prog 57 #[.string s, .string ⟨#[38, 108, 116, 59]⟩] W fun e w' => e = .returned (.bool true) ∧ w' = W) := Lib.hid (fun W => by have := HP.out W; rwa [show (⟨([38, 108, 116, 59] : List UInt8).toArray⟩ : ByteArray).data.toList = [38, 108, 116, 59] from rfl, hp] at this)
        have HR2 := Lib.hid hr2
        clear hr2 hp
        go_wp2_with (go_at_call 57; refine (HP2.out _).mono ?_; rintro e w1 ⟨rfl, rfl⟩)
        go_quiet (fail)
        go_wp2
        go_ret2
        refine ⟨?_, below_drewN (HB.out.alloc hz _) _⟩
        rw [← HR2.out]; rfl
    · have hr2 : (if List.isPrefixOf [38, 103, 116, 59] s.data.toList then some ([62], 4) else refFrom s.data.toList (names6.drop 3)) = refAt s.data.toList := hr.out
      have ix : ∀ W : World, (Instr.index 90 (.agg #[.string ⟨#[38, 97, 109, 112, 59]⟩, .string ⟨#[38]⟩, .string ⟨#[38, 108, 116, 59]⟩, .string ⟨#[60]⟩, .string ⟨#[38, 103, 116, 59]⟩, .string ⟨#[62]⟩, .string ⟨#[38, 113, 117, 111, 116, 59]⟩, .string ⟨#[34]⟩, .string ⟨#[38, 97, 112, 111, 115, 59]⟩, .string ⟨#[39]⟩, .string ⟨#[38, 110, 98, 115, 112, 59]⟩, .string ⟨#[194, 160]⟩]) (.int .i64 2)).run Tryd.prog W = .ok (.agg #[.string ⟨#[38, 103, 116, 59]⟩, .string ⟨#[62]⟩]) W := fun _ => by kernel_rfl
      have HP := Lib.hid (fun W => HPX.out [38, 103, 116, 59] W)
      rcases hp : List.isPrefixOf [38, 103, 116, 59] s.data.toList with _ | _
      · rw [hp] at hr2
        have HP2 : Hid (∀ W, Calls Tryd.prog 57 #[.string s, .string ⟨#[38, 103, 116, 59]⟩] W fun e w' => e = .returned (.bool false) ∧ w' = W) := Lib.hid (fun W => by have := HP.out W; rwa [show (⟨([38, 103, 116, 59] : List UInt8).toArray⟩ : ByteArray).data.toList = [38, 103, 116, 59] from rfl, hp] at this)
        have HR2 := Lib.hid hr2
        clear hr2 hp
        go_wp2_with (go_at_call 57; refine (HP2.out _).mono ?_; rintro e w1 ⟨rfl, rfl⟩)
        go_roundg 3
        case measure => omega
        case rel => exact ⟨3, rfl, rfl, HB.out.alloc hz _, HR2.out⟩
      · rw [hp] at hr2
        have HP2 : Hid (∀ W, Calls Tryd.prog 57 #[.string s, .string ⟨#[38, 103, 116, 59]⟩] W fun e w' => e = .returned (.bool true) ∧ w' = W) := Lib.hid (fun W => by have := HP.out W; rwa [show (⟨([38, 103, 116, 59] : List UInt8).toArray⟩ : ByteArray).data.toList = [38, 103, 116, 59] from rfl, hp] at this)
        have HR2 := Lib.hid hr2
        clear hr2 hp
        go_wp2_with (go_at_call 57; refine (HP2.out _).mono ?_; rintro e w1 ⟨rfl, rfl⟩)
        go_quiet (fail)
        go_wp2
        go_ret2
        refine ⟨?_, below_drewN (HB.out.alloc hz _) _⟩
        rw [← HR2.out]; rfl
    · have hr2 : (if List.isPrefixOf [38, 113, 117, 111, 116, 59] s.data.toList then some ([34], 6) else refFrom s.data.toList (names6.drop 4)) = refAt s.data.toList := hr.out
      have ix : ∀ W : World, (Instr.index 90 (.agg #[.string ⟨#[38, 97, 109, 112, 59]⟩, .string ⟨#[38]⟩, .string ⟨#[38, 108, 116, 59]⟩, .string ⟨#[60]⟩, .string ⟨#[38, 103, 116, 59]⟩, .string ⟨#[62]⟩, .string ⟨#[38, 113, 117, 111, 116, 59]⟩, .string ⟨#[34]⟩, .string ⟨#[38, 97, 112, 111, 115, 59]⟩, .string ⟨#[39]⟩, .string ⟨#[38, 110, 98, 115, 112, 59]⟩, .string ⟨#[194, 160]⟩]) (.int .i64 3)).run Tryd.prog W = .ok (.agg #[.string ⟨#[38, 113, 117, 111, 116, 59]⟩, .string ⟨#[34]⟩]) W := fun _ => by kernel_rfl
      have HP := Lib.hid (fun W => HPX.out [38, 113, 117, 111, 116, 59] W)
      rcases hp : List.isPrefixOf [38, 113, 117, 111, 116, 59] s.data.toList with _ | _
      · rw [hp] at hr2
        have HP2 : Hid (∀ W, Calls Tryd.prog 57 #[.string s, .string ⟨#[38, 113, 117, 111, 116, 59]⟩] W fun e w' => e = .returned (.bool false) ∧ w' = W) := Lib.hid (fun W => by have := HP.out W; rwa [show (⟨([38, 113, 117, 111, 116, 59] : List UInt8).toArray⟩ : ByteArray).data.toList = [38, 113, 117, 111, 116, 59] from rfl, hp] at this)
        have HR2 := Lib.hid hr2
        clear hr2 hp
        go_wp2_with (go_at_call 57; refine (HP2.out _).mono ?_; rintro e w1 ⟨rfl, rfl⟩)
        go_roundg 2
        case measure => omega
        case rel => exact ⟨4, rfl, rfl, HB.out.alloc hz _, HR2.out⟩
      · rw [hp] at hr2
        have HP2 : Hid (∀ W, Calls Tryd.prog 57 #[.string s, .string ⟨#[38, 113, 117, 111, 116, 59]⟩] W fun e w' => e = .returned (.bool true) ∧ w' = W) := Lib.hid (fun W => by have := HP.out W; rwa [show (⟨([38, 113, 117, 111, 116, 59] : List UInt8).toArray⟩ : ByteArray).data.toList = [38, 113, 117, 111, 116, 59] from rfl, hp] at this)
        have HR2 := Lib.hid hr2
        clear hr2 hp
        go_wp2_with (go_at_call 57; refine (HP2.out _).mono ?_; rintro e w1 ⟨rfl, rfl⟩)
        go_quiet (fail)
        go_wp2
        go_ret2
        refine ⟨?_, below_drewN (HB.out.alloc hz _) _⟩
        rw [← HR2.out]; rfl
    · have hr2 : (if List.isPrefixOf [38, 97, 112, 111, 115, 59] s.data.toList then some ([39], 6) else refFrom s.data.toList (names6.drop 5)) = refAt s.data.toList := hr.out
      have ix : ∀ W : World, (Instr.index 90 (.agg #[.string ⟨#[38, 97, 109, 112, 59]⟩, .string ⟨#[38]⟩, .string ⟨#[38, 108, 116, 59]⟩, .string ⟨#[60]⟩, .string ⟨#[38, 103, 116, 59]⟩, .string ⟨#[62]⟩, .string ⟨#[38, 113, 117, 111, 116, 59]⟩, .string ⟨#[34]⟩, .string ⟨#[38, 97, 112, 111, 115, 59]⟩, .string ⟨#[39]⟩, .string ⟨#[38, 110, 98, 115, 112, 59]⟩, .string ⟨#[194, 160]⟩]) (.int .i64 4)).run Tryd.prog W = .ok (.agg #[.string ⟨#[38, 97, 112, 111, 115, 59]⟩, .string ⟨#[39]⟩]) W := fun _ => by kernel_rfl
      have HP := Lib.hid (fun W => HPX.out [38, 97, 112, 111, 115, 59] W)
      rcases hp : List.isPrefixOf [38, 97, 112, 111, 115, 59] s.data.toList with _ | _
      · rw [hp] at hr2
        have HP2 : Hid (∀ W, Calls Tryd.prog 57 #[.string s, .string ⟨#[38, 97, 112, 111, 115, 59]⟩] W fun e w' => e = .returned (.bool false) ∧ w' = W) := Lib.hid (fun W => by have := HP.out W; rwa [show (⟨([38, 97, 112, 111, 115, 59] : List UInt8).toArray⟩ : ByteArray).data.toList = [38, 97, 112, 111, 115, 59] from rfl, hp] at this)
        have HR2 := Lib.hid hr2
        clear hr2 hp
        go_wp2_with (go_at_call 57; refine (HP2.out _).mono ?_; rintro e w1 ⟨rfl, rfl⟩)
        go_roundg 1
        case measure => omega
        case rel => exact ⟨5, rfl, rfl, HB.out.alloc hz _, HR2.out⟩
      · rw [hp] at hr2
        have HP2 : Hid (∀ W, Calls Tryd.prog 57 #[.string s, .string ⟨#[38, 97, 112, 111, 115, 59]⟩] W fun e w' => e = .returned (.bool true) ∧ w' = W) := Lib.hid (fun W => by have := HP.out W; rwa [show (⟨([38, 97, 112, 111, 115, 59] : List UInt8).toArray⟩ : ByteArray).data.toList = [38, 97, 112, 111, 115, 59] from rfl, hp] at this)
        have HR2 := Lib.hid hr2
        clear hr2 hp
        go_wp2_with (go_at_call 57; refine (HP2.out _).mono ?_; rintro e w1 ⟨rfl, rfl⟩)
        go_quiet (fail)
        go_wp2
        go_ret2
        refine ⟨?_, below_drewN (HB.out.alloc hz _) _⟩
        rw [← HR2.out]; rfl
    · have hr2 : (if List.isPrefixOf [38, 110, 98, 115, 112, 59] s.data.toList then some ([194, 160], 6) else refFrom s.data.toList (names6.drop 6)) = refAt s.data.toList := hr.out
      have ix : ∀ W : World, (Instr.index 90 (.agg #[.string ⟨#[38, 97, 109, 112, 59]⟩, .string ⟨#[38]⟩, .string ⟨#[38, 108, 116, 59]⟩, .string ⟨#[60]⟩, .string ⟨#[38, 103, 116, 59]⟩, .string ⟨#[62]⟩, .string ⟨#[38, 113, 117, 111, 116, 59]⟩, .string ⟨#[34]⟩, .string ⟨#[38, 97, 112, 111, 115, 59]⟩, .string ⟨#[39]⟩, .string ⟨#[38, 110, 98, 115, 112, 59]⟩, .string ⟨#[194, 160]⟩]) (.int .i64 5)).run Tryd.prog W = .ok (.agg #[.string ⟨#[38, 110, 98, 115, 112, 59]⟩, .string ⟨#[194, 160]⟩]) W := fun _ => by kernel_rfl
      have HP := Lib.hid (fun W => HPX.out [38, 110, 98, 115, 112, 59] W)
      rcases hp : List.isPrefixOf [38, 110, 98, 115, 112, 59] s.data.toList with _ | _
      · rw [hp] at hr2
        have HP2 : Hid (∀ W, Calls Tryd.prog 57 #[.string s, .string ⟨#[38, 110, 98, 115, 112, 59]⟩] W fun e w' => e = .returned (.bool false) ∧ w' = W) := Lib.hid (fun W => by have := HP.out W; rwa [show (⟨([38, 110, 98, 115, 112, 59] : List UInt8).toArray⟩ : ByteArray).data.toList = [38, 110, 98, 115, 112, 59] from rfl, hp] at this)
        have HR2 := Lib.hid hr2
        clear hr2 hp
        go_wp2_with (go_at_call 57; refine (HP2.out _).mono ?_; rintro e w1 ⟨rfl, rfl⟩)
        go_roundg 0
        case measure => omega
        case rel => exact ⟨6, rfl, rfl, HB.out.alloc hz _, HR2.out⟩
      · rw [hp] at hr2
        have HP2 : Hid (∀ W, Calls Tryd.prog 57 #[.string s, .string ⟨#[38, 110, 98, 115, 112, 59]⟩] W fun e w' => e = .returned (.bool true) ∧ w' = W) := Lib.hid (fun W => by have := HP.out W; rwa [show (⟨([38, 110, 98, 115, 112, 59] : List UInt8).toArray⟩ : ByteArray).data.toList = [38, 110, 98, 115, 112, 59] from rfl, hp] at this)
        have HR2 := Lib.hid hr2
        clear hr2 hp
        go_wp2_with (go_at_call 57; refine (HP2.out _).mono ?_; rintro e w1 ⟨rfl, rfl⟩)
        go_quiet (fail)
        go_wp2
        go_ret2
        refine ⟨?_, below_drewN (HB.out.alloc hz _) _⟩
        rw [← HR2.out]; rfl
    · obtain rfl : 0 = gk := by omega
      have hr2 : refNum s.data.toList = refAt s.data.toList := hr.out
      unfold refNum at hr2
      have HX1 := Lib.hid (fun W => HPX.out [38, 35, 120] W)
      have HX2 := Lib.hid (fun W => HPX.out [38, 35, 88] W)
      have HX3 := Lib.hid (fun W => HPX.out [38, 35] W)
      have hsz := size_data s
      have pl : ∀ p : List UInt8, List.isPrefixOf p s.data.toList = true → p.length ≤ s.size := fun p h => by
        rw [← hsz]; exact (List.isPrefixOf_iff_prefix.1 h).length_le
      have px := pl [38, 35, 120]
      have pX := pl [38, 35, 88]
      have ph := pl [38, 35]
      clear pl hsz
      have HX1 : Hid (∀ W, Calls Tryd.prog 57 #[.string s, .string ⟨#[38, 35, 120]⟩] W fun e w' => e = .returned (.bool (List.isPrefixOf [38, 35, 120] s.data.toList)) ∧ w' = W) := HX1
      have HX2 : Hid (∀ W, Calls Tryd.prog 57 #[.string s, .string ⟨#[38, 35, 88]⟩] W fun e w' => e = .returned (.bool (List.isPrefixOf [38, 35, 88] s.data.toList)) ∧ w' = W) := HX2
      have HX3 : Hid (∀ W, Calls Tryd.prog 57 #[.string s, .string ⟨#[38, 35]⟩] W fun e w' => e = .returned (.bool (List.isPrefixOf [38, 35] s.data.toList)) ∧ w' = W) := HX3
      rcases h1 : List.isPrefixOf [38, 35, 120] s.data.toList with _ | _
      · rcases h2 : List.isPrefixOf [38, 35, 88] s.data.toList with _ | _
        · rcases h3 : List.isPrefixOf [38, 35] s.data.toList with _ | _
          · rw [h1, h2, h3] at hr2
            rw [h1] at HX1
            rw [h2] at HX2
            rw [h3] at HX3
            have HR2 := Lib.hid hr2
            clear hr2 h1 h2 h3 px pX ph
            go_wp2_with (first
              | (go_at_call 57; with_reducible refine (HX1.out _).mono ?_; rintro e w1 ⟨rfl, rfl⟩)
              | (go_at_call 57; with_reducible refine (HX2.out _).mono ?_; rintro e w1 ⟨rfl, rfl⟩)
              | (go_at_call 57; with_reducible refine (HX3.out _).mono ?_; rintro e w1 ⟨rfl, rfl⟩))
            go_ret2
            exact ⟨by rw [← HR2.out]; rfl, HB.out⟩
          · rw [h1, h2, h3] at hr2
            have HN := Lib.hid (fun W => numbered_any s 2 10 (by omega) (by omega) (ph h3) hs W)
            have hr3 : numRef 10 2 (s.data.toList.drop 2) = refAt s.data.toList := hr2
            rw [hr3] at HN
            rw [h1] at HX1
            rw [h2] at HX2
            rw [h3] at HX3
            clear hr2 h1 h2 h3 px pX ph hr3
            obtain ⟨RO, hRO⟩ : ∃ RO, refAt s.data.toList = RO := ⟨_, rfl⟩
            rw [hRO] at HN
            have HRO := Lib.hid hRO
            clear hRO
            rcases RO with _ | ⟨x, n⟩
            all_goals go_wp2_with (first
              | (go_at_call 57; with_reducible refine (HX1.out _).mono ?_; rintro e w1 ⟨rfl, rfl⟩)
              | (go_at_call 57; with_reducible refine (HX2.out _).mono ?_; rintro e w1 ⟨rfl, rfl⟩)
              | (go_at_call 57; with_reducible refine (HX3.out _).mono ?_; rintro e w1 ⟨rfl, rfl⟩)
              | (go_at_call 58; refine (HN.out _).mono ?_; rintro e w1 ⟨rfl, q, rfl⟩; dsimp only [refOut]))
            all_goals go_ret2
            all_goals exact ⟨by rw [HRO.out]; rfl, below_drewN HB.out _⟩
        · rw [h1, h2] at hr2
          have HN := Lib.hid (fun W => numbered_any s 3 16 (by omega) (by omega) (pX h2) hs W)
          have hr3 : numRef 16 3 (s.data.toList.drop 3) = refAt s.data.toList := hr2
          rw [hr3] at HN
          rw [h1] at HX1
          rw [h2] at HX2
          clear hr2 h1 h2 px pX ph hr3
          obtain ⟨RO, hRO⟩ : ∃ RO, refAt s.data.toList = RO := ⟨_, rfl⟩
          rw [hRO] at HN
          have HRO := Lib.hid hRO
          clear hRO
          rcases RO with _ | ⟨x, n⟩
          all_goals go_wp2_with (first
            | (go_at_call 57; with_reducible refine (HX1.out _).mono ?_; rintro e w1 ⟨rfl, rfl⟩)
            | (go_at_call 57; with_reducible refine (HX2.out _).mono ?_; rintro e w1 ⟨rfl, rfl⟩)
            | (go_at_call 57; with_reducible refine (HX3.out _).mono ?_; rintro e w1 ⟨rfl, rfl⟩)
            | (go_at_call 58; refine (HN.out _).mono ?_; rintro e w1 ⟨rfl, q, rfl⟩; dsimp only [refOut]))
          all_goals go_ret2
          all_goals exact ⟨by rw [HRO.out]; rfl, below_drewN HB.out _⟩
      · rw [h1] at hr2
        have HN := Lib.hid (fun W => numbered_any s 3 16 (by omega) (by omega) (px h1) hs W)
        have hr3 : numRef 16 3 (s.data.toList.drop 3) = refAt s.data.toList := hr2
        rw [hr3] at HN
        rw [h1] at HX1
        clear hr2 h1 px pX ph hr3
        obtain ⟨RO, hRO⟩ : ∃ RO, refAt s.data.toList = RO := ⟨_, rfl⟩
        rw [hRO] at HN
        have HRO := Lib.hid hRO
        clear hRO
        rcases RO with _ | ⟨x, n⟩
        all_goals go_wp2_with (first
          | (go_at_call 57; with_reducible refine (HX1.out _).mono ?_; rintro e w1 ⟨rfl, rfl⟩)
          | (go_at_call 57; with_reducible refine (HX2.out _).mono ?_; rintro e w1 ⟨rfl, rfl⟩)
          | (go_at_call 57; with_reducible refine (HX3.out _).mono ?_; rintro e w1 ⟨rfl, rfl⟩)
          | (go_at_call 58; refine (HN.out _).mono ?_; rintro e w1 ⟨rfl, q, rfl⟩; dsimp only [refOut]))
        all_goals go_ret2
        all_goals exact ⟨by rw [HRO.out]; rfl, below_drewN HB.out _⟩
end Go.Proofs.YtnpoipjnnlbnfaaDoor
