/- What a canonical tree asks of names, texts and attributes. No conditions but that texts are not endless and what the world holds of the library's tables. -/
import Derived.Test.YtdogcnmepaemjaaDoorRd
import Derived.Test.YtdogcnmepaemjaaDoorRv
import Derived.Deep.DeepCutAuto
namespace Go.Proofs.Fr
set_option linter.unusedVariables false
open Go.Lib Go.Proofs.Fu Go.Proofs.Fe Go.Proofs.Fk
def voidB (n : Str) : Bool := [[98, 114], [104, 114], [105, 109, 103], [105, 110, 112, 117, 116], [108, 105, 110, 107], [109, 101, 116, 97]].contains n
def endsB (n : Str) : Bool := [[100, 105, 118], [104, 49], [108, 105], [112], [116, 97, 98, 108, 101], [117, 108]].contains n
def knownB (n : Str) : Bool := [[97], [98], [98, 114], [100, 105, 118], [101, 109], [104, 49], [104, 114], [105], [105, 109, 103], [108, 105], [112], [115, 112, 97, 110], [116, 97, 98, 108, 101], [116, 100], [116, 114], [117], [117, 108]].contains n
def sTr : Str := [116, 114]
def sTd : Str := [116, 100]
def sLi : Str := [108, 105]
def sUl : Str := [117, 108]
def sTable : Str := [116, 97, 98, 108, 101]
def holdB (p n : Str) : Bool := if n = sTr then p == sTable else if n = sTd then p == sTr else if n = sLi then p == sUl else !(p == sTable) && !(p == sTr) && !(p == sUl) && !voidB p
def smallI (r : Int) : Bool := decide (97 ≤ r) && decide (r ≤ 122)
def behindI (r : Int) : Bool := r == 45 || (decide (48 ≤ r) && decide (r ≤ 57))
def nameL : List Int → Bool
  | [] => true
  | r :: t => smallI r && t.all fun r => smallI r || behindI r
def cleanB (t : Str) : Bool := Lib.validD t && !decide (0 ≤ Lib.indexByte t 0)
end Go.Proofs.Fr
namespace Go.Proofs.YtdogcnmepaemjaaDoor
set_option linter.unusedVariables false
open Go.RowKit Go.Proofs.Fm Go.Proofs.Fb Go.Proofs.Fk Go.Proofs.Fu Go.Proofs.Fr

theorem retBool {a b : Bool} (h : a = b) : Ending.returned (.bool a) = .returned (.bool b) := by rw [h]
theorem void_any (n : Str) (w : World) : Calls Tryd.prog 28 #[.string ⟨n.toArray⟩] w fun e w' => e = .returned (.bool (voidB n)) ∧ ∃ q, w.drewN q = w' := by
  go_enter Tryd.func28, Tryd.ntmps28
  go_wp2
  all_goals (go_ret; refine ⟨retBool ?_, 0, rfl⟩; simp_all [voidB])
theorem ends_any (n : Str) (w : World) : Calls Tryd.prog 22 #[.string ⟨n.toArray⟩] w fun e w' => e = .returned (.bool (endsB n)) ∧ ∃ q, w.drewN q = w' := by
  go_enter Tryd.func22, Tryd.ntmps22
  go_wp2
  all_goals (go_ret; refine ⟨retBool ?_, 0, rfl⟩; simp_all [endsB])
set_option maxHeartbeats 2000000 in
set_option maxRecDepth 10000 in
theorem known_name (n : Str) (w : World) : Calls Tryd.prog 37 #[.string ⟨n.toArray⟩] w fun e w' => e = .returned (.bool (knownB n)) ∧ ∃ q, w.drewN q = w' := by
  go_enter Tryd.func37, Tryd.ntmps37
  go_wp2
  all_goals (go_ret; refine ⟨retBool ?_, 0, rfl⟩; simp_all [knownB])
set_option maxHeartbeats 2000000 in
theorem hold_any (p n : Str) (w : World) : Calls Tryd.prog 21 #[.string ⟨p.toArray⟩, .string ⟨n.toArray⟩] w fun e w' => e = .returned (.bool (holdB p n)) ∧ ∃ q, w.drewN q = w' := by
  have HV := Lib.hid (fun w => void_any p w)
  unfold holdB
  by_cases c1 : n = sTr
  · rw [if_pos c1]
    have d1 : (n == [116, 114]) = true := by rw [beq_iff_eq]; exact c1
    clear c1
    go_enter Tryd.func21, Tryd.ntmps21
    go_wp2
    go_ret
    exact ⟨rfl, 0, rfl⟩
  rw [if_neg c1]
  have d1 : (n == [116, 114]) = false := by rw [beq_eq_false_iff_ne]; exact c1
  by_cases c2 : n = sTd
  · rw [if_pos c2]
    have d2 : (n == [116, 100]) = true := by rw [beq_iff_eq]; exact c2
    clear c1 c2
    go_enter Tryd.func21, Tryd.ntmps21
    go_wp2
    go_ret
    exact ⟨rfl, 0, rfl⟩
  rw [if_neg c2]
  have d2 : (n == [116, 100]) = false := by rw [beq_eq_false_iff_ne]; exact c2
  by_cases c3 : n = sLi
  · rw [if_pos c3]
    have d3 : (n == [108, 105]) = true := by rw [beq_iff_eq]; exact c3
    clear c1 c2 c3
    go_enter Tryd.func21, Tryd.ntmps21
    go_wp2
    go_ret
    exact ⟨rfl, 0, rfl⟩
  rw [if_neg c3]
  have d3 : (n == [108, 105]) = false := by rw [beq_eq_false_iff_ne]; exact c3
  clear c1 c2 c3
  rcases h1 : (p == sTable) with _ | _
  · have e1 : (p == [116, 97, 98, 108, 101]) = false := h1
    rcases h2 : (p == sTr) with _ | _
    · have e2 : (p == [116, 114]) = false := h2
      rcases h3 : (p == sUl) with _ | _
      · have e3 : (p == [117, 108]) = false := h3
        clear h1 h2 h3
        go_enter Tryd.func21, Tryd.ntmps21
        go_wp2_with (go_at_call 28; refine (HV.out _).mono ?_; rintro e w1 ⟨rfl, q1, rfl⟩)
        go_ret
        exact ⟨rfl, q1, rfl⟩
      · have e3 : (p == [117, 108]) = true := h3
        clear h1 h2 h3
        go_enter Tryd.func21, Tryd.ntmps21
        go_wp2
        go_ret
        exact ⟨rfl, 0, rfl⟩
    · have e2 : (p == [116, 114]) = true := h2
      clear h1 h2
      go_enter Tryd.func21, Tryd.ntmps21
      go_wp2
      go_ret
      exact ⟨rfl, 0, rfl⟩
  · have e1 : (p == [116, 97, 98, 108, 101]) = true := h1
    clear h1
    go_enter Tryd.func21, Tryd.ntmps21
    go_wp2
    go_ret
    exact ⟨rfl, 0, rfl⟩
set_option maxHeartbeats 2000000 in
theorem clean_any (t : Str) (ht : t.length ≤ 9223372036854775807) (w : World) (he : Env w) : Calls Tryd.prog 36 #[.string ⟨t.toArray⟩] w fun e w' => e = .returned (.bool (cleanB t)) ∧ Below w.heap.size w w' := by
  unfold cleanB
  have hs : (⟨t.toArray⟩ : ByteArray).size ≤ 9223372036854775807 := by show t.toArray.size ≤ _; simpa using ht
  have HV := Lib.hid (validString_any ⟨t.toArray⟩ w hs he)
  have HC := Lib.hid (fun w => contains1_any ⟨t.toArray⟩ 0 w)
  obtain ⟨V, hV⟩ : ∃ V, Lib.validD t = V := ⟨_, rfl⟩
  obtain ⟨C, hC⟩ : ∃ C, decide (0 ≤ Lib.indexByte t 0) = C := ⟨_, rfl⟩
  rw [show (⟨t.toArray⟩ : ByteArray).data.toList = t from rfl, hV] at HV
  simp only [hC] at HC
  rw [hV, hC]
  clear hV hC hs ht
  cases V
  · go_enter Tryd.func36, Tryd.ntmps36
    go_wp2_with (go_at_call 48; refine (HV.out).mono ?_; rintro e w1 ⟨rfl, b1⟩)
    go_ret
    exact ⟨rfl, b1⟩
  · go_enter Tryd.func36, Tryd.ntmps36
    go_wp2_with (first
      | (go_at_call 48; refine (HV.out).mono ?_; rintro e w1 ⟨rfl, b1⟩)
      | (go_at_call 49; refine (HC.out _).mono ?_; rintro e w2 ⟨rfl, rfl⟩))
    go_ret
    exact ⟨rfl, b1⟩
end Go.Proofs.YtdogcnmepaemjaaDoor
