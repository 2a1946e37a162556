/- Texts and open tags as they are written. Conditions: texts are not endless. -/
import Derived.Test.YtdogcnmepaemjaaDoorRj
import Derived.Test.YtdogcnmepaemjaaDoorRe
import Derived.Test.YtdogcnmepaemjaaDoorCls
namespace Go.Proofs.YtdogcnmepaemjaaDoor
set_option linter.unusedVariables false
open Go.RowKit Go.Proofs.Fm Go.Proofs.Fb Go.Proofs.Fu Go.Proofs.Fr Go.Proofs.Fd Go.Proofs.Fc

def textW (p t : Str) : Str := if p = [115, 116, 121, 108, 101] ∨ p = [115, 99, 114, 105, 112, 116] then t else escS false t
def attrsW : List Att → Str
  | [] => []
  | a :: t => (32 :: a.1) ++ [61, 34] ++ escS true a.2 ++ [34] ++ attrsW t
theorem attrsW_append : ∀ a b : List Att, attrsW (a ++ b) = attrsW a ++ attrsW b
  | [], b => rfl
  | x :: t, b => by rw [List.cons_append, attrsW, attrsW, attrsW_append t b]; simp only [List.append_assoc]
def tagW (x : Nd) : Str := (60 :: x.name) ++ attrsW x.attrs ++ [62]
set_option maxHeartbeats 1000000 in
theorem textIn_any (p t : Str) (ht : t.length ≤ 17592186044416) (w : World) : Calls Tryd.prog 26 #[.string ⟨p.toArray⟩, .string ⟨t.toArray⟩] w fun e w' => e = .returned (.string ⟨(textW p t).toArray⟩) ∧ Below w.heap.size w w' := by
  have HE := Lib.hid (fun W => escape_any false ⟨t.toArray⟩ (by rw [str_len]; exact ht) W)
  simp only [] at HE
  unfold textW
  rcases h1 : (p == [115, 116, 121, 108, 101]) with _ | _
  · rcases h2 : (p == [115, 99, 114, 105, 112, 116]) with _ | _
    · rw [if_neg (by rintro (c | c) <;> simp_all)]
      have d1 := h1
      have d2 := h2
      go_enter Tryd.func26, Tryd.ntmps26
      go_wp2_with (go_at_call 9; refine (HE.out _).mono ?_; rintro e w1 ⟨rfl, b1⟩)
      go_ret
      exact ⟨rfl, b1⟩
    · rw [if_pos (.inr (by simpa using h2))]
      have d1 := h1
      have d2 := h2
      go_enter Tryd.func26, Tryd.ntmps26
      go_wp2
      go_ret
      exact ⟨rfl, Below.refl _ _⟩
  · rw [if_pos (.inl (by simpa using h1))]
    have d1 := h1
    go_enter Tryd.func26, Tryd.ntmps26
    go_wp2
    go_ret
    exact ⟨rfl, Below.refl _ _⟩
end Go.Proofs.YtdogcnmepaemjaaDoor
