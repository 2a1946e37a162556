/- Plain mathematics for layer 2 (rect). No Go in it, no conditions. -/
import Derived.Test.YtijanagnmeihoaaNum
namespace Go.Proofs.Fx
set_option linter.unusedVariables false

/-- has it no width or no height? -/
def emB (w h : Int) : Bool := decide (w ≤ 0) || decide (h ≤ 0)
/-- nothing of what is empty -/
def on (e : Bool) (v : Int) : Int := if e = true then 0 else v
def mx (a b : Int) : Int := if a < b then b else a
def mn (a b : Int) : Int := if b < a then b else a
theorem mx_of (a b : Int) : (if a < b then b else a) = mx a b := rfl
theorem mn_of (a b : Int) : (if b < a then b else a) = mn a b := rfl
theorem emB_iff (w h : Int) : emB w h = true ↔ w ≤ 0 ∨ h ≤ 0 := by unfold emB; simp
theorem emB_no (w h : Int) : emB w h = false ↔ 0 < w ∧ 0 < h := by unfold emB; simp
/-- is the point in the rectangle? -/
def hsB (x y w h p q : Int) : Bool := decide (sat x ≤ sat p) && decide (sat p < add (sat x) (sat w)) && decide (sat y ≤ sat q) && decide (sat q < add (sat y) (sat h))
end Go.Proofs.Fx
