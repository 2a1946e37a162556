/- Plain mathematics for layer 1 (fixed): units that saturate. No Go in it, no conditions. -/
namespace Go.Proofs.Fx
set_option linter.unusedVariables false

def clamp (n lo hi : Int) : Int := max lo (min n hi)
def sat (n : Int) : Int := clamp n (-70368744177664) 70368744177664
def add (a b : Int) : Int := sat (sat a + sat b)
def sub (a b : Int) : Int := sat (sat a - sat b)
def times (a n : Int) : Int := sat (sat a * clamp n (-65536) 65536)
def part (a num den : Int) : Int := sat (sat a * clamp num 0 65536 / clamp den 1 65536)

theorem clamp_bd (n lo hi : Int) (h : lo ≤ hi) : lo ≤ clamp n lo hi ∧ clamp n lo hi ≤ hi := by unfold clamp; omega
theorem clamp_in {n lo hi : Int} (h : lo ≤ n) (h' : n ≤ hi) : clamp n lo hi = n := by unfold clamp; omega
theorem sat_bd (n : Int) : -70368744177664 ≤ sat n ∧ sat n ≤ 70368744177664 := clamp_bd _ _ _ (by omega)
theorem sat_in {n : Int} (h : -70368744177664 ≤ n) (h' : n ≤ 70368744177664) : sat n = n := clamp_in h h'
theorem sat_sat (n : Int) : sat (sat n) = sat n := sat_in (sat_bd n).1 (sat_bd n).2
theorem add_bd (a b : Int) : -70368744177664 ≤ add a b ∧ add a b ≤ 70368744177664 := sat_bd _
theorem sub_bd (a b : Int) : -70368744177664 ≤ sub a b ∧ sub a b ≤ 70368744177664 := sat_bd _
theorem add_comm (a b : Int) : add a b = add b a := by unfold add; rw [Int.add_comm]
theorem sat_neg (n : Int) : sat (- n) = - sat n := by unfold sat clamp; omega
theorem sub_add (a b : Int) : sub a b = add a (sub 0 b) := by
  have h0 : sat 0 = 0 := sat_in (by omega) (by omega)
  have hb := sat_bd b
  have h : sub 0 b = - sat b := by unfold sub; rw [h0, Int.zero_sub]; exact sat_in (by omega) (by omega)
  have h2 : sat (- sat b) = - sat b := sat_in (by omega) (by omega)
  rw [h]; unfold sub add; rw [h2, Int.sub_eq_add_neg]
theorem add_in {a b : Int} (ha : -2199023255552 ≤ a) (ha' : a ≤ 2199023255552) (hb : -2199023255552 ≤ b) (hb' : b ≤ 2199023255552) : add a b = a + b := by
  unfold add; rw [sat_in (n := a) (by omega) (by omega), sat_in (n := b) (by omega) (by omega), sat_in (by omega) (by omega)]
theorem add_mid {a b : Int} (ha : -8796093022208 ≤ a) (ha' : a ≤ 8796093022208) (hb : -8796093022208 ≤ b) (hb' : b ≤ 8796093022208) : add a b = a + b := by
  unfold add; rw [sat_in (n := a) (by omega) (by omega), sat_in (n := b) (by omega) (by omega), sat_in (by omega) (by omega)]
theorem sub_mid {a b : Int} (ha : -8796093022208 ≤ a) (ha' : a ≤ 8796093022208) (hb : -8796093022208 ≤ b) (hb' : b ≤ 8796093022208) : sub a b = a - b := by
  unfold sub; rw [sat_in (n := a) (by omega) (by omega), sat_in (n := b) (by omega) (by omega), sat_in (by omega) (by omega)]

/-- the product of a number between the rails and a factor fits -/
theorem mul_bd {a f : Int} (ha : -70368744177664 ≤ a) (ha' : a ≤ 70368744177664) (hf : -65536 ≤ f) (hf' : f ≤ 65536) : -4611686018427387904 ≤ a * f ∧ a * f ≤ 4611686018427387904 := by
  have h1 : a.natAbs ≤ 70368744177664 := by omega
  have h2 : f.natAbs ≤ 65536 := by omega
  have h3 : (a * f).natAbs ≤ 70368744177664 * 65536 := by rw [Int.natAbs_mul]; exact Nat.mul_le_mul h1 h2
  omega

theorem quo_down (n d : Int) (hd : 1 ≤ d) : (if n.tmod d < 0 then n.tdiv d - 1 else n.tdiv d) = n / d := by
  rw [Int.tdiv_eq_ediv, Int.tmod_eq_emod]
  have h1 := Int.emod_nonneg n (show d ≠ 0 by omega)
  have h2 := Int.emod_lt_of_pos n (show 0 < d by omega)
  have hs : d.sign = 1 := Int.sign_eq_one_of_pos (by omega)
  have hn : ((d.natAbs : Nat) : Int) = d := by omega
  rw [hs]
  by_cases h : 0 ≤ n ∨ d ∣ n
  · rw [if_pos h, if_pos h, if_neg (by omega)]; omega
  · rw [if_neg h, if_neg h, if_pos (by omega)]; omega
theorem quo_bd (n d : Int) (hd : 1 ≤ d) (h : -4611686018427387904 ≤ n) (h' : n ≤ 4611686018427387904) : -4611686018427387904 ≤ n.tdiv d ∧ n.tdiv d ≤ 4611686018427387904 := by
  have h1 : (n.tdiv d).natAbs ≤ n.natAbs := Int.natAbs_tdiv_le_natAbs n d
  omega

/-- the numbers added up from the left, saturating -/
def total (l : List Int) : Int := l.foldl add 0
theorem total_step (l : List Int) (k : Nat) (h : k < l.length) : total (l.take (k + 1)) = add (total (l.take k)) (l.getD k 0) := by
  unfold total
  rw [List.take_succ_eq_append_getElem h, List.foldl_append]
  simp [h]
/-- the weights' exact sum -/
def wsum (l : List Int) : Int := (l.map (fun x => clamp x 0 65536)).sum
theorem wsum_nil : wsum [] = 0 := rfl
theorem wsum_cons (x : Int) (l : List Int) : wsum (x :: l) = clamp x 0 65536 + wsum l := by simp [wsum]
theorem wsum_append (l r : List Int) : wsum (l ++ r) = wsum l + wsum r := by simp [wsum, List.sum_append]
theorem wsum_step (l : List Int) (k : Nat) (h : k < l.length) : wsum (l.take (k + 1)) = wsum (l.take k) + clamp (l.getD k 0) 0 65536 := by
  rw [List.take_succ_eq_append_getElem h, wsum_append, wsum_cons, wsum_nil]
  simp [h]
theorem wsum_bd (l : List Int) : 0 ≤ wsum l ∧ wsum l ≤ 65536 * l.length := by
  induction l with
  | nil => simp [wsum_nil]
  | cons x r ih =>
    have := clamp_bd x 0 65536 (by omega)
    rw [wsum_cons, List.length_cons]
    omega

/-- cmp.Compare, cmp.Or of two -/
def cmpv (x y : Int) : Int := if x < y then -1 else if y < x then 1 else 0
def orv (a b : Int) : Int := if a = 0 then b else a
end Go.Proofs.Fx
