/- Plain mathematics for RectPoints. No Go in it. Conditions: numbers within 2^40. -/
import Derived.Test.YtijanagnmeihoaaRe
namespace Go.Proofs.Fx
set_option linter.unusedVariables false
theorem mx_max (a b : Int) : mx a b = max a b := by unfold mx; split <;> omega
theorem mn_min (a b : Int) : mn a b = min a b := by unfold mn; split <;> omega
theorem mx_comm (a b : Int) : mx a b = mx b a := by rw [mx_max, mx_max]; omega
theorem mn_comm (a b : Int) : mn a b = mn b a := by rw [mn_min, mn_min]; omega
/-- p where the first is empty, q where the second is, r else -/
def pk (ea eb : Bool) (p q r : Int) : Int := if ea = true then p else if eb = true then q else r
/-- within 2^40 -/
def In40 (x : Int) : Prop := -1099511627776 ≤ x ∧ x ≤ 1099511627776
theorem has_small {x y w h p q : Int} (hx : -4398046511104 ≤ x ∧ x ≤ 4398046511104) (hy : -4398046511104 ≤ y ∧ y ≤ 4398046511104) (hw : -4398046511104 ≤ w ∧ w ≤ 4398046511104) (hh : -4398046511104 ≤ h ∧ h ≤ 4398046511104) (hp : In40 p) (hq : In40 q) :
    hsB x y w h p q = decide (x ≤ p ∧ p < x + w ∧ y ≤ q ∧ q < y + h) := by
  unfold In40 at *
  unfold hsB
  rw [sat_in (n := x) (by omega) (by omega), sat_in (n := y) (by omega) (by omega), sat_in (n := w) (by omega) (by omega), sat_in (n := h) (by omega) (by omega), sat_in (n := p) (by omega) (by omega), sat_in (n := q) (by omega) (by omega),
    add_mid (by omega) (by omega) (by omega) (by omega), add_mid (by omega) (by omega) (by omega) (by omega)]
  rw [Bool.eq_iff_iff]; simp only [Bool.and_eq_true, decide_eq_true_eq]; omega
end Go.Proofs.Fx
namespace Go.Proofs.Ytijanagnmeihoaa
set_option linter.unusedVariables false
open Go.Proofs.Fx
theorem mX_comm (a b : Int) : mX a b = mX b a := mx_comm _ _
theorem mW_comm (a b c d : Int) : mW a b c d = mW c d a b := by unfold mW mR; rw [mn_comm, mX_comm]
theorem jW_comm (a b c d : Int) : jW a b c d = jW c d a b := by unfold jW; rw [mx_comm, mn_comm]
def jX (ea eb : Bool) (a b : Int) : Int := pk ea eb (on eb (sat b)) (sat a) (mn (sat a) (sat b))
def jV (ea eb : Bool) (ax aw bx bw : Int) : Int := pk ea eb (on eb (sat bw)) (sat aw) (jW ax aw bx bw)
theorem jX_comm (ea eb : Bool) (a b : Int) : jX ea eb a b = jX eb ea b a := by
  unfold jX pk on
  cases ea <;> cases eb <;> simp [mn_comm]
theorem jV_comm (ea eb : Bool) (ax aw bx bw : Int) : jV ea eb ax aw bx bw = jV eb ea bx bw ax aw := by
  unfold jV pk on
  cases ea <;> cases eb <;> simp [jW_comm]
theorem mX_small {a b : Int} (ha : In40 a) (hb : In40 b) : mX a b = max a b := by
  unfold In40 at *
  unfold mX; rw [sat_in (n := a) (by omega) (by omega), sat_in (n := b) (by omega) (by omega), mx_max]
theorem mW_small {a b c d : Int} (ha : In40 a) (hb : In40 b) (hc : In40 c) (hd : In40 d) : mW a b c d = min (a + b) (c + d) - max a c := by
  unfold mW mR
  rw [mX_small ha hc]
  unfold In40 at *
  rw [sat_in (n := a) (by omega) (by omega), sat_in (n := b) (by omega) (by omega), sat_in (n := c) (by omega) (by omega), sat_in (n := d) (by omega) (by omega), mn_min, add_mid (by omega) (by omega) (by omega) (by omega), add_mid (by omega) (by omega) (by omega) (by omega), sub_mid (by omega) (by omega) (by omega) (by omega)]
theorem jW_small {a b c d : Int} (ha : In40 a) (hb : In40 b) (hc : In40 c) (hd : In40 d) : jW a b c d = max (a + b) (c + d) - min a c := by
  unfold jW
  unfold In40 at *
  rw [sat_in (n := a) (by omega) (by omega), sat_in (n := b) (by omega) (by omega), sat_in (n := c) (by omega) (by omega), sat_in (n := d) (by omega) (by omega), mn_min, mx_max, add_mid (by omega) (by omega) (by omega) (by omega), add_mid (by omega) (by omega) (by omega) (by omega), sub_mid (by omega) (by omega) (by omega) (by omega)]
theorem has_meet {ax ay aw ah bx bY bw bh p q : Int} (h1 : In40 ax) (h2 : In40 ay) (h3 : In40 aw) (h4 : In40 ah) (h5 : In40 bx) (h6 : In40 bY) (h7 : In40 bw) (h8 : In40 bh) (hp : In40 p) (hq : In40 q) :
    hsB (on (emB (mW ax aw bx bw) (mW ay ah bY bh)) (mX ax bx)) (on (emB (mW ax aw bx bw) (mW ay ah bY bh)) (mX ay bY)) (on (emB (mW ax aw bx bw) (mW ay ah bY bh)) (mW ax aw bx bw)) (on (emB (mW ax aw bx bw) (mW ay ah bY bh)) (mW ay ah bY bh)) p q
      = (hsB ax ay aw ah p q && hsB bx bY bw bh p q) := by
  rw [mX_small h1 h5, mX_small h2 h6, mW_small h1 h3 h5 h7, mW_small h2 h4 h6 h8]
  have e1 := has_small (x := ax) (y := ay) (w := aw) (h := ah) (p := p) (q := q) (by unfold In40 at *; omega) (by unfold In40 at *; omega) (by unfold In40 at *; omega) (by unfold In40 at *; omega) hp hq
  have e2 := has_small (x := bx) (y := bY) (w := bw) (h := bh) (p := p) (q := q) (by unfold In40 at *; omega) (by unfold In40 at *; omega) (by unfold In40 at *; omega) (by unfold In40 at *; omega) hp hq
  rw [e1, e2]
  cases e : emB (min (ax + aw) (bx + bw) - max ax bx) (min (ay + ah) (bY + bh) - max ay bY) with
  | true =>
    have e' := (emB_iff _ _).1 e
    simp only [on, if_true]
    rw [has_small (by omega) (by omega) (by omega) (by omega) hp hq, Bool.eq_iff_iff]
    simp only [Bool.and_eq_true, decide_eq_true_eq]
    omega
  | false =>
    simp only [on, Bool.false_eq_true, if_false]
    unfold In40 at *
    rw [has_small (by omega) (by omega) (by omega) (by omega) hp hq, Bool.eq_iff_iff]
    simp only [Bool.and_eq_true, decide_eq_true_eq]
    omega
theorem has_join {ax ay aw ah bx bY bw bh p q : Int} (h1 : In40 ax) (h2 : In40 ay) (h3 : In40 aw) (h4 : In40 ah) (h5 : In40 bx) (h6 : In40 bY) (h7 : In40 bw) (h8 : In40 bh) (hp : In40 p) (hq : In40 q)
    (h : hsB ax ay aw ah p q = true ∨ hsB bx bY bw bh p q = true) :
    hsB (jX (emB (sat aw) (sat ah)) (emB (sat bw) (sat bh)) ax bx) (jX (emB (sat aw) (sat ah)) (emB (sat bw) (sat bh)) ay bY) (jV (emB (sat aw) (sat ah)) (emB (sat bw) (sat bh)) ax aw bx bw) (jV (emB (sat aw) (sat ah)) (emB (sat bw) (sat bh)) ay ah bY bh) p q = true := by
  unfold jX jV
  rw [jW_small h1 h3 h5 h7, jW_small h2 h4 h6 h8]
  have e1 := has_small (x := ax) (y := ay) (w := aw) (h := ah) (p := p) (q := q) (by unfold In40 at *; omega) (by unfold In40 at *; omega) (by unfold In40 at *; omega) (by unfold In40 at *; omega) hp hq
  have e2 := has_small (x := bx) (y := bY) (w := bw) (h := bh) (p := p) (q := q) (by unfold In40 at *; omega) (by unfold In40 at *; omega) (by unfold In40 at *; omega) (by unfold In40 at *; omega) hp hq
  rw [e1, e2, decide_eq_true_eq, decide_eq_true_eq] at h
  clear e1 e2
  unfold In40 at h1 h2 h3 h4 h5 h6 h7 h8
  rw [sat_in (n := ax) (by omega) (by omega), sat_in (n := ay) (by omega) (by omega), sat_in (n := aw) (by omega) (by omega), sat_in (n := ah) (by omega) (by omega), sat_in (n := bx) (by omega) (by omega), sat_in (n := bY) (by omega) (by omega), sat_in (n := bw) (by omega) (by omega), sat_in (n := bh) (by omega) (by omega), mn_min, mn_min]
  cases ea : emB aw ah with
  | true =>
    have a' := (emB_iff _ _).1 ea
    cases eb : emB bw bh with
    | true => have b' := (emB_iff _ _).1 eb; omega
    | false =>
      simp only [pk, on, if_true, Bool.false_eq_true, if_false]
      rw [has_small (by omega) (by omega) (by omega) (by omega) hp hq, decide_eq_true_eq]; omega
  | false =>
    have a' := (emB_no _ _).1 ea
    cases eb : emB bw bh with
    | true =>
      have b' := (emB_iff _ _).1 eb
      simp only [pk, if_true, Bool.false_eq_true, if_false]
      rw [has_small (by omega) (by omega) (by omega) (by omega) hp hq, decide_eq_true_eq]; omega
    | false =>
      have b' := (emB_no _ _).1 eb
      simp only [pk, Bool.false_eq_true, if_false]
      rw [has_small (by omega) (by omega) (by omega) (by omega) hp hq, decide_eq_true_eq]; omega
open Go.RowKit
theorem meet_sym (ax ay aw ah bx bY bw bh : Int) (w : World) :
    Calls Try.prog 7 #[.agg #[.int .i64 bx, .int .i64 bY, .int .i64 bw, .int .i64 bh], .agg #[.int .i64 ax, .int .i64 ay, .int .i64 aw, .int .i64 ah]] w fun e w' => e = .returned (.agg #[.int .i64 (on (emB (mW ax aw bx bw) (mW ay ah bY bh)) (mX ax bx)), .int .i64 (on (emB (mW ax aw bx bw) (mW ay ah bY bh)) (mX ay bY)), .int .i64 (on (emB (mW ax aw bx bw) (mW ay ah bY bh)) (mW ax aw bx bw)), .int .i64 (on (emB (mW ax aw bx bw) (mW ay ah bY bh)) (mW ay ah bY bh))]) ∧ Below w.heap.size w w' := by
  have h := meet_any bx bY bw bh ax ay aw ah w
  rw [mW_comm bx bw ax aw, mW_comm bY bh ay ah, mX_comm bx ax, mX_comm bY ay] at h
  exact h
theorem join_any (ax ay aw ah bx bY bw bh : Int) (w : World) :
    Calls Try.prog 8 #[.agg #[.int .i64 ax, .int .i64 ay, .int .i64 aw, .int .i64 ah], .agg #[.int .i64 bx, .int .i64 bY, .int .i64 bw, .int .i64 bh]] w
      fun e w' => e = .returned (.agg #[.int .i64 (jX (emB (sat aw) (sat ah)) (emB (sat bw) (sat bh)) ax bx), .int .i64 (jX (emB (sat aw) (sat ah)) (emB (sat bw) (sat bh)) ay bY), .int .i64 (jV (emB (sat aw) (sat ah)) (emB (sat bw) (sat bh)) ax aw bx bw), .int .i64 (jV (emB (sat aw) (sat ah)) (emB (sat bw) (sat bh)) ay ah bY bh)]) ∧ Below w.heap.size w w' := by
  cases ea : emB (sat aw) (sat ah) with
  | true => exact join_l ax ay aw ah bx bY bw bh w ea
  | false =>
    cases eb : emB (sat bw) (sat bh) with
    | true => exact join_r ax ay aw ah bx bY bw bh w ea eb
    | false => exact join_b ax ay aw ah bx bY bw bh w ea eb
theorem join_sym (ax ay aw ah bx bY bw bh : Int) (w : World) :
    Calls Try.prog 8 #[.agg #[.int .i64 bx, .int .i64 bY, .int .i64 bw, .int .i64 bh], .agg #[.int .i64 ax, .int .i64 ay, .int .i64 aw, .int .i64 ah]] w
      fun e w' => e = .returned (.agg #[.int .i64 (jX (emB (sat aw) (sat ah)) (emB (sat bw) (sat bh)) ax bx), .int .i64 (jX (emB (sat aw) (sat ah)) (emB (sat bw) (sat bh)) ay bY), .int .i64 (jV (emB (sat aw) (sat ah)) (emB (sat bw) (sat bh)) ax aw bx bw), .int .i64 (jV (emB (sat aw) (sat ah)) (emB (sat bw) (sat bh)) ay ah bY bh)]) ∧ Below w.heap.size w w' := by
  have h := join_any bx bY bw bh ax ay aw ah w
  rw [jX_comm _ _ bx ax, jX_comm _ _ bY ay, jV_comm _ _ bx bw ax aw, jV_comm _ _ bY bh ay ah] at h
  exact h
end Go.Proofs.Ytijanagnmeihoaa
