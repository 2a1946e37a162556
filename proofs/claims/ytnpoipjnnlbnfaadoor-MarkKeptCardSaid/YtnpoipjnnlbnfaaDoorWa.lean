/- The law's own digits. No conditions but that the number is not below 0. -/
import Derived.Test.YtnpoipjnnlbnfaaDoorVp
namespace Go.Proofs.YtnpoipjnnlbnfaaDoor
set_option linter.unusedVariables false
open Go.RowKit Go.Proofs.Fm Go.Proofs.Fb Go.Proofs.Fk Go.Proofs.Fs Go.Proofs.Fc Go.Proofs.Fu

theorem digsF_fuel (base : Nat) (hb : 2 ≤ base) : ∀ (f g n : Nat) (acc : Str), n ≤ f → n ≤ g → digsF base f n acc = digsF base g n acc
  | 0, 0, n, acc, h, _ => rfl
  | 0, g + 1, n, acc, h, _ => by
    obtain rfl : n = 0 := by omega
    simp [digsF]
  | f + 1, 0, n, acc, _, h => by
    obtain rfl : n = 0 := by omega
    simp [digsF]
  | f + 1, g + 1, n, acc, hf, hg => by
    simp only [digsF]
    split
    · rfl
    · have hd : n / base < n := Nat.div_lt_self (by omega) (by omega)
      exact digsF_fuel base hb f g _ _ (by omega) (by omega)
/-- what the loop is to come to -/
def digsGo (base m : Nat) (acc : Str) : Str := if m = 0 ∧ acc = [] then [48] else digsF base m m acc
theorem digsGo_start (base n : Nat) : digsGo base n [] = digs base n := by unfold digsGo digs; simp
theorem digsGo_step {base m : Nat} (hb : 2 ≤ base) {acc : Str} (h : 0 < m ∨ acc = []) : digsGo base (m / base) (chr (m % base) :: acc) = digsGo base m acc := by
  unfold digsGo
  rw [if_neg (by simp)]
  rcases Nat.eq_zero_or_pos m with h0 | h0
  · subst h0
    have : acc = [] := by rcases h with h | h; omega; exact h
    subst this
    rw [if_pos ⟨rfl, rfl⟩]
    simp [digsF]
    decide
  · rw [if_neg (by omega)]
    have hd : m / base < m := Nat.div_lt_self h0 (by omega)
    obtain ⟨k, rfl⟩ : ∃ k, m = k + 1 := ⟨m - 1, by omega⟩
    rw [show digsF base (k + 1) (k + 1) acc = digsF base k ((k + 1) / base) (chr ((k + 1) % base) :: acc) by simp [digsF]]
    exact digsF_fuel base hb _ _ _ _ (Nat.le_refl _) (by omega)
theorem digsGo_end {base : Nat} {acc : Str} (h : acc ≠ []) : digsGo base 0 acc = acc := by
  unfold digsGo; rw [if_neg (by simp [h])]; rfl
theorem hexAt : ∀ i : Nat, i < 16 → (⟨#[48, 49, 50, 51, 52, 53, 54, 55, 56, 57, 97, 98, 99, 100, 101, 102]⟩ : ByteArray).extract i (i + 1) = ⟨#[chr i]⟩ := by decide
theorem cat_list (a b : List UInt8) : (⟨a.toArray⟩ : ByteArray) ++ ⟨b.toArray⟩ = ⟨(a ++ b).toArray⟩ := by
  apply ByteArray.ext
  rw [ByteArray.data_append]
  simp
set_option maxHeartbeats 2000000 in
theorem digits_any (n base : Nat) (hb : base = 10 ∨ base = 16) (hn : n ≤ 1114111) (w : World) :
    Calls Tryd.prog 32 #[.int .i64 (n : Int), .int .i64 (base : Int)] w fun e w' => e = .returned (.string ⟨(digs base n).toArray⟩) ∧ ∃ q, w.drewN q = w' := by
  have hb2 : 2 ≤ base := by omega
  have hb3 : base ≤ 16 := by omega
  have HB := Lib.hid hb
  clear hb
  go_enter Tryd.func32, Tryd.ntmps32
  go_wp2
  rcases HB.out with hb | hb
  · subst hb
    go_loopg [0, 5] (n + 1) (fun gk x y wr => ∃ (m : Nat) (acc : List UInt8), x = .int .i64 (m : Int) ∧ y = .string ⟨acc.toArray⟩ ∧ (acc = [] → gk = m + 1) ∧ (acc ≠ [] → gk = m) ∧ acc.length + m ≤ 1114112 ∧ Hid (digsGo 10 m acc = digs 10 n) ∧ wr = w)
    case atStart => exact ⟨n, [], rfl, rfl, fun _ => rfl, fun h => absurd rfl h, by simp; omega, Lib.hid (digsGo_start 10 n), rfl⟩
    case round =>
      obtain ⟨m, acc, rfl, rfl, hg1, hg2, hle, hd, rfl⟩ := hrel
      have HG1 := Lib.hid hg1
      have HG2 := Lib.hid hg2
      clear hg1 hg2
      rcases Nat.eq_zero_or_pos m with h0 | h0
      · subst h0
        rcases acc with _ | ⟨a, t⟩
        · go_wp2
          go_roundg 0
          case measure => have := HG1.out (by simp); omega
          case rel =>
            refine ⟨0, [48], rfl, rfl, fun h => absurd h (by simp), fun _ => rfl, by simp, Lib.hid ?_, rfl⟩
            rw [← hd.out]; exact digsGo_step (by omega) (m := 0) (.inr rfl)
        · have ha : (⟨(a :: t).toArray⟩ : ByteArray) ≠ ⟨#[]⟩ := by intro e; injection e with e; injection e with e; cases e
          have HD := Lib.hid (digsGo_end (base := 10) (acc := a :: t) (by simp))
          go_wp2
          go_ret
          exact ⟨by rw [← hd.out, HD.out]; rfl, 0, rfl⟩
      · have i1 : (0 : Int) < (m : Int) := by omega
        go_wp2
        go_roundg (m / 10)
        case measure =>
          have h1 : m / 10 < m := Nat.div_lt_self h0 (by omega)
          by_cases e : acc = []
          · rw [HG1.out e]; omega
          · rw [HG2.out e]; exact h1
        case rel =>
          have h1 : m / 10 < m := Nat.div_lt_self h0 (by omega)
          refine ⟨m / 10, chr (m % 10) :: acc, by simp, ?_, fun h => absurd h (by simp), fun _ => rfl, by simp only [List.length_cons]; omega, Lib.hid ?_, rfl⟩
          · rw [hexAt _ (by omega)]
            exact congrArg Value.string (cat_list [chr (m % 10)] acc)
          · rw [← hd.out]; exact digsGo_step (by omega) (.inl h0)
  · subst hb
    go_loopg [0, 5] (n + 1) (fun gk x y wr => ∃ (m : Nat) (acc : List UInt8), x = .int .i64 (m : Int) ∧ y = .string ⟨acc.toArray⟩ ∧ (acc = [] → gk = m + 1) ∧ (acc ≠ [] → gk = m) ∧ acc.length + m ≤ 1114112 ∧ Hid (digsGo 16 m acc = digs 16 n) ∧ wr = w)
    case atStart => exact ⟨n, [], rfl, rfl, fun _ => rfl, fun h => absurd rfl h, by simp; omega, Lib.hid (digsGo_start 16 n), rfl⟩
    case round =>
      obtain ⟨m, acc, rfl, rfl, hg1, hg2, hle, hd, rfl⟩ := hrel
      have HG1 := Lib.hid hg1
      have HG2 := Lib.hid hg2
      clear hg1 hg2
      rcases Nat.eq_zero_or_pos m with h0 | h0
      · subst h0
        rcases acc with _ | ⟨a, t⟩
        · go_wp2
          go_roundg 0
          case measure => have := HG1.out (by simp); omega
          case rel =>
            refine ⟨0, [48], rfl, rfl, fun h => absurd h (by simp), fun _ => rfl, by simp, Lib.hid ?_, rfl⟩
            rw [← hd.out]; exact digsGo_step (by omega) (m := 0) (.inr rfl)
        · have ha : (⟨(a :: t).toArray⟩ : ByteArray) ≠ ⟨#[]⟩ := by intro e; injection e with e; injection e with e; cases e
          have HD := Lib.hid (digsGo_end (base := 16) (acc := a :: t) (by simp))
          go_wp2
          go_ret
          exact ⟨by rw [← hd.out, HD.out]; rfl, 0, rfl⟩
      · have i1 : (0 : Int) < (m : Int) := by omega
        go_wp2
        go_roundg (m / 16)
        case measure =>
          have h1 : m / 16 < m := Nat.div_lt_self h0 (by omega)
          by_cases e : acc = []
          · rw [HG1.out e]; omega
          · rw [HG2.out e]; exact h1
        case rel =>
          have h1 : m / 16 < m := Nat.div_lt_self h0 (by omega)
          refine ⟨m / 16, chr (m % 16) :: acc, by simp, ?_, fun h => absurd h (by simp), fun _ => rfl, by simp only [List.length_cons]; omega, Lib.hid ?_, rfl⟩
          · rw [hexAt _ (by omega)]
            exact congrArg Value.string (cat_list [chr (m % 16)] acc)
          · rw [← hd.out]; exact digsGo_step (by omega) (.inl h0)
end Go.Proofs.YtnpoipjnnlbnfaaDoor
