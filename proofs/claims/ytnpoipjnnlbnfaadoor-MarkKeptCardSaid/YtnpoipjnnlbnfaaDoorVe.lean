/- What stands ahead of the cursor; chars; raw text. No conditions but that the list is not endless. -/
import Derived.Test.YtnpoipjnnlbnfaaDoorVd
namespace Go.Proofs.YtnpoipjnnlbnfaaDoor
set_option linter.unusedVariables false
open Go.RowKit Go.Proofs.Fm Go.Proofs.Fb Go.Proofs.Fk Go.Proofs.YtnpoipjnnlbnfaaDoor.Cu_rune

theorem letter_zero : Fk.letter 0 = false := by decide
theorem headLetter_get (t : List Int) : headLetter t = Fk.letter (t.getD 0 0) := by
  rcases t with _ | ⟨d, t⟩
  · exact letter_zero.symm
  · rfl
theorem kindAt_one {r : Int} {t : List Int} (h : r ≠ 60) : kindAt (r :: t) = 1 := by
  unfold kindAt
  rw [if_neg (by simp), if_pos (begins_not h)]
theorem kindAt_lt {t : List Int} : kindAt (60 :: t) = if Fk.letter (t.getD 0 0) = true then 2 else if t.getD 0 0 = 47 ∧ Fk.letter (t.getD 1 0) = true then 3 else if [60, 33, 45, 45] <+: 60 :: t then 4 else if t.getD 0 0 = 33 ∨ t.getD 0 0 = 63 ∨ t.getD 0 0 = 47 then 5 else 1 := by
  unfold kindAt
  rw [if_neg (by simp)]
  rcases t with _ | ⟨d, t⟩
  · have h1 : begins [60] = false := rfl
    rw [if_pos h1]
    have h2 : ¬ ([60, 33, 45, 45] <+: ([60] : List Int)) := by decide
    simp [letter_zero, h2]
  · have e1 : (d :: t).getD 0 0 = d := rfl
    have e2 : (d :: t).getD 1 0 = t.getD 0 0 := rfl
    have e3 : (60 :: d :: t).drop 1 = d :: t := rfl
    have e4 : (60 :: d :: t).drop 2 = t := rfl
    rw [e1, e2, e3, e4, headLetter_get t]
    have hb : begins (60 :: d :: t) = (Fk.letter d || d == 47 || d == 33 || d == 63) := by simp [begins]
    have hh : headLetter (d :: t) = Fk.letter d := rfl
    rw [hb, hh]
    by_cases c1 : Fk.letter d = true
    · simp [c1]
    · have c1' : Fk.letter d = false := by simpa using c1
      by_cases c2 : d = 47
      · subst c2; simp [c1']
      · by_cases c3 : d = 33
        · subst c3; simp [c1']
        · have hp : ¬ ([60, 33, 45, 45] <+: 60 :: d :: t) := by
            intro h; simp [List.cons_prefix_cons] at h; omega
          by_cases c4 : d = 63
          · subst c4; simp [c1', hp]
          · simp [c1', c2, c3, c4, hp]
theorem getD_small {L : List Int} (h : ∀ x ∈ L, -2147483648 ≤ x ∧ x ≤ 2147483647) (i : Nat) : -2147483648 ≤ L.getD i 0 ∧ L.getD i 0 ≤ 2147483647 := by
  rw [List.getD_eq_getElem?_getD]
  rcases hx : L[i]? with _ | x
  · simp
  · exact h x (List.mem_of_getElem? hx)
theorem lt_nz : noZero ⟨#[60]⟩ := by unfold noZero; decide
theorem remark_nz : noZero ⟨#[60, 33, 45, 45]⟩ := by unfold noZero; decide
theorem shut_nz : noZero ⟨#[60, 47]⟩ := by unfold noZero; decide
theorem pre_lt {r : Int} {t : List Int} : ([60] <+: r :: t) ↔ r = 60 := by
  rw [List.cons_prefix_cons]; simp [eq_comm]

set_option maxHeartbeats 2000000 in
theorem ahead_any {B b : Nat} {w : World} {L : List Int} (h : At B w b L) :
    Calls Tryd.prog 39 #[.pointer (some ⟨b, 0, none⟩)] w fun e w' => e = .returned (.int .i64 (kindAt L)) ∧ ∃ q, w.drewN q = w' := by
  have HL := Lib.hid (left h)
  rcases L with _ | ⟨r, t⟩
  · clear h
    go_enter Tryd.func39, Tryd.ntmps39
    go_wp2_with (go_at_call 60; refine (HL.out).mono ?_; rintro e w1 ⟨rfl, q, rfl⟩)
    go_ret
    exact ⟨rfl, q, rfl⟩
  · have h0 : ((r :: t).length : Int) ≠ 0 := by simp; omega
    have HP := Lib.hid (fun q i => peek (h.drewN q) i)
    have HF1 : Hid (∀ q, Calls Tryd.prog 62 #[.pointer (some ⟨b, 0, none⟩), .string ⟨#[60]⟩] (w.drewN q) fun e w' => e = .returned (.bool (decide (r = 60))) ∧ ∃ q', (w.drewN q).drewN q' = w') := Lib.hid (fun q => by
      have := follows_any (h.drewN q) ⟨#[60]⟩ (by decide) lt_nz
      rwa [show numsOf ⟨#[60]⟩ = [60] from rfl, decide_eq_decide.2 pre_lt] at this)
    have HF2 : Hid (∀ q, Calls Tryd.prog 62 #[.pointer (some ⟨b, 0, none⟩), .string ⟨#[60, 33, 45, 45]⟩] (w.drewN q) fun e w' => e = .returned (.bool (decide ([60, 33, 45, 45] <+: r :: t))) ∧ ∃ q', (w.drewN q).drewN q' = w') := Lib.hid (fun q => follows_any (h.drewN q) ⟨#[60, 33, 45, 45]⟩ (by decide) remark_nz)
    have hu := getD_small h.small 1
    have hv := getD_small h.small 2
    have hlen : Hid ((r :: t).length = t.length + 1) := Lib.hid rfl
    obtain ⟨n, hn⟩ : ∃ n : Nat, (r :: t).length = n := ⟨_, rfl⟩
    rw [hn] at HL h0
    have hk : kindAt (r :: t) = if r = 60 then kindAt (60 :: t) else 1 := by
      split
      · rename_i e; rw [e]
      · rename_i e; exact kindAt_one e
    rw [hk, kindAt_lt]
    have e1 : (r :: t).getD 1 0 = t.getD 0 0 := rfl
    have e2 : (r :: t).getD 2 0 = t.getD 1 0 := rfl
    rw [e1] at hu
    rw [e2] at hv
    have HP1 : Hid (∀ q, Calls Tryd.prog 61 #[.pointer (some ⟨b, 0, none⟩), .int .i64 1] (w.drewN q) fun e w' => (∃ m : Bool, e = .returned (.tuple #[.int .i32 (t.getD 0 0), .bool m])) ∧ ∃ q', (w.drewN q).drewN q' = w') :=
      Lib.hid (fun q => (HP.out q 1).mono (fun e w' ⟨h1, h2⟩ => ⟨⟨_, by rw [← e1]; exact h1⟩, h2⟩))
    have HP2 : Hid (∀ q, Calls Tryd.prog 61 #[.pointer (some ⟨b, 0, none⟩), .int .i64 2] (w.drewN q) fun e w' => (∃ m : Bool, e = .returned (.tuple #[.int .i32 (t.getD 1 0), .bool m])) ∧ ∃ q', (w.drewN q).drewN q' = w') :=
      Lib.hid (fun q => (HP.out q 2).mono (fun e w' ⟨h1, h2⟩ => ⟨⟨_, by rw [← e2]; exact h1⟩, h2⟩))
    clear HP e1 e2 hn hlen h hk
    obtain ⟨u, hu0⟩ : ∃ u, t.getD 0 0 = u := ⟨_, rfl⟩
    obtain ⟨v, hv0⟩ : ∃ v, t.getD 1 0 = v := ⟨_, rfl⟩
    rw [hu0] at hu HP1 ⊢
    rw [hv0] at hv HP2 ⊢
    have HU := Lib.hid (fun W => letter_any u W hu)
    have HV := Lib.hid (fun W => letter_any v W hv)
    clear hu0 hv0 hu hv
    obtain ⟨X, hX⟩ : ∃ X, (if r = 60 then if Fk.letter u = true then (2 : Int) else if u = 47 ∧ Fk.letter v = true then 3 else if [60, 33, 45, 45] <+: r :: t then 4 else if u = 33 ∨ u = 63 ∨ u = 47 then 5 else 1 else 1) = X := ⟨_, rfl⟩
    have hX' : (if r = 60 then if Fk.letter u = true then (2 : Int) else if u = 47 ∧ Fk.letter v = true then 3 else if [60, 33, 45, 45] <+: 60 :: t then 4 else if u = 33 ∨ u = 63 ∨ u = 47 then 5 else 1 else 1) = X := by
      rw [← hX]
      by_cases e : r = 60
      · rw [e]
      · simp [e]
    rw [hX']
    clear hX'
    by_cases c0 : r = 60
    · have d0 : decide (r = 60) = true := decide_eq_true c0
      rw [d0] at HF1
      rw [if_pos c0] at hX
      clear d0
      rcases hl : Fk.letter u with _ | _
      · rw [hl] at HU hX
        rw [if_neg (by simp)] at hX
        by_cases c1 : u = 47
        · have b1 : (u == 47) = true := by simp [c1]
          have b3 : (u == 33) = false := by simp [c1]
          have b4 : (u == 63) = false := by simp [c1]
          rcases hlv : Fk.letter v with _ | _
          · rw [hlv] at HV hX
            rw [if_neg (by simp)] at hX
            by_cases cp : [60, 33, 45, 45] <+: r :: t
            · rw [if_pos cp] at hX
              rw [decide_eq_true cp] at HF2
              subst hX
              clear cp c1
              go_enter Tryd.func39, Tryd.ntmps39
              go_wp2_with (first
                | (go_at_call 60; refine (HL.out).mono ?_; rintro e w1 ⟨rfl, q, rfl⟩)
                | (go_at_call 61; with_reducible refine (HP2.out _).mono ?_; rintro e w1 ⟨⟨m2, rfl⟩, q2, rfl⟩)
                | (go_at_call 61; with_reducible refine (HP1.out _).mono ?_; rintro e w1 ⟨⟨m1, rfl⟩, q1, rfl⟩)
                | (go_at_call 62; with_reducible refine (HF1.out _).mono ?_; rintro e w1 ⟨rfl, q3, rfl⟩)
                | (go_at_call 62; with_reducible refine (HF2.out _).mono ?_; rintro e w1 ⟨rfl, q4, rfl⟩)
                | (go_at_call 63; with_reducible refine (HU.out _).mono ?_; rintro e w1 ⟨rfl, q5, rfl⟩)
                | (go_at_call 63; with_reducible refine (HV.out _).mono ?_; rintro e w1 ⟨rfl, q6, rfl⟩))
              go_ret
              exact ⟨rfl, _, rfl⟩
            · rw [if_neg cp, if_pos (.inr (.inr c1))] at hX
              rw [decide_eq_false cp] at HF2
              subst hX
              clear cp c1
              go_enter Tryd.func39, Tryd.ntmps39
              go_wp2_with (first
                | (go_at_call 60; refine (HL.out).mono ?_; rintro e w1 ⟨rfl, q, rfl⟩)
                | (go_at_call 61; with_reducible refine (HP2.out _).mono ?_; rintro e w1 ⟨⟨m2, rfl⟩, q2, rfl⟩)
                | (go_at_call 61; with_reducible refine (HP1.out _).mono ?_; rintro e w1 ⟨⟨m1, rfl⟩, q1, rfl⟩)
                | (go_at_call 62; with_reducible refine (HF1.out _).mono ?_; rintro e w1 ⟨rfl, q3, rfl⟩)
                | (go_at_call 62; with_reducible refine (HF2.out _).mono ?_; rintro e w1 ⟨rfl, q4, rfl⟩)
                | (go_at_call 63; with_reducible refine (HU.out _).mono ?_; rintro e w1 ⟨rfl, q5, rfl⟩)
                | (go_at_call 63; with_reducible refine (HV.out _).mono ?_; rintro e w1 ⟨rfl, q6, rfl⟩))
              go_ret
              exact ⟨rfl, _, rfl⟩
          · rw [hlv] at HV hX
            rw [if_pos ⟨c1, rfl⟩] at hX
            subst hX
            clear c1
            go_enter Tryd.func39, Tryd.ntmps39
            go_wp2_with (first
              | (go_at_call 60; refine (HL.out).mono ?_; rintro e w1 ⟨rfl, q, rfl⟩)
              | (go_at_call 61; with_reducible refine (HP2.out _).mono ?_; rintro e w1 ⟨⟨m2, rfl⟩, q2, rfl⟩)
              | (go_at_call 61; with_reducible refine (HP1.out _).mono ?_; rintro e w1 ⟨⟨m1, rfl⟩, q1, rfl⟩)
              | (go_at_call 62; with_reducible refine (HF1.out _).mono ?_; rintro e w1 ⟨rfl, q3, rfl⟩)
              | (go_at_call 62; with_reducible refine (HF2.out _).mono ?_; rintro e w1 ⟨rfl, q4, rfl⟩)
              | (go_at_call 63; with_reducible refine (HU.out _).mono ?_; rintro e w1 ⟨rfl, q5, rfl⟩)
              | (go_at_call 63; with_reducible refine (HV.out _).mono ?_; rintro e w1 ⟨rfl, q6, rfl⟩))
            go_ret
            exact ⟨rfl, _, rfl⟩
        · have b1 : (u == 47) = false := by simp [c1]
          rw [if_neg (fun h => c1 h.1)] at hX
          by_cases cp : [60, 33, 45, 45] <+: r :: t
          · rw [if_pos cp] at hX
            rw [decide_eq_true cp] at HF2
            subst hX
            clear cp
            go_enter Tryd.func39, Tryd.ntmps39
            go_wp2_with (first
              | (go_at_call 60; refine (HL.out).mono ?_; rintro e w1 ⟨rfl, q, rfl⟩)
              | (go_at_call 61; with_reducible refine (HP2.out _).mono ?_; rintro e w1 ⟨⟨m2, rfl⟩, q2, rfl⟩)
              | (go_at_call 61; with_reducible refine (HP1.out _).mono ?_; rintro e w1 ⟨⟨m1, rfl⟩, q1, rfl⟩)
              | (go_at_call 62; with_reducible refine (HF1.out _).mono ?_; rintro e w1 ⟨rfl, q3, rfl⟩)
              | (go_at_call 62; with_reducible refine (HF2.out _).mono ?_; rintro e w1 ⟨rfl, q4, rfl⟩)
              | (go_at_call 63; with_reducible refine (HU.out _).mono ?_; rintro e w1 ⟨rfl, q5, rfl⟩)
              | (go_at_call 63; with_reducible refine (HV.out _).mono ?_; rintro e w1 ⟨rfl, q6, rfl⟩))
            go_ret
            exact ⟨rfl, _, rfl⟩
          · rw [if_neg cp] at hX
            rw [decide_eq_false cp] at HF2
            clear cp
            by_cases c3 : u = 33
            · rw [if_pos (.inl c3)] at hX
              subst hX
              have b3 : (u == 33) = true := by simp [c3]
              clear c3
              go_enter Tryd.func39, Tryd.ntmps39
              go_wp2_with (first
                | (go_at_call 60; refine (HL.out).mono ?_; rintro e w1 ⟨rfl, q, rfl⟩)
                | (go_at_call 61; with_reducible refine (HP2.out _).mono ?_; rintro e w1 ⟨⟨m2, rfl⟩, q2, rfl⟩)
                | (go_at_call 61; with_reducible refine (HP1.out _).mono ?_; rintro e w1 ⟨⟨m1, rfl⟩, q1, rfl⟩)
                | (go_at_call 62; with_reducible refine (HF1.out _).mono ?_; rintro e w1 ⟨rfl, q3, rfl⟩)
                | (go_at_call 62; with_reducible refine (HF2.out _).mono ?_; rintro e w1 ⟨rfl, q4, rfl⟩)
                | (go_at_call 63; with_reducible refine (HU.out _).mono ?_; rintro e w1 ⟨rfl, q5, rfl⟩)
                | (go_at_call 63; with_reducible refine (HV.out _).mono ?_; rintro e w1 ⟨rfl, q6, rfl⟩))
              go_ret
              exact ⟨rfl, _, rfl⟩
            · have b3 : (u == 33) = false := by simp [c3]
              by_cases c4 : u = 63
              · rw [if_pos (.inr (.inl c4))] at hX
                subst hX
                have b4 : (u == 63) = true := by simp [c4]
                clear c4
                go_enter Tryd.func39, Tryd.ntmps39
                go_wp2_with (first
                  | (go_at_call 60; refine (HL.out).mono ?_; rintro e w1 ⟨rfl, q, rfl⟩)
                  | (go_at_call 61; with_reducible refine (HP2.out _).mono ?_; rintro e w1 ⟨⟨m2, rfl⟩, q2, rfl⟩)
                  | (go_at_call 61; with_reducible refine (HP1.out _).mono ?_; rintro e w1 ⟨⟨m1, rfl⟩, q1, rfl⟩)
                  | (go_at_call 62; with_reducible refine (HF1.out _).mono ?_; rintro e w1 ⟨rfl, q3, rfl⟩)
                  | (go_at_call 62; with_reducible refine (HF2.out _).mono ?_; rintro e w1 ⟨rfl, q4, rfl⟩)
                  | (go_at_call 63; with_reducible refine (HU.out _).mono ?_; rintro e w1 ⟨rfl, q5, rfl⟩)
                  | (go_at_call 63; with_reducible refine (HV.out _).mono ?_; rintro e w1 ⟨rfl, q6, rfl⟩))
                go_ret
                exact ⟨rfl, _, rfl⟩
              · have b4 : (u == 63) = false := by simp [c4]
                rw [if_neg (by omega)] at hX
                subst hX
                go_enter Tryd.func39, Tryd.ntmps39
                go_wp2_with (first
                  | (go_at_call 60; refine (HL.out).mono ?_; rintro e w1 ⟨rfl, q, rfl⟩)
                  | (go_at_call 61; with_reducible refine (HP2.out _).mono ?_; rintro e w1 ⟨⟨m2, rfl⟩, q2, rfl⟩)
                  | (go_at_call 61; with_reducible refine (HP1.out _).mono ?_; rintro e w1 ⟨⟨m1, rfl⟩, q1, rfl⟩)
                  | (go_at_call 62; with_reducible refine (HF1.out _).mono ?_; rintro e w1 ⟨rfl, q3, rfl⟩)
                  | (go_at_call 62; with_reducible refine (HF2.out _).mono ?_; rintro e w1 ⟨rfl, q4, rfl⟩)
                  | (go_at_call 63; with_reducible refine (HU.out _).mono ?_; rintro e w1 ⟨rfl, q5, rfl⟩)
                  | (go_at_call 63; with_reducible refine (HV.out _).mono ?_; rintro e w1 ⟨rfl, q6, rfl⟩))
                go_ret
                exact ⟨rfl, _, rfl⟩
      · rw [hl] at HU hX
        rw [if_pos rfl] at hX
        subst hX
        go_enter Tryd.func39, Tryd.ntmps39
        go_wp2_with (first
          | (go_at_call 60; refine (HL.out).mono ?_; rintro e w1 ⟨rfl, q, rfl⟩)
          | (go_at_call 61; with_reducible refine (HP2.out _).mono ?_; rintro e w1 ⟨⟨m2, rfl⟩, q2, rfl⟩)
          | (go_at_call 61; with_reducible refine (HP1.out _).mono ?_; rintro e w1 ⟨⟨m1, rfl⟩, q1, rfl⟩)
          | (go_at_call 62; with_reducible refine (HF1.out _).mono ?_; rintro e w1 ⟨rfl, q3, rfl⟩)
          | (go_at_call 62; with_reducible refine (HF2.out _).mono ?_; rintro e w1 ⟨rfl, q4, rfl⟩)
          | (go_at_call 63; with_reducible refine (HU.out _).mono ?_; rintro e w1 ⟨rfl, q5, rfl⟩)
          | (go_at_call 63; with_reducible refine (HV.out _).mono ?_; rintro e w1 ⟨rfl, q6, rfl⟩))
        go_ret
        exact ⟨rfl, _, rfl⟩
    · have d0 : decide (r = 60) = false := decide_eq_false c0
      rw [if_neg c0] at hX
      subst hX
      rw [d0] at HF1
      clear d0 c0
      go_enter Tryd.func39, Tryd.ntmps39
      go_wp2_with (first
        | (go_at_call 60; refine (HL.out).mono ?_; rintro e w1 ⟨rfl, q, rfl⟩)
        | (go_at_call 61; with_reducible refine (HP2.out _).mono ?_; rintro e w1 ⟨⟨m2, rfl⟩, q2, rfl⟩)
        | (go_at_call 61; with_reducible refine (HP1.out _).mono ?_; rintro e w1 ⟨⟨m1, rfl⟩, q1, rfl⟩)
        | (go_at_call 62; refine (HF1.out _).mono ?_; rintro e w1 ⟨rfl, q3, rfl⟩))
      go_ret
      exact ⟨rfl, _, rfl⟩
end Go.Proofs.YtnpoipjnnlbnfaaDoor
