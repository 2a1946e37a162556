/- casementref4's begins and Small, by place in the list. Conditions: the list is not endless; Small: its runes are scalar values. -/
import Derived.Test.YtnpoipjnnlbnfaaDoorXf
import Derived.Test.YtnpoipjnnlbnfaaDoorOne
namespace Go.Proofs.YtnpoipjnnlbnfaaDoor
set_option linter.unusedVariables false
open Go.RowKit Go.Proofs.Fm Go.Proofs.Fb Go.Proofs.Fk Go.Proofs.Fu

/-- a scalar value -/
def Scal (x : Int) : Prop := 0 ≤ x ∧ x ≤ 1114111 ∧ (x < 55296 ∨ 57343 < x)
theorem Scal.low {x : Int} (h : Scal x) : Scal (low x) := by
  unfold Scal Fk.low at *
  split <;> omega
theorem foldl_scal : ∀ (ns : List Int) (s : ByteArray), (∀ x ∈ ns, Scal x) → (ns.foldl (fun r n => r ++ Utf8.encode n) s).data.toList = s.data.toList ++ encB ns
  | [], s, _ => by simp [encB]
  | x :: t, s, h => by
    rw [List.foldl_cons, foldl_scal t _ (fun y hy => h y (by simp [hy]))]
    have hx := h x (by simp)
    unfold Scal at hx
    have e : (Utf8.encode x).data.toList = Lib.encodeRune x := by
      have := encode_good x.toNat (by omega)
      rwa [show ((x.toNat : Nat) : Int) = x by omega] at this
    rw [ByteArray.data_append, Array.toList_append, e]
    simp [encB]
/-- a list of scalar values as a text -/
theorem runes_scal (ns : List Int) (h : ∀ x ∈ ns, Scal x) : runesBytes ns = ⟨(encB ns).toArray⟩ := by
  apply ByteArray.ext
  apply Array.toList_inj.1
  unfold runesBytes
  rw [foldl_scal ns _ h]
  rfl
set_option maxRecDepth 100000 in
set_option maxHeartbeats 2000000 in
theorem refBegins_any (A : Option Addr) (n c : Nat) (xs : List Int) (hn : xs.length = n) (hx : n ≤ 16777216) (hs : ∀ x ∈ xs, -2147483648 ≤ x ∧ x ≤ 2147483647) (k : Nat) (hk : k < n) (w : World) (hr : Row w .i32 A xs) :
    Calls Tryd.prog 45 #[.slice A n c, .int .i64 (k : Int)] w fun e w' => e = .returned (.bool (Fk.begins (xs.drop k))) ∧ ∃ q, w.drewN q = w' := by
  obtain ⟨b, off, rfl, hc⟩ := hr.at_ (i := k) (by omega)
  have c1 := hc k (by omega)
  have i1 : (k : Int) < (n : Int) := by omega
  obtain ⟨u, hu'⟩ : ∃ u, xs.getD k 0 = u := ⟨_, rfl⟩
  rw [hu'] at c1
  have HX : Hid (xs.drop k = u :: xs.drop (k + 1)) := Lib.hid (by rw [drop_cons (by omega), hu'])
  rcases hq : (u != 60) with _ | _
  · have HU : Hid (u = 60) := Lib.hid (by simpa using hq)
    by_cases hkn : k + 1 < n
    · have c2 := hc (k + 1) (by omega)
      have i2 : (k : Int) + 1 < (n : Int) := by omega
      obtain ⟨v, hv'⟩ : ∃ v, xs.getD (k + 1) 0 = v := ⟨_, rfl⟩
      rw [hv'] at c2
      have HY : Hid (xs.drop (k + 1) = v :: xs.drop (k + 2)) := Lib.hid (by rw [drop_cons (by omega), hv'])
      have hvs : -2147483648 ≤ v ∧ v ≤ 2147483647 := by
        rw [← hv', List.getD_eq_getElem?_getD, List.getElem?_eq_getElem (by omega)]
        exact hs _ (List.getElem_mem _)
      have HL := Lib.hid (fun W => refLetter_any v W hvs)
      obtain ⟨L, hL⟩ : ∃ L, Fk.letter v = L := ⟨_, rfl⟩
      rw [hL] at HL
      have HLL := Lib.hid hL
      have HQ := Lib.hid hq
      have ha : off + k + 1 = off + (k + 1) := by omega
      clear hc hu' hv' hr hvs hL hs
      cases L
      all_goals go_enter Tryd.func45, Tryd.ntmps45
      all_goals go_wp2_with (go_at_call 46; refine (HL.out _).mono ?_; rintro e w1 ⟨rfl, q1, rfl⟩)
      all_goals
        go_ret
        refine ⟨refBool ?_, q1, rfl⟩
        rw [HX.out, HY.out, Fk.begins, HU.out, HLL.out]
        simp_all
    · have i2 : ¬ ((k : Int) + 1 < (n : Int)) := by omega
      have HQ := Lib.hid hq
      clear hc hu' hr hs
      go_enter Tryd.func45, Tryd.ntmps45
      go_wp2
      go_ret
      refine ⟨refBool ?_, 0, rfl⟩
      rw [HX.out, List.drop_eq_nil_of_le (by omega)]; rfl
  · have HU : Hid (¬ u = 60) := Lib.hid (by simpa using hq)
    clear hc hu' hr hs
    go_enter Tryd.func45, Tryd.ntmps45
    go_wp2
    go_ret
    refine ⟨refBool ?_, 0, rfl⟩
    rw [HX.out]
    rcases xs.drop (k + 1) with _ | ⟨r, t⟩
    · rfl
    · rw [Fk.begins]; simp [HU.out]
end Go.Proofs.YtnpoipjnnlbnfaaDoor
