/- casementref4's small functions by place in the list: letter, Blank, is, begins, behind, blanks. No conditions but that the list is not endless. casementref4's begins and Small, by place in the list. Conditions: the list is not endless; Small: its runes are scalar values. -/
import Derived.Test.YtnpoipjnnlbnfaaDoorVa
import Derived.Test.YtnpoipjnnlbnfaaDoorMt
import Derived.Test.YtnpoipjnnlbnfaaDoorBase
import Derived.Deep.LoopGhost
import Derived.Deep.DeepCutAuto
import Derived.Test.YtnpoipjnnlbnfaaDoorOne
namespace Go.Proofs.YtnpoipjnnlbnfaaDoor
set_option linter.unusedVariables false
open Go.RowKit Go.Proofs.Fm Go.Proofs.Fb Go.Proofs.Fk

theorem refBool {a b : Bool} (h : a = b) : Ending.returned (.bool a) = .returned (.bool b) := by rw [h]
theorem refBlank_any (r : Int) (w : World) : Calls Tryd.prog 75 #[.int .i32 r] w fun e w' => e = .returned (.bool (Fk.blank r)) ∧ ∃ q, w.drewN q = w' := by
  go_enter Tryd.func75, Tryd.ntmps75
  go_wp2
  all_goals (go_ret; refine ⟨?_, 0, rfl⟩; simp_all [Fk.blank])
theorem refLetter_any (r : Int) (w : World) (h : -2147483648 ≤ r ∧ r ≤ 2147483647) : Calls Tryd.prog 46 #[.int .i32 r] w fun e w' => e = .returned (.bool (Fk.letter r)) ∧ ∃ q, w.drewN q = w' := by
  go_enter Tryd.func46, Tryd.ntmps46
  go_wp2
  all_goals (go_ret; refine ⟨refBool ?_, 0, rfl⟩; unfold Fk.letter; rw [Bool.eq_iff_iff]; simp; omega)
theorem refNums_get {s : ByteArray} {i : Nat} (h : i < s.size) : (numsOf s).drop i = ((s[i]'h).toNat : Int) :: (numsOf s).drop (i + 1) := by
  have h' : i < s.data.size := h
  rw [List.drop_eq_getElem_cons (by rw [numsOf_length]; exact h)]
  congr 1
  simp only [numsOf, List.getElem_map, Array.getElem_toList]
  rfl
set_option maxRecDepth 100000 in
set_option maxHeartbeats 2000000 in
theorem refIs_any (A : Option Addr) (n c : Nat) (xs : List Int) (hn : xs.length = n) (hx : n ≤ 16777216) (k : Nat) (hk : k ≤ n + 16) (s : ByteArray) (hs : s.size ≤ 1000) (w : World) (hr : Row w .i32 A xs) :
    Calls Tryd.prog 49 #[.slice A n c, .int .i64 (k : Int), .string s] w fun e w' => e = .returned (.bool (decide (numsOf s <+: xs.drop k))) ∧ ∃ q, w.drewN q = w' := by
  have HR := Lib.hid hr
  clear hr
  go_enter Tryd.func49, Tryd.ntmps49
  go_wp2
  go_loopg [7] s.size (fun gk i wr => ∃ m q : Nat, m + gk = s.size ∧ i = .int .i64 (m : Int) ∧ Hid (decide ((numsOf s).drop m <+: xs.drop (k + m)) = decide (numsOf s <+: xs.drop k)) ∧ wr = w.drewN q)
  case atStart => exact ⟨0, 0, by omega, rfl, Lib.hid rfl, rfl⟩
  case round =>
    obtain ⟨m, q, hm, rfl, ht, rfl⟩ := hrel
    by_cases hlt : m < s.size
    · have i1 : (m : Int) < (s.size : Int) := by omega
      have hd := refNums_get hlt
      have hu := (s[m]'hlt).toNat_lt
      have HD := Lib.hid hd
      clear hd
      by_cases hkn : k + m < n
      · have i2 : decide ((n : Int) ≤ (k : Int) + (m : Int)) = false := decide_eq_false (by omega)
        have i3 : (k : Int) + (m : Int) < (n : Int) := by omega
        obtain ⟨b, off, rfl, hc⟩ := HR.out.at_ (i := k + m) (by omega)
        have c1 := hc (k + m) (by omega)
        obtain ⟨u, hu'⟩ : ∃ u, xs.getD (k + m) 0 = u := ⟨_, rfl⟩
        rw [hu'] at c1
        have HX : Hid (xs.drop (k + m) = u :: xs.drop (k + m + 1)) := Lib.hid (by rw [drop_cons (by omega), hu'])
        clear hc hu'
        rcases hq : (u != ((s[m]'hlt).toNat : Int)) with _ | _
        · have HQ := Lib.hid hq
          go_wp2
          go_quiet (fail)
          go_wp2
          go_roundg (gk - 1)
          case measure => omega
          case rel =>
            refine ⟨m + 1, q + nq, by omega, by go_num, Lib.hid ?_, rfl⟩
            rw [← ht.out, HD.out, HX.out]
            have : u = ((s[m]'hlt).toNat : Int) := by simpa using HQ.out
            rw [this]
            simp [Nat.add_assoc, List.cons_prefix_cons]
        · have HQ := Lib.hid hq
          go_wp2
          go_quiet (fail)
          go_wp2
          go_ret
          refine ⟨refBool ?_, q + nq, (World.drewN_drewN _ _ _).symm⟩
          rw [← ht.out, HD.out, HX.out]
          symm
          rw [decide_eq_false_iff_not, List.cons_prefix_cons]
          rintro ⟨h1, -⟩
          have := HQ.out
          rw [h1] at this
          simp at this
      · have i2 : (n : Int) ≤ (k : Int) + (m : Int) := by omega
        go_wp2
        go_quiet (fail)
        go_wp2
        go_ret
        refine ⟨refBool ?_, q + nq, (World.drewN_drewN _ _ _).symm⟩
        have h0 : xs.drop (k + m) = [] := List.drop_eq_nil_of_le (by omega)
        rw [← ht.out, HD.out, h0]
        simp
    · obtain rfl : m = s.size := by omega
      go_wp2
      go_ret
      refine ⟨refBool ?_, q, rfl⟩
      rw [← ht.out, List.drop_eq_nil_of_le (by rw [numsOf_length]; omega)]
      simp
/-- the place behind the next text, or the end -/
theorem refBehind_any (A : Option Addr) (n c : Nat) (xs : List Int) (hn : xs.length = n) (hx : n ≤ 16777216) (k : Nat) (hk : k ≤ n + 16) (s : ByteArray) (hs : s.size ≤ 1000) (hs0 : 0 < s.size) (w : World) (hr : Row w .i32 A xs) :
    Calls Tryd.prog 50 #[.slice A n c, .int .i64 (k : Int), .string s] w fun e w' => (∃ j : Nat, e = .returned (.int .i64 (j : Int)) ∧ j ≤ n ∧ (k < n → k < j) ∧ xs.drop j = Fk.behind (numsOf s) (xs.drop k)) ∧ ∃ q, w.drewN q = w' := by
  have HR := Lib.hid hr
  have HI := Lib.hid (fun k (hk : k ≤ n + 16) W (h : Row W .i32 A xs) => refIs_any A n c xs hn hx k hk s hs W h)
  clear hr
  go_enter Tryd.func50, Tryd.ntmps50
  go_upto_region 1 with fail
  go_loopg [1] (n - k) (fun gk i wr => ∃ m q : Nat, m + gk = max n k ∧ k ≤ m ∧ i = .int .i64 (m : Int) ∧ Hid (Fk.behind (numsOf s) (xs.drop m) = Fk.behind (numsOf s) (xs.drop k)) ∧ wr = w.drewN q)
  case atStart => exact ⟨k, 0, by omega, by omega, rfl, Lib.hid rfl, rfl⟩
  case round =>
    obtain ⟨m, q, hm, hkm, rfl, ht, rfl⟩ := hrel
    by_cases hlt : m < n
    · have i1 : (m : Int) < (n : Int) := by omega
      have hq := HI.out m (by omega) (w.drewN q) (HR.out.drewN q)
      have hd := drop_cons (xs := xs) (k := m) (by omega)
      have HD := Lib.hid hd
      obtain ⟨B, hB⟩ : ∃ B, decide (numsOf s <+: xs.drop m) = B := ⟨_, rfl⟩
      rw [hB] at hq
      have HQ := Lib.hid hq
      clear hq hd
      have hl : (numsOf s).length = s.size := numsOf_length s
      rcases B with _ | _
      · have HB : Hid (¬ (numsOf s <+: xs.drop m)) := Lib.hid (of_decide_eq_false hB)
        clear hB
        go_wp2_with (go_at_call 49; refine (HQ.out).mono ?_; rintro e w1 ⟨rfl, q1, rfl⟩)
        go_roundg (gk - 1)
        case measure => omega
        case rel =>
          refine ⟨m + 1, q + q1, by omega, by omega, by go_num, Lib.hid ?_, rfl⟩
          rw [← ht.out, HD.out, Fk.behind, if_neg (by rw [← HD.out]; exact HB.out)]
      · have HB : Hid (numsOf s <+: xs.drop m) := Lib.hid (of_decide_eq_true hB)
        have hle : m + s.size ≤ n := by
          have := HB.out.length_le
          rw [List.length_drop] at this; omega
        clear hB
        go_wp2_with (go_at_call 49; refine (HQ.out).mono ?_; rintro e w1 ⟨rfl, q1, rfl⟩)
        go_ret
        refine ⟨⟨m + s.size, by go_num, hle, fun _ => by omega, ?_⟩, q + q1, rfl⟩
        rw [← ht.out, HD.out, Fk.behind, if_pos (by rw [← HD.out]; exact HB.out), ← HD.out, hl, List.drop_drop]
    · go_wp2
      go_ret
      refine ⟨⟨n, rfl, by omega, fun _ => by omega, ?_⟩, q, rfl⟩
      have h1 : xs.drop m = [] := List.drop_eq_nil_of_le (by omega)
      rw [← ht.out, h1, List.drop_eq_nil_of_le (by omega)]; rfl
/-- blanks gone over -/
theorem refBlanks_any (A : Option Addr) (n c : Nat) (xs : List Int) (hn : xs.length = n) (hx : n ≤ 16777216) (k : Nat) (hk : k ≤ n + 16) (w : World) (hr : Row w .i32 A xs) :
    Calls Tryd.prog 92 #[.slice A n c, .int .i64 (k : Int)] w fun e w' => (∃ j : Nat, e = .returned (.int .i64 (j : Int)) ∧ k ≤ j ∧ (j ≤ n ∨ j = k) ∧ xs.drop j = (xs.drop k).dropWhile Fk.blank) ∧ ∃ q, w.drewN q = w' := by
  have HR := Lib.hid hr
  clear hr
  go_enter Tryd.func92, Tryd.ntmps92
  go_upto_region 1 with fail
  go_loopg [1] (n - k) (fun gk i wr => ∃ m q : Nat, m + gk = max n k ∧ k ≤ m ∧ (m ≤ n ∨ m = k) ∧ i = .int .i64 (m : Int) ∧ Hid ((xs.drop m).dropWhile Fk.blank = (xs.drop k).dropWhile Fk.blank) ∧ wr = w.drewN q)
  case atStart => exact ⟨k, 0, by omega, by omega, .inr rfl, rfl, Lib.hid rfl, rfl⟩
  case round =>
    obtain ⟨m, q, hm, hkm, hmn, rfl, ht, rfl⟩ := hrel
    by_cases hlt : m < n
    · have i1 : (m : Int) < (n : Int) := by omega
      obtain ⟨b, off, rfl, hc⟩ := HR.out.at_ (i := m) (by omega)
      have c1 := hc m (by omega)
      obtain ⟨u, hu'⟩ : ∃ u, xs.getD m 0 = u := ⟨_, rfl⟩
      rw [hu'] at c1
      have HX : Hid (xs.drop m = u :: xs.drop (m + 1)) := Lib.hid (by rw [drop_cons (by omega), hu'])
      have HBL := Lib.hid (fun W => refBlank_any u W)
      clear hc hu'
      rcases hq : Fk.blank u with _ | _
      all_goals rw [hq] at HBL
      all_goals have HQ := Lib.hid hq
      all_goals clear hq
      · go_wp2_with (go_at_call 75; refine (HBL.out _).mono ?_; rintro e w1 ⟨rfl, q1, rfl⟩)
        go_ret
        refine ⟨⟨m, rfl, hkm, hmn, ?_⟩, q + q1, rfl⟩
        rw [← ht.out, HX.out, List.dropWhile_cons, HQ.out]; simp
      · go_wp2_with (go_at_call 75; refine (HBL.out _).mono ?_; rintro e w1 ⟨rfl, q1, rfl⟩)
        go_roundg (gk - 1)
        case measure => omega
        case rel =>
          refine ⟨m + 1, q + q1, by omega, by omega, .inl (by omega), by go_num, Lib.hid ?_, rfl⟩
          rw [← ht.out, HX.out, List.dropWhile_cons, HQ.out]; simp
    · have i1 : ¬ (m : Int) < (n : Int) := by omega
      go_wp2
      go_ret
      refine ⟨⟨m, rfl, hkm, hmn, ?_⟩, q, rfl⟩
      have h1 : xs.drop m = [] := List.drop_eq_nil_of_le (by omega)
      rw [← ht.out, h1]; rfl
end Go.Proofs.YtnpoipjnnlbnfaaDoor
namespace Go.Proofs.YtnpoipjnnlbnfaaDoor
set_option linter.unusedVariables false
open Go.RowKit Go.Proofs.Fm Go.Proofs.Fb Go.Proofs.Fk Go.Proofs.Fu

/-- a scalar value -/
def Scal (x : Int) : Prop := 0 ≤ x ∧ x ≤ 1114111 ∧ (x < 55296 ∨ 57343 < x)
theorem Scal.low {x : Int} (h : Scal x) : Scal (low x) := by
  unfold Scal Fk.low at *
  split <;> omega
theorem foldl_scal : ∀ (ns : List Int) (s : ByteArray), (∀ x ∈ ns, Scal x) → (ns.foldl (fun r n => r ++ Utf8.encode n) s).data.toList = s.data.toList ++ encB ns
  | [], s, _ => by simp [encB]
  | x :: t, s, h => by
    rw [List.foldl_cons, foldl_scal t _ (fun y hy => h y (by simp [hy]))]
    have hx := h x (by simp)
    unfold Scal at hx
    have e : (Utf8.encode x).data.toList = Lib.encodeRune x := by
      have := encode_good x.toNat (by omega)
      rwa [show ((x.toNat : Nat) : Int) = x by omega] at this
    rw [ByteArray.data_append, Array.toList_append, e]
    simp [encB]
/-- a list of scalar values as a text -/
theorem runes_scal (ns : List Int) (h : ∀ x ∈ ns, Scal x) : runesBytes ns = ⟨(encB ns).toArray⟩ := by
  apply ByteArray.ext
  apply Array.toList_inj.1
  unfold runesBytes
  rw [foldl_scal ns _ h]
  rfl
set_option maxRecDepth 100000 in
set_option maxHeartbeats 2000000 in
theorem refBegins_any (A : Option Addr) (n c : Nat) (xs : List Int) (hn : xs.length = n) (hx : n ≤ 16777216) (hs : ∀ x ∈ xs, -2147483648 ≤ x ∧ x ≤ 2147483647) (k : Nat) (hk : k < n) (w : World) (hr : Row w .i32 A xs) :
    Calls Tryd.prog 45 #[.slice A n c, .int .i64 (k : Int)] w fun e w' => e = .returned (.bool (Fk.begins (xs.drop k))) ∧ ∃ q, w.drewN q = w' := by
  obtain ⟨b, off, rfl, hc⟩ := hr.at_ (i := k) (by omega)
  have c1 := hc k (by omega)
  have i1 : (k : Int) < (n : Int) := by omega
  obtain ⟨u, hu'⟩ : ∃ u, xs.getD k 0 = u := ⟨_, rfl⟩
  rw [hu'] at c1
  have HX : Hid (xs.drop k = u :: xs.drop (k + 1)) := Lib.hid (by rw [drop_cons (by omega), hu'])
  rcases hq : (u != 60) with _ | _
  · have HU : Hid (u = 60) := Lib.hid (by simpa using hq)
    by_cases hkn : k + 1 < n
    · have c2 := hc (k + 1) (by omega)
      have i2 : (k : Int) + 1 < (n : Int) := by omega
      obtain ⟨v, hv'⟩ : ∃ v, xs.getD (k + 1) 0 = v := ⟨_, rfl⟩
      rw [hv'] at c2
      have HY : Hid (xs.drop (k + 1) = v :: xs.drop (k + 2)) := Lib.hid (by rw [drop_cons (by omega), hv'])
      have hvs : -2147483648 ≤ v ∧ v ≤ 2147483647 := by
        rw [← hv', List.getD_eq_getElem?_getD, List.getElem?_eq_getElem (by omega)]
        exact hs _ (List.getElem_mem _)
      have HL := Lib.hid (fun W => refLetter_any v W hvs)
      obtain ⟨L, hL⟩ : ∃ L, Fk.letter v = L := ⟨_, rfl⟩
      rw [hL] at HL
      have HLL := Lib.hid hL
      have HQ := Lib.hid hq
      have ha : off + k + 1 = off + (k + 1) := by omega
      clear hc hu' hv' hr hvs hL hs
      cases L
      all_goals go_enter Tryd.func45, Tryd.ntmps45
      all_goals go_wp2_with (go_at_call 46; refine (HL.out _).mono ?_; rintro e w1 ⟨rfl, q1, rfl⟩)
      all_goals
        go_ret
        refine ⟨refBool ?_, q1, rfl⟩
        rw [HX.out, HY.out, Fk.begins, HU.out, HLL.out]
        simp_all
    · have i2 : ¬ ((k : Int) + 1 < (n : Int)) := by omega
      have HQ := Lib.hid hq
      clear hc hu' hr hs
      go_enter Tryd.func45, Tryd.ntmps45
      go_wp2
      go_ret
      refine ⟨refBool ?_, 0, rfl⟩
      rw [HX.out, List.drop_eq_nil_of_le (by omega)]; rfl
  · have HU : Hid (¬ u = 60) := Lib.hid (by simpa using hq)
    clear hc hu' hr hs
    go_enter Tryd.func45, Tryd.ntmps45
    go_wp2
    go_ret
    refine ⟨refBool ?_, 0, rfl⟩
    rw [HX.out]
    rcases xs.drop (k + 1) with _ | ⟨r, t⟩
    · rfl
    · rw [Fk.begins]; simp [HU.out]
end Go.Proofs.YtnpoipjnnlbnfaaDoor
