/- SourceKept: the law's walk. No conditions but the argument's own. -/
import Derived.Test.YteoclmmooeibhaaKn
import Derived.Test.YteoclmmooeibhaaBApartrune
namespace Go.Proofs.Yteoclmmooeibhaa
set_option linter.unusedVariables false
open Go.RowKit Go.Proofs.Fm Go.Proofs.Fb Go.Proofs.Fu

theorem below_grown {w w' : World} (h : Below w.heap.size w w') : w.grownBy w' none := ⟨h.os, h.tape, h.output, h.size, fun k hk _ => h.block k hk⟩
theorem book_kept {w w' : World} {base bk : Nat} {v1 v2 : Value} {vs us : List Kept} {held : Int} (h : BookAt w base bk 21 22 44 .i32 v1 v2 vs us held) (hb : Below w.heap.size w w') : BookAt w' base bk 21 22 44 .i32 v1 v2 vs us held := by
  have hg := below_grown hb
  have hn : ∀ v : Value, v.ownBlock = none ∨ v.ownBlock ≠ none := fun v => by rcases v.ownBlock with _ | _ <;> simp
  exact ⟨h.blk.grown hg (by simp), h.hbase, h.o1.kept hg (hn _), h.o2.kept hg (hn _), h.ne, fun p hp => (h.k1 p hp).grown hg (hn _), fun p hp => (h.k2 p hp).grown hg (hn _), h.same, h.apart⟩
/-- a list with spare room, in a block of its own, is owned -/
theorem own_of_room {w : World} {base g n c : Nat} {xs zs : List Int} (h : IB w g 21 .i32 (xs ++ zs)) (hg : base ≤ g) (hn : xs.length = n) (hc : n + zs.length = c) (hm : c ≤ maxLen) : OwnI w base 21 .i32 (.slice (some ⟨g, 0, none⟩) n c, xs) := by
  subst hn
  refine ⟨by simp, .inr ⟨g, c, _, rfl, hg, h, (by show xs.length ≤ c; omega), hm, by simp; omega, ?_⟩⟩
  simp
theorem book_new (w : World) : BookAt (w.alloc (.cells #[.slice none 0 0, .slice none 0 0, .int .i64 0, .bool false] 44)) w.heap.size w.heap.size 21 22 44 .i32 (.slice none 0 0) (.slice none 0 0) [] [] 0 :=
  ⟨heap_alloc_new w _, Nat.le_refl _, World.ownsRow_nil _ _ _ _, World.ownsRow_nil _ _ _ _, .inl rfl, by simp, by simp, rfl, List.Pairwise.nil⟩
theorem runes_mark (i j : Nat) (w : World) (hi : i ≤ 4000) (hj : j ≤ 17592186044416) : Calls Try.prog 21 #[.int .i64 i, .int .i64 j] w fun e w' => e = .returned (.int .i32 (-1000 - (i : Int))) ∧ w = w' := by
  go_enter Try.func21, Try.ntmps21
  go_wp2
  go_ret
  exact ⟨ret_int (by go_num), rfl⟩

set_option maxRecDepth 1000000 in
set_option maxHeartbeats 4000000 in
theorem kept_small (w : World) (A : Option Addr) (n cap : Nat) (xs : List Int) (ha : Row w .u8 A xs) (hn : xs.length = n) (hx : n ≤ 500) :
    Calls Try.prog 7 #[.slice A n cap] w fun e w' => e = .returned (.bool true) ∧ Below w.heap.size w w' := by
  have HN := Lib.hid hn
  have HA := Lib.hid ha
  have h1 : ¬ ((500 : Int) < (n : Int)) := by omega
  clear hn ha
  have hl := dec_length xs
  have HD := Lib.hid hl
  clear hl
  go_enter Try.func7, Try.ntmps7
  go_wp2
  have hB0 := book_new w
  have hb0 : Below w.heap.size w (w.alloc (.cells #[.slice none 0 0, .slice none 0 0, .int .i64 0, .bool false] 44)) := (Below.refl _ _).alloc (Nat.le_refl _) _
  generalize w.alloc (.cells #[.slice none 0 0, .slice none 0 0, .int .i64 0, .bool false] 44) = W0 at *
  go_loopw [4] (fun i wr => ∃ (k : Nat) (v1 v2 : Value) (vs us : List Kept), k ≤ 2 ∧ i = .int .i64 k ∧ BookAt wr w.heap.size w.heap.size 21 22 44 .i32 v1 v2 vs us ((k * (n + 1) : Nat) : Int) ∧ vs.length = k ∧ (∀ p ∈ vs, ∃ g, p = (.slice (some ⟨g, 0, none⟩) (dec xs).length n, dec xs)) ∧ Below w.heap.size w wr) (fun i _ => 2 - (intOf i).toNat)
  case atStart => exact ⟨0, _, _, [], [], by omega, rfl, by simpa using hB0, rfl, by simp, hb0⟩
  case round =>
    obtain ⟨k, v1, v2, vs, us, hk, rfl, hB, hvl, hvs, hb⟩ := hrel
    have HB := Lib.hid hB
    have HBW := Lib.hid hb
    have HVS := Lib.hid hvs
    have HVL := Lib.hid hvl
    by_cases hlt : k < 2
    · have i1 : (k : Int) < 2 := by omega
      have hk2 : k * (n + 1) ≤ 1002 := Nat.le_trans (Nat.mul_le_mul (show k ≤ 2 by omega) (show n + 1 ≤ 501 by omega)) (by omega)
      have hnx : (((k + 1) * (n + 1) : Nat) : Int) = ((k * (n + 1) : Nat) : Int) + (n : Int) + 1 := by rw [Nat.succ_mul]; omega
      clear hB hb hvs hvl
      go_wp2_with (first
        | (go_at_call 8; refine (decode_any A n cap xs HN.out wr (HA.out.below HBW.out (Nat.le_refl _)) (by omega)).mono ?_; rintro e w1 ⟨zs, rfl, hI1, hz1, hb1⟩; have HO1 := Lib.hid (own_of_room (base := w.heap.size) hI1 HBW.out.size rfl hz1 (by unfold maxLen; omega)); have HB1 := Lib.hid (book_kept HB.out hb1); have HC1 := Lib.hid (HBW.out.trans (hb1.mono HBW.out.size)); clear hI1 hb1))
      refine (B_rune.keep_any w1 w.heap.size w.heap.size v1 v2 vs us _ (some ⟨wr.heap.size, 0, none⟩) (dec xs).length n (dec xs) HB1.out HO1.out rfl (by omega) (fun p hp => Or.inr (fun e => Nat.lt_irrefl _ ((HB.out.k1 p hp).lt _ e).2)) (by rw [HVL.out]; omega) (by omega) (by omega) HC1.out.size).mono ?_
      rintro e w2 ⟨rfl, v3, v4, u5, hB2, hb2⟩
      have HB2 := Lib.hid hB2
      have HC2 := Lib.hid (HC1.out.trans hb2)
      clear hB2 hb2
      go_wp2
      go_roundw
      case rel =>
        refine ⟨k + 1, v3, v4, _, _, by omega, by go_num, by rw [hnx]; exact HB2.out, by simp [HVL.out], ?_, HC2.out⟩
        intro p hp
        rcases List.mem_append.1 hp with hp | hp
        · exact HVS.out p hp
        · exact ⟨_, List.mem_singleton.1 hp⟩
      case measure => simp [intOf]; omega
    · have hke : k = 2 := by omega
      subst hke
      clear hB hb hvs hvl
      go_wp2_with fail
      refine (B_rune.apart_any (fun i => -1000 - (i : Int)) (fun i j w h1 h2 => runes_mark i j w h1 h2) wr w.heap.size w.heap.size v1 v2 vs us _ HB.out (by rw [HVL.out]; omega) (fun p hp => by
              obtain ⟨g, rfl⟩ := HVS.out p hp
              have := HD.out
              have h3 := HN.out
              show (dec xs).length ≤ _
              omega) HBW.out.size (fun A' n' c' xs' hp => by
              obtain ⟨g, e⟩ := HVS.out _ hp
              injection e with e _
              injection e with _ _ e3
              omega)).mono ?_
      rintro e w5 ⟨rfl, hb5⟩
      have HC5 := Lib.hid (HBW.out.trans hb5)
      clear hb5
      go_wp2_with (go_at_call 14; refine (known_any _).mono ?_; rintro e w6 ⟨rfl, hb6⟩)
      go_ret
      exact ⟨rfl, HC5.out.trans (hb6.mono HC5.out.size)⟩

set_option maxRecDepth 1000000 in
set_option maxHeartbeats 4000000 in
theorem kept_large (w : World) (A : Option Addr) (n cap : Nat) (xs : List Int) (ha : Row w .u8 A xs) (hn : xs.length = n) (hx : 500 < n) (hcp : n ≤ cap) :
    Calls Try.prog 7 #[.slice A n cap] w fun e w' => e = .returned (.bool true) ∧ Below w.heap.size w w' := by
  obtain ⟨ys, hy, hz⟩ : ∃ ys : List Int, ys.length = 500 ∧ Row w .u8 A ys := ⟨xs.take 500, by simp; omega, ha.take 500⟩
  have HN := Lib.hid hy
  have HA := Lib.hid hz
  have h1 : (500 : Int) < (n : Int) := by omega
  have h2 : 500 ≤ cap := by omega
  clear hn ha hy hz
  have hl := dec_length ys
  have HD := Lib.hid hl
  clear hl
  go_enter Try.func7, Try.ntmps7
  go_wp2
  have hB0 := book_new w
  have hb0 : Below w.heap.size w (w.alloc (.cells #[.slice none 0 0, .slice none 0 0, .int .i64 0, .bool false] 44)) := (Below.refl _ _).alloc (Nat.le_refl _) _
  generalize w.alloc (.cells #[.slice none 0 0, .slice none 0 0, .int .i64 0, .bool false] 44) = W0 at *
  go_loopw [4] (fun i wr => ∃ (k : Nat) (v1 v2 : Value) (vs us : List Kept), k ≤ 2 ∧ i = .int .i64 k ∧ BookAt wr w.heap.size w.heap.size 21 22 44 .i32 v1 v2 vs us ((k * (500 + 1) : Nat) : Int) ∧ vs.length = k ∧ (∀ p ∈ vs, ∃ g, p = (.slice (some ⟨g, 0, none⟩) (dec ys).length 500, dec ys)) ∧ Below w.heap.size w wr) (fun i _ => 2 - (intOf i).toNat)
  case atStart => exact ⟨0, _, _, [], [], by omega, rfl, by simpa using hB0, rfl, by simp, hb0⟩
  case round =>
    obtain ⟨k, v1, v2, vs, us, hk, rfl, hB, hvl, hvs, hb⟩ := hrel
    have HB := Lib.hid hB
    have HBW := Lib.hid hb
    have HVS := Lib.hid hvs
    have HVL := Lib.hid hvl
    by_cases hlt : k < 2
    · have i1 : (k : Int) < 2 := by omega
      have hk2 : k * (500 + 1) ≤ 1002 := Nat.le_trans (Nat.mul_le_mul (show k ≤ 2 by omega) (show 500 + 1 ≤ 501 by omega)) (by omega)
      have hnx : (((k + 1) * (500 + 1) : Nat) : Int) = ((k * (500 + 1) : Nat) : Int) + (500 : Int) + 1 := by rw [Nat.succ_mul]; omega
      clear hB hb hvs hvl
      go_wp2_with (first
        | (go_at_call 8; refine (decode_any A 500 cap ys HN.out wr (HA.out.below HBW.out (Nat.le_refl _)) (by omega)).mono ?_; rintro e w1 ⟨zs, rfl, hI1, hz1, hb1⟩; have HO1 := Lib.hid (own_of_room (base := w.heap.size) hI1 HBW.out.size rfl hz1 (by unfold maxLen; omega)); have HB1 := Lib.hid (book_kept HB.out hb1); have HC1 := Lib.hid (HBW.out.trans (hb1.mono HBW.out.size)); clear hI1 hb1))
      refine (B_rune.keep_any w1 w.heap.size w.heap.size v1 v2 vs us _ (some ⟨wr.heap.size, 0, none⟩) (dec ys).length 500 (dec ys) HB1.out HO1.out rfl (by omega) (fun p hp => Or.inr (fun e => Nat.lt_irrefl _ ((HB.out.k1 p hp).lt _ e).2)) (by rw [HVL.out]; omega) (by omega) (by omega) HC1.out.size).mono ?_
      rintro e w2 ⟨rfl, v3, v4, u5, hB2, hb2⟩
      have HB2 := Lib.hid hB2
      have HC2 := Lib.hid (HC1.out.trans hb2)
      clear hB2 hb2
      go_wp2
      go_roundw
      case rel =>
        refine ⟨k + 1, v3, v4, _, _, by omega, by go_num, by rw [hnx]; exact HB2.out, by simp [HVL.out], ?_, HC2.out⟩
        intro p hp
        rcases List.mem_append.1 hp with hp | hp
        · exact HVS.out p hp
        · exact ⟨_, List.mem_singleton.1 hp⟩
      case measure => simp [intOf]; omega
    · have hke : k = 2 := by omega
      subst hke
      clear hB hb hvs hvl
      go_wp2_with fail
      refine (B_rune.apart_any (fun i => -1000 - (i : Int)) (fun i j w h1 h2 => runes_mark i j w h1 h2) wr w.heap.size w.heap.size v1 v2 vs us _ HB.out (by rw [HVL.out]; omega) (fun p hp => by
              obtain ⟨g, rfl⟩ := HVS.out p hp
              have := HD.out
              have h3 := HN.out
              show (dec ys).length ≤ _
              omega) HBW.out.size (fun A' n' c' xs' hp => by
              obtain ⟨g, e⟩ := HVS.out _ hp
              injection e with e _
              injection e with _ _ e3
              omega)).mono ?_
      rintro e w5 ⟨rfl, hb5⟩
      have HC5 := Lib.hid (HBW.out.trans hb5)
      clear hb5
      go_wp2_with (go_at_call 14; refine (known_any _).mono ?_; rintro e w6 ⟨rfl, hb6⟩)
      go_ret
      exact ⟨rfl, HC5.out.trans (hb6.mono HC5.out.size)⟩

theorem kept_walk (w : World) (A : Option Addr) (n c : Nat) (xs : List Int) (ha : Row w .u8 A xs) (hn : xs.length = n) (hw : ∀ x ∈ xs, (Lit.int .u8 x).wf = true) (hb : n * Try.prog.bytesOf 5 ≤ 140737488351232) (hc : n ≤ c) :
    Calls Try.prog 7 #[.slice A n c] w fun e w' => e = .returned (.bool true) ∧ Below w.heap.size w w' := by
  by_cases h : n ≤ 500
  · exact kept_small w A n c xs ha hn h
  · exact kept_large w A n c xs ha hn (by omega) hc
end Go.Proofs.Yteoclmmooeibhaa
