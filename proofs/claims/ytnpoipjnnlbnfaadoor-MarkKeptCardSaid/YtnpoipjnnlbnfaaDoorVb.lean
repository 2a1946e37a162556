/- A cursor over runes in plain words: what is ahead of it; what goes over runes. No conditions but that the list is not endless. -/
import Derived.Test.YtnpoipjnnlbnfaaDoorTb
import Derived.Test.YtnpoipjnnlbnfaaDoorCurune
import Derived.Deep.LoopGhost
namespace Go.Proofs.YtnpoipjnnlbnfaaDoor
set_option linter.unusedVariables false
open Go.RowKit Go.Proofs.Fm Go.Proofs.Fb Go.Proofs.Fk Go.Proofs.YtnpoipjnnlbnfaaDoor.Cu_rune

theorem own_below {w w' : World} {base : Nat} {e : TypeId} {size n : Nat} {v : Value} {xs : List Value} {B : Nat} (h : w.ownsRow base e size v n xs) (hb : Below B w w') (hl : ∀ g, v.ownBlock = some g → g < B) : w'.ownsRow base e size v n xs :=
  ⟨h.1, h.2.imp id (fun ⟨g, cap, cur, hv, hbase, hh, rest⟩ => ⟨g, cap, cur, hv, hbase, (hb.block g (hl g (by rw [hv]; rfl))).trans hh, rest⟩)⟩
/-- the cursor at block b has L ahead of it; it and its list lie below B -/
structure At (B : Nat) (w : World) (b : Nat) (L : List Int) : Prop where
  ex : ∃ base A n c k xs, Cur w base b A n c k xs ∧ xs.drop k = L ∧ n ≤ 16777216 ∧ (∀ x ∈ xs, -2147483648 ≤ x ∧ x ≤ 2147483647) ∧ 4 ≤ base ∧ b < B ∧ (∀ g, (Value.slice A n c).ownBlock = some g → g < B)
theorem At.drewN {B b : Nat} {w : World} {L : List Int} (h : At B w b L) (q : Nat) : At B (w.drewN q) b L := by
  obtain ⟨base, A, n, c, k, xs, h1, h2⟩ := h.ex
  exact ⟨base, A, n, c, k, xs, h1.drewN q, h2⟩
theorem At.below {B b : Nat} {w w' : World} {L : List Int} (h : At B w b L) {B' : Nat} (hb : Below B' w w') (hB : B ≤ B') : At B w' b L := by
  obtain ⟨base, A, n, c, k, xs, h1, h2, h3, h4, h5, h6, h7⟩ := h.ex
  exact ⟨base, A, n, c, k, xs, ⟨h1.blk.below hb (by omega), own_below h1.own hb (fun g hg => by have := h7 g hg; omega), h1.hb, h1.le⟩, h2, h3, h4, h5, h6, h7⟩
theorem At.mono {B B' b : Nat} {w : World} {L : List Int} (h : At B w b L) (hB : B ≤ B') : At B' w b L := by
  obtain ⟨base, A, n, c, k, xs, h1, h2, h3, h4, h5, h6, h7⟩ := h.ex
  exact ⟨base, A, n, c, k, xs, h1, h2, h3, h4, h5, by omega, fun g hg => by have := h7 g hg; omega⟩
theorem At.lt {B b : Nat} {w : World} {L : List Int} (h : At B w b L) : b < B ∧ 4 ≤ b := by
  obtain ⟨base, A, n, c, k, xs, h1, h2, h3, h4, h5, h6, h7⟩ := h.ex
  exact ⟨h6, by have := h1.hb; omega⟩
theorem At.len {B b : Nat} {w : World} {L : List Int} (h : At B w b L) : L.length ≤ 16777216 := by
  obtain ⟨base, A, n, c, k, xs, h1, rfl, h3, h4, h5, h6, h7⟩ := h.ex
  have := own_len h1.own
  rw [List.length_drop]; omega
theorem At.small {B b : Nat} {w : World} {L : List Int} (h : At B w b L) : ∀ x ∈ L, -2147483648 ≤ x ∧ x ≤ 2147483647 := by
  obtain ⟨base, A, n, c, k, xs, h1, rfl, h3, h4, h5, h6, h7⟩ := h.ex
  exact fun x hx => h4 x (List.mem_of_mem_drop hx)
theorem At.head {B b : Nat} {w : World} {r : Int} {t : List Int} (h : At B w b (r :: t)) : -2147483648 ≤ r ∧ r ≤ 2147483647 := h.small r (by simp)
theorem At.env {B b : Nat} {w w' : World} {L : List Int} (h : At B w b L) (he : Env w) (hB : B ≤ w.heap.size) (hg : w.grownBy w' (some b)) : Env w' :=
  he.below (grown_to_below hg h.lt.2 he.sz) (Nat.le_refl _)

/-- a new cursor over a list of runes -/
theorem new_cur (A : Option Addr) (n c : Nat) (xs : List Int) (hn : xs.length = n) {w : World} (hr : Row w .i32 A xs) (hx : n ≤ 16777216) (hs : ∀ x ∈ xs, -2147483648 ≤ x ∧ x ≤ 2147483647) (h4 : 4 ≤ w.heap.size) :
    Calls Tryd.prog 38 #[.slice A n c] w fun e w' => ∃ b, e = .returned (.pointer (some ⟨b, 0, none⟩)) ∧ At w'.heap.size w' b xs ∧ w.heap.size ≤ b ∧ Below w.heap.size w w' := by
  refine (new_any A n c xs hn w hr (by omega)).mono ?_
  rintro e w' ⟨b, A', c', rfl, hc, hb⟩
  exact ⟨b, rfl, ⟨w.heap.size, A', n, c', 0, xs, hc, rfl, hx, hs, h4, hc.blk.lt, fun g hg => (hc.own.lt g hg).2⟩, hc.hb, hb⟩
theorem left {B b : Nat} {w : World} {L : List Int} (h : At B w b L) :
    Calls Tryd.prog 60 #[.pointer (some ⟨b, 0, none⟩)] w fun e w' => e = .returned (.int .i64 (L.length : Int)) ∧ ∃ q, w.drewN q = w' := by
  obtain ⟨base, A, n, c, k, xs, h1, rfl, h3, h4, h5, h6, h7⟩ := h.ex
  have hl := own_len h1.own
  have hk := h1.le
  refine (left_any h1 (by omega)).mono ?_
  rintro e w' ⟨rfl, hq⟩
  refine ⟨ret_int ?_, hq⟩
  rw [List.length_drop]; omega
theorem peek {B b : Nat} {w : World} {L : List Int} (h : At B w b L) (i : Nat) :
    Calls Tryd.prog 61 #[.pointer (some ⟨b, 0, none⟩), .int .i64 i] w fun e w' => e = .returned (.tuple #[.int .i32 (L.getD i 0), .bool (decide (i < L.length))]) ∧ ∃ q, w.drewN q = w' := by
  obtain ⟨base, A, n, c, k, xs, h1, rfl, h3, h4, h5, h6, h7⟩ := h.ex
  have hl := own_len h1.own
  have hk := h1.le
  by_cases hi : k + i < n
  · refine (peek_yes h1 (by omega) i hi).mono ?_
    rintro e w' ⟨rfl, hq⟩
    refine ⟨?_, hq⟩
    rw [drop_getD, decide_eq_true (by rw [List.length_drop]; omega)]
  · refine (peek_no h1 (by omega) i (.inr (by omega))).mono ?_
    rintro e w' ⟨rfl, hq⟩
    refine ⟨?_, hq⟩
    have e1 : (xs.drop k).getD i 0 = 0 := by rw [List.getD_eq_getElem?_getD, List.getElem?_eq_none (by rw [List.length_drop]; omega)]; rfl
    rw [e1, decide_eq_false (by rw [List.length_drop]; omega)]
theorem next_some {B b : Nat} {w : World} {r : Int} {t : List Int} (h : At B w b (r :: t)) :
    Calls Tryd.prog 64 #[.pointer (some ⟨b, 0, none⟩)] w fun e w' => e = .returned (.tuple #[.int .i32 r, .bool true]) ∧ At B w' b t ∧ w.grownBy w' (some b) := by
  obtain ⟨base, A, n, c, k, xs, h1, h2, h3, h4, h5, h6, h7⟩ := h.ex
  have hl := own_len h1.own
  have hk : k < n := by
    have := congrArg List.length h2
    rw [List.length_drop, List.length_cons] at this
    omega
  refine (next_yes h1 (by omega) hk).mono ?_
  rintro e w' ⟨rfl, hc, q, rfl⟩
  have hd := drop_cons (xs := xs) (k := k) (by omega)
  rw [hd] at h2
  obtain ⟨e1, e2⟩ := List.cons.inj h2
  rw [e1]
  exact ⟨rfl, ⟨base, A, n, c, k + 1, xs, hc, e2, h3, h4, h5, h6, h7⟩, grown_set (grown_drewN (World.grownBy.refl w _) q) 1 _⟩
theorem next_none {B b : Nat} {w : World} (h : At B w b []) :
    Calls Tryd.prog 64 #[.pointer (some ⟨b, 0, none⟩)] w fun e w' => e = .returned (.tuple #[.int .i32 0, .bool false]) ∧ At B w' b [] ∧ w.grownBy w' (some b) := by
  obtain ⟨base, A, n, c, k, xs, h1, h2, h3, h4, h5, h6, h7⟩ := h.ex
  have hl := own_len h1.own
  have hk := h1.le
  have hk2 : k = n := by
    have := congrArg List.length h2
    rw [List.length_drop, List.length_nil] at this
    omega
  refine (next_no h1 (by omega) hk2).mono ?_
  rintro e w' ⟨rfl, q, rfl⟩
  exact ⟨rfl, ⟨base, A, n, c, k, xs, h1.drewN q, h2, h3, h4, h5, h6, h7⟩, grown_drewN (World.grownBy.refl w _) q⟩
/-- one rune on, if there is one -/
theorem next {B b : Nat} {w : World} {L : List Int} (h : At B w b L) :
    Calls Tryd.prog 64 #[.pointer (some ⟨b, 0, none⟩)] w fun e w' => e = .returned (.tuple #[.int .i32 (L.getD 0 0), .bool (decide (0 < L.length))]) ∧ At B w' b (L.drop 1) ∧ w.grownBy w' (some b) := by
  rcases L with _ | ⟨r, t⟩
  · exact next_none h
  · exact next_some h

/-! ### follows, goOver, goBehind -/
def noZero (s : ByteArray) : Prop := ∀ x ∈ numsOf s, x ≠ 0
theorem nums_getD {s : ByteArray} {i : Nat} (h : i < s.size) : (numsOf s).getD i 0 = ((s[i]'h).toNat : Int) := by
  have h' : i < s.data.size := h
  simp only [numsOf, List.getD_eq_getElem?_getD, List.getElem?_map, Array.getElem?_toList, Array.getElem?_eq_getElem h', Option.map_some, Option.getD_some]
  rfl
set_option maxHeartbeats 1000000 in
theorem follows_any {B b : Nat} {w : World} {L : List Int} (h : At B w b L) (s : ByteArray) (hs : s.size ≤ 1000) (hz : noZero s) :
    Calls Tryd.prog 62 #[.pointer (some ⟨b, 0, none⟩), .string s] w fun e w' => e = .returned (.bool (decide (numsOf s <+: L))) ∧ ∃ q, w.drewN q = w' := by
  have HZ := Lib.hid hz
  clear hz
  go_enter Tryd.func62, Tryd.ntmps62
  go_wp2
  go_loopw [10] (fun i wr => ∃ k q : Nat, k ≤ s.size ∧ i = .int .i64 k ∧ Hid (∀ j, j < k → L.getD j 0 = (numsOf s).getD j 0) ∧ wr = w.drewN q) (fun i _ => s.size - (intOf i).toNat)
  case atStart => exact ⟨0, 0, Nat.zero_le _, rfl, fun j hj => by omega, rfl⟩
  case round =>
    obtain ⟨k, q, hk, rfl, ht, rfl⟩ := hrel
    by_cases hlt : k < s.size
    · have HP := Lib.hid (peek (h.drewN q) k)
      have hb := Lib.hid (nums_getD hlt)
      have hu := (s[k]'hlt).toNat_lt
      obtain ⟨u, hu'⟩ : ∃ u, L.getD k 0 = u := ⟨_, rfl⟩
      rw [hu'] at HP
      have HU := Lib.hid hu'
      clear hu'
      go_wp2_with (go_at_call 61; refine (HP.out).mono ?_; rintro e w1 ⟨rfl, q1, rfl⟩)
      · have hne : (u != ((s[k]'hlt).toNat : Int)) = true := by assumption
        go_ret
        refine ⟨?_, q + q1, rfl⟩
        rw [decide_eq_false (prefix_no HZ.out (i := k) (by rw [numsOf_length]; exact hlt) (by rw [HU.out, hb.out]; simpa using hne))]; rfl
      · have he : (u != ((s[k]'hlt).toNat : Int)) = false := by assumption
        go_roundw
        case rel =>
          refine ⟨k + 1, q + q1, by omega, by go_num, ?_, rfl⟩
          intro j hj
          by_cases hjk : j = k
          · subst hjk; rw [HU.out, hb.out]; simpa using he
          · exact ht.out j (by omega)
        case measure => simp [intOf]; omega
    · have hke : k = s.size := by omega
      subst hke
      go_wp2
      go_ret
      refine ⟨?_, q, rfl⟩
      rw [decide_eq_true ((prefix_iff _ _ HZ.out).2 (fun i hi => ht.out i (by rwa [numsOf_length] at hi)))]; rfl

/-- a number of runes gone over -/
theorem go_over {B b : Nat} {w : World} {L : List Int} (h : At B w b L) (hB : B ≤ w.heap.size) (n : Nat) (hn : n ≤ 1000) :
    Calls Tryd.prog 41 #[.pointer (some ⟨b, 0, none⟩), .int .i64 n] w fun e w' => e = .returned (.tuple #[]) ∧ At B w' b (L.drop n) ∧ w.grownBy w' (some b) := by
  go_enter Tryd.func41, Tryd.ntmps41
  go_wp2
  go_loopw [5] (fun i wr => ∃ k : Nat, k ≤ n ∧ i = .int .i64 k ∧ At B wr b (L.drop k) ∧ w.grownBy wr (some b)) (fun i _ => n - (intOf i).toNat)
  case atStart => exact ⟨0, Nat.zero_le _, rfl, h, World.grownBy.refl w _⟩
  case round =>
    obtain ⟨k, hk, rfl, ha, hg⟩ := hrel
    by_cases hlt : k < n
    · have HN := Lib.hid (next ha)
      have HG := Lib.hid hg
      clear ha hg
      go_wp2_with (go_at_call 64; refine (HN.out).mono ?_; rintro e w1 ⟨rfl, ha1, hg1⟩)
      go_roundw
      case rel =>
        refine ⟨k + 1, by omega, by go_num, ?_, grown_trans HG.out hg1⟩
        rw [List.drop_drop] at ha1
        exact ha1
      case measure => simp [intOf]; omega
    · have hke : k = n := by omega
      subst hke
      go_wp2
      go_end0
      exact ⟨rfl, ha, hg⟩
theorem behind_no {p : List Int} {r : Int} {t : List Int} (h : ¬ p <+: r :: t) : behind p (r :: t) = behind p t := by rw [behind, if_neg h]
theorem behind_yes {p L : List Int} (h : p <+: L) (hp : p ≠ []) : behind p L = L.drop p.length := by
  rcases L with _ | ⟨r, t⟩
  · exact absurd (List.prefix_nil.1 h) hp
  · rw [behind, if_pos h]
/-- all gone over up to and with a text, or to the end -/
theorem go_behind {B b : Nat} {w : World} {L : List Int} (h : At B w b L) (hB : B ≤ w.heap.size) (s : ByteArray) (hs : s.size ≤ 1000) (hz : noZero s) (hne : numsOf s ≠ []) :
    Calls Tryd.prog 44 #[.pointer (some ⟨b, 0, none⟩), .string s] w fun e w' => e = .returned (.tuple #[]) ∧ At B w' b (behind (numsOf s) L) ∧ w.grownBy w' (some b) := by
  have HZ := Lib.hid hz
  have HNE := Lib.hid hne
  clear hz hne
  go_enter Tryd.func44, Tryd.ntmps44
  go_wp2
  go_loopg [] L.length (fun gk wr => ∃ R, R.length = gk ∧ At B wr b R ∧ w.grownBy wr (some b) ∧ Hid (behind (numsOf s) R = behind (numsOf s) L))
  case atStart => exact ⟨L, rfl, h, World.grownBy.refl w _, rfl⟩
  case round =>
    obtain ⟨R, hR, ha, hg, hbe⟩ := hrel
    have HL := Lib.hid (left ha)
    have HF := Lib.hid (fun q => follows_any (ha.drewN q) s hs HZ.out)
    have HG := Lib.hid hg
    have hBw : B ≤ wr.heap.size := Nat.le_trans hB hg.size
    rcases R with _ | ⟨r, t⟩
    · have HA := Lib.hid ha
      clear ha hg
      obtain rfl : 0 = gk := hR
      go_wp2_with (first
        | (go_at_call 60; refine (HL.out).mono ?_; rintro e w1 ⟨rfl, q, rfl⟩)
        | (go_at_call 41; refine (go_over (HA.out.drewN _) hBw s.size hs).mono ?_; rintro e w2 ⟨rfl, ha2, hg2⟩))
      go_end0
      refine ⟨rfl, ?_, grown_trans HG.out (grown_trans (grown_drewN (World.grownBy.refl _ _) _) hg2)⟩
      rw [← hbe.out]
      simpa [behind] using ha2
    · have hl : (0 : Int) < (gk : Int) := by rw [← hR]; simp
      rw [hR] at HL
      have HA := Lib.hid ha
      clear ha hg
      by_cases hp : numsOf s <+: r :: t
      · have hd : decide (numsOf s <+: r :: t) = true := decide_eq_true hp
        rw [hd] at HF
        go_wp2_with (first
          | (go_at_call 60; refine (HL.out).mono ?_; rintro e w1 ⟨rfl, q, rfl⟩)
          | (go_at_call 62; refine (HF.out _).mono ?_; rintro e w1 ⟨rfl, q2, rfl⟩)
          | (go_at_call 41; refine (go_over (HA.out.drewN _) hBw s.size hs).mono ?_; rintro e w2 ⟨rfl, ha2, hg2⟩))
        go_end0
        refine ⟨rfl, ?_, grown_trans HG.out (grown_trans (grown_drewN (World.grownBy.refl _ _) _) hg2)⟩
        rw [← hbe.out, behind_yes hp HNE.out, numsOf_length]
        exact ha2
      · have hd : decide (numsOf s <+: r :: t) = false := decide_eq_false hp
        rw [hd] at HF
        go_wp2_with (first
          | (go_at_call 60; refine (HL.out).mono ?_; rintro e w1 ⟨rfl, q, rfl⟩)
          | (go_at_call 62; refine (HF.out _).mono ?_; rintro e w1 ⟨rfl, q2, rfl⟩)
          | (go_at_call 64; refine (next_some (HA.out.drewN _)).mono ?_; rintro e w2 ⟨rfl, ha2, hg2⟩))
        go_roundg t.length
        case measure => simp at hR; omega
        case rel => exact ⟨t, rfl, ha2, grown_trans HG.out (grown_trans (grown_drewN (World.grownBy.refl _ _) _) hg2), by rw [← behind_no hp]; exact hbe.out⟩
end Go.Proofs.YtnpoipjnnlbnfaaDoor
