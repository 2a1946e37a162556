/- The document's own way to decode: the same runes. No conditions. -/
import Derived.Test.YteoclmmooeibhaaDc
namespace Go.Proofs.Yteoclmmooeibhaa
set_option linter.unusedVariables false
open Go.RowKit Go.Proofs.Fm Go.Proofs.Fb Go.Proofs.Fu

theorem grown_size {W w' : World} {o : Obj} {row : Option Nat} (h : (W.alloc o).grownBy w' row) : W.heap.size ≤ w'.heap.size := by
  have := h.size; simp at this; omega
def ints (rs : List Nat) : List Int := rs.map (fun r : Nat => (r : Int))
theorem ints_length (rs : List Nat) : (ints rs).length = rs.length := by simp [ints]
theorem ints_getD (rs : List Nat) (k : Nat) : (ints rs).getD k 0 = ((rs.getD k 0 : Nat) : Int) := by
  unfold ints
  rw [List.getD_eq_getElem?_getD, List.getD_eq_getElem?_getD, List.getElem?_map]
  cases rs[k]? <;> rfl
theorem drop_at {rs : List Nat} {k : Nat} (h : k < rs.length) : rs.drop k = rs.getD k 0 :: rs.drop (k + 1) := by
  rw [List.drop_eq_getElem_cons h, List.getD_eq_getElem?_getD, List.getElem?_eq_getElem h]; rfl
theorem row_one (w : World) (k : IntKind) (x : Int) (t : TypeId) : Row (w.alloc (.cells #[.int k x] t)) k (some ⟨w.heap.size, 0, none⟩) [x] := by
  intro _
  refine ⟨_, 0, rfl, fun j hj => ?_⟩
  have hj0 : j = 0 := by simp at hj; omega
  subst hj0
  exact new_cell w _ t
/-- the world behind one append onto an owned list -/
theorem own_world {w W w' : World} {B : Nat} {e : TypeId} {n : Nat} {v : Value} {xs : List Value} {o : Obj} (hb : Below B w W) (hB : B ≤ W.heap.size) (ho : W.ownsRow B e 1 v n xs) (hgr : (W.alloc o).grownBy w' v.ownBlock) : Below B w w' :=
  (hb.alloc hB o).grown hgr (by simp; omega) (fun k hk => (ho.lt k hk).1)
theorem own_iter {W w' : World} {B j pos : Nat} {e : TypeId} {n : Nat} {v : Value} {xs : List Value} {o : Obj} {s : ByteArray} (hit : W.heap[j]? = some (.stringIter s pos)) (ho : W.ownsRow B e 1 v n xs) (hgr : (W.alloc o).grownBy w' v.ownBlock) :
    w'.heap[j]? = some (.stringIter s pos) := by
  have hlt : j < W.heap.size := (Array.getElem?_eq_some_iff.1 hit).1
  refine (hgr.block j (by simp; omega) ?_).trans ((Below.heap_alloc W o j hlt).trans hit)
  rcases ho.2 with ⟨rfl, _⟩ | ⟨g', cap, cur, rfl, _, hh, _⟩
  · simp [Value.ownBlock]
  · intro he
    have : j = g' := by simpa [Value.ownBlock] using he
    subst this
    rw [hh] at hit; cases hit
theorem own_iterAt {w : World} {base j pos pos' : Nat} {e : TypeId} {size n : Nat} {v : Value} {xs : List Value} {s : ByteArray} (h : w.ownsRow base e size v n xs) (hk : w.heap[j]? = some (.stringIter s pos)) : (w.iterAt j s pos').ownsRow base e size v n xs := by
  refine ⟨h.1, ?_⟩
  rcases h.2 with hn | ⟨g, cap, cur, rfl, hb, hg, rest⟩
  · exact .inl hn
  · refine .inr ⟨g, cap, cur, rfl, hb, ?_, rest⟩
    rw [Lib.iterAt_other w j g s pos' (fun e => by subst e; rw [hg] at hk; cases hk)]
    exact hg

set_option maxRecDepth 1000000 in
set_option maxHeartbeats 4000000 in
theorem ref_any (A : Option Addr) (n c : Nat) (xs : List Int) (hn : xs.length = n) (w : World) (ha : Row w .u8 A xs) (hx : n ≤ 65536) :
    Calls Try.prog 18 #[.slice A n c] w fun e w' => ∃ A' c', e = .returned (.slice A' (dec xs).length c') ∧ Row w' .i32 A' (dec xs) ∧ Below w.heap.size w w' := by
  obtain ⟨i0, hi0, hz0, hs0, hb0⟩ := info_parts Try.runeInfo
  have HN := Lib.hid hn
  have hcv : ∀ dst, Try.prog.underlying dst = some .string → (convert 26 dst (.slice A n c)).run Try.prog w = .ok (.string (strOfNums xs)) w :=
    run_text w 26 5 Try.underlying26 Try.underlying5 A n c xs hn ha
  have hcv1 := hcv 9 Try.underlying9
  have hss : (strOfNums xs).size = n := by rw [strOfNums_size, hn]
  have hit := World.iter_heap w (strOfNums xs) 0
  have hB1 : Below w.heap.size w (w.iter (strOfNums xs) 0) := (Below.refl _ w).alloc (by omega) _
  have HS := Lib.hid hs0
  have HZ := Lib.hid hz0
  have HB := Lib.hid hb0
  clear hs0 hz0 hb0 hcv
  go_enter Try.func18, Try.ntmps18
  go_wp2
  obtain ⟨j, hj⟩ : ∃ j, w.heap.size = j := ⟨_, rfl⟩
  rw [hj] at hit hB1 ⊢
  clear ha
  go_loopw [3] (fun v wr => ∃ (pos : Nat) (acc : List Nat), wr.ownsRow j 21 1 v acc.length ((ints acc).map (Value.int .i32)) ∧ acc.length ≤ pos ∧ pos ≤ n ∧ j < wr.heap.size ∧
      wr.heap[j]? = some (.stringIter (strOfNums xs) pos) ∧ Below j w wr ∧ Hid (acc ++ runesB ((bytesOf xs).drop pos) = runesB (bytesOf xs))) (fun _ wr => n - wr.iterPos j)
  case atStart => exact ⟨0, [], World.ownsRow_nil _ _ _ _, by simp, by omega, (Array.getElem?_eq_some_iff.1 hit).1, hit, hB1, rfl⟩
  case round =>
    obtain ⟨pos, acc, ho, hap, hpn, hjw, hit, hbw, hac⟩ := hrel
    by_cases hp : pos < n
    · have hnx : ∀ ty, (Instr.next (.pointer (some ⟨j, 0, none⟩)) true ty).run Try.prog wr = _ := fun ty => Lib.run_next_any_at wr j (strOfNums xs) pos ty hit (by omega)
      have hd1 := width_ge xs pos
      have hd2 := width_le xs pos (by omega)
      have hr1 := rune_small xs pos
      have hst := Lib.hid (runes_at xs pos (by omega))
      have HO2 := Lib.hid (own_iterAt (pos' := pos + (Utf8.decode (strOfNums xs) pos).2) ho hit)
      have HIT2 := Lib.hid (Lib.iterAt_heap wr j (strOfNums xs) pos (pos + (Utf8.decode (strOfNums xs) pos).2) hit)
      have HB2 := Lib.hid (Lib.below_iterAt hbw (k := j) (by omega) (strOfNums xs) (pos + (Utf8.decode (strOfNums xs) pos).2))
      obtain ⟨W, hW⟩ : ∃ W, wr.iterAt j (strOfNums xs) (pos + (Utf8.decode (strOfNums xs) pos).2) = W := ⟨_, rfl⟩
      rw [hW] at hnx HO2 HIT2 HB2
      clear hW
      obtain ⟨r, hr⟩ : ∃ r, (Utf8.decode (strOfNums xs) pos).1 = r := ⟨_, rfl⟩
      obtain ⟨d, hd⟩ : ∃ d, (Utf8.decode (strOfNums xs) pos).2 = d := ⟨_, rfl⟩
      rw [hr] at hnx hr1 hst
      rw [hd] at hd1 hd2 hst HIT2
      clear hr hd ho hbw
      have hjW : j < W.heap.size := (Array.getElem?_eq_some_iff.1 HIT2.out).1
      go_wp2_with (refine wpList_append_ints rfl (.tmp 14) (.tmp 16) 22 rfl j 21 .i32 i0 4 Try.underlying22 hi0 HZ.out HS.out HB.out _ acc.length (ints acc) rfl (HO2.out.alloc _) (some ⟨W.heap.size, 0, none⟩) 1 1 [(r : Int)] rfl rfl (row_one W .i32 _ 21) (by simp) (by simp [maxLen]; omega) (by omega) (by simp; omega) ?_; intro A3 c3 W2 hO3 hg3 hat3; have HO3 := Lib.hid hO3; have HIT3 := Lib.hid (own_iter HIT2.out HO2.out hg3); have HB3 := Lib.hid (own_world HB2.out (by omega) HO2.out hg3); clear hO3 hg3 hat3)
      go_roundw
      case rel =>
        refine ⟨pos + d, acc ++ [r], ?_, by simp; omega, by omega, (Array.getElem?_eq_some_iff.1 HIT3.out).1, HIT3.out, HB3.out, ?_⟩
        · have := HO3.out
          simpa [ints] using this
        · have hh := hac.out
          rw [hst.out] at hh
          show _ = _
          rw [← hh]; simp
      case measure => simp [World.iterPos, HIT3.out, hit]; omega
    · have hnx : ∀ ty, (Instr.next (.pointer (some ⟨j, 0, none⟩)) true ty).run Try.prog wr = _ := fun ty => Lib.run_next_end_at wr j (strOfNums xs) pos ty hit (by omega)
      have hh := hac.out
      rw [runes_over xs pos (by omega), List.append_nil] at hh
      have hal : acc.length ≤ 65536 := by omega
      have hdec : dec xs = clean false acc := by rw [hh]; rfl
      obtain ⟨A0, c0, hv, _, _⟩ := own_slice ho
      subst hv
      have hraw := own_row ho
      have HDE := Lib.hid hdec
      clear hh hac hdec hit hB1 HN hss ho
      go_wp2
      obtain ⟨B2, hB2⟩ : ∃ B2, wr.heap.size = B2 := ⟨_, rfl⟩
      obtain ⟨wm, hwm⟩ : ∃ wm, wr = wm := ⟨_, rfl⟩
      rw [hwm] at hraw hbw hB2 hjw ⊢
      clear hnx hwm
      go_loopw [6, 7] (fun v i wr => ∃ (k : Nat) (out : List Int), k ≤ acc.length ∧ i = .int .i64 k ∧ wr.ownsRow B2 21 1 v out.length (out.map (Value.int .i32)) ∧ out.length ≤ k ∧ B2 ≤ wr.heap.size ∧ Below B2 wm wr ∧ Hid (out ++ clean false (acc.drop k) = clean false acc)) (fun _ i _ => acc.length - (intOf i).toNat)
      case atStart => exact ⟨0, [], by omega, rfl, World.ownsRow_nil _ _ _ _, by simp, by omega, Below.refl _ _, rfl⟩
      case round =>
        obtain ⟨k, out, hk, rfl, ho, hok, hsz, hb2, hac⟩ := hrel
        have HO := Lib.hid ho
        have HB2 := Lib.hid hb2
        by_cases hlt : k < acc.length
        · obtain ⟨b, off, rfl, hc⟩ := hraw.at_ (i := k) (by rw [ints_length]; exact hlt)
          have HC : Hid (∀ W, Below B2 wm W → ∀ i, i < acc.length → W.cell? ⟨b, off + i, none⟩ = some (.int .i32 ((acc.getD i 0 : Nat) : Int))) := fun W hW i hi => by
            have h1 := hc i (by rw [ints_length]; exact hi)
            rw [ints_getD] at h1
            have h2 : b < wm.heap.size := World.block_lt_of_cell? _ _ h1
            rw [hW.cell (show b < B2 by omega)]
            exact h1
          have hst := Lib.hid (drop_at hlt)
          have g1 := HC.out wr hb2 k hlt
          have i1 : (k : Int) < (acc.length : Int) := by omega
          clear hc hraw ho hb2
          obtain ⟨r, hr⟩ : ∃ r, acc.getD k 0 = r := ⟨_, rfl⟩
          rw [hr] at g1 hst
          have HR := Lib.hid hr
          clear hr
          by_cases c1 : r = 13
          · subst c1
            by_cases hl2 : k + 1 < acc.length
            · have hst2 := Lib.hid (drop_at hl2)
              have i2 : (k : Int) + 1 < (acc.length : Int) := by omega
              obtain ⟨r2, hr2⟩ : ∃ r2, acc.getD (k + 1) 0 = r2 := ⟨_, rfl⟩
              rw [hr2] at hst2
              have HR2 := Lib.hid hr2
              clear hr2
              by_cases c2 : r2 = 10
              · subst c2
                go_wp2_with (refine wpList_append_ints rfl (.tmp 29) (.tmp 30) 22 rfl B2 21 .i32 i0 4 Try.underlying22 hi0 HZ.out HS.out HB.out _ out.length out rfl (HO.out.alloc _) (some ⟨wr.heap.size, 0, none⟩) 1 1 [10] rfl rfl (row_one wr .i32 _ 21) (by simp) (by simp [maxLen]; omega) (by omega) (by simp; omega) ?_; intro A3 c3 W2 hO3 hg3 hat3; have HO3 := Lib.hid hO3; have HB3 := Lib.hid (own_world HB2.out hsz HO.out hg3); have hz3 := grown_size hg3; have g3 := HC.out W2 HB3.out; clear hO3 hg3 hat3; have g4 := g3 (k + 1) hl2; rw [HR2.out] at g4; clear g3)
                go_roundw
                case rel =>
                  refine ⟨k + 2, out ++ [10], by omega, by go_num, by have := HO3.out; simpa using this, by simp; omega, by omega, HB3.out, ?_⟩
                  have hh := hac.out
                  rw [hst.out, hst2.out, clean_13, clean_10] at hh
                  show _ = _
                  rw [← hh]; simp
                case measure => simp [intOf]; omega
              · have q2 : ((r2 : Int) == 10) = false := by simp; omega
                go_wp2_with (refine wpList_append_ints rfl (.tmp 29) (.tmp 30) 22 rfl B2 21 .i32 i0 4 Try.underlying22 hi0 HZ.out HS.out HB.out _ out.length out rfl (HO.out.alloc _) (some ⟨wr.heap.size, 0, none⟩) 1 1 [10] rfl rfl (row_one wr .i32 _ 21) (by simp) (by simp [maxLen]; omega) (by omega) (by simp; omega) ?_; intro A3 c3 W2 hO3 hg3 hat3; have HO3 := Lib.hid hO3; have HB3 := Lib.hid (own_world HB2.out hsz HO.out hg3); have hz3 := grown_size hg3; have g3 := HC.out W2 HB3.out; clear hO3 hg3 hat3; have g4 := g3 (k + 1) hl2; rw [HR2.out] at g4; clear g3)
                go_roundw
                case rel =>
                  refine ⟨k + 1, out ++ [10], by omega, by go_num, by have := HO3.out; simpa using this, by simp; omega, by omega, HB3.out, ?_⟩
                  have hh := hac.out
                  rw [hst.out, clean_13, clean_true _ (fun u e => c2 (by rw [hst2.out] at e; exact (List.cons.inj e).1))] at hh
                  show _ = _
                  rw [← hh]; simp
                case measure => simp [intOf]; omega
            · have i2 : ¬ ((k : Int) + 1 < (acc.length : Int)) := by omega
              have hd0 := Lib.hid (List.drop_eq_nil_of_le (show acc.length ≤ k + 1 by omega))
              go_wp2_with (refine wpList_append_ints rfl (.tmp 29) (.tmp 30) 22 rfl B2 21 .i32 i0 4 Try.underlying22 hi0 HZ.out HS.out HB.out _ out.length out rfl (HO.out.alloc _) (some ⟨wr.heap.size, 0, none⟩) 1 1 [10] rfl rfl (row_one wr .i32 _ 21) (by simp) (by simp [maxLen]; omega) (by omega) (by simp; omega) ?_; intro A3 c3 W2 hO3 hg3 hat3; have HO3 := Lib.hid hO3; have HB3 := Lib.hid (own_world HB2.out hsz HO.out hg3); have hz3 := grown_size hg3; have g3 := HC.out W2 HB3.out; clear hO3 hg3 hat3; clear g3)
              go_roundw
              case rel =>
                refine ⟨k + 1, out ++ [10], by omega, by go_num, by have := HO3.out; simpa using this, by simp; omega, by omega, HB3.out, ?_⟩
                have hh := hac.out
                rw [hst.out, clean_13, clean_true _ (fun u e => by rw [hd0.out] at e; cases e)] at hh
                show _ = _
                rw [← hh]; simp
              case measure => simp [intOf]; omega
          · have q1 : ((r : Int) == 13) = false := by simp; omega
            by_cases cz : r = 0
            · subst cz
              go_wp2_with (refine wpList_append_ints rfl (.tmp 52) (.tmp 53) 22 rfl B2 21 .i32 i0 4 Try.underlying22 hi0 HZ.out HS.out HB.out _ out.length out rfl (HO.out.alloc _) (some ⟨wr.heap.size, 0, none⟩) 1 1 [65533] rfl rfl (row_one wr .i32 _ 21) (by simp) (by simp [maxLen]; omega) (by omega) (by simp; omega) ?_; intro A3 c3 W2 hO3 hg3 hat3; have HO3 := Lib.hid hO3; have HB3 := Lib.hid (own_world HB2.out hsz HO.out hg3); have hz3 := grown_size hg3; have g3 := HC.out W2 HB3.out; clear hO3 hg3 hat3; clear g3)
              go_roundw
              case rel =>
                refine ⟨k + 1, out ++ [65533], by omega, by go_num, by have := HO3.out; simpa using this, by simp; omega, by omega, HB3.out, ?_⟩
                have hh := hac.out
                rw [hst.out, clean_0] at hh
                show _ = _
                rw [← hh]; simp
              case measure => simp [intOf]; omega
            · have q2 : ((r : Int) == 0) = false := by simp; omega
              go_wp2_with (refine wpList_append_ints rfl (.tmp 55) (.tmp 60) 22 rfl B2 21 .i32 i0 4 Try.underlying22 hi0 HZ.out HS.out HB.out _ out.length out rfl (HO.out.alloc _) (some ⟨wr.heap.size, 0, none⟩) 1 1 [(r : Int)] rfl rfl (row_one wr .i32 _ 21) (by simp) (by simp [maxLen]; omega) (by omega) (by simp; omega) ?_; intro A3 c3 W2 hO3 hg3 hat3; have HO3 := Lib.hid hO3; have HB3 := Lib.hid (own_world HB2.out hsz HO.out hg3); have hz3 := grown_size hg3; have g3 := HC.out W2 HB3.out; clear hO3 hg3 hat3; clear g3)
              go_roundw
              case rel =>
                refine ⟨k + 1, out ++ [(r : Int)], by omega, by go_num, by have := HO3.out; simpa using this, by simp; omega, by omega, HB3.out, ?_⟩
                have hh := hac.out
                rw [hst.out, clean_r false r _ (by simp) c1 cz] at hh
                show _ = _
                rw [← hh]; simp
              case measure => simp [intOf]; omega
        · have hke : k = acc.length := by omega
          subst hke
          obtain ⟨A1, c1, hv, _, _⟩ := own_slice ho
          subst hv
          have hrow := own_row ho
          have hh := hac.out
          rw [List.drop_length] at hh
          simp only [clean, List.append_nil] at hh
          go_wp2
          go_ret
          rw [HDE.out, ← hh]
          refine ⟨A1, c1, rfl, hrow, ?_⟩
          rw [hj]
          exact hbw.trans (HB2.out.mono (by omega))
end Go.Proofs.Yteoclmmooeibhaa
