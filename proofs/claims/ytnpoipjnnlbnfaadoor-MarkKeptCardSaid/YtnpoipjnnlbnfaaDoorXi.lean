/- casementref4's Small. Conditions: the list is not endless, its runes are scalar values. casementref4's raw, by place in the list. Conditions: the list is not endless, its runes are scalar values. -/
import Derived.Test.YtnpoipjnnlbnfaaDoorXg
namespace Go.Proofs.YtnpoipjnnlbnfaaDoor
set_option linter.unusedVariables false
open Go.RowKit Go.Proofs.Fm Go.Proofs.Fb Go.Proofs.Fk Go.Proofs.Fu

theorem Tryd.runeInfo4 : (Tryd.prog.info? 21).map (fun i => (i.zero, i.size, i.bytes)) = some (some (.int .i32 0), 1, 4) := by kernel_rfl
def runesV (l : List Int) : List Value := l.map (Value.int .i32)
theorem own_text4 {w : World} {base n : Nat} {v : Value} {xs : List Int} (h : w.ownsRow base 21 1 v n (runesV xs)) (hs : ∀ x ∈ xs, Scal x) : (convert 32 9 v).run Tryd.prog w = .ok (.string ⟨(encB xs).toArray⟩) w := by
  have hl : xs.length = n := by have := h.1; unfold runesV at this; simpa using this
  have key : ∃ A c, v = .slice A n c ∧ Row w .i32 A xs := by
    rcases h.2 with ⟨rfl, h0⟩ | ⟨g, cap, cur, rfl, -⟩
    · have : xs = [] := List.eq_nil_of_length_eq_zero (by omega)
      subst this
      exact ⟨none, 0, by rw [h0], Row.nil _ _ _⟩
    · exact ⟨_, cap, rfl, own_row h⟩
  obtain ⟨A, c, rfl, hr⟩ := key
  rw [← runes_scal xs hs]
  exact run_runes (P := Tryd.prog) w 32 21 Tryd.underlying32 Tryd.underlying21 A n c xs hl hr 9 Tryd.underlying9
set_option maxRecDepth 100000 in
set_option maxHeartbeats 4000000 in
theorem refSmall_any (A : Option Addr) (n c : Nat) (ns : List Int) (hn : ns.length = n) (hx : n ≤ 16777216) (hs : ∀ x ∈ ns, Scal x) (w : World) (hr : Row w .i32 A ns) :
    Calls Tryd.prog 76 #[.slice A n c] w fun e w' => e = .returned (.string ⟨(Fk.small ns).toArray⟩) ∧ Below w.heap.size w w' := by
  obtain ⟨i0, hi0, hz0, hz1, hz2⟩ := info_parts Tryd.runeInfo4
  have HI0 := Lib.hid hi0
  have HZ0 := Lib.hid hz0
  have HZ1 := Lib.hid hz1
  have HZ2 := Lib.hid hz2
  have HR := Lib.hid hr
  have HS := Lib.hid hs
  clear hr hi0 hz0 hz1 hz2 hs
  go_enter Tryd.func76, Tryd.ntmps76
  go_upto_region 3 with fail
  go_loopg [3, 4] n (fun gk v i wr => ∃ k : Nat, k + gk = n ∧ i = .int .i64 (k : Int) ∧ Hid (wr.ownsRow w.heap.size 21 1 v k (runesV ((ns.take k).map Fk.low))) ∧ Hid (Below w.heap.size w wr))
  case atStart => exact ⟨0, by omega, rfl, Lib.hid (World.ownsRow_nil _ _ _ _), Lib.hid (Below.refl _ _)⟩
  case round =>
    obtain ⟨k, hk, rfl, ho, hb⟩ := hrel
    have hzw := hb.out.size
    by_cases hlt : k < n
    · have i1 : (k : Int) < (n : Int) := by omega
      obtain ⟨b, off, rfl, hc⟩ := (HR.out.below hb.out (Nat.le_refl _)).at_ (i := k) (by omega)
      have c1 := hc k (by omega)
      have hsu := HS.out (ns[k]'(by omega)) (List.getElem_mem _)
      have hgd : ns.getD k 0 = ns[k]'(by omega) := by rw [List.getD_eq_getElem?_getD, List.getElem?_eq_getElem (by omega)]; rfl
      rw [hgd] at c1
      have htk : runesV ((ns.take (k + 1)).map Fk.low) = runesV ((ns.take k).map Fk.low) ++ [.int .i32 (Fk.low (ns[k]'(by omega)))] := by
        unfold runesV; rw [List.take_succ_eq_append_getElem (by omega), List.map_append, List.map_append]; rfl
      obtain ⟨u, hu⟩ : ∃ u, ns[k]'(by omega) = u := ⟨_, rfl⟩
      rw [hu] at c1 hsu htk
      have HTK := Lib.hid htk
      unfold Scal at hsu
      clear hc hgd htk hu
      by_cases h65 : 65 ≤ u
      · by_cases h90 : u ≤ 90
        · have hlow : True := trivial
          go_wp2_with (at_builtin; refine wpList_append_elt rfl (.tmp 24) (.tmp 26) 32 rfl w.heap.size 21 i0 _ 1 4 Tryd.underlying32 HI0.out HZ0.out HZ1.out HZ2.out rfl (by omega) _ k _ rfl ho.out [.int .i32 (u + 32)] rfl rfl (by simp [Value.oneCell']) (by unfold maxLen; omega) (by omega) hzw ?_; intro g cap w3 ho3 hg3 hat3 hlt3 hb3; have HO3 := Lib.hid ho3; have HB3 := Lib.hid (hb.out.trans hb3); clear ho3 hg3 hat3 hb3)
          go_roundg (gk - 1)
          case measure => omega
          case rel =>
            refine ⟨k + 1, by omega, by go_num, Lib.hid ?_, HB3⟩
            have h1 := HO3.out
            have h2 := HTK.out
            rw [show Fk.low u = (u + 32) from by unfold Fk.low; rw [if_pos ⟨h65, h90⟩]] at h2
            rw [h2]
            exact h1
        · have hlow : True := trivial
          go_wp2_with (at_builtin; refine wpList_append_elt rfl (.tmp 24) (.tmp 26) 32 rfl w.heap.size 21 i0 _ 1 4 Tryd.underlying32 HI0.out HZ0.out HZ1.out HZ2.out rfl (by omega) _ k _ rfl ho.out [.int .i32 u] rfl rfl (by simp [Value.oneCell']) (by unfold maxLen; omega) (by omega) hzw ?_; intro g cap w3 ho3 hg3 hat3 hlt3 hb3; have HO3 := Lib.hid ho3; have HB3 := Lib.hid (hb.out.trans hb3); clear ho3 hg3 hat3 hb3)
          go_roundg (gk - 1)
          case measure => omega
          case rel =>
            refine ⟨k + 1, by omega, by go_num, Lib.hid ?_, HB3⟩
            have h1 := HO3.out
            have h2 := HTK.out
            rw [show Fk.low u = u from by unfold Fk.low; rw [if_neg (by omega)]] at h2
            rw [h2]
            exact h1
      · by_cases hlow : True
        · have h91 : True := trivial
          go_wp2_with (at_builtin; refine wpList_append_elt rfl (.tmp 24) (.tmp 26) 32 rfl w.heap.size 21 i0 _ 1 4 Tryd.underlying32 HI0.out HZ0.out HZ1.out HZ2.out rfl (by omega) _ k _ rfl ho.out [.int .i32 u] rfl rfl (by simp [Value.oneCell']) (by unfold maxLen; omega) (by omega) hzw ?_; intro g cap w3 ho3 hg3 hat3 hlt3 hb3; have HO3 := Lib.hid ho3; have HB3 := Lib.hid (hb.out.trans hb3); clear ho3 hg3 hat3 hb3)
          go_roundg (gk - 1)
          case measure => omega
          case rel =>
            refine ⟨k + 1, by omega, by go_num, Lib.hid ?_, HB3⟩
            have h1 := HO3.out
            have h2 := HTK.out
            rw [show Fk.low u = u from by unfold Fk.low; rw [if_neg (by omega)]] at h2
            rw [h2]
            exact h1
        · exact absurd trivial hlow
    · obtain rfl : k = n := by omega
      have h1 := ho.out
      rw [List.take_of_length_le (by omega)] at h1
      have hcv := own_text4 h1 (fun x hx => by
        obtain ⟨y, hy, rfl⟩ := List.mem_map.1 hx
        exact (HS.out y hy).low)
      clear h1
      go_wp2
      go_ret
      exact ⟨rfl, hb.out⟩
end Go.Proofs.YtnpoipjnnlbnfaaDoor
namespace Go.Proofs.YtnpoipjnnlbnfaaDoor
set_option linter.unusedVariables false
open Go.RowKit Go.Proofs.Fm Go.Proofs.Fb Go.Proofs.Fk Go.Proofs.Fu

theorem row_sub {w : World} {b off : Nat} {xs : List Int} (h : Row w .i32 (some ⟨b, off, none⟩) xs) (i m : Nat) : Row w .i32 (some ⟨b, off + i, none⟩) ((xs.drop i).take m) := by
  intro hne
  have hxs : xs ≠ [] := by intro e; subst e; simp at hne
  obtain ⟨b', off', e, hc⟩ := h hxs
  injection e with e; injection e with e1 e2
  subst e1; subst e2
  refine ⟨b, off + i, rfl, fun j hj => ?_⟩
  rw [List.length_take, List.length_drop] at hj
  have := hc (i + j) (by omega)
  rw [show off + i + j = off + (i + j) by omega, this]
  congr 2
  simp only [List.getD_eq_getElem?_getD, List.getElem?_take, List.getElem?_drop]
  rw [if_pos (by omega)]
theorem raw_step {nm : Str} {r : Int} {t : List Int} (h : rawEnd nm (r :: t) = false) : raw nm (r :: t) = (r :: (raw nm t).1, (raw nm t).2) := by rw [raw, if_neg (by simp [h])]
theorem raw_stop {nm : Str} {r : Int} {t : List Int} (h : rawEnd nm (r :: t) = true) : raw nm (r :: t) = ([], r :: t) := by rw [raw, if_pos h]
/-- the place where a raw text ends -/
def RawOut (nm : Str) (xs : List Int) (n k : Nat) (w : World) (e : Ending) (w' : World) : Prop := (∃ j : Nat, e = .returned (.int .i64 (j : Int)) ∧ k ≤ j ∧ j ≤ n ∧ raw nm (xs.drop k) = ((xs.drop k).take (j - k), xs.drop j)) ∧ Below w.heap.size w w'
set_option maxRecDepth 100000 in
set_option maxHeartbeats 4000000 in
theorem refRaw_any (A : Option Addr) (n c : Nat) (xs : List Int) (hn : xs.length = n) (hx : n ≤ 16777216) (hnc : n ≤ c) (hs : ∀ x ∈ xs, Scal x) (k : Nat) (hk : k ≤ n) (nm : Str) (hnm : nm.length ≤ 1000) (hnm1 : 1 ≤ nm.length) (w : World) (hr : Row w .i32 A xs) :
    Calls Tryd.prog 48 #[.slice A n c, .int .i64 (k : Int), .string ⟨nm.toArray⟩] w (RawOut nm xs n k w) := by
  have HR := Lib.hid hr
  have HS := Lib.hid hs
  have HI := Lib.hid (fun m (hm : m ≤ n + 16) W (h : Row W .i32 A xs) => refIs_any A n c xs hn hx m hm ⟨#[60, 47]⟩ (by decide) W h)
  have hz : (⟨nm.toArray⟩ : ByteArray).size = nm.length := rfl
  clear hr hs
  go_enter Tryd.func48, Tryd.ntmps48
  go_upto_region 1 with fail
  go_loopg [1] (n - k) (fun gk i wr => ∃ m : Nat, m + gk = n ∧ k ≤ m ∧ i = .int .i64 (m : Int) ∧ Hid (raw nm (xs.drop k) = ((xs.drop k).take (m - k) ++ (raw nm (xs.drop m)).1, (raw nm (xs.drop m)).2)) ∧ Hid (Below w.heap.size w wr))
  case atStart => exact ⟨k, by omega, by omega, rfl, Lib.hid (by simp), Lib.hid (Below.refl _ _)⟩
  case round =>
    obtain ⟨m, hm, hkm, rfl, ht, hb⟩ := hrel
    by_cases hlt : m < n
    · have i1 : (m : Int) < (n : Int) := by omega
      obtain ⟨b, off, rfl, hc⟩ := (HR.out.below hb.out (Nat.le_refl _)).at_ (i := m) (by omega)
      have hrow := HR.out.below hb.out (Nat.le_refl _)
      have hq := HI.out m (by omega) wr hrow
      have HX := Lib.hid (drop_cons (xs := xs) (k := m) (by omega))
      have hnums : numsOf ⟨#[60, 47]⟩ = [60, 47] := rfl
      rw [hnums] at hq
      obtain ⟨B1, hB1⟩ : ∃ B, decide (([60, 47] : List Int) <+: xs.drop m) = B := ⟨_, rfl⟩
      rw [hB1] at hq
      have HQ := Lib.hid hq
      have HB1 := Lib.hid hB1
      have HROW := Lib.hid hrow
      clear hc hrow hq hnums hB1
      have HNEXT : Hid (rawEnd nm (xs.drop m) = false → raw nm (xs.drop k) = ((xs.drop k).take (m + 1 - k) ++ (raw nm (xs.drop (m + 1))).1, (raw nm (xs.drop (m + 1))).2)) := Lib.hid (fun h => by
        rw [ht.out, HX.out, raw_step (by rw [← HX.out]; exact h)]
        have e1 : (xs.drop k).take (m + 1 - k) = (xs.drop k).take (m - k) ++ [xs.getD m 0] := by
          rw [show m + 1 - k = (m - k) + 1 by omega, List.take_succ_eq_append_getElem (by rw [List.length_drop]; omega), List.getElem_drop]
          congr 2
          rw [List.getD_eq_getElem?_getD, List.getElem?_eq_getElem (by omega)]
          simp [show k + (m - k) = m by omega]
        rw [e1]; simp)
      cases B1
      · have hre : rawEnd nm (xs.drop m) = false := by unfold rawEnd; rw [HB1.out]; rfl
        have HF := Lib.hid (HNEXT.out hre)
        clear hre
        go_wp2_with (go_at_call 49; refine (HQ.out).mono ?_; rintro e w1 ⟨rfl, q1, rfl⟩)
        go_roundg (gk - 1)
        case measure => omega
        case rel => exact ⟨m + 1, by omega, by omega, by go_num, HF, Lib.hid (below_drewN hb.out q1)⟩
      · by_cases hE : m + 2 + nm.length ≤ n
        · have i2 : (m : Int) + 2 + (nm.length : Int) ≤ (n : Int) := by omega
          have i8 : m + 2 < c := by omega
          have i9 : ¬ (m + 2 = c) := by omega
          have i10 : ¬ (c = m + 2) := by omega
          have i11 : c - (m + 2) ≠ 0 := by omega
          have hrow0 := HR.out
          have HSM : Hid (∀ W, Below w.heap.size w W → Calls Tryd.prog 76 #[.slice (some ⟨b, off + (m + 2), none⟩) nm.length (c - (m + 2))] W fun e w' => e = .returned (.string ⟨(Fk.small ((xs.drop (m + 2)).take nm.length)).toArray⟩) ∧ Below W.heap.size W w') := Lib.hid (fun W hW => refSmall_any _ nm.length _ ((xs.drop (m + 2)).take nm.length) (by rw [List.length_take, List.length_drop]; omega) (by omega) (fun x hx => HS.out x (List.mem_of_mem_drop (List.mem_of_mem_take hx))) W (row_sub (HR.out.below hW (Nat.le_refl _)) (m + 2) nm.length))
          have HRE : Hid (rawEnd nm (xs.drop m) = ((Fk.small ((xs.drop (m + 2)).take nm.length) == nm) && (match xs.drop (m + 2 + nm.length) with | [] => true | e :: _ => Fk.blank e || e == 47 || e == 62))) := Lib.hid (by
            have h2 : decide (2 + nm.length ≤ (xs.drop m).length) = true := decide_eq_true (by rw [List.length_drop]; omega)
            unfold rawEnd
            rw [HB1.out, h2, List.drop_drop, List.drop_drop, Nat.add_assoc]
            simp only [Bool.true_and]
            rcases List.drop (m + (2 + nm.length)) xs with _ | ⟨e, t⟩ <;> rfl)
          have HSTOP : Hid (rawEnd nm (xs.drop m) = true → raw nm (xs.drop k) = ((xs.drop k).take (m - k), xs.drop m)) := Lib.hid (fun h => by
            rw [ht.out]
            have h1 := HX.out
            rw [h1, raw_stop (by rw [← h1]; exact h)]; simp)
          obtain ⟨S, hS⟩ : ∃ S, Fk.small ((xs.drop (m + 2)).take nm.length) = S := ⟨_, rfl⟩
          rw [hS] at HSM HRE
          clear hS hrow0
          rcases hq : (S == nm) with _ | _
          · have HF := Lib.hid (HNEXT.out (by rw [HRE.out, hq]; rfl))
            go_wp2_with (first
              | (go_at_call 49; refine (HQ.out).mono ?_; rintro e w1 ⟨rfl, q1, rfl⟩; have HB2 := Lib.hid (below_drewN hb.out q1))
              | (go_at_call 76; (with_reducible refine (HSM.out _ HB2.out).mono ?_); rintro e w2 ⟨rfl, hb2⟩; have HB3 := Lib.hid (HB2.out.trans (hb2.mono HB2.out.size)); clear hb2)
              | (go_at_call 75; refine (HBL.out _).mono ?_; rintro e w3 ⟨rfl, q3, rfl⟩; have HB4 := Lib.hid (below_drewN HB3.out q3)))
            go_roundg (gk - 1)
            case measure => omega
            case rel => exact ⟨m + 1, by omega, by omega, by go_num, HF, Lib.hid HB3.out⟩
          · rw [hq] at HRE
            by_cases hEn : m + 2 + nm.length = n
            · have HI3 : Hid (((m : Int) + 2 + (nm.length : Int) == (n : Int)) = true) := Lib.hid (by rw [beq_iff_eq]; omega)
              have HST := Lib.hid (HSTOP.out (by rw [HRE.out, List.drop_eq_nil_of_le (by omega)]; rfl))
              clear hEn
              go_wp2_with (first
                | (go_at_call 49; refine (HQ.out).mono ?_; rintro e w1 ⟨rfl, q1, rfl⟩; have HB2 := Lib.hid (below_drewN hb.out q1))
                | (go_at_call 76; (with_reducible refine (HSM.out _ HB2.out).mono ?_); rintro e w2 ⟨rfl, hb2⟩; have HB3 := Lib.hid (HB2.out.trans (hb2.mono HB2.out.size)); clear hb2; have i3 := HI3.out)
                | (go_at_call 75; refine (HBL.out _).mono ?_; rintro e w3 ⟨rfl, q3, rfl⟩; have HB4 := Lib.hid (below_drewN HB3.out q3)))
              go_ret
              exact ⟨⟨m, rfl, hkm, by omega, HST.out⟩, HB3.out⟩
            · have i3 : ((m : Int) + 2 + (nm.length : Int) == (n : Int)) = false := by rw [beq_eq_false_iff_ne]; omega
              have i4 : (m : Int) + 2 + (nm.length : Int) < (n : Int) := by omega
              have HY := Lib.hid (drop_cons (xs := xs) (k := m + 2 + nm.length) (by omega))
              obtain ⟨v, hv⟩ : ∃ v, xs.getD (m + 2 + nm.length) 0 = v := ⟨_, rfl⟩
              rw [hv] at HY
              have HC : Hid (∀ W, Below w.heap.size w W → W.cell? ⟨b, off + (m + 2 + nm.length), none⟩ = some (.int .i32 v)) := Lib.hid (fun W hW => by
                obtain ⟨b', off', e, hc⟩ := (HR.out.below hW (Nat.le_refl _)).at_ (i := m) (by omega)
                injection e with e; injection e with e1 e2
                subst e1; subst e2
                rw [hc (m + 2 + nm.length) (by omega), hv])
              have HBL := Lib.hid (fun W => refBlank_any v W)
              rw [HY.out] at HRE
              clear hv
              obtain ⟨L, hL⟩ : ∃ L, Fk.blank v = L := ⟨_, rfl⟩
              rw [hL] at HBL
              have HRE2 : Hid (rawEnd nm (xs.drop m) = (L || v == 47 || v == 62)) := Lib.hid (by rw [HRE.out, ← hL]; rfl)
              clear hL
              have CALLS := True.intro
              cases L
              · rcases h47 : (v == 47) with _ | _
                · rcases h62 : (v == 62) with _ | _
                  · have HF := Lib.hid (HNEXT.out (by rw [HRE2.out, h47, h62]; rfl))
                    go_wp2_with (first
                      | (go_at_call 49; refine (HQ.out).mono ?_; rintro e w1 ⟨rfl, q1, rfl⟩; have HB2 := Lib.hid (below_drewN hb.out q1))
                      | (go_at_call 76; (with_reducible refine (HSM.out _ HB2.out).mono ?_); rintro e w2 ⟨rfl, hb2⟩; have HB3 := Lib.hid (HB2.out.trans (hb2.mono HB2.out.size)); clear hb2; have c3 := HC.out _ HB3.out)
                      | (go_at_call 75; refine (HBL.out _).mono ?_; rintro e w3 ⟨rfl, q3, rfl⟩; have HB4 := Lib.hid (below_drewN HB3.out q3)))
                    go_roundg (gk - 1)
                    case measure => omega
                    case rel => exact ⟨m + 1, by omega, by omega, by go_num, HF, Lib.hid HB4.out⟩
                  · have HST := Lib.hid (HSTOP.out (by rw [HRE2.out, h62]; simp))
                    go_wp2_with (first
                      | (go_at_call 49; refine (HQ.out).mono ?_; rintro e w1 ⟨rfl, q1, rfl⟩; have HB2 := Lib.hid (below_drewN hb.out q1))
                      | (go_at_call 76; (with_reducible refine (HSM.out _ HB2.out).mono ?_); rintro e w2 ⟨rfl, hb2⟩; have HB3 := Lib.hid (HB2.out.trans (hb2.mono HB2.out.size)); clear hb2; have c3 := HC.out _ HB3.out)
                      | (go_at_call 75; refine (HBL.out _).mono ?_; rintro e w3 ⟨rfl, q3, rfl⟩; have HB4 := Lib.hid (below_drewN HB3.out q3)))
                    go_ret
                    exact ⟨⟨m, rfl, hkm, by omega, HST.out⟩, HB4.out⟩
                · have HST := Lib.hid (HSTOP.out (by rw [HRE2.out, h47]; simp))
                  go_wp2_with (first
                    | (go_at_call 49; refine (HQ.out).mono ?_; rintro e w1 ⟨rfl, q1, rfl⟩; have HB2 := Lib.hid (below_drewN hb.out q1))
                    | (go_at_call 76; (with_reducible refine (HSM.out _ HB2.out).mono ?_); rintro e w2 ⟨rfl, hb2⟩; have HB3 := Lib.hid (HB2.out.trans (hb2.mono HB2.out.size)); clear hb2; have c3 := HC.out _ HB3.out)
                    | (go_at_call 75; refine (HBL.out _).mono ?_; rintro e w3 ⟨rfl, q3, rfl⟩; have HB4 := Lib.hid (below_drewN HB3.out q3)))
                  go_ret
                  exact ⟨⟨m, rfl, hkm, by omega, HST.out⟩, HB4.out⟩
              · have HST := Lib.hid (HSTOP.out (by rw [HRE2.out]; simp))
                go_wp2_with (first
                  | (go_at_call 49; refine (HQ.out).mono ?_; rintro e w1 ⟨rfl, q1, rfl⟩; have HB2 := Lib.hid (below_drewN hb.out q1))
                  | (go_at_call 76; (with_reducible refine (HSM.out _ HB2.out).mono ?_); rintro e w2 ⟨rfl, hb2⟩; have HB3 := Lib.hid (HB2.out.trans (hb2.mono HB2.out.size)); clear hb2; have c3 := HC.out _ HB3.out)
                  | (go_at_call 75; refine (HBL.out _).mono ?_; rintro e w3 ⟨rfl, q3, rfl⟩; have HB4 := Lib.hid (below_drewN HB3.out q3)))
                go_ret
                exact ⟨⟨m, rfl, hkm, by omega, HST.out⟩, HB4.out⟩
        · have i2 : ¬ ((m : Int) + 2 + (nm.length : Int) ≤ (n : Int)) := by omega
          have hre : rawEnd nm (xs.drop m) = false := by
            have h2 : decide (2 + nm.length ≤ (xs.drop m).length) = false := decide_eq_false (by rw [List.length_drop]; omega)
            unfold rawEnd; rw [HB1.out, h2]; rfl
          have HF := Lib.hid (HNEXT.out hre)
          clear hre
          go_wp2_with (go_at_call 49; refine (HQ.out).mono ?_; rintro e w1 ⟨rfl, q1, rfl⟩)
          go_roundg (gk - 1)
          case measure => omega
          case rel => exact ⟨m + 1, by omega, by omega, by go_num, HF, Lib.hid (below_drewN hb.out q1)⟩
    · obtain rfl : m = n := by omega
      go_wp2
      go_ret
      refine ⟨⟨m, rfl, hkm, Nat.le_refl _, ?_⟩, hb.out⟩
      have h1 : xs.drop m = [] := List.drop_eq_nil_of_le (by omega)
      rw [ht.out, h1]; simp [raw]
end Go.Proofs.YtnpoipjnnlbnfaaDoor
