/- casementref4's Small. Conditions: the list is not endless, its runes are scalar values. -/
import Derived.Test.YtnpoipjnnlbnfaaDoorXg
namespace Go.Proofs.YtnpoipjnnlbnfaaDoor
set_option linter.unusedVariables false
open Go.RowKit Go.Proofs.Fm Go.Proofs.Fb Go.Proofs.Fk Go.Proofs.Fu

theorem Tryd.runeInfo4 : (Tryd.prog.info? 21).map (fun i => (i.zero, i.size, i.bytes)) = some (some (.int .i32 0), 1, 4) := by kernel_rfl
def runesV (l : List Int) : List Value := l.map (Value.int .i32)
theorem own_text4 {w : World} {base n : Nat} {v : Value} {xs : List Int} (h : w.ownsRow base 21 1 v n (runesV xs)) (hs : ∀ x ∈ xs, Scal x) : (convert 32 9 v).run Tryd.prog w = .ok (.string ⟨(encB xs).toArray⟩) w := by
  have hl : xs.length = n := by have := h.1; unfold runesV at this; simpa using this
  have key : ∃ A c, v = .slice A n c ∧ Row w .i32 A xs := by
    rcases h.2 with ⟨rfl, h0⟩ | ⟨g, cap, cur, rfl, -⟩
    · have : xs = [] := List.eq_nil_of_length_eq_zero (by omega)
      subst this
      exact ⟨none, 0, by rw [h0], Row.nil _ _ _⟩
    · exact ⟨_, cap, rfl, own_row h⟩
  obtain ⟨A, c, rfl, hr⟩ := key
  rw [← runes_scal xs hs]
  exact run_runes (P := Tryd.prog) w 32 21 Tryd.underlying32 Tryd.underlying21 A n c xs hl hr 9 Tryd.underlying9
set_option maxRecDepth 100000 in
set_option maxHeartbeats 4000000 in
theorem refSmall_any (A : Option Addr) (n c : Nat) (ns : List Int) (hn : ns.length = n) (hx : n ≤ 16777216) (hs : ∀ x ∈ ns, Scal x) (w : World) (hr : Row w .i32 A ns) :
    Calls Tryd.prog 76 #[.slice A n c] w fun e w' => e = .returned (.string ⟨(Fk.small ns).toArray⟩) ∧ Below w.heap.size w w' := by
  obtain ⟨i0, hi0, hz0, hz1, hz2⟩ := info_parts Tryd.runeInfo4
  have HI0 := Lib.hid hi0
  have HZ0 := Lib.hid hz0
  have HZ1 := Lib.hid hz1
  have HZ2 := Lib.hid hz2
  have HR := Lib.hid hr
  have HS := Lib.hid hs
  clear hr hi0 hz0 hz1 hz2 hs
  go_enter Tryd.func76, Tryd.ntmps76
  go_upto_region 3 with fail
  go_loopg [3, 4] n (fun gk v i wr => ∃ k : Nat, k + gk = n ∧ i = .int .i64 (k : Int) ∧ Hid (wr.ownsRow w.heap.size 21 1 v k (runesV ((ns.take k).map Fk.low))) ∧ Hid (Below w.heap.size w wr))
  case atStart => exact ⟨0, by omega, rfl, Lib.hid (World.ownsRow_nil _ _ _ _), Lib.hid (Below.refl _ _)⟩
  case round =>
    obtain ⟨k, hk, rfl, ho, hb⟩ := hrel
    have hzw := hb.out.size
    by_cases hlt : k < n
    · have i1 : (k : Int) < (n : Int) := by omega
      obtain ⟨b, off, rfl, hc⟩ := (HR.out.below hb.out (Nat.le_refl _)).at_ (i := k) (by omega)
      have c1 := hc k (by omega)
      have hsu := HS.out (ns[k]'(by omega)) (List.getElem_mem _)
      have hgd : ns.getD k 0 = ns[k]'(by omega) := by rw [List.getD_eq_getElem?_getD, List.getElem?_eq_getElem (by omega)]; rfl
      rw [hgd] at c1
      have htk : runesV ((ns.take (k + 1)).map Fk.low) = runesV ((ns.take k).map Fk.low) ++ [.int .i32 (Fk.low (ns[k]'(by omega)))] := by
        unfold runesV; rw [List.take_succ_eq_append_getElem (by omega), List.map_append, List.map_append]; rfl
      obtain ⟨u, hu⟩ : ∃ u, ns[k]'(by omega) = u := ⟨_, rfl⟩
      rw [hu] at c1 hsu htk
      have HTK := Lib.hid htk
      unfold Scal at hsu
      clear hc hgd htk hu
      by_cases h65 : 65 ≤ u
      · by_cases h90 : u ≤ 90
        · have hlow : True := trivial
          go_wp2_with (at_builtin; refine wpList_append_elt rfl (.tmp 24) (.tmp 26) 32 rfl w.heap.size 21 i0 _ 1 4 Tryd.underlying32 HI0.out HZ0.out HZ1.out HZ2.out rfl (by omega) _ k _ rfl ho.out [.int .i32 (u + 32)] rfl rfl (by simp [Value.oneCell']) (by unfold maxLen; omega) (by omega) hzw ?_; intro g cap w3 ho3 hg3 hat3 hlt3 hb3; have HO3 := Lib.hid ho3; have HB3 := Lib.hid (hb.out.trans hb3); clear ho3 hg3 hat3 hb3)
          go_roundg (gk - 1)
          case measure => omega
          case rel =>
            refine ⟨k + 1, by omega, by go_num, Lib.hid ?_, HB3⟩
            have h1 := HO3.out
            have h2 := HTK.out
            rw [show Fk.low u = (u + 32) from by unfold Fk.low; rw [if_pos ⟨h65, h90⟩]] at h2
            rw [h2]
            exact h1
        · have hlow : True := trivial
          go_wp2_with (at_builtin; refine wpList_append_elt rfl (.tmp 24) (.tmp 26) 32 rfl w.heap.size 21 i0 _ 1 4 Tryd.underlying32 HI0.out HZ0.out HZ1.out HZ2.out rfl (by omega) _ k _ rfl ho.out [.int .i32 u] rfl rfl (by simp [Value.oneCell']) (by unfold maxLen; omega) (by omega) hzw ?_; intro g cap w3 ho3 hg3 hat3 hlt3 hb3; have HO3 := Lib.hid ho3; have HB3 := Lib.hid (hb.out.trans hb3); clear ho3 hg3 hat3 hb3)
          go_roundg (gk - 1)
          case measure => omega
          case rel =>
            refine ⟨k + 1, by omega, by go_num, Lib.hid ?_, HB3⟩
            have h1 := HO3.out
            have h2 := HTK.out
            rw [show Fk.low u = u from by unfold Fk.low; rw [if_neg (by omega)]] at h2
            rw [h2]
            exact h1
      · by_cases hlow : True
        · have h91 : True := trivial
          go_wp2_with (at_builtin; refine wpList_append_elt rfl (.tmp 24) (.tmp 26) 32 rfl w.heap.size 21 i0 _ 1 4 Tryd.underlying32 HI0.out HZ0.out HZ1.out HZ2.out rfl (by omega) _ k _ rfl ho.out [.int .i32 u] rfl rfl (by simp [Value.oneCell']) (by unfold maxLen; omega) (by omega) hzw ?_; intro g cap w3 ho3 hg3 hat3 hlt3 hb3; have HO3 := Lib.hid ho3; have HB3 := Lib.hid (hb.out.trans hb3); clear ho3 hg3 hat3 hb3)
          go_roundg (gk - 1)
          case measure => omega
          case rel =>
            refine ⟨k + 1, by omega, by go_num, Lib.hid ?_, HB3⟩
            have h1 := HO3.out
            have h2 := HTK.out
            rw [show Fk.low u = u from by unfold Fk.low; rw [if_neg (by omega)]] at h2
            rw [h2]
            exact h1
        · exact absurd trivial hlow
    · obtain rfl : k = n := by omega
      have h1 := ho.out
      rw [List.take_of_length_le (by omega)] at h1
      have hcv := own_text4 h1 (fun x hx => by
        obtain ⟨y, hy, rfl⟩ := List.mem_map.1 hx
        exact (HS.out y hy).low)
      clear h1
      go_wp2
      go_ret
      exact ⟨rfl, hb.out⟩
end Go.Proofs.YtnpoipjnnlbnfaaDoor
