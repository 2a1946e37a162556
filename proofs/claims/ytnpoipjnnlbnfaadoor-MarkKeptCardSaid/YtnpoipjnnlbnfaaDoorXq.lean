/- Are all runes of a list scalar values? No conditions but that the list is not endless. MarkTokens walked. No conditions but what the world holds of the variables. -/
import Derived.Test.YtnpoipjnnlbnfaaDoorXg
import Derived.BigQuiet
import Derived.Test.YtnpoipjnnlbnfaaDoorXo
import Derived.Test.YtnpoipjnnlbnfaaDoorXd
import Derived.Test.YtnpoipjnnlbnfaaDoorWd
import Derived.Test.YtnpoipjnnlbnfaaDoorBAllrune
namespace Go.Proofs.YtnpoipjnnlbnfaaDoor
set_option linter.unusedVariables false
open Go.RowKit Go.Proofs.Fm Go.Proofs.Fb Go.Proofs.Fk Go.Proofs.Fu

def ValidOut (xs : List Int) (w : World) (e : Ending) (w' : World) : Prop := (∃ B : Bool, e = .returned (.bool B) ∧ (B = true → ∀ x ∈ xs, Scal x)) ∧ ∃ q, w.drewN q = w'
set_option maxRecDepth 100000 in
set_option maxHeartbeats 4000000 in
theorem valid_any (A : Option Addr) (n c : Nat) (xs : List Int) (hn : xs.length = n) (hx : n ≤ 16777216) (w : World) (hr : Row w .i32 A xs) :
    Calls Tryd.prog 19 #[.slice A n c] w (ValidOut xs w) := by
  have HR := Lib.hid hr
  clear hr
  go_enter Tryd.func19, Tryd.ntmps19
  go_upto_region 2 with fail
  go_loopg [3] n (fun gk i wr => ∃ k q : Nat, k + gk = n ∧ i = .int .i64 (k : Int) ∧ Hid (∀ j, j < k → Scal (xs.getD j 0)) ∧ wr = w.drewN q)
  case atStart => exact ⟨0, 0, by omega, rfl, Lib.hid (fun j hj => by omega), rfl⟩
  case round =>
    obtain ⟨k, q, hk, rfl, hv, rfl⟩ := hrel
    by_cases hlt : k < n
    · have i1 : (k : Int) < (n : Int) := by omega
      obtain ⟨b, off, rfl, hc⟩ := HR.out.at_ (i := k) (by omega)
      have c1 := hc k (by omega)
      obtain ⟨u, hu⟩ : ∃ u, xs.getD k 0 = u := ⟨_, rfl⟩
      rw [hu] at c1
      have HUU := Lib.hid hu
      clear hc hu
      have HNX : Hid (Scal u → ∀ j, j < k + 1 → Scal (xs.getD j 0)) := Lib.hid (fun h j hj => by
        rcases Nat.lt_or_ge j k with h2 | h2
        · exact hv.out j h2
        · rw [show j = k by omega, HUU.out]; exact h)
      by_cases h0 : u < 0
      · go_wp2
        go_ret
        exact ⟨⟨false, rfl, fun h => by cases h⟩, q, rfl⟩
      · by_cases h1 : 1114111 < u
        · have d0 : decide (u < 0) = false := decide_eq_false h0
          go_wp2
          go_ret
          exact ⟨⟨false, rfl, fun h => by cases h⟩, q, rfl⟩
        · have d0 : decide (u < 0) = false := decide_eq_false h0
          have d1 : decide (1114111 < u) = false := decide_eq_false h1
          by_cases h2 : 55296 ≤ u
          · by_cases h3 : u ≤ 57343
            · go_wp2
              go_ret
              exact ⟨⟨false, rfl, fun h => by cases h⟩, q, rfl⟩
            · have d3 : decide (u ≤ 57343) = false := decide_eq_false h3
              have HS := Lib.hid (HNX.out (show Scal u from ⟨by omega, by omega, by omega⟩))
              go_wp2
              go_roundg (gk - 1)
              case measure => omega
              case rel => exact ⟨k + 1, q, by omega, by go_num, HS, rfl⟩
          · have d2 : decide (55296 ≤ u) = false := decide_eq_false h2
            have HS := Lib.hid (HNX.out (show Scal u from ⟨by omega, by omega, by omega⟩))
            go_wp2
            go_roundg (gk - 1)
            case measure => omega
            case rel => exact ⟨k + 1, q, by omega, by go_num, HS, rfl⟩
    · have i1 : ¬ ((k : Int) < (n : Int)) := by omega
      go_wp2
      go_ret
      refine ⟨⟨true, rfl, fun _ x hx => ?_⟩, q, rfl⟩
      obtain ⟨j, hj, rfl⟩ := List.mem_iff_getElem.1 hx
      have h := hv.out j (by omega)
      rwa [List.getD_eq_getElem?_getD, List.getElem?_eq_getElem hj] at h
end Go.Proofs.YtnpoipjnnlbnfaaDoor
namespace Go.Proofs.YtnpoipjnnlbnfaaDoor
set_option linter.unusedVariables false
open Go.RowKit Go.Proofs.Fe Go.Proofs.Fm Go.Proofs.Fb Go.Proofs.Fk Go.Proofs.Fs Go.Proofs.Fc Go.Proofs.Fu

/-- the reference's tokens, by what they read as -/
theorem refToks_of (A : Option Addr) (n c : Nat) (xs : List Int) (hn : xs.length = n) (hx : n ≤ 10000) (hnc : n ≤ c) (hs : ∀ x ∈ xs, Scal x) (w : World) (hr : Row w .i32 A xs) :
    Calls Tryd.prog 23 #[.slice A n c] w fun e w' => ∃ (VA : Option Addr) (vc : Nat), e = .returned (.slice VA (tok xs).length vc) ∧ TRow w' VA (tok xs) ∧ Below w.heap.size w w' := by
  refine (refTokens_any A n c xs hn hx hnc hs (fun s w hs => refUnescape_any s hs w) w hr).mono ?_
  rintro e w1 ⟨VA, vc, ts, rfl, h2, h3⟩
  have h := h3.reads.1
  rw [h2] at h
  exact ⟨VA, vc, rfl, h, h3.bl⟩
set_option maxHeartbeats 4000000 in
set_option maxRecDepth 100000 in
theorem tokens_walk (w : World) (he : Env w) (A : Option Addr) (n cap : Nat) (xs : List Int) (ha : Row w .i32 A xs) (hn : xs.length = n) (hwf : ∀ x ∈ xs, (Lit.int .i32 x).wf = true) (hz : n * Tryd.prog.bytesOf 21 ≤ 140737488351232) (hlc : n ≤ cap) (hnil : A = none → cap = 0) :
    Calls Tryd.prog 4 #[.slice A n cap] w fun e w' => e = .returned (.bool true) ∧ Below w.heap.size w w' := by
  have hby : Tryd.prog.bytesOf 21 = 4 := by kernel_rfl
  rw [hby] at hz
  have HF := Lib.hid (fewRunes_any A n cap 1500 hlc hnil (by omega) (by omega) w)
  have HE := Lib.hid (fun W (hb : Below w.heap.size w W) => he.below hb he.sz)
  have HWF := Lib.hid (show ∀ x ∈ xs, -2147483648 ≤ x ∧ x ≤ 2147483647 from fun x hx => by have := hwf x hx; simp [Lit.wf, IntKind.min, IntKind.max, IntKind.signed, IntKind.bits] at this; exact this)
  have HA := Lib.hid ha
  have hnil2 : A = none → n = 0 := fun h => by have := hnil h; omega
  clear hwf ha
  go_enter Tryd.func4, Tryd.ntmps4
  go_upto_region 2 with (go_at_call 18; refine (HF.out).mono ?_; rintro e w1 ⟨k0, hk1, hk2, rfl, rfl⟩)
  obtain ⟨l, hl⟩ : ∃ l, xs.take k0 = l := ⟨_, rfl⟩
  have hll : l.length = k0 := by rw [← hl, List.length_take]; omega
  have HL := Lib.hid (show Row w .i32 A l by rw [← hl]; exact HA.out.take k0)
  have HLW := Lib.hid (show ∀ x ∈ l, -2147483648 ≤ x ∧ x ≤ 2147483647 from fun x hx => HWF.out x (by rw [← hl] at hx; exact List.mem_of_mem_take hx))
  have hkc : k0 ≤ cap := by omega
  have HV := Lib.hid (valid_any A k0 cap l hll (by omega) w HL.out)
  clear HA HWF hl HF hn hz hk2 hlc hnil hnil2
  go_upto_if 8 with (go_at_call 19; refine (HV.out).mono ?_; rintro e w1 ⟨⟨B, rfl, hB⟩, q1, rfl⟩; have HB := Lib.hid hB; clear hB)
  have HW1 := Lib.hid (below_drewN (Below.refl w.heap.size w) q1)
  cases B
  · go_wp2_with (go_at_call 17; (with_reducible refine (known_any (HE.out _ HW1.out)).mono ?_); rintro e w6 ⟨rfl, h6⟩; have H6 := Lib.hid h6; clear h6)
    go_ret
    exact ⟨rfl, HW1.out.trans (H6.out.mono HW1.out.size)⟩
  · have hsc : ∀ x ∈ l, Scal x := HB.out rfl
    have HSC := Lib.hid hsc
    have hl64 : ∀ x ∈ tok l, x.attrs.length ≤ 64 := tok64 _ _ (Nat.le_refl _)
    have HL64 := Lib.hid hl64
    have HRO := Lib.hid (B_rune.roomy_n A k0 cap l hll (-7) (w.drewN q1) (HL.out.drewN q1) (by omega))
    have hnl : l.length ≤ 1500 := by omega
    clear hsc hl64 HB HV
    go_upto_region 5 with (go_at_call 20; (with_reducible refine (HRO.out).mono ?_); rintro e w2 ⟨g, rfl, hg, hI, hb2⟩; have HI := Lib.hid hI; have HB2 := Lib.hid (HW1.out.trans (hb2.mono HW1.out.size)); clear hI hb2 hg)
    have HT := Lib.hid (toks_of (some ⟨g, 0, none⟩) k0 (k0 + 80) l hll (B_rune.room_row HI.out) (by omega) HLW.out (HE.out _ HB2.out))
    obtain ⟨N, hN⟩ : ∃ N, (tok l).length = N := ⟨_, rfl⟩
    have HN := Lib.hid hN
    rw [hN] at HT
    clear hN HRO
    have i1 : k0 ≤ k0 + 80 := by omega
    go_wp2_with (first
      | (go_at_call 22; (with_reducible refine (HT.out).mono ?_); rintro e w3 ⟨VA, vc, rfl, hv, h3, h4⟩; have HR3 := Lib.hid h3; have HB3 := Lib.hid (HB2.out.trans (h4.mono HB2.out.size)); have HI3 := Lib.hid (HI.out.below h4 HI.out.lt); have HT2 := Lib.hid (refToks_of A k0 cap l hll (by omega) hkc HSC.out w3 (HL.out.below HB3.out (Nat.le_refl _))); rw [HN.out] at HT2; clear h3 h4 HT)
      | (go_at_call 23; (with_reducible refine (HT2.out).mono ?_); rintro e w4 ⟨VB, vd, rfl, h5, h6⟩; have HR4 := Lib.hid h5; have HR4a := Lib.hid (HR3.out.below h6 (Nat.le_refl _)); have HB4 := Lib.hid (HB3.out.trans (h6.mono HB3.out.size)); have HI4 := Lib.hid (HI3.out.below h6 HI3.out.lt); have HT3 := toks_any VA VB N N vc vd (tok l) (tok l) HN.out HN.out (by omega) HL64.out HR4a.out HR4.out; rw [decide_eq_true rfl] at HT3; have HT3 := Lib.hid HT3; clear h5 h6 HT2)
      | (go_at_call 21; (with_reducible refine (HT3.out).mono ?_); rintro e w5 ⟨rfl, h7⟩; have HB5 := Lib.hid (HB4.out.trans (h7.mono HB4.out.size)); have HI5 := Lib.hid (HI4.out.below h7 HI4.out.lt); have HT5 := Lib.hid (B_rune.intact_n g A k0 cap l hll (-7) w5 HI5.out (HL.out.below HB5.out (Nat.le_refl _)) (by omega)); clear h7)
      | (go_at_call 24; (with_reducible refine (HT5.out).mono ?_); rintro e w6 ⟨rfl, q6, rfl⟩; have HB6 := Lib.hid (below_drewN HB5.out q6))
      | (go_at_call 17; (with_reducible refine (known_any (HE.out _ HB6.out)).mono ?_); rintro e w7 ⟨rfl, h7⟩; have HB7 := Lib.hid (HB6.out.trans (h7.mono HB6.out.size)); clear h7))
    go_ret
    exact ⟨rfl, HB7.out⟩
end Go.Proofs.YtnpoipjnnlbnfaaDoor
