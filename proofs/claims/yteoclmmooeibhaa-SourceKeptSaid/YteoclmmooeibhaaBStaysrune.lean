/- Book's Stays, at lists of rune. -/
import Derived.Test.YteoclmmooeibhaaBKeeprune
namespace Go.Proofs.Yteoclmmooeibhaa.B_rune
set_option linter.unusedVariables false
open Go.Proofs.Yteoclmmooeibhaa Go.RowKit Go.Proofs.Fm Go.Proofs.Fb

/-- what Stays leaves -/
def StaysPost (w : World) (base bk : Nat) (v1 v2 : Value) (vs us : List Kept) (held : Int) (e : Ending) (w' : World) : Prop :=
  e = .returned (.bool true) ∧ BookAt w' base bk 21 22 44 .i32 v1 v2 vs us held ∧ Below base w w'

theorem stays_S {wr : World} {bk g1 g2 j l1 l2 m1 m2 n c n' c' : Nat} {A A' : Option Addr} {held : Int} (hb : Bk wr bk 44 #[.slice (some ⟨g1, 0, none⟩) l1 m1, .slice (some ⟨g2, 0, none⟩) l2 m2, .int .i64 held, .bool false]) (n1 : g1 ≠ bk) (n2 : g2 ≠ bk)
    (k1 : wr.cell? ⟨g1, j, none⟩ = some (.slice A n c)) (k2 : wr.cell? ⟨g2, j, none⟩ = some (.slice A' n' c')) (q : Nat) :
    ((wr.drewN q).setCell ⟨bk, 3, none⟩ (.bool false)).cell? ⟨bk, 0, none⟩ = some (.slice (some ⟨g1, 0, none⟩) l1 m1) ∧ ((wr.drewN q).setCell ⟨bk, 3, none⟩ (.bool false)).cell? ⟨bk, 1, none⟩ = some (.slice (some ⟨g2, 0, none⟩) l2 m2) ∧
      ((wr.drewN q).setCell ⟨bk, 3, none⟩ (.bool false)).cell? ⟨bk, 3, none⟩ = some (.bool false) ∧ ((wr.drewN q).setCell ⟨bk, 3, none⟩ (.bool false)).cell? ⟨g1, j, none⟩ = some (.slice A n c) ∧
      ((wr.drewN q).setCell ⟨bk, 3, none⟩ (.bool false)).cell? ⟨g2, j, none⟩ = some (.slice A' n' c') := by
  have h := (hb.drewN q).set_ 3 (.bool false)
  refine ⟨by rw [h.cell]; simp, by rw [h.cell]; simp, by rw [h.cell]; simp, ?_, ?_⟩
  · rw [World.cell?_setCell_other _ _ _ _ (by intro e; injection e with e; exact n1 e.symm)]; exact k1
  · rw [World.cell?_setCell_other _ _ _ _ (by intro e; injection e with e; exact n2 e.symm)]; exact k2
set_option maxRecDepth 100000 in
set_option maxHeartbeats 4000000 in
/-- (*Book).Stays of a book whose lists are as they were: true. -/
theorem stays_any (w : World) (base bk : Nat) (v1 v2 : Value) (vs us : List Kept) (held : Int) (hB : BookAt w base bk 21 22 44 .i32 v1 v2 vs us held) (hl : vs.length ≤ 4000) (hx : ∀ p ∈ vs, p.2.length ≤ 17592186044416) :
    Calls Try.prog 24 #[.pointer (some ⟨bk, 0, none⟩)] w (StaysPost w base bk v1 v2 vs us held) := by
  have hc0 := hB.blk.cell 0
  have hc3 := hB.blk.cell 3
  simp at hc0 hc3
  go_enter Try.func24, Try.ntmps24
  go_wp2
  go_loopw [3] (fun i wr => ∃ (j : Nat), j ≤ vs.length ∧ i = .int .i64 j ∧ BookAt wr base bk 21 22 44 .i32 v1 v2 vs us held ∧ Below base w wr) (fun i _ => vs.length - (intOf i).toNat)
  case atStart => exact ⟨0, Nat.zero_le _, rfl, hB, Below.refl _ _⟩
  case round =>
    obtain ⟨j, hj, rfl, hR, hb⟩ := hrel
    have c0 := hR.blk.cell 0
    have c1 := hR.blk.cell 1
    have c3 := hR.blk.cell 3
    simp at c0 c1 c3
    have f3 := hR.blk.frozen 3
    by_cases hlt : j < vs.length
    · obtain ⟨A, n, c, A', c', xs, h1, h2, hn, hnc, r1, r2, hmem⟩ := hR.pair hlt
      have hx2 : n ≤ 17592186044416 := by rw [← hn]; exact hx _ hmem
      have hul : us.length = vs.length := by have := congrArg List.length hR.same; simpa using this
      obtain ⟨g1, m1, rfl, _, hm1, hg1⟩ := own_at hR.o1 (by omega)
      obtain ⟨g2, m2, rfl, _, hm2, hg2⟩ := own_at hR.o2 (by omega)
      have k1 := hg1 j _ h1
      have k2 := hg2 j _ h2
      have i1 : (j : Int) < (vs.length : Int) := by omega
      have i2 : (j : Int) < (us.length : Int) := by omega
      have i0 : (0 : Int) ≤ (j : Int) := by omega
      have n1 : g1 ≠ bk := fun e => own_ne hR.o1 hR.blk (by decide) (by simp [Value.ownBlock, e])
      have n2 : g2 ≠ bk := fun e => own_ne hR.o2 hR.blk (by decide) (by simp [Value.ownBlock, e])
      have HR := Lib.hid hR
      have HN := Lib.hid hn
      have hxl : n ≤ 17592186044416 := hx2
      clear hg1 hg2 h1 h2 hR hn hul hc0 hc3 hmem
      go_wp2
      go_region_held3 (fun w' => w'.cell? ⟨bk, 0, none⟩ = some (.slice (some ⟨g1, 0, none⟩) vs.length m1) ∧ w'.cell? ⟨bk, 1, none⟩ = some (.slice (some ⟨g2, 0, none⟩) us.length m2) ∧ w'.cell? ⟨bk, 3, none⟩ = some (.bool false) ∧
          w'.cell? ⟨g1, j, none⟩ = some (.slice A n c) ∧ w'.cell? ⟨g2, j, none⟩ = some (.slice A' n c'))
        (first | (go_keep; done) | exact stays_S HR.out.blk n1 n2 k1 k2 _)
        ((go_at_call 17; refine (same_n A A' n c c' xs HN.out _ (by exact r1) (by exact r2) hxl).mono ?_; rintro e w' ⟨rfl, q, rfl⟩))
      go_wp2
      go_roundw
      case rel => exact ⟨j + 1, by omega, by go_num, (HR.out.drewN _).bad (by decide) (by decide), (below_drewN hb _).setCell (p := ⟨bk, 3, none⟩) HR.out.hbase _⟩
      case measure => simp [intOf]; omega
    · have hje : j = vs.length := by omega
      subst hje
      obtain ⟨A1, m1, rfl, _, _⟩ := own_slice hR.o1
      have HR := Lib.hid hR
      clear hR hB hx
      go_wp2
      go_ret
      exact ⟨rfl, HR.out, hb⟩
end Go.Proofs.Yteoclmmooeibhaa.B_rune
