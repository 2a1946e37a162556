/- Is there an attribute of a name: dom's find, with its closure. No conditions. -/
import Derived.Test.YtdogcnmepaemjaaDoorDr
import Derived.Test.YtdogcnmepaemjaaDoorBase
import Derived.Test.YtdogcnmepaemjaaDoorCls
import Derived.Test.YtdogcnmepaemjaaDoorBlk
import Derived.Deep.LoopGhost
import Derived.Deep.DeepCutAuto
import Derived.Laws.ResultCell
namespace Go.Proofs.YtdogcnmepaemjaaDoor
set_option linter.unusedVariables false
open Go.RowKit Go.Proofs.Fm Go.Proofs.Fb Go.Proofs.Fd Go.Proofs.Fc

/-- the place of the first attribute of a name -/
def findI (al : List Att) (nm : Str) : Int := match al.findIdx? (fun a => a.1 == nm) with | some i => (i : Int) | none => -1
set_option maxHeartbeats 1000000 in
theorem find1_any (a b nm : Str) (bx : Nat) (w : World) (hc : w.cell? ⟨bx, 0, none⟩ = some (str nm)) :
    Calls Tryd.prog 57 #[.agg #[str a, str b], .pointer (some ⟨bx, 0, none⟩)] w fun e w' => e = .returned (.bool (a == nm)) ∧ Below w.heap.size w w' := by
  have hlt : bx < w.heap.size := World.block_lt_of_cell? _ _ hc
  dsimp only [str] at hc ⊢
  go_enter Tryd.func57, Tryd.ntmps57
  go_wp2
  go_ret
  exact ⟨rfl, (Below.refl _ _).alloc (Nat.le_refl _) _⟩
theorem find_some {al : List Att} {nm : Str} {k : Nat} (hk : k < al.length) (hno : ((al.take k).any fun b => b.1 == nm) = false) (h : ((al[k]'hk).1 == nm) = true) : findI al nm = (k : Int) := by
  unfold findI
  have : al.findIdx? (fun a => a.1 == nm) = some k := by
    rw [List.findIdx?_eq_some_iff_getElem]
    refine ⟨hk, h, fun j hj => ?_⟩
    have h1 := List.any_eq_false.1 hno (al[j]) (by rw [List.mem_take_iff_getElem]; exact ⟨j, by omega, rfl⟩)
    simpa using h1
  rw [this]
theorem find_none {al : List Att} {nm : Str} (hno : (al.any fun b => b.1 == nm) = false) : findI al nm = -1 := by
  unfold findI
  have : al.findIdx? (fun a => a.1 == nm) = none := by
    rw [List.findIdx?_eq_none_iff]
    intro x hx
    simpa using List.any_eq_false.1 hno x hx
  rw [this]
theorem any_take_succ {al : List Att} {nm : Str} {k : Nat} (hk : k < al.length) (hno : ((al.take k).any fun b => b.1 == nm) = false) (h : ((al[k]'hk).1 == nm) = false) : ((al.take (k + 1)).any fun b => b.1 == nm) = false := by
  rw [List.take_succ_eq_append_getElem hk, List.any_append, hno]
  simp [h]
set_option maxHeartbeats 1000000 in
theorem index_any (A : Option Addr) (n c : Nat) (al : List Att) (nm : Str) (hn : al.length = n) (hx : n ≤ 4398046511104) (bx : Nat) (w : World) (ha : ARow w A al) (hc : w.cell? ⟨bx, 0, none⟩ = some (str nm)) :
    Calls Tryd.prog 50 #[.slice A n c, .func (Fn.func 57) #[] #[.pointer (some ⟨bx, 0, none⟩)]] w fun e w' => e = .returned (.int .i64 (findI al nm)) ∧ Below w.heap.size w w' := by
  have hlt : bx < w.heap.size := World.block_lt_of_cell? _ _ hc
  go_enter Tryd.func50, Tryd.ntmps50
  go_wp2
  go_loopg [8] n (fun gk i wr => ∃ k, k + gk = n ∧ i = .int .i64 (k : Int) ∧ Below w.heap.size w wr ∧ Hid (((al.take k).any fun b => b.1 == nm) = false))
  case atStart => exact ⟨0, by omega, rfl, Below.refl _ _, Lib.hid rfl⟩
  case round =>
    obtain ⟨k, hk, rfl, hb, hr⟩ := hrel
    by_cases hlk : k < n
    · have hka : k < al.length := by omega
      have hrow := ha.below hb (Nat.le_refl _)
      obtain ⟨b, off, rfl, hcc⟩ := hrow (by intro e; subst e; simp at hka)
      obtain ⟨c1, c2⟩ := hcc k hka
      have i1 : (k : Int) < (n : Int) := by omega
      have hz := hb.size
      have HC := Lib.hid ((hb.cell (p := ⟨bx, 0, none⟩) hlt).trans hc)
      have HB := Lib.hid hb
      obtain ⟨x, hx⟩ : ∃ x, (al[k]'hka) = x := ⟨_, rfl⟩
      rw [hx] at c1 c2
      have HX := Lib.hid hx
      clear hcc hrow hx hb ha hc
      have HF := Lib.hid (find1_any x.1 x.2 nm bx wr HC.out)
      rcases hq : (x.1 == nm) with _ | _
      · have HQ := Lib.hid hq
        rw [hq] at HF
        clear hq
        dsimp only [str] at c1 c2 HF
        go_wp2_with (go_at_call 57; refine (HF.out).mono ?_; rintro e w1 ⟨rfl, hb1⟩; have HB1 := Lib.hid (HB.out.trans (hb1.mono hz)); clear hb1)
        go_roundg (gk - 1)
        case measure => omega
        case rel => exact ⟨k + 1, by omega, by go_num, HB1.out, Lib.hid (any_take_succ hka hr.out (by rw [HX.out]; exact HQ.out))⟩
      · have HQ := Lib.hid hq
        rw [hq] at HF
        clear hq
        dsimp only [str] at c1 c2 HF
        go_wp2_with (go_at_call 57; refine (HF.out).mono ?_; rintro e w1 ⟨rfl, hb1⟩; have HB1 := Lib.hid (HB.out.trans (hb1.mono hz)); clear hb1)
        go_ret
        exact ⟨by rw [find_some hka hr.out (by rw [HX.out]; exact HQ.out)]; rfl, HB1.out⟩
    · obtain rfl : k = n := by omega
      go_wp2
      go_ret
      refine ⟨?_, hb⟩
      have := hr.out
      rw [List.take_of_length_le (by omega)] at this
      rw [find_none this]; rfl
set_option maxHeartbeats 1000000 in
theorem find_any (A : Option Addr) (n c : Nat) (al : List Att) (nm : Str) (hn : al.length = n) (hx : n ≤ 4398046511104) (w : World) (ha : ARow w A al) :
    Calls Tryd.prog 55 #[.slice A n c, str nm] w fun e w' => e = .returned (.int .i64 (findI al nm)) ∧ Below w.heap.size w w' := by
  have hb0 : Below w.heap.size w (w.alloc (.cells #[str nm] 9)) := (Below.refl _ _).alloc (Nat.le_refl _) _
  have HF := Lib.hid (index_any A n c al nm hn hx w.heap.size (w.alloc (.cells #[str nm] 9)) (ha.below hb0 (Nat.le_refl _)) (by rw [(Bk.new w 9 #[str nm]).cell 0]; rfl))
  clear ha
  dsimp only [str] at hb0 HF ⊢
  go_enter Tryd.func55, Tryd.ntmps55
  go_wp2_with (go_at_call 50; refine (HF.out).mono ?_; rintro e w1 ⟨rfl, hb1⟩; have HB1 := Lib.hid (hb0.trans (hb1.mono (by simp))); clear hb1)
  go_ret
  exact ⟨rfl, HB1.out⟩
end Go.Proofs.YtdogcnmepaemjaaDoor
