/- All, Attr, of what is not there. No conditions. -/
import Derived.Test.YtofllmofdenadaaGa
import Derived.Test.YtofllmofdenadaaDt
import Derived.Laws.EntriesVeiled
namespace Go.Proofs.Ytofllmofdenadaa
set_option linter.unusedVariables false
open Go.RowKit Go.Proofs.Fm Go.Proofs.Fb Go.Proofs.Fd Go.Proofs.Fc

theorem endOf_no (A : Option Addr) (n c : Nat) (i : Int) (h : ¬ (0 ≤ i ∧ i < (n : Int))) (w : World) :
    Calls Try.prog 43 #[.agg #[.slice A n c], .int .i64 i] w fun e w' => e = .returned (.int .i64 i) ∧ Below w.heap.size w w' := by
  have hb0 : Below w.heap.size w (w.alloc (.cells #[.slice A n c] 24)) := (Below.refl _ _).alloc (Nat.le_refl _) _
  go_enter Try.func43, Try.ntmps43
  go_wp2_with (go_at_call 41; refine (has_no A n c i h _).mono ?_; rintro e w1 ⟨rfl, hb1⟩; have HB1 := Lib.hid (hb0.trans (hb1.mono (by simp))); clear hb1)
  go_ret
  exact ⟨rfl, HB1.out⟩
/-- what All hands back: a function that has the two numbers in cells of its own -/
def AllOut (f e' : Int) (w : World) (e : Ending) (w' : World) : Prop := ∃ B3 B5 : Nat, e = .returned (.func (.func 44) #[] #[.pointer (some ⟨B3, 0, none⟩), .pointer (some ⟨B5, 0, none⟩)]) ∧ w.heap.size ≤ B3 ∧ w.heap.size ≤ B5 ∧ Bk w' B3 3 #[.int .i64 f] ∧ Bk w' B5 3 #[.int .i64 e'] ∧ Below w.heap.size w w'
theorem all_no (A : Option Addr) (n c : Nat) (i : Int) (h : ¬ (0 ≤ i ∧ i < (n : Int))) (w : World) : Calls Try.prog 13 #[.agg #[.slice A n c], .int .i64 i] w (AllOut i i w) := by
  obtain ⟨W0, hW0⟩ : ∃ W, (w.alloc (.cells #[.slice A n c] 24)).alloc (.cells #[.int .i64 i] 3) = W := ⟨_, rfl⟩
  have hb0 : Below w.heap.size w W0 := hW0 ▸ ((Below.refl _ w).alloc (Nat.le_refl _) _).alloc (by simp) _
  have hk1 : Bk W0 w.heap.size 24 #[.slice A n c] := hW0 ▸ (Bk.new w 24 _).alloc _
  have hk2 : Bk W0 (w.heap.size + 1) 3 #[.int .i64 i] := hW0 ▸ (by simpa using Bk.new (w.alloc (.cells #[.slice A n c] 24)) 3 #[.int .i64 i])
  have z1 : W0.cell? ⟨w.heap.size, 0, none⟩ = some (.slice A n c) := hk1.cell 0
  have z2 : W0.cell? ⟨w.heap.size + 1, 0, none⟩ = some (.int .i64 i) := hk2.cell 0
  have l1 := hk1.lt
  have l2 := hk2.lt
  have HB0 := Lib.hid hb0
  have HK2 := Lib.hid hk2
  have HW0 := Lib.hid hW0
  clear hb0 hk1 hk2 hW0
  go_enter Try.func13, Try.ntmps13
  go_upto_region 1 with fail
  rw [HW0.out]
  clear HW0
  go_wp2_with (go_at_call 43; refine (endOf_no A n c i h _).mono ?_; rintro e w1 ⟨rfl, hb1⟩; have HB1 := Lib.hid hb1; clear hb1)
  go_ret
  refine ⟨w.heap.size + 1, w1.heap.size, rfl, by omega, by have := HB0.out.size; have := HB1.out.size; omega, (HK2.out.below HB1.out HK2.out.lt).alloc _, Bk.new w1 3 _, (HB0.out.trans (HB1.out.mono (by have := HB0.out.size; omega))).alloc (by have := HB0.out.size; have := HB1.out.size; omega) _⟩
/-- the attribute of a name: what Attr answers -/
def attrE (l : List Nd) (i : Int) (nm : Str) : Str × Bool := if h : 0 ≤ i ∧ i < (l.length : Int) then (if findI (l[i.toNat]'(by omega)).attrs nm < 0 then ([], false) else (((l[i.toNat]'(by omega)).attrs.getD (findI (l[i.toNat]'(by omega)).attrs nm).toNat ([], [])).2, true)) else ([], false)
theorem attr_no (A : Option Addr) (n c : Nat) (l : List Nd) (hl : l.length = n) (hn : n ≤ 4398046511104) (i : Nat) (hi : i < n) (nm : Str) (hno : (l[i]'(by omega)).attrs = []) (w : World) (ha : NRow w A l) :
    Calls Try.prog 12 #[.agg #[.slice A n c], .int .i64 (i : Int), str nm] w fun e w' => e = .returned (.tuple #[str [], .bool false]) ∧ Below w.heap.size w w' := by
  have hil : i < l.length := by omega
  have hb0 : Below w.heap.size w (w.alloc (.cells #[.slice A n c] 24)) := (Below.refl _ _).alloc (Nat.le_refl _) _
  have HB0 := Lib.hid hb0
  have HK := Lib.hid (Bk.new w 24 #[.slice A n c])
  have HA := Lib.hid (ha.below hb0 (Nat.le_refl _))
  have HNO := Lib.hid hno
  clear hb0 ha hno
  obtain ⟨b, off, rfl, -⟩ := HA.out.at_ hil
  dsimp only [str]
  go_enter Try.func12, Try.ntmps12
  go_upto_region 3 with (go_at_call 41; refine (has_yes _ n c i (by omega) (by omega) _).mono ?_; rintro e w1 ⟨rfl, hb1⟩; have HB1 := Lib.hid hb1; clear hb1)
  have hk1 := HK.out.below HB1.out HK.out.lt
  have z0 : w1.cell? ⟨w.heap.size, 0, none⟩ = some (.slice (some ⟨b, off, none⟩) n c) := hk1.cell 0
  have lz := hk1.lt
  obtain ⟨b2, o2, he2, hat⟩ := (HA.out.below HB1.out (Nat.le_refl _)).at_ hil
  obtain ⟨rfl, rfl⟩ : b2 = b ∧ o2 = off := by injection he2 with he2; injection he2 with h1 h2; exact ⟨h1.symm, h2.symm⟩
  obtain ⟨v, c3, hav⟩ := hat.c3
  rw [HNO.out] at hav
  obtain ⟨A1, d1, rfl, har, -, -, -⟩ := hav.ex
  have lb := hat.lt
  have i1 : (i : Int) < (n : Int) := by omega
  have hfn : findI [] nm = -1 := rfl
  have HF := Lib.hid (fun W => find_any A1 0 d1 [] nm rfl (by omega) W (ARow.nil W A1))
  rw [hfn] at HF
  dsimp only [str] at HF
  have hz := HB0.out.size
  have HBB := Lib.hid (HB0.out.trans (HB1.out.mono hz))
  clear hk1 hat hav har he2
  go_wp2_with (go_at_call 42; refine (HF.out _).mono ?_; rintro e w2 ⟨rfl, hb2⟩; have HB2 := Lib.hid (HBB.out.trans (hb2.mono HBB.out.size)); clear hb2)
  exact bodyPost_ret (v := .tuple #[.string ⟨#[]⟩, .bool false]) (by simp [results, Try.results12, go_sem]) rfl ⟨rfl, HB2.out⟩
end Go.Proofs.Ytofllmofdenadaa
